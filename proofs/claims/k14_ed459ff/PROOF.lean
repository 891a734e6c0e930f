import PyProof.Rows.All
import Wide.All
import OpenK.AllK
import Wide.FinOn
import Lean
import PyProof.EqAt
import PyProof.EqKinds
import PyProof.TupleCall
import PyProof.NeKinds
import PyProof.IsInstanceH
import PyProof.IsiNone
import PyProof.EnumMake
import PyProof.Draws
import PyProof.ZipIter
import PyProof.ListRange
import PyProof.AttrMissHeap
import KE.KDictOf
import PySem.Challenge.RW_followmost_k14_whole_more_ones_never_few
set_option Elab.async false
set_option linter.all false
set_option maxRecDepth 100000
namespace L2
open PySem PySem.Spec PyProof.Rows
abbrev Key:=Sum Int Str
def o4:Key→Value→Bool
  | .inl k,v=>Value.isInt k v
  | .inr x,v=>Value.isStrOf x v
def FQ (w:World):Key→Int
  | .inl k=>hashInt k
  | .inr x=>hashStr w x
theorem bS:∀ {k:Key} {v:Value},o4 k v=true→(∃ i t,k=Sum.inl i∧v=Value.int i t)∨(∃ x t,k=Sum.inr x∧v=Value.str x t)
  | .inl i,v,h=>by
    obtain⟨t,e⟩:=Value.isInt_shape (k:=i) (v:=v) h
    exact .inl ⟨i,t,rfl,e⟩
  | .inr x,v,h=>by
    obtain⟨t,e⟩:=Value.isStrOf_shape (x:=x) (v:=v) h
    exact .inr ⟨x,t,rfl,e⟩
theorem xR (i:Int)(t:Tok):o4 (.inl i) (.int i t)=true:=by simp [o4,Value.isInt]
theorem xS (x:Str)(t:Tok):o4 (.inr x) (.str x t)=true:=by simp [o4,Value.isStrOf]
theorem Db (a b:Int):decide ((Sum.inl a:Key)=Sum.inl b)=(a == b):=by
  by_cases e:a=b
  · subst e;simp
  · have h : ¬ (Sum.inl a:Key)=Sum.inl b:=fun q=>e (Sum.inl.inj q)
    rw [decide_eq_false h]
    exact (beq_eq_false_iff_ne.mpr e).symm
theorem Dc (a b:Str):decide ((Sum.inr a:Key)=Sum.inr b)=decide (a=b):=by
  by_cases e:a=b
  · subst e;simp
  · have h : ¬ (Sum.inr a:Key)=Sum.inr b:=fun q=>e (Sum.inr.inj q)
    rw [decide_eq_false h,decide_eq_false e]
theorem Dd (a:Int)(b:Str):decide ((Sum.inl a:Key)=Sum.inr b)=false:=decide_eq_false (fun q=>nomatch q)
theorem De (a:Str)(b:Int):decide ((Sum.inr a:Key)=Sum.inl b)=false:=decide_eq_false (fun q=>nomatch q)
def bB (prog:Program) (w:World):PySem.KeyKind prog w Key where
  is:=o4
  hash:=FQ w
  inj:=fun v a b ha hb=>by
    rcases bS ha with ⟨i,t,rfl,rfl⟩|⟨x,t,rfl,rfl⟩
    · rcases bS hb with ⟨j,u,rfl,e⟩|⟨y,u,rfl,e⟩
      · injection e with e1 _;rw [e1]
      · exact nomatch e
    · rcases bS hb with ⟨j,u,rfl,e⟩|⟨y,u,rfl,e⟩
      · exact nomatch e
      · injection e with e1 _;rw [e1]
  byValue:=fun k v h=>by
    rcases bS h with ⟨i,t,rfl,rfl⟩|⟨x,t,rfl,rfl⟩<;>rfl
  pyHash:=fun hv h=>by
    rcases bS hv with ⟨i,t,rfl,rfl⟩|⟨x,t,rfl,rfl⟩
    · exact wpAny_pyHash_int h
    · exact wpAny_pyHash_str h
  eqBool:=fun hu hv h=>by
    rcases bS hu with ⟨i,t,rfl,rfl⟩|⟨x,t,rfl,rfl⟩
    · rcases bS hv with ⟨j,u,rfl,rfl⟩|⟨y,u,rfl,rfl⟩
      · rw [Db] at h;exact wpAny_eqBool_int h
      · rw [Dd] at h;exact SeqAt.EqAt.int_str i t y u _ _ _ _ h
    · rcases bS hv with ⟨j,u,rfl,rfl⟩|⟨y,u,rfl,rfl⟩
      · rw [De] at h;exact SeqAt.EqAt.str_int x t j u _ _ _ _ h
      · rw [Dc] at h;exact wpAny_eqBool_str h
  «strs» := fun k x t v h=>by
    rcases bS h with ⟨i,u,rfl,e⟩|⟨y,u,rfl,e⟩
    · exact nomatch e
    · injection e with e1 _
      subst e1
      cases v<;>rfl
theorem sx (prog:Program)(w:World)(i:Int)(t:Tok):(bB prog w).is (.inl i) (.int i t)=true:=xR i t
theorem sA (prog:Program)(w:World)(x:Str)(t:Tok):(bB prog w).is (.inr x) (.str x t)=true:=xS x t
end L2
namespace L2
open PySem PySem.Spec PyProof.Rows
inductive V where
  | non|bl (b:Bool)|int (i:Int)|str (x:Str)|byt (b:Array UInt8)|flt (b:UInt64)|ref (a:Addr)|ty (n:String)
  deriving DecidableEq
def bh:V→Value→Prop
  | .non,u=>u=Value.none
  | .bl b,u=>u=Value.bool b
  | .int i,u=>∃ t,u=Value.int i t
  | .str x,u=>∃ t,u=Value.str x t
  | .byt b,u=>∃ t,u=Value.bytes b t
  | .flt b,u=>∃ t,u=Value.float b t
  | .ref a,u=>u=Value.ref a
  | .ty n,u=>u=Value.type n
abbrev aT:List V→List Value→Prop:=Paired bh
theorem aT.length {xs:List V}{us:List Value}(r:aT xs us):xs.length=us.length:=Paired.length r
theorem aT.get:∀ {xs:List V} {us:List Value} {i:Nat} {x:V},aT xs us→xs[i]? = some x → ∃ u,us[i]? = some u∧bh x u
  | _,_,_,_,.nil,e=>by simp at e
  | _,_,0,_,.cons r _,e=>by simp at e;subst e;exact⟨_,rfl,r⟩
  | _,_,i + 1,x,.cons _ t,e=>by
    obtain⟨u,h1,h2⟩:=aT.get (i:=i) (x:=x) t (by simpa using e)
    exact⟨u,by simpa using h1,h2⟩
theorem aT.set {x:V}{u:Value}(r:bh x u):∀ {xs:List V} {us:List Value} (i:Nat),aT xs us→aT (xs.set i x) (us.set i u)
  | _,_,_,.nil=>.nil
  | _,_,0,.cons _ t=>.cons r t
  | _,_,i + 1,.cons q t=>.cons q (aT.set r i t)
theorem aT.append:∀ {xs ys:List V} {us ws:List Value},aT xs us→aT ys ws→aT (xs++ys) (us++ws)
  | _,_,_,_,.nil,s=>s
  | _,_,_,_,.cons r t,s=>.cons r (aT.append t s)
def sC:Option V→Option Value→Prop
  | some v,some u=>bh v u
  | none,none=>True
  | _,_=>False
def KV {κ : Type}:List (κ × V)→List (κ × Value)→Prop:=Paired fun (p : κ × V) (q : κ × Value)=>p.1=q.1∧bh p.2 q.2
def kV:Key→V
  | .inl i=>.int i
  | .inr x=>.str x
inductive HO where
    | lst (xs:List V)
    | tup (xs:List V)
    | dK (kvs:List (Key × V))|dT (kvs:List (List Key × V))
    | set (S:Int→Bool) (n:Nat)
    | ins (C dx:Addr) (fs:List (Str × V))
    | own (x:Addr)
    | xd (fs:List (Str × V))
    | met (f x:Addr)
    | rng (lo hi:Int)
    | frz (o:Obj) (u:HO)
    | tbl (ps:Array Value)
    | ext (φ : Heap→Prop)
abbrev Hp:=Addr→Option HO
def upd (H:Hp) (a:Addr) (o:HO):Hp:=fun b=>if b=a then some o else H b
theorem aS {H:Hp}{a:Addr}{o:HO}:upd H a o a=some o:=by unfold upd;rw [if_pos rfl]
theorem aq {H:Hp}{a b:Addr}{o:HO}(h:b≠a):upd H a o b=H b:=by unfold upd;rw [if_neg h]
theorem EL {H:Hp}{a b:Addr}{o u:HO}(h:H a=some o)(h':H b=some u)(d:o≠u):a≠b:=by
  intro e;subst e;rw [h] at h';exact d (Option.some.inj h')
theorem aE {H:Hp}{a b:Addr}{o:HO}(h:H a=some o)(h':H b=none):a≠b:=by
  intro e;subst e;rw [h] at h';cases h'
def lx (h:Heap) (a:Addr) (items:Array Value):Prop:=IsTup h a items ∧ ∃ o,h.get? a=some o∧o.dict=none
theorem lx.new (h:Heap) (items:Array Value):lx (h.push { cls:=.type "tuple",data:=.seq items }) h.objs.size items:=⟨IsTup.new h items,_,Heap.get?_push_size _ rfl,rfl⟩
section
variable (P:Program) (w:World)
def cZ (H:Hp) (h:Heap) (a:Addr):HO→Prop
  | .lst xs=>xs.length≤sizeLine ∧ ∃ (its:List Value) (n:Nat),aT xs its∧h.get? a=some { cls:=.type "list",data:=.seq its.toArray n }
  | .tup xs=>xs.length≤sizeLine ∧ ∃ its:List Value,aT xs its∧lx h a its.toArray
  | .dK kvs=>kvs.length≤sizeLine∧(a == sysModules)=false ∧ ∃ vs,KV kvs vs∧h.DictOf (bB P w) a vs
  | .dT kvs=>kvs.length≤sizeLine∧(a == sysModules)=false ∧ ∃ xs:List (List Key × Addr × Value),
      Paired (fun (p:List Key × V) (q:List Key × Addr × Value)=>p.1=q.1∧H q.2.1=some (.tup (p.1.map kV))∧bh p.2 q.2.2) kvs xs ∧
      ∃ o es ep,h.get? a=some o∧o.ExactDict∧o.data=.dict es ep∧es.toList=xs.map (entryOfKey (tupleKind (bB P w)))∧(xs.map (·.1)).Nodup
  | .set S n=>h.SetOf (intKind P w) a S n
  | .ins C dx fs=>H dx=some (.own a)∧fs.length≤1000∧dx≠a∧h.get? a=some (PySem.W.instObj C dx) ∧
      ∃ mA,h.Ns1 dx mA∧(∀ f,sC (fs.lookup f) (mA f))∧PySem.Within mA (fs.map (·.1))
  | .own _=>∃ o,h.get? a=some o
  | .xd fs=>∃ mA,h.Ns1 a mA ∧ ∀ f,sC (fs.lookup f) (mA f)
  | .rng lo hi=>∃ t u v,h.get? a=some { cls:=.type "range",data:=.fields #[.int lo t,.int hi u,.int 1 v] }
  | .frz o u=>h.get? a=some o∧cZ H h a u
  | .tbl ps=>h.get? a=some { cls:=.none,data:=.fields ps }
  | .met f x=>h.get? a=some (PySem.W.methodObj (.ref f) (.ref x))
  | .ext φ => φ h∧(∃ o,h.get? a=some o) ∧ ∀ h1 h2:Heap,φ h1→(∀ o,h1.get? a=some o→h2.get? a=some o) → φ h2
def HOk (H:Hp) (h:Heap):Prop:=∀ a o,H a=some o→cZ P w H h a o
end
section
variable {P:Program} {w:World} {H H':Hp} {h h':Heap} {a:Addr} {o:HO}
theorem cZ.lt (x:cZ P w H h a o):a < h.objs.size:=by
  cases o with
  | lst xs=>obtain⟨_,_,_,_,e⟩:=x;exact Heap.lt_size e
  | tup xs=>obtain⟨_,_,_,p⟩:=x;exact p.1.lt
  | dK kvs=>obtain⟨_,_,_,_,o,_,_,e,_⟩:=x;exact Heap.lt_size e
  | dT kvs=>obtain⟨_,_,_,_,o,_,_,e,_⟩:=x;exact Heap.lt_size e
  | set S n=>obtain⟨o,_,_,_,e,_⟩:=x;exact Heap.lt_size e
  | ins C dx fs=>obtain⟨_,_,_,e,_⟩:=x;exact Heap.lt_size e
  | own y=>obtain⟨_,e⟩:=x;exact Heap.lt_size e
  | xd fs=>obtain⟨_,⟨_,_,_,e,_⟩,_⟩:=x;exact Heap.lt_size e
  | rng lo hi=>obtain⟨_,_,_,e⟩:=x;exact Heap.lt_size e
  | frz ob u=>obtain⟨e,_⟩:=x;exact Heap.lt_size e
  | tbl ps=>exact Heap.lt_size (show h.get? a=some _ from x)
  | met f y=>exact Heap.lt_size (show h.get? a=some _ from x)
  | ext φ => obtain⟨_,⟨_,e⟩,_⟩:=x;exact Heap.lt_size e
theorem Paired.mapP {α β : Type}{F G : α → β → Prop}:∀ {l₁ : List α} {l₂ : List β},Paired F l₁ l₂ → (∀ a b,F a b→G a b)→Paired G l₁ l₂
  | _,_,.nil,_=>.nil
  | _,_,.cons r t,f=>.cons (f _ _ r) (Paired.mapP t f)
theorem cZ.stay (x:cZ P w H h a o)(k:∀ b u,(b=a∨H b=some (.own a))→h.get? b=some u→h'.get? b=some u)
    (ho:∀ b,H b=some (.own a)→H' b=some (.own a)) (ht:∀ b xs,H b=some (.tup xs)→H' b=some (.tup xs)):cZ P w H' h' a o:=by
  induction o with
  | lst xs=>obtain⟨z,its,n,r,e⟩:=x;exact⟨z,its,n,r,k _ _ (.inl rfl) e⟩
  | tup xs=>obtain⟨z,its,r,⟨ob,e,c⟩,o2,e2,c2⟩:=x;exact⟨z,its,r,⟨ob,k _ _ (.inl rfl) e,c⟩,o2,k _ _ (.inl rfl) e2,c2⟩
  | dK kvs=>obtain⟨z,y,vs,r,ob,es,ep,e,c⟩:=x;exact⟨z,y,vs,r,ob,es,ep,k _ _ (.inl rfl) e,c⟩
  | dT kvs =>
    obtain⟨z,y,xs,r,ob,es,ep,e,c⟩:=x
    exact⟨z,y,xs,Paired.mapP r fun p q z=>⟨z.1,ht _ _ z.2.1,z.2.2⟩,ob,es,ep,k _ _ (.inl rfl) e,c⟩
  | set S n=>obtain⟨ob,es,ep,t,e,c⟩:=x;exact⟨ob,es,ep,t,k _ _ (.inl rfl) e,c⟩
  | ins C dx fs =>
    obtain⟨d,z,ne,e,mA,⟨od,es,ep,e2,c⟩,r⟩:=x
    exact⟨ho _ d,z,ne,k _ _ (.inl rfl) e,mA,⟨od,es,ep,k _ _ (.inr d) e2,c⟩,r⟩
  | own y=>obtain⟨ob,e⟩:=x;exact⟨ob,k _ _ (.inl rfl) e⟩
  | xd fs=>obtain⟨mA,⟨od,es,ep,e,c⟩,r⟩:=x;exact⟨mA,⟨od,es,ep,k _ _ (.inl rfl) e,c⟩,r⟩
  | rng lo hi=>obtain⟨t,u,v,e⟩:=x;exact⟨t,u,v,k _ _ (.inl rfl) e⟩
  | frz ob u ih=>obtain⟨e,q⟩:=x;exact⟨k _ _ (.inl rfl) e,ih q⟩
  | tbl ps =>
    have e:h.get? a=some { cls:=.none,data:=.fields ps }:=x
    show h'.get? a=some { cls:=.none,data:=.fields ps }
    exact k a _ (.inl rfl) e
  | met f y =>
    have e:h.get? a=some (PySem.W.methodObj (.ref f) (.ref y)):=x
    show h'.get? a=some (PySem.W.methodObj (.ref f) (.ref y))
    exact k a _ (.inl rfl) e
  | ext φ => obtain⟨p,⟨o,e⟩,st⟩:=x;exact⟨st _ _ p fun o q=>k _ _ (.inl rfl) q,⟨o,k _ _ (.inl rfl) e⟩,st⟩
theorem HOk.lt (x:HOk P w H h)(e:H a=some o):a < h.objs.size:=(x a o e).lt
theorem HOk.fresh (x:HOk P w H h)(e:h.objs.size≤a):H a=none:=by
  cases q:H a with
  | none=>rfl
  | some u=>exact absurd (Nat.lt_of_lt_of_le (x.lt q) e) (Nat.lt_irrefl _)
theorem HOk.kept (x:HOk P w H h)(k:∀ b u,h.get? b=some u→h'.get? b=some u):HOk P w H h':=fun a o e =>
  (x a o e).stay (fun b u _ q=>k b u q) (fun _ q=>q) fun _ _ q=>q
theorem HOk.laid (x:HOk P w H h)(k:∀ b u,h.get? b=some u→h'.get? b=some u)(hp:h.objs.size≤a)(new:cZ P w (upd H a o) h' a o):HOk P w (upd H a o) h':=fun b u e=>by
  have hn:=x.fresh hp
  by_cases hb:b=a
  · subst hb;rw [aS] at e;cases e;exact new
  · rw [aq hb] at e
    exact (x b u e).stay (fun c v _ q=>k c v q) (fun c q=>by rw [aq (aE q hn)];exact q) fun c xs q=>by rw [aq (aE q hn)];exact q
end
def Rd (H:Hp) (a:Addr) (u:HO):Prop:=H a=some u ∨ ∃ o,H a=some (.frz o u)
theorem Rd.ok {P:Program}{w:World}{H:Hp}{h:Heap}{a:Addr}{u:HO}(r:Rd H a u)(x:HOk P w H h):cZ P w H h a u:=by
  rcases r with r|⟨o,r⟩
  · exact x a u r
  · obtain⟨_,q⟩:=x a _ r
    exact q
def Mut:Option HO→Prop
  | some (.lst _)=>True
  | some (.dK _)=>True
  | some (.dT _)=>True
  | some (.set _ _)=>True
  | some (.ins _ _ _)=>True
  | some (.ext _)=>True
  | _=>False
section
variable {P:Program} {w:World} {H:Hp} {h h':Heap} {x e:Addr} {o':HO}
theorem HOk.write (ok:HOk P w H h)(mu:Mut (H x))(he:e=x∨H e=some (.own x))(k:∀ b u,b≠e→h.get? b=some u→h'.get? b=some u)(heo:∃ u,h'.get? e=some u)
    (new:cZ P w (upd H x o') h' x o'):HOk P w (upd H x o') h':=fun b u q=>by
  have nown:∀ c y,H c=some (.own y)→c≠x:=fun c y r z=>by subst z;rw [r] at mu;exact mu
  have ntup:∀ c xs,H c=some (.tup xs)→c≠x:=fun c xs r z=>by subst z;rw [r] at mu;exact mu
  by_cases hb:b=x
  · subst hb;rw [aS] at q;cases q;exact new
  · rw [aq hb] at q
    by_cases hbe:b=e
    · have q':H b=some (.own x):=by
        rcases he with z|z
        · exact absurd (hbe.trans z) hb
        · rw [hbe];exact z
      rw [q] at q';cases q'
      obtain⟨v,hv⟩:=heo
      exact⟨v,by rw [hbe];exact hv⟩
    · refine (ok b u q).stay (fun c v hc r=>k c v ?_ r) (fun c r=>by rw [aq (nown c b r)];exact r) fun c xs r=>by rw [aq (ntup c xs r)];exact r
      rcases hc with rfl|hc
      · exact hbe
      · rintro rfl
        rcases he with z|z
        · exact nown c b hc z
        · rw [hc] at z;cases z;exact hb rfl
end
structure Un (fs ex:List Addr) (H H':Hp) (h h':Heap):Prop where
  keep:∀ b o,h.get? b=some o→H b=none→b∉fs→b∉ex→h'.get? b=some o
  slot:∀ b o,h.get? b=some o→H b=none→b∈fs→b∉ex → ∃ sl,h'.get? b=some { o with slots:=sl }
  free:∀ b o,h.get? b=some o→H b=none→b∉ex→H' b=none
  there:∀ b o,h.get? b=some o→b∉ex → ∃ o',h'.get? b=some o'
  tups:∀ b xs,H b=some (.tup xs)→H' b=some (.tup xs)
  frzs:∀ b o u,H b=some (.frz o u)→H' b=some (.frz o u)
  tbls:∀ b ps,H b=some (.tbl ps) → ∃ more,H' b=some (.tbl (ps++more))
section
variable {fs fs' ex ex':List Addr} {H H1 H2:Hp} {h h1 h2 h':Heap} {a x e:Addr} {o:HO}
theorem Un.any (u:Un fs ex H H1 h h1){b:Addr}{ob:Obj}(q:h.get? b=some ob)(n:H b=none)(hx:b∉ex):∃ sl,h1.get? b=some { ob with slots:=sl }:=by
  by_cases hb:b∈fs
  · exact u.slot b ob q n hb hx
  · exact⟨ob.slots,u.keep b ob q n hb hx⟩
theorem Un.kept (k:∀ b u,h.get? b=some u→h'.get? b=some u):Un fs ex H H h h' :=
  ⟨fun b ob q _ _ _=>k b ob q,fun b ob q _ _ _=>⟨ob.slots,k b ob q⟩,fun _ _ _ n _=>n,fun b ob q _=>⟨ob,k b ob q⟩,fun _ _ q=>q,fun _ _ _ q=>q,fun _ ps q=>⟨#[],by rw [q];simp⟩⟩
theorem Un.refl:Un fs ex H H h h:=Un.kept fun _ _ q=>q
theorem Un.laid (k:∀ b u,h.get? b=some u→h'.get? b=some u)(hp:h.objs.size≤a)(hn:H a=none):Un fs ex H (upd H a o) h h' where
  keep:=fun b u q _ _ _=>k b u q
  slot:=fun b u q _ _ _=>⟨u.slots,k b u q⟩
  free:=fun b u q n _=>by rw [aq (Nat.ne_of_lt (Nat.lt_of_lt_of_le (Heap.lt_size q) hp))];exact n
  there:=fun b u q _=>⟨u,k b u q⟩
  tups:=fun b xs q=>by rw [aq (aE q hn)];exact q
  frzs:=fun b u xs q=>by rw [aq (aE q hn)];exact q
  tbls:=fun b ps q=>⟨#[],by rw [aq (aE q hn),q];simp⟩
theorem Un.write (mu:Mut (H x))(he:e=x∨H e=some (.own x))(k:∀ b u,b≠e→h.get? b=some u→h'.get? b=some u)(heo:∃ u,h'.get? e=some u):Un fs ex H (upd H x o) h h':=by
  have hx:∀ b,H b=none→b≠x:=fun b n z=>by subst z;rw [n] at mu;exact mu
  have hb:∀ b,H b=none→b≠e:=fun b n z=>by
    subst z
    rcases he with r|r
    · exact hx b n r
    · rw [n] at r;cases r
  have hm:∀ b u,H b=some u → ¬ Mut (some u)→b≠x:=fun b u q nm z=>by subst z;rw [q] at mu;exact nm mu
  refine⟨fun b u q n _ _=>k b u (hb b n) q,fun b u q n _ _=>⟨u.slots,k b u (hb b n) q⟩,fun b u q n _=>by rw [aq (hx b n)];exact n,fun b u q _ => ?_,
    fun b xs q=>by rw [aq (hm b _ q fun z=>z)];exact q,fun b u xs q=>by rw [aq (hm b _ q fun z=>z)];exact q,fun b ps q=>⟨#[],by rw [aq (hm b _ q fun z=>z),q];simp⟩⟩
  by_cases hbe:b=e
  · subst hbe;exact heo
  · exact⟨u,k b u hbe q⟩
end
def trk (h:Heap) (H:Hp):List Addr:=(List.range h.objs.size).filter fun a=>(H a).isSome
def qc (h:Heap) (H:Hp):Heap:=PySem.W.hideAll h (trk h H)
theorem xT (h:Heap)(H:Hp):(qc h H).objs.size=h.objs.size:=PySem.W.hideAll_size _ _
theorem zq {h:Heap}{H:Hp}{b:Addr}{o:Obj}(e:h.get? b=some o)(n:H b=none):(qc h H).get? b=some o :=
  PySem.W.hideAll_get _ e fun hm=>by
    have q:(H b).isSome=true:=(List.mem_filter.mp hm).2
    rw [n] at q;simp at q
theorem Bv {h:Heap}{H:Hp}{b:Addr}{o:Obj}(e:(qc h H).get? b=some o):h.get? b=some o∧H b=none:=by
  have e':h.get? b=some o:=PySem.W.of_hideAll (trk h H) e
  refine⟨e',?_⟩
  cases q:H b with
  | none=>rfl
  | some x =>
    have hm:b∈trk h H:=List.mem_filter.mpr ⟨List.mem_range.mpr (Heap.lt_size e'),by simp [q]⟩
    have z:(qc h H).get? b=none:=PySem.W.hideAll_none (trk h H) hm
    rw [z] at e;cases e
def Bw (g h:Heap) (L:Addr):List (Addr × Obj):=(List.range h.objs.size).filterMap fun a=>if a=L∨(g.get? a).isSome=true then none else (h.get? a).map fun o=>(a,o)
def rest (g h:Heap) (L d:Addr):List (Addr × Obj):=(Bw g h L).filter fun p=>decide (p.1≠d)
end L2
namespace L2
open PySem PySem.Spec PyProof.Rows
structure Mod (K:PySem.W.Frag) (mg:Str→Option Value) (base:Heap):Prop where
  kin:K.In base
  glob:base.Ns mainGlobals mg
  blt:∃ mb,base.Ns builtinsNs mb ∧ ∀ x:Str,x ≠ "__name__" → mb x=bootBuiltins x
  nolimit:base.NoLimit
structure Cx where
  prog:Program
  w:World
  K:PySem.W.Frag
  mg:Str→Option Value
  base:Heap
  A:Around
  N:List Str
  s₀ : Shared
  H₀ : Hp
  env:Env
  outer:List Env
  stack:List Env
  ex:List Addr
  fn:Str→Bool
  calm:Bool
  pn:List (Addr × Obj)
  xe:Value→Shared→Prop
def frs (l:List Env):List Addr:=l.filterMap (·.frame)
abbrev Cx.fs (X:Cx):List Addr:=frs X.outer
def Vis (sc:Scope) (x:Str):Prop:=sc.names.lookup x=some .local ∨sc.names.lookup x=some .cell∨sc.names.lookup x=some .free
def Loc (sc:Scope) (x:Str):Prop:=sc.names.lookup x=some .local ∨sc.names.lookup x=some .cell
def FR (env:Env) (h:Heap) (m:Str→Option Value) (x:Str) (u:Value):Prop :=
  (env.kindOf x=some .local∧m x=some u)∨((env.kindOf x=some .cell∨env.kindOf x=some .free) ∧ ∃ c,env.cells.lookup x=some c∧h.IsCell c (some u))
structure Cx.Ok (X:Cx):Prop where
  mod:Mod X.K X.mg X.base
  kind:X.env.scope.kind=.function
  glob:X.env.globals=mainGlobals
  blt:X.env.builtins=builtinsNs
  above:X.s₀.heap.objs.size≤X.env.locals
  inj:∀ x y c,X.env.cells.lookup x=some c→X.env.cells.lookup y=some c→x=y
  has:∀ x,(X.env.kindOf x=some .cell∨X.env.kindOf x=some .free) → ∃ c,X.env.cells.lookup x=some c
  cab:∀ x c,X.fn x=true→X.env.cells.lookup x=some c→X.s₀.heap.objs.size≤c
  hd:X.calm=true→X.A.handled=none
  frames:X.A.frames=some X.stack
  stk:X.stack=X.outer∨(X.stack=X.env :: X.outer∧X.env.frame=some X.env.locals)
  exf:∀ b∈X.ex,b≠X.env.locals ∧ ∀ x c,X.env.cells.lookup x=some c→c≠b
  bs:∀ b o,X.base.get? b=some o→X.s₀.heap.get? b=some o∧X.H₀ b=none
  bsz:X.base.objs.size≤X.s₀.heap.objs.size
  noex:∀ b o,X.base.get? b=some o→b∉X.ex
  exfs:∀ b∈X.ex,b∉X.fs
  funs:X.s₀.heap.FunFrames X.base X.outer
  frf:∀ b∈X.fs,X.H₀ b=none
structure Inv (X:Cx) (pins:List (Addr × Obj)) (σ:List (Option V)) (H:Hp) (s:Shared):Prop where
  ok:X.Ok
  os:s.os=X.s₀.os
  bare:AllBare s.gens
  base:Un X.fs X.ex X.H₀ H X.s₀.heap s.heap
  loc:∃ m,s.heap.Ns X.env.locals m ∧ ∀ (i:Nat) (x:Str) (v:V),X.N[i]? = some x → σ[i]? = some (some v)→Vis X.env.scope x → ∃ u,bh v u∧FR X.env s.heap m x u
  cell:∀ x c,X.env.cells.lookup x=some c → ∃ v,s.heap.IsCell c v
  free:H X.env.locals=none
  freeC:∀ x c,X.env.cells.lookup x=some c→H c=none
  pin:∀ p∈X.pn++pins,s.heap.get? p.1=some p.2∧H p.1=none∧p.1≠X.env.locals∧p.1∉X.fs ∧ ∀ v,p.2.data ≠ .cell v
  hok:HOk X.prog X.w H s.heap
  len : σ.length=X.N.length
section
variable {X:Cx} {pins:List (Addr × Obj)} {σ:List (Option V)} {H H':Hp} {s:Shared} {h':Heap}
theorem Cx.Ok.nofr (ok:X.Ok){b:Addr}{o:Obj}(e:X.base.get? b=some o):b∉X.fs:=fun hb=>by
  have:=(ok.funs.mem hb).1
  rw [e] at this;cases this
theorem Inv.bs (I:Inv X pins σ H s):∀ b o,X.base.get? b=some o→s.heap.get? b=some o∧H b=none:=fun b o e =>
  ⟨I.base.keep b o (I.ok.bs b o e).1 (I.ok.bs b o e).2 (I.ok.nofr e) (I.ok.noex b o e),I.base.free b o (I.ok.bs b o e).1 (I.ok.bs b o e).2 (I.ok.noex b o e)⟩
theorem Inv.bk (I:Inv X pins σ H s):∀ b o,X.base.get? b=some o→s.heap.get? b=some o:=fun b o e=>(I.bs b o e).1
theorem Inv.mod (I:Inv X pins σ H s):Mod X.K X.mg X.base:=I.ok.mod
theorem Inv.kIn (I:Inv X pins σ H s):X.K.In s.heap:=I.ok.mod.kin.keeps I.bk
theorem Inv.lt (I:Inv X pins σ H s):X.env.locals < s.heap.objs.size:=let ⟨_,hn,_⟩:=I.loc;hn.lt
theorem Inv.sz (I:Inv X pins σ H s):X.s₀.heap.objs.size≤s.heap.objs.size:=Nat.le_trans I.ok.above (Nat.le_of_lt I.lt)
theorem Inv.nofs (I:Inv X pins σ H s){a:Addr}(h:s.heap.objs.size≤a):a∉X.fs:=fun hb=>by
  obtain⟨_,o,ho,_⟩:=I.ok.funs.mem hb
  exact absurd (Nat.lt_of_lt_of_le (Heap.lt_size ho) (Nat.le_trans I.sz h)) (Nat.lt_irrefl _)
theorem Inv.cne (I:Inv X pins σ H s):∀ x c,X.env.cells.lookup x=some c→c≠X.env.locals:=fun x c e z=>by
  obtain⟨v,o,ho,hd⟩:=I.cell x c e
  obtain⟨m,⟨o',es,ep,ho',hd',_⟩,_⟩:=I.loc
  rw [z,ho'] at ho;cases ho;rw [hd'] at hd;cases hd
theorem Inv.funs (I:Inv X pins σ H s):s.heap.FunFrames X.base X.outer:=by
  have all:∀ (l:List Env),(∀ b∈frs l,b∈X.fs)→X.s₀.heap.FunFrames X.base l→s.heap.FunFrames X.base l:=by
    intro l
    induction l with
    | nil=>intro _ _;trivial
    | cons env r ih =>
      intro hs hl
      obtain⟨hk,⟨L,o,hf,hn,ho,hd⟩,hr⟩:=hl
      have hL:L∈X.fs:=hs L (by unfold frs;rw [List.filterMap_cons,hf];exact List.mem_cons_self)
      obtain⟨sl,e⟩:=I.base.slot L o ho (I.ok.frf L hL) hL fun z=>I.ok.exfs L z hL
      exact⟨hk,⟨L,_,hf,hn,e,hd⟩,ih (fun b hb=>hs b (by unfold frs;rw [List.filterMap_cons,hf];exact List.mem_cons_of_mem _ hb)) hr⟩
  exact all X.outer (fun _ hb=>hb) I.ok.funs
theorem Inv.stack (I:Inv X pins σ H s):s.heap.FunFrames X.base X.stack:=by
  rcases I.ok.stk with e|⟨e,hf⟩
  · rw [e];exact I.funs
  · rw [e]
    obtain⟨m,hn,_⟩:=I.loc
    refine .cons (by rw [I.ok.kind];decide) hf hn ?_ I.funs
    exact Heap.get?_none_of_le (Nat.le_trans I.ok.bsz I.ok.above)
theorem Inv.stkSub (I:Inv X pins σ H s):∀ b∈frs X.stack,b∈X.env.locals :: X.fs:=fun b hb=>by
  rcases I.ok.stk with e|⟨e,hf⟩
  · rw [e] at hb;exact List.mem_cons_of_mem _ hb
  · rw [e] at hb
    unfold frs at hb
    rw [List.filterMap_cons,hf] at hb
    exact hb
theorem Inv.stkFree (I:Inv X pins σ H s):∀ b∈frs X.stack,H b=none:=fun b hb=>by
  rcases List.mem_cons.mp (I.stkSub b hb) with e|hb
  · rw [e];exact I.free
  · obtain⟨_,o,ho,_⟩:=I.ok.funs.mem hb
    exact I.base.free b o ho (I.ok.frf b hb) fun z=>I.ok.exfs b z hb
theorem Inv.step {g':Array GenState}{t':Nat}{d':Drawn}{ch:List Addr}(I:Inv X pins σ H s)
    (hch:∀ b∈ch,(b∈X.ex∨X.s₀.heap.objs.size≤b)∧b≠X.env.locals∧(∀ x c,X.env.cells.lookup x=some c→c≠b) ∧ ∀ p∈X.pn++pins,p.1≠b)
    (keep:∀ b o,b≠X.env.locals→b∉X.fs→b∉ch→s.heap.get? b=some o→H b=none→h'.get? b=some o)
    (slot:∀ b o,b≠X.env.locals→b∈X.fs→b∉ch→s.heap.get? b=some o→H b=none → ∃ sl,h'.get? b=some { o with slots:=sl }) (free:∀ b o,b∉ch→s.heap.get? b=some o→H b=none→H' b=none)
    (there:∀ b o,b∉ch→s.heap.get? b=some o → ∃ o',h'.get? b=some o')
    (tups:∀ b xs,H b=some (.tup xs)→H' b=some (.tup xs)) (frzs:∀ b o u,H b=some (.frz o u)→H' b=some (.frz o u)) (tbls:∀ b ps,H b=some (.tbl ps) → ∃ more,H' b=some (.tbl (ps++more)))
    (ns:∀ m,s.heap.Ns X.env.locals m→h'.Ns X.env.locals m) (hok:HOk X.prog X.w H' h') (hg:AllBare g') :
    Inv X pins σ H' { s with heap:=h',gens:=g',drawn:=d',toks:=t' }:=by
  have neL:∀ b o,X.s₀.heap.get? b=some o→b≠X.env.locals:=fun b o e=>Nat.ne_of_lt (Nat.lt_of_lt_of_le (Heap.lt_size e) I.ok.above)
  have neC:∀ b o,X.s₀.heap.get? b=some o→b∉X.ex→b∉ch:=fun b o e hx hb=>by
    rcases (hch b hb).1 with z|z
    · exact hx z
    · exact absurd (Nat.lt_of_lt_of_le (Heap.lt_size e) z) (Nat.lt_irrefl _)
  have cellK:∀ x c,X.env.cells.lookup x=some c → ∀ v,s.heap.IsCell c v→h'.IsCell c v:=fun x c e v ⟨o,ho,hd⟩=>by
    have nch:c∉ch:=fun z=>(hch c z).2.2.1 x c e rfl
    by_cases hc:c∈X.fs
    · obtain⟨sl,q⟩:=slot c o (I.cne x c e) hc nch ho (I.freeC x c e)
      exact⟨_,q,hd⟩
    · exact⟨o,keep c o (I.cne x c e) hc nch ho (I.freeC x c e),hd⟩
  refine⟨I.ok,I.os,hg,⟨fun b o e n hb hx => ?_,fun b o e n hb hx => ?_,fun b o e n hx => ?_,fun b o e hx => ?_,fun b xs e=>tups b xs (I.base.tups b xs e),fun b o xs e=>frzs b o xs (I.base.frzs b o xs e),fun b ps e => ?_⟩,?_,fun x c e => ?_,?_,fun x c e => ?_,fun p hp => ?_,hok,I.len⟩
  · exact keep b o (neL b o e) hb (neC b o e hx) (I.base.keep b o e n hb hx) (I.base.free b o e n hx)
  · obtain⟨sl,e1⟩:=I.base.slot b o e n hb hx
    obtain⟨sl',e2⟩:=slot b _ (neL b o e) hb (neC b o e hx) e1 (I.base.free b o e n hx)
    exact⟨sl',e2⟩
  · obtain⟨o',e1⟩:=I.base.there b o e hx
    exact free b o' (neC b o e hx) e1 (I.base.free b o e n hx)
  · obtain⟨o',e1⟩:=I.base.there b o e hx
    exact there b o' (neC b o e hx) e1
  · obtain⟨m1,e1⟩:=I.base.tbls b ps e
    obtain⟨m2,e2⟩:=tbls b _ e1
    exact⟨m1++m2,by rw [e2,Array.append_assoc]⟩
  · obtain⟨m,hn,hl⟩:=I.loc
    refine⟨m,ns m hn,fun i x v e1 e2 e3 => ?_⟩
    obtain⟨u,r,l⟩:=hl i x v e1 e2 e3
    refine⟨u,r,?_⟩
    rcases l with l|⟨k,c,e,z⟩
    · exact .inl l
    · exact .inr ⟨k,c,e,cellK x c e _ z⟩
  · obtain⟨v,z⟩:=I.cell x c e
    exact⟨v,cellK x c e v z⟩
  · obtain⟨m,⟨o,_,_,ho,_⟩,_⟩:=I.loc
    exact free _ o (fun z=>(hch _ z).2.1 rfl) ho I.free
  · obtain⟨v,o,ho,hd⟩:=I.cell x c e
    exact free c o (fun z=>(hch c z).2.2.1 x c e rfl) ho (I.freeC x c e)
  · obtain⟨e,n,ne,nf,d⟩:=I.pin p hp
    have nch:p.1∉ch:=fun z=>(hch p.1 z).2.2.2 p hp rfl
    exact⟨keep p.1 p.2 ne nf nch e n,free p.1 p.2 nch e n,ne,nf,d⟩
theorem Inv.un {t':Nat}(I:Inv X pins σ H s)(u:Un X.fs [] H H' s.heap h')(hok:HOk X.prog X.w H' h'):Inv X pins σ H' { s with heap:=h',toks:=t' }:=by
  obtain⟨m,⟨o,es,ep,ho,r⟩,_⟩:=id I.loc
  obtain⟨sl,hL⟩:=u.any ho I.free (by simp)
  exact I.step (g':=s.gens) (d':=s.drawn) (ch:=[]) (fun _ z=>nomatch z) (fun b o _ hb _ e n=>u.keep b o e n hb (by simp)) (fun b o _ hb _ e n=>u.slot b o e n hb (by simp)) (fun b o _ e n=>u.free b o e n (by simp)) (fun b o _ e=>u.there b o e (by simp)) u.tups u.frzs u.tbls (fun m' hm=>by
    obtain⟨o',es',ep',ho',r'⟩:=hm
    rw [ho] at ho';cases ho'
    exact⟨_,es',ep',hL,r'⟩) hok I.bare
theorem Inv.call {g':Array GenState}{t':Nat}{d':Drawn}{ch:List Addr}(I:Inv X pins σ H s)(u:Un (frs X.stack) ch H H' s.heap h')(hok:HOk X.prog X.w H' h')(hg:AllBare g')
    (hch:∀ b∈ch,(b∈X.ex∨X.s₀.heap.objs.size≤b)∧b≠X.env.locals∧(∀ x c,X.env.cells.lookup x=some c→c≠b) ∧ ∀ p∈X.pn++pins,p.1≠b) :
    Inv X pins σ H' { s with heap:=h',gens:=g',drawn:=d',toks:=t' }:=by
  obtain⟨m,⟨o,es,ep,ho,r⟩,_⟩:=id I.loc
  obtain⟨sl,hL⟩:=u.any ho I.free fun z=>(hch _ z).2.1 rfl
  exact I.step (ch:=ch) hch (fun b o hL hb hc e n=>u.keep b o e n (fun z=>(List.mem_cons.mp (I.stkSub b z)).elim hL hb) hc) (fun b o _ _ hc e n=>u.any e n hc) (fun b o hc e n=>u.free b o e n hc) (fun b o hc e=>u.there b o e hc) u.tups u.frzs u.tbls (fun m' hm=>by
    obtain⟨o',es',ep',ho',r'⟩:=hm
    rw [ho] at ho';cases ho'
    exact⟨_,es',ep',hL,r'⟩) hok hg
theorem Inv.turned {t':Nat}{it:Addr}(I:Inv X pins σ H s)(k:∀ b o,b≠it→s.heap.get? b=some o→h'.get? b=some o)(hn:H it=none)(hL:it≠X.env.locals)
    (h1:it∈X.ex∨X.s₀.heap.objs.size≤it) (h2:∀ x c,X.env.cells.lookup x=some c→c≠it) (h3:∀ p∈X.pn++pins,p.1≠it):Inv X pins σ H { s with heap:=h',toks:=t' }:=by
  have nit:∀ b u,H b=some u→b≠it:=fun b u e z=>by rw [z,hn] at e;cases e
  refine I.step (g':=s.gens) (d':=s.drawn) (ch:=[it]) (fun b hb => ?_) (fun b o _ _ hc e _=>k b o (fun z=>hc (by simp [z])) e) (fun b o _ _ hc e _=>⟨o.slots,k b o (fun z=>hc (by simp [z])) e⟩) (fun _ _ _ _ n=>n)
    (fun b o hc e=>⟨o,k b o (fun z=>hc (by simp [z])) e⟩) (fun _ _ e=>e) (fun _ _ _ e=>e) (fun b ps e=>⟨#[],by rw [e];simp⟩) (fun m hm => ?_) (fun b u e => ?_) I.bare
  · have e:b=it:=by simpa using hb
    subst e
    exact⟨h1,hL,h2,h3⟩
  · obtain⟨o,es,ep,ho,r⟩:=hm
    exact⟨o,es,ep,k _ o (Ne.symm hL) ho,r⟩
  · refine (I.hok b u e).stay (fun c v hc q=>k c v ?_ q) (fun _ q=>q) fun _ _ q=>q
    rcases hc with z|z
    · rw [z];exact nit b u e
    · exact nit c _ z
theorem Inv.tok (I:Inv X pins σ H s)(t:Nat):Inv X pins σ H { s with toks:=t }:=I.un (h':=s.heap) (t':=t) Un.refl I.hok
theorem Inv.kept {t':Nat}(I:Inv X pins σ H s)(k:∀ b u,s.heap.get? b=some u→h'.get? b=some u):Inv X pins σ H { s with heap:=h',toks:=t' }:=I.un (Un.kept k) (I.hok.kept k)
theorem Inv.laid {a:Addr}{o:HO}{t':Nat}(I:Inv X pins σ H s)(k:∀ b u,s.heap.get? b=some u→h'.get? b=some u)(hp:s.heap.objs.size≤a)(new:cZ X.prog X.w (upd H a o) h' a o) :
    Inv X pins σ (upd H a o) { s with heap:=h',toks:=t' }:=I.un (Un.laid k hp (I.hok.fresh hp)) (I.hok.laid k hp new)
theorem Inv.write {x e:Addr}{o:HO}{t':Nat}(I:Inv X pins σ H s)(mu:Mut (H x))(he:e=x∨H e=some (.own x))(k:∀ b u,b≠e→s.heap.get? b=some u→h'.get? b=some u)(heo:∃ u,h'.get? e=some u)
    (new:cZ X.prog X.w (upd H x o) h' x o):Inv X pins σ (upd H x o) { s with heap:=h',toks:=t' }:=I.un (Un.write mu he k heo) (I.hok.write mu he k heo new)
theorem Inv.pins_of {pins':List (Addr × Obj)}(I:Inv X pins σ H s)(h:∀ p∈pins',s.heap.get? p.1=some p.2∧H p.1=none∧p.1≠X.env.locals∧p.1∉X.fs ∧ ∀ v,p.2.data ≠ .cell v):Inv X pins' σ H s :=
  ⟨I.ok,I.os,I.bare,I.base,I.loc,I.cell,I.free,I.freeC,fun p hp=>(List.mem_append.mp hp).elim (fun z=>I.pin p (List.mem_append_left _ z)) (h p),I.hok,I.len⟩
theorem sD {N:List Str}(hN:N.Nodup){i j:Nat}{x:Str}(a:N[i]? = some x)(b:N[j]? = some x):i=j:=by
  obtain⟨h1,e1⟩:=List.getElem?_eq_some_iff.mp a
  obtain⟨h2,e2⟩:=List.getElem?_eq_some_iff.mp b
  exact (List.getElem_inj hN).mp (e1.trans e2.symm)
theorem o7 {M:Model}{A:Around}{E:Value→Shared→Prop}{i:Nat}{x:Str}{v:V}{u:Value}{Q:Unit→Shared→Prop}(I:Inv X pins σ H s)(hN:X.N.Nodup)(hi:X.N[i]? = some x)(hx:Loc X.env.scope x)(r:bh v u)
    (h:∀ s',Inv X pins (σ.set i (some v)) H s'→(∃ a,Heap.SameBut a s.heap s'.heap∧(a=X.env.locals∨X.env.cells.lookup x=some a))→Q () s') (hf:X.fn x=true∨X.env.scope.names.lookup x=some .local:=by first|exact .inl rfl|exact .inr rfl|assumption):wpAny M A (storeName X.env x u) Q E s:=by
  obtain⟨m,hn,hl⟩:=id I.loc
  have hcls:(X.env.scope.kind == .class || (X.env.scope.kind == .module && X.env.locals != X.env.globals))=false:=by rw [I.ok.kind];rfl
  have hiσ:i < σ.length:=by rw [I.len];exact (List.getElem?_eq_some_iff.mp hi).1
  have cne:=I.cne
  have tracked:∀ {a:Addr} {h':Heap},(∃ o,s.heap.get? a=some o∧H a=none)→Heap.SameBut a s.heap h'→HOk X.prog X.w H h':=fun {a h'} ha hs b ob e=>by
    obtain⟨_,_,hfree⟩:=ha
    refine (I.hok b ob e).stay (fun c w' hc q=>(hs.2 c ?_).trans q) (fun _ q=>q) fun _ _ q=>q
    rintro rfl
    rcases hc with rfl|hc
    · rw [hfree] at e;cases e
    · rw [hfree] at hc;cases hc
  rcases hx with hk|hk
  · refine wpAny_storeName_local hk hn (fun h' hn' hs => ?_) hcls
    obtain⟨oL,_,_,hoL,_⟩:=id hn
    refine h _ ⟨I.ok,I.os,I.bare,⟨fun b o e n hb hx => ?_,fun b o e n hb hx => ?_,I.base.free,fun b o e hx => ?_,I.base.tups,I.base.frzs,I.base.tbls⟩,⟨_,hn',fun j y v' e1 e2 e3 => ?_⟩,fun y c e => ?_,I.free,I.freeC,fun p hp => ?_,tracked ⟨oL,hoL,I.free⟩ hs,by simpa using I.len⟩ ⟨_,hs,.inl rfl⟩
    · exact (hs.2 b (Nat.ne_of_lt (Nat.lt_of_lt_of_le (Heap.lt_size e) I.ok.above))).trans (I.base.keep b o e n hb hx)
    · obtain⟨sl,e1⟩:=I.base.slot b o e n hb hx
      exact⟨sl,(hs.2 b (Nat.ne_of_lt (Nat.lt_of_lt_of_le (Heap.lt_size e) I.ok.above))).trans e1⟩
    · obtain⟨o',e1⟩:=I.base.there b o e hx
      exact⟨o',(hs.2 b (Nat.ne_of_lt (Nat.lt_of_lt_of_le (Heap.lt_size e) I.ok.above))).trans e1⟩
    · by_cases hj:j=i
      · subst hj
        rw [hi] at e1;cases e1
        rw [List.getElem?_set_self hiσ] at e2
        cases e2
        exact⟨u,r,.inl ⟨hk,by simp⟩⟩
      · rw [List.getElem?_set_ne (Ne.symm hj)] at e2
        obtain⟨u',r',q⟩:=hl j y v' e1 e2 e3
        refine⟨u',r',?_⟩
        rcases q with ⟨k,e⟩|⟨k,c,e,z⟩
        · refine .inl ⟨k,?_⟩
          have:y≠x:=fun e=>hj (sD hN e1 (e ▸ hi))
          simp [this,e]
        · exact .inr ⟨k,c,e,z.sameBut hs (cne y c e)⟩
    · obtain⟨w',z⟩:=I.cell y c e
      exact⟨w',z.sameBut hs (cne y c e)⟩
    · obtain⟨e,n,ne,nf,d⟩:=I.pin p hp
      exact⟨(hs.2 p.1 ne).trans e,n,ne,nf,d⟩
  · have hfn:X.fn x=true:=by
      rcases hf with z|z
      · exact z
      · rw [z] at hk;cases hk
    obtain⟨c,hc⟩:=I.ok.has x (.inl hk)
    obtain⟨w',z⟩:=I.cell x c hc
    refine wpAny_storeName_cell I.ok.kind hk hc z (fun h' hc' hs => ?_)
    obtain⟨oc,hoc,hocd⟩:=id z
    refine h { s with heap:=h' } ⟨I.ok,I.os,I.bare,⟨fun b o e n hb hx => ?_,fun b o e n hb hx => ?_,I.base.free,fun b o e hx => ?_,I.base.tups,I.base.frzs,I.base.tbls⟩,⟨m,hn.sameBut hs (Ne.symm (cne x c hc)),fun j y v' e1 e2 e3 => ?_⟩,fun y c' e => ?_,I.free,I.freeC,fun p hp => ?_,tracked ⟨oc,hoc,I.freeC x c hc⟩ hs,by simpa using I.len⟩ ⟨c,hs,.inr hc⟩
    · exact (hs.2 b (Nat.ne_of_lt (Nat.lt_of_lt_of_le (Heap.lt_size e) (I.ok.cab x c hfn hc)))).trans (I.base.keep b o e n hb hx)
    · obtain⟨sl,e1⟩:=I.base.slot b o e n hb hx
      exact⟨sl,(hs.2 b (Nat.ne_of_lt (Nat.lt_of_lt_of_le (Heap.lt_size e) (I.ok.cab x c hfn hc)))).trans e1⟩
    · obtain⟨o',e1⟩:=I.base.there b o e hx
      exact⟨o',(hs.2 b (Nat.ne_of_lt (Nat.lt_of_lt_of_le (Heap.lt_size e) (I.ok.cab x c hfn hc)))).trans e1⟩
    · by_cases hj:j=i
      · subst hj
        rw [hi] at e1;cases e1
        rw [List.getElem?_set_self hiσ] at e2
        cases e2
        exact⟨u,r,.inr ⟨.inl hk,c,hc,hc'⟩⟩
      · rw [List.getElem?_set_ne (Ne.symm hj)] at e2
        obtain⟨u',r',q⟩:=hl j y v' e1 e2 e3
        refine⟨u',r',?_⟩
        rcases q with q|⟨k,c',e,z'⟩
        · exact .inl q
        · refine .inr ⟨k,c',e,z'.sameBut hs ?_⟩
          rintro rfl
          exact hj (sD hN e1 (I.ok.inj _ _ _ e hc ▸ hi))
    · by_cases hcc:c'=c
      · subst hcc;exact⟨_,hc'⟩
      · obtain⟨w2,z2⟩:=I.cell y c' e
        exact⟨w2,z2.sameBut hs hcc⟩
    · obtain⟨e,n,ne,nf,d⟩:=I.pin p hp
      refine⟨(hs.2 p.1 ?_).trans e,n,ne,nf,d⟩
      intro q
      rw [q,hoc] at e
      have q':oc=p.2:=Option.some.inj e
      exact d w' (by rw [← q'];exact hocd)
theorem sE {M:Model}{A:Around}{E:Value→Shared→Prop}{i:Nat}{x:Str}{v:V}{u:Value}{Q:Unit→Shared→Prop}(I:Inv X pins σ H s)(hN:X.N.Nodup)(hi:X.N[i]? = some x)(hx:Loc X.env.scope x)(r:bh v u)
    (h:∀ s',Inv X pins (σ.set i (some v)) H s'→Q () s') (hf:X.fn x=true∨X.env.scope.names.lookup x=some .local:=by first|exact .inl rfl|exact .inr rfl|assumption):wpAny M A (storeName X.env x u) Q E s :=
  o7 I hN hi hx r (fun s' I' _=>h s' I') hf
theorem Inv.call' {s':Shared}{ch:List Addr}(I:Inv X pins σ H s)(ho:s'.os=s.os)(u:Un (frs X.stack) ch H H' s.heap s'.heap)(hok:HOk X.prog X.w H' s'.heap)(hg:AllBare s'.gens)
    (hch:∀ b∈ch,(b∈X.ex∨X.s₀.heap.objs.size≤b)∧b≠X.env.locals∧(∀ x c,X.env.cells.lookup x=some c→c≠b) ∧ ∀ p∈X.pn++pins,p.1≠b):Inv X pins σ H' s':=by
  obtain⟨h',g',d',t',o'⟩:=s'
  have e:o'=s.os:=ho
  subst e
  exact I.call (g':=g') (t':=t') (d':=d') u hok hg hch
end
abbrev XK:=Value→Option Addr→Hp→Prop
abbrev St:=List (Option V)
abbrev VK:=V→Hp→Prop
abbrev TE:=St→Hp→VK→Prop
abbrev TT:=St→Hp→(Bool→Hp→Prop)→Prop
abbrev TA:=St→Hp→(List V→Hp→Prop)→Prop
structure sF where
  nx:St→Hp→Prop
  rt:VK
  bk:St→Hp→Prop:=fun _ _=>False
  ct:St→Hp→Prop:=fun _ _=>False
abbrev TS:=sF→St→Hp→Prop
def EP (X:Cx) (pins:List (Addr × Obj)) (σ:St) (Q:VK) (u:Value) (s':Shared):Prop:=∃ v H',Inv X pins σ H' s'∧bh v u∧Q v H'
def TP (X:Cx) (pins:List (Addr × Obj)) (σ:St) (Q:Bool→Hp→Prop) (b:Bool) (s':Shared):Prop:=∃ H',Inv X pins σ H' s'∧Q b H'
def AP (X:Cx) (pins:List (Addr × Obj)) (σ:St) (Q:List V→Hp→Prop) (us:List Value) (s':Shared):Prop:=∃ vs H',Inv X pins σ H' s'∧aT vs us∧Q vs H'
def SP (X:Cx) (pins:List (Addr × Obj)) (D:sF) (f:Flow) (s':Shared):Prop :=
  match f with
  | .next=>∃ σ' H',Inv X pins σ' H' s'∧D.nx σ' H'
  | .brk=>∃ σ' H',Inv X pins σ' H' s'∧D.bk σ' H'
  | .cont=>∃ σ' H',Inv X pins σ' H' s'∧D.ct σ' H'
  | .ret u=>∃ v σ' H',Inv X pins σ' H' s'∧bh v u∧D.rt v H'
def PE (X:Cx) (e:Expr) (t:TE):Prop :=
  ∀ (pins:List (Addr × Obj)) (s:Shared) (σ:St) (H:Hp) (Q:VK),Inv X pins σ H s→t σ H Q→wpAny (model X.prog X.w) X.A (eval e X.env) (EP X pins σ Q) X.xe s
def PT (X:Cx) (e:Expr) (t:TT):Prop :=
  ∀ (pins:List (Addr × Obj)) (s:Shared) (σ:St) (H:Hp) (Q:Bool→Hp→Prop),Inv X pins σ H s→t σ H Q→wpAny (model X.prog X.w) X.A (isTrue e X.env (eval e X.env)) (TP X pins σ Q) X.xe s
def PW (X:Cx) (e:Expr) (t:TT):Prop :=
  ∀ (whole:Sem Value) (pins:List (Addr × Obj)) (s:Shared) (σ:St) (H:Hp) (Q:Bool→Hp→Prop),Inv X pins σ H s→t σ H Q→wpAny (model X.prog X.w) X.A (isTrue e X.env whole) (TP X pins σ Q) X.xe s
theorem PW.pt {X:Cx}{e:Expr}{t:TT}(h:PW X e t):PT X e t:=h _
def PA (X:Cx) (es:List Expr) (t:TA):Prop :=
  ∀ (pos:Pos) (pins:List (Addr × Obj)) (s:Shared) (σ:St) (H:Hp) (Q:List V→Hp→Prop),Inv X pins σ H s→t σ H Q→wpAny (model X.prog X.w) X.A (spliced (backTo pos (starEach es X.env))) (AP X pins σ Q) X.xe s
def PS (X:Cx) (st:Stmt) (t:TS):Prop :=
  ∀ (pins:List (Addr × Obj)) (s:Shared) (σ:St) (H:Hp) (D:sF),Inv X pins σ H s→t D σ H→wpAny (model X.prog X.w) X.A (exec st X.env) (SP X pins D) X.xe s
def PSs (X:Cx) (st:List Stmt) (t:TS):Prop :=
  ∀ (pins:List (Addr × Obj)) (s:Shared) (σ:St) (H:Hp) (D:sF),Inv X pins σ H s→t D σ H→wpAny (model X.prog X.w) X.A (execs st X.env) (SP X pins D) X.xe s
theorem thn {α : Type}{t:Sem α}{Q Q' : α → Shared→Prop}{M:Model}{A:Around}{E:Value→Shared→Prop}{s:Shared}(h:wpAny M A t Q E s)(hQ:∀ a s,Q a s→Q' a s):wpAny M A t Q' E s:=wpAny_mono h hQ fun _ _ x=>x
end L2
namespace L2
open PySem PySem.Spec PyProof.Rows
section
variable {X:Cx}
def FS (i:Nat):TE:=fun σ H Q=>∃ v,σ[i]? = some (some v)∧Q v H
def tC (v:V):TE:=fun _ H Q=>Q v H
theorem Df {i:Nat} {x:Str} {pos:Pos} (hN:X.N[i]? = some x) (hv:Vis X.env.scope x) (hd:(x == ("__debug__" : Str))=false:=by decide) (hcd:(x == ("__classdict__" : Str))=false:=by decide):PE X (.Name x pos) (FS i):=by
  intro pins s σ H Q I h
  obtain⟨v,e,h⟩:=h
  obtain⟨m,hn,hl⟩:=I.loc
  obtain⟨u,r,l⟩:=hl i x v hN e hv
  have fin:EP X pins σ Q u s:=⟨v,H,I,r,h⟩
  rcases l with ⟨hk,hm⟩|⟨hk,c,hc,hcell⟩
  · exact wpAny_Name (wpAny_loadName_local I.ok.kind hk hn hm fin) hd
  · rcases hk with hk|hk
    · exact wpAny_Name (wpAny_loadName_cell I.ok.kind hk hc hcell fin) hd
    · exact wpAny_Name (wpAny_loadName_free I.ok.kind hk hc hcell fin hcd) hd
theorem zr {i j pos}:PE X (.Constant (.int i) j pos) (tC (.int i)):=fun _ _ _ H _ I h=>wpAny_Constant_int ⟨.int i,H,I.tok _,⟨_,rfl⟩,h⟩
theorem EM {b j pos}:PE X (.Constant (.bool b) j pos) (tC (.bl b)):=fun _ _ _ H _ I h=>Constant_bool ⟨.bl b,H,I,rfl,h⟩
theorem Dg {j pos}:PE X (.Constant .none j pos) (tC .non):=fun _ _ _ H _ I h=>Constant_none ⟨.non,H,I,rfl,h⟩
theorem Dh {x j pos}:PE X (.Constant (.str x) j pos) (tC (.str x)):=fun _ _ _ H _ I h=>Calls.Constant_str ⟨.str x,H,I.tok _,⟨_,rfl⟩,h⟩
def Gl (X:Cx) (x:Str):Prop:=X.env.kindOf x=some .globalImplicit
theorem xc {E:Value→Shared→Prop}{pins:List (Addr × Obj)}{s:Shared}{σ:St}{H:Hp}{x:Str}{u:Value}{pos:Pos}{Q:Value→Shared→Prop}(I:Inv X pins σ H s)(hg:Gl X x)(hm:X.mg x=some u)(h:Q u s)
    (hd:(x == ("__debug__" : Str))=false:=by decide):wpAny (model X.prog X.w) X.A (eval (.Name x pos) X.env) Q E s :=
  Calls.Name_function_global I.ok.kind hg (Calls.loadGlobal_global (by rw [I.ok.glob];exact I.mod.glob.keeps I.bk) hm h) hd
theorem jH {E:Value→Shared→Prop}{pins:List (Addr × Obj)}{s:Shared}{σ:St}{H:Hp}{x:Str}{u:Value}{pos:Pos}{Q:Value→Shared→Prop}(I:Inv X pins σ H s)(hg:Gl X x)(hm:X.mg x=none)(hv:bootBuiltins x=some u)(h:Q u s)
    (hn:x ≠ "__name__" := by decide) (hd:(x == ("__debug__" : Str))=false:=by decide):wpAny (model X.prog X.w) X.A (eval (.Name x pos) X.env) Q E s:=by
  obtain⟨mb,h1,h2⟩:=I.mod.blt
  exact Calls.Name_function_global I.ok.kind hg (Calls.loadGlobal_builtin (by rw [I.ok.glob];exact I.mod.glob.keeps I.bk) hm (by rw [I.ok.blt];exact h1.keeps I.bk) ((h2 x hn).trans hv) h) hd
theorem Bx {x:Str} {v:V} {u:Value} {pos:Pos} (hg:Gl X x) (hm:X.mg x=some u) (r:bh v u) (hd:(x == ("__debug__" : Str))=false:=by decide):PE X (.Name x pos) (tC v) :=
  fun _ _ _ H _ I h=>xc I hg hm ⟨v,H,I,r,h⟩ hd
theorem By {x:Str} {v:V} {u:Value} {pos:Pos} (hg:Gl X x) (hm:X.mg x=none) (hv:bootBuiltins x=some u) (r:bh v u) (hn:x ≠ "__name__" := by decide) (hd:(x == ("__debug__" : Str))=false:=by decide):PE X (.Name x pos) (tC v) :=
  fun _ _ _ H _ I h=>jH I hg hm hv ⟨v,H,I,r,h⟩ hn hd
variable {a b:Expr} {ta tb:TE} {pos:Pos}
def tB (t:TE):TT:=fun σ H Q=>t σ H fun x H1=>∃ c,x=.bl c∧Q c H1
theorem Di {e:Expr}{t:TE}(h:PE X e t)(he:∀ whole,isTrue e X.env whole=(do let v ← whole;standAt e.pos;holding [v] (truthy v)):=by intro _;rfl):PT X e (tB t):=by
  intro pins s σ H Q I hw
  refine isTrue_plain (thn (h pins s σ H _ I hw) fun v s1 ⟨x,H1,I1,r1,q1⟩ => ?_) (he _)
  obtain⟨d,rfl,q⟩:=q1
  cases r1
  exact wpAny_truthy_bool ⟨H1,I1,q⟩
variable {tA tB':TT} {rest:List Expr}
def gB (t u:TT):TT:=fun σ H Q=>t σ H fun c H1=>if c=true then u σ H1 Q else Q false H1
def tOr (t u:TT):TT:=fun σ H Q=>t σ H fun c H1=>if c=true then Q true H1 else u σ H1 Q
def jI (t:TT):TT:=fun σ H Q=>t σ H fun c H1=>Q (!c) H1
theorem Bz (ha:PT X a tA):PW X (.BoolOp .And [a] pos) tA:=by
  intro wh pins s σ H Q I h
  refine isTrue_and (thn (ha pins s σ H Q I h) fun c s1 e => ?_)
  cases c with
  | true=>exact isTrue_and_nil e
  | false=>exact e
theorem Dj (ha:PT X a tA):PW X (.BoolOp .Or [a] pos) tA:=by
  intro wh pins s σ H Q I h
  refine isTrue_or (thn (ha pins s σ H Q I h) fun c s1 e => ?_)
  cases c with
  | false=>exact isTrue_or_nil e
  | true=>exact e
theorem Dk (ha:PT X a tA)(hb:PW X (.BoolOp .And (b :: rest) pos) tB'):PW X (.BoolOp .And (a :: b :: rest) pos) (gB tA tB'):=by
  intro wh pins s σ H Q I h
  refine isTrue_and (thn (ha pins s σ H _ I h) fun c s1 ⟨H1,I1,q1⟩ => ?_)
  cases c with
  | true=>exact hb wh pins s1 σ H1 Q I1 q1
  | false=>exact⟨H1,I1,q1⟩
theorem EN (ha:PT X a tA)(hb:PW X (.BoolOp .Or (b :: rest) pos) tB'):PW X (.BoolOp .Or (a :: b :: rest) pos) (tOr tA tB'):=by
  intro wh pins s σ H Q I h
  refine isTrue_or (thn (ha pins s σ H _ I h) fun c s1 ⟨H1,I1,q1⟩ => ?_)
  cases c with
  | true=>exact⟨H1,I1,q1⟩
  | false=>exact hb wh pins s1 σ H1 Q I1 q1
theorem Dl (ha:PT X a tA):PT X (.UnaryOp .Not a pos) (jI tA):=by
  intro pins s σ H Q I h
  exact isTrue_not (ha pins s σ H (fun c H1=>Q (!c) H1) I h)
def EO (ta tb:TE):TE:=fun σ H Q=>ta σ H fun x H1=>∃ c,x=.bl c∧if c=true then tb σ H1 Q else Q (.bl false) H1
def EQ (ta:TE):TE:=fun σ H Q=>ta σ H fun x H1=>∃ c,x=.bl c∧Q (.bl (!c)) H1
theorem Dm {op}{t:TE}(h:PE X a t):PE X (.BoolOp op [a] pos) t:=fun pins s σ H Q I hw=>BoolOp_one (h pins s σ H Q I hw)
theorem Dn (ha:PE X a ta)(hb:PE X (.BoolOp .And (b :: rest) pos) tb):PE X (.BoolOp .And (a :: b :: rest) pos) (EO ta tb):=by
  intro pins s σ H Q I h
  refine BoolOp_and (thn (ha pins s σ H _ I h) fun v s1 ⟨x,H1,I1,r1,q1⟩ => ?_)
  obtain⟨c,rfl,q1⟩:=q1
  cases r1
  refine wpAny_truthy_bool ?_
  cases c with
  | true=>exact hb pins s1 σ H1 Q I1 q1
  | false=>exact⟨.bl false,H1,I1,rfl,q1⟩
theorem Do (ha:PE X a ta):PE X (.UnaryOp .Not a pos) (EQ ta):=by
  intro pins s σ H Q I h
  refine UnaryOp_ (thn (ha pins s σ H _ I h) fun v s1 ⟨x,H1,I1,r1,q1⟩ => ?_)
  obtain⟨c,rfl,q1⟩:=q1
  cases r1
  exact not_of (wpAny_truthy_bool ⟨.bl (!c),H1,I1,rfl,q1⟩)
def tIf (t:TT) (ta tb:TE):TE:=fun σ H Q=>t σ H fun c H1=>if c=true then ta σ H1 Q else tb σ H1 Q
theorem zt {c:Expr}(hc:PT X c tA)(ha:PE X a ta)(hb:PE X b tb):PE X (.IfExp c a b pos) (tIf tA ta tb):=by
  intro pins s σ H Q I h
  refine wpAny_IfExp (thn (hc pins s σ H _ I h) fun d s1 ⟨H1,I1,q1⟩ => ?_)
  cases d with
  | true=>exact ha pins s1 σ H1 Q I1 q1
  | false=>exact hb pins s1 σ H1 Q I1 q1
end
end L2
namespace L2
open PySem PySem.Spec PyProof.Rows
def SqL (K:PySem.W.Frag) (H:Hp) (a:Addr) (xs:List V):Prop :=
  Rd H a (.lst xs) ∨
    ∃ (o:Obj) (its:Array Value) (n:Nat),K.lookup a=some o∧o.cls=.type "list" ∧ o.dict=none∧o.data=.seq its n∧its.size≤sizeLine∧aT xs its.toList
def SqT (K:PySem.W.Frag) (H:Hp) (a:Addr) (xs:List V):Prop :=
  Rd H a (.tup xs) ∨
    ∃ (o:Obj) (its:Array Value) (n:Nat),K.lookup a=some o∧o.cls=.type "tuple" ∧ o.data=.seq its n∧its.size≤sizeLine∧aT xs its.toList
def FT:Value→Option V
  | .none=>some .non
  | .bool b=>some (.bl b)
  | .int i _=>some (.int i)
  | .str x _=>some (.str x)
  | .bytes b _=>some (.byt b)
  | .float b _=>some (.flt b)
  | .ref a=>some (.ref a)
  | .type n=>some (.ty n)
  | _=>none
theorem bh.abs {x:V}{u:Value}(r:bh x u):FT u=some x:=by
  cases x with
  | non=>cases r;rfl
  | bl _=>cases r;rfl
  | int _=>obtain⟨t,rfl⟩:=r;rfl
  | str _=>obtain⟨t,rfl⟩:=r;rfl
  | byt _=>obtain⟨t,rfl⟩:=r;rfl
  | flt _=>obtain⟨t,rfl⟩:=r;rfl
  | ref _=>cases r;rfl
  | ty _=>cases r;rfl
theorem bh.inj {x y:V}{u:Value}(r:bh x u)(q:bh y u):x=y:=Option.some.inj (r.abs.symm.trans q.abs)
theorem aT.inj:∀ {xs ys:List V} {us:List Value},aT xs us→aT ys us→xs=ys
  | _,_,_,.nil,.nil=>rfl
  | _,_,_,.cons r t,.cons r' t'=>by rw [r.inj r',aT.inj t t']
section
variable {X:Cx} {pins:List (Addr × Obj)} {σ:St} {H:Hp} {s:Shared} {a:Addr} {xs ys:List V}
theorem SqL.of {K:PySem.W.Frag}(h:H a=some (.lst xs)):SqL K H a xs:=.inl (.inl h)
theorem SqT.of {K:PySem.W.Frag}(h:H a=some (.tup xs)):SqT K H a xs:=.inl (.inl h)
theorem Inv.list (I:Inv X pins σ H s)(h:SqL X.K H a xs):∃ its:List Value,aT xs its∧PlainL s.heap a its.toArray∧xs.length≤sizeLine:=by
  rcases h with h|⟨o,its,n,hk,hc,hd,hs,hz,r⟩
  · obtain⟨z,its,n,r,e⟩:=h.ok I.hok
    exact⟨its,r,⟨_,n,e,rfl,rfl,rfl⟩,z⟩
  · refine⟨its.toList,r,⟨o,n,I.kIn a o hk,hc,hd,by simpa using hs⟩,?_⟩
    have e:=r.length
    simp only [Array.length_toList] at e
    omega
theorem Inv.tuple (I:Inv X pins σ H s)(h:SqT X.K H a xs):∃ its:List Value,aT xs its∧IsTup s.heap a its.toArray∧xs.length≤sizeLine:=by
  rcases h with h|⟨o,its,n,hk,hc,hs,hz,r⟩
  · obtain⟨z,its,r,p⟩:=h.ok I.hok
    exact⟨its,r,p.1,z⟩
  · refine⟨its.toList,r,⟨o,I.kIn a o hk,hc,n,by simpa using hs⟩,?_⟩
    have e:=r.length
    simp only [Array.length_toList] at e
    omega
theorem Inv.list_inj (I:Inv X pins σ H s)(h:SqL X.K H a xs)(h':SqL X.K H a ys):xs=ys:=by
  obtain⟨its,r,⟨o,n,e,_,_,d⟩,_⟩:=I.list h
  obtain⟨its',r',⟨o',n',e',_,_,d'⟩,_⟩:=I.list h'
  rw [e] at e';cases e'
  rw [d] at d'
  injection d' with d1 _
  have:its=its':=by simpa using congrArg Array.toList d1
  subst this
  exact r.inj r'
theorem Inv.tuple_inj (I:Inv X pins σ H s)(h:SqT X.K H a xs)(h':SqT X.K H a ys):xs=ys:=by
  obtain⟨its,r,⟨o,e,_,n,d⟩,_⟩:=I.tuple h
  obtain⟨its',r',⟨o',e',_,n',d'⟩,_⟩:=I.tuple h'
  rw [e] at e';cases e'
  rw [d] at d'
  injection d' with d1 _
  have:its=its':=by simpa using congrArg Array.toList d1
  subst this
  exact r.inj r'
end
abbrev Cx.wish (X:Cx) (E:Value→Shared→Prop):Cx:={ X with xe:=E }
abbrev Cx.nox (X:Cx):Cx:=X.wish fun _ _=>False
theorem Cx.Ok.wish {X:Cx}(ok:X.Ok)(E:Value→Shared→Prop):(X.wish E).Ok :=
  ⟨ok.mod,ok.kind,ok.glob,ok.blt,ok.above,ok.inj,ok.has,ok.cab,ok.hd,ok.frames,ok.stk,ok.exf,ok.bs,ok.bsz,ok.noex,ok.exfs,ok.funs,ok.frf⟩
theorem Cx.Ok.unwish {X:Cx}{E:Value→Shared→Prop}(ok:(X.wish E).Ok):X.Ok :=
  ⟨ok.mod,ok.kind,ok.glob,ok.blt,ok.above,ok.inj,ok.has,ok.cab,ok.hd,ok.frames,ok.stk,ok.exf,ok.bs,ok.bsz,ok.noex,ok.exfs,ok.funs,ok.frf⟩
section
variable {X:Cx} {pins:List (Addr × Obj)} {σ:St} {H:Hp} {s:Shared} {E:Value→Shared→Prop}
theorem Inv.wish (I:Inv X pins σ H s)(E:Value→Shared→Prop):Inv (X.wish E) pins σ H s:=⟨I.ok.wish E,I.os,I.bare,I.base,I.loc,I.cell,I.free,I.freeC,I.pin,I.hok,I.len⟩
theorem Inv.unwish (I:Inv (X.wish E) pins σ H s):Inv X pins σ H s:=⟨I.ok.unwish,I.os,I.bare,I.base,I.loc,I.cell,I.free,I.freeC,I.pin,I.hok,I.len⟩
theorem SP.unwish {D:sF}{f:Flow}{s':Shared}(h:SP (X.wish E) pins D f s'):SP X pins D f s':=by
  cases f with
  | next=>obtain⟨σ',H',I,q⟩:=h;exact⟨σ',H',I.unwish,q⟩
  | brk=>obtain⟨σ',H',I,q⟩:=h;exact⟨σ',H',I.unwish,q⟩
  | cont=>obtain⟨σ',H',I,q⟩:=h;exact⟨σ',H',I.unwish,q⟩
  | ret u=>obtain⟨v,σ',H',I,r,q⟩:=h;exact⟨v,σ',H',I.unwish,r,q⟩
theorem PSs.nox {st:List Stmt}{t:TS}(h:PSs X.nox st t):PSs X st t:=fun pins s σ H D I hw =>
  wpAny_mono (h pins s σ H D (I.wish _) hw) (fun _ _ q=>q.unwish) fun _ _ z=>False.elim z
end
section
variable {X:Cx} {st:Stmt} {rest:List Stmt} {t u:TS} {e:Expr} {te:TE} {pos:Pos}
def ER:TS:=fun D σ H=>D.nx σ H
def FU (t u:TS):TS:=fun D σ H=>t { D with nx:=u D } σ H
theorem BA:PSs X [] ER:=fun _ _ σ H _ I h=>wpAny_execs_nil ⟨σ,H,I,h⟩
theorem zu (h1:PS X st t)(h2:PSs X rest u):PSs X (st :: rest) (FU t u):=by
  intro pins s σ H D I h
  refine wpAny_execs_cons (thn (h1 pins s σ H { D with nx:=u D } I h) fun f s1 q => ?_)
  cases f with
  | next =>
    obtain⟨σ',H',I',q⟩:=q
    exact h2 pins s1 σ' H' D I' q
  | ret v=>exact q
  | brk=>exact q
  | cont=>exact q
theorem BB (h1:PS X st t):PSs X [st] t:=by
  intro pins s σ H D I h
  refine wpAny_execs_cons (thn (h1 pins s σ H D I h) fun f s1 q => ?_)
  cases f with
  | next=>exact wpAny_execs_nil q
  | ret v=>exact q
  | brk=>exact q
  | cont=>exact q
theorem Inv.quiet {pins:List (Addr × Obj)}{σ:St}{H:Hp}{s:Shared}(I:Inv X pins σ H s):interactive X.env=false:=by simp [interactive,I.ok.kind]
def ES (te:TE):TS:=fun D σ H=>te σ H fun _ H1=>D.nx σ H1
theorem BC (he:PE X e te)(hs:swapsWith e none pos.line X.env=pure false:=by rfl):PS X (.Expr e pos) (ES te):=by
  intro pins s σ H D I h
  exact wpAny_Expr_any (thn (he pins s σ H _ I h) fun v s1 ⟨x,H1,I1,r1,q1⟩=>⟨σ,H1,I1,q1⟩) I.quiet hs
def FV (te:TE):TS:=fun D σ H=>te σ H D.rt
theorem Dp (he:PE X e te):PS X (.Return (some e) pos) (FV te):=by
  intro pins s σ H D I h
  exact wpAny_Return_some (thn (he pins s σ H _ I h) fun v s1 ⟨x,H1,I1,r1,q1⟩=>⟨x,σ,H1,I1,r1,q1⟩)
def FW (c:TT) (t u:TS):TS:=fun D σ H=>c σ H fun b H1=>if b=true then t D σ H1 else u D σ H1
theorem ET {c:Expr}{a b:List Stmt}{tc:TT}(hc:PT X c tc)(ha:PSs X a t)(hb:PSs X b u):PS X (.If c a b pos) (FW tc t u):=by
  intro pins s σ H D I h
  refine wpAny_If (thn (hc pins s σ H _ I h) fun d s1 ⟨H1,I1,q1⟩ => ?_)
  cases d with
  | true=>exact ha pins s1 σ H1 D I1 q1
  | false=>exact hb pins s1 σ H1 D I1 q1
def Dq:TS:=fun _ _ _=>False
theorem zv:PS X st Dq:=fun _ _ _ _ _ _ h=>h.elim
end
abbrev TG:=V→St→Hp→(St→Hp→Prop)→Prop
abbrev TGs:=List V→St→Hp→(St→Hp→Prop)→Prop
def PG (X:Cx) (target:Expr) (t:TG):Prop :=
  ∀ (pins:List (Addr × Obj)) (s:Shared) (σ:St) (H:Hp) (v:V) (u:Value) (Q:St→Hp→Prop),Inv X pins σ H s→bh v u→t v σ H Q →
    wpAny (model X.prog X.w) X.A (assign target X.env u) (fun _ s'=>∃ σ' H',Inv X pins σ' H' s'∧Q σ' H') X.xe s
def PGs (X:Cx) (ts:List Expr) (t:TGs):Prop :=
  ∀ (pins:List (Addr × Obj)) (s:Shared) (σ:St) (H:Hp) (vs:List V) (us:List Value) (Q:St→Hp→Prop),Inv X pins σ H s→aT vs us→t vs σ H Q →
    wpAny (model X.prog X.w) X.A (assignInOrder ((assignEach ts X.env).map (·.2)) us) (fun _ s'=>∃ σ' H',Inv X pins σ' H' s'∧Q σ' H') X.xe s
abbrev Dr:=V→V→V→Hp→(Hp→Prop)→Prop
def Ds (X:Cx) (t:Dr):Prop :=
  ∀ (pins:List (Addr × Obj)) (s:Shared) (σ:St) (H:Hp) (o i v:V) (ov iv u:Value) (Q:Hp→Prop),Inv X pins σ H s→bh o ov→bh i iv→bh v u→t o i v H Q →
    wpAny (model X.prog X.w) X.A (setItem ov iv u) (fun _ s'=>∃ H',Inv X pins σ H' s'∧Q H') X.xe s
section
variable {X:Cx} {pos:Pos}
def CQ (i:Nat):TG:=fun v σ H Q=>Q (σ.set i (some v)) H
theorem BD {i:Nat}{x:Str}(hN:X.N.Nodup)(hi:X.N[i]? = some x)(hx:Loc X.env.scope x)(hf:X.fn x=true∨X.env.scope.names.lookup x=some .local:=by first|exact .inl rfl|exact .inr rfl|assumption):PG X (.Name x pos) (CQ i):=by
  intro pins s σ H v u Q I r h
  exact wpAny_assign_Name (sE I hN hi hx r (fun s' I'=>⟨_,H,I',h⟩) hf)
def FX:TGs:=fun vs σ H Q=>vs=[]∧Q σ H
def EU (t:TG) (u:TGs):TGs:=fun vs σ H Q=>∃ v r,vs=v :: r∧t v σ H fun σ' H'=>u r σ' H' Q
theorem BE:PGs X [] FX:=by
  intro pins s σ H vs us Q I r h
  obtain⟨e,h⟩:=h
  subst e
  cases r
  exact assignInOrder_nil ⟨σ,H,I,h⟩
theorem zw {e:Expr}{es:List Expr}{t:TG}{u:TGs}(h1:PG X e t)(h2:PGs X es u)
    (hs:(assignEach (e :: es) X.env).map (·.2)=assign e X.env :: (assignEach es X.env).map (·.2):=by rfl):PGs X (e :: es) (EU t u):=by
  intro pins s σ H vs us Q I r h
  obtain⟨v,vr,e1,h⟩:=h
  subst e1
  cases r with
  | cons r rr =>
    rw [hs]
    refine assignInOrder_cons (thn (h1 pins s σ H _ _ _ I r h) fun _ s1 ⟨σ1,H1,I1,q1⟩ => ?_)
    exact h2 pins s1 σ1 H1 _ _ Q I1 rr q1
def FY (K:PySem.W.Frag) (n:Nat) (t:TGs):TG:=fun v σ H Q=>∃ a xs,v=.ref a∧SqT K H a xs∧xs.length=n∧t xs σ H Q
theorem Dt {es:List Expr}{k:Nat}{t:TGs}{n:Nat}(hc:X.calm=true)(h:PGs X es t)
    (hn:(assignEach es X.env).length=n:=by rfl) (hst:(assignEach es X.env).findIdx? (·.1)=none:=by rfl):PG X (.Tuple es k pos) (FY X.K n t):=by
  intro pins s σ H v u Q I r hw
  obtain⟨a,xs,e1,hq,hl,hw⟩:=hw
  subst e1
  cases r
  obtain⟨its,rv,ht,hz⟩:=I.tuple hq
  refine assign_Tuple_tuple (I.ok.hd hc) ht (by simp [hn,← hl,rv.length]) hst fun h' hx => ?_
  have I1:Inv X pins σ H { s with heap:=h' }:=I.kept (t':=s.toks) fun b o e=>hx b o (Nat.ne_of_lt (Heap.lt_size e)) e
  exact h pins _ σ H xs _ Q I1 (by simpa using rv) hw
def FZ (to ti:TE) (t:Dr):TG:=fun v σ H Q=>to σ H fun o H1=>ti σ H1 fun i H2=>t o i v H2 fun H3=>Q σ H3
theorem zx {o i:Expr}{to ti:TE}{t:Dr}(ho:PE X o to)(hi:PE X i ti)(hs:Ds X t)
    (ha:∀ v,assign (.Subscript o i pos) X.env v=(do
      let ov ← holding [v] (eval o X.env)
      let iv ← holding [v,ov] (eval i X.env)
      standAt pos
      holding [v,ov,iv] (setItem ov iv v)
      release [v,ov,iv] []):=by intro _;rfl):PG X (.Subscript o i pos) (FZ to ti t):=by
  intro pins s σ H v u Q I r h
  rw [ha]
  refine wpAny_bind (wpAny_holding (thn (ho pins s σ H _ I h) fun ov s1 ⟨x,H1,I1,r1,q1⟩ => ?_))
  refine wpAny_bind (wpAny_holding (thn (hi pins s1 σ H1 _ I1 q1) fun iv s2 ⟨y,H2,I2,r2,q2⟩ => ?_))
  refine wpAny_bind (wpAny_standAt (wpAny_bind (wpAny_holding (thn (hs pins s2 σ H2 x y v ov iv u _ I2 r1 r2 r q2) fun _ s3 ⟨H3,I3,q3⟩ => ?_))))
  exact wpAny_release ⟨σ,H3,I3,q3⟩
def EV (te:TE) (g:TG):TS:=fun D σ H=>te σ H fun x H1=>g x σ H1 D.nx
theorem uJ {tg e:Expr}{te:TE}{g:TG}(he:PE X e te)(hg:PG X tg g)(hs:swapsWithSole [tg] e pos.line X.env=pure false:=by rfl)(hw:swappedStores [tg] e X.env=pure none:=by rfl)
    (h1:(assignEach [tg] X.env).map (·.2)=[assign tg X.env]:=by rfl):PS X (.Assign [tg] e pos) (EV te g):=by
  intro pins s σ H D I h
  refine wpAny_Assign_stores (thn (he pins s σ H _ I h) fun v s1 ⟨x,H1,I1,r1,q1⟩ => ?_) hs hw
  rw [h1]
  exact thn (hg pins s1 σ H1 x v _ I1 r1 q1) fun _ s2 q=>q
theorem Du {i:Nat}{x:Str}{e:Expr}{te:TE}{pos':Pos}(hN:X.N.Nodup)(hi:X.N[i]? = some x)(hx:Loc X.env.scope x)(he:PE X e te)(hs:swapsWith e (some (.Name x pos')) pos.line X.env=pure false:=by rfl)(hf:X.fn x=true∨X.env.scope.names.lookup x=some .local:=by first|exact .inl rfl|exact .inr rfl|assumption) :
    PS X (.Assign [.Name x pos'] e pos) (EV te (CQ i)):=by
  intro pins s σ H D I h
  refine wpAny_Assign_Name (thn (he pins s σ H _ I h) fun v s1 ⟨y,H1,I1,r1,q1⟩ => ?_) hs
  exact sE I1 hN hi hx r1 (fun s2 I2=>⟨_,H1,I2,q1⟩) hf
end
section
variable {X:Cx} {pos:Pos}
def Dv (c:TT) (tb:TS):TS:=fun D σ H=>∃ W:Nat→St→Hp→Prop,(∃ m,W m σ H) ∧ ∀ m σ H,W m σ H →
  c σ H fun b H1=>if b=true then ∃ N:St→Hp→Prop,(∀ σ' H',N σ' H' → ∃ m',m' < m∧W m' σ' H')∧tb { D with nx:=N,ct:=N,bk:=D.nx } σ H1 else D.nx σ H1
theorem zy {c:Expr}{body:List Stmt}{tc:TT}{tb:TS}(hp:PassesOwn (model X.prog X.w) X.A X.env X.xe)(hc:PT X c tc)(hb:PSs X body tb):PS X (.While c body [] pos) (Dv tc tb):=by
  intro pins s σ H D I h
  obtain⟨W,⟨m0,w0⟩,turn⟩:=h
  refine wpAny_While (codeAny_whileLoop (fun n s'=>∃ σ' H',Inv X pins σ' H' s'∧W n σ' H') ?_ m0 ⟨σ,H,I,w0⟩)
  rintro n s1 ⟨σ1,H1,I1,w1⟩
  refine wpAny_passesOwn hp (thn (hc pins s1 σ1 H1 _ I1 (turn n σ1 H1 w1)) fun b s2 ⟨H2,I2,q2⟩ => ?_)
  cases b with
  | true =>
    obtain⟨N,hN,q2⟩:=q2
    rw [if_pos rfl]
    refine wpAny_passesOwn hp (thn (hb pins s2 σ1 H2 _ I2 q2) fun f s3 q3 => ?_)
    cases f with
    | next =>
      obtain⟨σ3,H3,I3,n3⟩:=q3
      obtain⟨m',hm,w3⟩:=hN σ3 H3 n3
      exact⟨m',hm,σ3,H3,I3,w3⟩
    | cont =>
      obtain⟨σ3,H3,I3,n3⟩:=q3
      obtain⟨m',hm,w3⟩:=hN σ3 H3 n3
      exact⟨m',hm,σ3,H3,I3,w3⟩
    | brk=>exact q3
    | ret v=>exact q3
  | false =>
    rw [if_neg Bool.false_ne_true]
    exact wpAny_execs_nil ⟨σ1,H2,I2,q2⟩
end
structure It where
  go:Nat→Hp→Prop
  yld:Nat→Hp→V→Hp→Prop
  stop:Nat→Hp→Prop
def ly (X:Cx) (pins:List (Addr × Obj)) (H:Hp) (b:Addr):Prop :=
  H b=none∧b≠X.env.locals∧b∉X.fs∧(b∈X.ex∨X.s₀.heap.objs.size≤b)∧(∀ x c,X.env.cells.lookup x=some c→c≠b) ∧ ∀ p∈X.pn++pins,p.1≠b
theorem Inv.fpOk {X:Cx}{pins:List (Addr × Obj)}{σ:St}{H H':Hp}{s:Shared}{b:Addr}(I:Inv X pins σ H s)(hb:s.heap.objs.size≤b)(hn:H' b=none):ly X pins H' b:=by
  refine⟨hn,Nat.ne_of_gt (Nat.lt_of_lt_of_le I.lt hb),I.nofs hb,.inr (Nat.le_trans I.sz hb),fun x c e z => ?_,fun p hp z => ?_⟩
  · obtain⟨v,q⟩:=I.cell x c e
    exact absurd (Nat.lt_of_lt_of_le q.lt (by rw [z];exact hb)) (Nat.lt_irrefl _)
  · exact absurd (Nat.lt_of_lt_of_le (Heap.lt_size (I.pin p hp).1) (by rw [z];exact hb)) (Nat.lt_irrefl _)
structure uK (P:Program) (w:World) (K:PySem.W.Frag) (tg:Expr) (J:It) (fp:List Addr) (it:Addr) (tn:Nat→Heap→Prop):Prop where
  mem:it∈fp
  obj:∀ i h,tn i h → ∀ b∈fp,∃ o,h.get? b=some o ∧ ∀ v,o.data ≠ .cell v
  keep:∀ i h h',tn i h→(∀ b∈fp,∀ o,h.get? b=some o→h'.get? b=some o)→tn i h'
  item:∀ (X:Cx),X.prog=P→X.w=w→X.K=K→X.calm=true → ∀ (i:Nat) (pins:List (Addr × Obj)) (s:Shared) (σ:St) (H:Hp) (E:Value→Shared→Prop),Inv X pins σ H s→(∀ b∈fp,ly X pins H b)→tn i s.heap→J.go i H →
    wpAny (model P w) X.A (pyNext (.ref it)) (fun r s1=>∃ u,r=some u ∧
      wpAny (model P w) X.A (letOwnedTupleGo tg (.ref it) u) (fun _ s2=>∃ x H',Inv X pins σ H' s2∧bh x u∧J.yld i H x H'∧tn (i + 1) s2.heap ∧ ∀ b∈fp,H' b=none) E s1) E s
  done:∀ (X:Cx),X.prog=P→X.w=w→X.K=K→X.calm=true → ∀ (i:Nat) (pins:List (Addr × Obj)) (s:Shared) (σ:St) (H:Hp) (E:Value→Shared→Prop),Inv X pins σ H s→(∀ b∈fp,ly X pins H b)→tn i s.heap→J.stop i H →
    wpAny (model P w) X.A (pyNext (.ref it)) (fun r s1=>r=none∧Inv X pins σ H s1) E s
  self:∀ (A:Around) (i:Nat) (s:Shared) (Q:Value→Shared→Prop) (E:Value→Shared→Prop),tn i s.heap→Q (.ref it) s→wpAny (model P w) A (pyIter (.ref it)) Q E s
abbrev TI:=St→Hp→(It→Hp→Prop)→Prop
def PIE (X:Cx) (pins:List (Addr × Obj)) (σ:St) (tg:Expr) (R:It→Hp→Prop) (itv:Value) (s2:Shared):Prop :=
  ∃ (it:Addr) (fp:List Addr) (tn:Nat→Heap→Prop) (J:It) (H':Hp),itv=.ref it∧Inv X pins σ H' s2∧uK X.prog X.w X.K tg J fp it tn∧tn 0 s2.heap∧(∀ b∈fp,ly X pins H' b)∧R J H'
def PI (X:Cx) (tg iter:Expr) (wi:TI):Prop :=
  ∀ (pins:List (Addr × Obj)) (s:Shared) (σ:St) (H:Hp) (R:It→Hp→Prop),Inv X pins σ H s→wi σ H R →
    wpAny (model X.prog X.w) X.A (eval iter X.env) (fun v s1=>wpAny (model X.prog X.w) X.A (pyIter v) (PIE X pins σ tg R) X.xe s1) X.xe s
theorem zA {M:Model}{A:Around}{E:Value→Shared→Prop}{s:Shared}{tg:Expr}{it:Addr}{u:Value}{o:Obj}{n:String}{vs:Array Value}{Q:Unit→Shared→Prop}(ho:s.heap.get? it=some o)(hc:o.cls=.type n)(hd:o.data=.fields vs)
    (hn : ["enumerate", "zip", "dict_itemiterator", "dict_reverseitemiterator", "odict_iterator", "itertools.zip_longest", "itertools.pairwise"].contains n=false) (hQ:Q () s):wpAny M A (letOwnedTupleGo tg (.ref it) u) Q E s:=by
  unfold letOwnedTupleGo
  cases tg<;>first
    | exact wpAny_pure hQ
    | (cases u<;>first
        | exact wpAny_pure hQ
        | (refine wpAny_bind (wpAny_load ho ?_)
           rw [hc,hd]
           show wpAny M A (if (["enumerate", "zip", "dict_itemiterator", "dict_reverseitemiterator", "odict_iterator", "itertools.zip_longest", "itertools.pairwise"].contains n && vs[0]? == some (rawInt _))=true then _ else _) Q E s
           rw [if_neg (by intro h;rw [hn,Bool.false_and] at h;cases h)]
           exact wpAny_pure hQ))
def Itl (K:PySem.W.Frag) (a:Addr):It :=
  ⟨fun i H=>∃ xs x,SqL K H a xs∧xs[i]? = some x,fun i H x H'=>H'=H ∧ ∀ xs,SqL K H a xs→xs[i]? = some x,fun i H=>∃ xs,SqL K H a xs∧xs.length≤i⟩
def Itt (K:PySem.W.Frag) (a:Addr):It :=
  ⟨fun i H=>∃ xs x,SqT K H a xs∧xs[i]? = some x,fun i H x H'=>H'=H ∧ ∀ xs,SqT K H a xs→xs[i]? = some x,fun i H=>∃ xs,SqT K H a xs∧xs.length≤i⟩
def Itr (lo:Int) (n:Nat):It:=⟨fun i _=>i < n,fun i H x H'=>H'=H∧x=.int (lo + i),fun i _=>n≤i⟩
theorem xU {P:Program}{w:World}{K:PySem.W.Frag}{tg:Expr}(a it:Addr):uK P w K tg (Itl K a) [it] it (fun i h=>h.IsListIter it a i) where
  mem:=by simp
  obj:=fun i h st b hb=>by
    have e:b=it:=by simpa using hb
    subst e
    obtain⟨o,e,c,d⟩:=st
    exact⟨o,e,fun v z=>by rw [d] at z;cases z⟩
  keep:=fun i h h' st k=>st.at fun o e=>k it (by simp) o e
  item:=by
    intro X hP hw hK hc i pins s σ H E I hf st hg
    subst hP hw hK
    obtain⟨xs,x,hq,hx⟩:=hg
    obtain⟨its,rv,p,hz⟩:=I.list hq
    obtain⟨u,hu,ru⟩:=rv.get hx
    obtain⟨f0,f1,f2,f3,f4,f5⟩:=hf it (by simp)
    refine wpAny_pyNext_list_item st p.isList (x:=u) (by simpa using hu) fun h' st' sb => ?_
    have I1:Inv X pins σ H { s with heap:=h' }:=I.turned (t':=s.toks) (fun b o hb e=>(sb.2 b hb).trans e) f0 f1 f3 f4 f5
    obtain⟨o,e,c,d⟩:=id st'
    exact⟨u,rfl,zA (s:={ s with heap:=h' }) e c d (by decide) ⟨x,H,I1,ru,⟨rfl,fun ys hy=>by rw [I.list_inj hy hq];exact hx⟩,st',fun b hb=>(hf b hb).1⟩⟩
  done:=by
    intro X hP hw hK hc i pins s σ H E I hf st hg
    subst hP hw hK
    obtain⟨xs,hq,hx⟩:=hg
    obtain⟨its,rv,p,hz⟩:=I.list hq
    obtain⟨f0,f1,f2,f3,f4,f5⟩:=hf it (by simp)
    have hl:=rv.length
    exact wpAny_pyNext_list_end (I.ok.hd hc) st p.isList (by simp;omega) fun h' eb=>⟨rfl,I.turned (t':=s.toks) (fun b o hb e=>eb b o hb e) f0 f1 f3 f4 f5⟩
  self:=fun _ _ _ _ _ st h=>wpAny_pyIter_listiter st h
theorem uL {P:Program}{w:World}{K:PySem.W.Frag}{tg:Expr}(a it:Addr):uK P w K tg (Itt K a) [it] it (fun i h=>h.IsTupleIter it a i) where
  mem:=by simp
  obj:=fun i h st b hb=>by
    have e:b=it:=by simpa using hb
    subst e
    obtain⟨o,e,c,d⟩:=st
    exact⟨o,e,fun v z=>by rw [d] at z;cases z⟩
  keep:=fun i h h' st k=>st.at fun o e=>k it (by simp) o e
  item:=by
    intro X hP hw hK hc i pins s σ H E I hf st hg
    subst hP hw hK
    obtain⟨xs,x,hq,hx⟩:=hg
    obtain⟨its,rv,p,hz⟩:=I.tuple hq
    obtain⟨u,hu,ru⟩:=rv.get hx
    obtain⟨f0,f1,f2,f3,f4,f5⟩:=hf it (by simp)
    refine wpAny_pyNext_tuple_item st (show s.heap.IsTuple a its.toArray from p) (x:=u) (by simpa using hu) fun h' st' sb => ?_
    have I1:Inv X pins σ H { s with heap:=h' }:=I.turned (t':=s.toks) (fun b o hb e=>(sb.2 b hb).trans e) f0 f1 f3 f4 f5
    obtain⟨o,e,c,d⟩:=id st'
    exact⟨u,rfl,zA (s:={ s with heap:=h' }) e c d (by decide) ⟨x,H,I1,ru,⟨rfl,fun ys hy=>by rw [I.tuple_inj hy hq];exact hx⟩,st',fun b hb=>(hf b hb).1⟩⟩
  done:=by
    intro X hP hw hK hc i pins s σ H E I hf st hg
    subst hP hw hK
    obtain⟨xs,hq,hx⟩:=hg
    obtain⟨its,rv,p,hz⟩:=I.tuple hq
    obtain⟨f0,f1,f2,f3,f4,f5⟩:=hf it (by simp)
    have hl:=rv.length
    exact wpAny_pyNext_tuple_end (I.ok.hd hc) st (show s.heap.IsTuple a its.toArray from p) (by simp;omega) fun h' eb=>⟨rfl,I.turned (t':=s.toks) (fun b o hb e=>eb b o hb e) f0 f1 f3 f4 f5⟩
  self:=fun _ _ _ _ _ st h=>wpAny_pyIter_tupleiter st h
theorem uM {P:Program}{w:World}{K:PySem.W.Frag}{tg:Expr}(it:Addr)(lo:Int)(n:Nat):uK P w K tg (Itr lo n) [it] it (fun i h=>IsRangeIter h it (lo + (i:Nat) * 1) ((n:Int) - (i:Nat)) 1) where
  mem:=by simp
  obj:=fun i h st b hb=>by
    have e:b=it:=by simpa using hb
    subst e
    exact⟨_,st,fun v z=>by
      have z':Data.fields _=Data.cell v:=z
      cases z'⟩
  keep:=fun i h h' st k=>k it (by simp) _ st
  item:=by
    intro X hP hw hK hc i pins s σ H E I hf st hg
    subst hP hw hK
    obtain⟨f0,f1,f2,f3,f4,f5⟩:=hf it (by simp)
    have W:=Walks.range (prog:=X.prog) (w:=X.w) (I.ok.hd hc) it lo 1 n
    refine W.item i s _ _ hg st fun v h' tk hv st' kk => ?_
    obtain⟨t,rfl⟩:=hv
    have I1:Inv X pins σ H { s with heap:=h',toks:=tk }:=I.turned (fun b o hb e=>kk b o (by simpa using hb) e) f0 f1 f3 f4 f5
    refine⟨_,rfl,zA (s:={ s with heap:=h',toks:=tk }) (n := "range_iterator") st' rfl rfl (by decide) ⟨.int (lo + i),H,I1,⟨t,?_⟩,⟨rfl,rfl⟩,st',fun b hb=>(hf b hb).1⟩⟩
    rw [Int.mul_one]
  done:=by
    intro X hP hw hK hc i pins s σ H E I hf st hg
    subst hP hw hK
    obtain⟨f0,f1,f2,f3,f4,f5⟩:=hf it (by simp)
    exact wpAny_pyNext_range_end (I.ok.hd hc) st (by have:n≤i:=hg;omega) fun h' eb=>⟨rfl,I.turned (t':=s.toks) (fun b o hb e=>eb b o hb e) f0 f1 f3 f4 f5⟩
  self:=fun _ _ _ _ _ st h=>wpAny_pyIter_rangeiter st h
end L2
namespace L2
open PySem PySem.Spec PyProof.Rows
section
variable {X:Cx} {tg:Expr}
theorem zB {pins:List (Addr × Obj)}{σ:St}{H:Hp}{s:Shared}{R:It→Hp→Prop}{E:Value→Shared→Prop}{lo hi:Int}{t u v:Tok}{tk:Nat}(I:Inv X pins σ H s)(h1 : -(2 ^ 62)≤lo)(h2:lo < 2 ^ 62)(h3 : -(2 ^ 62)≤hi)(h4:hi < 2 ^ 62)
    (q:R (Itr lo (hi - lo).toNat) H):wpAny (model X.prog X.w) X.A (pyIter (.ref s.heap.objs.size)) (PIE X pins σ tg R) E { s with heap:=s.heap.push { cls:=.type "range",data:=.fields #[.int lo t,.int hi u,.int 1 v] },toks:=tk }:=by
  refine wpAny_pyIter_range (IsRange.new ..) (small_one h1 h2 h3 h4) ?_
  have I1:Inv X pins σ H { s with heap:=s.heap.push { cls:=.type "range",data:=.fields #[.int lo t,.int hi u,.int 1 v] },toks:=tk }:=I.kept fun b o e=>Heap.get?_push_of_some _ e
  refine⟨(s.heap.push { cls:=.type "range",data:=.fields #[.int lo t,.int hi u,.int 1 v] }).objs.size,[(s.heap.push { cls:=.type "range",data:=.fields #[.int lo t,.int hi u,.int 1 v] }).objs.size],_,_,H,rfl,
    I1.kept (t':=tk) fun b o e=>Heap.get?_push_of_some _ e,uM _ lo (hi - lo).toNat,?_,fun b hb => ?_,q⟩
  · have e1:lo + ((0:Nat):Int) * 1=lo:=by simp
    have e2:(((hi - lo).toNat:Nat):Int) - ((0:Nat):Int)=Builtin.Range.rangeSize lo hi 1:=by rw [rangeSize_one];split<;>omega
    show IsRangeIter _ _ (lo + ((0:Nat):Int) * 1) ((((hi - lo).toNat:Nat):Int) - ((0:Nat):Int)) 1
    rw [e1,e2]
    exact Heap.get?_push_size _ rfl
  · have e:b=(s.heap.push { cls:=.type "range",data:=.fields #[.int lo t,.int hi u,.int 1 v] }).objs.size:=by simpa using hb
    subst e
    exact I1.fpOk (Nat.le_refl _) (I1.hok.fresh (Nat.le_refl _))
def EW (ta:TA):TI:=fun σ H R=>ta σ H fun vs H1=>∃ j:Int,vs=[.int j] ∧ -(2 ^ 62)≤j∧j < 2 ^ 62∧R (Itr 0 j.toNat) H1
theorem xV {a:Expr} {ta:TA} {p pos:Pos} (hg:Gl X "range") (hm:X.mg "range" = none) (ha:PA X [a] ta) (hs:starEach [a] X.env=[(false,eval a X.env)]:=by rfl):PI X tg (.Call (.Name "range" p) [a] [] pos) (EW ta):=by
  intro pins s σ H R I h
  refine Call_ (jH I hg hm boot_range (PyProof.Rows.callWith_type1 (thn (ha pos pins s σ H _ I h) fun us s1 ⟨vs,H1,I1,r1,q1⟩ => ?_) hs rfl))
  obtain⟨j,e,q1,q2,q⟩:=q1
  subst e
  cases r1 with
  | cons r rr =>
    cases rr
    obtain⟨t,rfl⟩:=r
    exact call_range_1 (zB I1 (by omega) (by omega) q1 q2 (by simpa using q))
def F3 (wi:TI) (g:TG) (tb:TS):TS:=fun D σ H=>wi σ H fun J H1=>∃ W:Nat→Nat→St→Hp→Prop,(∃ m,W 0 m σ H1) ∧ ∀ i m σ H,W i m σ H →
  (J.stop i H∧D.nx σ H)∨(J.go i H ∧ ∃ N:St→Hp→Prop,(∀ σ' H',N σ' H' → ∃ m',m' < m∧W (i + 1) m' σ' H') ∧ ∀ x H',J.yld i H x H'→g x σ H' fun σ2 H2=>tb { D with nx:=N,ct:=N,bk:=D.nx } σ2 H2)
def lA (fp:List Addr) (h:Heap):List (Addr × Obj):=fp.filterMap fun b=>(h.get? b).map fun o=>(b,o)
theorem fU {fp:List Addr}{h:Heap}{b:Addr}{o:Obj}(hb:b∈fp)(e:h.get? b=some o):(b,o)∈lA fp h:=List.mem_filterMap.mpr ⟨b,hb,by rw [e];rfl⟩
theorem xW {fp:List Addr}{h:Heap}{p:Addr × Obj}(hp:p∈lA fp h):p.1∈fp∧h.get? p.1=some p.2:=by
  obtain⟨b,hb,e⟩:=List.mem_filterMap.mp hp
  cases q:h.get? b with
  | none=>rw [q] at e;cases e
  | some o =>
    rw [q] at e
    have e':(b,o)=p:=Option.some.inj e
    subst e'
    exact⟨hb,q⟩
theorem Inv.pinned {pins:List (Addr × Obj)}{σ:St}{H:Hp}{s:Shared}{fp:List Addr}(I:Inv X pins σ H s)(hf:∀ b∈fp,ly X pins H b)(ho:∀ b∈fp,∃ o,s.heap.get? b=some o ∧ ∀ v,o.data ≠ .cell v):Inv X (pins++lA fp s.heap) σ H s :=
  I.pins_of fun p hp=>(List.mem_append.mp hp).elim (fun z=>I.pin p (List.mem_append_right _ z)) fun z=>by
    obtain⟨hb,e⟩:=xW z
    obtain⟨f0,f1,f2,_⟩:=hf p.1 hb
    obtain⟨o,e',d⟩:=ho p.1 hb
    rw [e] at e';cases e'
    exact⟨e,f0,f1,f2,d⟩
theorem Inv.unpinned {pins pl:List (Addr × Obj)}{σ:St}{H:Hp}{s:Shared}(I:Inv X (pins++pl) σ H s):Inv X pins σ H s:=I.pins_of fun p hp=>I.pin p (List.mem_append_right _ (List.mem_append_left _ hp))
theorem Dw {iter:Expr}{body:List Stmt}{wi:TI}{g:TG}{tb:TS}{pos:Pos}(hp:PassesOwn (model X.prog X.w) X.A X.env X.xe)(hc:X.calm=true)(hi:PI X tg iter wi)(hg:PG X tg g)(hb:PSs X body tb)
    (hs:∀ x,foldedSetIterable iter X.env x=pure x:=by intro _;rfl):PS X (.For tg iter body [] pos) (F3 wi g tb):=by
  intro pins s σ H D I h
  refine wpAny_For (thn (hi pins s σ H _ I h) fun v s1 h1=>thn h1 fun itv s2 h2 => ?_) hs
  obtain⟨it,fp,tn,J,H2,e,I2,T,st2,f2,W,⟨m0,w0⟩,turn⟩:=h2
  subst e
  have stat:∀ {H':Hp},(∀ b∈fp,H' b=none) → ∀ b∈fp,ly X pins H' b:=fun hn b hb=>⟨hn b hb,(f2 b hb).2⟩
  refine codeAny_forLoop_any (fun n s'=>∃ i σ' H',Inv X pins σ' H' s'∧tn i s'.heap∧(∀ b∈fp,H' b=none)∧W i n σ' H') ?_ m0 ⟨0,σ,H2,I2,st2,fun b hb=>(f2 b hb).1,w0⟩
  rintro n s3 ⟨i,σ3,H3,I3,st3,fr3,w3⟩
  rcases turn i n σ3 H3 w3 with ⟨stop,qn⟩|⟨go,N,hN,step⟩
  · refine wpAny_passesOwn hp (thn (T.done X rfl rfl rfl hc i pins s3 σ3 H3 X.xe I3 (stat fr3) st3 stop) fun r s4 ⟨hr,I4⟩ => ?_)
    subst hr
    exact wpAny_execs_nil ⟨σ3,H3,I4,qn⟩
  · refine wpAny_passesOwn hp (thn (T.item X rfl rfl rfl hc i pins s3 σ3 H3 X.xe I3 (stat fr3) st3 go) fun r s4 ⟨u,hr,h4⟩ => ?_)
    subst hr
    refine wpAny_passesOwn hp (thn h4 fun _ s5 ⟨x,H5,I5,r5,y5,st5,fr5⟩ => ?_)
    have I5':=I5.pinned (stat fr5) (T.obj _ _ st5)
    refine wpAny_passesOwn hp (thn (hg _ s5 σ3 H5 x u _ I5' r5 (step x H5 y5)) fun _ s6 ⟨σ6,H6,I6,q6⟩ => ?_)
    refine wpAny_passesOwn hp (thn (hb _ s6 σ6 H6 _ I6 q6) fun f s7 q7 => ?_)
    have again:∀ {σ7:St} {H7:Hp},Inv X (pins++lA fp s5.heap) σ7 H7 s7→N σ7 H7 → ∃ m,m < n ∧ ∃ i σ' H',Inv X pins σ' H' s7∧tn i s7.heap∧(∀ b∈fp,H' b=none)∧W i m σ' H':=fun {σ7 H7} I7 n7=>by
      obtain⟨m',hm,w7⟩:=hN σ7 H7 n7
      refine⟨m',hm,i + 1,σ7,H7,I7.unpinned,T.keep _ _ _ st5 fun b hb o e=>(I7.pin (b,o) (List.mem_append_right _ (List.mem_append_right _ (fU hb e)))).1,fun b hb => ?_,w7⟩
      obtain⟨o,e,d⟩:=T.obj _ _ st5 b hb
      exact (I7.pin (b,o) (List.mem_append_right _ (List.mem_append_right _ (fU hb e)))).2.1
    cases f with
    | next=>obtain⟨σ7,H7,I7,n7⟩:=q7;exact again I7 n7
    | cont=>obtain⟨σ7,H7,I7,n7⟩:=q7;exact again I7 n7
    | brk=>obtain⟨σ7,H7,I7,q7⟩:=q7;exact⟨σ7,H7,I7.unpinned,q7⟩
    | ret v=>obtain⟨x7,σ7,H7,I7,r7,q7⟩:=q7;exact⟨x7,σ7,H7,I7.unpinned,r7,q7⟩
end
end L2
namespace L2
open PySem PySem.Spec PyProof.Rows
abbrev R2:=V→V→Hp→VK→Prop
def OpR (X:Cx) (f:Value→Value→Sem Value) (r:R2):Prop :=
  ∀ (pins:List (Addr × Obj)) (s:Shared) (σ:St) (H:Hp) (x y:V) (v u:Value) (Q:VK),Inv X pins σ H s→bh x v→bh y u→r x y H Q →
    wpAny (model X.prog X.w) X.A (f v u) (EP X pins σ Q) X.xe s
def UnR (X:Cx) (f:Value→Sem Value) (r:V→Hp→VK→Prop):Prop :=
  ∀ (pins:List (Addr × Obj)) (s:Shared) (σ:St) (H:Hp) (x:V) (v:Value) (Q:VK),Inv X pins σ H s→bh x v→r x H Q →
    wpAny (model X.prog X.w) X.A (f v) (EP X pins σ Q) X.xe s
def eU (X:Cx) (f:Value) (r:List V→Hp→VK→Prop):Prop :=
  ∀ (pins:List (Addr × Obj)) (s:Shared) (σ:St) (H:Hp) (xs:List V) (us:List Value) (Q:VK),Inv X pins σ H s→aT xs us→r xs H Q →
    wpAny (model X.prog X.w) X.A (call f us) (EP X pins σ Q) X.xe s
def tOp (r:R2) (ta tb:TE):TE:=fun σ H Q=>ta σ H fun x H1=>tb σ H1 fun y H2=>r x y H2 Q
def tUn (r:V→Hp→VK→Prop) (ta:TE):TE:=fun σ H Q=>ta σ H fun x H1=>r x H1 Q
def rI (C:Int→Int→Prop) (g:Int→Int→V):R2:=fun x y H Q=>∃ i j,x=.int i∧y=.int j∧C i j∧Q (g i j) H
def rI0 (g:Int→Int→V):R2:=fun x y H Q=>∃ i j,x=.int i∧y=.int j∧Q (g i j) H
def rU (g:Int→V):V→Hp→VK→Prop:=fun x H Q=>∃ i,x=.int i∧Q (g i) H
section
variable {X:Cx} {a b c:Expr} {ta tb tc:TE} {pos:Pos}
theorem Dx (ha:PE X a ta)(hb:PE X b tb){pins:List (Addr × Obj)}{s:Shared}{σ:St}{H:Hp}{R:V→V→Hp→Prop}(I:Inv X pins σ H s)
    (h:ta σ H fun x H1=>tb σ H1 fun y H2=>R x y H2) {Q:Value→Shared→Prop} {f:Value→Value→Sem Value}
    (hf:∀ v u s2 x y H2,Inv X pins σ H2 s2→bh x v→bh y u→R x y H2→wpAny (model X.prog X.w) X.A (f v u) Q X.xe s2) :
    wpAny (model X.prog X.w) X.A (eval a X.env) (fun v s₁ => wpAny (model X.prog X.w) X.A (eval b X.env) (fun u s₂ => wpAny (model X.prog X.w) X.A (f v u) Q X.xe s₂) X.xe s₁) X.xe s:=by
  refine thn (ha pins s σ H _ I h) fun v s1 ⟨x,H1,I1,r1,q1⟩ => ?_
  refine thn (hb pins s1 σ H1 _ I1 q1) fun u s2 ⟨y,H2,I2,r2,q2⟩ => ?_
  exact hf v u s2 x y H2 I2 r1 r2 q2
theorem EX {op:Operator}{r:R2}(ho:OpR X (binaryOp op) r)(ha:PE X a ta)(hb:PE X b tb):PE X (.BinOp a op b pos) (tOp r ta tb):=by
  intro pins s σ H Q I h
  exact wpAny_BinOp (Dx ha hb I h fun v u s2 x y H2 I2 rx ry q=>ho pins s2 σ H2 x y v u Q I2 rx ry q)
theorem EY {op:UnaryOp}{r:V→Hp→VK→Prop}(ho:UnR X (unaryOp op) r)(ha:PE X a ta):PE X (.UnaryOp op a pos) (tUn r ta):=by
  intro pins s σ H Q I h
  exact UnaryOp_ (thn (ha pins s σ H _ I h) fun v s1 ⟨x,H1,I1,r1,q1⟩=>ho pins s1 σ H1 x v Q I1 r1 q1)
theorem opI {f:Value→Value→Sem Value}{C:Int→Int→Prop}{g:Int→Int→Int}
    (rule:∀ (i j:Int) (t u:Tok) (s:Shared) (Q:Value→Shared→Prop) (E:Value→Shared→Prop),C i j→Q (.int (g i j) s.toks) { s with toks:=s.toks + 1 } → wpAny (model X.prog X.w) X.A (f (.int i t) (.int j u)) Q E s) :
    OpR X f (rI C fun i j=>.int (g i j)):=by
  intro pins s σ H x y v u Q I rx ry h
  obtain⟨i,j,rfl,rfl,hc,q⟩:=h
  obtain⟨t,rfl⟩:=rx
  obtain⟨t',rfl⟩:=ry
  exact rule i j t t' s _ _ hc ⟨.int (g i j),H,I.tok _,⟨_,rfl⟩,q⟩
theorem EZ {f:Value→Value→Sem Value}{g:Int→Int→Int}
    (rule:∀ (i j:Int) (t u:Tok) (s:Shared) (Q:Value→Shared→Prop) (E:Value→Shared→Prop),Q (.int (g i j) s.toks) { s with toks:=s.toks + 1 } → wpAny (model X.prog X.w) X.A (f (.int i t) (.int j u)) Q E s) :
    OpR X f (rI0 fun i j=>.int (g i j)):=by
  intro pins s σ H x y v u Q I rx ry h
  obtain⟨i,j,rfl,rfl,q⟩:=h
  obtain⟨t,rfl⟩:=rx
  obtain⟨t',rfl⟩:=ry
  exact rule i j t t' s _ _ ⟨.int (g i j),H,I.tok _,⟨_,rfl⟩,q⟩
theorem Dy {f:Value→Value→Sem Value}{g:Int→Int→Bool}
    (rule:∀ (i j:Int) (t u:Tok) (s:Shared) (Q:Value→Shared→Prop) (E:Value→Shared→Prop),Q (.bool (g i j)) s→wpAny (model X.prog X.w) X.A (f (.int i t) (.int j u)) Q E s) :
    OpR X f (rI0 fun i j=>.bl (g i j)):=by
  intro pins s σ H x y v u Q I rx ry h
  obtain⟨i,j,rfl,rfl,q⟩:=h
  obtain⟨t,rfl⟩:=rx
  obtain⟨t',rfl⟩:=ry
  exact rule i j t t' s _ _ ⟨.bl (g i j),H,I,rfl,q⟩
def E1 (i j:Int):Prop:=0≤j∧j≤1000000∧i.natAbs < 2 ^ 64
def BF (i j:Int):Prop:=(-(2 ^ 64) < i∧i < 2 ^ 64)∨(-(2 ^ 64) < j∧j < 2 ^ 64)
theorem BF.ok {i j:Int}(h:BF i j):IntMulOk i j:=by
  rcases h with ⟨h1,h2⟩|⟨h1,h2⟩
  · exact .of_left (intBits_le_64 h1 h2)
  · exact .of_right (intBits_le_64 h1 h2)
theorem Dz:OpR X (binaryOp .Add) (rI0 fun i j=>.int (i + j)):=EZ fun _ _ _ _ _ _ _ q=>add_int q
theorem iO:OpR X (binaryOp .Sub) (rI0 fun i j=>.int (i - j)):=EZ fun _ _ _ _ _ _ _ q=>sub_int q
theorem eE:OpR X (binaryOp .Mult) (rI BF fun i j=>.int (i * j)):=opI fun _ _ _ _ _ _ _ hc q=>mul_int q hc.ok
theorem gE:OpR X (binaryOp .Mod) (rI (fun _ j=>0 < j) fun i j=>.int (i % j)):=opI fun i j _ _ _ _ _ hc q=>by
  have h1:(0:Int) < j:=hc
  exact mod_int' (by omega) (by rw [Int.fmod_eq_emod_of_nonneg i (by omega)];exact q)
theorem qd:OpR X (binaryOp .Pow) (rI E1 fun i j=>.int (i ^ j.toNat)):=opI fun _ _ _ _ _ _ _ hc q=>pow_int_small hc.1 hc.2.1 hc.2.2 q
theorem unI {f:Value→Sem Value}{g:Int→Int}
    (rule:∀ (i:Int) (t:Tok) (s:Shared) (Q:Value→Shared→Prop) (E:Value→Shared→Prop),Q (.int (g i) s.toks) { s with toks:=s.toks + 1 } → wpAny (model X.prog X.w) X.A (f (.int i t)) Q E s) :
    UnR X f (rU fun i=>.int (g i)):=by
  intro pins s σ H x v Q I rx h
  obtain⟨i,rfl,q⟩:=h
  obtain⟨t,rfl⟩:=rx
  exact rule i t s _ _ ⟨.int (g i),H,I.tok _,⟨_,rfl⟩,q⟩
theorem DA:UnR X (unaryOp .USub) (rU fun i=>.int (-i)):=unI fun _ _ _ _ _ q=>neg_int q
end
section
variable {X:Cx} {a b c:Expr} {ta tb tc:TE} {pos:Pos}
theorem zC {pins:List (Addr × Obj)}{σ:St}{H:Hp}{s:Shared}{Q:VK}{k k':Bool}(I:Inv X pins σ H s)(q:Q (.bl k) H)(e:k=k'):EP X pins σ Q (.bool k') s:=by
  subst e
  exact⟨.bl k,H,I,rfl,q⟩
theorem sG:OpR X (compareOp .Lt) (rI0 fun i j=>.bl (decide (i < j))):=Dy fun _ _ _ _ _ _ _ q=>lt_int q
theorem CS:OpR X (compareOp .LtE) (rI0 fun i j=>.bl (decide (i≤j))):=Dy fun _ _ _ _ _ _ _ q=>le_int q
theorem lB:OpR X (compareOp .Gt) (rI0 fun i j=>.bl (decide (j < i))):=Dy fun _ _ _ _ _ _ _ q=>gt_int q
theorem zD:OpR X (compareOp .Is) (fun x y H Q=>y=.non∧Q (.bl (decide (x=.non))) H):=by
  intro pins s σ H x y v u Q I rx ry h
  obtain⟨rfl,q⟩:=h
  cases ry
  refine is_none_gen (zC I q ?_)
  cases x<;>first
    | (cases rx;rfl)
    | (obtain⟨t,rfl⟩:=rx;rfl)
theorem lf:OpR X (compareOp .IsNot) (fun x y H Q=>y=.non∧Q (.bl (!decide (x=.non))) H):=by
  intro pins s σ H x y v u Q I rx ry h
  obtain⟨rfl,q⟩:=h
  cases ry
  refine isnot_none_gen (zC I q ?_)
  cases x<;>first
    | (cases rx;rfl)
    | (obtain⟨t,rfl⟩:=rx;rfl)
theorem OpR.or {f:Value→Value→Sem Value}{r r':R2}(h:OpR X f r)(h':OpR X f r'):OpR X f (fun x y H Q=>r x y H Q∨r' x y H Q):=by
  intro pins s σ H x y v u Q I rx ry q
  rcases q with q|q
  · exact h pins s σ H x y v u Q I rx ry q
  · exact h' pins s σ H x y v u Q I rx ry q
theorem aZ (b:Expr){op:CmpOp}(h:op ≠ .In:=by decide)(h2:op ≠ .NotIn:=by decide):behindInMarks op b=false:=by
  have e1:(op == CmpOp.In)=false:=by cases op<;>first|rfl|exact absurd rfl h
  have e2:(op == CmpOp.NotIn)=false:=by cases op<;>first|rfl|exact absurd rfl h2
  cases b<;>simp [behindInMarks,e1,e2]
theorem BG {op:CmpOp}{r:R2}(ho:OpR X (compareOp op) r)(ha:PE X a ta)(hb:PE X b tb)(hm:behindInMarks op b=false):PE X (.Compare a [op] [b] pos) (tOp r ta tb):=by
  intro pins s σ H Q I h
  exact wpAny_Compare1 (Dx ha hb I h fun v u s2 x y H2 I2 rx ry q=>ho pins s2 σ H2 x y v u Q I2 rx ry q) hm
def E2 (t:TE):TT:=fun σ H Q=>t σ H fun x H'=>∃ k,x=.bl k∧Q k H'
theorem BH {op:CmpOp}{r:R2}(ho:OpR X (compareOp op) r)(ha:PE X a ta)(hb:PE X b tb)(hm:behindInMarks op b=false):PT X (.Compare a [op] [b] pos) (E2 (tOp r ta tb)):=by
  intro pins s σ H Q I h
  refine wpAny_isTrue_Compare1 (thn (ha pins s σ H _ I h) fun v s1 ⟨x,H1,I1,r1,q1⟩=>thn (hb pins s1 σ H1 _ I1 q1) fun u s2 ⟨y,H2,I2,r2,q2⟩ =>
    thn (ho pins s2 σ H2 x y v u _ I2 r1 r2 q2) fun c s3 ⟨z,H3,I3,r3,k,e,q3⟩ => ?_) hm
  subst e
  cases r3
  exact wpAny_truthy_bool ⟨H3,I3,q3⟩
def zE (r r':R2) (ta tb tc:TE):TE:=fun σ H Q=>ta σ H fun x H1=>tb σ H1 fun y H2=>r x y H2 fun z H3=>∃ k,z=.bl k ∧
  (if k=true then tc σ H3 fun w' H4=>r' y w' H4 Q else Q (.bl false) H3)
theorem zF {op op':CmpOp}{r r':R2}(ho:OpR X (compareOp op) r)(ho':OpR X (compareOp op') r')(ha:PE X a ta)(hb:PE X b tb)(hc:PE X c tc)
    (hm:lastMarks [op,op'] [b,c] = false:=by with_unfolding_all rfl):PE X (.Compare a [op,op'] [b,c] pos) (zE r r' ta tb tc):=by
  intro pins s σ H Q I h
  refine Compare_chain (thn (ha pins s σ H _ I h) fun v s1 ⟨x,H1,I1,r1,q1⟩=>chain_link (thn (hb pins s1 σ H1 _ I1 q1) fun u s2 ⟨y,H2,I2,r2,q2⟩ =>
    thn (ho pins s2 σ H2 x y v u _ I2 r1 r2 q2) fun d s3 ⟨z,H3,I3,r3,k,e,q3⟩ => ?_)) hm
  subst e
  cases r3
  refine wpAny_truthy_bool ?_
  cases k with
  | false=>exact ite_ff ⟨.bl false,H3,I3,rfl,q3⟩
  | true=>exact ite_tt (chain_last (thn (hc pins s3 σ H3 _ I3 q3) fun w' s4 ⟨z',H4,I4,r4,q4⟩=>ho' pins s4 σ H4 y z' u w' Q I4 r2 r4 q4))
theorem lC:(sizeLine:Nat) < 2 ^ 63:=by rw [sizeLine_eq];decide
theorem xf {x:V}{us:List Value}(r:aT [x] us):∃ u,us=[u]∧bh x u:=by
  cases r with
  | cons r1 r2=>cases r2;exact⟨_,rfl,r1⟩
theorem zG {x y:V}{us:List Value}(r:aT [x,y] us):∃ u w',us=[u,w']∧bh x u∧bh y w':=by
  cases r with
  | cons r1 r2 =>
    cases r2 with
    | cons r3 r4=>cases r4;exact⟨_,_,rfl,r1,r3⟩
theorem xX (hc:X.calm=true):eU X (.builtin "max") (fun xs H Q=>∃ i j,xs=[.int i,.int j]∧Q (.int (if j > i then j else i)) H):=by
  intro pins s σ H xs us Q I r h
  obtain⟨i,j,rfl,q⟩:=h
  obtain⟨u,w',rfl,⟨t,rfl⟩,⟨t',rfl⟩⟩:=zG r
  refine max_two_ints (I.ok.hd hc) fun h' tk k=>⟨_,H,I.kept k,?_,q⟩
  by_cases hj:j > i
  · rw [if_pos hj,if_pos hj];exact⟨_,rfl⟩
  · rw [if_neg hj,if_neg hj];exact⟨_,rfl⟩
theorem xY (hc:X.calm=true):eU X (.builtin "min") (fun xs H Q=>∃ i j,xs=[.int i,.int j]∧Q (.int (if j < i then j else i)) H):=by
  intro pins s σ H xs us Q I r h
  obtain⟨i,j,rfl,q⟩:=h
  obtain⟨u,w',rfl,⟨t,rfl⟩,⟨t',rfl⟩⟩:=zG r
  refine min_two_ints (I.ok.hd hc) fun h' tk k=>⟨_,H,I.kept k,?_,q⟩
  by_cases hj:j < i
  · rw [if_pos hj,if_pos hj];exact⟨_,rfl⟩
  · rw [if_neg hj,if_neg hj];exact⟨_,rfl⟩
theorem xZ:eU X (.type "int") (fun xs H Q=>(∃ i,xs=[.int i]∧Q (.int i) H) ∨ ∃ k,xs=[.bl k]∧Q (.int (if k then 1 else 0)) H):=by
  intro pins s σ H xs us Q I r h
  rcases h with ⟨i,rfl,q⟩|⟨k,rfl,q⟩
  · obtain⟨u,rfl,t,rfl⟩:=xf r
    exact call_int_int ⟨.int i,H,I,⟨_,rfl⟩,q⟩
  · obtain⟨u,rfl,r1⟩:=xf r
    cases r1
    exact call_int_bool ⟨.int (if k then 1 else 0),H,I.tok _,⟨_,rfl⟩,q⟩
end
end L2
namespace L2
open PySem PySem.Spec PyProof.Rows
structure Gc (h:Heap) (x dx C:Addr) (mA:Str→Option Value):Prop where
  obj:h.get? x=some (PySem.W.instObj C dx)
  ns:h.Ns1 dx mA
  ne:dx≠x
section
variable {prog:Program} {w:World} {A:Around} {E:Value→Shared→Prop} {s:Shared} {K:PySem.W.Frag} {x dx C f:Addr} {mA:Str→Option Value} {name:Str} {v:Value}
end
section
variable {P:Program} {w:World} {H H':Hp} {h h':Heap} {a C dx:Addr} {fs fs':List (Str × V)}
end
structure Cls (K:PySem.W.Frag) (C:Addr):Prop where
  pg:PySem.W.plainGet K C Str.empty=true
  hd:PySem.W.hasDictIn K C=true
  po:PySem.W.plainOver K C=true
  sa:PySem.W.findIn K (.ref C) "__setattr__" = some (some (.builtin "object.__setattr__"))
structure Con (K:PySem.W.Frag) (C:Addr) (f:Str) (v:V) (u:Value):Prop where
  at_:PySem.W.findIn K (.ref C) f=some (some u)
  rel:bh v u
  get:PySem.W.specialIn K u "__get__" = some none
  cp:PySem.W.copiedNames.contains f=false
structure Ge (K:PySem.W.Frag) (C:Addr) (m:Str) (f:Addr):Prop where
  at_:PySem.W.findIn K (.ref C) m=some (some (.ref f))
  fn:PySem.W.isFn K (.ref f)=true
  kp:PySem.W.keepIn K (.ref f)=true
section
variable {X:Cx} {pins:List (Addr × Obj)} {σ:St} {H:Hp} {s:Shared} {a C dx:Addr} {fs:List (Str × V)} {f:Str} {v:V} {A:Around} {E:Value→Shared→Prop}
end
section
variable {X:Cx} {o e value:Expr} {f:Str} {pos pos' tpos:Pos} {ta tv:TE}
end
section
variable {X:Cx} {pins:List (Addr × Obj)} {σ:St} {H:Hp} {s:Shared} {A:Around} {E:Value→Shared→Prop} {Q:Value→Shared→Prop} {c:Value} {b:Bool}
inductive lD (K:PySem.W.Frag) (H:Hp):V→Value→Prop where
  | non:lD K H .non (.type "NoneType")
  | bl (x:Bool):lD K H (.bl x) (.type "bool")
  | int (i:Int):lD K H (.int i) (.type "int")
  | str (x:Str):lD K H (.str x) (.type "str")
  | flt (x:UInt64):lD K H (.flt x) (.type "float")
  | lst {a:Addr} {xs:List V} (e:H a=some (.lst xs)):lD K H (.ref a) (.type "list")
  | frz {a:Addr} {o:Obj} {xs:List V} (e:H a=some (.frz o (.lst xs))):lD K H (.ref a) (.type "list")
  | tup {a:Addr} {xs:List V} (e:H a=some (.tup xs)):lD K H (.ref a) (.type "tuple")
  | dK {a:Addr} {kvs:List (Key × V)} (e:H a=some (.dK kvs)):lD K H (.ref a) (.type "dict")
  | dT {a:Addr} {kvs:List (List Key × V)} (e:H a=some (.dT kvs)):lD K H (.ref a) (.type "dict")
  | ins {a C dx:Addr} {fs:List (Str × V)} (e:H a=some (.ins C dx fs)) (cl:Cls K C) (ha:PySem.W.findIn K (.ref C) "__class__" = some (some (.builtin "object.__class__")))
      (hn:PySem.W.specialIn K (.builtin "object.__class__") "__get__" = some (some (.builtin "getset_descriptor.__get__"))) (htk:PySem.W.takesIn K (.builtin "object.__class__")=some true)
      (hm:PySem.W.mroIn K C (.type "object")=some true):lD K H (.ref a) (.ref C)
end
end L2
namespace L2
open PySem PySem.Spec PyProof.Rows
structure fV (k:Nat) (A:Around):Prop where
  hd:A.handled=none
  dp:A.depth + 3 * k + 5 < recursionLimit
  un:A.units + 16 * k + 200 < cLine
theorem fV.mono {j k:Nat}{A:Around}(r:fV k A)(h:j≤k):fV j A:=⟨r.hd,by have:=r.dp;omega,by have:=r.un;omega⟩
theorem fV.deeper {k:Nat}{A:Around}(r:fV (k + 1) A)(env:Env):fV k (A.deeper env) :=
  ⟨r.hd,by have:=r.dp;show A.depth + 1 + 3 * k + 5 < _;omega,by have:=r.un;show A.units + 3 + 16 * k + 200 < _;omega⟩
theorem fV.depth {k:Nat}{A:Around}(r:fV k A):A.depth < recursionLimit:=by have:=r.dp;omega
def F4:TA:=fun _ H Q=>Q [] H
def E3 (ta:TE) (tr:TA):TA:=fun σ H Q=>ta σ H fun x H1=>tr σ H1 fun xs H2=>Q (x :: xs) H2
section
variable {X:Cx} {e:Expr} {es:List Expr} {te:TE} {t:TA} {pos:Pos}
theorem dH:PA X [] F4:=fun _ _ _ _ H Q I h=>Calls.spliced_nil ⟨[],H,I,.nil,h⟩
theorem bT (ha:PE X e te)(hr:PA X es t)(hs:starEach (e :: es) X.env=(false,eval e X.env) :: starEach es X.env:=by rfl):PA X (e :: es) (E3 te t):=by
  intro pos pins s σ H Q I h
  rw [hs]
  show wpAny _ _ (spliced ((false,eval e X.env) :: backTo pos (starEach es X.env))) _ _ s
  refine Calls.spliced_cons (thn (ha pins s σ H _ I h) fun u s1 ⟨x,H1,I1,r1,q1⟩ => ?_)
  exact thn (hr pos pins s1 σ H1 _ I1 q1) fun us s2 ⟨xs,H2,I2,r2,q2⟩=>⟨x :: xs,H2,I2,.cons r1 r2,q2⟩
def F5 (t:TA):TE:=fun σ H Q=>t σ H fun xs H1=>xs.length≤sizeLine ∧ ∀ p,H1 p=none→Q (.ref p) (upd H1 p (.tup xs))
def F6 (t:TA):TE:=fun σ H Q=>t σ H fun xs H1=>xs.length≤sizeLine ∧ ∀ p,H1 p=none→Q (.ref p) (upd H1 p (.lst xs))
theorem DB {x1}(h:PA X es t):PE X (.Tuple es x1 pos) (F5 t):=by
  intro pins s σ H Q I hq
  refine wpAny_Tuple_spliced (thn (h pos pins s σ H _ I hq) fun us s1 ⟨xs,H1,I1,r,z,q⟩=>⟨by rw [← r.length];exact z,?_⟩)
  have hf:H1 s1.heap.objs.size=none:=I1.hok.fresh (Nat.le_refl _)
  refine⟨.ref s1.heap.objs.size,upd H1 s1.heap.objs.size (.tup xs),I1.laid (t':=s1.toks) (fun b u e=>Heap.get?_push_of_some _ e) (Nat.le_refl _) ?_,rfl,q _ hf⟩
  exact⟨z,us,r,⟨_,Heap.get?_push_size _ rfl,rfl,_,rfl⟩,_,Heap.get?_push_size _ rfl,rfl⟩
theorem DC (h:PA X es t):PE X (.List es pos) (F6 t):=by
  intro pins s σ H Q I hq
  refine wpAny_List_spliced (thn (h pos pins s σ H _ I hq) fun us s1 ⟨xs,H1,I1,r,z,q⟩=>⟨by rw [← r.length];exact z,?_⟩)
  have hf:H1 s1.heap.objs.size=none:=I1.hok.fresh (Nat.le_refl _)
  refine⟨.ref s1.heap.objs.size,upd H1 s1.heap.objs.size (.lst xs),I1.laid (t':=s1.toks) (fun b u e=>Heap.get?_push_of_some _ e) (Nat.le_refl _) ?_,rfl,q _ hf⟩
  exact⟨z,us,0,r,Heap.get?_push_size _ rfl⟩
end
abbrev Sp:=List V→Hp→VK→XK→Prop
abbrev CXT:=List Env→Hp→Shared→XK→Value→Shared→Prop
structure BI (P:Program) (w:World) (K:PySem.W.Frag) (mg:Str→Option Value) (base:Heap) (A:Around) (outer:List Env) (s:Shared) (H:Hp):Prop where
  frames:A.frames=some outer
  mod:Mod K mg base
  bs:∀ b o,base.get? b=some o→s.heap.get? b=some o∧H b=none
  bsz:base.objs.size≤s.heap.objs.size
  funs:s.heap.FunFrames base outer
  frf:∀ b∈frs outer,H b=none
  hok:HOk P w H s.heap
  bare:AllBare s.gens
def CE (outer:List Env) (P:Program) (w:World) (H:Hp) (s:Shared) (Q:VK) (u:Value) (s':Shared):Prop :=
  ∃ v H',s'.os=s.os∧AllBare s'.gens∧Un (frs outer) [] H H' s.heap s'.heap∧HOk P w H' s'.heap∧bh v u∧Q v H'
def CR (CX:CXT) (outer:List Env) (P:Program) (w:World) (H:Hp) (s:Shared) (Q:VK) (E:XK) (r:Result) (s':Shared):Prop :=
  match r with
  | .ok (.ret u)=>CE outer P w H s Q u s'
  | .ok _=>False
  | .error e=>CX outer H s E e s'
structure cG (P:Program) (w:World) (K:PySem.W.Frag) (mg:Str→Option Value) (base:Heap) (CX:CXT) (k:Nat) (f:Addr) (fd:FuncData) (ps:List Str) (sp:Sp):Prop where
  len:∀ vs H Q E,sp vs H Q E→vs.length=ps.length
  run:∀ (A:Around) (outer:List Env) (s:Shared) (H:Hp) (args:Args) (us:List Value) (vs:List V) (Q:VK) (E:XK),fV k A→BI P w K mg base A outer s H→BindsTo s fd args (ps.zip us)→aT vs us→sp vs H Q E →
    codeAny (model P w) A (.call (.ref f) args) (CR CX outer P w H s Q E) s
section
variable {X:Cx} {pins:List (Addr × Obj)} {σ:St} {H:Hp} {s s':Shared}
theorem Inv.env0 (I:Inv X pins σ H s):BI X.prog X.w X.K X.mg X.base X.A X.stack s H :=
  ⟨I.ok.frames,I.ok.mod,I.bs,Nat.le_trans I.ok.bsz I.sz,I.stack,I.stkFree,I.hok,I.bare⟩
theorem Inv.after {Q:VK}{u:Value}(I:Inv X pins σ H s)(h:CE X.stack X.prog X.w H s Q u s'):EP X pins σ Q u s':=by
  obtain⟨v,H',os,bare,un,hok,r,q⟩:=h
  obtain⟨hh,g,d,t,os'⟩:=s'
  obtain rfl:os'=s.os:=os
  exact⟨v,H',I.call (h':=hh) (g':=g) (d':=d) (t':=t) (ch:=[]) un hok bare (fun b z=>absurd z (by simp)),r,q⟩
end
def E4 (sp:Sp) (dvs:List V) (E:XK) (t:TA):TE:=fun σ H Q=>t σ H fun vs H1=>sp (vs++dvs) H1 Q E
def lE (K:PySem.W.Frag) (fd:FuncData) (ps:List Str) (ds:List Value):Prop :=
  ∀ (s:Shared) (us:List Value),K.In s.heap→(us++ds).length=ps.length→BindsTo s fd ⟨us,[]⟩ (ps.zip (us++ds))
theorem lE.all {K:PySem.W.Frag}{fd:FuncData}{ps:List Str}(h:∀ us:List Value,us.length=ps.length→bindArgs fd ⟨us,[]⟩ = pure (ps.zip us)):lE K fd ps []:=fun s us _ hl=>by
  rw [List.append_nil] at hl ⊢
  exact .of_eq (h us hl)
def uN (CX:CXT) (X:Cx) (E:XK):Prop:=∀ (pins:List (Addr × Obj)) (σ:St) (H:Hp) (s:Shared) (e:Value) (s':Shared),Inv X pins σ H s→CX X.stack H s E e s'→X.xe e s'
section
variable {X:Cx} {CX:CXT} {k:Nat} {f C:Addr} {fd:FuncData} {ps:List Str} {sp:Sp} {dvs:List V} {ds:List Value} {E:XK} {x m:Str} {p pos apos:Pos} {e o:Expr} {es:List Expr} {ta:TE} {t:TA}
theorem DD {pins:List (Addr × Obj)}{σ:St}{H:Hp}{s:Shared}{Q:VK}{us:List Value}{vs:List V}(F:cG X.prog X.w X.K X.mg X.base CX k f fd ps sp)(hr:fV k X.A)(hb:lE X.K fd ps ds)(hd:aT dvs ds)(hx:uN CX X E)
    (I:Inv X pins σ H s) (r:aT vs us) (h:sp (vs++dvs) H Q E):wpAny (model X.prog X.w) X.A (call (.ref f) us) (EP X pins σ Q) X.xe s:=by
  have r2:aT (vs++dvs) (us++ds):=r.append hd
  have hl:(us++ds).length=ps.length:=by rw [← r2.length];exact F.len _ _ _ _ h
  refine wpAny_call (codeAny_mono (F.run X.A X.stack s H ⟨us,[]⟩ (us++ds) (vs++dvs) Q E hr I.env0 (hb s us I.kIn hl) r2 h) fun r s' hq => ?_)
  cases r with
  | error e=>exact hx pins σ H s e s' I hq
  | ok fl =>
    cases fl with
    | ret u=>exact I.after hq
    | next=>exact False.elim hq
    | brk=>exact False.elim hq
    | cont=>exact False.elim hq
theorem BJ (F:cG X.prog X.w X.K X.mg X.base CX k f fd ps sp)(hr:fV k X.A)(hg:Gl X x)(hm:X.mg x=some (.ref f))(hk:PySem.W.keepIn X.K (.ref f)=true)(hb:lE X.K fd ps ds)(hd:aT dvs ds)(hx:uN CX X E)
    (ha:PA X (e :: es) t) (hdb:(x == ("__debug__" : Str))=false:=by decide) (he:starEach (e :: es) X.env=(false,eval e X.env) :: starEach es X.env:=by rfl) (hpl:(backTo pos (starEach es X.env)).any (·.1)=false:=by rfl) :
    PE X (.Call (.Name x p) (e :: es) [] pos) (E4 sp dvs E t):=by
  intro pins s σ H Q I h
  refine wpAny_Call_Name_kw (xc I hg hm ?_ hdb)
  refine PySem.W.callWith_K (h₀ := X.base) I.ok.mod.kin hk (thn (ha pos pins s σ H _ I h) fun us s1 ⟨vs,H1,I1,r,q⟩=>⟨I1.kIn,?_⟩) he hpl
  exact DD F hr hb hd hx I1 r q
structure Mk (K:PySem.W.Frag) (C f:Addr):Prop where
  makes:PySem.W.makesIn K C=true
  init:PySem.W.findIn K (.ref C) "__init__" = some (some (.ref f))
  fn:PySem.W.isFn K (.ref f)=true
  kp:PySem.W.keepIn K (.ref C)=true
end
section
variable {X:Cx} {CX:CXT} {k:Nat} {f C:Addr} {fd:FuncData} {ps ks:List Str} {sp:Sp} {E:XK} {x m:Str} {p pos apos kpos:Pos} {e o:Expr} {es:List Expr} {kws:List Keyword} {te ta:TE} {t tk:TA} {nm:Option Str}
structure F7 (K:PySem.W.Frag) (fd:FuncData) (ps ks:List Str) (g:List Value→List Value→List Value) (gV:List V→List V→List V):Prop where
  to:∀ (s:Shared) (us ws:List Value),K.In s.heap→(g us ws).length=ps.length→BindsTo s fd ⟨us,ks.zip ws⟩ (ps.zip (g us ws))
  rel:∀ {vs:List V} {us:List Value} {zs:List V} {ws:List Value},aT vs us→aT zs ws→aT (gV vs zs) (g us ws)
variable {g:List Value→List Value→List Value} {gV:List V→List V→List V}
end
structure aY (N P:List Str) (sc:Scope):Prop where
  kind:sc.kind=.function
  co:sc.isCoroutine=false
  gen:sc.isGenerator=false
  nd:N.Nodup
  pre:N.take P.length=P
  par:∀ x∈P,sc.names.lookup x=some .local ∨sc.names.lookup x=some .cell
  nofree:∀ y∈sc.names,y.2 ≠ .free
theorem o8 {kindOf:Str→Option NameKind}{x:Str}:∀ {binds:List (Str × Value)} {m:Str→Option Value},(∀ v,(x,v)∉binds)→bindL kindOf binds m x=m x
  | [],_,_=>rfl
  | (n,v) :: r,m,h=>by
    unfold bindL
    rw [o8 fun w hw=>h w (List.mem_cons_of_mem _ hw)]
    split
    · have:x≠n:=by rintro rfl;exact h v List.mem_cons_self
      simp [this]
    · rfl
theorem o9 {kindOf:Str→Option NameKind}{x:Str}:∀ {binds:List (Str × Value)} {m:Str→Option Value},(∀ v,(x,v)∉binds)→bindC kindOf binds m x=m x
  | [],_,_=>rfl
  | (n,v) :: r,m,h=>by
    unfold bindC
    rw [o9 fun w hw=>h w (List.mem_cons_of_mem _ hw)]
    split
    · rfl
    · have:x≠n:=by rintro rfl;exact h v List.mem_cons_self
      simp [this]
theorem pb {kindOf:Str→Option NameKind}{x:Str}{v:Value}:∀ {P:List Str} {vs:List Value} {i:Nat} {m:Str→Option Value},P.Nodup→P[i]? = some x→vs[i]? = some v→kindOf x=some .local →
    bindL kindOf (P.zip vs) m x=some v
  | [],_,_,_,_,h,_,_=>by simp at h
  | _ :: _,[],_,_,_,_,h,_=>by simp at h
  | p :: P,w :: vs,0,m,nd,h1,h2,hk=>by
    simp at h1 h2;subst h1;subst h2
    show bindL kindOf ((p,w) :: P.zip vs) m p=_
    unfold bindL
    rw [o8 fun v hv=>(List.nodup_cons.mp nd).1 (List.of_mem_zip hv).1,if_pos hk]
    simp
  | p :: P,w :: vs,i + 1,m,nd,h1,h2,hk=>by
    show bindL kindOf ((p,w) :: P.zip vs) m x=_
    unfold bindL
    exact pb (i:=i) (List.nodup_cons.mp nd).2 (by simpa using h1) (by simpa using h2) hk
theorem pc {kindOf:Str→Option NameKind}{x:Str}{v:Value}:∀ {P:List Str} {vs:List Value} {i:Nat} {m:Str→Option Value},P.Nodup→P[i]? = some x→vs[i]? = some v→kindOf x≠some .local →
    bindC kindOf (P.zip vs) m x=some v
  | [],_,_,_,_,h,_,_=>by simp at h
  | _ :: _,[],_,_,_,_,h,_=>by simp at h
  | p :: P,w :: vs,0,m,nd,h1,h2,hk=>by
    simp at h1 h2;subst h1;subst h2
    show bindC kindOf ((p,w) :: P.zip vs) m p=_
    unfold bindC
    rw [o9 fun v hv=>(List.nodup_cons.mp nd).1 (List.of_mem_zip hv).1,if_neg hk]
    simp
  | p :: P,w :: vs,i + 1,m,nd,h1,h2,hk=>by
    show bindC kindOf ((p,w) :: P.zip vs) m x=_
    unfold bindC
    exact pc (i:=i) (List.nodup_cons.mp nd).2 (by simpa using h1) (by simpa using h2) hk
def gF (N:List Str) (vs:List V):St:=vs.map some++List.replicate (N.length - vs.length) none
def uO (CX:CXT) (P:Program) (w:World) (K:PySem.W.Frag) (mg:Str→Option Value) (base:Heap) (N:List Str) (qual:Str) (scope:Scope) (f:Addr) (cd:Value) (A:Around) (outer:List Env) (s:Shared) (H:Hp) (E:XK):Cx where
  prog:=P
  w:=w
  K:=K
  mg:=mg
  base:=base
  A:=A.deeper (envOfC qual scope s.heap.objs.size f cd)
  N:=N
  s₀ := s
  H₀ := H
  env:=envOfC qual scope s.heap.objs.size f cd
  outer:=outer
  stack:=envOfC qual scope s.heap.objs.size f cd :: outer
  ex:=[]
  calm:=true
  fn:=fun _=>true
  pn:=[]
  xe:=fun e s'=>wpAny (model P w) (A.deeper (envOfC qual scope s.heap.objs.size f cd)) (leaving (envOfC qual scope s.heap.objs.size f cd) e) (fun _ s''=>CX outer H s E e s'') (fun e' s''=>CX outer H s E e' s'') s'
theorem sH {sc:Scope}{n:Nat}{x:Str}(h:sc.names.lookup x=some .cell):∃ c,(cellsFrom n sc.names []).lookup x=some c:=by
  have q:=PySem.W.cellsFrom_some sc.names n [] (.inl h)
  exact Option.isSome_iff_exists.mp q
theorem x5 {CX:CXT}{P:Program}{w:World}{K:PySem.W.Frag}{mg:Str→Option Value}{base:Heap}{N ps:List Str}{qual:Str}{scope:Scope}{f:Addr}{cd:Value}{A:Around}{outer:List Env}{s s1:Shared}{H:Hp}{E:XK}{us:List Value}{vs:List V}
    (S:aY N ps scope) (hd:A.handled=none) (e0:BI P w K mg base A outer s H) (hl:vs.length=ps.length) (r:aT vs us)
    (x:InCallC s s.heap.objs.size (bindL (envOfC qual scope s.heap.objs.size f cd).kindOf (ps.zip us) fun _=>none) (cellsFrom (s.heap.objs.size + 1) scope.names []) (bindC (envOfC qual scope s.heap.objs.size f cd).kindOf (ps.zip us) fun _=>none) s1) :
    Inv (uO CX P w K mg base N qual scope f cd A outer s H E) [] (gF N vs) H s1:=by
  have hpl:ps.length≤N.length:=by have:=congrArg List.length S.pre;rw [List.length_take] at this;omega
  obtain⟨h1,tk,rfl,hk⟩:=x.done
  have noA:∀ b:Addr,b∉(uO CX P w K mg base N qual scope f cd A outer s H E).ex:=fun b z=>absurd (show b∈([] : List Addr) from z) (by simp)
  refine⟨⟨e0.mod,S.kind,rfl,rfl,Nat.le_refl _,fun y z c h1 h2 => ?_,fun y hy => ?_,fun y c _ h => ?_,fun _=>hd,Around.frames_deeper e0.frames,.inr ⟨rfl,rfl⟩,fun b z=>absurd z (noA b),e0.bs,e0.bsz,fun b _ _=>noA b,fun b z=>absurd z (noA b),e0.funs,e0.frf⟩,
    rfl,e0.bare,Un.kept hk,⟨_,x.toInCall.ns,fun i y v h1 h2 h3 => ?_⟩,fun y c h=>⟨_,x.cell y c h⟩,e0.hok.fresh (Nat.le_refl _),fun y c h => ?_,fun p hp=>absurd (show p∈([] : List (Addr × Obj)) from hp) (by simp),e0.hok.kept hk,?_⟩
  · exact name_of_addr x.apart (PySem.mem_of_lookup h1) (PySem.mem_of_lookup h2)
  · have hy:scope.names.lookup y=some .cell∨scope.names.lookup y=some .free:=hy
    rcases hy with hy|hy
    · exact sH hy
    · exact absurd rfl (S.nofree _ (PySem.mem_of_lookup hy))
  · exact Nat.le_of_lt (x.above y c (PySem.mem_of_lookup h))
  · have hi:i < vs.length:=by
      unfold gF at h2
      by_cases hi:i < vs.length
      · exact hi
      · rw [List.getElem?_append_right (by simpa using hi)] at h2
        rw [List.getElem?_replicate] at h2
        split at h2<;>cases h2
    have ha:vs[i]? = some v:=by
      unfold gF at h2
      rw [List.getElem?_append_left (by simpa using hi),List.getElem?_map] at h2
      cases e:vs[i]? with
      | none=>rw [e] at h2;cases h2
      | some a=>rw [e] at h2;cases h2;rfl
    obtain⟨u,hu,rv⟩:=r.get ha
    have hp:ps[i]? = some y:=by
      rw [← S.pre,List.getElem?_take_of_lt (by omega)];exact h1
    have ndP:ps.Nodup:=by rw [← S.pre];exact S.nd.sublist (List.take_sublist _ _)
    refine⟨u,rv,?_⟩
    rcases S.par y (List.mem_of_getElem? hp) with k|k
    · exact .inl ⟨k,pb ndP hp hu k⟩
    · obtain⟨c,e⟩:=sH (n:=s.heap.objs.size + 1) k
      refine .inr ⟨.inl k,c,e,?_⟩
      have q:=x.cell y c e
      rw [pc ndP hp hu (by show scope.names.lookup y≠_;rw [k];decide)] at q
      exact q
  · exact e0.hok.fresh (Nat.le_of_lt (x.above y c (PySem.mem_of_lookup h)))
  · unfold gF
    show _=N.length
    rw [List.length_append,List.length_map,List.length_replicate]
    omega
theorem E5 {CX:CXT}{P:Program}{w:World}{K:PySem.W.Frag}{mg:Str→Option Value}{base:Heap}{k:Nat}{f:Addr}{name qual:Str}{params:Arguments}{body:List Stmt}{scope:Scope}{dV kV doc pm cdv ct oc:Value}{an od:Option Addr}
    {osl:Array (Option Value)} {N ps:List Str} {sp:Sp} (lk:K.lookup f=some ⟨oc,od,.func (PySem.W.fnOf name qual params body scope dV kV doc pm an cdv ct),osl⟩) (hcd:PySem.W.codeIn K cdv qual=true) (S:aY N ps scope)
    (len:∀ vs H Q E,sp vs H Q E→vs.length=ps.length)
    (hbody:∀ (A:Around) (outer:List Env) (s:Shared) (H:Hp) (vs:List V) (Q:VK) (E:XK),fV k (A.deeper (envOfC qual scope s.heap.objs.size f cdv))→sp vs H Q E →
      ∃ t,PSs (uO CX P w K mg base N qual scope f cdv A outer s H E) body t∧t { nx:=fun _ H'=>Q .non H',rt:=Q } (gF N vs) H) :
    cG P w K mg base CX (k + 1) f (PySem.W.fnOf name qual params body scope dV kV doc pm an cdv ct) ps sp:=by
  refine⟨len,fun A outer s H args us vs Q E hr e0 hb r hsp => ?_⟩
  have hl:=len _ _ _ _ hsp
  have KX:K.In s.heap:=e0.mod.kin.keeps fun b o e=>(e0.bs b o e).1
  have lim:s.heap.NoLimit:=e0.mod.nolimit.keeps fun b o e=>(e0.bs b o e).1
  have hkind:∀ y∈ps.zip us,scope.names.lookup y.1=some .local ∨(scope.names.lookup y.1=some .cell∧((cellsFrom (s.heap.objs.size + 1) scope.names []).lookup y.1).isSome=true):=fun ⟨n,v⟩ hy=>by
    rcases S.par n (List.of_mem_zip hy).1 with q|q
    · exact .inl q
    · exact .inr ⟨q,PySem.W.cellsFrom_some _ _ _ (.inl q)⟩
  refine codeAny_call_function hr.depth (KX _ _ lk) rfl S.co S.gen rfl (PySem.W.codeRec_of KX hcd) (hb _ _ _ _ ?_)
  refine wpAny_newFunctionEnv_cells S.kind hkind fun env he s1 x => ?_
  subst he
  refine⟨lim.keeps x.toInCall.keep,codeAny_func ?_⟩
  obtain⟨t,ht,hq⟩:=hbody A outer s H vs Q E (hr.deeper _) hsp
  have I:Inv (uO CX P w K mg base N qual scope f cdv A outer s H E) [] (gF N vs) H s1:=x5 S hr.hd e0 hl r x
  refine wpAny_mono (ht [] s1 (gF N vs) H _ I hq) (fun fl s' hs => ?_) fun e s' hs=>hs
  have fin:∀ {σ':St} {H':Hp} {v:V} {u:Value},Inv (uO CX P w K mg base N qual scope f cdv A outer s H E) [] σ' H' s'→bh v u→Q v H'→CE outer P w H s Q u s' :=
    fun {σ' H' v u} J rv q=>⟨v,H',J.os,J.bare,J.base,J.hok,rv,q⟩
  cases fl with
  | ret u =>
    obtain⟨v,σ',H',J,rv,q⟩:=hs
    exact fin J rv q
  | next =>
    obtain⟨σ',H',J,q⟩:=hs
    exact fin (v:=V.non) (u:=Value.none) J rfl q
  | brk =>
    obtain⟨_,_,_,q⟩:=hs
    exact False.elim q
  | cont =>
    obtain⟨_,_,_,q⟩:=hs
    exact False.elim q
end L2
namespace L2
open PySem PySem.Spec PyProof.Rows
section
variable {X:Cx} {x:Str} {p pos:Pos} {e:Expr} {es:List Expr} {t:TA} {id T:String} {r:List V→Hp→VK→Prop}
def tCB (r:List V→Hp→VK→Prop) (t:TA):TE:=fun σ H Q=>t σ H fun vs H1=>r vs H1 Q
theorem fE (hc:eU X (.builtin id) r) (hg:Gl X x) (hm:X.mg x=none) (hv:bootBuiltins x=some (.builtin id)) (ha:PA X (e :: es) t) (hn:x ≠ "__name__" := by decide) (hdb:(x == ("__debug__" : Str))=false:=by decide)
    (he:starEach (e :: es) X.env=(false,eval e X.env) :: starEach es X.env:=by rfl) (hpl:(backTo pos (starEach es X.env)).any (·.1)=false:=by rfl):PE X (.Call (.Name x p) (e :: es) [] pos) (tCB r t):=by
  intro pins s σ H Q I h
  refine wpAny_Call_Name_kw (jH I hg hm hv ?_ hn hdb)
  exact PyProof.Rows.callWith_builtin1 (thn (ha pos pins s σ H _ I h) fun us s1 ⟨vs,H1,I1,r1,q1⟩=>hc pins s1 σ H1 vs us Q I1 r1 q1) he hpl
theorem x6 (hc:eU X (.type T) r) (hg:Gl X x) (hm:X.mg x=none) (hv:bootBuiltins x=some (.type T)) (ha:PA X (e :: es) t) (hn:x ≠ "__name__" := by decide) (hdb:(x == ("__debug__" : Str))=false:=by decide)
    (he:starEach (e :: es) X.env=(false,eval e X.env) :: starEach es X.env:=by rfl) (hpl:(backTo pos (starEach es X.env)).any (·.1)=false:=by rfl):PE X (.Call (.Name x p) (e :: es) [] pos) (tCB r t):=by
  intro pins s σ H Q I h
  refine wpAny_Call_Name_kw (jH I hg hm hv ?_ hn hdb)
  exact PyProof.Rows.callWith_type1 (thn (ha pos pins s σ H _ I h) fun us s1 ⟨vs,H1,I1,r1,q1⟩=>hc pins s1 σ H1 vs us Q I1 r1 q1) he hpl
end
end L2
namespace HT
open PySem PyProof.Rows
def bw:List Int→List Int→Bool
  | [],[]=>false
  | [],_ :: _=>true
  | _ :: _,[]=>false
  | x :: xs,y :: ys=>if x=y then bw xs ys else decide (x < y)
section
open PySem.SeqAt
open PySem.AutoSeq1 (wpAny_loadPart')
open PySem.MeetsSeq PySem.MeetsSeq2 PySem.MeetsSeq3
end
section
variable {prog:Program} {w:World} {A:Around} {E:Value→Shared→Prop} {s:Shared}
theorem cat_tup {t b:Addr}{vs ws:List Value}{Q:Value→Shared→Prop}(ht:IsTup s.heap t vs.toArray)(hb:IsTup s.heap b ws.toArray)(hv:vs≠[])
    (h1:ws=[]→Q (.ref t) s) (h2:ws≠[]→Q (.ref s.heap.objs.size) { s with heap:=s.heap.push { cls:=.type "tuple",data:=.seq (vs++ws).toArray } })
    (hsz:vs.length + ws.length≤sizeLine):wpAny (model prog w) A (binaryOp .Add (.ref t) (.ref b)) Q E s:=by
  obtain⟨⟨cls,dd,data,sl⟩,ho,hc,n,hd⟩:=id ht
  obtain⟨⟨cls2,dd2,data2,sl2⟩,ho2,hc2,n2,hd2⟩:=id hb
  simp only at hc hd hc2 hd2
  subst hc hd hc2 hd2
  have e:vs.toArray++ws.toArray=(vs++ws).toArray:=by simp
  by_cases hw:ws=[]
  · exact concat_meets ⟨_,ho,rfl⟩ ⟨_,ho2,rfl⟩ noFill_tuple_add seq_tuple_add PySem.F.slot_tuple_add PySem.F.entry_tuple_add (PySem.F.args_tuple_add_2 _ _)
      (tuple_addW1 t b vs.toArray ws.toArray n n2 dd dd2 sl sl2 (by simpa using hv) (by simp [hw])) ⟨ho,ho2,h1 hw⟩
  · refine concat_meets ⟨_,ho,rfl⟩ ⟨_,ho2,rfl⟩ noFill_tuple_add seq_tuple_add PySem.F.slot_tuple_add PySem.F.entry_tuple_add (PySem.F.args_tuple_add_2 _ _)
      (tuple_addW2 t b vs.toArray ws.toArray n n2 dd dd2 sl sl2 (by simpa using hv) (by simpa using hw) (by rw [List.size_toArray,List.size_toArray];exact hsz)) ⟨ho,ho2,?_⟩
    rw [e]
    exact h2 hw
def sIx (n d:Nat):Option Int→Nat
  | none=>d
  | some v=>if v < 0 then (v + (n:Int)).toNat else min v.toNat n
end
end HT
namespace L2
open PySem PySem.Spec PyProof.Rows
abbrev TO:=St→Hp→(Option Int→Hp→Prop)→Prop
theorem lF {ns:List Int}:∀ {us:List Value},aT (ns.map V.int) us→IntsAre us ns:=by
  induction ns with
  | nil=>intro us r;rw [List.map_nil] at r;cases r;exact .nil
  | cons n ns ih =>
    intro us r
    rw [List.map_cons] at r
    cases r with
    | cons r1 r2 =>
      obtain⟨t,e⟩:=r1
      subst e
      exact .cons n t (ih r2)
section
variable {X:Cx} {e:Expr} {te:TE} {lo hi:Option Expr} {tl th:TO} {pos p2:Pos}
def zH (K:PySem.W.Frag):R2:=fun x y H Q=>∃ a b xs ys,x=.ref a∧y=.ref b∧SqT K H a xs∧SqT K H b ys∧xs≠[]∧xs.length + ys.length≤sizeLine ∧
  (ys=[]→Q (.ref a) H)∧(ys≠[] → ∀ p,H p=none→Q (.ref p) (upd H p (.tup (xs++ys))))
theorem aT.nil_iff {xs:List V}{us:List Value}(r:aT xs us):us=[] ↔ xs=[]:=by
  cases r with
  | nil=>simp
  | cons _ _=>simp
theorem BK:OpR X (binaryOp .Add) (zH X.K):=by
  intro pins s σ H x y v u Q I rx ry h
  obtain⟨a,b,xs,ys,rfl,rfl,ha,hb,hx,hz,q1,q2⟩:=h
  cases rx
  cases ry
  obtain⟨its,r1,p1,_⟩:=I.tuple ha
  obtain⟨its2,r2,p2,_⟩:=I.tuple hb
  refine HT.cat_tup p1 p2 (fun z=>hx (r1.nil_iff.mp z)) (fun z=>⟨.ref a,H,I,rfl,q1 (r2.nil_iff.mp z)⟩) (fun z => ?_) (by rw [← r1.length,← r2.length];exact hz)
  refine⟨.ref s.heap.objs.size,_,I.laid (t':=s.toks) (o:=.tup (xs++ys)) (fun b ob q=>Heap.get?_push_of_some _ q) (Nat.le_refl _) ?_,rfl,q2 (fun w=>z (r2.nil_iff.mpr w)) _ (I.hok.fresh (Nat.le_refl _))⟩
  exact⟨by rw [List.length_append];exact hz,_,r1.append r2,lx.new _ _⟩
end
end L2
namespace L2
open PySem PySem.Spec PyProof.Rows
def ixN (n:Nat) (i:Int):Option Nat:=if 0≤i then (if i < n then some i.toNat else none) else if -(n:Int)≤i then some (i + n).toNat else none
def atI {α : Type} (xs:List α) (i:Int):Option α := (ixN xs.length i).bind fun j=>xs[j]?
theorem xg {n:Nat}{i:Int}{j:Nat}(h:ixN n i=some j):seqIndex? i n=some j∧j < n ∧ -(n:Int)≤i∧i < n:=by
  unfold ixN at h
  by_cases h0:0≤i
  · rw [if_pos h0] at h
    by_cases h1:i < n
    · rw [if_pos h1] at h
      have e:i.toNat=j:=Option.some.inj h
      exact⟨by rw [seqIndex_of h0 h1,e],by omega,by omega,h1⟩
    · rw [if_neg h1] at h;cases h
  · rw [if_neg h0] at h
    by_cases h1 : -(n:Int)≤i
    · rw [if_pos h1] at h
      have e:(i + n).toNat=j:=Option.some.inj h
      exact⟨by rw [seqIndex_neg (by omega) h1,e],by omega,h1,by omega⟩
    · rw [if_neg h1] at h;cases h
theorem qe {α : Type}{xs:List α}{i:Int}{v : α}(h:atI xs i=some v):∃ j,seqIndex? i xs.length=some j∧xs[j]? = some v∧j < xs.length ∧ -(xs.length:Int)≤i∧i < xs.length:=by
  unfold atI at h
  cases e:ixN xs.length i with
  | none=>rw [e] at h;cases h
  | some j =>
    rw [e] at h
    obtain⟨h1,h2,h3,h4⟩:=xg e
    exact⟨j,h1,h,h2,h3,h4⟩
theorem cM {α : Type}{xs:List α}{j:Nat}{v : α}(h:xs[j]? = some v):atI xs (j:Int)=some v:=by
  have hj:j < xs.length:=(List.getElem?_eq_some_iff.mp h).1
  have e:ixN xs.length (j:Int)=some j:=by
    unfold ixN
    rw [if_pos (by omega),if_pos (by omega)];simp
  unfold atI;rw [e];exact h
def qf (b:Expr):Prop:=∀ o i,subscripted b false o i=operate [o,i] (getItem o i)
def IxR (X:Cx) (r:R2):Prop :=
  ∀ (value slice:Expr) (pins:List (Addr × Obj)) (s:Shared) (σ:St) (H:Hp) (x y:V) (v u:Value) (Q:VK),Inv X pins σ H s→bh x v→bh y u→r x y H Q →
    subscripted slice false v u=operate [v,u] (getItem v u)→wpAny (model X.prog X.w) X.A (subscriptTail value slice v u) (EP X pins σ Q) X.xe s
def MtR (X:Cx) (id:String) (r:V→List V→Hp→VK→Prop):Prop :=
  ∀ (pins:List (Addr × Obj)) (s:Shared) (σ:St) (H:Hp) (x:V) (xs:List V) (v:Value) (us:List Value) (Q:VK),Inv X pins σ H s→bh x v→aT xs us→r x xs H Q →
    wpAny (model X.prog X.w) X.A (call (.builtin id) (v :: us)) (EP X pins σ Q) X.xe s
section
variable {X:Cx} {a b:Expr} {ta tb:TE} {pos:Pos}
theorem IxR.or {r r':R2}(h:IxR X r)(h':IxR X r'):IxR X (fun x y H Q=>r x y H Q∨r' x y H Q):=by
  intro value slice pins s σ H x y v u Q I rx ry q hs
  rcases q with q|q
  · exact h value slice pins s σ H x y v u Q I rx ry q hs
  · exact h' value slice pins s σ H x y v u Q I rx ry q hs
theorem CT {r:R2}(hr:IxR X r)(ha:PE X a ta)(hb:PE X b tb)(hs:qf b):PE X (.Subscript a b pos) (tOp r ta tb):=by
  intro pins s σ H Q I h
  exact Subscript_ (Dx ha hb I h fun v u s2 x y H2 I2 rx ry q=>hr a b pins s2 σ H2 x y v u Q I2 rx ry q (hs _ _))
def E6 (K:PySem.W.Frag):R2:=fun x y H Q=>∃ p xs i v,x=.ref p∧y=.int i∧SqL K H p xs∧atI xs i=some v∧Q v H
def E7 (K:PySem.W.Frag):R2:=fun x y H Q=>∃ p xs i v,x=.ref p∧y=.int i∧SqT K H p xs∧atI xs i=some v∧Q v H
def E8:R2:=fun x y H Q=>∃ z i c,x=.str z∧y=.int i∧z.length≤sizeLine∧atI z.cps.toList i=some c∧Q (.str ⟨#[c]⟩) H
theorem xh:IxR X (E6 X.K):=by
  intro value slice pins s σ H x y v u Q I rx ry h hs
  obtain⟨p,xs,i,z,rfl,rfl,hq,he,q⟩:=h
  cases rx
  obtain⟨t,rfl⟩:=ry
  obtain⟨its,r,pl,hz⟩:=I.list hq
  obtain⟨j,h1,h2,h3,h4,h5⟩:=qe he
  obtain⟨w,ew,rw'⟩:=r.get h2
  have hl:=r.length
  have hn:=lC
  have fin:EP X pins σ Q w s:=⟨z,H,I,rw',q⟩
  by_cases h0:0≤i
  · have hj:i.toNat=j:=by
      rw [seqIndex_of h0 h5] at h1
      exact Option.some.inj h1
    exact item_listR pl.isList h0 (by omega) (by rw [hj];simpa using ew) fin hs
  · have hj:(i + (its.toArray.size:Int)).toNat=j:=by
      rw [seqIndex_neg (by omega) h4] at h1
      rw [List.size_toArray,← hl]
      exact Option.some.inj h1
    exact subscriptTail_builtinR (x:=w) pl.isList.typeIs slot_list_getitem.lookup
      (wpAny_getItem_list_neg (Q:=fun r s'=>r=w∧EP X pins σ Q r s') pl.isList (by omega) (by rw [List.size_toArray]<;>omega) (by omega) (by rw [hj];simpa using ew) ⟨rfl,fin⟩) hs
theorem DE:IxR X (E7 X.K):=by
  intro value slice pins s σ H x y v u Q I rx ry h hs
  obtain⟨p,xs,i,z,rfl,rfl,hq,he,q⟩:=h
  cases rx
  obtain⟨t,rfl⟩:=ry
  obtain⟨its,r,pl,hz⟩:=I.tuple hq
  obtain⟨j,h1,h2,h3,h4,h5⟩:=qe he
  obtain⟨w,ew,rw'⟩:=r.get h2
  have hl:=r.length
  have hn:=lC
  have fin:EP X pins σ Q w s:=⟨z,H,I,rw',q⟩
  exact subscriptTail_builtinR (x:=w) pl.typeIs slot_tuple_getitem.lookup
    (getItem_tuple (j:=j) (Q:=fun r s'=>r=w∧EP X pins σ Q r s') pl (by omega) (by omega) (by rw [List.size_toArray,← hl];exact h1) (by simpa using ew) ⟨rfl,fin⟩) hs
theorem DF:IxR X E8:=by
  intro value slice pins s σ H x y v u Q I rx ry h hs
  obtain⟨z,i,c,rfl,rfl,hz,he,q⟩:=h
  obtain⟨t,rfl⟩:=rx
  obtain⟨t',rfl⟩:=ry
  obtain⟨j,h1,h2,h3,h4,h5⟩:=qe he
  have hl:z.cps.toList.length=z.length:=by simp [Str.length]
  rw [hl] at h1 h4 h5
  have hn:=lC
  exact tail_any (typeIs_str s z t) slot_str_getitem.lookup (getItem_str (c:=c) (by
    have e1:decide (i < -(2 ^ 63:Int))=false:=decide_eq_false (by omega)
    have e2:decide (i ≥ 2 ^ 63)=false:=decide_eq_false (by omega)
    rw [e1,e2,Bool.or_false]) (by rw [h1];simpa using h2) ⟨.str ⟨#[c]⟩,H,I.tok _,⟨_,rfl⟩,q⟩) hs
def rIx (K:PySem.W.Frag):R2:=fun x y H Q=>E6 K x y H Q∨E7 K x y H Q∨E8 x y H Q
theorem DG:IxR X (rIx X.K):=xh.or (DE.or DF)
theorem uP (its:List Value) (n j:Nat) (u:Value):Obj.mapSeq (·.setIfInBounds j u) { cls:=.type "list",data:=.seq its.toArray n } = { cls:=.type "list",data:=.seq (its.set j u).toArray n }:=by
  simp [Obj.mapSeq]
theorem Inv.lst {pins:List (Addr × Obj)}{σ:St}{H:Hp}{s:Shared}{p:Addr}{xs:List V}(I:Inv X pins σ H s)(h:H p=some (.lst xs)) :
    ∃ (its:List Value) (n:Nat),aT xs its∧s.heap.get? p=some { cls:=.type "list",data:=.seq its.toArray n } ∧ xs.length≤sizeLine:=by
  obtain⟨z,its,n,r,e⟩:=I.hok p _ h
  exact⟨its,n,r,e,z⟩
theorem Inv.lstUpd {pins:List (Addr × Obj)}{σ:St}{H:Hp}{s:Shared}{p:Addr}{xs ys:List V}{its its':List Value}{n n':Nat}{f:Obj→Obj}(I:Inv X pins σ H s)(h:H p=some (.lst xs))
    (ho:s.heap.get? p=some { cls:=.type "list",data:=.seq its.toArray n }) (hf:f { cls:=.type "list",data:=.seq its.toArray n } = { cls:=.type "list",data:=.seq its'.toArray n' }) (r:aT ys its') (hz:ys.length≤sizeLine) (t:Nat) :
    Inv X pins σ (upd H p (.lst ys)) { s with heap:=s.heap.update p f,toks:=t }:=by
  have e:(s.heap.update p f).get? p=some { cls:=.type "list",data:=.seq its'.toArray n' }:=by
    rw [Heap.get?_update_self f ho (by rw [hf]<;>rfl),hf]
  refine I.write (x:=p) (e:=p) (by rw [h];trivial) (.inl rfl) (fun b u hb q=>(Heap.get?_update_other _ _ (Ne.symm hb)).trans q) ⟨_,e⟩ ?_
  exact⟨hz,its',n',r,e⟩
def E9:V→V→V→Hp→(Hp→Prop)→Prop:=fun o i v H Q=>∃ p xs k j,o=.ref p∧i=.int k∧H p=some (.lst xs)∧ixN xs.length k=some j∧Q (upd H p (.lst (xs.set j v)))
theorem zI:Ds X E9:=by
  intro pins s σ H o i v ov iv u Q I ro ri rv h
  obtain⟨p,xs,k,j,rfl,rfl,hp,hj,q⟩:=h
  cases ro
  obtain⟨t,rfl⟩:=ri
  obtain⟨its,n,r,ho,hz⟩:=I.lst hp
  obtain⟨h1,h2,h3,h4⟩:=xg hj
  have hl:=r.length
  have hn:=lC
  have I':Inv X pins σ (upd H p (.lst (xs.set j v))) { s with heap:=s.heap.update p (Obj.mapSeq (·.setIfInBounds j u)) } :=
    I.lstUpd hp ho (uP its n j u) (r.set rv j) (by rw [List.length_set];exact hz) s.toks
  by_cases h0:0≤k
  · have hk:k.toNat=j:=by
      rw [seqIndex_of h0 h4] at h1
      exact Option.some.inj h1
    exact PySem.W.ki_setAt ho h0 (by omega) (by rw [List.size_toArray,← hl];exact h4) (by rw [hk];exact⟨_,I',q⟩)
  · have hk:(k + (its.toArray.size:Int)).toNat=j:=by
      rw [seqIndex_neg (by omega) h3] at h1
      rw [List.size_toArray,← hl]
      exact Option.some.inj h1
    exact PySem.W.ki_setBack ho (by omega) (by rw [List.size_toArray,← hl];exact h3) (by omega) (by rw [hk];exact⟨_,I',q⟩)
def iB:V→Bool
  | .non=>true
  | .bl _=>true
  | .int _=>true
  | .str _=>true
  | _=>false
def eqV:V→V→Bool
  | .non,.non=>true
  | .bl a,.bl b=>a == b
  | .bl a,.int b=>(if a then 1 else 0) == b
  | .int a,.bl b=>a == (if b then 1 else 0)
  | .int a,.int b=>a == b
  | .str a,.str b=>a == b
  | _,_=>false
theorem DH {A:Around}{s:Shared}{y x:V}{u v:Value}(ry:bh y u)(rx:bh x v)(fy:iB y=true)(fx:iB x=true):SeqAt.EqAt A s u v (eqV y x):=by
  cases y with
  | non =>
    cases ry
    cases x with
    | non=>cases rx;exact SeqAt.EqAt.same _
    | bl b=>cases rx;exact SeqAt.EqAt.none_bool b
    | int b=>obtain⟨t,rfl⟩:=rx;exact SeqAt.EqAt.none_int b t
    | str b=>obtain⟨t,rfl⟩:=rx;exact SeqAt.EqAt.none_str b t
    | _=>exact absurd (show false=true from fx) Bool.false_ne_true
  | bl a =>
    cases ry
    cases x with
    | non=>cases rx;exact SeqAt.EqAt.bool_none a
    | bl b=>cases rx;exact SeqAt.EqAt.bool_bool a b
    | int b=>obtain⟨t,rfl⟩:=rx;exact SeqAt.EqAt.bool_int a b t
    | str b=>obtain⟨t,rfl⟩:=rx;exact SeqAt.EqAt.bool_str a b t
    | _=>exact absurd (show false=true from fx) Bool.false_ne_true
  | int a =>
    obtain⟨t',rfl⟩:=ry
    cases x with
    | non=>cases rx;exact SeqAt.EqAt.int_none a t'
    | bl b=>cases rx;exact SeqAt.EqAt.int_bool a t' b
    | int b=>obtain⟨t,rfl⟩:=rx;exact SeqAt.EqAt.int_int a t' b t
    | str b=>obtain⟨t,rfl⟩:=rx;exact SeqAt.EqAt.int_str a t' b t
    | _=>exact absurd (show false=true from fx) Bool.false_ne_true
  | str a =>
    obtain⟨t',rfl⟩:=ry
    cases x with
    | non=>cases rx;exact SeqAt.EqAt.str_none a t'
    | bl b=>cases rx;exact SeqAt.EqAt.str_bool a t' b
    | int b=>obtain⟨t,rfl⟩:=rx;exact SeqAt.EqAt.str_int a t' b t
    | str b=>obtain⟨t,rfl⟩:=rx;exact SeqAt.EqAt.str_str a t' b t
    | _=>exact absurd (show false=true from fx) Bool.false_ne_true
  | _=>exact absurd (show false=true from fy) Bool.false_ne_true
def eqU (x:V) (u:Value):Bool:=match u with
  | .none=>eqV .non x
  | .bool b=>eqV (.bl b) x
  | .int i _=>eqV (.int i) x
  | .str z _=>eqV (.str z) x
  | _=>false
theorem zJ {x y:V}{u:Value}(r:bh y u)(f:iB y=true):eqU x u=eqV y x:=by
  cases y with
  | non=>cases r;rfl
  | bl b=>cases r;rfl
  | int i=>obtain⟨t,rfl⟩:=r;rfl
  | str z=>obtain⟨t,rfl⟩:=r;rfl
  | _=>exact absurd (show false=true from f) Bool.false_ne_true
theorem sI {A:Around}{s:Shared}{x:V}{v:Value}(rx:bh x v)(fx:iB x=true):∀ {xs:List V} {us:List Value},aT xs us→xs.all iB=true → ∀ u∈us,SeqAt.EqAt A s u v (eqU x u)
  | _,_,.nil,_=>fun u hu=>by cases hu
  | y :: xs,u :: us,.cons r t,f=>fun u' hu=>by
    rw [List.all_cons,Bool.and_eq_true] at f
    rcases List.mem_cons.mp hu with rfl|hu
    · rw [zJ r f.1];exact DH r rx f.1 fx
    · exact sI rx fx t f.2 u' hu
theorem qg:eU X (.builtin "len") (fun xs H Q=>∃ p ys,xs=[.ref p]∧(SqL X.K H p ys∨SqT X.K H p ys)∧Q (.int ys.length) H):=by
  intro pins s σ H xs us Q I r h
  obtain⟨p,ys,rfl,hq,q⟩:=h
  obtain⟨u,rfl,rx⟩:=xf r
  cases rx
  have hn:=lC
  rcases hq with hq|hq
  · obtain⟨its,r',pl,hz⟩:=I.list hq
    have hlen:=r'.length
    exact Calls.call_len_list pl.isList (by simp only [List.size_toArray]<;>omega) ⟨.int ys.length,H,I.tok _,⟨s.toks + 1,by rw [List.size_toArray,hlen]⟩,q⟩
  · obtain⟨its,r',pl,hz⟩:=I.tuple hq
    have hlen:=r'.length
    exact len_tuple pl (by simp only [List.size_toArray]<;>omega) ⟨.int ys.length,H,I.tok _,⟨s.toks + 1,by rw [List.size_toArray,hlen]⟩,q⟩
theorem nG:eU X (.type "tuple") (fun xs H Q=>∃ p ys,xs=[.ref p]∧((SqL X.K H p ys ∧ ∀ l,H l=none→Q (.ref l) (upd H l (.tup ys)))∨(SqT X.K H p ys∧Q (.ref p) H))):=by
  intro pins s σ H xs us Q I r h
  obtain⟨p,ys,rfl,h⟩:=h
  obtain⟨u,rfl,rx⟩:=xf r
  cases rx
  rcases h with ⟨hq,q⟩|⟨hq,q⟩
  · obtain⟨its,r',pl,hz⟩:=I.list hq
    have hlen:=r'.length
    refine call_tuple_list pl.isList (fun h' kp => ?_) (by simp only [List.size_toArray]<;>omega)
    have I1:Inv X pins σ H { s with heap:=h' }:=I.kept (t':=s.toks) kp
    have I2:Inv X pins σ (upd H h'.objs.size (.tup ys)) { s with heap:=h'.push { cls:=.type "tuple",data:=.seq its.toArray } } :=
      I1.laid (t':=s.toks) (fun b o e=>Heap.get?_push_of_some _ e) (Nat.le_refl _) (show cZ X.prog X.w _ _ _ (.tup ys) from ⟨hz,its,r',lx.new _ _⟩)
    exact⟨.ref h'.objs.size,_,I2,rfl,q _ (I1.hok.fresh (Nat.le_refl _))⟩
  · obtain⟨its,r',pl,hz⟩:=I.tuple hq
    exact call_tuple_same pl ⟨.ref p,H,I,rfl,q⟩
def tyV (K:PySem.W.Frag) (T:String) (x:V) (H:Hp):Prop:=match x with
  | .str _=>T = "str"
  | .int _=>T = "int"
  | .ref p=>(T = "list" ∧ ∃ xs,SqL K H p xs)∨(T = "tuple" ∧ ∃ o,K.lookup p=some o∧o.cls=.type "tuple" ∧ o.dict=none) ∨
      (T = "dict" ∧ ((∃ kvs,H p=some (.dK kvs)) ∨ ∃ kvs,H p=some (.dT kvs)))∨(T = "set" ∧ ∃ S n,H p=some (.set S n))
  | _=>False
theorem DI {pins:List (Addr × Obj)}{σ:St}{H:Hp}{s:Shared}{T:String}{x:V}{v:Value}(I:Inv X pins σ H s)(r:bh x v)(ty:tyV X.K T x H) :
    s.TypeIs v T ∧ ∀ a,v=.ref a → ∃ ob,s.heap.get? a=some ob∧ob.dict=none:=by
  cases x with
  | str z =>
    obtain⟨t,rfl⟩:=r
    cases (show T = "str" from ty)
    exact⟨typeIs_str s z t,fun _ e=>nomatch e⟩
  | int i =>
    obtain⟨t,rfl⟩:=r
    cases (show T = "int" from ty)
    exact⟨typeIs_int s i t,fun _ e=>nomatch e⟩
  | ref p =>
    cases r
    rcases ty with ⟨rfl,xs,hq⟩|⟨rfl,o,hk,hc,hd⟩|⟨rfl,hk⟩|⟨rfl,S,n,hk⟩
    · obtain⟨its,_,pl,_⟩:=I.list hq
      refine⟨pl.isList.typeIs,fun a e => ?_⟩
      cases e
      obtain⟨o,n,e,c,hd,_⟩:=pl
      exact⟨o,e,hd⟩
    · refine⟨⟨o,I.kIn p o hk,hc⟩,fun a e => ?_⟩
      cases e
      exact⟨o,I.kIn _ o hk,hd⟩
    · have z:∃ o,s.heap.get? p=some o∧o.ExactDict:=by
        rcases hk with ⟨kvs,hk⟩|⟨kvs,hk⟩
        · obtain⟨_,_,_,_,o,_,_,e,ex,_⟩:=I.hok p _ hk
          exact⟨o,e,ex⟩
        · obtain⟨_,_,_,_,o,_,_,e,ex,_⟩:=I.hok p _ hk
          exact⟨o,e,ex⟩
      obtain⟨o,e,ex⟩:=z
      refine⟨⟨o,e,ex.1⟩,fun a e2 => ?_⟩
      cases e2
      exact⟨o,e,ex.2.1⟩
    · obtain⟨o,_,_,_,e,ex,_⟩:=I.hok p _ hk
      refine⟨⟨o,e,ex.1⟩,fun a e2 => ?_⟩
      cases e2
      exact⟨o,e,ex.2.1⟩
  | _=>exact False.elim ty
def tBM (K:PySem.W.Frag) (T:String) (r:V→List V→Hp→VK→Prop) (to:TE) (t:TA):TE:=fun σ H Q=>to σ H fun x H1=>tyV K T x H1∧t σ H1 fun xs H2=>r x xs H2 Q
variable {o e:Expr} {es:List Expr} {to:TE} {t:TA} {name:Str} {apos cpos:Pos} {T id:String} {r:V→List V→Hp→VK→Prop}
theorem CU (pa:PlainAttrs T) (slot:Slot T name id) (hty:typeOf (.builtin id)=pure (.type "method_descriptor")) (hm:MtR X id r) (ho:PE X o to) (ha:PA X (e :: es) t)
    (hbase:attributeBase o name X.env (eval o X.env)=eval o X.env:=by rfl)
    (hfew:((backTo cpos (starEach (e :: es) X.env)).all (fun x => !x.1) && (backToKw cpos (keywordEach [] X.env)).all (fun x=>x.1.isSome)
      && decide ((e :: es).length + ([] : List Keyword).length + (if ([] : List Keyword).isEmpty then 0 else 1) < 30))=true:=by rfl)
    (hline:(apos.endLine == cpos.line)=true:=by rfl) (hs:starEach (e :: es) X.env=(false,eval e X.env) :: starEach es X.env:=by rfl) (hplain:(backTo cpos (starEach es X.env)).any (·.1)=false:=by rfl) :
    PE X (.Call (.Attribute o name apos) (e :: es) [] cpos) (tBM X.K T r to t):=by
  intro pins s σ H Q I h
  refine wpAny_Call_method_late hbase hfew hline rfl (thn (ho pins s σ H _ I h) fun v s1 ⟨x,H1,I1,r1,ty,q1⟩ => ?_)
  obtain⟨h1,h2⟩:=DI I1 r1 ty
  refine⟨T,id,pa,slot,hty,h1,h2,?_⟩
  have hA:=ha cpos pins s1 σ H1 _ I1 q1
  rw [hs] at hA ⊢
  refine Calls.callWith_builtin (by show (false || (backTo cpos (starEach es X.env)).any (·.1))=false;rw [hplain]<;>rfl) (Calls.evalArgs_plain ?_)
  exact thn hA fun us s2 ⟨vs,H2,I2,r2,q2⟩=>hm pins s2 σ H2 x vs v us Q I2 r1 r2 q2
end
end L2
namespace L2
open PySem PySem.Spec PyProof.Rows
def MtM (X:Cx) (id:String) (r:V→List V→Hp→VK→Prop):Prop :=
  ∀ (pins:List (Addr × Obj)) (s:Shared) (σ:St) (H:Hp) (x:V) (xs:List V) (v:Value) (us:List Value) (Q:VK),Inv X pins σ H s→bh x v→aT xs us→r x xs H Q →
    wpAny (model X.prog X.w) X.A (call (.builtin id) (v :: us)) (EP X pins σ Q) X.xe s
theorem aT.one:∀ {x:V} {us:List Value},aT [x] us → ∃ u,us=[u]∧bh x u
  | _,_,.cons r .nil=>⟨_,rfl,r⟩
theorem aT.two:∀ {x y:V} {us:List Value},aT [x,y] us → ∃ u v,us=[u,v]∧bh x u∧bh y v
  | _,_,_,.cons r (.cons q .nil)=>⟨_,_,rfl,r,q⟩
section
variable {X:Cx} {pins:List (Addr × Obj)} {σ:St} {H:Hp} {s:Shared} {l b:Addr} {xs ys zs:List V}
theorem Inv.lset {its its':List Value}{n:Nat}{f:Array Value→Array Value}{t':Nat}(I:Inv X pins σ H s)(hH:H l=some (.lst xs))
    (e:s.heap.get? l=some { cls:=.type "list",data:=.seq its.toArray n }) (hf:f its.toArray=its'.toArray) (hv:aT ys its') (hz:ys.length≤sizeLine) :
    Inv X pins σ (upd H l (.lst ys)) { s with heap:=s.heap.update l (Obj.mapSeq f),toks:=t' }:=by
  have q:=PySem.IsL.update e f
  rw [hf] at q
  refine I.write (x:=l) (e:=l) (by rw [hH];exact trivial) (.inl rfl) (fun b' u hb hu=>(Heap.get?_update_other s.heap (Obj.mapSeq f) (Ne.symm hb)).trans hu) ⟨_,q⟩ ?_
  exact⟨hz,its',_,hv,q⟩
theorem Inv.lnew {its:List Value}{t':Nat}(I:Inv X pins σ H s)(hv:aT ys its)(hz:ys.length≤sizeLine) :
    Inv X pins σ (upd H s.heap.objs.size (.lst ys)) { s with heap:=s.heap.push { cls:=.type "list",data:=.seq its.toArray },toks:=t' } :=
  I.laid (fun _ _ q=>Heap.get?_push_of_some _ q) (Nat.le_refl _) ⟨hz,its,0,hv,Heap.get?_push_size _ rfl⟩
theorem Inv.lstM (I:Inv X pins σ H s) (hH:H l=some (.lst xs)):xs.length≤sizeLine ∧ ∃ (its:List Value) (n:Nat),aT xs its∧xs.length=its.length∧s.heap.get? l=some { cls:=.type "list",data:=.seq its.toArray n }:=by
  obtain⟨z,its,n,r,e⟩:=I.hok l _ hH
  exact⟨z,its,n,r,r.length,e⟩
end
section
variable {X:Cx}
def BM:V→List V→Hp→VK→Prop:=fun x vs H Q=>∃ l xs y,x=.ref l∧vs=[y]∧H l=some (.lst xs)∧xs.length < sizeLine∧Q .non (upd H l (.lst (xs++[y])))
theorem pd:MtM X "list.append" BM:=by
  intro pins s σ H x vs v us Q I rx rv h
  obtain⟨l,xs,y,rfl,rfl,hH,hz,q⟩:=h
  cases rx
  obtain⟨u,rfl,ru⟩:=rv.one
  obtain⟨z,its,n,r,hl,e⟩:=I.lstM hH
  refine call_meets F.slot_list_append ⟨_,e,rfl⟩ F.entry_list_append (F.args_list_append_2 _ _) (PySem.list_append l its.toArray n u (by rw [List.size_toArray];omega)) ⟨e,?_⟩
  refine⟨.non,_,I.lset (its':=its++[u]) hH e (by simp) (r.append (.cons ru .nil)) ?_,rfl,q⟩
  rw [List.length_append,List.length_singleton]
  omega
end
section
variable {prog:Program} {w:World} {A:Around} {E:Value→Shared→Prop} {s:Shared}
end
section
variable {X:Cx}
end
end L2
namespace Att
open PySem PySem.W PySem.Calls PyProof.Rows
theorem kO {P:Params}{h:Heap}:∀ (ns:List Int) (vs:List Value),WellAll P h vs (ns.map WData.int)→IntsAre vs ns:=by
  intro ns
  induction ns with
  | nil =>
    intro vs w
    rw [List.map_nil] at w
    cases w
    exact .nil
  | cons n ns ih =>
    intro vs w
    rw [List.map_cons] at w
    cases w with
    | cons a b =>
      cases a
      exact .cons _ _ (ih _ b)
theorem x8 {l:OpenLaw}{n:Nat}(hn:l.most=some n){P:Params}{h:Heap}{args:List WData}{vals:List Value}
    (hpre:l.row.toRowW.claim.pre args=true) (hwl:WellAll P h vals args) :
    ∃ a vs ns,vals=[Value.ref a]∧args=[WData.list (ns.map WData.int)]∧h.get? a=some { cls:=.type "list",data:=.seq vs.toArray } ∧ IntsAre vs ns∧ns.length≤n:=by
  have hsh:WShape.hasAll [] args [.list .int] = true:=(pre_splitW hpre).1
  have hc:l.pre.holds [] { args:=args } = true:=(pre_splitW hpre).2
  obtain⟨d,r,rfl,h1,h2⟩:=hasAllW_cons hsh
  obtain rfl:=hasAllW_nil h2
  obtain⟨xs,rfl,h3⟩:=hasW_list h1
  obtain⟨ns,rfl⟩:=items_int h3
  have hlen:ns.length≤n:=by
    unfold OpenLaw.pre at hc
    have h4:(WTm.not (.lt (.lit (.int (n:Int))) (.len (.arg 0)))).holds [] { args:=[.list (ns.map .int)] } = true:=by
      have h4:=(holds_andW hc).1
      rw [hn] at h4
      exact h4
    have h5:=condW_of h4 (w_not (w_lt w_lit (w_len_list (w_arg rfl))))
    rw [List.length_map] at h5
    refine Nat.le_of_not_lt fun q => ?_
    have q':(n:Int) < ((ns.length:Nat):Int):=by omega
    first
      | (rw [decide_eq_true q'] at h5;exact absurd h5 (by decide))
      | (simp at h5;omega)
  cases hwl with
  | cons w1 w2 =>
    cases w2
    cases w1 with
    | list ho hall=>exact⟨_,_,ns,rfl,rfl,ho,kO ns _ hall,hlen⟩
theorem ya (l:OpenLaw)(args:List WData):l.row.toRowW.claim.post args (.bool true) args=true :=
  postW_of (r:=l.row.toRowW) (X:=(true == true))
    (show WShape.has [] (.bool true) .bool=true by first|rfl|decide|simp [WShape.has,WShape.arms,WShape.armsAll])
    (show (WTm.eq .res (.lit (.bool true))).value [] { args:=args,res:=some (.bool true),after:=args } = some (.bool (true == true)) from w_eq_bool (w_res rfl) w_lit) rfl
theorem attach_call {l:OpenLaw}{n:Nat}{q:Program}{loose:List Str}{XP:(Str→Option Value)→Heap→Prop}{YP:World→Heap→Prop}{d:DefRec}
    (hn:l.most=some n) (hdf:d.params.defaults=[])
    (call:∀ (w:World) (s₀ s₁ : Shared) (mg mb:Str→Option Value) (fa:Addr) (o:Obj) (pm cd doc:Value) (a:Addr) (vs:List Value) (ns:List Int),
      Ground q loose [] XP w s₀ mg mb s₁.heap→YP w s₁.heap →
      s₁.heap.get? fa=some o→o.data=.func (docDef d.name d.params d.body d.scope pm cd doc)→s₁.heap.CodeRec cd d.name→mg d.name=some (.ref fa) →
      s₁.heap.get? a=some { cls:=.type "list",data:=.seq vs.toArray } → IntsAre vs ns→ns.length≤n→s₁.gens = #[] →
      codeAny (model l.prog w) callerA (.call (.ref fa) ⟨[.ref a],[]⟩) (fun r s'=>r=.ok (.ret (.bool true))∧OldK s₁.heap s'.heap∧s'.os=s₁.os∧AllBare s'.gens) s₁) :
    WalkO q loose XP YP l.row.toRowW d [] (fun f vs=>PySem.call f vs):=by
  intro w s₀ s₁ mg mb G Y fa o pm cd doc dV kV ho hd hcd hD hmg hg args vals as hpre hlay hrd hwl hlo
  obtain rfl:dV=.none:=Dflts.none hD hdf
  obtain rfl:kV=.none:=Dflts.noKw hD
  obtain⟨a,vs,ns,rfl,rfl,hobj,hints,hlen⟩:=x8 hn hpre hwl
  refine enter_call (codeAny_mono (call w s₀ s₁ mg mb fa o pm cd doc a vs ns G Y ho (fd_plain hd) hcd hmg hobj hints hlen hg) fun r s' hq => ?_)
  obtain⟨rfl,h2,h3,h4⟩:=hq
  exact⟨.inl ⟨.bool true,.bool true,[],rfl,fun _=>rfl,.bool true,ya l _,fun _=>⟨List.Pairwise.nil,fun _ hm=>(nomatch hm)⟩⟩,h2,h3,h4⟩
section
variable {prog:Program} {w:World} {A:Around} {E:Value→Shared→Prop} {s:Shared} {K:Frag}
def noObjs (h:Heap):Heap:={ h with objs := #[] }
theorem noObjs_get (h:Heap)(b:Addr):(noObjs h).get? b=none:=by
  cases e:(noObjs h).get? b with
  | none=>rfl
  | some o=>exact absurd (Heap.lt_size e) (Nat.not_lt_zero _)
def ledger (h:Heap) (L d:Addr):List (Addr × Obj):=(List.range h.objs.size).filterMap fun a=>if a=L∨a=d then none else (h.get? a).map fun o=>(a,o)
theorem mem_ledger {h:Heap}{L d a:Addr}{o:Obj}:(a,o)∈ledger h L d ↔ a≠L∧a≠d∧h.get? a=some o:=by
  unfold ledger
  rw [List.mem_filterMap]
  constructor
  · rintro⟨b,_,e⟩
    split at e
    · cases e
    · rename_i hb
      obtain⟨o',ho,e'⟩:=Option.map_eq_some_iff.mp e
      cases e'
      exact⟨fun q=>hb (.inl q),fun q=>hb (.inr q),ho⟩
  · rintro⟨n1,n2,ho⟩
    refine⟨a,List.mem_range.mpr (Heap.lt_size ho),?_⟩
    rw [if_neg (show ¬ (a=L∨a=d) from fun q=>q.elim n1 n2),ho]<;>rfl
theorem fr_all {h:Heap}{L:Addr}{m:Str→Option Value}(n:h.Ns L m):Fr (noObjs h) L h m :=
  ⟨n,fun b o e=>(by rw [noObjs_get] at e;cases e),Nat.zero_le _⟩
end
end Att
namespace L2
open PySem PySem.Spec PyProof.Rows
theorem pf:∀ {vs:List Value} {ns:List Int},IntsAre vs ns→aT (ns.map V.int) vs
  | _,_,.nil=>.nil
  | _,_,.cons n t h=>.cons ⟨t,rfl⟩ (pf h)
def DJ (H:Hp):Prop:=∀ b,H b=none ∨ ∃ o xs,H b=some (.frz o (.lst xs))
theorem zK {P:Program}{w:World}{K:PySem.W.Frag}{mg mb:Str→Option Value}{CX:CXT}{k:Nat}{fa a:Addr}{fd:FuncData}{x:Str}{sp:Sp}{s₁ : Shared}{vs:List Value}{ns:List Int}
    (KX:K.In s₁.heap) (hns:s₁.heap.Ns mainGlobals mg) (hb:s₁.heap.Ns builtinsNs mb) (hbb:∀ x:Str,x ≠ "__name__" → mb x=bootBuiltins x) (hlim:s₁.heap.NoLimit) (hg:s₁.gens = #[])
    (ha:s₁.heap.get? a=some { cls:=.type "list",data:=.seq vs.toArray }) (hi:IntsAre vs ns) (hl:ns.length≤sizeLine) (hr:fV k callerA)
    (F:∀ base:Heap,K.In base→base.Ns mainGlobals mg→cG P w K mg base CX k fa fd [x] sp) (hbind:∀ (s:Shared) (u:Value),BindsTo s fd ⟨[u],[]⟩ [(x,u)])
    (hsp:∀ H:Hp,DJ H→SqL K H a (ns.map V.int)→sp [.ref a] H (fun v _=>v=.bl true) fun _ _ _=>False)
    (hCX:∀ H e s',CX [] H s₁ (fun _ _ _=>False) e s'→False) :
    codeAny (model P w) callerA (.call (.ref fa) ⟨[.ref a],[]⟩) (fun r s'=>r=.ok (.ret (.bool true))∧OldK s₁.heap s'.heap∧s'.os=s₁.os∧AllBare s'.gens) s₁ := by
  have rv:=pf hi
  have lenV:=hi.length
  have core:∀ H:Hp,DJ H→SqL K H a (ns.map V.int)→HOk P w H s₁.heap→(∀ b,H b≠none→b=a)→(H a≠none→K.lookup a=none) →
      codeAny (model P w) callerA (.call (.ref fa) ⟨[.ref a],[]⟩) (fun r s'=>r=.ok (.ret (.bool true))∧OldK s₁.heap s'.heap∧s'.os=s₁.os∧AllBare s'.gens) s₁ := by
    intro H hO hS hok hA hK
    have base_of:∀ {b:Addr} {o:Obj},s₁.heap.get? b=some o→H b=none→(qc s₁.heap H).get? b=some o:=fun e n=>zq e n
    have noA:∀ {b:Addr} {o:Obj} {es:Array DictEntry} {ep:Nat},s₁.heap.get? b=some o→o.data=.dict es ep→H b=none:=fun {b o es ep} e d=>by
      cases q:H b with
      | none=>rfl
      | some u =>
        have e':b=a:=hA b (by rw [q];simp)
        subst e'
        rw [ha] at e;cases e
        have d':Data.seq vs.toArray _=Data.dict es ep:=d
        cases d'
    have nsK:∀ {b:Addr} {m:Str→Option Value},s₁.heap.Ns b m→(qc s₁.heap H).Ns b m:=fun {b m} ⟨o,es,ep,e,d,r⟩=>⟨o,es,ep,base_of e (noA e d),d,r⟩
    have hKb:K.In (qc s₁.heap H):=fun b o e=>base_of (KX b o e) (by
      cases q:H b with
      | none=>rfl
      | some u =>
        have e':b=a:=hA b (by rw [q];simp)
        subst e'
        rw [hK (by rw [q];simp)] at e;cases e)
    have hM:Mod K mg (qc s₁.heap H):=⟨hKb,nsK hns,⟨mb,nsK hb,hbb⟩,let ⟨mc,h1,h2⟩:=hlim;⟨mc,nsK h1,h2⟩⟩
    have e0:BI P w K mg (qc s₁.heap H) callerA [] s₁ H:=⟨rfl,hM,fun b o e=>Bv e,Nat.le_of_eq (xT _ _),trivial,fun b hb=>absurd (show b∈([] : List Addr) from hb) (by simp),hok,.of_eq hg⟩
    refine codeAny_mono ((F _ hKb (nsK hns)).run callerA [] s₁ H ⟨[.ref a],[]⟩ [.ref a] [.ref a] _ _ hr e0 (hbind s₁ (.ref a)) (.cons rfl .nil) (hsp H hO hS)) fun r s' h => ?_
    cases r with
    | error e=>exact (hCX H e s' h).elim
    | ok fl =>
      cases fl with
      | next=>exact False.elim h
      | brk=>exact False.elim h
      | cont=>exact False.elim h
      | ret u =>
        obtain⟨v,H',os,bare,un,hok',r',q⟩:=h
        have q':v=.bl true:=q
        subst q'
        obtain rfl:u=Value.bool true:=r'
        refine⟨rfl,OldK.of_keep fun b o e => ?_,os,bare⟩
        cases q:H b with
        | none=>exact un.keep b o e q (by intro z;exact absurd (show b∈([] : List Addr) from z) (by simp)) (by simp)
        | some u =>
          rcases hO b with z|⟨ob,xs,z⟩
          · rw [q] at z;cases z
          · have z2:=un.frzs b ob _ z
            obtain⟨e1,_⟩:=hok b _ z
            obtain⟨e2,_⟩:=hok' b _ z2
            rw [e] at e1;cases e1
            exact e2
  cases hk:K.lookup a with
  | some o =>
    have e:=KX a o hk
    rw [ha] at e
    cases e
    refine core (fun _=>none) (fun _=>.inl rfl) (.inr ⟨_,vs.toArray,_,hk,rfl,rfl,rfl,by rw [List.size_toArray,lenV];exact hl,by simpa using rv⟩) (fun b u z=>by have z':(none:Option HO)=some u:=z;cases z') (fun b z=>absurd rfl z) fun z=>absurd rfl z
  | none =>
    refine core (fun b=>if b=a then some (.frz { cls:=.type "list",data:=.seq vs.toArray } (.lst (ns.map V.int))) else none) (fun b => ?_) (.inl (.inr ⟨{ cls:=.type "list",data:=.seq vs.toArray },if_pos rfl⟩)) (fun b u z => ?_) (fun b z => ?_) fun _=>hk
    · by_cases hb:b=a
      · exact .inr ⟨_,_,if_pos hb⟩
      · exact .inl (if_neg hb)
    · by_cases hb:b=a
      · have z':=(if_pos hb).symm.trans z
        cases z'
        subst hb
        exact⟨ha,by rw [List.length_map];exact hl,vs,_,rv,ha⟩
      · have z':=(if_neg hb).symm.trans z
        cases z'
    · by_cases hb:b=a
      · exact hb
      · exact absurd (if_neg hb) z
end L2
namespace L2
open PySem PySem.Spec PyProof.Rows
theorem BN {l:PySem.W.OpenLaw}{n k:Nat}{q:Program}{loose:List Str}{XP:(Str→Option Value)→Heap→Prop}{YP:World→Heap→Prop}{d:DefRec}{K:Params→PySem.W.Frag}{CX:World→CXT}{sp:World→Sp}{x:Str}
    (hn:l.most=some n) (hn2:n≤sizeLine) (hdf:d.params.defaults=[]) (hr:fV k callerA)
    (hY:∀ (w:World) (h:Heap),YP w h→(K w.params).In h)
    (F:∀ (w:World) (mg:Str→Option Value) (fa:Addr) (h:Heap),(K w.params).In h→h.Ns mainGlobals mg→mg d.name=some (.ref fa) →
      ∃ fd:FuncData,(∀ (s:Shared) (u:Value),BindsTo s fd ⟨[u],[]⟩ [(x,u)]) ∧
        ∀ base:Heap,(K w.params).In base→base.Ns mainGlobals mg→cG l.prog w (K w.params) mg base (CX w) k fa fd [x] (sp w))
    (hsp:∀ (w:World) (H:Hp) (a:Addr) (ns:List Int),ns.length≤n→DJ H→SqL (K w.params) H a (ns.map V.int)→sp w [.ref a] H (fun v _=>v=.bl true) fun _ _ _=>False)
    (hCX:∀ (w:World) (H:Hp) (s:Shared) (e:Value) (s':Shared),CX w [] H s (fun _ _ _=>False) e s'→False) :
    PySem.W.WalkO q loose XP YP l.row.toRowW d [] (fun f vs=>PySem.call f vs):=by
  refine Att.attach_call hn hdf fun w s₀ s₁ mg mb fa o pm cd doc a vs ns G Y ho hd hcd hmg hobj hints hlen hg => ?_
  have KX:=hY w _ Y
  obtain⟨fd,hb,hF⟩:=F w mg fa _ KX G.T.g hmg
  exact zK KX G.T.g G.T.b G.T.builtins G.T.nolimit hg hobj hints (Nat.le_trans hlen hn2) hr hF hb (fun H hO hS=>hsp w H a ns hlen hO hS) fun H e s'=>hCX w H s₁ e s'
end L2
namespace L2
open PySem PySem.Spec PyProof.Rows
def aU (s:Stmt):Arguments:=match s with
  | .FunctionDef _ a _ _ _ _ _ _ _ _=>a
  | _=>{ posonlyargs:=[],args:=[],vararg:=none,kwonlyargs:=[],kw_defaults:=[],kwarg:=none,defaults:=[] }
def aL (s:Stmt):List Stmt:=match s with
  | .FunctionDef _ _ b _ _ _ _ _ _ _=>b
  | _=>[]
def ak (s:Stmt):Scope:=match s with
  | .FunctionDef _ _ _ _ _ _ sc _ _ _=>sc
  | _=>{ kind:=.function,names:=[],isGenerator:=false,isCoroutine:=false }
abbrev CX0:CXT:=fun _ _ _ _ _ _=>False
abbrev E0:XK:=fun _ _ _=>False
theorem Fc {X:Cx}:uN CX0 X E0:=fun _ _ _ _ _ _ _ h=>h.elim
structure Fun (K:PySem.W.Frag) (x qual:Str) (st:Stmt) (f:Addr) (fd:FuncData):Prop where
  ex:∃ (oc:Value) (od:Option Addr) (kV doc pm:Value) (an:Option Addr) (cdv ct:Value) (osl:Array (Option Value)),
    fd=PySem.W.fnOf x qual (aU st) (aL st) (ak st) .none kV doc pm an cdv ct∧K.lookup f=some ⟨oc,od,.func fd,osl⟩ ∧ PySem.W.codeIn K cdv qual=true
  kp:PySem.W.keepIn K (.ref f)=true
section
variable {P:Program} {w:World} {K:PySem.W.Frag} {mg:Str→Option Value} {base:Heap}
theorem Fun.ok {x qual:Str}{st:Stmt}{f:Addr}{fd:FuncData}{N ps:List Str}{k:Nat}{sp:Sp}(F:Fun K x qual st f fd)(S:aY N ps (ak st))(len:∀ vs H Q E,sp vs H Q E→vs.length=ps.length)
    (hbody:∀ (cdv:Value) (A:Around) (outer:List Env) (s:Shared) (H:Hp) (vs:List V) (Q:VK) (E:XK),fV k (A.deeper (envOfC qual (ak st) s.heap.objs.size f cdv))→sp vs H Q E →
      ∃ t,PSs (uO CX0 P w K mg base N qual (ak st) f cdv A outer s H E).nox (aL st) t∧t { nx:=fun _ H'=>Q .non H',rt:=Q } (gF N vs) H):cG P w K mg base CX0 (k + 1) f fd ps sp:=by
  obtain⟨oc,od,kV,doc,pm,an,cdv,ct,osl,rfl,lk,hcd⟩:=F.ex
  refine E5 lk hcd S len fun A outer s H vs Q E hr hsp => ?_
  obtain⟨t,h,q⟩:=hbody cdv A outer s H vs Q E hr hsp
  exact⟨t,h.nox,q⟩
theorem Fun.binds {x qual:Str}{st:Stmt}{f:Addr}{fd:FuncData}{ps:List Str}(F:Fun K x qual st f fd)
    (h:∀ (kV doc pm:Value) (an:Option Addr) (cdv ct:Value) (us:List Value),us.length=ps.length→bindArgs (PySem.W.fnOf x qual (aU st) (aL st) (ak st) .none kV doc pm an cdv ct) ⟨us,[]⟩ = pure (ps.zip us)):lE K fd ps []:=by
  obtain⟨oc,od,kV,doc,pm,an,cdv,ct,osl,rfl,lk,hcd⟩:=F.ex
  exact .all (h kV doc pm an cdv ct)
theorem bx {x qual:Str}{st:Stmt}{f:Addr}{oc:Value}{od an:Option Addr}{osl:Array (Option Value)}{kV doc pm cdv ct:Value}(l:K.lookup f=some ⟨oc,od,.func (PySem.W.fnOf x qual (aU st) (aL st) (ak st) .none kV doc pm an cdv ct),osl⟩)
    (c:PySem.W.codeIn K cdv qual=true) (k:PySem.W.keepIn K (.ref f)=true):Fun K x qual st f (PySem.W.fnOf x qual (aU st) (aL st) (ak st) .none kV doc pm an cdv ct):=⟨⟨oc,od,kV,doc,pm,an,cdv,ct,osl,rfl,l,c⟩,k⟩
end
section
variable {X:Cx}
end
def gC (H H':Hp):Prop:=∀ b o,H b=some o→H' b=some o
theorem gC.refl (H:Hp):gC H H:=fun _ _ h=>h
end L2
set_option linter.all false
namespace L2
open PySem PySem.Spec
structure F8 (h:Heap) (a D:Addr) (o:Obj):Prop where
  at_:h.get? a=some o
  cls:o.cls=.ref D
def Fd (a C:Addr):HO:=.ext fun h=>∃ o,F8 h a C o
end L2
namespace Fm
inductive D where
  | non|bl (b:Bool)|int (i:Int)|str (x:List Nat)|tup (l:List D)|ref (n:Nat)|lit (l:List D)|exn (c:String) (l:List D)
deriving Inhabited
inductive cX where
  | lst (l:List D)|dct (l:List (Int × D))
abbrev Hd:=List cX
inductive Res (α : Type) where
  | ok (a : α) (h:Hd)|exc (x:D) (h:Hd)|bad
def Res.bind {α β : Type} (r:Res α) (f : α → Hd→Res β):Res β := match r with
  | .ok a h=>f a h | .exc x h=>.exc x h | .bad=>.bad
@[simp] theorem aM {α β : Type} (a : α) (h:Hd) (f : α → Hd→Res β):(Res.ok a h).bind f=f a h:=rfl
abbrev Sd:=List (Option D)
abbrev EF:=Sd→Hd→Res D
abbrev TF:=Sd→Hd→Res Bool
abbrev LF:=Sd→Hd→Res (List D)
inductive Out where
  | nx (σ:Sd) (h:Hd)|rt (d:D) (h:Hd)|bk (σ:Sd) (h:Hd)|ct (σ:Sd) (h:Hd)|exc (x:D) (σ:Sd) (h:Hd)|bad
abbrev SF:=Sd→Hd→Out
abbrev Fn:=List D→Hd→Res D
abbrev SZ:Nat:=1000000
@[simp] def slot (σ:Sd) (i:Nat):Option D:=match σ[i]? with|some (some d)=>some d|_=>none
@[simp] def aa (i:Nat):EF:=fun σ h=>match slot σ i with|some d=>.ok d h|none=>.bad
@[simp] def fC (d:D):EF:=fun _ h=>.ok d h
abbrev O2:=D→D→Hd→Res D
@[simp] def al (g:O2) (a b:EF):EF:=fun σ h=>(a σ h).bind fun x h=>(b σ h).bind fun y h=>g x y h
@[simp] def oI (g:Int→Int→Int):O2:=fun x y h=>match x,y with | .int i,.int j=>.ok (.int (g i j)) h|_,_=>.bad
@[simp] def oB (g:Int→Int→Bool):O2:=fun x y h=>match x,y with | .int i,.int j=>.ok (.bl (g i j)) h|_,_=>.bad
@[simp] def oIc (c:Int→Int→Bool) (g:Int→Int→Int):O2:=fun x y h=>match x,y with | .int i,.int j=>if c i j then .ok (.int (g i j)) h else .bad|_,_=>.bad
def sml (i:Int):Bool:=decide (-18446744073709551616 < i) && decide (i < 18446744073709551616)
@[simp] def cA:O2:=fun x y h=>match x,y with
  | .int i,.int j=>.ok (.int (i + j)) h
  | .tup (x :: xs),.tup ys=>if (x :: xs).length + ys.length≤SZ then .ok (.tup (x :: xs++ys)) h else .bad
  | _,_=>.bad
@[simp] def nH:O2:=fun x y h=>(oI (· - ·)) x y h
@[simp] def e9:O2:=fun x y h=>(oIc (fun i j=>sml i || sml j) (· * ·)) x y h
@[simp] def jJ:O2:=fun x y h=>(oIc (fun _ j=>decide (0 < j)) (· % ·)) x y h
@[simp] def DK:O2:=fun x y h=>(oIc (fun _ j=>decide (0 < j) && decide (j < 2 ^ 250)) (· / ·)) x y h
@[simp] def qh:O2:=fun x y h=>(oIc (fun i j=>decide (0≤j) && decide (j≤1000000) && sml i) (fun i j=>i ^ j.toNat)) x y h
@[simp] def oLt:O2:=fun x y h=>(oB fun i j=>decide (i < j)) x y h
@[simp] def oLe:O2:=fun x y h=>(oB fun i j=>decide (i≤j)) x y h
@[simp] def oGt:O2:=fun x y h=>(oB fun i j=>decide (j < i)) x y h
@[simp] def Gf:D→Hd→Res D:=fun x h=>match x with | .int i=>.ok (.int (-i)) h|_=>.bad
@[simp] def ko:D→Bool | .non=>true|_=>false
@[simp] def sJ:O2:=fun x y h=>if ko y then .ok (.bl (ko x)) h else .bad
@[simp] def eV:O2:=fun x y h=>if ko y then .ok (.bl (!ko x)) h else .bad
@[simp] def b2i (b:Bool):Int:=if b then 1 else 0
mutual
def peq:D→D→Option Bool
  | .int i,k=>match k with | .int j=>some (decide (i=j)) | .bl c=>some (decide (i=b2i c)) | .non=>some false | .tup _=>some false|_=>none
  | .bl c,k=>match k with | .int j=>some (decide (b2i c=j)) | .bl d=>some (decide (c=d))|_=>none
  | .str x,k=>match k with | .str y=>some (decide (x=y))|_=>none
  | .non,k=>match k with | .non=>some true | .int _=>some false | .tup _=>some false|_=>none
  | .tup xs,k=>match k with | .tup ys=>(fW xs ys).map fun b=>b && decide (xs.length=ys.length) | .non=>some false | .int _=>some false|_=>none
  | .ref _,_=>none
  | .lit _,_=>none
  | .exn _ _,_=>none
def fW:List D→List D→Option Bool
  | x :: xs,y :: ys=>match peq x y,fW xs ys with
    | some a,some b=>some (a && b)
    | _,_=>none
  | _,_=>some true
end
mutual
def dep:D→Nat
  | .tup l=>nI l + 1
  | _=>0
def nI:List D→Nat
  | []=>0
  | x :: xs=>max (dep x) (nI xs)
end
def eqL (xs ys:List D):Option Bool:=if nI xs≤20 then (if xs.length=ys.length then fW xs ys else some false) else none
@[simp] def dz (h:Hd):D→Option (List D)
  | .ref n=>match h[n]? with|some (.lst l)=>some l|_=>none
  | .lit l=>some l
  | _=>none
@[simp] def eqG (h:Hd) (x y:D):Option Bool:=match dz h x,dz h y with
  | some xs,some ys=>eqL xs ys
  | none,none=>if dep x≤20 then peq x y else none
  | _,_=>none
@[simp] def oEq:O2:=fun x y h=>match eqG h x y with|some b=>.ok (.bl b) h|none=>.bad
@[simp] def oNe:O2:=fun x y h=>match eqG h x y with|some b=>.ok (.bl (!b)) h|none=>.bad
@[simp] def cV:D→Bool
  | .non=>true | .bl _=>true | .int _=>true | .str _=>true|_=>false
@[simp] def eqF:D→D→Bool
  | .non,k=>match k with | .non=>true|_=>false
  | .bl a,k=>match k with | .bl b=>a == b | .int b=>b2i a == b|_=>false
  | .int a,k=>match k with | .bl b=>a == b2i b | .int b=>a == b|_=>false
  | .str a,k=>match k with | .str b=>a == b|_=>false
  | .tup _,_=>false
  | .ref _,_=>false
  | .lit _,_=>false
  | .exn _ _,_=>false
@[simp] def asB (r:Res D):Res Bool:=r.bind fun x h=>match x with | .bl b=>.ok b h|_=>.bad
@[simp] def tE (a:EF):TF:=fun σ h=>asB (a σ h)
@[simp] def jI (t:TF):TF:=fun σ h=>(t σ h).bind fun b h=>.ok (!b) h
@[simp] def gB (t u:TF):TF:=fun σ h=>(t σ h).bind fun b h=>if b then u σ h else .ok false h
@[simp] def tOr (t u:TF):TF:=fun σ h=>(t σ h).bind fun b h=>if b then .ok true h else u σ h
@[simp] def fT (t:TF):EF:=fun σ h=>(t σ h).bind fun b h=>.ok (.bl b) h
@[simp] def fIf (t:TF) (a b:EF):EF:=fun σ h=>(t σ h).bind fun c h=>if c then a σ h else b σ h
@[simp] def lG (g k:O2) (a b c:EF):EF:=fun σ h=>(a σ h).bind fun x h=>(b σ h).bind fun y h=>(g x y h).bind fun z h=>match z with
  | .bl true=>(c σ h).bind fun w h=>k y w h
  | .bl false=>.ok (.bl false) h
  | _=>.bad
@[simp] def aA:LF:=fun _ h=>.ok [] h
@[simp] def ae (a:EF) (r:LF):LF:=fun σ h=>(a σ h).bind fun x h=>(r σ h).bind fun xs h=>.ok (x :: xs) h
@[simp] def lH (r:LF):EF:=fun σ h=>(r σ h).bind fun xs h=>if xs.length≤SZ then .ok (.tup xs) h else .bad
@[simp] def cJ (r:LF):EF:=fun σ h=>(r σ h).bind fun xs h=>if xs.length≤SZ then .ok (.ref h.length) (h++[.lst xs]) else .bad
@[simp] def iC (h:Hd):D→Option (List D)
  | .tup l=>some l
  | .lit l=>some l
  | .ref n=>match h[n]? with|some (.lst l)=>some l|_=>none
  | _=>none
@[simp] def lOf (a:EF):LF:=fun σ h=>(a σ h).bind fun x h=>match iC h x with|some l=>.ok l h|none=>.bad
@[simp] def iP (x e:EF):EF:=fun σ h=>(x σ h).bind fun p h=>match dz h p with
  | some _=>(e σ h).bind fun d h=>match dz h p with
    | some l=>if cV d && l.all cV then .ok (.int (l.countP fun z=>eqF z d)) h else .bad
    | none=>.bad
  | none=>.bad
def ixN (n:Nat) (i:Int):Option Nat:=if 0≤i then (if i < n then some i.toNat else none) else if -(n:Int)≤i then some (i + n).toNat else none
def atI (xs:List D) (i:Int):Option D:=(ixN xs.length i).bind fun j=>xs[j]?
@[simp] def fIx (a:LF) (b:EF):EF:=fun σ h=>(a σ h).bind fun l h=>(b σ h).bind fun y h=>match y with
  | .int i=>match atI l i with|some d=>.ok d h|none=>.bad
  | _=>.bad
@[simp] def oAt:O2:=fun x y h=>match iC h x,y with
  | some l,.int i=>match atI l i with|some d=>.ok d h|none=>.bad
  | _,_=>.bad
@[simp] def fAt (a b:EF):EF:=fun σ h=>al oAt a b σ h
@[simp] def c5 (a:LF):EF:=fun σ h=>(a σ h).bind fun l h=>.ok (.int l.length) h
def eF:List D→Option (List Int)
  | []=>some []
  | .int i :: r=>(eF r).map (i :: ·)
  | _=>none
@[simp] def yb (a:LF):EF:=fun σ h=>(a σ h).bind fun l h=>match eF l with|some is=>.ok (.int is.sum) h|none=>.bad
@[simp] def cn (a:LF):EF:=fun σ h=>(a σ h).bind fun l h=>.ok (.tup l) h
@[simp] def yc (a:EF):EF:=fun σ h=>(a σ h).bind fun x h=>match x with | .int i=>.ok (.int i) h | .bl b=>.ok (.int (b2i b)) h|_=>.bad
inductive Ty where|int|bool|tuple|list|str
deriving DecidableEq
@[simp] def zL (h:Hd) (t:Ty):D→Option Bool
  | .non=>some false
  | .bl _=>some (t == .bool || t == .int)
  | .int _=>some (t == .int)
  | .str _=>some (t == .str)
  | .tup _=>some (t == .tuple)
  | .lit _=>some (t == .list)
  | .ref n=>match h[n]? with|some (.lst _)=>some (t == .list)|some (.dct _)=>some false|none=>none
  | .exn _ _=>none
@[simp] def sK (t:Ty) (a:EF):EF:=fun σ h=>(a σ h).bind fun x h=>match zL h t x with|some b=>.ok (.bl b) h|none=>.bad
def sIx (n d:Nat):Option Int→Nat
  | none=>d
  | some i=>if i < 0 then (i + n).toNat else min i.toNat n
def cut (l:List D) (lo hi:Option Int):List D:=(l.drop (sIx l.length 0 lo)).take (sIx l.length l.length hi - sIx l.length 0 lo)
def bw:List Int→List Int→Bool
  | [],[]=>false
  | [],_ :: _=>true
  | _ :: _,[]=>false
  | x :: xs,y :: ys=>if x=y then bw xs ys else decide (x < y)
def lI:List D→Option (List (List Int))
  | []=>some []
  | .tup l :: r=>match eF l,lI r with|some a,some b=>some (a :: b)|_,_=>none
  | _=>none
def qi:List (List Int)→Bool
  | a :: b :: r => !bw b a && qi (b :: r)
  | _=>true
@[simp] def lh (l:List D):Option (List D):=match lI l with
  | some r=>if l.length < 64∧qi r=true∧r.all (fun x => !x.isEmpty)=true then some l else none
  | none=>none
@[simp] def jK (a:EF):LF:=fun σ h=>(a σ h).bind fun x h=>match dz h x with
  | some l=>match lh l with|some l=>.ok l h|none=>.bad
  | none=>.bad
@[simp] def ay (F:Fn) (r:LF):EF:=fun σ h=>(r σ h).bind fun xs h=>F xs h
abbrev IF:=Sd→Hd→Res (List D × Option Nat)
@[simp] def bM (a:EF):IF:=fun σ h=>(a σ h).bind fun x h=>match x with
  | .int n=>if -1000000≤n∧n≤1000000 then .ok ((List.range n.toNat).map (fun k:Nat=>.int k),none) h else .bad
  | _=>.bad
@[simp] def iy (a:EF):IF:=fun σ h=>(a σ h).bind fun x h=>match x with
  | .tup l=>.ok (l,none) h
  | .lit l=>.ok (l,none) h
  | .ref n=>match h[n]? with|some (.lst l)=>.ok (l,some n) h|_=>.bad
  | _=>.bad
@[simp] def zM (a:EF):IF:=fun σ h=>(a σ h).bind fun x h=>match x with
  | .tup l=>.ok ((List.range l.length).zip l |>.map fun p=>.tup [.int (p.1:Nat),p.2],none) h
  | _=>.bad
noncomputable section
open Classical
def iQ (g:Option Nat) (all:List D) (h:Hd):Prop:=match g with|none=>True|some n=>h[n]? = some (.lst all)
abbrev GF:=D→Sd→Option Sd
@[simp] def gN (i:Nat):GF:=fun d σ=>some (σ.set i (some d))
@[simp] def gT (l:List Nat):GF:=fun d σ=>match d with
  | .tup xs=>if xs.length=l.length then some ((l.zip xs).foldl (fun σ p => σ.set p.1 (some p.2)) σ) else none
  | _=>none
@[simp] def aD (a b:SF):SF:=fun σ h=>match a σ h with | .nx σ h=>b σ h|r=>r
@[simp] def cK:SF:=fun σ h=>.nx σ h
@[simp] def outE (r:Res D) (σ:Sd) (k:D→Hd→Out):Out:=match r with | .ok d h=>k d h | .exc x h=>.exc x σ h | .bad=>.bad
@[simp] def aF (g:GF) (a:EF):SF:=fun σ h=>outE (a σ h) σ fun d h=>match g d σ with|some σ=>.nx σ h|none=>.bad
@[simp] def bI (a:EF):SF:=fun σ h=>outE (a σ h) σ fun d h=>.rt d h
@[simp] def fg (a:EF):SF:=fun σ h=>outE (a σ h) σ fun _ h=>.nx σ h
@[simp] def sIf (t:TF) (a b:SF):SF:=fun σ h=>match t σ h with | .ok c h=>if c then a σ h else b σ h | .exc x h=>.exc x σ h | .bad=>.bad
def DM:SF:=fun _ _=>.bad
@[simp] def Fe (x i e:EF):SF:=fun σ h=>outE (e σ h) σ fun d h=>outE (x σ h) σ fun p h=>outE (i σ h) σ fun j h=>match p,j with
  | .ref n,.int j=>match h[n]? with
    | some (.lst l)=>match ixN l.length j with
      | some k=>.nx σ (h.set n (.lst (l.set k d)))
      | none=>.bad
    | _=>.bad
  | _,_=>.bad
@[simp] def DN:O2:=fun p d h=>match p with
  | .ref n=>match h[n]? with
    | some (.lst l)=>if l.length < SZ then .ok .non (h.set n (.lst (l++[d]))) else .bad
    | _=>.bad
  | _=>.bad
@[simp] def fF (x e:EF):EF:=fun σ h=>(x σ h).bind fun p h=>match p with
  | .ref n=>match h[n]? with
    | some (.lst _)=>(e σ h).bind fun d h=>DN (.ref n) d h
    | _=>.bad
  | _=>.bad
def iA (g:Option Nat) (all:List D) (tg:GF) (b:SF):List D→SF
  | [],σ,h=>if iQ g all h then .nx σ h else .bad
  | x :: xs,σ,h=>if iQ g all h then match tg x σ with
      | some σ=>match b σ h with
        | .nx σ h=>iA g all tg b xs σ h
        | .ct σ h=>iA g all tg b xs σ h
        | .bk σ h=>.nx σ h
        | r=>r
      | none=>.bad
    else .bad
@[simp] def fX (it:IF) (tg:GF) (b:SF):SF:=fun σ h=>match it σ h with
  | .ok (l,g) h=>iA g l tg b l σ h
  | .exc x h=>.exc x σ h
  | .bad=>.bad
def cY (t:TF) (b:SF):Nat→SF
  | 0,_,_=>.bad
  | n + 1,σ,h=>match t σ h with
    | .ok true h=>match b σ h with
      | .nx σ h=>cY t b n σ h
      | .ct σ h=>cY t b n σ h
      | .bk σ h=>.nx σ h
      | r=>r
    | .ok false h=>.nx σ h
    | .exc x h=>.exc x σ h
    | .bad=>.bad
def BO (t:TF) (b:SF):Sd→Hd→Nat:=fun σ h=>if ex:∃ n,cY t b n σ h ≠ .bad then Classical.choose ex else 0
def lJ (t:TF) (b:SF):SF:=fun σ h=>cY t b (BO t b σ h) σ h
@[simp] def gG:List TF→TF
  | [],_,h=>.ok true h
  | t :: r,σ,h=>(t σ h).bind fun b h=>if b then gG r σ h else .ok false h
def cB (g:Option Nat) (all:List D) (tg:GF) (cs:List TF) (e:EF):List D→Sd→Hd→Res (List D)
  | [],_,h=>if iQ g all h then .ok [] h else .bad
  | x :: xs,σ,h=>if iQ g all h then match tg x σ with
      | some σ=>(gG cs σ h).bind fun b h=>if b then (e σ h).bind fun d h=>(cB g all tg cs e xs σ h).bind fun ds h=>.ok (d :: ds) h
        else cB g all tg cs e xs σ h
      | none=>.bad
    else .bad
@[simp] def fY (nl:Nat) (caps:List Nat) (σ:Sd):Sd:=List.replicate nl none++caps.map fun i=>slot σ i
@[simp] def cL (nl:Nat) (caps:List Nat) (it:IF) (tg:GF) (cs:List TF) (e:EF):LF:=fun σ h=>(it σ h).bind fun p h =>
  cB p.2 p.1 tg cs e p.1 (fY nl caps σ) h
mutual
def pure? : D→Bool
  | .ref _=>false
  | .tup l=>cW l
  | .lit l=>cW l
  | .exn _ l=>cW l
  | _=>true
def cW:List D→Bool
  | []=>true
  | x :: xs=>pure? x && cW xs
end
def sL:cX→Bool
  | .lst l=>cW l
  | .dct l=>l.all fun p=>pure? p.2
def xi (h h':Hd):Prop:=∀ n c,n < h.length→h'[n]? = some c→h[n]? = some c∨sL c=true
def letGo (h:Hd) (r:Res D):Res D:=match r with
  | .ok d h'=>if pure? d=true∧xi h h' then .ok d (h'.take h.length) else .ok d h'
  | r=>r
def runB (n:Nat) (b:SF):Fn:=fun ds h=>match b (ds.map some++List.replicate (n - ds.length) none) h with
  | .nx _ h=>.ok .non h
  | .rt d h=>.ok d h
  | .exc x _ h=>.exc x h
  | _=>.bad
def bE (np n:Nat) (b:SF):Fn:=fun ds h=>if ds.length=np then letGo h (runB n b ds h) else .bad
end
end Fm
set_option Elab.async false
set_option linter.all false
set_option maxRecDepth 100000
namespace Fm
open PySem PySem.Spec L2
def toS (x:List Nat):Str:=⟨x.toArray⟩
def kq (K:PySem.W.Frag) (H:Hp) (a:Addr) (xs:List V):Prop :=
  (∃ o,H a=some (.frz o (.lst xs))) ∨
    ∃ (o:Obj) (its:Array Value) (n:Nat),K.lookup a=some o∧o.cls=.type "list" ∧ o.dict=none∧o.data=.seq its n∧its.size≤sizeLine∧aT xs its.toList
section
variable (K:PySem.W.Frag) (ρ:List Addr) (H:Hp)
mutual
def RD:D→V→Prop
  | .non,v=>v=.non
  | .bl b,v=>v=.bl b
  | .int i,v=>v=.int i
  | .str x,v=>v=.str (toS x)
  | .tup l,v=>∃ p vs,v=.ref p∧H p=some (.tup vs)∧RDs l vs
  | .lit l,v=>∃ p vs,v=.ref p∧kq K H p vs∧RDs l vs
  | .ref n,v=>∃ a,ρ[n]? = some a∧v=.ref a
  | .exn c l,v=>l=[] ∧ ∃ a C,v=.ref a∧H a=some (Fd a C)∧PySem.W.nsIn K mainGlobals (Str.ofString c)=some (some (.ref C))
def RDs:List D→List V→Prop
  | [],vs=>vs=[]
  | d :: ds,vs=>∃ v r,vs=v :: r∧RD d v∧RDs ds r
end
def RC:cX→Addr→Prop
  | .lst l,a=>∃ vs,H a=some (.lst vs)∧RDs K ρ H l vs
  | .dct l,a=>∃ kvs,H a=some (.dK kvs)∧kvs.map (·.1)=l.map (fun p=>(Sum.inl p.1:Key))∧RDs K ρ H (l.map (·.2)) (kvs.map (·.2))
structure RH (hd:Hd):Prop where
  len : ρ.length=hd.length
  nd : ρ.Nodup
  cel:∀ (n:Nat) c a,hd[n]? = some c → ρ[n]? = some a→RC K ρ H c a
structure RSt (σd:Sd) (σ:St):Prop where
  len : σd.length = σ.length
  at':∀ i d,slot σd i=some d → ∃ v,σ[i]? = some (some v)∧RD K ρ H d v
structure RS (σd:Sd) (hd:Hd) (σ:St):Prop where
  hp:RH K ρ H hd
  st:RSt K ρ H σd σ
end
structure Ext (ρ:List Addr) (H:Hp) (ρ':List Addr) (H':Hp):Prop where
  pre:∃ t,ρ' = ρ ++ t
  new:∀ a ∈ ρ',a ∈ ρ ∨H a=none
  frame:∀ p o,H p=some o→p ∉ ρ → H' p=some o
section
variable {K:PySem.W.Frag} {ρ ρ' ρ'':List Addr} {H H' H'':Hp} {hd hd':Hd} {σd σd':Sd} {σ σ':St}
theorem Ext.refl:Ext ρ H ρ H:=⟨⟨[],by simp⟩,fun _ h=>.inl h,fun _ _ h _=>h⟩
theorem Ext.out (e:Ext ρ H ρ' H'){p:Addr}{o:HO}(h:H p=some o)(n:p ∉ ρ):p ∉ ρ':=fun z=>by
  rcases e.new p z with q|q
  · exact n q
  · rw [h] at q;cases q
theorem Ext.trans (a:Ext ρ H ρ' H')(b:Ext ρ' H' ρ'' H''):Ext ρ H ρ'' H'' where
  pre:=by
    obtain⟨t,rfl⟩:=a.pre
    obtain⟨u,rfl⟩:=b.pre
    exact⟨t++u,by simp⟩
  new:=fun x hx=>by
    rcases b.new x hx with q|q
    · exact a.new x q
    · cases e:H x with
      | none=>exact .inr rfl
      | some o =>
        by_cases hn:x ∈ ρ
        · exact .inl hn
        · rw [a.frame x o e hn] at q;cases q
  frame:=fun p o h n=>b.frame p o (a.frame p o h n) (a.out h n)
theorem Ext.same (s:gC H H'):Ext ρ H ρ H':=⟨⟨[],by simp⟩,fun _ h=>.inl h,fun p o h _=>s p o h⟩
theorem Ext.get (e:Ext ρ H ρ' H'){n:Nat}{a:Addr}(h : ρ[n]? = some a) : ρ'[n]? = some a:=by
  obtain⟨t,rfl⟩:=e.pre
  rw [List.getElem?_append_left (List.getElem?_eq_some_iff.mp h).1]
  exact h
theorem RH.mut (r:RH K ρ H hd){a:Addr}(h:a ∈ ρ):(∃ vs,H a=some (.lst vs)) ∨ ∃ kvs,H a=some (.dK kvs):=by
  obtain⟨n,hn⟩:=List.getElem?_of_mem h
  have hl:=(List.getElem?_eq_some_iff.mp hn).1
  have hc:hd[n]? = some (hd[n]'(by rw [← r.len];exact hl)):=by simp
  have q:=r.cel n _ a hc hn
  cases e:hd[n]'(by rw [← r.len];exact hl) with
  | lst l=>rw [e] at q;obtain⟨vs,h1,_⟩:=q;exact .inl ⟨vs,h1⟩
  | dct l=>rw [e] at q;obtain⟨vs,h1,_⟩:=q;exact .inr ⟨vs,h1⟩
theorem RH.noTup (r:RH K ρ H hd){a:Addr}{vs:List V}(h:H a=some (.tup vs)):a ∉ ρ:=fun z=>by
  rcases r.mut z with ⟨_,q⟩|⟨_,q⟩<;>(rw [h] at q;cases q)
theorem RH.noFrz (r:RH K ρ H hd){a:Addr}{o:Obj}{u:HO}(h:H a=some (.frz o u)):a ∉ ρ:=fun z=>by
  rcases r.mut z with ⟨_,q⟩|⟨_,q⟩<;>(rw [h] at q;cases q)
theorem RH.noExt (r:RH K ρ H hd){a:Addr}{φ : Heap→Prop}(h:H a=some (.ext φ)):a ∉ ρ:=fun z=>by
  rcases r.mut z with ⟨_,q⟩|⟨_,q⟩<;>(rw [h] at q;cases q)
structure Kp (ρ:List Addr) (H:Hp) (ρ':List Addr) (H':Hp):Prop where
  get:∀ (n:Nat) a,ρ[n]? = some a → ρ'[n]? = some a
  tup:∀ a vs,H a=some (.tup vs)→H' a=some (.tup vs)
  frz:∀ a o u,H a=some (.frz o u)→H' a=some (.frz o u)
  ext:∀ a φ,H a=some (.ext φ)→H' a=some (.ext φ)
theorem RH.kp (r:RH K ρ H hd)(e:Ext ρ H ρ' H'):Kp ρ H ρ' H' :=
  ⟨fun _ _ h=>e.get h,fun _ _ h=>e.frame _ _ h (r.noTup h),fun _ _ _ h=>e.frame _ _ h (r.noFrz h),fun _ _ h=>e.frame _ _ h (r.noExt h)⟩
theorem Kp.same (s:gC H H'):Kp ρ H ρ H':=⟨fun _ _ h=>h,fun _ _ h=>s _ _ h,fun _ _ _ h=>s _ _ h,fun _ _ h=>s _ _ h⟩
theorem kq.mono {a:Addr}{xs:List V}(k:Kp ρ H ρ' H')(h:kq K H a xs):kq K H' a xs:=by
  rcases h with ⟨o,h⟩|h
  · exact .inl ⟨o,k.frz _ _ _ h⟩
  · exact .inr h
mutual
theorem RD.mono (k:Kp ρ H ρ' H'):∀ {d:D} {v:V},RD K ρ H d v→RD K ρ' H' d v
  | .non,_,h=>by simp only [RD] at h ⊢;exact h
  | .bl _,_,h=>by simp only [RD] at h ⊢;exact h
  | .int _,_,h=>by simp only [RD] at h ⊢;exact h
  | .str _,_,h=>by simp only [RD] at h ⊢;exact h
  | .tup l,_,h=>by
    simp only [RD] at h ⊢
    obtain⟨p,vs,e,h1,h2⟩:=h
    exact⟨p,vs,e,k.tup _ _ h1,RDs.mono k h2⟩
  | .lit l,_,h=>by
    simp only [RD] at h ⊢
    obtain⟨p,vs,e,h1,h2⟩:=h
    exact⟨p,vs,e,h1.mono k,RDs.mono k h2⟩
  | .ref n,_,h=>by
    simp only [RD] at h ⊢
    obtain⟨a,h1,h2⟩:=h
    exact⟨a,k.get _ _ h1,h2⟩
  | .exn _ _,_,h=>by
    simp only [RD] at h ⊢
    obtain⟨e0,a,C,e,h1,h2⟩:=h
    exact⟨e0,a,C,e,k.ext _ _ h1,h2⟩
theorem RDs.mono (k:Kp ρ H ρ' H'):∀ {l:List D} {vs:List V},RDs K ρ H l vs→RDs K ρ' H' l vs
  | [],_,h=>by simp only [RDs] at h ⊢;exact h
  | d :: ds,_,h=>by
    simp only [RDs] at h ⊢
    obtain⟨v,r,e,h1,h2⟩:=h
    exact⟨v,r,e,RD.mono k h1,RDs.mono k h2⟩
end
theorem RDs.nil:RDs K ρ H [] []:=by simp only [RDs]
theorem RDs.cons {d:D}{v:V}{ds:List D}{vs:List V}(h:RD K ρ H d v)(t:RDs K ρ H ds vs):RDs K ρ H (d :: ds) (v :: vs):=by
  simp only [RDs];exact⟨v,vs,rfl,h,t⟩
theorem RDs.length:∀ {l:List D} {vs:List V},RDs K ρ H l vs→l.length=vs.length
  | [],_,h=>by simp only [RDs] at h;subst h;rfl
  | d :: ds,_,h=>by
    simp only [RDs] at h
    obtain⟨v,r,e,h1,h2⟩:=h
    subst e
    simp [RDs.length h2]
theorem RDs.get:∀ {l:List D} {vs:List V} {i:Nat} {d:D},RDs K ρ H l vs→l[i]? = some d → ∃ v,vs[i]? = some v∧RD K ρ H d v
  | [],_,i,_,_,e=>by simp at e
  | d :: ds,_,0,_,h,e=>by
    simp only [RDs] at h
    obtain⟨v,r,e',h1,h2⟩:=h
    subst e'
    simp at e
    subst e
    exact⟨v,rfl,h1⟩
  | d :: ds,_,i + 1,x,h,e=>by
    simp only [RDs] at h
    obtain⟨v,r,e',h1,h2⟩:=h
    subst e'
    obtain⟨w,hw,q⟩:=RDs.get (i:=i) (d:=x) h2 (by simpa using e)
    exact⟨w,by simpa using hw,q⟩
theorem RDs.set {d:D}{v:V}(h:RD K ρ H d v):∀ {l:List D} {vs:List V} (i:Nat),RDs K ρ H l vs→RDs K ρ H (l.set i d) (vs.set i v)
  | [],_,_,q=>by simp only [RDs] at q;subst q;exact RDs.nil
  | x :: xs,_,i,q=>by
    simp only [RDs] at q
    obtain⟨w,r,e,h1,h2⟩:=q
    subst e
    cases i with
    | zero=>exact RDs.cons h h2
    | succ i=>exact RDs.cons h1 (RDs.set h i h2)
theorem RDs.append:∀ {l l':List D} {vs vs':List V},RDs K ρ H l vs→RDs K ρ H l' vs'→RDs K ρ H (l++l') (vs++vs')
  | [],_,_,_,h,q=>by simp only [RDs] at h;subst h;exact q
  | d :: ds,_,_,_,h,q=>by
    simp only [RDs] at h
    obtain⟨v,r,e,h1,h2⟩:=h
    subst e
    exact RDs.cons h1 (RDs.append h2 q)
theorem RC.mono {c:cX}{a:Addr}(k:Kp ρ H ρ' H')(e:H' a=H a)(h:RC K ρ H c a):RC K ρ' H' c a:=by
  cases c with
  | lst l=>obtain⟨vs,h1,h2⟩:=h;exact⟨vs,e.trans h1,h2.mono k⟩
  | dct l=>obtain⟨vs,h1,h2,h3⟩:=h;exact⟨vs,e.trans h1,h2,h3.mono k⟩
theorem RH.same (r:RH K ρ H hd)(s:gC H H'):RH K ρ H' hd :=
  ⟨r.len,r.nd,fun n c a h1 h2=>(r.cel n c a h1 h2).mono (Kp.same s) (by
    rcases r.mut (List.mem_of_getElem? h2) with ⟨_,q⟩|⟨_,q⟩<;>rw [q,s _ _ q])⟩
theorem RSt.mono (k:Kp ρ H ρ' H')(r:RSt K ρ H σd σ):RSt K ρ' H' σd σ :=
  ⟨r.len,fun i d h=>let ⟨v,h1,h2⟩:=r.at' i d h;⟨v,h1,h2.mono k⟩⟩
theorem RS.same (r:RS K ρ H σd hd σ)(s:gC H H'):RS K ρ H' σd hd σ:=⟨r.hp.same s,r.st.mono (Kp.same s)⟩
theorem bX {p:Addr}{o:HO}(h:H p=none):gC H (upd H p o):=fun b u e=>by
  rw [aq (aE e h)];exact e
theorem RH.alloc (r:RH K ρ H hd){p:Addr}{l:List D}{vs:List V}(hp:H p=some (.lst vs))(hn:p ∉ ρ)(h:RDs K ρ H l vs):RH K (ρ ++ [p]) H (hd++[.lst l]):=by
  have k:Kp ρ H (ρ ++ [p]) H:=⟨fun n a e=>by rw [List.getElem?_append_left (List.getElem?_eq_some_iff.mp e).1];exact e,fun _ _ h=>h,fun _ _ _ h=>h,fun _ _ h=>h⟩
  refine⟨by simp [r.len],?_,fun n c a h1 h2 => ?_⟩
  · rw [List.nodup_append]
    exact⟨r.nd,by simp,fun a ha b hb=>by simp at hb;subst hb;intro e;subst e;exact hn ha⟩
  · by_cases hlt:n < hd.length
    · rw [List.getElem?_append_left hlt] at h1
      rw [List.getElem?_append_left (by rw [r.len];exact hlt)] at h2
      exact (r.cel n c a h1 h2).mono k rfl
    · have e1:n=hd.length:=by
        have:=(List.getElem?_eq_some_iff.mp h1).1
        simp at this
        omega
      subst e1
      simp at h1
      subst h1
      rw [← r.len] at h2
      simp at h2
      subst h2
      exact⟨vs,hp,h.mono k⟩
theorem lK {α : Type}:∀ {l:List α},l.Nodup → ∀ {i j:Nat} {x : α},l[i]? = some x→l[j]? = some x→i=j
  | [],_,i,_,_,e,_=>by simp at e
  | a :: l,nd,0,0,_,_,_=>rfl
  | a :: l,nd,0,j + 1,x,e,e'=>by
    simp at e e'
    subst e
    exact absurd (List.mem_of_getElem? e') (List.nodup_cons.mp nd).1
  | a :: l,nd,i + 1,0,x,e,e'=>by
    simp at e e'
    subst e'
    exact absurd (List.mem_of_getElem? e) (List.nodup_cons.mp nd).1
  | a :: l,nd,i + 1,j + 1,x,e,e'=>by
    simp at e e'
    rw [lK (List.nodup_cons.mp nd).2 e e']
theorem RH.write (r:RH K ρ H hd){n:Nat}{p:Addr}{l:List D}{vs:List V}(hp : ρ[n]? = some p)(hn:n < hd.length)(h:RDs K ρ H l vs):RH K ρ (upd H p (.lst vs)) (hd.set n (.lst l)):=by
  have k:Kp ρ H ρ (upd H p (.lst vs)):=by
    have hm:=List.mem_of_getElem? hp
    refine⟨fun _ _ h=>h,fun a us e => ?_,fun a o u e => ?_,fun a φ e => ?_⟩
    · rw [aq (fun z=>r.noTup e (by rw [z];exact hm))];exact e
    · rw [aq (fun z=>r.noFrz e (by rw [z];exact hm))];exact e
    · rw [aq (fun z=>r.noExt e (by rw [z];exact hm))];exact e
  refine⟨by simp [r.len],r.nd,fun m c a h1 h2 => ?_⟩
  by_cases e:n=m
  · subst e
    rw [List.getElem?_set_self hn] at h1
    cases h1
    rw [hp] at h2
    cases h2
    exact⟨vs,aS,h.mono k⟩
  · rw [List.getElem?_set_ne e] at h1
    have ne:a≠p:=fun z=>by
      subst z
      exact e (lK r.nd hp h2)
    exact (r.cel m c a h1 h2).mono k (aq ne)
theorem Ext.write {p:Addr}{o:HO}(hp:p ∈ ρ):Ext ρ H ρ (upd H p o) :=
  ⟨⟨[],by simp⟩,fun _ h=>.inl h,fun q u e n=>by rw [aq (fun z=>n (by rw [z];exact hp))];exact e⟩
theorem Ext.alloc {p:Addr}(h:H p=none){o:HO}:Ext ρ H (ρ ++ [p]) (upd H p o) :=
  ⟨⟨[p],rfl⟩,fun a ha=>by
    rcases List.mem_append.mp ha with q|q
    · exact .inl q
    · simp at q;subst q;exact .inr h,fun q u e _=>bX h q u e⟩
theorem RS.ext (r:RS K ρ H σd hd σ)(e:Ext ρ H ρ' H')(h:RH K ρ' H' hd'):RS K ρ' H' σd hd' σ:=⟨h,r.st.mono (r.hp.kp e)⟩
end
end Fm
set_option Elab.async false
set_option linter.all false
set_option maxRecDepth 100000
namespace Fm
open PySem PySem.Spec L2
abbrev VR (α β : Type):=List Addr→Hp → α → β → Prop
section
variable (K:PySem.W.Frag)
def bo {α β : Type} (R:VR α β) (ρ:List Addr) (H:Hp) (σd:Sd) (σ:St) (r:Res α) (Q : β → Hp→Prop):Prop:=match r with
  | .ok a hd'=>∀ b H' ρ',Ext ρ H ρ' H'→RS K ρ' H' σd hd' σ → R ρ' H' a b→Q b H'
  | _=>False
def iR {α β : Type} (R:VR α β) (f:Sd→Hd→Res α):St→Hp→(β → Hp→Prop)→Prop:=fun σ H Q =>
  ∃ ρ σd hd,RS K ρ H σd hd σ ∧ bo K R ρ H σd σ (f σd hd) Q
abbrev rD:VR D V:=fun ρ H d v=>RD K ρ H d v
abbrev rDs:VR (List D) (List V):=fun ρ H d v=>RDs K ρ H d v
abbrev rB:VR Bool Bool:=fun _ _ a b=>a=b
def rQ:VR (List D) V:=fun ρ H l v=>∃ p vs,v=.ref p∧(SqL K H p vs∨H p=some (.tup vs))∧RDs K ρ H l vs
def zN (ρ:List Addr) (H:Hp) (σd:Sd) (σ:St) (r:Res (List D)) (Q:VK):Prop:=match r with
  | .ok l hd'=>∀ q vs H' ρ',Ext ρ H ρ' H'→RS K ρ' H' σd hd' σ → H q=none→H' q=some (.lst vs)→q ∉ ρ'→RDs K ρ' H' l vs→Q (.ref q) H'
  | _=>False
def Fg (f:LF):TE:=fun σ H Q=>∃ ρ σd hd,RS K ρ H σd hd σ ∧ zN K ρ H σd σ (f σd hd) Q
def bK (ρ:List Addr) (H:Hp) (o:Out) (E:sF):Prop:=match o with
  | .nx σd hd=>∀ σ H' ρ',Ext ρ H ρ' H'→RS K ρ' H' σd hd σ → E.nx σ H'
  | .bk σd hd=>∀ σ H' ρ',Ext ρ H ρ' H'→RS K ρ' H' σd hd σ → E.bk σ H'
  | .ct σd hd=>∀ σ H' ρ',Ext ρ H ρ' H'→RS K ρ' H' σd hd σ → E.ct σ H'
  | .rt d hd=>∀ v H' ρ',Ext ρ H ρ' H'→RH K ρ' H' hd→RD K ρ' H' d v→E.rt v H'
  | _=>False
def CV (f:SF):TS:=fun E σ H=>∃ ρ σd hd,RS K ρ H σd hd σ ∧ bK K ρ H (f σd hd) E
end
def ME (X:Cx) (e:Expr) (f:EF):Prop:=PE X e (iR X.K (rD X.K) f)
def MQ (X:Cx) (e:Expr) (f:LF):Prop:=PE X e (iR X.K (rQ X.K) f)
def MF (X:Cx) (e:Expr) (f:LF):Prop:=PE X e (Fg X.K f)
def MT (X:Cx) (e:Expr) (f:TF):Prop:=PT X e (iR X.K rB f)
def MW (X:Cx) (e:Expr) (f:TF):Prop:=PW X e (iR X.K rB f)
def MA (X:Cx) (es:List Expr) (f:LF):Prop:=PA X es (iR X.K (rDs X.K) f)
def MS (X:Cx) (s:Stmt) (f:SF):Prop:=PS X s (CV X.K f)
def MSs (X:Cx) (s:List Stmt) (f:SF):Prop:=PSs X s (CV X.K f)
section
variable {X:Cx}
theorem PE.imp {e:Expr}{t u:TE}(h:PE X e t)(i:∀ σ H Q,u σ H Q→t σ H Q):PE X e u:=fun pins s σ H Q I q=>h pins s σ H Q I (i σ H Q q)
theorem PT.imp {e:Expr}{t u:TT}(h:PT X e t)(i:∀ σ H Q,u σ H Q→t σ H Q):PT X e u:=fun pins s σ H Q I q=>h pins s σ H Q I (i σ H Q q)
theorem PW.imp {e:Expr}{t u:TT}(h:PW X e t)(i:∀ σ H Q,u σ H Q→t σ H Q):PW X e u:=fun w pins s σ H Q I q=>h w pins s σ H Q I (i σ H Q q)
theorem PA.imp {e:List Expr}{t u:TA}(h:PA X e t)(i:∀ σ H Q,u σ H Q→t σ H Q):PA X e u:=fun p pins s σ H Q I q=>h p pins s σ H Q I (i σ H Q q)
theorem PS.imp {e:Stmt}{t u:TS}(h:PS X e t)(i:∀ D σ H,u D σ H→t D σ H):PS X e u:=fun pins s σ H D I q=>h pins s σ H D I (i D σ H q)
theorem PSs.imp {e:List Stmt}{t u:TS}(h:PSs X e t)(i:∀ D σ H,u D σ H→t D σ H):PSs X e u:=fun pins s σ H D I q=>h pins s σ H D I (i D σ H q)
end
section
variable {K:PySem.W.Frag} {ρ ρ':List Addr} {H H':Hp} {hd hd':Hd} {σd:Sd} {σ:St} {α β α' β':Type} {R:VR α β} {R':VR α' β'}
theorem bo.here {a : α}{b : β}{Q : β → Hp→Prop}(h:bo K R ρ H σd σ (.ok a hd) Q)(r:RS K ρ H σd hd σ)(q:R ρ H a b):Q b H:=h b H ρ Ext.refl r q
theorem bo.at {a : α}{b : β}{Q : β → Hp→Prop}(h:bo K R ρ H σd σ (.ok a hd) Q)(e:Ext ρ H ρ' H')(r:RS K ρ' H' σd hd σ)(q:R ρ' H' a b):Q b H':=h b H' ρ' e r q
theorem bo.imp {r:Res α}{Q Q' : β → Hp→Prop}(h:bo K R ρ H σd σ r Q)(i:∀ b H',Q b H'→Q' b H'):bo K R ρ H σd σ r Q':=by
  cases r with
  | ok a h'=>exact fun b H' ρ' e s q=>i b H' (h b H' ρ' e s q)
  | exc x h'=>exact h
  | bad=>exact h
theorem bo.ext {r:Res α}{Q : β → Hp→Prop}(e:Ext ρ H ρ' H')(h:bo K R ρ H σd σ r Q):bo K R ρ' H' σd σ r Q:=by
  cases r with
  | ok a h'=>exact fun b H'' ρ'' e' s q=>h b H'' ρ'' (e.trans e') s q
  | exc x h'=>exact h
  | bad=>exact h
theorem bo.bind {r:Res α}{k : α → Hd→Res α'}{Q : β'→Hp→Prop}(h:bo K R' ρ H σd σ (r.bind k) Q) :
    bo K R ρ H σd σ r (fun b H'=>∃ ρ' a hd',Ext ρ H ρ' H'∧RS K ρ' H' σd hd' σ ∧ R ρ' H' a b∧bo K R' ρ' H' σd σ (k a hd') Q):=by
  cases r with
  | ok a h'=>exact fun b H' ρ' e s q=>⟨ρ',a,h',e,s,q,bo.ext e h⟩
  | exc x h'=>exact h
  | bad=>exact h
theorem bK.ext {o:Out}{E:sF}(e:Ext ρ H ρ' H')(h:bK K ρ H o E):bK K ρ' H' o E:=by
  cases o with
  | nx σ h'=>exact fun σ' H'' ρ'' e' s=>h σ' H'' ρ'' (e.trans e') s
  | bk σ h'=>exact fun σ' H'' ρ'' e' s=>h σ' H'' ρ'' (e.trans e') s
  | ct σ h'=>exact fun σ' H'' ρ'' e' s=>h σ' H'' ρ'' (e.trans e') s
  | rt d h'=>exact fun v H'' ρ'' e' s q=>h v H'' ρ'' (e.trans e') s q
  | exc x σ h'=>exact h
  | bad=>exact h
end
section
variable {X:Cx} {pos:Pos}
theorem DO {i:Nat} {x:Str} (hN:X.N[i]? = some x) (hv:Vis X.env.scope x) (hd:(x == ("__debug__" : Str))=false:=by decide) (hcd:(x == ("__classdict__" : Str))=false:=by decide):ME X (.Name x pos) (aa i):=by
  refine PE.imp (Df hN hv hd hcd) fun σ H Q ⟨ρ,σd,hd,r,h⟩ => ?_
  unfold aa at h
  cases e:slot σd i with
  | none=>rw [e] at h;exact h.elim
  | some d =>
    rw [e] at h
    obtain⟨v,h1,h2⟩:=r.st.at' i d e
    exact⟨v,h1,h.here r h2⟩
theorem lL {K:PySem.W.Frag}{d:D}{v:V}(hv:∀ ρ H,RD K ρ H d v):∀ σ H Q,iR K (rD K) (fC d) σ H Q→tC v σ H Q:=fun _ H _ ⟨ρ,_,_,r,h⟩=>h.here r (hv ρ H)
theorem ag {i:Int}{j}:ME X (.Constant (.int i) j pos) (fC (.int i)):=PE.imp zr (lL fun _ _=>by simp only [RD])
theorem lM {b j}:ME X (.Constant (.bool b) j pos) (fC (.bl b)):=PE.imp EM (lL fun _ _=>by simp only [RD])
theorem dI {j}:ME X (.Constant .none j pos) (fC .non):=PE.imp Dg (lL fun _ _=>by simp only [RD])
theorem qj {x:Str}{j}(l:List Nat)(h:x=toS l):ME X (.Constant (.str x) j pos) (fC (.str l)):=PE.imp Dh (lL fun _ _=>by simp only [RD];rw [h])
theorem zO {x:Str} {i:Int} {t:Tok} (hg:Gl X x) (hm:X.mg x=some (.int i t)) (hd:(x == ("__debug__" : Str))=false:=by decide):ME X (.Name x pos) (fC (.int i)) :=
  PE.imp (Bx (v:=.int i) hg hm ⟨t,rfl⟩ hd) (lL fun _ _=>by simp only [RD])
theorem me2 {a b:Expr}{fa fb:EF}{r:R2}{g:O2}{e:Expr}(h:PE X e (tOp r (iR X.K (rD X.K) fa) (iR X.K (rD X.K) fb)))
    (hg:∀ ρ H σd hd σ d k v w Q,RS X.K ρ H σd hd σ → RD X.K ρ H d v→RD X.K ρ H k w→bo X.K (rD X.K) ρ H σd σ (g d k hd) Q→r v w H Q):ME X e (al g fa fb):=by
  refine PE.imp h fun σ H Q ⟨ρ,σd,hd,rs,p⟩ => ?_
  refine⟨ρ,σd,hd,rs,(bo.bind (R:=rD X.K) p).imp fun v H1 ⟨ρ1,d,hd1,e1,rs1,rv,p1⟩ => ?_⟩
  refine⟨ρ1,σd,hd1,rs1,(bo.bind (R:=rD X.K) p1).imp fun w H2 ⟨ρ2,k,hd2,e2,rs2,rw',p2⟩ => ?_⟩
  exact hg ρ2 H2 σd hd2 σ d k v w Q rs2 (rv.mono (rs1.hp.kp e2)) rw' p2
def Og (K:PySem.W.Frag) (g:O2) (r:R2):Prop:=∀ ρ H σd hd σ d k v w Q,RS K ρ H σd hd σ → RD K ρ H d v→RD K ρ H k w→bo K (rD K) ρ H σd σ (g d k hd) Q→r v w H Q
theorem aX {a b:Expr}{fa fb:EF}{op:Operator}{r:R2}{g:O2}(ho:OpR X (binaryOp op) r)(hg:Og X.K g r)(ha:ME X a fa)(hb:ME X b fb):ME X (.BinOp a op b pos) (al g fa fb) :=
  me2 (a:=a) (b:=b) (EX ho ha hb) hg
theorem qk {a b:Expr}{fa fb:EF}{op:CmpOp}{r:R2}{g:O2}(ho:OpR X (compareOp op) r)(hg:Og X.K g r)(ha:ME X a fa)(hb:ME X b fb)(hm:behindInMarks op b=false):ME X (.Compare a [op] [b] pos) (al g fa fb) :=
  me2 (a:=a) (b:=b) (BG ho ha hb hm) hg
theorem uQ {K:PySem.W.Frag}{g:Int→Int→Int}:Og K (oI g) (rI0 fun i j=>.int (g i j)):=by
  intro ρ H σd hd σ d k v w Q rs rv rw' p
  cases d<;>cases k<;>first|exact p.elim|skip
  simp only [RD] at rv rw'
  exact⟨_,_,rv,rw',p.here rs (by simp only [rD,RD])⟩
theorem jc {K:PySem.W.Frag}{g:Int→Int→Bool}:Og K (oB g) (rI0 fun i j=>.bl (g i j)):=by
  intro ρ H σd hd σ d k v w Q rs rv rw' p
  cases d<;>cases k<;>first|exact p.elim|skip
  simp only [RD] at rv rw'
  exact⟨_,_,rv,rw',p.here rs (by simp only [rD,RD])⟩
theorem xj {K:PySem.W.Frag}{c:Int→Int→Bool}{C:Int→Int→Prop}{g:Int→Int→Int}(hc:∀ i j,c i j=true→C i j):Og K (oIc c g) (rI C fun i j=>.int (g i j)):=by
  intro ρ H σd hd σ d k v w Q rs rv rw' p
  cases d<;>cases k<;>first|exact p.elim|skip
  rename_i i j
  simp only [RD] at rv rw'
  cases e:c i j with
  | false=>simp only [oIc,e] at p;exact p.elim
  | true =>
    simp only [oIc,e,if_true] at p
    exact⟨i,j,rv,rw',hc i j e,p.here rs (by simp only [rD,RD])⟩
theorem ql {i:Int}(h:sml i=true) : -(2 ^ 64) < i∧i < 2 ^ 64:=by
  simp only [sml,Bool.and_eq_true,decide_eq_true_eq] at h;exact h
theorem eG {K:PySem.W.Frag}:Og K e9 (rI BF fun i j=>.int (i * j)):=xj fun i j h=>by
  rcases (Bool.or_eq_true _ _).mp h with q|q
  · exact .inl (ql q)
  · exact .inr (ql q)
theorem gH {K:PySem.W.Frag}:Og K jJ (rI (fun _ j=>0 < j) fun i j=>.int (i % j)):=xj fun i j h=>of_decide_eq_true h
def Fh (_ j:Int):Prop:=0 < j∧j < 2 ^ 250
theorem sM:OpR X (binaryOp .FloorDiv) (rI Fh fun i j=>.int (i / j)):=opI fun i j _ _ _ _ _ hc q=>by
  have h0:j≠0:=by have:=hc.1;omega
  refine PyProof.Rows.floordiv_int h0 (by rw [Int.fdiv_eq_ediv_of_nonneg _ (Int.le_of_lt hc.1)];exact q) (.inl (PyProof.noPylong_of_log2 ?_))
  have h2:j.natAbs < 2 ^ 250:=by have:=hc.2;have:=hc.1;omega
  have h3:j.natAbs≠0:=by omega
  have:=(Nat.log2_lt h3).mpr h2
  omega
theorem zP {K:PySem.W.Frag}:Og K DK (rI Fh fun i j=>.int (i / j)):=xj fun i j h=>by
  simp only [Bool.and_eq_true,decide_eq_true_eq] at h;exact h
theorem qo {K:PySem.W.Frag}:Og K qh (rI E1 fun i j=>.int (i ^ j.toNat)):=xj fun i j h=>by
  simp only [Bool.and_eq_true,decide_eq_true_eq] at h
  have:=ql h.2
  exact⟨h.1.1,h.1.2,by omega⟩
theorem qp {K:PySem.W.Frag}{ρ:List Addr}{H:Hp}{d:D}{v:V}(h:RD K ρ H d v):ko d=decide (v=.non):=by
  cases d<;>simp only [RD] at h
  · subst h;rfl
  · subst h;rfl
  · subst h;rfl
  · subst h;rfl
  · obtain⟨p,vs,rfl,_⟩:=h;rfl
  · obtain⟨p,vs,rfl⟩:=h;rfl
  · obtain⟨p,vs,rfl,_⟩:=h;rfl
  · obtain⟨_,p,vs,rfl,_⟩:=h;rfl
theorem zQ {K:PySem.W.Frag}:Og K sJ (fun x y H Q=>y=.non∧Q (.bl (decide (x=.non))) H):=by
  intro ρ H σd hd σ d k v w Q rs rv rw' p
  unfold sJ at p
  cases e:ko k with
  | false=>rw [e] at p;exact p.elim
  | true =>
    rw [e,if_pos rfl] at p
    refine⟨of_decide_eq_true ((qp rw').symm.trans e),?_⟩
    rw [← qp rv]
    exact p.here rs (by simp only [rD,RD])
theorem ig {K:PySem.W.Frag}:Og K eV (fun x y H Q=>y=.non∧Q (.bl (!decide (x=.non))) H):=by
  intro ρ H σd hd σ d k v w Q rs rv rw' p
  unfold eV at p
  cases e:ko k with
  | false=>rw [e] at p;exact p.elim
  | true =>
    rw [e,if_pos rfl] at p
    refine⟨of_decide_eq_true ((qp rw').symm.trans e),?_⟩
    rw [← qp rv]
    exact p.here rs (by simp only [rD,RD])
theorem jL {K:PySem.W.Frag}{ρ:List Addr}{H:Hp}{σd:Sd}{σ:St}{r:Res D}{Q:Bool→Hp→Prop}(h:bo K rB ρ H σd σ (asB r) Q):bo K (rD K) ρ H σd σ r (fun x H'=>∃ c,x=.bl c∧Q c H'):=by
  refine (bo.bind (R:=rD K) h).imp fun v H1 ⟨ρ1,d,hd1,e1,rs1,rv,p1⟩ => ?_
  cases d<;>first|exact p1.elim|skip
  simp only [rD,RD] at rv
  exact⟨_,rv,p1.here rs1 rfl⟩
theorem lN {e:Expr}{f:EF}(h:ME X e f)(he:∀ whole,isTrue e X.env whole=(do let v ← whole;standAt e.pos;holding [v] (truthy v)):=by intro _;rfl):MT X e (tE f) :=
  PT.imp (Di h he) fun σ H Q ⟨ρ,σd,hd,rs,p⟩=>⟨ρ,σd,hd,rs,jL p⟩
theorem bj {a b:Expr}{fa fb:EF}{op:CmpOp}{r:R2}{g:O2}(ho:OpR X (compareOp op) r)(hg:Og X.K g r)(ha:ME X a fa)(hb:ME X b fb)(hm:behindInMarks op b=false):MT X (.Compare a [op] [b] pos) (tE (al g fa fb)):=by
  refine PT.imp (BH ho ha hb hm) fun σ H Q ⟨ρ,σd,hd,rs,p⟩ => ?_
  have p:=jL p
  refine⟨ρ,σd,hd,rs,(bo.bind (R:=rD X.K) p).imp fun v H1 ⟨ρ1,d,hd1,e1,rs1,rv,p1⟩ => ?_⟩
  refine⟨ρ1,σd,hd1,rs1,(bo.bind (R:=rD X.K) p1).imp fun w H2 ⟨ρ2,k,hd2,e2,rs2,rw',p2⟩ => ?_⟩
  exact hg ρ2 H2 σd hd2 σ d k v w _ rs2 (rv.mono (rs1.hp.kp e2)) rw' p2
theorem lO {a:Expr}{t:TF}(h:MT X a t):MT X (.UnaryOp .Not a pos) (jI t):=by
  refine PT.imp (Dl h) fun σ H Q ⟨ρ,σd,hd,rs,p⟩=>⟨ρ,σd,hd,rs,(bo.bind (R:=rB) p).imp fun c H1 ⟨ρ1,d,hd1,e1,rs1,rv,p1⟩ => ?_⟩
  cases rv
  exact p1.here rs1 rfl
theorem jM {op a}{t:TF}(h:MT X a t)(ho:op=BoolOp.And∨op=BoolOp.Or):MW X (.BoolOp op [a] pos) t:=by
  rcases ho with rfl|rfl
  · exact Bz h
  · exact Dj h
theorem lP {a b:Expr}{rest:List Expr}{t u:TF}(ha:MT X a t)(hb:MW X (.BoolOp .And (b :: rest) pos) u):MW X (.BoolOp .And (a :: b :: rest) pos) (gB t u):=by
  refine PW.imp (Dk ha hb) fun σ H Q ⟨ρ,σd,hd,rs,p⟩=>⟨ρ,σd,hd,rs,(bo.bind (R:=rB) p).imp fun c H1 ⟨ρ1,d,hd1,e1,rs1,rv,p1⟩ => ?_⟩
  cases rv
  cases c with
  | true=>simp only [if_true] at p1 ⊢;exact⟨ρ1,σd,hd1,rs1,p1⟩
  | false=>simp only [Bool.false_eq_true,if_false] at p1 ⊢;exact p1.here rs1 rfl
theorem CW {a b:Expr}{rest:List Expr}{t u:TF}(ha:MT X a t)(hb:MW X (.BoolOp .Or (b :: rest) pos) u):MW X (.BoolOp .Or (a :: b :: rest) pos) (tOr t u):=by
  refine PW.imp (EN ha hb) fun σ H Q ⟨ρ,σd,hd,rs,p⟩=>⟨ρ,σd,hd,rs,(bo.bind (R:=rB) p).imp fun c H1 ⟨ρ1,d,hd1,e1,rs1,rv,p1⟩ => ?_⟩
  cases rv
  cases c with
  | true=>simp only [if_true] at p1 ⊢;exact p1.here rs1 rfl
  | false=>simp only [Bool.false_eq_true,if_false] at p1 ⊢;exact⟨ρ1,σd,hd1,rs1,p1⟩
theorem MW.mt {e:Expr}{t:TF}(h:MW X e t):MT X e t:=h.pt
theorem BP {K:PySem.W.Frag}{t:TF}{σ:St}{H:Hp}{Q:VK}(h:iR K (rD K) (fT t) σ H Q):iR K rB t σ H (fun b H'=>Q (.bl b) H'):=by
  obtain⟨ρ,σd,hd,rs,p⟩:=h
  refine⟨ρ,σd,hd,rs,(bo.bind (R:=rB) p).imp fun c H1 ⟨ρ1,d,hd1,e1,rs1,rv,p1⟩ => ?_⟩
  cases rv
  exact p1.here rs1 (by simp only [rD,RD])
def MB (X:Cx) (e:Expr) (t:TF):Prop:=PE X e (fun σ H Q=>iR X.K rB t σ H fun b H'=>Q (.bl b) H')
theorem MB.me {e:Expr}{t:TF}(h:MB X e t):ME X e (fT t):=PE.imp h fun _ _ _ q=>BP q
theorem ph {e:Expr}{f:EF}(h:ME X e f):MB X e (tE f):=by
  refine PE.imp h fun σ H Q ⟨ρ,σd,hd,rs,p⟩=>⟨ρ,σd,hd,rs,(jL p).imp ?_⟩
  rintro v H1 ⟨c,rfl,q⟩
  exact q
theorem uR {op a}{t:TF}(h:MB X a t):MB X (.BoolOp op [a] pos) t:=Dm h
theorem uS {a b:Expr}{rest:List Expr}{t u:TF}(ha:MB X a t)(hb:MB X (.BoolOp .And (b :: rest) pos) u):MB X (.BoolOp .And (a :: b :: rest) pos) (gB t u):=by
  refine PE.imp (Dn ha hb) fun σ H Q ⟨ρ,σd,hd,rs,p⟩=>⟨ρ,σd,hd,rs,(bo.bind (R:=rB) p).imp fun c H1 ⟨ρ1,d,hd1,e1,rs1,rv,p1⟩=>⟨c,rfl,?_⟩⟩
  cases rv
  cases c with
  | true=>simp only [if_true] at p1 ⊢;exact⟨ρ1,σd,hd1,rs1,p1⟩
  | false=>simp only [Bool.false_eq_true,if_false] at p1 ⊢;exact p1.here rs1 rfl
theorem DP {a:Expr}{t:TF}(h:MB X a t):MB X (.UnaryOp .Not a pos) (jI t):=by
  refine PE.imp (Do h) fun σ H Q ⟨ρ,σd,hd,rs,p⟩=>⟨ρ,σd,hd,rs,(bo.bind (R:=rB) p).imp fun c H1 ⟨ρ1,d,hd1,e1,rs1,rv,p1⟩=>⟨c,rfl,?_⟩⟩
  cases rv
  exact p1.here rs1 rfl
theorem CY {c a b:Expr}{t:TF}{fa fb:EF}(hc:MT X c t)(ha:ME X a fa)(hb:ME X b fb):ME X (.IfExp c a b pos) (fIf t fa fb):=by
  refine PE.imp (zt hc ha hb) fun σ H Q ⟨ρ,σd,hd,rs,p⟩=>⟨ρ,σd,hd,rs,(bo.bind (R:=rB) p).imp fun c H1 ⟨ρ1,d,hd1,e1,rs1,rv,p1⟩ => ?_⟩
  cases rv
  cases c with
  | true=>simp only [if_true] at p1 ⊢;exact⟨ρ1,σd,hd1,rs1,p1⟩
  | false=>simp only [Bool.false_eq_true,if_false] at p1 ⊢;exact⟨ρ1,σd,hd1,rs1,p1⟩
end
end Fm
set_option Elab.async false
set_option linter.all false
set_option maxRecDepth 100000
namespace Fm
open PySem PySem.Spec L2
section
variable {X:Cx} {pos:Pos}
theorem uT {K:PySem.W.Frag}{ρ:List Addr}{H:Hp}{σd:Sd}{hd:Hd}{σ:St}{r r':R2}{g k:O2}{fa fb fc:EF}{Q:VK}(hg:Og K g r)(hk:Og K k r')(rs:RS K ρ H σd hd σ)
    (p:bo K (rD K) ρ H σd σ (lG g k fa fb fc σd hd) Q):zE r r' (iR K (rD K) fa) (iR K (rD K) fb) (iR K (rD K) fc) σ H Q:=by
  refine⟨ρ,σd,hd,rs,(bo.bind (R:=rD K) p).imp fun v H1 ⟨ρ1,d,hd1,e1,rs1,rv,p1⟩ => ?_⟩
  refine⟨ρ1,σd,hd1,rs1,(bo.bind (R:=rD K) p1).imp fun w H2 ⟨ρ2,d2,hd2,e2,rs2,rw2,p2⟩ => ?_⟩
  refine hg ρ2 H2 σd hd2 σ d d2 v w _ rs2 (rv.mono (rs1.hp.kp e2)) rw2 ((bo.bind (R:=rD K) p2).imp fun z H3 ⟨ρ3,d3,hd3,e3,rs3,rz,p3⟩ => ?_)
  cases d3<;>first|exact p3.elim|skip
  rename_i b
  simp only [rD,RD] at rz
  refine⟨b,rz,?_⟩
  cases b with
  | false =>
    rw [if_neg Bool.false_ne_true]
    exact p3.here rs3 (by simp only [rD,RD])
  | true =>
    rw [if_pos rfl]
    refine⟨ρ3,σd,hd3,rs3,(bo.bind (R:=rD K) p3).imp fun u H4 ⟨ρ4,d4,hd4,e4,rs4,ru,p4⟩ => ?_⟩
    exact hk ρ4 H4 σd hd4 σ d2 d4 w u Q rs4 ((rw2.mono (rs2.hp.kp e3)).mono (rs3.hp.kp e4)) ru p4
theorem zR {a b c:Expr}{fa fb fc:EF}{op op':CmpOp}{r r':R2}{g k:O2}(ho:OpR X (compareOp op) r)(ho':OpR X (compareOp op') r')(hg:Og X.K g r)(hk:Og X.K k r')(ha:ME X a fa)(hb:ME X b fb)(hc:ME X c fc)
    (hm:lastMarks [op,op'] [b,c] = false:=by with_unfolding_all rfl):ME X (.Compare a [op,op'] [b,c] pos) (lG g k fa fb fc) :=
  PE.imp (zF ho ho' ha hb hc hm) fun _ _ _ ⟨_,_,_,rs,p⟩=>uT hg hk rs p
theorem am:MA X [] aA:=PA.imp dH fun _ _ _ ⟨_,_,_,rs,p⟩=>p.here rs RDs.nil
theorem ad {e:Expr}{es:List Expr}{f:EF}{r:LF}(he:ME X e f)(hr:MA X es r)(hs:starEach (e :: es) X.env=(false,eval e X.env) :: starEach es X.env:=by rfl):MA X (e :: es) (ae f r):=by
  refine PA.imp (bT he hr hs) fun σ H Q ⟨ρ,σd,hd,rs,p⟩ => ?_
  refine⟨ρ,σd,hd,rs,(bo.bind (R:=rD X.K) p).imp fun v H1 ⟨ρ1,d,hd1,e1,rs1,rv,p1⟩ => ?_⟩
  refine⟨ρ1,σd,hd1,rs1,(bo.bind (R:=rDs X.K) p1).imp fun vs H2 ⟨ρ2,ds,hd2,e2,rs2,rvs,p2⟩ => ?_⟩
  exact p2.here rs2 (RDs.cons (rv.mono (rs1.hp.kp e2)) rvs)
theorem qq {n:Nat}(h:n≤SZ):n≤sizeLine:=Nat.le_trans h (by show 1000000≤2 ^ 24;decide)
theorem iS {es:List Expr}{k}{r:LF}(h:MA X es r):ME X (.Tuple es k pos) (lH r):=by
  refine PE.imp (DB h) fun σ H Q ⟨ρ,σd,hd,rs,p⟩ => ?_
  refine⟨ρ,σd,hd,rs,(bo.bind (R:=rDs X.K) p).imp fun vs H1 ⟨ρ1,ds,hd1,e1,rs1,rvs,p1⟩ => ?_⟩
  by_cases hz:ds.length≤SZ
  · rw [if_pos hz] at p1
    refine⟨by rw [← rvs.length];exact qq hz,fun q hq => ?_⟩
    have sm:=bX (o:=HO.tup vs) hq
    exact p1.at (Ext.same sm) (rs1.same sm) (by simp only [rD,RD];exact⟨q,vs,rfl,aS,rvs.mono (Kp.same sm)⟩)
  · rw [if_neg hz] at p1;exact p1.elim
theorem Ext.fresh {ρ ρ':List Addr}{H H':Hp}{q:Addr}(e:Ext ρ H ρ' H')(h:H' q=none)(n:q ∉ ρ'):H q=none:=by
  cases z:H q with
  | none=>rfl
  | some o =>
    by_cases hq:q ∈ ρ
    · obtain⟨t,rfl⟩:=e.pre
      exact absurd (List.mem_append_left t hq) n
    · rw [e.frame q o z hq] at h;cases h
theorem RH.free {K:PySem.W.Frag}{ρ:List Addr}{H:Hp}{hd:Hd}(r:RH K ρ H hd){q:Addr}(h:H q=none):q ∉ ρ:=fun z=>by
  rcases r.mut z with ⟨_,e⟩|⟨_,e⟩<;>(rw [h] at e;cases e)
theorem zN.mk {K:PySem.W.Frag}{ρ ρ1:List Addr}{H H1:Hp}{hd1:Hd}{σd:Sd}{σ:St}{l:List D}{vs:List V}{Q:VK}(p:zN K ρ H σd σ (.ok l hd1) Q)(e1:Ext ρ H ρ1 H1)(rs1:RS K ρ1 H1 σd hd1 σ)(r:RDs K ρ1 H1 l vs) :
    ∀ q,H1 q=none→Q (.ref q) (upd H1 q (.lst vs)):=fun q hq=>by
  have sm:=bX (o:=HO.lst vs) hq
  have nq:=rs1.hp.free hq
  exact p q vs _ ρ1 (e1.trans (Ext.same sm)) (rs1.same sm) (e1.fresh hq nq) aS nq (r.mono (Kp.same sm))
theorem cH {es:List Expr}{r:LF}(h:MA X es r)(hz:∀ σd hd ds hd',r σd hd=.ok ds hd'→ds.length≤SZ):MF X (.List es pos) r:=by
  refine PE.imp (DC h) fun σ H Q ⟨ρ,σd,hd,rs,p⟩ => ?_
  refine⟨ρ,σd,hd,rs,?_⟩
  cases e:r σd hd with
  | exc x h'=>rw [e] at p;exact p
  | bad=>rw [e] at p;exact p
  | ok ds hd1 =>
    rw [e] at p
    intro vs H1 ρ1 e1 rs1 rvs
    exact⟨by rw [← RDs.length rvs];exact qq (hz _ _ _ _ e),p.mk e1 rs1 rvs⟩
theorem av {f:EF}{r:LF}{n:Nat}(h:∀ σd hd ds hd',r σd hd=.ok ds hd'→ds.length=n):∀ σd hd ds hd',ae f r σd hd=.ok ds hd'→ds.length=n + 1:=by
  intro σd hd ds hd' e
  simp only [ae] at e
  cases e1:f σd hd with
  | exc x h'=>rw [e1] at e;cases e
  | bad=>rw [e1] at e;cases e
  | ok d h1 =>
    rw [e1] at e
    simp only [aM] at e
    cases e2:r σd h1 with
    | exc x h'=>rw [e2] at e;cases e
    | bad=>rw [e2] at e;cases e
    | ok ds2 h2 =>
      rw [e2] at e
      simp only [aM] at e
      cases e
      simp [h _ _ _ _ e2]
theorem bu:∀ σd hd ds hd',aA σd hd=.ok ds hd'→ds.length=0:=by
  intro σd hd ds hd' e
  simp only [aA] at e
  cases e
  rfl
theorem dJ {e:Expr}{r:LF}(h:MF X e r):ME X e (cJ r):=by
  refine PE.imp h fun σ H Q ⟨ρ,σd,hd,rs,p⟩=>⟨ρ,σd,hd,rs,?_⟩
  unfold cJ at p
  cases e:r σd hd with
  | exc x h'=>rw [e] at p;exact p
  | bad=>rw [e] at p;exact p
  | ok ds hd1 =>
    rw [e] at p
    simp only [aM] at p
    intro q vs H1 ρ1 e1 rs1 hq0 hq hn rvs
    by_cases hz:ds.length≤SZ
    · rw [if_pos hz] at p
      have rh:=rs1.hp.alloc hq hn rvs
      have ex:Ext ρ H (ρ1++[q]) H1:=⟨by obtain⟨t,rfl⟩:=e1.pre;exact⟨t++[q],by simp⟩,fun a ha=>by
        rcases List.mem_append.mp ha with z|z
        · exact e1.new a z
        · simp at z;subst z;exact .inr hq0,e1.frame⟩
      refine p.at ex (rs.ext ex rh) ?_
      simp only [rD,RD]
      refine⟨q,?_,rfl⟩
      rw [← rs1.hp.len]
      simp
    · rw [if_neg hz] at p;exact p.elim
theorem fh {e:Expr}{r:LF}(h:MF X e r):MQ X e r:=by
  refine PE.imp h fun σ H Q ⟨ρ,σd,hd,rs,p⟩=>⟨ρ,σd,hd,rs,?_⟩
  cases e:r σd hd with
  | exc x h'=>rw [e] at p;exact p
  | bad=>rw [e] at p;exact p
  | ok ds hd1 =>
    rw [e] at p
    intro q vs H1 ρ1 e1 rs1 hq0 hq hn rvs
    exact p (.ref q) H1 ρ1 e1 rs1 ⟨q,vs,rfl,.inl (SqL.of hq),rvs⟩
theorem kq.sq {K:PySem.W.Frag}{H:Hp}{a:Addr}{xs:List V}(h:kq K H a xs):SqL K H a xs:=by
  rcases h with ⟨o,h⟩|h
  · exact .inl (.inr ⟨o,h⟩)
  · exact .inr h
theorem xk {K:PySem.W.Frag}{ρ:List Addr}{H:Hp}{hd:Hd}{d:D}{v:V}{l:List D}(r:RH K ρ H hd)(h:RD K ρ H d v)(e:iC hd d=some l):∃ p vs,v=.ref p∧(SqL K H p vs∨H p=some (.tup vs))∧RDs K ρ H l vs:=by
  cases d<;>simp only [iC] at e<;>try (cases e;done)
  · cases e
    simp only [RD] at h
    obtain⟨p,vs,e1,e2,e3⟩:=h
    exact⟨p,vs,e1,.inr e2,e3⟩
  · rename_i n
    simp only [RD] at h
    obtain⟨a,e1,e2⟩:=h
    cases c:hd[n]? with
    | none=>rw [c] at e;cases e
    | some x =>
      rw [c] at e
      cases x with
      | dct l=>cases e
      | lst l' =>
        cases e
        obtain⟨vs,q1,q2⟩:=r.cel n _ a c e1
        exact⟨a,vs,e2,.inl (SqL.of q1),q2⟩
  · cases e
    simp only [RD] at h
    obtain⟨p,vs,e1,e2,e3⟩:=h
    exact⟨p,vs,e1,.inl e2.sq,e3⟩
theorem dA {e:Expr}{f:EF}(h:ME X e f):MQ X e (lOf f):=by
  refine PE.imp h fun σ H Q ⟨ρ,σd,hd,rs,p⟩=>⟨ρ,σd,hd,rs,(bo.bind (R:=rD X.K) p).imp fun v H1 ⟨ρ1,d,hd1,e1,rs1,rv,p1⟩ => ?_⟩
  cases e:iC hd1 d with
  | none=>rw [e] at p1;exact p1.elim
  | some l=>rw [e] at p1;exact p1.here rs1 (xk rs1.hp rv e)
theorem xl {K:PySem.W.Frag}{ρ:List Addr}{H:Hp}{l:List D}{vs:List V}{i:Int}{d:D}(r:RDs K ρ H l vs)(e:atI l i=some d):∃ v,L2.atI vs i=some v∧RD K ρ H d v:=by
  unfold atI at e
  unfold L2.atI
  have hl:=r.length
  have hx:ixN l.length i=L2.ixN vs.length i:=by rw [hl];rfl
  rw [hx] at e
  cases c:L2.ixN vs.length i with
  | none=>rw [c] at e;cases e
  | some j =>
    rw [c] at e
    simp only [Option.bind_some] at e ⊢
    exact r.get e
theorem aH {a b:Expr}{fa fb:EF}(ha:ME X a fa)(hb:ME X b fb)(hs:qf b):ME X (.Subscript a b pos) (fAt fa fb):=by
  refine me2 (a:=a) (b:=b) (g:=oAt) (CT DG ha hb hs) fun ρ H σd hd σ d k v w Q rs rv rw' p => ?_
  unfold oAt at p
  cases e:iC hd d with
  | none=>rw [e] at p;exact p.elim
  | some l =>
    rw [e] at p
    cases k<;>first|exact p.elim|skip
    rename_i i
    simp only at p
    cases e2:atI l i with
    | none=>rw [e2] at p;exact p.elim
    | some x =>
      rw [e2] at p
      simp only [RD] at rw'
      obtain⟨q,vs,hv,sq,rvs⟩:=xk rs.hp rv e
      obtain⟨u,hu,ru⟩:=xl rvs e2
      rcases sq with sq|sq
      · exact .inl ⟨q,vs,i,u,hv,rw',sq,hu,p.here rs ru⟩
      · exact .inr (.inl ⟨q,vs,i,u,hv,rw',SqT.of sq,hu,p.here rs ru⟩)
theorem sN {a b:Expr}{la:LF}{fb:EF}(ha:MF X a la)(hb:ME X b fb)(hs:qf b):ME X (.Subscript a b pos) (fIx la fb):=by
  refine PE.imp (CT xh ha hb hs) fun σ H Q ⟨ρ,σd,hd,rs,p⟩=>⟨ρ,σd,hd,rs,?_⟩
  unfold fIx at p
  cases e:la σd hd with
  | exc x h'=>rw [e] at p;exact p
  | bad=>rw [e] at p;exact p
  | ok l hd1 =>
    rw [e] at p
    simp only [aM] at p
    intro q vs H1 ρ1 e1 rs1 hq0 hq hn rvs
    refine⟨ρ1,σd,hd1,rs1,(bo.bind (R:=rD X.K) (p.ext e1)).imp fun w H2 ⟨ρ2,k,hd2,e2,rs2,rw',p2⟩ => ?_⟩
    cases k<;>first|exact p2.elim|skip
    rename_i i
    simp only at p2
    cases e3:atI l i with
    | none=>rw [e3] at p2;exact p2.elim
    | some x =>
      rw [e3] at p2
      simp only [rD,RD] at rw'
      obtain⟨u,hu,ru⟩:=xl (rvs.mono (rs1.hp.kp e2)) e3
      exact⟨q,vs,i,u,rfl,rw',SqL.of (e2.frame q _ hq hn),hu,p2.here rs2 ru⟩
end
end Fm
set_option Elab.async false
set_option linter.all false
set_option maxRecDepth 100000
namespace Fm
open PySem PySem.Spec L2
section
variable {X:Cx} {pos:Pos}
def B1 (X:Cx) (r:List V→Hp→VK→Prop) (x:Str) (p pos:Pos) (a:Expr):Prop:=∀ t,PA X [a] t→PE X (.Call (.Name x p) [a] [] pos) (tCB r t)
theorem CZ {x:Str} {p:Pos} {a:Expr} {id:String} {r:List V→Hp→VK→Prop} (hc:eU X (.builtin id) r) (hg:Gl X x) (hm:X.mg x=none) (hv:bootBuiltins x=some (.builtin id)) (hn:x ≠ "__name__" := by decide) (hdb:(x == ("__debug__" : Str))=false:=by decide)
    (he:starEach [a] X.env=(false,eval a X.env) :: starEach [] X.env:=by rfl):B1 X r x p pos a:=fun _ ha=>fE hc hg hm hv ha hn hdb he
theorem zS {x:Str} {p:Pos} {a:Expr} {T:String} {r:List V→Hp→VK→Prop} (hc:eU X (.type T) r) (hg:Gl X x) (hm:X.mg x=none) (hv:bootBuiltins x=some (.type T)) (hn:x ≠ "__name__" := by decide) (hdb:(x == ("__debug__" : Str))=false:=by decide)
    (he:starEach [a] X.env=(false,eval a X.env) :: starEach [] X.env:=by rfl):B1 X r x p pos a:=fun _ ha=>x6 hc hg hm hv ha hn hdb he
theorem uU {x:Str}{p:Pos}{a:Expr}{la:LF}{r:List V→Hp→VK→Prop}{g:List D→Hd→Res D}(hb:B1 X r x p pos a)(ha:MQ X a la)
    (hg:∀ ρ H σd hd σ l q vs Q,RS X.K ρ H σd hd σ → (SqL X.K H q vs∨H q=some (.tup vs))→RDs X.K ρ H l vs→bo X.K (rD X.K) ρ H σd σ (g l hd) Q→r [.ref q] H Q)
    (hs:starEach [a] X.env=(false,eval a X.env) :: starEach [] X.env:=by rfl):ME X (.Call (.Name x p) [a] [] pos) (fun σ h=>(la σ h).bind fun l h=>g l h):=by
  refine PE.imp (hb _ (bT ha dH hs)) fun σ H Q ⟨ρ,σd,hd,rs,pp⟩=>⟨ρ,σd,hd,rs,(bo.bind (R:=rQ X.K) pp).imp fun v H1 ⟨ρ1,l,hd1,e1,rs1,⟨q,vs,hv,sq,rvs⟩,p1⟩ => ?_⟩
  subst hv
  exact hg ρ1 H1 σd hd1 σ l q vs Q rs1 sq rvs p1
theorem C4 {x:Str}{p:Pos}{a:Expr}{fa:EF}{r:List V→Hp→VK→Prop}{g:D→Hd→Res D}(hb:B1 X r x p pos a)(ha:ME X a fa)
    (hg:∀ ρ H σd hd σ d v Q,RS X.K ρ H σd hd σ → RD X.K ρ H d v→bo X.K (rD X.K) ρ H σd σ (g d hd) Q→r [v] H Q)
    (hs:starEach [a] X.env=(false,eval a X.env) :: starEach [] X.env:=by rfl):ME X (.Call (.Name x p) [a] [] pos) (fun σ h=>(fa σ h).bind fun x h=>g x h):=by
  refine PE.imp (hb _ (bT ha dH hs)) fun σ H Q ⟨ρ,σd,hd,rs,pp⟩=>⟨ρ,σd,hd,rs,(bo.bind (R:=rD X.K) pp).imp fun v H1 ⟨ρ1,d,hd1,e1,rs1,rv,p1⟩ => ?_⟩
  exact hg ρ1 H1 σd hd1 σ d v Q rs1 rv p1
theorem dh {p:Pos} {a:Expr} {la:LF} (hg:Gl X "len") (hm:X.mg "len" = none) (ha:MQ X a la) (hs:starEach [a] X.env=(false,eval a X.env) :: starEach [] X.env:=by rfl):ME X (.Call (.Name "len" p) [a] [] pos) (c5 la) :=
  uU (g:=fun l h=>.ok (.int l.length) h) (CZ qg hg hm PySem.boot_len (he:=hs)) ha (fun ρ H σd hd σ l q vs Q rs sq rvs p=>⟨q,vs,rfl,sq.imp id SqT.of,by rw [← rvs.length];exact p.here rs (by simp only [rD,RD])⟩) hs
theorem de {p:Pos} {a:Expr} {la:LF} (hg:Gl X "tuple") (hm:X.mg "tuple" = none) (ha:MQ X a la) (hs:starEach [a] X.env=(false,eval a X.env) :: starEach [] X.env:=by rfl):ME X (.Call (.Name "tuple" p) [a] [] pos) (cn la):=by
  refine uU (g:=fun l h=>.ok (.tup l) h) (zS nG hg hm (by decide +kernel) (he:=hs)) ha (fun ρ H σd hd σ l q vs Q rs sq rvs p=>⟨q,vs,rfl,?_⟩) hs
  rcases sq with sq|sq
  · refine .inl ⟨sq,fun q' hq => ?_⟩
    have sm:=bX (o:=HO.tup vs) hq
    exact p.at (Ext.same sm) (rs.same sm) (by simp only [rD,RD];exact⟨q',vs,rfl,aS,rvs.mono (Kp.same sm)⟩)
  · exact .inr ⟨SqT.of sq,p.here rs (by simp only [rD,RD];exact⟨q,vs,rfl,sq,rvs⟩)⟩
theorem xm {p:Pos} {a:Expr} {fa:EF} (hg:Gl X "int") (hm:X.mg "int" = none) (ha:ME X a fa) (hs:starEach [a] X.env=(false,eval a X.env) :: starEach [] X.env:=by rfl):ME X (.Call (.Name "int" p) [a] [] pos) (yc fa):=by
  refine C4 (g:=fun x h=>match x with | .int i=>.ok (.int i) h | .bl b=>.ok (.int (b2i b)) h|_=>.bad) (zS xZ hg hm (by decide +kernel) (he:=hs)) ha (fun ρ H σd hd σ d v Q rs rv p => ?_) hs
  cases d<;>first|exact p.elim|skip
  · simp only [RD] at rv;subst rv
    exact .inr ⟨_,rfl,p.here rs (by simp only [rD,RD];rfl)⟩
  · simp only [RD] at rv;subst rv
    exact .inl ⟨_,rfl,p.here rs (by simp only [rD,RD])⟩
theorem sO (ns:List Int):PySem.preSum (fun i=>ns.getD i 0) ns.length=ns.sum:=by
  have key:∀ k,k≤ns.length→PySem.preSum (fun i=>ns.getD i 0) k=(ns.take k).sum:=by
    intro k
    induction k with
    | zero=>intro _;simp [PySem.preSum]
    | succ k ih =>
      intro hk
      rw [PySem.preSum,ih (by omega),List.take_add_one,List.getElem?_eq_getElem (by omega),List.sum_append]
      simp [List.getD,List.getElem?_eq_getElem (show k < ns.length by omega)]
  rw [key _ (Nat.le_refl _),List.take_length]
theorem xn {its:List Value}{ns:List Int}(r:aT (ns.map V.int) its)(i:Nat)(v:Value)(h:its.toArray[i]? = some v):∃ t,v=.int (ns.getD i 0) t:=by
  have h':its[i]? = some v:=by simpa using h
  have hl:=r.length
  have hi:i < its.length:=(List.getElem?_eq_some_iff.mp h').1
  have hn:i < ns.length:=by rw [← hl] at hi;simpa using hi
  obtain⟨u,hu,ru⟩:=r.get (i:=i) (x:=.int ns[i]) (by simp [hn])
  rw [h'] at hu
  cases hu
  obtain⟨t,e⟩:=ru
  exact⟨t,by rw [e];simp [List.getD,hn]⟩
theorem yd (hc:X.calm=true):eU X (.builtin "sum") (fun xs H Q=>∃ (p:Addr) (ns:List Int),xs=[.ref p]∧(SqL X.K H p (ns.map V.int)∨SqT X.K H p (ns.map V.int))∧Q (.int ns.sum) H):=by
  intro pins s σ H xs us Q I r q
  obtain⟨p,ns,rfl,sq,q⟩:=q
  obtain⟨u,rfl,ru⟩:=aT.one r
  cases (show u=Value.ref p from ru)
  have fin:∀ {it:Obj} {h':Heap} {tk:Nat} {t':Tok} {n:Nat},n=ns.length→(∀ b o,b∉[s.heap.objs.size]→(s.heap.push it).get? b=some o→h'.get? b=some o)→EP X pins σ Q (.int (PySem.preSum (fun i=>ns.getD i 0) n) t') { s with heap:=h',toks:=tk }:=by
    intro it h' tk t' n hn hk
    subst hn
    refine⟨.int ns.sum,H,I.kept (t':=tk) fun b o e=>hk b o (by simp;exact Nat.ne_of_lt (Heap.lt_size e)) (Heap.get?_push_of_some _ e),⟨t',by rw [sO]⟩,q⟩
  have hA:(X.A.in1).handled=none:=I.ok.hd hc
  rcases sq with sq|sq
  · obtain⟨its,rv,pl,hz⟩:=I.list sq
    have il:s.heap.IsList p its.toArray:=pl.isList
    have hlt:p < s.heap.objs.size:=by obtain⟨o,ho,_⟩:=il;exact Heap.lt_size ho
    refine PySem.call_sum_walkG (PySem.wpAny_pyIter_list il ?_)
    refine⟨s.heap.objs.size,_,[s.heap.objs.size],_,_,_,fun i=>ns.getD i 0,rfl,PySem.Walks.list hA s.heap.objs.size p (Nat.ne_of_lt hlt) its.toArray,⟨⟨_,Heap.get?_push_size _ rfl,rfl,rfl⟩,?_⟩,?_,xn rv,?_⟩
    · obtain⟨o,ho,r⟩:=il;exact⟨o,Heap.get?_push_of_some _ ho,r⟩
    · intro b hb
      rcases List.mem_cons.mp hb with rfl|hb
      · rw [Heap.size_push];exact Nat.lt_succ_self _
      · simp at hb;subst hb;rw [Heap.size_push];exact Nat.lt_succ_of_lt hlt
    · exact fun h' tk t' hk=>fin (by simpa using rv.length.symm) hk
  · obtain⟨its,rv,pl,hz⟩:=I.tuple sq
    have il:s.heap.IsTuple p its.toArray:=pl
    have hlt:p < s.heap.objs.size:=by obtain⟨o,ho,_⟩:=il;exact Heap.lt_size ho
    refine PySem.call_sum_walkG (PySem.wpAny_pyIter_tuple il ?_)
    refine⟨s.heap.objs.size,_,[s.heap.objs.size],_,_,_,fun i=>ns.getD i 0,rfl,PySem.Walks.tuple hA s.heap.objs.size p (Nat.ne_of_lt hlt) its.toArray,⟨⟨_,Heap.get?_push_size _ rfl,rfl,rfl⟩,?_⟩,?_,xn rv,?_⟩
    · obtain⟨o,ho,r⟩:=il;exact⟨o,Heap.get?_push_of_some _ ho,r⟩
    · intro b hb
      rcases List.mem_cons.mp hb with rfl|hb
      · rw [Heap.size_push];exact Nat.lt_succ_self _
      · simp at hb;subst hb;rw [Heap.size_push];exact Nat.lt_succ_of_lt hlt
    · exact fun h' tk t' hk=>fin (by simpa using rv.length.symm) hk
theorem lQ {K:PySem.W.Frag}{ρ:List Addr}{H:Hp}:∀ {l:List D} {vs:List V} {is:List Int},RDs K ρ H l vs→eF l=some is→vs=is.map V.int
  | [],_,is,r,e=>by simp only [eF] at e;cases e;simp only [RDs] at r;subst r;rfl
  | d :: l,_,is,r,e=>by
    simp only [RDs] at r
    obtain⟨v,vs,rfl,h1,h2⟩:=r
    cases d<;>simp only [eF] at e<;>try (cases e;done)
    rename_i i
    cases c:eF l with
    | none=>rw [c] at e;cases e
    | some js =>
      rw [c] at e
      cases e
      simp only [RD] at h1
      rw [h1,lQ h2 c]
      rfl
theorem zT {p:Pos} {a:Expr} {la:LF} (hc:X.calm=true) (hg:Gl X "sum") (hm:X.mg "sum" = none) (ha:MQ X a la) (hs:starEach [a] X.env=(false,eval a X.env) :: starEach [] X.env:=by rfl):ME X (.Call (.Name "sum" p) [a] [] pos) (yb la):=by
  refine uU (g:=fun l h=>match eF l with|some is=>.ok (.int is.sum) h|none=>.bad) (CZ (yd hc) hg hm (by decide +kernel) (he:=hs)) ha (fun ρ H σd hd σ l q vs Q rs sq rvs p => ?_) hs
  cases c:eF l with
  | none=>simp only [c] at p;exact p.elim
  | some is =>
    simp only [c] at p
    have e:=lQ rvs c
    subst e
    exact⟨q,is,rfl,sq.imp id SqT.of,p.here rs (by simp only [rD,RD])⟩
end
end Fm
set_option Elab.async false
set_option linter.all false
set_option maxRecDepth 100000
namespace Fm
open PySem PySem.Spec L2
section
variable {K:PySem.W.Frag} {ρ:List Addr} {H:Hp}
mutual
theorem sP:∀ {d k:D} {v:V} {b:Bool},RD K ρ H d v→RD K ρ H k v→peq d k=some b→b=true
  | .int i,k,v,b,h1,h2,e=>by
    simp only [RD] at h1;subst h1
    cases k<;>simp only [RD] at h2<;>try (cases h2;done)
    all_goals first
      | (cases h2;simp only [peq] at e;simpa using e.symm)
      | (obtain⟨_,_,z,_⟩:=h2;cases z;done)
      | (obtain⟨_,_,z⟩:=h2;cases z;done)
      | (obtain⟨_,_,_,z,_⟩:=h2;cases z;done)
  | .bl i,k,v,b,h1,h2,e=>by
    simp only [RD] at h1;subst h1
    cases k<;>simp only [RD] at h2<;>try (cases h2;done)
    all_goals first
      | (cases h2;simp only [peq] at e;simpa using e.symm)
      | (obtain⟨_,_,z,_⟩:=h2;cases z;done)
      | (obtain⟨_,_,z⟩:=h2;cases z;done)
      | (obtain⟨_,_,_,z,_⟩:=h2;cases z;done)
  | .str x,k,v,b,h1,h2,e=>by
    simp only [RD] at h1;subst h1
    cases k<;>simp only [RD] at h2<;>try (cases h2;done)
    all_goals first
      | (simp only [peq] at e;simp only [toS,V.str.injEq,PySem.Str.mk.injEq] at h2;have h3:=congrArg Array.toList h2;simp at h3;subst h3;simpa using e.symm)
      | (obtain⟨_,_,z,_⟩:=h2;cases z;done)
      | (obtain⟨_,_,z⟩:=h2;cases z;done)
      | (obtain⟨_,_,_,z,_⟩:=h2;cases z;done)
  | .non,k,v,b,h1,h2,e=>by
    simp only [RD] at h1;subst h1
    cases k<;>simp only [RD] at h2<;>try (cases h2;done)
    all_goals first
      | (simp only [peq] at e;simpa using e.symm)
      | (obtain⟨_,_,z,_⟩:=h2;cases z;done)
      | (obtain⟨_,_,z⟩:=h2;cases z;done)
      | (obtain⟨_,_,_,z,_⟩:=h2;cases z;done)
  | .tup xs,k,v,b,h1,h2,e=>by
    simp only [RD] at h1
    obtain⟨p,vs,rfl,hp,r1⟩:=h1
    cases k<;>simp only [peq] at e<;>try (cases e;done)
    · simp only [RD] at h2;cases h2
    · simp only [RD] at h2;cases h2
    · rename_i ys
      simp only [RD] at h2
      obtain⟨p',vs',z,hp',r2⟩:=h2
      cases z
      rw [hp] at hp';cases hp'
      cases c:fW xs ys with
      | none=>rw [c] at e;cases e
      | some b' =>
        rw [c] at e
        simp only [Option.map_some,Option.some.injEq] at e
        have:=pi r1 r2 c
        subst this
        rw [← e,r1.length,r2.length]
        simp
  | .ref n,k,v,b,h1,h2,e=>by cases k<;>simp only [peq] at e<;>cases e
  | .lit l,k,v,b,h1,h2,e=>by cases k<;>simp only [peq] at e<;>cases e
  | .exn c l,k,v,b,h1,h2,e=>by simp only [peq] at e<;>cases e
theorem pi:∀ {xs ys:List D} {vs:List V} {b:Bool},RDs K ρ H xs vs→RDs K ρ H ys vs→fW xs ys=some b→b=true
  | [],_,_,_,_,_,e=>by simp only [fW] at e;cases e;rfl
  | x :: xs,[],_,_,_,_,e=>by simp only [fW] at e;cases e;rfl
  | x :: xs,y :: ys,_,b,h1,h2,e=>by
    simp only [RDs] at h1 h2
    obtain⟨v,r,rfl,a1,a2⟩:=h1
    obtain⟨v',r',z,b1,b2⟩:=h2
    cases z
    simp only [fW] at e
    cases c:peq x y with
    | none=>rw [c] at e;cases e
    | some p =>
      cases c2:fW xs ys with
      | none=>rw [c,c2] at e;cases e
      | some q =>
        rw [c,c2] at e
        simp only [Option.some.injEq] at e
        rw [← e,sP a1 b1 c,pi a2 b2 c2];rfl
end
end
section
variable {K:PySem.W.Frag} {ρ:List Addr} {H:Hp} {P:Program} {w:World} {s:Shared}
theorem fj (hok:HOk P w H s.heap){p:Addr}{vs:List V}(h:H p=some (.tup vs)):∃ its:List Value,aT vs its∧s.heap.IsTuple p its.toArray:=by
  obtain⟨z,its,r,t⟩:=hok p _ h
  exact⟨its,r,t.1⟩
theorem BQ (hok:HOk P w H s.heap) {p:Addr} {vs:List V} (h:H p=some (.tup vs)):∃ (its:List Value) (o:Obj) (c:Nat),aT vs its∧s.heap.get? p=some o∧o.cls=.type "tuple" ∧ o.data=.seq its.toArray c∧o.dict=none:=by
  obtain⟨z,its,r,⟨o,h1,h2,c,h3⟩,o2,h4,h5⟩:=hok p _ h
  rw [h1] at h4
  cases h4
  exact⟨its,o,c,r,h1,h2,h3,h5⟩
mutual
theorem DQ (hok:HOk P w H s.heap):∀ {d k:D} {v v':V} {u u':Value} {b:Bool} {A:Around},RD K ρ H d v→RD K ρ H k v'→bh v u→bh v' u'→peq d k=some b→A.units + dep d < cLine→SeqAt.EqAt A s u u' b
  | .int i,k,v,v',u,u',b,A,h1,h2,r1,r2,e,hu=>by
    simp only [RD] at h1;subst h1
    obtain⟨t,rfl⟩:=r1
    cases k<;>simp only [peq] at e<;>try (cases e;done)
    all_goals cases e
    · simp only [RD] at h2;subst h2;cases r2;exact SeqAt.EqAt.int_none i t
    · simp only [RD] at h2;subst h2;cases r2;exact SeqAt.EqAt.int_bool i t _
    · simp only [RD] at h2;subst h2;obtain⟨t',rfl⟩:=r2;exact SeqAt.EqAt.int_int i t _ t'
    · simp only [RD] at h2;obtain⟨p,vs,rfl,hp,_⟩:=h2;cases r2
      obtain⟨its,_,il⟩:=fj hok hp
      exact SeqAt.EqAt.int_tuple i t il (Nat.lt_of_le_of_lt (Nat.le_add_right _ _) hu)
  | .bl i,k,v,v',u,u',b,A,h1,h2,r1,r2,e,hu=>by
    simp only [RD] at h1;subst h1
    cases r1
    cases k<;>simp only [peq] at e<;>try (cases e;done)
    all_goals cases e
    · simp only [RD] at h2;subst h2;cases r2;exact SeqAt.EqAt.bool_bool i _
    · simp only [RD] at h2;subst h2;obtain⟨t',rfl⟩:=r2;exact SeqAt.EqAt.bool_int i _ t'
  | .str x,k,v,v',u,u',b,A,h1,h2,r1,r2,e,hu=>by
    simp only [RD] at h1;subst h1
    obtain⟨t,rfl⟩:=r1
    cases k<;>simp only [peq] at e<;>try (cases e;done)
    all_goals cases e
    rename_i y
    simp only [RD] at h2;subst h2;obtain⟨t',rfl⟩:=r2
    have:decide (x=y)=(toS x == toS y):=by
      by_cases z:x=y
      · subst z;simp
      · have : ¬ toS x=toS y:=fun q=>z (by have:=congrArg (fun (s:Str)=>s.cps.toList) q;simpa [toS] using this)
        simp [z,this]
    rw [this]
    exact SeqAt.EqAt.str_str _ t _ t'
  | .non,k,v,v',u,u',b,A,h1,h2,r1,r2,e,hu=>by
    simp only [RD] at h1;subst h1
    cases r1
    cases k<;>simp only [peq] at e<;>try (cases e;done)
    all_goals cases e
    · simp only [RD] at h2;subst h2;cases r2;exact SeqAt.EqAt.same _
    · simp only [RD] at h2;subst h2;obtain⟨t',rfl⟩:=r2;exact SeqAt.EqAt.none_int _ t'
    · simp only [RD] at h2;obtain⟨p,vs,rfl,hp,_⟩:=h2;cases r2
      obtain⟨its,_,il⟩:=fj hok hp
      exact SeqAt.EqAt.none_tuple il (Nat.lt_of_le_of_lt (Nat.le_add_right _ _) hu)
  | .tup xs,k,v,v',u,u',b,A,h1,h2,r1,r2,e,hu=>by
    have h1':=h1
    simp only [RD] at h1
    obtain⟨p,vs,rfl,hp,q1⟩:=h1
    cases r1
    obtain⟨its,rv,il⟩:=fj hok hp
    have hu0:A.units < cLine:=Nat.lt_of_le_of_lt (Nat.le_add_right _ _) hu
    cases k<;>simp only [peq] at e<;>try (cases e;done)
    · cases e;simp only [RD] at h2;subst h2;cases r2;exact SeqAt.EqAt.tuple_none il hu0
    · cases e;simp only [RD] at h2;subst h2;obtain⟨t',rfl⟩:=r2;exact SeqAt.EqAt.tuple_int _ t' il hu0
    · rename_i ys
      have h2':=h2
      simp only [RD] at h2
      obtain⟨p',vs',rfl,hp',q2⟩:=h2
      cases r2
      by_cases hpp:p=p'
      · subst hpp
        have:b=true:=sP h1' h2' (by simp only [peq];exact e)
        subst this
        exact SeqAt.EqAt.same _
      · obtain⟨its',rv',il'⟩:=fj hok hp'
        cases c:fW xs ys with
        | none=>rw [c] at e;cases e
        | some b' =>
          rw [c] at e
          simp only [Option.map_some,Option.some.injEq] at e
          obtain⟨f,hf,ha⟩:=li hok (A:=A.in1) q1 q2 rv rv' c (by simp only [dep] at hu;show A.units + 1 + nI xs < cLine;omega)
          have:=SeqAt.RcAt.tuples (s:=s) (A:=A) (e:=f) il il' hu0 (fun j h1 h2=>by simpa using hf j (by simpa using h1) (by simpa using h2))
          rw [← e,← ha,q1.length,q2.length,rv.length,rv'.length]
          refine SeqAt.EqAt.of_refs hpp ?_
          rw [show (decide (its.length=its'.length))=(its.length == its'.length) from rfl]
          simpa using this
  | .ref n,k,v,v',u,u',b,A,h1,h2,r1,r2,e,hu=>by cases k<;>simp only [peq] at e<;>cases e
  | .lit l,k,v,v',u,u',b,A,h1,h2,r1,r2,e,hu=>by cases k<;>simp only [peq] at e<;>cases e
  | .exn c l,k,v,v',u,u',b,A,h1,h2,r1,r2,e,hu=>by simp only [peq] at e<;>cases e
theorem li (hok:HOk P w H s.heap):∀ {xs ys:List D} {vs vs':List V} {us us':List Value} {b:Bool} {A:Around},RDs K ρ H xs vs→RDs K ρ H ys vs'→aT vs us→aT vs' us'→fW xs ys=some b→A.units + nI xs < cLine →
    ∃ f:Nat→Bool,(∀ j (h1:j < us.length) (h2:j < us'.length),SeqAt.EqAt A s us[j] us'[j] (f j))∧(List.range (min us.length us'.length)).all f=b
  | [],ys,vs,vs',us,us',b,A,h1,h2,r1,r2,e,hu=>by
    simp only [RDs] at h1;subst h1;cases r1
    simp only [fW] at e;cases e
    exact⟨fun _=>true,fun j h1=>by simp at h1,by simp⟩
  | x :: xs,[],vs,vs',us,us',b,A,h1,h2,r1,r2,e,hu=>by
    simp only [RDs] at h2;subst h2;cases r2
    simp only [fW] at e;cases e
    exact⟨fun _=>true,fun j h1 h2=>by simp at h2,by simp⟩
  | x :: xs,y :: ys,vs,vs',us,us',b,A,h1,h2,r1,r2,e,hu=>by
    simp only [RDs] at h1 h2
    obtain⟨v,r,rfl,a1,a2⟩:=h1
    obtain⟨v',r',rfl,b1,b2⟩:=h2
    cases r1 with
    | cons p1 p2 =>
      cases r2 with
      | cons s1 s2 =>
        simp only [fW] at e
        cases c:peq x y with
        | none=>rw [c] at e;cases e
        | some p =>
          cases c2:fW xs ys with
          | none=>rw [c,c2] at e;cases e
          | some q =>
            rw [c,c2] at e
            simp only [Option.some.injEq] at e
            simp only [nI] at hu
            have g1:=DQ hok (A:=A) a1 b1 p1 s1 c (by omega)
            obtain⟨f,hf,ha⟩:=li hok (A:=A) a2 b2 p2 s2 c2 (by omega)
            refine⟨fun j=>match j with|0=>p|j + 1=>f j,fun j h1 h2 => ?_,?_⟩
            · cases j with
              | zero=>exact g1
              | succ j=>exact hf j (by simpa using h1) (by simpa using h2)
            · rw [← e,← ha,List.length_cons,List.length_cons,Nat.succ_min_succ,List.range_succ_eq_map,List.all_cons,List.all_map]
              rfl
end
theorem DS (hok:HOk P w H s.heap){d k:D}{v v':V}{u u':Value}{b:Bool}{A:Around}(h1:RD K ρ H d v)(h2:RD K ρ H k v')(r1:bh v u)(r2:bh v' u')(e:peq d k=some b)(hu:A.units + dep d < cLine) :
    SeqAt.RcAt A s u u' b∧SeqAt.RcNeAt A s u u' (!b):=by
  have hu0:A.units < cLine:=Nat.lt_of_le_of_lt (Nat.le_add_right _ _) hu
  cases d<;>simp only [RD] at h1
  · subst h1;cases r1
    cases k<;>simp only [peq] at e<;>try (cases e;done)
    all_goals cases e
    · simp only [RD] at h2;subst h2;cases r2;exact⟨SeqAt.RcAt.none_none,SeqAt.RcNeAt.none_none⟩
    · simp only [RD] at h2;subst h2;obtain⟨t',rfl⟩:=r2;exact⟨SeqAt.RcAt.none_int _ t',SeqAt.RcNeAt.none_int _ t'⟩
    · simp only [RD] at h2;obtain⟨p,vs,rfl,hp,_⟩:=h2;cases r2
      obtain⟨its,_,il⟩:=fj hok hp
      exact⟨SeqAt.RcAt.none_tuple il hu0,SeqAt.RcNeAt.none_tuple il hu0⟩
  · subst h1;cases r1
    cases k<;>simp only [peq] at e<;>try (cases e;done)
    all_goals cases e
    · simp only [RD] at h2;subst h2;cases r2;exact⟨SeqAt.RcAt.bool_bool _ _,SeqAt.RcNeAt.bool_bool _ _⟩
    · simp only [RD] at h2;subst h2;obtain⟨t',rfl⟩:=r2;exact⟨SeqAt.RcAt.bool_int _ _ t',SeqAt.RcNeAt.bool_int _ _ t'⟩
  · subst h1;obtain⟨t,rfl⟩:=r1
    cases k<;>simp only [peq] at e<;>try (cases e;done)
    all_goals cases e
    · simp only [RD] at h2;subst h2;cases r2;exact⟨SeqAt.RcAt.int_none _ t,SeqAt.RcNeAt.int_none _ t⟩
    · simp only [RD] at h2;subst h2;cases r2;exact⟨SeqAt.RcAt.int_bool _ t _,SeqAt.RcNeAt.int_bool _ t _⟩
    · simp only [RD] at h2;subst h2;obtain⟨t',rfl⟩:=r2;exact⟨SeqAt.RcAt.int_int _ t _ t',SeqAt.RcNeAt.int_int _ t _ t'⟩
    · simp only [RD] at h2;obtain⟨p,vs,rfl,hp,_⟩:=h2;cases r2
      obtain⟨its,_,il⟩:=fj hok hp
      exact⟨SeqAt.RcAt.int_tuple _ t il hu0,SeqAt.RcNeAt.int_tuple _ t il hu0⟩
  · subst h1;obtain⟨t,rfl⟩:=r1
    cases k<;>simp only [peq] at e<;>try (cases e;done)
    all_goals cases e
    rename_i x y
    simp only [RD] at h2;subst h2;obtain⟨t',rfl⟩:=r2
    have:decide (x=y)=(toS x == toS y):=by
      by_cases z:x=y
      · subst z;simp
      · have : ¬ toS x=toS y:=fun q=>z (by have:=congrArg (fun (s:Str)=>s.cps.toList) q;simpa [toS] using this)
        simp [z,this]
    rw [this]
    exact⟨SeqAt.RcAt.str_str _ t _ t',SeqAt.RcNeAt.str_str _ t _ t'⟩
  · rename_i xs
    obtain⟨p,vs,rfl,hp,q1⟩:=h1
    cases r1
    obtain⟨its,rv,il⟩:=fj hok hp
    cases k<;>simp only [peq] at e<;>try (cases e;done)
    · cases e;simp only [RD] at h2;subst h2;cases r2;exact⟨SeqAt.RcAt.tuple_none il hu0,SeqAt.RcNeAt.tuple_none il hu0⟩
    · cases e;simp only [RD] at h2;subst h2;obtain⟨t',rfl⟩:=r2;exact⟨SeqAt.RcAt.tuple_int _ t' il hu0,SeqAt.RcNeAt.tuple_int _ t' il hu0⟩
    · rename_i ys
      simp only [RD] at h2
      obtain⟨p',vs',rfl,hp',q2⟩:=h2
      cases r2
      obtain⟨its',rv',il'⟩:=fj hok hp'
      cases c:fW xs ys with
      | none=>rw [c] at e;cases e
      | some b' =>
        rw [c] at e
        simp only [Option.map_some,Option.some.injEq] at e
        obtain⟨f,hf,ha⟩:=li hok (A:=A.in1) q1 q2 rv rv' c (by simp only [dep] at hu;show A.units + 1 + nI xs < cLine;omega)
        have g1:=SeqAt.RcAt.tuples (s:=s) (A:=A) (e:=f) il il' hu0 (fun j h1 h2=>by simpa using hf j (by simpa using h1) (by simpa using h2))
        have g2:=SeqAt.RcNeAt.tuples (s:=s) (A:=A) (e:=f) il il' hu0 (fun j h1 h2=>by simpa using hf j (by simpa using h1) (by simpa using h2))
        rw [← e,← ha,q1.length,q2.length,rv.length,rv'.length,show (decide (its.length=its'.length))=(its.length == its'.length) from rfl]
        exact⟨by simpa using g1,by simpa using g2⟩
  · cases k<;>simp only [peq] at e<;>cases e
  · cases k<;>simp only [peq] at e<;>cases e
  · simp only [peq] at e<;>cases e
end
section
variable {X:Cx}
theorem jd {K:PySem.W.Frag}{ρ:List Addr}{H:Hp}{hd:Hd}{d:D}{v:V}{l:List D}(r:RH K ρ H hd)(h:RD K ρ H d v)(e:dz hd d=some l):∃ p vs,v=.ref p∧SqL K H p vs∧RDs K ρ H l vs:=by
  cases d<;>simp only [dz] at e<;>try (cases e;done)
  · rename_i n
    simp only [RD] at h
    obtain⟨a,e1,e2⟩:=h
    cases c:hd[n]? with
    | none=>rw [c] at e;cases e
    | some x =>
      rw [c] at e
      cases x with
      | dct l=>cases e
      | lst l' =>
        cases e
        obtain⟨vs,q1,q2⟩:=r.cel n _ a c e1
        exact⟨a,vs,e2,SqL.of q1,q2⟩
  · cases e
    simp only [RD] at h
    obtain⟨p,vs,e1,e2,e3⟩:=h
    exact⟨p,vs,e1,e2.sq,e3⟩
theorem zU {pins:List (Addr × Obj)}{σ:St}{H:Hp}{s:Shared}{ρ:List Addr}{hd:Hd}{d k:D}{v v':V}{u u':Value}{b:Bool}(hu:X.A.units + 24 < cLine)(I:Inv X pins σ H s)(r:RH X.K ρ H hd)(h1:RD X.K ρ H d v)(h2:RD X.K ρ H k v')
    (r1:bh v u) (r2:bh v' u') (e:eqG hd d k=some b):SeqAt.RcAt X.A s u u' b∧SeqAt.RcNeAt X.A s u u' (!b):=by
  have hu0:X.A.units < cLine:=by omega
  simp only [eqG] at e
  cases c1:dz hd d with
  | none =>
    cases c2:dz hd k with
    | some l=>rw [c1,c2] at e;cases e
    | none =>
      rw [c1,c2] at e
      simp only at e
      split at e
      · rename_i hd20
        exact DS I.hok h1 h2 r1 r2 e (by omega)
      · cases e
  | some xs =>
    cases c2:dz hd k with
    | none=>rw [c1,c2] at e;cases e
    | some ys =>
      rw [c1,c2] at e
      simp only [eqL] at e
      obtain⟨p,vs,rfl,s1,q1⟩:=jd r h1 c1
      obtain⟨p',vs',rfl,s2,q2⟩:=jd r h2 c2
      cases r1;cases r2
      obtain⟨its,rv,pl,_⟩:=I.list s1
      obtain⟨its',rv',pl',_⟩:=I.list s2
      have il:s.heap.IsList p its.toArray:=pl.isList
      have il':s.heap.IsList p' its'.toArray:=pl'.isList
      have l1:xs.length=its.length:=q1.length.trans rv.length
      have l2:ys.length=its'.length:=q2.length.trans rv'.length
      split at e
      · rename_i hd20
        split at e
        · rename_i hl
          obtain⟨f,hf,ha⟩:=li I.hok (A:=X.A.in1) q1 q2 rv rv' e (by show X.A.units + 1 + nI xs < cLine;omega)
          have hs:its.toArray.size=its'.toArray.size:=by simp;omega
          have g1:=SeqAt.RcAt.lists (s:=s) (A:=X.A) (e:=f) il il' hs hu0 (fun j h1 h2=>by simpa using hf j (by simpa using h1) (by simpa using h2))
          have g2:=SeqAt.RcNeAt.lists (s:=s) (A:=X.A) (e:=f) il il' hs hu0 (fun j h1 h2=>by simpa using hf j (by simpa using h1) (by simpa using h2))
          have hm:min its.length its'.length=its.length:=by omega
          rw [hm] at ha
          rw [← ha]
          exact⟨by simpa using g1,by simpa using g2⟩
        · rename_i hl
          cases e
          have hs:(its.toArray.size != its'.toArray.size)=true:=by simp;omega
          exact⟨SeqAt.RcAt.lists_lengths il il' hs hu0,SeqAt.RcNeAt.lists_lengths il il' hs hu0⟩
      · cases e
def BR (K:PySem.W.Frag) (f:Bool→Bool):R2:=fun x y H Q=>∃ ρ hd d k b,RH K ρ H hd∧RD K ρ H d x∧RD K ρ H k y∧eqG hd d k=some b∧Q (.bl (f b)) H
theorem dB (hu:X.A.units + 24 < cLine):OpR X (compareOp .Eq) (BR X.K id):=by
  intro pins s σ H x y v u Q I rx ry h
  obtain⟨ρ,hd,d,k,b,r,h1,h2,e,q⟩:=h
  exact (zU hu I r h1 h2 rx ry e).1 _ _ _ _ ⟨.bl b,H,I,rfl,q⟩
theorem lR (hu:X.A.units + 24 < cLine):OpR X (compareOp .NotEq) (BR X.K not):=by
  intro pins s σ H x y v u Q I rx ry h
  obtain⟨ρ,hd,d,k,b,r,h1,h2,e,q⟩:=h
  exact (zU hu I r h1 h2 rx ry e).2 _ _ _ _ ⟨.bl (!b),H,I,rfl,q⟩
theorem eW {K:PySem.W.Frag}:Og K oEq (BR K id):=by
  intro ρ H σd hd σ d k v w Q rs rv rw' p
  unfold oEq at p
  cases e:eqG hd d k with
  | none=>rw [e] at p;exact p.elim
  | some b=>rw [e] at p;exact⟨ρ,hd,d,k,b,rs.hp,rv,rw',e,p.here rs (by simp only [rD,RD];rfl)⟩
theorem sQ {K:PySem.W.Frag}:Og K oNe (BR K not):=by
  intro ρ H σd hd σ d k v w Q rs rv rw' p
  unfold oNe at p
  cases e:eqG hd d k with
  | none=>rw [e] at p;exact p.elim
  | some b=>rw [e] at p;exact⟨ρ,hd,d,k,b,rs.hp,rv,rw',e,p.here rs (by simp only [rD,RD])⟩
end
end Fm
set_option Elab.async false
set_option linter.all false
set_option maxRecDepth 100000
namespace Fm
open PySem PySem.Spec L2
section
variable {K:PySem.W.Frag} {ρ ρ':List Addr} {H H':Hp} {hd hd':Hd} {σd:Sd} {σ:St}
theorem bK.outE {r:Res D}{k:D→Hd→Out}{En:sF}(p:bK K ρ H (outE r σd k) En) :
    bo K (rD K) ρ H σd σ r (fun v H'=>∃ ρ' d hd',Ext ρ H ρ' H'∧RS K ρ' H' σd hd' σ ∧ RD K ρ' H' d v∧bK K ρ' H' (k d hd') En):=by
  cases r with
  | ok d h'=>exact fun b H' ρ' ex rs q=>⟨ρ',d,h',ex,rs,q,bK.ext ex p⟩
  | exc x h'=>exact p
  | bad=>exact p
theorem RSt.set (r:RSt K ρ H σd σ){d:D}{v:V}(i:Nat)(h:RD K ρ H d v):RSt K ρ H (σd.set i (some d)) (σ.set i (some v)):=by
  refine⟨by simp [r.len],fun j x e => ?_⟩
  by_cases hj:i=j
  · subst hj
    by_cases hl:i < σd.length
    · simp only [slot,List.getElem?_set_self hl] at e
      cases e
      exact⟨v,by rw [List.getElem?_set_self (by rw [← r.len];exact hl)],h⟩
    · simp only [slot] at e
      rw [List.getElem?_eq_none (by simp;omega)] at e
      cases e
  · simp only [slot,List.getElem?_set_ne hj] at e
    rw [List.getElem?_set_ne hj]
    exact r.at' j x (by simpa only [slot] using e)
def Fk (K:PySem.W.Frag) (g:GF):TG:=fun v σ H Q=>∃ ρ σd hd d σd',RS K ρ H σd hd σ ∧ RD K ρ H d v∧g d σd=some σd' ∧ ∀ σ',RS K ρ H σd' hd σ'→Q σ' H
def DT (σ:Sd) (l:List Nat) (xs:List D):Sd:=(l.zip xs).foldl (fun σ p => σ.set p.1 (some p.2)) σ
def DU (K:PySem.W.Frag) (l:List Nat):TGs:=fun vs σ H Q=>∃ ρ σd hd ds,RS K ρ H σd hd σ ∧ RDs K ρ H ds vs∧ds.length=l.length ∧ ∀ σ',RS K ρ H (DT σd l ds) hd σ'→Q σ' H
end
def MG (X:Cx) (tg:Expr) (g:GF):Prop:=PG X tg (Fk X.K g)
def MGs (X:Cx) (ts:List Expr) (l:List Nat):Prop:=PGs X ts (DU X.K l)
section
variable {X:Cx} {pos:Pos}
theorem PG.imp {tg:Expr}{t u:TG}(h:PG X tg t)(i:∀ v σ H Q,u v σ H Q→t v σ H Q):PG X tg u:=fun pins s σ H v w Q I r q=>h pins s σ H v w Q I r (i v σ H Q q)
theorem PGs.imp {tg:List Expr}{t u:TGs}(h:PGs X tg t)(i:∀ v σ H Q,u v σ H Q→t v σ H Q):PGs X tg u:=fun pins s σ H v w Q I r q=>h pins s σ H v w Q I r (i v σ H Q q)
theorem aQ {i:Nat}{x:Str}(hN:X.N.Nodup)(hi:X.N[i]? = some x)(hx:Loc X.env.scope x)(hf:X.fn x=true∨X.env.scope.names.lookup x=some .local:=by first|exact .inl rfl|exact .inr rfl|assumption):MG X (.Name x pos) (gN i):=by
  refine PG.imp (BD hN hi hx hf) fun v σ H Q ⟨ρ,σd,hd,d,σd',rs,rv,e,q⟩ => ?_
  simp only [gN,Option.some.injEq] at e
  subst e
  exact q _ ⟨rs.hp,rs.st.set i rv⟩
theorem ii:MGs X [] []:=by
  refine PGs.imp BE fun vs σ H Q ⟨ρ,σd,hd,ds,rs,rv,e,q⟩ => ?_
  have:ds=[]:=by simpa using e
  subst this
  simp only [RDs] at rv
  exact⟨rv,q σ rs⟩
theorem bY {e:Expr}{es:List Expr}{i:Nat}{l:List Nat}(h1:MG X e (gN i))(h2:MGs X es l)
    (hs:(assignEach (e :: es) X.env).map (·.2)=assign e X.env :: (assignEach es X.env).map (·.2):=by rfl):MGs X (e :: es) (i :: l):=by
  refine PGs.imp (zw h1 h2 hs) fun vs σ H Q ⟨ρ,σd,hd,ds,rs,rv,e,q⟩ => ?_
  cases ds with
  | nil=>simp at e
  | cons d ds =>
    simp only [RDs] at rv
    obtain⟨v,r,rfl,h1,h2⟩:=rv
    refine⟨v,r,rfl,ρ,σd,hd,d,_,rs,h1,rfl,fun σ' rs' => ?_⟩
    exact⟨ρ,_,hd,ds,rs',h2,by simpa using e,fun σ2 rs2=>q σ2 rs2⟩
theorem jN {es:List Expr}{k:Nat}{l:List Nat}(hc:X.calm=true)(h:MGs X es l)
    (hn:(assignEach es X.env).length=l.length:=by rfl) (hst:(assignEach es X.env).findIdx? (·.1)=none:=by rfl):MG X (.Tuple es k pos) (gT l):=by
  refine PG.imp (Dt hc h hn hst) fun v σ H Q ⟨ρ,σd,hd,d,σd',rs,rv,e,q⟩ => ?_
  cases d<;>simp only [gT] at e<;>try (cases e;done)
  rename_i xs
  split at e
  · rename_i hl
    cases e
    simp only [RD] at rv
    obtain⟨p,vs,rfl,hp,r⟩:=rv
    exact⟨p,vs,rfl,SqT.of hp,by rw [← r.length];exact hl,ρ,σd,hd,xs,rs,r,hl,q⟩
  · cases e
theorem bn:MSs X [] cK:=PSs.imp BA fun En σ H ⟨ρ,σd,hd,rs,p⟩=>p σ H ρ Ext.refl rs
theorem ah {st:Stmt}{rest:List Stmt}{a b:SF}(h1:MS X st a)(h2:MSs X rest b):MSs X (st :: rest) (aD a b):=by
  refine PSs.imp (zu h1 h2) fun En σ H ⟨ρ,σd,hd,rs,p⟩=>⟨ρ,σd,hd,rs,?_⟩
  unfold aD at p
  cases e:a σd hd with
  | nx σ1 h1=>rw [e] at p;exact fun σ' H' ρ' ex rs'=>⟨ρ',σ1,h1,rs',bK.ext ex p⟩
  | rt d h1=>rw [e] at p;exact p
  | bk σ1 h1=>rw [e] at p;exact p
  | ct σ1 h1=>rw [e] at p;exact p
  | exc x σ1 h1=>rw [e] at p;exact p
  | bad=>rw [e] at p;exact p
theorem ap {st:Stmt}{a:SF}(h:MS X st a):MSs X [st] a:=BB h
theorem zV {st:Stmt}:MS X st DM:=PS.imp zv fun En σ H ⟨ρ,σd,hd,rs,p⟩=>p.elim
theorem aV {e:Expr}{f:EF}(h:ME X e f):MS X (.Return (some e) pos) (bI f):=by
  refine PS.imp (Dp h) fun En σ H ⟨ρ,σd,hd,rs,p⟩=>⟨ρ,σd,hd,rs,(bK.outE p).imp fun v H1 ⟨ρ1,d,hd1,e1,rs1,rv,p1⟩ => ?_⟩
  exact p1 v H1 ρ1 Ext.refl rs1.hp rv
theorem df {e:Expr}{f:EF}(h:ME X e f)(hs:swapsWith e none pos.line X.env=pure false:=by rfl):MS X (.Expr e pos) (fg f):=by
  refine PS.imp (BC h hs) fun En σ H ⟨ρ,σd,hd,rs,p⟩=>⟨ρ,σd,hd,rs,(bK.outE p).imp fun v H1 ⟨ρ1,d,hd1,e1,rs1,rv,p1⟩ => ?_⟩
  exact p1 σ H1 ρ1 Ext.refl rs1
theorem cC {c:Expr}{a b:List Stmt}{t:TF}{fa fb:SF}(hc:MT X c t)(ha:MSs X a fa)(hb:MSs X b fb):MS X (.If c a b pos) (sIf t fa fb):=by
  refine PS.imp (ET hc ha hb) fun En σ H ⟨ρ,σd,hd,rs,p⟩=>⟨ρ,σd,hd,rs,?_⟩
  unfold sIf at p
  cases e:t σd hd with
  | ok c h1 =>
    rw [e] at p
    intro b H' ρ' ex rs' q
    cases q
    cases c with
    | true=>simp only [if_true] at p ⊢;exact⟨ρ',σd,h1,rs',bK.ext ex p⟩
    | false=>simp only [Bool.false_eq_true,if_false] at p ⊢;exact⟨ρ',σd,h1,rs',bK.ext ex p⟩
  | exc x h1=>rw [e] at p;exact p
  | bad=>rw [e] at p;exact p
theorem aB {i:Nat}{x:Str}{e:Expr}{f:EF}{pos':Pos}(hN:X.N.Nodup)(hi:X.N[i]? = some x)(hx:Loc X.env.scope x)(he:ME X e f)(hs:swapsWith e (some (.Name x pos')) pos.line X.env=pure false:=by rfl)(hf:X.fn x=true∨X.env.scope.names.lookup x=some .local:=by first|exact .inl rfl|exact .inr rfl|assumption) :
    MS X (.Assign [.Name x pos'] e pos) (aF (gN i) f):=by
  refine PS.imp (Du hN hi hx he hs hf) fun En σ H ⟨ρ,σd,hd,rs,p⟩=>⟨ρ,σd,hd,rs,(bK.outE p).imp fun v H1 ⟨ρ1,d,hd1,e1,rs1,rv,p1⟩ => ?_⟩
  exact p1 _ H1 ρ1 Ext.refl ⟨rs1.hp,rs1.st.set i rv⟩
theorem zW {tg e:Expr}{f:EF}{g:GF}(he:ME X e f)(hg:MG X tg g)(hs:swapsWithSole [tg] e pos.line X.env=pure false:=by rfl)(hw:swappedStores [tg] e X.env=pure none:=by rfl)
    (h1:(assignEach [tg] X.env).map (·.2)=[assign tg X.env]:=by rfl):MS X (.Assign [tg] e pos) (aF g f):=by
  refine PS.imp (uJ he hg hs hw h1) fun En σ H ⟨ρ,σd,hd,rs,p⟩=>⟨ρ,σd,hd,rs,(bK.outE p).imp fun v H1 ⟨ρ1,d,hd1,e1,rs1,rv,p1⟩ => ?_⟩
  cases c:g d σd with
  | none=>rw [c] at p1;exact p1.elim
  | some σ1=>rw [c] at p1;exact⟨ρ1,σd,hd1,d,σ1,rs1,rv,c,fun σ' rs'=>p1 σ' H1 ρ1 Ext.refl rs'⟩
theorem DV:Fm.ixN=L2.ixN:=rfl
theorem DW {o i e:Expr}{fo fi fe:EF}{p2:Pos}(he:ME X e fe)(ho:ME X o fo)(hi:ME X i fi)(hs:swapsWithSole [.Subscript o i p2] e pos.line X.env=pure false:=by rfl)(hw:swappedStores [.Subscript o i p2] e X.env=pure none:=by rfl)
    (h1:(assignEach [.Subscript o i p2] X.env).map (·.2)=[assign (.Subscript o i p2) X.env]:=by rfl) (ha:∀ v,assign (.Subscript o i p2) X.env v=(do
      let ov ← holding [v] (eval o X.env)
      let iv ← holding [v,ov] (eval i X.env)
      standAt p2
      holding [v,ov,iv] (setItem ov iv v)
      release [v,ov,iv] []):=by intro _;rfl):MS X (.Assign [.Subscript o i p2] e pos) (Fe fo fi fe):=by
  refine PS.imp (uJ he (zx ho hi zI ha) hs hw h1) fun En σ H ⟨ρ,σd,hd,rs,p⟩=>⟨ρ,σd,hd,rs,(bK.outE p).imp fun v H1 ⟨ρ1,d,hd1,e1,rs1,rv,p1⟩ => ?_⟩
  refine⟨ρ1,σd,hd1,rs1,(bK.outE p1).imp fun vo H2 ⟨ρ2,dO,hd2,e2,rs2,ro,p2⟩ => ?_⟩
  refine⟨ρ2,σd,hd2,rs2,(bK.outE p2).imp fun vi H3 ⟨ρ3,di,hd3,e3,rs3,ri,p3⟩ => ?_⟩
  have rv3:=(rv.mono (rs1.hp.kp e2)).mono (rs2.hp.kp e3)
  have ro3:=ro.mono (rs2.hp.kp e3)
  cases dO with
  | ref n =>
    cases di with
    | int j =>
      simp only at p3
      cases c:hd3[n]? with
      | none=>rw [c] at p3;exact p3.elim
      | some cell =>
        rw [c] at p3
        cases cell with
        | dct l=>exact p3.elim
        | lst l =>
          simp only at p3
          cases c2:ixN l.length j with
          | none=>rw [c2] at p3;exact p3.elim
          | some k =>
            rw [c2] at p3
            simp only [RD] at ro3 ri
            obtain⟨a,ha,rfl⟩:=ro3
            obtain⟨vs,hv,rvs⟩:=rs3.hp.cel n _ a c ha
            refine⟨a,vs,j,k,rfl,ri,hv,by rw [← rvs.length,← DV];exact c2,?_⟩
            have hn:n < hd3.length:=(List.getElem?_eq_some_iff.mp c).1
            have rh:=rs3.hp.write ha hn (RDs.set rv3 k rvs)
            have ex:Ext ρ3 H3 ρ3 (upd H3 a (.lst (vs.set k v))):=Ext.write (List.mem_of_getElem? ha)
            exact p3 σ _ ρ3 ex (rs3.ext ex rh)
    | _=>exact p3.elim
  | _=>exact p3.elim
end
section
variable (K:PySem.W.Frag)
structure lS (ρ0:List Addr) (H0:Hp) (J:It) (l:List D) (g:Option Nat):Prop where
  go:∀ ρ H hd (i:Nat) d,Ext ρ0 H0 ρ H→RH K ρ H hd→iQ g l hd→l[i]? = some d→J.go i H ∧ ∀ x H',J.yld i H x H'→gC H H'∧RD K ρ H' d x
  stop:∀ ρ H hd,Ext ρ0 H0 ρ H→RH K ρ H hd→iQ g l hd→J.stop l.length H
  sz:l.length≤sizeLine
def Fl (ρ:List Addr) (H:Hp) (σd:Sd) (σ:St) (r:Res (List D × Option Nat)) (R:It→Hp→Prop):Prop:=match r with
  | .ok p hd'=>∀ J H' ρ',Ext ρ H ρ' H'→RS K ρ' H' σd hd' σ → lS K ρ' H' J p.1 p.2→R J H'
  | _=>False
def Fo (f:IF):TI:=fun σ H R=>∃ ρ σd hd,RS K ρ H σd hd σ ∧ Fl K ρ H σd σ (f σd hd) R
end
def MI (X:Cx) (tg e:Expr) (f:IF):Prop:=PI X tg e (Fo X.K f)
section
variable {X:Cx} {pos:Pos} {tg:Expr}
theorem PI.imp {e:Expr}{t u:TI}(h:PI X tg e t)(i:∀ σ H R,u σ H R→t σ H R):PI X tg e u:=fun pins s σ H R I q=>h pins s σ H R I (i σ H R q)
theorem eI {iter:Expr}{body:List Stmt}{f:IF}{g:GF}{b:SF}(hp:PassesOwn (model X.prog X.w) X.A X.env X.xe)(hc:X.calm=true)(hi:MI X tg iter f)(hg:MG X tg g)(hb:MSs X body b)
    (hs:∀ x,foldedSetIterable iter X.env x=pure x:=by intro _;rfl):MS X (.For tg iter body [] pos) (fX f g b):=by
  refine PS.imp (Dw hp hc hi hg hb hs) fun En σ H ⟨ρ,σd,hd,rs,p⟩=>⟨ρ,σd,hd,rs,?_⟩
  unfold fX at p
  cases e:f σd hd with
  | exc x h'=>rw [e] at p;exact p
  | bad=>rw [e] at p;exact p
  | ok q hd1 =>
    rw [e] at p
    obtain⟨l,gd⟩:=q
    intro J H1 ρ1 ex1 rs1 wk
    simp only at p wk
    refine⟨fun i m σ' H'=>∃ ρ' σd' hd',Ext ρ1 H1 ρ' H'∧RS X.K ρ' H' σd' hd' σ'∧i≤l.length∧m=l.length - i∧bK X.K ρ' H' (iA gd l g b (l.drop i) σd' hd') En,
      ⟨l.length,ρ1,σd,hd1,Ext.refl,rs1,Nat.zero_le _,by simp,by simpa using bK.ext ex1 p⟩,?_⟩
    rintro i m σ' H' ⟨ρ',σd',hd',ex,rs',hil,rfl,pp⟩
    by_cases hlt:i < l.length
    · have hdi:l[i]? = some l[i]:=by simp [hlt]
      rw [List.drop_eq_getElem_cons hlt] at pp
      unfold iA at pp
      by_cases hh:iQ gd l hd'
      · rw [if_pos hh] at pp
        obtain⟨go,yl⟩:=wk.go ρ' H' hd' i _ ex rs'.hp hh hdi
        refine .inr ⟨go,fun σ2 H2=>∃ ρ2 σd2 hd2,Ext ρ1 H1 ρ2 H2∧RS X.K ρ2 H2 σd2 hd2 σ2∧bK X.K ρ2 H2 (iA gd l g b (l.drop (i + 1)) σd2 hd2) En,
          fun σ2 H2 ⟨ρ2,σd2,hd2,a1,a2,a3⟩=>⟨l.length - (i + 1),by omega,ρ2,σd2,hd2,a1,a2,hlt,rfl,a3⟩,fun x H2 y => ?_⟩
        obtain⟨sm,rx⟩:=yl x H2 y
        cases c:g l[i] σd' with
        | none=>rw [c] at pp;exact pp.elim
        | some σd2 =>
          rw [c] at pp
          simp only at pp
          refine⟨ρ',σd',hd',l[i],σd2,rs'.same sm,rx,c,fun σ2 rs2=>⟨ρ',σd2,hd',rs2,?_⟩⟩
          have e12:Ext ρ' H' ρ' H2:=Ext.same sm
          cases c2:b σd2 hd' with
          | nx σ3 h3=>rw [c2] at pp;exact fun σ4 H4 ρ4 ex4 rs4=>⟨ρ4,σ3,h3,ex.trans (e12.trans ex4),rs4,bK.ext (e12.trans ex4) pp⟩
          | ct σ3 h3=>rw [c2] at pp;exact fun σ4 H4 ρ4 ex4 rs4=>⟨ρ4,σ3,h3,ex.trans (e12.trans ex4),rs4,bK.ext (e12.trans ex4) pp⟩
          | bk σ3 h3=>rw [c2] at pp;exact fun σ4 H4 ρ4 ex4 rs4=>pp σ4 H4 ρ4 (e12.trans ex4) rs4
          | rt d h3=>rw [c2] at pp;exact fun v H4 ρ4 ex4 rs4 rv=>pp v H4 ρ4 (e12.trans ex4) rs4 rv
          | exc x σ3 h3=>rw [c2] at pp;exact pp
          | bad=>rw [c2] at pp;exact pp
      · rw [if_neg hh] at pp;exact pp.elim
    · have e0:i=l.length:=by omega
      subst e0
      rw [List.drop_length] at pp
      unfold iA at pp
      by_cases hh:iQ gd l hd'
      · rw [if_pos hh] at pp
        exact .inl ⟨wk.stop ρ' H' hd' ex rs'.hp hh,pp σ' H' ρ' Ext.refl rs'⟩
      · rw [if_neg hh] at pp;exact pp.elim
theorem zX {c:Expr}{body:List Stmt}{t:TF}{b:SF}(hp:PassesOwn (model X.prog X.w) X.A X.env X.xe)(hc:MT X c t)(hb:MSs X body b):MS X (.While c body [] pos) (lJ t b):=by
  refine PS.imp (zy hp hc hb) fun En σ H ⟨ρ,σd,hd,rs,p⟩ => ?_
  unfold lJ at p
  refine⟨fun m σ' H'=>∃ ρ' σd' hd',RS X.K ρ' H' σd' hd' σ'∧bK X.K ρ' H' (cY t b m σd' hd') En,⟨BO t b σd hd,ρ,σd,hd,rs,p⟩,?_⟩
  rintro m σ' H' ⟨ρ',σd',hd',rs',pp⟩
  cases m with
  | zero=>exact pp.elim
  | succ m =>
    unfold cY at pp
    refine⟨ρ',σd',hd',rs',?_⟩
    cases e:t σd' hd' with
    | exc x h1=>rw [e] at pp;exact pp
    | bad=>rw [e] at pp;exact pp
    | ok c h1 =>
      rw [e] at pp
      intro b' H2 ρ2 ex2 rs2 q
      cases q
      cases c with
      | false=>simp only [Bool.false_eq_true,if_false] at pp ⊢;exact pp σ' H2 ρ2 ex2 rs2
      | true =>
        simp only [if_true] at pp ⊢
        refine⟨fun σ3 H3=>∃ ρ3 σd3 hd3,RS X.K ρ3 H3 σd3 hd3 σ3∧bK X.K ρ3 H3 (cY t b m σd3 hd3) En,fun σ3 H3 q=>⟨m,Nat.lt_succ_self _,q⟩,ρ2,σd',h1,rs2,?_⟩
        cases c2:b σd' h1 with
        | nx σ3 h3=>rw [c2] at pp;exact fun σ4 H4 ρ4 ex4 rs4=>⟨ρ4,σ3,h3,rs4,bK.ext (ex2.trans ex4) pp⟩
        | ct σ3 h3=>rw [c2] at pp;exact fun σ4 H4 ρ4 ex4 rs4=>⟨ρ4,σ3,h3,rs4,bK.ext (ex2.trans ex4) pp⟩
        | bk σ3 h3=>rw [c2] at pp;exact fun σ4 H4 ρ4 ex4 rs4=>pp σ4 H4 ρ4 (ex2.trans ex4) rs4
        | rt d h3=>rw [c2] at pp;exact fun v H4 ρ4 ex4 rs4 rv=>pp v H4 ρ4 (ex2.trans ex4) rs4 rv
        | exc x σ3 h3=>rw [c2] at pp;exact pp
        | bad=>rw [c2] at pp;exact pp
theorem zY {K:PySem.W.Frag}{ρ:List Addr}{H:Hp}{hd:Hd}{q:Addr}{l:List D}{vs:List V}(r:RH K ρ H hd)(hq:H q=some (.tup vs))(rv:RDs K ρ H l vs)(hz:vs.length≤sizeLine):lS K ρ H (Itt K q) l none where
  go:=fun ρ' H' hd' i d ex rh _ hi=>by
    have k:=r.kp ex
    obtain⟨v,hv,rd⟩:=(rv.mono k).get hi
    have sq:SqT K H' q vs:=SqT.of (k.tup q vs hq)
    refine⟨⟨vs,v,sq,hv⟩,fun x H2 y => ?_⟩
    obtain⟨rfl,y⟩:=y
    have:=y vs sq
    rw [hv] at this
    cases this
    exact⟨gC.refl _,rd⟩
  stop:=fun ρ' H' hd' ex rh _=>⟨vs,SqT.of ((r.kp ex).tup q vs hq),by rw [rv.length];exact Nat.le_refl _⟩
  sz:=by rw [rv.length];exact hz
theorem zZ {K:PySem.W.Frag}{ρ:List Addr}{H:Hp}{hd:Hd}{q:Addr}{l:List D}{vs:List V}(r:RH K ρ H hd)(hq:kq K H q vs)(rv:RDs K ρ H l vs)(hz:vs.length≤sizeLine):lS K ρ H (Itl K q) l none where
  go:=fun ρ' H' hd' i d ex rh _ hi=>by
    have k:=r.kp ex
    obtain⟨v,hv,rd⟩:=(rv.mono k).get hi
    have sq:SqL K H' q vs:=(hq.mono k).sq
    refine⟨⟨vs,v,sq,hv⟩,fun x H2 y => ?_⟩
    obtain⟨rfl,y⟩:=y
    have:=y vs sq
    rw [hv] at this
    cases this
    exact⟨gC.refl _,rd⟩
  stop:=fun ρ' H' hd' ex rh _=>⟨vs,(hq.mono (r.kp ex)).sq,by rw [rv.length];exact Nat.le_refl _⟩
  sz:=by rw [rv.length];exact hz
theorem z0 {K:PySem.W.Frag}{ρ:List Addr}{H:Hp}{n:Nat}{q:Addr}{l:List D}(hq : ρ[n]? = some q)(hz:l.length≤sizeLine):lS K ρ H (Itl K q) l (some n) where
  sz:=hz
  go:=fun ρ' H' hd' i d ex rh hl hi=>by
    obtain⟨vs,e,rv⟩:=rh.cel n _ q hl (ex.get hq)
    obtain⟨v,hv,rd⟩:=rv.get hi
    have sq:SqL K H' q vs:=SqL.of e
    refine⟨⟨vs,v,sq,hv⟩,fun x H2 y => ?_⟩
    obtain⟨rfl,y⟩:=y
    have:=y vs sq
    rw [hv] at this
    cases this
    exact⟨gC.refl _,rd⟩
  stop:=fun ρ' H' hd' ex rh hl=>by
    obtain⟨vs,e,rv⟩:=rh.cel n _ q hl (ex.get hq)
    exact⟨vs,SqL.of e,by rw [rv.length];exact Nat.le_refl _⟩
theorem DX {l:Expr}{tl:TE}(hl:PE X l tl):PI X tg l (fun σ H R=>tl σ H fun x H1=>(∃ a xs,x=.ref a∧SqL X.K H1 a xs∧(xs.length≤sizeLine→R (Itl X.K a) H1)) ∨ ∃ a xs,x=.ref a∧SqT X.K H1 a xs∧(xs.length≤sizeLine→R (Itt X.K a) H1)):=by
  intro pins s σ H R I h
  refine thn (hl pins s σ H _ I h) fun v s1 ⟨x,H1,I1,r1,q1⟩ => ?_
  rcases q1 with ⟨a,xs,e,hq,q⟩|⟨a,xs,e,hq,q⟩
  · subst e
    cases r1
    obtain⟨its,rv,p,hz⟩:=I1.list hq
    refine wpAny_pyIter_list p.isList ?_
    refine⟨s1.heap.objs.size,[s1.heap.objs.size],_,_,H1,rfl,I1.kept (t':=s1.toks) fun b o e=>Heap.get?_push_of_some _ e,xU a _,⟨_,Heap.get?_push_size _ rfl,rfl,rfl⟩,fun b hb => ?_,q hz⟩
    have e:b=s1.heap.objs.size:=by simpa using hb
    subst e
    exact I1.fpOk (Nat.le_refl _) (I1.hok.fresh (Nat.le_refl _))
  · subst e
    cases r1
    obtain⟨its,rv,p,hz⟩:=I1.tuple hq
    refine wpAny_pyIter_tuple (show s1.heap.IsTuple a its.toArray from p) ?_
    refine⟨s1.heap.objs.size,[s1.heap.objs.size],_,_,H1,rfl,I1.kept (t':=s1.toks) fun b o e=>Heap.get?_push_of_some _ e,uL a _,⟨_,Heap.get?_push_size _ rfl,rfl,rfl⟩,fun b hb => ?_,q hz⟩
    have e:b=s1.heap.objs.size:=by simpa using hb
    subst e
    exact I1.fpOk (Nat.le_refl _) (I1.hok.fresh (Nat.le_refl _))
theorem jO {e:Expr}{f:EF}(h:ME X e f):MI X tg e (iy f):=by
  refine PI.imp (DX h) fun σ H R ⟨ρ,σd,hd,rs,p⟩=>⟨ρ,σd,hd,rs,?_⟩
  unfold iy at p
  cases e:f σd hd with
  | exc x h1=>rw [e] at p;exact p
  | bad=>rw [e] at p;exact p
  | ok d hd1 =>
    rw [e] at p
    simp only [aM] at p
    intro v H1 ρ1 ex1 rs1 rv
    cases d<;>try exact p.elim
    · rename_i l
      simp only [rD,RD] at rv
      obtain⟨q,vs,rfl,hq,rvs⟩:=rv
      exact .inr ⟨q,vs,rfl,SqT.of hq,fun hz=>p _ H1 ρ1 ex1 rs1 (zY rs1.hp hq rvs hz)⟩
    · rename_i n
      simp only [rD,RD] at rv
      obtain⟨a,ha,rfl⟩:=rv
      cases c:hd1[n]? with
      | none=>simp only [c] at p;exact p.elim
      | some cell =>
        cases cell with
        | dct l=>simp only [c] at p;exact p.elim
        | lst l =>
          simp only [c] at p
          obtain⟨vs,hv,rvs⟩:=rs1.hp.cel n _ a c ha
          exact .inl ⟨a,vs,rfl,SqL.of hv,fun hz=>p _ H1 ρ1 ex1 rs1 (z0 ha (by rw [rvs.length];exact hz))⟩
    · rename_i l
      simp only [rD,RD] at rv
      obtain⟨q,vs,rfl,hq,rvs⟩:=rv
      exact .inl ⟨q,vs,rfl,hq.sq,fun hz=>p _ H1 ρ1 ex1 rs1 (zZ rs1.hp hq rvs hz)⟩
theorem uV {K:PySem.W.Frag}{ρ:List Addr}{H:Hp}(lo:Int)(n:Nat)(hz:n≤2000000):lS K ρ H (Itr lo n) ((List.range n).map fun k:Nat=>.int (lo + k)) none where
  go:=fun ρ' H' hd' i d ex rh _ hi=>by
    have hin:i < n:=by
      have:=(List.getElem?_eq_some_iff.mp hi).1
      simpa using this
    refine⟨hin,fun x H2 y => ?_⟩
    obtain⟨rfl,rfl⟩:=y
    have e:d=.int (lo + i):=by simpa [hin] using hi.symm
    subst e
    exact⟨gC.refl _,by simp only [RD]⟩
  stop:=fun ρ' H' hd' ex rh _=>by
    show n≤_
    simp
  sz:=by
    have:(2000000:Nat)≤sizeLine:=by rw [sizeLine_eq];decide
    simp;omega
theorem bN {a:Expr} {f:EF} {p:Pos} (hg:Gl X "range") (hm:X.mg "range" = none) (ha:ME X a f) (hs:starEach [a] X.env=[(false,eval a X.env)]:=by rfl):MI X tg (.Call (.Name "range" p) [a] [] pos) (bM f):=by
  refine PI.imp (xV hg hm (bT ha dH hs) hs) fun σ H R ⟨ρ,σd,hd,rs,pp⟩=>⟨ρ,σd,hd,rs,?_⟩
  unfold bM at pp
  cases e:f σd hd with
  | exc x h1=>rw [e] at pp;exact pp
  | bad=>rw [e] at pp;exact pp
  | ok d hd1 =>
    rw [e] at pp
    simp only [aM] at pp
    intro v H1 ρ1 ex1 rs1 rv
    cases d<;>try exact pp.elim
    rename_i n
    simp only at pp
    simp only [rD,RD] at rv
    subst rv
    split at pp
    · rename_i hb
      refine⟨n,rfl,by omega,by omega,pp _ H1 ρ1 ex1 rs1 ?_⟩
      have:=uV (K:=X.K) (ρ := ρ1) (H:=H1) 0 n.toNat (by omega)
      simpa using this
    · exact pp.elim
end
end Fm
set_option linter.all false
namespace Fm
noncomputable section
open Classical
def gJ (G:Hd→Prop) (tg:GF) (cs:List TF) (e:EF):List D→Sd→Hd→Res (List D)
  | [],_,h=>if G h then .ok [] h else .bad
  | x :: xs,σ,h=>if G h then match tg x σ with
      | some σ=>(gG cs σ h).bind fun b h=>if b then (e σ h).bind fun d h=>(gJ G tg cs e xs σ h).bind fun ds h=>.ok (d :: ds) h
        else gJ G tg cs e xs σ h
      | none=>.bad
    else .bad
end
theorem qt {g:Option Nat}{all:List D}{tg:GF}{cs:List TF}{e:EF}:∀ (xs:List D) (σ:Sd) (h:Hd),cB g all tg cs e xs σ h=gJ (iQ g all) tg cs e xs σ h
  | [],_,h=>by unfold cB gJ;rfl
  | x :: xs,σ,h=>by
    unfold cB gJ
    by_cases hh:iQ g all h
    · rw [if_pos hh,if_pos hh]
      cases tg x σ with
      | none=>rfl
      | some σ'=>simp only [qt xs]
    · rw [if_neg hh,if_neg hh]
end Fm
set_option Elab.async false
set_option linter.all false
set_option maxRecDepth 100000
namespace Fm
open PySem PySem.Spec L2
section
variable {prog:Program} {w:World} {A:Around} {R:Result→Shared→Prop} {s:Shared}
theorem qu {elt target iter:Expr}{ifs:List Expr}{scope:Scope}{pos:Pos}{it acc:Value}{env:Env}{E:Value→Shared→Prop}(hE:∀ e s,¬ E e s)(I:Nat→Shared→Prop)
    (turn:∀ n s,I n s→wpAny (model prog w) A (pyNext it) (fun r s₁ => match r with
      | none=>R (.ok .next) s₁
      | some v=>wpAny (model prog w) A (letOwnedTupleGo target it v) (fun _ s₁ => wpAny (model prog w) A (assign target env v) (fun _ s₂ =>
          wpAny (model prog w) A (forIn ifs true fun c r=>if r=true then do let ok ← isTrue c env (eval c env);pure (ForInStep.yield ok) else pure (ForInStep.yield r)) (fun ok s₃ =>
            if ok=true then wpAny (model prog w) A (eval elt env) (fun x s₄ =>
              wpAny (model prog w) A (call (.builtin "list.append") [acc,x]) (fun _ s₅ => ∃ m,m < n∧I m s₅) E s₄) E s₃
            else ∃ m,m < n∧I m s₃) E s₂) E s₁) E s₁) E s)
    (n:Nat) (h:I n s) :
    codeAny (model prog w) A (.compLoop (.ListComp elt [⟨target,iter,ifs,0⟩] scope pos) 0 it acc env) R s:=by
  refine codeAny_loop rfl I (fun n s hI => ?_) n h
  show wpAny _ A ((compTurn (.ListComp elt [⟨target,iter,ifs,0⟩] scope pos) 0 it acc env).onRaise (fun x=>do noteFrame x env;theTreesLotGoes x)) _ _ s
  refine wpAny_noted ?_
  rw [compTurn_list]
  have no:∀ {α : Type} {t:Sem α} {Q Q' : α → Shared→Prop} {E':Value→Shared→Prop} {s:Shared},wpAny (model prog w) A t Q E s→(∀ a s,Q a s→Q' a s)→wpAny (model prog w) A t Q' E' s:=fun h hq=>wpAny_mono h hq fun e s z=>(hE e s z).elim
  refine wpAny_bind (wpAny_standAt (wpAny_bind (no (turn n s hI) fun r s₁ h₁ => ?_)))
  cases r with
  | none=>exact wpAny_pure h₁
  | some v =>
    refine wpAny_bind (no h₁ fun _ s₁ h₁ => ?_)
    refine wpAny_bind (no h₁ fun _ s₂ h₂ => wpAny_bind (no h₂ fun ok s₃ h₃ => ?_))
    cases ok with
    | false=>exact wpAny_pure ⟨rfl,h₃⟩
    | true =>
      exact wpAny_bind (wpAny_bind (no h₃ fun x s₄ h₄ => wpAny_bind (no h₄ fun _ s₅ h₅ => wpAny_pure (wpAny_pure ⟨rfl,h₅⟩))))
end
theorem iT {env:Env}:∀ (l:List (Str × NameKind)) (cs:List (Str × Addr)),(∀ y∈l,y.2=.free → ∃ c,env.cells.lookup y.1=some c) →
    ∃ cl,(forIn l cs fun (x:Str × NameKind) (r:List (Str × Addr))=>if (x.2 == .free)=true then do let a ← cellOf env x.1;pure (ForInStep.yield ((x.1,a) :: r)) else pure (ForInStep.yield r))=(pure cl:Sem _) ∧
      (∀ x c,cl.lookup x=some c→cs.lookup x=some c∨env.cells.lookup x=some c)∧(∀ y∈l,y.2=.free → ∃ c,cl.lookup y.1=some c) ∧ ∀ x c,cs.lookup x=some c → ∃ c',cl.lookup x=some c'
  | [],cs,_=>⟨cs,by simp,fun x c h=>.inl h,fun y hy=>by simp at hy,fun x c h=>⟨c,h⟩⟩
  | (n,k) :: l,cs,hf=>by
    by_cases hk:k=.free
    · subst hk
      obtain⟨c,hc⟩:=hf (n,.free) (by simp) rfl
      obtain⟨cl,h1,h2,h3,h4⟩:=iT l ((n,c) :: cs) fun y hy=>hf y (by simp [hy])
      refine⟨cl,?_,fun x d h => ?_,fun y hy hyf => ?_,fun x d h => ?_⟩
      · rw [List.forIn_cons]
        simp only [beq_self_eq_true,if_true,cellOf,hc]
        exact h1
      · rcases h2 x d h with q|q
        · rw [List.lookup_cons] at q
          cases e:x == n with
          | true =>
            rw [e] at q
            have:x=n:=by simpa using e
            subst this
            cases q
            exact .inr hc
          | false=>rw [e] at q;exact .inl q
        · exact .inr q
      · rcases List.mem_cons.mp hy with e|e
        · subst e
          exact h4 n c (by simp [List.lookup_cons])
        · exact h3 y e hyf
      · by_cases e:x=n
        · subst e
          exact h4 x c (by simp [List.lookup_cons])
        · exact h4 x d (by rw [List.lookup_cons,beq_eq_false_iff_ne.mpr e];exact h)
    · obtain⟨cl,h1,h2,h3,h4⟩:=iT l cs fun y hy=>hf y (by simp [hy])
      refine⟨cl,?_,h2,fun y hy hyf => ?_,h4⟩
      · rw [List.forIn_cons]
        have:(k == NameKind.free)=false:=by simpa using hk
        simp only [this,Bool.false_eq_true,if_false]
        exact h1
      · rcases List.mem_cons.mp hy with e|e
        · subst e;exact absurd hyf hk
        · exact h3 y e hyf
theorem lT {scope:Scope}{env:Env}(hf:∀ y∈scope.names,y.2=.free → ∃ c,env.cells.lookup y.1=some c) :
    ∃ cl,closureFor scope env=pure cl∧(∀ x c,cl.lookup x=some c→env.cells.lookup x=some c) ∧ ∀ y∈scope.names,y.2=.free → ∃ c,cl.lookup y.1=some c:=by
  obtain⟨cl,h1,h2,h3,_⟩:=iT scope.names [] hf
  refine⟨cl,?_,fun x c h=>(h2 x c h).elim (fun z=>by simp at z) id,h3⟩
  unfold closureFor
  have e:(forIn scope.names ([] : List (Str × Addr)) fun (x:Str × NameKind) (r:List (Str × Addr))=>if (x.2 == .free)=true then do let a ← cellOf env x.1;pure (ForInStep.yield ((x.1,a) :: r)) else pure (ForInStep.yield r))=(pure cl:Sem _):=h1
  exact (congrArg (fun t:Sem (List (Str × Addr))=>t >>= fun r=>pure r) e).trans rfl
def cxC (X:Cx) (N:List Str) (scope:Scope) (cl:List (Str × Addr)) (C:Addr) (s:Shared) (H:Hp) (ex:List Addr):Cx where
  prog:=X.prog
  w:=X.w
  K:=X.K
  mg:=X.mg
  base:=X.base
  A:=X.A
  N:=N
  s₀ := s
  H₀ := H
  env:=compEnvC scope cl C X.env
  outer:=X.stack
  stack:=X.stack
  ex:=ex
  fn:=fun _=>false
  calm:=X.calm
  pn:=[]
  xe:=fun _ _=>False
def MTs (X:Cx) (ifs:List Expr) (cs:List TF):Prop :=
  ∀ (pins:List (Addr × Obj)) (s:Shared) (σ:St) (H:Hp) (Q:Bool→Hp→Prop),Inv X pins σ H s→iR X.K rB (gG cs) σ H Q →
    wpAny (model X.prog X.w) X.A (forIn ifs true fun c r=>if r=true then do let ok ← isTrue c X.env (eval c X.env);pure (ForInStep.yield ok) else pure (ForInStep.yield r)) (TP X pins σ Q) X.xe s
theorem ed {X:Cx}:MTs X [] []:=fun pins s σ H Q I ⟨ρ,σd,hd,rs,p⟩=>wpAny_tests_nil ⟨H,I,p.here rs rfl⟩
theorem qv {X:Cx}{c:Expr}{t:TF}(h:MT X c t):MTs X [c] [t]:=fun pins s σ H Q I ⟨ρ,σd,hd,rs,p⟩=>wpAny_tests_one (h pins s σ H Q I ⟨ρ,σd,hd,rs,by
  have e:gG [t] σd hd=t σd hd:=by
    simp only [gG]
    cases c:t σd hd with
    | ok b h'=>cases b<;>simp
    | exc x h'=>rfl
    | bad=>rfl
  rw [e] at p
  exact p⟩)
theorem gK {env:Env}{x:Str}:∀ {names:List (Str × NameKind)} {k:NameKind},(names.map fun (n,k)=>if (k == NameKind.free && env.scope.kind == .function && env.kindOf n == some .cell) then (n,NameKind.cell) else (n,k)).lookup x=some k →
    ∃ k0,names.lookup x=some k0∧(k=k0∨(k0=.free∧k=.cell))
  | [],_,h=>by simp at h
  | (n,k') :: r,k,h=>by
    have ih := @gK env x r k
    have h':List.lookup x ((if (k' == NameKind.free && env.scope.kind == .function && env.kindOf n == some .cell)=true then (n,NameKind.cell) else (n,k')) :: _)=some k:=h
    cases hx:x == n with
    | true =>
      refine⟨k',by simp [List.lookup_cons,hx],?_⟩
      by_cases hc:(k' == NameKind.free && env.scope.kind == .function && env.kindOf n == some .cell)=true
      · rw [if_pos hc] at h'
        simp only [List.lookup_cons,hx,Option.some.injEq] at h'
        simp only [Bool.and_eq_true,beq_iff_eq] at hc
        exact .inr ⟨hc.1.1,h'.symm⟩
      · rw [if_neg hc] at h'
        simp only [List.lookup_cons,hx,Option.some.injEq] at h'
        exact .inl h'.symm
    | false =>
      have:List.lookup x ((n,k') :: r)=List.lookup x r:=by simp [List.lookup_cons,hx]
      rw [this]
      refine ih ?_
      by_cases hc:(k' == NameKind.free && env.scope.kind == .function && env.kindOf n == some .cell)=true
      · rw [if_pos hc] at h';simpa only [List.lookup_cons,hx] using h'
      · rw [if_neg hc] at h';simpa only [List.lookup_cons,hx] using h'
theorem eJ {x:Str}{k:NameKind}:∀ {l:List (Str × NameKind)},l.lookup x=some k→(x,k)∈l
  | [],h=>by simp at h
  | (n,k') :: r,h=>by
    rw [List.lookup_cons] at h
    cases e:x == n with
    | true =>
      rw [e] at h
      have:x=n:=by simpa using e
      subst this
      cases h
      exact List.mem_cons_self
    | false=>rw [e] at h;exact List.mem_cons_of_mem _ (eJ h)
structure bZ (X:Cx) (scope:Scope) (own capn:List Str) (caps:List Nat):Prop where
  kind:scope.kind=.function
  cell:∀ y∈scope.names,y.2 ≠ .cell
  names:∀ y∈scope.names,y.2=.local→scope.names.lookup y.1=some .local
  free:∀ y∈scope.names,y.2=.free→X.env.kindOf y.1=some .cell∨X.env.kindOf y.1=some .free
  cap:∀ (j:Nat) x,capn[j]? = some x → ∃ i,caps[j]? = some i∧X.N[i]? = some x∧scope.names.lookup x=some .free
  len:capn.length=caps.length
section
variable {X:Cx} {pins:List (Addr × Obj)} {σ:St} {H1:Hp} {s2:Shared} {scope:Scope} {own capn:List Str} {caps:List Nat} {cl:List (Str × Addr)} {C:Addr} {ex:List Addr}
def stC (own:List Str) (caps:List Nat) (σ:St):St:=List.replicate own.length none++caps.map fun i=>(σ[i]?).join
theorem DY (I:Inv X pins σ H1 s2)(S:bZ X scope own capn caps)(hC:s2.heap.objs.size≤C)(hcl1:∀ x c,cl.lookup x=some c→X.env.cells.lookup x=some c)(hcl2:∀ y∈scope.names,y.2=.free → ∃ c,cl.lookup y.1=some c)
    (hf:∀ b∈ex,ly X pins H1 b) (hlt:∀ b∈ex,b < s2.heap.objs.size):(cxC X (own++capn) scope cl C s2 H1 ex).Ok where
  mod:=I.ok.mod
  kind:=S.kind
  glob:=I.ok.glob
  blt:=I.ok.blt
  above:=hC
  inj:=fun x y c h1 h2=>I.ok.inj x y c (hcl1 x c h1) (hcl1 y c h2)
  has:=fun x hx=>by
    have key:∀ k,(relabel scope X.env).names.lookup x=some k→k=.cell∨k=.free → ∃ c,cl.lookup x=some c:=fun k h hk=>by
      obtain⟨k0,h0,q⟩:=gK h
      have hm:=eJ h0
      have:k0=.free:=by
        rcases q with q|q
        · subst q
          rcases hk with e|e
          · exact absurd e (S.cell _ hm)
          · exact e
        · exact q.1
      exact hcl2 _ hm this
    rcases hx with h|h
    · exact key _ h (.inl rfl)
    · exact key _ h (.inr rfl)
  cab:=fun x c h=>by cases h
  hd:=I.ok.hd
  frames:=I.ok.frames
  stk:=.inl rfl
  exf:=fun b hb=>by
    obtain⟨f0,f1,f2,f3,f4,f5⟩:=hf b hb
    exact⟨fun z=>absurd (Nat.lt_of_lt_of_le (hlt b hb) hC) (by rw [z];exact Nat.lt_irrefl _),fun x c e=>f4 x c (hcl1 x c e)⟩
  bs:=I.bs
  bsz:=Nat.le_trans I.ok.bsz I.sz
  noex:=fun b o e hb=>by
    obtain⟨f0,f1,f2,f3,f4,f5⟩:=hf b hb
    rcases f3 with z|z
    · exact I.ok.noex b o e z
    · exact absurd (Nat.lt_of_lt_of_le (Heap.lt_size (I.ok.bs b o e).1) z) (Nat.lt_irrefl _)
  exfs:=fun b hb hs=>by
    obtain⟨f0,f1,f2,f3,f4,f5⟩:=hf b hb
    rcases List.mem_cons.mp (I.stkSub b hs) with z|z
    · exact f1 z
    · exact f2 z
  funs:=I.stack
  frf:=I.stkFree
theorem je {env:Env}{x:Str}:∀ {names:List (Str × NameKind)},names.lookup x=some .free →
    (names.map fun (n,k)=>if (k == NameKind.free && env.scope.kind == .function && env.kindOf n == some .cell) then (n,NameKind.cell) else (n,k)).lookup x=some .cell ∨
    (names.map fun (n,k)=>if (k == NameKind.free && env.scope.kind == .function && env.kindOf n == some .cell) then (n,NameKind.cell) else (n,k)).lookup x=some .free
  | [],h=>by simp at h
  | (n,k') :: r,h=>by
    have ih := @je env x r
    show List.lookup x ((if (k' == NameKind.free && env.scope.kind == .function && env.kindOf n == some .cell)=true then (n,NameKind.cell) else (n,k')) :: _)=_∨List.lookup x ((if (k' == NameKind.free && env.scope.kind == .function && env.kindOf n == some .cell)=true then (n,NameKind.cell) else (n,k')) :: _)=_
    cases hx:x == n with
    | true =>
      simp only [List.lookup_cons,hx,Option.some.injEq] at h
      subst h
      by_cases hc:(NameKind.free == NameKind.free && env.scope.kind == .function && env.kindOf n == some .cell)=true
      · rw [if_pos hc];exact .inl (by simp only [List.lookup_cons,hx])
      · rw [if_neg hc];exact .inr (by simp only [List.lookup_cons,hx])
    | false =>
      simp only [List.lookup_cons,hx] at h
      by_cases hc:(k' == NameKind.free && env.scope.kind == .function && env.kindOf n == some .cell)=true
      · rw [if_pos hc];simp only [List.lookup_cons,hx];exact ih h
      · rw [if_neg hc];simp only [List.lookup_cons,hx];exact ih h
theorem BS {i:Nat}{v:V}(h:(stC own caps σ)[i]? = some (some v)):∃ j k,i=own.length + j∧caps[j]? = some k ∧ σ[k]? = some (some v):=by
  unfold stC at h
  by_cases hi:i < own.length
  · rw [List.getElem?_append_left (by simpa using hi)] at h
    simp [hi] at h
  · rw [List.getElem?_append_right (by simpa using Nat.le_of_not_lt hi)] at h
    simp only [List.length_replicate,List.getElem?_map] at h
    cases c:caps[i - own.length]? with
    | none=>rw [c] at h;cases h
    | some k =>
      rw [c] at h
      simp only [Option.map_some,Option.some.injEq] at h
      refine⟨i - own.length,k,by omega,c,?_⟩
      cases e : σ[k]? with
      | none=>rw [e] at h;cases h
      | some o=>rw [e] at h;simp only [Option.join_some] at h;rw [h]
theorem ye (I:Inv X pins σ H1 s2)(S:bZ X scope own capn caps)(hC:s2.heap.objs.size < C)(hcl1:∀ x c,cl.lookup x=some c→X.env.cells.lookup x=some c)(hcl2:∀ y∈scope.names,y.2=.free → ∃ c,cl.lookup y.1=some c)
    (hf:∀ b∈ex,ly X pins H1 b) (hlt:∀ b∈ex,b < s2.heap.objs.size) {h1:Heap} {m:Str→Option Value} {tk:Nat} (hn:h1.Ns C m) (hk:∀ b o,s2.heap.get? b=some o→h1.get? b=some o)
    (hD:h1.get? s2.heap.objs.size=some { cls:=.type "list",data:=.seq #[] }) :
    Inv (cxC X (own++capn) scope cl C s2 H1 ex) [] (stC own caps σ) (upd H1 s2.heap.objs.size (.lst [])) { s2 with heap:=h1,toks:=tk } where
  ok:=DY I S (Nat.le_of_lt hC) hcl1 hcl2 hf hlt
  os:=rfl
  bare:=I.bare
  base:=Un.laid hk (Nat.le_refl _) (I.hok.fresh (Nat.le_refl _))
  loc:=by
    refine⟨m,hn,fun i x v e1 e2 e3 => ?_⟩
    obtain⟨j,k,rfl,hj,hk'⟩:=BS e2
    have e1':capn[j]? = some x:=by
      have:(own++capn)[own.length + j]? = some x:=e1
      rw [List.getElem?_append_right (by omega)] at this
      simpa using this
    obtain⟨k2,q1,q2,q3⟩:=S.cap j x e1'
    rw [hj] at q1;cases q1
    have hm:=eJ q3
    have kd:=S.free _ hm rfl
    obtain⟨m0,hn0,hl⟩:=I.loc
    obtain⟨u,r,lk⟩:=hl k x v q2 hk' (.inr kd)
    refine⟨u,r,.inr ⟨je q3,?_⟩⟩
    rcases lk with ⟨z,_⟩|⟨_,c,hc,o,ho,hd⟩
    · rcases kd with e|e<;>(rw [z] at e;cases e)
    · obtain⟨c',hc'⟩:=hcl2 _ hm rfl
      have:=hcl1 _ _ hc'
      rw [hc] at this
      cases this
      exact⟨c,hc',o,hk c o ho,hd⟩
  cell:=fun x c e=>by
    obtain⟨v,o,ho,hd⟩:=I.cell x c (hcl1 x c e)
    exact⟨v,o,hk c o ho,hd⟩
  free:=by
    show upd H1 _ _ C=none
    rw [aq (Nat.ne_of_gt hC)]
    exact I.hok.fresh (Nat.le_of_lt hC)
  freeC:=fun x c e=>by
    obtain⟨v,o,ho,hd⟩:=I.cell x c (hcl1 x c e)
    rw [aq (Nat.ne_of_lt (Heap.lt_size ho))]
    exact I.freeC x c (hcl1 x c e)
  pin:=fun p hp=>absurd (show p∈([] : List (Addr × Obj)) from hp) (by simp)
  hok:=I.hok.laid hk (Nat.le_refl _) ⟨Nat.zero_le _,[],0,.nil,hD⟩
  len:=by
    show (stC own caps σ).length=(own++capn).length
    simp [stC,S.len]
end
theorem RS.other {K:PySem.W.Frag}{ρ:List Addr}{H:Hp}{σd:Sd}{hd:Hd}{σ:St}{d:Addr}{ys zs:List V}(r:RS K ρ H σd hd σ)(h:H d=some (.lst ys))(n:d ∉ ρ):RS K ρ (upd H d (.lst zs)) σd hd σ ∧ Kp ρ H ρ (upd H d (.lst zs)):=by
  have k:Kp ρ H ρ (upd H d (.lst zs)):=⟨fun _ _ h=>h,fun a us e=>by
    rw [aq (fun z=>by rw [z,h] at e;cases e)];exact e,fun a o u e=>by
    rw [aq (fun z=>by rw [z,h] at e;cases e)];exact e,fun a φ e=>by
    rw [aq (fun z=>by rw [z,h] at e;cases e)];exact e⟩
  refine⟨⟨⟨r.hp.len,r.hp.nd,fun m c a h1 h2=>(r.hp.cel m c a h1 h2).mono k (aq fun z=>n (by rw [← z];exact List.mem_of_getElem? h2))⟩,r.st.mono k⟩,k⟩
theorem Ext.other {ρ ρ':List Addr}{H H':Hp}{d:Addr}{o:HO}(e:Ext ρ H ρ' H')(h:H d=none):Ext ρ H ρ' (upd H' d o) :=
  ⟨e.pre,e.new,fun p u hp n=>by rw [aq (aE hp h)];exact e.frame p u hp n⟩
theorem sR {nl:Nat}{caps:List Nat}{σd:Sd}{i:Nat}{d:D}(h:slot (fY nl caps σd) i=some d):∃ j k,i=nl + j∧caps[j]? = some k∧slot σd k=some d:=by
  unfold fY at h
  simp only [slot] at h
  by_cases hi:i < nl
  · rw [List.getElem?_append_left (by simpa using hi)] at h
    simp [hi] at h
  · rw [List.getElem?_append_right (by simpa using Nat.le_of_not_lt hi)] at h
    simp only [List.length_replicate,List.getElem?_map] at h
    cases c:caps[i - nl]? with
    | none=>rw [c] at h;cases h
    | some k =>
      rw [c] at h
      simp only [Option.map_some] at h
      refine⟨i - nl,k,by omega,c,?_⟩
      simp only [slot]
      revert h
      cases e : σd[k]? with
      | none=>simp
      | some o=>cases o<;>simp
structure C5 (K:PySem.W.Frag) (ρ0:List Addr) (H0:Hp) (J:It) (l:List D) (G:Hd→Prop):Prop where
  go:∀ ρ H hd (i:Nat) d,Ext ρ0 H0 ρ H→RH K ρ H hd→G hd→l[i]? = some d→J.go i H ∧ ∀ x H',J.yld i H x H'→gC H H'∧RD K ρ H' d x
  stop:∀ ρ H hd,Ext ρ0 H0 ρ H→RH K ρ H hd→G hd→J.stop l.length H
  sz:l.length≤sizeLine
theorem lS.g {K:PySem.W.Frag}{ρ:List Addr}{H:Hp}{J:It}{l:List D}{g:Option Nat}(w:lS K ρ H J l g):C5 K ρ H J l (iQ g l):=⟨w.go,w.stop,w.sz⟩
structure CD where
  i:Nat
  ys:List V
  acc:List D
  rest:List D
  ρ:List Addr
  σd:Sd
  hd:Hd
  H:Hp
  σ:St
structure CI (X:Cx) (own capn:List Str) (scope:Scope) (cl:List (Str × Addr)) (s2:Shared) (C:Addr) (H1:Hp) (ρ1:List Addr) (fp:List Addr) (tn:Nat→Heap→Prop) (G:Hd→Prop) (g:GF) (cs:List TF) (e:EF) (l:List D) (hdF:Hd) (ds:List D) (d:CD) (s':Shared):Prop where
  le:d.i≤l.length
  inv:Inv (cxC X (own++capn) scope cl C s2 H1 fp) [] d.σ d.H s'
  st:tn d.i s'.heap
  fr:∀ b∈fp,d.H b=none
  at':d.H s2.heap.objs.size=some (.lst d.ys)
  out:s2.heap.objs.size∉d.ρ
  yl:d.ys.length≤d.i
  ex:Ext ρ1 H1 d.ρ d.H
  rs:RS X.K d.ρ d.H d.σd d.hd d.σ
  ac:RDs X.K d.ρ d.H d.acc d.ys
  run:gJ G g cs e (l.drop d.i) d.σd d.hd=.ok d.rest hdF
  eq:d.acc++d.rest=ds
section
variable {X:Cx} {pins:List (Addr × Obj)} {σ:St} {H1:Hp} {s2:Shared} {scope:Scope} {own capn:List Str} {caps:List Nat} {cl:List (Str × Addr)}
theorem uW {ρ1:List Addr}{σd:Sd}{hd1:Hd}(S:bZ X scope own capn caps)(r:RS X.K ρ1 H1 σd hd1 σ){d:Addr}(hd:H1 d=none):RS X.K ρ1 (upd H1 d (.lst [])) (fY own.length caps σd) hd1 (stC own caps σ):=by
  have sm:=bX (o:=HO.lst []) hd
  refine⟨r.hp.same sm,⟨by simp [stC,fY],fun i x e => ?_⟩⟩
  obtain⟨j,k,rfl,hj,hs⟩:=sR e
  obtain⟨v,h1,h2⟩:=r.st.at' k x hs
  refine⟨v,?_,h2.mono (Kp.same sm)⟩
  unfold stC
  rw [List.getElem?_append_right (by simp)]
  simp [hj,h1]
theorem pj {elt tg iter:Expr}{ifs:List Expr}{pos:Pos}{it:Addr}{fp:List Addr}{tn:Nat→Heap→Prop}{J:It}{l:List D}{G:Hd→Prop}{g:GF}{cs:List TF}{e:EF}{ρ1:List Addr}{σd:Sd}{hd1 hdF:Hd}{ds:List D}{E:Value→Shared→Prop}{RR:Value→Addr→Result→Shared→Prop}
    (hc:X.calm=true) (S:bZ X scope own capn caps) (hin:∀ cl C s H ex,MG (cxC X (own++capn) scope cl C s H ex) tg g∧MTs (cxC X (own++capn) scope cl C s H ex) ifs cs∧ME (cxC X (own++capn) scope cl C s H ex) elt e)
    (I1:Inv X pins σ H1 s2) (T:uK X.prog X.w X.K tg J fp it tn) (st0:tn 0 s2.heap) (hf:∀ b∈fp,ly X pins H1 b) (rs1:RS X.K ρ1 H1 σd hd1 σ) (wk:C5 X.K ρ1 H1 J l G)
    (hcl1:∀ x c,cl.lookup x=some c→X.env.cells.lookup x=some c) (hcl2:∀ y∈scope.names,y.2=.free → ∃ c,cl.lookup y.1=some c)
    (run:gJ G g cs e l (fY own.length caps σd) hd1=.ok ds hdF)
    (hRR:∀ C s' m H' ρ' vs,s2.heap.objs.size < C→s'.heap.Ns C m→Inv X pins σ H' s'→H' C=none→Ext ρ1 H1 ρ' H'→RH X.K ρ' H' hdF→H1 s2.heap.objs.size=none→H' s2.heap.objs.size=some (.lst vs)→s2.heap.objs.size ∉ ρ'→RDs X.K ρ' H' ds vs →
      RR (.ref s2.heap.objs.size) C (.ok .next) s') :
    wpAny (model X.prog X.w) X.A (newList []) (fun acc s₃ => wpAny (model X.prog X.w) X.A (newFunctionEnv scope X.env.globals cl [] X.env.qual none .none (some X.env)) (fun cenv s₄ =>
      codeAny (model X.prog X.w) X.A (.compStart (.ListComp elt [⟨tg,iter,ifs,0⟩] scope pos) 0 (.ref it) acc { cenv with scope:=relabel scope X.env }) (RR acc cenv.locals) s₄) E s₃) E s2:=by
  refine wpAny_newObj_type (wpAny_newFunctionEnv S.cell (by intro y hy;simp at hy) (fun h₁ hns₁ hsb₁ => ?_) S.kind)
  dsimp only at hns₁ hsb₁ ⊢
  generalize hH2:s2.heap.push { cls:=.type "list",dict:=none,data:=.seq ([] : List Value).toArray } = H2 at hns₁ hsb₁ ⊢
  have hC:H2.objs.size=s2.heap.objs.size + 1:=by rw [← hH2,Heap.size_push]
  have hDC:s2.heap.objs.size≠H2.objs.size:=by rw [hC];exact Nat.ne_of_lt (Nat.lt_succ_self _)
  have old:∀ b o,s2.heap.get? b=some o→h₁.get? b=some o:=fun b o e=>hsb₁.extBut b o (by rw [hC];exact Nat.ne_of_lt (Nat.lt_succ_of_lt (Heap.lt_size e))) (Heap.get?_push_of_some _ (hH2 ▸ Heap.get?_push_of_some _ e))
  have hacc:h₁.get? s2.heap.objs.size=some { cls:=.type "list",data:=.seq #[] }:=hsb₁.extBut _ _ hDC (Heap.get?_push_of_some _ (hH2 ▸ Heap.get?_push_size _ rfl))
  have hlt:∀ b∈fp,b < s2.heap.objs.size:=fun b hb=>by
    obtain⟨o,ho,_⟩:=T.obj 0 _ st0 b hb
    exact Heap.lt_size ho
  have hCl:s2.heap.objs.size < H2.objs.size:=by rw [hC];exact Nat.lt_succ_self _
  have hD0:H1 s2.heap.objs.size=none:=I1.hok.fresh (Nat.le_refl _)
  have st1:tn 0 h₁ := T.keep 0 _ _ st0 fun b hb o e=>old b o e
  have hn1:s2.heap.objs.size ∉ ρ1:=rs1.hp.free hD0
  obtain⟨hG,hT,hE⟩:=hin cl H2.objs.size s2 H1 fp
  have I':=ye (tk:=s2.toks + ([] : List (Str × Value)).length) I1 S hCl hcl1 hcl2 hf hlt hns₁ old hacc
  have fpC:∀ {pins':List (Addr × Obj)} {H':Hp},(∀ b∈fp,H' b=none) → ∀ b∈fp,ly (cxC X (own++capn) scope cl H2.objs.size s2 H1 fp) [] H' b:=fun {pins' H'} hn b hb=>by
    obtain⟨f0,f1,f2,f3,f4,f5⟩:=hf b hb
    have lt:=hlt b hb
    refine⟨hn b hb,fun z=>absurd lt (by rw [show b=H2.objs.size from z,hC];exact Nat.not_lt.mpr (Nat.le_succ _)),fun z => ?_,.inl hb,fun x c e=>f4 x c (hcl1 x c e),fun p hp=>absurd (show p∈([] : List (Addr × Obj)) from hp) (by simp)⟩
    rcases List.mem_cons.mp (I1.stkSub b z) with q|q
    · exact f1 q
    · exact f2 q
  have loop:∀ s₃ : Shared,s₃ = { s2 with heap:=h₁,toks:=s2.toks + ([] : List (Str × Value)).length } →
      codeAny (model X.prog X.w) X.A (.compLoop (.ListComp elt [⟨tg,iter,ifs,0⟩] scope pos) 0 (.ref it) (.ref s2.heap.objs.size) (compEnvC scope cl H2.objs.size X.env)) (RR (.ref s2.heap.objs.size) H2.objs.size) s₃ := by
    rintro s₃ rfl
    refine qu (E:=fun _ _=>False) (fun _ _ z=>z) (fun n s'=>∃ d:CD,n=l.length - d.i∧CI X own capn scope cl s2 H2.objs.size H1 ρ1 fp tn G g cs e l hdF ds d s') ?_ l.length
      ⟨⟨0,[],[],ds,ρ1,_,hd1,_,_⟩,by simp,Nat.zero_le _,I',st1,fun b hb => ?_,aS,hn1,Nat.le_refl _,Ext.same (bX hD0),uW S rs1 hD0,RDs.nil,by simpa using run,rfl⟩
    · rintro n s' ⟨⟨i,ys,acc,rest,ρ',σd',hd',H',σ'⟩,rfl,ci⟩
      have hil:i≤l.length:=ci.le
      have I':Inv (cxC X (own++capn) scope cl H2.objs.size s2 H1 fp) [] σ' H' s':=ci.inv
      have stn:tn i s'.heap:=ci.st
      have hfp:∀ b∈fp,H' b=none:=ci.fr
      have hDy:H' s2.heap.objs.size=some (.lst ys):=ci.at'
      have hnD:s2.heap.objs.size ∉ ρ':=ci.out
      have hyl:ys.length≤i:=ci.yl
      have ex:Ext ρ1 H1 ρ' H':=ci.ex
      have rs':RS X.K ρ' H' σd' hd' σ':=ci.rs
      have racc:RDs X.K ρ' H' acc ys:=ci.ac
      have hrun:gJ G g cs e (l.drop i) σd' hd'=.ok rest hdF:=ci.run
      have hds:acc++rest=ds:=ci.eq
      by_cases hlt':i < l.length
      · have hdi:l[i]? = some l[i]:=by simp [hlt']
        rw [List.drop_eq_getElem_cons hlt'] at hrun
        unfold gJ at hrun
        by_cases hh:G hd'
        · rw [if_pos hh] at hrun
          obtain⟨go,yl⟩:=wk.go ρ' H' hd' i _ ex rs'.hp hh hdi
          cases c:g l[i] σd' with
          | none=>rw [c] at hrun;cases hrun
          | some σd2 =>
            rw [c] at hrun
            simp only at hrun
            refine thn (T.item (cxC X (own++capn) scope cl H2.objs.size s2 H1 fp) rfl rfl rfl hc i [] s' σ' H' (fun _ _=>False) I' (fpC (pins':=[]) hfp) stn go) fun r s₁ ⟨u,hr,h4⟩ => ?_
            subst hr
            refine thn h4 fun _ s5 ⟨x,H5,I5,r5,y5,st5,fr5⟩ => ?_
            obtain⟨sm,rx⟩:=yl x H5 y5
            have I5':=I5.pinned (fpC (pins':=[]) fr5) (T.obj _ _ st5)
            have rs5:=rs'.same sm
            have hDy5:=sm _ _ hDy
            refine thn (hG _ s5 σ' H5 x u (fun σ6 H6=>H6=H5∧RS X.K ρ' H5 σd2 hd' σ6) I5' r5 ⟨ρ',σd',hd',l[i],σd2,rs5,rx,c,fun σ6 rs6=>⟨rfl,rs6⟩⟩) fun _ s6 ⟨σ6,H6,I6,hH6,rs6⟩ => ?_
            subst hH6
            cases c2:gG cs σd2 hd' with
            | exc z h7=>rw [c2] at hrun;cases hrun
            | bad=>rw [c2] at hrun;cases hrun
            | ok b hd7 =>
              rw [c2] at hrun
              simp only [aM] at hrun
              refine thn (hT _ s6 σ6 H6 (fun b' H7=>b'=b ∧ ∃ ρ7,Ext ρ' H6 ρ7 H7∧RS X.K ρ7 H7 σd2 hd7 σ6) I6 ⟨ρ',σd2,hd',rs6,by
                rw [c2]
                exact fun b' H7 ρ7 ex7 rs7 q=>⟨q.symm,ρ7,ex7,rs7⟩⟩) fun b' s7 ⟨H7,I7,hb',ρ7,ex7,rs7⟩ => ?_
              subst hb'
              have stay:∀ {σ8:St} {H8:Hp} {s8:Shared},Inv (cxC X (own++capn) scope cl H2.objs.size s2 H1 fp) ([]++lA fp s5.heap) σ8 H8 s8→tn (i + 1) s8.heap ∧ ∀ b∈fp,H8 b=none:=fun {σ8 H8 s8} I8 =>
                ⟨T.keep _ _ _ st5 fun b hb o e=>(I8.pin (b,o) (List.mem_append_right _ (List.mem_append_right _ (fU hb e)))).1,fun b hb=>by
                  obtain⟨o,e,d⟩:=T.obj _ _ st5 b hb
                  exact (I8.pin (b,o) (List.mem_append_right _ (List.mem_append_right _ (fU hb e)))).2.1⟩
              have ex5:Ext ρ' H' ρ7 H7:=(Ext.same sm).trans ex7
              have hDy7:H7 s2.heap.objs.size=some (.lst ys):=ex5.frame _ _ hDy hnD
              have hnD7:=ex5.out hDy hnD
              have racc7:=racc.mono (rs'.hp.kp ex5)
              cases b' with
              | false =>
                simp only [Bool.false_eq_true,if_false] at hrun ⊢
                obtain⟨st8,f8⟩:=stay I7
                exact⟨l.length - (i + 1),by omega,⟨i + 1,ys,acc,rest,ρ7,σd2,hd7,H7,σ6⟩,rfl,hlt',I7.unpinned,st8,f8,hDy7,hnD7,Nat.le_succ_of_le hyl,ex.trans ex5,rs7,racc7,hrun,hds⟩
              | true =>
                simp only [if_true] at hrun ⊢
                cases c3:e σd2 hd7 with
                | exc z h7=>rw [c3] at hrun;cases hrun
                | bad=>rw [c3] at hrun;cases hrun
                | ok d hd8 =>
                  rw [c3] at hrun
                  simp only [aM] at hrun
                  cases c4:gJ G g cs e (l.drop (i + 1)) σd2 hd8 with
                  | exc z h7=>rw [c4] at hrun;cases hrun
                  | bad=>rw [c4] at hrun;cases hrun
                  | ok rest' hd9 =>
                    rw [c4] at hrun
                    simp only [aM,Res.ok.injEq] at hrun
                    obtain⟨hrest,hF⟩:=hrun
                    subst hrest hF
                    refine thn (hE _ s7 σ6 H7 (fun v H8=>∃ ρ8,Ext ρ7 H7 ρ8 H8∧RS X.K ρ8 H8 σd2 hd8 σ6∧RD X.K ρ8 H8 d v) I7 ⟨ρ7,σd2,hd7,rs7,by
                      rw [c3]
                      exact fun v H8 ρ8 ex8 rs8 q=>⟨ρ8,ex8,rs8,q⟩⟩) fun u8 s8 ⟨v8,H8,I8,r8,ρ8,ex8,rs8,rd8⟩ => ?_
                    have hDy8:H8 s2.heap.objs.size=some (.lst ys):=ex8.frame _ _ hDy7 hnD7
                    have hnD8:=ex8.out hDy7 hnD7
                    refine thn (pd _ s8 σ6 H8 (.ref s2.heap.objs.size) [v8] (.ref s2.heap.objs.size) [u8] (fun _ H9=>H9=upd H8 s2.heap.objs.size (.lst (ys++[v8]))) I8 rfl (.cons r8 .nil) ⟨_,ys,v8,rfl,rfl,hDy8,by have:=wk.sz;omega,rfl⟩) fun u9 s9 ⟨v9,H9,I9,r9,q9⟩ => ?_
                    subst q9
                    obtain⟨st9,f9⟩:=stay I9
                    obtain⟨rs9,k9⟩:=rs8.other (zs:=ys++[v8]) hDy8 hnD8
                    exact⟨l.length - (i + 1),by omega,⟨i + 1,ys++[v8],acc++[d],rest',ρ8,σd2,hd8,_,σ6⟩,rfl,hlt',I9.unpinned,st9,f9,aS,hnD8,by simp;exact hyl,(ex.trans (ex5.trans ex8)).other hD0,rs9,
                      ((racc7.mono (rs7.hp.kp ex8)).mono k9).append (RDs.cons (rd8.mono k9) RDs.nil),c4,by rw [← hds];simp⟩
        · rw [if_neg hh] at hrun;cases hrun
      · have e0:i=l.length:=by omega
        subst e0
        rw [List.drop_length] at hrun
        unfold gJ at hrun
        by_cases hh:G hd'
        · rw [if_pos hh] at hrun
          simp only [Res.ok.injEq] at hrun
          obtain⟨hrest,hF⟩:=hrun
          subst hrest hF
          rw [List.append_nil] at hds
          subst hds
          refine thn (T.done (cxC X (own++capn) scope cl H2.objs.size s2 H1 fp) rfl rfl rfl hc _ [] s' σ' H' (fun _ _=>False) I' (fpC (pins':=[]) hfp) stn (wk.stop ρ' H' hd' ex rs'.hp hh)) fun r s₁ ⟨hr,I4⟩ => ?_
          subst hr
          obtain⟨m,hm,_⟩:=I4.loc
          refine hRR H2.objs.size s₁ m H' ρ' ys hCl hm ?_ I4.free ex rs'.hp hD0 hDy hnD racc
          exact I1.call' I4.os I4.base I4.hok I4.bare fun b hb=>by
            obtain⟨f0,f1,f2,f3,f4,f5⟩:=hf b hb
            exact⟨f3,f1,f4,f5⟩
        · rw [if_neg hh] at hrun;cases hrun
    · show upd H1 _ _ b=none
      rw [aq (Nat.ne_of_lt (hlt b hb))]
      exact (hf b hb).1
  exact codeAny_compStart_list (loop _ rfl) (T.self _ 0 _ _ _ st1 (loop _ rfl))
end
section
variable {X:Cx} {pos:Pos} {scope:Scope} {own capn:List Str} {caps:List Nat}
theorem eX {elt tg iter:Expr}{ifs:List Expr}{f:IF}{g:GF}{cs:List TF}{e:EF}(hc:X.calm=true)(S:bZ X scope own capn caps)(hi:MI X tg iter f)
    (hin:∀ cl C s H ex,MG (cxC X (own++capn) scope cl C s H ex) tg g∧MTs (cxC X (own++capn) scope cl C s H ex) ifs cs∧ME (cxC X (own++capn) scope cl C s H ex) elt e)
    (hs:∀ x,foldedSetIterable iter X.env x=pure x:=by intro _;rfl):MF X (.ListComp elt [⟨tg,iter,ifs,0⟩] scope pos) (cL own.length caps f g cs e):=by
  intro pins s σ H Q I ⟨ρ,σd,hd,rs,p⟩
  rw [eval_ListComp]
  unfold cL at p
  cases c:f σd hd with
  | exc z h7=>rw [c] at p;exact p.elim
  | bad=>rw [c] at p;exact p.elim
  | ok q hd1 =>
    obtain⟨l,gd⟩:=q
    rw [c] at p
    simp only [aM] at p
    obtain⟨cl,h1,hcl1,hcl2⟩:=lT (scope:=scope) (env:=X.env) fun y hy hyf=>I.ok.has y.1 (S.free y hy hyf)
    refine wpAny_comprehension_free (use:=none) rfl hs h1 S.kind S.names (thn (hi pins s σ H (fun J H1=>∃ ρ1,Ext ρ H ρ1 H1∧RS X.K ρ1 H1 σd hd1 σ ∧ lS X.K ρ1 H1 J l gd) I ⟨ρ,σd,hd,rs,by
      rw [c]
      exact fun J H' ρ' ex rs' wk=>⟨ρ',ex,rs',wk⟩⟩) fun v s1 h1=>thn h1 fun itv s2 h2 => ?_)
    obtain⟨it,fp,tn,J,H1,rfl,I1,T,st0,hf,ρ1,ex1,rs1,wk⟩:=h2
    cases c2:cB gd l g cs e l (fY own.length caps σd) hd1 with
    | exc z h7=>rw [c2] at p;exact p.elim
    | bad=>rw [c2] at p;exact p.elim
    | ok ds hdF =>
      rw [c2] at p
      refine pj (RR:=fun acc C=>compPost (model X.prog X.w) X.A X.xe none (EP X pins σ Q) acc C) hc S hin I1 T st0 hf rs1 wk.g hcl1 hcl2 ((qt _ _ _).symm.trans c2) fun C s' m H' ρ' vs hC hn I' hCn ex rh hD0 hD hnD rds => ?_
      refine⟨m,hn,fun h' sb=>⟨.ref s2.heap.objs.size,H',?_,rfl,?_⟩⟩
      · refine I'.turned (it:=C) (t':=s'.toks) (fun b o hb e=>(sb.2 b hb).trans e) hCn ?_ (.inr (Nat.le_of_lt (Nat.lt_of_le_of_lt I1.sz hC))) (fun x c e z => ?_) fun q hq z => ?_
        · exact Nat.ne_of_gt (Nat.lt_trans I1.lt hC)
        · obtain⟨v,o,ho,hd⟩:=I1.cell x c e
          exact absurd (Nat.lt_trans (Heap.lt_size ho) hC) (by rw [z];exact Nat.lt_irrefl _)
        · exact absurd (Nat.lt_trans (Heap.lt_size (I1.pin q hq).1) hC) (by rw [z];exact Nat.lt_irrefl _)
      · exact p _ vs H' ρ' (ex1.trans ex) (rs.ext (ex1.trans ex) rh) (ex1.fresh hD0 (rs1.hp.free hD0)) hD hnD rds
theorem ll {i:Nat}{x:Str}{pos':Pos}{elt tg iter:Expr}{ifs:List Expr}{f:IF}{g:GF}{cs:List TF}{e:EF}{cpos:Pos}(hN:X.N.Nodup)(hi':X.N[i]? = some x)(hx:Loc X.env.scope x)(hc:X.calm=true)(S:bZ X scope own capn caps)(hi:MI X tg iter f)
    (hin:∀ cl C s H ex,MG (cxC X (own++capn) scope cl C s H ex) tg g∧MTs (cxC X (own++capn) scope cl C s H ex) ifs cs∧ME (cxC X (own++capn) scope cl C s H ex) elt e)
    (hsw:swapsWith (.ListComp elt [⟨tg,iter,ifs,0⟩] scope cpos) (some (.Name x pos')) pos.line X.env=pure true:=by rfl)
    (hs:∀ x,foldedSetIterable iter X.env x=pure x:=by intro _;rfl) (hf':X.fn x=true∨X.env.scope.names.lookup x=some .local:=by first|exact .inl rfl|exact .inr rfl|assumption) :
    MS X (.Assign [.Name x pos'] (.ListComp elt [⟨tg,iter,ifs,0⟩] scope cpos) pos) (aF (gN i) (cJ (cL own.length caps f g cs e))):=by
  intro pins s σ H En I ⟨ρ,σd,hd,rs,p⟩
  rw [exec_Assign_Name_used _ _ _ _ hsw]
  refine wpAny_bind (wpAny_standAt ?_)
  show wpAny _ _ ((comprehension _ scope X.env _ (newList []) _ _ _ >>= fun _=>pure ()) >>= fun _=>pure Flow.next) _ _ _
  have p1:=bK.outE (σ := σ) p
  unfold cJ cL at p1
  cases c:f σd hd with
  | exc z h7=>rw [c] at p1;exact p1.elim
  | bad=>rw [c] at p1;exact p1.elim
  | ok q hd1 =>
    obtain⟨l,gd⟩:=q
    rw [c] at p1
    simp only [aM] at p1
    obtain⟨cl,h1,hcl1,hcl2⟩:=lT (scope:=scope) (env:=X.env) fun y hy hyf=>I.ok.has y.1 (S.free y hy hyf)
    refine wpAny_bind (wpAny_bind (wpAny_comprehension_free (Q:=fun _ s'=>wpAny (model X.prog X.w) X.A (pure ()) (fun _ s'=>wpAny (model X.prog X.w) X.A (pure Flow.next) (SP X pins En) X.xe s') X.xe s') (use:=some (assign (.Name x pos') X.env)) rfl hs h1 S.kind S.names (thn (hi pins s σ H (fun J H1=>∃ ρ1,Ext ρ H ρ1 H1∧RS X.K ρ1 H1 σd hd1 σ ∧ lS X.K ρ1 H1 J l gd) I ⟨ρ,σd,hd,rs,by
      rw [c]
      exact fun J H' ρ' ex rs' wk=>⟨ρ',ex,rs',wk⟩⟩) fun v s1 h1=>thn h1 fun itv s2 h2 => ?_)))
    obtain⟨it,fp,tn,J,H1,rfl,I1,T,st0,hf,ρ1,ex1,rs1,wk⟩:=h2
    cases c2:cB gd l g cs e l (fY own.length caps σd) hd1 with
    | exc z h7=>rw [c2] at p1;exact p1.elim
    | bad=>rw [c2] at p1;exact p1.elim
    | ok ds hdF =>
      rw [c2] at p1
      simp only [aM] at p1
      by_cases hz:ds.length≤SZ
      · rw [if_pos hz] at p1
        refine pj (RR:=fun acc C=>compPost (model X.prog X.w) X.A X.xe (some (assign (.Name x pos') X.env)) _ acc C) hc S hin I1 T st0 hf rs1 wk.g hcl1 hcl2 ((qt _ _ _).symm.trans c2) fun C s' m H' ρ' vs hC hn I' hCn ex rh hD0 hD hnD rds => ?_
        refine wpAny_assign_Name (o7 I' hN hi' hx (v:=.ref s2.heap.objs.size) rfl (fun s'' I'' hsb => ?_) hf')
        have hCl:C≠X.env.locals:=Nat.ne_of_gt (Nat.lt_trans I1.lt hC)
        have hCc:∀ y c,X.env.cells.lookup y=some c→c≠C:=fun y c e z=>by
          obtain⟨v,o,ho,hd⟩:=I1.cell y c e
          exact absurd (Nat.lt_trans (Heap.lt_size ho) hC) (by rw [z];exact Nat.lt_irrefl _)
        refine⟨m,?_,fun h' sb=>wpAny_pure (wpAny_pure ?_)⟩
        · obtain⟨a,sa,ha⟩:=hsb
          refine hn.sameBut sa ?_
          rcases ha with z|z
          · rw [z];exact hCl
          · exact Ne.symm (hCc _ _ z)
        · have I3:Inv X pins (σ.set i (some (.ref s2.heap.objs.size))) H' { s'' with heap:=h' }:=I''.turned (it:=C) (t':=s''.toks) (fun b o hb e=>(sb.2 b hb).trans e) hCn hCl (.inr (Nat.le_of_lt (Nat.lt_of_le_of_lt I1.sz hC))) hCc fun q hq z =>
            absurd (Nat.lt_trans (Heap.lt_size (I1.pin q hq).1) hC) (by rw [z];exact Nat.lt_irrefl _)
          have ex':Ext ρ H ρ' H':=ex1.trans ex
          have rh':=rh.alloc hD hnD rds
          have hH0:H s2.heap.objs.size=none:=ex1.fresh hD0 (rs1.hp.free hD0)
          have exA:Ext ρ H (ρ'++[s2.heap.objs.size]) H':=⟨by obtain⟨t,rfl⟩:=ex'.pre;exact⟨t++[s2.heap.objs.size],by simp⟩,fun a ha=>by
            rcases List.mem_append.mp ha with z|z
            · exact ex'.new a z
            · simp at z;subst z;exact .inr hH0,ex'.frame⟩
          obtain⟨ρ2,d2,hd2,e2,rs2,rd2,pn⟩:=p1 (.ref s2.heap.objs.size) H' (ρ'++[s2.heap.objs.size]) exA (rs.ext exA rh') (by
            simp only [rD,RD]
            refine⟨s2.heap.objs.size,?_,rfl⟩
            rw [← rh.len]
            simp)
          exact⟨_,H',I3,pn _ H' ρ2 Ext.refl ⟨rs2.hp,rs2.st.set i rd2⟩⟩
      · rw [if_neg hz] at p1;exact p1.elim
end
end Fm
set_option Elab.async false
set_option linter.all false
set_option maxRecDepth 100000
namespace Fm
open PySem PySem.Spec L2 PyProof.Rows
mutual
def rfs (k:Nat):D→Prop
  | .ref n=>n < k
  | .tup l=>gD k l
  | .lit l=>gD k l
  | .exn _ l=>gD k l
  | _=>True
def gD (k:Nat):List D→Prop
  | []=>True
  | x :: xs=>rfs k x∧gD k xs
end
section
variable {K:PySem.W.Frag} {ρ ρ' t:List Addr} {H H':Hp} {hd hd':Hd}
mutual
theorem RD.rfs:∀ {d:D} {v:V},RD K ρ H d v→Fm.rfs ρ.length d
  | .non,_,_=>by simp only [Fm.rfs]
  | .bl _,_,_=>by simp only [Fm.rfs]
  | .int _,_,_=>by simp only [Fm.rfs]
  | .str _,_,_=>by simp only [Fm.rfs]
  | .tup l,_,h=>by
    simp only [RD] at h;obtain⟨p,vs,_,_,h2⟩:=h
    simp only [Fm.rfs];exact RDs.rfs h2
  | .lit l,_,h=>by
    simp only [RD] at h;obtain⟨p,vs,_,_,h2⟩:=h
    simp only [Fm.rfs];exact RDs.rfs h2
  | .ref n,_,h=>by
    simp only [RD] at h;obtain⟨a,h1,_⟩:=h
    simp only [Fm.rfs];exact (List.getElem?_eq_some_iff.mp h1).1
  | .exn _ _,_,h=>by simp only [RD] at h;obtain⟨rfl,_⟩:=h;simp only [Fm.rfs,Fm.gD]
theorem RDs.rfs:∀ {l:List D} {vs:List V},RDs K ρ H l vs→Fm.gD ρ.length l
  | [],_,_=>by simp only [Fm.gD]
  | d :: ds,_,h=>by
    simp only [RDs] at h;obtain⟨v,r,_,h1,h2⟩:=h
    simp only [Fm.gD];exact⟨RD.rfs h1,RDs.rfs h2⟩
end
mutual
theorem RD.cut:∀ {d:D} {v:V},RD K (ρ ++ t) H d v→Fm.rfs ρ.length d→RD K ρ H d v
  | .non,_,h,_=>by simp only [RD] at h ⊢;exact h
  | .bl _,_,h,_=>by simp only [RD] at h ⊢;exact h
  | .int _,_,h,_=>by simp only [RD] at h ⊢;exact h
  | .str _,_,h,_=>by simp only [RD] at h ⊢;exact h
  | .tup l,_,h,q=>by
    simp only [RD] at h ⊢;simp only [Fm.rfs] at q
    obtain⟨p,vs,e,h1,h2⟩:=h
    exact⟨p,vs,e,h1,RDs.cut h2 q⟩
  | .lit l,_,h,q=>by
    simp only [RD] at h ⊢;simp only [Fm.rfs] at q
    obtain⟨p,vs,e,h1,h2⟩:=h
    exact⟨p,vs,e,h1,RDs.cut h2 q⟩
  | .ref n,_,h,q=>by
    simp only [RD] at h ⊢;simp only [Fm.rfs] at q
    obtain⟨a,h1,h2⟩:=h
    exact⟨a,by rwa [List.getElem?_append_left q] at h1,h2⟩
  | .exn _ _,_,h,_=>by simp only [RD] at h ⊢;exact h
theorem RDs.cut:∀ {l:List D} {vs:List V},RDs K (ρ ++ t) H l vs→Fm.gD ρ.length l→RDs K ρ H l vs
  | [],_,h,_=>by simp only [RDs] at h ⊢;exact h
  | d :: ds,_,h,q=>by
    simp only [RDs] at h ⊢;simp only [Fm.gD] at q
    obtain⟨v,r,e,h1,h2⟩:=h
    exact⟨v,r,e,RD.cut h1 q.1,RDs.cut h2 q.2⟩
end
mutual
theorem lU {k:Nat}:∀ {d:D},pure? d=true→Fm.rfs k d
  | .non,_=>by simp only [Fm.rfs]
  | .bl _,_=>by simp only [Fm.rfs]
  | .int _,_=>by simp only [Fm.rfs]
  | .str _,_=>by simp only [Fm.rfs]
  | .tup l,h=>by simp only [pure?] at h;simp only [Fm.rfs];exact fG h
  | .lit l,h=>by simp only [pure?] at h;simp only [Fm.rfs];exact fG h
  | .exn _ l,h=>by simp only [pure?] at h;simp only [Fm.rfs];exact fG h
  | .ref _,h=>by simp only [pure?] at h;cases h
theorem fG {k:Nat}:∀ {l:List D},cW l=true→Fm.gD k l
  | [],_=>by simp only [Fm.gD]
  | x :: xs,h=>by
    simp only [cW,Bool.and_eq_true] at h
    simp only [Fm.gD];exact⟨lU h.1,fG h.2⟩
end
def z6 (k:Nat):cX→Prop
  | .lst l=>Fm.gD k l
  | .dct l=>Fm.gD k (l.map (·.2))
theorem RC.rfs {c:cX}{a:Addr}(h:RC K ρ H c a):z6 ρ.length c:=by
  cases c with
  | lst l=>obtain⟨vs,_,h2⟩:=h;exact h2.rfs
  | dct l=>obtain⟨vs,_,_,h2⟩:=h;exact h2.rfs
theorem RC.cut {c:cX}{a:Addr}(h:RC K (ρ ++ t) H c a)(q:z6 ρ.length c):RC K ρ H c a:=by
  cases c with
  | lst l=>obtain⟨vs,h1,h2⟩:=h;exact⟨vs,h1,h2.cut q⟩
  | dct l=>obtain⟨vs,h1,h2,h3⟩:=h;exact⟨vs,h1,h2,h3.cut q⟩
theorem qw {k:Nat}{c:cX}(h:sL c=true):z6 k c:=by
  cases c with
  | lst l=>exact fG h
  | dct l =>
    have:∀ l:List (Int × D),(l.all fun p=>pure? p.2)=true→Fm.gD k (l.map (·.2)):=by
      intro l
      induction l with
      | nil=>intro _;simp only [List.map_nil,Fm.gD]
      | cons x l ih=>intro h;simp only [List.all_cons,Bool.and_eq_true] at h;simp only [List.map_cons,Fm.gD];exact⟨lU h.1,ih h.2⟩
    exact this l h
theorem RH.back (r:RH K ρ H hd)(r':RH K (ρ ++ t) H' hd')(o:xi hd hd'):RH K ρ H' (hd'.take hd.length):=by
  have hl:(ρ ++ t).length=hd'.length:=r'.len
  refine⟨by rw [List.length_take,← hl,List.length_append,← r.len];omega,(List.nodup_append.mp r'.nd).1,fun n c a h1 h2 => ?_⟩
  have hn:n < hd.length:=by rw [← r.len];exact (List.getElem?_eq_some_iff.mp h2).1
  rw [List.getElem?_take_of_lt hn] at h1
  have q:=r'.cel n c a h1 (by rw [List.getElem?_append_left (by rw [r.len];exact hn)];exact h2)
  refine q.cut ?_
  rcases o n c hn h1 with z|z
  · exact (r.cel n c a z h2).rfs
  · exact qw z
def lV (K:PySem.W.Frag) (ρ:List Addr) (H:Hp) (r:Res D) (Q:VK):Prop:=match r with
  | .ok d hd'=>∀ v H' ρ',Ext ρ H ρ' H'→RH K ρ' H' hd'→RD K ρ' H' d v→Q v H'
  | _=>False
def spF (K:PySem.W.Frag) (F:Fn) (np:Nat):Sp:=fun vs H Q _=>∃ ρ hd ds,RH K ρ H hd∧RDs K ρ H ds vs∧ds.length=np∧lV K ρ H (F ds hd) Q
theorem Ext.short (e:Ext ρ H (ρ ++ t) H'):Ext ρ H ρ H':=⟨⟨[],by simp⟩,fun _ h=>.inl h,e.frame⟩
theorem lV.letGo {r:Res D}{Q:VK}(rh:RH K ρ H hd)(p:lV K ρ H (letGo hd r) Q):lV K ρ H r Q:=by
  cases r with
  | exc x h'=>exact p
  | bad=>exact p
  | ok d h' =>
    intro v H' ρ' ex rh' rd
    simp only [Fm.letGo] at p
    split at p
    · rename_i hc
      obtain⟨t,rfl⟩:=ex.pre
      exact p v H' ρ ex.short (rh.back rh' hc.2) (rd.cut (lU hc.1))
    · exact p v H' ρ' ex rh' rd
theorem lV.runB {n:Nat}{b:SF}{ds:List D}{Q:VK}(p:lV K ρ H (runB n b ds hd) Q):bK K ρ H (b (ds.map some++List.replicate (n - ds.length) none) hd) { nx:=fun _ H'=>Q .non H',rt:=Q }:=by
  unfold Fm.runB at p
  cases e:b (ds.map some++List.replicate (n - ds.length) none) hd with
  | nx σ h'=>rw [e] at p;exact fun σ' H' ρ' ex rs=>p .non H' ρ' ex rs.hp (by simp only [RD])
  | rt d h'=>rw [e] at p;exact p
  | bk σ h'=>rw [e] at p;exact p.elim
  | ct σ h'=>rw [e] at p;exact p.elim
  | exc x σ h'=>rw [e] at p;exact p.elim
  | bad=>rw [e] at p;exact p.elim
theorem yf {N:List Str}{ds:List D}{vs:List V}(r:RDs K ρ H ds vs):RSt K ρ H (ds.map some++List.replicate (N.length - ds.length) none) (L2.gF N vs):=by
  have hl:=r.length
  refine⟨by simp [L2.gF,hl],fun i d e => ?_⟩
  simp only [slot] at e
  by_cases hi:i < ds.length
  · rw [List.getElem?_append_left (by simpa using hi)] at e
    simp only [List.getElem?_map,List.getElem?_eq_getElem hi,Option.map_some] at e
    cases e
    obtain⟨v,hv,q⟩:=r.get (i:=i) (d:=ds[i]) (by simp [hi])
    refine⟨v,?_,q⟩
    unfold L2.gF
    rw [List.getElem?_append_left (by simp;omega)]
    simp [hv]
  · rw [List.getElem?_append_right (by simpa using Nat.le_of_not_lt hi)] at e
    simp only [List.getElem?_replicate] at e
    by_cases hq:i - (List.map some ds).length < N.length - ds.length
    · simp only [hq,if_true] at e;cases e
    · simp only [hq,if_false] at e;cases e
end
structure Def (P:Program) (w:World) (K:PySem.W.Frag) (mg:Str→Option Value) (base:Heap) (x:Str) (k np:Nat) (F:Fn):Prop where
  ex:∃ f fd ps,mg x=some (.ref f)∧PySem.W.keepIn K (.ref f)=true∧lE K fd ps []∧cG P w K mg base CX0 k f fd ps (spF K F np)
section
variable {P:Program} {w:World} {K:PySem.W.Frag} {mg:Str→Option Value} {base:Heap}
theorem cq {x:Str}{st:Stmt}{f:Addr}{fd:FuncData}{N ps:List Str}{k:Nat}{b:SF}(F:Fun K x x st f fd)(S:aY N ps (ak st))
    (body:∀ (cdv:Value) (A:Around) (outer:List Env) (s:Shared) (H:Hp) (E:XK),fV k (A.deeper (envOfC x (ak st) s.heap.objs.size f cdv))→MSs (uO CX0 P w K mg base N x (ak st) f cdv A outer s H E).nox (aL st) b) :
    cG P w K mg base CX0 (k + 1) f fd ps (spF K (bE ps.length N.length b) ps.length):=by
  refine F.ok S (fun vs H Q E ⟨ρ,hd,ds,rh,rd,hl,p⟩=>by rw [← rd.length];exact hl) fun cdv A outer s H vs Q E hr ⟨ρ,hd,ds,rh,rd,hl,p⟩=>⟨_,body cdv A outer s H E hr,ρ,_,hd,⟨rh,yf rd⟩,?_⟩
  simp only [bE,hl,if_true] at p
  exact (lV.letGo rh p).runB
theorem Def.mk' {x:Str}{f:Addr}{fd:FuncData}{ps:List Str}{k np:Nat}{F:Fn}(hm:mg x=some (.ref f))(hk:PySem.W.keepIn K (.ref f)=true)(hb:lE K fd ps [])(h:cG P w K mg base CX0 k f fd ps (spF K F np)):Def P w K mg base x k np F:=⟨f,fd,ps,hm,hk,hb,h⟩
end
section
variable {X:Cx} {pos p:Pos}
theorem ar {x:Str}{k np:Nat}{F:Fn}{e:Expr}{es:List Expr}{r:LF}(hd:Def X.prog X.w X.K X.mg X.base x k np F)(hr:fV k X.A)(hg:Gl X x)(ha:MA X (e :: es) r)(hnp:∀ ds h d h',F ds h=.ok d h'→ds.length=np)
    (hdb:(x == ("__debug__" : Str))=false:=by decide) (he:starEach (e :: es) X.env=(false,eval e X.env) :: starEach es X.env:=by rfl) (hpl:(backTo pos (starEach es X.env)).any (·.1)=false:=by rfl) :
    ME X (.Call (.Name x p) (e :: es) [] pos) (ay F r):=by
  obtain⟨f,fd,ps,h1,h2,h3,h4⟩:=hd.ex
  refine PE.imp (BJ h4 hr hg h1 h2 h3 .nil Fc ha hdb he hpl) fun σ H Q ⟨ρ,σd,hd,rs,pp⟩=>⟨ρ,σd,hd,rs,(bo.bind (R:=rDs X.K) pp).imp fun vs H1 ⟨ρ1,ds,hd1,e1,rs1,rv,p1⟩ => ?_⟩
  rw [List.append_nil]
  cases c:F ds hd1 with
  | exc z h'=>rw [c] at p1;exact p1.elim
  | bad=>rw [c] at p1;exact p1.elim
  | ok d hd2 =>
    rw [c] at p1
    refine⟨ρ1,hd1,ds,rs1.hp,rv,hnp _ _ _ _ c,?_⟩
    rw [c]
    exact fun v H' ρ' ex rh rd=>p1 v H' ρ' ex (rs1.ext ex rh) rd
theorem au {np n:Nat}{b:SF}:∀ ds h d h',bE np n b ds h=.ok d h'→ds.length=np:=by
  intro ds h d h' e
  unfold bE at e
  split at e
  · assumption
  · cases e
end
theorem Fp {l:PySem.W.OpenLaw}{q:Program}{loose:List Str}{XP:(Str→Option Value)→Heap→Prop}{YP:World→Heap→Prop}{d:DefRec}{K:Params→PySem.W.Frag}{F:Fn}{k:Nat}{x:Str}(hn:l.most=some 63)(hdf:d.params.defaults=[])(hr:fV k callerA)
    (hY:∀ (w:World) (h:Heap),YP w h→(K w.params).In h)
    (hF:∀ (w:World) (mg:Str→Option Value) (fa:Addr) (h:Heap),(K w.params).In h→h.Ns mainGlobals mg→mg d.name=some (.ref fa) →
      ∃ fd:FuncData,(∀ (s:Shared) (u:Value),BindsTo s fd ⟨[u],[]⟩ [(x,u)]) ∧ ∀ base:Heap,(K w.params).In base→base.Ns mainGlobals mg→cG l.prog w (K w.params) mg base CX0 k fa fd [x] (spF (K w.params) F 1))
    (law:∀ ns:List Int,ns.length≤63 → ∃ h,F [.lit (ns.map .int)] []=.ok (.bl true) h) :
    PySem.W.WalkO q loose XP YP l.row.toRowW d [] (fun f vs=>PySem.call f vs):=by
  refine L2.BN (n:=63) (k:=k) (x:=x) (CX:=fun _=>CX0) (sp:=fun w=>spF (K w.params) F 1) hn (by decide) hdf hr hY hF (fun w H a ns hl hO hS => ?_) fun _ _ _ _ _ z=>z
  obtain⟨h,e⟩:=law ns hl
  have hL:kq (K w.params) H a (ns.map V.int):=by
    rcases hS with (z|⟨o,z⟩)|z
    · rcases hO a with y|⟨o,xs,y⟩<;>(rw [z] at y;cases y)
    · exact .inl ⟨o,z⟩
    · exact .inr z
  have hI:RDs (K w.params) [] H (ns.map D.int) (ns.map V.int):=by
    clear hl hS e hL law
    induction ns with
    | nil=>exact RDs.nil
    | cons n ns ih=>exact RDs.cons (by simp only [RD]) ih
  refine⟨[],[],[.lit (ns.map .int)],⟨rfl,List.nodup_nil,fun n c a h1=>by simp at h1⟩,RDs.cons (by simp only [RD];exact⟨a,_,rfl,hL,hI⟩) RDs.nil,rfl,?_⟩
  rw [e]
  intro v H' ρ' ex rh rd
  simpa only [RD] using rd
end Fm
set_option Elab.async false
set_option linter.all false
set_option maxRecDepth 100000
namespace Fm
open PySem PySem.Spec L2
open PyProof.Rows (Subscript_ tail_any)
def tyS:Ty→String
  | .int => "int" | .bool => "bool" | .tuple => "tuple" | .list => "list" | .str => "str"
theorem ee (t:Ty):typeOf (.type (tyS t))=pure (.type "type"):=by
  cases t
  · exact F.isi_meta_int
  · exact F.isi_meta_bool
  · exact F.isi_meta_tuple
  · exact F.isi_meta_list
  · exact F.isi_meta_str
theorem BT (t:Ty):isSubtype (.type "NoneType") (.type (tyS t))=pure false:=by cases t<;>(rw [isSubtype_type];kernel_rfl)
theorem DZ {t:Ty} (h:t ≠ .int):isSubtype (.type "int") (.type (tyS t))=pure false:=by cases t<;>first|exact absurd rfl h|(rw [isSubtype_type];kernel_rfl)
theorem BU {t:Ty} (h:t ≠ .int) (h2:t ≠ .bool):isSubtype (.type "bool") (.type (tyS t))=pure false:=by cases t<;>first|exact absurd rfl h|exact absurd rfl h2|(rw [isSubtype_type];kernel_rfl)
theorem D0 {t:Ty} (h:t ≠ .str):isSubtype (.type "str") (.type (tyS t))=pure false:=by cases t<;>first|exact absurd rfl h|(rw [isSubtype_type];kernel_rfl)
theorem z7 {t:Ty} (h:t ≠ .tuple):isSubtype (.type "tuple") (.type (tyS t))=pure false:=by cases t<;>first|exact absurd rfl h|(rw [isSubtype_type];kernel_rfl)
theorem xo {t:Ty} (h:t ≠ .list):isSubtype (.type "list") (.type (tyS t))=pure false:=by cases t<;>first|exact absurd rfl h|(rw [isSubtype_type];kernel_rfl)
theorem BV (t:Ty):isSubtype (.type "dict") (.type (tyS t))=pure false:=by cases t<;>(rw [isSubtype_type];kernel_rfl)
theorem ik (t:Ty):isSubtype (.type (tyS t)) (.type (tyS t))=pure true:=by cases t<;>(rw [isSubtype_type];kernel_rfl)
theorem sS:isSubtype (.type "bool") (.type (tyS .int))=pure true:=by rw [isSubtype_type];kernel_rfl
theorem kr {n:String}{t:Ty}(h:n≠tyS t):(Value.type n == Value.type (tyS t))=false:=by
  rw [beq_eq_false_iff_ne];intro e;cases e;exact h rfl
theorem uX {a b:Ty}(h:a≠b):(a == b)=false:=by cases a<;>cases b<;>first|rfl|exact absurd rfl h
section
variable {X:Cx} {pos p:Pos}
theorem D1 {pins:List (Addr × Obj)}{σ:St}{H:Hp}{s:Shared}{ρ:List Addr}{hd:Hd}{d:D}{v:V}{u:Value}{t:Ty}{b:Bool}{Q:Value→Shared→Prop}{E:Value→Shared→Prop}(I:Inv X pins σ H s)(rh:RH X.K ρ H hd)(rd:RD X.K ρ H d v)(r:bh v u)(e:zL hd t d=some b)
    (q:∀ s',Inv X pins σ H s'→Q (.bool b) s'):wpAny (model X.prog X.w) X.A (call (.builtin "isinstance") [u,.type (tyS t)]) Q E s:=by
  have q0:=q s I
  have q1:=q { s with toks:=s.toks + 1 } (I.tok _)
  have yes:∀ {n:String},s.TypeIs u n→isSubtype (.type n) (.type (tyS t))=pure true→Q (.bool true) s→wpAny (model X.prog X.w) X.A (call (.builtin "isinstance") [u,.type (tyS t)]) Q E s:=fun h1 h2 h3=>call_isinstance (isinstance_true (ee t) h2) ⟨h1,h3⟩
  cases d<;>simp only [RD] at rd<;>simp only [zL] at e
  · subst rd;cases r;cases e
    exact call_isinstance (isinstance_false_none (by cases t<;>exact kr (by decide)) (ee t) (BT t)) q1
  · subst rd;cases r
    by_cases h1:t=.int
    · subst h1;cases e;exact yes (n := "bool") rfl sS q0
    · by_cases h2:t=.bool
      · subst h2;cases e;exact yes (n := "bool") rfl (ik .bool) q0
      · rw [uX h1,uX h2] at e;cases e
        exact call_isinstance (isinstance_false_bool (by cases t<;>first|exact absurd rfl h1|exact absurd rfl h2|exact kr (by decide)) (ee t) (BU h1 h2)) q1
  · subst rd;obtain⟨tk,rfl⟩:=r
    by_cases h1:t=.int
    · subst h1;cases e;exact yes (n := "int") rfl (ik .int) q0
    · rw [uX h1] at e;cases e
      exact call_isinstance (isinstance_false_int (by cases t<;>first|exact absurd rfl h1|exact kr (by decide)) (ee t) (DZ h1)) q1
  · subst rd;obtain⟨tk,rfl⟩:=r
    by_cases h1:t=.str
    · subst h1;cases e;exact yes (n := "str") rfl (ik .str) q0
    · rw [uX h1] at e;cases e
      exact call_isinstance (isinstance_false_str (by cases t<;>first|exact absurd rfl h1|exact kr (by decide)) (ee t) (D0 h1)) q1
  · obtain⟨a,vs,rfl,ha,_⟩:=rd
    cases r
    obtain⟨its,_,o,ho,hc,_⟩:=fj I.hok ha
    by_cases h1:t=.tuple
    · subst h1;cases e;exact yes (n := "tuple") ⟨o,ho,hc⟩ (ik .tuple) q0
    · rw [uX h1] at e;cases e
      exact call_isinstance (isinstance_false_tuple (by cases t<;>first|exact absurd rfl h1|exact kr (by decide)) (ee t) (z7 h1)) ⟨⟨o,ho,hc⟩,q1⟩
  · rename_i n
    obtain⟨a,ha,rfl⟩:=rd
    cases r
    cases c:hd[n]? with
    | none=>rw [c] at e;cases e
    | some cell =>
      rw [c] at e
      cases cell with
      | lst l =>
        obtain⟨vs,hv,_⟩:=rh.cel n _ a c ha
        obtain⟨z,its,k,_,ho⟩:=I.hok a _ hv
        by_cases h1:t=.list
        · subst h1;cases e;exact yes (n := "list") ⟨_,ho,rfl⟩ (ik .list) q0
        · simp only [uX h1] at e;cases e
          exact call_isinstance (isinstance_false_list (by cases t<;>first|exact absurd rfl h1|exact kr (by decide)) (ee t) (xo h1)) ⟨⟨_,ho,rfl⟩,q1⟩
      | dct l =>
        obtain⟨vs,hv,_,_⟩:=rh.cel n _ a c ha
        obtain⟨_,_,_,_,o,_,_,ho,ex,_⟩:=I.hok a _ hv
        cases e
        exact call_isinstance (isinstance_false_dict (by cases t<;>exact kr (by decide)) (ee t) (BV t)) ⟨⟨o,ho,ex.1⟩,q1⟩
  · obtain⟨a,vs,rfl,ha,_⟩:=rd
    cases r
    obtain⟨its,_,pl,_⟩:=I.list ha.sq
    obtain⟨o,ho,hc,_⟩:=pl.isList
    by_cases h1:t=.list
    · subst h1;cases e;exact yes (n := "list") ⟨o,ho,hc⟩ (ik .list) q0
    · simp only [uX h1] at e;cases e
      exact call_isinstance (isinstance_false_list (by cases t<;>first|exact absurd rfl h1|exact kr (by decide)) (ee t) (xo h1)) ⟨⟨o,ho,hc⟩,q1⟩
  · cases e
def F9 (K:PySem.W.Frag) (t:Ty):List V→Hp→VK→Prop:=fun xs H Q=>∃ ρ hd d v b,xs=[v,.ty (tyS t)]∧RH K ρ H hd∧RD K ρ H d v∧zL hd t d=some b∧Q (.bl b) H
theorem z8 (t:Ty):eU X (.builtin "isinstance") (F9 X.K t):=by
  intro pins s σ H xs us Q I r h
  obtain⟨ρ,hd,d,v,b,rfl,rh,rd,e,q⟩:=h
  obtain⟨u,u2,rfl,ru,ru2⟩:=aT.two r
  cases (show u2=Value.type (tyS t) from ru2)
  exact D1 I rh rd ru e fun s' I'=>⟨.bl b,H,I',rfl,q⟩
theorem qx {t:Ty} {a:Expr} {fa:EF} {p2:Pos} {n:Str} (hg:Gl X "isinstance") (hm:X.mg "isinstance" = none) (hg2:Gl X n) (hm2:X.mg n=none) (hv:bootBuiltins n=some (.type (tyS t))) (ha:ME X a fa)
    (hs:starEach [a,.Name n p2] X.env=(false,eval a X.env) :: starEach [.Name n p2] X.env:=by rfl) (hs2:starEach [.Name n p2] X.env=(false,eval (.Name n p2) X.env) :: starEach [] X.env:=by rfl) (hn:n ≠ "__name__" := by decide) (hd:(n == ("__debug__" : Str))=false:=by decide) :
    ME X (.Call (.Name "isinstance" p) [a,.Name n p2] [] pos) (sK t fa):=by
  refine PE.imp (fE (z8 t) hg hm (by decide +kernel) (bT ha (bT (By (v:=.ty (tyS t)) hg2 hm2 hv rfl hn hd) dH hs2) hs) (he:=hs)) fun σ H Q ⟨ρ,σd,hd,rs,pp⟩=>⟨ρ,σd,hd,rs,(bo.bind (R:=rD X.K) pp).imp fun v H1 ⟨ρ1,d,hd1,e1,rs1,rv,p1⟩ => ?_⟩
  cases c:zL hd1 t d with
  | none=>simp only [c] at p1;exact p1.elim
  | some b=>simp only [c] at p1;exact⟨ρ1,hd1,d,v,b,rfl,rs1.hp,rv,c,p1.here rs1 (by simp only [rD,RD])⟩
theorem bC:OpR X (binaryOp .Add) (fun x y H Q=>rI0 (fun i j=>.int (i + j)) x y H Q∨zH X.K x y H Q):=Dz.or BK
theorem ca {K:PySem.W.Frag}:Og K cA (fun x y H Q=>rI0 (fun i j=>.int (i + j)) x y H Q∨zH K x y H Q):=by
  intro ρ H σd hd σ d k v w Q rs rv rw' pp
  cases d<;>try exact pp.elim
  · cases k<;>try exact pp.elim
    simp only [RD] at rv rw'
    exact .inl ⟨_,_,rv,rw',pp.here rs (by simp only [rD,RD])⟩
  · rename_i l
    cases l with
    | nil=>exact pp.elim
    | cons x xs =>
      cases k<;>try exact pp.elim
      rename_i ys
      simp only [cA] at pp
      split at pp
      · rename_i hz
        simp only [RD] at rv rw'
        obtain⟨a,vs,rfl,ha,rvs⟩:=rv
        obtain⟨b,ws,rfl,hb,rws⟩:=rw'
        refine .inr ⟨a,b,vs,ws,rfl,rfl,SqT.of ha,SqT.of hb,?_,?_,fun z => ?_,fun _ q hq => ?_⟩
        · intro z;subst z;have:=rvs.length;simp at this
        · rw [← rvs.length,← rws.length];exact qq hz
        · subst z
          have hy:ys=[]:=by have:=rws.length;simpa using this
          subst hy
          exact pp.here rs (by simp only [rD,RD];exact⟨a,vs,rfl,ha,by simpa using rvs⟩)
        · have sm:=bX (o:=HO.tup (vs++ws)) hq
          exact pp.at (Ext.same sm) (rs.same sm) (by simp only [rD,RD];exact⟨q,_,rfl,aS,(RDs.append rvs rws).mono (Kp.same sm)⟩)
      · exact pp.elim
theorem fm {o e:Expr} {fo fe:EF} {apos cpos:Pos} (ho:ME X o fo) (he:ME X e fe) (hbase:attributeBase o "append" X.env (eval o X.env)=eval o X.env:=by rfl)
    (hfew:((backTo cpos (starEach [e] X.env)).all (fun x => !x.1) && (backToKw cpos (keywordEach [] X.env)).all (fun x=>x.1.isSome)
      && decide (([e] : List Expr).length + ([] : List Keyword).length + (if ([] : List Keyword).isEmpty then 0 else 1) < 30))=true:=by rfl)
    (hline:(apos.endLine == cpos.line)=true:=by rfl) (hs:starEach [e] X.env=(false,eval e X.env) :: starEach [] X.env:=by rfl) :
    ME X (.Call (.Attribute o "append" apos) [e] [] cpos) (fF fo fe):=by
  refine PE.imp (CU PySem.F.plainAttrs_list PySem.F.slot_list_append PySem.F.type_list_append pd ho (bT he dH hs) hbase hfew hline hs) fun σ H Q ⟨ρ,σd,hd,rs,pp⟩=>⟨ρ,σd,hd,rs,?_⟩
  unfold fF at pp
  refine (bo.bind (R:=rD X.K) pp).imp fun v H1 ⟨ρ1,d,hd1,e1,rs1,rv,p1⟩ => ?_
  cases d<;>try exact p1.elim
  rename_i n
  simp only [rD,RD] at rv
  obtain⟨a,ha,rfl⟩:=rv
  simp only at p1
  cases c1:hd1[n]? with
  | none=>rw [c1] at p1;exact p1.elim
  | some cell1 =>
    rw [c1] at p1
    cases cell1 with
    | dct l=>exact p1.elim
    | lst l1 =>
      obtain⟨vs,hv,_⟩:=rs1.hp.cel n _ a c1 ha
      simp only at p1
      refine⟨.inl ⟨rfl,vs,SqL.of hv⟩,ρ1,σd,hd1,rs1,(bo.bind (R:=rD X.K) p1).imp fun w H2 ⟨ρ2,k,hd2,e2,rs2,rw',p2⟩ => ?_⟩
      simp only [DN] at p2
      cases c:hd2[n]? with
      | none=>rw [c] at p2;exact p2.elim
      | some cell =>
        rw [c] at p2
        cases cell with
        | dct l=>exact p2.elim
        | lst l =>
          simp only at p2
          split at p2
          · rename_i hz
            have ha2:=e2.get ha
            obtain⟨vs2,hv2,rvs2⟩:=rs2.hp.cel n _ a c ha2
            refine⟨a,vs2,w,rfl,rfl,hv2,?_,?_⟩
            · rw [← rvs2.length];exact Nat.lt_of_lt_of_le hz (by rw [sizeLine_eq];decide)
            · have hn:n < hd2.length:=(List.getElem?_eq_some_iff.mp c).1
              have rh:=rs2.hp.write ha2 hn (RDs.append rvs2 (RDs.cons rw' RDs.nil))
              have ex:Ext ρ2 H2 ρ2 (upd H2 a (.lst (vs2++[w]))):=Ext.write (List.mem_of_getElem? ha2)
              exact p2.at ex (rs2.ext ex rh) (by simp only [rD,RD])
          · exact p2.elim
end
end Fm
set_option Elab.async false
set_option linter.all false
set_option maxRecDepth 100000
namespace Fm
open PySem PySem.Spec L2
open AutoSeq1 (wpAny_loadPart')
open PyProof.Rows (Call_)
theorem BW {a b:String}(h:Value.type a=Value.type b)(n:a≠b):False:=by injection h with h;exact n h
theorem gL (l:Addr)(items:Array Value)(n:Nat)(dct:Option Addr)(sl:Array (Option Value)) :
    Meets (Builtin.«enumerate.__new__» ⟨[.type "enumerate",.ref l],[]⟩) (fun _ R s=>s.heap.get? l=some { cls:=.type "tuple",dict:=dct,data:=.seq items n,slots:=sl } ∧
      R (.ok (.ret (.ref (s.heap.push { cls:=.type "tuple_iterator",data:=.fields #[.ref l,.int 0 0] }).objs.size)))
        { s with heap:=(s.heap.push { cls:=.type "tuple_iterator",data:=.fields #[.ref l,.int 0 0] }).push { cls:=.type "enumerate",data:=.fields #[.none,.bool false,.ref s.heap.objs.size,rawInt 0,.none,.none] } }) :=
  .of_wp fun prog w A R s h=>by
    obtain⟨hp,g,d,tk,os⟩:=s;obtain⟨hl,h⟩:=h
    have hsub:=sub_enumerate
    have hL:Heap.IsTuple (Shared.heap ⟨hp,g,d,tk,os⟩) l items:=⟨_,hl,rfl,n,rfl⟩
    wp_walk using wpAny_loadPart' hl
    refine wpAny_stack_any fun st=>wpAny_pure ?_
    split
    · rename_i c _ _ _ _ _
      cases (c == Value.type "enumerate")
      · wp_walk using wpAny_loadPart' hl,wpAny_pyIter_tuple hL
        exact⟨_,rfl,h⟩
      · wp_walk using wpAny_loadPart' hl,wpAny_pyIter_tuple hL
        exact⟨_,rfl,h⟩
    · wp_walk using wpAny_loadPart' hl,wpAny_pyIter_tuple hL
      exact⟨_,rfl,h⟩
section
variable {prog:Program} {w:World} {A:Around} {E:Value→Shared→Prop} {s:Shared}
theorem gM {l:Addr}{items:Array Value}{Q:Value→Shared→Prop}(hL:s.heap.IsTuple l items)
    (h:∀ h',IsEnum h' (s.heap.objs.size + 1) s.heap.objs.size 0 .none→h'.IsTupleIter s.heap.objs.size l 0→h'.objs.size=s.heap.objs.size + 2 →
      (∀ b o,s.heap.get? b=some o→h'.get? b=some o)→Q (.ref (s.heap.objs.size + 1)) { s with heap:=h' }) :
    wpAny (model prog w) A (call (.type "enumerate") [.ref l]) Q E s:=by
  obtain⟨⟨c,dct,dt,sl⟩,hl,hc,n,hd⟩:=hL
  replace hc:c=.type "tuple" := hc
  replace hd:dt=.seq items n:=hd
  subst hc hd
  refine callType_new F.called_enumerate (by decide) (F.typeCall_enumerate_1 _) (F.newCall_enumerate_1 _) (fun obj=>F.args_object_init_2 obj _) F.entry_enumerate_new
    (gL l items n dct sl) ⟨hl,?_⟩
  have hz:(s.heap.push { cls:=.type "tuple_iterator",data:=.fields #[.ref l,.int 0 0] }).objs.size=s.heap.objs.size + 1:=Heap.size_push ..
  show _∧_
  rw [hz]
  have he:IsEnum ((s.heap.push { cls:=.type "tuple_iterator",data:=.fields #[.ref l,.int 0 0] }).push
      { cls:=.type "enumerate",data:=.fields #[.none,.bool false,.ref s.heap.objs.size,rawInt 0,.none,.none] }) (s.heap.objs.size + 1) s.heap.objs.size 0 .none:=by
    have:=Heap.get?_push_size (s.heap.push { cls:=.type "tuple_iterator",data:=.fields #[.ref l,.int 0 0] })
      (o:={ cls:=.type "enumerate",data:=.fields #[.none,.bool false,.ref s.heap.objs.size,rawInt 0,.none,.none] }) rfl
    rw [hz] at this;exact this
  refine⟨⟨_,he,rfl⟩,h _ he ⟨_,Heap.get?_push_of_some _ (Heap.get?_push_size _ rfl),rfl,rfl⟩ (by rw [Heap.size_push,hz]) fun b o x=>Heap.get?_push_of_some _ (Heap.get?_push_of_some _ x)⟩
theorem cI {it l:Addr}{i:Nat}{items:Array Value}{x:Value}{Q:Value→Shared→Prop}(hit:s.heap.IsTupleIter it l i)
    (hl:s.heap.IsTuple l items) (hx:items[i]? = some x)
    (hQ:∀ h',h'.IsTupleIter it l (i + 1)→Heap.SameBut it s.heap h'→Q x { s with heap:=h' }) :
    wpAny (model prog w) A (Builtin.SmallTypes.nextOf (.ref it)) Q E s:=by
  obtain⟨o,ho,hc,hd⟩:=id hit
  obtain⟨ol,hol,_,nl,hdl⟩:=hl
  unfold Builtin.SmallTypes.nextOf
  refine wpAny_bind (wpAny_callSpecial?_slot (name:=Str.ofString "__next__") hit.typeIs F.slot_tuple_iterator_next
    (wpAny_call_entry F.slot_tuple_iterator_next hit.typeIs F.entry_tuple_iterator_next ?_ (F.args_tuple_iterator_next_1 _)))
  show wpAny _ _ (field (.ref it) 0 >>= _) _ _ s
  refine wpAny_bind (wpAny_field ho hd (x:=.ref l) rfl ?_)
  show wpAny _ _ (if (Value.ref l == Value.none)=true then _ else _) _ _ s
  rw [if_neg (show ¬ ((Value.ref l == Value.none)=true) from Bool.false_ne_true)]
  show wpAny _ _ (field (.ref it) 1 >>= _) _ _ s
  refine wpAny_bind (wpAny_field ho hd (x:=.int i 0) rfl ?_)
  show wpAny _ _ (seqItems? (.ref l) >>= _) _ _ s
  refine wpAny_bind (wpAny_seqItems hol hdl ?_)
  simp only [Int.toNat_natCast,hx]
  refine wpAny_bind (wpAny_setField ho hd (by simp) (wpAny_pure ⟨x,rfl,wpAny_pure (hQ _ ?_ (Heap.SameBut.update ..))⟩))
  exact⟨_,Heap.get?_update_self _ ho (Obj.isFreed_of_fields (Obj.data_mapFields hd _)),(Obj.cls_mapFields ..).trans hc,by
    rw [Obj.data_mapFields hd];simp [rawInt]⟩
theorem dL {it l:Addr}{i:Nat}{items:Array Value}{Q:Value→Shared→Prop}(hh:A.handled=none)
    (hit:s.heap.IsTupleIter it l i) (hl:s.heap.IsTuple l items) (hx:items[i]? = none)
    (hE:∀ h' e,Heap.ExtBut it s.heap h'→(∃ o,h'.get? e=some o∧o.cls=.type "StopIteration")→E (.ref e) { s with heap:=h' }) :
    wpAny (model prog w) A (Builtin.SmallTypes.nextOf (.ref it)) Q E s:=by
  obtain⟨o,ho,hc,hd⟩:=id hit
  obtain⟨ol,hol,_,nl,hdl⟩:=hl
  unfold Builtin.SmallTypes.nextOf
  refine wpAny_bind (wpAny_callSpecial?_slot (name:=Str.ofString "__next__") hit.typeIs F.slot_tuple_iterator_next
    (wpAny_call_entry F.slot_tuple_iterator_next hit.typeIs F.entry_tuple_iterator_next ?_ (F.args_tuple_iterator_next_1 _)))
  show wpAny _ _ (field (.ref it) 0 >>= _) _ _ s
  refine wpAny_bind (wpAny_field ho hd (x:=.ref l) rfl ?_)
  show wpAny _ _ (if (Value.ref l == Value.none)=true then _ else _) _ _ s
  rw [if_neg (show ¬ ((Value.ref l == Value.none)=true) from Bool.false_ne_true)]
  show wpAny _ _ (field (.ref it) 1 >>= _) _ _ s
  refine wpAny_bind (wpAny_field ho hd (x:=.int i 0) rfl ?_)
  show wpAny _ _ (seqItems? (.ref l) >>= _) _ _ s
  refine wpAny_bind (wpAny_seqItems hol hdl ?_)
  simp only [Int.toNat_natCast,hx]
  refine wpAny_bind (wpAny_rule (wpAny_bind (wpAny_setField ho hd (by simp) ?_)))
  show wpAny _ _ (newExc (.type "StopIteration") [] >>= _) _ _ _
  refine wpAny_bind ?_
  simp only [newExc,newTuple]
  refine wpAny_bind (wpAny_newObj_type ?_ (by size_fits))
  refine wpAny_bind (m:=firstArgMember _ _) (wpAny_of_eq (a:=Value.none) (by first|rfl|(simp only [firstArgMember];rfl)) ?_)
  refine wpAny_newObj_type ?_ (by size_fits)
  simp only [raiseNew]
  refine wpAny_bind (wpAny_handled ?_)
  first|rw [show A.in1.handled=none from hh] | rw [hh]
  refine wpAny_bind (wpAny_pure (wpAny_throw ?_))
  exact hE _ _ (((Heap.SameBut.update ..).extBut.push _).push _) ⟨_,Heap.get?_push_size _ rfl,rfl⟩
end
theorem kt {prog:Program}{w:World}{A:Around}(hh:A.handled=none)(it l:Addr)(hne:l≠it)(items:Array Value) :
    Draws prog w A it [it,l] items.size (fun i v=>items[i]? = some v) (fun i h=>h.IsTupleIter it l i∧h.IsTuple l items) where
  live:=fun _ _ st=>let ⟨o,ho,_⟩:=st.1;⟨o,ho⟩
  frame:=fun _ _ _ st hk=>⟨st.1.at fun o e=>hk it (by simp) o e,let ⟨o,ho,r⟩:=st.2;⟨o,hk l (by simp) o ho,r⟩⟩
  item:=fun i s Q E hi st hQ=>by
    have hx:items[i]? = some items[i]:=by simp [hi]
    refine cI st.1 st.2 hx fun h' hit' hs' => ?_
    refine hQ _ h' s.toks hx ⟨hit',?_⟩ hs'
    obtain⟨o,ho,r⟩:=st.2
    exact⟨o,(hs'.2 l hne).trans ho,r⟩
  done:=fun s Q E st hE=>dL hh st.1 st.2 (by simp) hE
def Ite (K:PySem.W.Frag) (a:Addr):It :=
  ⟨fun i H=>∃ xs x,SqT K H a xs∧xs[i]? = some x,fun i H x H'=>∃ q v,x=.ref q∧H q=none∧H'=upd H q (.tup [.int (i:Nat),v]) ∧ ∀ xs,SqT K H a xs→xs[i]? = some v,fun i H=>∃ xs,SqT K H a xs∧xs.length=i⟩
theorem yg {P:Program}{w:World}{K:PySem.W.Frag}{elts:List Expr}{k:Nat}{pos:Pos}(e it a:Addr):uK P w K (.Tuple elts k pos) (Ite K a) [e,it] e (fun i h=>(∃ old,IsEnum h e it (i:Nat) old)∧h.IsTupleIter it a i) where
  mem:=by simp
  obj:=fun i h st b hb=>by
    obtain⟨⟨old,he⟩,o,ho,hc,hd⟩:=st
    rcases List.mem_cons.mp hb with rfl|hb
    · exact⟨_,he,fun v z=>by
        have z':Data.fields _=Data.cell v:=z
        cases z'⟩
    · have:b=it:=by simpa using hb
      subst this
      exact⟨o,ho,fun v z=>by rw [hd] at z;cases z⟩
  keep:=fun i h h' st kk=>by
    obtain⟨⟨old,he⟩,st⟩:=st
    exact⟨⟨old,kk e (by simp) _ he⟩,st.at fun o x=>kk it (by simp) o x⟩
  item:=by
    intro X hP hw hK hc i pins s σ H E I hf st hg
    subst hP hw hK
    obtain⟨⟨old,he⟩,hit⟩:=st
    obtain⟨xs,x,hq,hx⟩:=hg
    obtain⟨its,rv,p,hz⟩:=I.tuple hq
    have ht:s.heap.IsTuple a its.toArray:=p
    obtain⟨oi,hoi,hci,hdi⟩:=id hit
    obtain⟨oa,hoa,hca,na,hda⟩:=id ht
    have hei:e≠it:=fun z=>by
      subst z
      have he':s.heap.get? e=_:=he
      rw [hoi] at he';cases he';exact BW hci (by decide)
    have hea:e≠a:=fun z=>by
      subst z
      have he':s.heap.get? e=_:=he
      rw [hoa] at he';cases he';exact BW hca (by decide)
    have hai:a≠it:=fun z=>by
      subst z
      rw [hoi] at hoa;cases hoa;rw [hci] at hca;exact BW hca (by decide)
    obtain⟨e0,e1,e2,e3,e4,e5⟩:=hf e (by simp)
    obtain⟨f0,f1,f2,f3,f4,f5⟩:=hf it (by simp)
    have hlt:i < its.toArray.size:=by
      have:=(List.getElem?_eq_some_iff.mp hx).1
      have hl:=rv.length
      simp;omega
    refine wpAny_pyNext_enum_itemD (kt (prog:=X.prog) (w:=X.w) (A:=X.A.in1) (I.ok.hd hc) it a hai its.toArray) he ⟨hit,ht⟩ hlt hei (by simp;exact⟨hei,hea⟩) fun y h' tk hy heo hst' htup hsz hk => ?_
    refine⟨_,rfl,wpAny_letOwnedTupleGo_enum heo fun h2 he2 hs2 => ?_⟩
    replace hs2:Heap.SameBut e h' h2:=hs2
    obtain⟨u,hu,ru⟩:=rv.get hx
    have hyu:y=u:=by
      have:its.toArray[i]? = some u:=by simpa using hu
      rw [hy] at this;exact Option.some.inj this
    subst hyu
    have elt:e < s.heap.objs.size:=Heap.lt_size he
    have ilt:it < s.heap.objs.size:=Heap.lt_size hoi
    have hN:H s.heap.objs.size=none:=I.hok.fresh (Nat.le_refl _)
    have keep:∀ b o,b≠e→b≠it→s.heap.get? b=some o→h2.get? b=some o:=fun b o b1 b2 q=>(hs2.2 b b1).trans (hk b o b1 b2 q)
    have htup2:h2.get? s.heap.objs.size=some { cls:=.type "tuple",data:=.seq #[.int i tk,y] }:=(hs2.2 _ (Nat.ne_of_gt elt)).trans htup
    have nch:∀ b,b∉([e,it] : List Addr)→b≠e∧b≠it:=fun b hb=>by simpa using hb
    refine⟨.ref s.heap.objs.size,upd H s.heap.objs.size (.tup [.int (i:Nat),x]),?_,rfl,⟨_,x,rfl,hN,rfl,fun ys hys=>by rw [I.tuple_inj hys hq];exact hx⟩,⟨⟨_,by simpa using he2⟩,hst'.1.extBut hs2.extBut (Ne.symm hei)⟩,fun b hb => ?_⟩
    · suffices I2:L2.Inv X pins σ (upd H s.heap.objs.size (.tup [.int (i:Nat),x])) { s with heap:=h2,gens:=s.gens,drawn:=s.drawn,toks:=tk + 1 } from I2
      refine I.step (g':=s.gens) (d':=s.drawn) (t':=tk + 1) (ch:=[e,it]) (fun b hb => ?_) (fun b o _ _ hb q _=>keep b o (nch b hb).1 (nch b hb).2 q) (fun b o _ _ hb q _=>⟨o.slots,keep b o (nch b hb).1 (nch b hb).2 q⟩) (fun b o _ q n => ?_) (fun b o hb q=>⟨o,keep b o (nch b hb).1 (nch b hb).2 q⟩)
        (fun b ys q => ?_) (fun b o u q => ?_) (fun b ps q=>⟨#[],?_⟩) (fun m hm => ?_) (fun b u q => ?_) I.bare
      · rcases List.mem_cons.mp hb with rfl|hb
        · exact⟨e3,e1,e4,e5⟩
        · have:b=it:=by simpa using hb
          subst this
          exact⟨f3,f1,f4,f5⟩
      · rw [aq (Nat.ne_of_lt (Heap.lt_size q))];exact n
      · rw [aq (aE q hN)];exact q
      · rw [aq (aE q hN)];exact q
      · rw [aq (aE q hN),q];simp
      · obtain⟨o,es,ep,ho,r⟩:=hm
        exact⟨o,es,ep,keep _ o (Ne.symm e1) (Ne.symm f1) ho,r⟩
      · by_cases hb:b=s.heap.objs.size
        · subst hb
          rw [aS] at q
          cases q
          exact⟨by show 2≤sizeLine;rw [sizeLine_eq];decide,[.int i tk,y],.cons ⟨tk,rfl⟩ (.cons ru .nil),⟨_,htup2,rfl,_,rfl⟩,_,htup2,rfl⟩
        · rw [aq hb] at q
          have ne1:∀ c v,H c=some v→c≠e:=fun c v z w=>by rw [w,e0] at z;cases z
          have ne2:∀ c v,H c=some v→c≠it:=fun c v z w=>by rw [w,f0] at z;cases z
          refine (I.hok b u q).stay (fun c v hc' z => ?_) (fun c z=>by rw [aq (aE z hN)];exact z) fun c ys z=>by rw [aq (aE z hN)];exact z
          rcases hc' with w|w
          · subst w;exact keep c v (ne1 c _ q) (ne2 c _ q) z
          · exact keep c v (ne1 c _ w) (ne2 c _ w) z
    · have:b≠s.heap.objs.size:=by
        rcases List.mem_cons.mp hb with rfl|hb
        · exact Nat.ne_of_lt elt
        · have:b=it:=by simpa using hb
          subst this
          exact Nat.ne_of_lt ilt
      rw [aq this]
      exact (hf b hb).1
  done:=by
    intro X hP hw hK hc i pins s σ H E I hf st hg
    subst hP hw hK
    obtain⟨⟨old,he⟩,hit⟩:=st
    obtain⟨xs,hq,hx⟩:=hg
    obtain⟨its,rv,p,hz⟩:=I.tuple hq
    have ht:s.heap.IsTuple a its.toArray:=p
    obtain⟨oi,hoi,hci,hdi⟩:=id hit
    obtain⟨oa,hoa,hca,na,hda⟩:=id ht
    have hai:a≠it:=fun z=>by
      subst z
      rw [hoi] at hoa;cases hoa;rw [hci] at hca;exact BW hca (by decide)
    obtain⟨f0,f1,f2,f3,f4,f5⟩:=hf it (by simp)
    have hsz:its.toArray.size=i:=by have:=rv.length;simp;omega
    refine wpAny_pyNext_enum_endD (kt (prog:=X.prog) (w:=X.w) (A:=X.A.in1) (I.ok.hd hc) it a hai its.toArray) he ⟨by rw [hsz];exact hit,ht⟩ fun h' hx'=>⟨rfl,I.turned (t':=s.toks) (fun b o hb e=>hx' b o hb e) f0 f1 f3 f4 f5⟩
  self:=fun _ _ _ _ _ st h=>by
    obtain⟨⟨old,he⟩,_⟩:=st
    exact wpAny_pyIter_enum he h
section
variable {X:Cx} {pos p tp:Pos} {elts:List Expr} {tk:Nat}
def iEn (K:PySem.W.Frag) (ta:TE):TI:=fun σ H R=>ta σ H fun x H1=>∃ a xs,x=.ref a∧SqT K H1 a xs∧(xs.length≤sizeLine→R (Ite K a) H1)
theorem BX {a:Expr} {ta:TE} (hg:Gl X "enumerate") (hm:X.mg "enumerate" = none) (ha:PE X a ta) (hs:starEach [a] X.env=[(false,eval a X.env)]:=by rfl):PI X (.Tuple elts tk tp) (.Call (.Name "enumerate" p) [a] [] pos) (iEn X.K ta):=by
  intro pins s σ H R I h
  have hpa:=bT ha dH hs
  refine Call_ (jH I hg hm PyProof.Rows.boot_enumerate (PyProof.Rows.callWith_type1 (thn (hpa pos pins s σ H (fun vs H1=>∃ a xs,vs=[.ref a]∧SqT X.K H1 a xs∧(xs.length≤sizeLine→R (Ite X.K a) H1)) I ?_) fun us s1 ⟨vs,H1,I1,r1,q1⟩ => ?_) hs rfl))
  · show ta σ H fun x H1=>_
    have key:∀ (x:V) (H1:Hp),(∃ a xs,x=.ref a∧SqT X.K H1 a xs∧(xs.length≤sizeLine→R (Ite X.K a) H1))=(∃ a xs,[x] = [.ref a]∧SqT X.K H1 a xs∧(xs.length≤sizeLine→R (Ite X.K a) H1)):=fun x H1=>by simp
    have h':ta σ H fun x H1=>∃ a xs,x=.ref a∧SqT X.K H1 a xs∧(xs.length≤sizeLine→R (Ite X.K a) H1):=h
    simp only [key] at h'
    exact h'
  · obtain⟨a,xs,e,hq,q⟩:=q1
    subst e
    obtain⟨u,rfl,ru⟩:=aT.one r1
    cases (show u=Value.ref a from ru)
    obtain⟨its,rv,pt,hz⟩:=I1.tuple hq
    refine gM (show s1.heap.IsTuple a its.toArray from pt) fun h' he hit hsz hk => ?_
    refine wpAny_pyIter_enum (s:={ s1 with heap:=h' }) he ?_
    have I2:Inv X pins σ H1 { s1 with heap:=h' }:=I1.kept (t':=s1.toks) hk
    refine⟨s1.heap.objs.size + 1,[s1.heap.objs.size + 1,s1.heap.objs.size],_,_,H1,rfl,I2,yg (s1.heap.objs.size + 1) s1.heap.objs.size a,⟨⟨_,by simpa using he⟩,hit⟩,fun b hb => ?_,q hz⟩
    have hb':s1.heap.objs.size≤b:=by
      rcases List.mem_cons.mp hb with e|hb
      · rw [e];exact Nat.le_succ _
      · have:b=s1.heap.objs.size:=by simpa using hb
        rw [this];exact Nat.le_refl _
    exact I1.fpOk hb' (I1.hok.fresh hb')
theorem yh {K:PySem.W.Frag}{ρ:List Addr}{H:Hp}{hd:Hd}{q:Addr}{l:List D}{vs:List V}(r:RH K ρ H hd)(hq:H q=some (.tup vs))(rv:RDs K ρ H l vs)(hz:vs.length≤sizeLine) :
    lS K ρ H (Ite K q) ((List.range l.length).zip l |>.map fun p=>.tup [.int (p.1:Nat),p.2]) none where
  go:=fun ρ' H' hd' i d ex rh _ hi=>by
    have k:=r.kp ex
    obtain⟨hil,hi2⟩:=List.getElem?_eq_some_iff.mp hi
    have hl:i < l.length:=by simpa using hil
    have hd:d=.tup [.int (i:Nat),l[i]]:=by rw [← hi2];simp
    subst hd
    obtain⟨v,hv,rd⟩:=(rv.mono k).get (i:=i) (d:=l[i]) (by simp [hl])
    have sq:SqT K H' q vs:=SqT.of (k.tup q vs hq)
    refine⟨⟨vs,v,sq,hv⟩,fun x H2 y => ?_⟩
    obtain⟨q2,v2,rfl,hn,rfl,y⟩:=y
    have:=y vs sq
    rw [hv] at this
    cases this
    have sm:=bX (o:=HO.tup [.int (i:Nat),v]) hn
    refine⟨sm,?_⟩
    simp only [RD]
    exact⟨q2,_,rfl,aS,RDs.cons (by simp only [RD]) (RDs.cons (rd.mono (Kp.same sm)) RDs.nil)⟩
  stop:=fun ρ' H' hd' ex rh _=>⟨vs,SqT.of ((r.kp ex).tup q vs hq),by rw [← rv.length];simp⟩
  sz:=by
    have:=rv.length
    simp;omega
theorem BY {a:Expr} {f:EF} (hg:Gl X "enumerate") (hm:X.mg "enumerate" = none) (ha:ME X a f) (hs:starEach [a] X.env=[(false,eval a X.env)]:=by rfl):MI X (.Tuple elts tk tp) (.Call (.Name "enumerate" p) [a] [] pos) (zM f):=by
  refine PI.imp (BX hg hm ha hs) fun σ H R ⟨ρ,σd,hd,rs,pp⟩=>⟨ρ,σd,hd,rs,?_⟩
  unfold zM at pp
  cases e:f σd hd with
  | exc x h1=>rw [e] at pp;exact pp
  | bad=>rw [e] at pp;exact pp
  | ok d hd1 =>
    rw [e] at pp
    simp only [aM] at pp
    intro v H1 ρ1 ex1 rs1 rv
    cases d<;>try exact pp.elim
    rename_i l
    simp only [rD,RD] at rv
    obtain⟨q,vs,rfl,hq,rvs⟩:=rv
    exact⟨q,vs,rfl,SqT.of hq,fun hz=>pp _ H1 ρ1 ex1 rs1 (yh rs1.hp hq rvs hz)⟩
end
end Fm
set_option Elab.async false
set_option linter.all false
set_option maxRecDepth 100000
namespace Fm
open PySem PySem.Spec L2 PySem.W PyProof.Rows
section
variable {prog:Program} {w:World} {A:Around} {E:Value→Shared→Prop} {s:Shared}
theorem lW {a:Addr} {vs:List Value} {n:Nat} {P:PySem.Fin→Shared→Prop} (ho:s.heap.get? a=some (seqObj "list" vs.toArray n)) (h2:vs.length < 2)
    (h:P (.done (.ret .none)) { s with heap:=sortedHeap s.heap a vs vs.toArray }):wpAny (model prog w) A (Builtin.«list.sort» ⟨[.ref a],[]⟩) P E s:=by
  rw [list_sort_plain]
  have ha:a < s.heap.objs.size:=Heap.lt_size ho
  refine wpAny_bind (listItems_at ho rfl ?_)
  refine wpAny_bind (listUpdate_at ho rfl ?_)
  obtain⟨e1,ho1⟩ : ∃ e1,(s.heap.update a (Obj.mapSeq fun _ => #[])).get? a=some (seqObj "list" #[] e1):=⟨_,get?_update_seq ho (fun _ => #[])⟩
  refine wpAny_bind (seqEpoch_at ho1 rfl ?_)
  refine wpAny_bind (wpAny_newTuple ?_)
  refine wpAny_bind (wpAny_newList ?_)
  refine wpAny_holding ?_
  have ho6:(((s.heap.update a (Obj.mapSeq fun _ => #[])).push (seqObj "tuple" vs.toArray 0)).push (seqObj "list" #[] 0)).get? a=some (seqObj "list" #[] e1):=by
    rw [Heap.get?_push_ne _ _ _ (by rw [size_push',Heap.size_update];exact Nat.ne_of_lt (Nat.lt_succ_of_lt ha)),Heap.get?_push_ne _ _ _ (by rw [Heap.size_update];exact Nat.ne_of_lt ha)]
    exact ho1
  show wpAny (model prog w) A _ P E { s with heap:=((s.heap.update a (Obj.mapSeq fun _ => #[])).push (seqObj "tuple" vs.toArray 0)).push (seqObj "list" #[] 0) }
  dsimp only
  have hsz:vs.toArray.size=vs.length:=by simp
  have h2':vs.toArray.size < 2:=by rw [hsz];exact h2
  rw [if_pos h2',if_pos h2']
  refine wpAny_bind (wpAny_pure ?_)
  rw [StateT.run_pure]
  refine wpAny_bind (wpAny_pure ?_)
  dsimp only
  refine wpAny_bind (seqEpoch_at ho6 rfl ?_)
  refine wpAny_bind (listUpdate_at ho6 rfl ?_ (hsz2:=by rw [Array.size_map];show (pairsOf vs).size≤_;rw [pairsOf_size,sizeLine_eq];omega))
  simp only [bne_self_eq_false,Bool.false_eq_true,if_false]
  have e:(arrOf (SortSt.mk' general' (vs.toArray.zip vs.toArray) #[] 7 none)).map (·.2)=vs.toArray:=by
    show (vs.toArray.zip vs.toArray).map (·.2)=vs.toArray
    apply Array.ext
    · simp
    · intro i h1 h2
      simp
  refine wpAny_pure ?_
  have h':=h
  unfold sortedHeap at h'
  rw [e]
  exact h'
theorem qy {l:Addr}{vs:List Value}{Q:Value→Shared→Prop}(hl:s.heap.IsList l vs.toArray)(h2:vs.length < 2)
    (h:∀ h' n,(∀ b o,s.heap.get? b=some o→h'.get? b=some o)→h'.get? (s.heap.objs.size + 1)=some (seqObj "list" vs.toArray n)→Q (.ref (s.heap.objs.size + 1)) { s with heap:=h' }) :
    wpAny (model prog w) A (call (.builtin "sorted") [.ref l]) Q E s:=by
  refine Calls.call_function_entry kind_sorted plain_sorted entry_sorted (args_sorted1 _) ?_
  unfold Builtin.«sorted»
  refine wpAny_bind (m:=checkCount "sorted" 1 1 _) (wpAny_pure ?_)
  refine wpAny_bind (collect_list hl ?_ (by rw [sizeLine_eq];omega))
  refine wpAny_bind (wpAny_newList ?_ (by rw [sizeLine_eq];omega))
  have hsz:((s.heap.push (seqObj "list" #[] 0)).update s.heap.objs.size (Obj.mapSeq (· ++ vs.toArray))).objs.size=s.heap.objs.size + 1:=by
    rw [Heap.size_update,size_push']
  have hoL:(((s.heap.push (seqObj "list" #[] 0)).update s.heap.objs.size (Obj.mapSeq (· ++ vs.toArray))).push (seqObj "list" vs.toArray 0)).get? (s.heap.objs.size + 1)=some (seqObj "list" vs.toArray 0):=by
    rw [← hsz];exact Heap.get?_push_size _ rfl
  have keep:∀ b o,s.heap.get? b=some o→(((s.heap.push (seqObj "list" #[] 0)).update s.heap.objs.size (Obj.mapSeq (· ++ vs.toArray))).push (seqObj "list" vs.toArray 0)).get? b=some o:=fun b o q=>by
    have hlt:b < s.heap.objs.size:=Heap.lt_size q
    rw [Heap.get?_push_ne _ _ _ (by rw [hsz];exact Nat.ne_of_lt (Nat.lt_succ_of_lt hlt)),Heap.get?_update_ne _ _ _ _ (Nat.ne_of_lt hlt),Heap.get?_push_ne _ _ _ (Nat.ne_of_lt hlt)]
    exact q
  show wpAny _ _ _ _ _ { s with heap:=((s.heap.push (seqObj "list" #[] 0)).update s.heap.objs.size (Obj.mapSeq (· ++ vs.toArray))).push (seqObj "list" vs.toArray 0) }
  rw [hsz]
  generalize hG:((s.heap.push (seqObj "list" #[] 0)).update s.heap.objs.size (Obj.mapSeq (· ++ vs.toArray))).push (seqObj "list" vs.toArray 0)=G at hoL keep
  have hGs:G.objs.size=s.heap.objs.size + 2:=by rw [← hG,size_push',hsz]
  refine wpAny_bind (wpAny_holding (wpAny_call_entry slot_list_sort (s:={ s with heap:=G }) ⟨_,hoL,rfl⟩ entry_list_sort (lW hoL h2 ⟨_,rfl,?_⟩) (args_list_sort _)))
  refine wpAny_pure ⟨_,rfl,?_⟩
  have hlt1:s.heap.objs.size + 1 < G.objs.size:=by omega
  obtain⟨e1,ho1⟩ : ∃ e1,(G.update (s.heap.objs.size + 1) (Obj.mapSeq fun _ => #[])).get? (s.heap.objs.size + 1)=some (seqObj "list" #[] e1):=⟨_,get?_update_seq hoL (fun _ => #[])⟩
  have ho6:(((G.update (s.heap.objs.size + 1) (Obj.mapSeq fun _ => #[])).push (seqObj "tuple" vs.toArray 0)).push (seqObj "list" #[] 0)).get? (s.heap.objs.size + 1)=some (seqObj "list" #[] e1):=by
    rw [Heap.get?_push_ne _ _ _ (by rw [size_push',Heap.size_update];exact Nat.ne_of_lt (Nat.lt_succ_of_lt hlt1)),Heap.get?_push_ne _ _ _ (by rw [Heap.size_update];exact Nat.ne_of_lt hlt1)]
    exact ho1
  refine h _ _ (fun b o q => ?_) (get?_update_seq ho6 _)
  have hlt:b < s.heap.objs.size:=Heap.lt_size q
  unfold sortedHeap
  have n1:b≠s.heap.objs.size + 1:=Nat.ne_of_lt (Nat.lt_succ_of_lt hlt)
  have n2:b < G.objs.size:=by rw [hGs];exact Nat.lt_succ_of_lt (Nat.lt_succ_of_lt hlt)
  rw [Heap.get?_update_ne _ _ _ _ n1,Heap.get?_push_ne _ _ _ (by rw [size_push',Heap.size_update];exact Nat.ne_of_lt (Nat.lt_succ_of_lt n2)),Heap.get?_push_ne _ _ _ (by rw [Heap.size_update];exact Nat.ne_of_lt n2),Heap.get?_update_ne _ _ _ _ n1]
  exact keep b o q
theorem z9 {Q:Bool→Shared→Prop}:∀ (ns ms:List Int) {xs ys:List Value} (i:Nat),IntsAre xs ns→IntsAre ys ms→Q (Fm.bw ns ms) s→KatLex prog w A true (decide (xs.length < ys.length)) Q (xs.zip ys) i s:=by
  intro ns
  induction ns with
  | nil =>
    intro ms xs ys i hx hy h
    cases hx
    cases ms with
    | nil=>cases hy;exact h
    | cons m ms =>
      cases hy
      have h':Q true s:=h
      exact h'
  | cons n ns ih =>
    intro ms xs ys i hx hy h
    cases hx with
    | cons _ t r =>
      cases ms with
      | nil =>
        cases hy
        have h':Q false s:=h
        exact h'
      | cons m ms =>
        cases hy with
        | cons _ t' r' =>
          rename_i xs ys
          refine kat_cons (SeqAt.EqAt.int_int n t m t' prog w _ _ ?_)
          by_cases e:n=m
          · subst e
            rw [show (n == n)=true by simp]
            refine kat_yes ?_
            have h':Q (Fm.bw ns ms) s:=by simpa [Fm.bw] using h
            have:=ih ms (i + 1) r r' h'
            have e2:decide ((Value.int n t :: xs).length < (Value.int n t' :: ys).length)=decide (xs.length < ys.length):=by simp
            rw [e2]
            exact this
          · rw [show (n == m)=false by simpa using e]
            refine kat_no ?_
            have h':Q (decide (n < m)) s:=by simpa [Fm.bw,e] using h
            cases i with
            | zero=>exact oneLt_int h'
            | succ i =>
              have:(true && (i + 1 == 0))=false:=by simp
              rw [this]
              exact kat_one _ _ (lt_int (by first|exact⟨_,rfl,h'⟩|exact h'))
theorem Aa {cmp:Nat→Nat→(Bool→Shared→Prop)→Shared→Prop}{n:Nat}{Q:Nat→Shared→Prop}(hc:∀ m,1≤m→m < n → ∀ C:Bool→Shared→Prop,C false s→cmp m (m - 1) C s)(q:Q n s) :
    ∀ (f m:Nat),1≤m→m + f=n→(kas_asc (List.toArray (List.range n)) f m).kasWp cmp Q s
  | 0,m,_,e=>by
    have:m=n:=by omega
    subst this
    exact q
  | f + 1,m,h1,e=>by
    have g1:(List.toArray (List.range n)).getD m 0=m:=by simp [Array.getD,show m < n by omega]
    have g2:(List.toArray (List.range n)).getD (m - 1) 0=m - 1:=by simp [Array.getD,show m - 1 < n by omega]
    show cmp _ _ _ _
    rw [g1,g2]
    refine hc m h1 (by omega) _ ?_
    show KasT.kasWp cmp (if false=true then _ else _) Q s
    rw [if_neg Bool.false_ne_true]
    exact Aa hc q f (m + 1) (by omega) (by omega)
theorem sT {cmp:Nat→Nat→(Bool→Shared→Prop)→Shared→Prop}{n:Nat}{Q:Array Nat→Shared→Prop}(h2:2≤n)(hc:∀ m,1≤m→m < n → ∀ C:Bool→Shared→Prop,C false s→cmp m (m - 1) C s)(q:Q (List.toArray (List.range n)) s) :
    (kas_sort n).kasWp cmp Q s:=by
  unfold kas_sort
  rw [KasT.kasWp_bind]
  unfold kas_count
  rw [KasT.kasWp_bind]
  refine Aa hc ?_ (n - 1) 1 (Nat.le_refl _) (by omega)
  rw [if_pos (by simp)]
  show KasT.kasWp cmp (if n < n then _ else _) Q s
  rw [if_neg (Nat.lt_irrefl _)]
  exact q
end
theorem Ab {h:Heap}{a:Addr}{m m':Str→Option Value}(x:h.Ns a m)(y:h.Ns a m'):m=m':=by
  obtain⟨o,es,ep,ho,hd,_,r⟩:=x
  obtain⟨o',es',ep',ho',hd',_,r'⟩:=y
  rw [ho] at ho';cases ho'
  rw [hd] at hd';cases hd'
  funext z
  rw [← r z,← r' z]
theorem D4 {P:Program}{w:World}{H:Hp}{h:Heap}{a:Addr}{o:HO}(x:cZ P w H h a o):∃ u,h.get? a=some u:=by
  cases o with
  | lst xs=>obtain⟨_,_,_,_,e⟩:=x;exact⟨_,e⟩
  | tup xs=>obtain⟨_,_,_,⟨_,e,_⟩,_⟩:=x;exact⟨_,e⟩
  | dK kvs=>obtain⟨_,_,_,_,_,_,_,e,_⟩:=x;exact⟨_,e⟩
  | dT kvs=>obtain⟨_,_,_,_,_,_,_,e,_⟩:=x;exact⟨_,e⟩
  | set S n=>obtain⟨_,_,_,_,e,_⟩:=x;exact⟨_,e⟩
  | ins C dx fs=>obtain⟨_,_,_,e,_⟩:=x;exact⟨_,e⟩
  | own y=>exact x
  | xd fs=>obtain⟨_,⟨_,_,_,e,_⟩,_⟩:=x;exact⟨_,e⟩
  | rng lo hi=>obtain⟨_,_,_,e⟩:=x;exact⟨_,e⟩
  | frz ob u=>exact⟨_,x.1⟩
  | tbl ps=>exact⟨_,x⟩
  | met f y=>exact⟨_,x⟩
  | ext φ => exact x.2.1
inductive bG (H:Hp):List V→List (List Int)→Prop
  | nil:bG H [] []
  | cons {a:Addr} {r:List Int} {vs:List V} {rs:List (List Int)}:H a=some (.tup (r.map V.int))→bG H vs rs→bG H (.ref a :: vs) (r :: rs)
theorem bG.get {H:Hp}:∀ {vs:List V} {rs:List (List Int)} {i:Nat} {v:V},bG H vs rs→vs[i]? = some v → ∃ a,v=.ref a∧H a=some (.tup ((rs.getD i []).map V.int))
  | _,_,_,_,.nil,e=>by simp at e
  | _,_,0,_,.cons h t,e=>by simp at e;subst e;exact⟨_,rfl,h⟩
  | _,_,i + 1,v,.cons h t,e=>by
    obtain⟨a,h1,h2⟩:=bG.get (i:=i) (v:=v) t (by simpa using e)
    exact⟨a,h1,by simpa using h2⟩
theorem bG.length {H:Hp}:∀ {vs:List V} {rs:List (List Int)},bG H vs rs→vs.length=rs.length
  | _,_,.nil=>rfl
  | _,_,.cons _ t=>by simp [bG.length t]
theorem sU:∀ {rs:List (List Int)} {m:Nat},qi rs=true→1≤m→m < rs.length→Fm.bw (rs.getD m []) (rs.getD (m - 1) [])=false
  | [],m,_,_,h=>by simp at h
  | [r],m,_,h1,h=>by simp at h;omega
  | a :: b :: r,m,h,h1,hl=>by
    simp only [qi,Bool.and_eq_true,Bool.not_eq_true'] at h
    cases m with
    | zero=>omega
    | succ m =>
      cases m with
      | zero=>simpa using h.1
      | succ m =>
        have:=sU (rs:=b :: r) (m:=m + 1) h.2 (by omega) (by simpa using hl)
        simpa using this
section
variable {X:Cx} {pos p:Pos}
def Fq (K:PySem.W.Frag):List V→Hp→VK→Prop:=fun xs H Q=>∃ (a:Addr) (vs:List V) (rs:List (List Int)),xs=[.ref a]∧SqL K H a vs∧vs.length < 64∧bG H vs rs∧qi rs=true∧(rs.all fun x => !x.isEmpty)=true ∧ ∀ q,H q=none→Q (.ref q) (upd H q (.lst vs))
theorem qz {i:Int}{u:Value}(r:bh (.int i) u):∃ t,u=.int i t:=r
theorem sV {P:Program}{w:World}{H:Hp}{h h':Heap}(hok:HOk P w H h)(hk:∀ b o u,H b=some u→h.get? b=some o→h'.get? b=some o):∀ {vs:List V} {rs:List (List Int)} {its:List Value},bG H vs rs→aT vs its→(rs.all fun x => !x.isEmpty)=true →
    ∃ fs,KatTups h' its fs∧fs.length=its.length ∧ ∀ v∈fs,∃ i t,v=Value.int i t
  | _,_,_,.nil,.nil,_=>⟨[],.nil,rfl,fun v hv=>by simp at hv⟩
  | _,_,_,.cons (a:=a) (r:=r) ha t,.cons rv rt,hne=>by
    simp only [List.all_cons,Bool.and_eq_true,Bool.not_eq_true'] at hne
    obtain⟨fs,h1,h2,h3⟩:=sV hok hk t rt hne.2
    obtain⟨z,its0,r0,⟨o,ho,hc,n,hd⟩,_⟩:=hok a _ ha
    cases r with
    | nil=>simp at hne
    | cons i r =>
      cases r0 with
      | cons q0 qr =>
        rename_i u us
        obtain⟨tk,rfl⟩:=qz q0
        cases rv
        refine⟨.int i tk :: fs,KatTups.cons (hk a o _ ha ho) hc hd (by simp) h1,by simp [h2],fun v hv => ?_⟩
        rcases List.mem_cons.mp hv with rfl|hv
        · exact⟨i,tk,rfl⟩
        · exact h3 v hv
theorem uY:eU X (.builtin "sorted") (Fq X.K):=by
  intro pins s σ H xs us Q I r h
  obtain⟨a,vs,rs,rfl,sq,h64,rv,asc,hne,q⟩:=h
  obtain⟨u,rfl,ru⟩:=aT.one r
  cases (show u=Value.ref a from ru)
  obtain⟨its,rvs,pl,hz⟩:=I.list sq
  have hl:s.heap.IsList a its.toArray:=pl.isList
  have hlen:its.length=vs.length:=rvs.length.symm
  by_cases h2:its.length < 2
  · refine qy hl h2 fun h' n hk ho => ?_
    exact⟨.ref (s.heap.objs.size + 1),_,I.laid (t':=s.toks) (o:=.lst vs) hk (Nat.le_succ _) ⟨hz,its,n,rvs,ho⟩,rfl,q _ (I.hok.fresh (Nat.le_succ _))⟩
  · obtain⟨m,hm,_⟩:=id I.loc
    have N0:News (Att.noObjs s.heap) X.env.locals s.heap (Att.ledger s.heap X.env.locals X.env.locals):=fun ⟨b,o⟩ hb=>by
      obtain⟨n1,n2,e⟩:=Att.mem_ledger.mp hb
      exact⟨e,n1,Att.noObjs_get _ _⟩
    refine kat_sorted (Att.fr_all hm) N0 hl (by omega) (by omega) fun D e1 h' F' N' lo => ?_
    have inN:∀ b o,b≠X.env.locals→s.heap.get? b=some o→(b,o)∈Att.ledger s.heap X.env.locals X.env.locals:=fun b o hb e=>Att.mem_ledger.mpr ⟨hb,hb,e⟩
    have keep':∀ b o,b≠X.env.locals→s.heap.get? b=some o→h'.get? b=some o:=fun b o hb e=>(N' (b,o) (List.mem_cons_of_mem _ (inN b o hb e))).1
    have nL:∀ b u,H b=some u→b≠X.env.locals:=fun b u e z=>by rw [z,I.free] at e;cases e
    obtain⟨fs,t1,t2,t3⟩:=sV I.hok (h':=h') (fun b o u hb e=>keep' b o (nL b u hb) e) rv rvs hne
    refine kat_kind (s:={ s with heap:=h' }) (T:=.type "int") t1 (by omega) (fun v hv => ?_) rfl ?_
    · obtain⟨i,t,rfl⟩:=t3 v hv
      exact Looks.of_pure rfl
    · have hT:(Value.type "int" != Value.type "tuple")=true:=by decide
      rw [hT]
      refine sT (by omega) (fun k h1 hk C hC => ?_) ?_
      · have cmp:∀ (i j:Nat),i < its.length→j < its.length → ∀ C:Bool→Shared→Prop,C (Fm.bw (rs.getD i []) (rs.getD j [])) { s with heap:=h' } → kas_ask X.prog X.w X.A.in1.in1 (tuples' true) its i j C { s with heap:=h' }:=fun i j hi hj C hC=>by
          unfold kas_ask
          have at':∀ i,i < its.length → ∃ b,its.getD i Value.none=.ref b ∧ ∃ (o:Obj) (zs:List Value) (n:Nat),h'.get? b=some o∧o.data=.seq zs.toArray n∧IntsAre zs (rs.getD i []):=fun i hi=>by
            have hv:vs[i]? = some (vs[i]'(by omega)):=by simp [show i < vs.length by omega]
            obtain⟨b,e1,e2⟩:=rv.get hv
            obtain⟨u,hu,ru⟩:=rvs.get hv
            rw [e1] at ru
            cases (show u=Value.ref b from ru)
            obtain⟨z,zs,r0,⟨o,ho,hc,n,hd⟩,_⟩:=I.hok b _ e2
            exact⟨b,by simp [List.getD,hu],o,zs,n,keep' b o (nL b _ e2) ho,hd,lF r0⟩
          obtain⟨b1,x1,o1,z1,n1,y1,d1,i1⟩:=at' i hi
          obtain⟨b2,x2,o2,z2,n2,y2,d2,i2⟩:=at' j hj
          rw [x1,x2]
          refine kat_lt (s:={ s with heap:=h' }) y1 d1 y2 d2 ?_
          have:=z9 (prog:=X.prog) (w:=X.w) (A:=X.A.in1.in1) (s:={ s with heap:=h' }) (Q:=C) (rs.getD i []) (rs.getD j []) 0 i1 i2 hC
          simpa using this
        refine cmp k (k - 1) hk (by omega) C ?_
        rw [sU asc h1 (by rw [← rv.length];omega)]
        exact hC
      · have eo:((List.toArray (List.range its.length)).toList.map fun i=>its.getD i Value.none)=its:=by
          apply List.ext_getElem
          · simp
          · intro i h1 h2
            simp [List.getD,h2]
        rw [eo]
        have hDn:∀ q∈Att.ledger s.heap X.env.locals X.env.locals,q.1≠D:=fun q hq=>Nat.ne_of_lt (lo q hq)
        refine KasFin.intro F' N' (UpdF.head hDn) fun h2 c F2 N2 => ?_
        have DL:D≠X.env.locals:=(N' (D,_) (List.mem_cons_self ..)).2.1
        have hD2:h2.get? D=some (PySem.W.listOf its.toArray c):=(N2 (D,_) (List.mem_cons_self ..)).1
        have keep2:∀ b o,b≠X.env.locals→s.heap.get? b=some o→h2.get? b=some o:=fun b o hb e=>(N2 (b,o) (List.mem_cons_of_mem _ (inN b o hb e))).1
        have bD:∀ b o,s.heap.get? b=some o→b≠D:=fun b o e=>by
          by_cases hb:b=X.env.locals
          · rw [hb];exact Ne.symm DL
          · exact hDn (b,o) (inN b o hb e)
        have HD:H D=none:=by
          cases e:H D with
          | none=>rfl
          | some u =>
            have lt:=I.hok.lt e
            have:∃ o,s.heap.get? D=some o:=by
              have ok:=I.hok D u e
              exact D4 ok
            obtain⟨o,ho⟩:=this
            exact absurd rfl (bD D o ho)
        refine⟨.ref D,upd H D (.lst vs),?_,rfl,q D HD⟩
        suffices I2:L2.Inv X pins σ (upd H D (.lst vs)) { s with heap:=h2,gens:=s.gens,drawn:=s.drawn,toks:=s.toks } from I2
        refine I.step (g':=s.gens) (d':=s.drawn) (t':=s.toks) (ch:=[]) (fun _ z=>nomatch z) (fun b o hb _ _ e _=>keep2 b o hb e) (fun b o hb _ _ e _=>⟨o.slots,keep2 b o hb e⟩) (fun b o _ e n=>by rw [aq (bD b o e)];exact n) (fun b o _ e => ?_)
          (fun b ys e=>by rw [aq (aE e HD)];exact e) (fun b o u e=>by rw [aq (aE e HD)];exact e) (fun b ps e=>⟨#[],by rw [aq (aE e HD),e];simp⟩) (fun m' hm'=>by rw [Ab hm' hm];exact F2.ns) (fun b u e => ?_) I.bare
        · by_cases hb:b=X.env.locals
          · obtain⟨o',_,_,ho',_⟩:=F2.ns
            rw [hb];exact⟨o',ho'⟩
          · exact⟨o,keep2 b o hb e⟩
        · by_cases hb:b=D
          · subst hb
            rw [aS] at e
            cases e
            exact⟨hz,its,c,rvs,hD2⟩
          · rw [aq hb] at e
            refine (I.hok b u e).stay (fun c v hc z => ?_) (fun c z=>by rw [aq (aE z HD)];exact z) fun c ys z=>by rw [aq (aE z HD)];exact z
            rcases hc with w|w
            · subst w;exact keep2 c v (nL c _ e) z
            · exact keep2 c v (nL c _ w) z
theorem lX {K:PySem.W.Frag}{ρ:List Addr}{H:Hp}:∀ {l:List D} {vs:List V} {rs:List (List Int)},RDs K ρ H l vs→lI l=some rs→bG H vs rs
  | [],_,_,r,e=>by simp only [lI] at e;cases e;simp only [RDs] at r;subst r;exact .nil
  | d :: l,_,rs,r,e=>by
    simp only [RDs] at r
    obtain⟨v,vs,rfl,h1,h2⟩:=r
    cases d<;>simp only [lI] at e<;>try (cases e;done)
    rename_i l1
    cases c1:eF l1 with
    | none=>rw [c1] at e;cases e
    | some is =>
      cases c2:lI l with
      | none=>rw [c1,c2] at e;cases e
      | some r2 =>
        rw [c1,c2] at e
        cases e
        simp only [RD] at h1
        obtain⟨p,ws,rfl,hp,rws⟩:=h1
        have:=lQ rws c1
        subst this
        exact .cons hp (lX h2 c2)
theorem Ac {a:Expr} {fa:EF} (hg:Gl X "sorted") (hm:X.mg "sorted" = none) (ha:ME X a fa) (hs:starEach [a] X.env=(false,eval a X.env) :: starEach [] X.env:=by rfl):MF X (.Call (.Name "sorted" p) [a] [] pos) (jK fa):=by
  refine PE.imp (fE uY hg hm (by decide +kernel) (bT ha dH hs) (he:=hs)) fun σ H Q ⟨ρ,σd,hd,rs,pp⟩=>⟨ρ,σd,hd,rs,?_⟩
  unfold jK at pp
  cases e:fa σd hd with
  | exc x h'=>rw [e] at pp;exact pp
  | bad=>rw [e] at pp;exact pp
  | ok d hd1 =>
    rw [e] at pp
    simp only [aM] at pp
    intro v H1 ρ1 e1 rs1 rv
    cases c:dz hd1 d with
    | none=>rw [c] at pp;exact pp.elim
    | some l =>
      rw [c] at pp
      simp only at pp
      cases c2:lh l with
      | none=>rw [c2] at pp;exact pp.elim
      | some l' =>
        rw [c2] at pp
        simp only [lh] at c2
        cases c3:lI l with
        | none=>rw [c3] at c2;cases c2
        | some r =>
          rw [c3] at c2
          simp only at c2
          split at c2
          · rename_i hc
            cases c2
            obtain⟨q,vs,rfl,sq,rvs⟩:=jd rs1.hp rv c
            exact⟨q,vs,r,rfl,sq,by rw [← rvs.length];exact hc.1,lX rvs c3,hc.2.1,hc.2.2,pp.mk e1 rs1 rvs⟩
          · cases c2
end
end Fm
set_option Elab.async false
set_option linter.all false
set_option maxRecDepth 100000
namespace Fm
open PySem PySem.Spec L2
section
variable {X:Cx}
theorem mv (i:Nat) {x:Str} {pos:Pos} (hN:X.N[i]? = some x:=by rfl) (hv:Vis X.env.scope x:=by first|exact Or.inl rfl|exact Or.inr (Or.inl rfl)|exact Or.inr (Or.inr rfl)) (hd:(x == ("__debug__" : Str))=false:=by decide)
    (hcd:(x == ("__classdict__" : Str))=false:=by decide):ME X (.Name x pos) (aa i):=DO hN hv hd hcd
end
theorem dZ {k:Nat}{A:Around}(r:fV k A):A.units + 24 < cLine:=by have:=r.un;omega
def be (X:Cx):List (Str × NameKind)→Prop
  | []=>True
  | y :: r=>(y.2=.free→X.env.kindOf y.1=some .cell∨X.env.kindOf y.1=some .free)∧be X r
def bU (X:Cx) (scope:Scope):List Str→List Nat→Prop
  | [],[]=>True
  | x :: xs,i :: is=>(X.N[i]? = some x∧scope.names.lookup x=some .free)∧bU X scope xs is
  | _,_=>False
theorem be.get {X:Cx}:∀ {l:List (Str × NameKind)},be X l → ∀ y∈l,y.2=.free→X.env.kindOf y.1=some .cell∨X.env.kindOf y.1=some .free
  | [],_,y,hy=>by simp at hy
  | z :: r,h,y,hy=>by
    rcases List.mem_cons.mp hy with rfl|hy
    · exact h.1
    · exact be.get h.2 y hy
theorem bU.get {X:Cx}{scope:Scope}:∀ {capn:List Str} {caps:List Nat},bU X scope capn caps→(∀ (j:Nat) x,capn[j]? = some x → ∃ i,caps[j]? = some i∧X.N[i]? = some x∧scope.names.lookup x=some .free)∧capn.length=caps.length
  | [],[],_=>⟨fun j x e=>by simp at e,rfl⟩
  | x :: xs,i :: is,h=>by
    obtain⟨h1,h2⟩:=bU.get h.2
    refine⟨fun j y e => ?_,by simp [h2]⟩
    cases j with
    | zero=>simp at e;subst e;exact⟨i,rfl,h.1⟩
    | succ j=>exact h1 j y (by simpa using e)
  | [],_ :: _,h=>h.elim
  | _ :: _,[],h=>h.elim
theorem be.nil {X:Cx}:be X []:=trivial
theorem be.cons {X:Cx}{y:Str × NameKind}{r:List (Str × NameKind)}(h:y.2=.free→X.env.kindOf y.1=some .cell∨X.env.kindOf y.1=some .free)(t:be X r):be X (y :: r):=⟨h,t⟩
theorem bU.nil {X:Cx}{scope:Scope}:bU X scope [] []:=trivial
theorem bU.cons {X:Cx}{scope:Scope}{x:Str}{xs:List Str}{i:Nat}{is:List Nat}(h1:X.N[i]? = some x)(h2:scope.names.lookup x=some .free)(t:bU X scope xs is):bU X scope (x :: xs) (i :: is):=⟨⟨h1,h2⟩,t⟩
theorem bZ.mk' {X:Cx}{scope:Scope}{own capn:List Str}{caps:List Nat}(k:scope.kind=.function)(c:∀ y∈scope.names,y.2 ≠ .cell)(n:∀ y∈scope.names,y.2=.local→scope.names.lookup y.1=some .local)(f:be X scope.names)(cp:bU X scope capn caps):bZ X scope own capn caps :=
  ⟨k,c,n,f.get,cp.get.1,cp.get.2⟩
end Fm
set_option Elab.async false
set_option linter.all false
set_option maxRecDepth 100000
namespace Fm
open PySem PySem.Spec L2
section
variable {K:PySem.W.Frag} {ρ:List Addr} {H:Hp}
theorem sW {d:D}{v:V}(h:RD K ρ H d v)(f:cV d=true):iB v=true:=by
  cases d<;>simp only [RD] at h<;>first|(subst h;rfl)|(simp [cV] at f)
theorem eqS {x y:List Nat}:(x == y)=(toS x == toS y):=by
  by_cases z:x=y
  · subst z;rw [beq_self_eq_true,beq_self_eq_true]
  · have : ¬ toS x=toS y:=fun q=>z (by have:=congrArg (fun (s:Str)=>s.cps.toList) q;simpa [toS] using this)
    rw [beq_eq_false_iff_ne.mpr z,beq_eq_false_iff_ne.mpr this]
theorem BZ {d k:D}{v w:V}(h:RD K ρ H d v)(g:RD K ρ H k w)(f:cV d=true)(f2:cV k=true):eqF d k=eqV v w:=by
  cases d with
  | non=>simp only [RD] at h;subst h;cases k<;>simp only [RD] at g<;>first|(subst g;rfl)|(simp [cV] at f2)
  | bl a=>simp only [RD] at h;subst h;cases k<;>simp only [RD] at g<;>first|(subst g;rfl)|(simp [cV] at f2)
  | int a=>simp only [RD] at h;subst h;cases k<;>simp only [RD] at g<;>first|(subst g;rfl)|(simp [cV] at f2)
  | str a=>simp only [RD] at h;subst h;cases k<;>simp only [RD] at g<;>first|(subst g;rfl)|(subst g;exact eqS)|(simp [cV] at f2)
  | tup l=>simp [cV] at f
  | ref n=>simp [cV] at f
  | lit l=>simp [cV] at f
  | exn c l=>simp [cV] at f
theorem pv:∀ {l:List D} {vs:List V},RDs K ρ H l vs→l.all cV=true→vs.all iB=true
  | [],_,h,_=>by simp only [RDs] at h;subst h;rfl
  | d :: l,_,h,f=>by
    simp only [RDs] at h
    obtain⟨v,r,rfl,h1,h2⟩:=h
    simp only [List.all_cons,Bool.and_eq_true] at f ⊢
    exact⟨sW h1 f.1,pv h2 f.2⟩
theorem pw {k:D}{w:V}(g:RD K ρ H k w)(fk:cV k=true):∀ {l:List D} {vs:List V},RDs K ρ H l vs→l.all cV=true→(l.countP fun z=>eqF z k)=vs.countP fun z=>eqV z w
  | [],_,h,_=>by simp only [RDs] at h;subst h;rfl
  | d :: l,_,h,f=>by
    simp only [RDs] at h
    obtain⟨v,r,rfl,h1,h2⟩:=h
    simp only [List.all_cons,Bool.and_eq_true] at f
    rw [List.countP_cons,List.countP_cons,BZ h1 g f.1 fk,pw g fk h2 f.2]
end
section
variable {X:Cx} {pos:Pos}
theorem jf {i:Int}{j:Nat}{p2:Pos}:ME X (.UnaryOp .USub (.Constant (.int i) j p2) pos) (fC (.int (-i))) :=
  PE.imp (EY DA zr) fun σ H Q ⟨ρ,σd,hd,rs,p⟩=>⟨i,rfl,p.here rs (by simp only [rD,RD])⟩
def D5 (K:PySem.W.Frag):V→List V→Hp→VK→Prop:=fun x vs H Q=>∃ l xs y,x=.ref l∧vs=[y]∧SqL K H l xs∧iB y=true∧xs.all iB=true∧Q (.int (xs.countP fun z=>eqV z y)) H
theorem Ad {x:V}:∀ {xs:List V} {us:List Value},aT xs us→xs.all iB=true→us.countP (eqU x)=xs.countP fun y=>eqV y x
  | _,_,.nil,_=>rfl
  | y :: xs,u :: us,.cons r t,f=>by
    rw [List.all_cons,Bool.and_eq_true] at f
    rw [List.countP_cons,List.countP_cons,zJ r f.1,Ad t f.2]
theorem Ae:MtM X "list.count" (D5 X.K):=by
  intro pins s σ H x vs v us Q I rx rv h
  obtain⟨l,xs,y,rfl,rfl,sq,fy,fs,q⟩:=h
  cases rx
  obtain⟨u,rfl,ru⟩:=rv.one
  obtain⟨its,r,pl,hz⟩:=I.list sq
  obtain⟨o,ho,hc,n,hd⟩:=pl.isList
  obtain⟨c,dd,dt,sl⟩:=o
  replace hc:c=.type "list" := hc
  replace hd:dt=.seq its.toArray n:=hd
  subst hc hd
  refine call_meets F.slot_list_count ⟨_,ho,rfl⟩ F.entry_list_count (F.args_list_count_2 _ _) (SeqAt.list_countAt l its.toArray n dd sl u (eqU y)) ⟨ho,fun w hw=>sI ru fy r fs w (by simpa using hw),?_⟩
  refine⟨.int _,H,I.tok _,⟨_,rfl⟩,?_⟩
  rw [show (its.toArray.toList.countP (eqU y))=xs.countP fun z=>eqV z y from Ad r fs]
  exact q
theorem Af {o e:Expr} {fo fe:EF} {apos cpos:Pos} (ho:ME X o fo) (he:ME X e fe) (hbase:attributeBase o "count" X.env (eval o X.env)=eval o X.env:=by rfl)
    (hfew:((backTo cpos (starEach [e] X.env)).all (fun x => !x.1) && (backToKw cpos (keywordEach [] X.env)).all (fun x=>x.1.isSome)
      && decide (([e] : List Expr).length + ([] : List Keyword).length + (if ([] : List Keyword).isEmpty then 0 else 1) < 30))=true:=by rfl)
    (hline:(apos.endLine == cpos.line)=true:=by rfl) (hs:starEach [e] X.env=(false,eval e X.env) :: starEach [] X.env:=by rfl) :
    ME X (.Call (.Attribute o "count" apos) [e] [] cpos) (iP fo fe):=by
  refine PE.imp (CU PySem.F.plainAttrs_list PySem.F.slot_list_count PySem.F.type_list_count Ae ho (bT he dH hs) hbase hfew hline hs) fun σ H Q ⟨ρ,σd,hd,rs,pp⟩=>⟨ρ,σd,hd,rs,?_⟩
  unfold iP at pp
  refine (bo.bind (R:=rD X.K) pp).imp fun v H1 ⟨ρ1,d,hd1,e1,rs1,rv,p1⟩ => ?_
  cases c1:dz hd1 d with
  | none=>simp only [c1] at p1;exact p1.elim
  | some l1 =>
    simp only [c1] at p1
    obtain⟨q,vs,hv,sq,rvs⟩:=jd rs1.hp rv c1
    subst hv
    refine⟨.inl ⟨rfl,vs,sq⟩,ρ1,σd,hd1,rs1,(bo.bind (R:=rD X.K) p1).imp fun w H2 ⟨ρ2,k,hd2,e2,rs2,rw',p2⟩ => ?_⟩
    cases c2:dz hd2 d with
    | none=>simp only [c2] at p2;exact p2.elim
    | some l =>
      simp only [c2] at p2
      split at p2
      · rename_i hf
        rw [Bool.and_eq_true] at hf
        obtain⟨q',vs',hv',sq',rvs'⟩:=jd rs2.hp (rv.mono (rs1.hp.kp e2)) c2
        refine⟨q',vs',w,hv',rfl,sq',sW rw' hf.1,pv rvs' hf.2,?_⟩
        rw [← pw rw' hf.1 rvs' hf.2]
        exact p2.here rs2 (by simp only [rD,RD])
      · exact p2.elim
end
end Fm
set_option Elab.async false
set_option linter.all false
set_option maxRecDepth 100000
namespace Fm
open PySem PySem.Spec L2 PySem.W PyProof.Rows
theorem D6 {l r:Nat}(h:l < r):l≤(l + r) / 2∧(l + r) / 2 < r:=by omega
section
variable {cmp:Nat→Nat→(Bool→Shared→Prop)→Shared→Prop} {n:Nat} {s:Shared} {lt:Nat→Nat→Bool}
structure Ord (lt:Nat→Nat→Bool) (n:Nat):Prop where
  asy:∀ i j,i < n→j < n→lt i j=true→lt j i=false
  tr:∀ i j k,i < n→j < n→k < n→lt i j=true→lt j k=true→lt i k=true
  tot:∀ i j,i < n→j < n→i≠j→lt i j=false→lt j i=true
structure Gd (n:Nat) (p:Array Nat):Prop where
  sz:p.size=n
  pm:p.Perm (List.toArray (List.range n))
theorem Gd.below (g:Gd n p){i:Nat}(hi:i < n):p.getD i 0 < n:=by
  have h1:i < p.size:=by rw [g.sz];exact hi
  have e:p.getD i 0=p[i]:=by simp [Array.getD,h1]
  rw [e]
  have m:p[i]∈p.toList:=by simp
  have:=(Array.perm_iff_toList_perm.mp g.pm).mem_iff.mp m
  simpa using this
theorem Gd.ne (g:Gd n p){i j:Nat}(hi:i < n)(hj:j < n)(h:i≠j):p.getD i 0≠p.getD j 0:=by
  have h1:i < p.size:=by rw [g.sz];exact hi
  have h2:j < p.size:=by rw [g.sz];exact hj
  have e:p.getD i 0=p[i]:=by simp [Array.getD,h1]
  have e':p.getD j 0=p[j]:=by simp [Array.getD,h2]
  rw [e,e']
  have nd:p.toList.Nodup:=(Array.perm_iff_toList_perm.mp g.pm).nodup_iff.mpr (by simpa using List.nodup_range)
  intro z
  have:=(List.getElem_inj (xs:=p.toList) nd (i:=i) (j:=j) (h₀ := by simpa using h1) (h₁ := by simpa using h2)).mp (by simpa using z)
  exact h this
def Srt (lt:Nat→Nat→Bool) (p:Array Nat) (m:Nat):Prop:=∀ i j,i < j→j < m→lt (p.getD i 0) (p.getD j 0)=true
def Dsc (lt:Nat→Nat→Bool) (p:Array Nat) (m:Nat):Prop:=∀ i j,i < j→j < m→lt (p.getD j 0) (p.getD i 0)=true
theorem eK:Gd n (List.toArray (List.range n)):=⟨by simp,Array.Perm.refl _⟩
theorem Srt.next {p:Array Nat}{m:Nat}(O:Ord lt n)(g:Gd n p)(h:Srt lt p m)(h1:1≤m)(hm:m < n)(c:lt (p.getD (m - 1) 0) (p.getD m 0)=true):Srt lt p (m + 1):=by
  intro i j hij hj
  by_cases e:j < m
  · exact h i j hij e
  · have:j=m:=by omega
    subst this
    by_cases e2:i=j - 1
    · subst e2;exact c
    · exact O.tr _ _ _ (g.below (by omega)) (g.below (by omega)) (g.below hm) (h i (j - 1) (by omega) (by omega)) c
theorem Dsc.next {p:Array Nat}{m:Nat}(O:Ord lt n)(g:Gd n p)(h:Dsc lt p m)(h1:1≤m)(hm:m < n)(c:lt (p.getD m 0) (p.getD (m - 1) 0)=true):Dsc lt p (m + 1):=by
  intro i j hij hj
  by_cases e:j < m
  · exact h i j hij e
  · have:j=m:=by omega
    subst this
    by_cases e2:i=j - 1
    · subst e2;exact c
    · exact O.tr _ _ _ (g.below hm) (g.below (by omega)) (g.below (by omega)) c (h i (j - 1) (by omega) (by omega))
variable (O:Ord lt n) (hc:∀ i j,i < n→j < n → ∀ C:Bool→Shared→Prop,C (lt i j) s→cmp i j C s)
include O hc
theorem iU {p:Array Nat}(g:Gd n p){Q:Nat→Shared→Prop}(q:∀ m,1≤m→m≤n→Srt lt p m→(m < n→lt (p.getD m 0) (p.getD (m - 1) 0)=true)→Q m s) :
    ∀ (f m:Nat),1≤m→m + f=n→Srt lt p m→(kas_asc p f m).kasWp cmp Q s
  | 0,m,h1,e,h=>q m h1 (by omega) h fun z=>by omega
  | f + 1,m,h1,e,h=>by
    refine hc _ _ (g.below (by omega)) (g.below (by omega)) _ ?_
    cases c:lt (p.getD m 0) (p.getD (m - 1) 0) with
    | true=>((try dsimp only);(try rw [if_pos rfl]));exact q m h1 (by omega) h fun _=>c
    | false =>
      ((try dsimp only);(try rw [if_neg Bool.false_ne_true]))
      have c':=O.tot _ _ (g.below (by omega)) (g.below (by omega)) (g.ne (i:=m) (j:=m - 1) (by omega) (by omega) (by omega)) c
      exact iU g q f (m + 1) (by omega) (by omega) (h.next O g h1 (by omega) c')
theorem ku {p:Array Nat}(g:Gd n p){Q:Array Nat × Nat × Nat→Shared→Prop}(q:∀ m,1≤m→m≤n→Dsc lt p m→Q (p,m,0) s) :
    ∀ (f m:Nat),1≤m→m + f=n→Dsc lt p m→(kas_desc f p m 0).kasWp cmp Q s
  | 0,m,h1,e,h=>q m h1 (by omega) h
  | f + 1,m,h1,e,h=>by
    refine hc _ _ (g.below (by omega)) (g.below (by omega)) _ ?_
    cases c:lt (p.getD m 0) (p.getD (m - 1) 0) with
    | true =>
      ((try dsimp only);(try rw [if_pos rfl]));(try rw [if_neg (by omega)])
      exact ku g q f (m + 1) (by omega) (by omega) (h.next O g h1 (by omega) c)
    | false =>
      ((try dsimp only);(try rw [if_neg Bool.false_ne_true]))
      have c':=O.tot _ _ (g.below (by omega)) (g.below (by omega)) (g.ne (i:=m) (j:=m - 1) (by omega) (by omega) (by omega)) c
      refine hc _ _ (g.below (by omega)) (g.below (by omega)) _ ?_
      rw [c'];((try dsimp only);(try rw [if_pos rfl]))
      exact q m h1 (by omega) h
omit hc in
theorem D7 {p:Array Nat}(g:Gd n p){m:Nat}(hm:m≤n)(h:Dsc lt p m):Gd n (kas_rev p 0 m)∧Srt lt (kas_rev p 0 m) m:=by
  have at':∀ k,k < m→(kas_rev p 0 m).getD k 0=p.getD (m - 1 - k) 0:=fun k hk=>by
    have e:=getElem?_mirror_all (xs:=p) (i:=0) (j:=m) (by rw [g.sz];exact hm) k
    rw [if_pos ⟨Nat.zero_le _,hk⟩] at e
    unfold kas_rev
    rw [Array.getD_eq_getD_getElem?,Array.getD_eq_getD_getElem?,e,Nat.zero_add]
  refine⟨⟨by unfold kas_rev;rw [mirror_size,g.sz],(mirror_perm _ _ _ _).trans g.pm⟩,fun i j hij hj => ?_⟩
  rw [at' i (by omega),at' j hj]
  exact h _ _ (by omega) (by omega)
theorem qA (h2:2≤n){Q:Nat × Array Nat→Shared→Prop}(q:∀ m p,Gd n p→1≤m→m≤n→Srt lt p m→Q (m,p) s):(kas_count n (List.toArray (List.range n))).kasWp cmp Q s:=by
  unfold kas_count
  rw [KasT.kasWp_bind]
  refine iU O hc eK (fun m h1 hm hs hd => ?_) (n - 1) 1 (Nat.le_refl _) (by omega) (fun i j hij hj=>by omega)
  by_cases e:m=n
  · subst e
    rw [if_pos (by simp)]
    exact q m _ eK h1 (Nat.le_refl _) hs
  · rw [if_neg (by simpa using e)]
    by_cases e1:m > 1
    · rw [if_pos e1]
      refine hc _ _ (eK.below (by omega)) (eK.below (by omega)) _ ?_
      have:=hs 0 (m - 1) (by omega) (by omega)
      rw [this];((try dsimp only);(try rw [if_pos rfl]))
      exact q m _ eK h1 hm hs
    · rw [if_neg e1]
      have:m=1:=by omega
      subst this
      have c:=hd (by omega)
      unfold kas_descPart
      rw [KasT.kasWp_bind]
      refine ku O hc eK (fun m h1 hm hs => ?_) (n - 2) 2 (by omega) (by omega) (fun i j hij hj => ?_)
      · rw [if_neg (by simp)]
        unfold kas_tail3
        rw [KasT.kasWp_bind]
        obtain⟨g',s'⟩:=D7 O eK hm hs
        exact iU O hc g' (fun m' h1' hm' hs' _=>q m' _ g' h1' hm' hs') (n - m) m h1 (by omega) s'
      · have hi:i=0:=by omega
        have hj:j=1:=by omega
        subst hi hj
        exact c
theorem fZ {p:Array Nat}(g:Gd n p){k:Nat}(hk:k < n)(hs:Srt lt p k){Q:Nat→Shared→Prop}(q:∀ l,l≤k→(∀ i,i < l→lt (p.getD i 0) (p.getD k 0)=true)→(∀ i,l≤i→i < k→lt (p.getD k 0) (p.getD i 0)=true)→Q l s) :
    ∀ (f l r:Nat),r - l≤f→l≤r→r≤k→(∀ i,i < l→lt (p.getD i 0) (p.getD k 0)=true)→(∀ i,r≤i→i < k→lt (p.getD k 0) (p.getD i 0)=true)→(kas_place p k f l r).kasWp cmp Q s
  | 0,l,r,hf,hl,hr,a,b=>q l (Nat.le_trans hl hr) a fun i h1 h2=>b i (Nat.le_trans (Nat.le_of_sub_eq_zero (Nat.le_zero.mp hf)) h1) h2
  | f + 1,l,r,hf,hl,hr,a,b=>by
    unfold kas_place
    by_cases e:l ≥ r
    · rw [if_pos e]
      exact q l (Nat.le_trans hl hr) a fun i h1 h2=>b i (Nat.le_trans e h1) h2
    · rw [if_neg e]
      have lr:l < r:=Nat.not_le.mp e
      have hh:=D6 lr
      generalize (l + r) / 2=M at hh
      have hm:M < k:=Nat.lt_of_lt_of_le hh.2 hr
      have hMn:M < n:=Nat.lt_trans hm hk
      refine hc _ _ (g.below hk) (g.below hMn) _ ?_
      cases c:lt (p.getD k 0) (p.getD M 0) with
      | true =>
        ((try dsimp only);(try rw [if_pos rfl]))
        refine fZ g hk hs q f l M (Nat.le_of_lt_succ (Nat.lt_of_lt_of_le (Nat.sub_lt_sub_right hh.1 hh.2) hf)) hh.1 (Nat.le_of_lt hm) a fun i h1 h2 => ?_
        by_cases z:i=M
        · subst z;exact c
        · exact O.tr _ _ _ (g.below hk) (g.below hMn) (g.below (Nat.lt_trans h2 hk)) c (hs _ i (Nat.lt_of_le_of_ne h1 (Ne.symm z)) h2)
      | false =>
        ((try dsimp only);(try rw [if_neg Bool.false_ne_true]))
        have c':=O.tot _ _ (g.below hk) (g.below hMn) (g.ne (i:=k) (j:=M) hk hMn (Nat.ne_of_gt hm)) c
        refine fZ g hk hs q f (M + 1) r (Nat.le_of_lt_succ (Nat.lt_of_lt_of_le (Nat.sub_lt_sub_left lr (Nat.lt_succ_of_le hh.1)) hf)) hh.2 hr (fun i h1 => ?_) b
        by_cases z:i=M
        · subst z;exact c'
        · have hi:i < M:=Nat.lt_of_le_of_ne (Nat.le_of_lt_succ h1) z
          exact O.tr _ _ _ (g.below (Nat.lt_trans hi hMn)) (g.below hMn) (g.below hk) (hs i _ hi hm) c'
theorem lY {Q:Array Nat→Shared→Prop}(q:∀ p,Gd n p→Srt lt p n→Q p s):∀ (f:Nat) (p:Array Nat) (k:Nat),Gd n p→k + f=n→Srt lt p k→(kas_bin f p k).kasWp cmp Q s
  | 0,p,k,g,e,h=>by
    have:k=n:=e
    subst this
    exact q p g h
  | f + 1,p,k,g,e,h=>by
    unfold kas_bin
    rw [KasT.kasWp_bind]
    have hk:k < n:=e ▸ Nat.lt_add_of_pos_right (Nat.succ_pos f)
    refine fZ O hc g hk h (fun l hl a b => ?_) k 0 k (Nat.le_refl _) (Nat.zero_le _) (Nat.le_refl _) (fun i z=>absurd z (Nat.not_lt_zero _)) (fun i z z'=>absurd z' (Nat.not_lt.mpr z))
    have hks:k < p.size:=by rw [g.sz];exact hk
    have at':∀ i,(bubble p k (k - l)).getD i 0=if i=l then p.getD k 0 else if l < i∧i≤k then p.getD (i - 1) 0 else p.getD i 0:=fun i=>by
      have:=getElem?_bubble hks (k - l) (Nat.sub_le _ _) i
      rw [Nat.sub_sub_self hl] at this
      simp only [Array.getD_eq_getD_getElem?]
      rw [this]
      by_cases c1:i=l
      · rw [if_pos c1,if_pos c1]
      · rw [if_neg c1,if_neg c1]
        by_cases c2:l < i∧i≤k
        · rw [if_pos c2,if_pos c2]
        · rw [if_neg c2,if_neg c2]
    refine lY q f _ (k + 1) ⟨by rw [bubble_size,g.sz],(bubble_perm _ _ _).trans g.pm⟩ (by rw [Nat.add_right_comm];exact e) fun i j hij hj => ?_
    have jk:j≤k:=Nat.le_of_lt_succ hj
    have j1:j - 1 < k:=Nat.sub_one_lt_of_le (Nat.zero_lt_of_lt hij) jk
    rw [at' i,at' j]
    by_cases c1:i=l
    · have lj:l < j:=c1 ▸ hij
      rw [if_pos c1,if_neg (Nat.ne_of_gt lj),if_pos ⟨lj,jk⟩]
      exact b _ (Nat.le_sub_one_of_lt lj) j1
    · rw [if_neg c1]
      by_cases c2:l < i∧i≤k
      · have lj:l < j:=Nat.lt_trans c2.1 hij
        rw [if_pos c2,if_neg (Nat.ne_of_gt lj),if_pos ⟨lj,jk⟩]
        exact h _ _ (Nat.sub_lt_sub_right (Nat.zero_lt_of_lt c2.1) hij) j1
      · rw [if_neg c2]
        have il:i < l:=Nat.lt_of_le_of_ne (Nat.not_lt.mp fun z=>c2 ⟨z,Nat.le_trans (Nat.le_of_lt hij) jk⟩) c1
        by_cases c3:j=l
        · rw [if_pos c3];exact a _ il
        · rw [if_neg c3]
          by_cases c4:l < j∧j≤k
          · rw [if_pos c4]
            exact h _ _ (Nat.lt_of_lt_of_le il (Nat.le_sub_one_of_lt c4.1)) j1
          · rw [if_neg c4]
            have jl:j < l:=Nat.lt_of_le_of_ne (Nat.not_lt.mp fun z=>c4 ⟨z,jk⟩) c3
            exact h _ _ hij (Nat.lt_of_lt_of_le jl hl)
theorem sX (h2:2≤n){Q:Array Nat→Shared→Prop}(q:∀ p,Gd n p→Srt lt p n→Q p s):(kas_sort n).kasWp cmp Q s:=by
  unfold kas_sort
  rw [KasT.kasWp_bind]
  refine qA O hc h2 fun m p g h1 hm hs => ?_
  by_cases e:m < n
  · rw [if_pos e]
    have:max m 1=m:=by omega
    show KasT.kasWp cmp (kas_bin (n - max m 1) p (max m 1)) Q s
    rw [this]
    exact lY O hc q (n - m) p m g (by omega) hs
  · rw [if_neg e]
    have:m=n:=by omega
    subst this
    exact q p g hs
end
end Fm
set_option linter.all false
namespace Fm
def qB (x:List Int):List (List Int)→List (List Int)
  | []=>[x]
  | y :: r=>if bw x y=true then x :: y :: r else y :: qB x r
def cc:List (List Int)→List (List Int)
  | []=>[]
  | x :: r=>qB x (cc r)
def qC (r:List Int):D:=.tup (r.map .int)
theorem jg:∀ a,bw a a=false
  | []=>rfl
  | x :: a=>by simp [bw,jg a]
theorem eY:∀ {a b c},bw a b=true→bw b c=true→bw a c=true
  | [],[],_,h,_=>by simp [bw] at h
  | [],_ :: _,[],_,h=>by simp [bw] at h
  | [],_ :: _,_ :: _,_,_=>rfl
  | _ :: _,[],_,h,_=>by simp [bw] at h
  | _ :: _,_ :: _,[],_,h=>by simp [bw] at h
  | x :: a,y :: b,z :: c,h,h'=>by
    simp only [bw] at h h' ⊢
    by_cases e:x=y
    · subst e
      rw [if_pos rfl] at h
      by_cases e2:x=z
      · subst e2
        rw [if_pos rfl] at h' ⊢
        exact eY h h'
      · rw [if_neg e2] at h' ⊢;exact h'
    · rw [if_neg e] at h
      by_cases e2:y=z
      · subst e2
        rw [if_neg e];exact h
      · rw [if_neg e2] at h'
        simp at h h'
        rw [if_neg (by omega)]
        simp;omega
theorem jP:∀ {a b},a≠b→bw a b=false→bw b a=true
  | [],[],h,_=>absurd rfl h
  | [],_ :: _,_,h=>by simp [bw] at h
  | _ :: _,[],_,_=>rfl
  | x :: a,y :: b,h,h'=>by
    simp only [bw] at h' ⊢
    by_cases e:x=y
    · subst e
      rw [if_pos rfl] at h' ⊢
      exact jP (fun z=>h (by rw [z])) h'
    · rw [if_neg e] at h'
      rw [if_neg (Ne.symm e)]
      simp at h' ⊢;omega
theorem kw {a b:List Int}(h:bw a b=true):bw b a=false:=by
  cases c:bw b a with
  | false=>rfl
  | true=>have:=eY h c;rw [jg] at this;cases this
theorem jQ (x:List Int):∀ r,(qB x r).Perm (x :: r)
  | []=>.refl _
  | y :: r=>by
    simp only [qB]
    split
    · exact .refl _
    · exact ((jQ x r).cons y).trans (.swap x y r)
theorem fq:∀ r,(cc r).Perm r
  | []=>.refl _
  | x :: r=>(jQ x _).trans ((fq r).cons x)
theorem lZ {x:List Int}:∀ {r:List (List Int)},x∉r→r.Pairwise (fun a b=>bw a b=true)→(qB x r).Pairwise (fun a b=>bw a b=true)
  | [],_,_=>by simp [qB]
  | y :: r,hx,h=>by
    simp only [qB]
    have hy : ¬ x=y:=fun z=>hx (by simp [z])
    have hr:x∉r:=fun z=>hx (by simp [z])
    obtain⟨h1,h2⟩:=List.pairwise_cons.mp h
    split
    · rename_i c
      refine List.pairwise_cons.mpr ⟨fun b hb => ?_,h⟩
      rcases List.mem_cons.mp hb with rfl|hb
      · exact c
      · exact eY c (h1 b hb)
    · rename_i c
      have c':=jP hy (by simpa using c)
      refine List.pairwise_cons.mpr ⟨fun b hb => ?_,lZ hr h2⟩
      rcases List.mem_cons.mp ((jQ x r).mem_iff.mp hb) with rfl|hb
      · exact c'
      · exact h1 b hb
theorem gP:∀ {r:List (List Int)},r.Nodup→(cc r).Pairwise (fun a b=>bw a b=true)
  | [],_=>.nil
  | x :: r,h=>by
    obtain⟨h1,h2⟩:=List.nodup_cons.mp h
    exact lZ (fun z=>h1 ((fq r).mem_iff.mp z)) (gP h2)
theorem yi {a b:List (List Int)}(p:a.Perm b)(ha:a.Pairwise (fun a b=>bw a b=true))(hb:b.Pairwise (fun a b=>bw a b=true)):a=b :=
  List.Perm.eq_of_pairwise (fun x y _ _ h h'=>by have:=kw h;rw [h'] at this;cases this) ha hb p
end Fm
set_option Elab.async false
set_option linter.all false
set_option maxRecDepth 100000
namespace Fm
open PySem PySem.Spec L2 PySem.W PyProof.Rows
section
variable {X:Cx} {pos p:Pos}
theorem bG.rds {K:PySem.W.Frag}{ρ:List Addr}{H:Hp}:∀ {vs:List V} {rs:List (List Int)},bG H vs rs→RDs K ρ H (rs.map qC) vs
  | _,_,.nil=>RDs.nil
  | _,_,.cons (a:=a) (r:=r) h t=>by
    refine RDs.cons ?_ (bG.rds t)
    unfold qC
    simp only [RD]
    refine⟨a,_,rfl,h,?_⟩
    clear h
    induction r with
    | nil=>exact RDs.nil
    | cons x r ih=>exact RDs.cons (by simp only [RD]) ih
theorem bG.pick {H:Hp}{vs:List V}{rs:List (List Int)}(h:bG H vs rs):∀ (l:List Nat),(∀ i∈l,i < vs.length)→bG H (l.map fun i=>vs.getD i .non) (l.map fun i=>rs.getD i [])
  | [],_=>.nil
  | i :: l,hl=>by
    have hi:i < vs.length:=hl i (by simp)
    obtain⟨a,e,ha⟩:=h.get (i:=i) (v:=vs[i]) (by simp [hi])
    have t:=bG.pick h l fun j hj=>hl j (by simp [hj])
    have:vs.getD i .non=.ref a:=by simp [List.getD,hi,e]
    simp only [List.map_cons,this]
    exact .cons ha t
theorem aT.pick {vs:List V}{us:List Value}(h:aT vs us):∀ (l:List Nat),(∀ i∈l,i < vs.length)→aT (l.map fun i=>vs.getD i .non) (l.map fun i=>us.getD i Value.none)
  | [],_=>.nil
  | i :: l,hl=>by
    have hi:i < vs.length:=hl i (by simp)
    obtain⟨u,e,ru⟩:=h.get (i:=i) (x:=vs[i]) (by simp [hi])
    have t:=aT.pick h l fun j hj=>hl j (by simp [hj])
    simp only [List.map_cons]
    refine .cons ?_ t
    simp [List.getD,hi,e]
    exact ru
end
end Fm
set_option Elab.async false
set_option linter.all false
set_option maxRecDepth 100000
namespace Fm
open PySem PySem.Spec L2 PySem.W PyProof.Rows
section
variable {X:Cx} {pos p:Pos}
end
end Fm
set_option Elab.async false
set_option linter.all false
set_option maxRecDepth 100000
namespace L2
open PySem PySem.Spec PyProof.Rows
section
variable {κ : Type} [DecidableEq κ]
def gQ (kvs:List (κ × V)) (k : κ):Option V:=(kvs.find? fun kv=>decide (kv.1=k)).map (·.2)
def iV (kvs:List (κ × V)) (k : κ) (v:V):List (κ × V) :=
  if (kvs.any fun kv=>decide (kv.1=k))=true then kvs.map (fun kv=>if kv.1=k then (kv.1,v) else kv) else kvs++[(k,v)]
theorem l7 {p : κ × V}{r:List (κ × V)}{k : κ}(e:p.1=k):gQ (p :: r) k=some p.2:=by simp [gQ,List.find?_cons,e]
theorem jh {p : κ × V}{r:List (κ × V)}{k : κ}(e : ¬ p.1=k):gQ (p :: r) k=gQ r k:=by simp [gQ,List.find?_cons,e]
theorem sY (k : κ):∀ kvs:List (κ × V),(kvs.any fun kv=>decide (kv.1=k))=(gQ kvs k).isSome
  | []=>rfl
  | p :: r=>by
    rw [List.any_cons]
    by_cases e:p.1=k
    · simp only [l7 e,decide_eq_true e,Bool.true_or,Option.isSome_some]
    · rw [jh e,decide_eq_false e,Bool.false_or];exact sY k r
theorem kx (kvs:List (κ × V))(k : κ)(v:V):(iV kvs k v).length≤kvs.length + 1:=by
  unfold iV
  split
  · rw [List.length_map];omega
  · rw [List.length_append,List.length_cons,List.length_nil];omega
theorem sC.isSome_eq {o:Option V}{u:Option Value}(r:sC o u):o.isSome=u.isSome:=by
  cases o with
  | none=>cases u with
    | none=>rfl
    | some _=>exact (show False from r).elim
  | some _=>cases u with
    | none=>exact (show False from r).elim
    | some _=>rfl
theorem sC.getD {o:Option V}{u:Option Value}{d:V}{d':Value}(r:sC o u)(rd:bh d d'):bh (o.getD d) (u.getD d'):=by
  cases o with
  | none=>cases u with
    | none=>exact rd
    | some _=>exact (show False from r).elim
  | some _=>cases u with
    | none=>exact (show False from r).elim
    | some _=>exact r
theorem KV.val {kvs:List (κ × V)}{vs:List (κ × Value)}(r:KV kvs vs)(k : κ):sC (gQ kvs k) (valueAt vs k):=by
  unfold KV at r
  induction r with
  | nil=>exact True.intro
  | @cons p q ps qs h t ih =>
    obtain⟨h1,h2⟩:=h
    by_cases e:p.1=k
    · have e':q.1=k:=h1.symm.trans e
      have b:valueAt (q :: qs) k=some q.2:=by simp [valueAt,List.find?_cons,e']
      rw [l7 e,b];exact h2
    · have e' : ¬ q.1=k:=fun z=>e (h1.trans z)
      have b:valueAt (q :: qs) k=valueAt qs k:=by simp [valueAt,List.find?_cons,e']
      rw [jh e,b];exact ih
theorem KV.any {kvs:List (κ × V)}{vs:List (κ × Value)}(r:KV kvs vs)(k : κ):(kvs.any fun kv=>decide (kv.1=k))=vs.any fun kv=>decide (kv.1=k):=by
  unfold KV at r
  induction r with
  | nil=>rfl
  | cons h t ih=>rw [List.any_cons,List.any_cons,ih,h.1]
theorem KV.repl {kvs:List (κ × V)}{vs:List (κ × Value)}(r:KV kvs vs)(k : κ){y:V}{u:Value}(ry:bh y u) :
    KV (kvs.map fun kv=>if kv.1=k then (kv.1,y) else kv) (vs.map fun kv=>if kv.1=k then (kv.1,u) else kv):=by
  unfold KV at r ⊢
  induction r with
  | nil=>exact .nil
  | @cons p q ps qs h t ih =>
    rw [List.map_cons,List.map_cons]
    refine .cons ?_ ih
    obtain⟨h1,h2⟩:=h
    by_cases e:p.1=k
    · rw [if_pos e,if_pos (h1.symm.trans e)];exact⟨h1,ry⟩
    · rw [if_neg e,if_neg (fun z=>e (h1.trans z))];exact⟨h1,h2⟩
theorem KV.put {kvs:List (κ × V)}{vs:List (κ × Value)}(r:KV kvs vs)(k : κ){y:V}{u:Value}(ry:bh y u):KV (iV kvs k y) (stored vs k u):=by
  unfold iV stored
  rw [r.any k]
  by_cases e:(vs.any fun kv=>decide (kv.1=k))=true
  · rw [if_pos e,if_pos e];exact r.repl k ry
  · rw [if_neg e,if_neg e];exact Paired.snoc r ⟨rfl,ry⟩
theorem KV.keys {kvs:List (κ × V)}{vs:List (κ × Value)}(r:KV kvs vs):kvs.map (·.1)=vs.map (·.1):=by
  unfold KV at r
  induction r with
  | nil=>rfl
  | cons h t ih=>rw [List.map_cons,List.map_cons,ih,h.1]
theorem KV.length {kvs:List (κ × V)}{vs:List (κ × Value)}(r:KV kvs vs):kvs.length=vs.length:=Paired.length r
end
theorem xp {P:Program}{w:World}{k:Key}{u:Value}(r:bh (kV k) u):(bB P w).is k u=true:=by
  cases k with
  | inl i=>obtain⟨t,e⟩:=(show ∃ t,u=Value.int i t from r);subst e;exact sx P w i t
  | inr x=>obtain⟨t,e⟩:=(show ∃ t,u=Value.str x t from r);subst e;exact sA P w x t
theorem px {P:Program}{w:World}:∀ {ks:List Key} {us:List Value},aT (ks.map kV) us→ItemsAre (bB P w) ks us
  | [],_,r=>by rw [List.map_nil] at r;cases r;exact .nil
  | k :: ks,_,r=>by
    rw [List.map_cons] at r
    cases r with
    | cons h t=>exact .cons (xp h) (px t)
abbrev KT (H:Hp):List (List Key × V)→List (List Key × Addr × Value)→Prop:=Paired fun p q=>p.1=q.1∧H q.2.1=some (.tup (p.1.map kV))∧bh p.2 q.2.2
theorem KT.val {H:Hp}{kvs:List (List Key × V)}{xs:List (List Key × Addr × Value)}(r:KT H kvs xs)(k:List Key):sC (gQ kvs k) ((atKey xs k).map (·.2)):=by
  induction r with
  | nil=>exact True.intro
  | @cons p q ps qs h t ih =>
    obtain⟨h1,_,h2⟩:=h
    by_cases e:p.1=k
    · have e':q.1=k:=h1.symm.trans e
      have b:atKey (q :: qs) k=some q.2:=by simp [atKey,List.find?_cons,e']
      rw [l7 e,b];exact h2
    · have e' : ¬ q.1=k:=fun z=>e (h1.trans z)
      have b:atKey (q :: qs) k=atKey qs k:=by simp [atKey,List.find?_cons,e']
      rw [jh e,b];exact ih
theorem KT.repl {H:Hp}{kvs:List (List Key × V)}{xs:List (List Key × Addr × Value)}(r:KT H kvs xs)(k:List Key){y:V}{u:Value}(ry:bh y u) :
    KT H (kvs.map fun kv=>if kv.1=k then (kv.1,y) else kv) (xs.map (putAt k u)):=by
  induction r with
  | nil=>exact .nil
  | @cons p q ps qs h t ih =>
    rw [List.map_cons,List.map_cons]
    refine .cons ?_ ih
    obtain⟨h1,h2,h3⟩:=h
    unfold putAt
    by_cases e:p.1=k
    · rw [if_pos e,if_pos (h1.symm.trans e)];exact⟨h1,h2,ry⟩
    · rw [if_neg e,if_neg (fun z=>e (h1.trans z))];exact⟨h1,h2,h3⟩
theorem KT.put {H:Hp}{kvs:List (List Key × V)}{xs:List (List Key × Addr × Value)}(r:KT H kvs xs)(k:List Key){b:Addr}{y:V}{u:Value}(hb:H b=some (.tup (k.map kV)))(ry:bh y u) :
    KT H (iV kvs k y) (storedH xs k b u):=by
  have e:(kvs.any fun kv=>decide (kv.1=k))=(atKey xs k).isSome:=by
    rw [sY,(r.val k).isSome_eq,Option.isSome_map]
  unfold iV storedH
  rw [e]
  by_cases q:(atKey xs k).isSome=true
  · rw [if_pos q,if_pos q];exact r.repl k ry
  · rw [if_neg q,if_neg q];exact Paired.snoc r ⟨rfl,hb,ry⟩
theorem KT.keeps {H H':Hp}{kvs:List (List Key × V)}{xs:List (List Key × Addr × Value)}(r:KT H kvs xs)(ht:∀ b ys,H b=some (.tup ys)→H' b=some (.tup ys)):KT H' kvs xs :=
  Paired.mapP r fun _ _ z=>⟨z.1,ht _ _ z.2.1,z.2.2⟩
section
variable {P:Program} {w:World} {H:Hp} {h:Heap} {a:Addr}
theorem C6 {u:HO}(ok:HOk P w H h)(e:Rd H a u):cZ P w H h a u:=e.ok ok
theorem Ag {kvs:List (Key × V)}(ok:HOk P w H h)(e:Rd H a (.dK kvs)):kvs.length≤sizeLine∧(a == sysModules)=false ∧ ∃ vs,KV kvs vs∧h.DictOf (bB P w) a vs :=
  show cZ P w H h a (.dK kvs) from C6 ok e
theorem Ah {kvs:List (Key × V)}(ok:HOk P w H h)(e:H a=some (.dK kvs)):kvs.length≤sizeLine∧(a == sysModules)=false ∧ ∃ vs,KV kvs vs∧h.DictOf (bB P w) a vs:=Ag ok (.inl e)
theorem uZ {ks:List Key}(ok:HOk P w H h)(e:H a=some (.tup (ks.map kV))):(tupleKind (bB P w)).is h ks a:=by
  obtain⟨_,its,r,⟨o,h1,h2,n,h3⟩,_⟩:=(show cZ P w H h a (.tup (ks.map kV)) from ok a _ e)
  exact⟨o,its.toArray,n,h1,h2,h3,by simpa using px r⟩
theorem Ai {kvs:List (List Key × V)}(ok:HOk P w H h)(e:Rd H a (.dT kvs)):kvs.length≤sizeLine∧(a == sysModules)=false ∧
    ∃ xs,KT H kvs xs∧h.DictOfH (tupleKind (bB P w)) a xs:=by
  obtain⟨z,y,xs,r,o,es,ep,h1,h2,h3,h4,h5⟩:=(show cZ P w H h a (.dT kvs) from C6 ok e)
  refine⟨z,y,xs,r,o,es,ep,h1,h2,h3,h4,fun x hx => ?_,h5⟩
  have all:∀ {l:List (List Key × V)} {m:List (List Key × Addr × Value)},KT H l m → ∀ x∈m,(tupleKind (bB P w)).is h x.1 x.2.1:=by
    intro l m q
    induction q with
    | nil=>intro x hx;exact nomatch hx
    | @cons p q ps qs hq t ih =>
      intro x hx
      rcases List.mem_cons.mp hx with e|hx
      · subst e
        exact uZ ok (by rw [← hq.1];exact hq.2.1)
      · exact ih x hx
  exact all r x hx
theorem Ft {kvs:List (List Key × V)}(ok:HOk P w H h)(e:H a=some (.dT kvs)):kvs.length≤sizeLine∧(a == sysModules)=false ∧
    ∃ xs,KT H kvs xs∧h.DictOfH (tupleKind (bB P w)) a xs:=Ai ok (.inl e)
end
def Aj (H:Hp) (a:Addr) (y:V) (r:Option V):Prop :=
  (∃ kvs k,Rd H a (.dK kvs)∧y=kV k∧r=gQ kvs k) ∨ ∃ kvs k b,Rd H a (.dT kvs)∧y=.ref b∧H b=some (.tup (k.map kV))∧r=gQ kvs k
def Ak (H:Hp) (a:Addr) (y v:V) (H':Hp):Prop :=
  (∃ kvs k,H a=some (.dK kvs)∧y=kV k∧kvs.length < sizeLine∧H'=upd H a (.dK (iV kvs k v))) ∨
  ∃ kvs k b,H a=some (.dT kvs)∧y=.ref b∧H b=some (.tup (k.map kV))∧kvs.length < sizeLine∧H'=upd H a (.dT (iV kvs k v))
theorem Aj.k {H:Hp}{a:Addr}{kvs:List (Key × V)}{k:Key}(e:H a=some (.dK kvs)):Aj H a (kV k) (gQ kvs k):=.inl ⟨kvs,k,.inl e,rfl,rfl⟩
theorem Ak.k {H:Hp}{a:Addr}{kvs:List (Key × V)}{k:Key}{v:V}(e:H a=some (.dK kvs))(hl:kvs.length < sizeLine):Ak H a (kV k) v (upd H a (.dK (iV kvs k v))):=.inl ⟨kvs,k,e,rfl,hl,rfl⟩
section
variable {X:Cx} {pins:List (Addr × Obj)} {σ:St} {H:Hp} {s:Shared} {a:Addr} {y v:V} {u r:Value} {o:Option V} {A:Around} {E:Value→Shared→Prop}
theorem Inv.big (I:Inv X pins σ H s):sysModules < s.heap.objs.size:=by
  have h:mainGlobals < s.heap.objs.size:=(I.mod.glob.keeps I.bk).lt
  exact Nat.lt_trans (by decide) h
theorem xq {h':Heap}{t':Nat}{ob:HO}(I:Inv X pins σ H s)(mu:Mut (H a))(hs:Heap.SameBut a s.heap h')(he:∃ q,h'.get? a=some q)(new:cZ X.prog X.w (upd H a ob) h' a ob) :
    Inv X pins σ (upd H a ob) { s with heap:=h',toks:=t' } :=
  I.write (x:=a) (e:=a) mu (.inl rfl) (fun b q hb z=>(hs.2 b hb).trans z) he new
theorem Al {P:Program}{w:World}{H':Hp}{h':Heap}{kvs:List (Key × V)}{vs:List (Key × Value)}(z:kvs.length≤sizeLine)(hd:(a == sysModules)=false)(rel:KV kvs vs)(dd:h'.DictOf (bB P w) a vs) :
    cZ P w H' h' a (.dK kvs):=⟨z,hd,vs,rel,dd⟩
theorem yj {H':Hp}{Q:Unit→Shared→Prop}(hu:A.units + 1 < cLine)(I:Inv X pins σ H s)(g:Ak H a y v H')(ry:bh y u)(rv:bh v r)(h:∀ s',Inv X pins σ H' s'→Q () s') :
    wpAny (model X.prog X.w) A (setItem (.ref a) u r) Q E s:=by
  rcases g with ⟨kvs,k,e,ey,l,eH⟩|⟨kvs,k,b,e,ey,eb,l,eH⟩
  · subst ey eH
    obtain⟨z,hd,vs,rel,dd⟩:=Ah I.hok e
    have hz:vs.length≤sizeLine:=by rw [← rel.length];exact z
    have hl:(iV kvs k v).length≤sizeLine:=by have:=kx kvs k v;omega
    refine wpAny_setItem_pairs (hsz:=hz) (xp ry) dd fun h' dd' hs=>h _ ?_
    have he:∃ q,h'.get? a=some q:=let ⟨q,_,_,hq,_⟩:=dd';⟨q,hq⟩
    exact xq I (by rw [e];exact True.intro) hs he (Al hl hd (rel.put k rv) dd')
  · subst ey eH
    cases (show u=Value.ref b from ry)
    obtain⟨z,hd,xs,rel,dd⟩:=Ft I.hok e
    have hz:xs.length≤sizeLine:=by rw [← Paired.length rel];exact z
    have hl:(iV kvs k v).length≤sizeLine:=by have:=kx kvs k v;omega
    refine wpAny_setItem_heap (hsz:=hz) (tupleKind_room_in1 hu) (uZ I.hok eb) dd fun h' dd' hs=>h _ ?_
    obtain⟨q,es,ep,hq,h2,h3,h4,_,h5⟩:=dd'
    refine xq I (by rw [e];exact True.intro) hs ⟨q,hq⟩ ⟨hl,hd,_,(rel.put k eb rv).keeps fun c ys ec => ?_,q,es,ep,hq,h2,h3,h4,h5⟩
    rw [aq (EL ec e (fun z=>nomatch z))]
    exact ec
end
section
variable {X:Cx} {pins:List (Addr × Obj)} {σ:St} {H:Hp} {s:Shared} {a:Addr} {kvs:List (Key × V)} {k:Key} {u:Value} {A:Around} {E:Value→Shared→Prop}
end
section
variable {X:Cx} {o i e value:Expr} {pos pos' tpos:Pos} {td ty tv:TE}
end
section
variable {X:Cx} {pos:Pos}
end
structure M1 (X:Cx) (o:Expr) (m:Str) (apos:Pos) (e:Expr) (cpos:Pos):Prop where
  base:attributeBase o m X.env (eval o X.env)=eval o X.env
  few:((backTo cpos (starEach [e] X.env)).all (fun x => !x.1) && (backToKw cpos (keywordEach [] X.env)).all (fun x=>x.1.isSome)
    && decide (([e] : List Expr).length + ([] : List Keyword).length + (if ([] : List Keyword).isEmpty then 0 else 1) < 30))=true
  line:(apos.endLine == cpos.line)=true
  trees:backTo cpos (starEach [e] X.env)=[(false,eval e X.env)]
structure M2 (X:Cx) (o:Expr) (m:Str) (apos:Pos) (e f:Expr) (cpos:Pos):Prop where
  base:attributeBase o m X.env (eval o X.env)=eval o X.env
  few:((backTo cpos (starEach [e,f] X.env)).all (fun x => !x.1) && (backToKw cpos (keywordEach [] X.env)).all (fun x=>x.1.isSome)
    && decide (([e,f] : List Expr).length + ([] : List Keyword).length + (if ([] : List Keyword).isEmpty then 0 else 1) < 30))=true
  line:(apos.endLine == cpos.line)=true
  trees:backTo cpos (starEach [e,f] X.env)=[(false,eval e X.env),(false,eval f X.env)]
def IsD (H:Hp) (a:Addr):Prop:=(∃ kvs,Rd H a (.dK kvs)) ∨ ∃ kvs,Rd H a (.dT kvs)
theorem Am {X:Cx}{pins:List (Addr × Obj)}{σ:St}{H:Hp}{s:Shared}{a:Addr}(I:Inv X pins σ H s)(d:IsD H a) :
    s.TypeIs (.ref a) "dict" ∧ (∀ b,Value.ref a=.ref b → ∃ ob,s.heap.get? b=some ob∧ob.dict=none)∧(a == sysModules)=false:=by
  rcases d with ⟨kvs,e⟩|⟨kvs,e⟩
  · obtain⟨_,hd,vs,_,dd⟩:=Ag I.hok e
    refine⟨dd.typeIs,fun b q => ?_,hd⟩
    cases q
    obtain⟨ob,_,_,h1,h2,_⟩:=dd
    exact⟨ob,h1,h2.2.1⟩
  · obtain⟨_,hd,xs,_,dd⟩:=Ai I.hok e
    refine⟨dd.typeIs,fun b q => ?_,hd⟩
    cases q
    obtain⟨ob,_,_,h1,h2,_⟩:=dd
    exact⟨ob,h1,h2.2.1⟩
section
variable {X:Cx} {pins:List (Addr × Obj)} {σ:St} {H:Hp} {s:Shared} {a:Addr} {y d:V} {u r:Value} {o:Option V} {A:Around} {E:Value→Shared→Prop}
theorem D8 {Q:Value→Shared→Prop}(hu:A.units + 1 < cLine)(I:Inv X pins σ H s)(g:Aj H a y o)(ry:bh y u)(rd:bh d r)(h:∀ w' s',Inv X pins σ H s'→bh (o.getD d) w'→Q w' s') :
    wpAny (model X.prog X.w) A (call (.builtin "dict.get") [.ref a,u,r]) Q E s:=by
  rcases g with ⟨kvs,k,e,ey,l⟩|⟨kvs,k,b,e,ey,eb,l⟩
  · subst ey
    obtain⟨z,hd,vs,rel,dd⟩:=Ag I.hok e
    refine call_meetsIn PySem.F.slot_dict_get dd.typeIs PySem.F.entry_dict_get (PySem.F.args_dict_get_3 _ _ _) (meets_dict_get_default (bB X.prog X.w) a (xp ry) hd r) ⟨_,dd.mapOf,h _ _ (I.tok _) ?_⟩
    rw [l]
    exact (rel.val k).getD rd
  · subst ey
    cases (show u=Value.ref b from ry)
    obtain⟨z,hd,xs,rel,dd⟩:=Ai I.hok e
    refine call_meetsIn PySem.F.slot_dict_get dd.typeIs PySem.F.entry_dict_get (PySem.F.args_dict_get_3 _ _ _) (meetsH_dict_get_default (tupleKind (bB X.prog X.w)) a b hd r) ⟨tupleKind_room_in1 hu,k,xs,uZ I.hok eb,dd,h _ _ (I.tok _) ?_⟩
    rw [l]
    exact (rel.val k).getD rd
end
def D9 (td ty tx:TE):TE:=fun σ H Q=>td σ H fun x H1=>∃ a,x=.ref a∧IsD H1 a∧ty σ H1 fun y H2=>tx σ H2 fun z H3=>∃ o,Aj H3 a y o∧Q (o.getD z) H3
section
variable {X:Cx} {o e f:Expr} {apos cpos:Pos} {td ty tx:TE}
theorem An (hu:X.A.units + 1 < cLine) (ho:PE X o td) (he:PE X e ty) (hf:PE X f tx) (m:M2 X o "get" apos e f cpos):PE X (.Call (.Attribute o "get" apos) [e,f] [] cpos) (D9 td ty tx):=by
  intro pins s σ H Q I h
  refine wpAny_Call_method m.base m.few m.line PySem.F.plainAttrs_dict PySem.F.slot_dict_get PySem.F.type_dict_get (thn (ho pins s σ H _ I h) fun u s1 ⟨x,H1,I1,rx,a,ex,d,q1⟩ => ?_)
  subst ex
  obtain rfl:u=Value.ref a:=rx
  obtain⟨t1,t2,_⟩:=Am I1 d
  refine⟨t1,t2,?_⟩
  rw [m.trees]
  refine Calls.callWith_builtin rfl (Calls.evalArgs_plain (Calls.spliced_cons (thn (he pins s1 σ H1 _ I1 q1) fun iv s2 ⟨y,H2,I2,ry,q2⟩ =>
    Calls.spliced_cons (thn (hf pins s2 σ H2 _ I2 q2) fun fv s3 ⟨z,H3,I3,rz,ov,g,q3⟩=>Calls.spliced_nil ?_))))
  exact D8 hu I3 g ry rz fun w' s4 I4 rw'=>⟨_,H3,I4,rw',q3⟩
end
section
variable {X:Cx} {pins:List (Addr × Obj)} {σ:St} {H:Hp} {s:Shared} {a:Addr} {kvs:List (Key × V)} {A:Around} {E:Value→Shared→Prop}
end
section
variable {X:Cx} {pins:List (Addr × Obj)} {σ:St} {H:Hp} {s:Shared} {a:Addr} {y:V} {u:Value} {A:Around} {E:Value→Shared→Prop}
end
end L2
set_option linter.all false
namespace Fm
def iW (l:List (Int × D)) (k:Int):Option D:=(l.find? fun p=>decide (p.1=k)).map (·.2)
def u3 (l:List (Int × D)) (k:Int) (v:D):List (Int × D):=if (l.any fun p=>decide (p.1=k))=true then l.map (fun p=>if p.1=k then (p.1,v) else p) else l++[(k,v)]
@[simp] def Gg:O2:=fun x y h=>match x,y with
  | .int k,.ref n=>match h[n]? with|some (.dct l)=>.ok (.bl (iW l k).isSome) h|_=>.bad
  | _,_=>.bad
@[simp] def l8 (x i e:EF):SF:=fun σ h=>outE (e σ h) σ fun d h=>outE (x σ h) σ fun p h=>outE (i σ h) σ fun j h=>match p,j with
  | .ref n,.int k=>match h[n]? with
    | some (.dct l)=>if l.length < SZ then .nx σ (h.set n (.dct (u3 l k d))) else .bad
    | _=>.bad
  | _,_=>.bad
def dC:List (Int × D)→Option (List (List Int))
  | []=>some []
  | (k,.int v) :: r=>(dC r).map fun l=>[k,v] :: l
  | _=>none
@[simp] def gR (a:EF):LF:=fun σ h=>(a σ h).bind fun x h=>match x with
  | .ref n=>match h[n]? with
    | some (.dct l)=>match dC l with
      | some r=>if r.length < 64∧r.Nodup then .ok ((cc r).map qC) h else .bad
      | none=>.bad
    | _=>.bad
  | _=>.bad
end Fm
set_option Elab.async false
set_option linter.all false
set_option maxRecDepth 100000
namespace Fm
open PySem PySem.Spec L2 PySem.W PyProof.Rows
section
variable {K:PySem.W.Frag} {ρ:List Addr} {H:Hp} {hd:Hd}
theorem RH.allocD (r:RH K ρ H hd){p:Addr}{l:List (Int × D)}(hp:RC K ρ H (.dct l) p)(hn:p ∉ ρ):RH K (ρ ++ [p]) H (hd++[.dct l]):=by
  have k:Kp ρ H (ρ ++ [p]) H:=⟨fun n a e=>by rw [List.getElem?_append_left (List.getElem?_eq_some_iff.mp e).1];exact e,fun _ _ h=>h,fun _ _ _ h=>h,fun _ _ h=>h⟩
  refine⟨by simp [r.len],?_,fun n c a h1 h2 => ?_⟩
  · rw [List.nodup_append]
    exact⟨r.nd,by simp,fun a ha b hb=>by simp at hb;subst hb;intro e;subst e;exact hn ha⟩
  · by_cases hlt:n < hd.length
    · rw [List.getElem?_append_left hlt] at h1
      rw [List.getElem?_append_left (by rw [r.len];exact hlt)] at h2
      exact (r.cel n c a h1 h2).mono k rfl
    · have e1:n=hd.length:=by
        have:=(List.getElem?_eq_some_iff.mp h1).1
        simp at this
        omega
      subst e1
      simp at h1
      subst h1
      rw [← r.len] at h2
      simp at h2
      subst h2
      obtain⟨kvs,q1,q2,q3⟩:=hp
      exact⟨kvs,q1,q2,q3.mono k⟩
theorem RH.writeD (r:RH K ρ H hd){n:Nat}{p:Addr}{l:List (Int × D)}{kvs:List (Key × V)}(hp : ρ[n]? = some p)(hn:n < hd.length)(h1:kvs.map (·.1)=l.map (fun p=>(Sum.inl p.1:Key)))(h2:RDs K ρ H (l.map (·.2)) (kvs.map (·.2))):RH K ρ (upd H p (.dK kvs)) (hd.set n (.dct l)):=by
  have k:Kp ρ H ρ (upd H p (.dK kvs)):=by
    have hm:=List.mem_of_getElem? hp
    refine⟨fun _ _ h=>h,fun a us e => ?_,fun a o u e => ?_,fun a φ e => ?_⟩
    · rw [aq (fun z=>r.noTup e (by rw [z];exact hm))];exact e
    · rw [aq (fun z=>r.noFrz e (by rw [z];exact hm))];exact e
    · rw [aq (fun z=>r.noExt e (by rw [z];exact hm))];exact e
  refine⟨by simp [r.len],r.nd,fun m c a q1 q2 => ?_⟩
  by_cases e:n=m
  · subst e
    rw [List.getElem?_set_self hn] at q1
    cases q1
    rw [hp] at q2
    cases q2
    exact⟨kvs,aS,h1,h2.mono k⟩
  · rw [List.getElem?_set_ne e] at q1
    have ne:a≠p:=fun z=>by
      subst z
      exact e (lK r.nd hp q2)
    exact (r.cel m c a q1 q2).mono k (aq ne)
theorem sZ (k:Int):∀ {l:List (Int × D)} {kvs:List (Key × V)},kvs.map (·.1)=l.map (fun p=>(Sum.inl p.1:Key))→RDs K ρ H (l.map (·.2)) (kvs.map (·.2)) →
    (iW l k=none∧gQ kvs (Sum.inl k)=none) ∨ ∃ d v,iW l k=some d∧gQ kvs (Sum.inl k)=some v∧RD K ρ H d v
  | [],[],_,_=>.inl ⟨rfl,rfl⟩
  | [],_ :: _,h,_=>by simp at h
  | _ :: _,[],h,_=>by simp at h
  | (j,d) :: l,(kk,v) :: kvs,h1,h2=>by
    simp only [List.map_cons,List.cons.injEq] at h1
    simp only [List.map_cons,RDs] at h2
    obtain⟨v',r',e,q1,q2⟩:=h2
    cases e
    obtain⟨e1,e2⟩:=h1
    subst e1
    by_cases e:j=k
    · subst e
      exact .inr ⟨d,v,by simp [iW],by simp [gQ],q1⟩
    · have ih:=sZ k e2 q2
      have a1:iW ((j,d) :: l) k=iW l k:=by simp [iW,e]
      have a2:gQ ((Sum.inl j,v) :: kvs) (Sum.inl k)=gQ kvs (Sum.inl k):=jh (fun z=>e (by cases z;rfl))
      rw [a1,a2]
      exact ih
theorem tf (k:Int):∀ {l:List (Int × D)} {kvs:List (Key × V)},kvs.map (·.1)=l.map (fun p=>(Sum.inl p.1:Key))→(kvs.any fun kv=>decide (kv.1=(Sum.inl k:Key)))=l.any fun p=>decide (p.1=k)
  | [],[],_=>rfl
  | [],_ :: _,h=>by simp at h
  | _ :: _,[],h=>by simp at h
  | (j,d) :: l,(kk,v) :: kvs,h1=>by
    simp only [List.map_cons,List.cons.injEq] at h1
    obtain⟨e1,e2⟩:=h1
    subst e1
    simp [tf k e2]
theorem tj (k:Int){d0:D}{v0:V}(hv:RD K ρ H d0 v0):∀ {l:List (Int × D)} {kvs:List (Key × V)},kvs.map (·.1)=l.map (fun p=>(Sum.inl p.1:Key))→RDs K ρ H (l.map (·.2)) (kvs.map (·.2)) →
    (kvs.map fun kv=>if kv.1=(Sum.inl k:Key) then (kv.1,v0) else kv).map (·.1)=(l.map fun p=>if p.1=k then (p.1,d0) else p).map (fun p=>(Sum.inl p.1:Key))∧RDs K ρ H ((l.map fun p=>if p.1=k then (p.1,d0) else p).map (·.2)) ((kvs.map fun kv=>if kv.1=(Sum.inl k:Key) then (kv.1,v0) else kv).map (·.2))
  | [],[],_,_=>⟨rfl,RDs.nil⟩
  | [],_ :: _,h,_=>by simp at h
  | _ :: _,[],h,_=>by simp at h
  | (j,d) :: l,(kk,v) :: kvs,h1,h2=>by
    simp only [List.map_cons,List.cons.injEq] at h1
    simp only [List.map_cons,RDs] at h2
    obtain⟨v',r',e,q1,q2⟩:=h2
    cases e
    obtain⟨e1,e2⟩:=h1
    subst e1
    obtain⟨i1,i2⟩:=tj k hv e2 q2
    by_cases e:j=k
    · subst e
      simp only [List.map_cons,if_true]
      exact⟨by rw [i1],RDs.cons hv i2⟩
    · have e' : ¬ (Sum.inl j:Key)=Sum.inl k:=fun z=>e (by cases z;rfl)
      simp only [List.map_cons,if_neg e,if_neg e']
      exact⟨by rw [i1],RDs.cons q1 i2⟩
theorem Ao (k:Int){d0:D}{v0:V}(hv:RD K ρ H d0 v0){l:List (Int × D)}{kvs:List (Key × V)}(h1:kvs.map (·.1)=l.map (fun p=>(Sum.inl p.1:Key)))(h2:RDs K ρ H (l.map (·.2)) (kvs.map (·.2))) :
    (iV kvs (Sum.inl k) v0).map (·.1)=(u3 l k d0).map (fun p=>(Sum.inl p.1:Key))∧RDs K ρ H ((u3 l k d0).map (·.2)) ((iV kvs (Sum.inl k) v0).map (·.2)):=by
  unfold iV u3
  rw [tf k h1]
  split
  · exact tj k hv h1 h2
  · refine⟨by simp [h1],?_⟩
    rw [List.map_append,List.map_append]
    exact RDs.append h2 (RDs.cons hv RDs.nil)
end
section
variable {X:Cx} {pos p:Pos}
def Fu:V→V→V→Hp→(Hp→Prop)→Prop:=fun o i v H Q=>∃ a H',o=.ref a∧Ak H a i v H'∧Q H'
theorem Ap (hu:X.A.units + 1 < cLine):Ds X Fu:=by
  intro pins s σ H o i v ov iv u Q I ro ri rv h
  obtain⟨a,H',rfl,g,q⟩:=h
  obtain rfl:ov=Value.ref a:=ro
  exact yj hu I g ri rv fun s' I'=>⟨H',I',q⟩
theorem xr {o i e:Expr}{fo fi fe:EF}{p2:Pos}(hu:X.A.units + 1 < cLine)(he:ME X e fe)(ho:ME X o fo)(hi:ME X i fi)(hs:swapsWithSole [.Subscript o i p2] e pos.line X.env=pure false:=by rfl)(hw:swappedStores [.Subscript o i p2] e X.env=pure none:=by rfl)
    (h1:(assignEach [.Subscript o i p2] X.env).map (·.2)=[assign (.Subscript o i p2) X.env]:=by rfl) (ha:∀ v,assign (.Subscript o i p2) X.env v=(do
      let ov ← holding [v] (eval o X.env)
      let iv ← holding [v,ov] (eval i X.env)
      standAt p2
      holding [v,ov,iv] (setItem ov iv v)
      release [v,ov,iv] []):=by intro _;rfl):MS X (.Assign [.Subscript o i p2] e pos) (l8 fo fi fe):=by
  refine PS.imp (uJ he (zx ho hi (Ap hu) ha) hs hw h1) fun En σ H ⟨ρ,σd,hd,rs,p⟩=>⟨ρ,σd,hd,rs,(bK.outE p).imp fun v H1 ⟨ρ1,d,hd1,e1,rs1,rv,p1⟩ => ?_⟩
  refine⟨ρ1,σd,hd1,rs1,(bK.outE p1).imp fun vo H2 ⟨ρ2,dO,hd2,e2,rs2,ro,p2⟩ => ?_⟩
  refine⟨ρ2,σd,hd2,rs2,(bK.outE p2).imp fun vi H3 ⟨ρ3,di,hd3,e3,rs3,ri,p3⟩ => ?_⟩
  have rv3:=(rv.mono (rs1.hp.kp e2)).mono (rs2.hp.kp e3)
  have ro3:=ro.mono (rs2.hp.kp e3)
  cases dO with
  | ref n =>
    cases di with
    | int j =>
      simp only at p3
      cases c:hd3[n]? with
      | none=>rw [c] at p3;exact p3.elim
      | some cell =>
        rw [c] at p3
        cases cell with
        | lst l=>exact p3.elim
        | dct l =>
          simp only at p3
          split at p3
          · rename_i hz
            simp only [RD] at ro3 ri
            subst ri
            obtain⟨a,ha,rfl⟩:=ro3
            obtain⟨kvs,q1,q2,q3⟩:=rs3.hp.cel n _ a c ha
            have hl:kvs.length=l.length:=by have:=congrArg List.length q2;simpa using this
            refine⟨a,_,rfl,Ak.k (k:=Sum.inl j) q1 (by rw [hl];exact Nat.lt_of_lt_of_le hz (by rw [sizeLine_eq];decide)),?_⟩
            have hn:n < hd3.length:=(List.getElem?_eq_some_iff.mp c).1
            obtain⟨u1,u2⟩:=Ao j rv3 q2 q3
            have rh:=rs3.hp.writeD ha hn u1 u2
            have ex:Ext ρ3 H3 ρ3 (upd H3 a (.dK (iV kvs (Sum.inl j) v))):=Ext.write (List.mem_of_getElem? ha)
            exact p3 σ _ ρ3 ex (rs3.ext ex rh)
          · exact p3.elim
    | _=>exact p3.elim
  | _=>exact p3.elim
end
end Fm
set_option Elab.async false
set_option linter.all false
set_option maxRecDepth 100000
namespace Fm
open PySem PySem.Spec L2 PySem.W PyProof.Rows
section
variable {X:Cx} {pos p:Pos}
theorem py {P:Program}{w:World}{H:Hp}{h h':Heap}(hok:HOk P w H h)(hk:∀ b o xs,H b=some (.tup xs)→h.get? b=some o→h'.get? b=some o):∀ {vs:List V} {rs:List (List Int)} {its:List Value},bG H vs rs→aT vs its→(rs.all fun x => !x.isEmpty)=true →
    ∃ fs,KatTups h' its fs∧fs.length=its.length ∧ ∀ v∈fs,∃ i t,v=Value.int i t
  | _,_,_,.nil,.nil,_=>⟨[],.nil,rfl,fun v hv=>by simp at hv⟩
  | _,_,_,.cons (a:=a) (r:=r) ha t,.cons rv rt,hne=>by
    simp only [List.all_cons,Bool.and_eq_true,Bool.not_eq_true'] at hne
    obtain⟨fs,h1,h2,h3⟩:=py hok hk t rt hne.2
    obtain⟨z,its0,r0,⟨o,ho,hc,n,hd⟩,_⟩:=hok a _ ha
    cases r with
    | nil=>simp at hne
    | cons i r =>
      cases r0 with
      | cons q0 qr =>
        rename_i u us
        obtain⟨tk,rfl⟩:=qz q0
        cases rv
        refine⟨.int i tk :: fs,KatTups.cons (hk a o _ ha ho) hc hd (by simp) h1,by simp [h2],fun v hv => ?_⟩
        rcases List.mem_cons.mp hv with rfl|hv
        · exact⟨i,tk,rfl⟩
        · exact h3 v hv
theorem Ea {pins:List (Addr × Obj)}{σ:L2.St}{H:Hp}{s:Shared}{B:Addr}{vs:List V}{rs:List (List Int)}{A:Around}{E:Value→Shared→Prop}{Q:Value→Shared→Prop}(I:Inv X pins σ H s)(hB:H B=some (.lst vs))(h64:vs.length < 64)(rv:bG H vs rs)(nd:rs.Nodup)(hne:(rs.all fun x => !x.isEmpty)=true)
    (q:∀ vs' s',bG H vs' (cc rs)→Inv X pins σ (upd H B (.lst vs')) s'→Q .none s'):wpAny (model X.prog X.w) A (call (.builtin "list.sort") [.ref B]) Q E s:=by
  obtain⟨hz,its,n0,rvs,ho⟩:=I.hok B _ hB
  have hlen:its.length=vs.length:=rvs.length.symm
  obtain⟨m,hm,_⟩:=id I.loc
  have nL:∀ b u,H b=some u→b≠X.env.locals:=fun b u e z=>by rw [z,I.free] at e;cases e
  have BL:=nL B _ hB
  have selfUpd:∀ vs',vs'=vs→upd H B (.lst vs')=H:=fun vs' e=>by
    subst e
    funext b
    by_cases z:b=B
    · subst z;rw [aS,hB]
    · rw [aq z]
  have after:∀ (h2:Heap) (its':List Value) (vs':List V) (c t':Nat),bG H vs' (cc rs)→aT vs' its'→vs'.length≤sizeLine→h2.get? B=some (PySem.W.listOf its'.toArray c)→(∀ b o,b≠X.env.locals→b≠B→s.heap.get? b=some o→h2.get? b=some o)→h2.Ns X.env.locals m→Inv X pins σ (upd H B (.lst vs')) { s with heap:=h2,toks:=t' }:=fun h2 its' vs' c t' rv' rvs' hz' hB2 keep2 ns2=>by
    have I2:L2.Inv X pins σ (upd H B (.lst vs')) { s with heap:=h2,gens:=s.gens,drawn:=s.drawn,toks:=t' }:=by
      refine I.step (g':=s.gens) (d':=s.drawn) (t':=t') (ch:=[]) (fun _ z=>nomatch z) (fun b o hb _ _ e n=>keep2 b o hb (fun z=>by subst z;rw [hB] at n;cases n) e) (fun b o hb _ _ e n=>⟨o.slots,keep2 b o hb (fun z=>by subst z;rw [hB] at n;cases n) e⟩) (fun b o _ e n=>by rw [aq (fun z=>by subst z;rw [hB] at n;cases n)];exact n) (fun b o _ e => ?_)
        (fun b ys e=>by rw [aq (fun z=>by subst z;rw [hB] at e;cases e)];exact e) (fun b o u e=>by rw [aq (fun z=>by subst z;rw [hB] at e;cases e)];exact e) (fun b ps e=>⟨#[],by rw [aq (fun z=>by subst z;rw [hB] at e;cases e),e];simp⟩) (fun m' hm'=>by rw [Ab hm' hm];exact ns2) (fun b u e => ?_) I.bare
      · by_cases hb:b=X.env.locals
        · obtain⟨o',_,_,ho',_⟩:=ns2
          rw [hb];exact⟨o',ho'⟩
        · by_cases hb2:b=B
          · subst hb2;exact⟨_,hB2⟩
          · exact⟨o,keep2 b o hb hb2 e⟩
      · by_cases hb:b=B
        · subst hb
          rw [aS] at e
          cases e
          exact⟨hz',its',c,rvs',hB2⟩
        · rw [aq hb] at e
          refine (I.hok b u e).stay (fun c v hc z => ?_) (fun c z=>by rw [aq (fun y=>by subst y;rw [hB] at z;cases z)];exact z) fun c ys z=>by rw [aq (fun y=>by subst y;rw [hB] at z;cases z)];exact z
          rcases hc with w|w
          · subst w;exact keep2 c v (nL c _ e) hb z
          · exact keep2 c v (nL c _ w) (fun y=>by subst y;rw [hB] at w;cases w) z
    exact I2
  by_cases h2:its.length < 2
  · have hs:cc rs=rs:=by
      have:rs.length < 2:=by rw [← rv.length];omega
      match rs,this with
      | [],_=>rfl
      | [_],_=>rfl
    have ha:B < s.heap.objs.size:=Heap.lt_size ho
    have ho':s.heap.get? B=some (seqObj "list" its.toArray n0):=ho
    refine wpAny_call_entry slot_list_sort ⟨_,ho,rfl⟩ entry_list_sort (lW ho' h2 ⟨_,rfl,?_⟩) (args_list_sort _)
    obtain⟨e1,ho1⟩ : ∃ e1,(s.heap.update B (Obj.mapSeq fun _ => #[])).get? B=some (seqObj "list" #[] e1):=⟨_,get?_update_seq ho' (fun _ => #[])⟩
    have ho6:(((s.heap.update B (Obj.mapSeq fun _ => #[])).push (seqObj "tuple" its.toArray 0)).push (seqObj "list" #[] 0)).get? B=some (seqObj "list" #[] e1):=by
      rw [Heap.get?_push_ne _ _ _ (by rw [size_push',Heap.size_update];exact Nat.ne_of_lt (Nat.lt_succ_of_lt ha)),Heap.get?_push_ne _ _ _ (by rw [Heap.size_update];exact Nat.ne_of_lt ha)]
      exact ho1
    have keepS:∀ b o,b≠B→s.heap.get? b=some o→(sortedHeap s.heap B its its.toArray).get? b=some o:=fun b o hb e=>by
      have hlt:b < s.heap.objs.size:=Heap.lt_size e
      unfold sortedHeap
      rw [Heap.get?_update_ne _ _ _ _ hb,Heap.get?_push_ne _ _ _ (by rw [size_push',Heap.size_update];exact Nat.ne_of_lt (Nat.lt_succ_of_lt hlt)),Heap.get?_push_ne _ _ _ (by rw [Heap.size_update];exact Nat.ne_of_lt hlt),Heap.get?_update_ne _ _ _ _ hb]
      exact e
    have ns2:(sortedHeap s.heap B its its.toArray).Ns X.env.locals m:=by
      obtain⟨o',es,ep,h1,r⟩:=hm
      exact⟨o',es,ep,keepS _ _ (Ne.symm BL) h1,r⟩
    refine q vs _ (by rw [hs];exact rv) (after _ its vs _ s.toks (by rw [hs];exact rv) rvs hz (get?_update_seq ho6 _) (fun b o _ hb e=>keepS b o hb e) ns2)
  · have N0:News (Att.noObjs s.heap) X.env.locals s.heap ((B,PySem.W.listOf its.toArray n0) :: Att.ledger s.heap X.env.locals B):=fun ⟨b,o⟩ hb=>by
      rcases List.mem_cons.mp hb with e|hb
      · cases e
        exact⟨ho,BL,Att.noObjs_get _ _⟩
      · obtain⟨n1,n2,e⟩:=Att.mem_ledger.mp hb
        exact⟨e,n1,Att.noObjs_get _ _⟩
    have hDn:∀ q∈Att.ledger s.heap X.env.locals B,q.1≠B:=fun ⟨b,o⟩ hq=>(Att.mem_ledger.mp hq).2.1
    refine kat_lsort (vs:=its) (Att.fr_all hm) N0 (UpdF.head hDn) (by simp) (by omega) (by omega) fun e1 h' F' N' => ?_
    have inN:∀ b o,b≠X.env.locals→b≠B→s.heap.get? b=some o→(b,o)∈Att.ledger s.heap X.env.locals B:=fun b o hb hb2 e=>Att.mem_ledger.mpr ⟨hb,hb2,e⟩
    have keep':∀ b o,b≠X.env.locals→b≠B→s.heap.get? b=some o→h'.get? b=some o:=fun b o hb hb2 e=>(N' (b,o) (List.mem_cons_of_mem _ (inN b o hb hb2 e))).1
    obtain⟨fs,t1,t2,t3⟩:=py I.hok (h':=h') (fun b o xs hb e=>keep' b o (nL b _ hb) (fun z=>by subst z;rw [hB] at hb;cases hb) e) rv rvs hne
    refine kat_kind (s:={ s with heap:=h' }) (T:=.type "int") t1 (by omega) (fun v hv => ?_) rfl ?_
    · obtain⟨i,t,rfl⟩:=t3 v hv
      exact Looks.of_pure rfl
    · have hT:(Value.type "int" != Value.type "tuple")=true:=by decide
      rw [hT]
      have hrl:rs.length=its.length:=by rw [← rv.length,hlen]
      have dif:∀ i j,i < its.length→j < its.length→i≠j→rs.getD i []≠rs.getD j []:=fun i j hi hj hij z=>by
        have e1:rs.getD i [] = rs[i]'(by omega):=by simp [List.getD,show i < rs.length by omega]
        have e2:rs.getD j [] = rs[j]'(by omega):=by simp [List.getD,show j < rs.length by omega]
        rw [e1,e2] at z
        exact hij ((List.getElem_inj nd).mp z)
      have O:Ord (fun i j=>Fm.bw (rs.getD i []) (rs.getD j [])) its.length:=⟨fun i j _ _ h=>kw h,fun i j k _ _ _ h h'=>eY h h',fun i j hi hj hij h=>jP (dif i j hi hj hij) h⟩
      refine sX O (fun i j hi hj C hC => ?_) (by omega) fun pp g srt => ?_
      · unfold kas_ask
        have at':∀ i,i < its.length → ∃ b,its.getD i Value.none=.ref b ∧ ∃ (o:Obj) (zs:List Value) (n:Nat),h'.get? b=some o∧o.data=.seq zs.toArray n∧IntsAre zs (rs.getD i []):=fun i hi=>by
          have hv:vs[i]? = some (vs[i]'(by omega)):=by simp [show i < vs.length by omega]
          obtain⟨b,e1,e2⟩:=rv.get hv
          obtain⟨u,hu,ru⟩:=rvs.get hv
          rw [e1] at ru
          cases (show u=Value.ref b from ru)
          obtain⟨z,zs,r0,⟨o,ho,hc,n,hd⟩,_⟩:=I.hok b _ e2
          exact⟨b,by simp [List.getD,hu],o,zs,n,keep' b o (nL b _ e2) (fun z=>by subst z;rw [hB] at e2;cases e2) ho,hd,lF r0⟩
        obtain⟨b1,x1,o1,z1,n1,y1,d1,i1⟩:=at' i hi
        obtain⟨b2,x2,o2,z2,n2,y2,d2,i2⟩:=at' j hj
        rw [x1,x2]
        refine kat_lt (s:={ s with heap:=h' }) y1 d1 y2 d2 ?_
        have:=z9 (prog:=X.prog) (w:=X.w) (A:=A.in1) (s:={ s with heap:=h' }) (Q:=C) (rs.getD i []) (rs.getD j []) 0 i1 i2 hC
        simpa using this
      · have pmL:pp.toList.Perm (List.range its.length):=by simpa using Array.perm_iff_toList_perm.mp g.pm
        have inR:∀ i∈pp.toList,i < vs.length:=fun i hi=>by
          have:=pmL.mem_iff.mp hi
          rw [← hlen];simpa using this
        obtain⟨vs',hvs'⟩ : ∃ vs',vs'=pp.toList.map fun i=>vs.getD i .non:=⟨_,rfl⟩
        obtain⟨its',hits'⟩ : ∃ its',its'=pp.toList.map fun i=>its.getD i Value.none:=⟨_,rfl⟩
        have rv':bG H vs' (cc rs):=by
          have e:(pp.toList.map fun i=>rs.getD i [])=cc rs:=by
            refine yi (?_:List.Perm _ _) ?_ (gP nd)
            · refine ((pmL.map fun i=>rs.getD i []).trans ?_).trans (fq rs).symm
              have:((List.range its.length).map fun i=>rs.getD i [])=rs:=by
                apply List.ext_getElem?
                intro i
                by_cases hi:i < rs.length
                · have:i < its.length:=by omega
                  simp [List.getD,hi,this]
                · have : ¬ i < its.length:=by omega
                  simp [hi,this]
              rw [this]
            · rw [List.pairwise_map]
              rw [List.pairwise_iff_getElem]
              intro i j hi hj hij
              have s1:=srt i j hij (by rw [← g.sz];simpa using hj)
              have g1:pp.getD i 0=pp.toList[i]:=by simp [Array.getD,show i < pp.size by simpa using hi]
              have g2:pp.getD j 0=pp.toList[j]:=by simp [Array.getD,show j < pp.size by simpa using hj]
              rw [g1,g2] at s1
              exact s1
          have:=rv.pick pp.toList inR
          rw [e,← hvs'] at this
          exact this
        have rvs':aT vs' its':=by rw [hvs',hits'];exact aT.pick rvs pp.toList inR
        have hz':vs'.length≤sizeLine:=by
          have l1:vs'.length=its.length:=by rw [hvs',List.length_map,pmL.length_eq,List.length_range]
          rw [l1,hlen];exact hz
        rw [← hits']
        refine KasFin.intro F' N' (UpdF.head hDn) fun h2 c F2 N2 => ?_
        have hD2:h2.get? B=some (PySem.W.listOf its'.toArray c):=(N2 (B,_) (List.mem_cons_self ..)).1
        have keep2:∀ b o,b≠X.env.locals→b≠B→s.heap.get? b=some o→h2.get? b=some o:=fun b o hb hb2 e=>(N2 (b,o) (List.mem_cons_of_mem _ (inN b o hb hb2 e))).1
        exact q vs' _ rv' (after h2 its' vs' c s.toks rv' rvs' hz' hD2 keep2 F2.ns)
end
end Fm
set_option Elab.async false
set_option linter.all false
set_option maxRecDepth 100000
namespace Fm
open PySem PySem.Spec L2 PySem.W PyProof.Rows
section
variable {X:Cx} {pos p:Pos}
def qD (p d:Addr):Heap→Prop:=fun h=>h.get? p=some { cls:=.type "dict_items",data:=.fields #[.ref d] }
def Eb (td:TE):TE:=fun σ H Q=>td σ H fun x H1=>∃ a kvs,x=.ref a∧H1 a=some (.dK kvs) ∧ ∀ p,H1 p=none→Q (.ref p) (upd H1 p (.ext (qD p a)))
theorem Aq {o:Expr} {td:TE} {apos cpos:Pos} (ho:PE X o td) (hbase:attributeBase o "items" X.env (eval o X.env)=eval o X.env:=by rfl) (hline:(apos.endLine == cpos.line)=true:=by rfl) :
    PE X (.Call (.Attribute o "items" apos) [] [] cpos) (Eb td):=by
  intro pins s σ H Q I h
  refine wpAny_Call_method0_late hbase hline (thn (ho pins s σ H _ I h) fun v s1 ⟨x,H1,I1,r1,a,kvs,ex,e,q1⟩ => ?_)
  subst ex
  obtain rfl:v=Value.ref a:=r1
  obtain⟨t1,t2,hs⟩:=Am I1 (.inl ⟨kvs,.inl e⟩)
  obtain⟨_,hd,vs,_,dd⟩:=Ah I1.hok e
  refine⟨"dict", "dict.items",PySem.F.plainAttrs_dict,PySem.F.slot_dict_items,PySem.F.type_dict_items,t1,t2,Calls.callWith_builtin rfl (PySem.evalArgs_none ?_)⟩
  refine call_meetsIn PySem.F.slot_dict_items t1 PySem.F.entry_dict_items (PySem.F.args_dict_items_1 _) (meets_dict_items (bB X.prog X.w) a hd) ⟨⟨vs,dd⟩,?_⟩
  refine⟨.ref s1.heap.objs.size,_,I1.laid (t':=s1.toks) (o:=.ext (qD s1.heap.objs.size a)) (fun b ob q=>Heap.get?_push_of_some _ q) (Nat.le_refl _) ⟨Heap.get?_push_size _ rfl,⟨_,Heap.get?_push_size _ rfl⟩,fun h1 h2 f k=>k _ f⟩,rfl,q1 _ (I1.hok.fresh (Nat.le_refl _))⟩
theorem Ar {pins:List (Addr × Obj)}{σ:L2.St}{H H':Hp}{s:Shared}{h':Heap}{t':Nat}(I:Inv X pins σ H s)(keep:∀ b o,s.heap.get? b=some o→h'.get? b=some o)(sm:gC H H')(fresh:∀ b,b < s.heap.objs.size→H' b=H b)(new:∀ b u,s.heap.objs.size≤b→H' b=some u→cZ X.prog X.w H' h' b u ∧ ∀ c,u ≠ .own c):Inv X pins σ H' { s with heap:=h',toks:=t' }:=by
  have I2:L2.Inv X pins σ H' { s with heap:=h',gens:=s.gens,drawn:=s.drawn,toks:=t' }:=by
    refine I.step (g':=s.gens) (d':=s.drawn) (t':=t') (ch:=[]) (fun _ z=>nomatch z) (fun b o _ _ _ e _=>keep b o e) (fun b o _ _ _ e _=>⟨o.slots,keep b o e⟩) (fun b o _ e n=>by rw [fresh b (Heap.lt_size e)];exact n) (fun b o _ e=>⟨o,keep b o e⟩)
      (fun b ys e=>sm _ _ e) (fun b o u e=>sm _ _ e) (fun b ps e=>⟨#[],by rw [sm _ _ e];simp⟩) (fun m hm => ?_) (fun b u e => ?_) I.bare
    · obtain⟨o',es,ep,h1,r⟩:=hm
      exact⟨o',es,ep,keep _ _ h1,r⟩
    · by_cases hb:b < s.heap.objs.size
      · rw [fresh b hb] at e
        refine (I.hok b u e).stay (fun c v hc z=>keep c v z) (fun c z=>sm _ _ z) fun c ys z=>sm _ _ z
      · exact (new b u (Nat.le_of_not_lt hb) e).1
  exact I2
def ov:List Addr→List (List Int)→Hp→Hp
  | a :: as,r :: rs,H=>upd (ov as rs H) a (.tup (r.map V.int))
  | _,_,H=>H
theorem xt {b:Addr}{H:Hp}:∀ {as:List Addr} {rs:List (List Int)},b∉as→ov as rs H b=H b
  | [],_,_=>rfl
  | a :: as,[],_=>rfl
  | a :: as,r :: rs,h=>by
    have h1:b≠a:=fun z=>h (by simp [z])
    have h2:b∉as:=fun z=>h (by simp [z])
    show upd _ _ _ b=_
    rw [aq h1,xt h2]
theorem As {H:Hp}:∀ {as:List Addr} {rs:List (List Int)} {j:Nat} {a:Addr} {r:List Int},as.Nodup→as[j]? = some a→rs[j]? = some r→ov as rs H a=some (.tup (r.map V.int))
  | [],_,_,_,_,_,e,_=>by simp at e
  | a :: as,[],_,_,_,_,_,e=>by simp at e
  | a :: as,r :: rs,0,_,_,_,e,e'=>by simp at e e';subst e e';exact aS
  | a :: as,r :: rs,j + 1,b,q,nd,e,e'=>by
    obtain⟨n1,n2⟩:=List.nodup_cons.mp nd
    have e:as[j]? = some b:=by simpa using e
    have hb:b≠a:=fun z=>n1 (by rw [← z];exact List.mem_of_getElem? e)
    show upd _ _ _ b=_
    rw [aq hb]
    exact As n2 e (by simpa using e')
theorem bG.mono {H H':Hp}(k:∀ a xs,H a=some (.tup xs)→H' a=some (.tup xs)):∀ {vs:List V} {rs:List (List Int)},bG H vs rs→bG H' vs rs
  | _,_,.nil=>.nil
  | _,_,.cons h t=>.cons (k _ _ h) (bG.mono k t)
theorem xu {H':Hp}:∀ {as:List Addr} {rs:List (List Int)},as.length=rs.length→(∀ (j:Nat) a r,as[j]? = some a→rs[j]? = some r→H' a=some (.tup (r.map V.int)))→bG H' (as.map V.ref) rs
  | [],[],_,_=>.nil
  | [],_ :: _,h,_=>by simp at h
  | _ :: _,[],h,_=>by simp at h
  | a :: as,r :: rs,h,f=>.cons (f 0 a r rfl rfl) (xu (by simpa using h) fun j b q e e'=>f (j + 1) b q (by simpa using e) (by simpa using e'))
def Ec:List V→Hp→VK→Prop:=fun xs H Q=>∃ (p a:Addr) (ps:List (Int × Int)),xs=[.ref p]∧H p=some (.ext (qD p a))∧H a=some (.dK (ps.map fun q=>((Sum.inl q.1:Key),V.int q.2)))∧ps.length < 64∧(ps.map fun q=>[q.1,q.2]).Nodup ∧
  ∀ H' q vs',gC H H'→H q=none→H' q=some (.lst vs')→bG H' vs' (cc (ps.map fun q=>[q.1,q.2]))→Q (.ref q) H'
theorem Fv {κ : Type}{kvs:List (κ × V)}{vs:List (κ × Value)}(r:KV kvs vs):∀ {j:Nat} {k : κ} {x:Value} {k' : κ} {v:V},vs[j]? = some (k,x)→kvs[j]? = some (k',v)→k'=k∧bh v x:=by
  induction r with
  | nil=>intro j k x k' v e;simp at e
  | cons h t ih =>
    intro j k x k' v e e'
    cases j with
    | zero=>simp at e e';subst e e';exact h
    | succ j=>exact ih (by simpa using e) (by simpa using e')
theorem u4 (hc:X.calm=true):eU X (.builtin "sorted") Ec:=by
  intro pins s σ H xs us Q I r h
  obtain⟨p,a,ps,rfl,hp,ha,h64,nd,q⟩:=h
  obtain⟨u,rfl,ru⟩:=aT.one r
  cases (show u=Value.ref p from ru)
  obtain⟨rs,hrs⟩ : ∃ rs,rs=ps.map fun q=>[q.1,q.2]:=⟨_,rfl⟩
  rw [← hrs] at nd q
  have view:qD p a s.heap:=(I.hok p _ hp).1
  obtain⟨hz,_,vs,rel,dd⟩:=Ah I.hok ha
  have lv:vs.length=ps.length:=by rw [← rel.length];simp
  obtain⟨o,es,ep,d1,d2⟩:=id dd
  have dat:s.heap.DictAt (bB X.prog X.w) a vs ep:=⟨o,es,d1,d2⟩
  refine Calls.call_function_entry kind_sorted plain_sorted entry_sorted (args_sorted1 _) ?_
  unfold Builtin.«sorted»
  refine wpAny_bind (m:=checkCount "sorted" 1 1 _) (wpAny_pure ?_)
  refine wpAny_bind (kdx_collect (A:=X.A.in1) (knd:=bB X.prog X.w) (kvs:=vs) (ep:=ep) (I.ok.hd hc) ⟨_,view,rfl,rfl⟩ dat (by rw [lv,sizeLine_eq];omega) fun h' tk as hk hl hG => ?_)
  have ndA:as.Nodup:=hG.rise.imp fun h=>Nat.ne_of_lt h
  have lr:as.length=rs.length:=by rw [hl,lv,hrs];simp
  have newA:∀ b∈as,s.heap.objs.size≤b:=fun b hb=>Nat.le_of_lt (hG.above b hb)
  have sm:gC H (ov as rs H):=fun b u e=>by
    rw [xt]
    · exact e
    · intro z
      exact absurd (I.hok.lt e) (Nat.not_lt.mpr (newA b z))
  have I1:Inv X pins σ (ov as rs H) { s with heap:=h',toks:=tk }:=by
    refine Ar I hk sm (fun b hb=>xt fun z=>absurd hb (Nat.not_lt.mpr (newA b z))) fun b u hb e => ?_
    by_cases hm:b∈as
    · obtain⟨j,hj⟩:=List.getElem?_of_mem hm
      have hjl:j < as.length:=(List.getElem?_eq_some_iff.mp hj).1
      obtain⟨key,k,x,e1,e2,e3⟩:=hG.pairs j b hj
      obtain⟨pq,hpq⟩ : ∃ pq,ps[j]? = some pq:=⟨ps[j]'(by omega),by simp [show j < ps.length by omega]⟩
      have hr:rs[j]? = some [pq.1,pq.2]:=by rw [hrs,List.getElem?_map,hpq];rfl
      rw [As ndA hj hr] at e
      cases e
      refine⟨?_,fun c z=>by cases z⟩
      obtain⟨hkk,rx⟩:=Fv rel e1 (show (ps.map fun q=>((Sum.inl q.1:Key),V.int q.2))[j]? = some (Sum.inl pq.1,V.int pq.2) by rw [List.getElem?_map,hpq];rfl)
      obtain⟨t,rfl⟩:=qz rx
      subst hkk
      have:∃ t',key=Value.int pq.1 t':=Value.isInt_shape e2
      obtain⟨t',rfl⟩:=this
      exact⟨by simp [sizeLine_eq],[_,_],.cons ⟨t',rfl⟩ (.cons ⟨t,rfl⟩ .nil),⟨_,e3,rfl,_,rfl⟩,_,e3,rfl⟩
    · rw [xt hm] at e
      exact absurd (I.hok.lt e) (Nat.not_lt.mpr hb)
  refine wpAny_bind (wpAny_newList ?_ (by rw [List.length_map,hl,lv,sizeLine_eq];omega))
  have rvA:aT (as.map V.ref) (as.map Value.ref):=by
    clear hl hG ndA lr newA sm I1 q
    induction as with
    | nil=>exact .nil
    | cons a as ih=>exact .cons rfl ih
  have I2:Inv X pins σ (upd (ov as rs H) h'.objs.size (.lst (as.map V.ref))) { s with heap:=h'.push { cls:=.type "list",data:=.seq (as.map Value.ref).toArray },toks:=tk }:=I1.lnew (t':=tk) rvA (by rw [List.length_map,hl,lv,sizeLine_eq];omega)
  have fr:ov as rs H h'.objs.size=none:=I1.hok.fresh (Nat.le_refl _)
  have sm2:gC (ov as rs H) (upd (ov as rs H) h'.objs.size (.lst (as.map V.ref))):=bX fr
  have rowsA:bG (upd (ov as rs H) h'.objs.size (.lst (as.map V.ref))) (as.map V.ref) rs:=xu lr fun j b r e e'=>sm2 _ _ (As ndA e e')
  have hne:(rs.all fun x => !x.isEmpty)=true:=by rw [hrs,List.all_map,List.all_eq_true];intro q _;rfl
  refine wpAny_bind (wpAny_holding (Ea (A:=X.A.in1) I2 aS (by rw [List.length_map,hl,lv];exact h64) rowsA nd hne fun vs' s' rv' I3=>wpAny_pure ⟨_,rfl,?_⟩))
  have uu:upd (upd (ov as rs H) h'.objs.size (.lst (as.map V.ref))) h'.objs.size (.lst vs')=upd (ov as rs H) h'.objs.size (.lst vs'):=by
    funext b
    by_cases z:b=h'.objs.size
    · subst z;rw [aS,aS]
    · rw [aq z,aq z,aq z]
  rw [uu] at I3
  refine⟨.ref h'.objs.size,_,I3,rfl,q _ _ vs' (fun b u e=>bX fr _ _ (sm _ _ e)) ?_ aS ?_⟩
  · cases e:H h'.objs.size with
    | none=>rfl
    | some u=>rw [sm _ _ e] at fr;cases fr
  · refine rv'.mono fun b ys e => ?_
    have hb:b≠h'.objs.size:=fun z=>by subst z;rw [aS] at e;cases e
    rw [aq hb] at e ⊢
    exact e
theorem ky:∀ {l:List (Int × D)} {r:List (List Int)},dC l=some r → ∃ ps:List (Int × Int),l=ps.map (fun q=>(q.1,D.int q.2))∧r=ps.map fun q=>[q.1,q.2]
  | [],r,e=>by simp only [dC] at e;cases e;exact⟨[],rfl,rfl⟩
  | (k,d) :: l,r,e=>by
    cases d<;>simp only [dC] at e<;>try (cases e;done)
    rename_i v
    cases c:dC l with
    | none=>rw [c] at e;cases e
    | some r' =>
      rw [c] at e
      cases e
      obtain⟨ps,rfl,rfl⟩:=ky c
      exact⟨(k,v) :: ps,rfl,rfl⟩
theorem At {K:PySem.W.Frag}{ρ:List Addr}{H:Hp}:∀ {ps:List (Int × Int)} {kvs:List (Key × V)},kvs.map (·.1)=(ps.map fun q=>(q.1,D.int q.2)).map (fun p=>(Sum.inl p.1:Key))→RDs K ρ H ((ps.map fun q=>(q.1,D.int q.2)).map (·.2)) (kvs.map (·.2))→kvs=ps.map fun q=>((Sum.inl q.1:Key),V.int q.2)
  | [],[],_,_=>rfl
  | [],_ :: _,h,_=>by simp at h
  | _ :: _,[],h,_=>by simp at h
  | (j,d) :: ps,(kk,v) :: kvs,h1,h2=>by
    simp only [List.map_cons,List.cons.injEq] at h1
    simp only [List.map_cons,RDs] at h2
    obtain⟨v',r',e,q1,q2⟩:=h2
    cases e
    obtain⟨e1,e2⟩:=h1
    subst e1
    simp only [RD] at q1
    subst q1
    rw [At e2 q2]
    rfl
theorem Au {o:Expr} {fo:EF} {apos cpos:Pos} (hc:X.calm=true) (hg:Gl X "sorted") (hm:X.mg "sorted" = none) (ho:ME X o fo)
    (hs:starEach [.Call (.Attribute o "items" apos) [] [] cpos] X.env=(false,eval (.Call (.Attribute o "items" apos) [] [] cpos) X.env) :: starEach [] X.env:=by rfl)
    (hbase:attributeBase o "items" X.env (eval o X.env)=eval o X.env:=by rfl) (hline:(apos.endLine == cpos.line)=true:=by rfl) :
    MF X (.Call (.Name "sorted" p) [.Call (.Attribute o "items" apos) [] [] cpos] [] pos) (gR fo):=by
  refine PE.imp (fE (u4 hc) hg hm (by decide +kernel) (bT (Aq ho hbase hline) dH hs) (he:=hs)) fun σ H Q ⟨ρ,σd,hd,rs,pp⟩=>⟨ρ,σd,hd,rs,?_⟩
  unfold gR at pp
  cases e:fo σd hd with
  | exc x h'=>rw [e] at pp;exact pp
  | bad=>rw [e] at pp;exact pp
  | ok d hd1 =>
    rw [e] at pp
    simp only [aM] at pp
    intro v H1 ρ1 e1 rs1 rv
    cases d<;>try exact pp.elim
    rename_i n
    simp only at pp
    simp only [rD,RD] at rv
    obtain⟨a,ha,rfl⟩:=rv
    cases c:hd1[n]? with
    | none=>rw [c] at pp;exact pp.elim
    | some cell =>
      rw [c] at pp
      cases cell with
      | lst l=>exact pp.elim
      | dct l =>
        simp only at pp
        cases c2:dC l with
        | none=>rw [c2] at pp;exact pp.elim
        | some r =>
          rw [c2] at pp
          simp only at pp
          split at pp
          · rename_i hz
            obtain⟨ps,rfl,rfl⟩:=ky c2
            obtain⟨kvs,q1,q2,q3⟩:=rs1.hp.cel n _ a c ha
            have hk:=At q2 q3
            subst hk
            refine⟨a,_,rfl,q1,fun q hq=>⟨q,a,ps,rfl,aS,by rw [aq (aE q1 hq)];exact q1,by simpa using hz.1,hz.2,fun H' q' vs' sm hq' hl' rv' => ?_⟩⟩
            have sm1:gC H1 H':=fun b u eb=>sm _ _ (bX hq _ _ eb)
            have nq:q'≠q:=fun z=>by subst z;rw [aS] at hq';cases hq'
            rw [aq nq] at hq'
            have hn:=rs1.hp.free hq'
            exact pp q' vs' H' ρ1 (e1.trans (Ext.same sm1)) (rs1.same sm1) (e1.fresh hq' hn) hl' hn rv'.rds
          · exact pp.elim
end
end Fm
set_option linter.all false
namespace Fm
@[simp] def Gh (la:LF) (b:EF):LF:=fun σ h=>(la σ h).bind fun l h=>(b σ h).bind fun y h=>match y with
  | .int n=>if 0≤n∧n≤1000∧l.length * n.toNat≤1000 then .ok (List.replicate n.toNat l).flatten h else .bad
  | _=>.bad
@[simp] def l9 (a b:EF):EF:=fun σ h=>(a σ h).bind fun x h=>(b σ h).bind fun y h=>match x,y with
  | .int i,.int j=>.ok (.int (if j > i then j else i)) h
  | _,_=>.bad
end Fm
set_option Elab.async false
set_option linter.all false
set_option maxRecDepth 100000
namespace Fm
open PySem PySem.Spec L2 PySem.W PyProof.Rows
section
variable {X:Cx} {pos p:Pos}
theorem u5 {a b:Expr} {fa fb:EF} (hc:X.calm=true) (hg:Gl X "max") (hm:X.mg "max" = none) (ha:ME X a fa) (hb:ME X b fb) (hs:starEach [a,b] X.env=(false,eval a X.env) :: starEach [b] X.env:=by rfl) (hs2:starEach [b] X.env=(false,eval b X.env) :: starEach [] X.env:=by rfl) (hpl:(backTo pos (starEach [b] X.env)).any (fun x=>x.1)=false:=by rfl):ME X (.Call (.Name "max" p) [a,b] [] pos) (l9 fa fb):=by
  refine PE.imp (fE (xX hc) hg hm (by decide +kernel) (bT ha (bT hb dH hs2) hs) (he:=hs) (hpl:=hpl)) fun σ H Q ⟨ρ,σd,hd,rs,pp⟩=>⟨ρ,σd,hd,rs,?_⟩
  unfold l9 at pp
  refine (bo.bind (R:=rD X.K) pp).imp fun v H1 ⟨ρ1,d,hd1,e1,rs1,rv,p1⟩ => ?_
  refine⟨ρ1,σd,hd1,rs1,(bo.bind (R:=rD X.K) p1).imp fun w H2 ⟨ρ2,k,hd2,e2,rs2,rw',p2⟩ => ?_⟩
  cases d<;>try exact p2.elim
  cases k<;>try exact p2.elim
  simp only [rD,RD] at rv rw'
  subst rv rw'
  exact⟨_,_,rfl,p2.here rs2 (by simp only [rD,RD])⟩
end
end Fm
set_option linter.all false
namespace Fm
@[simp] def B0 (a b:EF):IF:=fun σ h=>(a σ h).bind fun x h=>(b σ h).bind fun y h=>match x,y with
  | .tup l,.tup k=>.ok ((l.zip k).map fun p=>.tup [p.1,p.2],none) h
  | _,_=>.bad
@[simp] def Gi (a:EF):EF:=fun σ h=>(a σ h).bind fun x h=>match x with | .int i=>.ok (.int i.natAbs) h|_=>.bad
@[simp] def yk (a b:EF):EF:=fun σ h=>(a σ h).bind fun x h=>(b σ h).bind fun y h=>match x,y with
  | .int i,.int j=>.ok (.int (if j < i then j else i)) h
  | _,_=>.bad
noncomputable section
open Classical
end
end Fm
set_option Elab.async false
set_option linter.all false
set_option maxRecDepth 100000
namespace Fm
open PySem PySem.Spec L2
open PyProof.Rows (Call_)
theorem ef {h h':Heap}{i l:Addr}{xs:Array Value}(t:h.IsTuple l xs)(e:Heap.ExtBut i h h')(n:l≠i):h'.IsTuple l xs:=by
  obtain⟨o,ho,r⟩:=t
  exact⟨o,e _ _ n ho,r⟩
section
variable {prog:Program} {w:World} {A:Around} {E:Value→Shared→Prop} {s:Shared} {z TI TO i1 i2 l1 l2:Addr} {k:Nat} {xs ys:Array Value} {a b:Value}
theorem ym {x y:Value}{Q:Value→Shared→Prop}(Z:ZipApart z TI TO i1 i2 l1 l2)(gz:IsZip s.heap z TI TO .none)(gI:IsPair s.heap TI (.ref i1) (.ref i2))(gO:IsPair s.heap TO a b)
    (t1:s.heap.IsTupleIter i1 l1 k) (t2:s.heap.IsTupleIter i2 l2 k) (u1:s.heap.IsTuple l1 xs) (u2:s.heap.IsTuple l2 ys) (ex:xs[k]? = some x) (ey:ys[k]? = some y)
    (q:∀ h',IsZip h' z TI TO (rawInt s.heap.objs.size)→IsPair h' TO x y→h'.IsTupleIter i1 l1 (k + 1)→h'.IsTupleIter i2 l2 (k + 1)→IsPair h' s.heap.objs.size x y→h'.objs.size=s.heap.objs.size + 1 →
      (∀ c o,c≠z→c≠TO→c≠i1→c≠i2→s.heap.get? c=some o→h'.get? c=some o)→Q (.ref s.heap.objs.size) { s with heap:=h' }) :
    wpAny (model prog w) A (Builtin.«zip.__next__» ⟨[.ref z],[]⟩) (fun fin s'=>∃ v,fin=.done (.ret v)∧Q v s') E s:=by
  show wpAny _ _ (field (.ref z) 2 >>= fun _=>_) _ _ _
  refine wpAny_bind (wpAny_field gz rfl (x:=.bool false) rfl ?_)
  show wpAny _ _ (field (.ref z) 3 >>= fun _=>_) _ _ _
  refine wpAny_bind (wpAny_field gz rfl (x:=.ref TI) rfl (wpAny_bind (wpAny_seqItems gI rfl ?_)))
  show wpAny _ _ (Builtin.SmallTypes.ownedTupleIsFree (.ref z) >>= fun _=>_) _ _ _
  unfold Builtin.SmallTypes.ownedTupleIsFree
  refine wpAny_bind (wpAny_bind (wpAny_field gz rfl (x:=.none) rfl (wpAny_pure ?_)))
  simp only [if_true]
  refine wpAny_bind (wpAny_rule (wpAny_bind (wpAny_field gz rfl (x:=.ref TO) rfl (wpAny_bind (wpAny_setField_rec gz (by simp) fun g1 gz1 b1=>wpAny_bind ?_)))))
  replace gz1:IsZip g1 z TI TO .ellipsis:=gz1
  simp only [List.zipIdx_cons,List.zipIdx_nil,List.forIn_cons,List.forIn_nil]
  refine wpAny_bind (wpAny_bind (wpAny_onRaise ?_))
  show wpAny _ _ (Builtin.SmallTypes.nextOf (.ref i1) >>= fun _=>_) _ _ _
  refine wpAny_bind (cI (t1.extBut b1.extBut Z.i1z) (ef u1 b1.extBut Z.l1z) ex fun g2 t12 b2=>wpAny_pure ?_)
  have gO2:IsPair g2 TO a b:=b2.extBut _ _ Z.TOi1 (b1.extBut _ _ Z.TOz gO)
  refine wpAny_bind (wpAny_seqItems gO2 rfl (wpAny_bind (wpAny_updateSeq_pair gO2 fun g3 gO3 b3=>wpAny_bind (wpAny_letGo (wpAny_pure ?_)))))
  replace gO3:IsPair g3 TO x b:=gO3
  refine wpAny_bind (wpAny_bind (wpAny_onRaise ?_))
  show wpAny _ _ (Builtin.SmallTypes.nextOf (.ref i2) >>= fun _=>_) _ _ _
  refine wpAny_bind (cI (((t2.extBut b1.extBut Z.i2z).extBut b2.extBut Z.i12.symm).extBut b3.extBut Z.TOi2.symm) (ef (ef (ef u2 b1.extBut Z.l2z) b2.extBut Z.l2i1) b3.extBut Z.l2TO) ey fun g4 t24 b4=>wpAny_pure ?_)
  have gO4:IsPair g4 TO x b:=b4.extBut _ _ Z.TOi2 gO3
  refine wpAny_bind (wpAny_seqItems gO4 rfl (wpAny_bind (wpAny_updateSeq_pair gO4 fun g5 gO5 b5=>wpAny_bind (wpAny_letGo (wpAny_pure (wpAny_pure ?_))))))
  replace gO5:IsPair g5 TO x y:=gO5
  refine wpAny_bind (wpAny_seqItems gO5 rfl (wpAny_bind (wpAny_newTuple ?_)))
  have sz:g5.objs.size=s.heap.objs.size:=by rw [b5.1,b4.1,b3.1,b2.1,b1.1]
  have gz5:IsZip g5 z TI TO .ellipsis:=b5.extBut _ _ Z.TOz.symm (b4.extBut _ _ Z.i2z.symm (b3.extBut _ _ Z.TOz.symm (b2.extBut _ _ Z.i1z.symm gz1)))
  have kp:∀ c o,c≠z→c≠TO→c≠i1→c≠i2→s.heap.get? c=some o→g5.get? c=some o:=fun c o n1 n2 n3 n4 e=>b5.extBut _ _ n2 (b4.extBut _ _ n4 (b3.extBut _ _ n2 (b2.extBut _ _ n3 (b1.extBut _ _ n1 e))))
  have t15:g5.IsTupleIter i1 l1 (k + 1):=((t12.extBut b3.extBut Z.TOi1.symm).extBut b4.extBut Z.i12).extBut b5.extBut Z.TOi1.symm
  have t25:g5.IsTupleIter i2 l2 (k + 1):=t24.extBut b5.extBut Z.TOi2.symm
  have zl:z < g5.objs.size:=Heap.lt_size gz5
  show wpAny _ _ (Builtin.SmallTypes.ownedTupleHandOut (.ref z) (.ref g5.objs.size) >>= fun _=>_) _ _ _
  unfold Builtin.SmallTypes.ownedTupleHandOut
  have gz6:IsZip (g5.push { cls:=.type "tuple",data:=.seq #[x,y] }) z TI TO .ellipsis:=Heap.get?_push_of_some _ gz5
  refine wpAny_bind (wpAny_bind (wpAny_setField_rec gz6 (by simp) fun g7 gz7 b7 => ?_))
  replace gz7:IsZip g7 z TI TO (rawInt g5.objs.size):=gz7
  refine wpAny_setField_rec gz7 (by simp) fun g8 gz8 b8 => ?_
  replace gz8:IsZip g8 z TI TO (rawInt g5.objs.size):=gz8
  have up:∀ c o,c≠z→g5.get? c=some o→g8.get? c=some o:=fun c o n1 e=>b8.extBut _ _ n1 (b7.extBut _ _ n1 (Heap.get?_push_of_some _ e))
  have gT:IsPair g8 g5.objs.size x y:=b8.extBut _ _ (Nat.ne_of_gt zl) (b7.extBut _ _ (Nat.ne_of_gt zl) (Heap.get?_push_size _ rfl))
  have s8:g8.objs.size=g5.objs.size + 1:=by rw [b8.1,b7.1,Heap.size_push]
  rw [sz] at gz8 gT s8
  refine wpAny_pure ⟨_,rfl,?_⟩
  show Q (.ref g5.objs.size) _
  rw [sz]
  exact q g8 gz8 (up _ _ Z.TOz gO5) (let ⟨o,e,r⟩:=t15;⟨o,up _ o Z.i1z e,r⟩) (let ⟨o,e,r⟩:=t25;⟨o,up _ o Z.i2z e,r⟩) gT s8 fun c o n1 n2 n3 n4 e=>up c o n1 (kp c o n1 n2 n3 n4 e)
theorem Av {Q:Fin→Shared→Prop}(hh:A.handled=none)(Z:ZipApart z TI TO i1 i2 l1 l2)(gz:IsZip s.heap z TI TO .none)(gI:IsPair s.heap TI (.ref i1) (.ref i2))(gO:IsPair s.heap TO a b)
    (t1:s.heap.IsTupleIter i1 l1 k) (t2:s.heap.IsTupleIter i2 l2 k) (u1:s.heap.IsTuple l1 xs) (u2:s.heap.IsTuple l2 ys) (nd:xs[k]? = none∨ys[k]? = none)
    (q:∀ h' e,(∀ c o,c≠z→c≠TO→c≠i1→c≠i2→s.heap.get? c=some o→h'.get? c=some o)→(∃ o,h'.get? e=some o∧o.cls=.type "StopIteration")→E (.ref e) { s with heap:=h' }) :
    wpAny (model prog w) A (Builtin.«zip.__next__» ⟨[.ref z],[]⟩) Q E s:=by
  show wpAny _ _ (field (.ref z) 2 >>= fun _=>_) _ _ _
  refine wpAny_bind (wpAny_field gz rfl (x:=.bool false) rfl ?_)
  show wpAny _ _ (field (.ref z) 3 >>= fun _=>_) _ _ _
  refine wpAny_bind (wpAny_field gz rfl (x:=.ref TI) rfl (wpAny_bind (wpAny_seqItems gI rfl ?_)))
  show wpAny _ _ (Builtin.SmallTypes.ownedTupleIsFree (.ref z) >>= fun _=>_) _ _ _
  unfold Builtin.SmallTypes.ownedTupleIsFree
  refine wpAny_bind (wpAny_bind (wpAny_field gz rfl (x:=.none) rfl (wpAny_pure ?_)))
  simp only [if_true]
  refine wpAny_bind (wpAny_rule (wpAny_bind (wpAny_field gz rfl (x:=.ref TO) rfl (wpAny_bind (wpAny_setField_rec gz (by simp) fun g1 gz1 b1=>wpAny_bind ?_)))))
  replace gz1:IsZip g1 z TI TO .ellipsis:=gz1
  simp only [List.zipIdx_cons,List.zipIdx_nil,List.forIn_cons,List.forIn_nil]
  refine wpAny_bind (wpAny_bind (wpAny_onRaise ?_))
  show wpAny _ _ (Builtin.SmallTypes.nextOf (.ref i1) >>= fun _=>_) _ _ _
  cases ex:xs[k]? with
  | none =>
    refine wpAny_bind (dL hh (t1.extBut b1.extBut Z.i1z) (ef u1 b1.extBut Z.l1z) ex fun g2 e b2 he => ?_)
    obtain⟨oe,ho,hc⟩:=he
    have gz2:IsZip g2 z TI TO .ellipsis:=b2 _ _ Z.i1z.symm gz1
    have ne:e≠z:=fun v=>by subst v;rw [gz2] at ho;cases ho;simp at hc
    exact wpAny_setField_rec gz2 (by simp) fun g3 _ b3=>q g3 e (fun c o n1 _ n3 _ v=>b3.extBut _ _ n1 (b2 _ _ n3 (b1.extBut _ _ n1 v))) ⟨oe,b3.extBut _ _ ne ho,hc⟩
  | some x =>
    have ey:ys[k]? = none:=nd.resolve_left (by rw [ex];exact Option.some_ne_none _)
    refine wpAny_bind (cI (t1.extBut b1.extBut Z.i1z) (ef u1 b1.extBut Z.l1z) ex fun g2 t12 b2=>wpAny_pure ?_)
    have gO2:IsPair g2 TO a b:=b2.extBut _ _ Z.TOi1 (b1.extBut _ _ Z.TOz gO)
    refine wpAny_bind (wpAny_seqItems gO2 rfl (wpAny_bind (wpAny_updateSeq_pair gO2 fun g3 gO3 b3=>wpAny_bind (wpAny_letGo (wpAny_pure ?_)))))
    refine wpAny_bind (wpAny_bind (wpAny_onRaise ?_))
    show wpAny _ _ (Builtin.SmallTypes.nextOf (.ref i2) >>= fun _=>_) _ _ _
    refine wpAny_bind (dL hh (((t2.extBut b1.extBut Z.i2z).extBut b2.extBut Z.i12.symm).extBut b3.extBut Z.TOi2.symm) (ef (ef (ef u2 b1.extBut Z.l2z) b2.extBut Z.l2i1) b3.extBut Z.l2TO) ey fun g4 e b4 he => ?_)
    obtain⟨oe,ho,hc⟩:=he
    have gz4:IsZip g4 z TI TO .ellipsis:=b4 _ _ Z.i2z.symm (b3.extBut _ _ Z.TOz.symm (b2.extBut _ _ Z.i1z.symm gz1))
    have ne:e≠z:=fun v=>by subst v;rw [gz4] at ho;cases ho;simp at hc
    exact wpAny_setField_rec gz4 (by simp) fun g5 _ b5=>q g5 e (fun c o n1 n2 n3 n4 v=>b5.extBut _ _ n1 (b4 _ _ n4 (b3.extBut _ _ n2 (b2.extBut _ _ n3 (b1.extBut _ _ n1 v))))) ⟨oe,b5.extBut _ _ ne ho,hc⟩
theorem qE {x y:Value}{Q:Option Value→Shared→Prop}(Z:ZipApart z TI TO i1 i2 l1 l2)(gz:IsZip s.heap z TI TO .none)(gI:IsPair s.heap TI (.ref i1) (.ref i2))(gO:IsPair s.heap TO a b)
    (t1:s.heap.IsTupleIter i1 l1 k) (t2:s.heap.IsTupleIter i2 l2 k) (u1:s.heap.IsTuple l1 xs) (u2:s.heap.IsTuple l2 ys) (ex:xs[k]? = some x) (ey:ys[k]? = some y)
    (q:∀ h',IsZip h' z TI TO (rawInt s.heap.objs.size)→IsPair h' TO x y→h'.IsTupleIter i1 l1 (k + 1)→h'.IsTupleIter i2 l2 (k + 1)→IsPair h' s.heap.objs.size x y→h'.objs.size=s.heap.objs.size + 1 →
      (∀ c o,c≠z→c≠TO→c≠i1→c≠i2→s.heap.get? c=some o→h'.get? c=some o)→Q (some (.ref s.heap.objs.size)) { s with heap:=h' }) :
    wpAny (model prog w) A (pyNext (.ref z)) Q E s:=by
  have ty:s.TypeIs (.ref z) "zip" := ⟨_,gz,rfl⟩
  unfold pyNext
  refine wpAny_bind (wpAny_attempt (wpAny_callSpecial?_slot (name:=Str.ofString "__next__") ty F.slot_zip_next (wpAny_call_entry F.slot_zip_next ty F.entry_zip_next ?_ (F.args_zip_next_1 _))))
  exact ym Z gz gI gO t1 t2 u1 u2 ex ey fun h' a1 a2 a3 a4 a5 a6 a7=>wpAny_pure (q h' a1 a2 a3 a4 a5 a6 a7)
theorem tm {Q:Option Value→Shared→Prop}(hh:A.handled=none)(Z:ZipApart z TI TO i1 i2 l1 l2)(gz:IsZip s.heap z TI TO .none)(gI:IsPair s.heap TI (.ref i1) (.ref i2))(gO:IsPair s.heap TO a b)
    (t1:s.heap.IsTupleIter i1 l1 k) (t2:s.heap.IsTupleIter i2 l2 k) (u1:s.heap.IsTuple l1 xs) (u2:s.heap.IsTuple l2 ys) (nd:xs[k]? = none∨ys[k]? = none)
    (q:∀ h',(∀ c o,c≠z→c≠TO→c≠i1→c≠i2→s.heap.get? c=some o→h'.get? c=some o)→Q none { s with heap:=h' }):wpAny (model prog w) A (pyNext (.ref z)) Q E s:=by
  have ty:s.TypeIs (.ref z) "zip" := ⟨_,gz,rfl⟩
  unfold pyNext
  refine wpAny_bind (wpAny_attempt (wpAny_callSpecial?_slot (name:=Str.ofString "__next__") ty F.slot_zip_next (wpAny_call_entry F.slot_zip_next ty F.entry_zip_next ?_ (F.args_zip_next_1 _))))
  refine Av hh Z gz gI gO t1 t2 u1 u2 nd fun h' e kk he => ?_
  obtain⟨o,ho,hc⟩:=he
  exact wpAny_bind (wpAny_isInstance (T := "StopIteration") (b:=true) ⟨o,ho,hc⟩ isSubtype_stop (wpAny_pure (q _ kk)))
end
def zt1 (h:Heap) (l1:Addr):Heap:=h.push { cls:=.type "tuple_iterator",data:=.fields #[.ref l1,.int 0 0] }
def zt2 (h:Heap) (l1 l2:Addr):Heap:=(zt1 h l1).push { cls:=.type "tuple_iterator",data:=.fields #[.ref l2,.int 0 0] }
def zt3 (h:Heap) (l1 l2:Addr):Heap:=(zt2 h l1 l2).push { cls:=.type "tuple",data:=.seq #[.ref h.objs.size,.ref (zt1 h l1).objs.size] }
def zt4 (h:Heap) (l1 l2:Addr):Heap:=(zt3 h l1 l2).push { cls:=.type "tuple",data:=.seq #[.none,.none] }
def zt5 (h:Heap) (l1 l2:Addr):Heap:=(zt4 h l1 l2).push { cls:=.type "zip",data:=.fields #[.none,.bool false,.bool false,.ref (zt2 h l1 l2).objs.size,.ref (zt3 h l1 l2).objs.size] }
theorem u6 (l1 l2:Addr)(xs ys:Array Value) :
    Meets (Builtin.«zip.__new__» ⟨[.type "zip",.ref l1,.ref l2],[]⟩) (fun _ R s=>s.heap.IsTuple l1 xs∧s.heap.IsTuple l2 ys∧R (.ok (.ret (.ref (zt4 s.heap l1 l2).objs.size))) { s with heap:=zt5 s.heap l1 l2 }) :=
  .of_wp fun prog w A R s h=>by
    obtain⟨hp,g,d,tk,os⟩:=s;obtain⟨u1,u2,h⟩:=h
    have hsub:=sub_zip
    have T1:Heap.IsTuple (Shared.heap ⟨hp,g,d,tk,os⟩) l1 xs:=u1
    have T2:Heap.IsTuple (Shared.heap ⟨hp.push { cls:=.type "tuple_iterator",data:=.fields #[.ref l1,.int 0 0] },g,d,tk,os⟩) l2 ys:=by
      obtain⟨o,ho,r⟩:=u2
      exact⟨o,Heap.get?_push_of_some _ ho,r⟩
    wp_walk using wpAny_pyIter_tuple T1,wpAny_pyIter_tuple T2
    exact⟨_,rfl,h⟩
section
variable {prog:Program} {w:World} {A:Around} {E:Value→Shared→Prop} {s:Shared}
theorem yn {l1 l2:Addr}{xs ys:Array Value}{Q:Value→Shared→Prop}(u1:s.heap.IsTuple l1 xs)(u2:s.heap.IsTuple l2 ys)
    (q:∀ h',IsZip h' (s.heap.objs.size + 4) (s.heap.objs.size + 2) (s.heap.objs.size + 3) .none→IsPair h' (s.heap.objs.size + 2) (.ref s.heap.objs.size) (.ref (s.heap.objs.size + 1)) →
      IsPair h' (s.heap.objs.size + 3) .none .none→h'.IsTupleIter s.heap.objs.size l1 0→h'.IsTupleIter (s.heap.objs.size + 1) l2 0→h'.objs.size=s.heap.objs.size + 5 →
      (∀ c o,s.heap.get? c=some o→h'.get? c=some o)→Q (.ref (s.heap.objs.size + 4)) { s with heap:=h' }) :
    wpAny (model prog w) A (call (.type "zip") [.ref l1,.ref l2]) Q E s:=by
  refine callType_new F.called_zip (by decide) (F.typeCall_zip_2 _ _) (F.newCall_zip_2 _ _) (fun obj=>F.args_object_init_3 obj _ _) F.entry_zip_new (u6 l1 l2 xs ys) ⟨u1,u2,?_⟩
  have z1:(zt1 s.heap l1).objs.size=s.heap.objs.size + 1:=Heap.size_push ..
  have z2:(zt2 s.heap l1 l2).objs.size=s.heap.objs.size + 2:=(Heap.size_push ..).trans (by rw [z1])
  have z3:(zt3 s.heap l1 l2).objs.size=s.heap.objs.size + 3:=(Heap.size_push ..).trans (by rw [z2])
  have z4:(zt4 s.heap l1 l2).objs.size=s.heap.objs.size + 4:=(Heap.size_push ..).trans (by rw [z3])
  have z5:(zt5 s.heap l1 l2).objs.size=s.heap.objs.size + 5:=(Heap.size_push ..).trans (by rw [z4])
  have p1:∀ {c o},(zt1 s.heap l1).get? c=some o→(zt5 s.heap l1 l2).get? c=some o:=fun e=>Heap.get?_push_of_some _ (Heap.get?_push_of_some _ (Heap.get?_push_of_some _ (Heap.get?_push_of_some _ e)))
  have p2:∀ {c o},(zt2 s.heap l1 l2).get? c=some o→(zt5 s.heap l1 l2).get? c=some o:=fun e=>Heap.get?_push_of_some _ (Heap.get?_push_of_some _ (Heap.get?_push_of_some _ e))
  have p3:∀ {c o},(zt3 s.heap l1 l2).get? c=some o→(zt5 s.heap l1 l2).get? c=some o:=fun e=>Heap.get?_push_of_some _ (Heap.get?_push_of_some _ e)
  have g1:(zt5 s.heap l1 l2).get? s.heap.objs.size=some { cls:=.type "tuple_iterator",data:=.fields #[.ref l1,.int 0 0] }:=p1 (Heap.get?_push_size _ rfl)
  have g2:(zt5 s.heap l1 l2).get? (s.heap.objs.size + 1)=some { cls:=.type "tuple_iterator",data:=.fields #[.ref l2,.int 0 0] }:=by rw [← z1];exact p2 (Heap.get?_push_size _ rfl)
  have g3:(zt5 s.heap l1 l2).get? (s.heap.objs.size + 2)=some { cls:=.type "tuple",data:=.seq #[.ref s.heap.objs.size,.ref (s.heap.objs.size + 1)] }:=by rw [← z2,← z1];exact p3 (Heap.get?_push_size _ rfl)
  have g4:(zt5 s.heap l1 l2).get? (s.heap.objs.size + 3)=some { cls:=.type "tuple",data:=.seq #[.none,.none] }:=by rw [← z3];exact Heap.get?_push_of_some _ (Heap.get?_push_size _ rfl)
  have g5:(zt5 s.heap l1 l2).get? (s.heap.objs.size + 4)=some { cls:=.type "zip",data:=.fields #[.none,.bool false,.bool false,.ref (s.heap.objs.size + 2),.ref (s.heap.objs.size + 3)] }:=by rw [← z4,← z2,← z3];exact Heap.get?_push_size _ rfl
  show _∧_
  rw [z4]
  exact⟨⟨_,g5,rfl⟩,q _ g5 g3 g4 ⟨_,g1,rfl,rfl⟩ ⟨_,g2,rfl,rfl⟩ z5 fun c o e=>p1 (Heap.get?_push_of_some _ e)⟩
end
theorem B3 {X:Cx}{pins:List (Addr × Obj)}{σ:St}{H:Hp}{s:Shared}{h':Heap}{t':Nat}{ch:List Addr}(I:L2.Inv X pins σ H s)(k:∀ b o,b∉ch→s.heap.get? b=some o→h'.get? b=some o)(hf:∀ b∈ch,ly X pins H b) :
    L2.Inv X pins σ H { s with heap:=h',toks:=t' }:=by
  have nit:∀ b u,H b=some u→b∉ch:=fun b u e z=>by rw [(hf b z).1] at e;cases e
  refine I.step (g':=s.gens) (d':=s.drawn) (ch:=ch) (fun b hb=>⟨(hf b hb).2.2.2.1,(hf b hb).2.1,(hf b hb).2.2.2.2.1,(hf b hb).2.2.2.2.2⟩) (fun b o _ _ hc e _=>k b o hc e) (fun b o _ _ hc e _=>⟨o.slots,k b o hc e⟩) (fun _ _ _ _ n=>n)
    (fun b o hc e=>⟨o,k b o hc e⟩) (fun _ _ e=>e) (fun _ _ _ e=>e) (fun b ps e=>⟨#[],by rw [e];simp⟩) (fun m hm => ?_) (fun b u e => ?_) I.bare
  · obtain⟨o,es,ep,ho,r⟩:=hm
    exact⟨o,es,ep,k _ o (fun z=>(hf _ z).2.1 rfl) ho,r⟩
  · refine (I.hok b u e).stay (fun c v hc q=>k c v ?_ q) (fun _ q=>q) fun _ _ q=>q
    rcases hc with z|z
    · rw [z];exact nit b u e
    · exact nit c _ z
def Itz (K:PySem.W.Frag) (a b:Addr):It :=
  ⟨fun i H=>∃ xs ys x y,SqT K H a xs∧SqT K H b ys∧xs[i]? = some x∧ys[i]? = some y,fun i H x H'=>∃ q v u,x=.ref q∧H q=none∧H'=upd H q (.tup [v,u])∧(∀ xs,SqT K H a xs→xs[i]? = some v) ∧ ∀ ys,SqT K H b ys→ys[i]? = some u,fun i H=>∃ xs ys,SqT K H a xs∧SqT K H b ys∧min xs.length ys.length=i⟩
theorem Aw {P:Program}{w:World}{K:PySem.W.Frag}{elts:List Expr}{k:Nat}{pos:Pos}(z TI TO i1 i2 a b:Addr)(Z:ZipApart z TI TO i1 i2 a b) :
    uK P w K (.Tuple elts k pos) (Itz K a b) [z,TI,TO,i1,i2] z (fun i h=>IsZip h z TI TO .none∧IsPair h TI (.ref i1) (.ref i2)∧(∃ x y,IsPair h TO x y)∧h.IsTupleIter i1 a i∧h.IsTupleIter i2 b i) where
  mem:=by simp
  obj:=fun i h st c hc=>by
    obtain⟨gz,gI,⟨x,y,gO⟩,⟨o1,q1,c1,d1⟩,⟨o2,q2,c2,d2⟩⟩:=st
    have hc':c=z∨c=TI∨c=TO∨c=i1∨c=i2:=by simpa using hc
    rcases hc' with rfl|rfl|rfl|rfl|rfl
    · exact⟨_,gz,fun v e=>by
        have e':Data.fields _=Data.cell v:=e
        cases e'⟩
    · exact⟨_,gI,fun v e=>by
        have e':Data.seq _ _=Data.cell v:=e
        cases e'⟩
    · exact⟨_,gO,fun v e=>by
        have e':Data.seq _ _=Data.cell v:=e
        cases e'⟩
    · exact⟨o1,q1,fun v e=>by rw [d1] at e;cases e⟩
    · exact⟨o2,q2,fun v e=>by rw [d2] at e;cases e⟩
  keep:=fun i h h' st kk=>by
    obtain⟨gz,gI,⟨x,y,gO⟩,⟨o1,q1,r1⟩,⟨o2,q2,r2⟩⟩:=st
    exact⟨kk z (by simp) _ gz,kk TI (by simp) _ gI,⟨x,y,kk TO (by simp) _ gO⟩,⟨o1,kk i1 (by simp) _ q1,r1⟩,⟨o2,kk i2 (by simp) _ q2,r2⟩⟩
  item:=by
    intro X hP hw hK hc i pins s σ H E I hf st hg
    subst hP hw hK
    obtain⟨gz,gI,⟨x0,y0,gO⟩,t1,t2⟩:=st
    obtain⟨xs,ys,x,y,hq1,hq2,hx,hy⟩:=hg
    obtain⟨is1,rv1,p1,hz1⟩:=I.tuple hq1
    obtain⟨is2,rv2,p2,hz2⟩:=I.tuple hq2
    obtain⟨u,hu,ru⟩:=rv1.get hx
    obtain⟨v,hv,rv⟩:=rv2.get hy
    have T1:s.heap.IsTuple a is1.toArray:=p1
    have T2:s.heap.IsTuple b is2.toArray:=p2
    have ld:=fun c (h:c∈[z,TI,TO,i1,i2])=>hf c h
    refine qE Z gz gI gO t1 t2 T1 T2 (by simpa using hu) (by simpa using hv) fun h' az aO a1 a2 aN asz kk=>⟨_,rfl,wpAny_letOwnedTupleGo_zip az fun h2 az2 b2 => ?_⟩
    have zl:z < s.heap.objs.size:=Heap.lt_size gz
    have Il:TI < s.heap.objs.size:=Heap.lt_size gI
    have Ol:TO < s.heap.objs.size:=Heap.lt_size gO
    have l1:i1 < s.heap.objs.size:=by obtain⟨_,e,_⟩:=t1;exact Heap.lt_size e
    have l2:i2 < s.heap.objs.size:=by obtain⟨_,e,_⟩:=t2;exact Heap.lt_size e
    have hN:H s.heap.objs.size=none:=I.hok.fresh (Nat.le_refl _)
    have keep:∀ c o,c∉[z,TO,i1,i2]→s.heap.get? c=some o→h2.get? c=some o:=fun c o hc e=>by
      have hc':c≠z∧c≠TO∧c≠i1∧c≠i2:=by simpa using hc
      exact (b2.2 c hc'.1).trans (kk c o hc'.1 hc'.2.1 hc'.2.2.1 hc'.2.2.2 e)
    have nw:IsPair h2 s.heap.objs.size u v:=(b2.2 _ (Nat.ne_of_gt zl)).trans aN
    have sub:∀ c∈[z,TO,i1,i2],c∈[z,TI,TO,i1,i2]:=fun c hc=>by simp at hc ⊢;rcases hc with e|e|e|e<;>simp [e]
    have hTI2:IsPair h2 TI (.ref i1) (.ref i2):=keep TI _ (by simp;exact⟨Z.TIz,Z.TITO,Z.TIi1,Z.TIi2⟩) gI
    refine⟨.ref s.heap.objs.size,upd H s.heap.objs.size (.tup [x,y]),?_,rfl,⟨_,x,y,rfl,hN,rfl,fun zs hzs=>by rw [I.tuple_inj hzs hq1];exact hx,fun zs hzs=>by rw [I.tuple_inj hzs hq2];exact hy⟩,
      ⟨az2,hTI2,⟨_,_,(b2.2 _ Z.TOz).trans aO⟩,(let ⟨o,e,r⟩:=a1;⟨o,(b2.2 _ Z.i1z).trans e,r⟩),(let ⟨o,e,r⟩:=a2;⟨o,(b2.2 _ Z.i2z).trans e,r⟩)⟩,fun c hc => ?_⟩
    · suffices I2:L2.Inv X pins σ (upd H s.heap.objs.size (.tup [x,y])) { s with heap:=h2,gens:=s.gens,drawn:=s.drawn,toks:=s.toks } from I2
      have nch:∀ c u',H c=some u'→c∉[z,TO,i1,i2]:=fun c u' e q=>by rw [(hf c (sub c q)).1] at e;cases e
      refine I.step (g':=s.gens) (d':=s.drawn) (t':=s.toks) (ch:=[z,TO,i1,i2]) (fun c hc => ?_) (fun c o _ _ hc q _=>keep c o hc q) (fun c o _ _ hc q _=>⟨o.slots,keep c o hc q⟩) (fun c o _ q n => ?_) (fun c o hc q=>⟨o,keep c o hc q⟩)
        (fun c zs q => ?_) (fun c o u' q => ?_) (fun c ps q=>⟨#[],?_⟩) (fun m hm => ?_) (fun c u' q => ?_) I.bare
      · have:=hf c (sub c hc)
        exact⟨this.2.2.2.1,this.2.1,this.2.2.2.2.1,this.2.2.2.2.2⟩
      · rw [aq (Nat.ne_of_lt (Heap.lt_size q))];exact n
      · rw [aq (aE q hN)];exact q
      · rw [aq (aE q hN)];exact q
      · rw [aq (aE q hN),q];simp
      · obtain⟨o,es,ep,ho,r⟩:=hm
        exact⟨o,es,ep,keep _ o (fun q=>(hf _ (sub _ q)).2.1 rfl) ho,r⟩
      · by_cases hb:c=s.heap.objs.size
        · subst hb
          rw [aS] at q
          cases q
          exact⟨by show 2≤sizeLine;rw [sizeLine_eq];decide,[u,v],.cons ru (.cons rv .nil),⟨_,nw,rfl,_,rfl⟩,_,nw,rfl⟩
        · rw [aq hb] at q
          refine (I.hok c u' q).stay (fun d v' hd' e => ?_) (fun d e=>by rw [aq (aE e hN)];exact e) fun d zs e=>by rw [aq (aE e hN)];exact e
          rcases hd' with e'|e'
          · subst e';exact keep d v' (nch d _ q) e
          · exact keep d v' (nch d _ e') e
    · have hc':c=z∨c=TI∨c=TO∨c=i1∨c=i2:=by simpa using hc
      have:c≠s.heap.objs.size:=by rcases hc' with e|e|e|e|e<;>rw [e]<;>exact Nat.ne_of_lt (by assumption)
      rw [aq this]
      exact (hf c hc).1
  done:=by
    intro X hP hw hK hc i pins s σ H E I hf st hg
    subst hP hw hK
    obtain⟨gz,gI,⟨x0,y0,gO⟩,t1,t2⟩:=st
    obtain⟨xs,ys,hq1,hq2,hi⟩:=hg
    obtain⟨is1,rv1,p1,hz1⟩:=I.tuple hq1
    obtain⟨is2,rv2,p2,hz2⟩:=I.tuple hq2
    have T1:s.heap.IsTuple a is1.toArray:=p1
    have T2:s.heap.IsTuple b is2.toArray:=p2
    have e1:=rv1.length
    have e2:=rv2.length
    have nd:is1.toArray[i]? = none∨is2.toArray[i]? = none:=by
      rcases Nat.le_total xs.length ys.length with h|h
      · exact .inl (Array.getElem?_eq_none (by simp;omega))
      · exact .inr (Array.getElem?_eq_none (by simp;omega))
    have sub:∀ c∈[z,TO,i1,i2],c∈[z,TI,TO,i1,i2]:=fun c hc=>by simp at hc ⊢;rcases hc with e|e|e|e<;>simp [e]
    refine tm (I.ok.hd hc) Z gz gI gO t1 t2 T1 T2 nd fun h' kk=>⟨rfl,B3 (t':=s.toks) (ch:=[z,TO,i1,i2]) I (fun c o hc e => ?_) fun c hc=>hf c (sub c hc)⟩
    have hc':c≠z∧c≠TO∧c≠i1∧c≠i2:=by simpa using hc
    exact kk c o hc'.1 hc'.2.1 hc'.2.2.1 hc'.2.2.2 e
  self:=fun _ _ _ _ _ st h=>wpAny_pyIter_zip st.1 h
section
variable {X:Cx} {pos p tp:Pos} {elts:List Expr} {tk:Nat}
def iZp (K:PySem.W.Frag) (ta:TA):TI:=fun σ H R=>ta σ H fun vs H1=>∃ a b xs ys,vs=[.ref a,.ref b]∧SqT K H1 a xs∧SqT K H1 b ys∧(xs.length≤sizeLine→ys.length≤sizeLine→R (Itz K a b) H1)
theorem Ed {a b:Expr} {ta:TA} (hg:Gl X "zip") (hm:X.mg "zip" = none) (ha:PA X [a,b] ta) (hs:starEach [a,b] X.env=[(false,eval a X.env),(false,eval b X.env)]:=by rfl) (hs2:starEach [b] X.env=[(false,eval b X.env)]:=by rfl):PI X (.Tuple elts tk tp) (.Call (.Name "zip" p) [a,b] [] pos) (iZp X.K ta):=by
  intro pins s σ H R I h
  refine Call_ (jH I hg hm PyProof.Rows.boot_zip (PyProof.Rows.callWith_type1 (thn (ha pos pins s σ H _ I h) fun us s1 ⟨vs,H1,I1,r1,q1⟩ => ?_) (by rw [hs,hs2]) (by rw [hs2];rfl)))
  obtain⟨a1,b1,xs,ys,e,hq1,hq2,q⟩:=q1
  subst e
  cases r1 with
  | cons r rr =>
    cases rr with
    | cons r' rr =>
      cases rr
      cases r
      cases r'
      obtain⟨is1,rv1,p1,hz1⟩:=I1.tuple hq1
      obtain⟨is2,rv2,p2,hz2⟩:=I1.tuple hq2
      have T1:s1.heap.IsTuple a1 is1.toArray:=p1
      have T2:s1.heap.IsTuple b1 is2.toArray:=p2
      have la:a1 < s1.heap.objs.size:=by obtain⟨_,e,_⟩:=T1;exact Heap.lt_size e
      have lb:b1 < s1.heap.objs.size:=by obtain⟨_,e,_⟩:=T2;exact Heap.lt_size e
      refine yn T1 T2 fun h' gz gI gO t1 t2 hsz hk => ?_
      refine wpAny_pyIter_zip (s:={ s1 with heap:=h' }) gz ?_
      have I2:Inv X pins σ H1 { s1 with heap:=h' }:=I1.kept (t':=s1.toks) hk
      have Z:ZipApart (s1.heap.objs.size + 4) (s1.heap.objs.size + 2) (s1.heap.objs.size + 3) s1.heap.objs.size (s1.heap.objs.size + 1) a1 b1:=by
        constructor<;>simp only [Addr] at *<;>omega
      refine⟨s1.heap.objs.size + 4,[s1.heap.objs.size + 4,s1.heap.objs.size + 2,s1.heap.objs.size + 3,s1.heap.objs.size,s1.heap.objs.size + 1],_,_,H1,rfl,I2,Aw _ _ _ _ _ a1 b1 Z,⟨gz,gI,⟨_,_,gO⟩,t1,t2⟩,fun c hc => ?_,q hz1 hz2⟩
      have hc':s1.heap.objs.size≤c:=by
        have:c=s1.heap.objs.size + 4∨c=s1.heap.objs.size + 2∨c=s1.heap.objs.size + 3∨c=s1.heap.objs.size∨c=s1.heap.objs.size + 1:=by simpa using hc
        rcases this with e|e|e|e|e<;>rw [e]<;>first|exact Nat.le_add_right _ _|exact Nat.le_refl _
      exact I1.fpOk hc' (I1.hok.fresh hc')
theorem Ax {K:PySem.W.Frag}{ρ:List Addr}{H:Hp}{hd:Hd}{q q':Addr}{l l':List D}{vs vs':List V}(r:RH K ρ H hd)(hq:H q=some (.tup vs))(rv:RDs K ρ H l vs)(hz:vs.length≤sizeLine)(hq':H q'=some (.tup vs'))(rv':RDs K ρ H l' vs') :
    lS K ρ H (Itz K q q') ((l.zip l').map fun p=>.tup [p.1,p.2]) none where
  go:=fun ρ' H' hd' i d ex rh _ hi=>by
    have k:=r.kp ex
    obtain⟨hil,hi2⟩:=List.getElem?_eq_some_iff.mp hi
    have hl:i < l.length:=by simp at hil;omega
    have hl':i < l'.length:=by simp at hil;omega
    have hd:d=.tup [l[i],l'[i]]:=by rw [← hi2];simp
    subst hd
    obtain⟨v,hv,rd⟩:=(rv.mono k).get (i:=i) (d:=l[i]) (by simp [hl])
    obtain⟨v',hv',rd'⟩:=(rv'.mono k).get (i:=i) (d:=l'[i]) (by simp [hl'])
    have sq:SqT K H' q vs:=SqT.of (k.tup q vs hq)
    have sq':SqT K H' q' vs':=SqT.of (k.tup q' vs' hq')
    refine⟨⟨vs,vs',v,v',sq,sq',hv,hv'⟩,fun x H2 y => ?_⟩
    obtain⟨q2,v2,v3,rfl,hn,rfl,y,y'⟩:=y
    have e1:=y vs sq
    have e2:=y' vs' sq'
    rw [hv] at e1
    rw [hv'] at e2
    cases e1
    cases e2
    have sm:=bX (o:=HO.tup [v,v']) hn
    refine⟨sm,?_⟩
    simp only [RD]
    exact⟨q2,_,rfl,aS,RDs.cons (rd.mono (Kp.same sm)) (RDs.cons (rd'.mono (Kp.same sm)) RDs.nil)⟩
  stop:=fun ρ' H' hd' ex rh _=>⟨vs,vs',SqT.of ((r.kp ex).tup q vs hq),SqT.of ((r.kp ex).tup q' vs' hq'),by rw [← rv.length,← rv'.length];simp⟩
  sz:=by
    have:=rv.length
    simp;omega
theorem Ee {a b:Expr} {f g:EF} (hg:Gl X "zip") (hm:X.mg "zip" = none) (ha:ME X a f) (hb:ME X b g) (hs:starEach [a,b] X.env=[(false,eval a X.env),(false,eval b X.env)]:=by rfl) (hs2:starEach [b] X.env=[(false,eval b X.env)]:=by rfl):MI X (.Tuple elts tk tp) (.Call (.Name "zip" p) [a,b] [] pos) (B0 f g):=by
  refine PI.imp (Ed hg hm (bT ha (bT hb dH hs2) (by rw [hs,hs2])) hs hs2) fun σ H R ⟨ρ,σd,hd,rs,pp⟩=>⟨ρ,σd,hd,rs,?_⟩
  unfold B0 at pp
  cases e:f σd hd with
  | exc x h1=>rw [e] at pp;exact pp
  | bad=>rw [e] at pp;exact pp
  | ok d hd1 =>
    rw [e] at pp
    simp only [aM] at pp
    intro v H1 ρ1 ex1 rs1 rv
    refine⟨ρ1,σd,hd1,rs1,?_⟩
    cases e2:g σd hd1 with
    | exc x h1=>rw [e2] at pp;exact pp
    | bad=>rw [e2] at pp;exact pp
    | ok d2 hd2 =>
      rw [e2] at pp
      simp only [aM] at pp
      intro v2 H2 ρ2 ex2 rs2 rv2
      cases d<;>try exact pp.elim
      cases d2<;>try exact pp.elim
      rename_i l l'
      simp only at pp
      have rv:=RD.mono (rs1.hp.kp ex2) rv
      simp only [rD,RD] at rv rv2
      obtain⟨q,vs,rfl,hq,rvs⟩:=rv
      obtain⟨q',vs',rfl,hq',rvs'⟩:=rv2
      exact⟨q,q',vs,vs',rfl,SqT.of hq,SqT.of hq',fun hz hz'=>pp _ H2 ρ2 (ex1.trans ex2) rs2 (Ax rs2.hp hq rvs hz hq' rvs')⟩
end
end Fm
set_option Elab.async false
set_option linter.all false
set_option maxRecDepth 100000
namespace Fm
open PySem PySem.Spec L2 PySem.W PyProof.Rows
section
variable {X:Cx} {pos p:Pos}
theorem Ef {a b:Expr} {fa fb:EF} (hc:X.calm=true) (hg:Gl X "min") (hm:X.mg "min" = none) (ha:ME X a fa) (hb:ME X b fb) (hs:starEach [a,b] X.env=(false,eval a X.env) :: starEach [b] X.env:=by rfl) (hs2:starEach [b] X.env=(false,eval b X.env) :: starEach [] X.env:=by rfl) (hpl:(backTo pos (starEach [b] X.env)).any (fun x=>x.1)=false:=by rfl):ME X (.Call (.Name "min" p) [a,b] [] pos) (yk fa fb):=by
  refine PE.imp (fE (xY hc) hg hm (by decide +kernel) (bT ha (bT hb dH hs2) hs) (he:=hs) (hpl:=hpl)) fun σ H Q ⟨ρ,σd,hd,rs,pp⟩=>⟨ρ,σd,hd,rs,?_⟩
  unfold yk at pp
  refine (bo.bind (R:=rD X.K) pp).imp fun v H1 ⟨ρ1,d,hd1,e1,rs1,rv,p1⟩ => ?_
  refine⟨ρ1,σd,hd1,rs1,(bo.bind (R:=rD X.K) p1).imp fun w H2 ⟨ρ2,k,hd2,e2,rs2,rw',p2⟩ => ?_⟩
  cases d<;>try exact p2.elim
  cases k<;>try exact p2.elim
  simp only [rD,RD] at rv rw'
  subst rv rw'
  exact⟨_,_,rfl,p2.here rs2 (by simp only [rD,RD])⟩
end
section
variable {prog:Program} {w:World} {A:Around} {E:Value→Shared→Prop} {s:Shared}
end
section
variable {X:Cx} {pos p:Pos}
end
end Fm
set_option Elab.async false
set_option linter.all false
set_option maxRecDepth 100000
namespace Fm
open PySem PySem.Spec L2
open AutoSeq1 (wpAny_loadPart')
open PyProof.Rows (Call_)
section
variable {X:Cx} {pos p tp:Pos} {elts:List Expr} {tk:Nat}
end
section
variable {X:Cx} {pos:Pos} {tg:Expr}
end
end Fm
set_option linter.all false
namespace Fm
end Fm
set_option Elab.async false
set_option linter.all false
set_option maxRecDepth 100000
namespace Fm
open PySem PySem.Spec L2
open PyProof.Rows (Call_)
section
variable {X:Cx} {pos p p2 pos2:Pos}
end
end Fm
set_option linter.all false
namespace Fm
end Fm
set_option linter.all false
namespace Fm
noncomputable section
open Classical
end
end Fm
set_option Elab.async false
set_option linter.all false
set_option maxRecDepth 100000
namespace Fm
open PySem PySem.Spec L2
section
variable {X:Cx} {pos:Pos} {scope:Scope} {own capn:List Str} {caps:List Nat}
end
section
variable {X:Cx}
end
end Fm
set_option linter.all false
namespace Fm
end Fm
set_option Elab.async false
set_option linter.all false
set_option maxRecDepth 100000
namespace Fm
open PySem PySem.Spec L2 PySem.W PyProof.Rows
section
variable {prog:Program} {w:World} {A:Around} {E:Value→Shared→Prop} {s:Shared}
end
section
variable {X:Cx} {pos p:Pos}
end
end Fm
set_option linter.all false
namespace Fm
end Fm
set_option Elab.async false
set_option linter.all false
set_option maxRecDepth 100000
namespace Fm
open PySem PySem.Spec L2 PySem.W PyProof.Rows
section
variable {X:Cx} {pos p:Pos}
end
section
variable {prog:Program} {w:World} {A:Around} {E:Value→Shared→Prop} {s:Shared} {κ : Type} [DecidableEq κ] {knd:KeyKind prog w κ}
end
section
variable {prog:Program} {w:World} {A:Around} {E:Value→Shared→Prop} {s:Shared}
end
section
variable {X:Cx} {pos p:Pos}
end
end Fm
set_option Elab.async false
set_option linter.all false
set_option maxRecDepth 100000
namespace Fm
open PySem PySem.Spec PyProof.Rows
theorem tq:entryFor table "dict.update.loop" = some Builtin.«dict.update.loop» := entryFor_of_tree (by kernel_rfl)
theorem ji:plainId "dict.update.loop" = true:=by decide +kernel
theorem B4:typeLookup (.type "tuple") "keys" = pure none:=am_miss_of_fast (by kernel_rfl)
section
variable {prog:Program} {w:World} {A:Around} {E:Value→Shared→Prop} {s:Shared}
theorem B5 {a:Addr}{o:Obj}{xs:Array Value}{k:Nat}{Q:Option Value→Shared→Prop}
    (hx:s.heap.get? a=some o) (hc:o.cls=.type "tuple") (hdat:o.data=.seq xs k) (hd:o.dict=none) (hA:A.handled=none)
    (h:∀ h' tk,(∀ b ob,s.heap.get? b=some ob→h'.get? b=some ob)→Q none { s with heap:=h',toks:=tk }) :
    wpAny (model prog w) A (getAttr? (.ref a) "keys") Q E s:=by
  obtain⟨c,dct,dat,sl⟩:=o
  simp only at hc hdat hd
  subst hc hdat hd
  obtain⟨hp,g,d,tk,os⟩:=s
  have hT:∀ tk',(⟨hp,g,d,tk',os⟩ : Shared).TypeIs (.ref a) "tuple" := fun _=>⟨_,hx,rfl⟩
  have f1:=sub_AttributeError
  have f3:=F.slot_tuple_getattribute.lookup
  have f4:=F.slot_tuple_getattribute.bind (.ref a)
  have f5:=am_tuple_getattr_none
  unfold getAttr? getAttrBy?
  refine wpAny_bind (wpAny_mkText ?_)
  refine wpAny_bind (wpAny_attempt ?_)
  unfold getAttrBy
  repeat (any_goals (first|assumption|exact hT _|((with_reducible show wpAny _ _ (call (Value.builtin "tuple.__getattribute__") _ _) _ _ _);refine call_meets F.slot_tuple_getattribute (hT _) am_entry_tuple_getattribute (F.args_tuple_getattribute_2 _ _) (meets_getattribute_miss_tuple a xs k sl _ _ B4 (by decide) (by size_fits)) ⟨hx,hA,fun h' tk' e hx' => ?_⟩)|wp_step))
  obtain⟨t',u',he⟩:=hx'.there
  show wpAny _ _ (getattributeRaised _ _ _ _ _ _ _) _ _ _
  unfold getattributeRaised
  repeat (any_goals (first|assumption|wp_step))
  all_goals exact h h' tk' hx'.keeps
end
section
variable {prog:Program} {w:World} {K:Type} [DecidableEq K] {knd:KeyKind prog w K} {A:Around} {E:Value→Shared→Prop} {s:Shared}
theorem B6 {R:Result→Shared→Prop}{I d a:Addr}{items:Array Value}{ps:List (K × Value)}{h₀ : Heap}(hh:A.handled=none)(hIa:a≠I)(hd:d≠I)(hda:d≠a)(hl:ps.length=items.size)(hsz:items.size≤1000)
    (hp:∀ (i:Nat) v kv,items[i]? = some v→ps[i]? = some kv → ∃ p o key m,v=.ref p∧p≠I∧p≠d∧h₀.get? p=some o∧o.cls=.type "tuple" ∧ o.data=.seq #[key,kv.2] m∧knd.is kv.1 key=true)
    {St:Nat→Heap→Prop} (W:Walks prog w A.in1 I [I,a] [I] items.size (fun i v=>items[i]? = some v) St) :
    ∀ (k i:Nat) (s:Shared),items.size - i=k→i≤items.size→St i s.heap→(∀ b o,b≠I→b≠d→h₀.get? b=some o→s.heap.get? b=some o)→s.heap.DictOf knd d (merged [] (ps.take i)) →
      (∀ h' tk,(∀ b o,b≠I→b≠d→s.heap.get? b=some o→h'.get? b=some o)→h'.DictOf knd d (merged [] ps)→R (.ok (.ret .none)) { s with heap:=h',toks:=tk }) →
      codeAny (model prog w) A (.builtin "dict.update.loop" ⟨[.ref d,.ref I,rawInt i,.none],[]⟩) R s:=by
  intro k
  induction k with
  | zero =>
    intro i s hk hi hst h0 hD hR
    have hin:i=items.size:=by omega
    subst hin
    refine codeAny_builtin tq ?_
    rw [Around.under_plainId ji _]
    show wpAny _ A.in1 (pyNext (.ref I) >>= _) _ _ s
    refine wpAny_bind (W.done s _ _ hst fun h' tk hk => ?_)
    show wpAny _ A.in1 (Builtin.Dict.addKeywords d [] >>= _) _ _ _
    rw [show ps.take items.size=ps by rw [← hl];exact List.take_length] at hD
    refine wpAny_bind (wpAny_pure (wpAny_pure (hR h' tk (fun b o hb _ e=>hk b o (by simpa using hb) e) ?_)))
    obtain⟨o,es,ep,ho,r⟩:=hD
    exact⟨o,es,ep,hk d o (by simpa using hd) ho,r⟩
  | succ k ih =>
    intro i s hk hi hst h0 hD hR
    have hlt:i < items.size:=by omega
    have hi2:i < ps.length:=by omega
    refine codeAny_builtin tq ?_
    rw [Around.under_plainId ji _]
    show wpAny _ A.in1 (pyNext (.ref I) >>= _) _ _ s
    refine wpAny_bind (W.item i s _ _ hlt hst fun v h' tk hP hst' hk' => ?_)
    have hD':h'.DictOf knd d (merged [] (ps.take i)):=by
      obtain⟨o,es,ep,ho,r⟩:=hD
      exact⟨o,es,ep,hk' d o (by simpa using hd) ho,r⟩
    have hkv:ps[i]? = some ps[i]:=List.getElem?_eq_getElem hi2
    obtain⟨p,o,key,m,rfl,hpI,hpd,ho,hc,hdat,hkey⟩:=hp i v _ hP hkv
    have ho':h'.get? p=some o:=hk' p o (by simpa using hpI) (h0 p o hpI hpd ho)
    show wpAny _ A.in1 (holding [Value.ref p] _ >>= _) _ _ _
    refine wpAny_bind (wpAny_holding (wpAny_bind (wpAny_tryCatch ?_)))
    unfold Builtin.Dict.pairItems
    refine wpAny_bind (wpAny_typeOf (T := "tuple") ⟨o,ho',hc⟩ ?_)
    rw [if_pos (by decide)]
    refine wpAny_bind (wpAny_seqItems ho' hdat (wpAny_pure ?_))
    show wpAny _ A.in1 (holding [key,ps[i].2] (dictSet d key ps[i].2)) _ _ _
    have len:(merged [] (ps.take i)).length≤sizeLine:=by
      have:=merged_length_le [] (ps.take i)
      rw [List.length_take] at this
      rw [sizeLine_eq]
      simp at this
      omega
    refine wpAny_holding (wpAny_dictSet_pairs (knd:=knd) (hsz:=len) hkey hD' fun h2 hD2 hs2 => ?_)
    rw [← merged_take_succ [] ps i ps[i] hkv] at hD2
    refine wpAny_pure ⟨plainId_quiet ji _,ih (i + 1) _ (by omega) hlt (W.frame _ _ _ hst' fun b hb o e => ?_) (fun b o hb hb2 e => ?_) hD2 fun h3 tk3 hk3 hD3 => ?_⟩
    · have hbd:b≠d:=fun z=>by
        simp at hb
        rcases hb with q|q
        · exact hd (z.symm.trans q)
        · exact hda (z.symm.trans q)
      exact (hs2.2 b hbd).trans e
    · exact (hs2.2 b hb2).trans (hk' b o (by simpa using hb) (h0 b o hb hb2 e))
    · exact hR h3 tk3 (fun b o hb hb2 e=>hk3 b o hb hb2 ((hs2.2 b hb2).trans (hk' b o (by simpa using hb) e))) hD3
theorem u7 {a:Addr} {o:Obj} {items:Array Value} {c:Nat} {ps:List (K × Value)} {Q:Value→Shared→Prop} (hh:A.handled=none) (ho:s.heap.get? a=some o) (hc:o.cls=.type "tuple") (hdat:o.data=.seq items c) (hdd:o.dict=none) (hl:ps.length=items.size) (hsz:items.size≤1000) (nd:(ps.map (·.1)).Nodup)
    (hp:∀ (i:Nat) v kv,items[i]? = some v→ps[i]? = some kv → ∃ p o key m,v=.ref p∧s.heap.get? p=some o∧o.cls=.type "tuple" ∧ o.data=.seq #[key,kv.2] m∧knd.is kv.1 key=true)
    (h:∀ h' tk,h'.DictOf knd s.heap.objs.size ps→(∀ b ob,s.heap.get? b=some ob→h'.get? b=some ob)→Q (.ref s.heap.objs.size) { s with heap:=h',toks:=tk }) :
    wpAny (model prog w) A (call (.type "dict") [.ref a]) Q E s:=by
  refine callType_codes (Q₁ := fun obj s₁ => obj=.ref s.heap.objs.size∧s₁ = { s with heap:=s.heap.push { cls:=.type "dict",data:=.dict #[] } }) F.kt_called_dict (F.kt_typeCall_dict_1 _) F.entry_dict_init (kt_code_dict_new _ ⟨rfl,rfl⟩) ?_
  rintro obj s₁ ⟨rfl,rfl⟩
  obtain⟨d,hd⟩ : ∃ d,d=s.heap.objs.size:=⟨_,rfl⟩
  have hnew:(s.heap.push { cls:=.type "dict",data:=.dict #[] }).DictOf knd s.heap.objs.size []:=Heap.DictOf.new s.heap
  generalize hH:s.heap.push { cls:=.type "dict",data:=.dict #[] } = H1 at hnew ⊢
  have old:∀ b ob,s.heap.get? b=some ob→H1.get? b=some ob:=fun b ob e=>by rw [← hH];exact Heap.get?_push_of_some _ e
  refine⟨hnew.typeIs,F.args_dict_init_2 _ _,?_⟩
  unfold Builtin.«dict.__init__»
  refine wpAny_bind ?_
  unfold Builtin.Dict.selfAndRest
  refine wpAny_bind (wpAny_notOrdered_dict hnew.typeIs ?_)
  show wpAny _ _ (pure (s.heap.objs.size,[Value.ref a])) _ _ _
  refine wpAny_pure ?_
  show wpAny _ _ (Builtin.Dict.updateFrom "dict.__init__" s.heap.objs.size (.ref a) [] .none) _ _ _
  unfold Builtin.Dict.updateFrom
  refine wpAny_bind (wpAny_typeOf (T := "tuple") ⟨o,old a o ho,hc⟩ ?_)
  rw [if_pos (by decide)]
  refine wpAny_bind (B5 (s:={ s with heap:=H1 }) (old a o ho) hc hdat hdd hh fun h2 tk2 k2 => ?_)
  rw [if_pos (show (none:Option Value).isNone=true from rfl)]
  refine wpAny_bind (wpAny_rule (wpAny_bind ?_))
  have ho2:h2.IsTuple a items:=⟨o,k2 a o (old a o ho),hc,c,hdat⟩
  refine wpAny_pyIter_tuple (s:={ s with heap:=h2,toks:=tk2 }) ho2 ?_
  have sz2:s.heap.objs.size < h2.objs.size:=by
    obtain⟨ob,es,ep,e,_⟩:=hnew
    exact Heap.lt_size (k2 _ _ e)
  have lta:a < s.heap.objs.size:=Heap.lt_size ho
  have D2:h2.DictOf knd s.heap.objs.size []:=by
    obtain⟨ob,es,ep,e,r⟩:=hnew
    exact⟨ob,es,ep,k2 _ _ e,r⟩
  refine wpAny_pure ⟨plainId_quiet ji _,B6 (knd:=knd) (ps:=ps) (h₀ := h2) (A:=A.in1) hh (Nat.ne_of_lt (Nat.lt_trans lta sz2)) (Nat.ne_of_lt sz2) (Nat.ne_of_gt lta) hl hsz (fun i v kv e1 e2 => ?_) (Walks.tuple (A:=A.in1.in1) hh h2.objs.size a (Nat.ne_of_lt (Nat.lt_trans lta sz2)) items) items.size 0 _ rfl (Nat.zero_le _) ?_ (fun b ob _ _ e=>Heap.get?_push_of_some _ e) ?_ fun h3 tk3 k3 D3 => ?_⟩
  · obtain⟨p,ob,key,m,q1,q2,q3⟩:=hp i v kv e1 e2
    have lp:=Heap.lt_size q2
    exact⟨p,ob,key,m,q1,Nat.ne_of_lt (Nat.lt_trans lp sz2),Nat.ne_of_lt lp,k2 _ _ (old _ _ q2),q3⟩
  · refine⟨⟨_,Heap.get?_push_size _ rfl,rfl,rfl⟩,?_⟩
    obtain⟨ob,q,r⟩:=ho2
    exact⟨ob,Heap.get?_push_of_some _ q,r⟩
  · show (h2.push _).DictOf knd s.heap.objs.size (merged [] (ps.take 0))
    exact D2.push _
  · rw [merged_nil_of_nodup ps nd] at D3
    refine⟨rfl,h h3 tk3 D3 fun b ob e=>k3 b ob (Nat.ne_of_lt (Nat.lt_trans (Heap.lt_size e) sz2)) (Nat.ne_of_lt (Heap.lt_size e)) (Heap.get?_push_of_some _ (k2 _ _ (old _ _ e)))⟩
end
end Fm
set_option linter.all false
namespace Fm
def f6:List D→Option (List (Int × Int))
  | []=>some []
  | .tup [.int k,.int v] :: r=>(f6 r).map ((k,v) :: ·)
  | _=>none
def tt (x:D) (h:Hd):Res D:=match x with
  | .tup l=>match f6 l with
    | some ps=>if ps.length≤1000∧(ps.map (·.1)).Nodup then .ok (.ref h.length) (h++[.dct (ps.map fun q=>(q.1,.int q.2))]) else .bad
    | none=>.bad
  | _=>.bad
@[simp] def ma (a:EF):EF:=fun σ h=>(a σ h).bind fun x h=>tt x h
def pz (a k d:EF):EF:=fun σ h=>(a σ h).bind fun x h=>match x with
  | .ref n=>match h[n]? with
    | some (.dct _)=>(k σ h).bind fun y h=>(d σ h).bind fun z h=>match y with
      | .int j=>match h[n]? with
        | some (.dct l)=>.ok ((iW l j).getD z) h
        | _=>.bad
      | _=>.bad
    | _=>.bad
  | _=>.bad
end Fm
set_option Elab.async false
set_option linter.all false
set_option maxRecDepth 100000
namespace Fm
open PySem PySem.Spec L2 PySem.W PyProof.Rows
section
variable {X:Cx} {pos p:Pos}
theorem tu {P:Program}{w:World}{H:Hp}{s:Shared}(hok:HOk P w H s.heap):∀ {vs:List V} {ps:List (Int × Int)} {its:List Value},bG H vs (ps.map fun q=>[q.1,q.2])→aT vs its →
    ∃ qs:List (Key × Value),KV (ps.map fun q=>((Sum.inl q.1:Key),V.int q.2)) qs∧its.length=qs.length ∧ ∀ (i:Nat) v kv,its[i]? = some v→qs[i]? = some kv → ∃ p o key m,v=.ref p∧s.heap.get? p=some o∧o.cls=.type "tuple" ∧ o.data=.seq #[key,kv.2] m∧(bB P w).is kv.1 key=true
  | _,[],_,.nil,.nil=>⟨[],.nil,rfl,fun i v kv e=>by simp at e⟩
  | _,q :: ps,_,.cons h t,.cons r1 r2=>by
    obtain⟨qs,k,l,f⟩:=tu hok t r2
    obtain⟨its2,rv,o,ho,hc,n,hd⟩:=fj hok h
    obtain⟨u1,u2,e,⟨t1,rfl⟩,⟨t2,rfl⟩⟩:=zG (x:=V.int q.1) (y:=V.int q.2) rv
    subst e
    refine⟨(Sum.inl q.1,.int q.2 t2) :: qs,.cons ⟨rfl,t2,rfl⟩ k,by simp [l],fun i v kv e1 e2 => ?_⟩
    cases i with
    | zero =>
      simp at e1 e2
      subst e1 e2
      exact⟨_,o,.int q.1 t1,n,r1,ho,hc,hd,xp (k:=Sum.inl q.1) ⟨t1,rfl⟩⟩
    | succ i=>exact f i v kv (by simpa using e1) (by simpa using e2)
def Eg:List V→Hp→VK→Prop:=fun xs H Q=>∃ (a:Addr) (vs:List V) (ps:List (Int × Int)),xs=[.ref a]∧H a=some (.tup vs)∧bG H vs (ps.map fun q=>[q.1,q.2])∧ps.length≤1000∧(ps.map (·.1)).Nodup ∧ ∀ q,H q=none→Q (.ref q) (upd H q (.dK (ps.map fun q=>((Sum.inl q.1:Key),V.int q.2))))
theorem C7 {K:PySem.W.Frag}{ρ:List Addr}{H:Hp}:∀ ps:List (Int × Int),RDs K ρ H (ps.map ((fun x=>x.2) ∘ fun q=>(q.1,D.int q.2))) (ps.map ((fun x=>x.2) ∘ fun q=>((Sum.inl q.1:Key),V.int q.2)))
  | []=>RDs.nil
  | q :: ps=>RDs.cons (by simp only [Function.comp,RD]) (C7 ps)
theorem vc (hc:X.calm=true):eU X (.type "dict") Eg:=by
  intro pins s σ H xs us Q I r h
  obtain⟨a,vs,ps,rfl,ha,rw',hz,nd,q⟩:=h
  obtain⟨u,rfl,ru⟩:=aT.one r
  cases (show u=Value.ref a from ru)
  obtain⟨its,o,c,rv,ho,h2,h3,h4⟩:=BQ I.hok ha
  obtain⟨qs,k,l,f⟩:=tu I.hok rw' rv
  have lq:qs.length=ps.length:=by rw [← k.length];simp
  have e1:qs.map (·.1)=ps.map fun q=>(Sum.inl q.1:Key):=by rw [← k.keys];simp
  have nd2:(qs.map (·.1)).Nodup:=by
    rw [e1]
    rw [List.nodup_iff_pairwise_ne,List.pairwise_map] at nd ⊢
    exact nd.imp fun {a b} h z=>h (Sum.inl.inj z)
  refine u7 (knd:=bB X.prog X.w) (ps:=qs) (items:=its.toArray) (I.ok.hd hc) ho h2 h3 h4 (by simp [l]) (by simp [l,lq];omega) nd2 (fun i v kv e1 e2=>f i v kv (by simpa using e1) e2) fun h' tk D kp => ?_
  have big:=I.big
  exact⟨.ref s.heap.objs.size,_,I.laid (t':=tk) (o:=.dK (ps.map fun q=>((Sum.inl q.1:Key),V.int q.2))) kp (Nat.le_refl _) (Al (by rw [List.length_map,sizeLine_eq];omega) (beq_eq_false_iff_ne.mpr (Ne.symm (Nat.ne_of_lt big))) k D),rfl,q _ (I.hok.fresh (Nat.le_refl _))⟩
theorem kz:∀ {l:List D} {ps:List (Int × Int)},f6 l=some ps→lI l=some (ps.map fun q=>[q.1,q.2])
  | [],ps,e=>by simp only [f6] at e;cases e;rfl
  | d :: l,ps,e=>by
    unfold f6 at e
    split at e
    · rename_i z;cases z
    · rename_i k v r z
      cases z
      cases c:f6 l with
      | none=>rw [c] at e;cases e
      | some qs =>
        rw [c] at e
        cases e
        simp only [lI,eF,kz c];rfl
    · cases e
theorem Ay {a:Expr} {fa:EF} (hc:X.calm=true) (hg:Gl X "dict") (hm:X.mg "dict" = none) (ha:ME X a fa) (hs:starEach [a] X.env=(false,eval a X.env) :: starEach [] X.env:=by rfl):ME X (.Call (.Name "dict" p) [a] [] pos) (ma fa):=by
  refine C4 (g:=tt) (zS (vc hc) hg hm (by decide +kernel) (he:=hs)) ha (fun ρ H σd hd σ d v Q rs rv pp => ?_) hs
  unfold tt at pp
  cases d<;>try exact pp.elim
  rename_i l
  simp only at pp
  cases c:f6 l with
  | none=>rw [c] at pp;exact pp.elim
  | some ps =>
    rw [c] at pp
    simp only at pp
    split at pp
    · rename_i hz
      simp only [RD] at rv
      obtain⟨a,vs,rfl,ht,rvs⟩:=rv
      have rw':=lX rvs (kz c)
      refine⟨a,vs,ps,rfl,ht,rw',hz.1,hz.2,fun q hq => ?_⟩
      have sm:=bX (o:=HO.dK (ps.map fun q=>((Sum.inl q.1:Key),V.int q.2))) hq
      have hn:=rs.hp.free hq
      have rh:=(rs.hp.same sm).allocD (p:=q) (l:=ps.map fun q=>(q.1,D.int q.2)) ⟨_,aS,by simp,by simp only [List.map_map];exact C7 ps⟩ hn
      have ex:Ext ρ H (ρ ++ [q]) (upd H q (.dK (ps.map fun q=>((Sum.inl q.1:Key),V.int q.2)))):=Ext.alloc hq
      refine bo.at (R:=rD X.K) (a:=.ref hd.length) pp ex (rs.ext ex rh) ?_
      simp only [rD,RD]
      refine⟨q,?_,rfl⟩
      rw [← rs.hp.len]
      simp
    · exact pp.elim
theorem B7 {o e f:Expr} {fo fe ff:EF} {apos cpos:Pos} (hu:X.A.units + 1 < cLine) (ho:ME X o fo) (he:ME X e fe) (hf:ME X f ff) (m:M2 X o "get" apos e f cpos):ME X (.Call (.Attribute o "get" apos) [e,f] [] cpos) (pz fo fe ff):=by
  refine PE.imp (An hu ho he hf m) fun σ H Q ⟨ρ,σd,hd,rs,pp⟩=>⟨ρ,σd,hd,rs,?_⟩
  unfold pz at pp
  refine (bo.bind (R:=rD X.K) pp).imp fun v H1 ⟨ρ1,d,hd1,e1,rs1,rv,p1⟩ => ?_
  cases d<;>try exact p1.elim
  rename_i n
  simp only at p1
  simp only [rD,RD] at rv
  obtain⟨a,ha,rfl⟩:=rv
  cases c:hd1[n]? with
  | none=>rw [c] at p1;exact p1.elim
  | some cell =>
    rw [c] at p1
    cases cell with
    | lst l=>exact p1.elim
    | dct l =>
      simp only at p1
      obtain⟨kvs,q1,q2,q3⟩:=rs1.hp.cel n _ a c ha
      refine⟨a,rfl,.inl ⟨kvs,.inl q1⟩,ρ1,σd,hd1,rs1,(bo.bind (R:=rD X.K) p1).imp fun w H2 ⟨ρ2,k,hd2,e2,rs2,rw',p2⟩ => ?_⟩
      refine⟨ρ2,σd,hd2,rs2,(bo.bind (R:=rD X.K) p2).imp fun z H3 ⟨ρ3,x,hd3,e3,rs3,rz,p3⟩ => ?_⟩
      obtain⟨j,rfl⟩ : ∃ j,k=.int j:=by
        cases k<;>first|exact⟨_,rfl⟩|exact p3.elim
      simp only at p3
      simp only [rD,RD] at rw'
      subst rw'
      have ha3 : ρ3[n]? = some a:=by
        obtain⟨g2,h2⟩:=e2.pre
        obtain⟨g3,h3⟩:=e3.pre
        have lt:=(List.getElem?_eq_some_iff.mp ha).1
        rw [h3,h2,List.append_assoc,List.getElem?_append_left lt];exact ha
      cases c3:hd3[n]? with
      | none=>rw [c3] at p3;exact p3.elim
      | some cell3 =>
        rw [c3] at p3
        cases cell3 with
        | lst l=>exact p3.elim
        | dct l3 =>
          simp only at p3
          obtain⟨kvs3,y1,y2,y3⟩:=rs3.hp.cel n _ a c3 ha3
          refine⟨gQ kvs3 (Sum.inl j),Aj.k (k:=Sum.inl j) y1,?_⟩
          rcases sZ j y2 y3 with ⟨z1,z2⟩|⟨d,v,z1,z2,rd⟩
          · rw [z1] at p3;rw [z2]
            exact p3.here rs3 rz
          · rw [z1] at p3;rw [z2]
            exact p3.here rs3 rd
end
end Fm
namespace Fm
theorem pA {h h':Hd}{d:D}(e:h'.length≤h.length):letGo h (.ok d h')=.ok d h':=by
  simp only [letGo];split
  · rw [List.take_of_length_le e]
  · rfl
@[simp] theorem bp {h:Hd} {d:D}:letGo h (.ok d h)=.ok d h:=pA (Nat.le_refl _)
@[simp] theorem EK {h:Hd} {d:D} {n:Nat} {c:cX}:letGo h (.ok d (h.set n c))=.ok d (h.set n c):=pA (by simp)
theorem yo {h h':Hd}{d:D}(e:pure? d=false):letGo h (.ok d h')=.ok d h':=by
  simp [letGo,e]
@[simp] theorem vd {h h':Hd} {n:Nat}:letGo h (.ok (.ref n) h')=.ok (.ref n) h':=yo rfl
theorem md {h g:Hd}{d:D}(e:pure? d=true):letGo h (.ok d (h++g))=.ok d h:=by
  have:xi h (h++g):=fun n c hn hc=>.inl (by rwa [List.getElem?_append_left hn] at hc)
  simp [letGo,e,this]
theorem jR {h h' g:Hd}{d:D}(e:pure? d=true)(hl:h'.length=h.length)(ho:xi h (h'++g)):letGo h (.ok d (h'++g))=.ok d h':=by
  simp [letGo,e,ho,← hl]
structure Web where
  ties:List (List (Nat × Int))
  bars:List Int
  stays:List (Option Int)
def bc:Option Int→D
  | none=>.non
  | some i=>.int i
def d9 (p:Nat × Int):D:=.tup [.int p.1,.int p.2]
def dM (r:List (Nat × Int)):D:=.tup (r.map d9)
def aj (l:List Int):D:=.tup (l.map .int)
def Web.enc (w:Web):D:=.tup [.tup (w.ties.map dM),.tup (w.bars.map .int),.tup (w.stays.map bc)]
structure Web.Ok (w:Web) (n:Nat):Prop where
  t:w.ties.length=n
  b:w.bars.length=n
  s:w.stays.length=n
  lt:∀ r∈w.ties,∀ p∈r,p.1 < n
  sz:n≤1000
structure bW (w:Web) (n:Nat) (s:List Int):Prop where
  len:s.length=n
  op:∀ x∈s,x=0∨x=1
  st:∀ (i:Nat) (x:Int),w.stays[i]? = some (some x)→s[i]? = some x
theorem cM {l:List D}{i:Nat}{d:D}(e:l[i]? = some d):atI l (i:Int)=some d:=by
  have:=(List.getElem?_eq_some_iff.mp e).1
  simp [atI,ixN,this]
  simpa [List.getElem?_eq_getElem this] using e
@[simp] theorem Fw (x:D) (l:List D):atI (x :: l) 0=some x:=cM (i:=0) rfl
@[simp] theorem Gb (x y z:D) (l:List D):atI (x :: y :: z :: l) 2=some z:=cM (i:=2) rfl
theorem cu {g:Option Nat}{all:List D}{tg:GF}{cs:List TF}{e:EF}{h:Hd}(I:Sd→Prop)(p:D→Bool)(f:D→D)(hh:iQ g all h) :
    ∀ {xs:List D} {σ:Sd},(∀ x∈xs,∀ σ,I σ → ∃ σ',tg x σ = some σ'∧I σ'∧gG cs σ' h=.ok (p x) h∧(p x=true→e σ' h=.ok (f x) h))→I σ →
      cB g all tg cs e xs σ h=.ok ((xs.filter p).map f) h
  | [],_,_,_=>by simp [cB,hh]
  | x :: xs,σ,st,i=>by
    obtain⟨σ',h1,h2,h3,h4⟩:=st x (by simp) σ i
    have ih:=cu I p f hh (xs:=xs) (σ := σ') (fun y hy=>st y (by simp [hy])) h2
    cases hp:p x with
    | true=>simp [cB,hh,h1,h3,hp,h4 hp,ih]
    | false=>simp [cB,hh,h1,h3,hp,ih]
theorem pB {g:Option Nat}{all:List D}{tg:GF}{b:SF}{rest:List D}(P:Nat→Sd→Hd→Prop)(hh:∀ i σ h,P i σ h→iQ g all h) :
    ∀ {xs:List D} {k:Nat} {σ:Sd} {h:Hd},(∀ (i:Nat) x σ h,xs[i]? = some x→P (k + i) σ h → ∃ σ',tg x σ = some σ' ∧ ∃ σ'' h'',b σ' h=.nx σ'' h''∧P (k + i + 1) σ'' h'')→P k σ h →
      ∃ σ' h',iA g all tg b (xs++rest) σ h=iA g all tg b rest σ' h'∧P (k + xs.length) σ' h'
  | [],k,σ,h,_,p=>⟨σ,h,rfl,by simpa using p⟩
  | x :: xs,k,σ,h,st,p=>by
    obtain⟨σ',h1,σ2,h2,h3,h4⟩:=st 0 x σ h (by simp) (by simpa using p)
    have st':∀ (i:Nat) y σ h,xs[i]? = some y→P (k + 1 + i) σ h → ∃ σ',tg y σ = some σ' ∧ ∃ σ'' h'',b σ' h=.nx σ'' h''∧P (k + 1 + i + 1) σ'' h'':=fun i y σ h e q=>by
      have e1:k + 1 + i=k + (i + 1):=by omega
      rw [e1] at q ⊢
      exact st (i + 1) y σ h (by simpa using e) q
    obtain⟨σ3,h5,h6,h7⟩:=pB P hh st' (by simpa using h4)
    refine⟨σ3,h5,?_,?_⟩
    · rw [← h6,List.cons_append,iA,if_pos (hh _ _ _ p),h1]
      simp only [h3]
    · have e1:k + (x :: xs).length=k + 1 + xs.length:=by simp;omega
      rw [e1];exact h7
theorem ce {g:Option Nat}{all:List D}{tg:GF}{b:SF}(P:Nat→Sd→Hd→Prop)(hh:∀ i σ h,P i σ h→iQ g all h)
    {xs:List D} {k:Nat} {σ:Sd} {h:Hd} (st:∀ (i:Nat) x σ h,xs[i]? = some x→P (k + i) σ h → ∃ σ',tg x σ = some σ' ∧ ∃ σ'' h'',b σ' h=.nx σ'' h''∧P (k + i + 1) σ'' h'') (p:P k σ h) :
      ∃ σ' h',iA g all tg b xs σ h=.nx σ' h'∧P (k + xs.length) σ' h':=by
  obtain⟨σ',h',q,z⟩:=pB (rest:=[]) P hh st p
  rw [List.append_nil] at q
  exact⟨σ',h',q.trans (by unfold iA;exact if_pos (hh _ _ _ z)),z⟩
theorem eM {g:Option Nat}{all:List D}{tg:GF}{e:EF}(P:Nat→Sd→Hd→Prop)(V:Nat→D→Prop)(hh:∀ i σ h,P i σ h→iQ g all h) :
    ∀ {xs:List D} {k:Nat} {σ:Sd} {h:Hd},(∀ (i:Nat) x σ h,xs[i]? = some x→P (k + i) σ h → ∃ σ',tg x σ = some σ' ∧ ∃ d h'',e σ' h=.ok d h''∧V (k + i) d∧P (k + i + 1) σ' h'')→P k σ h →
      ∃ ds h',cB g all tg [] e xs σ h=.ok ds h'∧ds.length=xs.length∧(∀ (i:Nat) d,ds[i]? = some d→V (k + i) d) ∧ ∃ σ',P (k + xs.length) σ' h'
  | [],k,σ,h,_,p=>⟨[],h,by simp [cB,hh _ _ _ p],rfl,by simp,σ,by simpa using p⟩
  | x :: xs,k,σ,h,st,p=>by
    obtain⟨σ',h1,d,h2,h3,hv,h4⟩:=st 0 x σ h (by simp) (by simpa using p)
    have st':∀ (i:Nat) y σ h,xs[i]? = some y→P (k + 1 + i) σ h → ∃ σ',tg y σ = some σ' ∧ ∃ d h'',e σ' h=.ok d h''∧V (k + 1 + i) d∧P (k + 1 + i + 1) σ' h'':=fun i y σ h e q=>by
      have e1:k + 1 + i=k + (i + 1):=by omega
      rw [e1] at q ⊢
      exact st (i + 1) y σ h (by simpa using e) q
    obtain⟨ds,h5,h6,hl,hvs,σ3,h7⟩:=eM P V hh st' (by simpa using h4)
    refine⟨d :: ds,h5,?_,by simp [hl],fun i d' hd => ?_,σ3,?_⟩
    · simp [cB,hh _ _ _ p,h1,gG,h3,h6]
    · cases i with
      | zero=>simp at hd;subst hd;simpa using hv
      | succ i =>
        have:=hvs i d' (by simpa using hd)
        rwa [show k + 1 + i=k + (i + 1) by omega] at this
    · have e1:k + (x :: xs).length=k + 1 + xs.length:=by simp;omega
      rw [e1];exact h7
theorem f7 {α : Type}{n:Nat}{ds:List α}{f:Nat → α}(hl:ds.length=n)(h:∀ (i:Nat) d,ds[i]? = some d→d=f i):ds=(List.range n).map f:=by
  apply List.ext_getElem?
  intro i
  by_cases hi:i < n
  · have:ds[i]? = some (ds[i]'(by omega)):=by simp [hl,hi]
    rw [this,h i _ this]
    simp [hi]
  · simp [hi,hl]
theorem eZ {t:TF}{b:SF}:∀ {n:Nat} {σ:Sd} {h:Hd} {r:Out},cY t b n σ h=r→r ≠ .bad → ∀ {m:Nat},n≤m→cY t b m σ h=r
  | 0,σ,h,r,e,hr,m,_=>by simp only [cY] at e;exact absurd e.symm hr
  | n + 1,σ,h,r,e,hr,m,hm=>by
    cases m with
    | zero=>omega
    | succ m =>
      simp only [cY] at e ⊢
      cases c:t σ h with
      | bad=>rw [c] at e;exact e
      | exc x h1=>rw [c] at e;exact e
      | ok cb h1 =>
        rw [c] at e
        cases cb with
        | false=>exact e
        | true =>
          simp only at e ⊢
          cases c2:b σ h1 with
          | nx σ2 h2=>rw [c2] at e;exact eZ e hr (by omega)
          | ct σ2 h2=>rw [c2] at e;exact eZ e hr (by omega)
          | bk σ2 h2=>rw [c2] at e;exact e
          | rt d h2=>rw [c2] at e;exact e
          | exc x σ2 h2=>rw [c2] at e;exact e
          | bad=>rw [c2] at e;exact e
theorem yp {t:TF}{b:SF}{n:Nat}{σ:Sd}{h:Hd}{r:Out}(e:cY t b n σ h=r)(hr:r ≠ .bad):lJ t b σ h=r:=by
  have ex:∃ n,cY t b n σ h ≠ .bad:=⟨n,by rw [e];exact hr⟩
  have hf:BO t b σ h=Classical.choose ex:=by simp [BO,ex]
  have h2:=Classical.choose_spec ex
  unfold lJ
  rw [hf]
  by_cases hle:n≤Classical.choose ex
  · exact eZ e hr hle
  · have:=eZ (n:=Classical.choose ex) rfl h2 (m:=n) (by omega)
    rw [← this,e]
end Fm
set_option linter.all false
namespace Fm
theorem aI {F:Fn}{r:LF}{σ:Sd}{h h1 h':Hd}{ds:List D}{d:D}(a:r σ h=.ok ds h1)(b:F ds h1=.ok d h'):ay F r σ h=.ok d h':=by
  show Res.bind _ _=_;rw [a];exact b
theorem aJ {a:EF}{r:LF}{σ:Sd}{h h1 h2:Hd}{d:D}{ds:List D}(p:a σ h=.ok d h1)(q:r σ h1=.ok ds h2):ae a r σ h=.ok (d :: ds) h2:=by
  show Res.bind _ _=_;rw [p,aM,q];rfl
theorem aC {g:O2}{a b:EF}{σ:Sd}{h h1 h2 h3:Hd}{x y z:D}(p:a σ h=.ok x h1)(q:b σ h1=.ok y h2)(r:g x y h2=.ok z h3):al g a b σ h=.ok z h3:=by
  show Res.bind _ _=_;rw [p,aM,q];exact r
theorem Az {r:LF}{σ:Sd}{h h':Hd}{xs:List D}(p:r σ h=.ok xs h')(q:xs.length≤SZ:=by exact of_decide_eq_true rfl):lH r σ h=.ok (.tup xs) h':=by
  show Res.bind _ _=_;rw [p];exact if_pos q
theorem mf {r:LF}{σ:Sd}{h h':Hd}{xs:List D}(p:r σ h=.ok xs h')(q:xs.length≤SZ:=by exact of_decide_eq_true rfl):cJ r σ h=.ok (.ref h'.length) (h'++[.lst xs]):=by
  show Res.bind _ _=_;rw [p];exact if_pos q
theorem Fx {a:LF}{b:EF}{σ:Sd}{h h1 h2:Hd}{l:List D}{i:Int}{d:D}(p:a σ h=.ok l h1)(q:b σ h1=.ok (.int i) h2)(r:atI l i=some d):fIx a b σ h=.ok d h2:=by
  show Res.bind _ _=_;rw [p,aM,q];simp only [aM,r]
theorem bt {a b:EF}{σ:Sd}{h h1 h2:Hd}{x:D}{l:List D}{i:Int}{d:D}(p:a σ h=.ok x h1)(q:b σ h1=.ok (.int i) h2)(s:iC h2 x=some l)(r:atI l i=some d):fAt a b σ h=.ok d h2:=by
  show al _ _ _ _ _=_;exact aC p q (by simp only [oAt,s,r])
theorem bQ {h:Hd}{n:Nat}{l:List D}(p:h[n]? = some (.lst l)):iC h (.ref n)=some l:=by simp only [iC,p]
theorem a0 {i:Nat}{e:EF}{σ:Sd}{h h':Hd}{d:D}(p:e σ h=.ok d h'):aF (gN i) e σ h=.nx (σ.set i (some d)) h':=by
  show outE _ _ _=_;rw [p];rfl
theorem bV {e:EF}{σ:Sd}{h h':Hd}{d:D}(p:e σ h=.ok d h'):bI e σ h=.rt d h':=by
  show outE _ _ _=_;rw [p];rfl
theorem iX {e:EF}{σ:Sd}{h h':Hd}{d:D}(p:e σ h=.ok d h'):fg e σ h=.nx σ h':=by
  show outE _ _ _=_;rw [p];rfl
theorem qF {t:TF}{a b:SF}{σ:Sd}{h h1:Hd}(p:t σ h=.ok true h1):sIf t a b σ h=a σ h1:=by
  unfold sIf;rw [p];rfl
theorem eO {t:TF}{a b:SF}{σ:Sd}{h h1:Hd}(p:t σ h=.ok false h1):sIf t a b σ h=b σ h1:=by
  unfold sIf;rw [p];rfl
theorem bP {a:EF}{σ:Sd}{h h':Hd}{b:Bool}(p:a σ h=.ok (.bl b) h'):tE a σ h=.ok b h':=by
  show asB _=_;rw [p];rfl
theorem mh {t:TF}{σ:Sd}{h h':Hd}{b:Bool}(p:t σ h=.ok b h'):jI t σ h=.ok (!b) h':=by
  show Res.bind _ _=_;rw [p];rfl
theorem gS {t u:TF}{σ:Sd}{h h1 h':Hd}{b:Bool}(p:t σ h=.ok true h1)(q:u σ h1=.ok b h'):gB t u σ h=.ok b h':=by
  show Res.bind _ _=_;rw [p];exact q
theorem lm {t u:TF}{σ:Sd}{h h1:Hd}(p:t σ h=.ok false h1):gB t u σ h=.ok false h1:=by
  show Res.bind _ _=_;rw [p];rfl
theorem AA {t u:TF}{σ:Sd}{h h1 h':Hd}{b:Bool}(p:t σ h=.ok false h1)(q:u σ h1=.ok b h'):tOr t u σ h=.ok b h':=by
  show Res.bind _ _=_;rw [p];exact q
theorem Eh {t u:TF}{σ:Sd}{h h1:Hd}(p:t σ h=.ok true h1):tOr t u σ h=.ok true h1:=by
  show Res.bind _ _=_;rw [p];rfl
theorem xv {i j:Int}{h:Hd}:oEq (.int i) (.int j) h=.ok (.bl (decide (i=j))) h:=rfl
theorem ga {a:LF}{σ:Sd}{h h1:Hd}{l:List D}(p:a σ h=.ok l h1):c5 a σ h=.ok (.int l.length) h1:=by
  show Res.bind _ _=_;rw [p];rfl
theorem ft {a:EF}{σ:Sd}{h h1:Hd}{x:D}{l:List D}(p:a σ h=.ok x h1)(s:iC h1 x=some l):lOf a σ h=.ok l h1:=by
  show Res.bind _ _=_;rw [p];simp only [aM,s]
theorem mi {x e:EF}{σ:Sd}{h h1 h2:Hd}{d:D}{n:Nat}{l l0:List D}(p:x σ h=.ok (.ref n) h1)(q:h1[n]? = some (.lst l0))(r:e σ h1=.ok d h2)(s:h2[n]? = some (.lst l))(t:l.length < SZ):fF x e σ h=.ok .non (h2.set n (.lst (l++[d]))):=by
  simp only [fF,p,aM,q,r,DN,s,if_pos t]
theorem iY {i j:Int}{h:Hd}(e:i=j):oEq (.int i) (.int j) h=.ok (.bl true) h:=by rw [xv,decide_eq_true e]
theorem iZ {i j:Int}{h:Hd}(e : ¬ i=j):oEq (.int i) (.int j) h=.ok (.bl false) h:=by rw [xv,decide_eq_false e]
theorem Ei {i j:Int}{h:Hd}(e : ¬ i < j):oLt (.int i) (.int j) h=.ok (.bl false) h:=by show Res.ok (D.bl (decide (i < j))) h=_;rw [decide_eq_false e]
theorem Ej {i j:Int}{h:Hd}(e:i < j):oLt (.int i) (.int j) h=.ok (.bl true) h:=by show Res.ok (D.bl (decide (i < j))) h=_;rw [decide_eq_true e]
theorem Ek {i j:Int}{h:Hd}(p:(sml i || sml j)=true):e9 (.int i) (.int j) h=.ok (.int (i * j)) h:=by
  show (if (sml i || sml j)=true then _ else _)=_
  exact if_pos p
theorem B8 {i j:Int}{h:Hd}(p:sml i=true):e9 (.int i) (.int j) h=.ok (.int (i * j)) h:=Ek (by rw [p];rfl)
theorem C8 {t:TF}{σ:Sd}{h h':Hd}{b:Bool}(p:t σ h=.ok b h'):fT t σ h=.ok (.bl b) h':=by
  show Res.bind _ _=_;rw [p];rfl
theorem qG {r:LF}{σ:Sd}{h0 h g:Hd}{xs:List D}{A:Nat}(hA:A=h0.length)(p:r σ h=.ok xs (h0++g))(q:xs.length≤SZ):cJ r σ h=.ok (.ref (A + g.length)) (h0++(g++[.lst xs])):=by
  rw [mf p q,hA,List.length_append,List.append_assoc]
theorem B9 {h0 g:Hd}{A:Nat}(hA:A=h0.length)(k:Nat)(c:cX):(h0++g).set (A + k) c=h0++g.set k c:=by
  subst hA
  rw [List.set_append_right _ _ (by omega)]
  congr 2;omega
theorem im {h0 g:Hd}{A:Nat}(hA:A=h0.length)(k:Nat):(h0++g)[A + k]? = g[k]? := by
  subst hA
  rw [List.getElem?_append_right (by omega),Nat.add_sub_cancel_left]
theorem qH {h0:Hd}{j:Nat}{c:cX}(g:Hd)(e:h0[j]? = some c):(h0++g)[j]? = some c:=(List.getElem?_append_left (List.getElem?_eq_some_iff.mp e).1).trans e
theorem d5 {a:EF}{σ:Sd}{h h1:Hd}{n:Nat}(p:a σ h=.ok (.int n) h1)(hn:n≤1000):bM a σ h=.ok ((List.range n).map (fun k:Nat=>D.int k),none) h1:=by
  show Res.bind _ _=_
  rw [p]
  exact if_pos ⟨Int.le_trans (by decide) (Int.natCast_nonneg n),Int.le_trans (Int.ofNat_le.mpr hn) (by decide)⟩
theorem jS {it:IF}{tg:GF}{b:SF}{σ:Sd}{h h1:Hd}{l:List D}{g:Option Nat}{o:Out}(p:it σ h=.ok (l,g) h1)(q:iA g l tg b l σ h1=o):fX it tg b σ h=o:=by
  unfold fX;rw [p];exact q
theorem e8 {nl:Nat}{caps:List Nat}{it:IF}{tg:GF}{cs:List TF}{e:EF}{σ:Sd}{h h1 h2:Hd}{l ds:List D}{g:Option Nat}(p:it σ h=.ok (l,g) h1)(q:cB g l tg cs e l (fY nl caps σ) h1=.ok ds h2):cL nl caps it tg cs e σ h=.ok ds h2:=by
  show Res.bind _ _=_;rw [p];exact q
theorem xw {x i e:EF}{σ:Sd}{h h1 h2 h3:Hd}{d:D}{n:Nat}{j:Int}{l:List (Int × D)}(p:e σ h=.ok d h1)(q:x σ h1=.ok (.ref n) h2)(r:i σ h2=.ok (.int j) h3)(s:h3[n]? = some (.dct l))(t:l.length < SZ):l8 x i e σ h=.nx σ (h3.set n (.dct (u3 l j d))):=by
  simp only [l8,p,q,r,outE,s,if_pos t]
theorem Ca {a:EF}{σ:Sd}{h h1:Hd}{n:Nat}{l:List D}(p:a σ h=.ok (.ref n) h1)(q:h1[n]? = some (.lst l)):iy a σ h=.ok (l,some n) h1:=by
  simp only [iy,p,aM,q]
theorem AB {a b:EF}{σ:Sd}{h h1 h2:Hd}{i j:Int}(p:a σ h=.ok (.int i) h1)(q:b σ h1=.ok (.int j) h2):l9 a b σ h=.ok (.int (if j > i then j else i)) h2:=by
  simp only [l9,p,aM,q]
theorem El {a:EF}{σ:Sd}{h h1:Hd}{b:Bool}(p:a σ h=.ok (.bl b) h1):yc a σ h=.ok (.int (b2i b)) h1:=by
  simp only [yc,p,aM]
theorem Em {a:LF}{σ:Sd}{h h1:Hd}{l:List D}{is:List Int}(p:a σ h=.ok l h1)(q:eF l=some is):yb a σ h=.ok (.int is.sum) h1:=by
  simp only [yb,p,aM,q]
theorem io {a:LF}{σ:Sd}{h h1:Hd}{l:List D}(p:a σ h=.ok l h1):cn a σ h=.ok (.tup l) h1:=by
  show Res.bind _ _=_;rw [p];rfl
theorem AC {i j:Int}{h:Hd}(e:j < i):oGt (.int i) (.int j) h=.ok (.bl true) h:=by show Res.ok (D.bl (decide (j < i))) h=_;rw [decide_eq_true e]
theorem qI {i j:Int}{h:Hd}(e : ¬ j < i):oGt (.int i) (.int j) h=.ok (.bl false) h:=by show Res.ok (D.bl (decide (j < i))) h=_;rw [decide_eq_false e]
theorem xx {h:Hd}{A:Nat}(hA:A=h.length)(c:cX):(h++[c])[A]? = some c:=by rw [hA];exact List.getElem?_concat_length
theorem xz {h:Hd}{A:Nat}(hA:A=h.length)(c d:cX):(h++[c]).set A d=h++[d]:=by
  have:=B9 (g:=[c]) hA 0 d
  rwa [Nat.add_zero] at this
theorem qJ {r:LF}{σ:Sd}{h h':Hd}{xs:List D}{A:Nat}(hA:A=h'.length)(p:r σ h=.ok xs h')(q:xs.length≤SZ):cJ r σ h=.ok (.ref A) (h'++[.lst xs]):=by rw [hA];exact mf p q
theorem jj {l:List Int}{i:Nat}(h:i < l.length):atI (l.map D.int) (i:Int)=some (.int (l.getD i 0)):=cM (by rw [List.getElem?_map,List.getElem?_eq_getElem h,List.getD_eq_getElem?_getD,List.getElem?_eq_getElem h];rfl)
theorem AD {t:TF}{a b:EF}{σ:Sd}{h h1:Hd}(p:t σ h=.ok true h1):fIf t a b σ h=a σ h1:=by
  show Res.bind _ _=_;rw [p];rfl
theorem AE {t:TF}{a b:EF}{σ:Sd}{h h1:Hd}(p:t σ h=.ok false h1):fIf t a b σ h=b σ h1:=by
  show Res.bind _ _=_;rw [p];rfl
theorem aG {a b:SF}{σ σ':Sd}{h h':Hd}(e:a σ h=.nx σ' h'):aD a b σ h=b σ' h':=by simp only [aD,e]
theorem xA {a b:SF}{σ:Sd}{h h':Hd}{d:D}(e:a σ h=.rt d h'):aD a b σ h=.rt d h':=by simp only [aD,e]
theorem dk {np n:Nat}{b:SF}{ds:List D}{σ:Sd}{h h':Hd}{d:D}(hl:ds.length=np)(st:(ds.map some++List.replicate (n - ds.length) none:Sd) = σ)(e:b σ h=.rt d h'):bE np n b ds h=letGo h (.ok d h'):=by
  unfold bE runB;rw [if_pos hl,st,e]
theorem Fy {np n:Nat}{b:SF}{ds:List D}{σ σ':Sd}{h h':Hd}(hl:ds.length=np)(st:(ds.map some++List.replicate (n - ds.length) none:Sd) = σ)(e:b σ h=.nx σ' h'):bE np n b ds h=letGo h (.ok .non h'):=by
  unfold bE runB;rw [if_pos hl,st,e]
theorem jT {t:TF}{σ:Sd}{h:Hd}{b:Bool}(p:t σ h=.ok b h):gG [t] σ h=.ok b h:=by
  simp only [gG,p,aM];cases b<;>rfl
theorem mj {a:EF}{σ:Sd}{h h1:Hd}{l:List D}(p:a σ h=.ok (.tup l) h1):iy a σ h=.ok (l,none) h1:=by
  show Res.bind _ _=_;rw [p];rfl
theorem AF (a b:Int)(h:Hd):oNe (.int a) (.int b) h=.ok (.bl (!decide (a=b))) h:=rfl
theorem Eo {a b:EF}{σ:Sd}{h h1 h2:Hd}{i j:Int}(p:a σ h=.ok (.int i) h1)(q:b σ h1=.ok (.int j) h2):yk a b σ h=.ok (.int (if j < i then j else i)) h2:=by
  simp only [yk,p,aM,q]
theorem c6 {a b:EF}{σ:Sd}{h h1 h2:Hd}{d e:D}(p:a σ h=.ok d h1)(q:b σ h1=.ok e h2):ae a (ae b aA) σ h=.ok [d,e] h2:=aJ p (aJ q rfl)
end Fm
set_option linter.all false
namespace Fm
noncomputable def dN:Fn:=bE 1 1 (bI (fT (gB (tE (sK .int (aa 0))) (jI (tE (sK .bool (aa 0)))))))
noncomputable def dD:Fn:=bE 3 3 (bI (fT (gB (tE (ay dN (ae (aa 0) aA))) (tE (lG oLe oLe (aa 1) (aa 0) (aa 2))))))
noncomputable def cv:Fn:=bE 1 1 (bI (ay dD (ae (aa 0) (ae (fC (.int 0)) (ae (fC (.int 1)) aA)))))
noncomputable def cN:Fn:=bE 1 1 (bI (c5 (lOf (fAt (aa 0) (fC (.int 0))))))
noncomputable def fH:Fn:=bE 2 2 (bI (fAt (fAt (aa 0) (fC (.int 0))) (aa 1)))
noncomputable def fI:Fn:=bE 2 2 (bI (fAt (fAt (aa 0) (fC (.int 1))) (aa 1)))
noncomputable def dm:Fn:=bE 2 2 (bI (fAt (fAt (aa 0) (fC (.int 2))) (aa 1)))
noncomputable abbrev xB:SF:=(aD (sIf (jI (tE (ay cv (ae (aa 3) aA)))) (bI (fC (.bl false))) cK)
    (aD (aF (gN 4) (ay dm (ae (aa 0) (ae (aa 2) aA))))
    (sIf (gB (tE (al eV (aa 4) (fC .non))) (tE (al oNe (aa 3) (aa 4)))) (bI (fC (.bl false))) cK)))
noncomputable def ml:Fn:=bE 2 5 (aD (sIf (tOr (jI (tE (sK .tuple (aa 1)))) (tE (al oNe (c5 (lOf (aa 1))) (ay cN (ae (aa 0) aA))))) (bI (fC (.bl false))) cK)
    (aD (fX (zM (aa 1)) (gT [2,3]) xB)
    (bI (fC (.bl true)))))
noncomputable def bL:Fn:=bE 2 2 (sIf (jI (tE (ay ml (ae (aa 0) (ae (aa 1) aA))))) DM cK)
noncomputable def el:Fn:=bE 3 3 (bI (al e9 (fC (.int 2)) (yb (cL 2 [1] (iy (ay fH (ae (aa 0) (ae (aa 2) aA)))) (gT [0,1]) [(tE (al oEq (fAt (aa 2) (aa 0)) (fC (.int 1))))] (aa 1)))))
theorem qK (i:Int)(h:Hd):dN [.int i] h=.ok (.bl true) h:=(dk (d:=.bl true) (h':=h) rfl rfl rfl).trans bp
theorem mn (i a b:Int)(h:Hd):dD [.int i,.int a,.int b] h=.ok (.bl (decide (a≤i) && decide (i≤b))) h:=by
  have ch:lG oLe oLe (aa 1) (aa 0) (aa 2) [some (.int i),some (.int a),some (.int b)] h=.ok (.bl (decide (a≤i) && decide (i≤b))) h:=by
    show (match D.bl (decide (a≤i)) with | .bl true=>Res.ok (D.bl (decide (i≤b))) h | .bl false=>.ok (.bl false) h|_=>.bad)=_
    cases decide (a≤i)<;>rfl
  have t:gB (tE (ay dN (ae (aa 0) aA))) (tE (lG oLe oLe (aa 1) (aa 0) (aa 2))) [some (.int i),some (.int a),some (.int b)] h=.ok (decide (a≤i) && decide (i≤b)) h:=gS (bP (aI (aJ rfl rfl) (qK i h))) (bP ch)
  exact (dk rfl rfl (bV (C8 t))).trans bp
theorem mr (i:Int)(h:Hd):cv [.int i] h=.ok (.bl (decide (0≤i) && decide (i≤1))) h:=by
  exact (dk rfl rfl (bV (aI (aJ rfl (c6 rfl rfl)) (mn i 0 1 h)))).trans bp
theorem kA (w:Web)(h:Hd):cN [w.enc] h=.ok (.int w.ties.length) h:=by
  have:=(dk (np:=1) (n:=1) (b:=bI (c5 (lOf (fAt (aa 0) (fC (.int 0)))))) (ds:=[w.enc]) (h:=h) rfl rfl (bV (ga (ft (bt rfl rfl rfl rfl) rfl)))).trans bp
  rwa [List.length_map] at this
theorem tw (w:Web)(h:Hd){p:Nat}{r:List (Nat × Int)}(e:w.ties[p]? = some r):fH [w.enc,.int p] h=.ok (dM r) h:=by
  have q:atI (w.ties.map dM) (p:Int)=some (dM r):=cM (by simp [e])
  exact (dk rfl rfl (bV (bt (bt rfl rfl rfl rfl) rfl rfl q))).trans bp
theorem ve (w:Web)(h:Hd){p:Nat}{r:Int}(e:w.bars[p]? = some r):fI [w.enc,.int p] h=.ok (.int r) h:=by
  have q:atI (w.bars.map .int) (p:Int)=some (.int r):=cM (by simp [e])
  exact (dk rfl rfl (bV (bt (bt rfl rfl rfl rfl) rfl rfl q))).trans bp
theorem gU (w:Web)(h:Hd){p:Nat}{r:Option Int}(e:w.stays[p]? = some r):dm [w.enc,.int p] h=.ok (bc r) h:=by
  have q:atI (w.stays.map bc) (p:Int)=some (bc r):=cM (by simp [e])
  exact (dk rfl rfl (bV (bt (bt rfl rfl rfl rfl) rfl rfl q))).trans bp
theorem Cb {w:Web}{n:Nat}{s:List Int}(W:w.Ok n)(F:bW w n s)(h:Hd):ml [w.enc,aj s] h=.ok (.bl true) h:=by
  obtain⟨σ',h',h1,h2,a,b,c,h3⟩:=ce (P:=fun _ σ h'=>h'=h ∧ ∃ a b c,σ = [some w.enc,some (aj s),a,b,c]) (g:=none) (k:=0)
      (all:=((List.range (s.map D.int).length).zip (s.map D.int)).map fun p=>D.tup [.int (p.1:Nat),p.2]) (fun _ _ _ _=>trivial)
      (xs:=((List.range (s.map D.int).length).zip (s.map D.int)).map fun p=>D.tup [.int (p.1:Nat),p.2]) (tg:=gT [2,3]) (σ:=[some w.enc,some (aj s),none,none,none]) (h:=h)
      (b:=xB) (by
      rintro i x σ h0 hx ⟨rfl,a,b,c,rfl⟩
      have hi:i < s.length:=by
        have:=(List.getElem?_eq_some_iff.mp hx).1
        simpa using this
      have hx':x=.tup [.int (i:Nat),.int s[i]]:=by simpa [hi,List.getElem?_eq_getElem] using hx.symm
      subst hx'
      have hs:w.stays[i]? = some (w.stays[i]'(by rw [W.s,← F.len];exact hi)):=List.getElem?_eq_getElem _
      generalize w.stays[i]'(by rw [W.s,← F.len];exact hi)=st at hs
      have op:cv [.int s[i]] h0=.ok (.bl true) h0:=by
        rw [mr];rcases F.op _ (List.getElem_mem hi) with e|e<;>rw [e]<;>rfl
      have s1:sIf (jI (tE (ay cv (ae (aa 3) aA)))) (bI (fC (.bl false))) cK [some w.enc,some (aj s),some (.int i),some (.int s[i]),c] h0=.nx [some w.enc,some (aj s),some (.int i),some (.int s[i]),c] h0:=eO (mh (bP (aI (aJ rfl rfl) op)))
      have sv:=gU w h0 hs
      cases st with
      | none=>exact⟨_,rfl,_,h0,(aG s1).trans ((aG (a0 (aI (c6 rfl rfl) sv))).trans (eO (lm (bP (aC rfl rfl rfl))))),rfl,_,_,_,rfl⟩
      | some y =>
        have hy:s[i] = y:=by have:=F.st i y hs;rw [List.getElem?_eq_getElem hi] at this;exact Option.some.inj this
        exact⟨_,rfl,_,h0,(aG s1).trans ((aG (a0 (aI (c6 rfl rfl) sv))).trans (eO (gS (bP (aC rfl rfl rfl)) (bP (aC rfl rfl (by rw [show bc (some y)=D.int y from rfl,AF,decide_eq_true hy];rfl)))))),rfl,_,_,_,rfl⟩) ⟨rfl,_,_,_,rfl⟩
  rw [h2,h3] at h1
  have s1:sIf (tOr (jI (tE (sK .tuple (aa 1)))) (tE (al oNe (c5 (lOf (aa 1))) (ay cN (ae (aa 0) aA))))) (bI (fC (.bl false))) cK [some w.enc,some (aj s),none,none,none] h=.nx [some w.enc,some (aj s),none,none,none] h :=
    eO (AA (mh (b:=true) (bP rfl)) (bP (aC (ga (ft rfl rfl)) (aI (aJ rfl rfl) (kA w h)) (by rw [AF,List.length_map,F.len,W.t,decide_eq_true rfl];rfl))))
  exact (dk rfl rfl ((aG s1).trans ((aG (jS rfl h1)).trans (bV rfl)))).trans bp
theorem tz {w:Web}{n:Nat}{s:List Int}(W:w.Ok n)(F:bW w n s)(h:Hd):bL [w.enc,aj s] h=.ok .non h:=by
  exact (Fy rfl rfl (eO (mh (bP (aI (c6 rfl rfl) (Cb W F h)))))).trans bp
theorem pC (l:List Int):eF (l.map .int)=some l:=by
  induction l with
  | nil=>rfl
  | cons x xs ih=>simp [eF,ih]
theorem Ep {s:List Int}{i:Nat}(h:i < s.length):atI (s.map .int) (i:Int)=some (.int s[i]):=cM (by simp [h])
def gc (r:List (Nat × Int)) (s:List Int):List Int:=(r.filter fun p=>decide (s.getD p.1 0=1)).map (·.2)
def bq (r:List (Nat × Int)) (s:List Int):Int:=(gc r s).sum
theorem AG {r:List (Nat × Int)}{s:List Int}(hr:∀ q∈r,q.1 < s.length)(h:Hd):cB none (r.map d9) (gT [0,1]) [(tE (al oEq (fAt (aa 2) (aa 0)) (fC (.int 1))))] (aa 1) (r.map d9) [none,none,some (aj s)] h=.ok ((gc r s).map D.int) h:=by
  have key:cB none (r.map d9) (gT [0,1]) [(tE (al oEq (fAt (aa 2) (aa 0)) (fC (.int 1))))] (aa 1) (r.map d9) [none,none,some (aj s)] h
      = .ok (((r.map d9).filter fun d=>match d with | .tup [.int i,_]=>decide (s.getD i.toNat 0=1)|_=>false).map fun d=>match d with | .tup [_,x]=>x|_=>.non) h:=by
    refine cu (g:=none) (I:=fun σ=>∃ a b,σ = [a,b,some (aj s)]) _ _ trivial ?_ ⟨_,_,rfl⟩
    rintro x hx σ ⟨a,b,rfl⟩
    obtain⟨⟨q,wt⟩,hq,rfl⟩:=List.mem_map.mp hx
    exact⟨_,rfl,⟨_,_,rfl⟩,jT (bP (aC (bt rfl rfl rfl (jj (hr _ hq))) rfl xv)),fun _=>rfl⟩
  rw [key,gc,List.filter_map,List.map_map,List.map_map]
  rfl
theorem vf {w:Web}{n:Nat}{s:List Int}(W:w.Ok n)(hs:s.length=n){p:Nat}{r:List (Nat × Int)}(e:w.ties[p]? = some r)(h:Hd) :
    el [w.enc,aj s,.int p] h=.ok (.int (2 * bq r s)) h:=by
  have hr:∀ q∈r,q.1 < s.length:=fun q hq=>by rw [hs];exact W.lt r (List.mem_of_getElem? e) q hq
  exact (dk rfl rfl (bV (aC rfl (Em (e8 (mj (aI (c6 rfl rfl) (tw w h e))) (AG hr h)) (pC _)) (B8 (by decide))))).trans bp
def ip (w:Web) (f s:List Int) (p:Nat):Int:=(2 * w.bars.getD p 0 + 1) * (f.getD p 0 + s.getD p 0) - (if s.getD p 0=1 then 2 * (2 * bq (w.ties.getD p []) f) + 2 * f.getD p 0 else 0)
def dE (w:Web) (f s:List Int):Nat→Int
  | 0=>0
  | k + 1=>dE w f s k + ip w f s k
theorem qL {α : Type}{f : α → D}{l:List α}{i:Nat}(h:i < l.length):atI (l.map f) (i:Int)=some (f l[i]):=cM (by simp [h])
end Fm
set_option linter.all false
namespace Fm
noncomputable def dP:Fn:=bE 3 6 (aD (aF (gN 3) (ay dm (ae (aa 0) (ae (aa 2) aA))))
    (aD (sIf (tE (al eV (aa 3) (fC .non))) (bI (aa 3)) cK)
    (aD (aF (gN 4) (ay el (ae (aa 0) (ae (aa 1) (ae (aa 2) aA)))))
    (aD (aF (gN 5) (ay fI (ae (aa 0) (ae (aa 2) aA))))
    (aD (sIf (tE (al oEq (aa 4) (aa 5))) (bI (fAt (aa 1) (aa 2))) cK)
    (bI (fIf (tE (al oGt (aa 4) (aa 5))) (fC (.int 1)) (fC (.int 0)))))))))
noncomputable def cf:Fn:=bE 2 2 (bI (cn (cL 1 [0,1] (bM (ay cN (ae (aa 0) aA))) (gN 0) [] (ay dP (ae (aa 1) (ae (aa 2) (ae (aa 0) aA)))))))
noncomputable abbrev mx:SF:=(fg (fF (aa 3) (ay cf (ae (aa 0) (ae (fAt (aa 3) (aa 4)) aA)))))
noncomputable def dn:Fn:=bE 3 5 (aD (fg (ay bL (ae (aa 0) (ae (aa 1) aA))))
    (aD (sIf (tE (al oGt (aa 2) (fC (.int 400)))) DM cK)
    (aD (aF (gN 3) (cJ (ae (aa 1) aA)))
    (aD (fX (bM (aa 2)) (gN 4) mx)
    (bI (aa 3))))))
noncomputable abbrev my:SF:=(aD (fg (fF (aa 2) (aa 3)))
    (aF (gN 3) (ay cf (ae (aa 0) (ae (aa 3) aA)))))
noncomputable def eg:Fn:=bE 2 5 (aD (fg (ay bL (ae (aa 0) (ae (aa 1) aA))))
    (aD (aF (gN 2) (cJ (ae (aa 1) (ae (ay cf (ae (aa 0) (ae (aa 1) aA))) aA))))
    (aD (aF (gN 3) (ay cf (ae (aa 0) (ae (fAt (aa 2) (fC (.int 1))) aA))))
    (aD (lJ (tE (al oNe (aa 3) (fAt (aa 2) (fC (.int (-2)))))) my)
    (aD (aF (gN 4) (fIf (tE (al oEq (fAt (aa 2) (fC (.int (-1)))) (fAt (aa 2) (fC (.int (-2)))))) (fC (.str [114,101,115,116])) (fC (.str [112,97,105,114]))))
    (bI (lH (ae (al nH (c5 (lOf (aa 2))) (fC (.int 2))) (ae (aa 4) (ae (aa 2) aA))))))))))
def cr (w:Web) (s:List Int) (p:Nat):Int:=match w.stays.getD p none with
  | some x=>x
  | none=>if 2 * bq (w.ties.getD p []) s=w.bars.getD p 0 then s.getD p 0 else if w.bars.getD p 0 < 2 * bq (w.ties.getD p []) s then 1 else 0
def cg (w:Web) (n:Nat) (s:List Int):List Int:=(List.range n).map (cr w s)
theorem vg {w:Web}{n:Nat}{s:List Int}(W:w.Ok n)(F:bW w n s){p:Nat}(hp:p < n)(h:Hd):dP [w.enc,aj s,.int p] h=.ok (.int (cr w s p)) h:=by
  have ht:p < w.ties.length:=by rw [W.t];exact hp
  have hb:p < w.bars.length:=by rw [W.b];exact hp
  have hst:p < w.stays.length:=by rw [W.s];exact hp
  have hs:p < s.length:=by rw [F.len];exact hp
  have et:w.ties[p]? = some w.ties[p]:=by simp [ht]
  have eb:w.bars[p]? = some w.bars[p]:=by simp [hb]
  have es:w.stays[p]? = some w.stays[p]:=by simp [hst]
  have pull:=vf W F.len et h
  have gt:w.ties.getD p [] = w.ties[p]:=by simp [List.getD,ht]
  have gb:w.bars.getD p 0=w.bars[p]:=by simp [List.getD,hb]
  have gs:w.stays.getD p none=w.stays[p]:=by simp [List.getD,hst]
  have gi:s.getD p 0=s[p]:=by simp [List.getD,hs]
  have ai:=Ep hs
  cases c:w.stays[p] with
  | some x =>
    rw [c] at es
    have nx:cr w s p=x:=by unfold cr;rw [gs,c]
    rw [nx]
    exact (dk rfl rfl ((aG (a0 (aI (c6 rfl rfl) (gU w h es)))).trans (xA ((qF (bP (aC rfl rfl rfl))).trans (bV rfl))))).trans bp
  | none =>
    rw [c] at es
    have sv:=gU w h es
    have bv:=ve w h eb
    simp only [cr,gs,c,gt,gb,gi]
    have s1:aF (gN 3) (ay dm (ae (aa 0) (ae (aa 2) aA))) [some w.enc,some (aj s),some (.int p),none,none,none] h=.nx [some w.enc,some (aj s),some (.int p),some .non,none,none] h:=a0 (aI (c6 rfl rfl) sv)
    have s2:sIf (tE (al eV (aa 3) (fC .non))) (bI (aa 3)) cK [some w.enc,some (aj s),some (.int p),some .non,none,none] h=.nx [some w.enc,some (aj s),some (.int p),some .non,none,none] h:=eO (bP (aC rfl rfl rfl))
    generalize 2 * bq w.ties[p] s=P at pull
    have s3:aF (gN 4) (ay el (ae (aa 0) (ae (aa 1) (ae (aa 2) aA)))) [some w.enc,some (aj s),some (.int p),some .non,none,none] h=.nx [some w.enc,some (aj s),some (.int p),some .non,some (.int P),none] h:=a0 (aI (aJ rfl (c6 rfl rfl)) pull)
    have s4:aF (gN 5) (ay fI (ae (aa 0) (ae (aa 2) aA))) [some w.enc,some (aj s),some (.int p),some .non,some (.int P),none] h=.nx [some w.enc,some (aj s),some (.int p),some .non,some (.int P),some (.int w.bars[p])] h:=a0 (aI (c6 rfl rfl) bv)
    have go:∀ {v:Int},aD (sIf (tE (al oEq (aa 4) (aa 5))) (bI (fAt (aa 1) (aa 2))) cK) (bI (fIf (tE (al oGt (aa 4) (aa 5))) (fC (.int 1)) (fC (.int 0)))) [some w.enc,some (aj s),some (.int p),some .non,some (.int P),some (.int w.bars[p])] h=.rt (.int v) h→dP [w.enc,aj s,.int p] h=.ok (.int v) h:=fun e=>(dk rfl rfl ((aG s1).trans ((aG s2).trans ((aG s3).trans ((aG s4).trans e))))).trans bp
    by_cases e1:P=w.bars[p]
    · rw [if_pos e1];exact go (xA ((qF (bP (aC rfl rfl (iY e1)))).trans (bV (bt rfl rfl rfl ai))))
    · rw [if_neg e1]
      by_cases e2:w.bars[p] < P
      · rw [if_pos e2];exact go ((aG (eO (bP (aC rfl rfl (iZ e1))))).trans (bV ((AD (bP (aC rfl rfl (AC e2)))).trans rfl)))
      · rw [if_neg e2];exact go ((aG (eO (bP (aC rfl rfl (iZ e1))))).trans (bV ((AE (bP (aC rfl rfl (qI e2)))).trans rfl)))
theorem gf {w:Web}{n:Nat}{s:List Int}(W:w.Ok n)(F:bW w n s)(h:Hd):cf [w.enc,aj s] h=.ok (aj (cg w n s)) h:=by
  have key:cB none ((List.range n).map fun k:Nat=>D.int k) (gN 0) [] (ay dP (ae (aa 1) (ae (aa 2) (ae (aa 0) aA)))) ((List.range n).map fun k:Nat=>D.int k) [none,some w.enc,some (aj s)] h
      = .ok (((((List.range n).map fun k:Nat=>D.int k).filter fun _=>true)).map fun d=>match d with | .int i=>.int (cr w s i.toNat)|_=>.non) h:=by
    refine cu (g:=none) (I:=fun σ=>∃ a,σ = [a,some w.enc,some (aj s)]) _ _ trivial ?_ ⟨_,rfl⟩
    rintro x hx σ ⟨a,rfl⟩
    obtain⟨i,hi,rfl⟩:=List.mem_map.mp hx
    have hi:=List.mem_range.mp hi
    exact⟨_,rfl,⟨_,rfl⟩,by simp,fun _=>aI (aJ rfl (c6 rfl rfl)) (vg W F hi h)⟩
  have k2:((((List.range n).map fun k:Nat=>D.int k).filter fun _=>true)).map (fun d=>match d with | .int i=>D.int (cr w s i.toNat)|_=>.non)=(cg w n s).map D.int:=by
    rw [List.filter_eq_self.mpr (by simp),List.map_map,cg,List.map_map];rfl
  rw [k2] at key
  have mq:cN [w.enc] h=.ok (.int n) h:=W.t ▸ kA w h
  exact (dk rfl rfl (bV (io (e8 (d5 (aI (aJ rfl rfl) mq) W.sz) key)))).trans bp
def cj (w:Web):Prop:=∀ x∈w.stays,x=none∨x=some 0∨x=some 1
theorem eP {w:Web}{n:Nat}{s:List Int}(F:bW w n s)(i:Nat):s.getD i 0=0∨s.getD i 0=1:=by
  by_cases hi:i < s.length
  · rw [List.getD,List.getElem?_eq_getElem hi];exact F.op _ (List.getElem_mem hi)
  · rw [List.getD,List.getElem?_eq_none (by omega)];exact .inl rfl
theorem mz {w:Web}{n:Nat}{s:List Int}(F:bW w n s)(S:cj w)(p:Nat):cr w s p=0∨cr w s p=1:=by
  unfold cr
  cases c:w.stays.getD p none with
  | some x =>
    have:some x∈w.stays:=by
      rw [List.getD] at c
      cases e:w.stays[p]? with
      | none=>rw [e] at c;cases c
      | some y=>rw [e] at c;simp at c;subst c;exact List.mem_of_getElem? e
    have:=S _ this
    simp at this
    exact this
  | none =>
    simp only
    split
    · exact eP F p
    · split<;>simp
theorem yq {w:Web}{n:Nat}{s:List Int}(W:w.Ok n)(S:cj w)(F:bW w n s):bW w n (cg w n s) where
  len:=by simp [cg]
  op:=fun x hx=>by
    obtain⟨p,hp,rfl⟩:=List.mem_map.mp hx
    exact mz F S p
  st:=fun i x e=>by
    have hi:i < n:=by rw [← W.s];exact (List.getElem?_eq_some_iff.mp e).1
    have:w.stays.getD i none=some x:=by simp [List.getD,e]
    have hn:cr w s i=x:=by unfold cr;rw [this]
    simp [cg,hi,hn]
def aP (w:Web) (n:Nat) (s:List Int):Nat→List Int
  | 0=>s
  | k + 1=>cg w n (aP w n s k)
theorem ba {w:Web}{n:Nat}{s:List Int}(W:w.Ok n)(S:cj w)(F:bW w n s):∀ k,bW w n (aP w n s k)
  | 0=>F
  | k + 1=>yq W S (ba W S F k)
def aR (w:Web) (n:Nat) (s:List Int) (m:Nat):List (List Int):=(List.range m).map (aP w n s)
theorem mB {w:Web}{n:Nat}{s:List Int}(m:Nat):aR w n s (m + 1)=aR w n s m++[aP w n s m]:=by simp [aR,List.range_succ]
theorem fJ {w:Web}{n:Nat}{s:List Int}(m:Nat):(aR w n s m).length=m:=by simp [aR]
theorem jm {w:Web}{n:Nat}{s:List Int}{m i:Nat}(h:i < m):atI ((aR w n s m).map aj) (i:Int)=some (aj (aP w n s i)):=cM (by simp [aR,h])
theorem mC {w:Web}{n:Nat}{s:List Int}(W:w.Ok n)(S:cj w)(F:bW w n s){m:Nat}(hm:m≤400)(h:Hd) :
    dn [w.enc,aj s,.int m] h=.ok (.ref h.length) (h++[.lst ((aR w n s (m + 1)).map aj)]):=by
  obtain⟨σ',h',h1,h2,x,h3⟩:=ce (P:=fun k σ h'=>h'=h++[.lst ((aR w n s (k + 1)).map aj)] ∧ ∃ x,σ = [some w.enc,some (aj s),some (.int m),some (.ref h.length),x]) (g:=none) (k:=0)
      (all:=(List.range m).map fun k:Nat=>D.int k) (fun _ _ _ _=>trivial)
      (xs:=(List.range m).map fun k:Nat=>D.int k) (tg:=gN 4) (σ:=[some w.enc,some (aj s),some (.int m),some (.ref h.length),none]) (h:=h++[.lst [aj s]])
      (b:=mx) (by
      rintro i x σ h0 hx ⟨rfl,c,rfl⟩
      have hi:i < m:=by
        have:=(List.getElem?_eq_some_iff.mp hx).1
        simpa using this
      have hx':x=.int (i:Nat):=by simpa [hi,List.getElem?_eq_getElem] using hx.symm
      subst hx'
      rw [Nat.zero_add]
      have ai:=jm (w:=w) (n:=n) (s:=s) (m:=i + 1) (i:=i) (Nat.lt_succ_self i)
      have tk:=gf W (ba W S F i) (h++[.lst ((aR w n s (i + 1)).map aj)])
      have lz:((aR w n s (i + 1)).map aj).length < SZ:=by rw [List.length_map,fJ];exact Nat.lt_of_le_of_lt (Nat.le_trans (Nat.succ_le_of_lt hi) hm) (by decide)
      refine⟨_,rfl,[some w.enc,some (aj s),some (.int m),some (.ref h.length),some (.int i)],h++[.lst ((aR w n s (i + 1 + 1)).map aj)],?_,rfl,_,rfl⟩
      exact (iX (mi rfl List.getElem?_concat_length (aI (aJ rfl (aJ (bt rfl rfl (bQ List.getElem?_concat_length) ai) rfl)) tk) List.getElem?_concat_length lz)).trans (by rw [xz rfl,mB (i + 1),List.map_append];rfl)) ⟨rfl,_,rfl⟩
  have e0:0 + ((List.range m).map fun k:Nat=>D.int k).length=m:=by simp
  rw [e0] at h2
  subst h2 h3
  have z3 : ¬ (400:Int) < m:=Int.not_lt.mpr (Int.ofNat_le.mpr hm)
  have e2:aF (gN 3) (cJ (ae (aa 1) aA)) [some w.enc,some (aj s),some (.int m),none,none] h=.nx [some w.enc,some (aj s),some (.int m),some (.ref h.length),none] (h++[.lst [aj s]]):=a0 (mf (aJ rfl rfl))
  exact (dk rfl rfl ((aG (iX (aI (c6 rfl rfl) (tz W F h)))).trans ((aG (eO (bP (aC rfl rfl (qI z3))))).trans ((aG e2).trans ((aG (jS (d5 rfl (Nat.le_trans hm (by decide))) h1)).trans (bV rfl)))))).trans vd
end Fm
set_option linter.all false
namespace Fm
def LeS (a b:List Int):Prop:=∀ i:Nat,a.getD i 0≤b.getD i 0
def mD (a:List Int):Prop:=∀ i:Nat,a.getD i 0=0∨a.getD i 0=1
theorem kB (p:Nat × Int)(r:List (Nat × Int))(s:List Int):bq (p :: r) s=(if s.getD p.1 0=1 then p.2 else 0) + bq r s:=by
  unfold bq gc
  by_cases e:s.getD p.1 0=1
  · rw [List.filter_cons,if_pos (by simp only [decide_eq_true_eq];exact e),if_pos e];rfl
  · rw [List.filter_cons,if_neg (by simp only [decide_eq_true_eq];exact e),if_neg e];omega
theorem kC {a b:List Int}(B:mD b)(l:LeS a b):∀ {r:List (Nat × Int)},(∀ p∈r,0≤p.2)→bq r a≤bq r b
  | [],_=>Int.le_refl _
  | p :: r,h=>by
    have ih:=kC B l (r:=r) fun q hq=>h q (by simp [hq])
    have h0:=h p (by simp)
    have l0:=l p.1
    have b0:=B p.1
    rw [kB,kB]
    by_cases e:a.getD p.1 0=1
    · have e2:b.getD p.1 0=1:=by omega
      rw [if_pos e,if_pos e2];omega
    · rw [if_neg e]
      by_cases e2:b.getD p.1 0=1
      · rw [if_pos e2];omega
      · rw [if_neg e2];omega
theorem Cc {P1 P2 c1 c2 x y:Int}(hp:P1≤P2)(hb:c2≤c1)(l:x≤y)(b1:x=0∨x=1)(b2:y=0∨y=1):(if 2 * P1=c1 then x else if c1 < 2 * P1 then 1 else 0)≤(if 2 * P2=c2 then y else if c2 < 2 * P2 then (1:Int) else 0):=by
  have y0:0≤y:=by rcases b2 with rfl|rfl<;>decide
  have x1:x≤1:=by rcases b1 with rfl|rfl<;>decide
  have q:2 * P1≤2 * P2:=Int.mul_le_mul_of_nonneg_left hp (by decide)
  generalize 2 * P1=A at q
  generalize 2 * P2=B at q
  by_cases e1:A=c1
  · rw [if_pos e1]
    by_cases e2:B=c2
    · rw [if_pos e2];exact l
    · rw [if_neg e2,if_pos (Int.lt_iff_le_and_ne.mpr ⟨Int.le_trans hb (e1 ▸ q),Ne.symm e2⟩)];exact x1
  · rw [if_neg e1]
    by_cases e3:c1 < A
    · have e4:c2 < B:=Int.lt_of_le_of_lt hb (Int.lt_of_lt_of_le e3 q)
      rw [if_pos e3,if_neg (Int.ne_of_gt e4),if_pos e4];exact Int.le_refl _
    · rw [if_neg e3]
      by_cases e2:B=c2
      · rw [if_pos e2];exact y0
      · rw [if_neg e2]
        split
        · decide
        · exact Int.le_refl _
theorem vh {w1 w2:Web}{a b:List Int}{p:Nat}(hp:bq (w1.ties.getD p []) a≤bq (w2.ties.getD p []) b)(hb:w2.bars.getD p 0≤w1.bars.getD p 0)(B1:mD a)(B2:mD b)(le:LeS a b)
    (st:(w1.stays.getD p none=none∧w2.stays.getD p none=none)∨w1.stays.getD p none=some 0∨w2.stays.getD p none=some 1) (n1:cr w1 a p=0∨cr w1 a p=1) (n2:cr w2 b p=0∨cr w2 b p=1):cr w1 a p≤cr w2 b p:=by
  rcases st with ⟨s1,s2⟩|s|s
  · have b1:=B1 p
    have b2:=B2 p
    have l:=le p
    unfold cr
    rw [s1,s2]
    generalize bq (w1.ties.getD p []) a=P1 at *
    generalize bq (w2.ties.getD p []) b=P2 at *
    generalize w1.bars.getD p 0=c1 at *
    generalize w2.bars.getD p 0=c2 at *
    generalize a.getD p 0=x at *
    generalize b.getD p 0=y at *
    exact Cc hp hb l b1 b2
  · have:cr w1 a p=0:=by unfold cr;rw [s]
    omega
  · have:cr w2 b p=1:=by unfold cr;rw [s]
    omega
theorem pD (w:Web)(n:Nat)(s:List Int)(i:Nat):(cg w n s).getD i 0=if i < n then cr w s i else 0:=by
  unfold cg
  by_cases h:i < n<;>simp [List.getD,h]
theorem bW.bits {w:Web}{n:Nat}{s:List Int}(F:bW w n s):mD s:=fun i=>eP F i
structure AH (w1 w2:Web) (n:Nat):Prop where
  go:∀ a b,bW w1 n a→bW w2 n b→LeS a b→LeS (cg w1 n a) (cg w2 n b)
theorem xC {w1 w2:Web}{n:Nat}(S1:cj w1)(S2:cj w2)(hp:∀ p,p < n → ∀ a b,mD a→mD b→LeS a b→bq (w1.ties.getD p []) a≤bq (w2.ties.getD p []) b)(hb:∀ p,p < n→w2.bars.getD p 0≤w1.bars.getD p 0)
    (st:∀ p,p < n→(w1.stays.getD p none=none∧w2.stays.getD p none=none)∨w1.stays.getD p none=some 0∨w2.stays.getD p none=some 1):AH w1 w2 n :=
  ⟨fun a b Fa Fb le i=>by
    rw [pD,pD]
    by_cases h:i < n
    · rw [if_pos h,if_pos h]
      exact vh (hp i h a b Fa.bits Fb.bits le) (hb i h) Fa.bits Fb.bits le (st i h) (mz Fa S1 i) (mz Fb S2 i)
    · rw [if_neg h,if_neg h];exact Int.le_refl _⟩
theorem pE {w1 w2:Web}{n:Nat}(W1:w1.Ok n)(W2:w2.Ok n)(S1:cj w1)(S2:cj w2)(M:AH w1 w2 n){a b:List Int}(Fa:bW w1 n a)(Fb:bW w2 n b)(le:LeS a b):∀ k,LeS (aP w1 n a k) (aP w2 n b k)
  | 0=>le
  | k + 1=>M.go _ _ (ba W1 S1 Fa k) (ba W2 S2 Fb k) (pE W1 W2 S1 S2 M Fa Fb le k)
end Fm
set_option linter.all false
namespace Fm
def S2 (R:Nat→List (Nat × Int)) (f s:Nat→Int):Nat→Int
  | 0=>0
  | k + 1=>S2 R f s k + ((R k).map fun p=>p.2 * f p.1 * s k).sum
def br (g:Nat→Int):Nat→Int
  | 0=>0
  | n + 1=>br g n + g n
theorem yr (g:Nat→Int)(n:Nat):((List.range n).map g).sum=br g n:=by
  induction n with
  | zero=>rfl
  | succ n ih=>rw [List.range_succ,List.map_append,List.sum_append,ih];simp [br]
theorem tD (l:List Int):l.sum=br (fun k=>l.getD k 0) l.length:=by
  rw [← yr]
  congr 1
  apply List.ext_getElem?
  intro i
  by_cases hi:i < l.length<;>simp [List.getD,hi]
def jU (w:Web) (n:Nat) (f s:List Int):Int :=
  2 * br (fun k=>(f.getD k 0 + s.getD k 0) * w.bars.getD k 0) n + f.sum + s.sum - 4 * S2 (fun i=>w.ties.getD i []) (fun k=>f.getD k 0) (fun k=>s.getD k 0) n - 2 * br (fun k=>f.getD k 0 * s.getD k 0) n
theorem pF {r:List (Nat × Int)}{f:List Int}(hf:∀ p∈r,f.getD p.1 0=0∨f.getD p.1 0=1):bq r f=(r.map fun p=>p.2 * f.getD p.1 0).sum:=by
  induction r with
  | nil=>rfl
  | cons p r ih =>
    have h1:=hf p (by simp)
    have h2:=ih fun q hq=>hf q (by simp [hq])
    simp only [bq,gc] at h2 ⊢
    rcases h1 with e|e
    · simp [-List.getD_eq_getElem?_getD,e,h2]
    · simp [-List.getD_eq_getElem?_getD,e,h2]
theorem pG {w:Web}{n:Nat}{f s:List Int}(W:w.Ok n)(Ff:bW w n f)(Fs:bW w n s):dE w f s n=jU w n f s:=by
  have bit:∀ {l:List Int} (F:bW w n l) (i:Nat),l.getD i 0=0∨l.getD i 0=1:=fun {l} F i=>by
    by_cases hi:i < l.length
    · rw [List.getD,List.getElem?_eq_getElem hi];exact F.op _ (List.getElem_mem hi)
    · rw [List.getD,List.getElem?_eq_none (by omega)];exact .inl rfl
  have key:∀ m,m≤n→dE w f s m=2 * br (fun k=>(f.getD k 0 + s.getD k 0) * w.bars.getD k 0) m + br (fun k=>f.getD k 0) m + br (fun k=>s.getD k 0) m
      - 4 * S2 (fun i=>w.ties.getD i []) (fun k=>f.getD k 0) (fun k=>s.getD k 0) m - 2 * br (fun k=>f.getD k 0 * s.getD k 0) m:=by
    intro m
    induction m with
    | zero=>intro _;rfl
    | succ m ih =>
      intro hm
      have ih:=ih (by omega)
      simp only [dE,br,S2,ip,ih]
      have pe:=pF (r:=w.ties.getD m []) (f:=f) fun p _=>bit Ff p.1
      have bf:=bit Ff m
      have bs:=bit Fs m
      have row:((w.ties.getD m []).map fun p=>p.2 * f.getD p.1 0 * s.getD m 0).sum=bq (w.ties.getD m []) f * s.getD m 0:=by
        rw [pe]
        generalize w.ties.getD m [] = r
        induction r with
        | nil=>simp
        | cons p r ih=>simp only [List.map_cons,List.sum_cons,ih,Int.add_mul]
      rw [row]
      rcases bf with e|e<;>rcases bs with e'|e'<;>simp only [e,e']<;>simp<;>omega
  rw [key n (Nat.le_refl _),jU,tD f,tD s,Ff.len,Fs.len]
theorem vj {w:Web}{n:Nat}{f s:List Int}(sym:∀ f s,S2 (fun i=>w.ties.getD i []) f s n=S2 (fun i=>w.ties.getD i []) s f n):jU w n f s=jU w n s f:=by
  have c1:(fun k=>(f.getD k 0 + s.getD k 0) * w.bars.getD k 0)=fun k=>(s.getD k 0 + f.getD k 0) * w.bars.getD k 0:=by funext k;rw [Int.add_comm]
  have c2:(fun k=>f.getD k 0 * s.getD k 0)=fun k=>s.getD k 0 * f.getD k 0:=by funext k;rw [Int.mul_comm]
  rw [jU,jU,c1,c2,sym];omega
theorem yt {w:Web}{n:Nat}{f s:List Int}(W:w.Ok n)(Ff:bW w n f)(Fs:bW w n s)(sym:∀ f s,S2 (fun i=>w.ties.getD i []) f s n=S2 (fun i=>w.ties.getD i []) s f n):dE w f s n=dE w s f n:=by
  rw [pG W Ff Fs,pG W Fs Ff,vj sym]
def unl (a b:List Int) (n:Nat):Int:=br (fun p=>if a.getD p 0=b.getD p 0 then 0 else 1) n
theorem i0 (a b:List Int):∀ n,0≤unl a b n
  | 0=>by simp [unl,br]
  | n + 1=>by
    have:=i0 a b n
    simp only [unl,br] at this ⊢
    split<;>omega
theorem xD {a b:List Int}:∀ {n:Nat},(∃ p,p < n∧a.getD p 0≠b.getD p 0)→1≤unl a b n
  | 0,⟨p,hp,_⟩=>by omega
  | n + 1,⟨p,hp,hne⟩=>by
    have h0:=i0 a b n
    by_cases e:p=n
    · subst e
      simp only [unl,br] at h0 ⊢
      rw [if_neg hne];omega
    · have:=xD (a:=a) (b:=b) (n:=n) ⟨p,by omega,hne⟩
      simp only [unl,br] at this ⊢
      split<;>omega
theorem Cd {a b:List Int}{n:Nat}(ha:a.length=n)(hb:b.length=n)(h:a≠b):∃ p,p < n∧a.getD p 0≠b.getD p 0:=by
  refine Classical.byContradiction fun q=>h ?_
  apply List.ext_getElem (by omega)
  intro i h1 h2
  refine Classical.byContradiction fun z=>q ⟨i,by omega,?_⟩
  simpa [List.getD,h1,h2] using z
theorem yu {w:Web}{n:Nat}{s:List Int}{p:Nat}(hp:p < n):(cg w n s).getD p 0=cr w s p:=by simp [cg,List.getD,hp]
theorem yv {w:Web}{n:Nat}{s:List Int}(F:bW w n s){p:Nat}{x:Int}(e:w.stays.getD p none=some x):s.getD p 0=x:=by
  have:w.stays[p]? = some (some x):=by
    rw [List.getD] at e
    cases c:w.stays[p]? with
    | none=>rw [c] at e;cases e
    | some y=>rw [c] at e;simp at e;rw [e]
  have:=F.st p x this
  simp [List.getD,this]
theorem Ga {w:Web}{n:Nat}{s0 s1:List Int}(W:w.Ok n)(F0:bW w n s0)(F1:bW w n s1)(sym:∀ f s,S2 (fun i=>w.ties.getD i []) f s n=S2 (fun i=>w.ties.getD i []) s f n) :
    dE w s1 (cg w n s1) n + unl s0 (cg w n s1) n≤dE w s0 s1 n:=by
  rw [yt W F0 F1 sym]
  have key:∀ m,m≤n→dE w s1 (cg w n s1) m + unl s0 (cg w n s1) m≤dE w s1 s0 m:=by
    intro m
    induction m with
    | zero=>intro _;simp [dE,unl,br]
    | succ m ih =>
      intro hm
      have ih:=ih (by omega)
      have b0:=eP F0 m
      have b1:=eP F1 m
      have e2:=yu (w:=w) (s:=s1) (p:=m) (n:=n) (by omega)
      have step:ip w s1 (cg w n s1) m + (if s0.getD m 0=(cg w n s1).getD m 0 then 0 else 1)≤ip w s1 s0 m:=by
        unfold ip
        rw [e2]
        unfold cr
        cases c:w.stays.getD m none with
        | some x =>
          have:=yv F0 c
          simp only [this]
          simp
        | none =>
          simp only
          generalize w.bars.getD m 0=b
          generalize bq (w.ties.getD m []) s1=P
          generalize s0.getD m 0=x0 at b0 ⊢
          generalize s1.getD m 0=x1 at b1 ⊢
          by_cases h1:2 * P=b
          · rw [if_pos h1]
            rcases b0 with z|z<;>rcases b1 with y|y<;>subst z y<;>simp<;>omega
          · rw [if_neg h1]
            by_cases h2:b < 2 * P
            · rw [if_pos h2]
              rcases b0 with z|z<;>rcases b1 with y|y<;>subst z y<;>simp<;>omega
            · rw [if_neg h2]
              rcases b0 with z|z<;>rcases b1 with y|y<;>subst z y<;>simp<;>omega
      simp only [dE,unl,br] at ih ⊢
      omega
  exact key n (Nat.le_refl _)
def yw (r:List (Nat × Int)):Int:=(r.map fun p=>(p.2.natAbs:Int)).sum
theorem yx (r:List (Nat × Int))(f:List Int):bq r f≤yw r:=by
  induction r with
  | nil=>simp [bq,gc,yw]
  | cons p r ih =>
    simp only [bq,gc,yw,List.filter_cons,List.map_cons,List.sum_cons] at ih ⊢
    split
    · simp only [List.map_cons,List.sum_cons];omega
    · omega
theorem AI {w:Web}{n:Nat}:∀ m,∃ C:Int,∀ f s,bW w n f→bW w n s → -C≤dE w f s m
  | 0=>⟨0,fun f s _ _=>by simp [dE]⟩
  | m + 1=>by
    obtain⟨C,hC⟩:=AI (w:=w) (n:=n) m
    refine⟨C + (2 * ((2 * w.bars.getD m 0 + 1).natAbs:Int) + 4 * yw (w.ties.getD m []) + 2 + 4 * ((yw (w.ties.getD m [])).natAbs:Int)),fun f s Ff Fs => ?_⟩
    have ih:=hC f s Ff Fs
    have b0:=eP Ff m
    have b1:=eP Fs m
    have pl:=yx (w.ties.getD m []) f
    simp only [dE,ip]
    generalize w.bars.getD m 0=b at *
    generalize bq (w.ties.getD m []) f=P at *
    generalize yw (w.ties.getD m [])=A at *
    generalize dE w f s m=T at *
    rcases b0 with z|z<;>rcases b1 with y|y<;>simp only [z,y]<;>simp<;>omega
theorem vk {P:Nat→Prop}(h:∃ t,P t):∃ t,P t ∧ ∀ k,k < t → ¬ P k:=by
  obtain⟨t,ht⟩:=h
  induction t using Nat.strongRecOn with
  | ind t ih =>
    by_cases q:∃ k,k < t∧P k
    · obtain⟨k,hk,pk⟩:=q
      exact ih k hk pk
    · exact⟨t,ht,fun k hk pk=>q ⟨k,hk,pk⟩⟩
def eN (w:Web) (n:Nat) (s:List Int) (k:Nat):Int:=dE w (aP w n s k) (aP w n s (k + 1)) n
theorem xE {w:Web}{n:Nat}{s:List Int}(W:w.Ok n)(S:cj w)(F:bW w n s)(sym:∀ f s,S2 (fun i=>w.ties.getD i []) f s n=S2 (fun i=>w.ties.getD i []) s f n)(k:Nat) :
    eN w n s (k + 1) + unl (aP w n s k) (aP w n s (k + 2)) n≤eN w n s k:=Ga W (ba W S F k) (ba W S F (k + 1)) sym
theorem C9 {w:Web}{n:Nat}{s:List Int}(W:w.Ok n)(S:cj w)(F:bW w n s)(sym:∀ f s,S2 (fun i=>w.ties.getD i []) f s n=S2 (fun i=>w.ties.getD i []) s f n){k:Nat}(h:aP w n s (k + 2)≠aP w n s k):eN w n s (k + 1) + 1≤eN w n s k:=by
  have:=xE W S F sym k
  have:=xD (n:=n) (Cd (ba W S F k).len (ba W S F (k + 2)).len (Ne.symm h))
  omega
theorem Da {w:Web}{n:Nat}{s:List Int}(W:w.Ok n)(S:cj w)(F:bW w n s)(sym:∀ f s,S2 (fun i=>w.ties.getD i []) f s n=S2 (fun i=>w.ties.getD i []) s f n){k:Nat}:∀ {m:Nat},k≤m→eN w n s m≤eN w n s k
  | 0,h=>by
    have:k=0:=by omega
    subst this;exact Int.le_refl _
  | m + 1,h=>by
    by_cases e:k=m + 1
    · subst e;exact Int.le_refl _
    · have h1:=Da W S F sym (k:=k) (m:=m) (by omega)
      have h2:=xE W S F sym m
      have h3:=i0 (aP w n s m) (aP w n s (m + 2)) n
      omega
theorem Fz {w:Web}{n:Nat}{s:List Int}(W:w.Ok n)(S:cj w)(F:bW w n s)(sym:∀ f s,S2 (fun i=>w.ties.getD i []) f s n=S2 (fun i=>w.ties.getD i []) s f n):∃ t,aP w n s (t + 2)=aP w n s t ∧ ∀ k,k < t→aP w n s (k + 2)≠aP w n s k:=by
  refine vk (P:=fun t=>aP w n s (t + 2)=aP w n s t) ?_
  refine Classical.byContradiction fun q => ?_
  obtain⟨C,hC⟩:=AI (w:=w) (n:=n) n
  have down:∀ k:Nat,eN w n s k + k≤eN w n s 0:=by
    intro k
    induction k with
    | zero=>simp
    | succ k ih =>
      have:=C9 W S F sym (k:=k) fun z=>q ⟨k,z⟩
      omega
  have h1:=down (eN w n s 0 + C + 1).toNat
  have h2 : -C≤eN w n s (eN w n s 0 + C + 1).toNat:=hC _ _ (ba W S F _) (ba W S F _)
  have h3 : -C≤eN w n s 0:=hC _ _ (ba W S F _) (ba W S F _)
  omega
end Fm
set_option linter.all false
namespace Fm
theorem pH:∀ (a b:List Int),a.length=b.length→fW (a.map .int) (b.map .int)=some (decide (a=b))
  | [],[],_=>by simp [fW]
  | x :: a,y :: b,h=>by
    have ih:=pH a b (by simpa using h)
    simp only [List.map_cons,fW,peq,ih]
    by_cases e:x=y<;>by_cases e2:a=b<;>simp [e,e2]
  | [],_ :: _,h=>by simp at h
  | _ :: _,[],h=>by simp at h
theorem yy (l:List Int):nI (l.map .int)=0:=by
  induction l with
  | nil=>rfl
  | cons x l ih=>simp [nI,dep,ih]
theorem Ce (l:List Int):dep (aj l)=1:=by simp [aj,dep,yy]
theorem Cf {a b:List Int}(h:a.length=b.length):peq (aj a) (aj b)=some (decide (a=b)):=by
  simp only [aj,peq,pH a b h,Option.map_some,List.length_map,h]
  simp
theorem xF {a b:List Int}(h:a.length=b.length)(hd:Hd):eqG hd (aj a) (aj b)=some (decide (a=b)):=by
  have e1:∀ l,dz hd (aj l)=none:=fun l=>rfl
  simp only [eqG,e1,Ce,Cf h]
  rfl
theorem xG {a b:List Int}(h:a.length=b.length)(hd:Hd):oNe (aj a) (aj b) hd=.ok (.bl (!decide (a=b))) hd:=by
  unfold oNe;rw [xF h]
theorem Cg {a b:List Int}(h:a.length=b.length)(hd:Hd):oEq (aj a) (aj b) hd=.ok (.bl (decide (a=b))) hd:=by
  unfold oEq;rw [xF h]
theorem FA {k n:Nat}(h1:1≤k)(h2:k≤n) : ¬ 0 ≤ -(k:Int) ∧ -(n:Int) ≤ -(k:Int)∧(-(k:Int) + (n:Int)).toNat=n - k:=by omega
theorem Ch {l:List D}{k:Nat}(h1:1≤k)(h2:k≤l.length):atI l (-(k:Int))=l[l.length - k]? := by
  have q:=FA h1 h2
  unfold atI ixN
  rw [if_neg q.1,if_pos q.2.1,q.2.2];rfl
theorem fK {w:Web}{n:Nat}{s:List Int}(k j:Nat)(h1:1≤j):atI ((aR w n s (k + j)).map aj) (-(j:Int))=some (aj (aP w n s k)):=by
  rw [Ch h1 (by rw [List.length_map,fJ];exact Nat.le_add_left j k),List.length_map,fJ,Nat.add_sub_cancel,List.getElem?_map,aR,List.getElem?_map,List.getElem?_range (Nat.lt_add_of_pos_right h1)];rfl
theorem gg {a b:SF}{σ σ':Sd}{h h':Hd}(e:a σ h=.nx σ' h'):aD a b σ h=b σ' h':=by simp [aD,e]
theorem tF {w:Web}{n:Nat}{s:List Int}(W:w.Ok n)(S:cj w)(F:bW w n s){t:Nat}(ht:aP w n s (t + 2)=aP w n s t)(hm:∀ k,k < t→aP w n s (k + 2)≠aP w n s k)(hz:t≤900000)(h:Hd) :
    eg [w.enc,aj s] h=.ok (.tup [.int t,.str (if aP w n s (t + 1)=aP w n s t then [114,101,115,116] else [112,97,105,114]),.ref h.length]) (h++[.lst ((aR w n s (t + 2)).map aj)]):=by
  have L:∀ k,(aP w n s k).length=n:=fun k=>(ba W S F k).len
  have loop:∀ j k,k + j=t→cY (tE (al oNe (aa 3) (fAt (aa 2) (fC (.int (-2)))))) my (j + 1) [some w.enc,some (aj s),some (.ref h.length),some (aj (aP w n s (k + 2))),none] (h++[.lst ((aR w n s (k + 2)).map aj)])
      = .nx [some w.enc,some (aj s),some (.ref h.length),some (aj (aP w n s (t + 2))),none] (h++[.lst ((aR w n s (t + 2)).map aj)]):=by
    intro j
    induction j with
    | zero =>
      intro k hk
      have:k=t:=hk
      subst this
      have b':atI ((aR w n s (k + 2)).map aj) (-2)=some (aj (aP w n s k)):=fK k 2 (by decide)
      have test:tE (al oNe (aa 3) (fAt (aa 2) (fC (.int (-2))))) [some w.enc,some (aj s),some (.ref h.length),some (aj (aP w n s (k + 2))),none] (h++[.lst ((aR w n s (k + 2)).map aj)])=.ok false (h++[.lst ((aR w n s (k + 2)).map aj)]):=by
        rw [ht]
        exact bP (aC rfl (bt rfl rfl (bQ List.getElem?_concat_length) b') (by rw [xG rfl,decide_eq_true rfl];rfl))
      simp only [cY,test]
    | succ j ih =>
      intro k hk
      have b':atI ((aR w n s (k + 2)).map aj) (-2)=some (aj (aP w n s k)):=fK k 2 (by decide)
      have test:tE (al oNe (aa 3) (fAt (aa 2) (fC (.int (-2))))) [some w.enc,some (aj s),some (.ref h.length),some (aj (aP w n s (k + 2))),none] (h++[.lst ((aR w n s (k + 2)).map aj)])=.ok true (h++[.lst ((aR w n s (k + 2)).map aj)]):=by
        exact bP (aC rfl (bt rfl rfl (bQ List.getElem?_concat_length) b') (by rw [xG ((L (k + 2)).trans (L k).symm),decide_eq_false (hm k (hk ▸ Nat.lt_add_of_pos_right (Nat.succ_pos j)))];rfl))
      have lz:((aR w n s (k + 2)).map aj).length < SZ:=by rw [List.length_map,fJ];exact Nat.lt_of_le_of_lt (Nat.add_le_add_right (Nat.le_trans (hk ▸ Nat.le_add_right k (j + 1)) hz) 2) (by decide)
      have tk:=gf W (ba W S F (k + 2)) (h++[.lst ((aR w n s (k + 3)).map aj)])
      have body:my [some w.enc,some (aj s),some (.ref h.length),some (aj (aP w n s (k + 2))),none] (h++[.lst ((aR w n s (k + 2)).map aj)])=.nx [some w.enc,some (aj s),some (.ref h.length),some (aj (aP w n s (k + 3))),none] (h++[.lst ((aR w n s (k + 3)).map aj)]):=by
        have st1:fg (fF (aa 2) (aa 3)) [some w.enc,some (aj s),some (.ref h.length),some (aj (aP w n s (k + 2))),none] (h++[.lst ((aR w n s (k + 2)).map aj)])=.nx [some w.enc,some (aj s),some (.ref h.length),some (aj (aP w n s (k + 2))),none] (h++[.lst ((aR w n s (k + 3)).map aj)]):=by
          rw [show aR w n s (k + 3)=aR w n s (k + 2)++[aP w n s (k + 2)] from mB (k + 2),List.map_append]
          exact (iX (mi rfl List.getElem?_concat_length rfl List.getElem?_concat_length lz)).trans (by rw [xz rfl];rfl)
        exact (gg st1).trans (a0 (aI (c6 rfl rfl) tk))
      rw [cY,test]
      simp only [body]
      exact ih (k + 1) (by rw [Nat.add_right_comm];exact hk)
  have wl:=yp (loop t 0 (Nat.zero_add t)) (by simp)
  have t0:=gf W F h
  have t1:=gf W (ba W S F 1) (h++[.lst ((aR w n s 2).map aj)])
  have e1 : [aj s,aj (cg w n s)] = (aR w n s 2).map aj:=by simp [aR,List.range_succ,aP]
  have a1:atI ((aR w n s 2).map aj) 1=some (aj (aP w n s 1)):=jm (w:=w) (n:=n) (s:=s) (m:=2) (i:=1) (by decide)
  have b1':atI ((aR w n s (t + 2)).map aj) (-1)=some (aj (aP w n s (t + 1))):=fK (t + 1) 1 (by decide)
  have b2':atI ((aR w n s (t + 2)).map aj) (-2)=some (aj (aP w n s t)):=fK t 2 (by decide)
  have ln:(aR w n s (t + 2)).length=t + 2:=fJ _
  have eqw:=Cg (a:=aP w n s (t + 1)) (b:=aP w n s t) ((L (t + 1)).trans (L t).symm) (h++[.lst ((aR w n s (t + 2)).map aj)])
  simp only [aP] at t1
  simp only [aP] at a1
  have hh1:aP w n s (0 + 2)=cg w n (cg w n s):=rfl
  rw [hh1,show 0 + 2=2 from rfl] at wl
  have s1:aF (gN 2) (cJ (ae (aa 1) (ae (ay cf (ae (aa 0) (ae (aa 1) aA))) aA))) [some w.enc,some (aj s),none,none,none] h
      = .nx [some w.enc,some (aj s),some (.ref h.length),none,none] (h++[.lst ((aR w n s 2).map aj)]):=by
    rw [← e1];exact a0 (mf (aJ rfl (aJ (aI (c6 rfl rfl) t0) rfl)))
  have s2:aF (gN 3) (ay cf (ae (aa 0) (ae (fAt (aa 2) (fC (.int 1))) aA))) [some w.enc,some (aj s),some (.ref h.length),none,none] (h++[.lst ((aR w n s 2).map aj)])
      = .nx [some w.enc,some (aj s),some (.ref h.length),some (aj (cg w n (cg w n s))),none] (h++[.lst ((aR w n s 2).map aj)]):=by
    exact a0 (aI (aJ rfl (aJ (bt rfl rfl (bQ List.getElem?_concat_length) a1) rfl)) t1)
  have s3:aF (gN 4) (fIf (tE (al oEq (fAt (aa 2) (fC (.int (-1)))) (fAt (aa 2) (fC (.int (-2)))))) (fC (.str [114,101,115,116])) (fC (.str [112,97,105,114]))) [some w.enc,some (aj s),some (.ref h.length),some (aj (aP w n s (t + 2))),none] (h++[.lst ((aR w n s (t + 2)).map aj)])
      = .nx [some w.enc,some (aj s),some (.ref h.length),some (aj (aP w n s (t + 2))),some (.str (if aP w n s (t + 1)=aP w n s t then [114,101,115,116] else [112,97,105,114]))] (h++[.lst ((aR w n s (t + 2)).map aj)]):=by
    by_cases q:aP w n s (t + 1)=aP w n s t
    · rw [if_pos q];rw [decide_eq_true q] at eqw
      exact a0 ((AD (bP (aC (bt rfl rfl (bQ List.getElem?_concat_length) b1') (bt rfl rfl (bQ List.getElem?_concat_length) b2') eqw))).trans rfl)
    · rw [if_neg q];rw [decide_eq_false q] at eqw
      exact a0 ((AE (bP (aC (bt rfl rfl (bQ List.getElem?_concat_length) b1') (bt rfl rfl (bQ List.getElem?_concat_length) b2') eqw))).trans rfl)
  have ck:fg (ay bL (ae (aa 0) (ae (aa 1) aA))) [some w.enc,some (aj s),none,none,none] h=.nx [some w.enc,some (aj s),none,none,none] h:=iX (aI (c6 rfl rfl) (tz W F h))
  have st:([w.enc,aj s].map some++List.replicate (5 - [w.enc,aj s].length) none:Sd)=[some w.enc,some (aj s),none,none,none]:=rfl
  unfold eg bE runB
  rw [if_pos (show [w.enc,aj s].length=2 from rfl),st,gg ck,gg s1,gg s2,gg wl,gg s3]
  have z:((t:Int) + 2) - 2=t:=by omega
  simp [ln,SZ,z,letGo,pure?,cW]
end Fm
set_option linter.all false
namespace Fm
noncomputable abbrev iq:SF:=(aD (aF (gN 5) (al jJ (al e9 (al cA (al cA (al cA (aa 2) (al e9 (fC (.int 31)) (aa 1))) (al e9 (aa 4) (aa 4))) (fC (.int 7))) (fC (.int 48271))) (fC (.int 2147483629))))
    (aD (aF (gN 5) (al jJ (al e9 (al cA (aa 5) (fC (.int 5))) (al cA (al cA (aa 5) (aa 4)) (fC (.int 3)))) (fC (.int 2147483587))))
    (aD (aF (gN 5) (al jJ (al e9 (al cA (aa 5) (aa 1)) (fC (.int 69621))) (fC (.int 2147483563))))
    (aF (gN 3) (al cA (al e9 (aa 3) (fC (.int 2147483563))) (al jJ (al e9 (aa 5) (al cA (aa 5) (fC (.int 11)))) (fC (.int 2147483549))))))))
noncomputable def eQ:Fn:=bE 2 6 (aD (aF (gN 2) (fC (.int 11)))
    (aD (sIf (tE (al oGt (c5 (lOf (aa 0))) (fC (.int 0)))) (aF (gN 2) (al jJ (fAt (aa 0) (al jJ (aa 1) (c5 (lOf (aa 0))))) (fC (.int 2147483647)))) cK)
    (aD (aF (gN 3) (fC (.int 0)))
    (aD (fX (bM (fC (.int 9))) (gN 4) iq)
    (bI (aa 3))))))
noncomputable def bz:Fn:=bE 2 2 (aD (sIf (gB (tE (al oLt (aa 1) (c5 (lOf (aa 0))))) (tE (al oEq (al jJ (fAt (aa 0) (fC (.int 0))) (fC (.int 2))) (fC (.int 0))))) (bI (fAt (aa 0) (aa 1))) cK)
    (bI (ay eQ (ae (aa 0) (ae (aa 1) aA)))))
noncomputable def ax:Fn:=bE 2 3 (aD (aF (gN 2) (al jJ (fAt (aa 0) (fC (.int 0))) (aa 1)))
    (aD (Fe (aa 0) (fC (.int 0)) (al DK (fAt (aa 0) (fC (.int 0))) (aa 1)))
    (bI (aa 2))))
noncomputable def cw:Fn:=bE 2 3 (aD (sIf (tE (al oEq (aa 1) (fC (.int 0)))) (aD (aF (gN 2) (ay ax (ae (aa 0) (ae (fC (.int 800)) aA))))
    (bI (al e9 (aa 2) (yc (al oLt (aa 2) (fC (.int 401))))))) cK)
    (aD (sIf (tE (al oEq (aa 1) (fC (.int 1)))) (bI (fIx (ae (fC (.int 0)) (ae (fC (.int 0)) (ae (fC (.int 0)) (ae (fC (.int 0)) (ae (fC (.int 0)) (ae (fC (.int 1)) (ae (fC (.int 1)) (ae (fC (.int 2)) (ae (fC (.int 3)) aA))))))))) (ay ax (ae (aa 0) (ae (fC (.int 9)) aA))))) cK)
    (bI (fIx (ae (fC (.int 0)) (ae (fC (.int 0)) (ae (fC (.int 0)) (ae (fC (.int 1)) aA)))) (ay ax (ae (aa 0) (ae (fC (.int 4)) aA)))))))
noncomputable def dY:Fn:=bE 2 3 (aD (aF (gN 2) (ay ax (ae (aa 0) (ae (fC (.int 6)) aA))))
    (aD (sIf (tE (al oLt (aa 2) (fC (.int 2)))) (bI (aa 1)) cK)
    (aD (sIf (tE (al oEq (aa 2) (fC (.int 2)))) (bI (al cA (al nH (aa 1) (fC (.int 3))) (ay ax (ae (aa 0) (ae (fC (.int 7)) aA))))) cK)
    (aD (sIf (tE (al oLt (aa 2) (fC (.int 5)))) (bI (al nH (ay ax (ae (aa 0) (ae (al cA (al e9 (fC (.int 2)) (aa 1)) (fC (.int 5))) aA))) (fC (.int 2)))) cK)
    (bI (al cA (al nH (ay ax (ae (aa 0) (ae (al nH (al e9 (fC (.int 2)) (al qh (fC (.int 10)) (fC (.int 60)))) (fC (.int 1))) aA))) (al qh (fC (.int 10)) (fC (.int 60)))) (fC (.int 1))))))))
noncomputable abbrev jn:SF:=(aD (fg (fF (aa 9) (ay dY (ae (fAt (aa 3) (aa 5)) (ae (yb (cL 2 [] (iy (fAt (aa 4) (aa 5))) (gT [0,1]) [] (aa 1))) aA)))))
    (aD (aF (gN 11) (fIx (ae (fC .non) (ae (fC .non) (ae (fC .non) (ae (fC .non) (ae (fC .non) (ae (fC (.int 0)) (ae (fC (.int 1)) aA))))))) (ay ax (ae (fAt (aa 3) (aa 5)) (ae (fC (.int 7)) aA)))))
    (aD (sIf (gB (tE (al sJ (aa 11) (fC .non))) (tE (al oGt (iP (aa 10) (fC .non)) (fC (.int 7))))) (aF (gN 11) (ay ax (ae (fAt (aa 3) (aa 5)) (ae (fC (.int 2)) aA)))) cK)
    (fg (fF (aa 10) (aa 11))))))
noncomputable abbrev gW:SF:=(aD (aF (gN 8) (ay cw (ae (fAt (aa 3) (aa 5)) (ae (aa 6) aA))))
    (sIf (tE (al oGt (aa 8) (fC (.int 0)))) (aD (fg (fF (fAt (aa 4) (aa 5)) (lH (ae (aa 7) (ae (aa 8) aA)))))
    (fg (fF (fAt (aa 4) (aa 7)) (lH (ae (aa 5) (ae (aa 8) aA)))))) cK))
noncomputable abbrev jo:SF:=(aD (aF (gN 6) (ay ax (ae (fAt (aa 3) (aa 5)) (ae (fC (.int 3)) aA))))
    (fX (bM (aa 5)) (gN 7) gW))
noncomputable def gh:Fn:=bE 1 12 (aD (aF (gN 1) (cJ (ae (al DK (ay bz (ae (aa 0) (ae (fC (.int 0)) aA))) (fC (.int 2))) aA)))
    (aD (aF (gN 2) (al cA (fC (.int 1)) (ay ax (ae (aa 1) (ae (fIx (ae (fC (.int 7)) (ae (fC (.int 7)) (ae (fC (.int 12)) (ae (fC (.int 30)) aA)))) (ay ax (ae (aa 1) (ae (fC (.int 4)) aA)))) aA)))))
    (aD (aF (gN 3) (cJ (cL 1 [0] (bM (aa 2)) (gN 0) [] (cJ (ae (ay bz (ae (aa 1) (ae (al cA (fC (.int 1)) (aa 0)) aA))) aA)))))
    (aD (aF (gN 4) (cJ (cL 1 [] (bM (aa 2)) (gN 0) [] (cJ aA))))
    (aD (fX (bM (aa 2)) (gN 5) jo)
    (aD (aF (gN 9) (cJ aA))
    (aD (aF (gN 10) (cJ aA))
    (aD (fX (bM (aa 2)) (gN 5) jn)
    (bI (lH (ae (lH (ae (cn (cL 1 [] (iy (aa 4)) (gN 0) [] (cn (jK (aa 0))))) (ae (cn (lOf (aa 9))) (ae (cn (lOf (aa 10))) aA)))) (ae (aa 3) (ae (aa 1) aA)))))))))))))
noncomputable abbrev dQ:SF:=(aD (aF (gN 4) (ay ax (ae (fAt (aa 1) (aa 3)) (ae (fC (.int 2)) aA))))
    (aD (sIf (tE (al eV (fAt (fAt (aa 0) (fC (.int 2))) (aa 3)) (fC .non))) (aF (gN 4) (fAt (fAt (aa 0) (fC (.int 2))) (aa 3))) cK)
    (fg (fF (aa 2) (aa 4)))))
noncomputable def cO:Fn:=bE 2 5 (aD (aF (gN 2) (cJ aA))
    (aD (fX (bM (c5 (lOf (aa 1)))) (gN 3) dQ)
    (bI (cn (lOf (aa 2))))))
noncomputable abbrev eh:SF:=(aD (aF (gN 5) (ay ax (ae (fAt (aa 1) (aa 3)) (ae (fC (.int 8)) aA))))
    (aD (aF (gN 6) (pz (fAt (aa 2) (aa 3)) (aa 4) (fC (.int 0))))
    (aD (sIf (tE (al oEq (aa 5) (fC (.int 0)))) (aF (gN 6) (yk (fC (.int 400)) (al cA (al cA (aa 6) (fC (.int 1))) (ay ax (ae (fAt (aa 1) (aa 3)) (ae (fC (.int 9)) aA)))))) cK)
    (sIf (tE (al oGt (aa 6) (fC (.int 0)))) (aD (l8 (fAt (aa 2) (aa 3)) (aa 4) (aa 6))
    (l8 (fAt (aa 2) (aa 4)) (aa 3) (aa 6))) cK))))
noncomputable abbrev gj:SF:=(fX (bM (aa 3)) (gN 4) eh)
noncomputable def dq:Fn:=bE 2 7 (aD (aF (gN 2) (cJ (cL 1 [] (iy (fAt (aa 0) (fC (.int 0)))) (gN 0) [] (ma (aa 0)))))
    (aD (fX (bM (c5 (lOf (aa 2)))) (gN 3) gj)
    (bI (cn (cL 1 [] (iy (aa 2)) (gN 0) [] (cn (gR (aa 0))))))))
noncomputable abbrev ir:SF:=(aD (aF (gN 9) (fIx (ae (fC (.int 0)) (ae (fC (.int 0)) (ae (fC (.int 0)) (ae (fC (.int 1)) (ae (fC (.int 2)) (ae (fC (.int 7)) (ae (al qh (fC (.int 10)) (fC (.int 40))) aA))))))) (ay ax (ae (fAt (aa 2) (aa 8)) (ae (fC (.int 7)) aA)))))
    (aD (fg (fF (aa 4) (l9 (al nH (fC (.int 1)) (al qh (fC (.int 10)) (fC (.int 60)))) (al nH (fAt (fAt (aa 0) (fC (.int 1))) (aa 8)) (aa 9)))))
    (aD (aF (gN 10) (fAt (fAt (aa 0) (fC (.int 2))) (aa 8)))
    (aD (aF (gN 11) (ay ax (ae (fAt (aa 2) (aa 8)) (ae (fC (.int 6)) aA))))
    (aD (sIf (tE (al oEq (aa 11) (fC (.int 0)))) (aF (gN 10) (fC (.int 1))) cK)
    (aD (sIf (gB (tE (al oEq (aa 11) (fC (.int 1)))) (gB (tE (al oEq (aa 10) (fC (.int 0)))) (tE (al oLt (aa 7) (fC (.int 8)))))) (aD (aF (gN 10) (fC .non))
    (aF (gN 7) (al cA (aa 7) (fC (.int 1))))) cK)
    (aD (fg (fF (aa 5) (aa 10)))
    (aD (aF (gN 12) (l9 (fAt (aa 1) (aa 8)) (yc (al oEq (ay ax (ae (fAt (aa 2) (aa 8)) (ae (fC (.int 4)) aA))) (fC (.int 0))))))
    (aD (sIf (tE (al eV (aa 10) (fC .non))) (aF (gN 12) (aa 10)) cK)
    (fg (fF (aa 6) (aa 12))))))))))))
noncomputable def fL:Fn:=bE 3 13 (aD (aF (gN 3) (ay dq (ae (aa 0) (ae (aa 2) aA))))
    (aD (aF (gN 4) (cJ aA))
    (aD (aF (gN 5) (cJ aA))
    (aD (aF (gN 6) (cJ aA))
    (aD (aF (gN 7) (c5 (cL 1 [] (iy (fAt (aa 0) (fC (.int 2)))) (gN 0) [(tE (al sJ (aa 0) (fC .non)))] (aa 0))))
    (aD (fX (bM (c5 (lOf (aa 1)))) (gN 8) ir)
    (bI (lH (ae (lH (ae (aa 3) (ae (cn (lOf (aa 4))) (ae (cn (lOf (aa 5))) aA)))) (ae (cn (lOf (aa 6))) aA))))))))))
noncomputable def cP:Fn:=bE 2 2 (bI (fT (gB (tE (al oEq (c5 (lOf (aa 0))) (c5 (lOf (aa 1))))) (tE (al oEq (c5 (cL 1 [0,1] (bM (c5 (lOf (aa 0)))) (gN 0) [(tE (al oGt (fAt (aa 1) (aa 0)) (fAt (aa 2) (aa 0))))] (aa 0))) (fC (.int 0)))))))
noncomputable abbrev i3:SF:=(sIf (jI (tE (ay cP (ae (fAt (aa 5) (aa 7)) (ae (fAt (aa 6) (aa 7)) aA))))) (bI (fC (.bl false))) cK)
noncomputable def dr:Fn:=bE 5 9 (aD (aF (gN 5) (ay dn (ae (aa 0) (ae (aa 1) (ae (aa 4) aA)))))
    (aD (aF (gN 6) (ay dn (ae (aa 2) (ae (aa 3) (ae (aa 4) aA)))))
    (aD (fX (bM (al cA (aa 4) (fC (.int 1)))) (gN 7) i3)
    (aD (aF (gN 8) (cJ (ae (ay eg (ae (aa 0) (ae (aa 1) aA))) (ae (ay eg (ae (aa 2) (ae (aa 3) aA))) aA))))
    (aD (sIf (tOr (tE (al oNe (fAt (fAt (aa 8) (fC (.int 0))) (fC (.int 1))) (fC (.str [114,101,115,116])))) (tE (al oNe (fAt (fAt (aa 8) (fC (.int 1))) (fC (.int 1))) (fC (.str [114,101,115,116]))))) (bI (fC (.bl true))) cK)
    (bI (ay cP (ae (fAt (fAt (fAt (aa 8) (fC (.int 0))) (fC (.int 2))) (fC (.int (-1)))) (ae (fAt (fAt (fAt (aa 8) (fC (.int 1))) (fC (.int 2))) (fC (.int (-1)))) aA)))))))))
noncomputable abbrev AJ:SF:=(aF (gT [1,2,3]) (ay gh (ae (aa 0) aA)))
noncomputable abbrev AK:SF:=(aF (gN 4) (ay cO (ae (aa 1) (ae (aa 2) aA))))
noncomputable abbrev AL:SF:=(aF (gN 5) (al cA (fC (.int 1)) (ay ax (ae (aa 3) (ae (fC (.int 9)) aA)))))
noncomputable abbrev AM:SF:=(aF (gN 6) (cJ (cL 1 [0] (bM (c5 (lOf (aa 4)))) (gN 0) [] (cJ (ae (ay bz (ae (aa 1) (ae (al cA (fC (.int 31)) (aa 0)) aA))) aA)))))
noncomputable abbrev AN:SF:=(aF (gT [7,8]) (ay fL (ae (aa 1) (ae (aa 4) (ae (aa 6) aA)))))
noncomputable abbrev AO:SF:=(sIf (jI (tE (ay dr (ae (aa 1) (ae (aa 4) (ae (aa 7) (ae (aa 8) (ae (aa 5) aA)))))))) (bI (fC (.bl false))) cK)
noncomputable abbrev AQ:SF:=(aF (gN 9) (cn (cL 2 [] (B0 (aa 4) (ay cO (ae (aa 1) (ae (aa 2) aA)))) (gT [0,1]) [] (l9 (aa 0) (aa 1)))))
noncomputable abbrev AR:SF:=(bI (ay dr (ae (aa 1) (ae (aa 4) (ae (aa 1) (ae (aa 9) (ae (aa 5) aA)))))))
noncomputable def xH:Fn:=bE 1 10 (aD AJ (aD AK (aD AL (aD AM (aD AN (aD AO (aD AQ AR)))))))
end Fm
set_option linter.all false
namespace Fm
theorem gX {x:Int}(h0:0≤x)(h1:x < 4611686018427387904):sml x=true:=by
  simp only [sml,Bool.and_eq_true,decide_eq_true_eq];omega
theorem cD {n i:Nat}{x:D}(hx:((List.range n).map fun k:Nat=>D.int k)[i]? = some x):i < n∧x=.int (i:Nat):=by
  have hi:i < n:=by
    have:=(List.getElem?_eq_some_iff.mp hx).1
    simpa using this
  exact⟨hi,by simpa [hi,List.getElem?_eq_getElem] using hx.symm⟩
theorem b1l (L:D)(k sd fv j:Int)(a b:Option D)(h0:Hd)(e1:sml 31=true)(e2:sml 48271=true)(e3:sml j=true) :
   aF (gN 5) (al jJ (al e9 (al cA (al cA (al cA (aa 2) (al e9 (fC (.int 31)) (aa 1))) (al e9 (aa 4) (aa 4))) (fC (.int 7))) (fC (.int 48271))) (fC (.int 2147483629))) [some L,some (.int k),some (.int sd),some (.int fv),some (.int j),b] h0
   = .nx [some L,some (.int k),some (.int sd),some (.int fv),some (.int j),some (.int ((sd + 31 * k + j * j + 7) * 48271 % 2147483629))] h0:=by
  simp [e1,e2,e3]
theorem b2l (L:D)(k sd fv j n1:Int)(a b:Option D)(h0:Hd)(e6:sml (n1 + 5)=true) :
   aF (gN 5) (al jJ (al e9 (al cA (aa 5) (fC (.int 5))) (al cA (al cA (aa 5) (aa 4)) (fC (.int 3)))) (fC (.int 2147483587))) [some L,some (.int k),some (.int sd),some (.int fv),some (.int j),some (.int n1)] h0
   = .nx [some L,some (.int k),some (.int sd),some (.int fv),some (.int j),some (.int ((n1 + 5) * (n1 + j + 3) % 2147483587))] h0:=by
  simp [e6]
theorem b3l (L:D)(k sd fv j n1:Int)(a b:Option D)(h0:Hd)(e6:sml 69621=true) :
   aF (gN 5) (al jJ (al e9 (al cA (aa 5) (aa 1)) (fC (.int 69621))) (fC (.int 2147483563))) [some L,some (.int k),some (.int sd),some (.int fv),some (.int j),some (.int n1)] h0
   = .nx [some L,some (.int k),some (.int sd),some (.int fv),some (.int j),some (.int ((n1 + k) * 69621 % 2147483563))] h0:=by
  simp [e6]
theorem b4l (L:D)(k sd fv j n1:Int)(a b:Option D)(h0:Hd)(e5:sml 2147483563=true)(e6:sml n1=true) :
   aF (gN 3) (al cA (al e9 (aa 3) (fC (.int 2147483563))) (al jJ (al e9 (aa 5) (al cA (aa 5) (fC (.int 11)))) (fC (.int 2147483549)))) [some L,some (.int k),some (.int sd),some (.int fv),some (.int j),some (.int n1)] h0
   = .nx [some L,some (.int k),some (.int sd),some (.int (fv * 2147483563 + n1 * (n1 + 11) % 2147483549)),some (.int j),some (.int n1)] h0:=by
  simp [e5,e6]
theorem b5l (L:D)(k sd fv j:Int)(a b:Option D)(h0:Hd)(e1:sml 31=true)(e2:sml 48271=true)(e3:sml j=true)(e4:sml 69621=true)(e5:sml 2147483563=true)(e6:∀ x:Int,sml (x % 2147483629 + 5)=true)(e7:∀ x:Int,sml (x % 2147483563)=true) :
   ∃ fv' n,iq [some L,some (.int k),some (.int sd),some (.int fv),some (.int j),b] h0=.nx [some L,some (.int k),some (.int sd),some (.int fv'),some (.int j),some (.int n)] h0:=by
  have q1:=b1l L k sd fv j a b h0 e1 e2 e3
  have q2:=b2l L k sd fv j _ a b h0 (e6 ((sd + 31 * k + j * j + 7) * 48271))
  have q3:=fun n=>b3l L k sd fv j n a b h0 e4
  have q4:=fun n=>b4l L k sd fv j _ a b h0 e5 (e7 n)
  refine⟨?_,?_,?_⟩
  rotate_left 2
  · simp only [iq,aD,q1,q2,q3,q4]
    rfl
theorem Ci (ns:List Int)(k:Int)(hk:0≤k∧k≤1000)(h:Hd):∃ v,eQ [.lit (ns.map .int),.int k] h=.ok (.int v) h:=by
  have seed:∃ sd,(if 0 < (ns.length:Int) then (match atI (ns.map D.int) (k % ns.length) with|some (.int y)=>some (y % 2147483647)|_=>none) else some 11)=some sd:=by
    by_cases e:0 < (ns.length:Int)
    · have h1:=Int.emod_nonneg k (show (ns.length:Int)≠0 by omega)
      have h2:=Int.emod_lt_of_pos k e
      have h3:(k % ns.length).toNat < ns.length:=by omega
      have h4:=qL (f:=D.int) h3
      rw [show (((k % ns.length).toNat:Nat):Int)=k % ns.length by omega] at h4
      exact⟨_,by rw [if_pos e,h4]⟩
    · exact⟨11,by rw [if_neg e]⟩
  obtain⟨sd,hsd⟩:=seed
  obtain⟨σ',h',h1,h2,fv,a,b,h3⟩:=ce (P:=fun _ σ h'=>h'=h ∧ ∃ fv a b,σ = [some (.lit (ns.map .int)),some (.int k),some (.int sd),some (.int fv),a,b]) (g:=none) (k:=0)
      (all:=(List.range 9).map fun k:Nat=>D.int k) (fun _ _ _ _=>trivial)
      (xs:=(List.range 9).map fun k:Nat=>D.int k) (tg:=gN 4) (σ:=[some (.lit (ns.map .int)),some (.int k),some (.int sd),some (.int 0),none,none]) (h:=h)
      (b:=iq) (by
      rintro i x σ h0 hx ⟨rfl,fv,a,b,rfl⟩
      obtain⟨hi,rfl⟩:=cD hx
      have j0:(0:Int)≤(i:Int):=by omega
      have j1:(i:Int) < 9:=by omega
      clear hx hi
      generalize ((i:Nat):Int)=j at j0 j1 ⊢
      have e1:sml 31=true:=gX (by omega) (by omega)
      have e2:sml 48271=true:=gX (by omega) (by omega)
      have e3:sml j=true:=gX (by omega) (by omega)
      have e4:sml 69621=true:=gX (by omega) (by omega)
      have e5:sml 2147483563=true:=gX (by omega) (by omega)
      have e6:∀ x:Int,sml (x % 2147483629 + 5)=true:=fun x=>gX (by have:=Int.emod_nonneg x (show (2147483629:Int)≠0 by omega);omega) (by have:=Int.emod_lt_of_pos x (show (0:Int) < 2147483629 by omega);omega)
      have e7:∀ x:Int,sml (x % 2147483563)=true:=fun x=>gX (Int.emod_nonneg x (by omega)) (by have:=Int.emod_lt_of_pos x (show (0:Int) < 2147483563 by omega);omega)
      obtain⟨fv',n',q⟩:=b5l (.lit (ns.map .int)) k sd fv j a b h0 e1 e2 e3 e4 e5 e6 e7
      exact⟨_,rfl,_,_,q,rfl,_,_,_,rfl⟩) ⟨rfl,_,_,_,rfl⟩
  subst h2 h3
  refine⟨fv,?_⟩
  by_cases e:0 < (ns.length:Int)
  · rw [if_pos e] at hsd
    cases q:atI (ns.map D.int) (k % ns.length) with
    | none=>rw [q] at hsd;cases hsd
    | some y =>
      cases y with
      | int y =>
        rw [q] at hsd
        have hsd:y % 2147483647=sd:=by simpa using hsd
        have e':0 < ns.length:=by omega
        simp [eQ,bE,runB,e,e',q,hsd,h1]
      | _=>rw [q] at hsd;cases hsd
  · rw [if_neg e] at hsd
    have hsd:11=sd:=by simpa using hsd
    subst hsd
    have e' : ¬ 0 < ns.length:=by omega
    simp [eQ,bE,runB,e,e',h1]
theorem qM (ns:List Int)(k:Nat)(hk:k≤1000)(h:Hd):∃ v,bz [.lit (ns.map .int),.int k] h=.ok (.int v) h:=by
  obtain⟨v,hv⟩:=Ci ns k (by omega) h
  by_cases e:k < ns.length
  · have h0:0 < ns.length:=by omega
    have p0:=qL (f:=D.int) h0
    have pk:=qL (f:=D.int) e
    rw [show ((0:Nat):Int)=0 from rfl] at p0
    by_cases ev:ns[0] % 2=0
    · exact⟨ns[k],by simp [bz,bE,runB,e,p0,pk,ev,peq,dep]⟩
    · exact⟨v,by simp [bz,bE,runB,e,p0,pk,ev,peq,dep,hv]⟩
  · exact⟨v,by simp [bz,bE,runB,e,hv]⟩
theorem bH {h:Hd}{n:Nat}{x m:Int}(hn:h[n]? = some (.lst [.int x]))(hm:0 < m)(hm2:m < 2 ^ 250) :
    ax [.ref n,.int m] h=.ok (.int (x % m)) (h.set n (.lst [.int (x / m)])):=by
  have z:ixN 1 0=some 0:=by decide
  simp only [Int.reducePow] at hm2
  simp [ax,bE,runB,hn,hm,hm2,z]
theorem pick {α : Type}(f : α → D)(l:List α)(x m:Int)(hm:m=l.length)(h:0 < m):∃ v∈l,atI (l.map f) (x % m)=some (f v):=by
  have h1:=Int.emod_nonneg x (show m≠0 by omega)
  have h2:=Int.emod_lt_of_pos x h
  have h3:(x % m).toNat < l.length:=by omega
  refine⟨l[(x % m).toNat],List.getElem_mem h3,?_⟩
  have:=qL (f:=f) h3
  rwa [show (((x % m).toNat:Nat):Int)=x % m by omega] at this
theorem yz {h:Hd}{n:Nat}{x s:Int}(hn:h[n]? = some (.lst [.int x])):∃ v y,cw [.ref n,.int s] h=.ok (.int v) (h.set n (.lst [.int y]))∧0≤v∧v≤400:=by
  by_cases e0:s=0
  · have b0:=Int.emod_nonneg x (show (800:Int)≠0 by omega)
    have b1:=Int.emod_lt_of_pos x (show (0:Int) < 800 by omega)
    have e1:sml (x % 800)=true:=gX b0 (by omega)
    by_cases e2:x % 800 < 401
    · exact⟨x % 800,x / 800,by simp [cw,bE,runB,e0,peq,dep,bH hn,e1,e2],b0,by omega⟩
    · exact⟨0,x / 800,by simp [cw,bE,runB,e0,peq,dep,bH hn,e1,e2],by omega,by omega⟩
  · by_cases e1:s=1
    · obtain⟨v,hv,q⟩:=pick D.int [0,0,0,0,0,1,1,2,3] x 9 rfl (by omega)
      simp only [List.map_cons,List.map_nil] at q
      refine⟨v,x / 9,by simp [cw,bE,runB,e0,e1,peq,dep,bH hn,q],?_⟩
      simp at hv
      omega
    · obtain⟨v,hv,q⟩:=pick D.int [0,0,0,1] x 4 rfl (by omega)
      simp only [List.map_cons,List.map_nil] at q
      refine⟨v,x / 4,by simp [cw,bE,runB,e0,e1,peq,dep,bH hn,q],?_⟩
      simp at hv
      omega
def LOW:Int:=1 - 10 ^ 60
theorem Er:LOW ≤ -10:=by decide
theorem Es {h:Hd}{n:Nat}{x t:Int}(hn:h[n]? = some (.lst [.int x]))(t0:0≤t)(t1:t≤1000000):∃ v y,dY [.ref n,.int t] h=.ok (.int v) (h.set n (.lst [.int y]))∧LOW≤v:=by
  have hlt:n < h.length:=(List.getElem?_eq_some_iff.mp hn).1
  have hn2:(h.set n (.lst [.int (x / 6)]))[n]? = some (.lst [.int (x / 6)]):=by simp [hlt]
  have d1:=bH hn (show (0:Int) < 6 by omega) (by simp)
  have lo:=Er
  by_cases e0:x % 6 < 2
  · exact⟨t,x / 6,by simp [dY,bE,runB,d1,e0],by omega⟩
  · by_cases e1:x % 6=2
    · have d2:=bH hn2 (show (0:Int) < 7 by omega) (by simp)
      exact⟨t - 3 + x / 6 % 7,x / 6 / 7,by simp [dY,bE,runB,d1,e0,e1,peq,dep,d2],by omega⟩
    · by_cases e2:x % 6 < 5
      · have d2:=bH hn2 (m:=2 * t + 5) (by omega) (by simp;omega)
        have s2:sml 2=true:=by decide
        have b0:=Int.emod_nonneg (x / 6) (show 2 * t + 5≠0 by omega)
        exact⟨x / 6 % (2 * t + 5) - 2,x / 6 / (2 * t + 5),by simp [dY,bE,runB,d1,e0,e1,e2,peq,dep,s2,d2],by omega⟩
      · have d2:=bH hn2 (m:=2 * 10 ^ 60 - 1) (by simp) (by simp)
        have s2:sml 2=true:=by decide
        have s10:sml 10=true:=by decide
        have b0:=Int.emod_nonneg (x / 6) (show (2 * 10 ^ 60 - 1:Int)≠0 by decide)
        have le:LOW≤x / 6 % (2 * 10 ^ 60 - 1) - 10 ^ 60 + 1:=by unfold LOW;omega
        refine⟨x / 6 % (2 * 10 ^ 60 - 1) - 10 ^ 60 + 1,x / 6 / (2 * 10 ^ 60 - 1),?_,le⟩
        simp at d2 ⊢
        simp [dY,bE,runB,d1,e0,e1,e2,peq,dep,s2,s10,d2]
structure WS (n:Nat) (R:Nat→List (Nat × Int)) (h:Hd):Prop where
  hd0:∃ x,h[0]? = some (.lst [.int x])
  st:∀ i,i < n → ∃ y,h[1 + i]? = some (.lst [.int y])
  sts:h[n + 1]? = some (.lst ((List.range n).map fun i=>.ref (1 + i)))
  ti:∀ i,i < n→h[n + 2 + i]? = some (.lst ((R i).map d9))
  tis:h[2 * n + 2]? = some (.lst ((List.range n).map fun i=>.ref (n + 2 + i)))
theorem WS.setSt {n:Nat}{R:Nat→List (Nat × Int)}{h:Hd}(w:WS n R h){i:Nat}(hi:i < n)(y:Int):WS n R (h.set (1 + i) (.lst [.int y])) where
  hd0:=by obtain⟨x,e⟩:=w.hd0;exact⟨x,by rw [List.getElem?_set_ne (by omega)];exact e⟩
  st:=fun j hj=>by
    obtain⟨z,e⟩:=w.st j hj
    by_cases q:i=j
    · subst q
      have:=(List.getElem?_eq_some_iff.mp e).1
      exact⟨y,by rw [List.getElem?_set_self this]⟩
    · exact⟨z,by rw [List.getElem?_set_ne (by omega)];exact e⟩
  sts:=by rw [List.getElem?_set_ne (by omega)];exact w.sts
  ti:=fun j hj=>by rw [List.getElem?_set_ne (by omega)];exact w.ti j hj
  tis:=by rw [List.getElem?_set_ne (by omega)];exact w.tis
def ei (R:Nat→List (Nat × Int)) (k:Nat) (p:Nat × Int):Nat→List (Nat × Int):=fun i=>if i=k then R i++[p] else R i
theorem WS.app {n:Nat}{R:Nat→List (Nat × Int)}{h:Hd}(w:WS n R h){i:Nat}(hi:i < n)(p:Nat × Int):WS n (ei R i p) (h.set (n + 2 + i) (.lst ((R i).map d9++[d9 p]))) where
  hd0:=by obtain⟨x,e⟩:=w.hd0;exact⟨x,by rw [List.getElem?_set_ne (by omega)];exact e⟩
  st:=fun j hj=>by obtain⟨z,e⟩:=w.st j hj;exact⟨z,by rw [List.getElem?_set_ne (by omega)];exact e⟩
  sts:=by rw [List.getElem?_set_ne (by omega)];exact w.sts
  ti:=fun j hj=>by
    by_cases q:i=j
    · subst q
      have:=(List.getElem?_eq_some_iff.mp (w.ti i hj)).1
      rw [List.getElem?_set_self this]
      simp [ei]
    · rw [List.getElem?_set_ne (by omega),w.ti j hj,ei,if_neg (by omega)]
  tis:=by rw [List.getElem?_set_ne (by omega)];exact w.tis
theorem WS.more {n:Nat}{R:Nat→List (Nat × Int)}{h:Hd}(w:WS n R h)(c:Hd):WS n R (h++c):=by
  have k:∀ {i:Nat} {x:cX},h[i]? = some x→(h++c)[i]? = some x:=fun {i x} e=>by
    rw [List.getElem?_append_left (List.getElem?_eq_some_iff.mp e).1];exact e
  exact⟨let ⟨x,e⟩:=w.hd0;⟨x,k e⟩,fun i hi=>let ⟨x,e⟩:=w.st i hi;⟨x,k e⟩,k w.sts,fun i hi=>k (w.ti i hi),k w.tis⟩
structure dF (n:Nat) (c:Nat) (R:Nat→List (Nat × Int)):Prop where
  ris:∀ i,(R i).Pairwise fun p q=>p.1 < q.1
  lt:∀ i p,p∈R i→p.1 < n
  wt:∀ i p,p∈R i→1≤p.2∧p.2≤400
  len:∀ i,(R i).length≤c
  sym:∀ f s,S2 R f s n=S2 R s f n
theorem mE (R:Nat→List (Nat × Int))(f s:Nat→Int)(k:Nat)(p:Nat × Int):∀ n,S2 (ei R k p) f s n=S2 R f s n + (if k < n then p.2 * f p.1 * s k else 0)
  | 0=>by simp [S2]
  | n + 1=>by
    rw [S2,S2,mE R f s k p n]
    by_cases e:n=k
    · subst e
      simp [ei];omega
    · rw [ei,if_neg e]
      by_cases l:k < n
      · have:k < n + 1:=by omega
        simp [l,this];omega
      · have : ¬ k < n + 1:=by omega
        simp [l,this]
theorem fM {R:Nat→List (Nat × Int)}{k i:Nat}{q p:Nat × Int}(h:p∈ei R k q i):p∈R i∨p=q:=by
  unfold ei at h
  split at h
  · simpa using h
  · exact .inl h
theorem tG {R:Nat→List (Nat × Int)}{k:Nat}{q:Nat × Int}(h:∀ i,(R i).Pairwise fun p q=>p.1 < q.1)(hq:∀ p∈R k,p.1 < q.1)(i:Nat):(ei R k q i).Pairwise fun p q=>p.1 < q.1:=by
  unfold ei
  split
  · rename_i e
    rw [List.pairwise_append]
    exact⟨h i,by simp,fun a ha b hb=>by simp at hb;subst hb;exact hq a (by rw [← e];exact ha)⟩
  · exact h i
theorem dF.put {n c:Nat}{R:Nat→List (Nat × Int)}(o:dF n c R){k j:Nat}(hk:k < n)(hj:j < n)(hjk:j≠k)(b1:∀ p∈R k,p.1 < j)(b2:∀ p∈R j,p.1 < k){v:Int}(h1:1≤v)(h2:v≤400):dF n (c + 2) (ei (ei R k (j,v)) j (k,v)) where
  ris:=tG (tG o.ris b1) fun p hp=>by
    rw [ei,if_neg hjk] at hp
    exact b2 p hp
  lt:=fun i p hp=>by
    rcases fM hp with hp|rfl
    · rcases fM hp with hp|rfl
      · exact o.lt _ _ hp
      · exact hj
    · exact hk
  wt:=fun i p hp=>by
    rcases fM hp with hp|rfl
    · rcases fM hp with hp|rfl
      · exact o.wt _ _ hp
      · exact⟨h1,h2⟩
    · exact⟨h1,h2⟩
  len:=fun i=>by
    have:=o.len i
    simp only [ei]
    split<;>split<;>simp<;>omega
  sym:=fun f s=>by
    rw [mE,mE,mE,mE,o.sym f s]
    simp only [hk,hj,if_true]
    have e1:v * f j * s k=v * s k * f j:=by rw [Int.mul_assoc,Int.mul_assoc,Int.mul_comm (f j)]
    have e2:v * f k * s j=v * s j * f k:=by rw [Int.mul_assoc,Int.mul_assoc,Int.mul_comm (f k)]
    rw [e1,e2];omega
theorem dG {a n i:Nat}(h:i < n):atI ((List.range n).map fun i=>D.ref (a + i)) (i:Int)=some (.ref (a + i)):=by
  refine cM ?_
  simp [h]
structure Mid (k j:Nat) (R:Nat→List (Nat × Int)):Prop where
  a:∀ i,k < i→R i=[]
  b:∀ p∈R k,p.1 < j
  c:∀ i,i < j → ∀ p∈R i,p.1≤k
  d:∀ i,j≤i→i < k → ∀ p∈R i,p.1 < k
theorem Mid.skip {k j:Nat}{R:Nat→List (Nat × Int)}(m:Mid k j R)(hj:j < k):Mid k (j + 1) R :=
  ⟨m.a,fun p hp=>Nat.lt_succ_of_lt (m.b p hp),fun i hi p hp=>by
    by_cases e:i < j
    · exact m.c i e p hp
    · exact Nat.le_of_lt (m.d i (by omega) (by omega) p hp),fun i h1 h2=>m.d i (by omega) h2⟩
theorem Mid.put {k j:Nat}{R:Nat→List (Nat × Int)}(m:Mid k j R)(hj:j < k)(v:Int):Mid k (j + 1) (ei (ei R k (j,v)) j (k,v)) where
  a:=fun i hi=>by rw [ei,if_neg (by omega),ei,if_neg (by omega)];exact m.a i hi
  b:=fun p hp=>by
    rw [ei,if_neg (by omega)] at hp
    rcases fM hp with hp|rfl
    · exact Nat.lt_succ_of_lt (m.b p hp)
    · exact Nat.lt_succ_self _
  c:=fun i hi p hp=>by
    rcases fM hp with hp|rfl
    · rw [ei,if_neg (by omega)] at hp
      by_cases e:i < j
      · exact m.c i e p hp
      · exact Nat.le_of_lt (m.d i (by omega) (by omega) p hp)
    · exact Nat.le_refl _
  d:=fun i h1 h2 p hp=>by
    rw [ei,if_neg (by omega),ei,if_neg (by omega)] at hp
    exact m.d i (by omega) h2 p hp
theorem AS {n k:Nat}{lit:D}{sort:Int}(hk:k < n)(hn:n≤30){R:Nat→List (Nat × Int)}{h:Hd}{c L:Nat}(hc:c + 2 * k≤100000)(w:WS n R h)(o:dF n c R)(mm:Mid k 0 R)(hL:h.length=L){a b:Option D} :
    ∃ a' b' R' h',iA none ((List.range k).map fun k:Nat=>D.int k) (gN 7) gW ((List.range k).map fun k:Nat=>D.int k)
      [some lit,some (.ref 0),some (.int n),some (.ref (n + 1)),some (.ref (2 * n + 2)),some (.int k),some (.int sort),a,b,none,none,none] h
      = .nx [some lit,some (.ref 0),some (.int n),some (.ref (n + 1)),some (.ref (2 * n + 2)),some (.int k),some (.int sort),a',b',none,none,none] h'∧WS n R' h'∧dF n (c + 2 * k) R'∧Mid k k R'∧h'.length=L:=by
  obtain⟨σ',h',h1,R',a',b',h2,h3,h4,hm,h5⟩:=ce (P:=fun i σ h=>∃ R a b,σ = [some lit,some (.ref 0),some (.int n),some (.ref (n + 1)),some (.ref (2 * n + 2)),some (.int k),some (.int sort),a,b,none,none,none]∧WS n R h∧dF n (c + 2 * i) R∧Mid k i R∧h.length=L)
    (g:=none) (k:=0) (all:=(List.range k).map fun k:Nat=>D.int k) (fun _ _ _ _=>trivial) (xs:=(List.range k).map fun k:Nat=>D.int k) (tg:=gN 7) (b:=gW)
    (σ:=[some lit,some (.ref 0),some (.int n),some (.ref (n + 1)),some (.ref (2 * n + 2)),some (.int k),some (.int sort),a,b,none,none,none]) (h:=h) (by
      rintro i x σ h0 hx ⟨R,a,b,rfl,w,o,mm,hL⟩
      obtain⟨hi,rfl⟩:=cD hx
      rw [Nat.zero_add] at o mm ⊢
      obtain⟨y,ey⟩:=w.st k hk
      obtain⟨v,y',ev,v0,v1⟩:=yz (s:=sort) ey
      have w1:=w.setSt hk y'
      have hkn:=hk
      have r1:=dG (a:=1) hk
      have r2:=dG (a:=n + 2) hk
      have hin:i < n:=by omega
      have r3:=dG (a:=n + 2) hin
      refine⟨_,rfl,?_⟩
      by_cases e:0 < v
      · have len1:=o.len k
        have len2:=o.len i
        have t1:=w1.ti k hk
        have w2:=w1.app hk (i,v)
        have o2:=o.put hk hin (by omega) mm.b (mm.d i (Nat.le_refl _) hi) (show 1≤v by omega) v1
        have t2:=w2.ti i hin
        have w3:=w2.app hin (k,v)
        have l1:((R k).map d9).length < 1000000:=by simp;omega
        have l2:(((ei R k (i,v)) i).map d9).length < 1000000:=by
          simp only [ei];split<;>simp<;>omega
        simp only [d9] at t1 t2 l1 l2
        refine⟨[some lit,some (.ref 0),some (.int n),some (.ref (n + 1)),some (.ref (2 * n + 2)),some (.int k),some (.int sort),some (.int i),some (.int v),none,none,none],_,?_,_,_,_,rfl,w3,by rw [show c + 2 * (i + 1)=c + 2 * i + 2 by omega];exact o2,mm.put hi v,?_⟩
        · have s1:=w.sts
          have s2:=w1.tis
          have s3:=w2.tis
          simp only [d9] at s3
          simp [-List.length_map,SZ,gW,s1,r1,ev,e,s2,r2,t1,l1,s3,r3,t2,l2,d9]
        · simp [hL]
      · refine⟨[some lit,some (.ref 0),some (.int n),some (.ref (n + 1)),some (.ref (2 * n + 2)),some (.int k),some (.int sort),some (.int i),some (.int v),none,none,none],_,?_,R,_,_,rfl,w1,⟨o.ris,o.lt,o.wt,fun j=>by have:=o.len j;omega,o.sym⟩,mm.skip hi,by simp [hL]⟩
        simp [gW,w.sts,r1,ev,e]) ⟨R,a,b,rfl,w,o,mm,hL⟩
  refine⟨a',b',R',h',?_,h3,?_,?_,h5⟩
  · rw [h1,h2]
  · simpa using h4
  · simpa using hm
theorem dF.le {n c d:Nat}{R:Nat→List (Nat × Int)}(o:dF n c R)(h:c≤d):dF n d R:=⟨o.ris,o.lt,o.wt,fun j=>Nat.le_trans (o.len j) h,o.sym⟩
theorem AT {n:Nat}{lit:D}(hn:n≤30){R:Nat→List (Nat × Int)}{h:Hd}{L:Nat}(w:WS n R h)(o:dF n 0 R)(mm:∀ i,R i=[])(hL:h.length=L) :
    ∃ a b c d R' h',iA none ((List.range n).map fun k:Nat=>D.int k) (gN 5) jo ((List.range n).map fun k:Nat=>D.int k)
      [some lit,some (.ref 0),some (.int n),some (.ref (n + 1)),some (.ref (2 * n + 2)),none,none,none,none,none,none,none] h
      = .nx [some lit,some (.ref 0),some (.int n),some (.ref (n + 1)),some (.ref (2 * n + 2)),a,b,c,d,none,none,none] h'∧WS n R' h'∧dF n (60 * n) R'∧h'.length=L:=by
  obtain⟨σ',h',h1,R',a,b,c,d,h2,h3,h4,-,h5⟩:=ce (P:=fun i σ h=>∃ R a b c d,σ = [some lit,some (.ref 0),some (.int n),some (.ref (n + 1)),some (.ref (2 * n + 2)),a,b,c,d,none,none,none]∧WS n R h∧dF n (60 * i) R∧Mid i 0 R∧h.length=L)
    (g:=none) (k:=0) (all:=(List.range n).map fun k:Nat=>D.int k) (fun _ _ _ _=>trivial) (xs:=(List.range n).map fun k:Nat=>D.int k) (tg:=gN 5) (b:=jo)
    (σ:=[some lit,some (.ref 0),some (.int n),some (.ref (n + 1)),some (.ref (2 * n + 2)),none,none,none,none,none,none,none]) (h:=h) (by
      rintro i x σ h0 hx ⟨R,a,b,c,d,rfl,w,o,mm,hL⟩
      obtain⟨hi,rfl⟩:=cD hx
      rw [Nat.zero_add] at o mm ⊢
      obtain⟨y,ey⟩:=w.st i hi
      have e1:=bH ey (show (0:Int) < 3 by omega) (by simp)
      have w1:=w.setSt hi (y / 3)
      have r1:=dG (a:=1) hi
      obtain⟨a',b',R',h',q1,q2,q3,qm,q4⟩:=AS (lit:=lit) (sort:=y % 3) hi hn (c:=60 * i) (by omega) w1 o mm (L:=L) (by simpa using hL) (a:=c) (b:=d)
      have qm':Mid (i + 1) 0 R':=by
        refine⟨fun j hj=>qm.a j (by omega),fun p hp => ?_,fun j hj=>by omega,fun j _ hj p hp => ?_⟩
        · rw [qm.a (i + 1) (by omega)] at hp;cases hp
        · by_cases e:j < i
          · have:=qm.c j e p hp;omega
          · have:j=i:=by omega
            subst this
            have:=qm.b p hp;omega
      refine⟨_,rfl,[some lit,some (.ref 0),some (.int n),some (.ref (n + 1)),some (.ref (2 * n + 2)),some (.int i),some (.int (y % 3)),a',b',none,none,none],h',?_,R',_,_,_,_,rfl,q2,q3.le (by omega),qm',q4⟩
      have z1 : -1000000≤(i:Int):=by omega
      have z2:(i:Int)≤1000000:=by omega
      simp [jo,w.sts,r1,e1,z1,z2,q1]) ⟨R,_,_,_,_,rfl,w,o,⟨fun i _=>mm i,fun p hp=>(by rw [mm] at hp;cases hp),fun i hi=>(by omega),fun i _ hi=>(by omega)⟩,hL⟩
  refine⟨a,b,c,d,R',h',?_,h3,?_,h5⟩
  · rw [h1,h2]
  · simpa using h4
theorem Et (l:List (Nat × Int))(h:∀ p∈l,1≤p.2∧p.2≤400):0≤(l.map (·.2)).sum∧(l.map (·.2)).sum≤400 * l.length:=by
  induction l with
  | nil=>simp
  | cons p l ih =>
    have h1:=h p (by simp)
    have h2:=ih fun q hq=>h q (by simp [hq])
    simp
    omega
def free (ss:List (Option Int)):Nat:=ss.countP fun x=>x.isNone
structure WB (n:Nat) (R:Nat→List (Nat × Int)) (i:Nat) (bs:List Int) (ss:List (Option Int)) (h:Hd):Prop where
  w:WS n R h
  hb:h[2 * n + 3]? = some (.lst (bs.map .int))
  hs:h[2 * n + 4]? = some (.lst (ss.map bc))
  lb:bs.length=i
  ls:ss.length=i
  os:∀ x∈ss,x=none∨x=some 0∨x=some 1
  fr:free ss≤8
  bl:∀ x∈bs,LOW≤x
theorem vl (ss:List (Option Int)):(ss.map bc).countP (fun z=>eqF z .non)=free ss:=by
  rw [List.countP_map,free]
  congr 1
  funext x
  cases x<;>rfl
theorem yA (ss:List (Option Int)):(ss.map bc).all cV=true:=by
  rw [List.all_map,List.all_eq_true]
  intro x _
  cases x<;>rfl
theorem pI {σ:Sd}{h:Hd}{k m:Nat}{ss:List (Option Int)}(e : σ[m]? = some (some (.ref k)))(hk:h[k]? = some (.lst (ss.map bc))):iP (aa m) (fC .non) σ h=.ok (.int (free ss)) h:=by
  have e1:aa m σ h=.ok (.ref k) h:=by simp [aa,slot,e]
  have e2:dz h (.ref k)=some (ss.map bc):=by simp [dz,hk]
  have e3:(cV .non && (ss.map bc).all cV)=true:=by rw [yA];rfl
  show ((aa m) σ h).bind _=_
  rw [e1]
  show (match dz h (.ref k) with|some _=>_|none=>_)=_
  rw [e2]
  show (match dz h (.ref k) with|some _=>_|none=>_)=_
  rw [e2]
  show (if (cV .non && (ss.map bc).all cV)=true then _ else _)=_
  rw [if_pos e3,vl]
theorem Cj {n:Nat}{lit:D}(hn:n≤30){R:Nat→List (Nat × Int)}(o:dF n 1800 R){h:Hd}{a b c d e:Option D}(w:WB n R 0 [] [] h) :
    ∃ a' b' c' d' e' bs ss h',iA none ((List.range n).map fun k:Nat=>D.int k) (gN 5) jn ((List.range n).map fun k:Nat=>D.int k)
      [some lit,some (.ref 0),some (.int n),some (.ref (n + 1)),some (.ref (2 * n + 2)),a,b,c,d,some (.ref (2 * n + 3)),some (.ref (2 * n + 4)),e] h
      = .nx [some lit,some (.ref 0),some (.int n),some (.ref (n + 1)),some (.ref (2 * n + 2)),a',b',c',d',some (.ref (2 * n + 3)),some (.ref (2 * n + 4)),e'] h'∧WB n R n bs ss h':=by
  obtain⟨σ',h',h1,bs,ss,a',b',c',d',e',h2,h3⟩:=ce (P:=fun i σ h=>∃ bs ss a b c d e,σ = [some lit,some (.ref 0),some (.int n),some (.ref (n + 1)),some (.ref (2 * n + 2)),a,b,c,d,some (.ref (2 * n + 3)),some (.ref (2 * n + 4)),e]∧WB n R i bs ss h)
    (g:=none) (k:=0) (all:=(List.range n).map fun k:Nat=>D.int k) (fun _ _ _ _=>trivial) (xs:=(List.range n).map fun k:Nat=>D.int k) (tg:=gN 5) (b:=jn)
    (σ:=[some lit,some (.ref 0),some (.int n),some (.ref (n + 1)),some (.ref (2 * n + 2)),a,b,c,d,some (.ref (2 * n + 3)),some (.ref (2 * n + 4)),e]) (h:=h) (by
      rintro i x σ h0 hx ⟨bs,ss,a,b,c,d,e,rfl,B⟩
      obtain⟨hi,rfl⟩:=cD hx
      rw [Nat.zero_add] at B ⊢
      have w:=B.w
      obtain⟨y,ey⟩:=w.st i hi
      have r1:=dG (a:=1) hi
      have r2:=dG (a:=n + 2) hi
      have ti:=w.ti i hi
      have comp:cB (some (n + 2 + i)) ((R i).map d9) (gT [0,1]) [] (aa 1) ((R i).map d9) [none,none] h0=.ok (((R i).map (·.2)).map D.int) h0:=by
        have:=cu (g:=some (n + 2 + i)) (all:=(R i).map d9) (tg:=gT [0,1]) (cs:=[]) (e:=aa 1) (h:=h0) (I:=fun σ=>∃ a b,σ = [a,b]) (fun _=>true) (fun d=>match d with | .tup [_,x]=>x|_=>.non) ti (xs:=(R i).map d9) (σ:=[none,none]) (by
          rintro x hx σ ⟨a,b,rfl⟩
          obtain⟨q,hq,rfl⟩:=List.mem_map.mp hx
          exact⟨_,rfl,⟨_,_,rfl⟩,rfl,fun _=>rfl⟩) ⟨_,_,rfl⟩
        rw [this,List.filter_eq_self.mpr (by simp),List.map_map,List.map_map]
        rfl
      have sl:=Et (R i) fun p hp=>o.wt i p hp
      have ln:=o.len i
      obtain⟨v,y',e1,vlow⟩:=Es (t:=((R i).map (·.2)).sum) ey sl.1 (by omega)
      have w1:=w.setSt hi y'
      have hb1:(h0.set (1 + i) (.lst [.int y']))[2 * n + 3]? = some (.lst (bs.map .int)):=by rw [List.getElem?_set_ne (by omega)];exact B.hb
      have lt3:=(List.getElem?_eq_some_iff.mp B.hb).1
      have lt4:=(List.getElem?_eq_some_iff.mp B.hs).1
      have lbz:bs.length < 1000000:=by have:=B.lb;omega
      have lsz:ss.length < 1000000:=by have:=B.ls;omega
      obtain⟨h2,hh2⟩ : ∃ h2,h2=(h0.set (1 + i) (.lst [.int y'])).set (2 * n + 3) (.lst (bs.map .int++[.int v])):=⟨_,rfl⟩
      have g2:∀ {j:Nat},j≠2 * n + 3→h2[j]? = (h0.set (1 + i) (.lst [.int y']))[j]? := fun {j} hj=>by rw [hh2,List.getElem?_set_ne (by omega)]
      have w2:WS n R h2:=by
        refine⟨?_,fun j hj => ?_,?_,fun j hj => ?_,?_⟩
        · obtain⟨x,e⟩:=w1.hd0;exact⟨x,by rw [g2 (by omega)];exact e⟩
        · obtain⟨x,e⟩:=w1.st j hj;exact⟨x,by rw [g2 (by omega)];exact e⟩
        · rw [g2 (by omega)];exact w1.sts
        · rw [g2 (by omega)];exact w1.ti j hj
        · rw [g2 (by omega)];exact w1.tis
      obtain⟨z,ez⟩:=w2.st i hi
      have e2:=bH ez (show (0:Int) < 7 by omega) (by simp)
      obtain⟨u,hu,q⟩:=pick bc [none,none,none,none,none,some 0,some 1] z 7 rfl (by omega)
      have q:atI [D.non,.non,.non,.non,.non,.int 0,.int 1] (z % 7)=some (bc u):=q
      have w3:=w2.setSt hi (z / 7)
      obtain⟨h3,hh3⟩ : ∃ h3,h3=h2.set (1 + i) (.lst [.int (z / 7)]):=⟨_,rfl⟩
      rw [← hh3] at w3 e2
      have hs3:h3[2 * n + 4]? = some (.lst (ss.map bc)):=by
        rw [hh3,List.getElem?_set_ne (by omega),g2 (by omega),List.getElem?_set_ne (by omega)];exact B.hs
      have hb3:h3[2 * n + 3]? = some (.lst ((bs++[v]).map .int)):=by
        rw [hh3,List.getElem?_set_ne (by omega),hh2,List.getElem?_set_self (by simpa using lt3)];simp
      obtain⟨z',ez'⟩:=w3.st i hi
      have e3:=bH ez' (show (0:Int) < 2 by omega) (by simp)
      have st1:fg (fF (aa 9) (ay dY (ae (fAt (aa 3) (aa 5)) (ae (yb (cL 2 [] (iy (fAt (aa 4) (aa 5))) (gT [0,1]) [] (aa 1))) aA))))
          [some lit,some (.ref 0),some (.int n),some (.ref (n + 1)),some (.ref (2 * n + 2)),some (.int i),b,c,d,some (.ref (2 * n + 3)),some (.ref (2 * n + 4)),e] h0
          = .nx [some lit,some (.ref 0),some (.int n),some (.ref (n + 1)),some (.ref (2 * n + 2)),some (.int i),b,c,d,some (.ref (2 * n + 3)),some (.ref (2 * n + 4)),e] h2:=by
        rw [hh2]
        simp [SZ,w.sts,w.tis,r1,r2,ti,comp,pC,e1,hb1,lbz,B.hb,-List.map_map]
      have st2:aF (gN 11) (fIx (ae (fC .non) (ae (fC .non) (ae (fC .non) (ae (fC .non) (ae (fC .non) (ae (fC (.int 0)) (ae (fC (.int 1)) aA))))))) (ay ax (ae (fAt (aa 3) (aa 5)) (ae (fC (.int 7)) aA))))
          [some lit,some (.ref 0),some (.int n),some (.ref (n + 1)),some (.ref (2 * n + 2)),some (.int i),b,c,d,some (.ref (2 * n + 3)),some (.ref (2 * n + 4)),e] h2
          = .nx [some lit,some (.ref 0),some (.int n),some (.ref (n + 1)),some (.ref (2 * n + 2)),some (.int i),b,c,d,some (.ref (2 * n + 3)),some (.ref (2 * n + 4)),some (bc u)] h3:=by
        simp [w2.sts,r1,e2,q]
      have st3:∃ (u':Option Int) (h4:Hd),(sIf (gB (tE (al sJ (aa 11) (fC .non))) (tE (al oGt (iP (aa 10) (fC .non)) (fC (.int 7))))) (aF (gN 11) (ay ax (ae (fAt (aa 3) (aa 5)) (ae (fC (.int 2)) aA)))) cK)
          [some lit,some (.ref 0),some (.int n),some (.ref (n + 1)),some (.ref (2 * n + 2)),some (.int i),b,c,d,some (.ref (2 * n + 3)),some (.ref (2 * n + 4)),some (bc u)] h3
          = .nx [some lit,some (.ref 0),some (.int n),some (.ref (n + 1)),some (.ref (2 * n + 2)),some (.int i),b,c,d,some (.ref (2 * n + 3)),some (.ref (2 * n + 4)),some (bc u')] h4
          ∧ (u'=none∨u'=some 0∨u'=some 1)∧free (ss++[u'])≤8 ∧ ∃ z',h4=h3.set (1 + i) (.lst [.int z']):=by
        have self:∃ z',h3=h3.set (1 + i) (.lst [.int z']):=by
          refine⟨z',?_⟩
          apply List.ext_getElem?
          intro j
          by_cases ij:1 + i=j
          · subst ij;rw [List.getElem?_set_self (List.getElem?_eq_some_iff.mp ez').1];exact ez'
          · rw [List.getElem?_set_ne ij]
        have hu':u=none∨u=some 0∨u=some 1:=by simpa using hu
        cases u with
        | some k=>exact⟨some k,h3,by simp [bc],hu',by have:=B.fr;simpa [free] using this,self⟩
        | none =>
          by_cases c7:7 < free ss
          · have c7':(7:Int) < (free ss:Int):=by omega
            have b0:=Int.emod_nonneg z' (show (2:Int)≠0 by omega)
            have b1:=Int.emod_lt_of_pos z' (show (0:Int) < 2 by omega)
            refine⟨some (z' % 2),h3.set (1 + i) (.lst [.int (z' / 2)]),?_,?_,by have:=B.fr;simpa [free] using this,_,rfl⟩
            · have fc:=pI (m:=10) (σ:=[some lit,some (.ref 0),some (.int n),some (.ref (n + 1)),some (.ref (2 * n + 2)),some (.int i),b,c,d,some (.ref (2 * n + 3)),some (.ref (2 * n + 4)),some .non]) rfl hs3
              simp [-iP,bc,fc,c7',w3.sts,r1,e3]
            · by_cases zz:z' % 2=0
              · rw [zz];simp
              · have:z' % 2=1:=by omega
                rw [this];simp
          · have c7' : ¬ (7:Int) < (free ss:Int):=by omega
            refine⟨none,h3,?_,.inl rfl,by simp only [free] at c7 ⊢;simp;omega,self⟩
            have fc:=pI (m:=10) (σ:=[some lit,some (.ref 0),some (.int n),some (.ref (n + 1)),some (.ref (2 * n + 2)),some (.int i),b,c,d,some (.ref (2 * n + 3)),some (.ref (2 * n + 4)),some .non]) rfl hs3
            simp [-iP,bc,fc,c7']
      obtain⟨u',h4,st3,ou,fu,z4,hh4⟩:=st3
      have w4:=w3.setSt hi z4
      rw [← hh4] at w4
      have hs4:h4[2 * n + 4]? = some (.lst (ss.map bc)):=by rw [hh4,List.getElem?_set_ne (by omega)];exact hs3
      have hb4:h4[2 * n + 3]? = some (.lst ((bs++[v]).map .int)):=by rw [hh4,List.getElem?_set_ne (by omega)];exact hb3
      have lt5:=(List.getElem?_eq_some_iff.mp hs4).1
      have st4:fg (fF (aa 10) (aa 11)) [some lit,some (.ref 0),some (.int n),some (.ref (n + 1)),some (.ref (2 * n + 2)),some (.int i),b,c,d,some (.ref (2 * n + 3)),some (.ref (2 * n + 4)),some (bc u')] h4
          = .nx [some lit,some (.ref 0),some (.int n),some (.ref (n + 1)),some (.ref (2 * n + 2)),some (.int i),b,c,d,some (.ref (2 * n + 3)),some (.ref (2 * n + 4)),some (bc u')] (h4.set (2 * n + 4) (.lst (ss.map bc++[bc u']))):=by
        simp [SZ,hs4,lsz]
      refine⟨_,rfl,[some lit,some (.ref 0),some (.int n),some (.ref (n + 1)),some (.ref (2 * n + 2)),some (.int i),b,c,d,some (.ref (2 * n + 3)),some (.ref (2 * n + 4)),some (bc u')],h4.set (2 * n + 4) (.lst (ss.map bc++[bc u'])),?_,bs++[v],ss++[u'],_,_,_,_,_,rfl,?_⟩
      · unfold jn
        show aD _ _ [some lit,some (.ref 0),some (.int n),some (.ref (n + 1)),some (.ref (2 * n + 2)),some (.int i),b,c,d,some (.ref (2 * n + 3)),some (.ref (2 * n + 4)),e] h0=_
        rw [gg st1,gg st2,gg st3,st4]
      · refine⟨⟨?_,fun j hj => ?_,?_,fun j hj => ?_,?_⟩,?_,?_,by simp [B.lb],by simp [B.ls],fun x hx => ?_,fu,fun x hx => ?_⟩
        · obtain⟨x,e⟩:=w4.hd0;exact⟨x,by rw [List.getElem?_set_ne (by omega)];exact e⟩
        · obtain⟨x,e⟩:=w4.st j hj;exact⟨x,by rw [List.getElem?_set_ne (by omega)];exact e⟩
        · rw [List.getElem?_set_ne (by omega)];exact w4.sts
        · rw [List.getElem?_set_ne (by omega)];exact w4.ti j hj
        · rw [List.getElem?_set_ne (by omega)];exact w4.tis
        · rw [List.getElem?_set_ne (by omega)];exact hb4
        · rw [List.getElem?_set_self lt5];simp
        · rcases List.mem_append.mp hx with hx|hx
          · exact B.os x hx
          · simp at hx;subst hx;exact ou
        · rcases List.mem_append.mp hx with hx|hx
          · exact B.bl x hx
          · simp at hx;subst hx;exact vlow) ⟨[],[],_,_,_,_,_,rfl,w⟩
  refine⟨a',b',c',d',e',bs,ss,h',?_,?_⟩
  · rw [h1,h2]
  · simpa using h3
def toL (p:Nat × Int):List Int:=[(p.1:Int),p.2]
theorem AU (r:List (Nat × Int)):lI (r.map d9)=some (r.map toL):=by
  induction r with
  | nil=>rfl
  | cons p r ih=>simp [lI,d9,eF,ih,toL]
theorem AV:∀ {r:List (Nat × Int)},(r.Pairwise fun p q=>p.1 < q.1)→qi (r.map toL)=true
  | [],_=>rfl
  | [_],_=>rfl
  | p :: q :: r,h=>by
    have h1:p.1 < q.1:=(List.pairwise_cons.mp h).1 q (by simp)
    have h2:=AV (List.pairwise_cons.mp h).2
    have e : ¬ (q.1:Int)=p.1:=by omega
    have e' : ¬ (q.1:Int) < p.1:=by omega
    simp only [List.map_cons] at h2 ⊢
    simp [qi,h2]
    simp [toL,bw,e,e']
theorem xI {n:Nat}:∀ {r:List (Nat × Int)} {m:Nat},(r.Pairwise fun p q=>p.1 < q.1)→(∀ p∈r,m≤p.1∧p.1 < n)→r.length + m≤max n m
  | [],m,_,_=>by simp;omega
  | p :: r,m,h,b=>by
    have hp:=b p (by simp)
    have:=xI (m:=p.1 + 1) (List.pairwise_cons.mp h).2 fun q hq=>⟨(List.pairwise_cons.mp h).1 q hq,(b q (by simp [hq])).2⟩
    simp;omega
theorem Ck {n:Nat}(hn:n≤30){r:List (Nat × Int)}(h:r.Pairwise fun p q=>p.1 < q.1)(b:∀ p∈r,p.1 < n):r.length < 64∧qi (r.map toL)=true∧(r.map toL).all (fun x => !x.isEmpty)=true:=by
  have:=xI (m:=0) h fun p hp=>⟨Nat.zero_le _,b p hp⟩
  refine⟨by omega,AV h,?_⟩
  rw [List.all_map,List.all_eq_true]
  intro p _
  rfl
structure Eu (ns:List Int) (n:Nat) (w:Web) (h:Hd):Prop where
  run:gh [.lit (ns.map .int)] []=.ok (.tup [w.enc,.ref (n + 1),.ref 0]) h
  n1:1≤n
  n30:n≤30
  ok:w.Ok n
  st:∀ x∈w.stays,x=none∨x=some 0∨x=some 1
  hd0:∃ x,h[0]? = some (.lst [.int x])
  hst:∀ i,i < n → ∃ y,h[1 + i]? = some (.lst [.int y])
  sts:h[n + 1]? = some (.lst ((List.range n).map fun i=>.ref (1 + i)))
  sym:∀ f s,S2 (fun i=>w.ties.getD i []) f s n=S2 (fun i=>w.ties.getD i []) s f n
  wt:∀ r∈w.ties,∀ p∈r,1≤p.2∧p.2≤400
  fr:free w.stays≤8
  ris:∀ r∈w.ties,r.Pairwise fun p q=>p.1 < q.1
  bl:∀ x∈w.bars,LOW≤x
theorem tH {R R':Nat→List (Nat × Int)}(f s:Nat→Int):∀ n,(∀ i,i < n→R i=R' i)→S2 R f s n=S2 R' f s n
  | 0,_=>rfl
  | n + 1,h=>by rw [S2,S2,tH f s n fun i hi=>h i (by omega),h n (by omega)]
theorem Ev (ns:List Int):∃ n w h,Eu ns n w h:=by
  obtain⟨v0,c0⟩:=qM ns 0 (by omega) []
  have c0:bz [.lit (ns.map .int),.int 0] []=.ok (.int v0) []:=c0
  have hm:∃ m:Int,0 < m∧m≤30∧atI [D.int 7,.int 7,.int 12,.int 30] (v0 / 2 % 4)=some (.int m):=by
    obtain⟨v,hv,q⟩:=pick D.int [7,7,12,30] (v0 / 2) 4 rfl (by omega)
    simp at hv
    exact⟨v,by omega,by omega,q⟩
  obtain⟨m,m0,m1,em⟩:=hm
  have d1:=bH (h:=[.lst [.int (v0 / 2)]]) (n:=0) (x:=v0 / 2) rfl (show (0:Int) < 4 by omega) (by simp)
  have d2:=bH (h:=[.lst [.int (v0 / 2 / 4)]]) (n:=0) (x:=v0 / 2 / 4) rfl m0 (by simp;omega)
  have b0:=Int.emod_nonneg (v0 / 2 / 4) (show m≠0 by omega)
  have b1:=Int.emod_lt_of_pos (v0 / 2 / 4) m0
  obtain⟨n,hn⟩ : ∃ n:Nat,(n:Int)=1 + v0 / 2 / 4 % m:=⟨(1 + v0 / 2 / 4 % m).toNat,by omega⟩
  obtain⟨x1,hx1⟩ : ∃ x1,x1=v0 / 2 / 4 / m:=⟨_,rfl⟩
  have n1:1≤n:=by omega
  have n30:n≤30:=by omega
  obtain⟨ds,h1,k1,l1,v1,σ1,q1,hh1,g0,g1⟩:=eM (g:=none) (all:=(List.range n).map fun k:Nat=>D.int k) (tg:=gN 0) (xs:=(List.range n).map fun k:Nat=>D.int k) (k:=0)
    (e:=cJ (ae (ay bz (ae (aa 1) (ae (al cA (fC (.int 1)) (aa 0)) aA))) aA)) (σ:=[none,some (.lit (ns.map .int))]) (h:=[.lst [.int x1]])
    (P:=fun i σ h=>(∃ a,σ = [a,some (.lit (ns.map .int))])∧h.length=1 + i∧h[0]? = some (.lst [.int x1]) ∧ ∀ j,j < i → ∃ y,h[1 + j]? = some (.lst [.int y])) (V:=fun i d=>d=.ref (1 + i)) (fun _ _ _ _=>trivial) (by
      rintro i x σ h0 hx ⟨⟨a,rfl⟩,hl,e0,e1⟩
      obtain⟨hi,rfl⟩:=cD hx
      rw [Nat.zero_add] at hl e1 ⊢
      obtain⟨y,ey⟩:=qM ns (1 + i) (by omega) h0
      have ey':bz [.lit (ns.map .int),.int (1 + (i:Int))] h0=.ok (.int y) h0:=by rw [← ey];simp
      refine⟨_,rfl,.ref h0.length,h0++[.lst [.int y]],by simp [SZ,ey'],by rw [hl],⟨_,rfl⟩,by simp [hl];omega,?_,fun j hj => ?_⟩
      · rw [List.getElem?_append_left (by omega)];exact e0
      · by_cases hji:j < i
        · obtain⟨z,ez⟩:=e1 j hji
          exact⟨z,by rw [List.getElem?_append_left (by omega)];exact ez⟩
        · have:j=i:=by omega
          subst this
          exact⟨y,by rw [List.getElem?_append_right (by omega)];simp [hl]⟩) ⟨⟨_,rfl⟩,rfl,rfl,fun j hj=>by omega⟩
  simp at l1 hh1 g1
  have e1:ds=(List.range n).map fun i=>.ref (1 + i):=f7 l1 fun i d hd=>by simpa using v1 i d hd
  subst e1
  obtain⟨ds,h2,k2,l2,v2,σ2,q2,hh2,g2,g3⟩:=eM (g:=none) (all:=(List.range n).map fun k:Nat=>D.int k) (tg:=gN 0) (xs:=(List.range n).map fun k:Nat=>D.int k) (k:=0)
    (e:=cJ aA) (σ:=[none]) (h:=h1++[.lst ((List.range n).map fun i=>.ref (1 + i))])
    (P:=fun i σ h=>(∃ a,σ = [a])∧h.length=n + 2 + i∧(∀ j,j < n + 2→h[j]? = (h1++[.lst ((List.range n).map fun i=>.ref (1 + i))])[j]?) ∧ ∀ j,j < i→h[n + 2 + j]? = some (.lst [])) (V:=fun i d=>d=.ref (n + 2 + i)) (fun _ _ _ _=>trivial) (by
      rintro i x σ h0 hx ⟨⟨a,rfl⟩,hl,e0,e1⟩
      obtain⟨hi,rfl⟩:=cD hx
      rw [Nat.zero_add] at hl e1 ⊢
      refine⟨_,rfl,.ref h0.length,h0++[.lst []],by simp [SZ],by rw [hl],⟨_,rfl⟩,by simp [hl];omega,fun j hj => ?_,fun j hj => ?_⟩
      · rw [List.getElem?_append_left (by omega)];exact e0 j hj
      · by_cases hji:j < i
        · rw [List.getElem?_append_left (by omega)];exact e1 j hji
        · have:j=i:=by omega
          subst this
          rw [List.getElem?_append_right (by omega)];simp [hl]) ⟨⟨_,rfl⟩,by simp [hh1];omega,fun j _=>rfl,fun j hj=>by omega⟩
  simp at l2 hh2 g3
  have e2:ds=(List.range n).map fun i=>.ref (n + 2 + i):=f7 l2 fun i d hd=>by simpa using v2 i d hd
  subst e2
  have W0:WS n (fun _=>[]) (h2++[.lst ((List.range n).map fun i=>.ref (n + 2 + i))]):=by
    have old:∀ {j:Nat} {c:cX},j < n + 1→h1[j]? = some c→(h2++[.lst ((List.range n).map fun i=>.ref (n + 2 + i))])[j]? = some c:=fun {j c} hj e=>by
      rw [List.getElem?_append_left (by omega),g2 j (by omega),List.getElem?_append_left (by omega)];exact e
    refine⟨⟨x1,old (by omega) g0⟩,fun i hi => ?_,?_,fun i hi => ?_,?_⟩
    · obtain⟨y,ey⟩:=g1 i hi
      exact⟨y,old (by omega) ey⟩
    · rw [List.getElem?_append_left (by omega),g2 (n + 1) (by omega),List.getElem?_append_right (by omega),show n + 1 - h1.length=0 by omega];rfl
    · rw [List.getElem?_append_left (by omega),g3 i hi];rfl
    · rw [List.getElem?_append_right (by omega),show 2 * n + 2 - h2.length=0 by omega];rfl
  have O0:dF n 0 (fun _=>[]):=⟨by simp,by simp,by simp,by simp,fun f s=>by
    have:∀ f s k,S2 (fun _=>[]) f s k=0:=fun f s k=>by induction k with
      | zero=>rfl
      | succ k ih=>simp [S2,ih]
    rw [this,this]⟩
  obtain⟨a,b,c,d,R,h3,k3,W3,O3,L3⟩:=AT (lit:=.lit (ns.map .int)) n30 W0 O0 (fun _=>rfl) (L:=2 * n + 3) (by simp [hh2];omega)
  have W4:WB n R 0 [] [] (h3++[.lst []]++[.lst []]):=⟨(W3.more _).more _,by
      rw [List.getElem?_append_left (by simp [L3]),List.getElem?_append_right (by omega)];simp [L3],by
      rw [List.getElem?_append_right (by simp [L3])];simp [L3],rfl,rfl,by simp,by simp [free],by simp⟩
  obtain⟨a',b',c',d',e',bs,ss,h5,k5,W5⟩:=Cj (lit:=.lit (ns.map .int)) n30 (O3.le (by omega)) (a:=a) (b:=b) (c:=c) (d:=d) (e:=none) W4
  have comp:cB (some (2 * n + 2)) ((List.range n).map fun i=>.ref (n + 2 + i)) (gN 0) [] (cn (jK (aa 0))) ((List.range n).map fun i=>.ref (n + 2 + i)) [none] h5
      = .ok (((List.range n).map fun i=>(R i)).map dM) h5:=by
    have:=cu (g:=some (2 * n + 2)) (all:=(List.range n).map fun i=>.ref (n + 2 + i)) (tg:=gN 0) (cs:=[]) (e:=cn (jK (aa 0))) (h:=h5) (I:=fun σ=>∃ a,σ = [a]) (fun _=>true)
      (fun d=>match d with | .ref k=>dM (R (k - (n + 2)))|_=>.non) W5.w.tis (xs:=(List.range n).map fun i=>.ref (n + 2 + i)) (σ:=[none]) (by
        rintro x hx σ ⟨a,rfl⟩
        obtain⟨i,hi,rfl⟩:=List.mem_map.mp hx
        have hi:=List.mem_range.mp hi
        refine⟨_,rfl,⟨_,rfl⟩,rfl,fun _ => ?_⟩
        have t:=W5.w.ti i hi
        have so:=Ck n30 (O3.ris i) (O3.lt i)
        have so':((R i).map d9).length < 64∧qi ((R i).map toL)=true∧((R i).map toL).all (fun x => !x.isEmpty)=true:=by rw [List.length_map];exact so
        simp only [List.set_cons_zero,cn,jK,dz,lh,aa,slot,List.getElem?_cons_zero,aM,t,AU,if_pos so',dM,Nat.add_sub_cancel_left]) ⟨_,rfl⟩
    rw [this,List.filter_eq_self.mpr (by simp),List.map_map,List.map_map]
    congr 1
    apply List.map_congr_left
    intro i _
    simp
  refine⟨n,⟨(List.range n).map fun i=>(R i),bs,ss⟩,h5,?_⟩
  refine⟨?_,n1,n30,⟨by simp,W5.lb,W5.ls,fun r hr p hp => ?_,by omega⟩,W5.os,W5.w.hd0,W5.w.st,W5.w.sts,fun f s => ?_,fun r hr p hp => ?_,W5.fr,fun r hr => ?_,W5.bl⟩
  · have hn':1 + v0 / 2 / 4 % m=n:=hn.symm
    have z1 : -1000000≤(n:Int):=by omega
    have z2:(n:Int)≤1000000:=by omega
    have z3:n≤1000000:=by omega
    have l3:n + 1=h1.length:=by omega
    have l4:2 * n + 2=h2.length:=by omega
    have l5:2 * n + 3=h3.length:=by omega
    have l6:2 * n + 4=h3.length + 1:=by omega
    have hl1:h1.length=n + 1:=by omega
    have hl2:h2.length=2 * n + 2:=by omega
    simp only [List.append_assoc,List.cons_append,List.nil_append] at k5
    have w9:=W5.hb
    have w10:=W5.hs
    have w11:=W5.w.tis
    simp [gh,bE,runB,c0,SZ,d1,em,d2,hn',z1,z2,← hx1,k1,z3,hl1,k2,hl2,k3,L3,k5,w11,comp,w9,w10,W5.lb,W5.ls,Web.enc,letGo,pure?,cW]
  · obtain⟨i,hi,rfl⟩:=List.mem_map.mp hr
    exact O3.lt i p hp
  · have:∀ f s,S2 (fun i=>((List.range n).map fun i=>(R i)).getD i []) f s n=S2 R f s n:=fun f s=>tH f s n fun i hi=>by
      simp [List.getD,hi]
    rw [this,this];exact O3.sym f s
  · obtain⟨i,hi,rfl⟩:=List.mem_map.mp hr
    exact O3.wt i p hp
  · obtain⟨i,hi,rfl⟩:=List.mem_map.mp hr
    exact O3.ris i
structure StH (n:Nat) (h:Hd):Prop where
  st:∀ i,i < n → ∃ y,h[1 + i]? = some (.lst [.int y])
  sts:h[n + 1]? = some (.lst ((List.range n).map fun i=>.ref (1 + i)))
theorem tI {w:Web}{n:Nat}(W:w.Ok n)(ho:∀ x∈w.stays,x=none∨x=some 0∨x=some 1)(hn:n≤30){h:Hd}(H:StH n h) :
    ∃ s h',cO [w.enc,.ref (n + 1)] h=.ok (aj s) h'∧bW w n s∧StH n h'∧h'.length=h.length ∧ ∀ j,(j=0∨n + 1≤j)→h'[j]? = h[j]? := by
  have hlt:=(List.getElem?_eq_some_iff.mp H.sts).1
  obtain⟨σ',h1,k1,acc,a,b,hs,e1,e2,q1,q2,q3,q4,q5,q6⟩:=ce (P:=fun i σ h'=>∃ (acc:List Int) (a b:Option D) (hs:Hd),σ = [some w.enc,some (.ref (n + 1)),some (.ref h.length),a,b]∧h'=hs++[.lst (acc.map .int)]∧hs.length=h.length∧StH n hs ∧
      (∀ j,(j=0∨n + 1≤j)→hs[j]? = h[j]?)∧acc.length=i∧(∀ x∈acc,x=0∨x=1) ∧ ∀ (j:Nat) y,j < i→w.stays[j]? = some (some y)→acc[j]? = some y)
    (g:=none) (k:=0) (all:=(List.range n).map fun k:Nat=>D.int k) (fun _ _ _ _=>trivial) (xs:=(List.range n).map fun k:Nat=>D.int k) (tg:=gN 3) (b:=dQ)
    (σ:=[some w.enc,some (.ref (n + 1)),some (.ref h.length),none,none]) (h:=h++[.lst []]) (by
      rintro i x σ h0 hx ⟨acc,a,b,hs,rfl,rfl,q1,q2,q3,q4,q5,q6⟩
      obtain⟨hi,rfl⟩:=cD hx
      rw [Nat.zero_add] at q4 q6 ⊢
      obtain⟨y,ey⟩:=q2.st i hi
      have lt1:=(List.getElem?_eq_some_iff.mp ey).1
      have ey':(hs++[.lst (acc.map .int)])[1 + i]? = some (.lst [.int y]):=by rw [List.getElem?_append_left lt1];exact ey
      have es':(hs++[.lst (acc.map .int)])[n + 1]? = some (.lst ((List.range n).map fun i=>.ref (1 + i))):=by
        rw [List.getElem?_append_left (List.getElem?_eq_some_iff.mp q2.sts).1];exact q2.sts
      have r1:=dG (a:=1) hi
      have d1:=bH ey' (show (0:Int) < 2 by omega) (by simp)
      have e3:(hs++[cX.lst (acc.map D.int)]).set (1 + i) (.lst [.int (y / 2)])=hs.set (1 + i) (.lst [.int (y / 2)])++[cX.lst (acc.map D.int)]:=by
        rw [List.set_append_left _ _ lt1]
      rw [e3] at d1
      have b0:=Int.emod_nonneg y (show (2:Int)≠0 by omega)
      have b1:=Int.emod_lt_of_pos y (show (0:Int) < 2 by omega)
      have es:w.stays[i]? = some (w.stays[i]'(by rw [W.s];exact hi)):=by simp
      have os:=ho _ (List.getElem_mem (show i < w.stays.length by rw [W.s];exact hi))
      generalize w.stays[i]'(by rw [W.s];exact hi)=st at es os
      have pst:atI (w.stays.map bc) (i:Int)=some (bc st):=cM (by simp [es])
      have lz:acc.length < 1000000:=by omega
      have found:∀ v:Int,(v=0∨v=1)→(∀ y,st=some y→v=y) → ∃ σ'' h'',Out.nx [some w.enc,some (.ref (n + 1)),some (.ref h.length),some (.int i),some (.int v)] (hs.set (1 + i) (.lst [.int (y / 2)])++[.lst (acc.map .int++[.int v])])=.nx σ'' h'' ∧
          ∃ (acc:List Int) (a b:Option D) (hs:Hd),σ''=[some w.enc,some (.ref (n + 1)),some (.ref h.length),a,b]∧h''=hs++[.lst (acc.map .int)]∧hs.length=h.length∧StH n hs ∧
            (∀ j,(j=0∨n + 1≤j)→hs[j]? = h[j]?)∧acc.length=i + 1∧(∀ x∈acc,x=0∨x=1) ∧ ∀ (j:Nat) y,j < i + 1→w.stays[j]? = some (some y)→acc[j]? = some y:=by
        intro v hv hst
        refine⟨_,_,rfl,acc++[v],_,_,hs.set (1 + i) (.lst [.int (y / 2)]),rfl,by simp,by simp [q1],⟨fun j hj => ?_,?_⟩,fun j hj => ?_,by simp [q4],fun x hx => ?_,fun j z hj e => ?_⟩
        · obtain⟨z,ez⟩:=q2.st j hj
          by_cases ij:i=j
          · subst ij;exact⟨y / 2,by rw [List.getElem?_set_self lt1]⟩
          · exact⟨z,by rw [List.getElem?_set_ne (by omega)];exact ez⟩
        · rw [List.getElem?_set_ne (by omega)];exact q2.sts
        · rw [List.getElem?_set_ne (by omega)];exact q3 j hj
        · rcases List.mem_append.mp hx with hx|hx
          · exact q5 x hx
          · simp at hx;subst hx;exact hv
        · by_cases ij:j < i
          · rw [List.getElem?_append_left (by omega)];exact q6 j z ij e
          · have:j=i:=by omega
            subst this
            rw [es] at e
            rw [List.getElem?_append_right (by omega)]
            simp [q4]
            exact hst z (Option.some.inj e)
      refine⟨_,rfl,?_⟩
      have hq:(hs.set (1 + i) (.lst [.int (y / 2)])++[.lst (acc.map .int)])[h.length]? = some (.lst (acc.map .int)):=by
        rw [List.getElem?_append_right (by simp [q1])];simp [q1]
      have hset:∀ v:Int,(hs.set (1 + i) (.lst [.int (y / 2)])++[cX.lst (acc.map D.int)]).set h.length (cX.lst (acc.map D.int++[D.int v]))=hs.set (1 + i) (.lst [.int (y / 2)])++[cX.lst (acc.map D.int++[D.int v])]:=fun v=>by
        rw [List.set_append_right _ _ (by simp [q1])];simp [q1]
      cases st with
      | none =>
        have eq:dQ [some w.enc,some (.ref (n + 1)),some (.ref h.length),some (.int i),b] (hs++[cX.lst (acc.map D.int)])=.nx [some w.enc,some (.ref (n + 1)),some (.ref h.length),some (.int i),some (.int (y % 2))] (hs.set (1 + i) (.lst [.int (y / 2)])++[cX.lst (acc.map D.int++[D.int (y % 2)])]):=by
          simp [SZ,dQ,es',r1,d1,Web.enc,pst,bc,hq,lz,hset]
        obtain⟨σ'',h'',e,p⟩:=found (y % 2) (by omega) (by simp)
        exact⟨σ'',h'',eq.trans e,p⟩
      | some z =>
        have eq:dQ [some w.enc,some (.ref (n + 1)),some (.ref h.length),some (.int i),b] (hs++[cX.lst (acc.map D.int)])=.nx [some w.enc,some (.ref (n + 1)),some (.ref h.length),some (.int i),some (.int z)] (hs.set (1 + i) (.lst [.int (y / 2)])++[cX.lst (acc.map D.int++[D.int z])]):=by
          simp [SZ,dQ,es',r1,d1,Web.enc,pst,bc,hq,lz,hset]
        obtain⟨σ'',h'',e,p⟩:=found z (by simpa using os) (by simp)
        exact⟨σ'',h'',eq.trans e,p⟩) ⟨[],_,_,h,rfl,rfl,rfl,H,fun j _=>rfl,rfl,by simp,fun j _ hj=>by omega⟩
  subst e1 e2
  simp at q4 q6
  have hq:(hs++[.lst (acc.map .int)])[h.length]? = some (.lst (acc.map .int)):=by rw [List.getElem?_append_right (by omega)];simp [q1]
  refine⟨acc,hs,?_,⟨q4,q5,fun i x e=>q6 i x (by have:=(List.getElem?_eq_some_iff.mp e).1;rw [W.s] at this;exact this) e⟩,q2,q1,q3⟩
  have z1 : -1000000≤(n:Int):=by omega
  have z2:(n:Int)≤1000000:=by omega
  have pu:∀ l:List Int,cW (l.map .int)=true:=fun l=>by induction l with
    | nil=>rfl
    | cons x l ih=>simp [cW,pure?,ih]
  have hsts:(h++[.lst []])[n + 1]? = some (.lst ((List.range n).map fun i=>.ref (1 + i))):=by rw [List.getElem?_append_left hlt];exact H.sts
  have fin:=jR (h:=h) (h':=hs) (g:=[.lst (acc.map .int)]) (d:=.tup (acc.map .int)) (by simp [pure?,pu]) q1 (by
    intro m c hm hc
    rw [List.getElem?_append_left (by omega)] at hc
    by_cases e:m=0∨n + 1≤m
    · left;rw [← q3 m e];exact hc
    · right
      obtain⟨y,ey⟩:=q2.st (m - 1) (by omega)
      rw [show 1 + (m - 1)=m by omega,hc] at ey
      cases ey
      rfl)
  simp [SZ,cO,bE,runB,hsts,z1,z2,k1,hq,fin,aj]
end Fm
set_option linter.all false
namespace Fm
theorem php:∀ (N t:Nat) (f:Nat→Nat),(∀ i,i≤t→f i < N)→(∀ i j,i < j→j≤t→f i≠f j)→t + 1≤N
  | 0,t,f,h,_=>by have:=h 0 (Nat.zero_le _);omega
  | N + 1,0,f,_,_=>by omega
  | N + 1,t + 1,f,h,d=>by
    have hv:=h (t + 1) (Nat.le_refl _)
    have:=php N t (fun i=>if f i < f (t + 1) then f i else f i - 1) (fun i hi=>by
      have h1:=h i (by omega)
      have h2:=d i (t + 1) (by omega) (Nat.le_refl _)
      split<;>omega) (fun i j hij hj=>by
      have h1:=d i j hij (by omega)
      have h2:=d i (t + 1) (by omega) (Nat.le_refl _)
      have h3:=d j (t + 1) (by omega) (Nat.le_refl _)
      split<;>split<;>omega)
    omega
def i4:List (Option Int)→List Int→Nat
  | none :: ss,x :: xs=>2 * i4 ss xs + x.toNat
  | some _ :: ss,_ :: xs=>i4 ss xs
  | _,_=>0
theorem qN:∀ (ss:List (Option Int)) (xs:List Int),(∀ x∈xs,x=0∨x=1)→i4 ss xs < 2 ^ free ss
  | [],xs,_=>by simp [i4,free]
  | none :: ss,[],_=>by simp only [i4];exact Nat.two_pow_pos _
  | some _ :: ss,[],_=>by simp only [i4];exact Nat.two_pow_pos _
  | none :: ss,x :: xs,h=>by
    have ih:=qN ss xs fun y hy=>h y (by simp [hy])
    have hx:=h x (by simp)
    have:free (none :: ss)=free ss + 1:=by simp [free]
    rw [this,Nat.pow_succ]
    simp only [i4]
    rcases hx with e|e<;>subst e<;>simp<;>omega
  | some v :: ss,x :: xs,h=>by
    have ih:=qN ss xs fun y hy=>h y (by simp [hy])
    have:free (some v :: ss)=free ss:=by simp [free]
    rw [this];simpa [i4] using ih
theorem mF:∀ (ss:List (Option Int)) (xs ys:List Int),xs.length=ss.length→ys.length=ss.length→(∀ x∈xs,x=0∨x=1)→(∀ x∈ys,x=0∨x=1) →
    (∀ (i:Nat) v,ss[i]? = some (some v)→xs[i]? = some v)→(∀ (i:Nat) v,ss[i]? = some (some v)→ys[i]? = some v)→i4 ss xs=i4 ss ys→xs=ys
  | [],[],[],_,_,_,_,_,_,_=>rfl
  | [],x :: xs,_,h,_,_,_,_,_,_=>by simp at h
  | [],_,y :: ys,_,h,_,_,_,_,_=>by simp at h
  | s :: ss,[],_,h,_,_,_,_,_,_=>by simp at h
  | s :: ss,_,[],_,h,_,_,_,_,_=>by simp at h
  | none :: ss,x :: xs,y :: ys,h1,h2,b1,b2,s1,s2,c=>by
    simp only [i4] at c
    have hx:=b1 x (by simp)
    have hy:=b2 y (by simp)
    have e:x=y∧i4 ss xs=i4 ss ys:=by
      rcases hx with e|e<;>rcases hy with e'|e'<;>subst e e'<;>simp at c ⊢<;>omega
    have ih:=mF ss xs ys (by simpa using h1) (by simpa using h2) (fun z hz=>b1 z (by simp [hz])) (fun z hz=>b2 z (by simp [hz])) (fun i v hv=>by simpa using s1 (i + 1) v (by simpa using hv)) (fun i v hv=>by simpa using s2 (i + 1) v (by simpa using hv)) e.2
    rw [e.1,ih]
  | some u :: ss,x :: xs,y :: ys,h1,h2,b1,b2,s1,s2,c=>by
    simp only [i4] at c
    have hx:=s1 0 u rfl
    have hy:=s2 0 u rfl
    have ih:=mF ss xs ys (by simpa using h1) (by simpa using h2) (fun z hz=>b1 z (by simp [hz])) (fun z hz=>b2 z (by simp [hz])) (fun i v hv=>by simpa using s1 (i + 1) v (by simpa using hv)) (fun i v hv=>by simpa using s2 (i + 1) v (by simpa using hv)) c
    simp at hx hy
    rw [hx,hy,ih]
theorem xJ {w:Web}{n:Nat}{s:List Int}(W:w.Ok n)(S:cj w)(F:bW w n s)(sym:∀ f s,S2 (fun i=>w.ties.getD i []) f s n=S2 (fun i=>w.ties.getD i []) s f n)(fr:free w.stays≤8){t:Nat}(hm:∀ k,k < t→aP w n s (k + 2)≠aP w n s k):t≤255:=by
  have:=php 256 t (fun i=>i4 w.stays (aP w n s i)) (fun i _=>by
    have h1:=qN w.stays (aP w n s i) (ba W S F i).op
    have h2:2 ^ free w.stays≤2 ^ 8:=Nat.pow_le_pow_right (by omega) fr
    omega) (fun i j hij hj e=>by
    have Fi:=ba W S F i
    have Fj:=ba W S F j
    have q:=mF w.stays _ _ (by rw [Fi.len,W.s]) (by rw [Fj.len,W.s]) Fi.op Fj.op Fi.st Fj.st e
    have l1:=C9 W S F sym (k:=i) (hm i (by omega))
    have l2:=Da W S F sym (k:=i + 1) (m:=j) (by omega)
    have l3:eN w n s i=eN w n s j:=by
      unfold eN
      show dE w (aP w n s i) (cg w n (aP w n s i)) n=dE w (aP w n s j) (cg w n (aP w n s j)) n
      rw [q]
    omega)
  omega
end Fm
set_option linter.all false
namespace Fm
theorem vm {j:Nat}:∀ {r:List (Nat × Int)},(∀ p∈r,p.1≠j)→(r.map fun p=>if p.1=j then p.2 else 0).sum=0
  | [],_=>rfl
  | p :: r,h=>by
    rw [List.map_cons,List.sum_cons,vm fun q hq=>h q (List.mem_cons_of_mem _ hq),if_neg (h p List.mem_cons_self)];rfl
theorem AW {j:Nat}{v:Int}:∀ {r:List (Nat × Int)},(r.map (·.1)).Nodup→(j,v)∈r→(r.map fun p=>if p.1=j then p.2 else 0).sum=v
  | [],_,h=>by cases h
  | p :: r,nd,h=>by
    rw [List.map_cons] at nd
    obtain⟨n1,n2⟩:=List.nodup_cons.mp nd
    rw [List.map_cons,List.sum_cons]
    rcases List.mem_cons.mp h with e|h
    · subst e
      rw [if_pos rfl,vm fun q hq z=>n1 (List.mem_map.mpr ⟨q,hq,z⟩)]
      exact Int.add_zero _
    · rw [if_neg fun z=>n1 (List.mem_map.mpr ⟨_,h,z.symm⟩),AW n2 h];exact Int.zero_add _
def mG (p:Nat × Int):List Int:=[(p.1:Int),p.2]
def nJ (x:Nat × Int):List (Nat × Int)→List (Nat × Int)
  | []=>[x]
  | y :: r=>if bw (mG x) (mG y)=true then x :: y :: r else y :: nJ x r
def d6:List (Nat × Int)→List (Nat × Int)
  | []=>[]
  | x :: r=>nJ x (d6 r)
theorem tJ (x:Nat × Int):∀ r,(nJ x r).map mG=qB (mG x) (r.map mG)
  | []=>rfl
  | y :: r=>by
    simp only [nJ,qB,List.map_cons]
    split
    · rfl
    · simp [tJ x r]
theorem pJ:∀ r,(d6 r).map mG=cc (r.map mG)
  | []=>rfl
  | x :: r=>by simp only [d6,cc,List.map_cons,tJ,pJ r]
theorem tK {x p:Nat × Int}:∀ {r},p∈nJ x r ↔ p=x∨p∈r
  | []=>by simp [nJ]
  | y :: r=>by
    simp only [nJ]
    split
    · simp
    · simp only [List.mem_cons,tK (r:=r)]
      constructor
      · rintro (h|h|h)
        · exact .inr (.inl h)
        · exact .inl h
        · exact .inr (.inr h)
      · rintro (h|h|h)
        · exact .inr (.inl h)
        · exact .inl h
        · exact .inr (.inr h)
theorem jV {p:Nat × Int}:∀ {r},p∈d6 r ↔ p∈r
  | []=>by simp [d6]
  | x :: r=>by simp only [d6,tK,jV (r:=r),List.mem_cons]
theorem tL (f:Nat × Int→Int)(x:Nat × Int):∀ r,((nJ x r).map f).sum=f x + (r.map f).sum
  | []=>by simp [nJ]
  | y :: r=>by
    simp only [nJ]
    split
    · simp
    · simp [tL f x r];omega
theorem pK (f:Nat × Int→Int):∀ r,((d6 r).map f).sum=(r.map f).sum
  | []=>rfl
  | x :: r=>by simp [d6,tL,pK f r]
def eT (p:Nat × Int):Int × D:=((p.1:Int),.int p.2)
theorem yB {l:List (Nat × Int)}{k:Nat}(h:∀ p∈l,p.1≠k):iW (l.map eT) k=none:=by
  unfold iW
  rw [List.find?_eq_none.mpr]
  · rfl
  · intro x hx
    obtain⟨p,hp,rfl⟩:=List.mem_map.mp hx
    have hne:=h p hp
    have : ¬ ((p.1:Int)=(k:Int)):=fun z=>hne (by omega)
    show ¬ (decide ((p.1:Int)=(k:Int))=true)
    rw [decide_eq_true_eq]
    exact this
theorem jp:∀ l:List (Nat × Int),dC (l.map eT)=some (l.map mG)
  | []=>rfl
  | p :: l=>by
    have ih:=jp l
    simp only [List.map_cons]
    show (dC (l.map eT)).map _=_
    rw [ih]
    rfl
theorem Cl {l:List (Nat × Int)}(nd:(l.map (·.1)).Nodup):(l.map mG).Nodup:=by
  rw [List.nodup_iff_pairwise_ne,List.pairwise_map] at nd ⊢
  exact nd.imp fun {a b} h e=>h (by have:=(List.cons.inj e).1;omega)
theorem vn {l:List Nat}{n:Nat}(nd:l.Nodup)(h:∀ x∈l,x < n):l.length≤n:=by
  induction n generalizing l with
  | zero=>match l,h with
    | [],_=>exact Nat.le_refl _
    | x :: _,h=>exact absurd (h x List.mem_cons_self) (Nat.not_lt_zero _)
  | succ n ih =>
    by_cases m:n∈l
    · have:=ih (nd.erase n) fun x hx=>by
        have z:=(List.Nodup.mem_erase_iff nd).mp hx
        exact Nat.lt_of_le_of_ne (Nat.le_of_lt_succ (h x z.2)) z.1
      rw [List.length_erase_of_mem m] at this
      exact Nat.le_add_of_sub_le this
    · exact Nat.le_succ_of_le (ih nd fun x hx=>Nat.lt_of_le_of_ne (Nat.le_of_lt_succ (h x hx)) fun z=>m (z ▸ hx))
theorem xK {k:Nat}{v:Int}:∀ {r:List (Nat × Int)},(r.map (·.1)).Nodup→(k,v)∈r→iW (r.map eT) (k:Int)=some (.int v)
  | [],_,h=>by cases h
  | p :: r,nd,h=>by
    rw [List.map_cons] at nd
    obtain⟨n1,n2⟩:=List.nodup_cons.mp nd
    by_cases e:p.1=k
    · rcases List.mem_cons.mp h with z|z
      · subst z
        unfold iW
        rw [List.map_cons,List.find?_cons_of_pos (by exact decide_eq_true rfl)];rfl
      · exact absurd (List.mem_map.mpr ⟨_,z,e.symm⟩) n1
    · rcases List.mem_cons.mp h with z|z
      · exact absurd (congrArg Prod.fst z).symm e
      · have:=xK n2 z
        unfold iW at this ⊢
        rw [List.map_cons,List.find?_cons_of_neg (by
          show ¬ decide ((p.1:Int)=(k:Int))=true
          rw [decide_eq_true_eq]
          exact fun z=>e (Int.ofNat.inj z))]
        exact this
def val (r:List (Nat × Int)) (m:Nat):Int:=(r.map fun p=>if p.1=m then p.2 else 0).sum
theorem yC (r:List (Nat × Int))(m:Nat):val (d6 r) m=val r m:=pK _ _
theorem AX (p:Nat × Int)(r:List (Nat × Int))(m:Nat):val (p :: r) m=(if p.1=m then p.2 else 0) + val r m:=by unfold val;rw [List.map_cons,List.sum_cons]
theorem dR {f g:Nat→Int}:∀ n,(∀ j,j < n→f j=g j)→br f n=br g n
  | 0,_=>rfl
  | n + 1,h=>by rw [br,br,dR n fun j hj=>h j (by omega),h n (by omega)]
theorem xL {f g:Nat→Int}:∀ n,(∀ j,j < n→f j≤g j)→br f n≤br g n
  | 0,_=>Int.le_refl _
  | n + 1,h=>by
    have a:=xL n fun j hj=>h j (by omega)
    have b:=h n (by omega)
    rw [br,br];omega
theorem jW {f:Nat→Int}:∀ n,(∀ j,j < n→f j=0)→br f n=0
  | 0,_=>rfl
  | n + 1,h=>by rw [br,jW n fun j hj=>h j (by omega),h n (by omega)];rfl
theorem jX {f g:Nat→Int}:∀ n,br (fun j=>f j + g j) n=br f n + br g n
  | 0=>rfl
  | n + 1=>by rw [br,br,br,jX n];omega
theorem pL {f:Nat→Int}{c:Int}:∀ n,br (fun j=>f j * c) n=br f n * c
  | 0=>by rw [br,br,Int.zero_mul]
  | n + 1=>by rw [br,br,pL n,Int.add_mul]
theorem iu {f:Nat→Int}{a:Nat}:∀ n,(∀ j,j < n→j≠a→f j=0)→br f n=if a < n then f a else 0
  | 0,_=>rfl
  | n + 1,h=>by
    rw [br,iu n fun j hj=>h j (by omega)]
    by_cases e:a=n
    · rw [if_neg (by omega),if_pos (by omega),e];omega
    · rw [h n (by omega) (fun z=>e z.symm)]
      by_cases l:a < n
      · rw [if_pos l,if_pos (by omega)];omega
      · rw [if_neg l,if_neg (by omega)];rfl
theorem pM {F:Nat→Nat→Int}{k:Nat}:∀ n,br (fun i=>br (fun m=>F i m) k) n=br (fun m=>br (fun i=>F i m) n) k
  | 0=>(jW k fun _ _=>rfl).symm
  | n + 1=>by
    rw [br,pM n,← jX]
    exact dR k fun j _=>rfl
theorem qO {n:Nat}{f:Nat→Int}:∀ {r:List (Nat × Int)},(∀ p∈r,p.1 < n)→(r.map fun p=>p.2 * f p.1).sum=br (fun m=>val r m * f m) n
  | [],_=>(jW n fun j _=>by show (0:Int) * f j=0;exact Int.zero_mul _).symm
  | p :: r,h=>by
    rw [List.map_cons,List.sum_cons,qO fun q hq=>h q (List.mem_cons_of_mem _ hq)]
    have e:br (fun m=>val (p :: r) m * f m) n=br (fun m=>(if p.1=m then p.2 else 0) * f m) n + br (fun m=>val r m * f m) n:=by
      rw [← jX]
      exact dR n fun j _=>by rw [AX,Int.add_mul]
    have e2:=iu (f:=fun m=>(if p.1=m then p.2 else 0) * f m) (a:=p.1) n (fun j _ hj=>by show (if p.1=j then p.2 else 0) * f j=0;rw [if_neg (Ne.symm hj),Int.zero_mul])
    rw [e,e2,if_pos (h p List.mem_cons_self)]
    show _=(if p.1=p.1 then p.2 else 0) * f p.1 + _
    rw [if_pos rfl]
theorem tM {α : Type}(g : α → Int)(c:Int):∀ l:List α,(l.map fun p=>g p * c).sum=(l.map g).sum * c
  | []=>by simp
  | x :: l=>by rw [List.map_cons,List.sum_cons,List.map_cons,List.sum_cons,tM g c l,Int.add_mul]
theorem qP {n:Nat}{R:Nat→List (Nat × Int)}(f s:Nat→Int):∀ k,(∀ i,i < k → ∀ p∈R i,p.1 < n)→S2 R f s k=br (fun i=>br (fun m=>val (R i) m * f m) n * s i) k
  | 0,_=>rfl
  | k + 1,h=>by
    rw [S2,br,qP f s k fun i hi=>h i (by omega),tM,qO (h k (by omega))]
theorem Ew {n:Nat}{R:Nat→List (Nat × Int)}(lt:∀ i,i < n → ∀ p∈R i,p.1 < n)(sy:∀ i m,i < n→m < n→val (R i) m=val (R m) i)(f s:Nat→Int):S2 R f s n=S2 R s f n:=by
  rw [qP f s n lt,qP s f n lt]
  have e:∀ f s:Nat→Int,br (fun i=>br (fun m=>val (R i) m * f m) n * s i) n=br (fun i=>br (fun m=>val (R i) m * f m * s i) n) n:=fun f s=>dR n fun i _=>(pL n).symm
  rw [e,e,pM]
  refine dR n fun i hi=>dR n fun m hm => ?_
  rw [sy m i hm hi,Int.mul_assoc,Int.mul_assoc,Int.mul_comm (f i)]
def dl (a:Nat):Nat→Int:=fun k=>if k=a then 1 else 0
theorem AY {n:Nat}{R:Nat→List (Nat × Int)}(lt:∀ i,i < n → ∀ p∈R i,p.1 < n){i m:Nat}(hi:i < n)(hm:m < n):S2 R (dl m) (dl i) n=val (R i) m:=by
  rw [qP _ _ n lt,iu (a:=i) n (fun j _ hj=>by unfold dl;rw [if_neg hj,Int.mul_zero]),if_pos hi,iu (a:=m) n (fun j _ hj=>by unfold dl;rw [if_neg hj,Int.mul_zero]),if_pos hm]
  unfold dl
  rw [if_pos rfl,if_pos rfl,Int.mul_one,Int.mul_one]
theorem Cm {n:Nat}{R:Nat→List (Nat × Int)}(lt:∀ i,i < n → ∀ p∈R i,p.1 < n)(sym:∀ f s,S2 R f s n=S2 R s f n){i m:Nat}(hi:i < n)(hm:m < n):val (R i) m=val (R m) i:=by
  rw [← AY lt hi hm,← AY lt hm hi,sym]
theorem mH {n:Nat}{r:List (Nat × Int)}(lt:∀ p∈r,p.1 < n){s:List Int}(B:mD s):bq r s=br (fun m=>val r m * s.getD m 0) n:=by
  rw [pF fun p _=>B p.1]
  exact qO (f:=fun m=>s.getD m 0) lt
theorem Cn {x y a b:Int}(x0:0≤x)(xy:x≤y)(A:a=0∨a=1)(Bb:b=0∨b=1)(ab:a≤b):x * a≤y * b:=by
  rcases A with rfl|rfl<;>rcases Bb with rfl|rfl<;>omega
theorem tN {n:Nat}{r r':List (Nat × Int)}(lt:∀ p∈r,p.1 < n)(lt':∀ p∈r',p.1 < n)(h:∀ m,m < n→0≤val r m∧val r m≤val r' m){a b:List Int}(A:mD a)(B:mD b)(le:LeS a b):bq r a≤bq r' b:=by
  rw [mH lt A,mH lt' B]
  exact xL n fun m hm=>Cn (h m hm).1 (h m hm).2 (A m) (B m) (le m)
theorem mI {r:List (Nat × Int)}(nd:(r.map (·.1)).Nodup){m:Nat}{x:Int}(h:(m,x)∈r):val r m=x:=AW nd h
theorem qQ {r:List (Nat × Int)}{m:Nat}(h:∀ p∈r,p.1≠m):val r m=0:=vm h
theorem AZ {r:List (Nat × Int)}(nd:(r.map (·.1)).Nodup)(m:Nat):(iW (r.map eT) (m:Int)).getD (.int 0)=.int (val r m):=by
  by_cases c:∃ x,(m,x)∈r
  · obtain⟨x,hx⟩:=c
    rw [xK nd hx,mI nd hx];rfl
  · have h:∀ p∈r,p.1≠m:=fun p hp z=>c ⟨p.2,by rw [← z];exact hp⟩
    rw [yB h,qQ h];rfl
def fw (l:List (Nat × Int)) (m:Nat) (x:Int):List (Nat × Int):=if (l.any fun p=>decide (p.1=m))=true then l.map (fun p=>if p.1=m then (p.1,x) else p) else l++[(m,x)]
theorem pN (l:List (Nat × Int))(m:Nat)(x:Int):u3 (l.map eT) (m:Int) (.int x)=(fw l m x).map eT:=by
  unfold u3 fw
  have e:((l.map eT).any fun p=>decide (p.1=(m:Int)))=l.any fun p=>decide (p.1=m):=by
    rw [List.any_map]
    congr 1
    funext p
    show decide ((p.1:Int)=(m:Int))=decide (p.1=m)
    by_cases z:p.1=m
    · rw [decide_eq_true z,decide_eq_true (by rw [z])]
    · rw [decide_eq_false z,decide_eq_false (show ¬ ((p.1:Int)=(m:Int)) from fun y=>z (Int.ofNat.inj y))]
  rw [e]
  split
  · rw [List.map_map,List.map_map]
    refine List.map_congr_left fun p _ => ?_
    show (if (p.1:Int)=(m:Int) then ((p.1:Int),D.int x) else eT p)=eT (if p.1=m then (p.1,x) else p)
    by_cases z:p.1=m
    · rw [if_pos z,if_pos (by rw [z])];rfl
    · rw [if_neg z,if_neg (show ¬ ((p.1:Int)=(m:Int)) from fun y=>z (Int.ofNat.inj y))]
  · rw [List.map_append];rfl
theorem yD (l:List (Nat × Int))(m:Nat)(x:Int):(fw l m x).map (·.1)=if (l.any fun p=>decide (p.1=m))=true then l.map (·.1) else l.map (·.1)++[m]:=by
  unfold fw
  split
  · rw [List.map_map]
    refine List.map_congr_left fun p _ => ?_
    show (if p.1=m then (p.1,x) else p).1=p.1
    split<;>rfl
  · rw [List.map_append];rfl
theorem xM {l:List (Nat × Int)}{m:Nat}:(l.any fun p=>decide (p.1=m))=true ↔ m∈l.map (·.1):=by
  rw [List.any_eq_true,List.mem_map]
  exact⟨fun ⟨p,hp,e⟩=>⟨p,hp,of_decide_eq_true e⟩,fun ⟨p,hp,e⟩=>⟨p,hp,decide_eq_true e⟩⟩
theorem qR {l:List (Nat × Int)}(nd:(l.map (·.1)).Nodup)(m:Nat)(x:Int):((fw l m x).map (·.1)).Nodup:=by
  rw [yD]
  split
  · exact nd
  · rename_i c
    rw [xM] at c
    rw [List.nodup_append]
    exact⟨nd,by simp,fun a ha b hb e=>by rw [List.mem_singleton.mp hb] at e;exact c (e ▸ ha)⟩
theorem gY {l:List (Nat × Int)}{m:Nat}{x:Int}{p:Nat × Int}(h:p∈fw l m x):p∈l∨p=(m,x):=by
  unfold fw at h
  split at h
  · obtain⟨q,hq,e⟩:=List.mem_map.mp h
    by_cases z:q.1=m
    · rw [if_pos z] at e;exact .inr (by rw [← e,z])
    · rw [if_neg z] at e;exact .inl (e ▸ hq)
  · rcases List.mem_append.mp h with h|h
    · exact .inl h
    · exact .inr (List.mem_singleton.mp h)
theorem Co {l:List (Nat × Int)}{m:Nat}{x:Int}:(m,x)∈fw l m x:=by
  unfold fw
  split
  · rename_i c
    obtain⟨p,hp,e⟩:=List.mem_map.mp (xM.mp c)
    exact List.mem_map.mpr ⟨p,hp,by show (if p.1=m then (p.1,x) else p)=(m,x);rw [if_pos e];show (p.1,x)=(m,x);rw [show p.1=m from e]⟩
  · exact List.mem_append_right _ List.mem_cons_self
theorem yE {l:List (Nat × Int)}{m:Nat}{x:Int}{p:Nat × Int}(h:p∈l)(ne:p.1≠m):p∈fw l m x:=by
  unfold fw
  split
  · exact List.mem_map.mpr ⟨p,h,if_neg ne⟩
  · exact List.mem_append_left _ h
theorem tO {l:List (Nat × Int)}(nd:(l.map (·.1)).Nodup)(m:Nat)(x:Int)(k:Nat):val (fw l m x) k=if k=m then x else val l k:=by
  have nd2:=qR nd m x
  by_cases e:k=m
  · rw [if_pos e,e];exact mI nd2 Co
  · rw [if_neg e]
    by_cases c:∃ y,(k,y)∈l
    · obtain⟨y,hy⟩:=c
      rw [mI nd hy];exact mI nd2 (yE hy e)
    · have h1:∀ p∈l,p.1≠k:=fun p hp z=>c ⟨p.2,by rw [← z];exact hp⟩
      rw [qQ h1]
      refine qQ fun p hp z => ?_
      rcases gY hp with q|q
      · exact h1 p q z
      · rw [q] at z;exact e z.symm
structure DR (n:Nat) (V v:Nat→Nat→Int) (L:Nat→List (Nat × Int)):Prop where
  nd:∀ i,i < n→((L i).map (·.1)).Nodup
  lt:∀ i,i < n → ∀ p∈L i,p.1 < n
  wt:∀ i,i < n → ∀ p∈L i,1≤p.2∧p.2≤400
  va:∀ i m,i < n→m < n→val (L i) m=v i m
  sy:∀ i m,i < n→m < n→v i m=v m i
  ge:∀ i m,i < n→m < n→V i m≤v i m
theorem DR.bd {n:Nat}{V v:Nat→Nat→Int}{L:Nat→List (Nat × Int)}(d:DR n V v L){i m:Nat}(hi:i < n)(hm:m < n):0≤v i m∧v i m≤400:=by
  rw [← d.va i m hi hm]
  by_cases c:∃ x,(m,x)∈L i
  · obtain⟨x,hx⟩:=c
    have:=d.wt i hi _ hx
    rw [mI (d.nd i hi) hx]
    exact⟨Int.le_trans (by decide) this.1,this.2⟩
  · rw [qQ fun p hp z=>c ⟨p.2,by rw [← z];exact hp⟩];exact⟨by decide,by decide⟩
def vp (L:Nat→List (Nat × Int)) (k j:Nat) (x:Int):Nat→List (Nat × Int):=fun i=>if i=k then fw (L k) j x else if i=j then fw (L j) k x else L i
def Cp (v:Nat→Nat→Int) (k j:Nat) (x:Int):Nat→Nat→Int:=fun i m=>if (i=k∧m=j)∨(i=j∧m=k) then x else v i m
theorem DR.put {n:Nat}{V v:Nat→Nat→Int}{L:Nat→List (Nat × Int)}(d:DR n V v L){k j:Nat}(hk:k < n)(hj:j < n)(kj:j≠k){x:Int}(x1:1≤x)(x4:x≤400)(ge:v k j≤x):DR n V (Cp v k j x) (vp L k j x):=by
  refine⟨fun i hi => ?_,fun i hi p hp => ?_,fun i hi p hp => ?_,fun i m hi hm => ?_,fun i m hi hm => ?_,fun i m hi hm => ?_⟩
  · unfold vp
    split
    · exact qR (d.nd k hk) _ _
    · split
      · exact qR (d.nd j hj) _ _
      · exact d.nd i hi
  · unfold vp at hp
    split at hp
    · rcases gY hp with q|q
      · exact d.lt k hk p q
      · rw [q];exact hj
    · split at hp
      · rcases gY hp with q|q
        · exact d.lt j hj p q
        · rw [q];exact hk
      · exact d.lt i hi p hp
  · unfold vp at hp
    split at hp
    · rcases gY hp with q|q
      · exact d.wt k hk p q
      · rw [q];exact⟨x1,x4⟩
    · split at hp
      · rcases gY hp with q|q
        · exact d.wt j hj p q
        · rw [q];exact⟨x1,x4⟩
      · exact d.wt i hi p hp
  · unfold vp Cp
    by_cases e1:i=k
    · subst e1
      rw [if_pos rfl,tO (d.nd i hi)]
      by_cases e2:m=j
      · rw [if_pos e2,if_pos (.inl ⟨rfl,e2⟩)]
      · rw [if_neg e2,if_neg (fun z=>z.elim (fun z=>e2 z.2) fun z=>kj z.1.symm),d.va i m hi hm]
    · rw [if_neg e1]
      by_cases e2:i=j
      · subst e2
        rw [if_pos rfl,tO (d.nd i hi)]
        by_cases e3:m=k
        · rw [if_pos e3,if_pos (.inr ⟨rfl,e3⟩)]
        · rw [if_neg e3,if_neg (fun z=>z.elim (fun z=>e1 z.1) fun z=>e3 z.2),d.va i m hi hm]
      · rw [if_neg e2,if_neg (fun z=>z.elim (fun z=>e1 z.1) fun z=>e2 z.1),d.va i m hi hm]
  · unfold Cp
    by_cases c:(i=k∧m=j)∨(i=j∧m=k)
    · rw [if_pos c,if_pos (c.elim (fun z=>.inr ⟨z.2,z.1⟩) fun z=>.inl ⟨z.2,z.1⟩)]
    · rw [if_neg c,if_neg (fun z=>c (z.elim (fun z=>.inr ⟨z.2,z.1⟩) fun z=>.inl ⟨z.2,z.1⟩)),d.sy i m hi hm]
  · unfold Cp
    split
    · rename_i c
      rcases c with ⟨rfl,rfl⟩|⟨rfl,rfl⟩
      · exact Int.le_trans (d.ge i m hi hm) ge
      · rw [d.sy m i hm hi] at ge
        exact Int.le_trans (d.ge i m hi hm) ge
    · exact d.ge i m hi hm
theorem Cq {n:Nat}(hn:n≤30){l:List (Nat × Int)}(nd:(l.map (·.1)).Nodup)(lt:∀ p∈l,p.1 < n){h:Hd}{k:Nat}(hk:h[k]? = some (.dct (l.map eT))):cn (gR (aa 0)) [some (.ref k)] h=.ok (dM (d6 l)) h:=by
  have l64:(l.map mG).length < 64:=by
    have:=vn nd (n:=n) (fun x hx=>by
      obtain⟨p,hp,rfl⟩:=List.mem_map.mp hx
      exact lt p hp)
    rw [List.length_map] at this ⊢
    omega
  have e:((cc (l.map mG)).map qC)=(d6 l).map d9:=by rw [← pJ,List.map_map];rfl
  simp only [cn,gR,aa,slot,List.getElem?_cons_zero,aM,hk,jp,if_pos (And.intro l64 (Cl nd)),e,dM]
theorem A0 {n:Nat}(hn:n≤30){r:List (Nat × Int)}(ris:r.Pairwise fun p q=>p.1 < q.1)(lt:∀ p∈r,p.1 < n)(h:Hd):ma (aa 0) [some (dM r)] h=.ok (.ref h.length) (h++[.dct (r.map eT)]):=by
  have pr:∀ r:List (Nat × Int),f6 (r.map d9)=some (r.map fun p=>((p.1:Int),p.2)):=fun r=>by
    induction r with
    | nil=>rfl
    | cons p r ih=>simp only [List.map_cons,d9,f6,ih,Option.map_some]
  have nd:(r.map (·.1)).Nodup:=by
    rw [List.nodup_iff_pairwise_ne,List.pairwise_map]
    exact ris.imp fun {a b} h=>Nat.ne_of_lt h
  have len:r.length≤n:=by
    have:=vn nd (n:=n) (fun x hx=>by
      obtain⟨p,hp,rfl⟩:=List.mem_map.mp hx
      exact lt p hp)
    rwa [List.length_map] at this
  have nd2:((r.map fun p=>((p.1:Int),p.2)).map (·.1)).Nodup:=by
    rw [List.map_map,List.nodup_iff_pairwise_ne,List.pairwise_map]
    rw [List.nodup_iff_pairwise_ne,List.pairwise_map] at nd
    exact nd.imp fun {a b} h z=>h (Int.ofNat.inj z)
  show tt (.tup (r.map d9)) h=_
  simp only [tt,pr]
  rw [if_pos ⟨by rw [List.length_map];omega,nd2⟩,List.map_map]
  rfl
end Fm
set_option linter.all false
namespace Fm
structure SH (B n:Nat) (h:Hd):Prop where
  st:∀ i,i < n → ∃ y,h[B + i]? = some (.lst [.int y])
  sts:h[B + n]? = some (.lst ((List.range n).map fun i=>.ref (B + i)))
theorem SH.set {B n i:Nat}{h:Hd}(q:SH B n h)(hi:i < n)(y:Int):SH B n (h.set (B + i) (.lst [.int y])) where
  st:=fun j hj=>by
    obtain⟨z,ez⟩:=q.st j hj
    by_cases ij:i=j
    · subst ij;exact⟨y,List.getElem?_set_self (List.getElem?_eq_some_iff.mp ez).1⟩
    · exact⟨z,by rw [List.getElem?_set_ne fun q=>ij (Nat.add_left_cancel q)];exact ez⟩
  sts:=by rw [List.getElem?_set_ne (by omega)];exact q.sts
structure HV (n B A:Nat) (h:Hd) (L:Nat→List (Nat × Int)) (h':Hd):Prop where
  len:h'.length=A + n + 1
  sh:SH B n h'
  ot:∀ j,j < A→(j < B∨B + n≤j)→h'[j]? = h[j]?
  dc:∀ i,i < n→h'[A + i]? = some (.dct ((L i).map eT))
  rf:h'[A + n]? = some (.lst ((List.range n).map fun i=>.ref (A + i)))
section
variable {n B A:Nat} {h:Hd} {L:Nat→List (Nat × Int)} {h':Hd}
theorem HV.setS (V:HV n B A h L h')(hB:B + n < A){i:Nat}(hi:i < n)(y:Int):HV n B A h L (h'.set (B + i) (.lst [.int y])) where
  len:=by rw [List.length_set];exact V.len
  sh:=V.sh.set hi y
  ot:=fun j hj hb=>by rw [List.getElem?_set_ne (by omega)];exact V.ot j hj hb
  dc:=fun j hj=>by rw [List.getElem?_set_ne (by omega)];exact V.dc j hj
  rf:=by rw [List.getElem?_set_ne (by omega)];exact V.rf
theorem HV.setD (V:HV n B A h L h')(hB:B + n < A){i:Nat}(hi:i < n)(l:List (Nat × Int)):HV n B A h (fun j=>if j=i then l else L j) (h'.set (A + i) (.dct (l.map eT))) where
  len:=by rw [List.length_set];exact V.len
  sh:=⟨fun j hj=>by rw [List.getElem?_set_ne (by omega)];exact V.sh.st j hj,by rw [List.getElem?_set_ne (by omega)];exact V.sh.sts⟩
  ot:=fun j hj hb=>by rw [List.getElem?_set_ne (by omega)];exact V.ot j hj hb
  dc:=fun j hj=>by
    by_cases e:j=i
    · subst e
      rw [List.getElem?_set_self (by rw [V.len];omega),if_pos rfl]
    · rw [List.getElem?_set_ne (by omega),if_neg e];exact V.dc j hj
  rf:=by rw [List.getElem?_set_ne (by omega)];exact V.rf
end
theorem Cr {a k d:EF}{σ:Sd}{h:Hd}{n:Nat}{j:Int}{z:D}{l:List (Int × D)}(p:a σ h=.ok (.ref n) h)(q:k σ h=.ok (.int j) h)(r:d σ h=.ok z h)(s:h[n]? = some (.dct l)):pz a k d σ h=.ok ((iW l j).getD z) h:=by
  unfold pz
  simp only [p,aM,s,q,r]
noncomputable abbrev XV (w:D) (B n A:Nat) (a3 a4 a5 a6:Option D):Sd:=[some w,some (.ref (B + n)),some (.ref (A + n)),a3,a4,a5,a6]
section
variable {n B A:Nat} {h:Hd} {w:D} {V:Nat→Nat→Int}
theorem dig {h0:Hd}(S:SH B n h0){k:Nat}(hk:k < n)(m:Int)(m0:0 < m)(m1:m < 2 ^ 250)(σ:Sd){e:EF}(pe:e σ h0=.ok (.ref (B + k)) h0):∃ x y:Int,ay ax (ae e (ae (fC (.int m)) aA)) σ h0=.ok (.int x) (h0.set (B + k) (.lst [.int y]))∧0≤x∧x < m:=by
  obtain⟨x,ex⟩:=S.st k hk
  exact⟨x % m,x / m,aI (c6 pe rfl) (bH ex m0 m1),Int.emod_nonneg x (Int.ne_of_gt m0),Int.emod_lt_of_pos x m0⟩
theorem Cs (hB:B + n < A){v:Nat→Nat→Int}{L:Nat→List (Nat × Int)}{h0:Hd}(H:HV n B A h L h0)(R:DR n V v L)(n30:n≤30){k j:Nat}(hk:k < n)(hj:j < k)(a5 a6:Option D) :
    ∃ v' L' b5 b6 h',eh (XV w B n A (some (.int k)) (some (.int j)) a5 a6) h0=.nx (XV w B n A (some (.int k)) (some (.int j)) b5 b6) h'∧HV n B A h L' h'∧DR n V v' L':=by
  have hjn:j < n:=Nat.lt_trans hj hk
  have at1:∀ (σ5 σ6:Option D) {g:Hd},HV n B A h L g→fAt (aa 1) (aa 3) (XV w B n A (some (.int k)) (some (.int j)) σ5 σ6) g=.ok (.ref (B + k)) g:=fun σ5 σ6 {g} G=>bt rfl rfl (bQ G.sh.sts) (dG hk)
  have at2:∀ (σ5 σ6:Option D) {g:Hd} {L2:Nat→List (Nat × Int)},HV n B A h L2 g→fAt (aa 2) (aa 3) (XV w B n A (some (.int k)) (some (.int j)) σ5 σ6) g=.ok (.ref (A + k)) g:=fun σ5 σ6 {g L2} G=>bt rfl rfl (bQ G.rf) (dG hk)
  have at3:∀ (σ5 σ6:Option D) {g:Hd} {L2:Nat→List (Nat × Int)},HV n B A h L2 g→fAt (aa 2) (aa 4) (XV w B n A (some (.int k)) (some (.int j)) σ5 σ6) g=.ok (.ref (A + j)) g:=fun σ5 σ6 {g L2} G=>bt rfl rfl (bQ G.rf) (dG hjn)
  obtain⟨way,y1,q1,w0,w1⟩:=dig H.sh hk 8 (by decide) (by decide) (XV w B n A (some (.int k)) (some (.int j)) a5 a6) (at1 a5 a6 H)
  have H1:=H.setS hB hk y1
  obtain⟨h1,hh1⟩ : ∃ h1,h1=h0.set (B + k) (.lst [.int y1]):=⟨_,rfl⟩
  rw [← hh1] at H1 q1
  have s1:aF (gN 5) (ay ax (ae (fAt (aa 1) (aa 3)) (ae (fC (.int 8)) aA))) (XV w B n A (some (.int k)) (some (.int j)) a5 a6) h0=.nx (XV w B n A (some (.int k)) (some (.int j)) (some (.int way)) a6) h1:=a0 q1
  have vb:=R.bd hk hjn
  have s2:aF (gN 6) (pz (fAt (aa 2) (aa 3)) (aa 4) (fC (.int 0))) (XV w B n A (some (.int k)) (some (.int j)) (some (.int way)) a6) h1=.nx (XV w B n A (some (.int k)) (some (.int j)) (some (.int way)) (some (.int (v k j)))) h1:=by
    have e:=Cr (at2 (some (.int way)) a6 H1) (k:=aa 4) rfl (d:=fC (.int 0)) rfl (H1.dc k hk)
    rw [AZ (R.nd k hk) j,R.va k j hk hjn] at e
    exact a0 e
  have s3:∃ (x:Int) (h2:Hd),sIf (tE (al oEq (aa 5) (fC (.int 0)))) (aF (gN 6) (yk (fC (.int 400)) (al cA (al cA (aa 6) (fC (.int 1))) (ay ax (ae (fAt (aa 1) (aa 3)) (ae (fC (.int 9)) aA)))))) cK (XV w B n A (some (.int k)) (some (.int j)) (some (.int way)) (some (.int (v k j)))) h1=.nx (XV w B n A (some (.int k)) (some (.int j)) (some (.int way)) (some (.int x))) h2∧HV n B A h L h2∧v k j≤x∧x≤400:=by
    by_cases c:way=0
    · obtain⟨d,y2,q2,d0,d1⟩:=dig H1.sh hk 9 (by decide) (by decide) (XV w B n A (some (.int k)) (some (.int j)) (some (.int way)) (some (.int (v k j)))) (at1 (some (.int way)) (some (.int (v k j))) H1)
      refine⟨if v k j + 1 + d < 400 then v k j + 1 + d else 400,_,(qF (bP (aC rfl rfl (iY c)))).trans (a0 (Eo rfl (aC (aC rfl rfl rfl) q2 rfl))),H1.setS hB hk y2,?_,?_⟩
      · split<;>omega
      · split<;>omega
    · exact⟨v k j,h1,(eO (bP (aC rfl rfl (iZ c)))).trans rfl,H1,Int.le_refl _,vb.2⟩
  obtain⟨x,h2,s3,H2,ge,x4⟩:=s3
  by_cases c:0 < x
  · have szk:∀ {l:List (Nat × Int)},(l.map (·.1)).Nodup→(∀ p∈l,p.1 < n)→(l.map eT).length < SZ:=fun {l} nd lt=>by
      have:=vn nd (n:=n) (fun x hx=>by
        obtain⟨p,hp,rfl⟩:=List.mem_map.mp hx
        exact lt p hp)
      rw [List.length_map] at this ⊢
      exact Nat.lt_of_le_of_lt (Nat.le_trans this n30) (by decide)
    have p1:l8 (fAt (aa 2) (aa 3)) (aa 4) (aa 6) (XV w B n A (some (.int k)) (some (.int j)) (some (.int way)) (some (.int x))) h2=.nx (XV w B n A (some (.int k)) (some (.int j)) (some (.int way)) (some (.int x))) (h2.set (A + k) (.dct ((fw (L k) j x).map eT))):=by
      rw [← pN]
      exact xw rfl (at2 _ _ H2) rfl (H2.dc k hk) (szk (R.nd k hk) (R.lt k hk))
    have H3:=H2.setD hB hk (fw (L k) j x)
    obtain⟨h3,hh3⟩ : ∃ h3,h3=h2.set (A + k) (.dct ((fw (L k) j x).map eT)):=⟨_,rfl⟩
    rw [← hh3] at p1 H3
    have dj:h3[A + j]? = some (.dct ((L j).map eT)):=by
      have:=H3.dc j hjn
      rwa [if_neg (Nat.ne_of_lt hj)] at this
    have p2:l8 (fAt (aa 2) (aa 4)) (aa 3) (aa 6) (XV w B n A (some (.int k)) (some (.int j)) (some (.int way)) (some (.int x))) h3=.nx (XV w B n A (some (.int k)) (some (.int j)) (some (.int way)) (some (.int x))) (h3.set (A + j) (.dct ((fw (L j) k x).map eT))):=by
      rw [← pN]
      exact xw rfl (at3 _ _ H3) rfl dj (szk (R.nd j hjn) (R.lt j hjn))
    have H4:=H3.setD hB hjn (fw (L j) k x)
    have eL:(fun i=>if i=j then fw (L j) k x else if i=k then fw (L k) j x else L i)=vp L k j x:=by
      funext i
      unfold vp
      by_cases e:i=k
      · rw [if_pos e,if_pos e,if_neg (by omega)]
      · rw [if_neg e,if_neg e]
    rw [eL] at H4
    exact⟨_,_,_,_,_,(aG s1).trans ((aG s2).trans ((aG s3).trans ((qF (bP (aC rfl rfl (AC c)))).trans ((aG p1).trans p2)))),H4,R.put hk hjn (Nat.ne_of_lt hj) c x4 ge⟩
  · exact⟨_,_,_,_,_,(aG s1).trans ((aG s2).trans ((aG s3).trans ((eO (bP (aC rfl rfl (qI c)))).trans rfl))),H2,R⟩
theorem A1 (hB:B + n < A){v:Nat→Nat→Int}{L:Nat→List (Nat × Int)}{h0:Hd}(H:HV n B A h L h0)(R:DR n V v L)(n30:n≤30){k:Nat}(hk:k < n)(a4 a5 a6:Option D) :
    ∃ v' L' b4 b5 b6 h',fX (bM (aa 3)) (gN 4) eh (XV w B n A (some (.int k)) a4 a5 a6) h0=.nx (XV w B n A (some (.int k)) b4 b5 b6) h'∧HV n B A h L' h'∧DR n V v' L':=by
  obtain⟨σ',h',k1,v',L',b4,b5,b6,k2,k3,k4⟩:=ce (P:=fun _ σ h'=>∃ v L a4 a5 a6,σ = XV w B n A (some (.int k)) a4 a5 a6∧HV n B A h L h'∧DR n V v L) (g:=none) (k:=0) (all:=(List.range k).map fun k:Nat=>D.int k) (fun _ _ _ _=>trivial)
    (xs:=(List.range k).map fun k:Nat=>D.int k) (tg:=gN 4) (σ:=XV w B n A (some (.int k)) a4 a5 a6) (h:=h0) (b:=eh) (by
      rintro i x σ g hx ⟨v,L,a4,a5,a6,rfl,G,Q⟩
      obtain⟨hi,rfl⟩:=cD hx
      obtain⟨v',L',b5,b6,g',q,G',Q'⟩:=Cs (w:=w) hB G Q n30 hk hi a5 a6
      exact⟨_,rfl,_,_,q,_,_,_,_,_,rfl,G',Q'⟩) ⟨_,_,_,_,_,rfl,H,R⟩
  rw [k2] at k1
  exact⟨v',L',b4,b5,b6,h',jS (d5 rfl (by omega)) k1,k3,k4⟩
theorem A2 (hB:B + n < A){v:Nat→Nat→Int}{L:Nat→List (Nat × Int)}{h0:Hd}(H:HV n B A h L h0)(R:DR n V v L)(n30:n≤30) :
    ∃ v' L' b3 b4 b5 b6 h',fX (bM (c5 (lOf (aa 2)))) (gN 3) gj (XV w B n A none none none none) h0=.nx (XV w B n A b3 b4 b5 b6) h'∧HV n B A h L' h'∧DR n V v' L':=by
  obtain⟨σ',h',k1,v',L',b3,b4,b5,b6,k2,k3,k4⟩:=ce (P:=fun _ σ h'=>∃ v L a3 a4 a5 a6,σ = XV w B n A a3 a4 a5 a6∧HV n B A h L h'∧DR n V v L) (g:=none) (k:=0) (all:=(List.range n).map fun k:Nat=>D.int k) (fun _ _ _ _=>trivial)
    (xs:=(List.range n).map fun k:Nat=>D.int k) (tg:=gN 3) (σ:=XV w B n A none none none none) (h:=h0) (b:=gj) (by
      rintro i x σ g hx ⟨v,L,a3,a4,a5,a6,rfl,G,Q⟩
      obtain⟨hi,rfl⟩:=cD hx
      obtain⟨v',L',b4,b5,b6,g',q,G',Q'⟩:=A1 (w:=w) hB G Q n30 hi a4 a5 a6
      exact⟨_,rfl,_,_,q,_,_,_,_,_,_,rfl,G',Q'⟩) ⟨_,_,_,_,_,_,rfl,H,R⟩
  rw [k2] at k1
  have ln:c5 (lOf (aa 2)) (XV w B n A none none none none) h0=.ok (.int n) h0:=(ga (ft rfl (bQ H.rf))).trans (by rw [List.length_map,List.length_range])
  exact⟨v',L',b3,b4,b5,b6,h',jS (d5 ln (by omega)) k1,k3,k4⟩
end
structure FC (w:Web) (n:Nat) (ts:List (List (Nat × Int))):Prop where
  len:ts.length=n
  lt:∀ r∈ts,∀ p∈r,p.1 < n
  sym:∀ f s,S2 (fun i=>ts.getD i []) f s n=S2 (fun i=>ts.getD i []) s f n
  more:∀ p,p < n → ∀ a b,mD a→mD b→LeS a b→bq (w.ties.getD p []) a≤bq (ts.getD p []) b
theorem vq {w:Web}{n:Nat}(W:w.Ok n)(n30:n≤30)(sym:∀ f s,S2 (fun i=>w.ties.getD i []) f s n=S2 (fun i=>w.ties.getD i []) s f n)(wt:∀ r∈w.ties,∀ p∈r,1≤p.2∧p.2≤400)(ris:∀ r∈w.ties,r.Pairwise fun p q=>p.1 < q.1){B:Nat}{h:Hd}(S:SH B n h)(hB:B + n < h.length) :
    ∃ ts h',dq [w.enc,.ref (B + n)] h=.ok (.tup (ts.map dM)) h'∧FC w n ts∧SH B n h'∧h'.length=h.length ∧ ∀ j,(j < B∨B + n≤j)→h'[j]? = h[j]? := by
  obtain⟨A,hA⟩ : ∃ A,A=h.length:=⟨_,rfl⟩
  have rowi:∀ {i:Nat},i < n→w.ties[i]? = some (w.ties.getD i []):=fun {i} hi=>by
    have:i < w.ties.length:=W.t.symm ▸ hi
    rw [List.getD_eq_getElem?_getD,List.getElem?_eq_getElem this];rfl
  have rmem:∀ {i:Nat},i < n→w.ties.getD i []∈w.ties:=fun {i} hi=>List.mem_of_getElem? (rowi hi)
  obtain⟨L0,hL0⟩ : ∃ L0:Nat→List (Nat × Int),L0=fun i=>w.ties.getD i []:=⟨_,rfl⟩
  have R0:DR n (fun i m=>val (w.ties.getD i []) m) (fun i m=>val (w.ties.getD i []) m) L0:=by
    rw [hL0]
    refine⟨fun i hi => ?_,fun i hi p hp=>W.lt _ (rmem hi) p hp,fun i hi p hp=>wt _ (rmem hi) p hp,fun _ _ _ _=>rfl,fun i m hi hm => ?_,fun _ _ _ _=>Int.le_refl _⟩
    · rw [List.nodup_iff_pairwise_ne,List.pairwise_map]
      exact (ris _ (rmem hi)).imp fun {a b} h=>Nat.ne_of_lt h
    · exact Cm (R:=fun i=>w.ties.getD i []) (fun i hi p hp=>W.lt _ (rmem hi) p hp) sym hi hm
  obtain⟨ds,h1,k1,l1,v1,σ1,-,g,hg,lg,g1⟩:=eM (g:=none) (all:=w.ties.map dM) (tg:=gN 0) (xs:=w.ties.map dM) (k:=0) (e:=ma (aa 0)) (σ:=[none]) (h:=h)
    (P:=fun i σ h'=>(∃ a,σ = [a]) ∧ ∃ g,h'=h++g∧g.length=i ∧ ∀ j,j < i→h'[A + j]? = some (.dct ((L0 j).map eT))) (V:=fun i d=>d=.ref (A + i)) (fun _ _ _ _=>trivial) (by
      rintro i x σ h0 hx ⟨⟨a,rfl⟩,g,e0,lg,e1⟩
      rw [Nat.zero_add] at lg e1 ⊢
      have hi:i < n:=by have:=(List.getElem?_eq_some_iff.mp hx).1;rwa [List.length_map,W.t] at this
      rw [List.getElem?_map,rowi hi] at hx
      cases hx
      have hl:h0.length=A + i:=by rw [e0,List.length_append,lg,hA]
      refine⟨_,rfl,.ref h0.length,h0++[.dct ((L0 i).map eT)],by rw [hL0];exact A0 n30 (ris _ (rmem hi)) (W.lt _ (rmem hi)) h0,by rw [hl],⟨_,rfl⟩,g++[.dct ((L0 i).map eT)],by rw [e0,List.append_assoc],by rw [List.length_append,lg];rfl,fun j hj => ?_⟩
      by_cases hji:j < i
      · exact qH _ (e1 j hji)
      · rw [Nat.le_antisymm (Nat.le_of_lt_succ hj) (Nat.not_lt.mp hji),← hl];exact List.getElem?_concat_length) ⟨⟨_,rfl⟩,[],(List.append_nil _).symm,rfl,fun j hj=>absurd hj (Nat.not_lt_zero _)⟩
  rw [List.length_map,W.t] at l1
  rw [Nat.zero_add,List.length_map,W.t] at lg g1
  have e1:ds=(List.range n).map fun i=>.ref (A + i):=f7 l1 fun i d hd=>by have:=v1 i d hd;rwa [Nat.zero_add] at this
  subst e1
  have hl1:h1.length=A + n:=by rw [hg,List.length_append,lg,hA]
  obtain⟨h2,hh2⟩ : ∃ h2,h2=h1++[cX.lst ((List.range n).map fun i=>.ref (A + i))]:=⟨_,rfl⟩
  have s1:aF (gN 2) (cJ (cL 1 [] (iy (fAt (aa 0) (fC (.int 0)))) (gN 0) [] (ma (aa 0)))) [some w.enc,some (.ref (B + n)),none,none,none,none,none] h=.nx (XV w.enc B n A none none none none) h2:=by
    rw [hh2]
    exact a0 (qJ hl1.symm (e8 (mj (bt rfl rfl rfl rfl)) k1) (by rw [List.length_map,List.length_range];exact Nat.le_trans n30 (by decide)))
  have old:∀ {j:Nat},j < A→h2[j]? = h[j]? := fun {j} hj=>by rw [hh2,hg,List.append_assoc,List.getElem?_append_left (by rw [← hA];exact hj)]
  have H2:HV n B A h L0 h2:=⟨by rw [hh2,List.length_append,hl1];rfl,⟨fun i hi=>by rw [old (by omega)];exact S.st i hi,by rw [old (by omega)];exact S.sts⟩,fun j hj _=>old hj,fun i hi=>by rw [hh2];exact qH _ (g1 i hi),by rw [hh2];exact xx hl1.symm _⟩
  obtain⟨v,L,b3,b4,b5,b6,h3,s2,H3,R⟩:=A2 (w:=w.enc) (by omega) H2 R0 n30
  obtain⟨ts,hts⟩ : ∃ ts,ts=(List.range n).map fun i=>d6 (L i):=⟨_,rfl⟩
  have comp:cB (some (A + n)) ((List.range n).map fun i=>D.ref (A + i)) (gN 0) [] (cn (gR (aa 0))) ((List.range n).map fun i=>D.ref (A + i)) [none] h3=.ok (ts.map dM) h3:=by
    have:=cu (g:=some (A + n)) (all:=(List.range n).map fun i=>D.ref (A + i)) (tg:=gN 0) (cs:=[]) (e:=cn (gR (aa 0))) (h:=h3) (I:=fun σ=>∃ a,σ = [a]) (fun _=>true) (fun d=>match d with | .ref k=>dM (d6 (L (k - A)))|_=>.non) H3.rf (xs:=(List.range n).map fun i=>D.ref (A + i)) (σ:=[none]) (by
      rintro x hx σ ⟨a,rfl⟩
      obtain⟨i,hi,rfl⟩:=List.mem_map.mp hx
      have hi:=List.mem_range.mp hi
      refine⟨_,rfl,⟨_,rfl⟩,rfl,fun _=>(Cq n30 (R.nd i hi) (R.lt i hi) (H3.dc i hi)).trans ?_⟩
      show _=Res.ok (dM (d6 (L (A + i - A)))) h3
      rw [Nat.add_sub_cancel_left]) ⟨_,rfl⟩
    rw [this,List.filter_eq_self.mpr (fun _ _=>rfl),List.map_map,hts,List.map_map]
    congr 1
    refine List.map_congr_left fun i _ => ?_
    show dM (d6 (L (A + i - A)))=dM (d6 (L i))
    rw [Nat.add_sub_cancel_left]
  have s3:bI (cn (cL 1 [] (iy (aa 2)) (gN 0) [] (cn (gR (aa 0))))) (XV w.enc B n A b3 b4 b5 b6) h3=.rt (.tup (ts.map dM)) h3:=bV (io (e8 (Ca rfl H3.rf) comp))
  have tg:∀ {i:Nat},i < n→ts.getD i [] = d6 (L i):=fun {i} hi=>by
    rw [hts,List.getD_eq_getElem?_getD,List.getElem?_map,List.getElem?_range hi];rfl
  have ltL:∀ i,i < n → ∀ p∈ts.getD i [],p.1 < n:=fun i hi p hp=>by rw [tg hi] at hp;exact R.lt i hi p (jV.mp hp)
  have vL:∀ i m,i < n→m < n→val (ts.getD i []) m=v i m:=fun i m hi hm=>by rw [tg hi,yC];exact R.va i m hi hm
  refine⟨ts,h3.take h.length,?_,⟨by rw [hts,List.length_map,List.length_range],fun r hr p hp => ?_,Ew ltL fun i m hi hm=>by rw [vL i m hi hm,vL m i hm hi];exact R.sy i m hi hm,fun p hp a b Ba Bb le=>tN (fun q hq=>W.lt _ (rmem hp) q hq) (ltL p hp) (fun m hm => ?_) Ba Bb le⟩,?_,?_,?_⟩
  · refine (dk rfl rfl ((aG s1).trans ((aG s2).trans s3))).trans ?_
    have e3:h3=h3.take h.length++h3.drop h.length:=(List.take_append_drop _ _).symm
    have lz:(h3.take h.length).length=h.length:=by rw [List.length_take,H3.len];omega
    refine Eq.trans (by rw [← e3]) (jR (h:=h) (h':=h3.take h.length) (g:=h3.drop h.length) (d:=.tup (ts.map dM)) ?_ lz ?_)
    · simp only [pure?]
      have pe:∀ r:List (Nat × Int),pure? (dM r)=true:=fun r=>by
        unfold dM
        simp only [pure?]
        induction r with
        | nil=>rfl
        | cons p r ih=>simp only [List.map_cons,cW,ih];rfl
      have pl:∀ l:List (List (Nat × Int)),cW (l.map dM)=true:=fun l=>by
        induction l with
        | nil=>rfl
        | cons p r ih=>simp only [List.map_cons,cW,ih,pe];rfl
      exact pl ts
    · intro m c hm hc
      rw [← e3] at hc
      by_cases e:m < B∨B + n≤m
      · left;rw [← H3.ot m (by omega) e];exact hc
      · right
        obtain⟨y,ey⟩:=H3.sh.st (m - B) (by omega)
        rw [show B + (m - B)=m by omega,hc] at ey
        cases ey
        rfl
  · rw [hts] at hr
    obtain⟨i,hi,rfl⟩:=List.mem_map.mp hr
    exact R.lt i (List.mem_range.mp hi) p (jV.mp hp)
  · rw [vL p m hp hm]
    refine⟨?_,R.ge p m hp hm⟩
    rw [← R0.va p m hp hm]
    have:=(R0.bd hp hm).1
    rwa [← R0.va p m hp hm] at this
  · exact⟨fun i hi=>by rw [List.getElem?_take_of_lt (by omega)];exact H3.sh.st i hi,by rw [List.getElem?_take_of_lt (by omega)];exact H3.sh.sts⟩
  · rw [List.length_take,H3.len];omega
  · intro j hj
    by_cases l:j < h.length
    · rw [List.getElem?_take_of_lt l];exact H3.ot j (by omega) hj
    · rw [List.getElem?_eq_none (by rw [List.length_take];omega),List.getElem?_eq_none (by omega)]
end Fm
set_option linter.all false
namespace Fm
theorem fN {α : Type}{f : α → D}:∀ {l:List α},(∀ x∈l,pure? (f x)=true)→cW (l.map f)=true
  | [],_=>rfl
  | x :: l,h=>by
    simp only [List.map_cons,cW,Bool.and_eq_true]
    exact⟨h x (by simp),fN fun y hy=>h y (by simp [hy])⟩
theorem A3 (w:Web):pure? w.enc=true:=by
  have h1:∀ r:List (Nat × Int),pure? (dM r)=true:=fun r=>by
    unfold dM
    simp only [pure?]
    exact fN fun p _=>rfl
  have h2:cW (w.ties.map dM)=true:=fN fun r _=>h1 r
  have h3:cW (w.bars.map D.int)=true:=fN fun r _=>rfl
  have h4:cW (w.stays.map bc)=true:=fN fun r _=>by cases r<;>rfl
  unfold Web.enc
  simp only [pure?,cW,h2,h3,h4]
  rfl
theorem mJ:∀ l:List Int,cW (l.map D.int)=true
  | []=>rfl
  | _ :: l=>mJ l
theorem FD (σ:Sd)(h:Hd):al qh (fC (.int 10)) (fC (.int 40)) σ h=.ok (.int (10 ^ 40)) h:=aC rfl rfl rfl
theorem FE (σ:Sd)(h:Hd):al nH (fC (.int 1)) (al qh (fC (.int 10)) (fC (.int 60))) σ h=.ok (.int LOW) h:=aC rfl (aC (z:=.int (10 ^ 60)) rfl rfl rfl) rfl
structure MH (n B A:Nat) (h:Hd) (bs:List Int) (ss:List (Option Int)) (ab:List Int) (h':Hd):Prop where
  len:h'.length=A + 3
  sh:SH B n h'
  ot:∀ j,j < A→(j < B∨B + n≤j)→h'[j]? = h[j]?
  hb:h'[A]? = some (.lst (bs.map .int))
  hs:h'[A + 1]? = some (.lst (ss.map bc))
  ha:h'[A + 2]? = some (.lst (ab.map .int))
section
variable {n B A:Nat} {h:Hd} {bs:List Int} {ss:List (Option Int)} {ab:List Int} {h':Hd}
theorem MH.setS (V:MH n B A h bs ss ab h')(hB:B + n < A){i:Nat}(hi:i < n)(y:Int):MH n B A h bs ss ab (h'.set (B + i) (.lst [.int y])) where
  len:=by rw [List.length_set];exact V.len
  sh:=V.sh.set hi y
  ot:=fun j hj hb=>by rw [List.getElem?_set_ne (by omega)];exact V.ot j hj hb
  hb:=by rw [List.getElem?_set_ne (by omega)];exact V.hb
  hs:=by rw [List.getElem?_set_ne (by omega)];exact V.hs
  ha:=by rw [List.getElem?_set_ne (by omega)];exact V.ha
theorem MH.shS (V:MH n B A h bs ss ab h')(hB:B + n < A){k:Nat}(hk:A≤k)(c:cX):SH B n (h'.set k c) ∧ ∀ j,j < A→(j < B∨B + n≤j)→(h'.set k c)[j]? = h[j]? :=
  ⟨⟨fun j hj=>by rw [List.getElem?_set_ne (by omega)];exact V.sh.st j hj,by rw [List.getElem?_set_ne (by omega)];exact V.sh.sts⟩,fun j hj hb=>by rw [List.getElem?_set_ne (by omega)];exact V.ot j hj hb⟩
theorem MH.setB (V:MH n B A h bs ss ab h')(hB:B + n < A)(v:Int):MH n B A h (bs++[v]) ss ab (h'.set A (.lst (bs.map .int++[.int v]))) where
  len:=by rw [List.length_set];exact V.len
  sh:=(V.shS hB (Nat.le_refl _) _).1
  ot:=(V.shS hB (Nat.le_refl _) _).2
  hb:=by rw [List.getElem?_set_self (by rw [V.len];omega),List.map_append];rfl
  hs:=by rw [List.getElem?_set_ne (by omega)];exact V.hs
  ha:=by rw [List.getElem?_set_ne (by omega)];exact V.ha
theorem MH.setT (V:MH n B A h bs ss ab h')(hB:B + n < A)(v:Option Int):MH n B A h bs (ss++[v]) ab (h'.set (A + 1) (.lst (ss.map bc++[bc v]))) where
  len:=by rw [List.length_set];exact V.len
  sh:=(V.shS hB (Nat.le_add_right _ _) _).1
  ot:=(V.shS hB (Nat.le_add_right _ _) _).2
  hb:=by rw [List.getElem?_set_ne (by omega)];exact V.hb
  hs:=by rw [List.getElem?_set_self (by rw [V.len];omega),List.map_append];rfl
  ha:=by rw [List.getElem?_set_ne (by omega)];exact V.ha
theorem MH.setA (V:MH n B A h bs ss ab h')(hB:B + n < A)(v:Int):MH n B A h bs ss (ab++[v]) (h'.set (A + 2) (.lst (ab.map .int++[.int v]))) where
  len:=by rw [List.length_set];exact V.len
  sh:=(V.shS hB (Nat.le_add_right _ _) _).1
  ot:=(V.shS hB (Nat.le_add_right _ _) _).2
  hb:=by rw [List.getElem?_set_ne (by omega)];exact V.hb
  hs:=by rw [List.getElem?_set_ne (by omega)];exact V.hs
  ha:=by rw [List.getElem?_set_self (by rw [V.len];omega),List.map_append];rfl
end
theorem tP {α : Type}{l:List α}{x d : α}{p:Nat}(h:p < l.length):(l++[x]).getD p d=l.getD p d:=by
  rw [List.getD_eq_getElem?_getD,List.getD_eq_getElem?_getD,List.getElem?_append_left h]
theorem tQ {α : Type}{l:List α}{x d : α}{p:Nat}(h:p=l.length):(l++[x]).getD p d=x:=by
  rw [List.getD_eq_getElem?_getD,h,List.getElem?_concat_length];rfl
structure MM (w:Web) (s:List Int) (i fr:Nat) (bs:List Int) (ss:List (Option Int)) (ab:List Int):Prop where
  lb:bs.length=i
  ls:ss.length=i
  la:ab.length=i
  bb:∀ p,p < i→bs.getD p 0≤w.bars.getD p 0
  so:∀ x∈ss,x=none∨x=some 0∨x=some 1
  st:∀ p,p < i→(w.stays.getD p none=none∧ss.getD p none=none)∨w.stays.getD p none=some 0∨ss.getD p none=some 1
  ao:∀ x∈ab,x=0∨x=1
  af:∀ p x,p < i→ss.getD p none=some x→ab.getD p 0=x
  le:∀ p,p < i→s.getD p 0≤ab.getD p 0
  f8:fr≤8
  fc:free ss + free (w.stays.drop i)≤fr
theorem yF (ss:List (Option Int))(u:Option Int):free (ss++[u])=free ss + if u=none then 1 else 0:=by
  unfold free
  rw [List.countP_append]
  cases u<;>simp
theorem yG {ss:List (Option Int)}{i:Nat}(h:i < ss.length):free (ss.drop i)=(if ss.getD i none=none then 1 else 0) + free (ss.drop (i + 1)):=by
  have e:ss.getD i none=ss[i]:=by rw [List.getD_eq_getElem?_getD,List.getElem?_eq_getElem h];rfl
  rw [e,List.drop_eq_getElem_cons h]
  unfold free
  rw [List.countP_cons]
  cases c:ss[i]<;>simp;omega
theorem MM.step {w:Web}{s:List Int}{i fr fr':Nat}{bs:List Int}{ss:List (Option Int)}{ab:List Int}(m:MM w s i fr bs ss ab)(hi:i < w.stays.length){v a:Int}{u:Option Int}(hv:v≤w.bars.getD i 0)(hu:u=none∨u=some 0∨u=some 1)(ha:a=0∨a=1)(hau:∀ x,u=some x→a=x)(hle:s.getD i 0≤a)
    (hst:(w.stays.getD i none=none∧u=none)∨w.stays.getD i none=some 0∨u=some 1) (f8:fr'≤8) (hf:fr + (if u=none then 1 else 0)≤fr' + (if w.stays.getD i none=none then 1 else 0)):MM w s (i + 1) fr' (bs++[v]) (ss++[u]) (ab++[a]):=by
  have cs:∀ p,p < i + 1→p < i∨p=i:=fun p hp=>by omega
  refine⟨by rw [List.length_append,m.lb];rfl,by rw [List.length_append,m.ls];rfl,by rw [List.length_append,m.la];rfl,fun p hp => ?_,fun x hx => ?_,fun p hp => ?_,fun x hx => ?_,fun p x hp e => ?_,fun p hp => ?_,f8,?_⟩
  · rcases cs p hp with q|q
    · rw [tP (m.lb ▸ q)];exact m.bb p q
    · rw [tQ (m.lb ▸ q),q];exact hv
  · rcases List.mem_append.mp hx with q|q
    · exact m.so x q
    · rw [List.mem_singleton.mp q];exact hu
  · rcases cs p hp with q|q
    · rw [tP (m.ls ▸ q)];exact m.st p q
    · rw [tQ (m.ls ▸ q),q];exact hst
  · rcases List.mem_append.mp hx with q|q
    · exact m.ao x q
    · rw [List.mem_singleton.mp q];exact ha
  · rcases cs p hp with q|q
    · rw [tP (m.ls ▸ q)] at e;rw [tP (m.la ▸ q)];exact m.af p x q e
    · rw [tQ (m.ls ▸ q)] at e;rw [tQ (m.la ▸ q)];exact hau x e
  · rcases cs p hp with q|q
    · rw [tP (m.la ▸ q)];exact m.le p q
    · rw [tQ (m.la ▸ q),q];exact hle
  · have a:=m.fc
    have b:=yG hi
    rw [yF]
    omega
noncomputable abbrev XO (w:Web) (s:List Int) (B n A:Nat) (t:D) (fr:Nat) (a8 a9 a10 a11 a12:Option D):Sd:=[some w.enc,some (aj s),some (.ref (B + n)),some t,some (.ref A),some (.ref (A + 1)),some (.ref (A + 2)),some (.int fr),a8,a9,a10,a11,a12]
section
variable {w:Web} {n B A:Nat} {h:Hd} {s:List Int} {t:D}
theorem Ct (W:w.Ok n)(n30:n≤30)(S:cj w)(bl:∀ x∈w.bars,LOW≤x)(F:bW w n s)(hB:B + n < A){i fr:Nat}(hi:i < n){bs:List Int}{ss:List (Option Int)}{ab:List Int}{h0:Hd}(H:MH n B A h bs ss ab h0)(m:MM w s i fr bs ss ab)(a9 a10 a11 a12:Option D) :
    ∃ fr' bs' ss' ab' b9 b10 b11 b12 h',ir (XO w s B n A t fr (some (.int i)) a9 a10 a11 a12) h0=.nx (XO w s B n A t fr' (some (.int i)) b9 b10 b11 b12) h'∧MH n B A h bs' ss' ab' h'∧MM w s (i + 1) fr' bs' ss' ab':=by
  have sec:∀ (fr:Nat) (x9 x10 x11 x12:Option D) {bs:List Int} {ss:List (Option Int)} {ab:List Int} {g:Hd},MH n B A h bs ss ab g→fAt (aa 2) (aa 8) (XO w s B n A t fr (some (.int i)) x9 x10 x11 x12) g=.ok (.ref (B + i)) g:=fun fr x9 x10 x11 x12 {bs ss ab g} G=>bt rfl rfl (bQ G.sh.sts) (dG hi)
  have ib:i < w.bars.length:=W.b.symm ▸ hi
  have is:i < w.stays.length:=W.s.symm ▸ hi
  have il:i < s.length:=F.len.symm ▸ hi
  have lz:∀ {α : Type} {f : α → D} {l:List α},l.length=i→(l.map f).length < SZ:=fun {α f l} e=>by rw [List.length_map,e];exact Nat.lt_of_lt_of_le (Nat.lt_of_lt_of_le hi n30) (by decide)
  obtain⟨d1,y1,q1,d10,d11⟩:=dig H.sh hi 7 (by decide) (by decide) (XO w s B n A t fr (some (.int i)) a9 a10 a11 a12) (sec fr a9 a10 a11 a12 H)
  have H1:=H.setS hB hi y1
  obtain⟨h1,hh1⟩ : ∃ h1,h1=h0.set (B + i) (.lst [.int y1]):=⟨_,rfl⟩
  rw [← hh1] at q1 H1
  obtain⟨less,hless,l0⟩ : ∃ less:Int,atI [D.int 0,.int 0,.int 0,.int 1,.int 2,.int 7,.int (10 ^ 40)] d1=some (.int less)∧0≤less:=by
    obtain⟨k,rfl⟩:=Int.eq_ofNat_of_zero_le d10
    match k,Int.ofNat_lt.mp d11 with
    | 0,_=>exact⟨0,rfl,by decide⟩
    | 1,_=>exact⟨0,rfl,by decide⟩
    | 2,_=>exact⟨0,rfl,by decide⟩
    | 3,_=>exact⟨1,rfl,by decide⟩
    | 4,_=>exact⟨2,rfl,by decide⟩
    | 5,_=>exact⟨7,rfl,by decide⟩
    | 6,_=>exact⟨10 ^ 40,rfl,by decide⟩
    | k + 7,z=>exact absurd z (Nat.not_lt.mpr (Nat.le_add_left 7 k))
  have s1:aF (gN 9) (fIx (ae (fC (.int 0)) (ae (fC (.int 0)) (ae (fC (.int 0)) (ae (fC (.int 1)) (ae (fC (.int 2)) (ae (fC (.int 7)) (ae (al qh (fC (.int 10)) (fC (.int 40))) aA))))))) (ay ax (ae (fAt (aa 2) (aa 8)) (ae (fC (.int 7)) aA)))) (XO w s B n A t fr (some (.int i)) a9 a10 a11 a12) h0=.nx (XO w s B n A t fr (some (.int i)) (some (.int less)) a10 a11 a12) h1 :=
    a0 (Fx (aJ rfl (aJ rfl (aJ rfl (aJ rfl (aJ rfl (aJ rfl (aJ (FD _ _) rfl))))))) q1 hless)
  obtain⟨bi,hbi⟩ : ∃ bi,bi=w.bars.getD i 0:=⟨_,rfl⟩
  have bi0:LOW≤bi:=by rw [hbi,List.getD_eq_getElem?_getD,List.getElem?_eq_getElem ib];exact bl _ (List.getElem_mem ib)
  obtain⟨v,hv⟩ : ∃ v,v=if bi - less > LOW then bi - less else LOW:=⟨_,rfl⟩
  have vle:v≤bi:=by rw [hv];split<;>omega
  obtain⟨h2,hh2⟩ : ∃ h2,h2=h1.set A (.lst (bs.map .int++[.int v])):=⟨_,rfl⟩
  have H2:=H1.setB hB v
  rw [← hh2] at H2
  have s2:fg (fF (aa 4) (l9 (al nH (fC (.int 1)) (al qh (fC (.int 10)) (fC (.int 60)))) (al nH (fAt (fAt (aa 0) (fC (.int 1))) (aa 8)) (aa 9)))) (XO w s B n A t fr (some (.int i)) (some (.int less)) a10 a11 a12) h1=.nx (XO w s B n A t fr (some (.int i)) (some (.int less)) a10 a11 a12) h2:=by
    rw [hh2,hv,hbi]
    exact iX (mi rfl H1.hb (AB (FE _ _) (aC (bt (bt rfl rfl rfl rfl) rfl rfl (jj ib)) rfl rfl)) H1.hb (lz m.lb))
  obtain⟨u0,hu0⟩ : ∃ u0,u0=w.stays.getD i none:=⟨_,rfl⟩
  have ou:u0=none∨u0=some 0∨u0=some 1:=by rw [hu0,List.getD_eq_getElem?_getD,List.getElem?_eq_getElem is];exact S _ (List.getElem_mem is)
  have s3:aF (gN 10) (fAt (fAt (aa 0) (fC (.int 2))) (aa 8)) (XO w s B n A t fr (some (.int i)) (some (.int less)) a10 a11 a12) h2=.nx (XO w s B n A t fr (some (.int i)) (some (.int less)) (some (bc u0)) a11 a12) h2:=by
    have e:atI (w.stays.map bc) (i:Int)=some (bc u0):=by
      rw [hu0,List.getD_eq_getElem?_getD,List.getElem?_eq_getElem is]
      exact cM (by rw [List.getElem?_map,List.getElem?_eq_getElem is];rfl)
    exact a0 (bt (bt rfl rfl rfl rfl) rfl rfl e)
  obtain⟨way,y4,q4,w0,w1⟩:=dig H2.sh hi 6 (by decide) (by decide) (XO w s B n A t fr (some (.int i)) (some (.int less)) (some (bc u0)) a11 a12) (sec fr _ _ _ _ H2)
  have H4:=H2.setS hB hi y4
  obtain⟨h4,hh4⟩ : ∃ h4,h4=h2.set (B + i) (.lst [.int y4]):=⟨_,rfl⟩
  rw [← hh4] at q4 H4
  have s4:aF (gN 11) (ay ax (ae (fAt (aa 2) (aa 8)) (ae (fC (.int 6)) aA))) (XO w s B n A t fr (some (.int i)) (some (.int less)) (some (bc u0)) a11 a12) h2=.nx (XO w s B n A t fr (some (.int i)) (some (.int less)) (some (bc u0)) (some (.int way)) a12) h4:=a0 q4
  have s56:∃ (u1 u:Option Int) (fr':Nat),sIf (tE (al oEq (aa 11) (fC (.int 0)))) (aF (gN 10) (fC (.int 1))) cK (XO w s B n A t fr (some (.int i)) (some (.int less)) (some (bc u0)) (some (.int way)) a12) h4=.nx (XO w s B n A t fr (some (.int i)) (some (.int less)) (some (bc u1)) (some (.int way)) a12) h4 ∧
      sIf (gB (tE (al oEq (aa 11) (fC (.int 1)))) (gB (tE (al oEq (aa 10) (fC (.int 0)))) (tE (al oLt (aa 7) (fC (.int 8)))))) (aD (aF (gN 10) (fC .non)) (aF (gN 7) (al cA (aa 7) (fC (.int 1))))) cK (XO w s B n A t fr (some (.int i)) (some (.int less)) (some (bc u1)) (some (.int way)) a12) h4=.nx (XO w s B n A t fr' (some (.int i)) (some (.int less)) (some (bc u)) (some (.int way)) a12) h4 ∧
      (u=none∨u=some 0∨u=some 1)∧((u0=none∧u=none)∨u0=some 0∨u=some 1)∧fr'≤8∧fr + (if u=none then 1 else 0)≤fr' + (if u0=none then 1 else 0)∧(u=some 0→u0=some 0):=by
    have f8:=m.f8
    by_cases c0:way=0
    · have t0:tE (al oEq (aa 11) (fC (.int 0))) (XO w s B n A t fr (some (.int i)) (some (.int less)) (some (bc u0)) (some (.int way)) a12) h4=.ok true h4:=bP (aC rfl rfl (iY c0))
      exact⟨some 1,some 1,fr,(qF t0).trans (a0 rfl),(eO (lm (bP (aC rfl rfl (iZ (by omega)))))).trans rfl,.inr (.inr rfl),.inr (.inr rfl),f8,by rw [if_neg (fun z=>by cases z)];exact Nat.le_add_right _ _,fun z=>by cases z⟩
    · have t0:tE (al oEq (aa 11) (fC (.int 0))) (XO w s B n A t fr (some (.int i)) (some (.int less)) (some (bc u0)) (some (.int way)) a12) h4=.ok false h4:=bP (aC rfl rfl (iZ c0))
      have same:(u0=none∧u0=none)∨u0=some 0∨u0=some 1:=ou.elim (fun z=>.inl ⟨z,z⟩) fun z=>z.elim (fun z=>.inr (.inl z)) fun z=>.inr (.inr z)
      by_cases c1:way=1
      · have t1:tE (al oEq (aa 11) (fC (.int 1))) (XO w s B n A t fr (some (.int i)) (some (.int less)) (some (bc u0)) (some (.int way)) a12) h4=.ok true h4:=bP (aC rfl rfl (iY c1))
        by_cases c2:u0=some 0
        · have t2:tE (al oEq (aa 10) (fC (.int 0))) (XO w s B n A t fr (some (.int i)) (some (.int less)) (some (bc u0)) (some (.int way)) a12) h4=.ok true h4:=by rw [c2];exact bP (aC rfl rfl (iY rfl))
          by_cases c3:fr < 8
          · have t3:tE (al oLt (aa 7) (fC (.int 8))) (XO w s B n A t fr (some (.int i)) (some (.int less)) (some (bc u0)) (some (.int way)) a12) h4=.ok true h4:=bP (aC rfl rfl (Ej (by omega)))
            refine⟨u0,none,fr + 1,(eO t0).trans rfl,(qF (gS t1 (gS t2 t3))).trans ((aG (a0 rfl)).trans ((a0 (aC rfl rfl rfl)).trans ?_)),.inl rfl,.inr (.inl c2),by omega,by simp,fun z=>by cases z⟩
            show Out.nx (XO w s B n A t fr (some (.int i)) (some (.int less)) (some .non) (some (.int way)) a12 |>.set 7 (some (.int ((fr:Int) + 1)))) h4=_
            rw [show ((fr:Int) + 1)=((fr + 1:Nat):Int) from rfl];rfl
          · have t3:tE (al oLt (aa 7) (fC (.int 8))) (XO w s B n A t fr (some (.int i)) (some (.int less)) (some (bc u0)) (some (.int way)) a12) h4=.ok false h4:=bP (aC rfl rfl (Ei (by omega)))
            exact⟨u0,u0,fr,(eO t0).trans rfl,(eO (gS t1 (gS t2 t3))).trans rfl,ou,same,f8,Nat.le_refl _,fun z=>z⟩
        · have t2:tE (al oEq (aa 10) (fC (.int 0))) (XO w s B n A t fr (some (.int i)) (some (.int less)) (some (bc u0)) (some (.int way)) a12) h4=.ok false h4:=by
            rcases ou with z|z|z
            · rw [z];exact bP (aC (x:=.non) rfl rfl rfl)
            · exact absurd z c2
            · rw [z];exact bP (aC rfl rfl (iZ (by decide)))
          exact⟨u0,u0,fr,(eO t0).trans rfl,(eO (gS t1 (lm t2))).trans rfl,ou,same,f8,Nat.le_refl _,fun z=>z⟩
      · have t1:tE (al oEq (aa 11) (fC (.int 1))) (XO w s B n A t fr (some (.int i)) (some (.int less)) (some (bc u0)) (some (.int way)) a12) h4=.ok false h4:=bP (aC rfl rfl (iZ c1))
        exact⟨u0,u0,fr,(eO t0).trans rfl,(eO (lm t1)).trans rfl,ou,same,f8,Nat.le_refl _,fun z=>z⟩
  obtain⟨u1,u,fr',s5,s6,hu,hst,f8,hf,hu0'⟩:=s56
  obtain⟨h7,hh7⟩ : ∃ h7,h7=h4.set (A + 1) (.lst (ss.map bc++[bc u])):=⟨_,rfl⟩
  have H7:=H4.setT hB u
  rw [← hh7] at H7
  have s7:fg (fF (aa 5) (aa 10)) (XO w s B n A t fr' (some (.int i)) (some (.int less)) (some (bc u)) (some (.int way)) a12) h4=.nx (XO w s B n A t fr' (some (.int i)) (some (.int less)) (some (bc u)) (some (.int way)) a12) h7:=by
    rw [hh7];exact iX (mi rfl H4.hs rfl H4.hs (lz m.ls))
  obtain⟨d8,y8,q8,d80,d81⟩:=dig H7.sh hi 4 (by decide) (by decide) (XO w s B n A t fr' (some (.int i)) (some (.int less)) (some (bc u)) (some (.int way)) a12) (sec fr' _ _ _ _ H7)
  have H8:=H7.setS hB hi y8
  obtain⟨h8,hh8⟩ : ∃ h8,h8=h7.set (B + i) (.lst [.int y8]):=⟨_,rfl⟩
  rw [← hh8] at q8 H8
  have sb:=eP F i
  obtain⟨si,hsi⟩ : ∃ si,si=s.getD i 0:=⟨_,rfl⟩
  rw [← hsi] at sb
  obtain⟨g,hg⟩ : ∃ g:Int,g=b2i (decide (d8=0)):=⟨_,rfl⟩
  have gb:g=0∨g=1:=by rw [hg];cases decide (d8=0)<;>simp [b2i]
  obtain⟨x,hx⟩ : ∃ x:Int,x=if g > si then g else si:=⟨_,rfl⟩
  have xb:x=0∨x=1:=by rw [hx];split<;>assumption
  have xs:si≤x:=by rw [hx];split<;>omega
  have s8:aF (gN 12) (l9 (fAt (aa 1) (aa 8)) (yc (al oEq (ay ax (ae (fAt (aa 2) (aa 8)) (ae (fC (.int 4)) aA))) (fC (.int 0))))) (XO w s B n A t fr' (some (.int i)) (some (.int less)) (some (bc u)) (some (.int way)) a12) h7=.nx (XO w s B n A t fr' (some (.int i)) (some (.int less)) (some (bc u)) (some (.int way)) (some (.int x))) h8:=by
    rw [hx,hsi,hg]
    exact a0 (AB (bt rfl rfl rfl (jj il)) (El (aC q8 rfl xv)))
  have s9:∃ a:Int,sIf (tE (al eV (aa 10) (fC .non))) (aF (gN 12) (aa 10)) cK (XO w s B n A t fr' (some (.int i)) (some (.int less)) (some (bc u)) (some (.int way)) (some (.int x))) h8=.nx (XO w s B n A t fr' (some (.int i)) (some (.int less)) (some (bc u)) (some (.int way)) (some (.int a))) h8∧(a=0∨a=1)∧(∀ y,u=some y→a=y)∧si≤a:=by
    cases u with
    | none=>exact⟨x,(eO (bP (aC (x:=.non) rfl rfl rfl))).trans rfl,xb,(fun y z=>by cases z),xs⟩
    | some y =>
      refine⟨y,(qF (bP (aC (x:=.int y) rfl rfl rfl))).trans (a0 rfl),?_,fun z q=>(Option.some.inj q),?_⟩
      · rcases hu with z|z|z
        · cases z
        · exact .inl (Option.some.inj z)
        · exact .inr (Option.some.inj z)
      · rcases hu with z|z|z
        · cases z
        · have z:=Option.some.inj z
          subst z
          have e:=hu0' rfl
          rw [hu0] at e
          have:s[i]? = some 0:=F.st i 0 (by
            rw [List.getD_eq_getElem?_getD,List.getElem?_eq_getElem is] at e
            rw [List.getElem?_eq_getElem is]
            exact congrArg some e)
          rw [hsi,List.getD_eq_getElem?_getD,this];exact Int.le_refl _
        · have z:=Option.some.inj z
          subst z
          omega
  obtain⟨a,s9,ab1,hau,hle⟩:=s9
  have H9:=H8.setA hB a
  have s10:fg (fF (aa 6) (aa 12)) (XO w s B n A t fr' (some (.int i)) (some (.int less)) (some (bc u)) (some (.int way)) (some (.int a))) h8=.nx (XO w s B n A t fr' (some (.int i)) (some (.int less)) (some (bc u)) (some (.int way)) (some (.int a))) (h8.set (A + 2) (.lst (ab.map .int++[.int a]))):=iX (mi rfl H8.ha rfl H8.ha (lz m.la))
  exact⟨fr',_,_,_,_,_,_,_,_,(aG s1).trans ((aG s2).trans ((aG s3).trans ((aG s4).trans ((aG s5).trans ((aG s6).trans ((aG s7).trans ((aG s8).trans ((aG s9).trans s10)))))))),H9,m.step is (by rw [← hbi];exact vle) hu ab1 hau (by rw [← hsi];exact hle) (by rw [← hu0];exact hst) f8 (by rw [← hu0];exact hf)⟩
structure Cu (w:Web) (n:Nat) (s:List Int) (w2:Web) (s2:List Int):Prop where
  ok:w2.Ok n
  st:cj w2
  sym:∀ f s,S2 (fun i=>w2.ties.getD i []) f s n=S2 (fun i=>w2.ties.getD i []) s f n
  fr:free w2.stays≤8
  mo:AH w w2 n
  fit:bW w2 n s2
  le:LeS s s2
theorem tR {l:List Int}{i n:Nat}(h:l.length=n)(hi : ¬ i < n):l.getD i 0=0:=by
  rw [List.getD_eq_getElem?_getD,List.getElem?_eq_none (by omega)];rfl
theorem Cv (W:w.Ok n)(n30:n≤30)(S:cj w)(sym:∀ f s,S2 (fun i=>w.ties.getD i []) f s n=S2 (fun i=>w.ties.getD i []) s f n)(wt:∀ r∈w.ties,∀ p∈r,1≤p.2∧p.2≤400)(ris:∀ r∈w.ties,r.Pairwise fun p q=>p.1 < q.1)(bl:∀ x∈w.bars,LOW≤x)(fr8:free w.stays≤8)(F:bW w n s)(Q:SH B n h)(hB:B + n < h.length) :
    ∃ w2 s2 h',fL [w.enc,aj s,.ref (B + n)] h=.ok (.tup [w2.enc,aj s2]) h'∧Cu w n s w2 s2∧SH B n h'∧h'.length=h.length ∧ ∀ j,(j < B∨B + n≤j)→h'[j]? = h[j]? := by
  obtain⟨ts,h1,q1,Hv,Q1,l1,o1⟩:=vq W n30 sym wt ris Q hB
  obtain⟨A,hA⟩ : ∃ A,A=h1.length:=⟨_,rfl⟩
  obtain⟨t,ht⟩ : ∃ t,t=D.tup (ts.map dM):=⟨_,rfl⟩
  rw [← ht] at q1
  have s1:aF (gN 3) (ay dq (ae (aa 0) (ae (aa 2) aA))) [some w.enc,some (aj s),some (.ref (B + n)),none,none,none,none,none,none,none,none,none,none] h=.nx [some w.enc,some (aj s),some (.ref (B + n)),some t,none,none,none,none,none,none,none,none,none] h1:=a0 (aI (c6 rfl rfl) q1)
  have s2:aF (gN 4) (cJ aA) [some w.enc,some (aj s),some (.ref (B + n)),some t,none,none,none,none,none,none,none,none,none] h1=.nx [some w.enc,some (aj s),some (.ref (B + n)),some t,some (.ref A),none,none,none,none,none,none,none,none] (h1++[.lst []]):=a0 (qJ hA rfl (Nat.zero_le _))
  have s3:aF (gN 5) (cJ aA) [some w.enc,some (aj s),some (.ref (B + n)),some t,some (.ref A),none,none,none,none,none,none,none,none] (h1++[.lst []])=.nx [some w.enc,some (aj s),some (.ref (B + n)),some t,some (.ref A),some (.ref (A + 1)),none,none,none,none,none,none,none] (h1++[.lst [],.lst []]):=a0 (qG (g:=[.lst []]) hA rfl (Nat.zero_le _))
  have s4:aF (gN 6) (cJ aA) [some w.enc,some (aj s),some (.ref (B + n)),some t,some (.ref A),some (.ref (A + 1)),none,none,none,none,none,none,none] (h1++[.lst [],.lst []])=.nx [some w.enc,some (aj s),some (.ref (B + n)),some t,some (.ref A),some (.ref (A + 1)),some (.ref (A + 2)),none,none,none,none,none,none] (h1++[.lst [],.lst [],.lst []]):=a0 (qG (g:=[.lst [],.lst []]) hA rfl (Nat.zero_le _))
  obtain⟨h4,hh4⟩ : ∃ h4,h4=h1++[cX.lst [],.lst [],.lst []]:=⟨_,rfl⟩
  rw [← hh4] at s4
  have fl:c5 (cL 1 [] (iy (fAt (aa 0) (fC (.int 2)))) (gN 0) [(tE (al sJ (aa 0) (fC .non)))] (aa 0)) [some w.enc,some (aj s),some (.ref (B + n)),some t,some (.ref A),some (.ref (A + 1)),some (.ref (A + 2)),none,none,none,none,none,none] h4=.ok (.int (free w.stays)) h4:=by
    have c:=cu (g:=none) (all:=w.stays.map bc) (tg:=gN 0) (cs:=[(tE (al sJ (aa 0) (fC .non)))]) (e:=aa 0) (h:=h4) (I:=fun σ=>∃ a,σ = [a]) (fun d=>ko d) (fun d=>d) trivial (xs:=w.stays.map bc) (σ:=[none]) (by
      rintro x hx σ ⟨a,rfl⟩
      obtain⟨y,_,rfl⟩:=List.mem_map.mp hx
      exact⟨_,rfl,⟨_,rfl⟩,by cases y<;>exact jT (bP (aC rfl rfl rfl)),fun _=>rfl⟩) ⟨_,rfl⟩
    have e:=ga (e8 (nl:=1) (caps:=[]) (mj (show fAt (aa 0) (fC (.int 2)) [some w.enc,some (aj s),some (.ref (B + n)),some t,some (.ref A),some (.ref (A + 1)),some (.ref (A + 2)),none,none,none,none,none,none] h4=.ok (.tup (w.stays.map bc)) h4 from bt rfl rfl rfl rfl)) c)
    refine e.trans ?_
    congr 3
    rw [List.length_map,← List.countP_eq_length_filter,List.countP_map]
    unfold free
    congr 1
    funext x
    cases x<;>rfl
  have s5:aF (gN 7) (c5 (cL 1 [] (iy (fAt (aa 0) (fC (.int 2)))) (gN 0) [(tE (al sJ (aa 0) (fC .non)))] (aa 0))) [some w.enc,some (aj s),some (.ref (B + n)),some t,some (.ref A),some (.ref (A + 1)),some (.ref (A + 2)),none,none,none,none,none,none] h4=.nx (XO w s B n A t (free w.stays) none none none none none) h4:=a0 fl
  have at4:∀ k,h4[A + k]? = [cX.lst [],.lst [],.lst []][k]? := fun k=>by rw [hh4];exact im hA k
  have old:∀ {j:Nat},j < A→h4[j]? = h1[j]? := fun {j} hj=>by rw [hh4,List.getElem?_append_left (by omega)]
  have H0:MH n B A h1 [] [] [] h4:=⟨by rw [hh4,List.length_append,← hA];rfl,⟨fun i hi=>by rw [old (by omega)];exact Q1.st i hi,by rw [old (by omega)];exact Q1.sts⟩,fun j hj _=>old hj,at4 0,at4 1,at4 2⟩
  have m0:MM w s 0 (free w.stays) [] [] []:=⟨rfl,rfl,rfl,fun p hp=>absurd hp (Nat.not_lt_zero _),(fun x hx=>by cases hx),(fun p hp=>absurd hp (Nat.not_lt_zero _)),(fun x hx=>by cases hx),fun p x hp=>absurd hp (Nat.not_lt_zero _),fun p hp=>absurd hp (Nat.not_lt_zero _),fr8,by rw [List.drop_zero];exact Nat.le_of_eq (Nat.zero_add _)⟩
  obtain⟨σ',h5,k1,fr,bs,ss,ab,b8,b9,b10,b11,b12,k2,H5,m5⟩:=ce (P:=fun i σ h'=>∃ fr bs ss ab b8 b9 b10 b11 b12,σ = XO w s B n A t fr b8 b9 b10 b11 b12∧MH n B A h1 bs ss ab h'∧MM w s i fr bs ss ab) (g:=none) (k:=0) (all:=(List.range n).map fun k:Nat=>D.int k) (fun _ _ _ _=>trivial)
    (xs:=(List.range n).map fun k:Nat=>D.int k) (tg:=gN 8) (σ:=XO w s B n A t (free w.stays) none none none none none) (h:=h4) (b:=ir) (by
      rintro i x σ g hx ⟨fr,bs,ss,ab,b8,b9,b10,b11,b12,rfl,G,mm⟩
      obtain⟨hi,rfl⟩:=cD hx
      rw [Nat.zero_add] at mm ⊢
      obtain⟨fr',bs',ss',ab',c9,c10,c11,c12,g',q,G',mm'⟩:=Ct (t:=t) W n30 S bl F (by omega) hi G mm b9 b10 b11 b12
      exact⟨_,rfl,_,_,q,_,_,_,_,_,_,_,_,_,rfl,G',mm'⟩) ⟨_,_,_,_,_,_,_,_,_,rfl,H0,m0⟩
  have e0:0 + ((List.range n).map fun k:Nat=>D.int k).length=n:=by rw [List.length_map,List.length_range,Nat.zero_add]
  rw [e0] at m5
  rw [k2] at k1
  have ln:c5 (lOf (aa 1)) (XO w s B n A t (free w.stays) none none none none none) h4=.ok (.int n) h4:=(ga (ft rfl rfl)).trans (by rw [List.length_map,F.len])
  have s6:fX (bM (c5 (lOf (aa 1)))) (gN 8) ir (XO w s B n A t (free w.stays) none none none none none) h4=.nx (XO w s B n A t fr b8 b9 b10 b11 b12) h5:=jS (d5 ln (by omega)) k1
  obtain⟨w2,hw2⟩ : ∃ w2:Web,w2=⟨ts,bs,ss⟩:=⟨_,rfl⟩
  have s7:bI (lH (ae (lH (ae (aa 3) (ae (cn (lOf (aa 4))) (ae (cn (lOf (aa 5))) aA)))) (ae (cn (lOf (aa 6))) aA))) (XO w s B n A t fr b8 b9 b10 b11 b12) h5=.rt (.tup [w2.enc,aj ab]) h5:=by
    have e:w2.enc=.tup [t,.tup (bs.map .int),.tup (ss.map bc)]:=by rw [hw2,ht];rfl
    rw [e]
    exact bV (Az (c6 (Az (aJ rfl (c6 (io (ft rfl (bQ H5.hb))) (io (ft rfl (bQ H5.hs)))))) (io (ft rfl (bQ H5.ha)))))
  have W2:w2.Ok n:=by rw [hw2];exact⟨Hv.len,m5.lb,m5.ls,Hv.lt,W.sz⟩
  have S2':cj w2:=by rw [hw2];exact m5.so
  have F2:bW w2 n ab:=by
    refine⟨m5.la,m5.ao,fun i x e => ?_⟩
    rw [hw2] at e
    have e:ss[i]? = some (some x):=e
    have hi:i < n:=by have:=(List.getElem?_eq_some_iff.mp e).1;rwa [m5.ls] at this
    have:=m5.af i x hi (by rw [List.getD_eq_getElem?_getD,e];rfl)
    have hl:i < ab.length:=by rw [m5.la];exact hi
    rw [List.getD_eq_getElem?_getD,List.getElem?_eq_getElem hl] at this
    rw [List.getElem?_eq_getElem hl]
    exact congrArg some this
  refine⟨w2,ab,h5.take h.length,?_,⟨W2,S2',by rw [hw2];exact Hv.sym,?_,xC S S2' (by rw [hw2];exact Hv.more) (by rw [hw2];exact m5.bb) (by rw [hw2];exact m5.st),F2,fun i => ?_⟩,?_,?_,?_⟩
  · refine (dk rfl rfl ((aG s1).trans ((aG s2).trans ((aG s3).trans ((aG s4).trans ((aG s5).trans ((aG s6).trans s7))))))).trans ?_
    have e3:h5=h5.take h.length++h5.drop h.length:=(List.take_append_drop _ _).symm
    have lz:(h5.take h.length).length=h.length:=by rw [List.length_take,H5.len];omega
    refine Eq.trans (by rw [← e3]) (jR (h:=h) (h':=h5.take h.length) (g:=h5.drop h.length) (d:=.tup [w2.enc,aj ab]) ?_ lz ?_)
    · have p1:=A3 w2
      have p2:pure? (aj ab)=true:=by unfold aj;simp only [pure?];exact mJ ab
      simp only [pure?,cW,p1,p2];rfl
    · intro m c hm hc
      rw [← e3] at hc
      by_cases e:m < B∨B + n≤m
      · left;rw [← o1 m e,← H5.ot m (by omega) e];exact hc
      · right
        obtain⟨y,ey⟩:=H5.sh.st (m - B) (by omega)
        rw [show B + (m - B)=m by omega,hc] at ey
        cases ey
        rfl
  · rw [hw2]
    have:=m5.fc
    have f8:=m5.f8
    show free ss≤8
    omega
  · by_cases hi:i < n
    · exact m5.le i hi
    · rw [tR F.len hi,tR m5.la hi];exact Int.le_refl _
  · exact⟨fun i hi=>by rw [List.getElem?_take_of_lt (by omega)];exact H5.sh.st i hi,by rw [List.getElem?_take_of_lt (by omega)];exact H5.sh.sts⟩
  · rw [List.length_take,H5.len];omega
  · intro j hj
    by_cases l:j < h.length
    · rw [List.getElem?_take_of_lt l,H5.ot j (by omega) hj];exact o1 j hj
    · rw [List.getElem?_eq_none (by rw [List.length_take];omega),List.getElem?_eq_none (by omega)]
end
end Fm
set_option linter.all false
namespace Fm
def kP (a b:List Int):List Int:=(a.zip b).map fun p=>if p.2 > p.1 then p.2 else p.1
theorem yH (a b:List Int)(u v:Option D)(h:Hd):cB none (((a.map D.int).zip (b.map D.int)).map fun p=>D.tup [p.1,p.2]) (gT [0,1]) [] (l9 (aa 0) (aa 1)) (((a.map D.int).zip (b.map D.int)).map fun p=>D.tup [p.1,p.2]) [u,v] h=.ok ((kP a b).map .int) h:=by
  have e:((a.map D.int).zip (b.map D.int)).map (fun p=>D.tup [p.1,p.2])=(a.zip b).map fun p=>D.tup [.int p.1,.int p.2]:=by
    rw [List.zip_map,List.map_map];rfl
  rw [e]
  have:=cu (g:=none) (all:=(a.zip b).map fun p=>D.tup [.int p.1,.int p.2]) (tg:=gT [0,1]) (cs:=[]) (e:=l9 (aa 0) (aa 1)) (h:=h) (I:=fun σ=>∃ a b,σ = [a,b]) (fun _=>true) (fun d=>match d with | .tup [.int x,.int y]=>.int (if y > x then y else x)|_=>.non) trivial
    (xs:=(a.zip b).map fun p=>D.tup [.int p.1,.int p.2]) (σ:=[u,v]) (by
      rintro x hx σ ⟨c,d,rfl⟩
      obtain⟨p,hp,rfl⟩:=List.mem_map.mp hx
      exact⟨_,rfl,⟨_,_,rfl⟩,rfl,fun _=>rfl⟩) ⟨_,_,rfl⟩
  rw [this,List.filter_eq_self.mpr (by simp),List.map_map,kP,List.map_map]
  rfl
theorem mK {a b:List Int}{n:Nat}(la:a.length=n)(lb:b.length=n){i:Nat}(hi:i < n):(kP a b)[i]? = some (if b.getD i 0 > a.getD i 0 then b.getD i 0 else a.getD i 0):=by
  have h1:i < a.length:=by omega
  have h2:i < b.length:=by omega
  have hz:i < (a.zip b).length:=by simp;omega
  rw [kP,List.getElem?_map,List.getElem?_eq_getElem hz]
  simp [List.getD,h1,h2]
theorem mL {a b:List Int}{n:Nat}(la:a.length=n)(lb:b.length=n):(kP a b).length=n:=by simp [kP];omega
theorem Cw {a b:List Int}{n:Nat}(la:a.length=n)(lb:b.length=n):LeS a (kP a b):=fun i=>by
  by_cases hi:i < n
  · have:=mK la lb hi
    rw [show (kP a b).getD i 0=if b.getD i 0 > a.getD i 0 then b.getD i 0 else a.getD i 0 by rw [List.getD,this];rfl]
    split<;>omega
  · simp [List.getD,List.getElem?_eq_none (show a.length≤i by omega),List.getElem?_eq_none (show (kP a b).length≤i by rw [mL la lb];omega)]
theorem yI {w:Web}{n:Nat}{a b:List Int}(Fa:bW w n a)(lb:b.length=n)(ob:∀ x∈b,x=0∨x=1)(sb:∀ (i:Nat) (x:Int),w.stays[i]? = some (some x)→b[i]? = some x):bW w n (kP a b):=by
  have la:=Fa.len
  have bb:∀ i,b.getD i 0=0∨b.getD i 0=1:=fun i=>by
    by_cases h:i < b.length
    · rw [show b.getD i 0=b[i] by simp [List.getD,h]];exact ob _ (List.getElem_mem h)
    · left;simp [List.getD,List.getElem?_eq_none (show b.length≤i by omega)]
  refine⟨mL la lb,fun x hx => ?_,fun i x e => ?_⟩
  · obtain⟨i,hi⟩:=List.mem_iff_getElem?.mp hx
    have hl:=(List.getElem?_eq_some_iff.mp hi).1
    rw [mL la lb] at hl
    rw [mK la lb hl] at hi
    cases hi
    have:=Fa.bits i
    have:=bb i
    split<;>assumption
  · have e1:=Fa.st i x e
    have e2:=sb i x e
    have hl:i < n:=by rw [← la];exact (List.getElem?_eq_some_iff.mp e1).1
    rw [mK la lb hl]
    simp [List.getD,e1,e2]
theorem tS {n:Nat}{a b:List Int}(hn:n≤1000)(la:a.length=n)(lb:b.length=n)(le:LeS a b)(h:Hd):cP [aj a,aj b] h=.ok (.bl true) h:=by
  have l1:∀ σ:Sd,c5 (lOf (aa 0)) (some (aj a) :: σ) h=.ok (.int n) h:=fun σ=>(ga (ft rfl rfl)).trans (by rw [List.length_map,la])
  have l2:c5 (lOf (aa 1)) [some (aj a),some (aj b)] h=.ok (.int n) h:=(ga (ft rfl rfl)).trans (by rw [List.length_map,lb])
  have c:=cu (g:=none) (all:=(List.range n).map fun k:Nat=>D.int k) (tg:=gN 0) (cs:=[(tE (al oGt (fAt (aa 1) (aa 0)) (fAt (aa 2) (aa 0))))]) (e:=aa 0) (h:=h) (I:=fun σ=>∃ x,σ = [x,some (aj a),some (aj b)]) (fun _=>false) (fun d=>d) trivial (xs:=(List.range n).map fun k:Nat=>D.int k) (σ:=[none,some (aj a),some (aj b)]) (by
    rintro x hx σ ⟨y,rfl⟩
    obtain⟨i,hi,rfl⟩:=List.mem_map.mp hx
    have hi:=List.mem_range.mp hi
    have l:=le i
    exact⟨_,rfl,⟨_,rfl⟩,jT (bP (aC (bt rfl rfl rfl (jj (la.symm ▸ hi))) (bt rfl rfl rfl (jj (lb.symm ▸ hi))) (qI (by omega)))),fun z=>by cases z⟩) ⟨_,rfl⟩
  have c0:cB none ((List.range n).map fun k:Nat=>D.int k) (gN 0) [(tE (al oGt (fAt (aa 1) (aa 0)) (fAt (aa 2) (aa 0))))] (aa 0) ((List.range n).map fun k:Nat=>D.int k) [none,some (aj a),some (aj b)] h=.ok [] h:=by
    rw [c,List.filter_eq_nil_iff.mpr (fun _ _=>by decide)];rfl
  have t1:tE (al oEq (c5 (lOf (aa 0))) (c5 (lOf (aa 1)))) [some (aj a),some (aj b)] h=.ok true h:=bP (aC (l1 _) l2 (iY rfl))
  have t2:tE (al oEq (c5 (cL 1 [0,1] (bM (c5 (lOf (aa 0)))) (gN 0) [(tE (al oGt (fAt (aa 1) (aa 0)) (fAt (aa 2) (aa 0))))] (aa 0))) (fC (.int 0))) [some (aj a),some (aj b)] h=.ok true h:=bP (aC (ga (e8 (d5 (l1 _) hn) c0)) rfl (iY rfl))
  exact (dk rfl rfl (bV (C8 (gS t1 t2)))).trans bp
theorem qS {w:Web}{n:Nat}{s:List Int}{t:Nat}(e:aP w n s (t + 1)=aP w n s t):∀ k,aP w n s (t + k)=aP w n s t
  | 0=>rfl
  | k + 1=>by
    have ih:=qS e k
    show cg w n (aP w n s (t + k))=_
    rw [ih];exact e
theorem xN (x y:List Nat)(h:Hd):oNe (.str x) (.str y) h=.ok (.bl (!decide (x=y))) h:=by
  have:eqG h (.str x) (.str y)=some (decide (x=y)):=by
    show (if dep (.str x)≤20 then peq (.str x) (.str y) else none)=_
    rw [if_pos (show dep (.str x)≤20 from Nat.zero_le _)]
    simp only [peq]
  simp only [oNe,this]
section
variable {w1 w2:Web} {n:Nat} {a b:List Int}
noncomputable abbrev XR (w1 w2:Web) (a b:List Int) (T:Nat) (a5 a6 a7 a8:Option D):Sd:=[some w1.enc,some (aj a),some w2.enc,some (aj b),some (.int T),a5,a6,a7,a8]
theorem tT (W1:w1.Ok n)(W2:w2.Ok n)(S1:cj w1)(T2:cj w2)(y1:∀ f s,S2 (fun i=>w1.ties.getD i []) f s n=S2 (fun i=>w1.ties.getD i []) s f n)(y2:∀ f s,S2 (fun i=>w2.ties.getD i []) f s n=S2 (fun i=>w2.ties.getD i []) s f n)(f1:free w1.stays≤8)(f2:free w2.stays≤8)(M:AH w1 w2 n)(Fa:bW w1 n a)(Fb:bW w2 n b)(le:LeS a b){T:Nat}(hT:T≤400)(h:Hd) :
    dr [w1.enc,aj a,w2.enc,aj b,.int T] h=.ok (.bl true) h:=by
  have hm:=pE W1 W2 S1 T2 M Fa Fb le
  have L1:∀ k,(aP w1 n a k).length=n:=fun k=>(ba W1 S1 Fa k).len
  have L2:∀ k,(aP w2 n b k).length=n:=fun k=>(ba W2 T2 Fb k).len
  have nz:n≤1000:=W1.sz
  obtain⟨A,hA⟩ : ∃ A,A=h.length:=⟨_,rfl⟩
  obtain⟨C0,hC0⟩ : ∃ C0:cX,C0=.lst ((aR w1 n a (T + 1)).map aj):=⟨_,rfl⟩
  obtain⟨C1,hC1⟩ : ∃ C1:cX,C1=.lst ((aR w2 n b (T + 1)).map aj):=⟨_,rfl⟩
  have s1:aF (gN 5) (ay dn (ae (aa 0) (ae (aa 1) (ae (aa 4) aA)))) (XR w1 w2 a b T none none none none) h=.nx (XR w1 w2 a b T (some (.ref A)) none none none) (h++[C0]):=by
    rw [hC0,hA];exact a0 (aI (aJ rfl (c6 rfl rfl)) (mC W1 S1 Fa hT h))
  have s2:aF (gN 6) (ay dn (ae (aa 2) (ae (aa 3) (ae (aa 4) aA)))) (XR w1 w2 a b T (some (.ref A)) none none none) (h++[C0])=.nx (XR w1 w2 a b T (some (.ref A)) (some (.ref (A + 1))) none none) (h++[C0,C1]):=by
    have:=mC W2 T2 Fb hT (h++[C0])
    rw [List.length_append,← hA,← hC1,List.append_assoc] at this
    exact a0 (aI (aJ rfl (c6 rfl rfl)) this)
  have g0:(h++[C0,C1])[A]? = some (.lst ((aR w1 n a (T + 1)).map aj)):=by rw [← hC0];exact im hA 0
  have g1:(h++[C0,C1])[A + 1]? = some (.lst ((aR w2 n b (T + 1)).map aj)):=by rw [← hC1];exact im hA 1
  obtain⟨σ',h',k1,a7,k2,k3⟩:=ce (P:=fun _ σ h'=>∃ a7,σ = XR w1 w2 a b T (some (.ref A)) (some (.ref (A + 1))) a7 none∧h'=h++[C0,C1]) (g:=none) (k:=0) (all:=(List.range (T + 1)).map fun k:Nat=>D.int k) (fun _ _ _ _=>trivial)
    (xs:=(List.range (T + 1)).map fun k:Nat=>D.int k) (tg:=gN 7) (σ:=XR w1 w2 a b T (some (.ref A)) (some (.ref (A + 1))) none none) (h:=h++[C0,C1]) (b:=i3) (by
      rintro i x σ h0 hx ⟨a7,rfl,rfl⟩
      obtain⟨hi,rfl⟩:=cD hx
      exact⟨_,rfl,_,_,(eO (mh (b:=true) (bP (aI (c6 (bt rfl rfl (bQ g0) (jm hi)) (bt rfl rfl (bQ g1) (jm hi))) (tS nz (L1 i) (L2 i) (hm i) _))))).trans rfl,_,rfl,rfl⟩) ⟨_,rfl,rfl⟩
  rw [k2,k3] at k1
  have s3:fX (bM (al cA (aa 4) (fC (.int 1)))) (gN 7) i3 (XR w1 w2 a b T (some (.ref A)) (some (.ref (A + 1))) none none) (h++[C0,C1])=.nx (XR w1 w2 a b T (some (.ref A)) (some (.ref (A + 1))) a7 none) (h++[C0,C1]):=jS (d5 (n:=T + 1) (aC rfl rfl rfl) (by omega)) k1
  obtain⟨t1,e1,m1⟩:=Fz W1 S1 Fa y1
  obtain⟨t2,e2,m2⟩:=Fz W2 T2 Fb y2
  have b1:=xJ W1 S1 Fa y1 f1 m1
  have b2:=xJ W2 T2 Fb y2 f2 m2
  obtain⟨C2,hC2⟩ : ∃ C2:cX,C2=.lst ((aR w1 n a (t1 + 2)).map aj):=⟨_,rfl⟩
  obtain⟨C3,hC3⟩ : ∃ C3:cX,C3=.lst ((aR w2 n b (t2 + 2)).map aj):=⟨_,rfl⟩
  have q1:=tF W1 S1 Fa e1 m1 (by omega) (h++[C0,C1])
  have q2:=tF W2 T2 Fb e2 m2 (by omega) (h++[C0,C1,C2])
  obtain⟨x1,hx1⟩ : ∃ x1:List Nat,x1=if aP w1 n a (t1 + 1)=aP w1 n a t1 then [114,101,115,116] else [112,97,105,114]:=⟨_,rfl⟩
  obtain⟨x2,hx2⟩ : ∃ x2:List Nat,x2=if aP w2 n b (t2 + 1)=aP w2 n b t2 then [114,101,115,116] else [112,97,105,114]:=⟨_,rfl⟩
  rw [← hx1,← hC2,List.length_append,← hA,List.append_assoc] at q1
  rw [← hx2,← hC3,List.length_append,← hA,List.append_assoc] at q2
  obtain⟨d1,hd1⟩ : ∃ d1:D,d1=.tup [.int t1,.str x1,.ref (A + 2)]:=⟨_,rfl⟩
  obtain⟨d2,hd2⟩ : ∃ d2:D,d2=.tup [.int t2,.str x2,.ref (A + 3)]:=⟨_,rfl⟩
  obtain⟨h5,hh5⟩ : ∃ h5,h5=h++[C0,C1,C2,C3,.lst [d1,d2]]:=⟨_,rfl⟩
  have s4:aF (gN 8) (cJ (ae (ay eg (ae (aa 0) (ae (aa 1) aA))) (ae (ay eg (ae (aa 2) (ae (aa 3) aA))) aA))) (XR w1 w2 a b T (some (.ref A)) (some (.ref (A + 1))) a7 none) (h++[C0,C1])=.nx (XR w1 w2 a b T (some (.ref A)) (some (.ref (A + 1))) a7 (some (.ref (A + 4)))) h5:=by
    rw [hh5,hd1,hd2]
    exact a0 (qG (g:=[C0,C1,C2,C3]) hA (c6 (aI (c6 rfl rfl) q1) (aI (c6 rfl rfl) q2)) (by exact of_decide_eq_true rfl))
  have g5:h5[A + 4]? = some (.lst [d1,d2]):=by rw [hh5];exact im hA 4
  have g52:h5[A + 2]? = some (.lst ((aR w1 n a (t1 + 2)).map aj)):=by rw [hh5,← hC2];exact im hA 2
  have g53:h5[A + 3]? = some (.lst ((aR w2 n b (t2 + 2)).map aj)):=by rw [hh5,← hC3];exact im hA 3
  have p1:∀ {k:Int} {z:D},atI [.int t1,.str x1,.ref (A + 2)] k=some z→fAt (fAt (aa 8) (fC (.int 0))) (fC (.int k)) (XR w1 w2 a b T (some (.ref A)) (some (.ref (A + 1))) a7 (some (.ref (A + 4)))) h5=.ok z h5:=fun {k z} e=>bt (bt rfl rfl (bQ g5) (Fw _ _)) rfl (by rw [hd1];rfl) e
  have p2:∀ {k:Int} {z:D},atI [.int t2,.str x2,.ref (A + 3)] k=some z→fAt (fAt (aa 8) (fC (.int 1))) (fC (.int k)) (XR w1 w2 a b T (some (.ref A)) (some (.ref (A + 1))) a7 (some (.ref (A + 4)))) h5=.ok z h5:=fun {k z} e=>bt (bt rfl rfl (bQ g5) rfl) rfl (by rw [hd2];rfl) e
  have fin:∀ {σ:Sd},dr [w1.enc,aj a,w2.enc,aj b,.int T] h=letGo h (.ok (.bl true) h5)→dr [w1.enc,aj a,w2.enc,aj b,.int T] h=.ok (.bl true) h:=fun {σ} e=>e.trans (by rw [hh5];exact md rfl)
  have N1:tE (al oNe (fAt (fAt (aa 8) (fC (.int 0))) (fC (.int 1))) (fC (.str [114,101,115,116]))) (XR w1 w2 a b T (some (.ref A)) (some (.ref (A + 1))) a7 (some (.ref (A + 4)))) h5=.ok (!decide (x1=[114,101,115,116])) h5:=bP (aC (p1 rfl) rfl (xN _ _ _))
  have N2:tE (al oNe (fAt (fAt (aa 8) (fC (.int 1))) (fC (.int 1))) (fC (.str [114,101,115,116]))) (XR w1 w2 a b T (some (.ref A)) (some (.ref (A + 1))) a7 (some (.ref (A + 4)))) h5=.ok (!decide (x2=[114,101,115,116])) h5:=bP (aC (p2 rfl) rfl (xN _ _ _))
  by_cases c1:aP w1 n a (t1 + 1)=aP w1 n a t1
  · have z1:x1=[114,101,115,116]:=by rw [hx1,if_pos c1]
    rw [decide_eq_true z1] at N1
    by_cases c2:aP w2 n b (t2 + 1)=aP w2 n b t2
    · have z2:x2=[114,101,115,116]:=by rw [hx2,if_pos c2]
      rw [decide_eq_true z2] at N2
      have le2:LeS (aP w1 n a (t1 + 1)) (aP w2 n b (t2 + 1)):=by
        rw [c1,c2,← qS c1 t2,← qS c2 t1,Nat.add_comm t2 t1];exact hm _
      have v1:atI ((aR w1 n a (t1 + 2)).map aj) (-1)=some (aj (aP w1 n a (t1 + 1))):=fK (t1 + 1) 1 (by decide)
      have v2:atI ((aR w2 n b (t2 + 2)).map aj) (-1)=some (aj (aP w2 n b (t2 + 1))):=fK (t2 + 1) 1 (by decide)
      refine fin (σ:=[]) (dk rfl rfl ((aG s1).trans ((aG s2).trans ((aG s3).trans ((aG s4).trans ((aG ((eO (AA N1 N2)).trans rfl)).trans ?_))))))
      exact bV (aI (c6 (bt (p1 rfl) rfl (bQ g52) v1) (bt (p2 rfl) rfl (bQ g53) v2)) (tS nz (L1 _) (L2 _) le2 _))
    · have z2:x2≠[114,101,115,116]:=by rw [hx2,if_neg c2];decide
      rw [decide_eq_false z2] at N2
      exact fin (σ:=[]) (dk rfl rfl ((aG s1).trans ((aG s2).trans ((aG s3).trans ((aG s4).trans (xA ((qF (AA N1 N2)).trans (bV rfl))))))))
  · have z1:x1≠[114,101,115,116]:=by rw [hx1,if_neg c1];decide
    rw [decide_eq_false z1] at N1
    exact fin (σ:=[]) (dk rfl rfl ((aG s1).trans ((aG s2).trans ((aG s3).trans ((aG s4).trans (xA ((qF (Eh N1)).trans (bV rfl))))))))
end
theorem vt (ns:List Int){n:Nat}(hn:n≤30){h:Hd}{B:Nat}(hB:B=h.length):∃ h1,cB none ((List.range n).map fun k:Nat=>D.int k) (gN 0) [] (cJ (ae (ay bz (ae (aa 1) (ae (al cA (fC (.int 31)) (aa 0)) aA))) aA)) ((List.range n).map fun k:Nat=>D.int k) [none,some (.lit (ns.map .int))] h=.ok ((List.range n).map fun i=>.ref (B + i)) h1∧(∃ g,h1=h++g∧g.length=n) ∧ ∀ i,i < n → ∃ y,h1[B + i]? = some (.lst [.int y]):=by
  obtain⟨ds,h1,k1,l1,v1,σ1,-,g,hg,lg,g1⟩:=eM (g:=none) (all:=(List.range n).map fun k:Nat=>D.int k) (tg:=gN 0) (xs:=(List.range n).map fun k:Nat=>D.int k) (k:=0)
    (e:=cJ (ae (ay bz (ae (aa 1) (ae (al cA (fC (.int 31)) (aa 0)) aA))) aA)) (σ:=[none,some (.lit (ns.map .int))]) (h:=h)
    (P:=fun i σ h'=>(∃ a,σ = [a,some (.lit (ns.map .int))]) ∧ ∃ g,h'=h++g∧g.length=i ∧ ∀ j,j < i → ∃ y,h'[B + j]? = some (.lst [.int y])) (V:=fun i d=>d=.ref (B + i)) (fun _ _ _ _=>trivial) (by
      rintro i x σ h0 hx ⟨⟨a,rfl⟩,g,e0,lg,e1⟩
      obtain⟨hi,rfl⟩:=cD hx
      rw [Nat.zero_add] at lg e1 ⊢
      have hl:h0.length=B + i:=by rw [e0,List.length_append,lg,hB]
      obtain⟨y,cy⟩:=qM ns (31 + i) (by omega) h0
      have cy:bz [.lit (ns.map .int),.int (31 + (i:Int))] h0=.ok (.int y) h0:=by
        have:=cy
        rwa [Int.natCast_add] at this
      refine⟨_,rfl,.ref h0.length,h0++[.lst [.int y]],mf (aJ (aI (c6 rfl (aC rfl rfl rfl)) cy) rfl) (by exact of_decide_eq_true rfl),by rw [hl],⟨_,rfl⟩,g++[.lst [.int y]],by rw [e0,List.append_assoc],by rw [List.length_append,lg];rfl,fun j hj => ?_⟩
      by_cases hji:j < i
      · obtain⟨z,ez⟩:=e1 j hji
        exact⟨z,qH _ ez⟩
      · exact⟨y,by rw [Nat.le_antisymm (Nat.le_of_lt_succ hj) (Nat.not_lt.mp hji),← hl];exact List.getElem?_concat_length⟩) ⟨⟨_,rfl⟩,[],(List.append_nil _).symm,rfl,fun j hj=>absurd hj (Nat.not_lt_zero _)⟩
  rw [List.length_map,List.length_range] at l1
  rw [Nat.zero_add,List.length_map,List.length_range] at lg g1
  have e1:ds=(List.range n).map fun i=>.ref (B + i):=f7 l1 fun i d hd=>by have:=v1 i d hd;rwa [Nat.zero_add] at this
  exact⟨h1,by rw [k1,e1],⟨g,hg,lg⟩,g1⟩
theorem Ex (ns:List Int)(hns:ns.length≤63):∃ h,xH [.lit (ns.map .int)] []=.ok (.bl true) h:=by
  obtain⟨n,w,h0,O⟩:=Ev ns
  have W:=O.ok
  have n30:=O.n30
  obtain⟨S0,hS0⟩ : ∃ S0:D,S0=.lit (ns.map .int):=⟨_,rfl⟩
  have run:=O.run
  rw [← hS0] at run
  have e0:AJ [some S0,none,none,none,none,none,none,none,none,none] []=.nx [some S0,some w.enc,some (.ref (n + 1)),some (.ref 0),none,none,none,none,none,none] h0:=by
    show outE (ay gh (ae (aa 0) aA) _ _) _ _=_
    rw [aI (aJ rfl rfl) run];rfl
  obtain⟨s,h1,q1,F,Q1,l1,o1⟩:=tI W O.st n30 (h:=h0) ⟨O.hst,O.sts⟩
  have e1:AK [some S0,some w.enc,some (.ref (n + 1)),some (.ref 0),none,none,none,none,none,none] h0=.nx [some S0,some w.enc,some (.ref (n + 1)),some (.ref 0),some (aj s),none,none,none,none,none] h1:=a0 (aI (c6 rfl rfl) q1)
  obtain⟨x0,hx0⟩:=O.hd0
  have hd1:h1[0]? = some (.lst [.int x0]):=by rw [o1 0 (.inl rfl)];exact hx0
  obtain⟨T,hT,T9⟩ : ∃ T:Nat,(T:Int)=1 + x0 % 9∧T≤9:=by
    have a:=Int.emod_nonneg x0 (show (9:Int)≠0 by decide)
    have b:=Int.emod_lt_of_pos x0 (show (0:Int) < 9 by decide)
    exact⟨(1 + x0 % 9).toNat,by omega,by omega⟩
  obtain⟨h2,hh2⟩ : ∃ h2,h2=h1.set 0 (.lst [.int (x0 / 9)]):=⟨_,rfl⟩
  have e2:AL [some S0,some w.enc,some (.ref (n + 1)),some (.ref 0),some (aj s),none,none,none,none,none] h1=.nx [some S0,some w.enc,some (.ref (n + 1)),some (.ref 0),some (aj s),some (.int T),none,none,none,none] h2:=by
    rw [hh2,hT]
    exact a0 (aC rfl (aI (c6 rfl rfl) (bH hd1 (by decide) (by decide))) rfl)
  have Q2:StH n h2:=⟨fun i hi=>by rw [hh2,List.getElem?_set_ne (by omega)];exact Q1.st i hi,by rw [hh2,List.getElem?_set_ne (by omega)];exact Q1.sts⟩
  obtain⟨B,hB⟩ : ∃ B,B=h2.length:=⟨_,rfl⟩
  obtain⟨h3,k3,⟨g3,hg3,lg3⟩,st3⟩:=vt ns n30 hB
  rw [← hS0] at k3
  have l3:h3.length=B + n:=by rw [hg3,List.length_append,lg3,hB]
  obtain⟨h4,hh4⟩ : ∃ h4,h4=h3++[cX.lst ((List.range n).map fun i=>.ref (B + i))]:=⟨_,rfl⟩
  have e3:AM [some S0,some w.enc,some (.ref (n + 1)),some (.ref 0),some (aj s),some (.int T),none,none,none,none] h2=.nx [some S0,some w.enc,some (.ref (n + 1)),some (.ref 0),some (aj s),some (.int T),some (.ref (B + n)),none,none,none] h4:=by
    have ln:c5 (lOf (aa 4)) [some S0,some w.enc,some (.ref (n + 1)),some (.ref 0),some (aj s),some (.int T),none,none,none,none] h2=.ok (.int n) h2:=(ga (ft rfl rfl)).trans (by rw [List.length_map,F.len])
    rw [hh4]
    exact a0 (qJ l3.symm (e8 (d5 ln (by omega)) k3) (by rw [List.length_map,List.length_range];exact Nat.le_trans n30 (by decide)))
  have Q4:SH B n h4:=⟨fun i hi=>by
    obtain⟨y,ey⟩:=st3 i hi
    exact⟨y,by rw [hh4];exact qH _ ey⟩,by rw [hh4];exact xx l3.symm _⟩
  have l4:h4.length=B + n + 1:=by rw [hh4,List.length_append,l3];rfl
  obtain⟨w2,s2,h5,q5,Z,Q5,l5,o5⟩:=Cv W n30 O.st O.sym O.wt O.ris O.bl O.fr F Q4 (by omega)
  have e4:AN [some S0,some w.enc,some (.ref (n + 1)),some (.ref 0),some (aj s),some (.int T),some (.ref (B + n)),none,none,none] h4=.nx [some S0,some w.enc,some (.ref (n + 1)),some (.ref 0),some (aj s),some (.int T),some (.ref (B + n)),some w2.enc,some (aj s2),none] h5:=by
    show outE (ay fL _ _ _) _ _=_
    rw [aI (aJ rfl (c6 rfl rfl)) q5];rfl
  have r5:=tT W Z.ok O.st Z.st O.sym Z.sym O.fr Z.fr Z.mo F Z.fit Z.le (T:=T) (by omega) h5
  have e5:AO [some S0,some w.enc,some (.ref (n + 1)),some (.ref 0),some (aj s),some (.int T),some (.ref (B + n)),some w2.enc,some (aj s2),none] h5=.nx [some S0,some w.enc,some (.ref (n + 1)),some (.ref 0),some (aj s),some (.int T),some (.ref (B + n)),some w2.enc,some (aj s2),none] h5:=(eO (mh (b:=true) (bP (aI (aJ rfl (aJ rfl (aJ rfl (c6 rfl rfl)))) r5)))).trans rfl
  have lo:∀ {j:Nat},j < B→h5[j]? = h2[j]? := fun {j} hj=>by
    rw [o5 j (.inl hj),hh4,hg3,List.append_assoc,List.getElem?_append_left (by omega)]
  have n1B:n + 1 < B:=by have:=(List.getElem?_eq_some_iff.mp Q2.sts).1;omega
  have Q6:StH n h5:=⟨fun i hi=>by rw [lo (by omega)];exact Q2.st i hi,by rw [lo n1B];exact Q2.sts⟩
  obtain⟨sB,h6,q6,FB,Q7,l6,o6⟩:=tI W O.st n30 (h:=h5) Q6
  have e6:AQ [some S0,some w.enc,some (.ref (n + 1)),some (.ref 0),some (aj s),some (.int T),some (.ref (B + n)),some w2.enc,some (aj s2),none] h5=.nx [some S0,some w.enc,some (.ref (n + 1)),some (.ref 0),some (aj s),some (.int T),some (.ref (B + n)),some w2.enc,some (aj s2),some (aj (kP s sB))] h6:=by
    have iz:B0 (aa 4) (ay cO (ae (aa 1) (ae (aa 2) aA))) [some S0,some w.enc,some (.ref (n + 1)),some (.ref 0),some (aj s),some (.int T),some (.ref (B + n)),some w2.enc,some (aj s2),none] h5=.ok (((s.map D.int).zip (sB.map D.int)).map fun p=>D.tup [p.1,p.2],none) h6:=by
      have c:=aI (F:=cO) (r:=ae (aa 1) (ae (aa 2) aA)) (σ:=[some S0,some w.enc,some (.ref (n + 1)),some (.ref 0),some (aj s),some (.int T),some (.ref (B + n)),some w2.enc,some (aj s2),none]) (c6 rfl rfl) q6
      show Res.bind _ _=_
      rw [show aa 4 [some S0,some w.enc,some (.ref (n + 1)),some (.ref 0),some (aj s),some (.int T),some (.ref (B + n)),some w2.enc,some (aj s2),none] h5=.ok (aj s) h5 from rfl,aM,c]
      rfl
    exact a0 (io (e8 iz (yH s sB none none h6)))
  have mw:AH w w n:=by
    refine xC O.st O.st (fun p hp a b _ Bb le=>kC Bb le fun q hq => ?_) (fun _ _=>Int.le_refl _) fun p _ => ?_
    · have:w.ties.getD p []∈w.ties:=by
        have hp:p < w.ties.length:=W.t.symm ▸ hp
        rw [List.getD_eq_getElem?_getD,List.getElem?_eq_getElem hp];exact List.getElem_mem hp
      have:=O.wt _ this q hq
      omega
    · by_cases hp:p < w.stays.length
      · rw [List.getD_eq_getElem?_getD,List.getElem?_eq_getElem hp]
        rcases O.st _ (List.getElem_mem hp) with z|z|z
        · exact .inl ⟨z,z⟩
        · exact .inr (.inl z)
        · exact .inr (.inr z)
      · rw [List.getD_eq_getElem?_getD,List.getElem?_eq_none (by omega)];exact .inl ⟨rfl,rfl⟩
  have r7:=tT W W O.st O.st O.sym O.sym O.fr O.fr mw F (yI F FB.len FB.op FB.st) (Cw F.len FB.len) (T:=T) (by omega) h6
  have e7:AR [some S0,some w.enc,some (.ref (n + 1)),some (.ref 0),some (aj s),some (.int T),some (.ref (B + n)),some w2.enc,some (aj s2),some (aj (kP s sB))] h6=.rt (.bl true) h6:=bV (aI (aJ rfl (aJ rfl (aJ rfl (c6 rfl rfl)))) r7)
  rw [← hS0]
  exact⟨[],(dk (σ:=[some S0,none,none,none,none,none,none,none,none,none]) rfl rfl ((aG e0).trans ((aG e1).trans ((aG e2).trans ((aG e3).trans ((aG e4).trans ((aG e5).trans ((aG e6).trans e7)))))))).trans (md (h:=[]) (g:=h6) rfl)⟩
end Fm
set_option Elab.async false
set_option linter.all false
set_option maxRecDepth 100000
set_option maxHeartbeats 4000000
namespace Fm
open PySem PySem.Spec L2
section
abbrev d7 (i : Nat) : Stmt := PySem.Challenge.pw_followmost_k14_whole_more_ones_never_few.main.body.getD i (.Pass ⟨0, 0, 0, 0⟩)
abbrev dS:Stmt:=d7 5
abbrev cQ:Stmt:=d7 6
abbrev cR:Stmt:=d7 7
abbrev en:Stmt:=d7 9
abbrev er:Stmt:=d7 10
abbrev fO:Stmt:=d7 11
abbrev eu:Stmt:=d7 12
abbrev jY:Stmt:=d7 14
abbrev cE:Stmt:=d7 15
abbrev eA:Stmt:=d7 16
abbrev eB:Stmt:=d7 17
abbrev eC:Stmt:=d7 18
abbrev eD:Stmt:=d7 21
abbrev iw:Stmt:=d7 22
abbrev du:Stmt:=d7 24
abbrev dv:Stmt:=d7 25
abbrev cS:Stmt:=d7 26
abbrev cF:Stmt:=d7 27
abbrev dU:Stmt:=d7 28
abbrev dW:Stmt:=d7 29
abbrev cT:Stmt:=d7 30
abbrev cm:Stmt:=d7 31
abbrev dw:Stmt:=d7 32
abbrev bR:Stmt:=d7 33
abbrev cU:Stmt:=d7 34
abbrev jq:Stmt:=d7 35
variable {P:Program} {w:World} {K:PySem.W.Frag} {mg:Str→Option Value} {base:Heap} {f:Addr} {fd:FuncData}
theorem tU:aY ["thing"] ["thing"] (ak dS):=⟨rfl,rfl,rfl,by decide +kernel,rfl,by decide +kernel,by decide +kernel⟩
theorem tV (F:Fun K "is_whole" "is_whole" dS f fd) (cx:mg "isinstance" = none) (vG:mg "bool" = none) (jt:mg "int" = none):cG P w K mg base CX0 1 f fd ["thing"] (spF K dN 1):=by
  refine cq F tU fun cdv A outer s H E hr => ?_
  have hu:=dZ hr
  exact (ap (aV (MB.me (uS (ph (qx (t:=.int) rfl cx rfl jt (by decide +kernel) (mv 0))) (uR (DP (ph (qx (t:=.bool) rfl cx rfl vG (by decide +kernel) (mv 0)))))))))
theorem nK:aY ["thing", "least", "most"] ["thing", "least", "most"] (ak cQ):=⟨rfl,rfl,rfl,by decide +kernel,rfl,by decide +kernel,by decide +kernel⟩
theorem nM (F:Fun K "is_between" "is_between" cQ f fd) (i6:Def P w K mg base "is_whole" 1 1 dN):cG P w K mg base CX0 2 f fd ["thing", "least", "most"] (spF K dD 3):=by
  refine cq F nK fun cdv A outer s H E hr => ?_
  have hu:=dZ hr
  exact (ap (aV (MB.me (uS (ph (ar i6 (hr.mono (by decide)) rfl (ad (mv 0) am) au)) (uR (ph (zR CS CS jc jc (mv 1) (mv 0) (mv 2))))))))
theorem nN:aY ["thing"] ["thing"] (ak cR):=⟨rfl,rfl,rfl,by decide +kernel,rfl,by decide +kernel,by decide +kernel⟩
theorem nO (F:Fun K "is_opinion" "is_opinion" cR f fd) (gl:Def P w K mg base "is_between" 2 3 dD):cG P w K mg base CX0 3 f fd ["thing"] (spF K cv 1):=by
  refine cq F nN fun cdv A outer s H E hr => ?_
  have hu:=dZ hr
  exact (ap (aV (ar gl (hr.mono (by decide)) rfl (ad (mv 0) (ad ag (ad ag am))) au)))
theorem vu:aY ["web"] ["web"] (ak en):=⟨rfl,rfl,rfl,by decide +kernel,rfl,by decide +kernel,by decide +kernel⟩
theorem vv (F:Fun K "many_of" "many_of" en f fd) (bA:mg "len" = none):cG P w K mg base CX0 1 f fd ["web"] (spF K cN 1):=by
  refine cq F vu fun cdv A outer s H E hr => ?_
  have hu:=dZ hr
  exact (ap (aV (dh rfl bA (dA (aH (mv 0) ag (fun _ _=>rfl))))))
theorem vw:aY ["web", "person"] ["web", "person"] (ak er):=⟨rfl,rfl,rfl,by decide +kernel,rfl,by decide +kernel,by decide +kernel⟩
theorem vx (F:Fun K "ties_of" "ties_of" er f fd):cG P w K mg base CX0 1 f fd ["web", "person"] (spF K fH 2):=by
  refine cq F vw fun cdv A outer s H E hr => ?_
  have hu:=dZ hr
  exact (ap (aV (aH (aH (mv 0) ag (fun _ _=>rfl)) (mv 1) (fun _ _=>rfl))))
theorem yJ:aY ["web", "person"] ["web", "person"] (ak fO):=⟨rfl,rfl,rfl,by decide +kernel,rfl,by decide +kernel,by decide +kernel⟩
theorem yK (F:Fun K "bar_of" "bar_of" fO f fd):cG P w K mg base CX0 1 f fd ["web", "person"] (spF K fI 2):=by
  refine cq F yJ fun cdv A outer s H E hr => ?_
  have hu:=dZ hr
  exact (ap (aV (aH (aH (mv 0) ag (fun _ _=>rfl)) (mv 1) (fun _ _=>rfl))))
theorem vy:aY ["web", "person"] ["web", "person"] (ak eu):=⟨rfl,rfl,rfl,by decide +kernel,rfl,by decide +kernel,by decide +kernel⟩
theorem vz (F:Fun K "stay_of" "stay_of" eu f fd):cG P w K mg base CX0 1 f fd ["web", "person"] (spF K dm 2):=by
  refine cq F vy fun cdv A outer s H E hr => ?_
  have hu:=dZ hr
  exact (ap (aV (aH (aH (mv 0) ag (fun _ _=>rfl)) (mv 1) (fun _ _=>rfl))))
theorem lu:aY ["web", "thing", "person", "opinion", "stay"] ["web", "thing"] (ak jY):=⟨rfl,rfl,rfl,by decide +kernel,rfl,by decide +kernel,by decide +kernel⟩
theorem Cy (F:Fun K "fits" "fits" jY f fd) (hJ:mg "enumerate" = none) (bA:mg "len" = none) (cx:mg "isinstance" = none) (bg:mg "tuple" = none) (fP:Def P w K mg base "stay_of" 1 2 dm) (gm:Def P w K mg base "is_opinion" 3 1 cv) (fQ:Def P w K mg base "many_of" 1 1 cN):cG P w K mg base CX0 4 f fd ["web", "thing"] (spF K ml 2):=by
  refine cq F lu fun cdv A outer s H E hr => ?_
  have hu:=dZ hr
  exact (ah (cC (MW.mt (CW (lO (lN (qx (t:=.tuple) rfl cx rfl bg (by decide +kernel) (mv 1)))) (jM (bj (lR hu) sQ (dh rfl bA (dA (mv 1))) (ar fQ (hr.mono (by decide)) rfl (ad (mv 0) am) au) (aZ _)) (.inr rfl)))) (ap (aV lM)) bn)
    (ah (eI PassesOwn.never rfl (BY rfl hJ (mv 1)) (jN rfl (bY (aQ (i:=2) lu.nd rfl (by first|exact .inl rfl|exact .inr rfl)) (bY (aQ (i:=3) lu.nd rfl (by first|exact .inl rfl|exact .inr rfl)) ii))) (ah (cC (lO (lN (ar gm (hr.mono (by decide)) rfl (ad (mv 3) am) au))) (ap (aV lM)) bn)
    (ah (aB (i:=4) lu.nd rfl (by first|exact .inl rfl|exact .inr rfl) (ar fP (hr.mono (by decide)) rfl (ad (mv 0) (ad (mv 2) am)) au))
    (ap (cC (MW.mt (lP (bj lf ig (mv 4) dI (aZ _)) (jM (bj (lR hu) sQ (mv 3) (mv 4) (aZ _)) (.inl rfl)))) (ap (aV lM)) bn)))))
    (ap (aV lM))))
theorem mM:aY ["web", "thing"] ["web", "thing"] (ak cE):=⟨rfl,rfl,rfl,by decide +kernel,rfl,by decide +kernel,by decide +kernel⟩
theorem mN (F:Fun K "check_stand" "check_stand" cE f fd) (vH:Def P w K mg base "fits" 4 2 ml):cG P w K mg base CX0 5 f fd ["web", "thing"] (spF K bL 2):=by
  refine cq F mM fun cdv A outer s H E hr => ?_
  have hu:=dZ hr
  exact (ap (cC (lO (lN (ar vH (hr.mono (by decide)) rfl (ad (mv 0) (ad (mv 1) am)) au))) (ap zV) bn))
theorem vA:aY ["web", "stand", "person"] ["web", "stand", "person"] (ak eA):=⟨rfl,rfl,rfl,by decide +kernel,rfl,by decide +kernel,by decide +kernel⟩
theorem vB (F:Fun K "pull_at" "pull_at" eA f fd) (pO:mg "sum" = none) (j3:Def P w K mg base "ties_of" 1 2 fH):cG P w K mg base CX0 2 f fd ["web", "stand", "person"] (spF K el 3):=by
  refine cq F vA fun cdv A outer s H E hr => ?_
  have hu:=dZ hr
  exact (ap (aV (aX eE eG ag (zT rfl rfl pO (fh (eX (own:=["other", "weight"]) (capn:=["stand"]) (caps:=[1]) rfl (bZ.mk' rfl (by decide +kernel) (by decide +kernel) (by repeat' (first|exact be.nil|refine be.cons (by first|exact (fun _=>.inl rfl)|exact (fun _=>.inr rfl)|(intro z;cases z;done)) ?_)) (bU.cons rfl rfl bU.nil)) (jO (ar j3 (hr.mono (by decide)) rfl (ad (mv 0) (ad (mv 2) am)) au))
      (fun cl C s H ex=>⟨(jN rfl (bY (aQ (i:=0) (show ((["other", "weight"] : List Str)++(["stand"] : List Str)).Nodup by decide +kernel) rfl (by first|exact .inl rfl|exact .inr rfl)) (bY (aQ (i:=1) (show ((["other", "weight"] : List Str)++(["stand"] : List Str)).Nodup by decide +kernel) rfl (by first|exact .inl rfl|exact .inr rfl)) ii))),(qv (bj (dB hu) eW (aH (mv 2) (mv 0) (fun _ _=>rfl)) ag (aZ _))),(mv 1)⟩)))))))
theorem gk:aY ["web", "stand", "person", "stay", "strength", "bar"] ["web", "stand", "person"] (ak eB):=⟨rfl,rfl,rfl,by decide +kernel,rfl,by decide +kernel,by decide +kernel⟩
theorem vC (F:Fun K "next_at" "next_at" eB f fd) (mP:Def P w K mg base "bar_of" 1 2 fI) (j4:Def P w K mg base "pull_at" 2 3 el) (fP:Def P w K mg base "stay_of" 1 2 dm):cG P w K mg base CX0 3 f fd ["web", "stand", "person"] (spF K dP 3):=by
  refine cq F gk fun cdv A outer s H E hr => ?_
  have hu:=dZ hr
  exact (ah (aB (i:=3) gk.nd rfl (by first|exact .inl rfl|exact .inr rfl) (ar fP (hr.mono (by decide)) rfl (ad (mv 0) (ad (mv 2) am)) au))
    (ah (cC (bj lf ig (mv 3) dI (aZ _)) (ap (aV (mv 3))) bn)
    (ah (aB (i:=4) gk.nd rfl (by first|exact .inl rfl|exact .inr rfl) (ar j4 (hr.mono (by decide)) rfl (ad (mv 0) (ad (mv 1) (ad (mv 2) am))) au))
    (ah (aB (i:=5) gk.nd rfl (by first|exact .inl rfl|exact .inr rfl) (ar mP (hr.mono (by decide)) rfl (ad (mv 0) (ad (mv 2) am)) au))
    (ah (cC (bj (dB hu) eW (mv 4) (mv 5) (aZ _)) (ap (aV (aH (mv 1) (mv 2) (fun _ _=>rfl)))) bn)
    (ap (aV (CY (bj lB jc (mv 4) (mv 5) (aZ _)) ag ag))))))))
theorem vD:aY ["web", "stand"] ["web", "stand"] (ak eC):=⟨rfl,rfl,rfl,by decide +kernel,rfl,by decide +kernel,by decide +kernel⟩
theorem vE (F:Fun K "turn_at" "turn_at" eC f fd) (bg:mg "tuple" = none) (aK:mg "range" = none) (fQ:Def P w K mg base "many_of" 1 1 cN) (j5:Def P w K mg base "next_at" 3 3 dP):cG P w K mg base CX0 4 f fd ["web", "stand"] (spF K cf 2):=by
  refine cq F vD fun cdv A outer s H E hr => ?_
  have hu:=dZ hr
  exact (ap (aV (de rfl bg (fh (eX (own:=["person"]) (capn:=["web", "stand"]) (caps:=[0,1]) rfl (bZ.mk' rfl (by decide +kernel) (by decide +kernel) (by repeat' (first|exact be.nil|refine be.cons (by first|exact (fun _=>.inl rfl)|exact (fun _=>.inr rfl)|(intro z;cases z;done)) ?_)) (bU.cons rfl rfl (bU.cons rfl rfl bU.nil))) (bN rfl aK (ar fQ (hr.mono (by decide)) rfl (ad (mv 0) am) au))
      (fun cl C s H ex=>⟨(aQ (i:=0) (show ((["person"] : List Str)++(["web", "stand"] : List Str)).Nodup by decide +kernel) rfl (by first|exact .inl rfl|exact .inr rfl)),ed,(ar j5 (hr.mono (by decide)) rfl (ad (mv 1) (ad (mv 2) (ad (mv 0) am))) au)⟩))))))
theorem i5:aY ["web", "stand", "turns", "stands", "place"] ["web", "stand", "turns"] (ak eD):=⟨rfl,rfl,rfl,by decide +kernel,rfl,by decide +kernel,by decide +kernel⟩
theorem vF (F:Fun K "history" "history" eD f fd) (aK:mg "range" = none) {gn:Tok} (gp:mg "MOST_TURNS" = some (.int 400 gn)) (dX:Def P w K mg base "turn_at" 4 2 cf) (db:Def P w K mg base "check_stand" 5 2 bL):cG P w K mg base CX0 6 f fd ["web", "stand", "turns"] (spF K dn 3):=by
  refine cq F i5 fun cdv A outer s H E hr => ?_
  have hu:=dZ hr
  exact (ah (df (ar db (hr.mono (by decide)) rfl (ad (mv 0) (ad (mv 1) am)) au))
    (ah (cC (bj lB jc (mv 2) (zO rfl gp) (aZ _)) (ap zV) bn)
    (ah (aB (i:=3) i5.nd rfl (by first|exact .inl rfl|exact .inr rfl) (dJ (cH (ad (mv 1) am) (fun _ _ _ _ z=>by rw [(av bu) _ _ _ _ z];decide))))
    (ah (eI PassesOwn.never rfl (bN rfl aK (mv 2)) (aQ (i:=4) i5.nd rfl (by first|exact .inl rfl|exact .inr rfl)) (ap (df (fm (mv 3) (ar dX (hr.mono (by decide)) rfl (ad (mv 0) (ad (aH (mv 3) (mv 4) (fun _ _=>rfl)) am)) au)))))
    (ap (aV (mv 3)))))))
theorem gZ:aY ["web", "stand", "stands", "later", "word"] ["web", "stand"] (ak iw):=⟨rfl,rfl,rfl,by decide +kernel,rfl,by decide +kernel,by decide +kernel⟩
theorem A4 (F:Fun K "ended" "ended" iw f fd) (bA:mg "len" = none) (dX:Def P w K mg base "turn_at" 4 2 cf) (db:Def P w K mg base "check_stand" 5 2 bL):cG P w K mg base CX0 6 f fd ["web", "stand"] (spF K eg 2):=by
  refine cq F gZ fun cdv A outer s H E hr => ?_
  have hu:=dZ hr
  exact (ah (df (ar db (hr.mono (by decide)) rfl (ad (mv 0) (ad (mv 1) am)) au))
    (ah (aB (i:=2) gZ.nd rfl (by first|exact .inl rfl|exact .inr rfl) (dJ (cH (ad (mv 1) (ad (ar dX (hr.mono (by decide)) rfl (ad (mv 0) (ad (mv 1) am)) au) am)) (fun _ _ _ _ z=>by rw [(av (av bu)) _ _ _ _ z];decide))))
    (ah (aB (i:=3) gZ.nd rfl (by first|exact .inl rfl|exact .inr rfl) (ar dX (hr.mono (by decide)) rfl (ad (mv 0) (ad (aH (mv 2) ag (fun _ _=>rfl)) am)) au))
    (ah (zX PassesOwn.never (bj (lR hu) sQ (mv 3) (aH (mv 2) jf (fun _ _=>rfl)) (aZ _)) (ah (df (fm (mv 2) (mv 3)))
    (ap (aB (i:=3) gZ.nd rfl (by first|exact .inl rfl|exact .inr rfl) (ar dX (hr.mono (by decide)) rfl (ad (mv 0) (ad (mv 3) am)) au)))))
    (ah (aB (i:=4) gZ.nd rfl (by first|exact .inl rfl|exact .inr rfl) (CY (bj (dB hu) eW (aH (mv 2) jf (fun _ _=>rfl)) (aH (mv 2) jf (fun _ _=>rfl)) (aZ _)) (qj [114,101,115,116] rfl) (qj [112,97,105,114] rfl)))
    (ap (aV (iS (ad (aX iO uQ (dh rfl bA (dA (mv 2))) ag) (ad (mv 4) (ad (mv 2) am)))))))))))
theorem bJ:aY ["_law_script", "_law_k", "_law_seed", "_law_found", "_law_j", "_law_number"] ["_law_script", "_law_k"] (ak du):=⟨rfl,rfl,rfl,by decide +kernel,rfl,by decide +kernel,by decide +kernel⟩
theorem qT (F:Fun K "_law_wide" "_law_wide" du f fd) (aK:mg "range" = none) (bA:mg "len" = none):cG P w K mg base CX0 1 f fd ["_law_script", "_law_k"] (spF K eQ 2):=by
  refine cq F bJ fun cdv A outer s H E hr => ?_
  have hu:=dZ hr
  exact (ah (aB (i:=2) bJ.nd rfl (by first|exact .inl rfl|exact .inr rfl) ag)
    (ah (cC (bj lB jc (dh rfl bA (dA (mv 0))) ag (aZ _)) (ap (aB (i:=2) bJ.nd rfl (by first|exact .inl rfl|exact .inr rfl) (aX gE gH (aH (mv 0) (aX gE gH (mv 1) (dh rfl bA (dA (mv 0)))) (fun _ _=>rfl)) ag))) bn)
    (ah (aB (i:=3) bJ.nd rfl (by first|exact .inl rfl|exact .inr rfl) ag)
    (ah (eI PassesOwn.never rfl (bN rfl aK ag) (aQ (i:=4) bJ.nd rfl (by first|exact .inl rfl|exact .inr rfl)) (ah (aB (i:=5) bJ.nd rfl (by first|exact .inl rfl|exact .inr rfl) (aX gE gH (aX eE eG (aX bC ca (aX bC ca (aX bC ca (mv 2) (aX eE eG ag (mv 1))) (aX eE eG (mv 4) (mv 4))) ag) ag) ag))
    (ah (aB (i:=5) bJ.nd rfl (by first|exact .inl rfl|exact .inr rfl) (aX gE gH (aX eE eG (aX bC ca (mv 5) ag) (aX bC ca (aX bC ca (mv 5) (mv 4)) ag)) ag))
    (ah (aB (i:=5) bJ.nd rfl (by first|exact .inl rfl|exact .inr rfl) (aX gE gH (aX eE eG (aX bC ca (mv 5) (mv 1)) ag) ag))
    (ap (aB (i:=3) bJ.nd rfl (by first|exact .inl rfl|exact .inr rfl) (aX bC ca (aX eE eG (mv 3) ag) (aX gE gH (aX eE eG (mv 5) (aX bC ca (mv 5) ag)) ag))))))))
    (ap (aV (mv 3)))))))
theorem qU:aY ["_law_script", "_law_k"] ["_law_script", "_law_k"] (ak dv):=⟨rfl,rfl,rfl,by decide +kernel,rfl,by decide +kernel,by decide +kernel⟩
theorem qV (F:Fun K "_law_cell" "_law_cell" dv f fd) (bA:mg "len" = none) (hU:Def P w K mg base "_law_wide" 1 2 eQ):cG P w K mg base CX0 2 f fd ["_law_script", "_law_k"] (spF K bz 2):=by
  refine cq F qU fun cdv A outer s H E hr => ?_
  have hu:=dZ hr
  exact (ah (cC (MW.mt (lP (bj sG jc (mv 1) (dh rfl bA (dA (mv 0))) (aZ _)) (jM (bj (dB hu) eW (aX gE gH (aH (mv 0) ag (fun _ _=>rfl)) ag) ag (aZ _)) (.inl rfl)))) (ap (aV (aH (mv 0) (mv 1) (fun _ _=>rfl)))) bn)
    (ap (aV (ar hU (hr.mono (by decide)) rfl (ad (mv 0) (ad (mv 1) am)) au))))
theorem iD:aY ["_law_state", "_law_most", "_law_found"] ["_law_state", "_law_most"] (ak cS):=⟨rfl,rfl,rfl,by decide +kernel,rfl,by decide +kernel,by decide +kernel⟩
theorem nP (F:Fun K "_law_digit" "_law_digit" cS f fd):cG P w K mg base CX0 1 f fd ["_law_state", "_law_most"] (spF K ax 2):=by
  refine cq F iD fun cdv A outer s H E hr => ?_
  have hu:=dZ hr
  exact (ah (aB (i:=2) iD.nd rfl (by first|exact .inl rfl|exact .inr rfl) (aX gE gH (aH (mv 0) ag (fun _ _=>rfl)) (mv 1)))
    (ah (DW (aX sM zP (aH (mv 0) ag (fun _ _=>rfl)) (mv 1)) (mv 0) ag)
    (ap (aV (mv 2)))))
theorem g6:aY ["_law_state", "_law_sort", "_law_number"] ["_law_state", "_law_sort"] (ak cF):=⟨rfl,rfl,rfl,by decide +kernel,rfl,by decide +kernel,by decide +kernel⟩
theorem mO (F:Fun K "_law_weight" "_law_weight" cF f fd) (jt:mg "int" = none) (aw:Def P w K mg base "_law_digit" 1 2 ax):cG P w K mg base CX0 2 f fd ["_law_state", "_law_sort"] (spF K cw 2):=by
  refine cq F g6 fun cdv A outer s H E hr => ?_
  have hu:=dZ hr
  exact (ah (cC (bj (dB hu) eW (mv 1) ag (aZ _)) (ah (aB (i:=2) g6.nd rfl (by first|exact .inl rfl|exact .inr rfl) (ar aw (hr.mono (by decide)) rfl (ad (mv 0) (ad ag am)) au))
    (ap (aV (aX eE eG (mv 2) (xm rfl jt (qk sG jc (mv 2) ag (aZ _))))))) bn)
    (ah (cC (bj (dB hu) eW (mv 1) ag (aZ _)) (ap (aV (sN (cH (ad ag (ad ag (ad ag (ad ag (ad ag (ad ag (ad ag (ad ag (ad ag am))))))))) (fun _ _ _ _ z=>by rw [(av (av (av (av (av (av (av (av (av bu))))))))) _ _ _ _ z];decide)) (ar aw (hr.mono (by decide)) rfl (ad (mv 0) (ad ag am)) au) (fun _ _=>rfl)))) bn)
    (ap (aV (sN (cH (ad ag (ad ag (ad ag (ad ag am)))) (fun _ _ _ _ z=>by rw [(av (av (av (av bu)))) _ _ _ _ z];decide)) (ar aw (hr.mono (by decide)) rfl (ad (mv 0) (ad ag am)) au) (fun _ _=>rfl))))))
theorem kD:aY ["_law_state", "_law_total", "_law_way"] ["_law_state", "_law_total"] (ak dU):=⟨rfl,rfl,rfl,by decide +kernel,rfl,by decide +kernel,by decide +kernel⟩
theorem tW (F:Fun K "_law_bar" "_law_bar" dU f fd) (aw:Def P w K mg base "_law_digit" 1 2 ax):cG P w K mg base CX0 2 f fd ["_law_state", "_law_total"] (spF K dY 2):=by
  refine cq F kD fun cdv A outer s H E hr => ?_
  have hu:=dZ hr
  exact (ah (aB (i:=2) kD.nd rfl (by first|exact .inl rfl|exact .inr rfl) (ar aw (hr.mono (by decide)) rfl (ad (mv 0) (ad ag am)) au))
    (ah (cC (bj sG jc (mv 2) ag (aZ _)) (ap (aV (mv 1))) bn)
    (ah (cC (bj (dB hu) eW (mv 2) ag (aZ _)) (ap (aV (aX bC ca (aX iO uQ (mv 1) ag) (ar aw (hr.mono (by decide)) rfl (ad (mv 0) (ad ag am)) au)))) bn)
    (ah (cC (bj sG jc (mv 2) ag (aZ _)) (ap (aV (aX iO uQ (ar aw (hr.mono (by decide)) rfl (ad (mv 0) (ad (aX bC ca (aX eE eG ag (mv 1)) ag) am)) au) ag))) bn)
    (ap (aV (aX bC ca (aX iO uQ (ar aw (hr.mono (by decide)) rfl (ad (mv 0) (ad (aX iO uQ (aX eE eG ag (aX qd qo ag ag)) ag) am)) au) (aX qd qo ag ag)) ag)))))))
theorem bm:aY ["_law_script", "_law_head", "_law_many", "_law_states", "_law_ties", "_law_k", "_law_sort", "_law_j", "_law_heavy", "_law_bars", "_law_stays", "_law_stay"] ["_law_script"] (ak dW):=⟨rfl,rfl,rfl,by decide +kernel,rfl,by decide +kernel,by decide +kernel⟩
theorem tX (F:Fun K "_law_web" "_law_web" dW f fd) (bg:mg "tuple" = none) (fR:mg "sorted" = none) (aK:mg "range" = none) (pO:mg "sum" = none) (aw:Def P w K mg base "_law_digit" 1 2 ax) (i7:Def P w K mg base "_law_bar" 2 2 dY) (fA:Def P w K mg base "_law_weight" 2 2 cw) (dy:Def P w K mg base "_law_cell" 2 2 bz):cG P w K mg base CX0 3 f fd ["_law_script"] (spF K gh 1):=by
  refine cq F bm fun cdv A outer s H E hr => ?_
  have hu:=dZ hr
  exact (ah (aB (i:=1) bm.nd rfl (by first|exact .inl rfl|exact .inr rfl) (dJ (cH (ad (aX sM zP (ar dy (hr.mono (by decide)) rfl (ad (mv 0) (ad ag am)) au) ag) am) (fun _ _ _ _ z=>by rw [(av bu) _ _ _ _ z];decide))))
    (ah (aB (i:=2) bm.nd rfl (by first|exact .inl rfl|exact .inr rfl) (aX bC ca ag (ar aw (hr.mono (by decide)) rfl (ad (mv 1) (ad (sN (cH (ad ag (ad ag (ad ag (ad ag am)))) (fun _ _ _ _ z=>by rw [(av (av (av (av bu)))) _ _ _ _ z];decide)) (ar aw (hr.mono (by decide)) rfl (ad (mv 1) (ad ag am)) au) (fun _ _=>rfl)) am)) au)))
    (ah (ll (i:=3) bm.nd rfl (by first|exact .inl rfl|exact .inr rfl) (own:=["_law_k"]) (capn:=["_law_script"]) (caps:=[0]) rfl (bZ.mk' rfl (by decide +kernel) (by decide +kernel) (by repeat' (first|exact be.nil|refine be.cons (by first|exact (fun _=>.inl rfl)|exact (fun _=>.inr rfl)|(intro z;cases z;done)) ?_)) (bU.cons rfl rfl bU.nil)) (bN rfl aK (mv 2))
      (fun cl C s H ex=>⟨(aQ (i:=0) (show ((["_law_k"] : List Str)++(["_law_script"] : List Str)).Nodup by decide +kernel) rfl (by first|exact .inl rfl|exact .inr rfl)),ed,(dJ (cH (ad (ar dy (hr.mono (by decide)) rfl (ad (mv 1) (ad (aX bC ca ag (mv 0)) am)) au) am) (fun _ _ _ _ z=>by rw [(av bu) _ _ _ _ z];decide)))⟩))
    (ah (ll (i:=4) bm.nd rfl (by first|exact .inl rfl|exact .inr rfl) (own:=["_law_k"]) (capn:=[]) (caps:=[]) rfl (bZ.mk' rfl (by decide +kernel) (by decide +kernel) (by repeat' (first|exact be.nil|refine be.cons (by first|exact (fun _=>.inl rfl)|exact (fun _=>.inr rfl)|(intro z;cases z;done)) ?_)) bU.nil) (bN rfl aK (mv 2))
      (fun cl C s H ex=>⟨(aQ (i:=0) (show ((["_law_k"] : List Str)++([] : List Str)).Nodup by decide +kernel) rfl (by first|exact .inl rfl|exact .inr rfl)),ed,(dJ (cH am (fun _ _ _ _ z=>by rw [bu _ _ _ _ z];decide)))⟩))
    (ah (eI PassesOwn.never rfl (bN rfl aK (mv 2)) (aQ (i:=5) bm.nd rfl (by first|exact .inl rfl|exact .inr rfl)) (ah (aB (i:=6) bm.nd rfl (by first|exact .inl rfl|exact .inr rfl) (ar aw (hr.mono (by decide)) rfl (ad (aH (mv 3) (mv 5) (fun _ _=>rfl)) (ad ag am)) au))
    (ap (eI PassesOwn.never rfl (bN rfl aK (mv 5)) (aQ (i:=7) bm.nd rfl (by first|exact .inl rfl|exact .inr rfl)) (ah (aB (i:=8) bm.nd rfl (by first|exact .inl rfl|exact .inr rfl) (ar fA (hr.mono (by decide)) rfl (ad (aH (mv 3) (mv 5) (fun _ _=>rfl)) (ad (mv 6) am)) au))
    (ap (cC (bj lB jc (mv 8) ag (aZ _)) (ah (df (fm (aH (mv 4) (mv 5) (fun _ _=>rfl)) (iS (ad (mv 7) (ad (mv 8) am)))))
    (ap (df (fm (aH (mv 4) (mv 7) (fun _ _=>rfl)) (iS (ad (mv 5) (ad (mv 8) am))))))) bn)))))))
    (ah (aB (i:=9) bm.nd rfl (by first|exact .inl rfl|exact .inr rfl) (dJ (cH am (fun _ _ _ _ z=>by rw [bu _ _ _ _ z];decide))))
    (ah (aB (i:=10) bm.nd rfl (by first|exact .inl rfl|exact .inr rfl) (dJ (cH am (fun _ _ _ _ z=>by rw [bu _ _ _ _ z];decide))))
    (ah (eI PassesOwn.never rfl (bN rfl aK (mv 2)) (aQ (i:=5) bm.nd rfl (by first|exact .inl rfl|exact .inr rfl)) (ah (df (fm (mv 9) (ar i7 (hr.mono (by decide)) rfl (ad (aH (mv 3) (mv 5) (fun _ _=>rfl)) (ad (zT rfl rfl pO (fh (eX (own:=["_law_other", "_law_heavy"]) (capn:=[]) (caps:=[]) rfl (bZ.mk' rfl (by decide +kernel) (by decide +kernel) (by repeat' (first|exact be.nil|refine be.cons (by first|exact (fun _=>.inl rfl)|exact (fun _=>.inr rfl)|(intro z;cases z;done)) ?_)) bU.nil) (jO (aH (mv 4) (mv 5) (fun _ _=>rfl)))
      (fun cl C s H ex=>⟨(jN rfl (bY (aQ (i:=0) (show ((["_law_other", "_law_heavy"] : List Str)++([] : List Str)).Nodup by decide +kernel) rfl (by first|exact .inl rfl|exact .inr rfl)) (bY (aQ (i:=1) (show ((["_law_other", "_law_heavy"] : List Str)++([] : List Str)).Nodup by decide +kernel) rfl (by first|exact .inl rfl|exact .inr rfl)) ii))),ed,(mv 1)⟩)))) am)) au)))
    (ah (aB (i:=11) bm.nd rfl (by first|exact .inl rfl|exact .inr rfl) (sN (cH (ad dI (ad dI (ad dI (ad dI (ad dI (ad ag (ad ag am))))))) (fun _ _ _ _ z=>by rw [(av (av (av (av (av (av (av bu))))))) _ _ _ _ z];decide)) (ar aw (hr.mono (by decide)) rfl (ad (aH (mv 3) (mv 5) (fun _ _=>rfl)) (ad ag am)) au) (fun _ _=>rfl)))
    (ah (cC (MW.mt (lP (bj zD zQ (mv 11) dI (aZ _)) (jM (bj lB jc (Af (mv 10) dI) ag (aZ _)) (.inl rfl)))) (ap (aB (i:=11) bm.nd rfl (by first|exact .inl rfl|exact .inr rfl) (ar aw (hr.mono (by decide)) rfl (ad (aH (mv 3) (mv 5) (fun _ _=>rfl)) (ad ag am)) au))) bn)
    (ap (df (fm (mv 10) (mv 11))))))))
    (ap (aV (iS (ad (iS (ad (de rfl bg (fh (eX (own:=["_law_some"]) (capn:=[]) (caps:=[]) rfl (bZ.mk' rfl (by decide +kernel) (by decide +kernel) (by repeat' (first|exact be.nil|refine be.cons (by first|exact (fun _=>.inl rfl)|exact (fun _=>.inr rfl)|(intro z;cases z;done)) ?_)) bU.nil) (jO (mv 4))
      (fun cl C s H ex=>⟨(aQ (i:=0) (show ((["_law_some"] : List Str)++([] : List Str)).Nodup by decide +kernel) rfl (by first|exact .inl rfl|exact .inr rfl)),ed,(de rfl bg (fh (Ac rfl fR (mv 0))))⟩)))) (ad (de rfl bg (dA (mv 9))) (ad (de rfl bg (dA (mv 10))) am)))) (ad (mv 3) (ad (mv 1) am))))))))))))))
theorem c8:aY ["_law_web_here", "_law_states", "_law_found", "_law_k", "_law_held"] ["_law_web_here", "_law_states"] (ak cT):=⟨rfl,rfl,rfl,by decide +kernel,rfl,by decide +kernel,by decide +kernel⟩
theorem nQ (F:Fun K "_law_stand" "_law_stand" cT f fd) (bg:mg "tuple" = none) (aK:mg "range" = none) (bA:mg "len" = none) (aw:Def P w K mg base "_law_digit" 1 2 ax):cG P w K mg base CX0 2 f fd ["_law_web_here", "_law_states"] (spF K cO 2):=by
  refine cq F c8 fun cdv A outer s H E hr => ?_
  have hu:=dZ hr
  exact (ah (aB (i:=2) c8.nd rfl (by first|exact .inl rfl|exact .inr rfl) (dJ (cH am (fun _ _ _ _ z=>by rw [bu _ _ _ _ z];decide))))
    (ah (eI PassesOwn.never rfl (bN rfl aK (dh rfl bA (dA (mv 1)))) (aQ (i:=3) c8.nd rfl (by first|exact .inl rfl|exact .inr rfl)) (ah (aB (i:=4) c8.nd rfl (by first|exact .inl rfl|exact .inr rfl) (ar aw (hr.mono (by decide)) rfl (ad (aH (mv 1) (mv 3) (fun _ _=>rfl)) (ad ag am)) au))
    (ah (cC (bj lf ig (aH (aH (mv 0) ag (fun _ _=>rfl)) (mv 3) (fun _ _=>rfl)) dI (aZ _)) (ap (aB (i:=4) c8.nd rfl (by first|exact .inl rfl|exact .inr rfl) (aH (aH (mv 0) ag (fun _ _=>rfl)) (mv 3) (fun _ _=>rfl)))) bn)
    (ap (df (fm (mv 2) (mv 4)))))))
    (ap (aV (de rfl bg (dA (mv 2)))))))
theorem bF:aY ["_law_web_here", "_law_seconds", "_law_ties", "_law_k", "_law_j", "_law_way", "_law_heavy"] ["_law_web_here", "_law_seconds"] (ak cm):=⟨rfl,rfl,rfl,by decide +kernel,rfl,by decide +kernel,by decide +kernel⟩
theorem kQ (F:Fun K "_law_heavier" "_law_heavier" cm f fd) (bg:mg "tuple" = none) (fR:mg "sorted" = none) (aK:mg "range" = none) (bA:mg "len" = none) (A6:mg "min" = none) (vI:mg "dict" = none) (aw:Def P w K mg base "_law_digit" 1 2 ax):cG P w K mg base CX0 2 f fd ["_law_web_here", "_law_seconds"] (spF K dq 2):=by
  refine cq F bF fun cdv A outer s H E hr => ?_
  have hu:=dZ hr
  exact (ah (ll (i:=2) bF.nd rfl (by first|exact .inl rfl|exact .inr rfl) (own:=["_law_some"]) (capn:=[]) (caps:=[]) rfl (bZ.mk' rfl (by decide +kernel) (by decide +kernel) (by repeat' (first|exact be.nil|refine be.cons (by first|exact (fun _=>.inl rfl)|exact (fun _=>.inr rfl)|(intro z;cases z;done)) ?_)) bU.nil) (jO (aH (mv 0) ag (fun _ _=>rfl)))
      (fun cl C s H ex=>⟨(aQ (i:=0) (show ((["_law_some"] : List Str)++([] : List Str)).Nodup by decide +kernel) rfl (by first|exact .inl rfl|exact .inr rfl)),ed,(Ay rfl rfl vI (mv 0))⟩))
    (ah (eI PassesOwn.never rfl (bN rfl aK (dh rfl bA (dA (mv 2)))) (aQ (i:=3) bF.nd rfl (by first|exact .inl rfl|exact .inr rfl)) (ap (eI PassesOwn.never rfl (bN rfl aK (mv 3)) (aQ (i:=4) bF.nd rfl (by first|exact .inl rfl|exact .inr rfl)) (ah (aB (i:=5) bF.nd rfl (by first|exact .inl rfl|exact .inr rfl) (ar aw (hr.mono (by decide)) rfl (ad (aH (mv 1) (mv 3) (fun _ _=>rfl)) (ad ag am)) au))
    (ah (aB (i:=6) bF.nd rfl (by first|exact .inl rfl|exact .inr rfl) (B7 (Nat.lt_of_le_of_lt (Nat.add_le_add_left (by decide) _) hu) (aH (mv 2) (mv 3) (fun _ _=>rfl)) (mv 4) ag ⟨rfl,rfl,rfl,rfl⟩))
    (ah (cC (bj (dB hu) eW (mv 5) ag (aZ _)) (ap (aB (i:=6) bF.nd rfl (by first|exact .inl rfl|exact .inr rfl) (Ef rfl rfl A6 ag (aX bC ca (aX bC ca (mv 6) ag) (ar aw (hr.mono (by decide)) rfl (ad (aH (mv 1) (mv 3) (fun _ _=>rfl)) (ad ag am)) au))))) bn)
    (ap (cC (bj lB jc (mv 6) ag (aZ _)) (ah (xr (Nat.lt_of_le_of_lt (Nat.add_le_add_left (by decide) _) hu) (mv 6) (aH (mv 2) (mv 3) (fun _ _=>rfl)) (mv 4))
    (ap (xr (Nat.lt_of_le_of_lt (Nat.add_le_add_left (by decide) _) hu) (mv 6) (aH (mv 2) (mv 4) (fun _ _=>rfl)) (mv 3)))) bn))))))))
    (ap (aV (de rfl bg (fh (eX (own:=["_law_some"]) (capn:=[]) (caps:=[]) rfl (bZ.mk' rfl (by decide +kernel) (by decide +kernel) (by repeat' (first|exact be.nil|refine be.cons (by first|exact (fun _=>.inl rfl)|exact (fun _=>.inr rfl)|(intro z;cases z;done)) ?_)) bU.nil) (jO (mv 2))
      (fun cl C s H ex=>⟨(aQ (i:=0) (show ((["_law_some"] : List Str)++([] : List Str)).Nodup by decide +kernel) rfl (by first|exact .inl rfl|exact .inr rfl)),ed,(de rfl bg (fh (Au rfl rfl fR (mv 0))))⟩))))))))
theorem aW:aY ["_law_web_here", "_law_stand_here", "_law_seconds", "_law_ties", "_law_bars", "_law_stays", "_law_above", "_law_free", "_law_k", "_law_less", "_law_stay", "_law_way", "_law_held"] ["_law_web_here", "_law_stand_here", "_law_seconds"] (ak dw):=⟨rfl,rfl,rfl,by decide +kernel,rfl,by decide +kernel,by decide +kernel⟩
theorem qW (F:Fun K "_law_more" "_law_more" dw f fd) (bg:mg "tuple" = none) (aK:mg "range" = none) (bA:mg "len" = none) (mQ:mg "max" = none) (jt:mg "int" = none) (aw:Def P w K mg base "_law_digit" 1 2 ax) (eR:Def P w K mg base "_law_heavier" 2 2 dq):cG P w K mg base CX0 3 f fd ["_law_web_here", "_law_stand_here", "_law_seconds"] (spF K fL 3):=by
  refine cq F aW fun cdv A outer s H E hr => ?_
  have hu:=dZ hr
  exact (ah (aB (i:=3) aW.nd rfl (by first|exact .inl rfl|exact .inr rfl) (ar eR (hr.mono (by decide)) rfl (ad (mv 0) (ad (mv 2) am)) au))
    (ah (aB (i:=4) aW.nd rfl (by first|exact .inl rfl|exact .inr rfl) (dJ (cH am (fun _ _ _ _ z=>by rw [bu _ _ _ _ z];decide))))
    (ah (aB (i:=5) aW.nd rfl (by first|exact .inl rfl|exact .inr rfl) (dJ (cH am (fun _ _ _ _ z=>by rw [bu _ _ _ _ z];decide))))
    (ah (aB (i:=6) aW.nd rfl (by first|exact .inl rfl|exact .inr rfl) (dJ (cH am (fun _ _ _ _ z=>by rw [bu _ _ _ _ z];decide))))
    (ah (aB (i:=7) aW.nd rfl (by first|exact .inl rfl|exact .inr rfl) (dh rfl bA (fh (eX (own:=["_law_stay"]) (capn:=[]) (caps:=[]) rfl (bZ.mk' rfl (by decide +kernel) (by decide +kernel) (by repeat' (first|exact be.nil|refine be.cons (by first|exact (fun _=>.inl rfl)|exact (fun _=>.inr rfl)|(intro z;cases z;done)) ?_)) bU.nil) (jO (aH (mv 0) ag (fun _ _=>rfl)))
      (fun cl C s H ex=>⟨(aQ (i:=0) (show ((["_law_stay"] : List Str)++([] : List Str)).Nodup by decide +kernel) rfl (by first|exact .inl rfl|exact .inr rfl)),(qv (bj zD zQ (mv 0) dI (aZ _))),(mv 0)⟩)))))
    (ah (eI PassesOwn.never rfl (bN rfl aK (dh rfl bA (dA (mv 1)))) (aQ (i:=8) aW.nd rfl (by first|exact .inl rfl|exact .inr rfl)) (ah (aB (i:=9) aW.nd rfl (by first|exact .inl rfl|exact .inr rfl) (sN (cH (ad ag (ad ag (ad ag (ad ag (ad ag (ad ag (ad (aX qd qo ag ag) am))))))) (fun _ _ _ _ z=>by rw [(av (av (av (av (av (av (av bu))))))) _ _ _ _ z];decide)) (ar aw (hr.mono (by decide)) rfl (ad (aH (mv 2) (mv 8) (fun _ _=>rfl)) (ad ag am)) au) (fun _ _=>rfl)))
    (ah (df (fm (mv 4) (u5 rfl rfl mQ (aX iO uQ ag (aX qd qo ag ag)) (aX iO uQ (aH (aH (mv 0) ag (fun _ _=>rfl)) (mv 8) (fun _ _=>rfl)) (mv 9)))))
    (ah (aB (i:=10) aW.nd rfl (by first|exact .inl rfl|exact .inr rfl) (aH (aH (mv 0) ag (fun _ _=>rfl)) (mv 8) (fun _ _=>rfl)))
    (ah (aB (i:=11) aW.nd rfl (by first|exact .inl rfl|exact .inr rfl) (ar aw (hr.mono (by decide)) rfl (ad (aH (mv 2) (mv 8) (fun _ _=>rfl)) (ad ag am)) au))
    (ah (cC (bj (dB hu) eW (mv 11) ag (aZ _)) (ap (aB (i:=10) aW.nd rfl (by first|exact .inl rfl|exact .inr rfl) ag)) bn)
    (ah (cC (MW.mt (lP (bj (dB hu) eW (mv 11) ag (aZ _)) (lP (bj (dB hu) eW (mv 10) ag (aZ _)) (jM (bj sG jc (mv 7) ag (aZ _)) (.inl rfl))))) (ah (aB (i:=10) aW.nd rfl (by first|exact .inl rfl|exact .inr rfl) dI)
    (ap (aB (i:=7) aW.nd rfl (by first|exact .inl rfl|exact .inr rfl) (aX bC ca (mv 7) ag)))) bn)
    (ah (df (fm (mv 5) (mv 10)))
    (ah (aB (i:=12) aW.nd rfl (by first|exact .inl rfl|exact .inr rfl) (u5 rfl rfl mQ (aH (mv 1) (mv 8) (fun _ _=>rfl)) (xm rfl jt (qk (dB hu) eW (ar aw (hr.mono (by decide)) rfl (ad (aH (mv 2) (mv 8) (fun _ _=>rfl)) (ad ag am)) au) ag (aZ _)))))
    (ah (cC (bj lf ig (mv 10) dI (aZ _)) (ap (aB (i:=12) aW.nd rfl (by first|exact .inl rfl|exact .inr rfl) (mv 10))) bn)
    (ap (df (fm (mv 6) (mv 12))))))))))))))
    (ap (aV (iS (ad (iS (ad (mv 3) (ad (de rfl bg (dA (mv 4))) (ad (de rfl bg (dA (mv 5))) am)))) (ad (de rfl bg (dA (mv 6))) am)))))))))))
theorem jZ:aY ["_law_one", "_law_other"] ["_law_one", "_law_other"] (ak bR):=⟨rfl,rfl,rfl,by decide +kernel,rfl,by decide +kernel,by decide +kernel⟩
theorem j2 (F:Fun K "_law_is_below" "_law_is_below" bR f fd) (bA:mg "len" = none) (aK:mg "range" = none):cG P w K mg base CX0 1 f fd ["_law_one", "_law_other"] (spF K cP 2):=by
  refine cq F jZ fun cdv A outer s H E hr => ?_
  have hu:=dZ hr
  exact (ap (aV (MB.me (uS (ph (qk (dB hu) eW (dh rfl bA (dA (mv 0))) (dh rfl bA (dA (mv 1))) (aZ _))) (uR (ph (qk (dB hu) eW (dh rfl bA (fh (eX (own:=["_law_k"]) (capn:=["_law_one", "_law_other"]) (caps:=[0,1]) rfl (bZ.mk' rfl (by decide +kernel) (by decide +kernel) (by repeat' (first|exact be.nil|refine be.cons (by first|exact (fun _=>.inl rfl)|exact (fun _=>.inr rfl)|(intro z;cases z;done)) ?_)) (bU.cons rfl rfl (bU.cons rfl rfl bU.nil))) (bN rfl aK (dh rfl bA (dA (mv 0))))
      (fun cl C s H ex=>⟨(aQ (i:=0) (show ((["_law_k"] : List Str)++(["_law_one", "_law_other"] : List Str)).Nodup by decide +kernel) rfl (by first|exact .inl rfl|exact .inr rfl)),(qv (bj lB jc (aH (mv 1) (mv 0) (fun _ _=>rfl)) (aH (mv 2) (mv 0) (fun _ _=>rfl)) (aZ _))),(mv 0)⟩)))) ag (aZ _))))))))
theorem da:aY ["_law_web_here", "_law_stand_here", "_law_other", "_law_above", "_law_turns", "_law_ones", "_law_more_here", "_law_t", "_law_ends"] ["_law_web_here", "_law_stand_here", "_law_other", "_law_above", "_law_turns"] (ak cU):=⟨rfl,rfl,rfl,by decide +kernel,rfl,by decide +kernel,by decide +kernel⟩
theorem nR (F:Fun K "_law_right" "_law_right" cU f fd) (aK:mg "range" = none) (dg:Def P w K mg base "_law_is_below" 1 2 cP) (lw:Def P w K mg base "ended" 6 2 eg) (ix:Def P w K mg base "history" 6 3 dn):cG P w K mg base CX0 7 f fd ["_law_web_here", "_law_stand_here", "_law_other", "_law_above", "_law_turns"] (spF K dr 5):=by
  refine cq F da fun cdv A outer s H E hr => ?_
  have hu:=dZ hr
  exact (ah (aB (i:=5) da.nd rfl (by first|exact .inl rfl|exact .inr rfl) (ar ix (hr.mono (by decide)) rfl (ad (mv 0) (ad (mv 1) (ad (mv 4) am))) au))
    (ah (aB (i:=6) da.nd rfl (by first|exact .inl rfl|exact .inr rfl) (ar ix (hr.mono (by decide)) rfl (ad (mv 2) (ad (mv 3) (ad (mv 4) am))) au))
    (ah (eI PassesOwn.never rfl (bN rfl aK (aX bC ca (mv 4) ag)) (aQ (i:=7) da.nd rfl (by first|exact .inl rfl|exact .inr rfl)) (ap (cC (lO (lN (ar dg (hr.mono (by decide)) rfl (ad (aH (mv 5) (mv 7) (fun _ _=>rfl)) (ad (aH (mv 6) (mv 7) (fun _ _=>rfl)) am)) au))) (ap (aV lM)) bn)))
    (ah (aB (i:=8) da.nd rfl (by first|exact .inl rfl|exact .inr rfl) (dJ (cH (ad (ar lw (hr.mono (by decide)) rfl (ad (mv 0) (ad (mv 1) am)) au) (ad (ar lw (hr.mono (by decide)) rfl (ad (mv 2) (ad (mv 3) am)) au) am)) (fun _ _ _ _ z=>by rw [(av (av bu)) _ _ _ _ z];decide))))
    (ah (cC (MW.mt (CW (bj (lR hu) sQ (aH (aH (mv 8) ag (fun _ _=>rfl)) ag (fun _ _=>rfl)) (qj [114,101,115,116] rfl) (aZ _)) (jM (bj (lR hu) sQ (aH (aH (mv 8) ag (fun _ _=>rfl)) ag (fun _ _=>rfl)) (qj [114,101,115,116] rfl) (aZ _)) (.inr rfl)))) (ap (aV lM)) bn)
    (ap (aV (ar dg (hr.mono (by decide)) rfl (ad (aH (aH (aH (mv 8) ag (fun _ _=>rfl)) ag (fun _ _=>rfl)) jf (fun _ _=>rfl)) (ad (aH (aH (aH (mv 8) ag (fun _ _=>rfl)) ag (fun _ _=>rfl)) jf (fun _ _=>rfl)) am)) au))))))))
theorem fz:aY ["_law_script", "_law_web_here", "_law_states", "_law_head", "_law_stand_here", "_law_turns", "_law_seconds", "_law_other", "_law_above", "_law_higher"] ["_law_script"] (ak jq):=⟨rfl,rfl,rfl,by decide +kernel,rfl,by decide +kernel,by decide +kernel⟩
theorem Ey (F:Fun K "law" "law" jq f fd) (bg:mg "tuple" = none) (A7:mg "zip" = none) (mQ:mg "max" = none) (aK:mg "range" = none) (bA:mg "len" = none) (ej:Def P w K mg base "_law_right" 7 5 dr) (ek:Def P w K mg base "_law_stand" 2 2 cO) (hV:Def P w K mg base "_law_more" 3 3 fL) (dy:Def P w K mg base "_law_cell" 2 2 bz) (aw:Def P w K mg base "_law_digit" 1 2 ax) (i8:Def P w K mg base "_law_web" 3 1 gh):cG P w K mg base CX0 8 f fd ["_law_script"] (spF K xH 1):=by
  refine cq F fz fun cdv A outer s H E hr => ?_
  have hu:=dZ hr
  exact (ah (zW (ar i8 (hr.mono (by decide)) rfl (ad (mv 0) am) au) (jN rfl (bY (aQ (i:=1) fz.nd rfl (by first|exact .inl rfl|exact .inr rfl)) (bY (aQ (i:=2) fz.nd rfl (by first|exact .inl rfl|exact .inr rfl)) (bY (aQ (i:=3) fz.nd rfl (by first|exact .inl rfl|exact .inr rfl)) ii)))))
    (ah (aB (i:=4) fz.nd rfl (by first|exact .inl rfl|exact .inr rfl) (ar ek (hr.mono (by decide)) rfl (ad (mv 1) (ad (mv 2) am)) au))
    (ah (aB (i:=5) fz.nd rfl (by first|exact .inl rfl|exact .inr rfl) (aX bC ca ag (ar aw (hr.mono (by decide)) rfl (ad (mv 3) (ad ag am)) au)))
    (ah (ll (i:=6) fz.nd rfl (by first|exact .inl rfl|exact .inr rfl) (own:=["_law_k"]) (capn:=["_law_script"]) (caps:=[0]) rfl (bZ.mk' rfl (by decide +kernel) (by decide +kernel) (by repeat' (first|exact be.nil|refine be.cons (by first|exact (fun _=>.inl rfl)|exact (fun _=>.inr rfl)|(intro z;cases z;done)) ?_)) (bU.cons rfl rfl bU.nil)) (bN rfl aK (dh rfl bA (dA (mv 4))))
      (fun cl C s H ex=>⟨(aQ (i:=0) (show ((["_law_k"] : List Str)++(["_law_script"] : List Str)).Nodup by decide +kernel) rfl (by first|exact .inl rfl|exact .inr rfl)),ed,(dJ (cH (ad (ar dy (hr.mono (by decide)) rfl (ad (mv 1) (ad (aX bC ca ag (mv 0)) am)) au) am) (fun _ _ _ _ z=>by rw [(av bu) _ _ _ _ z];decide)))⟩))
    (ah (zW (ar hV (hr.mono (by decide)) rfl (ad (mv 1) (ad (mv 4) (ad (mv 6) am))) au) (jN rfl (bY (aQ (i:=7) fz.nd rfl (by first|exact .inl rfl|exact .inr rfl)) (bY (aQ (i:=8) fz.nd rfl (by first|exact .inl rfl|exact .inr rfl)) ii))))
    (ah (cC (lO (lN (ar ej (hr.mono (by decide)) rfl (ad (mv 1) (ad (mv 4) (ad (mv 7) (ad (mv 8) (ad (mv 5) am))))) au))) (ap (aV lM)) bn)
    (ah (aB (i:=9) fz.nd rfl (by first|exact .inl rfl|exact .inr rfl) (de rfl bg (fh (eX (own:=["_law_one", "_law_two"]) (capn:=[]) (caps:=[]) rfl (bZ.mk' rfl (by decide +kernel) (by decide +kernel) (by repeat' (first|exact be.nil|refine be.cons (by first|exact (fun _=>.inl rfl)|exact (fun _=>.inr rfl)|(intro z;cases z;done)) ?_)) bU.nil) (Ee rfl A7 (mv 4) (ar ek (hr.mono (by decide)) rfl (ad (mv 1) (ad (mv 2) am)) au))
      (fun cl C s H ex=>⟨(jN rfl (bY (aQ (i:=0) (show ((["_law_one", "_law_two"] : List Str)++([] : List Str)).Nodup by decide +kernel) rfl (by first|exact .inl rfl|exact .inr rfl)) (bY (aQ (i:=1) (show ((["_law_one", "_law_two"] : List Str)++([] : List Str)).Nodup by decide +kernel) rfl (by first|exact .inl rfl|exact .inr rfl)) ii))),ed,(u5 rfl rfl mQ (mv 0) (mv 1))⟩)))))
    (ap (aV (ar ej (hr.mono (by decide)) rfl (ad (mv 1) (ad (mv 4) (ad (mv 1) (ad (mv 9) (ad (mv 5) am))))) au))))))))))
end
theorem jr {α : Type}(us:List α)(hl:us.length=1):∃ x0,us=[x0]:=match us,hl with | [x0],_=>⟨x0,rfl⟩
theorem bO {α : Type}(us:List α)(hl:us.length=2):∃ x0 x1,us=[x0,x1]:=match us,hl with | [x0,x1],_=>⟨x0,x1,rfl⟩
theorem g9 {α : Type}(us:List α)(hl:us.length=3):∃ x0 x1 x2,us=[x0,x1,x2]:=match us,hl with | [x0,x1,x2],_=>⟨x0,x1,x2,rfl⟩
theorem A5 {α : Type}(us:List α)(hl:us.length=5):∃ x0 x1 x2 x3 x4,us=[x0,x1,x2,x3,x4]:=match us,hl with | [x0,x1,x2,x3,x4],_=>⟨x0,x1,x2,x3,x4,rfl⟩
theorem Ez {l:PySem.W.OpenLaw} {w:World} {K:PySem.W.Frag} {h:Heap} {mg:Str→Option Value} {fa i9 gq gr j6 j7 mR j8 vJ fB j9 ka kb kc qX hW hX gu fD ja jb gv eS hZ ea gw A8:Addr} (X:K.In h) (G:h.Ns mainGlobals mg) (hfa:mg "law" = some (.ref fa))
    {tY tZ:Option Addr} {t4:Array (Option Value)} {t5 t6 t7 t8 kE t9:Value}
    (vK:PySem.W.nsIn K mainGlobals "is_whole" = some (some (.ref i9))) (vM:K.lookup i9=some ⟨t5,tY,.func (PySem.W.fnOf "is_whole" "is_whole" (aU dS) (aL dS) (ak dS) .none t6 t7 t8 tZ kE t9),t4⟩) (i6:PySem.W.codeIn K kE "is_whole" = true) (mS:PySem.W.keepIn K (.ref i9)=true)
    {nS nT:Option Addr} {nU:Array (Option Value)} {nV nW nX nY iE nZ:Value}
    (qY:PySem.W.nsIn K mainGlobals "is_between" = some (some (.ref gq))) (qZ:K.lookup gq=some ⟨nV,nS,.func (PySem.W.fnOf "is_between" "is_between" (aU cQ) (aL cQ) (ak cQ) .none nW nX nY nT iE nZ),nU⟩) (gl:PySem.W.codeIn K iE "is_between" = true) (ju:PySem.W.keepIn K (.ref gq)=true)
    {n5 n6:Option Addr} {n8:Array (Option Value)} {n9 og oh oj iF om:Value}
    (ra:PySem.W.nsIn K mainGlobals "is_opinion" = some (some (.ref gr))) (rb:K.lookup gr=some ⟨n9,n5,.func (PySem.W.fnOf "is_opinion" "is_opinion" (aU cR) (aL cR) (ak cR) .none og oh oj n6 iF om),n8⟩) (gm:PySem.W.codeIn K iF "is_opinion" = true) (jv:PySem.W.keepIn K (.ref gr)=true)
    {vN vO:Option Addr} {vP:Array (Option Value)} {vQ vR vS vT mT vU:Value}
    (yL:PySem.W.nsIn K mainGlobals "many_of" = some (some (.ref j6))) (yM:K.lookup j6=some ⟨vQ,vN,.func (PySem.W.fnOf "many_of" "many_of" (aU en) (aL en) (ak en) .none vR vS vT vO mT vU),vP⟩) (fQ:PySem.W.codeIn K mT "many_of" = true) (pP:PySem.W.keepIn K (.ref j6)=true)
    {vV vW:Option Addr} {vX:Array (Option Value)} {vY vZ v4 v5 mU v6:Value}
    (yN:PySem.W.nsIn K mainGlobals "ties_of" = some (some (.ref j7))) (yO:K.lookup j7=some ⟨vY,vV,.func (PySem.W.fnOf "ties_of" "ties_of" (aU er) (aL er) (ak er) .none vZ v4 v5 vW mU v6),vX⟩) (j3:PySem.W.codeIn K mU "ties_of" = true) (pQ:PySem.W.keepIn K (.ref j7)=true)
    {yP yQ:Option Addr} {yR:Array (Option Value)} {yS yT yU yV pR yW:Value}
    (A9:PySem.W.nsIn K mainGlobals "bar_of" = some (some (.ref mR))) (Bc:K.lookup mR=some ⟨yS,yP,.func (PySem.W.fnOf "bar_of" "bar_of" (aU fO) (aL fO) (ak fO) .none yT yU yV yQ pR yW),yR⟩) (mP:PySem.W.codeIn K pR "bar_of" = true) (ua:PySem.W.keepIn K (.ref mR)=true)
    {v7 wa:Option Addr} {wb:Array (Option Value)} {wc wd we wf mV wg:Value}
    (yX:PySem.W.nsIn K mainGlobals "stay_of" = some (some (.ref j8))) (yY:K.lookup j8=some ⟨wc,v7,.func (PySem.W.fnOf "stay_of" "stay_of" (aU eu) (aL eu) (ak eu) .none wd we wf wa mV wg),wb⟩) (fP:PySem.W.codeIn K mV "stay_of" = true) (pS:PySem.W.keepIn K (.ref j8)=true)
    {Cz CA:Option Addr} {CB:Array (Option Value)} {CC CF CG CH xO CJ:Value}
    (EA:PySem.W.nsIn K mainGlobals "fits" = some (some (.ref vJ))) (EB:K.lookup vJ=some ⟨CC,Cz,.func (PySem.W.fnOf "fits" "fits" (aU jY) (aL jY) (ak jY) .none CF CG CH CA xO CJ),CB⟩) (vH:PySem.W.codeIn K xO "fits" = true) (Bd:PySem.W.keepIn K (.ref vJ)=true)
    {mW mX:Option Addr} {mY:Array (Option Value)} {mZ m3 m4 m6 h9 m7:Value}
    (oo:PySem.W.nsIn K mainGlobals "check_stand" = some (some (.ref fB))) (oq:K.lookup fB=some ⟨mZ,mW,.func (PySem.W.fnOf "check_stand" "check_stand" (aU cE) (aL cE) (ak cE) .none m3 m4 m6 mX h9 m7),mY⟩) (db:PySem.W.codeIn K h9 "check_stand" = true) (iG:PySem.W.keepIn K (.ref fB)=true)
    {wj wm:Option Addr} {wn:Array (Option Value)} {wo wp wq wr m8 wu:Value}
    (yZ:PySem.W.nsIn K mainGlobals "pull_at" = some (some (.ref j9))) (y6:K.lookup j9=some ⟨wo,wj,.func (PySem.W.fnOf "pull_at" "pull_at" (aU eA) (aL eA) (ak eA) .none wp wq wr wm m8 wu),wn⟩) (j4:PySem.W.codeIn K m8 "pull_at" = true) (pT:PySem.W.keepIn K (.ref j9)=true)
    {wv ww:Option Addr} {wx:Array (Option Value)} {wy wz wA wB m9 wC:Value}
    (y7:PySem.W.nsIn K mainGlobals "next_at" = some (some (.ref ka))) (y9:K.lookup ka=some ⟨wy,wv,.func (PySem.W.fnOf "next_at" "next_at" (aU eB) (aL eB) (ak eB) .none wz wA wB ww m9 wC),wx⟩) (j5:PySem.W.codeIn K m9 "next_at" = true) (pU:PySem.W.keepIn K (.ref ka)=true)
    {wD wE:Option Addr} {wF:Array (Option Value)} {wG wH wI wJ nb wK:Value}
    (za:PySem.W.nsIn K mainGlobals "turn_at" = some (some (.ref kb))) (zb:K.lookup kb=some ⟨wG,wD,.func (PySem.W.fnOf "turn_at" "turn_at" (aU eC) (aL eC) (ak eC) .none wH wI wJ wE nb wK),wF⟩) (dX:PySem.W.codeIn K nb "turn_at" = true) (pV:PySem.W.keepIn K (.ref kb)=true)
    {wL wM:Option Addr} {wN:Array (Option Value)} {wO wP wQ wR nc wS:Value}
    (zc:PySem.W.nsIn K mainGlobals "history" = some (some (.ref kc))) (zd:K.lookup kc=some ⟨wO,wL,.func (PySem.W.fnOf "history" "history" (aU eD) (aL eD) (ak eD) .none wP wQ wR wM nc wS),wN⟩) (ix:PySem.W.codeIn K nc "history" = true) (pW:PySem.W.keepIn K (.ref kc)=true)
    {Be Bf:Option Addr} {Bg:Array (Option Value)} {Bh Bi Bj Bk ub Bl:Value}
    (CK:PySem.W.nsIn K mainGlobals "ended" = some (some (.ref qX))) (CL:K.lookup qX=some ⟨Bh,Be,.func (PySem.W.fnOf "ended" "ended" (aU iw) (aL iw) (ak iw) .none Bi Bj Bk Bf ub Bl),Bg⟩) (lw:PySem.W.codeIn K ub "ended" = true) (xP:PySem.W.keepIn K (.ref qX)=true)
    {rc re:Option Addr} {rg:Array (Option Value)} {rj rk rl rm jw rn:Value}
    (uc:PySem.W.nsIn K mainGlobals "_law_wide" = some (some (.ref hW))) (ud:K.lookup hW=some ⟨rj,rc,.func (PySem.W.fnOf "_law_wide" "_law_wide" (aU du) (aL du) (ak du) .none rk rl rm re jw rn),rg⟩) (hU:PySem.W.codeIn K jw "_law_wide" = true) (kF:PySem.W.keepIn K (.ref hW)=true)
    {rp rq:Option Addr} {rA:Array (Option Value)} {rC rE rF rG jx rH:Value}
    (ue:PySem.W.nsIn K mainGlobals "_law_cell" = some (some (.ref hX))) (uf:K.lookup hX=some ⟨rC,rp,.func (PySem.W.fnOf "_law_cell" "_law_cell" (aU dv) (aL dv) (ak dv) .none rE rF rG rq jx rH),rA⟩) (dy:PySem.W.codeIn K jx "_law_cell" = true) (kG:PySem.W.keepIn K (.ref hX)=true)
    {ow ox:Option Addr} {oy:Array (Option Value)} {oz oA oC oD iH oE:Value}
    (rJ:PySem.W.nsIn K mainGlobals "_law_digit" = some (some (.ref gu))) (rK:K.lookup gu=some ⟨oz,ow,.func (PySem.W.fnOf "_law_digit" "_law_digit" (aU cS) (aL cS) (ak cS) .none oA oC oD ox iH oE),oy⟩) (aw:PySem.W.codeIn K iH "_law_digit" = true) (jy:PySem.W.keepIn K (.ref gu)=true)
    {ng nh:Option Addr} {ni:Array (Option Value)} {nj nk nn nr ia nt:Value}
    (oF:PySem.W.nsIn K mainGlobals "_law_weight" = some (some (.ref fD))) (oG:K.lookup fD=some ⟨nj,ng,.func (PySem.W.fnOf "_law_weight" "_law_weight" (aU cF) (aL cF) (ak cF) .none nk nn nr nh ia nt),ni⟩) (fA:PySem.W.codeIn K ia "_law_weight" = true) (iI:PySem.W.keepIn K (.ref fD)=true)
    {ug uh:Option Addr} {ui:Array (Option Value)} {uj uk ul um kH uo:Value}
    (wT:PySem.W.nsIn K mainGlobals "_law_bar" = some (some (.ref ja))) (wU:K.lookup ja=some ⟨uj,ug,.func (PySem.W.fnOf "_law_bar" "_law_bar" (aU dU) (aL dU) (ak dU) .none uk ul um uh kH uo),ui⟩) (i7:PySem.W.codeIn K kH "_law_bar" = true) (nu:PySem.W.keepIn K (.ref ja)=true)
    {uq ur:Option Addr} {ut:Array (Option Value)} {uv uw ux uy kI uz:Value}
    (wV:PySem.W.nsIn K mainGlobals "_law_web" = some (some (.ref jb))) (wW:K.lookup jb=some ⟨uv,uq,.func (PySem.W.fnOf "_law_web" "_law_web" (aU dW) (aL dW) (ak dW) .none uw ux uy ur kI uz),ut⟩) (i8:PySem.W.codeIn K kI "_law_web" = true) (nv:PySem.W.keepIn K (.ref jb)=true)
    {oH oJ:Option Addr} {oK:Array (Option Value)} {oM oN oO oP iJ oQ:Value}
    (rL:PySem.W.nsIn K mainGlobals "_law_stand" = some (some (.ref gv))) (rM:K.lookup gv=some ⟨oM,oH,.func (PySem.W.fnOf "_law_stand" "_law_stand" (aU cT) (aL cT) (ak cT) .none oN oO oP oJ iJ oQ),oK⟩) (ek:PySem.W.codeIn K iJ "_law_stand" = true) (jz:PySem.W.keepIn K (.ref gv)=true)
    {kR kS:Option Addr} {kT:Array (Option Value)} {kU kW kX kY gx kZ:Value}
    (ny:PySem.W.nsIn K mainGlobals "_law_heavier" = some (some (.ref eS))) (nA:K.lookup eS=some ⟨kU,kR,.func (PySem.W.fnOf "_law_heavier" "_law_heavier" (aU cm) (aL cm) (ak cm) .none kW kX kY kS gx kZ),kT⟩) (eR:PySem.W.codeIn K gx "_law_heavier" = true) (ic:PySem.W.keepIn K (.ref eS)=true)
    {rN rO:Option Addr} {rP:Array (Option Value)} {rR rS rT rV jA rW:Value}
    (uA:PySem.W.nsIn K mainGlobals "_law_more" = some (some (.ref hZ))) (uB:K.lookup hZ=some ⟨rR,rN,.func (PySem.W.fnOf "_law_more" "_law_more" (aU dw) (aL dw) (ak dw) .none rS rT rV rO jA rW),rP⟩) (hV:PySem.W.codeIn K jA "_law_more" = true) (kJ:PySem.W.keepIn K (.ref hZ)=true)
    {ke kf:Option Addr} {kg:Array (Option Value)} {kh ki kl km fS kn:Value}
    (k6:PySem.W.nsIn K mainGlobals "_law_is_below" = some (some (.ref ea))) (k7:K.lookup ea=some ⟨kh,ke,.func (PySem.W.fnOf "_law_is_below" "_law_is_below" (aU bR) (aL bR) (ak bR) .none ki kl km kf fS kn),kg⟩) (dg:PySem.W.codeIn K fS "_law_is_below" = true) (gy:PySem.W.keepIn K (.ref ea)=true)
    {oR oS:Option Addr} {oT:Array (Option Value)} {oU oV oW oX iK oY:Value}
    (rX:PySem.W.nsIn K mainGlobals "_law_right" = some (some (.ref gw))) (rY:K.lookup gw=some ⟨oU,oR,.func (PySem.W.fnOf "_law_right" "_law_right" (aU cU) (aL cU) (ak cU) .none oV oW oX oS iK oY),oT⟩) (ej:PySem.W.codeIn K iK "_law_right" = true) (jB:PySem.W.keepIn K (.ref gw)=true)
    {EC Bm:Option Addr} {ED:Array (Option Value)} {EE Bn Bo Bp wX Bq:Value}
    (FF:PySem.W.nsIn K mainGlobals "law" = some (some (.ref A8))) (FG:K.lookup A8=some ⟨EE,EC,.func (PySem.W.fnOf "law" "law" (aU jq) (aL jq) (ak jq) .none Bn Bo Bp Bm wX Bq),ED⟩) (FH:PySem.W.codeIn K wX "law" = true) (FI:PySem.W.keepIn K (.ref A8)=true)
    (rZ:PySem.W.nsIn K mainGlobals "isinstance" = some none)
    (EG:PySem.W.nsIn K mainGlobals "bool" = some none)
    (FJ:PySem.W.nsIn K mainGlobals "int" = some none)
    (FK:PySem.W.nsIn K mainGlobals "len" = some none)
    (uC:PySem.W.nsIn K mainGlobals "enumerate" = some none)
    (CM:PySem.W.nsIn K mainGlobals "tuple" = some none)
    (FL:PySem.W.nsIn K mainGlobals "sum" = some none)
    (CN:PySem.W.nsIn K mainGlobals "range" = some none)
    (Br:PySem.W.nsIn K mainGlobals "sorted" = some none)
    (FM:PySem.W.nsIn K mainGlobals "min" = some none)
    (EH:PySem.W.nsIn K mainGlobals "dict" = some none)
    (FN:PySem.W.nsIn K mainGlobals "max" = some none)
    (FO:PySem.W.nsIn K mainGlobals "zip" = some none)
    {gn:Tok} (r6:PySem.W.nsIn K mainGlobals "MOST_TURNS" = some (some (.int 400 gn)))
    : ∃ fd:FuncData,(∀ (s:Shared) (v:Value),BindsTo s fd ⟨[v],[]⟩ [("_law_script",v)]) ∧ ∀ base:Heap,K.In base→base.Ns mainGlobals mg→cG l.prog w K mg base CX0 8 fa fd ["_law_script"] (spF K xH 1):=by
  have e:=hfa.symm.trans (PySem.W.mg_of X G FF)
  cases e
  have cx:=PySem.W.mg_none_of X G rZ
  have vG:=PySem.W.mg_none_of X G EG
  have jt:=PySem.W.mg_none_of X G FJ
  have bA:=PySem.W.mg_none_of X G FK
  have hJ:=PySem.W.mg_none_of X G uC
  have bg:=PySem.W.mg_none_of X G CM
  have pO:=PySem.W.mg_none_of X G FL
  have aK:=PySem.W.mg_none_of X G CN
  have fR:=PySem.W.mg_none_of X G Br
  have A6:=PySem.W.mg_none_of X G FM
  have vI:=PySem.W.mg_none_of X G EH
  have mQ:=PySem.W.mg_none_of X G FN
  have A7:=PySem.W.mg_none_of X G FO
  have gp:=PySem.W.mg_of X G r6
  have nB:=bx (st:=dS) vM i6 mS
  have wY:=nB.binds (ps:=["thing"]) fun _ _ _ _ _ _ us hl=>by obtain⟨_,rfl⟩:=jr us hl;rfl
  have jC:=bx (st:=cQ) qZ gl ju
  have se:=jC.binds (ps:=["thing", "least", "most"]) fun _ _ _ _ _ _ us hl=>by obtain⟨_,_,_,rfl⟩:=g9 us hl;rfl
  have jD:=bx (st:=cR) rb gm jv
  have sf:=jD.binds (ps:=["thing"]) fun _ _ _ _ _ _ us hl=>by obtain⟨_,rfl⟩:=jr us hl;rfl
  have pX:=bx (st:=en) yM fQ pP
  have ze:=pX.binds (ps:=["web"]) fun _ _ _ _ _ _ us hl=>by obtain⟨_,rfl⟩:=jr us hl;rfl
  have pY:=bx (st:=er) yO j3 pQ
  have zf:=pY.binds (ps:=["web", "person"]) fun _ _ _ _ _ _ us hl=>by obtain⟨_,_,rfl⟩:=bO us hl;rfl
  have uD:=bx (st:=fO) Bc mP ua
  have Bs:=uD.binds (ps:=["web", "person"]) fun _ _ _ _ _ _ us hl=>by obtain⟨_,_,rfl⟩:=bO us hl;rfl
  have pZ:=bx (st:=eu) yY fP pS
  have zg:=pZ.binds (ps:=["web", "person"]) fun _ _ _ _ _ _ us hl=>by obtain⟨_,_,rfl⟩:=bO us hl;rfl
  have Bt:=bx (st:=jY) EB vH Bd
  have EI:=Bt.binds (ps:=["web", "thing"]) fun _ _ _ _ _ _ us hl=>by obtain⟨_,_,rfl⟩:=bO us hl;rfl
  have iL:=bx (st:=cE) oq db iG
  have oZ:=iL.binds (ps:=["web", "thing"]) fun _ _ _ _ _ _ us hl=>by obtain⟨_,_,rfl⟩:=bO us hl;rfl
  have p5:=bx (st:=eA) y6 j4 pT
  have zh:=p5.binds (ps:=["web", "stand", "person"]) fun _ _ _ _ _ _ us hl=>by obtain⟨_,_,_,rfl⟩:=g9 us hl;rfl
  have p6:=bx (st:=eB) y9 j5 pU
  have zi:=p6.binds (ps:=["web", "stand", "person"]) fun _ _ _ _ _ _ us hl=>by obtain⟨_,_,_,rfl⟩:=g9 us hl;rfl
  have p7:=bx (st:=eC) zb dX pV
  have zj:=p7.binds (ps:=["web", "stand"]) fun _ _ _ _ _ _ us hl=>by obtain⟨_,_,rfl⟩:=bO us hl;rfl
  have p8:=bx (st:=eD) zd ix pW
  have zk:=p8.binds (ps:=["web", "stand", "turns"]) fun _ _ _ _ _ _ us hl=>by obtain⟨_,_,_,rfl⟩:=g9 us hl;rfl
  have xQ:=bx (st:=iw) CL lw xP
  have CO:=xQ.binds (ps:=["web", "stand"]) fun _ _ _ _ _ _ us hl=>by obtain⟨_,_,rfl⟩:=bO us hl;rfl
  have kK:=bx (st:=du) ud hU kF
  have uE:=kK.binds (ps:=["_law_script", "_law_k"]) fun _ _ _ _ _ _ us hl=>by obtain⟨_,_,rfl⟩:=bO us hl;rfl
  have kL:=bx (st:=dv) uf dy kG
  have uF:=kL.binds (ps:=["_law_script", "_law_k"]) fun _ _ _ _ _ _ us hl=>by obtain⟨_,_,rfl⟩:=bO us hl;rfl
  have jE:=bx (st:=cS) rK aw jy
  have sg:=jE.binds (ps:=["_law_state", "_law_most"]) fun _ _ _ _ _ _ us hl=>by obtain⟨_,_,rfl⟩:=bO us hl;rfl
  have iM:=bx (st:=cF) oG fA iI
  have o0:=iM.binds (ps:=["_law_state", "_law_sort"]) fun _ _ _ _ _ _ us hl=>by obtain⟨_,_,rfl⟩:=bO us hl;rfl
  have nC:=bx (st:=dU) wU i7 nu
  have wZ:=nC.binds (ps:=["_law_state", "_law_total"]) fun _ _ _ _ _ _ us hl=>by obtain⟨_,_,rfl⟩:=bO us hl;rfl
  have nD:=bx (st:=dW) wW i8 nv
  have w5:=nD.binds (ps:=["_law_script"]) fun _ _ _ _ _ _ us hl=>by obtain⟨_,rfl⟩:=jr us hl;rfl
  have jF:=bx (st:=cT) rM ek jz
  have sj:=jF.binds (ps:=["_law_web_here", "_law_states"]) fun _ _ _ _ _ _ us hl=>by obtain⟨_,_,rfl⟩:=bO us hl;rfl
  have ie:=bx (st:=cm) nA eR ic
  have nE:=ie.binds (ps:=["_law_web_here", "_law_seconds"]) fun _ _ _ _ _ _ us hl=>by obtain⟨_,_,rfl⟩:=bO us hl;rfl
  have kM:=bx (st:=dw) uB hV kJ
  have uG:=kM.binds (ps:=["_law_web_here", "_law_stand_here", "_law_seconds"]) fun _ _ _ _ _ _ us hl=>by obtain⟨_,_,_,rfl⟩:=g9 us hl;rfl
  have gA:=bx (st:=bR) k7 dg gy
  have k8:=gA.binds (ps:=["_law_one", "_law_other"]) fun _ _ _ _ _ _ us hl=>by obtain⟨_,_,rfl⟩:=bO us hl;rfl
  have jG:=bx (st:=cU) rY ej jB
  have sk:=jG.binds (ps:=["_law_web_here", "_law_stand_here", "_law_other", "_law_above", "_law_turns"]) fun _ _ _ _ _ _ us hl=>by obtain⟨_,_,_,_,_,rfl⟩:=A5 us hl;rfl
  have FP:=bx (st:=jq) FG FH FI
  refine⟨PySem.W.fnOf "law" "law" (aU jq) (aL jq) (ak jq) .none Bn Bo Bp Bm wX Bq,fun s v=>.of_eq rfl,fun base KB _ => ?_⟩
  have w6:Def l.prog w K mg base "is_whole" 1 1 dN:=Def.mk' (PySem.W.mg_of X G vK) mS wY (tV (P:=l.prog) (w:=w) (base:=base) nB cx vG jt)
  have sn:Def l.prog w K mg base "is_between" 2 3 dD:=Def.mk' (PySem.W.mg_of X G qY) ju se (nM (P:=l.prog) (w:=w) (base:=base) jC w6)
  have sr:Def l.prog w K mg base "is_opinion" 3 1 cv:=Def.mk' (PySem.W.mg_of X G ra) jv sf (nO (P:=l.prog) (w:=w) (base:=base) jD sn)
  have p9:Def l.prog w K mg base "many_of" 1 1 cN:=Def.mk' (PySem.W.mg_of X G yL) pP ze (vv (P:=l.prog) (w:=w) (base:=base) pX bA)
  have zm:Def l.prog w K mg base "ties_of" 1 2 fH:=Def.mk' (PySem.W.mg_of X G yN) pQ zf (vx (P:=l.prog) (w:=w) (base:=base) pY)
  have Bu:Def l.prog w K mg base "bar_of" 1 2 fI:=Def.mk' (PySem.W.mg_of X G A9) ua Bs (yK (P:=l.prog) (w:=w) (base:=base) uD)
  have qa:Def l.prog w K mg base "stay_of" 1 2 dm:=Def.mk' (PySem.W.mg_of X G yX) pS zg (vz (P:=l.prog) (w:=w) (base:=base) pZ)
  have EJ:Def l.prog w K mg base "fits" 4 2 ml:=Def.mk' (PySem.W.mg_of X G EA) Bd EI (Cy (P:=l.prog) (w:=w) (base:=base) Bt hJ bA cx bg qa sr p9)
  have iN:Def l.prog w K mg base "check_stand" 5 2 bL:=Def.mk' (PySem.W.mg_of X G oo) iG oZ (mN (P:=l.prog) (w:=w) (base:=base) iL EJ)
  have zn:Def l.prog w K mg base "pull_at" 2 3 el:=Def.mk' (PySem.W.mg_of X G yZ) pT zh (vB (P:=l.prog) (w:=w) (base:=base) p5 pO zm)
  have zo:Def l.prog w K mg base "next_at" 3 3 dP:=Def.mk' (PySem.W.mg_of X G y7) pU zi (vC (P:=l.prog) (w:=w) (base:=base) p6 Bu zn qa)
  have qb:Def l.prog w K mg base "turn_at" 4 2 cf:=Def.mk' (PySem.W.mg_of X G za) pV zj (vE (P:=l.prog) (w:=w) (base:=base) p7 bg aK p9 zo)
  have zp:Def l.prog w K mg base "history" 6 3 dn:=Def.mk' (PySem.W.mg_of X G zc) pW zk (vF (P:=l.prog) (w:=w) (base:=base) p8 aK gp qb iN)
  have CP:Def l.prog w K mg base "ended" 6 2 eg:=Def.mk' (PySem.W.mg_of X G CK) xP CO (A4 (P:=l.prog) (w:=w) (base:=base) xQ bA qb iN)
  have uH:Def l.prog w K mg base "_law_wide" 1 2 eQ:=Def.mk' (PySem.W.mg_of X G uc) kF uE (qT (P:=l.prog) (w:=w) (base:=base) kK aK bA)
  have kN:Def l.prog w K mg base "_law_cell" 2 2 bz:=Def.mk' (PySem.W.mg_of X G ue) kG uF (qV (P:=l.prog) (w:=w) (base:=base) kL bA uH)
  have cz:Def l.prog w K mg base "_law_digit" 1 2 ax:=Def.mk' (PySem.W.mg_of X G rJ) jy sg (nP (P:=l.prog) (w:=w) (base:=base) jE)
  have o3:Def l.prog w K mg base "_law_weight" 2 2 cw:=Def.mk' (PySem.W.mg_of X G oF) iI o0 (mO (P:=l.prog) (w:=w) (base:=base) iM jt cz)
  have w8:Def l.prog w K mg base "_law_bar" 2 2 dY:=Def.mk' (PySem.W.mg_of X G wT) nu wZ (tW (P:=l.prog) (w:=w) (base:=base) nC cz)
  have xa:Def l.prog w K mg base "_law_web" 3 1 gh:=Def.mk' (PySem.W.mg_of X G wV) nv w5 (tX (P:=l.prog) (w:=w) (base:=base) nD bg fR aK pO cz w8 o3 kN)
  have su:Def l.prog w K mg base "_law_stand" 2 2 cO:=Def.mk' (PySem.W.mg_of X G rL) jz sj (nQ (P:=l.prog) (w:=w) (base:=base) jF bg aK bA cz)
  have nF:Def l.prog w K mg base "_law_heavier" 2 2 dq:=Def.mk' (PySem.W.mg_of X G ny) ic nE (kQ (P:=l.prog) (w:=w) (base:=base) ie bg fR aK bA A6 vI cz)
  have uI:Def l.prog w K mg base "_law_more" 3 3 fL:=Def.mk' (PySem.W.mg_of X G uA) kJ uG (qW (P:=l.prog) (w:=w) (base:=base) kM bg aK bA mQ jt cz nF)
  have lc:Def l.prog w K mg base "_law_is_below" 1 2 cP:=Def.mk' (PySem.W.mg_of X G k6) gy k8 (j2 (P:=l.prog) (w:=w) (base:=base) gA bA aK)
  have sw:Def l.prog w K mg base "_law_right" 7 5 dr:=Def.mk' (PySem.W.mg_of X G rX) jB sk (nR (P:=l.prog) (w:=w) (base:=base) jG aK lc CP zp)
  exact Ey (P:=l.prog) (w:=w) (base:=base) FP bg A7 mQ aK bA sw su uI kN cz xa
end Fm
set_option Elab.async false
set_option linter.all false
set_option maxRecDepth 100000
def PySem.W.Fast.tw90343872475197607 : Type := PySem.Params
theorem PySem.W.Fast.te90343872475197607 : PySem.Params = PySem.W.Fast.tw90343872475197607 := rfl
open PySem PySem.W PyProof.Rows
set_option maxRecDepth 100000 in
set_option maxHeartbeats 0 in
theorem PySem.Challenge.cw_followmost_k14_whole_more_ones_never_few_holds : PySem.Challenge.rw_followmost_k14_whole_more_ones_never_few.Holds := by
  w_on;o_law;k_head;(case hw=>w_witness2)
  k_fill
  refine Fm.Fp (l := PySem.Challenge.rw_followmost_k14_whole_more_ones_never_few) (F := Fm.xH) (k := 8) (x := "_law_script") rfl rfl ⟨rfl, by decide, by decide⟩ (fun w h Y => PySem.W.kIn_of Y) ?F Fm.Ex
  case F =>
    intro w mg fa h KX G hmg
    refine' Fm.Ez KX G hmg ?_ ?_ ?_ ?_ ?_ ?_ ?_ ?_ ?_ ?_ ?_ ?_ ?_ ?_ ?_ ?_ ?_ ?_ ?_ ?_ ?_ ?_ ?_ ?_ ?_ ?_ ?_ ?_ ?_ ?_ ?_ ?_ ?_ ?_ ?_ ?_ ?_ ?_ ?_ ?_ ?_ ?_ ?_ ?_ ?_ ?_ ?_ ?_ ?_ ?_ ?_ ?_ ?_ ?_ ?_ ?_ ?_ ?_ ?_ ?_ ?_ ?_ ?_ ?_ ?_ ?_ ?_ ?_ ?_ ?_ ?_ ?_ ?_ ?_ ?_ ?_ ?_ ?_ ?_ ?_ ?_ ?_ ?_ ?_ ?_ ?_ ?_ ?_ ?_ ?_ ?_ ?_ ?_ ?_ ?_ ?_ ?_ ?_ ?_ ?_ ?_ ?_ ?_ ?_ ?_ ?_ ?_ ?_ ?_ ?_ ?_ ?_ ?_ ?_ ?_ ?_ ?_ ?_
    all_goals try first|k_is|k_exc|kit_is
