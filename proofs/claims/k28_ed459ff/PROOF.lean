import PyProof.Rows.All
import Wide.All
import OpenK.AllK
import Wide.FinOn
import Lean
import PyProof.EqAt
import PyProof.EqKinds
import PyProof.TupleCall
import PyProof.NeKinds
import PyProof.IsInstanceH
import PyProof.IsiNone
import PyProof.EnumMake
import PyProof.Draws
import PyProof.ZipIter
import PyProof.ListRange
import KE.RegKIsAll
import PyProof.ExcAttrAll.ValueError
import PyProof.NsDelKeeps
import PySem.Challenge.RW_followmost_k28_webs_doubled
set_option Elab.async false
set_option linter.all false
set_option maxRecDepth 100000
namespace L2
open PySem PySem.Spec PyProof.Rows
abbrev Key:=Sum Int Str
def sI:Key→Value→Bool
  | .inl k,v=>Value.isInt k v
  | .inr x,v=>Value.isStrOf x v
def J1 (w:World):Key→Int
  | .inl k=>hashInt k
  | .inr x=>hashStr w x
theorem cw:∀ {k:Key} {v:Value},sI k v=true→(∃ i t,k=Sum.inl i∧v=Value.int i t)∨(∃ x t,k=Sum.inr x∧v=Value.str x t)
  | .inl i,v,h=>by
    obtain⟨t,e⟩:=Value.isInt_shape (k:=i) (v:=v) h
    exact .inl ⟨i,t,rfl,e⟩
  | .inr x,v,h=>by
    obtain⟨t,e⟩:=Value.isStrOf_shape (x:=x) (v:=v) h
    exact .inr ⟨x,t,rfl,e⟩
theorem Br (i:Int)(t:Tok):sI (.inl i) (.int i t)=true:=by simp [sI,Value.isInt]
theorem Bs (x:Str)(t:Tok):sI (.inr x) (.str x t)=true:=by simp [sI,Value.isStrOf]
theorem GP (a b:Int):decide ((Sum.inl a:Key)=Sum.inl b)=(a == b):=by
  by_cases e:a=b
  · subst e;simp
  · have h : ¬ (Sum.inl a:Key)=Sum.inl b:=fun q=>e (Sum.inl.inj q)
    rw [decide_eq_false h]
    exact (beq_eq_false_iff_ne.mpr e).symm
theorem GQ (a b:Str):decide ((Sum.inr a:Key)=Sum.inr b)=decide (a=b):=by
  by_cases e:a=b
  · subst e;simp
  · have h : ¬ (Sum.inr a:Key)=Sum.inr b:=fun q=>e (Sum.inr.inj q)
    rw [decide_eq_false h,decide_eq_false e]
theorem GR (a:Int)(b:Str):decide ((Sum.inl a:Key)=Sum.inr b)=false:=decide_eq_false (fun q=>nomatch q)
theorem GS (a:Str)(b:Int):decide ((Sum.inr a:Key)=Sum.inl b)=false:=decide_eq_false (fun q=>nomatch q)
def bZ (prog:Program) (w:World):PySem.KeyKind prog w Key where
  is:=sI
  hash:=J1 w
  inj:=fun v a b ha hb=>by
    rcases cw ha with ⟨i,t,rfl,rfl⟩|⟨x,t,rfl,rfl⟩
    · rcases cw hb with ⟨j,u,rfl,e⟩|⟨y,u,rfl,e⟩
      · injection e with e1 _;rw [e1]
      · exact nomatch e
    · rcases cw hb with ⟨j,u,rfl,e⟩|⟨y,u,rfl,e⟩
      · exact nomatch e
      · injection e with e1 _;rw [e1]
  byValue:=fun k v h=>by
    rcases cw h with ⟨i,t,rfl,rfl⟩|⟨x,t,rfl,rfl⟩<;>rfl
  pyHash:=fun hv h=>by
    rcases cw hv with ⟨i,t,rfl,rfl⟩|⟨x,t,rfl,rfl⟩
    · exact wpAny_pyHash_int h
    · exact wpAny_pyHash_str h
  eqBool:=fun hu hv h=>by
    rcases cw hu with ⟨i,t,rfl,rfl⟩|⟨x,t,rfl,rfl⟩
    · rcases cw hv with ⟨j,u,rfl,rfl⟩|⟨y,u,rfl,rfl⟩
      · rw [GP] at h;exact wpAny_eqBool_int h
      · rw [GR] at h;exact SeqAt.EqAt.int_str i t y u _ _ _ _ h
    · rcases cw hv with ⟨j,u,rfl,rfl⟩|⟨y,u,rfl,rfl⟩
      · rw [GS] at h;exact SeqAt.EqAt.str_int x t j u _ _ _ _ h
      · rw [GQ] at h;exact wpAny_eqBool_str h
  «strs» := fun k x t v h=>by
    rcases cw h with ⟨i,u,rfl,e⟩|⟨y,u,rfl,e⟩
    · exact nomatch e
    · injection e with e1 _
      subst e1
      cases v<;>rfl
theorem wx (prog:Program)(w:World)(i:Int)(t:Tok):(bZ prog w).is (.inl i) (.int i t)=true:=Br i t
theorem wy (prog:Program)(w:World)(x:Str)(t:Tok):(bZ prog w).is (.inr x) (.str x t)=true:=Bs x t
end L2
namespace L2
open PySem PySem.Spec PyProof.Rows
inductive V where
  | non|bl (b:Bool)|int (i:Int)|str (x:Str)|byt (b:Array UInt8)|flt (b:UInt64)|ref (a:Addr)|ty (n:String)
  deriving DecidableEq
def bj:V→Value→Prop
  | .non,u=>u=Value.none
  | .bl b,u=>u=Value.bool b
  | .int i,u=>∃ t,u=Value.int i t
  | .str x,u=>∃ t,u=Value.str x t
  | .byt b,u=>∃ t,u=Value.bytes b t
  | .flt b,u=>∃ t,u=Value.float b t
  | .ref a,u=>u=Value.ref a
  | .ty n,u=>u=Value.type n
abbrev aI:List V→List Value→Prop:=Paired bj
theorem aI.length {xs:List V}{us:List Value}(r:aI xs us):xs.length=us.length:=Paired.length r
theorem aI.get:∀ {xs:List V} {us:List Value} {i:Nat} {x:V},aI xs us→xs[i]? = some x → ∃ u,us[i]? = some u∧bj x u
  | _,_,_,_,.nil,e=>by simp at e
  | _,_,0,_,.cons r _,e=>by simp at e;subst e;exact⟨_,rfl,r⟩
  | _,_,i + 1,x,.cons _ t,e=>by
    obtain⟨u,h1,h2⟩:=aI.get (i:=i) (x:=x) t (by simpa using e)
    exact⟨u,by simpa using h1,h2⟩
theorem aI.set {x:V}{u:Value}(r:bj x u):∀ {xs:List V} {us:List Value} (i:Nat),aI xs us→aI (xs.set i x) (us.set i u)
  | _,_,_,.nil=>.nil
  | _,_,0,.cons _ t=>.cons r t
  | _,_,i + 1,.cons q t=>.cons q (aI.set r i t)
theorem aI.append:∀ {xs ys:List V} {us ws:List Value},aI xs us→aI ys ws→aI (xs++ys) (us++ws)
  | _,_,_,_,.nil,s=>s
  | _,_,_,_,.cons r t,s=>.cons r (aI.append t s)
theorem aI.take:∀ {xs:List V} {us:List Value} (n:Nat),aI xs us→aI (xs.take n) (us.take n)
  | _,_,0,_=>.nil
  | _,_,_ + 1,.nil=>.nil
  | _,_,n + 1,.cons r t=>.cons r (aI.take n t)
theorem aI.drop:∀ {xs:List V} {us:List Value} (n:Nat),aI xs us→aI (xs.drop n) (us.drop n)
  | _,_,0,r=>r
  | _,_,_ + 1,.nil=>.nil
  | _,_,n + 1,.cons _ t=>aI.drop n t
def pW:Option V→Option Value→Prop
  | some v,some u=>bj v u
  | none,none=>True
  | _,_=>False
def KV {κ : Type}:List (κ × V)→List (κ × Value)→Prop:=Paired fun (p : κ × V) (q : κ × Value)=>p.1=q.1∧bj p.2 q.2
def kV:Key→V
  | .inl i=>.int i
  | .inr x=>.str x
inductive HO where
    | lst (xs:List V)
    | tup (xs:List V)
    | dK (kvs:List (Key × V))|dT (kvs:List (List Key × V))
    | set (S:Int→Bool) (n:Nat)
    | ins (C dx:Addr) (fs:List (Str × V))
    | own (x:Addr)
    | xd (fs:List (Str × V))
    | met (f x:Addr)
    | rng (lo hi:Int)
    | frz (o:Obj) (u:HO)
    | tbl (ps:Array Value)
    | ext (φ : Heap→Prop)
abbrev Hp:=Addr→Option HO
def upd (H:Hp) (a:Addr) (o:HO):Hp:=fun b=>if b=a then some o else H b
theorem aO {H:Hp}{a:Addr}{o:HO}:upd H a o a=some o:=by unfold upd;rw [if_pos rfl]
theorem ay {H:Hp}{a b:Addr}{o:HO}(h:b≠a):upd H a o b=H b:=by unfold upd;rw [if_neg h]
theorem Gr {H:Hp}{a b:Addr}{o u:HO}(h:H a=some o)(h':H b=some u)(d:o≠u):a≠b:=by
  intro e;subst e;rw [h] at h';exact d (Option.some.inj h')
theorem cR {H:Hp}{a b:Addr}{o:HO}(h:H a=some o)(h':H b=none):a≠b:=by
  intro e;subst e;rw [h] at h';cases h'
section
variable (P:Program) (w:World)
def dl (H:Hp) (h:Heap) (a:Addr):HO→Prop
  | .lst xs=>xs.length≤sizeLine ∧ ∃ (its:List Value) (n:Nat),aI xs its∧h.get? a=some { cls:=.type "list",data:=.seq its.toArray n }
  | .tup xs=>xs.length≤sizeLine ∧ ∃ its:List Value,aI xs its∧IsTup h a its.toArray
  | .dK kvs=>kvs.length≤sizeLine∧(a == sysModules)=false ∧ ∃ vs,KV kvs vs∧h.DictOf (bZ P w) a vs
  | .dT kvs=>kvs.length≤sizeLine∧(a == sysModules)=false ∧ ∃ xs:List (List Key × Addr × Value),
      Paired (fun (p:List Key × V) (q:List Key × Addr × Value)=>p.1=q.1∧H q.2.1=some (.tup (p.1.map kV))∧bj p.2 q.2.2) kvs xs ∧
      ∃ o es ep,h.get? a=some o∧o.ExactDict∧o.data=.dict es ep∧es.toList=xs.map (entryOfKey (tupleKind (bZ P w)))∧(xs.map (·.1)).Nodup
  | .set S n=>h.SetOf (intKind P w) a S n
  | .ins C dx fs=>H dx=some (.own a)∧fs.length≤1000∧dx≠a∧h.get? a=some (PySem.W.instObj C dx) ∧
      ∃ mA,h.Ns1 dx mA∧(∀ f,pW (fs.lookup f) (mA f))∧PySem.Within mA (fs.map (·.1))
  | .own _=>∃ o,h.get? a=some o
  | .xd fs=>∃ mA,h.Ns1 a mA ∧ ∀ f,pW (fs.lookup f) (mA f)
  | .rng lo hi=>∃ t u v,h.get? a=some { cls:=.type "range",data:=.fields #[.int lo t,.int hi u,.int 1 v] }
  | .frz o u=>h.get? a=some o∧dl H h a u
  | .tbl ps=>h.get? a=some { cls:=.none,data:=.fields ps }
  | .met f x=>h.get? a=some (PySem.W.methodObj (.ref f) (.ref x))
  | .ext φ => φ h∧(∃ o,h.get? a=some o) ∧ ∀ h1 h2:Heap,φ h1→(∀ o,h1.get? a=some o→h2.get? a=some o) → φ h2
def HOk (H:Hp) (h:Heap):Prop:=∀ a o,H a=some o→dl P w H h a o
end
section
variable {P:Program} {w:World} {H H':Hp} {h h':Heap} {a:Addr} {o:HO}
theorem dl.lt (x:dl P w H h a o):a < h.objs.size:=by
  cases o with
  | lst xs=>obtain⟨_,_,_,_,e⟩:=x;exact Heap.lt_size e
  | tup xs=>obtain⟨_,_,_,p⟩:=x;exact p.lt
  | dK kvs=>obtain⟨_,_,_,_,o,_,_,e,_⟩:=x;exact Heap.lt_size e
  | dT kvs=>obtain⟨_,_,_,_,o,_,_,e,_⟩:=x;exact Heap.lt_size e
  | set S n=>obtain⟨o,_,_,_,e,_⟩:=x;exact Heap.lt_size e
  | ins C dx fs=>obtain⟨_,_,_,e,_⟩:=x;exact Heap.lt_size e
  | own y=>obtain⟨_,e⟩:=x;exact Heap.lt_size e
  | xd fs=>obtain⟨_,⟨_,_,_,e,_⟩,_⟩:=x;exact Heap.lt_size e
  | rng lo hi=>obtain⟨_,_,_,e⟩:=x;exact Heap.lt_size e
  | frz ob u=>obtain⟨e,_⟩:=x;exact Heap.lt_size e
  | tbl ps=>exact Heap.lt_size (show h.get? a=some _ from x)
  | met f y=>exact Heap.lt_size (show h.get? a=some _ from x)
  | ext φ => obtain⟨_,⟨_,e⟩,_⟩:=x;exact Heap.lt_size e
theorem Paired.mapP {α β : Type}{F G : α → β → Prop}:∀ {l₁ : List α} {l₂ : List β},Paired F l₁ l₂ → (∀ a b,F a b→G a b)→Paired G l₁ l₂
  | _,_,.nil,_=>.nil
  | _,_,.cons r t,f=>.cons (f _ _ r) (Paired.mapP t f)
theorem dl.stay (x:dl P w H h a o)(k:∀ b u,(b=a∨H b=some (.own a))→h.get? b=some u→h'.get? b=some u)
    (ho:∀ b,H b=some (.own a)→H' b=some (.own a)) (ht:∀ b xs,H b=some (.tup xs)→H' b=some (.tup xs)):dl P w H' h' a o:=by
  induction o with
  | lst xs=>obtain⟨z,its,n,r,e⟩:=x;exact⟨z,its,n,r,k _ _ (.inl rfl) e⟩
  | tup xs=>obtain⟨z,its,r,ob,e,c⟩:=x;exact⟨z,its,r,ob,k _ _ (.inl rfl) e,c⟩
  | dK kvs=>obtain⟨z,y,vs,r,ob,es,ep,e,c⟩:=x;exact⟨z,y,vs,r,ob,es,ep,k _ _ (.inl rfl) e,c⟩
  | dT kvs =>
    obtain⟨z,y,xs,r,ob,es,ep,e,c⟩:=x
    exact⟨z,y,xs,Paired.mapP r fun p q z=>⟨z.1,ht _ _ z.2.1,z.2.2⟩,ob,es,ep,k _ _ (.inl rfl) e,c⟩
  | set S n=>obtain⟨ob,es,ep,t,e,c⟩:=x;exact⟨ob,es,ep,t,k _ _ (.inl rfl) e,c⟩
  | ins C dx fs =>
    obtain⟨d,z,ne,e,mA,⟨od,es,ep,e2,c⟩,r⟩:=x
    exact⟨ho _ d,z,ne,k _ _ (.inl rfl) e,mA,⟨od,es,ep,k _ _ (.inr d) e2,c⟩,r⟩
  | own y=>obtain⟨ob,e⟩:=x;exact⟨ob,k _ _ (.inl rfl) e⟩
  | xd fs=>obtain⟨mA,⟨od,es,ep,e,c⟩,r⟩:=x;exact⟨mA,⟨od,es,ep,k _ _ (.inl rfl) e,c⟩,r⟩
  | rng lo hi=>obtain⟨t,u,v,e⟩:=x;exact⟨t,u,v,k _ _ (.inl rfl) e⟩
  | frz ob u ih=>obtain⟨e,q⟩:=x;exact⟨k _ _ (.inl rfl) e,ih q⟩
  | tbl ps =>
    have e:h.get? a=some { cls:=.none,data:=.fields ps }:=x
    show h'.get? a=some { cls:=.none,data:=.fields ps }
    exact k a _ (.inl rfl) e
  | met f y =>
    have e:h.get? a=some (PySem.W.methodObj (.ref f) (.ref y)):=x
    show h'.get? a=some (PySem.W.methodObj (.ref f) (.ref y))
    exact k a _ (.inl rfl) e
  | ext φ => obtain⟨p,⟨o,e⟩,st⟩:=x;exact⟨st _ _ p fun o q=>k _ _ (.inl rfl) q,⟨o,k _ _ (.inl rfl) e⟩,st⟩
theorem HOk.lt (x:HOk P w H h)(e:H a=some o):a < h.objs.size:=(x a o e).lt
theorem HOk.fresh (x:HOk P w H h)(e:h.objs.size≤a):H a=none:=by
  cases q:H a with
  | none=>rfl
  | some u=>exact absurd (Nat.lt_of_lt_of_le (x.lt q) e) (Nat.lt_irrefl _)
theorem HOk.kept (x:HOk P w H h)(k:∀ b u,h.get? b=some u→h'.get? b=some u):HOk P w H h':=fun a o e =>
  (x a o e).stay (fun b u _ q=>k b u q) (fun _ q=>q) fun _ _ q=>q
theorem HOk.laid (x:HOk P w H h)(k:∀ b u,h.get? b=some u→h'.get? b=some u)(hp:h.objs.size≤a)(new:dl P w (upd H a o) h' a o):HOk P w (upd H a o) h':=fun b u e=>by
  have hn:=x.fresh hp
  by_cases hb:b=a
  · subst hb;rw [aO] at e;cases e;exact new
  · rw [ay hb] at e
    exact (x b u e).stay (fun c v _ q=>k c v q) (fun c q=>by rw [ay (cR q hn)];exact q) fun c xs q=>by rw [ay (cR q hn)];exact q
end
def Rd (H:Hp) (a:Addr) (u:HO):Prop:=H a=some u ∨ ∃ o,H a=some (.frz o u)
theorem Rd.ok {P:Program}{w:World}{H:Hp}{h:Heap}{a:Addr}{u:HO}(r:Rd H a u)(x:HOk P w H h):dl P w H h a u:=by
  rcases r with r|⟨o,r⟩
  · exact x a u r
  · obtain⟨_,q⟩:=x a _ r
    exact q
def Mut:Option HO→Prop
  | some (.lst _)=>True
  | some (.dK _)=>True
  | some (.dT _)=>True
  | some (.set _ _)=>True
  | some (.ins _ _ _)=>True
  | some (.ext _)=>True
  | _=>False
section
variable {P:Program} {w:World} {H:Hp} {h h':Heap} {x e:Addr} {o':HO}
theorem HOk.write (ok:HOk P w H h)(mu:Mut (H x))(he:e=x∨H e=some (.own x))(k:∀ b u,b≠e→h.get? b=some u→h'.get? b=some u)(heo:∃ u,h'.get? e=some u)
    (new:dl P w (upd H x o') h' x o'):HOk P w (upd H x o') h':=fun b u q=>by
  have nown:∀ c y,H c=some (.own y)→c≠x:=fun c y r z=>by subst z;rw [r] at mu;exact mu
  have ntup:∀ c xs,H c=some (.tup xs)→c≠x:=fun c xs r z=>by subst z;rw [r] at mu;exact mu
  by_cases hb:b=x
  · subst hb;rw [aO] at q;cases q;exact new
  · rw [ay hb] at q
    by_cases hbe:b=e
    · have q':H b=some (.own x):=by
        rcases he with z|z
        · exact absurd (hbe.trans z) hb
        · rw [hbe];exact z
      rw [q] at q';cases q'
      obtain⟨v,hv⟩:=heo
      exact⟨v,by rw [hbe];exact hv⟩
    · refine (ok b u q).stay (fun c v hc r=>k c v ?_ r) (fun c r=>by rw [ay (nown c b r)];exact r) fun c xs r=>by rw [ay (ntup c xs r)];exact r
      rcases hc with rfl|hc
      · exact hbe
      · rintro rfl
        rcases he with z|z
        · exact nown c b hc z
        · rw [hc] at z;cases z;exact hb rfl
end
structure Un (fs ex:List Addr) (H H':Hp) (h h':Heap):Prop where
  keep:∀ b o,h.get? b=some o→H b=none→b∉fs→b∉ex→h'.get? b=some o
  slot:∀ b o,h.get? b=some o→H b=none→b∈fs→b∉ex → ∃ sl,h'.get? b=some { o with slots:=sl }
  free:∀ b o,h.get? b=some o→H b=none→b∉ex→H' b=none
  there:∀ b o,h.get? b=some o→b∉ex → ∃ o',h'.get? b=some o'
  tups:∀ b xs,H b=some (.tup xs)→H' b=some (.tup xs)
  frzs:∀ b o u,H b=some (.frz o u)→H' b=some (.frz o u)
  tbls:∀ b ps,H b=some (.tbl ps) → ∃ more,H' b=some (.tbl (ps++more))
section
variable {fs fs' ex ex':List Addr} {H H1 H2:Hp} {h h1 h2 h':Heap} {a x e:Addr} {o:HO}
theorem Un.any (u:Un fs ex H H1 h h1){b:Addr}{ob:Obj}(q:h.get? b=some ob)(n:H b=none)(hx:b∉ex):∃ sl,h1.get? b=some { ob with slots:=sl }:=by
  by_cases hb:b∈fs
  · exact u.slot b ob q n hb hx
  · exact⟨ob.slots,u.keep b ob q n hb hx⟩
theorem Un.kept (k:∀ b u,h.get? b=some u→h'.get? b=some u):Un fs ex H H h h' :=
  ⟨fun b ob q _ _ _=>k b ob q,fun b ob q _ _ _=>⟨ob.slots,k b ob q⟩,fun _ _ _ n _=>n,fun b ob q _=>⟨ob,k b ob q⟩,fun _ _ q=>q,fun _ _ _ q=>q,fun _ ps q=>⟨#[],by rw [q];simp⟩⟩
theorem Un.refl:Un fs ex H H h h:=Un.kept fun _ _ q=>q
theorem Un.laid (k:∀ b u,h.get? b=some u→h'.get? b=some u)(hp:h.objs.size≤a)(hn:H a=none):Un fs ex H (upd H a o) h h' where
  keep:=fun b u q _ _ _=>k b u q
  slot:=fun b u q _ _ _=>⟨u.slots,k b u q⟩
  free:=fun b u q n _=>by rw [ay (Nat.ne_of_lt (Nat.lt_of_lt_of_le (Heap.lt_size q) hp))];exact n
  there:=fun b u q _=>⟨u,k b u q⟩
  tups:=fun b xs q=>by rw [ay (cR q hn)];exact q
  frzs:=fun b u xs q=>by rw [ay (cR q hn)];exact q
  tbls:=fun b ps q=>⟨#[],by rw [ay (cR q hn),q];simp⟩
theorem Un.write (mu:Mut (H x))(he:e=x∨H e=some (.own x))(k:∀ b u,b≠e→h.get? b=some u→h'.get? b=some u)(heo:∃ u,h'.get? e=some u):Un fs ex H (upd H x o) h h':=by
  have hx:∀ b,H b=none→b≠x:=fun b n z=>by subst z;rw [n] at mu;exact mu
  have hb:∀ b,H b=none→b≠e:=fun b n z=>by
    subst z
    rcases he with r|r
    · exact hx b n r
    · rw [n] at r;cases r
  have hm:∀ b u,H b=some u → ¬ Mut (some u)→b≠x:=fun b u q nm z=>by subst z;rw [q] at mu;exact nm mu
  refine⟨fun b u q n _ _=>k b u (hb b n) q,fun b u q n _ _=>⟨u.slots,k b u (hb b n) q⟩,fun b u q n _=>by rw [ay (hx b n)];exact n,fun b u q _ => ?_,
    fun b xs q=>by rw [ay (hm b _ q fun z=>z)];exact q,fun b u xs q=>by rw [ay (hm b _ q fun z=>z)];exact q,fun b ps q=>⟨#[],by rw [ay (hm b _ q fun z=>z),q];simp⟩⟩
  by_cases hbe:b=e
  · subst hbe;exact heo
  · exact⟨u,k b u hbe q⟩
end
def trk (h:Heap) (H:Hp):List Addr:=(List.range h.objs.size).filter fun a=>(H a).isSome
def uc (h:Heap) (H:Hp):Heap:=PySem.W.hideAll h (trk h H)
theorem Bt (h:Heap)(H:Hp):(uc h H).objs.size=h.objs.size:=PySem.W.hideAll_size _ _
theorem CY {h:Heap}{H:Hp}{b:Addr}{o:Obj}(e:h.get? b=some o)(n:H b=none):(uc h H).get? b=some o :=
  PySem.W.hideAll_get _ e fun hm=>by
    have q:(H b).isSome=true:=(List.mem_filter.mp hm).2
    rw [n] at q;simp at q
theorem Fe {h:Heap}{H:Hp}{b:Addr}{o:Obj}(e:(uc h H).get? b=some o):h.get? b=some o∧H b=none:=by
  have e':h.get? b=some o:=PySem.W.of_hideAll (trk h H) e
  refine⟨e',?_⟩
  cases q:H b with
  | none=>rfl
  | some x =>
    have hm:b∈trk h H:=List.mem_filter.mpr ⟨List.mem_range.mpr (Heap.lt_size e'),by simp [q]⟩
    have z:(uc h H).get? b=none:=PySem.W.hideAll_none (trk h H) hm
    rw [z] at e;cases e
def Ff (g h:Heap) (L:Addr):List (Addr × Obj):=(List.range h.objs.size).filterMap fun a=>if a=L∨(g.get? a).isSome=true then none else (h.get? a).map fun o=>(a,o)
def rest (g h:Heap) (L d:Addr):List (Addr × Obj):=(Ff g h L).filter fun p=>decide (p.1≠d)
end L2
namespace L2
open PySem PySem.Spec PyProof.Rows
structure Mod (K:PySem.W.Frag) (mg:Str→Option Value) (base:Heap):Prop where
  kin:K.In base
  glob:base.Ns mainGlobals mg
  blt:∃ mb,base.Ns builtinsNs mb ∧ ∀ x:Str,x ≠ "__name__" → mb x=bootBuiltins x
  nolimit:base.NoLimit
structure Cx where
  prog:Program
  w:World
  K:PySem.W.Frag
  mg:Str→Option Value
  base:Heap
  A:Around
  N:List Str
  s₀ : Shared
  H₀ : Hp
  env:Env
  outer:List Env
  stack:List Env
  ex:List Addr
  fn:Str→Bool
  calm:Bool
  pn:List (Addr × Obj)
  xe:Value→Shared→Prop
def frs (l:List Env):List Addr:=l.filterMap (·.frame)
abbrev Cx.fs (X:Cx):List Addr:=frs X.outer
def Vis (sc:Scope) (x:Str):Prop:=sc.names.lookup x=some .local ∨sc.names.lookup x=some .cell∨sc.names.lookup x=some .free
def Loc (sc:Scope) (x:Str):Prop:=sc.names.lookup x=some .local ∨sc.names.lookup x=some .cell
def J2 (env:Env) (h:Heap) (m:Str→Option Value) (x:Str) (u:Value):Prop :=
  (env.kindOf x=some .local∧m x=some u)∨((env.kindOf x=some .cell∨env.kindOf x=some .free) ∧ ∃ c,env.cells.lookup x=some c∧h.IsCell c (some u))
structure Cx.Ok (X:Cx):Prop where
  mod:Mod X.K X.mg X.base
  kind:X.env.scope.kind=.function
  glob:X.env.globals=mainGlobals
  blt:X.env.builtins=builtinsNs
  above:X.s₀.heap.objs.size≤X.env.locals
  inj:∀ x y c,X.env.cells.lookup x=some c→X.env.cells.lookup y=some c→x=y
  has:∀ x,(X.env.kindOf x=some .cell∨X.env.kindOf x=some .free) → ∃ c,X.env.cells.lookup x=some c
  cab:∀ x c,X.fn x=true→X.env.cells.lookup x=some c→X.s₀.heap.objs.size≤c
  hd:X.calm=true→X.A.handled=none
  frames:X.A.frames=some X.stack
  stk:X.stack=X.outer∨(X.stack=X.env :: X.outer∧X.env.frame=some X.env.locals)
  exf:∀ b∈X.ex,b≠X.env.locals ∧ ∀ x c,X.env.cells.lookup x=some c→c≠b
  bs:∀ b o,X.base.get? b=some o→X.s₀.heap.get? b=some o∧X.H₀ b=none
  bsz:X.base.objs.size≤X.s₀.heap.objs.size
  noex:∀ b o,X.base.get? b=some o→b∉X.ex
  exfs:∀ b∈X.ex,b∉X.fs
  funs:X.s₀.heap.FunFrames X.base X.outer
  frf:∀ b∈X.fs,X.H₀ b=none
structure Inv (X:Cx) (pins:List (Addr × Obj)) (σ:List (Option V)) (H:Hp) (s:Shared):Prop where
  ok:X.Ok
  os:s.os=X.s₀.os
  bare:AllBare s.gens
  base:Un X.fs X.ex X.H₀ H X.s₀.heap s.heap
  loc:∃ m,s.heap.Ns X.env.locals m ∧ ∀ (i:Nat) (x:Str) (v:V),X.N[i]? = some x → σ[i]? = some (some v)→Vis X.env.scope x → ∃ u,bj v u∧J2 X.env s.heap m x u
  cell:∀ x c,X.env.cells.lookup x=some c → ∃ v,s.heap.IsCell c v
  free:H X.env.locals=none
  freeC:∀ x c,X.env.cells.lookup x=some c→H c=none
  pin:∀ p∈X.pn++pins,s.heap.get? p.1=some p.2∧H p.1=none∧p.1≠X.env.locals∧p.1∉X.fs ∧ ∀ v,p.2.data ≠ .cell v
  hok:HOk X.prog X.w H s.heap
  len : σ.length=X.N.length
section
variable {X:Cx} {pins:List (Addr × Obj)} {σ:List (Option V)} {H H':Hp} {s:Shared} {h':Heap}
theorem Cx.Ok.nofr (ok:X.Ok){b:Addr}{o:Obj}(e:X.base.get? b=some o):b∉X.fs:=fun hb=>by
  have:=(ok.funs.mem hb).1
  rw [e] at this;cases this
theorem Inv.bs (I:Inv X pins σ H s):∀ b o,X.base.get? b=some o→s.heap.get? b=some o∧H b=none:=fun b o e =>
  ⟨I.base.keep b o (I.ok.bs b o e).1 (I.ok.bs b o e).2 (I.ok.nofr e) (I.ok.noex b o e),I.base.free b o (I.ok.bs b o e).1 (I.ok.bs b o e).2 (I.ok.noex b o e)⟩
theorem Inv.bk (I:Inv X pins σ H s):∀ b o,X.base.get? b=some o→s.heap.get? b=some o:=fun b o e=>(I.bs b o e).1
theorem Inv.mod (I:Inv X pins σ H s):Mod X.K X.mg X.base:=I.ok.mod
theorem Inv.kIn (I:Inv X pins σ H s):X.K.In s.heap:=I.ok.mod.kin.keeps I.bk
theorem Inv.lt (I:Inv X pins σ H s):X.env.locals < s.heap.objs.size:=let ⟨_,hn,_⟩:=I.loc;hn.lt
theorem Inv.sz (I:Inv X pins σ H s):X.s₀.heap.objs.size≤s.heap.objs.size:=Nat.le_trans I.ok.above (Nat.le_of_lt I.lt)
theorem Inv.nofs (I:Inv X pins σ H s){a:Addr}(h:s.heap.objs.size≤a):a∉X.fs:=fun hb=>by
  obtain⟨_,o,ho,_⟩:=I.ok.funs.mem hb
  exact absurd (Nat.lt_of_lt_of_le (Heap.lt_size ho) (Nat.le_trans I.sz h)) (Nat.lt_irrefl _)
theorem Inv.cne (I:Inv X pins σ H s):∀ x c,X.env.cells.lookup x=some c→c≠X.env.locals:=fun x c e z=>by
  obtain⟨v,o,ho,hd⟩:=I.cell x c e
  obtain⟨m,⟨o',es,ep,ho',hd',_⟩,_⟩:=I.loc
  rw [z,ho'] at ho;cases ho;rw [hd'] at hd;cases hd
theorem Inv.funs (I:Inv X pins σ H s):s.heap.FunFrames X.base X.outer:=by
  have all:∀ (l:List Env),(∀ b∈frs l,b∈X.fs)→X.s₀.heap.FunFrames X.base l→s.heap.FunFrames X.base l:=by
    intro l
    induction l with
    | nil=>intro _ _;trivial
    | cons env r ih =>
      intro hs hl
      obtain⟨hk,⟨L,o,hf,hn,ho,hd⟩,hr⟩:=hl
      have hL:L∈X.fs:=hs L (by unfold frs;rw [List.filterMap_cons,hf];exact List.mem_cons_self)
      obtain⟨sl,e⟩:=I.base.slot L o ho (I.ok.frf L hL) hL fun z=>I.ok.exfs L z hL
      exact⟨hk,⟨L,_,hf,hn,e,hd⟩,ih (fun b hb=>hs b (by unfold frs;rw [List.filterMap_cons,hf];exact List.mem_cons_of_mem _ hb)) hr⟩
  exact all X.outer (fun _ hb=>hb) I.ok.funs
theorem Inv.stack (I:Inv X pins σ H s):s.heap.FunFrames X.base X.stack:=by
  rcases I.ok.stk with e|⟨e,hf⟩
  · rw [e];exact I.funs
  · rw [e]
    obtain⟨m,hn,_⟩:=I.loc
    refine .cons (by rw [I.ok.kind];decide) hf hn ?_ I.funs
    exact Heap.get?_none_of_le (Nat.le_trans I.ok.bsz I.ok.above)
theorem Inv.stkSub (I:Inv X pins σ H s):∀ b∈frs X.stack,b∈X.env.locals :: X.fs:=fun b hb=>by
  rcases I.ok.stk with e|⟨e,hf⟩
  · rw [e] at hb;exact List.mem_cons_of_mem _ hb
  · rw [e] at hb
    unfold frs at hb
    rw [List.filterMap_cons,hf] at hb
    exact hb
theorem Inv.stkFree (I:Inv X pins σ H s):∀ b∈frs X.stack,H b=none:=fun b hb=>by
  rcases List.mem_cons.mp (I.stkSub b hb) with e|hb
  · rw [e];exact I.free
  · obtain⟨_,o,ho,_⟩:=I.ok.funs.mem hb
    exact I.base.free b o ho (I.ok.frf b hb) fun z=>I.ok.exfs b z hb
theorem Inv.step {g':Array GenState}{t':Nat}{d':Drawn}{ch:List Addr}(I:Inv X pins σ H s)
    (hch:∀ b∈ch,(b∈X.ex∨X.s₀.heap.objs.size≤b)∧b≠X.env.locals∧(∀ x c,X.env.cells.lookup x=some c→c≠b) ∧ ∀ p∈X.pn++pins,p.1≠b)
    (keep:∀ b o,b≠X.env.locals→b∉X.fs→b∉ch→s.heap.get? b=some o→H b=none→h'.get? b=some o)
    (slot:∀ b o,b≠X.env.locals→b∈X.fs→b∉ch→s.heap.get? b=some o→H b=none → ∃ sl,h'.get? b=some { o with slots:=sl }) (free:∀ b o,b∉ch→s.heap.get? b=some o→H b=none→H' b=none)
    (there:∀ b o,b∉ch→s.heap.get? b=some o → ∃ o',h'.get? b=some o')
    (tups:∀ b xs,H b=some (.tup xs)→H' b=some (.tup xs)) (frzs:∀ b o u,H b=some (.frz o u)→H' b=some (.frz o u)) (tbls:∀ b ps,H b=some (.tbl ps) → ∃ more,H' b=some (.tbl (ps++more)))
    (ns:∀ m,s.heap.Ns X.env.locals m→h'.Ns X.env.locals m) (hok:HOk X.prog X.w H' h') (hg:AllBare g') :
    Inv X pins σ H' { s with heap:=h',gens:=g',drawn:=d',toks:=t' }:=by
  have neL:∀ b o,X.s₀.heap.get? b=some o→b≠X.env.locals:=fun b o e=>Nat.ne_of_lt (Nat.lt_of_lt_of_le (Heap.lt_size e) I.ok.above)
  have neC:∀ b o,X.s₀.heap.get? b=some o→b∉X.ex→b∉ch:=fun b o e hx hb=>by
    rcases (hch b hb).1 with z|z
    · exact hx z
    · exact absurd (Nat.lt_of_lt_of_le (Heap.lt_size e) z) (Nat.lt_irrefl _)
  have cellK:∀ x c,X.env.cells.lookup x=some c → ∀ v,s.heap.IsCell c v→h'.IsCell c v:=fun x c e v ⟨o,ho,hd⟩=>by
    have nch:c∉ch:=fun z=>(hch c z).2.2.1 x c e rfl
    by_cases hc:c∈X.fs
    · obtain⟨sl,q⟩:=slot c o (I.cne x c e) hc nch ho (I.freeC x c e)
      exact⟨_,q,hd⟩
    · exact⟨o,keep c o (I.cne x c e) hc nch ho (I.freeC x c e),hd⟩
  refine⟨I.ok,I.os,hg,⟨fun b o e n hb hx => ?_,fun b o e n hb hx => ?_,fun b o e n hx => ?_,fun b o e hx => ?_,fun b xs e=>tups b xs (I.base.tups b xs e),fun b o xs e=>frzs b o xs (I.base.frzs b o xs e),fun b ps e => ?_⟩,?_,fun x c e => ?_,?_,fun x c e => ?_,fun p hp => ?_,hok,I.len⟩
  · exact keep b o (neL b o e) hb (neC b o e hx) (I.base.keep b o e n hb hx) (I.base.free b o e n hx)
  · obtain⟨sl,e1⟩:=I.base.slot b o e n hb hx
    obtain⟨sl',e2⟩:=slot b _ (neL b o e) hb (neC b o e hx) e1 (I.base.free b o e n hx)
    exact⟨sl',e2⟩
  · obtain⟨o',e1⟩:=I.base.there b o e hx
    exact free b o' (neC b o e hx) e1 (I.base.free b o e n hx)
  · obtain⟨o',e1⟩:=I.base.there b o e hx
    exact there b o' (neC b o e hx) e1
  · obtain⟨m1,e1⟩:=I.base.tbls b ps e
    obtain⟨m2,e2⟩:=tbls b _ e1
    exact⟨m1++m2,by rw [e2,Array.append_assoc]⟩
  · obtain⟨m,hn,hl⟩:=I.loc
    refine⟨m,ns m hn,fun i x v e1 e2 e3 => ?_⟩
    obtain⟨u,r,l⟩:=hl i x v e1 e2 e3
    refine⟨u,r,?_⟩
    rcases l with l|⟨k,c,e,z⟩
    · exact .inl l
    · exact .inr ⟨k,c,e,cellK x c e _ z⟩
  · obtain⟨v,z⟩:=I.cell x c e
    exact⟨v,cellK x c e v z⟩
  · obtain⟨m,⟨o,_,_,ho,_⟩,_⟩:=I.loc
    exact free _ o (fun z=>(hch _ z).2.1 rfl) ho I.free
  · obtain⟨v,o,ho,hd⟩:=I.cell x c e
    exact free c o (fun z=>(hch c z).2.2.1 x c e rfl) ho (I.freeC x c e)
  · obtain⟨e,n,ne,nf,d⟩:=I.pin p hp
    have nch:p.1∉ch:=fun z=>(hch p.1 z).2.2.2 p hp rfl
    exact⟨keep p.1 p.2 ne nf nch e n,free p.1 p.2 nch e n,ne,nf,d⟩
theorem Inv.un {t':Nat}(I:Inv X pins σ H s)(u:Un X.fs [] H H' s.heap h')(hok:HOk X.prog X.w H' h'):Inv X pins σ H' { s with heap:=h',toks:=t' }:=by
  obtain⟨m,⟨o,es,ep,ho,r⟩,_⟩:=id I.loc
  obtain⟨sl,hL⟩:=u.any ho I.free (by simp)
  exact I.step (g':=s.gens) (d':=s.drawn) (ch:=[]) (fun _ z=>nomatch z) (fun b o _ hb _ e n=>u.keep b o e n hb (by simp)) (fun b o _ hb _ e n=>u.slot b o e n hb (by simp)) (fun b o _ e n=>u.free b o e n (by simp)) (fun b o _ e=>u.there b o e (by simp)) u.tups u.frzs u.tbls (fun m' hm=>by
    obtain⟨o',es',ep',ho',r'⟩:=hm
    rw [ho] at ho';cases ho'
    exact⟨_,es',ep',hL,r'⟩) hok I.bare
theorem Inv.call {g':Array GenState}{t':Nat}{d':Drawn}{ch:List Addr}(I:Inv X pins σ H s)(u:Un (frs X.stack) ch H H' s.heap h')(hok:HOk X.prog X.w H' h')(hg:AllBare g')
    (hch:∀ b∈ch,(b∈X.ex∨X.s₀.heap.objs.size≤b)∧b≠X.env.locals∧(∀ x c,X.env.cells.lookup x=some c→c≠b) ∧ ∀ p∈X.pn++pins,p.1≠b) :
    Inv X pins σ H' { s with heap:=h',gens:=g',drawn:=d',toks:=t' }:=by
  obtain⟨m,⟨o,es,ep,ho,r⟩,_⟩:=id I.loc
  obtain⟨sl,hL⟩:=u.any ho I.free fun z=>(hch _ z).2.1 rfl
  exact I.step (ch:=ch) hch (fun b o hL hb hc e n=>u.keep b o e n (fun z=>(List.mem_cons.mp (I.stkSub b z)).elim hL hb) hc) (fun b o _ _ hc e n=>u.any e n hc) (fun b o hc e n=>u.free b o e n hc) (fun b o hc e=>u.there b o e hc) u.tups u.frzs u.tbls (fun m' hm=>by
    obtain⟨o',es',ep',ho',r'⟩:=hm
    rw [ho] at ho';cases ho'
    exact⟨_,es',ep',hL,r'⟩) hok hg
theorem Inv.turned {t':Nat}{it:Addr}(I:Inv X pins σ H s)(k:∀ b o,b≠it→s.heap.get? b=some o→h'.get? b=some o)(hn:H it=none)(hL:it≠X.env.locals)
    (h1:it∈X.ex∨X.s₀.heap.objs.size≤it) (h2:∀ x c,X.env.cells.lookup x=some c→c≠it) (h3:∀ p∈X.pn++pins,p.1≠it):Inv X pins σ H { s with heap:=h',toks:=t' }:=by
  have nit:∀ b u,H b=some u→b≠it:=fun b u e z=>by rw [z,hn] at e;cases e
  refine I.step (g':=s.gens) (d':=s.drawn) (ch:=[it]) (fun b hb => ?_) (fun b o _ _ hc e _=>k b o (fun z=>hc (by simp [z])) e) (fun b o _ _ hc e _=>⟨o.slots,k b o (fun z=>hc (by simp [z])) e⟩) (fun _ _ _ _ n=>n)
    (fun b o hc e=>⟨o,k b o (fun z=>hc (by simp [z])) e⟩) (fun _ _ e=>e) (fun _ _ _ e=>e) (fun b ps e=>⟨#[],by rw [e];simp⟩) (fun m hm => ?_) (fun b u e => ?_) I.bare
  · have e:b=it:=by simpa using hb
    subst e
    exact⟨h1,hL,h2,h3⟩
  · obtain⟨o,es,ep,ho,r⟩:=hm
    exact⟨o,es,ep,k _ o (Ne.symm hL) ho,r⟩
  · refine (I.hok b u e).stay (fun c v hc q=>k c v ?_ q) (fun _ q=>q) fun _ _ q=>q
    rcases hc with z|z
    · rw [z];exact nit b u e
    · exact nit c _ z
theorem Inv.tok (I:Inv X pins σ H s)(t:Nat):Inv X pins σ H { s with toks:=t }:=I.un (h':=s.heap) (t':=t) Un.refl I.hok
theorem Inv.kept {t':Nat}(I:Inv X pins σ H s)(k:∀ b u,s.heap.get? b=some u→h'.get? b=some u):Inv X pins σ H { s with heap:=h',toks:=t' }:=I.un (Un.kept k) (I.hok.kept k)
theorem Inv.laid {a:Addr}{o:HO}{t':Nat}(I:Inv X pins σ H s)(k:∀ b u,s.heap.get? b=some u→h'.get? b=some u)(hp:s.heap.objs.size≤a)(new:dl X.prog X.w (upd H a o) h' a o) :
    Inv X pins σ (upd H a o) { s with heap:=h',toks:=t' }:=I.un (Un.laid k hp (I.hok.fresh hp)) (I.hok.laid k hp new)
theorem Inv.write {x e:Addr}{o:HO}{t':Nat}(I:Inv X pins σ H s)(mu:Mut (H x))(he:e=x∨H e=some (.own x))(k:∀ b u,b≠e→s.heap.get? b=some u→h'.get? b=some u)(heo:∃ u,h'.get? e=some u)
    (new:dl X.prog X.w (upd H x o) h' x o):Inv X pins σ (upd H x o) { s with heap:=h',toks:=t' }:=I.un (Un.write mu he k heo) (I.hok.write mu he k heo new)
theorem Inv.pins_of {pins':List (Addr × Obj)}(I:Inv X pins σ H s)(h:∀ p∈pins',s.heap.get? p.1=some p.2∧H p.1=none∧p.1≠X.env.locals∧p.1∉X.fs ∧ ∀ v,p.2.data ≠ .cell v):Inv X pins' σ H s :=
  ⟨I.ok,I.os,I.bare,I.base,I.loc,I.cell,I.free,I.freeC,fun p hp=>(List.mem_append.mp hp).elim (fun z=>I.pin p (List.mem_append_left _ z)) (h p),I.hok,I.len⟩
theorem n4 {N:List Str}(hN:N.Nodup){i j:Nat}{x:Str}(a:N[i]? = some x)(b:N[j]? = some x):i=j:=by
  obtain⟨h1,e1⟩:=List.getElem?_eq_some_iff.mp a
  obtain⟨h2,e2⟩:=List.getElem?_eq_some_iff.mp b
  exact (List.getElem_inj hN).mp (e1.trans e2.symm)
theorem sJ {M:Model}{A:Around}{E:Value→Shared→Prop}{i:Nat}{x:Str}{v:V}{u:Value}{Q:Unit→Shared→Prop}(I:Inv X pins σ H s)(hN:X.N.Nodup)(hi:X.N[i]? = some x)(hx:Loc X.env.scope x)(r:bj v u)
    (h:∀ s',Inv X pins (σ.set i (some v)) H s'→(∃ a,Heap.SameBut a s.heap s'.heap∧(a=X.env.locals∨X.env.cells.lookup x=some a))→Q () s') (hf:X.fn x=true∨X.env.scope.names.lookup x=some .local:=by first|exact .inl rfl|exact .inr rfl|assumption):wpAny M A (storeName X.env x u) Q E s:=by
  obtain⟨m,hn,hl⟩:=id I.loc
  have hcls:(X.env.scope.kind == .class || (X.env.scope.kind == .module && X.env.locals != X.env.globals))=false:=by rw [I.ok.kind];rfl
  have hiσ:i < σ.length:=by rw [I.len];exact (List.getElem?_eq_some_iff.mp hi).1
  have cne:=I.cne
  have tracked:∀ {a:Addr} {h':Heap},(∃ o,s.heap.get? a=some o∧H a=none)→Heap.SameBut a s.heap h'→HOk X.prog X.w H h':=fun {a h'} ha hs b ob e=>by
    obtain⟨_,_,hfree⟩:=ha
    refine (I.hok b ob e).stay (fun c w' hc q=>(hs.2 c ?_).trans q) (fun _ q=>q) fun _ _ q=>q
    rintro rfl
    rcases hc with rfl|hc
    · rw [hfree] at e;cases e
    · rw [hfree] at hc;cases hc
  rcases hx with hk|hk
  · refine wpAny_storeName_local hk hn (fun h' hn' hs => ?_) hcls
    obtain⟨oL,_,_,hoL,_⟩:=id hn
    refine h _ ⟨I.ok,I.os,I.bare,⟨fun b o e n hb hx => ?_,fun b o e n hb hx => ?_,I.base.free,fun b o e hx => ?_,I.base.tups,I.base.frzs,I.base.tbls⟩,⟨_,hn',fun j y v' e1 e2 e3 => ?_⟩,fun y c e => ?_,I.free,I.freeC,fun p hp => ?_,tracked ⟨oL,hoL,I.free⟩ hs,by simpa using I.len⟩ ⟨_,hs,.inl rfl⟩
    · exact (hs.2 b (Nat.ne_of_lt (Nat.lt_of_lt_of_le (Heap.lt_size e) I.ok.above))).trans (I.base.keep b o e n hb hx)
    · obtain⟨sl,e1⟩:=I.base.slot b o e n hb hx
      exact⟨sl,(hs.2 b (Nat.ne_of_lt (Nat.lt_of_lt_of_le (Heap.lt_size e) I.ok.above))).trans e1⟩
    · obtain⟨o',e1⟩:=I.base.there b o e hx
      exact⟨o',(hs.2 b (Nat.ne_of_lt (Nat.lt_of_lt_of_le (Heap.lt_size e) I.ok.above))).trans e1⟩
    · by_cases hj:j=i
      · subst hj
        rw [hi] at e1;cases e1
        rw [List.getElem?_set_self hiσ] at e2
        cases e2
        exact⟨u,r,.inl ⟨hk,by simp⟩⟩
      · rw [List.getElem?_set_ne (Ne.symm hj)] at e2
        obtain⟨u',r',q⟩:=hl j y v' e1 e2 e3
        refine⟨u',r',?_⟩
        rcases q with ⟨k,e⟩|⟨k,c,e,z⟩
        · refine .inl ⟨k,?_⟩
          have:y≠x:=fun e=>hj (n4 hN e1 (e ▸ hi))
          simp [this,e]
        · exact .inr ⟨k,c,e,z.sameBut hs (cne y c e)⟩
    · obtain⟨w',z⟩:=I.cell y c e
      exact⟨w',z.sameBut hs (cne y c e)⟩
    · obtain⟨e,n,ne,nf,d⟩:=I.pin p hp
      exact⟨(hs.2 p.1 ne).trans e,n,ne,nf,d⟩
  · have hfn:X.fn x=true:=by
      rcases hf with z|z
      · exact z
      · rw [z] at hk;cases hk
    obtain⟨c,hc⟩:=I.ok.has x (.inl hk)
    obtain⟨w',z⟩:=I.cell x c hc
    refine wpAny_storeName_cell I.ok.kind hk hc z (fun h' hc' hs => ?_)
    obtain⟨oc,hoc,hocd⟩:=id z
    refine h { s with heap:=h' } ⟨I.ok,I.os,I.bare,⟨fun b o e n hb hx => ?_,fun b o e n hb hx => ?_,I.base.free,fun b o e hx => ?_,I.base.tups,I.base.frzs,I.base.tbls⟩,⟨m,hn.sameBut hs (Ne.symm (cne x c hc)),fun j y v' e1 e2 e3 => ?_⟩,fun y c' e => ?_,I.free,I.freeC,fun p hp => ?_,tracked ⟨oc,hoc,I.freeC x c hc⟩ hs,by simpa using I.len⟩ ⟨c,hs,.inr hc⟩
    · exact (hs.2 b (Nat.ne_of_lt (Nat.lt_of_lt_of_le (Heap.lt_size e) (I.ok.cab x c hfn hc)))).trans (I.base.keep b o e n hb hx)
    · obtain⟨sl,e1⟩:=I.base.slot b o e n hb hx
      exact⟨sl,(hs.2 b (Nat.ne_of_lt (Nat.lt_of_lt_of_le (Heap.lt_size e) (I.ok.cab x c hfn hc)))).trans e1⟩
    · obtain⟨o',e1⟩:=I.base.there b o e hx
      exact⟨o',(hs.2 b (Nat.ne_of_lt (Nat.lt_of_lt_of_le (Heap.lt_size e) (I.ok.cab x c hfn hc)))).trans e1⟩
    · by_cases hj:j=i
      · subst hj
        rw [hi] at e1;cases e1
        rw [List.getElem?_set_self hiσ] at e2
        cases e2
        exact⟨u,r,.inr ⟨.inl hk,c,hc,hc'⟩⟩
      · rw [List.getElem?_set_ne (Ne.symm hj)] at e2
        obtain⟨u',r',q⟩:=hl j y v' e1 e2 e3
        refine⟨u',r',?_⟩
        rcases q with q|⟨k,c',e,z'⟩
        · exact .inl q
        · refine .inr ⟨k,c',e,z'.sameBut hs ?_⟩
          rintro rfl
          exact hj (n4 hN e1 (I.ok.inj _ _ _ e hc ▸ hi))
    · by_cases hcc:c'=c
      · subst hcc;exact⟨_,hc'⟩
      · obtain⟨w2,z2⟩:=I.cell y c' e
        exact⟨w2,z2.sameBut hs hcc⟩
    · obtain⟨e,n,ne,nf,d⟩:=I.pin p hp
      refine⟨(hs.2 p.1 ?_).trans e,n,ne,nf,d⟩
      intro q
      rw [q,hoc] at e
      have q':oc=p.2:=Option.some.inj e
      exact d w' (by rw [← q'];exact hocd)
theorem n5 {M:Model}{A:Around}{E:Value→Shared→Prop}{i:Nat}{x:Str}{v:V}{u:Value}{Q:Unit→Shared→Prop}(I:Inv X pins σ H s)(hN:X.N.Nodup)(hi:X.N[i]? = some x)(hx:Loc X.env.scope x)(r:bj v u)
    (h:∀ s',Inv X pins (σ.set i (some v)) H s'→Q () s') (hf:X.fn x=true∨X.env.scope.names.lookup x=some .local:=by first|exact .inl rfl|exact .inr rfl|assumption):wpAny M A (storeName X.env x u) Q E s :=
  sJ I hN hi hx r (fun s' I' _=>h s' I') hf
theorem Inv.call' {s':Shared}{ch:List Addr}(I:Inv X pins σ H s)(ho:s'.os=s.os)(u:Un (frs X.stack) ch H H' s.heap s'.heap)(hok:HOk X.prog X.w H' s'.heap)(hg:AllBare s'.gens)
    (hch:∀ b∈ch,(b∈X.ex∨X.s₀.heap.objs.size≤b)∧b≠X.env.locals∧(∀ x c,X.env.cells.lookup x=some c→c≠b) ∧ ∀ p∈X.pn++pins,p.1≠b):Inv X pins σ H' s':=by
  obtain⟨h',g',d',t',o'⟩:=s'
  have e:o'=s.os:=ho
  subst e
  exact I.call (g':=g') (t':=t') (d':=d') u hok hg hch
end
abbrev XK:=Value→Option Addr→Hp→Prop
abbrev St:=List (Option V)
abbrev VK:=V→Hp→Prop
abbrev TE:=St→Hp→VK→Prop
abbrev TT:=St→Hp→(Bool→Hp→Prop)→Prop
abbrev TA:=St→Hp→(List V→Hp→Prop)→Prop
structure n6 where
  nx:St→Hp→Prop
  rt:VK
  bk:St→Hp→Prop:=fun _ _=>False
  ct:St→Hp→Prop:=fun _ _=>False
abbrev TS:=n6→St→Hp→Prop
def EP (X:Cx) (pins:List (Addr × Obj)) (σ:St) (Q:VK) (u:Value) (s':Shared):Prop:=∃ v H',Inv X pins σ H' s'∧bj v u∧Q v H'
def TP (X:Cx) (pins:List (Addr × Obj)) (σ:St) (Q:Bool→Hp→Prop) (b:Bool) (s':Shared):Prop:=∃ H',Inv X pins σ H' s'∧Q b H'
def AP (X:Cx) (pins:List (Addr × Obj)) (σ:St) (Q:List V→Hp→Prop) (us:List Value) (s':Shared):Prop:=∃ vs H',Inv X pins σ H' s'∧aI vs us∧Q vs H'
def SP (X:Cx) (pins:List (Addr × Obj)) (D:n6) (f:Flow) (s':Shared):Prop :=
  match f with
  | .next=>∃ σ' H',Inv X pins σ' H' s'∧D.nx σ' H'
  | .brk=>∃ σ' H',Inv X pins σ' H' s'∧D.bk σ' H'
  | .cont=>∃ σ' H',Inv X pins σ' H' s'∧D.ct σ' H'
  | .ret u=>∃ v σ' H',Inv X pins σ' H' s'∧bj v u∧D.rt v H'
def PE (X:Cx) (e:Expr) (t:TE):Prop :=
  ∀ (pins:List (Addr × Obj)) (s:Shared) (σ:St) (H:Hp) (Q:VK),Inv X pins σ H s→t σ H Q→wpAny (model X.prog X.w) X.A (eval e X.env) (EP X pins σ Q) X.xe s
def PT (X:Cx) (e:Expr) (t:TT):Prop :=
  ∀ (pins:List (Addr × Obj)) (s:Shared) (σ:St) (H:Hp) (Q:Bool→Hp→Prop),Inv X pins σ H s→t σ H Q→wpAny (model X.prog X.w) X.A (isTrue e X.env (eval e X.env)) (TP X pins σ Q) X.xe s
def PW (X:Cx) (e:Expr) (t:TT):Prop :=
  ∀ (whole:Sem Value) (pins:List (Addr × Obj)) (s:Shared) (σ:St) (H:Hp) (Q:Bool→Hp→Prop),Inv X pins σ H s→t σ H Q→wpAny (model X.prog X.w) X.A (isTrue e X.env whole) (TP X pins σ Q) X.xe s
theorem PW.pt {X:Cx}{e:Expr}{t:TT}(h:PW X e t):PT X e t:=h _
def PA (X:Cx) (es:List Expr) (t:TA):Prop :=
  ∀ (pos:Pos) (pins:List (Addr × Obj)) (s:Shared) (σ:St) (H:Hp) (Q:List V→Hp→Prop),Inv X pins σ H s→t σ H Q→wpAny (model X.prog X.w) X.A (spliced (backTo pos (starEach es X.env))) (AP X pins σ Q) X.xe s
def PS (X:Cx) (st:Stmt) (t:TS):Prop :=
  ∀ (pins:List (Addr × Obj)) (s:Shared) (σ:St) (H:Hp) (D:n6),Inv X pins σ H s→t D σ H→wpAny (model X.prog X.w) X.A (exec st X.env) (SP X pins D) X.xe s
def PSs (X:Cx) (st:List Stmt) (t:TS):Prop :=
  ∀ (pins:List (Addr × Obj)) (s:Shared) (σ:St) (H:Hp) (D:n6),Inv X pins σ H s→t D σ H→wpAny (model X.prog X.w) X.A (execs st X.env) (SP X pins D) X.xe s
theorem thn {α : Type}{t:Sem α}{Q Q' : α → Shared→Prop}{M:Model}{A:Around}{E:Value→Shared→Prop}{s:Shared}(h:wpAny M A t Q E s)(hQ:∀ a s,Q a s→Q' a s):wpAny M A t Q' E s:=wpAny_mono h hQ fun _ _ x=>x
end L2
namespace L2
open PySem PySem.Spec PyProof.Rows
section
variable {X:Cx}
def IP (i:Nat):TE:=fun σ H Q=>∃ v,σ[i]? = some (some v)∧Q v H
def tC (v:V):TE:=fun _ H Q=>Q v H
theorem CZ {i:Nat} {x:Str} {pos:Pos} (hN:X.N[i]? = some x) (hv:Vis X.env.scope x) (hd:(x == ("__debug__" : Str))=false:=by decide) (hcd:(x == ("__classdict__" : Str))=false:=by decide):PE X (.Name x pos) (IP i):=by
  intro pins s σ H Q I h
  obtain⟨v,e,h⟩:=h
  obtain⟨m,hn,hl⟩:=I.loc
  obtain⟨u,r,l⟩:=hl i x v hN e hv
  have fin:EP X pins σ Q u s:=⟨v,H,I,r,h⟩
  rcases l with ⟨hk,hm⟩|⟨hk,c,hc,hcell⟩
  · exact wpAny_Name (wpAny_loadName_local I.ok.kind hk hn hm fin) hd
  · rcases hk with hk|hk
    · exact wpAny_Name (wpAny_loadName_cell I.ok.kind hk hc hcell fin) hd
    · exact wpAny_Name (wpAny_loadName_free I.ok.kind hk hc hcell fin hcd) hd
theorem GT {i j pos}:PE X (.Constant (.int i) j pos) (tC (.int i)):=fun _ _ _ H _ I h=>wpAny_Constant_int ⟨.int i,H,I.tok _,⟨_,rfl⟩,h⟩
theorem IQ {b j pos}:PE X (.Constant (.bool b) j pos) (tC (.bl b)):=fun _ _ _ H _ I h=>Constant_bool ⟨.bl b,H,I,rfl,h⟩
theorem GU {j pos}:PE X (.Constant .none j pos) (tC .non):=fun _ _ _ H _ I h=>Constant_none ⟨.non,H,I,rfl,h⟩
theorem GV {x j pos}:PE X (.Constant (.str x) j pos) (tC (.str x)):=fun _ _ _ H _ I h=>Calls.Constant_str ⟨.str x,H,I.tok _,⟨_,rfl⟩,h⟩
def Gl (X:Cx) (x:Str):Prop:=X.env.kindOf x=some .globalImplicit
theorem ud {E:Value→Shared→Prop}{pins:List (Addr × Obj)}{s:Shared}{σ:St}{H:Hp}{x:Str}{u:Value}{pos:Pos}{Q:Value→Shared→Prop}(I:Inv X pins σ H s)(hg:Gl X x)(hm:X.mg x=some u)(h:Q u s)
    (hd:(x == ("__debug__" : Str))=false:=by decide):wpAny (model X.prog X.w) X.A (eval (.Name x pos) X.env) Q E s :=
  Calls.Name_function_global I.ok.kind hg (Calls.loadGlobal_global (by rw [I.ok.glob];exact I.mod.glob.keeps I.bk) hm h) hd
theorem ue {E:Value→Shared→Prop}{pins:List (Addr × Obj)}{s:Shared}{σ:St}{H:Hp}{x:Str}{u:Value}{pos:Pos}{Q:Value→Shared→Prop}(I:Inv X pins σ H s)(hg:Gl X x)(hm:X.mg x=none)(hv:bootBuiltins x=some u)(h:Q u s)
    (hn:x ≠ "__name__" := by decide) (hd:(x == ("__debug__" : Str))=false:=by decide):wpAny (model X.prog X.w) X.A (eval (.Name x pos) X.env) Q E s:=by
  obtain⟨mb,h1,h2⟩:=I.mod.blt
  exact Calls.Name_function_global I.ok.kind hg (Calls.loadGlobal_builtin (by rw [I.ok.glob];exact I.mod.glob.keeps I.bk) hm (by rw [I.ok.blt];exact h1.keeps I.bk) ((h2 x hn).trans hv) h) hd
theorem ff {x:Str} {v:V} {u:Value} {pos:Pos} (hg:Gl X x) (hm:X.mg x=some u) (r:bj v u) (hd:(x == ("__debug__" : Str))=false:=by decide):PE X (.Name x pos) (tC v) :=
  fun _ _ _ H _ I h=>ud I hg hm ⟨v,H,I,r,h⟩ hd
theorem At {x:Str} {v:V} {u:Value} {pos:Pos} (hg:Gl X x) (hm:X.mg x=none) (hv:bootBuiltins x=some u) (r:bj v u) (hn:x ≠ "__name__" := by decide) (hd:(x == ("__debug__" : Str))=false:=by decide):PE X (.Name x pos) (tC v) :=
  fun _ _ _ H _ I h=>ue I hg hm hv ⟨v,H,I,r,h⟩ hn hd
variable {a b:Expr} {ta tb:TE} {pos:Pos}
def tB (t:TE):TT:=fun σ H Q=>t σ H fun x H1=>∃ c,x=.bl c∧Q c H1
theorem GW {e:Expr}{t:TE}(h:PE X e t)(he:∀ whole,isTrue e X.env whole=(do let v ← whole;standAt e.pos;holding [v] (truthy v)):=by intro _;rfl):PT X e (tB t):=by
  intro pins s σ H Q I hw
  refine isTrue_plain (thn (h pins s σ H _ I hw) fun v s1 ⟨x,H1,I1,r1,q1⟩ => ?_) (he _)
  obtain⟨d,rfl,q⟩:=q1
  cases r1
  exact wpAny_truthy_bool ⟨H1,I1,q⟩
variable {tA tB':TT} {rest:List Expr}
def n8 (t u:TT):TT:=fun σ H Q=>t σ H fun c H1=>if c=true then u σ H1 Q else Q false H1
def tOr (t u:TT):TT:=fun σ H Q=>t σ H fun c H1=>if c=true then Q true H1 else u σ H1 Q
def dU (t:TT):TT:=fun σ H Q=>t σ H fun c H1=>Q (!c) H1
theorem Fg (ha:PT X a tA):PW X (.BoolOp .And [a] pos) tA:=by
  intro wh pins s σ H Q I h
  refine isTrue_and (thn (ha pins s σ H Q I h) fun c s1 e => ?_)
  cases c with
  | true=>exact isTrue_and_nil e
  | false=>exact e
theorem GX (ha:PT X a tA):PW X (.BoolOp .Or [a] pos) tA:=by
  intro wh pins s σ H Q I h
  refine isTrue_or (thn (ha pins s σ H Q I h) fun c s1 e => ?_)
  cases c with
  | false=>exact isTrue_or_nil e
  | true=>exact e
theorem IR (ha:PT X a tA)(hb:PW X (.BoolOp .Or (b :: rest) pos) tB'):PW X (.BoolOp .Or (a :: b :: rest) pos) (tOr tA tB'):=by
  intro wh pins s σ H Q I h
  refine isTrue_or (thn (ha pins s σ H _ I h) fun c s1 ⟨H1,I1,q1⟩ => ?_)
  cases c with
  | true=>exact⟨H1,I1,q1⟩
  | false=>exact hb wh pins s1 σ H1 Q I1 q1
theorem GY (ha:PT X a tA):PT X (.UnaryOp .Not a pos) (dU tA):=by
  intro pins s σ H Q I h
  exact isTrue_not (ha pins s σ H (fun c H1=>Q (!c) H1) I h)
def IS (ta tb:TE):TE:=fun σ H Q=>ta σ H fun x H1=>∃ c,x=.bl c∧if c=true then tb σ H1 Q else Q (.bl false) H1
def J3 (ta tb:TE):TE:=fun σ H Q=>ta σ H fun x H1=>∃ c,x=.bl c∧if c=true then Q (.bl true) H1 else tb σ H1 Q
def IT (ta:TE):TE:=fun σ H Q=>ta σ H fun x H1=>∃ c,x=.bl c∧Q (.bl (!c)) H1
theorem GZ {op}{t:TE}(h:PE X a t):PE X (.BoolOp op [a] pos) t:=fun pins s σ H Q I hw=>BoolOp_one (h pins s σ H Q I hw)
theorem G0 (ha:PE X a ta)(hb:PE X (.BoolOp .And (b :: rest) pos) tb):PE X (.BoolOp .And (a :: b :: rest) pos) (IS ta tb):=by
  intro pins s σ H Q I h
  refine BoolOp_and (thn (ha pins s σ H _ I h) fun v s1 ⟨x,H1,I1,r1,q1⟩ => ?_)
  obtain⟨c,rfl,q1⟩:=q1
  cases r1
  refine wpAny_truthy_bool ?_
  cases c with
  | true=>exact hb pins s1 σ H1 Q I1 q1
  | false=>exact⟨.bl false,H1,I1,rfl,q1⟩
theorem IU (ha:PE X a ta)(hb:PE X (.BoolOp .Or (b :: rest) pos) tb):PE X (.BoolOp .Or (a :: b :: rest) pos) (J3 ta tb):=by
  intro pins s σ H Q I h
  refine BoolOp_or (thn (ha pins s σ H _ I h) fun v s1 ⟨x,H1,I1,r1,q1⟩ => ?_)
  obtain⟨c,rfl,q1⟩:=q1
  cases r1
  refine wpAny_truthy_bool ?_
  cases c with
  | false=>exact hb pins s1 σ H1 Q I1 q1
  | true=>exact⟨.bl true,H1,I1,rfl,q1⟩
theorem G1 (ha:PE X a ta):PE X (.UnaryOp .Not a pos) (IT ta):=by
  intro pins s σ H Q I h
  refine UnaryOp_ (thn (ha pins s σ H _ I h) fun v s1 ⟨x,H1,I1,r1,q1⟩ => ?_)
  obtain⟨c,rfl,q1⟩:=q1
  cases r1
  exact not_of (wpAny_truthy_bool ⟨.bl (!c),H1,I1,rfl,q1⟩)
end
end L2
namespace L2
open PySem PySem.Spec PyProof.Rows
def SqL (K:PySem.W.Frag) (H:Hp) (a:Addr) (xs:List V):Prop :=
  Rd H a (.lst xs) ∨
    ∃ (o:Obj) (its:Array Value) (n:Nat),K.lookup a=some o∧o.cls=.type "list" ∧ o.dict=none∧o.data=.seq its n∧its.size≤sizeLine∧aI xs its.toList
def SqT (K:PySem.W.Frag) (H:Hp) (a:Addr) (xs:List V):Prop :=
  Rd H a (.tup xs) ∨
    ∃ (o:Obj) (its:Array Value) (n:Nat),K.lookup a=some o∧o.cls=.type "tuple" ∧ o.data=.seq its n∧its.size≤sizeLine∧aI xs its.toList
def J4:Value→Option V
  | .none=>some .non
  | .bool b=>some (.bl b)
  | .int i _=>some (.int i)
  | .str x _=>some (.str x)
  | .bytes b _=>some (.byt b)
  | .float b _=>some (.flt b)
  | .ref a=>some (.ref a)
  | .type n=>some (.ty n)
  | _=>none
theorem bj.abs {x:V}{u:Value}(r:bj x u):J4 u=some x:=by
  cases x with
  | non=>cases r;rfl
  | bl _=>cases r;rfl
  | int _=>obtain⟨t,rfl⟩:=r;rfl
  | str _=>obtain⟨t,rfl⟩:=r;rfl
  | byt _=>obtain⟨t,rfl⟩:=r;rfl
  | flt _=>obtain⟨t,rfl⟩:=r;rfl
  | ref _=>cases r;rfl
  | ty _=>cases r;rfl
theorem bj.inj {x y:V}{u:Value}(r:bj x u)(q:bj y u):x=y:=Option.some.inj (r.abs.symm.trans q.abs)
theorem aI.inj:∀ {xs ys:List V} {us:List Value},aI xs us→aI ys us→xs=ys
  | _,_,_,.nil,.nil=>rfl
  | _,_,_,.cons r t,.cons r' t'=>by rw [r.inj r',aI.inj t t']
section
variable {X:Cx} {pins:List (Addr × Obj)} {σ:St} {H:Hp} {s:Shared} {a:Addr} {xs ys:List V}
theorem SqL.of {K:PySem.W.Frag}(h:H a=some (.lst xs)):SqL K H a xs:=.inl (.inl h)
theorem SqT.of {K:PySem.W.Frag}(h:H a=some (.tup xs)):SqT K H a xs:=.inl (.inl h)
theorem Inv.list (I:Inv X pins σ H s)(h:SqL X.K H a xs):∃ its:List Value,aI xs its∧PlainL s.heap a its.toArray∧xs.length≤sizeLine:=by
  rcases h with h|⟨o,its,n,hk,hc,hd,hs,hz,r⟩
  · obtain⟨z,its,n,r,e⟩:=h.ok I.hok
    exact⟨its,r,⟨_,n,e,rfl,rfl,rfl⟩,z⟩
  · refine⟨its.toList,r,⟨o,n,I.kIn a o hk,hc,hd,by simpa using hs⟩,?_⟩
    have e:=r.length
    simp only [Array.length_toList] at e
    omega
theorem Inv.tuple (I:Inv X pins σ H s)(h:SqT X.K H a xs):∃ its:List Value,aI xs its∧IsTup s.heap a its.toArray∧xs.length≤sizeLine:=by
  rcases h with h|⟨o,its,n,hk,hc,hs,hz,r⟩
  · obtain⟨z,its,r,p⟩:=h.ok I.hok
    exact⟨its,r,p,z⟩
  · refine⟨its.toList,r,⟨o,I.kIn a o hk,hc,n,by simpa using hs⟩,?_⟩
    have e:=r.length
    simp only [Array.length_toList] at e
    omega
theorem Inv.list_inj (I:Inv X pins σ H s)(h:SqL X.K H a xs)(h':SqL X.K H a ys):xs=ys:=by
  obtain⟨its,r,⟨o,n,e,_,_,d⟩,_⟩:=I.list h
  obtain⟨its',r',⟨o',n',e',_,_,d'⟩,_⟩:=I.list h'
  rw [e] at e';cases e'
  rw [d] at d'
  injection d' with d1 _
  have:its=its':=by simpa using congrArg Array.toList d1
  subst this
  exact r.inj r'
theorem Inv.tuple_inj (I:Inv X pins σ H s)(h:SqT X.K H a xs)(h':SqT X.K H a ys):xs=ys:=by
  obtain⟨its,r,⟨o,e,_,n,d⟩,_⟩:=I.tuple h
  obtain⟨its',r',⟨o',e',_,n',d'⟩,_⟩:=I.tuple h'
  rw [e] at e';cases e'
  rw [d] at d'
  injection d' with d1 _
  have:its=its':=by simpa using congrArg Array.toList d1
  subst this
  exact r.inj r'
end
abbrev Cx.wish (X:Cx) (E:Value→Shared→Prop):Cx:={ X with xe:=E }
abbrev Cx.nox (X:Cx):Cx:=X.wish fun _ _=>False
theorem Cx.Ok.wish {X:Cx}(ok:X.Ok)(E:Value→Shared→Prop):(X.wish E).Ok :=
  ⟨ok.mod,ok.kind,ok.glob,ok.blt,ok.above,ok.inj,ok.has,ok.cab,ok.hd,ok.frames,ok.stk,ok.exf,ok.bs,ok.bsz,ok.noex,ok.exfs,ok.funs,ok.frf⟩
theorem Cx.Ok.unwish {X:Cx}{E:Value→Shared→Prop}(ok:(X.wish E).Ok):X.Ok :=
  ⟨ok.mod,ok.kind,ok.glob,ok.blt,ok.above,ok.inj,ok.has,ok.cab,ok.hd,ok.frames,ok.stk,ok.exf,ok.bs,ok.bsz,ok.noex,ok.exfs,ok.funs,ok.frf⟩
section
variable {X:Cx} {pins:List (Addr × Obj)} {σ:St} {H:Hp} {s:Shared} {E:Value→Shared→Prop}
theorem Inv.wish (I:Inv X pins σ H s)(E:Value→Shared→Prop):Inv (X.wish E) pins σ H s:=⟨I.ok.wish E,I.os,I.bare,I.base,I.loc,I.cell,I.free,I.freeC,I.pin,I.hok,I.len⟩
theorem Inv.unwish (I:Inv (X.wish E) pins σ H s):Inv X pins σ H s:=⟨I.ok.unwish,I.os,I.bare,I.base,I.loc,I.cell,I.free,I.freeC,I.pin,I.hok,I.len⟩
theorem SP.unwish {D:n6}{f:Flow}{s':Shared}(h:SP (X.wish E) pins D f s'):SP X pins D f s':=by
  cases f with
  | next=>obtain⟨σ',H',I,q⟩:=h;exact⟨σ',H',I.unwish,q⟩
  | brk=>obtain⟨σ',H',I,q⟩:=h;exact⟨σ',H',I.unwish,q⟩
  | cont=>obtain⟨σ',H',I,q⟩:=h;exact⟨σ',H',I.unwish,q⟩
  | ret u=>obtain⟨v,σ',H',I,r,q⟩:=h;exact⟨v,σ',H',I.unwish,r,q⟩
theorem PSs.nox {st:List Stmt}{t:TS}(h:PSs X.nox st t):PSs X st t:=fun pins s σ H D I hw =>
  wpAny_mono (h pins s σ H D (I.wish _) hw) (fun _ _ q=>q.unwish) fun _ _ z=>False.elim z
end
section
variable {X:Cx} {st:Stmt} {rest:List Stmt} {t u:TS} {e:Expr} {te:TE} {pos:Pos}
def IV:TS:=fun D σ H=>D.nx σ H
def Ka (t u:TS):TS:=fun D σ H=>t { D with nx:=u D } σ H
theorem uf:PSs X [] IV:=fun _ _ σ H _ I h=>wpAny_execs_nil ⟨σ,H,I,h⟩
theorem wz (h1:PS X st t)(h2:PSs X rest u):PSs X (st :: rest) (Ka t u):=by
  intro pins s σ H D I h
  refine wpAny_execs_cons (thn (h1 pins s σ H { D with nx:=u D } I h) fun f s1 q => ?_)
  cases f with
  | next =>
    obtain⟨σ',H',I',q⟩:=q
    exact h2 pins s1 σ' H' D I' q
  | ret v=>exact q
  | brk=>exact q
  | cont=>exact q
theorem ug (h1:PS X st t):PSs X [st] t:=by
  intro pins s σ H D I h
  refine wpAny_execs_cons (thn (h1 pins s σ H D I h) fun f s1 q => ?_)
  cases f with
  | next=>exact wpAny_execs_nil q
  | ret v=>exact q
  | brk=>exact q
  | cont=>exact q
theorem Inv.quiet {pins:List (Addr × Obj)}{σ:St}{H:Hp}{s:Shared}(I:Inv X pins σ H s):interactive X.env=false:=by simp [interactive,I.ok.kind]
def IW (te:TE):TS:=fun D σ H=>te σ H fun _ H1=>D.nx σ H1
theorem Au (he:PE X e te)(hs:swapsWith e none pos.line X.env=pure false:=by rfl):PS X (.Expr e pos) (IW te):=by
  intro pins s σ H D I h
  exact wpAny_Expr_any (thn (he pins s σ H _ I h) fun v s1 ⟨x,H1,I1,r1,q1⟩=>⟨σ,H1,I1,q1⟩) I.quiet hs
def Kb (te:TE):TS:=fun D σ H=>te σ H D.rt
theorem G2 (he:PE X e te):PS X (.Return (some e) pos) (Kb te):=by
  intro pins s σ H D I h
  exact wpAny_Return_some (thn (he pins s σ H _ I h) fun v s1 ⟨x,H1,I1,r1,q1⟩=>⟨x,σ,H1,I1,r1,q1⟩)
def Kc (c:TT) (t u:TS):TS:=fun D σ H=>c σ H fun b H1=>if b=true then t D σ H1 else u D σ H1
theorem Gs {c:Expr}{a b:List Stmt}{tc:TT}(hc:PT X c tc)(ha:PSs X a t)(hb:PSs X b u):PS X (.If c a b pos) (Kc tc t u):=by
  intro pins s σ H D I h
  refine wpAny_If (thn (hc pins s σ H _ I h) fun d s1 ⟨H1,I1,q1⟩ => ?_)
  cases d with
  | true=>exact ha pins s1 σ H1 D I1 q1
  | false=>exact hb pins s1 σ H1 D I1 q1
def G3:TS:=fun _ _ _=>False
theorem C6:PS X st G3:=fun _ _ _ _ _ _ h=>h.elim
end
abbrev TG:=V→St→Hp→(St→Hp→Prop)→Prop
abbrev TGs:=List V→St→Hp→(St→Hp→Prop)→Prop
def PG (X:Cx) (target:Expr) (t:TG):Prop :=
  ∀ (pins:List (Addr × Obj)) (s:Shared) (σ:St) (H:Hp) (v:V) (u:Value) (Q:St→Hp→Prop),Inv X pins σ H s→bj v u→t v σ H Q →
    wpAny (model X.prog X.w) X.A (assign target X.env u) (fun _ s'=>∃ σ' H',Inv X pins σ' H' s'∧Q σ' H') X.xe s
def PGs (X:Cx) (ts:List Expr) (t:TGs):Prop :=
  ∀ (pins:List (Addr × Obj)) (s:Shared) (σ:St) (H:Hp) (vs:List V) (us:List Value) (Q:St→Hp→Prop),Inv X pins σ H s→aI vs us→t vs σ H Q →
    wpAny (model X.prog X.w) X.A (assignInOrder ((assignEach ts X.env).map (·.2)) us) (fun _ s'=>∃ σ' H',Inv X pins σ' H' s'∧Q σ' H') X.xe s
abbrev G4:=V→V→V→Hp→(Hp→Prop)→Prop
def G5 (X:Cx) (t:G4):Prop :=
  ∀ (pins:List (Addr × Obj)) (s:Shared) (σ:St) (H:Hp) (o i v:V) (ov iv u:Value) (Q:Hp→Prop),Inv X pins σ H s→bj o ov→bj i iv→bj v u→t o i v H Q →
    wpAny (model X.prog X.w) X.A (setItem ov iv u) (fun _ s'=>∃ H',Inv X pins σ H' s'∧Q H') X.xe s
section
variable {X:Cx} {pos:Pos}
def C7 (i:Nat):TG:=fun v σ H Q=>Q (σ.set i (some v)) H
theorem Fh {i:Nat}{x:Str}(hN:X.N.Nodup)(hi:X.N[i]? = some x)(hx:Loc X.env.scope x)(hf:X.fn x=true∨X.env.scope.names.lookup x=some .local:=by first|exact .inl rfl|exact .inr rfl|assumption):PG X (.Name x pos) (C7 i):=by
  intro pins s σ H v u Q I r h
  exact wpAny_assign_Name (n5 I hN hi hx r (fun s' I'=>⟨_,H,I',h⟩) hf)
def Kd:TGs:=fun vs σ H Q=>vs=[]∧Q σ H
def IX (t:TG) (u:TGs):TGs:=fun vs σ H Q=>∃ v r,vs=v :: r∧t v σ H fun σ' H'=>u r σ' H' Q
theorem Fi:PGs X [] Kd:=by
  intro pins s σ H vs us Q I r h
  obtain⟨e,h⟩:=h
  subst e
  cases r
  exact assignInOrder_nil ⟨σ,H,I,h⟩
theorem C8 {e:Expr}{es:List Expr}{t:TG}{u:TGs}(h1:PG X e t)(h2:PGs X es u)
    (hs:(assignEach (e :: es) X.env).map (·.2)=assign e X.env :: (assignEach es X.env).map (·.2):=by rfl):PGs X (e :: es) (IX t u):=by
  intro pins s σ H vs us Q I r h
  obtain⟨v,vr,e1,h⟩:=h
  subst e1
  cases r with
  | cons r rr =>
    rw [hs]
    refine assignInOrder_cons (thn (h1 pins s σ H _ _ _ I r h) fun _ s1 ⟨σ1,H1,I1,q1⟩ => ?_)
    exact h2 pins s1 σ1 H1 _ _ Q I1 rr q1
def Ke (K:PySem.W.Frag) (n:Nat) (t:TGs):TG:=fun v σ H Q=>∃ a xs,v=.ref a∧SqT K H a xs∧xs.length=n∧t xs σ H Q
theorem G6 {es:List Expr}{k:Nat}{t:TGs}{n:Nat}(hc:X.calm=true)(h:PGs X es t)
    (hn:(assignEach es X.env).length=n:=by rfl) (hst:(assignEach es X.env).findIdx? (·.1)=none:=by rfl):PG X (.Tuple es k pos) (Ke X.K n t):=by
  intro pins s σ H v u Q I r hw
  obtain⟨a,xs,e1,hq,hl,hw⟩:=hw
  subst e1
  cases r
  obtain⟨its,rv,ht,hz⟩:=I.tuple hq
  refine assign_Tuple_tuple (I.ok.hd hc) ht (by simp [hn,← hl,rv.length]) hst fun h' hx => ?_
  have I1:Inv X pins σ H { s with heap:=h' }:=I.kept (t':=s.toks) fun b o e=>hx b o (Nat.ne_of_lt (Heap.lt_size e)) e
  exact h pins _ σ H xs _ Q I1 (by simpa using rv) hw
def Kf (to ti:TE) (t:G4):TG:=fun v σ H Q=>to σ H fun o H1=>ti σ H1 fun i H2=>t o i v H2 fun H3=>Q σ H3
theorem C9 {o i:Expr}{to ti:TE}{t:G4}(ho:PE X o to)(hi:PE X i ti)(hs:G5 X t)
    (ha:∀ v,assign (.Subscript o i pos) X.env v=(do
      let ov ← holding [v] (eval o X.env)
      let iv ← holding [v,ov] (eval i X.env)
      standAt pos
      holding [v,ov,iv] (setItem ov iv v)
      release [v,ov,iv] []):=by intro _;rfl):PG X (.Subscript o i pos) (Kf to ti t):=by
  intro pins s σ H v u Q I r h
  rw [ha]
  refine wpAny_bind (wpAny_holding (thn (ho pins s σ H _ I h) fun ov s1 ⟨x,H1,I1,r1,q1⟩ => ?_))
  refine wpAny_bind (wpAny_holding (thn (hi pins s1 σ H1 _ I1 q1) fun iv s2 ⟨y,H2,I2,r2,q2⟩ => ?_))
  refine wpAny_bind (wpAny_standAt (wpAny_bind (wpAny_holding (thn (hs pins s2 σ H2 x y v ov iv u _ I2 r1 r2 r q2) fun _ s3 ⟨H3,I3,q3⟩ => ?_))))
  exact wpAny_release ⟨σ,H3,I3,q3⟩
def G7 (te:TE) (g:TG):TS:=fun D σ H=>te σ H fun x H1=>g x σ H1 D.nx
theorem yG {tg e:Expr}{te:TE}{g:TG}(he:PE X e te)(hg:PG X tg g)(hs:swapsWithSole [tg] e pos.line X.env=pure false:=by rfl)(hw:swappedStores [tg] e X.env=pure none:=by rfl)
    (h1:(assignEach [tg] X.env).map (·.2)=[assign tg X.env]:=by rfl):PS X (.Assign [tg] e pos) (G7 te g):=by
  intro pins s σ H D I h
  refine wpAny_Assign_stores (thn (he pins s σ H _ I h) fun v s1 ⟨x,H1,I1,r1,q1⟩ => ?_) hs hw
  rw [h1]
  exact thn (hg pins s1 σ H1 x v _ I1 r1 q1) fun _ s2 q=>q
theorem yH {i:Nat}{x:Str}{e:Expr}{te:TE}{pos':Pos}(hN:X.N.Nodup)(hi:X.N[i]? = some x)(hx:Loc X.env.scope x)(he:PE X e te)(hs:swapsWith e (some (.Name x pos')) pos.line X.env=pure false:=by rfl)(hf:X.fn x=true∨X.env.scope.names.lookup x=some .local:=by first|exact .inl rfl|exact .inr rfl|assumption) :
    PS X (.Assign [.Name x pos'] e pos) (G7 te (C7 i)):=by
  intro pins s σ H D I h
  refine wpAny_Assign_Name (thn (he pins s σ H _ I h) fun v s1 ⟨y,H1,I1,r1,q1⟩ => ?_) hs
  exact n5 I1 hN hi hx r1 (fun s2 I2=>⟨_,H1,I2,q1⟩) hf
end
section
variable {X:Cx} {pos:Pos}
end
structure It where
  go:Nat→Hp→Prop
  yld:Nat→Hp→V→Hp→Prop
  stop:Nat→Hp→Prop
def kM (X:Cx) (pins:List (Addr × Obj)) (H:Hp) (b:Addr):Prop :=
  H b=none∧b≠X.env.locals∧b∉X.fs∧(b∈X.ex∨X.s₀.heap.objs.size≤b)∧(∀ x c,X.env.cells.lookup x=some c→c≠b) ∧ ∀ p∈X.pn++pins,p.1≠b
theorem Inv.fpOk {X:Cx}{pins:List (Addr × Obj)}{σ:St}{H H':Hp}{s:Shared}{b:Addr}(I:Inv X pins σ H s)(hb:s.heap.objs.size≤b)(hn:H' b=none):kM X pins H' b:=by
  refine⟨hn,Nat.ne_of_gt (Nat.lt_of_lt_of_le I.lt hb),I.nofs hb,.inr (Nat.le_trans I.sz hb),fun x c e z => ?_,fun p hp z => ?_⟩
  · obtain⟨v,q⟩:=I.cell x c e
    exact absurd (Nat.lt_of_lt_of_le q.lt (by rw [z];exact hb)) (Nat.lt_irrefl _)
  · exact absurd (Nat.lt_of_lt_of_le (Heap.lt_size (I.pin p hp).1) (by rw [z];exact hb)) (Nat.lt_irrefl _)
structure Bu (P:Program) (w:World) (K:PySem.W.Frag) (tg:Expr) (J:It) (fp:List Addr) (it:Addr) (tn:Nat→Heap→Prop):Prop where
  mem:it∈fp
  obj:∀ i h,tn i h → ∀ b∈fp,∃ o,h.get? b=some o ∧ ∀ v,o.data ≠ .cell v
  keep:∀ i h h',tn i h→(∀ b∈fp,∀ o,h.get? b=some o→h'.get? b=some o)→tn i h'
  item:∀ (X:Cx),X.prog=P→X.w=w→X.K=K→X.calm=true → ∀ (i:Nat) (pins:List (Addr × Obj)) (s:Shared) (σ:St) (H:Hp) (E:Value→Shared→Prop),Inv X pins σ H s→(∀ b∈fp,kM X pins H b)→tn i s.heap→J.go i H →
    wpAny (model P w) X.A (pyNext (.ref it)) (fun r s1=>∃ u,r=some u ∧
      wpAny (model P w) X.A (letOwnedTupleGo tg (.ref it) u) (fun _ s2=>∃ x H',Inv X pins σ H' s2∧bj x u∧J.yld i H x H'∧tn (i + 1) s2.heap ∧ ∀ b∈fp,H' b=none) E s1) E s
  done:∀ (X:Cx),X.prog=P→X.w=w→X.K=K→X.calm=true → ∀ (i:Nat) (pins:List (Addr × Obj)) (s:Shared) (σ:St) (H:Hp) (E:Value→Shared→Prop),Inv X pins σ H s→(∀ b∈fp,kM X pins H b)→tn i s.heap→J.stop i H →
    wpAny (model P w) X.A (pyNext (.ref it)) (fun r s1=>r=none∧Inv X pins σ H s1) E s
  self:∀ (A:Around) (i:Nat) (s:Shared) (Q:Value→Shared→Prop) (E:Value→Shared→Prop),tn i s.heap→Q (.ref it) s→wpAny (model P w) A (pyIter (.ref it)) Q E s
abbrev TI:=St→Hp→(It→Hp→Prop)→Prop
def PIE (X:Cx) (pins:List (Addr × Obj)) (σ:St) (tg:Expr) (R:It→Hp→Prop) (itv:Value) (s2:Shared):Prop :=
  ∃ (it:Addr) (fp:List Addr) (tn:Nat→Heap→Prop) (J:It) (H':Hp),itv=.ref it∧Inv X pins σ H' s2∧Bu X.prog X.w X.K tg J fp it tn∧tn 0 s2.heap∧(∀ b∈fp,kM X pins H' b)∧R J H'
def PI (X:Cx) (tg iter:Expr) (wi:TI):Prop :=
  ∀ (pins:List (Addr × Obj)) (s:Shared) (σ:St) (H:Hp) (R:It→Hp→Prop),Inv X pins σ H s→wi σ H R →
    wpAny (model X.prog X.w) X.A (eval iter X.env) (fun v s1=>wpAny (model X.prog X.w) X.A (pyIter v) (PIE X pins σ tg R) X.xe s1) X.xe s
theorem Da {M:Model}{A:Around}{E:Value→Shared→Prop}{s:Shared}{tg:Expr}{it:Addr}{u:Value}{o:Obj}{n:String}{vs:Array Value}{Q:Unit→Shared→Prop}(ho:s.heap.get? it=some o)(hc:o.cls=.type n)(hd:o.data=.fields vs)
    (hn : ["enumerate", "zip", "dict_itemiterator", "dict_reverseitemiterator", "odict_iterator", "itertools.zip_longest", "itertools.pairwise"].contains n=false) (hQ:Q () s):wpAny M A (letOwnedTupleGo tg (.ref it) u) Q E s:=by
  unfold letOwnedTupleGo
  cases tg<;>first
    | exact wpAny_pure hQ
    | (cases u<;>first
        | exact wpAny_pure hQ
        | (refine wpAny_bind (wpAny_load ho ?_)
           rw [hc,hd]
           show wpAny M A (if (["enumerate", "zip", "dict_itemiterator", "dict_reverseitemiterator", "odict_iterator", "itertools.zip_longest", "itertools.pairwise"].contains n && vs[0]? == some (rawInt _))=true then _ else _) Q E s
           rw [if_neg (by intro h;rw [hn,Bool.false_and] at h;cases h)]
           exact wpAny_pure hQ))
def Itl (K:PySem.W.Frag) (a:Addr):It :=
  ⟨fun i H=>∃ xs x,SqL K H a xs∧xs[i]? = some x,fun i H x H'=>H'=H ∧ ∀ xs,SqL K H a xs→xs[i]? = some x,fun i H=>∃ xs,SqL K H a xs∧xs.length≤i⟩
def Itt (K:PySem.W.Frag) (a:Addr):It :=
  ⟨fun i H=>∃ xs x,SqT K H a xs∧xs[i]? = some x,fun i H x H'=>H'=H ∧ ∀ xs,SqT K H a xs→xs[i]? = some x,fun i H=>∃ xs,SqT K H a xs∧xs.length≤i⟩
def Itr (lo:Int) (n:Nat):It:=⟨fun i _=>i < n,fun i H x H'=>H'=H∧x=.int (lo + i),fun i _=>n≤i⟩
theorem Bv {P:Program}{w:World}{K:PySem.W.Frag}{tg:Expr}(a it:Addr):Bu P w K tg (Itl K a) [it] it (fun i h=>h.IsListIter it a i) where
  mem:=by simp
  obj:=fun i h st b hb=>by
    have e:b=it:=by simpa using hb
    subst e
    obtain⟨o,e,c,d⟩:=st
    exact⟨o,e,fun v z=>by rw [d] at z;cases z⟩
  keep:=fun i h h' st k=>st.at fun o e=>k it (by simp) o e
  item:=by
    intro X hP hw hK hc i pins s σ H E I hf st hg
    subst hP hw hK
    obtain⟨xs,x,hq,hx⟩:=hg
    obtain⟨its,rv,p,hz⟩:=I.list hq
    obtain⟨u,hu,ru⟩:=rv.get hx
    obtain⟨f0,f1,f2,f3,f4,f5⟩:=hf it (by simp)
    refine wpAny_pyNext_list_item st p.isList (x:=u) (by simpa using hu) fun h' st' sb => ?_
    have I1:Inv X pins σ H { s with heap:=h' }:=I.turned (t':=s.toks) (fun b o hb e=>(sb.2 b hb).trans e) f0 f1 f3 f4 f5
    obtain⟨o,e,c,d⟩:=id st'
    exact⟨u,rfl,Da (s:={ s with heap:=h' }) e c d (by decide) ⟨x,H,I1,ru,⟨rfl,fun ys hy=>by rw [I.list_inj hy hq];exact hx⟩,st',fun b hb=>(hf b hb).1⟩⟩
  done:=by
    intro X hP hw hK hc i pins s σ H E I hf st hg
    subst hP hw hK
    obtain⟨xs,hq,hx⟩:=hg
    obtain⟨its,rv,p,hz⟩:=I.list hq
    obtain⟨f0,f1,f2,f3,f4,f5⟩:=hf it (by simp)
    have hl:=rv.length
    exact wpAny_pyNext_list_end (I.ok.hd hc) st p.isList (by simp;omega) fun h' eb=>⟨rfl,I.turned (t':=s.toks) (fun b o hb e=>eb b o hb e) f0 f1 f3 f4 f5⟩
  self:=fun _ _ _ _ _ st h=>wpAny_pyIter_listiter st h
theorem yI {P:Program}{w:World}{K:PySem.W.Frag}{tg:Expr}(a it:Addr):Bu P w K tg (Itt K a) [it] it (fun i h=>h.IsTupleIter it a i) where
  mem:=by simp
  obj:=fun i h st b hb=>by
    have e:b=it:=by simpa using hb
    subst e
    obtain⟨o,e,c,d⟩:=st
    exact⟨o,e,fun v z=>by rw [d] at z;cases z⟩
  keep:=fun i h h' st k=>st.at fun o e=>k it (by simp) o e
  item:=by
    intro X hP hw hK hc i pins s σ H E I hf st hg
    subst hP hw hK
    obtain⟨xs,x,hq,hx⟩:=hg
    obtain⟨its,rv,p,hz⟩:=I.tuple hq
    obtain⟨u,hu,ru⟩:=rv.get hx
    obtain⟨f0,f1,f2,f3,f4,f5⟩:=hf it (by simp)
    refine wpAny_pyNext_tuple_item st (show s.heap.IsTuple a its.toArray from p) (x:=u) (by simpa using hu) fun h' st' sb => ?_
    have I1:Inv X pins σ H { s with heap:=h' }:=I.turned (t':=s.toks) (fun b o hb e=>(sb.2 b hb).trans e) f0 f1 f3 f4 f5
    obtain⟨o,e,c,d⟩:=id st'
    exact⟨u,rfl,Da (s:={ s with heap:=h' }) e c d (by decide) ⟨x,H,I1,ru,⟨rfl,fun ys hy=>by rw [I.tuple_inj hy hq];exact hx⟩,st',fun b hb=>(hf b hb).1⟩⟩
  done:=by
    intro X hP hw hK hc i pins s σ H E I hf st hg
    subst hP hw hK
    obtain⟨xs,hq,hx⟩:=hg
    obtain⟨its,rv,p,hz⟩:=I.tuple hq
    obtain⟨f0,f1,f2,f3,f4,f5⟩:=hf it (by simp)
    have hl:=rv.length
    exact wpAny_pyNext_tuple_end (I.ok.hd hc) st (show s.heap.IsTuple a its.toArray from p) (by simp;omega) fun h' eb=>⟨rfl,I.turned (t':=s.toks) (fun b o hb e=>eb b o hb e) f0 f1 f3 f4 f5⟩
  self:=fun _ _ _ _ _ st h=>wpAny_pyIter_tupleiter st h
theorem yJ {P:Program}{w:World}{K:PySem.W.Frag}{tg:Expr}(it:Addr)(lo:Int)(n:Nat):Bu P w K tg (Itr lo n) [it] it (fun i h=>IsRangeIter h it (lo + (i:Nat) * 1) ((n:Int) - (i:Nat)) 1) where
  mem:=by simp
  obj:=fun i h st b hb=>by
    have e:b=it:=by simpa using hb
    subst e
    exact⟨_,st,fun v z=>by
      have z':Data.fields _=Data.cell v:=z
      cases z'⟩
  keep:=fun i h h' st k=>k it (by simp) _ st
  item:=by
    intro X hP hw hK hc i pins s σ H E I hf st hg
    subst hP hw hK
    obtain⟨f0,f1,f2,f3,f4,f5⟩:=hf it (by simp)
    have W:=Walks.range (prog:=X.prog) (w:=X.w) (I.ok.hd hc) it lo 1 n
    refine W.item i s _ _ hg st fun v h' tk hv st' kk => ?_
    obtain⟨t,rfl⟩:=hv
    have I1:Inv X pins σ H { s with heap:=h',toks:=tk }:=I.turned (fun b o hb e=>kk b o (by simpa using hb) e) f0 f1 f3 f4 f5
    refine⟨_,rfl,Da (s:={ s with heap:=h',toks:=tk }) (n := "range_iterator") st' rfl rfl (by decide) ⟨.int (lo + i),H,I1,⟨t,?_⟩,⟨rfl,rfl⟩,st',fun b hb=>(hf b hb).1⟩⟩
    rw [Int.mul_one]
  done:=by
    intro X hP hw hK hc i pins s σ H E I hf st hg
    subst hP hw hK
    obtain⟨f0,f1,f2,f3,f4,f5⟩:=hf it (by simp)
    exact wpAny_pyNext_range_end (I.ok.hd hc) st (by have:n≤i:=hg;omega) fun h' eb=>⟨rfl,I.turned (t':=s.toks) (fun b o hb e=>eb b o hb e) f0 f1 f3 f4 f5⟩
  self:=fun _ _ _ _ _ st h=>wpAny_pyIter_rangeiter st h
end L2
namespace L2
open PySem PySem.Spec PyProof.Rows
section
variable {X:Cx} {tg:Expr}
theorem Db {pins:List (Addr × Obj)}{σ:St}{H:Hp}{s:Shared}{R:It→Hp→Prop}{E:Value→Shared→Prop}{lo hi:Int}{t u v:Tok}{tk:Nat}(I:Inv X pins σ H s)(h1 : -(2 ^ 62)≤lo)(h2:lo < 2 ^ 62)(h3 : -(2 ^ 62)≤hi)(h4:hi < 2 ^ 62)
    (q:R (Itr lo (hi - lo).toNat) H):wpAny (model X.prog X.w) X.A (pyIter (.ref s.heap.objs.size)) (PIE X pins σ tg R) E { s with heap:=s.heap.push { cls:=.type "range",data:=.fields #[.int lo t,.int hi u,.int 1 v] },toks:=tk }:=by
  refine wpAny_pyIter_range (IsRange.new ..) (small_one h1 h2 h3 h4) ?_
  have I1:Inv X pins σ H { s with heap:=s.heap.push { cls:=.type "range",data:=.fields #[.int lo t,.int hi u,.int 1 v] },toks:=tk }:=I.kept fun b o e=>Heap.get?_push_of_some _ e
  refine⟨(s.heap.push { cls:=.type "range",data:=.fields #[.int lo t,.int hi u,.int 1 v] }).objs.size,[(s.heap.push { cls:=.type "range",data:=.fields #[.int lo t,.int hi u,.int 1 v] }).objs.size],_,_,H,rfl,
    I1.kept (t':=tk) fun b o e=>Heap.get?_push_of_some _ e,yJ _ lo (hi - lo).toNat,?_,fun b hb => ?_,q⟩
  · have e1:lo + ((0:Nat):Int) * 1=lo:=by simp
    have e2:(((hi - lo).toNat:Nat):Int) - ((0:Nat):Int)=Builtin.Range.rangeSize lo hi 1:=by rw [rangeSize_one];split<;>omega
    show IsRangeIter _ _ (lo + ((0:Nat):Int) * 1) ((((hi - lo).toNat:Nat):Int) - ((0:Nat):Int)) 1
    rw [e1,e2]
    exact Heap.get?_push_size _ rfl
  · have e:b=(s.heap.push { cls:=.type "range",data:=.fields #[.int lo t,.int hi u,.int 1 v] }).objs.size:=by simpa using hb
    subst e
    exact I1.fpOk (Nat.le_refl _) (I1.hok.fresh (Nat.le_refl _))
def IY (ta:TA):TI:=fun σ H R=>ta σ H fun vs H1=>∃ j:Int,vs=[.int j] ∧ -(2 ^ 62)≤j∧j < 2 ^ 62∧R (Itr 0 j.toNat) H1
theorem Bw {a:Expr} {ta:TA} {p pos:Pos} (hg:Gl X "range") (hm:X.mg "range" = none) (ha:PA X [a] ta) (hs:starEach [a] X.env=[(false,eval a X.env)]:=by rfl):PI X tg (.Call (.Name "range" p) [a] [] pos) (IY ta):=by
  intro pins s σ H R I h
  refine Call_ (ue I hg hm boot_range (PyProof.Rows.callWith_type1 (thn (ha pos pins s σ H _ I h) fun us s1 ⟨vs,H1,I1,r1,q1⟩ => ?_) hs rfl))
  obtain⟨j,e,q1,q2,q⟩:=q1
  subst e
  cases r1 with
  | cons r rr =>
    cases rr
    obtain⟨t,rfl⟩:=r
    exact call_range_1 (Db I1 (by omega) (by omega) q1 q2 (by simpa using q))
def Kg (wi:TI) (g:TG) (tb:TS):TS:=fun D σ H=>wi σ H fun J H1=>∃ W:Nat→Nat→St→Hp→Prop,(∃ m,W 0 m σ H1) ∧ ∀ i m σ H,W i m σ H →
  (J.stop i H∧D.nx σ H)∨(J.go i H ∧ ∃ N:St→Hp→Prop,(∀ σ' H',N σ' H' → ∃ m',m' < m∧W (i + 1) m' σ' H') ∧ ∀ x H',J.yld i H x H'→g x σ H' fun σ2 H2=>tb { D with nx:=N,ct:=N,bk:=D.nx } σ2 H2)
def lX (fp:List Addr) (h:Heap):List (Addr × Obj):=fp.filterMap fun b=>(h.get? b).map fun o=>(b,o)
theorem eR {fp:List Addr}{h:Heap}{b:Addr}{o:Obj}(hb:b∈fp)(e:h.get? b=some o):(b,o)∈lX fp h:=List.mem_filterMap.mpr ⟨b,hb,by rw [e];rfl⟩
theorem Bx {fp:List Addr}{h:Heap}{p:Addr × Obj}(hp:p∈lX fp h):p.1∈fp∧h.get? p.1=some p.2:=by
  obtain⟨b,hb,e⟩:=List.mem_filterMap.mp hp
  cases q:h.get? b with
  | none=>rw [q] at e;cases e
  | some o =>
    rw [q] at e
    have e':(b,o)=p:=Option.some.inj e
    subst e'
    exact⟨hb,q⟩
theorem Inv.pinned {pins:List (Addr × Obj)}{σ:St}{H:Hp}{s:Shared}{fp:List Addr}(I:Inv X pins σ H s)(hf:∀ b∈fp,kM X pins H b)(ho:∀ b∈fp,∃ o,s.heap.get? b=some o ∧ ∀ v,o.data ≠ .cell v):Inv X (pins++lX fp s.heap) σ H s :=
  I.pins_of fun p hp=>(List.mem_append.mp hp).elim (fun z=>I.pin p (List.mem_append_right _ z)) fun z=>by
    obtain⟨hb,e⟩:=Bx z
    obtain⟨f0,f1,f2,_⟩:=hf p.1 hb
    obtain⟨o,e',d⟩:=ho p.1 hb
    rw [e] at e';cases e'
    exact⟨e,f0,f1,f2,d⟩
theorem Inv.unpinned {pins pl:List (Addr × Obj)}{σ:St}{H:Hp}{s:Shared}(I:Inv X (pins++pl) σ H s):Inv X pins σ H s:=I.pins_of fun p hp=>I.pin p (List.mem_append_right _ (List.mem_append_left _ hp))
theorem Dc {iter:Expr}{body:List Stmt}{wi:TI}{g:TG}{tb:TS}{pos:Pos}(hp:PassesOwn (model X.prog X.w) X.A X.env X.xe)(hc:X.calm=true)(hi:PI X tg iter wi)(hg:PG X tg g)(hb:PSs X body tb)
    (hs:∀ x,foldedSetIterable iter X.env x=pure x:=by intro _;rfl):PS X (.For tg iter body [] pos) (Kg wi g tb):=by
  intro pins s σ H D I h
  refine wpAny_For (thn (hi pins s σ H _ I h) fun v s1 h1=>thn h1 fun itv s2 h2 => ?_) hs
  obtain⟨it,fp,tn,J,H2,e,I2,T,st2,f2,W,⟨m0,w0⟩,turn⟩:=h2
  subst e
  have stat:∀ {H':Hp},(∀ b∈fp,H' b=none) → ∀ b∈fp,kM X pins H' b:=fun hn b hb=>⟨hn b hb,(f2 b hb).2⟩
  refine codeAny_forLoop_any (fun n s'=>∃ i σ' H',Inv X pins σ' H' s'∧tn i s'.heap∧(∀ b∈fp,H' b=none)∧W i n σ' H') ?_ m0 ⟨0,σ,H2,I2,st2,fun b hb=>(f2 b hb).1,w0⟩
  rintro n s3 ⟨i,σ3,H3,I3,st3,fr3,w3⟩
  rcases turn i n σ3 H3 w3 with ⟨stop,qn⟩|⟨go,N,hN,step⟩
  · refine wpAny_passesOwn hp (thn (T.done X rfl rfl rfl hc i pins s3 σ3 H3 X.xe I3 (stat fr3) st3 stop) fun r s4 ⟨hr,I4⟩ => ?_)
    subst hr
    exact wpAny_execs_nil ⟨σ3,H3,I4,qn⟩
  · refine wpAny_passesOwn hp (thn (T.item X rfl rfl rfl hc i pins s3 σ3 H3 X.xe I3 (stat fr3) st3 go) fun r s4 ⟨u,hr,h4⟩ => ?_)
    subst hr
    refine wpAny_passesOwn hp (thn h4 fun _ s5 ⟨x,H5,I5,r5,y5,st5,fr5⟩ => ?_)
    have I5':=I5.pinned (stat fr5) (T.obj _ _ st5)
    refine wpAny_passesOwn hp (thn (hg _ s5 σ3 H5 x u _ I5' r5 (step x H5 y5)) fun _ s6 ⟨σ6,H6,I6,q6⟩ => ?_)
    refine wpAny_passesOwn hp (thn (hb _ s6 σ6 H6 _ I6 q6) fun f s7 q7 => ?_)
    have again:∀ {σ7:St} {H7:Hp},Inv X (pins++lX fp s5.heap) σ7 H7 s7→N σ7 H7 → ∃ m,m < n ∧ ∃ i σ' H',Inv X pins σ' H' s7∧tn i s7.heap∧(∀ b∈fp,H' b=none)∧W i m σ' H':=fun {σ7 H7} I7 n7=>by
      obtain⟨m',hm,w7⟩:=hN σ7 H7 n7
      refine⟨m',hm,i + 1,σ7,H7,I7.unpinned,T.keep _ _ _ st5 fun b hb o e=>(I7.pin (b,o) (List.mem_append_right _ (List.mem_append_right _ (eR hb e)))).1,fun b hb => ?_,w7⟩
      obtain⟨o,e,d⟩:=T.obj _ _ st5 b hb
      exact (I7.pin (b,o) (List.mem_append_right _ (List.mem_append_right _ (eR hb e)))).2.1
    cases f with
    | next=>obtain⟨σ7,H7,I7,n7⟩:=q7;exact again I7 n7
    | cont=>obtain⟨σ7,H7,I7,n7⟩:=q7;exact again I7 n7
    | brk=>obtain⟨σ7,H7,I7,q7⟩:=q7;exact⟨σ7,H7,I7.unpinned,q7⟩
    | ret v=>obtain⟨x7,σ7,H7,I7,r7,q7⟩:=q7;exact⟨x7,σ7,H7,I7.unpinned,r7,q7⟩
end
end L2
namespace L2
open PySem PySem.Spec PyProof.Rows
abbrev R2:=V→V→Hp→VK→Prop
def OpR (X:Cx) (f:Value→Value→Sem Value) (r:R2):Prop :=
  ∀ (pins:List (Addr × Obj)) (s:Shared) (σ:St) (H:Hp) (x y:V) (v u:Value) (Q:VK),Inv X pins σ H s→bj x v→bj y u→r x y H Q →
    wpAny (model X.prog X.w) X.A (f v u) (EP X pins σ Q) X.xe s
def eP (X:Cx) (f:Value) (r:List V→Hp→VK→Prop):Prop :=
  ∀ (pins:List (Addr × Obj)) (s:Shared) (σ:St) (H:Hp) (xs:List V) (us:List Value) (Q:VK),Inv X pins σ H s→aI xs us→r xs H Q →
    wpAny (model X.prog X.w) X.A (call f us) (EP X pins σ Q) X.xe s
def tOp (r:R2) (ta tb:TE):TE:=fun σ H Q=>ta σ H fun x H1=>tb σ H1 fun y H2=>r x y H2 Q
def rI (C:Int→Int→Prop) (g:Int→Int→V):R2:=fun x y H Q=>∃ i j,x=.int i∧y=.int j∧C i j∧Q (g i j) H
def rI0 (g:Int→Int→V):R2:=fun x y H Q=>∃ i j,x=.int i∧y=.int j∧Q (g i j) H
section
variable {X:Cx} {a b c:Expr} {ta tb tc:TE} {pos:Pos}
theorem G8 (ha:PE X a ta)(hb:PE X b tb){pins:List (Addr × Obj)}{s:Shared}{σ:St}{H:Hp}{R:V→V→Hp→Prop}(I:Inv X pins σ H s)
    (h:ta σ H fun x H1=>tb σ H1 fun y H2=>R x y H2) {Q:Value→Shared→Prop} {f:Value→Value→Sem Value}
    (hf:∀ v u s2 x y H2,Inv X pins σ H2 s2→bj x v→bj y u→R x y H2→wpAny (model X.prog X.w) X.A (f v u) Q X.xe s2) :
    wpAny (model X.prog X.w) X.A (eval a X.env) (fun v s₁ => wpAny (model X.prog X.w) X.A (eval b X.env) (fun u s₂ => wpAny (model X.prog X.w) X.A (f v u) Q X.xe s₂) X.xe s₁) X.xe s:=by
  refine thn (ha pins s σ H _ I h) fun v s1 ⟨x,H1,I1,r1,q1⟩ => ?_
  refine thn (hb pins s1 σ H1 _ I1 q1) fun u s2 ⟨y,H2,I2,r2,q2⟩ => ?_
  exact hf v u s2 x y H2 I2 r1 r2 q2
theorem Dd {op:Operator}{r:R2}(ho:OpR X (binaryOp op) r)(ha:PE X a ta)(hb:PE X b tb):PE X (.BinOp a op b pos) (tOp r ta tb):=by
  intro pins s σ H Q I h
  exact wpAny_BinOp (G8 ha hb I h fun v u s2 x y H2 I2 rx ry q=>ho pins s2 σ H2 x y v u Q I2 rx ry q)
theorem opI {f:Value→Value→Sem Value}{C:Int→Int→Prop}{g:Int→Int→Int}
    (rule:∀ (i j:Int) (t u:Tok) (s:Shared) (Q:Value→Shared→Prop) (E:Value→Shared→Prop),C i j→Q (.int (g i j) s.toks) { s with toks:=s.toks + 1 } → wpAny (model X.prog X.w) X.A (f (.int i t) (.int j u)) Q E s) :
    OpR X f (rI C fun i j=>.int (g i j)):=by
  intro pins s σ H x y v u Q I rx ry h
  obtain⟨i,j,rfl,rfl,hc,q⟩:=h
  obtain⟨t,rfl⟩:=rx
  obtain⟨t',rfl⟩:=ry
  exact rule i j t t' s _ _ hc ⟨.int (g i j),H,I.tok _,⟨_,rfl⟩,q⟩
theorem IZ {f:Value→Value→Sem Value}{g:Int→Int→Int}
    (rule:∀ (i j:Int) (t u:Tok) (s:Shared) (Q:Value→Shared→Prop) (E:Value→Shared→Prop),Q (.int (g i j) s.toks) { s with toks:=s.toks + 1 } → wpAny (model X.prog X.w) X.A (f (.int i t) (.int j u)) Q E s) :
    OpR X f (rI0 fun i j=>.int (g i j)):=by
  intro pins s σ H x y v u Q I rx ry h
  obtain⟨i,j,rfl,rfl,q⟩:=h
  obtain⟨t,rfl⟩:=rx
  obtain⟨t',rfl⟩:=ry
  exact rule i j t t' s _ _ ⟨.int (g i j),H,I.tok _,⟨_,rfl⟩,q⟩
theorem G9 {f:Value→Value→Sem Value}{g:Int→Int→Bool}
    (rule:∀ (i j:Int) (t u:Tok) (s:Shared) (Q:Value→Shared→Prop) (E:Value→Shared→Prop),Q (.bool (g i j)) s→wpAny (model X.prog X.w) X.A (f (.int i t) (.int j u)) Q E s) :
    OpR X f (rI0 fun i j=>.bl (g i j)):=by
  intro pins s σ H x y v u Q I rx ry h
  obtain⟨i,j,rfl,rfl,q⟩:=h
  obtain⟨t,rfl⟩:=rx
  obtain⟨t',rfl⟩:=ry
  exact rule i j t t' s _ _ ⟨.bl (g i j),H,I,rfl,q⟩
def Fj (i j:Int):Prop:=(-(2 ^ 64) < i∧i < 2 ^ 64)∨(-(2 ^ 64) < j∧j < 2 ^ 64)
theorem Fj.ok {i j:Int}(h:Fj i j):IntMulOk i j:=by
  rcases h with ⟨h1,h2⟩|⟨h1,h2⟩
  · exact .of_left (intBits_le_64 h1 h2)
  · exact .of_right (intBits_le_64 h1 h2)
theorem Ha:OpR X (binaryOp .Add) (rI0 fun i j=>.int (i + j)):=IZ fun _ _ _ _ _ _ _ q=>add_int q
theorem n9:OpR X (binaryOp .Sub) (rI0 fun i j=>.int (i - j)):=IZ fun _ _ _ _ _ _ _ q=>sub_int q
theorem c9:OpR X (binaryOp .Mult) (rI Fj fun i j=>.int (i * j)):=opI fun _ _ _ _ _ _ _ hc q=>mul_int q hc.ok
theorem d5:OpR X (binaryOp .Mod) (rI (fun _ j=>0 < j) fun i j=>.int (i % j)):=opI fun i j _ _ _ _ _ hc q=>by
  have h1:(0:Int) < j:=hc
  exact mod_int' (by omega) (by rw [Int.fmod_eq_emod_of_nonneg i (by omega)];exact q)
end
section
variable {X:Cx} {a b c:Expr} {ta tb tc:TE} {pos:Pos}
theorem Hb {pins:List (Addr × Obj)}{σ:St}{H:Hp}{s:Shared}{Q:VK}{k k':Bool}(I:Inv X pins σ H s)(q:Q (.bl k) H)(e:k=k'):EP X pins σ Q (.bool k') s:=by
  subst e
  exact⟨.bl k,H,I,rfl,q⟩
theorem Ja:OpR X (compareOp .Lt) (rI0 fun i j=>.bl (decide (i < j))):=G9 fun _ _ _ _ _ _ _ q=>lt_int q
theorem Gu:OpR X (compareOp .LtE) (rI0 fun i j=>.bl (decide (i≤j))):=G9 fun _ _ _ _ _ _ _ q=>le_int q
theorem sK:OpR X (compareOp .Gt) (rI0 fun i j=>.bl (decide (j < i))):=G9 fun _ _ _ _ _ _ _ q=>gt_int q
theorem oa:OpR X (compareOp .Is) (fun x y H Q=>y=.non∧Q (.bl (decide (x=.non))) H):=by
  intro pins s σ H x y v u Q I rx ry h
  obtain⟨rfl,q⟩:=h
  cases ry
  refine is_none_gen (Hb I q ?_)
  cases x<;>first
    | (cases rx;rfl)
    | (obtain⟨t,rfl⟩:=rx;rfl)
theorem OpR.or {f:Value→Value→Sem Value}{r r':R2}(h:OpR X f r)(h':OpR X f r'):OpR X f (fun x y H Q=>r x y H Q∨r' x y H Q):=by
  intro pins s σ H x y v u Q I rx ry q
  rcases q with q|q
  · exact h pins s σ H x y v u Q I rx ry q
  · exact h' pins s σ H x y v u Q I rx ry q
theorem br (b:Expr){op:CmpOp}(h:op ≠ .In:=by decide)(h2:op ≠ .NotIn:=by decide):behindInMarks op b=false:=by
  have e1:(op == CmpOp.In)=false:=by cases op<;>first|rfl|exact absurd rfl h
  have e2:(op == CmpOp.NotIn)=false:=by cases op<;>first|rfl|exact absurd rfl h2
  cases b<;>simp [behindInMarks,e1,e2]
theorem Fk {op:CmpOp}{r:R2}(ho:OpR X (compareOp op) r)(ha:PE X a ta)(hb:PE X b tb)(hm:behindInMarks op b=false):PE X (.Compare a [op] [b] pos) (tOp r ta tb):=by
  intro pins s σ H Q I h
  exact wpAny_Compare1 (G8 ha hb I h fun v u s2 x y H2 I2 rx ry q=>ho pins s2 σ H2 x y v u Q I2 rx ry q) hm
def Jb (t:TE):TT:=fun σ H Q=>t σ H fun x H'=>∃ k,x=.bl k∧Q k H'
theorem Fl {op:CmpOp}{r:R2}(ho:OpR X (compareOp op) r)(ha:PE X a ta)(hb:PE X b tb)(hm:behindInMarks op b=false):PT X (.Compare a [op] [b] pos) (Jb (tOp r ta tb)):=by
  intro pins s σ H Q I h
  refine wpAny_isTrue_Compare1 (thn (ha pins s σ H _ I h) fun v s1 ⟨x,H1,I1,r1,q1⟩=>thn (hb pins s1 σ H1 _ I1 q1) fun u s2 ⟨y,H2,I2,r2,q2⟩ =>
    thn (ho pins s2 σ H2 x y v u _ I2 r1 r2 q2) fun c s3 ⟨z,H3,I3,r3,k,e,q3⟩ => ?_) hm
  subst e
  cases r3
  exact wpAny_truthy_bool ⟨H3,I3,q3⟩
def De (r r':R2) (ta tb tc:TE):TE:=fun σ H Q=>ta σ H fun x H1=>tb σ H1 fun y H2=>r x y H2 fun z H3=>∃ k,z=.bl k ∧
  (if k=true then tc σ H3 fun w' H4=>r' y w' H4 Q else Q (.bl false) H3)
theorem Df {op op':CmpOp}{r r':R2}(ho:OpR X (compareOp op) r)(ho':OpR X (compareOp op') r')(ha:PE X a ta)(hb:PE X b tb)(hc:PE X c tc)
    (hm:lastMarks [op,op'] [b,c] = false:=by with_unfolding_all rfl):PE X (.Compare a [op,op'] [b,c] pos) (De r r' ta tb tc):=by
  intro pins s σ H Q I h
  refine Compare_chain (thn (ha pins s σ H _ I h) fun v s1 ⟨x,H1,I1,r1,q1⟩=>chain_link (thn (hb pins s1 σ H1 _ I1 q1) fun u s2 ⟨y,H2,I2,r2,q2⟩ =>
    thn (ho pins s2 σ H2 x y v u _ I2 r1 r2 q2) fun d s3 ⟨z,H3,I3,r3,k,e,q3⟩ => ?_)) hm
  subst e
  cases r3
  refine wpAny_truthy_bool ?_
  cases k with
  | false=>exact ite_ff ⟨.bl false,H3,I3,rfl,q3⟩
  | true=>exact ite_tt (chain_last (thn (hc pins s3 σ H3 _ I3 q3) fun w' s4 ⟨z',H4,I4,r4,q4⟩=>ho' pins s4 σ H4 y z' u w' Q I4 r2 r4 q4))
theorem og:(sizeLine:Nat) < 2 ^ 63:=by rw [sizeLine_eq];decide
theorem wA {x:V}{us:List Value}(r:aI [x] us):∃ u,us=[u]∧bj x u:=by
  cases r with
  | cons r1 r2=>cases r2;exact⟨_,rfl,r1⟩
theorem Jc {x y:V}{us:List Value}(r:aI [x,y] us):∃ u w',us=[u,w']∧bj x u∧bj y w':=by
  cases r with
  | cons r1 r2 =>
    cases r2 with
    | cons r3 r4=>cases r4;exact⟨_,_,rfl,r1,r3⟩
theorem By (hc:X.calm=true):eP X (.builtin "max") (fun xs H Q=>∃ i j,xs=[.int i,.int j]∧Q (.int (if j > i then j else i)) H):=by
  intro pins s σ H xs us Q I r h
  obtain⟨i,j,rfl,q⟩:=h
  obtain⟨u,w',rfl,⟨t,rfl⟩,⟨t',rfl⟩⟩:=Jc r
  refine max_two_ints (I.ok.hd hc) fun h' tk k=>⟨_,H,I.kept k,?_,q⟩
  by_cases hj:j > i
  · rw [if_pos hj,if_pos hj];exact⟨_,rfl⟩
  · rw [if_neg hj,if_neg hj];exact⟨_,rfl⟩
theorem Bz:eP X (.type "int") (fun xs H Q=>(∃ i,xs=[.int i]∧Q (.int i) H) ∨ ∃ k,xs=[.bl k]∧Q (.int (if k then 1 else 0)) H):=by
  intro pins s σ H xs us Q I r h
  rcases h with ⟨i,rfl,q⟩|⟨k,rfl,q⟩
  · obtain⟨u,rfl,t,rfl⟩:=wA r
    exact call_int_int ⟨.int i,H,I,⟨_,rfl⟩,q⟩
  · obtain⟨u,rfl,r1⟩:=wA r
    cases r1
    exact call_int_bool ⟨.int (if k then 1 else 0),H,I.tok _,⟨_,rfl⟩,q⟩
end
end L2
namespace L2
open PySem PySem.Spec PyProof.Rows
structure KC (h:Heap) (x dx C:Addr) (mA:Str→Option Value):Prop where
  obj:h.get? x=some (PySem.W.instObj C dx)
  ns:h.Ns1 dx mA
  ne:dx≠x
section
variable {prog:Program} {w:World} {A:Around} {E:Value→Shared→Prop} {s:Shared} {K:PySem.W.Frag} {x dx C f:Addr} {mA:Str→Option Value} {name:Str} {v:Value}
end
theorem pW.some_of {v:V}{o:Option Value}(r:pW (some v) o):∃ u,o=some u∧bj v u:=by
  cases o with
  | none=>exact (show False from r).elim
  | some u=>exact⟨u,rfl,r⟩
section
variable {P:Program} {w:World} {H H':Hp} {h h':Heap} {a C dx:Addr} {fs fs':List (Str × V)}
end
structure Cls (K:PySem.W.Frag) (C:Addr):Prop where
  pg:PySem.W.plainGet K C Str.empty=true
  hd:PySem.W.hasDictIn K C=true
  po:PySem.W.plainOver K C=true
  sa:PySem.W.findIn K (.ref C) "__setattr__" = some (some (.builtin "object.__setattr__"))
structure Con (K:PySem.W.Frag) (C:Addr) (f:Str) (v:V) (u:Value):Prop where
  at_:PySem.W.findIn K (.ref C) f=some (some u)
  rel:bj v u
  get:PySem.W.specialIn K u "__get__" = some none
  cp:PySem.W.copiedNames.contains f=false
structure KD (K:PySem.W.Frag) (C:Addr) (m:Str) (f:Addr):Prop where
  at_:PySem.W.findIn K (.ref C) m=some (some (.ref f))
  fn:PySem.W.isFn K (.ref f)=true
  kp:PySem.W.keepIn K (.ref f)=true
section
variable {X:Cx} {pins:List (Addr × Obj)} {σ:St} {H:Hp} {s:Shared} {a C dx:Addr} {fs:List (Str × V)} {f:Str} {v:V} {A:Around} {E:Value→Shared→Prop}
end
section
variable {X:Cx} {o e value:Expr} {f:Str} {pos pos' tpos:Pos} {ta tv:TE}
end
section
variable {X:Cx} {pins:List (Addr × Obj)} {σ:St} {H:Hp} {s:Shared} {A:Around} {E:Value→Shared→Prop} {Q:Value→Shared→Prop} {c:Value} {b:Bool}
inductive oh (K:PySem.W.Frag) (H:Hp):V→Value→Prop where
  | non:oh K H .non (.type "NoneType")
  | bl (x:Bool):oh K H (.bl x) (.type "bool")
  | int (i:Int):oh K H (.int i) (.type "int")
  | str (x:Str):oh K H (.str x) (.type "str")
  | flt (x:UInt64):oh K H (.flt x) (.type "float")
  | lst {a:Addr} {xs:List V} (e:H a=some (.lst xs)):oh K H (.ref a) (.type "list")
  | frz {a:Addr} {o:Obj} {xs:List V} (e:H a=some (.frz o (.lst xs))):oh K H (.ref a) (.type "list")
  | tup {a:Addr} {xs:List V} (e:H a=some (.tup xs)):oh K H (.ref a) (.type "tuple")
  | dK {a:Addr} {kvs:List (Key × V)} (e:H a=some (.dK kvs)):oh K H (.ref a) (.type "dict")
  | dT {a:Addr} {kvs:List (List Key × V)} (e:H a=some (.dT kvs)):oh K H (.ref a) (.type "dict")
  | ins {a C dx:Addr} {fs:List (Str × V)} (e:H a=some (.ins C dx fs)) (cl:Cls K C) (ha:PySem.W.findIn K (.ref C) "__class__" = some (some (.builtin "object.__class__")))
      (hn:PySem.W.specialIn K (.builtin "object.__class__") "__get__" = some (some (.builtin "getset_descriptor.__get__"))) (htk:PySem.W.takesIn K (.builtin "object.__class__")=some true)
      (hm:PySem.W.mroIn K C (.type "object")=some true):oh K H (.ref a) (.ref C)
end
end L2
namespace L2
open PySem PySem.Spec PyProof.Rows
structure fS (k:Nat) (A:Around):Prop where
  hd:A.handled=none
  dp:A.depth + 3 * k + 5 < recursionLimit
  un:A.units + 16 * k + 200 < cLine
  gd:A.guards=some []
theorem fS.mono {j k:Nat}{A:Around}(r:fS k A)(h:j≤k):fS j A:=⟨r.hd,by have:=r.dp;omega,by have:=r.un;omega,r.gd⟩
theorem fS.deeper {k:Nat}{A:Around}(r:fS (k + 1) A)(env:Env):fS k (A.deeper env) :=
  ⟨r.hd,by have:=r.dp;show A.depth + 1 + 3 * k + 5 < _;omega,by have:=r.un;show A.units + 3 + 16 * k + 200 < _;omega,r.gd⟩
theorem fS.depth {k:Nat}{A:Around}(r:fS k A):A.depth < recursionLimit:=by have:=r.dp;omega
theorem fS.units {k:Nat}{A:Around}(r:fS k A):A.units + 64 < cLine:=by have:=r.un;omega
def Kh:TA:=fun _ H Q=>Q [] H
def Jd (ta:TE) (tr:TA):TA:=fun σ H Q=>ta σ H fun x H1=>tr σ H1 fun xs H2=>Q (x :: xs) H2
section
variable {X:Cx} {e:Expr} {es:List Expr} {te:TE} {t:TA} {pos:Pos}
theorem eA:PA X [] Kh:=fun _ _ _ _ H Q I h=>Calls.spliced_nil ⟨[],H,I,.nil,h⟩
theorem cx (ha:PE X e te)(hr:PA X es t)(hs:starEach (e :: es) X.env=(false,eval e X.env) :: starEach es X.env:=by rfl):PA X (e :: es) (Jd te t):=by
  intro pos pins s σ H Q I h
  rw [hs]
  show wpAny _ _ (spliced ((false,eval e X.env) :: backTo pos (starEach es X.env))) _ _ s
  refine Calls.spliced_cons (thn (ha pins s σ H _ I h) fun u s1 ⟨x,H1,I1,r1,q1⟩ => ?_)
  exact thn (hr pos pins s1 σ H1 _ I1 q1) fun us s2 ⟨xs,H2,I2,r2,q2⟩=>⟨x :: xs,H2,I2,.cons r1 r2,q2⟩
def Ki (t:TA):TE:=fun σ H Q=>t σ H fun xs H1=>xs.length≤sizeLine ∧ ∀ p,H1 p=none→Q (.ref p) (upd H1 p (.tup xs))
def Kj (t:TA):TE:=fun σ H Q=>t σ H fun xs H1=>xs.length≤sizeLine ∧ ∀ p,H1 p=none→Q (.ref p) (upd H1 p (.lst xs))
theorem Hc {x1}(h:PA X es t):PE X (.Tuple es x1 pos) (Ki t):=by
  intro pins s σ H Q I hq
  refine wpAny_Tuple_spliced (thn (h pos pins s σ H _ I hq) fun us s1 ⟨xs,H1,I1,r,z,q⟩=>⟨by rw [← r.length];exact z,?_⟩)
  have hf:H1 s1.heap.objs.size=none:=I1.hok.fresh (Nat.le_refl _)
  refine⟨.ref s1.heap.objs.size,upd H1 s1.heap.objs.size (.tup xs),I1.laid (t':=s1.toks) (fun b u e=>Heap.get?_push_of_some _ e) (Nat.le_refl _) ?_,rfl,q _ hf⟩
  exact⟨z,us,r,⟨_,Heap.get?_push_size _ rfl,rfl,_,rfl⟩⟩
theorem He (h:PA X es t):PE X (.List es pos) (Kj t):=by
  intro pins s σ H Q I hq
  refine wpAny_List_spliced (thn (h pos pins s σ H _ I hq) fun us s1 ⟨xs,H1,I1,r,z,q⟩=>⟨by rw [← r.length];exact z,?_⟩)
  have hf:H1 s1.heap.objs.size=none:=I1.hok.fresh (Nat.le_refl _)
  refine⟨.ref s1.heap.objs.size,upd H1 s1.heap.objs.size (.lst xs),I1.laid (t':=s1.toks) (fun b u e=>Heap.get?_push_of_some _ e) (Nat.le_refl _) ?_,rfl,q _ hf⟩
  exact⟨z,us,0,r,Heap.get?_push_size _ rfl⟩
end
abbrev Sp:=List V→Hp→VK→XK→Prop
abbrev CXT:=List Env→Hp→Shared→XK→Value→Shared→Prop
structure Fo (P:Program) (w:World) (K:PySem.W.Frag) (mg:Str→Option Value) (base:Heap) (A:Around) (outer:List Env) (s:Shared) (H:Hp):Prop where
  frames:A.frames=some outer
  mod:Mod K mg base
  bs:∀ b o,base.get? b=some o→s.heap.get? b=some o∧H b=none
  bsz:base.objs.size≤s.heap.objs.size
  funs:s.heap.FunFrames base outer
  frf:∀ b∈frs outer,H b=none
  hok:HOk P w H s.heap
  bare:AllBare s.gens
def CE (outer:List Env) (P:Program) (w:World) (H:Hp) (s:Shared) (Q:VK) (u:Value) (s':Shared):Prop :=
  ∃ v H',s'.os=s.os∧AllBare s'.gens∧Un (frs outer) [] H H' s.heap s'.heap∧HOk P w H' s'.heap∧bj v u∧Q v H'
def CR (CX:CXT) (outer:List Env) (P:Program) (w:World) (H:Hp) (s:Shared) (Q:VK) (E:XK) (r:Result) (s':Shared):Prop :=
  match r with
  | .ok (.ret u)=>CE outer P w H s Q u s'
  | .ok _=>False
  | .error e=>CX outer H s E e s'
structure cA (P:Program) (w:World) (K:PySem.W.Frag) (mg:Str→Option Value) (base:Heap) (CX:CXT) (k:Nat) (f:Addr) (fd:FuncData) (ps:List Str) (sp:Sp):Prop where
  len:∀ vs H Q E,sp vs H Q E→vs.length=ps.length
  run:∀ (A:Around) (outer:List Env) (s:Shared) (H:Hp) (args:Args) (us:List Value) (vs:List V) (Q:VK) (E:XK),fS k A→Fo P w K mg base A outer s H→BindsTo s fd args (ps.zip us)→aI vs us→sp vs H Q E →
    codeAny (model P w) A (.call (.ref f) args) (CR CX outer P w H s Q E) s
section
variable {X:Cx} {pins:List (Addr × Obj)} {σ:St} {H:Hp} {s s':Shared}
theorem Inv.env0 (I:Inv X pins σ H s):Fo X.prog X.w X.K X.mg X.base X.A X.stack s H :=
  ⟨I.ok.frames,I.ok.mod,I.bs,Nat.le_trans I.ok.bsz I.sz,I.stack,I.stkFree,I.hok,I.bare⟩
theorem Inv.after {Q:VK}{u:Value}(I:Inv X pins σ H s)(h:CE X.stack X.prog X.w H s Q u s'):EP X pins σ Q u s':=by
  obtain⟨v,H',os,bare,un,hok,r,q⟩:=h
  obtain⟨hh,g,d,t,os'⟩:=s'
  obtain rfl:os'=s.os:=os
  exact⟨v,H',I.call (h':=hh) (g':=g) (d':=d) (t':=t) (ch:=[]) un hok bare (fun b z=>absurd z (by simp)),r,q⟩
end
def Je (sp:Sp) (dvs:List V) (E:XK) (t:TA):TE:=fun σ H Q=>t σ H fun vs H1=>sp (vs++dvs) H1 Q E
def jV (K:PySem.W.Frag) (fd:FuncData) (ps:List Str) (ds:List Value):Prop :=
  ∀ (s:Shared) (us:List Value),K.In s.heap→(us++ds).length=ps.length→BindsTo s fd ⟨us,[]⟩ (ps.zip (us++ds))
theorem jV.all {K:PySem.W.Frag}{fd:FuncData}{ps:List Str}(h:∀ us:List Value,us.length=ps.length→bindArgs fd ⟨us,[]⟩ = pure (ps.zip us)):jV K fd ps []:=fun s us _ hl=>by
  rw [List.append_nil] at hl ⊢
  exact .of_eq (h us hl)
def oi (CX:CXT) (X:Cx) (E:XK):Prop:=∀ (pins:List (Addr × Obj)) (σ:St) (H:Hp) (s:Shared) (e:Value) (s':Shared),Inv X pins σ H s→CX X.stack H s E e s'→X.xe e s'
section
variable {X:Cx} {CX:CXT} {k:Nat} {f C:Addr} {fd:FuncData} {ps:List Str} {sp:Sp} {dvs:List V} {ds:List Value} {E:XK} {x m:Str} {p pos apos:Pos} {e o:Expr} {es:List Expr} {ta:TE} {t:TA}
theorem Hf {pins:List (Addr × Obj)}{σ:St}{H:Hp}{s:Shared}{Q:VK}{us:List Value}{vs:List V}(F:cA X.prog X.w X.K X.mg X.base CX k f fd ps sp)(hr:fS k X.A)(hb:jV X.K fd ps ds)(hd:aI dvs ds)(hx:oi CX X E)
    (I:Inv X pins σ H s) (r:aI vs us) (h:sp (vs++dvs) H Q E):wpAny (model X.prog X.w) X.A (call (.ref f) us) (EP X pins σ Q) X.xe s:=by
  have r2:aI (vs++dvs) (us++ds):=r.append hd
  have hl:(us++ds).length=ps.length:=by rw [← r2.length];exact F.len _ _ _ _ h
  refine wpAny_call (codeAny_mono (F.run X.A X.stack s H ⟨us,[]⟩ (us++ds) (vs++dvs) Q E hr I.env0 (hb s us I.kIn hl) r2 h) fun r s' hq => ?_)
  cases r with
  | error e=>exact hx pins σ H s e s' I hq
  | ok fl =>
    cases fl with
    | ret u=>exact I.after hq
    | next=>exact False.elim hq
    | brk=>exact False.elim hq
    | cont=>exact False.elim hq
theorem Av (F:cA X.prog X.w X.K X.mg X.base CX k f fd ps sp)(hr:fS k X.A)(hg:Gl X x)(hm:X.mg x=some (.ref f))(hk:PySem.W.keepIn X.K (.ref f)=true)(hb:jV X.K fd ps ds)(hd:aI dvs ds)(hx:oi CX X E)
    (ha:PA X (e :: es) t) (hdb:(x == ("__debug__" : Str))=false:=by decide) (he:starEach (e :: es) X.env=(false,eval e X.env) :: starEach es X.env:=by rfl) (hpl:(backTo pos (starEach es X.env)).any (·.1)=false:=by rfl) :
    PE X (.Call (.Name x p) (e :: es) [] pos) (Je sp dvs E t):=by
  intro pins s σ H Q I h
  refine wpAny_Call_Name_kw (ud I hg hm ?_ hdb)
  refine PySem.W.callWith_K (h₀ := X.base) I.ok.mod.kin hk (thn (ha pos pins s σ H _ I h) fun us s1 ⟨vs,H1,I1,r,q⟩=>⟨I1.kIn,?_⟩) he hpl
  exact Hf F hr hb hd hx I1 r q
structure Mk (K:PySem.W.Frag) (C f:Addr):Prop where
  makes:PySem.W.makesIn K C=true
  init:PySem.W.findIn K (.ref C) "__init__" = some (some (.ref f))
  fn:PySem.W.isFn K (.ref f)=true
  kp:PySem.W.keepIn K (.ref C)=true
end
section
variable {X:Cx} {CX:CXT} {k:Nat} {f C:Addr} {fd:FuncData} {ps ks:List Str} {sp:Sp} {E:XK} {x m:Str} {p pos apos kpos:Pos} {e o:Expr} {es:List Expr} {kws:List Keyword} {te ta:TE} {t tk:TA} {nm:Option Str}
structure Kk (K:PySem.W.Frag) (fd:FuncData) (ps ks:List Str) (g:List Value→List Value→List Value) (gV:List V→List V→List V):Prop where
  to:∀ (s:Shared) (us ws:List Value),K.In s.heap→(g us ws).length=ps.length→BindsTo s fd ⟨us,ks.zip ws⟩ (ps.zip (g us ws))
  rel:∀ {vs:List V} {us:List Value} {zs:List V} {ws:List Value},aI vs us→aI zs ws→aI (gV vs zs) (g us ws)
variable {g:List Value→List Value→List Value} {gV:List V→List V→List V}
end
structure aP (N P:List Str) (sc:Scope):Prop where
  kind:sc.kind=.function
  co:sc.isCoroutine=false
  gen:sc.isGenerator=false
  nd:N.Nodup
  pre:N.take P.length=P
  par:∀ x∈P,sc.names.lookup x=some .local ∨sc.names.lookup x=some .cell
  nofree:∀ y∈sc.names,y.2 ≠ .free
theorem sL {kindOf:Str→Option NameKind}{x:Str}:∀ {binds:List (Str × Value)} {m:Str→Option Value},(∀ v,(x,v)∉binds)→bindL kindOf binds m x=m x
  | [],_,_=>rfl
  | (n,v) :: r,m,h=>by
    unfold bindL
    rw [sL fun w hw=>h w (List.mem_cons_of_mem _ hw)]
    split
    · have:x≠n:=by rintro rfl;exact h v List.mem_cons_self
      simp [this]
    · rfl
theorem sM {kindOf:Str→Option NameKind}{x:Str}:∀ {binds:List (Str × Value)} {m:Str→Option Value},(∀ v,(x,v)∉binds)→bindC kindOf binds m x=m x
  | [],_,_=>rfl
  | (n,v) :: r,m,h=>by
    unfold bindC
    rw [sM fun w hw=>h w (List.mem_cons_of_mem _ hw)]
    split
    · rfl
    · have:x≠n:=by rintro rfl;exact h v List.mem_cons_self
      simp [this]
theorem sN {kindOf:Str→Option NameKind}{x:Str}{v:Value}:∀ {P:List Str} {vs:List Value} {i:Nat} {m:Str→Option Value},P.Nodup→P[i]? = some x→vs[i]? = some v→kindOf x=some .local →
    bindL kindOf (P.zip vs) m x=some v
  | [],_,_,_,_,h,_,_=>by simp at h
  | _ :: _,[],_,_,_,_,h,_=>by simp at h
  | p :: P,w :: vs,0,m,nd,h1,h2,hk=>by
    simp at h1 h2;subst h1;subst h2
    show bindL kindOf ((p,w) :: P.zip vs) m p=_
    unfold bindL
    rw [sL fun v hv=>(List.nodup_cons.mp nd).1 (List.of_mem_zip hv).1,if_pos hk]
    simp
  | p :: P,w :: vs,i + 1,m,nd,h1,h2,hk=>by
    show bindL kindOf ((p,w) :: P.zip vs) m x=_
    unfold bindL
    exact sN (i:=i) (List.nodup_cons.mp nd).2 (by simpa using h1) (by simpa using h2) hk
theorem sO {kindOf:Str→Option NameKind}{x:Str}{v:Value}:∀ {P:List Str} {vs:List Value} {i:Nat} {m:Str→Option Value},P.Nodup→P[i]? = some x→vs[i]? = some v→kindOf x≠some .local →
    bindC kindOf (P.zip vs) m x=some v
  | [],_,_,_,_,h,_,_=>by simp at h
  | _ :: _,[],_,_,_,_,h,_=>by simp at h
  | p :: P,w :: vs,0,m,nd,h1,h2,hk=>by
    simp at h1 h2;subst h1;subst h2
    show bindC kindOf ((p,w) :: P.zip vs) m p=_
    unfold bindC
    rw [sM fun v hv=>(List.nodup_cons.mp nd).1 (List.of_mem_zip hv).1,if_neg hk]
    simp
  | p :: P,w :: vs,i + 1,m,nd,h1,h2,hk=>by
    show bindC kindOf ((p,w) :: P.zip vs) m x=_
    unfold bindC
    exact sO (i:=i) (List.nodup_cons.mp nd).2 (by simpa using h1) (by simpa using h2) hk
def jh (N:List Str) (vs:List V):St:=vs.map some++List.replicate (N.length - vs.length) none
def nE (CX:CXT) (P:Program) (w:World) (K:PySem.W.Frag) (mg:Str→Option Value) (base:Heap) (N:List Str) (qual:Str) (scope:Scope) (f:Addr) (cd:Value) (A:Around) (outer:List Env) (s:Shared) (H:Hp) (E:XK):Cx where
  prog:=P
  w:=w
  K:=K
  mg:=mg
  base:=base
  A:=A.deeper (envOfC qual scope s.heap.objs.size f cd)
  N:=N
  s₀ := s
  H₀ := H
  env:=envOfC qual scope s.heap.objs.size f cd
  outer:=outer
  stack:=envOfC qual scope s.heap.objs.size f cd :: outer
  ex:=[]
  calm:=true
  fn:=fun _=>true
  pn:=[]
  xe:=fun e s'=>wpAny (model P w) (A.deeper (envOfC qual scope s.heap.objs.size f cd)) (leaving (envOfC qual scope s.heap.objs.size f cd) e) (fun _ s''=>CX outer H s E e s'') (fun e' s''=>CX outer H s E e' s'') s'
theorem wB {sc:Scope}{n:Nat}{x:Str}(h:sc.names.lookup x=some .cell):∃ c,(cellsFrom n sc.names []).lookup x=some c:=by
  have q:=PySem.W.cellsFrom_some sc.names n [] (.inl h)
  exact Option.isSome_iff_exists.mp q
theorem BA {CX:CXT}{P:Program}{w:World}{K:PySem.W.Frag}{mg:Str→Option Value}{base:Heap}{N ps:List Str}{qual:Str}{scope:Scope}{f:Addr}{cd:Value}{A:Around}{outer:List Env}{s s1:Shared}{H:Hp}{E:XK}{us:List Value}{vs:List V}
    (S:aP N ps scope) (hd:A.handled=none) (e0:Fo P w K mg base A outer s H) (hl:vs.length=ps.length) (r:aI vs us)
    (x:InCallC s s.heap.objs.size (bindL (envOfC qual scope s.heap.objs.size f cd).kindOf (ps.zip us) fun _=>none) (cellsFrom (s.heap.objs.size + 1) scope.names []) (bindC (envOfC qual scope s.heap.objs.size f cd).kindOf (ps.zip us) fun _=>none) s1) :
    Inv (nE CX P w K mg base N qual scope f cd A outer s H E) [] (jh N vs) H s1:=by
  have hpl:ps.length≤N.length:=by have:=congrArg List.length S.pre;rw [List.length_take] at this;omega
  obtain⟨h1,tk,rfl,hk⟩:=x.done
  have noA:∀ b:Addr,b∉(nE CX P w K mg base N qual scope f cd A outer s H E).ex:=fun b z=>absurd (show b∈([] : List Addr) from z) (by simp)
  refine⟨⟨e0.mod,S.kind,rfl,rfl,Nat.le_refl _,fun y z c h1 h2 => ?_,fun y hy => ?_,fun y c _ h => ?_,fun _=>hd,Around.frames_deeper e0.frames,.inr ⟨rfl,rfl⟩,fun b z=>absurd z (noA b),e0.bs,e0.bsz,fun b _ _=>noA b,fun b z=>absurd z (noA b),e0.funs,e0.frf⟩,
    rfl,e0.bare,Un.kept hk,⟨_,x.toInCall.ns,fun i y v h1 h2 h3 => ?_⟩,fun y c h=>⟨_,x.cell y c h⟩,e0.hok.fresh (Nat.le_refl _),fun y c h => ?_,fun p hp=>absurd (show p∈([] : List (Addr × Obj)) from hp) (by simp),e0.hok.kept hk,?_⟩
  · exact name_of_addr x.apart (PySem.mem_of_lookup h1) (PySem.mem_of_lookup h2)
  · have hy:scope.names.lookup y=some .cell∨scope.names.lookup y=some .free:=hy
    rcases hy with hy|hy
    · exact wB hy
    · exact absurd rfl (S.nofree _ (PySem.mem_of_lookup hy))
  · exact Nat.le_of_lt (x.above y c (PySem.mem_of_lookup h))
  · have hi:i < vs.length:=by
      unfold jh at h2
      by_cases hi:i < vs.length
      · exact hi
      · rw [List.getElem?_append_right (by simpa using hi)] at h2
        rw [List.getElem?_replicate] at h2
        split at h2<;>cases h2
    have ha:vs[i]? = some v:=by
      unfold jh at h2
      rw [List.getElem?_append_left (by simpa using hi),List.getElem?_map] at h2
      cases e:vs[i]? with
      | none=>rw [e] at h2;cases h2
      | some a=>rw [e] at h2;cases h2;rfl
    obtain⟨u,hu,rv⟩:=r.get ha
    have hp:ps[i]? = some y:=by
      rw [← S.pre,List.getElem?_take_of_lt (by omega)];exact h1
    have ndP:ps.Nodup:=by rw [← S.pre];exact S.nd.sublist (List.take_sublist _ _)
    refine⟨u,rv,?_⟩
    rcases S.par y (List.mem_of_getElem? hp) with k|k
    · exact .inl ⟨k,sN ndP hp hu k⟩
    · obtain⟨c,e⟩:=wB (n:=s.heap.objs.size + 1) k
      refine .inr ⟨.inl k,c,e,?_⟩
      have q:=x.cell y c e
      rw [sO ndP hp hu (by show scope.names.lookup y≠_;rw [k];decide)] at q
      exact q
  · exact e0.hok.fresh (Nat.le_of_lt (x.above y c (PySem.mem_of_lookup h)))
  · unfold jh
    show _=N.length
    rw [List.length_append,List.length_map,List.length_replicate]
    omega
theorem Gv {CX:CXT}{P:Program}{w:World}{K:PySem.W.Frag}{mg:Str→Option Value}{base:Heap}{k:Nat}{f:Addr}{name qual:Str}{params:Arguments}{body:List Stmt}{scope:Scope}{dV kV doc pm cdv ct oc:Value}{an od:Option Addr}
    {osl:Array (Option Value)} {N ps:List Str} {sp:Sp} (lk:K.lookup f=some ⟨oc,od,.func (PySem.W.fnOf name qual params body scope dV kV doc pm an cdv ct),osl⟩) (hcd:PySem.W.codeIn K cdv qual=true) (S:aP N ps scope)
    (len:∀ vs H Q E,sp vs H Q E→vs.length=ps.length)
    (hbody:∀ (A:Around) (outer:List Env) (s:Shared) (H:Hp) (vs:List V) (Q:VK) (E:XK),fS k (A.deeper (envOfC qual scope s.heap.objs.size f cdv))→sp vs H Q E →
      ∃ t,PSs (nE CX P w K mg base N qual scope f cdv A outer s H E) body t∧t { nx:=fun _ H'=>Q .non H',rt:=Q } (jh N vs) H) :
    cA P w K mg base CX (k + 1) f (PySem.W.fnOf name qual params body scope dV kV doc pm an cdv ct) ps sp:=by
  refine⟨len,fun A outer s H args us vs Q E hr e0 hb r hsp => ?_⟩
  have hl:=len _ _ _ _ hsp
  have KX:K.In s.heap:=e0.mod.kin.keeps fun b o e=>(e0.bs b o e).1
  have lim:s.heap.NoLimit:=e0.mod.nolimit.keeps fun b o e=>(e0.bs b o e).1
  have hkind:∀ y∈ps.zip us,scope.names.lookup y.1=some .local ∨(scope.names.lookup y.1=some .cell∧((cellsFrom (s.heap.objs.size + 1) scope.names []).lookup y.1).isSome=true):=fun ⟨n,v⟩ hy=>by
    rcases S.par n (List.of_mem_zip hy).1 with q|q
    · exact .inl q
    · exact .inr ⟨q,PySem.W.cellsFrom_some _ _ _ (.inl q)⟩
  refine codeAny_call_function hr.depth (KX _ _ lk) rfl S.co S.gen rfl (PySem.W.codeRec_of KX hcd) (hb _ _ _ _ ?_)
  refine wpAny_newFunctionEnv_cells S.kind hkind fun env he s1 x => ?_
  subst he
  refine⟨lim.keeps x.toInCall.keep,codeAny_func ?_⟩
  obtain⟨t,ht,hq⟩:=hbody A outer s H vs Q E (hr.deeper _) hsp
  have I:Inv (nE CX P w K mg base N qual scope f cdv A outer s H E) [] (jh N vs) H s1:=BA S hr.hd e0 hl r x
  refine wpAny_mono (ht [] s1 (jh N vs) H _ I hq) (fun fl s' hs => ?_) fun e s' hs=>hs
  have fin:∀ {σ':St} {H':Hp} {v:V} {u:Value},Inv (nE CX P w K mg base N qual scope f cdv A outer s H E) [] σ' H' s'→bj v u→Q v H'→CE outer P w H s Q u s' :=
    fun {σ' H' v u} J rv q=>⟨v,H',J.os,J.bare,J.base,J.hok,rv,q⟩
  cases fl with
  | ret u =>
    obtain⟨v,σ',H',J,rv,q⟩:=hs
    exact fin J rv q
  | next =>
    obtain⟨σ',H',J,q⟩:=hs
    exact fin (v:=V.non) (u:=Value.none) J rfl q
  | brk =>
    obtain⟨_,_,_,q⟩:=hs
    exact False.elim q
  | cont =>
    obtain⟨_,_,_,q⟩:=hs
    exact False.elim q
end L2
namespace L2
open PySem PySem.Spec PyProof.Rows
section
variable {X:Cx} {x:Str} {p pos:Pos} {e:Expr} {es:List Expr} {t:TA} {id T:String} {r:List V→Hp→VK→Prop}
def tCB (r:List V→Hp→VK→Prop) (t:TA):TE:=fun σ H Q=>t σ H fun vs H1=>r vs H1 Q
theorem fU (hc:eP X (.builtin id) r) (hg:Gl X x) (hm:X.mg x=none) (hv:bootBuiltins x=some (.builtin id)) (ha:PA X (e :: es) t) (hn:x ≠ "__name__" := by decide) (hdb:(x == ("__debug__" : Str))=false:=by decide)
    (he:starEach (e :: es) X.env=(false,eval e X.env) :: starEach es X.env:=by rfl) (hpl:(backTo pos (starEach es X.env)).any (·.1)=false:=by rfl):PE X (.Call (.Name x p) (e :: es) [] pos) (tCB r t):=by
  intro pins s σ H Q I h
  refine wpAny_Call_Name_kw (ue I hg hm hv ?_ hn hdb)
  exact PyProof.Rows.callWith_builtin1 (thn (ha pos pins s σ H _ I h) fun us s1 ⟨vs,H1,I1,r1,q1⟩=>hc pins s1 σ H1 vs us Q I1 r1 q1) he hpl
theorem sP (hc:eP X (.type T) r) (hg:Gl X x) (hm:X.mg x=none) (hv:bootBuiltins x=some (.type T)) (ha:PA X (e :: es) t) (hn:x ≠ "__name__" := by decide) (hdb:(x == ("__debug__" : Str))=false:=by decide)
    (he:starEach (e :: es) X.env=(false,eval e X.env) :: starEach es X.env:=by rfl) (hpl:(backTo pos (starEach es X.env)).any (·.1)=false:=by rfl):PE X (.Call (.Name x p) (e :: es) [] pos) (tCB r t):=by
  intro pins s σ H Q I h
  refine wpAny_Call_Name_kw (ue I hg hm hv ?_ hn hdb)
  exact PyProof.Rows.callWith_type1 (thn (ha pos pins s σ H _ I h) fun us s1 ⟨vs,H1,I1,r1,q1⟩=>hc pins s1 σ H1 vs us Q I1 r1 q1) he hpl
end
end L2
namespace HT
open PySem PyProof.Rows
def bN:List Int→List Int→Bool
  | [],[]=>false
  | [],_ :: _=>true
  | _ :: _,[]=>false
  | x :: xs,y :: ys=>if x=y then bN xs ys else decide (x < y)
section
open PySem.SeqAt
open PySem.AutoSeq1 (wpAny_loadPart')
open PySem.MeetsSeq PySem.MeetsSeq2 PySem.MeetsSeq3
end
section
variable {prog:Program} {w:World} {A:Around} {E:Value→Shared→Prop} {s:Shared}
theorem cat_tup {t b:Addr}{vs ws:List Value}{Q:Value→Shared→Prop}(ht:IsTup s.heap t vs.toArray)(hb:IsTup s.heap b ws.toArray)(hv:vs≠[])
    (h1:ws=[]→Q (.ref t) s) (h2:ws≠[]→Q (.ref s.heap.objs.size) { s with heap:=s.heap.push { cls:=.type "tuple",data:=.seq (vs++ws).toArray } })
    (hsz:vs.length + ws.length≤sizeLine):wpAny (model prog w) A (binaryOp .Add (.ref t) (.ref b)) Q E s:=by
  obtain⟨⟨cls,dd,data,sl⟩,ho,hc,n,hd⟩:=id ht
  obtain⟨⟨cls2,dd2,data2,sl2⟩,ho2,hc2,n2,hd2⟩:=id hb
  simp only at hc hd hc2 hd2
  subst hc hd hc2 hd2
  have e:vs.toArray++ws.toArray=(vs++ws).toArray:=by simp
  by_cases hw:ws=[]
  · exact concat_meets ⟨_,ho,rfl⟩ ⟨_,ho2,rfl⟩ noFill_tuple_add seq_tuple_add PySem.F.slot_tuple_add PySem.F.entry_tuple_add (PySem.F.args_tuple_add_2 _ _)
      (tuple_addW1 t b vs.toArray ws.toArray n n2 dd dd2 sl sl2 (by simpa using hv) (by simp [hw])) ⟨ho,ho2,h1 hw⟩
  · refine concat_meets ⟨_,ho,rfl⟩ ⟨_,ho2,rfl⟩ noFill_tuple_add seq_tuple_add PySem.F.slot_tuple_add PySem.F.entry_tuple_add (PySem.F.args_tuple_add_2 _ _)
      (tuple_addW2 t b vs.toArray ws.toArray n n2 dd dd2 sl sl2 (by simpa using hv) (by simpa using hw) (by rw [List.size_toArray,List.size_toArray];exact hsz)) ⟨ho,ho2,?_⟩
    rw [e]
    exact h2 hw
def sIx (n d:Nat):Option Int→Nat
  | none=>d
  | some v=>if v < 0 then (v + (n:Int)).toNat else min v.toNat n
theorem Hg (n d:Nat)(hd:d≤n)(o:Option Int):sIx n d o≤n:=by
  cases o with
  | none=>exact hd
  | some v =>
    show (if v < 0 then (v + (n:Int)).toNat else min v.toNat n)≤n
    by_cases hv:v < 0
    · rw [if_pos hv];omega
    · rw [if_neg hv];exact Nat.min_le_right _ _
theorem Aw (v:Int)(n d:Nat):(if v < 0 then max (v + (n:Int)) 0 else min v (n:Int))=((sIx n d (some v):Nat):Int):=by
  show (if v < 0 then max (v + (n:Int)) 0 else min v (n:Int))=(((if v < 0 then (v + (n:Int)).toNat else min v.toNat n):Nat):Int)
  by_cases hv:v < 0
  · simp only [if_pos hv];omega
  · simp only [if_neg hv];omega
theorem yK (lo hi:Option Int)(n:Nat):Builtin.Slice.sliceAdjust lo hi 1 (n:Int)=(((sIx n 0 lo:Nat):Int),((sIx n n hi:Nat):Int)):=by
  have h1 : ¬ ((1:Int) < 0):=by omega
  unfold Builtin.Slice.sliceAdjust
  simp only [h1,if_false]
  refine Prod.ext ?_ ?_
  · cases lo with
    | none=>rfl
    | some v=>exact Aw v n 0
  · cases hi with
    | none=>rfl
    | some v=>exact Aw v n n
theorem yL (i j:Nat):Builtin.Slice.slicePlaces (i:Int) (j:Int) 1=j - i:=by
  unfold Builtin.Slice.slicePlaces
  have h1:(1:Int) > 0:=by omega
  simp only [h1,if_true,Int.ediv_one]
  split<;>omega
theorem oj {v:Value}{o:Option Int}{Q:Option Int→Shared→Prop}(p:IsPart v o)(h:Q o s):wpAny (model prog w) A (Builtin.Slice.slicePartIndex v) Q E s:=by
  cases p with
  | none=>exact slicePart_none h
  | int i t=>exact slicePart_int h
theorem lY {sl:Addr}{vl vu:Value}{lo hi:Option Int}{n:Nat}{Q:Int × Int × Nat→Shared→Prop}(hs:s.heap.IsSliceOf sl vl vu .none)(pl:IsPart vl lo)(pu:IsPart vu hi)
    (h:Q (((sIx n 0 lo:Nat):Int),1,sIx n n hi - sIx n 0 lo) s):wpAny (model prog w) A (Builtin.Slice.sliceApplied (.ref sl) (pure (n:Int))) Q E s:=by
  obtain⟨os,hos,hcs,hds⟩:=id hs
  unfold Builtin.Slice.sliceApplied Builtin.Slice.sliceFields
  refine wpAny_bind (wpAny_bind (wpAny_field hos hds (x:=vl) rfl (wpAny_bind (wpAny_field hos hds (x:=vu) rfl (wpAny_bind (wpAny_field hos hds (x:=.none) rfl (wpAny_pure ?_)))))))
  refine wpAny_bind (slicePart_none ?_)
  show wpAny _ _ (if ((1:Int) == 0)=true then _ else _) _ _ s
  rw [if_neg (by decide)]
  refine wpAny_bind (oj pl (wpAny_bind (oj pu (wpAny_bind (wpAny_pure ?_)))))
  show wpAny _ _ (match Builtin.Slice.sliceAdjust lo hi 1 (n:Int) with|(lo,hi)=>pure (lo,(1:Int),Builtin.Slice.slicePlaces lo hi 1)) _ _ s
  rw [yK lo hi n]
  show wpAny _ _ (pure (((sIx n 0 lo:Nat):Int),(1:Int),Builtin.Slice.slicePlaces ((sIx n 0 lo:Nat):Int) ((sIx n n hi:Nat):Int) 1)) _ _ s
  rw [yL]
  exact wpAny_pure h
theorem Dg (xs:Array Value)(i k:Nat):((List.range k).filterMap fun (m:Nat)=>xs[((i:Int) + (m:Int) * 1).toNat]?).toArray=((xs.toList.drop i).take k).toArray:=by
  have e:(fun (m:Nat)=>xs[((i:Int) + (m:Int) * 1).toNat]?)=fun m=>xs[i + m]? := by
    funext m
    have:((i:Int) + (m:Int) * 1).toNat=i + m:=by omega
    rw [this]
  rw [e]
  have:=pick_run xs i k
  rw [List.filterMap_map] at this
  have e2:((fun x=>xs[x]?) ∘ fun x=>i + x)=fun m=>xs[i + m]? := rfl
  rw [e2] at this
  rw [this]
theorem getItem_tuple_cut {t sl:Addr}{items:Array Value}{vl vu:Value}{lo hi:Option Int}{Q:Value→Shared→Prop}(ht:IsTup s.heap t items)(hs:s.heap.IsSliceOf sl vl vu .none)(pl:IsPart vl lo)(pu:IsPart vu hi)
    (hw : ¬ (sIx items.size 0 lo=0∧sIx items.size items.size hi=items.size))
    (h:Q (.ref s.heap.objs.size) { s with heap:=s.heap.push { cls:=.type "tuple",data:=.seq ((items.toList.drop (sIx items.size 0 lo)).take (sIx items.size items.size hi - sIx items.size 0 lo)).toArray } })
    (hsz:items.size≤sizeLine):wpAny (model prog w) A (getItem (.ref t) (.ref sl)) Q E s:=by
  have htake:sizeOk (.seq ((items.toList.drop (sIx items.size 0 lo)).take (sIx items.size items.size hi - sIx items.size 0 lo)).toArray):=by
    show ((items.toList.drop (sIx items.size 0 lo)).take (sIx items.size items.size hi - sIx items.size 0 lo)).toArray.size≤sizeLine
    rw [List.size_toArray,List.length_take,List.length_drop,Array.length_toList]
    omega
  have hj:sIx items.size items.size hi≤items.size:=Hg _ _ (Nat.le_refl _) hi
  obtain⟨os,hos,hcs,hds⟩:=id hs
  have hTs:s.TypeIs (.ref sl) "slice" := ⟨os,hos,hcs⟩
  unfold getItem
  try with_reducible refine wpAny_holding ?_
  first|refine wpAny_bind (wpAny_pure ?_)|skip
  refine wpAny_bind (wpAny_sequenceKey ht.typeIs (by decide) ?_)
  refine wpAny_bind (wpAny_callSpecial?_slot (name:=Str.ofString "__getitem__") ht.typeIs PyProof.Rows.slot_tuple_getitem
    (wpAny_call_entry PyProof.Rows.slot_tuple_getitem ht.typeIs entry_tuple_getitem ?_ (args_tuple_getitem _ _)))
  show wpAny _ _ (Builtin.Tuple.tupleItemsOf (.ref t) >>= _) _ _ s
  refine wpAny_bind (tupleItemsOf_ ht ?_)
  refine wpAny_bind (wpAny_typeOf hTs ?_)
  rw [if_pos (by decide)]
  refine wpAny_bind (lY hs pl pu ?_)
  have hno : ¬ ((((sIx items.size 0 lo:Nat):Int) == 0 && (1:Int) == 1 && (sIx items.size items.size hi - sIx items.size 0 lo) == items.size)=true):=by
    intro q
    rw [Bool.and_eq_true,Bool.and_eq_true] at q
    have q1:((sIx items.size 0 lo:Nat):Int)=0:=eq_of_beq q.1.1
    have q2:sIx items.size items.size hi - sIx items.size 0 lo=items.size:=eq_of_beq q.2
    exact hw ⟨by omega,by omega⟩
  show wpAny _ _ (if (((sIx items.size 0 lo:Nat):Int) == 0 && (1:Int) == 1 && (sIx items.size items.size hi - sIx items.size 0 lo) == items.size)=true then _ else _) _ _ s
  rw [if_neg hno,Dg]
  first
    | exact wpAny_bind (m:=Builtin.Tuple.tupleExact _) (wpAny_newObj_type (wpAny_pure ⟨_,rfl,wpAny_pure h⟩) htake)
    | exact wpAny_bind (m:=Builtin.Tuple.tupleExact _) (wpAny_newObj_type (wpAny_bind (wpAny_pure (wpAny_pure ⟨_,rfl,wpAny_pure h⟩))) htake)
    | exact wpAny_bind (wpAny_bind (m:=Builtin.Tuple.tupleExact _) (wpAny_newObj_type (wpAny_pure (wpAny_pure ⟨_,rfl,wpAny_pure h⟩)) htake))
    | exact wpAny_bind (wpAny_bind (m:=Builtin.Tuple.tupleExact _) (wpAny_newObj_type (wpAny_pure ⟨_,rfl,wpAny_pure h⟩) htake))
end
end HT
namespace L2
open PySem PySem.Spec PyProof.Rows
abbrev TO:=St→Hp→(Option Int→Hp→Prop)→Prop
def PO (X:Cx) (e:Option Expr) (t:TO):Prop :=
  ∀ (pins:List (Addr × Obj)) (s:Shared) (σ:St) (H:Hp) (Q:Option Int→Hp→Prop),Inv X pins σ H s→t σ H Q →
    wpAny (model X.prog X.w) X.A (evalPart e X.env) (fun u s'=>∃ o H',Inv X pins σ H' s'∧IsPart u o∧Q o H') X.xe s
def Fp:TO:=fun _ H Q=>Q none H
def Jf (t:TE):TO:=fun σ H Q=>t σ H fun x H1=>∃ i,x=.int i∧Q (some i) H1
theorem yM {ns:List Int}:∀ {us:List Value},aI (ns.map V.int) us→IntsAre us ns:=by
  induction ns with
  | nil=>intro us r;rw [List.map_nil] at r;cases r;exact .nil
  | cons n ns ih =>
    intro us r
    rw [List.map_cons] at r
    cases r with
    | cons r1 r2 =>
      obtain⟨t,e⟩:=r1
      subst e
      exact .cons n t (ih r2)
section
variable {X:Cx} {e:Expr} {te:TE} {lo hi:Option Expr} {tl th:TO} {pos p2:Pos}
theorem Fq:PO X none Fp:=by
  intro pins s σ H Q I h
  rw [evalPart_none]
  exact wpAny_pure ⟨none,H,I,.none,h⟩
theorem Fs (h:PE X e te):PO X (some e) (Jf te):=by
  intro pins s σ H Q I hw
  rw [evalPart_some]
  refine thn (h pins s σ H _ I hw) fun u s1 ⟨x,H1,I1,r1,q1⟩ => ?_
  obtain⟨i,rfl,q⟩:=q1
  obtain⟨t,rfl⟩:=r1
  exact⟨some i,H1,I1,.int i t,q⟩
def SlR (X:Cx) (r:V→Option Int→Option Int→Hp→VK→Prop):Prop :=
  ∀ (pins:List (Addr × Obj)) (s:Shared) (σ:St) (H:Hp) (x:V) (v vl vu:Value) (lo hi:Option Int) (sl:Addr) (Q:VK),Inv X pins σ H s→bj x v→s.heap.IsSliceOf sl vl vu .none→IsPart vl lo→IsPart vu hi→r x lo hi H Q →
    ∃ T id,typeLookup (.type T) "__getitem__" = pure (some (.builtin id))∧s.TypeIs v T∧wpAny (model X.prog X.w) X.A (getItem v (.ref sl)) (EP X pins σ Q) X.xe s
theorem SlR.or {r r':V→Option Int→Option Int→Hp→VK→Prop}(h:SlR X r)(h':SlR X r'):SlR X (fun x lo hi H Q=>r x lo hi H Q∨r' x lo hi H Q):=by
  intro pins s σ H x v vl vu lo hi sl Q I rx hs pl pu q
  rcases q with q|q
  · exact h pins s σ H x v vl vu lo hi sl Q I rx hs pl pu q
  · exact h' pins s σ H x v vl vu lo hi sl Q I rx hs pl pu q
def tSl (r:V→Option Int→Option Int→Hp→VK→Prop) (te:TE) (tl th:TO):TE:=fun σ H Q=>te σ H fun x H1=>tl σ H1 fun l H2=>th σ H2 fun u H3=>r x l u H3 Q
theorem Dh {r:V→Option Int→Option Int→Hp→VK→Prop}(hr:SlR X r)(he:PE X e te)(hl:PO X lo tl)(hu:PO X hi th):PE X (.Subscript e (.Slice lo hi none p2) pos) (tSl r te tl th):=by
  intro pins s σ H Q I h
  refine Subscript_ (thn (he pins s σ H _ I h) fun v s1 ⟨x,H1,I1,r1,q1⟩ => ?_)
  refine wpAny_Slice (thn (hl pins s1 σ H1 _ I1 q1) fun vl s2 ⟨l,H2,I2,pl,q2⟩=>thn (hu pins s2 σ H2 _ I2 q2) fun vu s3 ⟨u,H3,I3,pu,q3⟩ => ?_)
  rw [evalPart_none]
  refine wpAny_pure ?_
  have I4:Inv X pins σ H3 { s3 with heap:=s3.heap.push { cls:=.type "slice",data:=.fields #[vl,vu,.none] } }:=I3.kept (t':=s3.toks) fun b ob q=>Heap.get?_push_of_some _ q
  obtain⟨T,id,hT,ht,hg⟩:=hr pins { s3 with heap:=s3.heap.push { cls:=.type "slice",data:=.fields #[vl,vu,.none] } } σ H3 x v vl vu l u s3.heap.objs.size Q I4 r1 (Heap.IsSliceOf.new ..) pl pu q3
  show wpAny (model X.prog X.w) X.A (subscriptTail e (.Slice lo hi none p2) v (.ref s3.heap.objs.size)) (EP X pins σ Q) X.xe { s3 with heap:=s3.heap.push { cls:=.type "slice",data:=.fields #[vl,vu,.none] } }
  exact tail_any (ops:=[.ref s3.heap.objs.size,v]) ht hT hg (by with_unfolding_all rfl)
def ol (xs:List V) (lo hi:Option Int):List V:=(xs.drop (HT.sIx xs.length 0 lo)).take (HT.sIx xs.length xs.length hi - HT.sIx xs.length 0 lo)
theorem mS (xs:List V)(lo hi:Option Int):(ol xs lo hi).length≤xs.length:=by
  unfold ol
  rw [List.length_take,List.length_drop]
  omega
def Kl (K:PySem.W.Frag):V→Option Int→Option Int→Hp→VK→Prop:=fun x lo hi H Q=>∃ a xs,x=.ref a∧SqT K H a xs ∧
  ¬ (HT.sIx xs.length 0 lo=0∧HT.sIx xs.length xs.length hi=xs.length) ∧ ∀ p,H p=none→Q (.ref p) (upd H p (.tup (ol xs lo hi)))
theorem Hh:SlR X (Kl X.K):=by
  intro pins s σ H x v vl vu lo hi sl Q I rx hs pl pu h
  obtain⟨a,xs,rfl,hx,hw,q⟩:=h
  cases rx
  obtain⟨its,r,ht,hz⟩:=I.tuple hx
  have hlen:its.toArray.size=xs.length:=by rw [List.size_toArray];exact r.length.symm
  refine⟨"tuple",_,PyProof.Rows.slot_tuple_getitem.lookup,ht.typeIs,?_⟩
  refine HT.getItem_tuple_cut ht hs pl pu (by rw [hlen];exact hw) ?_ (by rw [hlen];exact hz)
  rw [hlen]
  refine⟨.ref s.heap.objs.size,_,I.laid (t':=s.toks) (o:=.tup (ol xs lo hi)) (fun b ob q=>Heap.get?_push_of_some _ q) (Nat.le_refl _) ?_,rfl,q _ (I.hok.fresh (Nat.le_refl _))⟩
  exact⟨Nat.le_trans (mS xs lo hi) hz,_,(r.drop (HT.sIx xs.length 0 lo)).take (HT.sIx xs.length xs.length hi - HT.sIx xs.length 0 lo),IsTup.new _ _⟩
def wC (K:PySem.W.Frag):R2:=fun x y H Q=>∃ a b xs ys,x=.ref a∧y=.ref b∧SqT K H a xs∧SqT K H b ys∧xs≠[]∧xs.length + ys.length≤sizeLine ∧
  (ys=[]→Q (.ref a) H)∧(ys≠[] → ∀ p,H p=none→Q (.ref p) (upd H p (.tup (xs++ys))))
theorem aI.nil_iff {xs:List V}{us:List Value}(r:aI xs us):us=[] ↔ xs=[]:=by
  cases r with
  | nil=>simp
  | cons _ _=>simp
theorem Ax:OpR X (binaryOp .Add) (wC X.K):=by
  intro pins s σ H x y v u Q I rx ry h
  obtain⟨a,b,xs,ys,rfl,rfl,ha,hb,hx,hz,q1,q2⟩:=h
  cases rx
  cases ry
  obtain⟨its,r1,p1,_⟩:=I.tuple ha
  obtain⟨its2,r2,p2,_⟩:=I.tuple hb
  refine HT.cat_tup p1 p2 (fun z=>hx (r1.nil_iff.mp z)) (fun z=>⟨.ref a,H,I,rfl,q1 (r2.nil_iff.mp z)⟩) (fun z => ?_) (by rw [← r1.length,← r2.length];exact hz)
  refine⟨.ref s.heap.objs.size,_,I.laid (t':=s.toks) (o:=.tup (xs++ys)) (fun b ob q=>Heap.get?_push_of_some _ q) (Nat.le_refl _) ?_,rfl,q2 (fun w=>z (r2.nil_iff.mpr w)) _ (I.hok.fresh (Nat.le_refl _))⟩
  exact⟨by rw [List.length_append];exact hz,_,r1.append r2,IsTup.new _ _⟩
end
end L2
namespace L2
open PySem PySem.Spec PyProof.Rows
def ixN (n:Nat) (i:Int):Option Nat:=if 0≤i then (if i < n then some i.toNat else none) else if -(n:Int)≤i then some (i + n).toNat else none
def atI {α : Type} (xs:List α) (i:Int):Option α := (ixN xs.length i).bind fun j=>xs[j]?
theorem Ay {n:Nat}{i:Int}{j:Nat}(h:ixN n i=some j):seqIndex? i n=some j∧j < n ∧ -(n:Int)≤i∧i < n:=by
  unfold ixN at h
  by_cases h0:0≤i
  · rw [if_pos h0] at h
    by_cases h1:i < n
    · rw [if_pos h1] at h
      have e:i.toNat=j:=Option.some.inj h
      exact⟨by rw [seqIndex_of h0 h1,e],by omega,by omega,h1⟩
    · rw [if_neg h1] at h;cases h
  · rw [if_neg h0] at h
    by_cases h1 : -(n:Int)≤i
    · rw [if_pos h1] at h
      have e:(i + n).toNat=j:=Option.some.inj h
      exact⟨by rw [seqIndex_neg (by omega) h1,e],by omega,h1,by omega⟩
    · rw [if_neg h1] at h;cases h
theorem uh {α : Type}{xs:List α}{i:Int}{v : α}(h:atI xs i=some v):∃ j,seqIndex? i xs.length=some j∧xs[j]? = some v∧j < xs.length ∧ -(xs.length:Int)≤i∧i < xs.length:=by
  unfold atI at h
  cases e:ixN xs.length i with
  | none=>rw [e] at h;cases h
  | some j =>
    rw [e] at h
    obtain⟨h1,h2,h3,h4⟩:=Ay e
    exact⟨j,h1,h,h2,h3,h4⟩
theorem kN {α : Type}{xs:List α}{j:Nat}{v : α}(h:xs[j]? = some v):atI xs (j:Int)=some v:=by
  have hj:j < xs.length:=(List.getElem?_eq_some_iff.mp h).1
  have e:ixN xs.length (j:Int)=some j:=by
    unfold ixN
    rw [if_pos (by omega),if_pos (by omega)];simp
  unfold atI;rw [e];exact h
def ui (b:Expr):Prop:=∀ o i,subscripted b false o i=operate [o,i] (getItem o i)
def IxR (X:Cx) (r:R2):Prop :=
  ∀ (value slice:Expr) (pins:List (Addr × Obj)) (s:Shared) (σ:St) (H:Hp) (x y:V) (v u:Value) (Q:VK),Inv X pins σ H s→bj x v→bj y u→r x y H Q →
    subscripted slice false v u=operate [v,u] (getItem v u)→wpAny (model X.prog X.w) X.A (subscriptTail value slice v u) (EP X pins σ Q) X.xe s
def MtR (X:Cx) (id:String) (r:V→List V→Hp→VK→Prop):Prop :=
  ∀ (pins:List (Addr × Obj)) (s:Shared) (σ:St) (H:Hp) (x:V) (xs:List V) (v:Value) (us:List Value) (Q:VK),Inv X pins σ H s→bj x v→aI xs us→r x xs H Q →
    wpAny (model X.prog X.w) X.A (call (.builtin id) (v :: us)) (EP X pins σ Q) X.xe s
section
variable {X:Cx} {a b:Expr} {ta tb:TE} {pos:Pos}
theorem IxR.or {r r':R2}(h:IxR X r)(h':IxR X r'):IxR X (fun x y H Q=>r x y H Q∨r' x y H Q):=by
  intro value slice pins s σ H x y v u Q I rx ry q hs
  rcases q with q|q
  · exact h value slice pins s σ H x y v u Q I rx ry q hs
  · exact h' value slice pins s σ H x y v u Q I rx ry q hs
theorem Gw {r:R2}(hr:IxR X r)(ha:PE X a ta)(hb:PE X b tb)(hs:ui b):PE X (.Subscript a b pos) (tOp r ta tb):=by
  intro pins s σ H Q I h
  exact Subscript_ (G8 ha hb I h fun v u s2 x y H2 I2 rx ry q=>hr a b pins s2 σ H2 x y v u Q I2 rx ry q (hs _ _))
def Jg (K:PySem.W.Frag):R2:=fun x y H Q=>∃ p xs i v,x=.ref p∧y=.int i∧SqL K H p xs∧atI xs i=some v∧Q v H
def Jh (K:PySem.W.Frag):R2:=fun x y H Q=>∃ p xs i v,x=.ref p∧y=.int i∧SqT K H p xs∧atI xs i=some v∧Q v H
def Ji:R2:=fun x y H Q=>∃ z i c,x=.str z∧y=.int i∧z.length≤sizeLine∧atI z.cps.toList i=some c∧Q (.str ⟨#[c]⟩) H
theorem Az:IxR X (Jg X.K):=by
  intro value slice pins s σ H x y v u Q I rx ry h hs
  obtain⟨p,xs,i,z,rfl,rfl,hq,he,q⟩:=h
  cases rx
  obtain⟨t,rfl⟩:=ry
  obtain⟨its,r,pl,hz⟩:=I.list hq
  obtain⟨j,h1,h2,h3,h4,h5⟩:=uh he
  obtain⟨w,ew,rw'⟩:=r.get h2
  have hl:=r.length
  have hn:=og
  have fin:EP X pins σ Q w s:=⟨z,H,I,rw',q⟩
  by_cases h0:0≤i
  · have hj:i.toNat=j:=by
      rw [seqIndex_of h0 h5] at h1
      exact Option.some.inj h1
    exact item_listR pl.isList h0 (by omega) (by rw [hj];simpa using ew) fin hs
  · have hj:(i + (its.toArray.size:Int)).toNat=j:=by
      rw [seqIndex_neg (by omega) h4] at h1
      rw [List.size_toArray,← hl]
      exact Option.some.inj h1
    exact subscriptTail_builtinR (x:=w) pl.isList.typeIs slot_list_getitem.lookup
      (wpAny_getItem_list_neg (Q:=fun r s'=>r=w∧EP X pins σ Q r s') pl.isList (by omega) (by rw [List.size_toArray]<;>omega) (by omega) (by rw [hj];simpa using ew) ⟨rfl,fin⟩) hs
theorem Hi:IxR X (Jh X.K):=by
  intro value slice pins s σ H x y v u Q I rx ry h hs
  obtain⟨p,xs,i,z,rfl,rfl,hq,he,q⟩:=h
  cases rx
  obtain⟨t,rfl⟩:=ry
  obtain⟨its,r,pl,hz⟩:=I.tuple hq
  obtain⟨j,h1,h2,h3,h4,h5⟩:=uh he
  obtain⟨w,ew,rw'⟩:=r.get h2
  have hl:=r.length
  have hn:=og
  have fin:EP X pins σ Q w s:=⟨z,H,I,rw',q⟩
  exact subscriptTail_builtinR (x:=w) pl.typeIs slot_tuple_getitem.lookup
    (getItem_tuple (j:=j) (Q:=fun r s'=>r=w∧EP X pins σ Q r s') pl (by omega) (by omega) (by rw [List.size_toArray,← hl];exact h1) (by simpa using ew) ⟨rfl,fin⟩) hs
theorem Hj:IxR X Ji:=by
  intro value slice pins s σ H x y v u Q I rx ry h hs
  obtain⟨z,i,c,rfl,rfl,hz,he,q⟩:=h
  obtain⟨t,rfl⟩:=rx
  obtain⟨t',rfl⟩:=ry
  obtain⟨j,h1,h2,h3,h4,h5⟩:=uh he
  have hl:z.cps.toList.length=z.length:=by simp [Str.length]
  rw [hl] at h1 h4 h5
  have hn:=og
  exact tail_any (typeIs_str s z t) slot_str_getitem.lookup (getItem_str (c:=c) (by
    have e1:decide (i < -(2 ^ 63:Int))=false:=decide_eq_false (by omega)
    have e2:decide (i ≥ 2 ^ 63)=false:=decide_eq_false (by omega)
    rw [e1,e2,Bool.or_false]) (by rw [h1];simpa using h2) ⟨.str ⟨#[c]⟩,H,I.tok _,⟨_,rfl⟩,q⟩) hs
def rIx (K:PySem.W.Frag):R2:=fun x y H Q=>Jg K x y H Q∨Jh K x y H Q∨Ji x y H Q
theorem Hk:IxR X (rIx X.K):=Az.or (Hi.or Hj)
theorem yN (its:List Value) (n j:Nat) (u:Value):Obj.mapSeq (·.setIfInBounds j u) { cls:=.type "list",data:=.seq its.toArray n } = { cls:=.type "list",data:=.seq (its.set j u).toArray n }:=by
  simp [Obj.mapSeq]
theorem Inv.lst {pins:List (Addr × Obj)}{σ:St}{H:Hp}{s:Shared}{p:Addr}{xs:List V}(I:Inv X pins σ H s)(h:H p=some (.lst xs)) :
    ∃ (its:List Value) (n:Nat),aI xs its∧s.heap.get? p=some { cls:=.type "list",data:=.seq its.toArray n } ∧ xs.length≤sizeLine:=by
  obtain⟨z,its,n,r,e⟩:=I.hok p _ h
  exact⟨its,n,r,e,z⟩
theorem Inv.lstUpd {pins:List (Addr × Obj)}{σ:St}{H:Hp}{s:Shared}{p:Addr}{xs ys:List V}{its its':List Value}{n n':Nat}{f:Obj→Obj}(I:Inv X pins σ H s)(h:H p=some (.lst xs))
    (ho:s.heap.get? p=some { cls:=.type "list",data:=.seq its.toArray n }) (hf:f { cls:=.type "list",data:=.seq its.toArray n } = { cls:=.type "list",data:=.seq its'.toArray n' }) (r:aI ys its') (hz:ys.length≤sizeLine) (t:Nat) :
    Inv X pins σ (upd H p (.lst ys)) { s with heap:=s.heap.update p f,toks:=t }:=by
  have e:(s.heap.update p f).get? p=some { cls:=.type "list",data:=.seq its'.toArray n' }:=by
    rw [Heap.get?_update_self f ho (by rw [hf]<;>rfl),hf]
  refine I.write (x:=p) (e:=p) (by rw [h];trivial) (.inl rfl) (fun b u hb q=>(Heap.get?_update_other _ _ (Ne.symm hb)).trans q) ⟨_,e⟩ ?_
  exact⟨hz,its',n',r,e⟩
def Jj:V→V→V→Hp→(Hp→Prop)→Prop:=fun o i v H Q=>∃ p xs k j,o=.ref p∧i=.int k∧H p=some (.lst xs)∧ixN xs.length k=some j∧Q (upd H p (.lst (xs.set j v)))
theorem Di:G5 X Jj:=by
  intro pins s σ H o i v ov iv u Q I ro ri rv h
  obtain⟨p,xs,k,j,rfl,rfl,hp,hj,q⟩:=h
  cases ro
  obtain⟨t,rfl⟩:=ri
  obtain⟨its,n,r,ho,hz⟩:=I.lst hp
  obtain⟨h1,h2,h3,h4⟩:=Ay hj
  have hl:=r.length
  have hn:=og
  have I':Inv X pins σ (upd H p (.lst (xs.set j v))) { s with heap:=s.heap.update p (Obj.mapSeq (·.setIfInBounds j u)) } :=
    I.lstUpd hp ho (yN its n j u) (r.set rv j) (by rw [List.length_set];exact hz) s.toks
  by_cases h0:0≤k
  · have hk:k.toNat=j:=by
      rw [seqIndex_of h0 h4] at h1
      exact Option.some.inj h1
    exact PySem.W.ki_setAt ho h0 (by omega) (by rw [List.size_toArray,← hl];exact h4) (by rw [hk];exact⟨_,I',q⟩)
  · have hk:(k + (its.toArray.size:Int)).toNat=j:=by
      rw [seqIndex_neg (by omega) h3] at h1
      rw [List.size_toArray,← hl]
      exact Option.some.inj h1
    exact PySem.W.ki_setBack ho (by omega) (by rw [List.size_toArray,← hl];exact h3) (by omega) (by rw [hk];exact⟨_,I',q⟩)
theorem uj (lo hi:Option Int)(n:Nat):(sliceBounds lo hi none n).1=((HT.sIx n 0 lo:Nat):Int)∧(sliceBounds lo hi none n).2.1=((HT.sIx n n hi:Nat):Int)∧(sliceBounds lo hi none n).2.2=1:=by
  refine⟨?_,?_,rfl⟩
  · cases lo with
    | none=>simp [sliceBounds,HT.sIx]
    | some i =>
      simp only [sliceBounds,HT.sIx,Option.getD_none,show (1:Int) > 0 by decide,if_true]
      by_cases h:i < 0
      · simp only [h,if_true]<;>omega
      · simp only [h,if_false]<;>omega
  · cases hi with
    | none=>simp [sliceBounds,HT.sIx]
    | some i =>
      simp only [sliceBounds,HT.sIx,Option.getD_none,show (1:Int) > 0 by decide,if_true]
      by_cases h:i < 0
      · simp only [h,if_true]<;>omega
      · simp only [h,if_false]<;>omega
theorem pX (its:List Value)(lo hi:Option Int):slicePick its.toArray lo hi none=((its.drop (HT.sIx its.length 0 lo)).take (HT.sIx its.length its.length hi - HT.sIx its.length 0 lo)).toArray:=by
  obtain⟨h1,h2,h3⟩:=uj lo hi its.toArray.size
  unfold slicePick
  rw [h1,h2,h3]
  simp only [sliceRange_one,pick_run,List.size_toArray]<;>rfl
def Jk (K:PySem.W.Frag):V→Option Int→Option Int→Hp→VK→Prop:=fun x lo hi H Q=>∃ a xs,x=.ref a∧SqL K H a xs ∧ ∀ p,H p=none→Q (.ref p) (upd H p (.lst (ol xs lo hi)))
theorem Ft:SlR X (Jk X.K):=by
  intro pins s σ H x v vl vu lo hi sl Q I rx hs pl pu h
  obtain⟨a,xs,rfl,hx,q⟩:=h
  cases rx
  obtain⟨its,r,ht,hz⟩:=I.list hx
  have hlen:=r.length
  refine⟨"list",_,slot_list_getitem.lookup,ht.isList.typeIs,?_⟩
  refine wpAny_getItem_list_slice ht.isList hs pl pu .none (by simp) ?_ (by rw [List.size_toArray]<;>omega)
  rw [pX,← hlen]
  refine⟨.ref s.heap.objs.size,_,I.laid (t':=s.toks) (o:=.lst (ol xs lo hi)) (fun b ob q=>Heap.get?_push_of_some _ q) (Nat.le_refl _) ?_,rfl,q _ (I.hok.fresh (Nat.le_refl _))⟩
  exact⟨Nat.le_trans (mS xs lo hi) hz,_,0,(r.drop (HT.sIx xs.length 0 lo)).take (HT.sIx xs.length xs.length hi - HT.sIx xs.length 0 lo),Heap.get?_push_size _ rfl⟩
theorem uk:eP X (.builtin "len") (fun xs H Q=>∃ p ys,xs=[.ref p]∧(SqL X.K H p ys∨SqT X.K H p ys)∧Q (.int ys.length) H):=by
  intro pins s σ H xs us Q I r h
  obtain⟨p,ys,rfl,hq,q⟩:=h
  obtain⟨u,rfl,rx⟩:=wA r
  cases rx
  have hn:=og
  rcases hq with hq|hq
  · obtain⟨its,r',pl,hz⟩:=I.list hq
    have hlen:=r'.length
    exact Calls.call_len_list pl.isList (by simp only [List.size_toArray]<;>omega) ⟨.int ys.length,H,I.tok _,⟨s.toks + 1,by rw [List.size_toArray,hlen]⟩,q⟩
  · obtain⟨its,r',pl,hz⟩:=I.tuple hq
    have hlen:=r'.length
    exact len_tuple pl (by simp only [List.size_toArray]<;>omega) ⟨.int ys.length,H,I.tok _,⟨s.toks + 1,by rw [List.size_toArray,hlen]⟩,q⟩
theorem ul:eP X (.type "list") (fun xs H Q=>∃ p ys,xs=[.ref p]∧(SqL X.K H p ys∨SqT X.K H p ys) ∧ ∀ l,H l=none→Q (.ref l) (upd H l (.lst ys))):=by
  intro pins s σ H xs us Q I r h
  obtain⟨p,ys,rfl,hq,q⟩:=h
  obtain⟨u,rfl,rx⟩:=wA r
  cases rx
  have fin:∀ (its:List Value),aI ys its→ys.length≤sizeLine → ∀ (h':Heap) (c':Nat),(∀ b o',s.heap.get? b=some o'→h'.get? b=some o') →
      h'.get? s.heap.objs.size=some { cls:=.type "list",dict:=none,data:=.seq its.toArray c',slots := #[] } → EP X pins σ Q (.ref s.heap.objs.size) { s with heap:=h' }:=fun its r' hz h' c' kp e =>
    ⟨.ref s.heap.objs.size,_,I.laid (t':=s.toks) kp (Nat.le_refl _) (show dl X.prog X.w _ h' _ (.lst ys) from ⟨hz,its,c',r',e⟩),rfl,q _ (I.hok.fresh (Nat.le_refl _))⟩
  rcases hq with hq|hq
  · obtain⟨its,r',pl,hz⟩:=I.list hq
    have hlen:=r'.length
    obtain⟨o,ho,hc,n,hd⟩:=pl.isList
    exact call_list_seq p (.inl rfl) ho hc hd (fun h' c' kp e=>fin its r' hz h' c' kp e) (by simp only [List.size_toArray]<;>omega)
  · obtain⟨its,r',pl,hz⟩:=I.tuple hq
    have hlen:=r'.length
    obtain⟨o,ho,hc,n,hd⟩:=pl
    exact call_list_seq p (.inr rfl) ho hc hd (fun h' c' kp e=>fin its r' hz h' c' kp e) (by simp only [List.size_toArray]<;>omega)
theorem pY:eP X (.type "tuple") (fun xs H Q=>∃ p ys,xs=[.ref p]∧((SqL X.K H p ys ∧ ∀ l,H l=none→Q (.ref l) (upd H l (.tup ys)))∨(SqT X.K H p ys∧Q (.ref p) H))):=by
  intro pins s σ H xs us Q I r h
  obtain⟨p,ys,rfl,h⟩:=h
  obtain⟨u,rfl,rx⟩:=wA r
  cases rx
  rcases h with ⟨hq,q⟩|⟨hq,q⟩
  · obtain⟨its,r',pl,hz⟩:=I.list hq
    have hlen:=r'.length
    refine call_tuple_list pl.isList (fun h' kp => ?_) (by simp only [List.size_toArray]<;>omega)
    have I1:Inv X pins σ H { s with heap:=h' }:=I.kept (t':=s.toks) kp
    have I2:Inv X pins σ (upd H h'.objs.size (.tup ys)) { s with heap:=h'.push { cls:=.type "tuple",data:=.seq its.toArray } } :=
      I1.laid (t':=s.toks) (fun b o e=>Heap.get?_push_of_some _ e) (Nat.le_refl _) (show dl X.prog X.w _ _ _ (.tup ys) from ⟨hz,its,r',IsTup.new _ _⟩)
    exact⟨.ref h'.objs.size,_,I2,rfl,q _ (I1.hok.fresh (Nat.le_refl _))⟩
  · obtain⟨its,r',pl,hz⟩:=I.tuple hq
    exact call_tuple_same pl ⟨.ref p,H,I,rfl,q⟩
def tyV (K:PySem.W.Frag) (T:String) (x:V) (H:Hp):Prop:=match x with
  | .str _=>T = "str"
  | .int _=>T = "int"
  | .ref p=>(T = "list" ∧ ∃ xs,SqL K H p xs)∨(T = "tuple" ∧ ∃ o,K.lookup p=some o∧o.cls=.type "tuple" ∧ o.dict=none) ∨
      (T = "dict" ∧ ((∃ kvs,H p=some (.dK kvs)) ∨ ∃ kvs,H p=some (.dT kvs)))∨(T = "set" ∧ ∃ S n,H p=some (.set S n))
  | _=>False
theorem Hl {pins:List (Addr × Obj)}{σ:St}{H:Hp}{s:Shared}{T:String}{x:V}{v:Value}(I:Inv X pins σ H s)(r:bj x v)(ty:tyV X.K T x H) :
    s.TypeIs v T ∧ ∀ a,v=.ref a → ∃ ob,s.heap.get? a=some ob∧ob.dict=none:=by
  cases x with
  | str z =>
    obtain⟨t,rfl⟩:=r
    cases (show T = "str" from ty)
    exact⟨typeIs_str s z t,fun _ e=>nomatch e⟩
  | int i =>
    obtain⟨t,rfl⟩:=r
    cases (show T = "int" from ty)
    exact⟨typeIs_int s i t,fun _ e=>nomatch e⟩
  | ref p =>
    cases r
    rcases ty with ⟨rfl,xs,hq⟩|⟨rfl,o,hk,hc,hd⟩|⟨rfl,hk⟩|⟨rfl,S,n,hk⟩
    · obtain⟨its,_,pl,_⟩:=I.list hq
      refine⟨pl.isList.typeIs,fun a e => ?_⟩
      cases e
      obtain⟨o,n,e,c,hd,_⟩:=pl
      exact⟨o,e,hd⟩
    · refine⟨⟨o,I.kIn p o hk,hc⟩,fun a e => ?_⟩
      cases e
      exact⟨o,I.kIn _ o hk,hd⟩
    · have z:∃ o,s.heap.get? p=some o∧o.ExactDict:=by
        rcases hk with ⟨kvs,hk⟩|⟨kvs,hk⟩
        · obtain⟨_,_,_,_,o,_,_,e,ex,_⟩:=I.hok p _ hk
          exact⟨o,e,ex⟩
        · obtain⟨_,_,_,_,o,_,_,e,ex,_⟩:=I.hok p _ hk
          exact⟨o,e,ex⟩
      obtain⟨o,e,ex⟩:=z
      refine⟨⟨o,e,ex.1⟩,fun a e2 => ?_⟩
      cases e2
      exact⟨o,e,ex.2.1⟩
    · obtain⟨o,_,_,_,e,ex,_⟩:=I.hok p _ hk
      refine⟨⟨o,e,ex.1⟩,fun a e2 => ?_⟩
      cases e2
      exact⟨o,e,ex.2.1⟩
  | _=>exact False.elim ty
def tBM (K:PySem.W.Frag) (T:String) (r:V→List V→Hp→VK→Prop) (to:TE) (t:TA):TE:=fun σ H Q=>to σ H fun x H1=>tyV K T x H1∧t σ H1 fun xs H2=>r x xs H2 Q
variable {o e:Expr} {es:List Expr} {to:TE} {t:TA} {name:Str} {apos cpos:Pos} {T id:String} {r:V→List V→Hp→VK→Prop}
theorem Gx (pa:PlainAttrs T) (slot:Slot T name id) (hty:typeOf (.builtin id)=pure (.type "method_descriptor")) (hm:MtR X id r) (ho:PE X o to) (ha:PA X (e :: es) t)
    (hbase:attributeBase o name X.env (eval o X.env)=eval o X.env:=by rfl)
    (hfew:((backTo cpos (starEach (e :: es) X.env)).all (fun x => !x.1) && (backToKw cpos (keywordEach [] X.env)).all (fun x=>x.1.isSome)
      && decide ((e :: es).length + ([] : List Keyword).length + (if ([] : List Keyword).isEmpty then 0 else 1) < 30))=true:=by rfl)
    (hline:(apos.endLine == cpos.line)=true:=by rfl) (hs:starEach (e :: es) X.env=(false,eval e X.env) :: starEach es X.env:=by rfl) (hplain:(backTo cpos (starEach es X.env)).any (·.1)=false:=by rfl) :
    PE X (.Call (.Attribute o name apos) (e :: es) [] cpos) (tBM X.K T r to t):=by
  intro pins s σ H Q I h
  refine wpAny_Call_method_late hbase hfew hline rfl (thn (ho pins s σ H _ I h) fun v s1 ⟨x,H1,I1,r1,ty,q1⟩ => ?_)
  obtain⟨h1,h2⟩:=Hl I1 r1 ty
  refine⟨T,id,pa,slot,hty,h1,h2,?_⟩
  have hA:=ha cpos pins s1 σ H1 _ I1 q1
  rw [hs] at hA ⊢
  refine Calls.callWith_builtin (by show (false || (backTo cpos (starEach es X.env)).any (·.1))=false;rw [hplain]<;>rfl) (Calls.evalArgs_plain ?_)
  exact thn hA fun us s2 ⟨vs,H2,I2,r2,q2⟩=>hm pins s2 σ H2 x vs v us Q I2 r1 r2 q2
end
end L2
namespace L2
open PySem PySem.Spec PyProof.Rows
def MtM (X:Cx) (id:String) (r:V→List V→Hp→VK→Prop):Prop :=
  ∀ (pins:List (Addr × Obj)) (s:Shared) (σ:St) (H:Hp) (x:V) (xs:List V) (v:Value) (us:List Value) (Q:VK),Inv X pins σ H s→bj x v→aI xs us→r x xs H Q →
    wpAny (model X.prog X.w) X.A (call (.builtin id) (v :: us)) (EP X pins σ Q) X.xe s
theorem aI.one:∀ {x:V} {us:List Value},aI [x] us → ∃ u,us=[u]∧bj x u
  | _,_,.cons r .nil=>⟨_,rfl,r⟩
theorem aI.two:∀ {x y:V} {us:List Value},aI [x,y] us → ∃ u v,us=[u,v]∧bj x u∧bj y v
  | _,_,_,.cons r (.cons q .nil)=>⟨_,_,rfl,r,q⟩
theorem aI.rep {xs:List V}{us:List Value}(h:aI xs us):∀ k:Nat,aI (List.replicate k xs).flatten (List.replicate k us).flatten
  | 0=>.nil
  | k + 1=>by
    rw [List.replicate_succ,List.replicate_succ,List.flatten_cons,List.flatten_cons]
    exact aI.append h (aI.rep h k)
theorem sQ (its:List Value):∀ (k:Nat) (acc:List Value),
    List.foldl (fun x1 x2=>x1++x2) acc.toArray (List.replicate k its.toArray)=(acc++(List.replicate k its).flatten).toArray
  | 0,acc=>by simp
  | k + 1,acc=>by
    have e:acc.toArray++its.toArray=(acc++its).toArray:=by simp
    have e2:(acc++its)++(List.replicate k its).flatten=acc++(List.replicate (k + 1) its).flatten:=by
      rw [List.replicate_succ,List.flatten_cons,List.append_assoc]
    rw [← e2,← sQ its k (acc++its),← e,List.replicate_succ,List.foldl_cons]
section
variable {X:Cx} {pins:List (Addr × Obj)} {σ:St} {H:Hp} {s:Shared} {l b:Addr} {xs ys zs:List V}
theorem Inv.lset {its its':List Value}{n:Nat}{f:Array Value→Array Value}{t':Nat}(I:Inv X pins σ H s)(hH:H l=some (.lst xs))
    (e:s.heap.get? l=some { cls:=.type "list",data:=.seq its.toArray n }) (hf:f its.toArray=its'.toArray) (hv:aI ys its') (hz:ys.length≤sizeLine) :
    Inv X pins σ (upd H l (.lst ys)) { s with heap:=s.heap.update l (Obj.mapSeq f),toks:=t' }:=by
  have q:=PySem.IsL.update e f
  rw [hf] at q
  refine I.write (x:=l) (e:=l) (by rw [hH];exact trivial) (.inl rfl) (fun b' u hb hu=>(Heap.get?_update_other s.heap (Obj.mapSeq f) (Ne.symm hb)).trans hu) ⟨_,q⟩ ?_
  exact⟨hz,its',_,hv,q⟩
theorem Inv.lnew {its:List Value}{t':Nat}(I:Inv X pins σ H s)(hv:aI ys its)(hz:ys.length≤sizeLine) :
    Inv X pins σ (upd H s.heap.objs.size (.lst ys)) { s with heap:=s.heap.push { cls:=.type "list",data:=.seq its.toArray },toks:=t' } :=
  I.laid (fun _ _ q=>Heap.get?_push_of_some _ q) (Nat.le_refl _) ⟨hz,its,0,hv,Heap.get?_push_size _ rfl⟩
theorem Inv.fresh (I:Inv X pins σ H s):H s.heap.objs.size=none:=I.hok.fresh (Nat.le_refl _)
theorem Inv.lstM (I:Inv X pins σ H s) (hH:H l=some (.lst xs)):xs.length≤sizeLine ∧ ∃ (its:List Value) (n:Nat),aI xs its∧xs.length=its.length∧s.heap.get? l=some { cls:=.type "list",data:=.seq its.toArray n }:=by
  obtain⟨z,its,n,r,e⟩:=I.hok l _ hH
  exact⟨z,its,n,r,r.length,e⟩
theorem wD {n:Nat}(h:n≤sizeLine):Builtin.List.listTooLong n=false:=by
  unfold Builtin.List.listTooLong
  exact decide_eq_false (by omega)
end
section
variable {X:Cx}
def Fu:V→List V→Hp→VK→Prop:=fun x vs H Q=>∃ l xs y,x=.ref l∧vs=[y]∧H l=some (.lst xs)∧xs.length < sizeLine∧Q .non (upd H l (.lst (xs++[y])))
theorem lZ:MtM X "list.append" Fu:=by
  intro pins s σ H x vs v us Q I rx rv h
  obtain⟨l,xs,y,rfl,rfl,hH,hz,q⟩:=h
  cases rx
  obtain⟨u,rfl,ru⟩:=rv.one
  obtain⟨z,its,n,r,hl,e⟩:=I.lstM hH
  refine call_meets F.slot_list_append ⟨_,e,rfl⟩ F.entry_list_append (F.args_list_append_2 _ _) (PySem.list_append l its.toArray n u (by rw [List.size_toArray];omega)) ⟨e,?_⟩
  refine⟨.non,_,I.lset (its':=its++[u]) hH e (by simp) (r.append (.cons ru .nil)) ?_,rfl,q⟩
  rw [List.length_append,List.length_singleton]
  omega
def Fv:V→List V→Hp→VK→Prop:=fun x vs H Q=>∃ l b xs zs,x=.ref l∧vs=[.ref b]∧H l=some (.lst xs)∧H b=some (.lst zs)∧xs.length + zs.length≤sizeLine∧Q .non (upd H l (.lst (xs++zs)))
theorem BB:MtM X "list.extend" Fv:=by
  intro pins s σ H x vs v us Q I rx rv h
  obtain⟨l,b,xs,zs,rfl,rfl,hH,hB,hz,q⟩:=h
  cases rx
  obtain⟨u,rfl,ru⟩:=rv.one
  cases ru
  obtain⟨z,its,n,r,hl,e⟩:=I.lstM hH
  obtain⟨z2,its2,n2,r2,hl2,e2⟩:=I.lstM hB
  have hsz:its.toArray.size + its2.toArray.size≤sizeLine:=by rw [List.size_toArray,List.size_toArray];omega
  have hlong : ¬ (!its.toArray.isEmpty && Builtin.List.listTooLong (its.toArray.size + its2.toArray.size))=true:=by
    rw [wD hsz,Bool.and_false]
    exact Bool.false_ne_true
  refine call_meets F.slot_list_extend ⟨_,e,rfl⟩ F.entry_list_extend (F.args_list_extend_2 _ _)
    (AutoSeq1.list_extend_list_list_0 l its.toArray n b its2.toArray n2 hlong (by rw [List.size_toArray];omega) (by omega)) ⟨e,e2,?_⟩
  refine⟨.non,_,I.lset (its':=its++its2) hH e (by simp) (r.append r2) ?_,rfl,q⟩
  rw [List.length_append]
  omega
def Km:R2:=fun x y H Q=>∃ l b xs zs,x=.ref l∧y=.ref b∧H l=some (.lst xs)∧H b=some (.lst zs)∧xs.length + zs.length≤sizeLine ∧ ∀ p,H p=none→Q (.ref p) (upd H p (.lst (xs++zs)))
theorem Hm:OpR X (binaryOp .Add) Km:=by
  intro pins s σ H x y v u Q I rx ry h
  obtain⟨l,b,xs,zs,rfl,rfl,hH,hB,hz,q⟩:=h
  cases rx
  cases ry
  obtain⟨z,its,n,r,hl,e⟩:=I.lstM hH
  obtain⟨z2,its2,n2,r2,hl2,e2⟩:=I.lstM hB
  refine PySem.P.add_list e e2 ?_ (by rw [List.size_toArray,List.size_toArray];omega)
  have ea:its.toArray++its2.toArray=(its++its2).toArray:=by simp
  rw [ea]
  exact⟨.ref _,_,I.lnew (t':=s.toks) (r.append r2) (by rw [List.length_append];omega),rfl,q _ I.fresh⟩
def Kn:R2:=fun x y H Q=>∃ l k xs,x=.ref l∧y=.int k∧H l=some (.lst xs) ∧ -(2 ^ 63)≤k∧k < 2 ^ 63∧xs.length * k.toNat≤sizeLine ∧
  ∀ p,H p=none→Q (.ref p) (upd H p (.lst (List.replicate k.toNat xs).flatten))
theorem Fw {α : Type}(xs:List α)(k:Nat):(List.replicate k xs).flatten.length=k * xs.length:=by
  induction k with
  | zero=>simp
  | succ k ih=>rw [List.replicate_succ,List.flatten_cons,List.length_append,ih,Nat.succ_mul,Nat.add_comm]
theorem Hn:OpR X (binaryOp .Mult) Kn:=by
  intro pins s σ H x y v u Q I rx ry h
  obtain⟨l,k,xs,rfl,rfl,hH,h1,h2,hz,q⟩:=h
  cases rx
  obtain⟨t,rfl⟩:=ry
  obtain⟨z,its,n,r,hl,e⟩:=I.lstM hH
  have hlen:its.toArray.size * k.toNat≤sizeLine:=by rw [List.size_toArray,← hl];exact hz
  have hcap : ¬ its.toArray.size * k.toNat > (2 ^ 63 - 1) / 8:=by
    have:(sizeLine:Nat)≤(2 ^ 63 - 1) / 8:=by decide
    omega
  have hfit : ¬ (!Builtin.List.listFitsIndex k)=true:=by
    rw [fitsIndex_both h1 h2]
    exact Bool.false_ne_true
  have hlong : ¬ Builtin.List.listTooLong (its.toArray.size * k.toNat)=true:=by
    rw [wD hlen]
    exact Bool.false_ne_true
  have hnew:List.foldl (fun x1 x2=>x1++x2) #[] (List.replicate (if its.toArray.isEmpty=true then 0 else k.toNat) its.toArray)=(List.replicate k.toNat its).flatten.toArray:=by
    have f0:∀ m:Nat,List.foldl (fun x1 x2=>x1++x2) #[] (List.replicate m its.toArray)=(List.replicate m its).flatten.toArray:=fun m=>by
      have:=sQ its m []
      rw [List.nil_append] at this
      exact this
    rw [f0]
    cases its with
    | nil=>simp
    | cons a r'=>rw [if_neg (by simp)]
  refine wpAny_binaryOp_repeat_ref (T := "list") (U := "int") (by decide) ⟨_,e,rfl⟩ (fun s'=>typeIs_int s' k t) noFill_list_mul F.fills_int_mul F.slot_int_rmul repeat_list F.slot_int_index.lookup
    (call_meets F.slot_int_rmul (typeIs_int s k t) F.entry_int_rmul (F.args_int_rmul_2 _ _) (int___rmul___int_list k t l its.toArray n)
      ⟨e,rfl,⟨_,e,rfl⟩,call_meets F.slot_list_mul ⟨_,e,rfl⟩ F.entry_list_mul (F.args_list_mul_2 _ _) (AutoListH.list___mul___list_int_3 l its.toArray n k t hfit hcap hlong) ⟨e,?_⟩⟩)
  rw [hnew]
  exact⟨.ref _,_,I.lnew (t':=s.toks) (r.rep k.toNat) (by rw [Fw,Nat.mul_comm];exact hz),rfl,q _ I.fresh⟩
end
section
variable {prog:Program} {w:World} {A:Around} {E:Value→Shared→Prop} {s:Shared}
end
section
variable {X:Cx}
end
end L2
namespace Att
open PySem PySem.W PySem.Calls PyProof.Rows
theorem nF {P:Params}{h:Heap}:∀ (ns:List Int) (vs:List Value),WellAll P h vs (ns.map WData.int)→IntsAre vs ns:=by
  intro ns
  induction ns with
  | nil =>
    intro vs w
    rw [List.map_nil] at w
    cases w
    exact .nil
  | cons n ns ih =>
    intro vs w
    rw [List.map_cons] at w
    cases w with
    | cons a b =>
      cases a
      exact .cons _ _ (ih _ b)
theorem BC {l:OpenLaw}{n:Nat}(hn:l.most=some n){P:Params}{h:Heap}{args:List WData}{vals:List Value}
    (hpre:l.row.toRowW.claim.pre args=true) (hwl:WellAll P h vals args) :
    ∃ a vs ns,vals=[Value.ref a]∧args=[WData.list (ns.map WData.int)]∧h.get? a=some { cls:=.type "list",data:=.seq vs.toArray } ∧ IntsAre vs ns∧ns.length≤n:=by
  have hsh:WShape.hasAll [] args [.list .int] = true:=(pre_splitW hpre).1
  have hc:l.pre.holds [] { args:=args } = true:=(pre_splitW hpre).2
  obtain⟨d,r,rfl,h1,h2⟩:=hasAllW_cons hsh
  obtain rfl:=hasAllW_nil h2
  obtain⟨xs,rfl,h3⟩:=hasW_list h1
  obtain⟨ns,rfl⟩:=items_int h3
  have hlen:ns.length≤n:=by
    unfold OpenLaw.pre at hc
    have h4:(WTm.not (.lt (.lit (.int (n:Int))) (.len (.arg 0)))).holds [] { args:=[.list (ns.map .int)] } = true:=by
      have h4:=(holds_andW hc).1
      rw [hn] at h4
      exact h4
    have h5:=condW_of h4 (w_not (w_lt w_lit (w_len_list (w_arg rfl))))
    rw [List.length_map] at h5
    refine Nat.le_of_not_lt fun q => ?_
    have q':(n:Int) < ((ns.length:Nat):Int):=by omega
    first
      | (rw [decide_eq_true q'] at h5;exact absurd h5 (by decide))
      | (simp at h5;omega)
  cases hwl with
  | cons w1 w2 =>
    cases w2
    cases w1 with
    | list ho hall=>exact⟨_,_,ns,rfl,rfl,ho,nF ns _ hall,hlen⟩
theorem BD (l:OpenLaw)(args:List WData):l.row.toRowW.claim.post args (.bool true) args=true :=
  postW_of (r:=l.row.toRowW) (X:=(true == true))
    (show WShape.has [] (.bool true) .bool=true by first|rfl|decide|simp [WShape.has,WShape.arms,WShape.armsAll])
    (show (WTm.eq .res (.lit (.bool true))).value [] { args:=args,res:=some (.bool true),after:=args } = some (.bool (true == true)) from w_eq_bool (w_res rfl) w_lit) rfl
theorem attach_call {l:OpenLaw}{n:Nat}{q:Program}{loose:List Str}{XP:(Str→Option Value)→Heap→Prop}{YP:World→Heap→Prop}{d:DefRec}
    (hn:l.most=some n) (hdf:d.params.defaults=[])
    (call:∀ (w:World) (s₀ s₁ : Shared) (mg mb:Str→Option Value) (fa:Addr) (o:Obj) (pm cd doc:Value) (a:Addr) (vs:List Value) (ns:List Int),
      Ground q loose [] XP w s₀ mg mb s₁.heap→YP w s₁.heap →
      s₁.heap.get? fa=some o→o.data=.func (docDef d.name d.params d.body d.scope pm cd doc)→s₁.heap.CodeRec cd d.name→mg d.name=some (.ref fa) →
      s₁.heap.get? a=some { cls:=.type "list",data:=.seq vs.toArray } → IntsAre vs ns→ns.length≤n→s₁.gens = #[] →
      codeAny (model l.prog w) callerA (.call (.ref fa) ⟨[.ref a],[]⟩) (fun r s'=>r=.ok (.ret (.bool true))∧OldK s₁.heap s'.heap∧s'.os=s₁.os∧AllBare s'.gens) s₁) :
    WalkO q loose XP YP l.row.toRowW d [] (fun f vs=>PySem.call f vs):=by
  intro w s₀ s₁ mg mb G Y fa o pm cd doc dV kV ho hd hcd hD hmg hg args vals as hpre hlay hrd hwl hlo
  obtain rfl:dV=.none:=Dflts.none hD hdf
  obtain rfl:kV=.none:=Dflts.noKw hD
  obtain⟨a,vs,ns,rfl,rfl,hobj,hints,hlen⟩:=BC hn hpre hwl
  refine enter_call (codeAny_mono (call w s₀ s₁ mg mb fa o pm cd doc a vs ns G Y ho (fd_plain hd) hcd hmg hobj hints hlen hg) fun r s' hq => ?_)
  obtain⟨rfl,h2,h3,h4⟩:=hq
  exact⟨.inl ⟨.bool true,.bool true,[],rfl,fun _=>rfl,.bool true,BD l _,fun _=>⟨List.Pairwise.nil,fun _ hm=>(nomatch hm)⟩⟩,h2,h3,h4⟩
section
variable {prog:Program} {w:World} {A:Around} {E:Value→Shared→Prop} {s:Shared} {K:Frag}
def noObjs (h:Heap):Heap:={ h with objs := #[] }
theorem noObjs_get (h:Heap)(b:Addr):(noObjs h).get? b=none:=by
  cases e:(noObjs h).get? b with
  | none=>rfl
  | some o=>exact absurd (Heap.lt_size e) (Nat.not_lt_zero _)
def ledger (h:Heap) (L d:Addr):List (Addr × Obj):=(List.range h.objs.size).filterMap fun a=>if a=L∨a=d then none else (h.get? a).map fun o=>(a,o)
theorem mem_ledger {h:Heap}{L d a:Addr}{o:Obj}:(a,o)∈ledger h L d ↔ a≠L∧a≠d∧h.get? a=some o:=by
  unfold ledger
  rw [List.mem_filterMap]
  constructor
  · rintro⟨b,_,e⟩
    split at e
    · cases e
    · rename_i hb
      obtain⟨o',ho,e'⟩:=Option.map_eq_some_iff.mp e
      cases e'
      exact⟨fun q=>hb (.inl q),fun q=>hb (.inr q),ho⟩
  · rintro⟨n1,n2,ho⟩
    refine⟨a,List.mem_range.mpr (Heap.lt_size ho),?_⟩
    rw [if_neg (show ¬ (a=L∨a=d) from fun q=>q.elim n1 n2),ho]<;>rfl
theorem fr_all {h:Heap}{L:Addr}{m:Str→Option Value}(n:h.Ns L m):Fr (noObjs h) L h m :=
  ⟨n,fun b o e=>(by rw [noObjs_get] at e;cases e),Nat.zero_le _⟩
end
end Att
namespace L2
open PySem PySem.Spec PyProof.Rows
theorem sR:∀ {vs:List Value} {ns:List Int},IntsAre vs ns→aI (ns.map V.int) vs
  | _,_,.nil=>.nil
  | _,_,.cons n t h=>.cons ⟨t,rfl⟩ (sR h)
def Ho (H:Hp):Prop:=∀ b,H b=none ∨ ∃ o xs,H b=some (.frz o (.lst xs))
theorem Dj {P:Program}{w:World}{K:PySem.W.Frag}{mg mb:Str→Option Value}{CX:CXT}{k:Nat}{fa a:Addr}{fd:FuncData}{x:Str}{sp:Sp}{s₁ : Shared}{vs:List Value}{ns:List Int}
    (KX:K.In s₁.heap) (hns:s₁.heap.Ns mainGlobals mg) (hb:s₁.heap.Ns builtinsNs mb) (hbb:∀ x:Str,x ≠ "__name__" → mb x=bootBuiltins x) (hlim:s₁.heap.NoLimit) (hg:s₁.gens = #[])
    (ha:s₁.heap.get? a=some { cls:=.type "list",data:=.seq vs.toArray }) (hi:IntsAre vs ns) (hl:ns.length≤sizeLine) (hr:fS k callerA)
    (F:∀ base:Heap,K.In base→base.Ns mainGlobals mg→cA P w K mg base CX k fa fd [x] sp) (hbind:∀ (s:Shared) (u:Value),BindsTo s fd ⟨[u],[]⟩ [(x,u)])
    (hsp:∀ H:Hp,Ho H→SqL K H a (ns.map V.int)→sp [.ref a] H (fun v _=>v=.bl true) fun _ _ _=>False)
    (hCX:∀ H e s',CX [] H s₁ (fun _ _ _=>False) e s'→False) :
    codeAny (model P w) callerA (.call (.ref fa) ⟨[.ref a],[]⟩) (fun r s'=>r=.ok (.ret (.bool true))∧OldK s₁.heap s'.heap∧s'.os=s₁.os∧AllBare s'.gens) s₁ := by
  have rv:=sR hi
  have lenV:=hi.length
  have core:∀ H:Hp,Ho H→SqL K H a (ns.map V.int)→HOk P w H s₁.heap→(∀ b,H b≠none→b=a)→(H a≠none→K.lookup a=none) →
      codeAny (model P w) callerA (.call (.ref fa) ⟨[.ref a],[]⟩) (fun r s'=>r=.ok (.ret (.bool true))∧OldK s₁.heap s'.heap∧s'.os=s₁.os∧AllBare s'.gens) s₁ := by
    intro H hO hS hok hA hK
    have base_of:∀ {b:Addr} {o:Obj},s₁.heap.get? b=some o→H b=none→(uc s₁.heap H).get? b=some o:=fun e n=>CY e n
    have noA:∀ {b:Addr} {o:Obj} {es:Array DictEntry} {ep:Nat},s₁.heap.get? b=some o→o.data=.dict es ep→H b=none:=fun {b o es ep} e d=>by
      cases q:H b with
      | none=>rfl
      | some u =>
        have e':b=a:=hA b (by rw [q];simp)
        subst e'
        rw [ha] at e;cases e
        have d':Data.seq vs.toArray _=Data.dict es ep:=d
        cases d'
    have nsK:∀ {b:Addr} {m:Str→Option Value},s₁.heap.Ns b m→(uc s₁.heap H).Ns b m:=fun {b m} ⟨o,es,ep,e,d,r⟩=>⟨o,es,ep,base_of e (noA e d),d,r⟩
    have hKb:K.In (uc s₁.heap H):=fun b o e=>base_of (KX b o e) (by
      cases q:H b with
      | none=>rfl
      | some u =>
        have e':b=a:=hA b (by rw [q];simp)
        subst e'
        rw [hK (by rw [q];simp)] at e;cases e)
    have hM:Mod K mg (uc s₁.heap H):=⟨hKb,nsK hns,⟨mb,nsK hb,hbb⟩,let ⟨mc,h1,h2⟩:=hlim;⟨mc,nsK h1,h2⟩⟩
    have e0:Fo P w K mg (uc s₁.heap H) callerA [] s₁ H:=⟨rfl,hM,fun b o e=>Fe e,Nat.le_of_eq (Bt _ _),trivial,fun b hb=>absurd (show b∈([] : List Addr) from hb) (by simp),hok,.of_eq hg⟩
    refine codeAny_mono ((F _ hKb (nsK hns)).run callerA [] s₁ H ⟨[.ref a],[]⟩ [.ref a] [.ref a] _ _ hr e0 (hbind s₁ (.ref a)) (.cons rfl .nil) (hsp H hO hS)) fun r s' h => ?_
    cases r with
    | error e=>exact (hCX H e s' h).elim
    | ok fl =>
      cases fl with
      | next=>exact False.elim h
      | brk=>exact False.elim h
      | cont=>exact False.elim h
      | ret u =>
        obtain⟨v,H',os,bare,un,hok',r',q⟩:=h
        have q':v=.bl true:=q
        subst q'
        obtain rfl:u=Value.bool true:=r'
        refine⟨rfl,OldK.of_keep fun b o e => ?_,os,bare⟩
        cases q:H b with
        | none=>exact un.keep b o e q (by intro z;exact absurd (show b∈([] : List Addr) from z) (by simp)) (by simp)
        | some u =>
          rcases hO b with z|⟨ob,xs,z⟩
          · rw [q] at z;cases z
          · have z2:=un.frzs b ob _ z
            obtain⟨e1,_⟩:=hok b _ z
            obtain⟨e2,_⟩:=hok' b _ z2
            rw [e] at e1;cases e1
            exact e2
  cases hk:K.lookup a with
  | some o =>
    have e:=KX a o hk
    rw [ha] at e
    cases e
    refine core (fun _=>none) (fun _=>.inl rfl) (.inr ⟨_,vs.toArray,_,hk,rfl,rfl,rfl,by rw [List.size_toArray,lenV];exact hl,by simpa using rv⟩) (fun b u z=>by have z':(none:Option HO)=some u:=z;cases z') (fun b z=>absurd rfl z) fun z=>absurd rfl z
  | none =>
    refine core (fun b=>if b=a then some (.frz { cls:=.type "list",data:=.seq vs.toArray } (.lst (ns.map V.int))) else none) (fun b => ?_) (.inl (.inr ⟨{ cls:=.type "list",data:=.seq vs.toArray },if_pos rfl⟩)) (fun b u z => ?_) (fun b z => ?_) fun _=>hk
    · by_cases hb:b=a
      · exact .inr ⟨_,_,if_pos hb⟩
      · exact .inl (if_neg hb)
    · by_cases hb:b=a
      · have z':=(if_pos hb).symm.trans z
        cases z'
        subst hb
        exact⟨ha,by rw [List.length_map];exact hl,vs,_,rv,ha⟩
      · have z':=(if_neg hb).symm.trans z
        cases z'
    · by_cases hb:b=a
      · exact hb
      · exact absurd (if_neg hb) z
end L2
namespace L2
open PySem PySem.Spec PyProof.Rows
theorem Fx {l:PySem.W.OpenLaw}{n k:Nat}{q:Program}{loose:List Str}{XP:(Str→Option Value)→Heap→Prop}{YP:World→Heap→Prop}{d:DefRec}{K:Params→PySem.W.Frag}{CX:World→CXT}{sp:World→Sp}{x:Str}
    (hn:l.most=some n) (hn2:n≤sizeLine) (hdf:d.params.defaults=[]) (hr:fS k callerA)
    (hY:∀ (w:World) (h:Heap),YP w h→(K w.params).In h)
    (F:∀ (w:World) (mg:Str→Option Value) (fa:Addr) (h:Heap),(K w.params).In h→h.Ns mainGlobals mg→mg d.name=some (.ref fa) →
      ∃ fd:FuncData,(∀ (s:Shared) (u:Value),BindsTo s fd ⟨[u],[]⟩ [(x,u)]) ∧
        ∀ base:Heap,(K w.params).In base→base.Ns mainGlobals mg→cA l.prog w (K w.params) mg base (CX w) k fa fd [x] (sp w))
    (hsp:∀ (w:World) (H:Hp) (a:Addr) (ns:List Int),ns.length≤n→Ho H→SqL (K w.params) H a (ns.map V.int)→sp w [.ref a] H (fun v _=>v=.bl true) fun _ _ _=>False)
    (hCX:∀ (w:World) (H:Hp) (s:Shared) (e:Value) (s':Shared),CX w [] H s (fun _ _ _=>False) e s'→False) :
    PySem.W.WalkO q loose XP YP l.row.toRowW d [] (fun f vs=>PySem.call f vs):=by
  refine Att.attach_call hn hdf fun w s₀ s₁ mg mb fa o pm cd doc a vs ns G Y ho hd hcd hmg hobj hints hlen hg => ?_
  have KX:=hY w _ Y
  obtain⟨fd,hb,hF⟩:=F w mg fa _ KX G.T.g hmg
  exact Dj KX G.T.g G.T.b G.T.builtins G.T.nolimit hg hobj hints (Nat.le_trans hlen hn2) hr hF hb (fun H hO hS=>hsp w H a ns hlen hO hS) fun H e s'=>hCX w H s₁ e s'
end L2
namespace L2
open PySem PySem.Spec PyProof.Rows
def aQ (s:Stmt):Arguments:=match s with
  | .FunctionDef _ a _ _ _ _ _ _ _ _=>a
  | _=>{ posonlyargs:=[],args:=[],vararg:=none,kwonlyargs:=[],kw_defaults:=[],kwarg:=none,defaults:=[] }
def aK (s:Stmt):List Stmt:=match s with
  | .FunctionDef _ _ b _ _ _ _ _ _ _=>b
  | _=>[]
def aj (s:Stmt):Scope:=match s with
  | .FunctionDef _ _ _ _ _ _ sc _ _ _=>sc
  | _=>{ kind:=.function,names:=[],isGenerator:=false,isCoroutine:=false }
abbrev CX0:CXT:=fun _ _ _ _ _ _=>False
abbrev E0:XK:=fun _ _ _=>False
theorem Jl {X:Cx}:oi CX0 X E0:=fun _ _ _ _ _ _ _ h=>h.elim
structure Fun (K:PySem.W.Frag) (x qual:Str) (st:Stmt) (f:Addr) (fd:FuncData):Prop where
  ex:∃ (oc:Value) (od:Option Addr) (kV doc pm:Value) (an:Option Addr) (cdv ct:Value) (osl:Array (Option Value)),
    fd=PySem.W.fnOf x qual (aQ st) (aK st) (aj st) .none kV doc pm an cdv ct∧K.lookup f=some ⟨oc,od,.func fd,osl⟩ ∧ PySem.W.codeIn K cdv qual=true
  kp:PySem.W.keepIn K (.ref f)=true
section
variable {P:Program} {w:World} {K:PySem.W.Frag} {mg:Str→Option Value} {base:Heap}
theorem Fun.ok {x qual:Str}{st:Stmt}{f:Addr}{fd:FuncData}{N ps:List Str}{k:Nat}{sp:Sp}(F:Fun K x qual st f fd)(S:aP N ps (aj st))(len:∀ vs H Q E,sp vs H Q E→vs.length=ps.length)
    (hbody:∀ (cdv:Value) (A:Around) (outer:List Env) (s:Shared) (H:Hp) (vs:List V) (Q:VK) (E:XK),fS k (A.deeper (envOfC qual (aj st) s.heap.objs.size f cdv))→sp vs H Q E →
      ∃ t,PSs (nE CX0 P w K mg base N qual (aj st) f cdv A outer s H E).nox (aK st) t∧t { nx:=fun _ H'=>Q .non H',rt:=Q } (jh N vs) H):cA P w K mg base CX0 (k + 1) f fd ps sp:=by
  obtain⟨oc,od,kV,doc,pm,an,cdv,ct,osl,rfl,lk,hcd⟩:=F.ex
  refine Gv lk hcd S len fun A outer s H vs Q E hr hsp => ?_
  obtain⟨t,h,q⟩:=hbody cdv A outer s H vs Q E hr hsp
  exact⟨t,h.nox,q⟩
theorem Fun.binds {x qual:Str}{st:Stmt}{f:Addr}{fd:FuncData}{ps:List Str}(F:Fun K x qual st f fd)
    (h:∀ (kV doc pm:Value) (an:Option Addr) (cdv ct:Value) (us:List Value),us.length=ps.length→bindArgs (PySem.W.fnOf x qual (aQ st) (aK st) (aj st) .none kV doc pm an cdv ct) ⟨us,[]⟩ = pure (ps.zip us)):jV K fd ps []:=by
  obtain⟨oc,od,kV,doc,pm,an,cdv,ct,osl,rfl,lk,hcd⟩:=F.ex
  exact .all (h kV doc pm an cdv ct)
theorem bE {x qual:Str}{st:Stmt}{f:Addr}{oc:Value}{od an:Option Addr}{osl:Array (Option Value)}{kV doc pm cdv ct:Value}(l:K.lookup f=some ⟨oc,od,.func (PySem.W.fnOf x qual (aQ st) (aK st) (aj st) .none kV doc pm an cdv ct),osl⟩)
    (c:PySem.W.codeIn K cdv qual=true) (k:PySem.W.keepIn K (.ref f)=true):Fun K x qual st f (PySem.W.fnOf x qual (aQ st) (aK st) (aj st) .none kV doc pm an cdv ct):=⟨⟨oc,od,kV,doc,pm,an,cdv,ct,osl,rfl,l,c⟩,k⟩
end
section
variable {X:Cx}
end
def hJ (H H':Hp):Prop:=∀ b o,H b=some o→H' b=some o
theorem hJ.refl (H:Hp):hJ H H:=fun _ _ h=>h
end L2
set_option linter.all false
namespace L2
open PySem PySem.Spec
structure om (h:Heap) (a D:Addr) (o:Obj):Prop where
  at_:h.get? a=some o
  cls:o.cls=.ref D
def oo (a C:Addr):HO:=.ext fun h=>∃ o,om h a C o
end L2
namespace Fm
inductive D where
  | non|bl (b:Bool)|int (i:Int)|str (x:List Nat)|tup (l:List D)|ref (n:Nat)|lit (l:List D)|exn (c:String) (l:List D)
deriving Inhabited
inductive cm where
  | lst (l:List D)|dct (l:List (Int × D))
abbrev Hd:=List cm
inductive Res (α : Type) where
  | ok (a : α) (h:Hd)|exc (x:D) (h:Hd)|bad
def Res.bind {α β : Type} (r:Res α) (f : α → Hd→Res β):Res β := match r with
  | .ok a h=>f a h | .exc x h=>.exc x h | .bad=>.bad
@[simp] theorem ax {α β : Type} (a : α) (h:Hd) (f : α → Hd→Res β):(Res.ok a h).bind f=f a h:=rfl
abbrev Sd:=List (Option D)
abbrev EF:=Sd→Hd→Res D
abbrev TF:=Sd→Hd→Res Bool
abbrev LF:=Sd→Hd→Res (List D)
inductive Out where
  | nx (σ:Sd) (h:Hd)|rt (d:D) (h:Hd)|bk (σ:Sd) (h:Hd)|ct (σ:Sd) (h:Hd)|exc (x:D) (σ:Sd) (h:Hd)|bad
abbrev SF:=Sd→Hd→Out
abbrev Fn:=List D→Hd→Res D
abbrev SZ:Nat:=1000000
@[simp] def slot (σ:Sd) (i:Nat):Option D:=match σ[i]? with|some (some d)=>some d|_=>none
@[simp] def aa (i:Nat):EF:=fun σ h=>match slot σ i with|some d=>.ok d h|none=>.bad
@[simp] def fC (d:D):EF:=fun _ h=>.ok d h
abbrev O2:=D→D→Hd→Res D
@[simp] def af (g:O2) (a b:EF):EF:=fun σ h=>(a σ h).bind fun x h=>(b σ h).bind fun y h=>g x y h
@[simp] def oI (g:Int→Int→Int):O2:=fun x y h=>match x,y with | .int i,.int j=>.ok (.int (g i j)) h|_,_=>.bad
@[simp] def oB (g:Int→Int→Bool):O2:=fun x y h=>match x,y with | .int i,.int j=>.ok (.bl (g i j)) h|_,_=>.bad
@[simp] def oIc (c:Int→Int→Bool) (g:Int→Int→Int):O2:=fun x y h=>match x,y with | .int i,.int j=>if c i j then .ok (.int (g i j)) h else .bad|_,_=>.bad
def sml (i:Int):Bool:=decide (-18446744073709551616 < i) && decide (i < 18446744073709551616)
@[simp] def bA:O2:=fun x y h=>match x,y with
  | .int i,.int j=>.ok (.int (i + j)) h
  | .tup (x :: xs),.tup ys=>if (x :: xs).length + ys.length≤SZ then .ok (.tup (x :: xs++ys)) h else .bad
  | _,_=>.bad
@[simp] def oq:O2:=fun x y h=>(oI (· - ·)) x y h
@[simp] def bh:O2:=fun x y h=>(oIc (fun i j=>sml i || sml j) (· * ·)) x y h
@[simp] def ck:O2:=fun x y h=>(oIc (fun _ j=>decide (0 < j)) (· % ·)) x y h
@[simp] def fI:O2:=fun x y h=>(oIc (fun _ j=>decide (0 < j) && decide (j < 2 ^ 250)) (· / ·)) x y h
@[simp] def Ko:O2:=fun x y h=>(oIc (fun i j=>decide (0≤j) && decide (j≤1000000) && sml i) (fun i j=>i ^ j.toNat)) x y h
@[simp] def oLt:O2:=fun x y h=>(oB fun i j=>decide (i < j)) x y h
@[simp] def oLe:O2:=fun x y h=>(oB fun i j=>decide (i≤j)) x y h
@[simp] def oGt:O2:=fun x y h=>(oB fun i j=>decide (j < i)) x y h
@[simp] def KG:D→Hd→Res D:=fun x h=>match x with | .int i=>.ok (.int (-i)) h|_=>.bad
@[simp] def AA:D→Bool | .non=>true|_=>false
@[simp] def l4:O2:=fun x y h=>if AA y then .ok (.bl (AA x)) h else .bad
@[simp] def b2i (b:Bool):Int:=if b then 1 else 0
mutual
def peq:D→D→Option Bool
  | .int i,k=>match k with | .int j=>some (decide (i=j)) | .bl c=>some (decide (i=b2i c)) | .non=>some false | .tup _=>some false|_=>none
  | .bl c,k=>match k with | .int j=>some (decide (b2i c=j)) | .bl d=>some (decide (c=d))|_=>none
  | .str x,k=>match k with | .str y=>some (decide (x=y))|_=>none
  | .non,k=>match k with | .non=>some true | .int _=>some false | .tup _=>some false|_=>none
  | .tup xs,k=>match k with | .tup ys=>(fv xs ys).map fun b=>b && decide (xs.length=ys.length) | .non=>some false | .int _=>some false|_=>none
  | .ref _,_=>none
  | .lit _,_=>none
  | .exn _ _,_=>none
def fv:List D→List D→Option Bool
  | x :: xs,y :: ys=>match peq x y,fv xs ys with
    | some a,some b=>some (a && b)
    | _,_=>none
  | _,_=>some true
end
mutual
def dep:D→Nat
  | .tup l=>ja l + 1
  | _=>0
def ja:List D→Nat
  | []=>0
  | x :: xs=>max (dep x) (ja xs)
end
def eqL (xs ys:List D):Option Bool:=if ja xs≤20 then (if xs.length=ys.length then fv xs ys else some false) else none
@[simp] def gw (h:Hd):D→Option (List D)
  | .ref n=>match h[n]? with|some (.lst l)=>some l|_=>none
  | .lit l=>some l
  | _=>none
@[simp] def eqG (h:Hd) (x y:D):Option Bool:=match gw h x,gw h y with
  | some xs,some ys=>eqL xs ys
  | none,none=>if dep x≤20 then peq x y else none
  | _,_=>none
@[simp] def oEq:O2:=fun x y h=>match eqG h x y with|some b=>.ok (.bl b) h|none=>.bad
@[simp] def oNe:O2:=fun x y h=>match eqG h x y with|some b=>.ok (.bl (!b)) h|none=>.bad
@[simp] def asB (r:Res D):Res Bool:=r.bind fun x h=>match x with | .bl b=>.ok b h|_=>.bad
@[simp] def tE (a:EF):TF:=fun σ h=>asB (a σ h)
@[simp] def dU (t:TF):TF:=fun σ h=>(t σ h).bind fun b h=>.ok (!b) h
@[simp] def n8 (t u:TF):TF:=fun σ h=>(t σ h).bind fun b h=>if b then u σ h else .ok false h
@[simp] def tOr (t u:TF):TF:=fun σ h=>(t σ h).bind fun b h=>if b then .ok true h else u σ h
@[simp] def fT (t:TF):EF:=fun σ h=>(t σ h).bind fun b h=>.ok (.bl b) h
@[simp] def ot (g k:O2) (a b c:EF):EF:=fun σ h=>(a σ h).bind fun x h=>(b σ h).bind fun y h=>(g x y h).bind fun z h=>match z with
  | .bl true=>(c σ h).bind fun w h=>k y w h
  | .bl false=>.ok (.bl false) h
  | _=>.bad
@[simp] def ao:LF:=fun _ h=>.ok [] h
@[simp] def ad (a:EF) (r:LF):LF:=fun σ h=>(a σ h).bind fun x h=>(r σ h).bind fun xs h=>.ok (x :: xs) h
@[simp] def eB (r:LF):EF:=fun σ h=>(r σ h).bind fun xs h=>if xs.length≤SZ then .ok (.tup xs) h else .bad
@[simp] def aL (r:LF):EF:=fun σ h=>(r σ h).bind fun xs h=>if xs.length≤SZ then .ok (.ref h.length) (h++[.lst xs]) else .bad
@[simp] def jW (h:Hd):D→Option (List D)
  | .tup l=>some l
  | .lit l=>some l
  | .ref n=>match h[n]? with|some (.lst l)=>some l|_=>none
  | _=>none
@[simp] def lOf (a:EF):LF:=fun σ h=>(a σ h).bind fun x h=>match jW h x with|some l=>.ok l h|none=>.bad
def ixN (n:Nat) (i:Int):Option Nat:=if 0≤i then (if i < n then some i.toNat else none) else if -(n:Int)≤i then some (i + n).toNat else none
def atI (xs:List D) (i:Int):Option D:=(ixN xs.length i).bind fun j=>xs[j]?
@[simp] def fIx (a:LF) (b:EF):EF:=fun σ h=>(a σ h).bind fun l h=>(b σ h).bind fun y h=>match y with
  | .int i=>match atI l i with|some d=>.ok d h|none=>.bad
  | _=>.bad
@[simp] def oAt:O2:=fun x y h=>match jW h x,y with
  | some l,.int i=>match atI l i with|some d=>.ok d h|none=>.bad
  | _,_=>.bad
@[simp] def fAt (a b:EF):EF:=fun σ h=>af oAt a b σ h
@[simp] def dE (a:LF):EF:=fun σ h=>(a σ h).bind fun l h=>.ok (.int l.length) h
def gy:List D→Option (List Int)
  | []=>some []
  | .int i :: r=>(gy r).map (i :: ·)
  | _=>none
@[simp] def yO (a:LF):EF:=fun σ h=>(a σ h).bind fun l h=>match gy l with|some is=>.ok (.int is.sum) h|none=>.bad
def fE:List D→Option (List Bool)
  | []=>some []
  | .bl b :: r=>(fE r).map (b :: ·)
  | _=>none
@[simp] def yP (a:LF):EF:=fun σ h=>(a σ h).bind fun l h=>match fE l with|some bs=>.ok (.bl (bs.all id)) h|none=>.bad
@[simp] def cC (a:LF):EF:=fun σ h=>(a σ h).bind fun l h=>.ok (.tup l) h
@[simp] def Dk (a:EF):EF:=fun σ h=>(a σ h).bind fun x h=>match x with | .int i=>.ok (.int i) h | .bl b=>.ok (.int (b2i b)) h|_=>.bad
inductive Ty where|int|bool|tuple|list|str
deriving DecidableEq
@[simp] def yQ (h:Hd) (t:Ty):D→Option Bool
  | .non=>some false
  | .bl _=>some (t == .bool || t == .int)
  | .int _=>some (t == .int)
  | .str _=>some (t == .str)
  | .tup _=>some (t == .tuple)
  | .lit _=>some (t == .list)
  | .ref n=>match h[n]? with|some (.lst _)=>some (t == .list)|some (.dct _)=>some false|none=>none
  | .exn _ _=>none
@[simp] def cN (t:Ty) (a:EF):EF:=fun σ h=>(a σ h).bind fun x h=>match yQ h t x with|some b=>.ok (.bl b) h|none=>.bad
def sIx (n d:Nat):Option Int→Nat
  | none=>d
  | some i=>if i < 0 then (i + n).toNat else min i.toNat n
def cut (l:List D) (lo hi:Option Int):List D:=(l.drop (sIx l.length 0 lo)).take (sIx l.length l.length hi - sIx l.length 0 lo)
abbrev OF:=Sd→Hd→Res (Option Int)
@[simp] def pNo:OF:=fun _ h=>.ok none h
@[simp] def pAt (a:EF):OF:=fun σ h=>(a σ h).bind fun x h=>match x with | .int i=>.ok (some i) h|_=>.bad
@[simp] def gO (a:EF) (lo hi:OF):EF:=fun σ h=>(a σ h).bind fun x h=>(lo σ h).bind fun i h=>(hi σ h).bind fun j h=>match x with
  | .tup l=>if sIx l.length 0 i=0∧sIx l.length l.length j=l.length then .bad else .ok (.tup (cut l i j)) h
  | x=>match gw h x with|some l=>.ok (.ref h.length) (h++[.lst (cut l i j)])|none=>.bad
def bN:List Int→List Int→Bool
  | [],[]=>false
  | [],_ :: _=>true
  | _ :: _,[]=>false
  | x :: xs,y :: ys=>if x=y then bN xs ys else decide (x < y)
def Kq:List D→Option (List (List Int))
  | []=>some []
  | .tup l :: r=>match gy l,Kq r with|some a,some b=>some (a :: b)|_,_=>none
  | _=>none
@[simp] def aq (F:Fn) (r:LF):EF:=fun σ h=>(r σ h).bind fun xs h=>F xs h
abbrev IF:=Sd→Hd→Res (List D × Option Nat)
@[simp] def BE (a:LF):IF:=fun σ h=>(a σ h).bind fun l h=>.ok (l,none) h
@[simp] def aV (a:EF):IF:=fun σ h=>(a σ h).bind fun x h=>match x with
  | .int n=>if -1000000≤n∧n≤1000000 then .ok ((List.range n.toNat).map (fun k:Nat=>.int k),none) h else .bad
  | _=>.bad
@[simp] def cS (a:EF):IF:=fun σ h=>(a σ h).bind fun x h=>match x with
  | .tup l=>.ok (l,none) h
  | .lit l=>.ok (l,none) h
  | .ref n=>match h[n]? with|some (.lst l)=>.ok (l,some n) h|_=>.bad
  | _=>.bad
noncomputable section
open Classical
def fV (g:Option Nat) (all:List D) (h:Hd):Prop:=match g with|none=>True|some n=>h[n]? = some (.lst all)
abbrev GF:=D→Sd→Option Sd
@[simp] def gN (i:Nat):GF:=fun d σ=>some (σ.set i (some d))
@[simp] def gT (l:List Nat):GF:=fun d σ=>match d with
  | .tup xs=>if xs.length=l.length then some ((l.zip xs).foldl (fun σ p => σ.set p.1 (some p.2)) σ) else none
  | _=>none
@[simp] def av (a b:SF):SF:=fun σ h=>match a σ h with | .nx σ h=>b σ h|r=>r
@[simp] def bB:SF:=fun σ h=>.nx σ h
@[simp] def outE (r:Res D) (σ:Sd) (k:D→Hd→Out):Out:=match r with | .ok d h=>k d h | .exc x h=>.exc x σ h | .bad=>.bad
@[simp] def aC (g:GF) (a:EF):SF:=fun σ h=>outE (a σ h) σ fun d h=>match g d σ with|some σ=>.nx σ h|none=>.bad
@[simp] def bo (a:EF):SF:=fun σ h=>outE (a σ h) σ fun d h=>.rt d h
@[simp] def kO (a:EF):SF:=fun σ h=>outE (a σ h) σ fun _ h=>.nx σ h
@[simp] def sIf (t:TF) (a b:SF):SF:=fun σ h=>match t σ h with | .ok c h=>if c then a σ h else b σ h | .exc x h=>.exc x σ h | .bad=>.bad
def jb:SF:=fun _ _=>.bad
@[simp] def nG (x i e:EF):SF:=fun σ h=>outE (e σ h) σ fun d h=>outE (x σ h) σ fun p h=>outE (i σ h) σ fun j h=>match p,j with
  | .ref n,.int j=>match h[n]? with
    | some (.lst l)=>match ixN l.length j with
      | some k=>.nx σ (h.set n (.lst (l.set k d)))
      | none=>.bad
    | _=>.bad
  | _,_=>.bad
@[simp] def Hq:O2:=fun p d h=>match p with
  | .ref n=>match h[n]? with
    | some (.lst l)=>if l.length < SZ then .ok .non (h.set n (.lst (l++[d]))) else .bad
    | _=>.bad
  | _=>.bad
@[simp] def um (x e:EF):EF:=fun σ h=>(x σ h).bind fun p h=>match p with
  | .ref n=>match h[n]? with
    | some (.lst _)=>(e σ h).bind fun d h=>Hq (.ref n) d h
    | _=>.bad
  | _=>.bad
def dm (g:Option Nat) (all:List D) (tg:GF) (b:SF):List D→SF
  | [],σ,h=>if fV g all h then .nx σ h else .bad
  | x :: xs,σ,h=>if fV g all h then match tg x σ with
      | some σ=>match b σ h with
        | .nx σ h=>dm g all tg b xs σ h
        | .ct σ h=>dm g all tg b xs σ h
        | .bk σ h=>.nx σ h
        | r=>r
      | none=>.bad
    else .bad
@[simp] def eC (it:IF) (tg:GF) (b:SF):SF:=fun σ h=>match it σ h with
  | .ok (l,g) h=>dm g l tg b l σ h
  | .exc x h=>.exc x σ h
  | .bad=>.bad
@[simp] def i6:List TF→TF
  | [],_,h=>.ok true h
  | t :: r,σ,h=>(t σ h).bind fun b h=>if b then i6 r σ h else .ok false h
def bV (g:Option Nat) (all:List D) (tg:GF) (cs:List TF) (e:EF):List D→Sd→Hd→Res (List D)
  | [],_,h=>if fV g all h then .ok [] h else .bad
  | x :: xs,σ,h=>if fV g all h then match tg x σ with
      | some σ=>(i6 cs σ h).bind fun b h=>if b then (e σ h).bind fun d h=>(bV g all tg cs e xs σ h).bind fun ds h=>.ok (d :: ds) h
        else bV g all tg cs e xs σ h
      | none=>.bad
    else .bad
@[simp] def d6 (nl:Nat) (caps:List Nat) (σ:Sd):Sd:=List.replicate nl none++caps.map fun i=>slot σ i
@[simp] def aT (nl:Nat) (caps:List Nat) (it:IF) (tg:GF) (cs:List TF) (e:EF):LF:=fun σ h=>(it σ h).bind fun p h =>
  bV p.2 p.1 tg cs e p.1 (d6 nl caps σ) h
mutual
def pure? : D→Bool
  | .ref _=>false
  | .tup l=>hU l
  | .lit l=>hU l
  | .exn _ l=>hU l
  | _=>true
def hU:List D→Bool
  | []=>true
  | x :: xs=>pure? x && hU xs
end
def wE:cm→Bool
  | .lst l=>hU l
  | .dct l=>l.all fun p=>pure? p.2
def Dl (h h':Hd):Prop:=∀ n c,n < h.length→h'[n]? = some c→h[n]? = some c∨wE c=true
def letGo (h:Hd) (r:Res D):Res D:=match r with
  | .ok d h'=>if pure? d=true∧Dl h h' then .ok d (h'.take h.length) else .ok d h'
  | r=>r
def runB (n:Nat) (b:SF):Fn:=fun ds h=>match b (ds.map some++List.replicate (n - ds.length) none) h with
  | .nx _ h=>.ok .non h
  | .rt d h=>.ok d h
  | .exc x _ h=>.exc x h
  | _=>.bad
def bF (np n:Nat) (b:SF):Fn:=fun ds h=>if ds.length=np then letGo h (runB n b ds h) else .bad
end
end Fm
set_option Elab.async false
set_option linter.all false
set_option maxRecDepth 100000
namespace Fm
open PySem PySem.Spec L2
def toS (x:List Nat):Str:=⟨x.toArray⟩
def mT (K:PySem.W.Frag) (H:Hp) (a:Addr) (xs:List V):Prop :=
  (∃ o,H a=some (.frz o (.lst xs))) ∨
    ∃ (o:Obj) (its:Array Value) (n:Nat),K.lookup a=some o∧o.cls=.type "list" ∧ o.dict=none∧o.data=.seq its n∧its.size≤sizeLine∧aI xs its.toList
section
variable (K:PySem.W.Frag) (ρ:List Addr) (H:Hp)
mutual
def RD:D→V→Prop
  | .non,v=>v=.non
  | .bl b,v=>v=.bl b
  | .int i,v=>v=.int i
  | .str x,v=>v=.str (toS x)
  | .tup l,v=>∃ p vs,v=.ref p∧H p=some (.tup vs)∧RDs l vs
  | .lit l,v=>∃ p vs,v=.ref p∧mT K H p vs∧RDs l vs
  | .ref n,v=>∃ a,ρ[n]? = some a∧v=.ref a
  | .exn c l,v=>l=[] ∧ ∃ a C,v=.ref a∧H a=some (oo a C)∧PySem.W.nsIn K mainGlobals (Str.ofString c)=some (some (.ref C))
def RDs:List D→List V→Prop
  | [],vs=>vs=[]
  | d :: ds,vs=>∃ v r,vs=v :: r∧RD d v∧RDs ds r
end
def RC:cm→Addr→Prop
  | .lst l,a=>∃ vs,H a=some (.lst vs)∧RDs K ρ H l vs
  | .dct l,a=>∃ kvs,H a=some (.dK kvs)∧kvs.map (·.1)=l.map (fun p=>(Sum.inl p.1:Key))∧RDs K ρ H (l.map (·.2)) (kvs.map (·.2))
structure RH (hd:Hd):Prop where
  len : ρ.length=hd.length
  nd : ρ.Nodup
  cel:∀ (n:Nat) c a,hd[n]? = some c → ρ[n]? = some a→RC K ρ H c a
structure RSt (σd:Sd) (σ:St):Prop where
  len : σd.length = σ.length
  at':∀ i d,slot σd i=some d → ∃ v,σ[i]? = some (some v)∧RD K ρ H d v
structure RS (σd:Sd) (hd:Hd) (σ:St):Prop where
  hp:RH K ρ H hd
  st:RSt K ρ H σd σ
end
structure Ext (ρ:List Addr) (H:Hp) (ρ':List Addr) (H':Hp):Prop where
  pre:∃ t,ρ' = ρ ++ t
  new:∀ a ∈ ρ',a ∈ ρ ∨H a=none
  frame:∀ p o,H p=some o→p ∉ ρ → H' p=some o
section
variable {K:PySem.W.Frag} {ρ ρ' ρ'':List Addr} {H H' H'':Hp} {hd hd':Hd} {σd σd':Sd} {σ σ':St}
theorem Ext.refl:Ext ρ H ρ H:=⟨⟨[],by simp⟩,fun _ h=>.inl h,fun _ _ h _=>h⟩
theorem Ext.out (e:Ext ρ H ρ' H'){p:Addr}{o:HO}(h:H p=some o)(n:p ∉ ρ):p ∉ ρ':=fun z=>by
  rcases e.new p z with q|q
  · exact n q
  · rw [h] at q;cases q
theorem Ext.trans (a:Ext ρ H ρ' H')(b:Ext ρ' H' ρ'' H''):Ext ρ H ρ'' H'' where
  pre:=by
    obtain⟨t,rfl⟩:=a.pre
    obtain⟨u,rfl⟩:=b.pre
    exact⟨t++u,by simp⟩
  new:=fun x hx=>by
    rcases b.new x hx with q|q
    · exact a.new x q
    · cases e:H x with
      | none=>exact .inr rfl
      | some o =>
        by_cases hn:x ∈ ρ
        · exact .inl hn
        · rw [a.frame x o e hn] at q;cases q
  frame:=fun p o h n=>b.frame p o (a.frame p o h n) (a.out h n)
theorem Ext.same (s:hJ H H'):Ext ρ H ρ H':=⟨⟨[],by simp⟩,fun _ h=>.inl h,fun p o h _=>s p o h⟩
theorem Ext.get (e:Ext ρ H ρ' H'){n:Nat}{a:Addr}(h : ρ[n]? = some a) : ρ'[n]? = some a:=by
  obtain⟨t,rfl⟩:=e.pre
  rw [List.getElem?_append_left (List.getElem?_eq_some_iff.mp h).1]
  exact h
theorem RH.mut (r:RH K ρ H hd){a:Addr}(h:a ∈ ρ):(∃ vs,H a=some (.lst vs)) ∨ ∃ kvs,H a=some (.dK kvs):=by
  obtain⟨n,hn⟩:=List.getElem?_of_mem h
  have hl:=(List.getElem?_eq_some_iff.mp hn).1
  have hc:hd[n]? = some (hd[n]'(by rw [← r.len];exact hl)):=by simp
  have q:=r.cel n _ a hc hn
  cases e:hd[n]'(by rw [← r.len];exact hl) with
  | lst l=>rw [e] at q;obtain⟨vs,h1,_⟩:=q;exact .inl ⟨vs,h1⟩
  | dct l=>rw [e] at q;obtain⟨vs,h1,_⟩:=q;exact .inr ⟨vs,h1⟩
theorem RH.noTup (r:RH K ρ H hd){a:Addr}{vs:List V}(h:H a=some (.tup vs)):a ∉ ρ:=fun z=>by
  rcases r.mut z with ⟨_,q⟩|⟨_,q⟩<;>(rw [h] at q;cases q)
theorem RH.noFrz (r:RH K ρ H hd){a:Addr}{o:Obj}{u:HO}(h:H a=some (.frz o u)):a ∉ ρ:=fun z=>by
  rcases r.mut z with ⟨_,q⟩|⟨_,q⟩<;>(rw [h] at q;cases q)
theorem RH.noExt (r:RH K ρ H hd){a:Addr}{φ : Heap→Prop}(h:H a=some (.ext φ)):a ∉ ρ:=fun z=>by
  rcases r.mut z with ⟨_,q⟩|⟨_,q⟩<;>(rw [h] at q;cases q)
structure Kp (ρ:List Addr) (H:Hp) (ρ':List Addr) (H':Hp):Prop where
  get:∀ (n:Nat) a,ρ[n]? = some a → ρ'[n]? = some a
  tup:∀ a vs,H a=some (.tup vs)→H' a=some (.tup vs)
  frz:∀ a o u,H a=some (.frz o u)→H' a=some (.frz o u)
  ext:∀ a φ,H a=some (.ext φ)→H' a=some (.ext φ)
theorem RH.kp (r:RH K ρ H hd)(e:Ext ρ H ρ' H'):Kp ρ H ρ' H' :=
  ⟨fun _ _ h=>e.get h,fun _ _ h=>e.frame _ _ h (r.noTup h),fun _ _ _ h=>e.frame _ _ h (r.noFrz h),fun _ _ h=>e.frame _ _ h (r.noExt h)⟩
theorem Kp.same (s:hJ H H'):Kp ρ H ρ H':=⟨fun _ _ h=>h,fun _ _ h=>s _ _ h,fun _ _ _ h=>s _ _ h,fun _ _ h=>s _ _ h⟩
theorem mT.mono {a:Addr}{xs:List V}(k:Kp ρ H ρ' H')(h:mT K H a xs):mT K H' a xs:=by
  rcases h with ⟨o,h⟩|h
  · exact .inl ⟨o,k.frz _ _ _ h⟩
  · exact .inr h
mutual
theorem RD.mono (k:Kp ρ H ρ' H'):∀ {d:D} {v:V},RD K ρ H d v→RD K ρ' H' d v
  | .non,_,h=>by simp only [RD] at h ⊢;exact h
  | .bl _,_,h=>by simp only [RD] at h ⊢;exact h
  | .int _,_,h=>by simp only [RD] at h ⊢;exact h
  | .str _,_,h=>by simp only [RD] at h ⊢;exact h
  | .tup l,_,h=>by
    simp only [RD] at h ⊢
    obtain⟨p,vs,e,h1,h2⟩:=h
    exact⟨p,vs,e,k.tup _ _ h1,RDs.mono k h2⟩
  | .lit l,_,h=>by
    simp only [RD] at h ⊢
    obtain⟨p,vs,e,h1,h2⟩:=h
    exact⟨p,vs,e,h1.mono k,RDs.mono k h2⟩
  | .ref n,_,h=>by
    simp only [RD] at h ⊢
    obtain⟨a,h1,h2⟩:=h
    exact⟨a,k.get _ _ h1,h2⟩
  | .exn _ _,_,h=>by
    simp only [RD] at h ⊢
    obtain⟨e0,a,C,e,h1,h2⟩:=h
    exact⟨e0,a,C,e,k.ext _ _ h1,h2⟩
theorem RDs.mono (k:Kp ρ H ρ' H'):∀ {l:List D} {vs:List V},RDs K ρ H l vs→RDs K ρ' H' l vs
  | [],_,h=>by simp only [RDs] at h ⊢;exact h
  | d :: ds,_,h=>by
    simp only [RDs] at h ⊢
    obtain⟨v,r,e,h1,h2⟩:=h
    exact⟨v,r,e,RD.mono k h1,RDs.mono k h2⟩
end
theorem RDs.nil:RDs K ρ H [] []:=by simp only [RDs]
theorem RDs.cons {d:D}{v:V}{ds:List D}{vs:List V}(h:RD K ρ H d v)(t:RDs K ρ H ds vs):RDs K ρ H (d :: ds) (v :: vs):=by
  simp only [RDs];exact⟨v,vs,rfl,h,t⟩
theorem RDs.length:∀ {l:List D} {vs:List V},RDs K ρ H l vs→l.length=vs.length
  | [],_,h=>by simp only [RDs] at h;subst h;rfl
  | d :: ds,_,h=>by
    simp only [RDs] at h
    obtain⟨v,r,e,h1,h2⟩:=h
    subst e
    simp [RDs.length h2]
theorem RDs.get:∀ {l:List D} {vs:List V} {i:Nat} {d:D},RDs K ρ H l vs→l[i]? = some d → ∃ v,vs[i]? = some v∧RD K ρ H d v
  | [],_,i,_,_,e=>by simp at e
  | d :: ds,_,0,_,h,e=>by
    simp only [RDs] at h
    obtain⟨v,r,e',h1,h2⟩:=h
    subst e'
    simp at e
    subst e
    exact⟨v,rfl,h1⟩
  | d :: ds,_,i + 1,x,h,e=>by
    simp only [RDs] at h
    obtain⟨v,r,e',h1,h2⟩:=h
    subst e'
    obtain⟨w,hw,q⟩:=RDs.get (i:=i) (d:=x) h2 (by simpa using e)
    exact⟨w,by simpa using hw,q⟩
theorem RDs.set {d:D}{v:V}(h:RD K ρ H d v):∀ {l:List D} {vs:List V} (i:Nat),RDs K ρ H l vs→RDs K ρ H (l.set i d) (vs.set i v)
  | [],_,_,q=>by simp only [RDs] at q;subst q;exact RDs.nil
  | x :: xs,_,i,q=>by
    simp only [RDs] at q
    obtain⟨w,r,e,h1,h2⟩:=q
    subst e
    cases i with
    | zero=>exact RDs.cons h h2
    | succ i=>exact RDs.cons h1 (RDs.set h i h2)
theorem RDs.append:∀ {l l':List D} {vs vs':List V},RDs K ρ H l vs→RDs K ρ H l' vs'→RDs K ρ H (l++l') (vs++vs')
  | [],_,_,_,h,q=>by simp only [RDs] at h;subst h;exact q
  | d :: ds,_,_,_,h,q=>by
    simp only [RDs] at h
    obtain⟨v,r,e,h1,h2⟩:=h
    subst e
    exact RDs.cons h1 (RDs.append h2 q)
theorem RDs.take:∀ {l:List D} {vs:List V} (n:Nat),RDs K ρ H l vs→RDs K ρ H (l.take n) (vs.take n)
  | _,_,0,_=>by simp;exact RDs.nil
  | [],_,n + 1,h=>by simp only [RDs] at h;subst h;exact RDs.nil
  | d :: ds,_,n + 1,h=>by
    simp only [RDs] at h
    obtain⟨v,r,e,h1,h2⟩:=h
    subst e
    exact RDs.cons h1 (RDs.take n h2)
theorem RDs.drop:∀ {l:List D} {vs:List V} (n:Nat),RDs K ρ H l vs→RDs K ρ H (l.drop n) (vs.drop n)
  | _,_,0,h=>by simpa using h
  | [],_,n + 1,h=>by simp only [RDs] at h;subst h;exact RDs.nil
  | d :: ds,_,n + 1,h=>by
    simp only [RDs] at h
    obtain⟨v,r,e,h1,h2⟩:=h
    subst e
    simpa using RDs.drop n h2
theorem RC.mono {c:cm}{a:Addr}(k:Kp ρ H ρ' H')(e:H' a=H a)(h:RC K ρ H c a):RC K ρ' H' c a:=by
  cases c with
  | lst l=>obtain⟨vs,h1,h2⟩:=h;exact⟨vs,e.trans h1,h2.mono k⟩
  | dct l=>obtain⟨vs,h1,h2,h3⟩:=h;exact⟨vs,e.trans h1,h2,h3.mono k⟩
theorem RH.same (r:RH K ρ H hd)(s:hJ H H'):RH K ρ H' hd :=
  ⟨r.len,r.nd,fun n c a h1 h2=>(r.cel n c a h1 h2).mono (Kp.same s) (by
    rcases r.mut (List.mem_of_getElem? h2) with ⟨_,q⟩|⟨_,q⟩<;>rw [q,s _ _ q])⟩
theorem RSt.mono (k:Kp ρ H ρ' H')(r:RSt K ρ H σd σ):RSt K ρ' H' σd σ :=
  ⟨r.len,fun i d h=>let ⟨v,h1,h2⟩:=r.at' i d h;⟨v,h1,h2.mono k⟩⟩
theorem RS.same (r:RS K ρ H σd hd σ)(s:hJ H H'):RS K ρ H' σd hd σ:=⟨r.hp.same s,r.st.mono (Kp.same s)⟩
theorem bG {p:Addr}{o:HO}(h:H p=none):hJ H (upd H p o):=fun b u e=>by
  rw [ay (cR e h)];exact e
theorem RH.alloc (r:RH K ρ H hd){p:Addr}{l:List D}{vs:List V}(hp:H p=some (.lst vs))(hn:p ∉ ρ)(h:RDs K ρ H l vs):RH K (ρ ++ [p]) H (hd++[.lst l]):=by
  have k:Kp ρ H (ρ ++ [p]) H:=⟨fun n a e=>by rw [List.getElem?_append_left (List.getElem?_eq_some_iff.mp e).1];exact e,fun _ _ h=>h,fun _ _ _ h=>h,fun _ _ h=>h⟩
  refine⟨by simp [r.len],?_,fun n c a h1 h2 => ?_⟩
  · rw [List.nodup_append]
    exact⟨r.nd,by simp,fun a ha b hb=>by simp at hb;subst hb;intro e;subst e;exact hn ha⟩
  · by_cases hlt:n < hd.length
    · rw [List.getElem?_append_left hlt] at h1
      rw [List.getElem?_append_left (by rw [r.len];exact hlt)] at h2
      exact (r.cel n c a h1 h2).mono k rfl
    · have e1:n=hd.length:=by
        have:=(List.getElem?_eq_some_iff.mp h1).1
        simp at this
        omega
      subst e1
      simp at h1
      subst h1
      rw [← r.len] at h2
      simp at h2
      subst h2
      exact⟨vs,hp,h.mono k⟩
theorem ou {α : Type}:∀ {l:List α},l.Nodup → ∀ {i j:Nat} {x : α},l[i]? = some x→l[j]? = some x→i=j
  | [],_,i,_,_,e,_=>by simp at e
  | a :: l,nd,0,0,_,_,_=>rfl
  | a :: l,nd,0,j + 1,x,e,e'=>by
    simp at e e'
    subst e
    exact absurd (List.mem_of_getElem? e') (List.nodup_cons.mp nd).1
  | a :: l,nd,i + 1,0,x,e,e'=>by
    simp at e e'
    subst e'
    exact absurd (List.mem_of_getElem? e) (List.nodup_cons.mp nd).1
  | a :: l,nd,i + 1,j + 1,x,e,e'=>by
    simp at e e'
    rw [ou (List.nodup_cons.mp nd).2 e e']
theorem RH.write (r:RH K ρ H hd){n:Nat}{p:Addr}{l:List D}{vs:List V}(hp : ρ[n]? = some p)(hn:n < hd.length)(h:RDs K ρ H l vs):RH K ρ (upd H p (.lst vs)) (hd.set n (.lst l)):=by
  have k:Kp ρ H ρ (upd H p (.lst vs)):=by
    have hm:=List.mem_of_getElem? hp
    refine⟨fun _ _ h=>h,fun a us e => ?_,fun a o u e => ?_,fun a φ e => ?_⟩
    · rw [ay (fun z=>r.noTup e (by rw [z];exact hm))];exact e
    · rw [ay (fun z=>r.noFrz e (by rw [z];exact hm))];exact e
    · rw [ay (fun z=>r.noExt e (by rw [z];exact hm))];exact e
  refine⟨by simp [r.len],r.nd,fun m c a h1 h2 => ?_⟩
  by_cases e:n=m
  · subst e
    rw [List.getElem?_set_self hn] at h1
    cases h1
    rw [hp] at h2
    cases h2
    exact⟨vs,aO,h.mono k⟩
  · rw [List.getElem?_set_ne e] at h1
    have ne:a≠p:=fun z=>by
      subst z
      exact e (ou r.nd hp h2)
    exact (r.cel m c a h1 h2).mono k (ay ne)
theorem Ext.write {p:Addr}{o:HO}(hp:p ∈ ρ):Ext ρ H ρ (upd H p o) :=
  ⟨⟨[],by simp⟩,fun _ h=>.inl h,fun q u e n=>by rw [ay (fun z=>n (by rw [z];exact hp))];exact e⟩
theorem Ext.alloc {p:Addr}(h:H p=none){o:HO}:Ext ρ H (ρ ++ [p]) (upd H p o) :=
  ⟨⟨[p],rfl⟩,fun a ha=>by
    rcases List.mem_append.mp ha with q|q
    · exact .inl q
    · simp at q;subst q;exact .inr h,fun q u e _=>bG h q u e⟩
theorem RS.ext (r:RS K ρ H σd hd σ)(e:Ext ρ H ρ' H')(h:RH K ρ' H' hd'):RS K ρ' H' σd hd' σ:=⟨h,r.st.mono (r.hp.kp e)⟩
end
end Fm
set_option Elab.async false
set_option linter.all false
set_option maxRecDepth 100000
namespace Fm
open PySem PySem.Spec L2
abbrev VR (α β : Type):=List Addr→Hp → α → β → Prop
section
variable (K:PySem.W.Frag)
def bp {α β : Type} (R:VR α β) (ρ:List Addr) (H:Hp) (σd:Sd) (σ:St) (r:Res α) (Q : β → Hp→Prop):Prop:=match r with
  | .ok a hd'=>∀ b H' ρ',Ext ρ H ρ' H'→RS K ρ' H' σd hd' σ → R ρ' H' a b→Q b H'
  | _=>False
def jU {α β : Type} (R:VR α β) (f:Sd→Hd→Res α):St→Hp→(β → Hp→Prop)→Prop:=fun σ H Q =>
  ∃ ρ σd hd,RS K ρ H σd hd σ ∧ bp K R ρ H σd σ (f σd hd) Q
abbrev rD:VR D V:=fun ρ H d v=>RD K ρ H d v
abbrev rDs:VR (List D) (List V):=fun ρ H d v=>RDs K ρ H d v
abbrev rB:VR Bool Bool:=fun _ _ a b=>a=b
abbrev rO:VR (Option Int) (Option Int):=fun _ _ a b=>a=b
def rQ:VR (List D) V:=fun ρ H l v=>∃ p vs,v=.ref p∧(SqL K H p vs∨H p=some (.tup vs))∧RDs K ρ H l vs
def wF (ρ:List Addr) (H:Hp) (σd:Sd) (σ:St) (r:Res (List D)) (Q:VK):Prop:=match r with
  | .ok l hd'=>∀ q vs H' ρ',Ext ρ H ρ' H'→RS K ρ' H' σd hd' σ → H q=none→H' q=some (.lst vs)→q ∉ ρ'→RDs K ρ' H' l vs→Q (.ref q) H'
  | _=>False
def Jm (f:LF):TE:=fun σ H Q=>∃ ρ σd hd,RS K ρ H σd hd σ ∧ wF K ρ H σd σ (f σd hd) Q
def bI (ρ:List Addr) (H:Hp) (o:Out) (E:n6):Prop:=match o with
  | .nx σd hd=>∀ σ H' ρ',Ext ρ H ρ' H'→RS K ρ' H' σd hd σ → E.nx σ H'
  | .bk σd hd=>∀ σ H' ρ',Ext ρ H ρ' H'→RS K ρ' H' σd hd σ → E.bk σ H'
  | .ct σd hd=>∀ σ H' ρ',Ext ρ H ρ' H'→RS K ρ' H' σd hd σ → E.ct σ H'
  | .rt d hd=>∀ v H' ρ',Ext ρ H ρ' H'→RH K ρ' H' hd→RD K ρ' H' d v→E.rt v H'
  | _=>False
def Gy (f:SF):TS:=fun E σ H=>∃ ρ σd hd,RS K ρ H σd hd σ ∧ bI K ρ H (f σd hd) E
end
def ME (X:Cx) (e:Expr) (f:EF):Prop:=PE X e (jU X.K (rD X.K) f)
def MQ (X:Cx) (e:Expr) (f:LF):Prop:=PE X e (jU X.K (rQ X.K) f)
def MF (X:Cx) (e:Expr) (f:LF):Prop:=PE X e (Jm X.K f)
def MT (X:Cx) (e:Expr) (f:TF):Prop:=PT X e (jU X.K rB f)
def MW (X:Cx) (e:Expr) (f:TF):Prop:=PW X e (jU X.K rB f)
def MA (X:Cx) (es:List Expr) (f:LF):Prop:=PA X es (jU X.K (rDs X.K) f)
def MS (X:Cx) (s:Stmt) (f:SF):Prop:=PS X s (Gy X.K f)
def MSs (X:Cx) (s:List Stmt) (f:SF):Prop:=PSs X s (Gy X.K f)
section
variable {X:Cx}
theorem PE.imp {e:Expr}{t u:TE}(h:PE X e t)(i:∀ σ H Q,u σ H Q→t σ H Q):PE X e u:=fun pins s σ H Q I q=>h pins s σ H Q I (i σ H Q q)
theorem PT.imp {e:Expr}{t u:TT}(h:PT X e t)(i:∀ σ H Q,u σ H Q→t σ H Q):PT X e u:=fun pins s σ H Q I q=>h pins s σ H Q I (i σ H Q q)
theorem PW.imp {e:Expr}{t u:TT}(h:PW X e t)(i:∀ σ H Q,u σ H Q→t σ H Q):PW X e u:=fun w pins s σ H Q I q=>h w pins s σ H Q I (i σ H Q q)
theorem PA.imp {e:List Expr}{t u:TA}(h:PA X e t)(i:∀ σ H Q,u σ H Q→t σ H Q):PA X e u:=fun p pins s σ H Q I q=>h p pins s σ H Q I (i σ H Q q)
theorem PS.imp {e:Stmt}{t u:TS}(h:PS X e t)(i:∀ D σ H,u D σ H→t D σ H):PS X e u:=fun pins s σ H D I q=>h pins s σ H D I (i D σ H q)
theorem PSs.imp {e:List Stmt}{t u:TS}(h:PSs X e t)(i:∀ D σ H,u D σ H→t D σ H):PSs X e u:=fun pins s σ H D I q=>h pins s σ H D I (i D σ H q)
end
section
variable {K:PySem.W.Frag} {ρ ρ':List Addr} {H H':Hp} {hd hd':Hd} {σd:Sd} {σ:St} {α β α' β':Type} {R:VR α β} {R':VR α' β'}
theorem bp.here {a : α}{b : β}{Q : β → Hp→Prop}(h:bp K R ρ H σd σ (.ok a hd) Q)(r:RS K ρ H σd hd σ)(q:R ρ H a b):Q b H:=h b H ρ Ext.refl r q
theorem bp.at {a : α}{b : β}{Q : β → Hp→Prop}(h:bp K R ρ H σd σ (.ok a hd) Q)(e:Ext ρ H ρ' H')(r:RS K ρ' H' σd hd σ)(q:R ρ' H' a b):Q b H':=h b H' ρ' e r q
theorem bp.imp {r:Res α}{Q Q' : β → Hp→Prop}(h:bp K R ρ H σd σ r Q)(i:∀ b H',Q b H'→Q' b H'):bp K R ρ H σd σ r Q':=by
  cases r with
  | ok a h'=>exact fun b H' ρ' e s q=>i b H' (h b H' ρ' e s q)
  | exc x h'=>exact h
  | bad=>exact h
theorem bp.ext {r:Res α}{Q : β → Hp→Prop}(e:Ext ρ H ρ' H')(h:bp K R ρ H σd σ r Q):bp K R ρ' H' σd σ r Q:=by
  cases r with
  | ok a h'=>exact fun b H'' ρ'' e' s q=>h b H'' ρ'' (e.trans e') s q
  | exc x h'=>exact h
  | bad=>exact h
theorem bp.bind {r:Res α}{k : α → Hd→Res α'}{Q : β'→Hp→Prop}(h:bp K R' ρ H σd σ (r.bind k) Q) :
    bp K R ρ H σd σ r (fun b H'=>∃ ρ' a hd',Ext ρ H ρ' H'∧RS K ρ' H' σd hd' σ ∧ R ρ' H' a b∧bp K R' ρ' H' σd σ (k a hd') Q):=by
  cases r with
  | ok a h'=>exact fun b H' ρ' e s q=>⟨ρ',a,h',e,s,q,bp.ext e h⟩
  | exc x h'=>exact h
  | bad=>exact h
theorem bI.ext {o:Out}{E:n6}(e:Ext ρ H ρ' H')(h:bI K ρ H o E):bI K ρ' H' o E:=by
  cases o with
  | nx σ h'=>exact fun σ' H'' ρ'' e' s=>h σ' H'' ρ'' (e.trans e') s
  | bk σ h'=>exact fun σ' H'' ρ'' e' s=>h σ' H'' ρ'' (e.trans e') s
  | ct σ h'=>exact fun σ' H'' ρ'' e' s=>h σ' H'' ρ'' (e.trans e') s
  | rt d h'=>exact fun v H'' ρ'' e' s q=>h v H'' ρ'' (e.trans e') s q
  | exc x σ h'=>exact h
  | bad=>exact h
end
section
variable {X:Cx} {pos:Pos}
theorem Hr {i:Nat} {x:Str} (hN:X.N[i]? = some x) (hv:Vis X.env.scope x) (hd:(x == ("__debug__" : Str))=false:=by decide) (hcd:(x == ("__classdict__" : Str))=false:=by decide):ME X (.Name x pos) (aa i):=by
  refine PE.imp (CZ hN hv hd hcd) fun σ H Q ⟨ρ,σd,hd,r,h⟩ => ?_
  unfold aa at h
  cases e:slot σd i with
  | none=>rw [e] at h;exact h.elim
  | some d =>
    rw [e] at h
    obtain⟨v,h1,h2⟩:=r.st.at' i d e
    exact⟨v,h1,h.here r h2⟩
theorem uo {K:PySem.W.Frag}{d:D}{v:V}(hv:∀ ρ H,RD K ρ H d v):∀ σ H Q,jU K (rD K) (fC d) σ H Q→tC v σ H Q:=fun _ H _ ⟨ρ,_,_,r,h⟩=>h.here r (hv ρ H)
theorem ah {i:Int}{j}:ME X (.Constant (.int i) j pos) (fC (.int i)):=PE.imp GT (uo fun _ _=>by simp only [RD])
theorem sS {b j}:ME X (.Constant (.bool b) j pos) (fC (.bl b)):=PE.imp IQ (uo fun _ _=>by simp only [RD])
theorem eD {j}:ME X (.Constant .none j pos) (fC .non):=PE.imp GU (uo fun _ _=>by simp only [RD])
theorem kP {x:Str} {i:Int} {t:Tok} (hg:Gl X x) (hm:X.mg x=some (.int i t)) (hd:(x == ("__debug__" : Str))=false:=by decide):ME X (.Name x pos) (fC (.int i)) :=
  PE.imp (ff (v:=.int i) hg hm ⟨t,rfl⟩ hd) (uo fun _ _=>by simp only [RD])
theorem me2 {a b:Expr}{fa fb:EF}{r:R2}{g:O2}{e:Expr}(h:PE X e (tOp r (jU X.K (rD X.K) fa) (jU X.K (rD X.K) fb)))
    (hg:∀ ρ H σd hd σ d k v w Q,RS X.K ρ H σd hd σ → RD X.K ρ H d v→RD X.K ρ H k w→bp X.K (rD X.K) ρ H σd σ (g d k hd) Q→r v w H Q):ME X e (af g fa fb):=by
  refine PE.imp h fun σ H Q ⟨ρ,σd,hd,rs,p⟩ => ?_
  refine⟨ρ,σd,hd,rs,(bp.bind (R:=rD X.K) p).imp fun v H1 ⟨ρ1,d,hd1,e1,rs1,rv,p1⟩ => ?_⟩
  refine⟨ρ1,σd,hd1,rs1,(bp.bind (R:=rD X.K) p1).imp fun w H2 ⟨ρ2,k,hd2,e2,rs2,rw',p2⟩ => ?_⟩
  exact hg ρ2 H2 σd hd2 σ d k v w Q rs2 (rv.mono (rs1.hp.kp e2)) rw' p2
def Og (K:PySem.W.Frag) (g:O2) (r:R2):Prop:=∀ ρ H σd hd σ d k v w Q,RS K ρ H σd hd σ → RD K ρ H d v→RD K ρ H k w→bp K (rD K) ρ H σd σ (g d k hd) Q→r v w H Q
theorem aE {a b:Expr}{fa fb:EF}{op:Operator}{r:R2}{g:O2}(ho:OpR X (binaryOp op) r)(hg:Og X.K g r)(ha:ME X a fa)(hb:ME X b fb):ME X (.BinOp a op b pos) (af g fa fb) :=
  me2 (a:=a) (b:=b) (Dd ho ha hb) hg
theorem fW {a b:Expr}{fa fb:EF}{op:CmpOp}{r:R2}{g:O2}(ho:OpR X (compareOp op) r)(hg:Og X.K g r)(ha:ME X a fa)(hb:ME X b fb)(hm:behindInMarks op b=false):ME X (.Compare a [op] [b] pos) (af g fa fb) :=
  me2 (a:=a) (b:=b) (Fk ho ha hb hm) hg
theorem Dm {K:PySem.W.Frag}{g:Int→Int→Int}:Og K (oI g) (rI0 fun i j=>.int (g i j)):=by
  intro ρ H σd hd σ d k v w Q rs rv rw' p
  cases d<;>cases k<;>first|exact p.elim|skip
  simp only [RD] at rv rw'
  exact⟨_,_,rv,rw',p.here rs (by simp only [rD,RD])⟩
theorem up {K:PySem.W.Frag}{g:Int→Int→Bool}:Og K (oB g) (rI0 fun i j=>.bl (g i j)):=by
  intro ρ H σd hd σ d k v w Q rs rv rw' p
  cases d<;>cases k<;>first|exact p.elim|skip
  simp only [RD] at rv rw'
  exact⟨_,_,rv,rw',p.here rs (by simp only [rD,RD])⟩
theorem Dn {K:PySem.W.Frag}{c:Int→Int→Bool}{C:Int→Int→Prop}{g:Int→Int→Int}(hc:∀ i j,c i j=true→C i j):Og K (oIc c g) (rI C fun i j=>.int (g i j)):=by
  intro ρ H σd hd σ d k v w Q rs rv rw' p
  cases d<;>cases k<;>first|exact p.elim|skip
  rename_i i j
  simp only [RD] at rv rw'
  cases e:c i j with
  | false=>simp only [oIc,e] at p;exact p.elim
  | true =>
    simp only [oIc,e,if_true] at p
    exact⟨i,j,rv,rw',hc i j e,p.here rs (by simp only [rD,RD])⟩
theorem AB {i:Int}(h:sml i=true) : -(2 ^ 64) < i∧i < 2 ^ 64:=by
  simp only [sml,Bool.and_eq_true,decide_eq_true_eq] at h;exact h
theorem de {K:PySem.W.Frag}:Og K bh (rI Fj fun i j=>.int (i * j)):=Dn fun i j h=>by
  rcases (Bool.or_eq_true _ _).mp h with q|q
  · exact .inl (AB q)
  · exact .inr (AB q)
theorem d7 {K:PySem.W.Frag}:Og K ck (rI (fun _ j=>0 < j) fun i j=>.int (i % j)):=Dn fun i j h=>of_decide_eq_true h
def Jn (_ j:Int):Prop:=0 < j∧j < 2 ^ 250
theorem dr:OpR X (binaryOp .FloorDiv) (rI Jn fun i j=>.int (i / j)):=opI fun i j _ _ _ _ _ hc q=>by
  have h0:j≠0:=by have:=hc.1;omega
  refine PyProof.Rows.floordiv_int h0 (by rw [Int.fdiv_eq_ediv_of_nonneg _ (Int.le_of_lt hc.1)];exact q) (.inl (PyProof.noPylong_of_log2 ?_))
  have h2:j.natAbs < 2 ^ 250:=by have:=hc.2;have:=hc.1;omega
  have h3:j.natAbs≠0:=by omega
  have:=(Nat.log2_lt h3).mpr h2
  omega
theorem fX {K:PySem.W.Frag}:Og K fI (rI Jn fun i j=>.int (i / j)):=Dn fun i j h=>by
  simp only [Bool.and_eq_true,decide_eq_true_eq] at h;exact h
theorem Do {K:PySem.W.Frag}{ρ:List Addr}{H:Hp}{d:D}{v:V}(h:RD K ρ H d v):AA d=decide (v=.non):=by
  cases d<;>simp only [RD] at h
  · subst h;rfl
  · subst h;rfl
  · subst h;rfl
  · subst h;rfl
  · obtain⟨p,vs,rfl,_⟩:=h;rfl
  · obtain⟨p,vs,rfl⟩:=h;rfl
  · obtain⟨p,vs,rfl,_⟩:=h;rfl
  · obtain⟨_,p,vs,rfl,_⟩:=h;rfl
theorem ow {K:PySem.W.Frag}:Og K l4 (fun x y H Q=>y=.non∧Q (.bl (decide (x=.non))) H):=by
  intro ρ H σd hd σ d k v w Q rs rv rw' p
  unfold l4 at p
  cases e:AA k with
  | false=>rw [e] at p;exact p.elim
  | true =>
    rw [e,if_pos rfl] at p
    refine⟨of_decide_eq_true ((Do rw').symm.trans e),?_⟩
    rw [← Do rv]
    exact p.here rs (by simp only [rD,RD])
theorem l8 {K:PySem.W.Frag}{ρ:List Addr}{H:Hp}{σd:Sd}{σ:St}{r:Res D}{Q:Bool→Hp→Prop}(h:bp K rB ρ H σd σ (asB r) Q):bp K (rD K) ρ H σd σ r (fun x H'=>∃ c,x=.bl c∧Q c H'):=by
  refine (bp.bind (R:=rD K) h).imp fun v H1 ⟨ρ1,d,hd1,e1,rs1,rv,p1⟩ => ?_
  cases d<;>first|exact p1.elim|skip
  simp only [rD,RD] at rv
  exact⟨_,rv,p1.here rs1 rfl⟩
theorem df {e:Expr}{f:EF}(h:ME X e f)(he:∀ whole,isTrue e X.env whole=(do let v ← whole;standAt e.pos;holding [v] (truthy v)):=by intro _;rfl):MT X e (tE f) :=
  PT.imp (GW h he) fun σ H Q ⟨ρ,σd,hd,rs,p⟩=>⟨ρ,σd,hd,rs,l8 p⟩
theorem cG {a b:Expr}{fa fb:EF}{op:CmpOp}{r:R2}{g:O2}(ho:OpR X (compareOp op) r)(hg:Og X.K g r)(ha:ME X a fa)(hb:ME X b fb)(hm:behindInMarks op b=false):MT X (.Compare a [op] [b] pos) (tE (af g fa fb)):=by
  refine PT.imp (Fl ho ha hb hm) fun σ H Q ⟨ρ,σd,hd,rs,p⟩ => ?_
  have p:=l8 p
  refine⟨ρ,σd,hd,rs,(bp.bind (R:=rD X.K) p).imp fun v H1 ⟨ρ1,d,hd1,e1,rs1,rv,p1⟩ => ?_⟩
  refine⟨ρ1,σd,hd1,rs1,(bp.bind (R:=rD X.K) p1).imp fun w H2 ⟨ρ2,k,hd2,e2,rs2,rw',p2⟩ => ?_⟩
  exact hg ρ2 H2 σd hd2 σ d k v w _ rs2 (rv.mono (rs1.hp.kp e2)) rw' p2
theorem d8 {a:Expr}{t:TF}(h:MT X a t):MT X (.UnaryOp .Not a pos) (dU t):=by
  refine PT.imp (GY h) fun σ H Q ⟨ρ,σd,hd,rs,p⟩=>⟨ρ,σd,hd,rs,(bp.bind (R:=rB) p).imp fun c H1 ⟨ρ1,d,hd1,e1,rs1,rv,p1⟩ => ?_⟩
  cases rv
  exact p1.here rs1 rfl
theorem kh {op a}{t:TF}(h:MT X a t)(ho:op=BoolOp.And∨op=BoolOp.Or):MW X (.BoolOp op [a] pos) t:=by
  rcases ho with rfl|rfl
  · exact Fg h
  · exact GX h
theorem kQ {a b:Expr}{rest:List Expr}{t u:TF}(ha:MT X a t)(hb:MW X (.BoolOp .Or (b :: rest) pos) u):MW X (.BoolOp .Or (a :: b :: rest) pos) (tOr t u):=by
  refine PW.imp (IR ha hb) fun σ H Q ⟨ρ,σd,hd,rs,p⟩=>⟨ρ,σd,hd,rs,(bp.bind (R:=rB) p).imp fun c H1 ⟨ρ1,d,hd1,e1,rs1,rv,p1⟩ => ?_⟩
  cases rv
  cases c with
  | true=>simp only [if_true] at p1 ⊢;exact p1.here rs1 rfl
  | false=>simp only [Bool.false_eq_true,if_false] at p1 ⊢;exact⟨ρ1,σd,hd1,rs1,p1⟩
theorem MW.mt {e:Expr}{t:TF}(h:MW X e t):MT X e t:=h.pt
theorem Fy {K:PySem.W.Frag}{t:TF}{σ:St}{H:Hp}{Q:VK}(h:jU K (rD K) (fT t) σ H Q):jU K rB t σ H (fun b H'=>Q (.bl b) H'):=by
  obtain⟨ρ,σd,hd,rs,p⟩:=h
  refine⟨ρ,σd,hd,rs,(bp.bind (R:=rB) p).imp fun c H1 ⟨ρ1,d,hd1,e1,rs1,rv,p1⟩ => ?_⟩
  cases rv
  exact p1.here rs1 (by simp only [rD,RD])
def MB (X:Cx) (e:Expr) (t:TF):Prop:=PE X e (fun σ H Q=>jU X.K rB t σ H fun b H'=>Q (.bl b) H')
theorem MB.me {e:Expr}{t:TF}(h:MB X e t):ME X e (fT t):=PE.imp h fun _ _ _ q=>Fy q
theorem fF {e:Expr}{f:EF}(h:ME X e f):MB X e (tE f):=by
  refine PE.imp h fun σ H Q ⟨ρ,σd,hd,rs,p⟩=>⟨ρ,σd,hd,rs,(l8 p).imp ?_⟩
  rintro v H1 ⟨c,rfl,q⟩
  exact q
theorem ji {op a}{t:TF}(h:MB X a t):MB X (.BoolOp op [a] pos) t:=GZ h
theorem ma {a b:Expr}{rest:List Expr}{t u:TF}(ha:MB X a t)(hb:MB X (.BoolOp .And (b :: rest) pos) u):MB X (.BoolOp .And (a :: b :: rest) pos) (n8 t u):=by
  refine PE.imp (G0 ha hb) fun σ H Q ⟨ρ,σd,hd,rs,p⟩=>⟨ρ,σd,hd,rs,(bp.bind (R:=rB) p).imp fun c H1 ⟨ρ1,d,hd1,e1,rs1,rv,p1⟩=>⟨c,rfl,?_⟩⟩
  cases rv
  cases c with
  | true=>simp only [if_true] at p1 ⊢;exact⟨ρ1,σd,hd1,rs1,p1⟩
  | false=>simp only [Bool.false_eq_true,if_false] at p1 ⊢;exact p1.here rs1 rfl
theorem Gz {a b:Expr}{rest:List Expr}{t u:TF}(ha:MB X a t)(hb:MB X (.BoolOp .Or (b :: rest) pos) u):MB X (.BoolOp .Or (a :: b :: rest) pos) (tOr t u):=by
  refine PE.imp (IU ha hb) fun σ H Q ⟨ρ,σd,hd,rs,p⟩=>⟨ρ,σd,hd,rs,(bp.bind (R:=rB) p).imp fun c H1 ⟨ρ1,d,hd1,e1,rs1,rv,p1⟩=>⟨c,rfl,?_⟩⟩
  cases rv
  cases c with
  | true=>simp only [if_true] at p1 ⊢;exact p1.here rs1 rfl
  | false=>simp only [Bool.false_eq_true,if_false] at p1 ⊢;exact⟨ρ1,σd,hd1,rs1,p1⟩
theorem Hs {a:Expr}{t:TF}(h:MB X a t):MB X (.UnaryOp .Not a pos) (dU t):=by
  refine PE.imp (G1 h) fun σ H Q ⟨ρ,σd,hd,rs,p⟩=>⟨ρ,σd,hd,rs,(bp.bind (R:=rB) p).imp fun c H1 ⟨ρ1,d,hd1,e1,rs1,rv,p1⟩=>⟨c,rfl,?_⟩⟩
  cases rv
  exact p1.here rs1 rfl
end
end Fm
set_option Elab.async false
set_option linter.all false
set_option maxRecDepth 100000
namespace Fm
open PySem PySem.Spec L2
section
variable {X:Cx} {pos:Pos}
theorem yR {K:PySem.W.Frag}{ρ:List Addr}{H:Hp}{σd:Sd}{hd:Hd}{σ:St}{r r':R2}{g k:O2}{fa fb fc:EF}{Q:VK}(hg:Og K g r)(hk:Og K k r')(rs:RS K ρ H σd hd σ)
    (p:bp K (rD K) ρ H σd σ (ot g k fa fb fc σd hd) Q):De r r' (jU K (rD K) fa) (jU K (rD K) fb) (jU K (rD K) fc) σ H Q:=by
  refine⟨ρ,σd,hd,rs,(bp.bind (R:=rD K) p).imp fun v H1 ⟨ρ1,d,hd1,e1,rs1,rv,p1⟩ => ?_⟩
  refine⟨ρ1,σd,hd1,rs1,(bp.bind (R:=rD K) p1).imp fun w H2 ⟨ρ2,d2,hd2,e2,rs2,rw2,p2⟩ => ?_⟩
  refine hg ρ2 H2 σd hd2 σ d d2 v w _ rs2 (rv.mono (rs1.hp.kp e2)) rw2 ((bp.bind (R:=rD K) p2).imp fun z H3 ⟨ρ3,d3,hd3,e3,rs3,rz,p3⟩ => ?_)
  cases d3<;>first|exact p3.elim|skip
  rename_i b
  simp only [rD,RD] at rz
  refine⟨b,rz,?_⟩
  cases b with
  | false =>
    rw [if_neg Bool.false_ne_true]
    exact p3.here rs3 (by simp only [rD,RD])
  | true =>
    rw [if_pos rfl]
    refine⟨ρ3,σd,hd3,rs3,(bp.bind (R:=rD K) p3).imp fun u H4 ⟨ρ4,d4,hd4,e4,rs4,ru,p4⟩ => ?_⟩
    exact hk ρ4 H4 σd hd4 σ d2 d4 w u Q rs4 ((rw2.mono (rs2.hp.kp e3)).mono (rs3.hp.kp e4)) ru p4
theorem Dp {a b c:Expr}{fa fb fc:EF}{op op':CmpOp}{r r':R2}{g k:O2}(ho:OpR X (compareOp op) r)(ho':OpR X (compareOp op') r')(hg:Og X.K g r)(hk:Og X.K k r')(ha:ME X a fa)(hb:ME X b fb)(hc:ME X c fc)
    (hm:lastMarks [op,op'] [b,c] = false:=by with_unfolding_all rfl):ME X (.Compare a [op,op'] [b,c] pos) (ot g k fa fb fc) :=
  PE.imp (Df ho ho' ha hb hc hm) fun _ _ _ ⟨_,_,_,rs,p⟩=>yR hg hk rs p
theorem au:MA X [] ao:=PA.imp eA fun _ _ _ ⟨_,_,_,rs,p⟩=>p.here rs RDs.nil
theorem ae {e:Expr}{es:List Expr}{f:EF}{r:LF}(he:ME X e f)(hr:MA X es r)(hs:starEach (e :: es) X.env=(false,eval e X.env) :: starEach es X.env:=by rfl):MA X (e :: es) (ad f r):=by
  refine PA.imp (cx he hr hs) fun σ H Q ⟨ρ,σd,hd,rs,p⟩ => ?_
  refine⟨ρ,σd,hd,rs,(bp.bind (R:=rD X.K) p).imp fun v H1 ⟨ρ1,d,hd1,e1,rs1,rv,p1⟩ => ?_⟩
  refine⟨ρ1,σd,hd1,rs1,(bp.bind (R:=rDs X.K) p1).imp fun vs H2 ⟨ρ2,ds,hd2,e2,rs2,rvs,p2⟩ => ?_⟩
  exact p2.here rs2 (RDs.cons (rv.mono (rs1.hp.kp e2)) rvs)
theorem kR {n:Nat}(h:n≤SZ):n≤sizeLine:=Nat.le_trans h (by show 1000000≤2 ^ 24;decide)
theorem ir {es:List Expr}{k}{r:LF}(h:MA X es r):ME X (.Tuple es k pos) (eB r):=by
  refine PE.imp (Hc h) fun σ H Q ⟨ρ,σd,hd,rs,p⟩ => ?_
  refine⟨ρ,σd,hd,rs,(bp.bind (R:=rDs X.K) p).imp fun vs H1 ⟨ρ1,ds,hd1,e1,rs1,rvs,p1⟩ => ?_⟩
  by_cases hz:ds.length≤SZ
  · rw [if_pos hz] at p1
    refine⟨by rw [← rvs.length];exact kR hz,fun q hq => ?_⟩
    have sm:=bG (o:=HO.tup vs) hq
    exact p1.at (Ext.same sm) (rs1.same sm) (by simp only [rD,RD];exact⟨q,vs,rfl,aO,rvs.mono (Kp.same sm)⟩)
  · rw [if_neg hz] at p1;exact p1.elim
theorem Ext.fresh {ρ ρ':List Addr}{H H':Hp}{q:Addr}(e:Ext ρ H ρ' H')(h:H' q=none)(n:q ∉ ρ'):H q=none:=by
  cases z:H q with
  | none=>rfl
  | some o =>
    by_cases hq:q ∈ ρ
    · obtain⟨t,rfl⟩:=e.pre
      exact absurd (List.mem_append_left t hq) n
    · rw [e.frame q o z hq] at h;cases h
theorem RH.free {K:PySem.W.Frag}{ρ:List Addr}{H:Hp}{hd:Hd}(r:RH K ρ H hd){q:Addr}(h:H q=none):q ∉ ρ:=fun z=>by
  rcases r.mut z with ⟨_,e⟩|⟨_,e⟩<;>(rw [h] at e;cases e)
theorem wF.mk {K:PySem.W.Frag}{ρ ρ1:List Addr}{H H1:Hp}{hd1:Hd}{σd:Sd}{σ:St}{l:List D}{vs:List V}{Q:VK}(p:wF K ρ H σd σ (.ok l hd1) Q)(e1:Ext ρ H ρ1 H1)(rs1:RS K ρ1 H1 σd hd1 σ)(r:RDs K ρ1 H1 l vs) :
    ∀ q,H1 q=none→Q (.ref q) (upd H1 q (.lst vs)):=fun q hq=>by
  have sm:=bG (o:=HO.lst vs) hq
  have nq:=rs1.hp.free hq
  exact p q vs _ ρ1 (e1.trans (Ext.same sm)) (rs1.same sm) (e1.fresh hq nq) aO nq (r.mono (Kp.same sm))
theorem dt {es:List Expr}{r:LF}(h:MA X es r)(hz:∀ σd hd ds hd',r σd hd=.ok ds hd'→ds.length≤SZ):MF X (.List es pos) r:=by
  refine PE.imp (He h) fun σ H Q ⟨ρ,σd,hd,rs,p⟩ => ?_
  refine⟨ρ,σd,hd,rs,?_⟩
  cases e:r σd hd with
  | exc x h'=>rw [e] at p;exact p
  | bad=>rw [e] at p;exact p
  | ok ds hd1 =>
    rw [e] at p
    intro vs H1 ρ1 e1 rs1 rvs
    exact⟨by rw [← RDs.length rvs];exact kR (hz _ _ _ _ e),p.mk e1 rs1 rvs⟩
theorem az {f:EF}{r:LF}{n:Nat}(h:∀ σd hd ds hd',r σd hd=.ok ds hd'→ds.length=n):∀ σd hd ds hd',ad f r σd hd=.ok ds hd'→ds.length=n + 1:=by
  intro σd hd ds hd' e
  simp only [ad] at e
  cases e1:f σd hd with
  | exc x h'=>rw [e1] at e;cases e
  | bad=>rw [e1] at e;cases e
  | ok d h1 =>
    rw [e1] at e
    simp only [ax] at e
    cases e2:r σd h1 with
    | exc x h'=>rw [e2] at e;cases e
    | bad=>rw [e2] at e;cases e
    | ok ds2 h2 =>
      rw [e2] at e
      simp only [ax] at e
      cases e
      simp [h _ _ _ _ e2]
theorem bK:∀ σd hd ds hd',ao σd hd=.ok ds hd'→ds.length=0:=by
  intro σd hd ds hd' e
  simp only [ao] at e
  cases e
  rfl
theorem bL {e:Expr}{r:LF}(h:MF X e r):ME X e (aL r):=by
  refine PE.imp h fun σ H Q ⟨ρ,σd,hd,rs,p⟩=>⟨ρ,σd,hd,rs,?_⟩
  unfold aL at p
  cases e:r σd hd with
  | exc x h'=>rw [e] at p;exact p
  | bad=>rw [e] at p;exact p
  | ok ds hd1 =>
    rw [e] at p
    simp only [ax] at p
    intro q vs H1 ρ1 e1 rs1 hq0 hq hn rvs
    by_cases hz:ds.length≤SZ
    · rw [if_pos hz] at p
      have rh:=rs1.hp.alloc hq hn rvs
      have ex:Ext ρ H (ρ1++[q]) H1:=⟨by obtain⟨t,rfl⟩:=e1.pre;exact⟨t++[q],by simp⟩,fun a ha=>by
        rcases List.mem_append.mp ha with z|z
        · exact e1.new a z
        · simp at z;subst z;exact .inr hq0,e1.frame⟩
      refine p.at ex (rs.ext ex rh) ?_
      simp only [rD,RD]
      refine⟨q,?_,rfl⟩
      rw [← rs1.hp.len]
      simp
    · rw [if_neg hz] at p;exact p.elim
theorem fY {e:Expr}{r:LF}(h:MF X e r):MQ X e r:=by
  refine PE.imp h fun σ H Q ⟨ρ,σd,hd,rs,p⟩=>⟨ρ,σd,hd,rs,?_⟩
  cases e:r σd hd with
  | exc x h'=>rw [e] at p;exact p
  | bad=>rw [e] at p;exact p
  | ok ds hd1 =>
    rw [e] at p
    intro q vs H1 ρ1 e1 rs1 hq0 hq hn rvs
    exact p (.ref q) H1 ρ1 e1 rs1 ⟨q,vs,rfl,.inl (SqL.of hq),rvs⟩
theorem mT.sq {K:PySem.W.Frag}{H:Hp}{a:Addr}{xs:List V}(h:mT K H a xs):SqL K H a xs:=by
  rcases h with ⟨o,h⟩|h
  · exact .inl (.inr ⟨o,h⟩)
  · exact .inr h
theorem AC {K:PySem.W.Frag}{ρ:List Addr}{H:Hp}{hd:Hd}{d:D}{v:V}{l:List D}(r:RH K ρ H hd)(h:RD K ρ H d v)(e:jW hd d=some l):∃ p vs,v=.ref p∧(SqL K H p vs∨H p=some (.tup vs))∧RDs K ρ H l vs:=by
  cases d<;>simp only [jW] at e<;>try (cases e;done)
  · cases e
    simp only [RD] at h
    obtain⟨p,vs,e1,e2,e3⟩:=h
    exact⟨p,vs,e1,.inr e2,e3⟩
  · rename_i n
    simp only [RD] at h
    obtain⟨a,e1,e2⟩:=h
    cases c:hd[n]? with
    | none=>rw [c] at e;cases e
    | some x =>
      rw [c] at e
      cases x with
      | dct l=>cases e
      | lst l' =>
        cases e
        obtain⟨vs,q1,q2⟩:=r.cel n _ a c e1
        exact⟨a,vs,e2,.inl (SqL.of q1),q2⟩
  · cases e
    simp only [RD] at h
    obtain⟨p,vs,e1,e2,e3⟩:=h
    exact⟨p,vs,e1,.inl e2.sq,e3⟩
theorem du {e:Expr}{f:EF}(h:ME X e f):MQ X e (lOf f):=by
  refine PE.imp h fun σ H Q ⟨ρ,σd,hd,rs,p⟩=>⟨ρ,σd,hd,rs,(bp.bind (R:=rD X.K) p).imp fun v H1 ⟨ρ1,d,hd1,e1,rs1,rv,p1⟩ => ?_⟩
  cases e:jW hd1 d with
  | none=>rw [e] at p1;exact p1.elim
  | some l=>rw [e] at p1;exact p1.here rs1 (AC rs1.hp rv e)
theorem AD {K:PySem.W.Frag}{ρ:List Addr}{H:Hp}{l:List D}{vs:List V}{i:Int}{d:D}(r:RDs K ρ H l vs)(e:atI l i=some d):∃ v,L2.atI vs i=some v∧RD K ρ H d v:=by
  unfold atI at e
  unfold L2.atI
  have hl:=r.length
  have hx:ixN l.length i=L2.ixN vs.length i:=by rw [hl];rfl
  rw [hx] at e
  cases c:L2.ixN vs.length i with
  | none=>rw [c] at e;cases e
  | some j =>
    rw [c] at e
    simp only [Option.bind_some] at e ⊢
    exact r.get e
theorem aU {a b:Expr}{fa fb:EF}(ha:ME X a fa)(hb:ME X b fb)(hs:ui b):ME X (.Subscript a b pos) (fAt fa fb):=by
  refine me2 (a:=a) (b:=b) (g:=oAt) (Gw Hk ha hb hs) fun ρ H σd hd σ d k v w Q rs rv rw' p => ?_
  unfold oAt at p
  cases e:jW hd d with
  | none=>rw [e] at p;exact p.elim
  | some l =>
    rw [e] at p
    cases k<;>first|exact p.elim|skip
    rename_i i
    simp only at p
    cases e2:atI l i with
    | none=>rw [e2] at p;exact p.elim
    | some x =>
      rw [e2] at p
      simp only [RD] at rw'
      obtain⟨q,vs,hv,sq,rvs⟩:=AC rs.hp rv e
      obtain⟨u,hu,ru⟩:=AD rvs e2
      rcases sq with sq|sq
      · exact .inl ⟨q,vs,i,u,hv,rw',sq,hu,p.here rs ru⟩
      · exact .inr (.inl ⟨q,vs,i,u,hv,rw',SqT.of sq,hu,p.here rs ru⟩)
theorem AE {a b:Expr}{la:LF}{fb:EF}(ha:MF X a la)(hb:ME X b fb)(hs:ui b):ME X (.Subscript a b pos) (fIx la fb):=by
  refine PE.imp (Gw Az ha hb hs) fun σ H Q ⟨ρ,σd,hd,rs,p⟩=>⟨ρ,σd,hd,rs,?_⟩
  unfold fIx at p
  cases e:la σd hd with
  | exc x h'=>rw [e] at p;exact p
  | bad=>rw [e] at p;exact p
  | ok l hd1 =>
    rw [e] at p
    simp only [ax] at p
    intro q vs H1 ρ1 e1 rs1 hq0 hq hn rvs
    refine⟨ρ1,σd,hd1,rs1,(bp.bind (R:=rD X.K) (p.ext e1)).imp fun w H2 ⟨ρ2,k,hd2,e2,rs2,rw',p2⟩ => ?_⟩
    cases k<;>first|exact p2.elim|skip
    rename_i i
    simp only at p2
    cases e3:atI l i with
    | none=>rw [e3] at p2;exact p2.elim
    | some x =>
      rw [e3] at p2
      simp only [rD,RD] at rw'
      obtain⟨u,hu,ru⟩:=AD (rvs.mono (rs1.hp.kp e2)) e3
      exact⟨q,vs,i,u,rfl,rw',SqL.of (e2.frame q _ hq hn),hu,p2.here rs2 ru⟩
end
end Fm
set_option Elab.async false
set_option linter.all false
set_option maxRecDepth 100000
namespace Fm
open PySem PySem.Spec L2
section
variable {X:Cx} {pos:Pos}
def B1 (X:Cx) (r:List V→Hp→VK→Prop) (x:Str) (p pos:Pos) (a:Expr):Prop:=∀ t,PA X [a] t→PE X (.Call (.Name x p) [a] [] pos) (tCB r t)
theorem wG {x:Str} {p:Pos} {a:Expr} {id:String} {r:List V→Hp→VK→Prop} (hc:eP X (.builtin id) r) (hg:Gl X x) (hm:X.mg x=none) (hv:bootBuiltins x=some (.builtin id)) (hn:x ≠ "__name__" := by decide) (hdb:(x == ("__debug__" : Str))=false:=by decide)
    (he:starEach [a] X.env=(false,eval a X.env) :: starEach [] X.env:=by rfl):B1 X r x p pos a:=fun _ ha=>fU hc hg hm hv ha hn hdb he
theorem GA {x:Str} {p:Pos} {a:Expr} {T:String} {r:List V→Hp→VK→Prop} (hc:eP X (.type T) r) (hg:Gl X x) (hm:X.mg x=none) (hv:bootBuiltins x=some (.type T)) (hn:x ≠ "__name__" := by decide) (hdb:(x == ("__debug__" : Str))=false:=by decide)
    (he:starEach [a] X.env=(false,eval a X.env) :: starEach [] X.env:=by rfl):B1 X r x p pos a:=fun _ ha=>sP hc hg hm hv ha hn hdb he
theorem md {x:Str}{p:Pos}{a:Expr}{la:LF}{r:List V→Hp→VK→Prop}{g:List D→Hd→Res D}(hb:B1 X r x p pos a)(ha:MQ X a la)
    (hg:∀ ρ H σd hd σ l q vs Q,RS X.K ρ H σd hd σ → (SqL X.K H q vs∨H q=some (.tup vs))→RDs X.K ρ H l vs→bp X.K (rD X.K) ρ H σd σ (g l hd) Q→r [.ref q] H Q)
    (hs:starEach [a] X.env=(false,eval a X.env) :: starEach [] X.env:=by rfl):ME X (.Call (.Name x p) [a] [] pos) (fun σ h=>(la σ h).bind fun l h=>g l h):=by
  refine PE.imp (hb _ (cx ha eA hs)) fun σ H Q ⟨ρ,σd,hd,rs,pp⟩=>⟨ρ,σd,hd,rs,(bp.bind (R:=rQ X.K) pp).imp fun v H1 ⟨ρ1,l,hd1,e1,rs1,⟨q,vs,hv,sq,rvs⟩,p1⟩ => ?_⟩
  subst hv
  exact hg ρ1 H1 σd hd1 σ l q vs Q rs1 sq rvs p1
theorem Jo {x:Str}{p:Pos}{a:Expr}{fa:EF}{r:List V→Hp→VK→Prop}{g:D→Hd→Res D}(hb:B1 X r x p pos a)(ha:ME X a fa)
    (hg:∀ ρ H σd hd σ d v Q,RS X.K ρ H σd hd σ → RD X.K ρ H d v→bp X.K (rD X.K) ρ H σd σ (g d hd) Q→r [v] H Q)
    (hs:starEach [a] X.env=(false,eval a X.env) :: starEach [] X.env:=by rfl):ME X (.Call (.Name x p) [a] [] pos) (fun σ h=>(fa σ h).bind fun x h=>g x h):=by
  refine PE.imp (hb _ (cx ha eA hs)) fun σ H Q ⟨ρ,σd,hd,rs,pp⟩=>⟨ρ,σd,hd,rs,(bp.bind (R:=rD X.K) pp).imp fun v H1 ⟨ρ1,d,hd1,e1,rs1,rv,p1⟩ => ?_⟩
  exact hg ρ1 H1 σd hd1 σ d v Q rs1 rv p1
theorem eE {p:Pos} {a:Expr} {la:LF} (hg:Gl X "len") (hm:X.mg "len" = none) (ha:MQ X a la) (hs:starEach [a] X.env=(false,eval a X.env) :: starEach [] X.env:=by rfl):ME X (.Call (.Name "len" p) [a] [] pos) (dE la) :=
  md (g:=fun l h=>.ok (.int l.length) h) (wG uk hg hm PySem.boot_len (he:=hs)) ha (fun ρ H σd hd σ l q vs Q rs sq rvs p=>⟨q,vs,rfl,sq.imp id SqT.of,by rw [← rvs.length];exact p.here rs (by simp only [rD,RD])⟩) hs
theorem fg {p:Pos} {a:Expr} {la:LF} (hg:Gl X "tuple") (hm:X.mg "tuple" = none) (ha:MQ X a la) (hs:starEach [a] X.env=(false,eval a X.env) :: starEach [] X.env:=by rfl):ME X (.Call (.Name "tuple" p) [a] [] pos) (cC la):=by
  refine md (g:=fun l h=>.ok (.tup l) h) (GA pY hg hm (by decide +kernel) (he:=hs)) ha (fun ρ H σd hd σ l q vs Q rs sq rvs p=>⟨q,vs,rfl,?_⟩) hs
  rcases sq with sq|sq
  · refine .inl ⟨sq,fun q' hq => ?_⟩
    have sm:=bG (o:=HO.tup vs) hq
    exact p.at (Ext.same sm) (rs.same sm) (by simp only [rD,RD];exact⟨q',vs,rfl,aO,rvs.mono (Kp.same sm)⟩)
  · exact .inr ⟨SqT.of sq,p.here rs (by simp only [rD,RD];exact⟨q,vs,rfl,sq,rvs⟩)⟩
theorem Fz {p:Pos} {a:Expr} {fa:EF} (hg:Gl X "int") (hm:X.mg "int" = none) (ha:ME X a fa) (hs:starEach [a] X.env=(false,eval a X.env) :: starEach [] X.env:=by rfl):ME X (.Call (.Name "int" p) [a] [] pos) (Dk fa):=by
  refine Jo (g:=fun x h=>match x with | .int i=>.ok (.int i) h | .bl b=>.ok (.int (b2i b)) h|_=>.bad) (GA Bz hg hm (by decide +kernel) (he:=hs)) ha (fun ρ H σd hd σ d v Q rs rv p => ?_) hs
  cases d<;>first|exact p.elim|skip
  · simp only [RD] at rv;subst rv
    exact .inr ⟨_,rfl,p.here rs (by simp only [rD,RD];rfl)⟩
  · simp only [RD] at rv;subst rv
    exact .inl ⟨_,rfl,p.here rs (by simp only [rD,RD])⟩
theorem wH (ns:List Int):PySem.preSum (fun i=>ns.getD i 0) ns.length=ns.sum:=by
  have key:∀ k,k≤ns.length→PySem.preSum (fun i=>ns.getD i 0) k=(ns.take k).sum:=by
    intro k
    induction k with
    | zero=>intro _;simp [PySem.preSum]
    | succ k ih =>
      intro hk
      rw [PySem.preSum,ih (by omega),List.take_add_one,List.getElem?_eq_getElem (by omega),List.sum_append]
      simp [List.getD,List.getElem?_eq_getElem (show k < ns.length by omega)]
  rw [key _ (Nat.le_refl _),List.take_length]
theorem kS {its:List Value}{ns:List Int}(r:aI (ns.map V.int) its)(i:Nat)(v:Value)(h:its.toArray[i]? = some v):∃ t,v=.int (ns.getD i 0) t:=by
  have h':its[i]? = some v:=by simpa using h
  have hl:=r.length
  have hi:i < its.length:=(List.getElem?_eq_some_iff.mp h').1
  have hn:i < ns.length:=by rw [← hl] at hi;simpa using hi
  obtain⟨u,hu,ru⟩:=r.get (i:=i) (x:=.int ns[i]) (by simp [hn])
  rw [h'] at hu
  cases hu
  obtain⟨t,e⟩:=ru
  exact⟨t,by rw [e];simp [List.getD,hn]⟩
theorem BF (hc:X.calm=true):eP X (.builtin "sum") (fun xs H Q=>∃ (p:Addr) (ns:List Int),xs=[.ref p]∧(SqL X.K H p (ns.map V.int)∨SqT X.K H p (ns.map V.int))∧Q (.int ns.sum) H):=by
  intro pins s σ H xs us Q I r q
  obtain⟨p,ns,rfl,sq,q⟩:=q
  obtain⟨u,rfl,ru⟩:=aI.one r
  cases (show u=Value.ref p from ru)
  have fin:∀ {it:Obj} {h':Heap} {tk:Nat} {t':Tok} {n:Nat},n=ns.length→(∀ b o,b∉[s.heap.objs.size]→(s.heap.push it).get? b=some o→h'.get? b=some o)→EP X pins σ Q (.int (PySem.preSum (fun i=>ns.getD i 0) n) t') { s with heap:=h',toks:=tk }:=by
    intro it h' tk t' n hn hk
    subst hn
    refine⟨.int ns.sum,H,I.kept (t':=tk) fun b o e=>hk b o (by simp;exact Nat.ne_of_lt (Heap.lt_size e)) (Heap.get?_push_of_some _ e),⟨t',by rw [wH]⟩,q⟩
  have hA:(X.A.in1).handled=none:=I.ok.hd hc
  rcases sq with sq|sq
  · obtain⟨its,rv,pl,hz⟩:=I.list sq
    have il:s.heap.IsList p its.toArray:=pl.isList
    have hlt:p < s.heap.objs.size:=by obtain⟨o,ho,_⟩:=il;exact Heap.lt_size ho
    refine PySem.call_sum_walkG (PySem.wpAny_pyIter_list il ?_)
    refine⟨s.heap.objs.size,_,[s.heap.objs.size],_,_,_,fun i=>ns.getD i 0,rfl,PySem.Walks.list hA s.heap.objs.size p (Nat.ne_of_lt hlt) its.toArray,⟨⟨_,Heap.get?_push_size _ rfl,rfl,rfl⟩,?_⟩,?_,kS rv,?_⟩
    · obtain⟨o,ho,r⟩:=il;exact⟨o,Heap.get?_push_of_some _ ho,r⟩
    · intro b hb
      rcases List.mem_cons.mp hb with rfl|hb
      · rw [Heap.size_push];exact Nat.lt_succ_self _
      · simp at hb;subst hb;rw [Heap.size_push];exact Nat.lt_succ_of_lt hlt
    · exact fun h' tk t' hk=>fin (by simpa using rv.length.symm) hk
  · obtain⟨its,rv,pl,hz⟩:=I.tuple sq
    have il:s.heap.IsTuple p its.toArray:=pl
    have hlt:p < s.heap.objs.size:=by obtain⟨o,ho,_⟩:=il;exact Heap.lt_size ho
    refine PySem.call_sum_walkG (PySem.wpAny_pyIter_tuple il ?_)
    refine⟨s.heap.objs.size,_,[s.heap.objs.size],_,_,_,fun i=>ns.getD i 0,rfl,PySem.Walks.tuple hA s.heap.objs.size p (Nat.ne_of_lt hlt) its.toArray,⟨⟨_,Heap.get?_push_size _ rfl,rfl,rfl⟩,?_⟩,?_,kS rv,?_⟩
    · obtain⟨o,ho,r⟩:=il;exact⟨o,Heap.get?_push_of_some _ ho,r⟩
    · intro b hb
      rcases List.mem_cons.mp hb with rfl|hb
      · rw [Heap.size_push];exact Nat.lt_succ_self _
      · simp at hb;subst hb;rw [Heap.size_push];exact Nat.lt_succ_of_lt hlt
    · exact fun h' tk t' hk=>fin (by simpa using rv.length.symm) hk
theorem ox {K:PySem.W.Frag}{ρ:List Addr}{H:Hp}:∀ {l:List D} {vs:List V} {is:List Int},RDs K ρ H l vs→gy l=some is→vs=is.map V.int
  | [],_,is,r,e=>by simp only [gy] at e;cases e;simp only [RDs] at r;subst r;rfl
  | d :: l,_,is,r,e=>by
    simp only [RDs] at r
    obtain⟨v,vs,rfl,h1,h2⟩:=r
    cases d<;>simp only [gy] at e<;>try (cases e;done)
    rename_i i
    cases c:gy l with
    | none=>rw [c] at e;cases e
    | some js =>
      rw [c] at e
      cases e
      simp only [RD] at h1
      rw [h1,ox h2 c]
      rfl
theorem Ht {p:Pos} {a:Expr} {la:LF} (hc:X.calm=true) (hg:Gl X "sum") (hm:X.mg "sum" = none) (ha:MQ X a la) (hs:starEach [a] X.env=(false,eval a X.env) :: starEach [] X.env:=by rfl):ME X (.Call (.Name "sum" p) [a] [] pos) (yO la):=by
  refine md (g:=fun l h=>match gy l with|some is=>.ok (.int is.sum) h|none=>.bad) (wG (BF hc) hg hm (by decide +kernel) (he:=hs)) ha (fun ρ H σd hd σ l q vs Q rs sq rvs p => ?_) hs
  cases c:gy l with
  | none=>simp only [c] at p;exact p.elim
  | some is =>
    simp only [c] at p
    have e:=ox rvs c
    subst e
    exact⟨q,is,rfl,sq.imp id SqT.of,p.here rs (by simp only [rD,RD])⟩
end
end Fm
set_option Elab.async false
set_option linter.all false
set_option maxRecDepth 100000
namespace Fm
open PySem PySem.Spec L2
section
variable {K:PySem.W.Frag} {ρ:List Addr} {H:Hp}
mutual
theorem wI:∀ {d k:D} {v:V} {b:Bool},RD K ρ H d v→RD K ρ H k v→peq d k=some b→b=true
  | .int i,k,v,b,h1,h2,e=>by
    simp only [RD] at h1;subst h1
    cases k<;>simp only [RD] at h2<;>try (cases h2;done)
    all_goals first
      | (cases h2;simp only [peq] at e;simpa using e.symm)
      | (obtain⟨_,_,z,_⟩:=h2;cases z;done)
      | (obtain⟨_,_,z⟩:=h2;cases z;done)
      | (obtain⟨_,_,_,z,_⟩:=h2;cases z;done)
  | .bl i,k,v,b,h1,h2,e=>by
    simp only [RD] at h1;subst h1
    cases k<;>simp only [RD] at h2<;>try (cases h2;done)
    all_goals first
      | (cases h2;simp only [peq] at e;simpa using e.symm)
      | (obtain⟨_,_,z,_⟩:=h2;cases z;done)
      | (obtain⟨_,_,z⟩:=h2;cases z;done)
      | (obtain⟨_,_,_,z,_⟩:=h2;cases z;done)
  | .str x,k,v,b,h1,h2,e=>by
    simp only [RD] at h1;subst h1
    cases k<;>simp only [RD] at h2<;>try (cases h2;done)
    all_goals first
      | (simp only [peq] at e;simp only [toS,V.str.injEq,PySem.Str.mk.injEq] at h2;have h3:=congrArg Array.toList h2;simp at h3;subst h3;simpa using e.symm)
      | (obtain⟨_,_,z,_⟩:=h2;cases z;done)
      | (obtain⟨_,_,z⟩:=h2;cases z;done)
      | (obtain⟨_,_,_,z,_⟩:=h2;cases z;done)
  | .non,k,v,b,h1,h2,e=>by
    simp only [RD] at h1;subst h1
    cases k<;>simp only [RD] at h2<;>try (cases h2;done)
    all_goals first
      | (simp only [peq] at e;simpa using e.symm)
      | (obtain⟨_,_,z,_⟩:=h2;cases z;done)
      | (obtain⟨_,_,z⟩:=h2;cases z;done)
      | (obtain⟨_,_,_,z,_⟩:=h2;cases z;done)
  | .tup xs,k,v,b,h1,h2,e=>by
    simp only [RD] at h1
    obtain⟨p,vs,rfl,hp,r1⟩:=h1
    cases k<;>simp only [peq] at e<;>try (cases e;done)
    · simp only [RD] at h2;cases h2
    · simp only [RD] at h2;cases h2
    · rename_i ys
      simp only [RD] at h2
      obtain⟨p',vs',z,hp',r2⟩:=h2
      cases z
      rw [hp] at hp';cases hp'
      cases c:fv xs ys with
      | none=>rw [c] at e;cases e
      | some b' =>
        rw [c] at e
        simp only [Option.map_some,Option.some.injEq] at e
        have:=sT r1 r2 c
        subst this
        rw [← e,r1.length,r2.length]
        simp
  | .ref n,k,v,b,h1,h2,e=>by cases k<;>simp only [peq] at e<;>cases e
  | .lit l,k,v,b,h1,h2,e=>by cases k<;>simp only [peq] at e<;>cases e
  | .exn c l,k,v,b,h1,h2,e=>by simp only [peq] at e<;>cases e
theorem sT:∀ {xs ys:List D} {vs:List V} {b:Bool},RDs K ρ H xs vs→RDs K ρ H ys vs→fv xs ys=some b→b=true
  | [],_,_,_,_,_,e=>by simp only [fv] at e;cases e;rfl
  | x :: xs,[],_,_,_,_,e=>by simp only [fv] at e;cases e;rfl
  | x :: xs,y :: ys,_,b,h1,h2,e=>by
    simp only [RDs] at h1 h2
    obtain⟨v,r,rfl,a1,a2⟩:=h1
    obtain⟨v',r',z,b1,b2⟩:=h2
    cases z
    simp only [fv] at e
    cases c:peq x y with
    | none=>rw [c] at e;cases e
    | some p =>
      cases c2:fv xs ys with
      | none=>rw [c,c2] at e;cases e
      | some q =>
        rw [c,c2] at e
        simp only [Option.some.injEq] at e
        rw [← e,wI a1 b1 c,sT a2 b2 c2];rfl
end
end
section
variable {K:PySem.W.Frag} {ρ:List Addr} {H:Hp} {P:Program} {w:World} {s:Shared}
theorem iu (hok:HOk P w H s.heap){p:Addr}{vs:List V}(h:H p=some (.tup vs)):∃ its:List Value,aI vs its∧s.heap.IsTuple p its.toArray:=by
  obtain⟨z,its,r,t⟩:=hok p _ h
  exact⟨its,r,t⟩
mutual
theorem Hu (hok:HOk P w H s.heap):∀ {d k:D} {v v':V} {u u':Value} {b:Bool} {A:Around},RD K ρ H d v→RD K ρ H k v'→bj v u→bj v' u'→peq d k=some b→A.units + dep d < cLine→SeqAt.EqAt A s u u' b
  | .int i,k,v,v',u,u',b,A,h1,h2,r1,r2,e,hu=>by
    simp only [RD] at h1;subst h1
    obtain⟨t,rfl⟩:=r1
    cases k<;>simp only [peq] at e<;>try (cases e;done)
    all_goals cases e
    · simp only [RD] at h2;subst h2;cases r2;exact SeqAt.EqAt.int_none i t
    · simp only [RD] at h2;subst h2;cases r2;exact SeqAt.EqAt.int_bool i t _
    · simp only [RD] at h2;subst h2;obtain⟨t',rfl⟩:=r2;exact SeqAt.EqAt.int_int i t _ t'
    · simp only [RD] at h2;obtain⟨p,vs,rfl,hp,_⟩:=h2;cases r2
      obtain⟨its,_,il⟩:=iu hok hp
      exact SeqAt.EqAt.int_tuple i t il (Nat.lt_of_le_of_lt (Nat.le_add_right _ _) hu)
  | .bl i,k,v,v',u,u',b,A,h1,h2,r1,r2,e,hu=>by
    simp only [RD] at h1;subst h1
    cases r1
    cases k<;>simp only [peq] at e<;>try (cases e;done)
    all_goals cases e
    · simp only [RD] at h2;subst h2;cases r2;exact SeqAt.EqAt.bool_bool i _
    · simp only [RD] at h2;subst h2;obtain⟨t',rfl⟩:=r2;exact SeqAt.EqAt.bool_int i _ t'
  | .str x,k,v,v',u,u',b,A,h1,h2,r1,r2,e,hu=>by
    simp only [RD] at h1;subst h1
    obtain⟨t,rfl⟩:=r1
    cases k<;>simp only [peq] at e<;>try (cases e;done)
    all_goals cases e
    rename_i y
    simp only [RD] at h2;subst h2;obtain⟨t',rfl⟩:=r2
    have:decide (x=y)=(toS x == toS y):=by
      by_cases z:x=y
      · subst z;simp
      · have : ¬ toS x=toS y:=fun q=>z (by have:=congrArg (fun (s:Str)=>s.cps.toList) q;simpa [toS] using this)
        simp [z,this]
    rw [this]
    exact SeqAt.EqAt.str_str _ t _ t'
  | .non,k,v,v',u,u',b,A,h1,h2,r1,r2,e,hu=>by
    simp only [RD] at h1;subst h1
    cases r1
    cases k<;>simp only [peq] at e<;>try (cases e;done)
    all_goals cases e
    · simp only [RD] at h2;subst h2;cases r2;exact SeqAt.EqAt.same _
    · simp only [RD] at h2;subst h2;obtain⟨t',rfl⟩:=r2;exact SeqAt.EqAt.none_int _ t'
    · simp only [RD] at h2;obtain⟨p,vs,rfl,hp,_⟩:=h2;cases r2
      obtain⟨its,_,il⟩:=iu hok hp
      exact SeqAt.EqAt.none_tuple il (Nat.lt_of_le_of_lt (Nat.le_add_right _ _) hu)
  | .tup xs,k,v,v',u,u',b,A,h1,h2,r1,r2,e,hu=>by
    have h1':=h1
    simp only [RD] at h1
    obtain⟨p,vs,rfl,hp,q1⟩:=h1
    cases r1
    obtain⟨its,rv,il⟩:=iu hok hp
    have hu0:A.units < cLine:=Nat.lt_of_le_of_lt (Nat.le_add_right _ _) hu
    cases k<;>simp only [peq] at e<;>try (cases e;done)
    · cases e;simp only [RD] at h2;subst h2;cases r2;exact SeqAt.EqAt.tuple_none il hu0
    · cases e;simp only [RD] at h2;subst h2;obtain⟨t',rfl⟩:=r2;exact SeqAt.EqAt.tuple_int _ t' il hu0
    · rename_i ys
      have h2':=h2
      simp only [RD] at h2
      obtain⟨p',vs',rfl,hp',q2⟩:=h2
      cases r2
      by_cases hpp:p=p'
      · subst hpp
        have:b=true:=wI h1' h2' (by simp only [peq];exact e)
        subst this
        exact SeqAt.EqAt.same _
      · obtain⟨its',rv',il'⟩:=iu hok hp'
        cases c:fv xs ys with
        | none=>rw [c] at e;cases e
        | some b' =>
          rw [c] at e
          simp only [Option.map_some,Option.some.injEq] at e
          obtain⟨f,hf,ha⟩:=nR hok (A:=A.in1) q1 q2 rv rv' c (by simp only [dep] at hu;show A.units + 1 + ja xs < cLine;omega)
          have:=SeqAt.RcAt.tuples (s:=s) (A:=A) (e:=f) il il' hu0 (fun j h1 h2=>by simpa using hf j (by simpa using h1) (by simpa using h2))
          rw [← e,← ha,q1.length,q2.length,rv.length,rv'.length]
          refine SeqAt.EqAt.of_refs hpp ?_
          rw [show (decide (its.length=its'.length))=(its.length == its'.length) from rfl]
          simpa using this
  | .ref n,k,v,v',u,u',b,A,h1,h2,r1,r2,e,hu=>by cases k<;>simp only [peq] at e<;>cases e
  | .lit l,k,v,v',u,u',b,A,h1,h2,r1,r2,e,hu=>by cases k<;>simp only [peq] at e<;>cases e
  | .exn c l,k,v,v',u,u',b,A,h1,h2,r1,r2,e,hu=>by simp only [peq] at e<;>cases e
theorem nR (hok:HOk P w H s.heap):∀ {xs ys:List D} {vs vs':List V} {us us':List Value} {b:Bool} {A:Around},RDs K ρ H xs vs→RDs K ρ H ys vs'→aI vs us→aI vs' us'→fv xs ys=some b→A.units + ja xs < cLine →
    ∃ f:Nat→Bool,(∀ j (h1:j < us.length) (h2:j < us'.length),SeqAt.EqAt A s us[j] us'[j] (f j))∧(List.range (min us.length us'.length)).all f=b
  | [],ys,vs,vs',us,us',b,A,h1,h2,r1,r2,e,hu=>by
    simp only [RDs] at h1;subst h1;cases r1
    simp only [fv] at e;cases e
    exact⟨fun _=>true,fun j h1=>by simp at h1,by simp⟩
  | x :: xs,[],vs,vs',us,us',b,A,h1,h2,r1,r2,e,hu=>by
    simp only [RDs] at h2;subst h2;cases r2
    simp only [fv] at e;cases e
    exact⟨fun _=>true,fun j h1 h2=>by simp at h2,by simp⟩
  | x :: xs,y :: ys,vs,vs',us,us',b,A,h1,h2,r1,r2,e,hu=>by
    simp only [RDs] at h1 h2
    obtain⟨v,r,rfl,a1,a2⟩:=h1
    obtain⟨v',r',rfl,b1,b2⟩:=h2
    cases r1 with
    | cons p1 p2 =>
      cases r2 with
      | cons s1 s2 =>
        simp only [fv] at e
        cases c:peq x y with
        | none=>rw [c] at e;cases e
        | some p =>
          cases c2:fv xs ys with
          | none=>rw [c,c2] at e;cases e
          | some q =>
            rw [c,c2] at e
            simp only [Option.some.injEq] at e
            simp only [ja] at hu
            have g1:=Hu hok (A:=A) a1 b1 p1 s1 c (by omega)
            obtain⟨f,hf,ha⟩:=nR hok (A:=A) a2 b2 p2 s2 c2 (by omega)
            refine⟨fun j=>match j with|0=>p|j + 1=>f j,fun j h1 h2 => ?_,?_⟩
            · cases j with
              | zero=>exact g1
              | succ j=>exact hf j (by simpa using h1) (by simpa using h2)
            · rw [← e,← ha,List.length_cons,List.length_cons,Nat.succ_min_succ,List.range_succ_eq_map,List.all_cons,List.all_map]
              rfl
end
theorem Hv (hok:HOk P w H s.heap){d k:D}{v v':V}{u u':Value}{b:Bool}{A:Around}(h1:RD K ρ H d v)(h2:RD K ρ H k v')(r1:bj v u)(r2:bj v' u')(e:peq d k=some b)(hu:A.units + dep d < cLine) :
    SeqAt.RcAt A s u u' b∧SeqAt.RcNeAt A s u u' (!b):=by
  have hu0:A.units < cLine:=Nat.lt_of_le_of_lt (Nat.le_add_right _ _) hu
  cases d<;>simp only [RD] at h1
  · subst h1;cases r1
    cases k<;>simp only [peq] at e<;>try (cases e;done)
    all_goals cases e
    · simp only [RD] at h2;subst h2;cases r2;exact⟨SeqAt.RcAt.none_none,SeqAt.RcNeAt.none_none⟩
    · simp only [RD] at h2;subst h2;obtain⟨t',rfl⟩:=r2;exact⟨SeqAt.RcAt.none_int _ t',SeqAt.RcNeAt.none_int _ t'⟩
    · simp only [RD] at h2;obtain⟨p,vs,rfl,hp,_⟩:=h2;cases r2
      obtain⟨its,_,il⟩:=iu hok hp
      exact⟨SeqAt.RcAt.none_tuple il hu0,SeqAt.RcNeAt.none_tuple il hu0⟩
  · subst h1;cases r1
    cases k<;>simp only [peq] at e<;>try (cases e;done)
    all_goals cases e
    · simp only [RD] at h2;subst h2;cases r2;exact⟨SeqAt.RcAt.bool_bool _ _,SeqAt.RcNeAt.bool_bool _ _⟩
    · simp only [RD] at h2;subst h2;obtain⟨t',rfl⟩:=r2;exact⟨SeqAt.RcAt.bool_int _ _ t',SeqAt.RcNeAt.bool_int _ _ t'⟩
  · subst h1;obtain⟨t,rfl⟩:=r1
    cases k<;>simp only [peq] at e<;>try (cases e;done)
    all_goals cases e
    · simp only [RD] at h2;subst h2;cases r2;exact⟨SeqAt.RcAt.int_none _ t,SeqAt.RcNeAt.int_none _ t⟩
    · simp only [RD] at h2;subst h2;cases r2;exact⟨SeqAt.RcAt.int_bool _ t _,SeqAt.RcNeAt.int_bool _ t _⟩
    · simp only [RD] at h2;subst h2;obtain⟨t',rfl⟩:=r2;exact⟨SeqAt.RcAt.int_int _ t _ t',SeqAt.RcNeAt.int_int _ t _ t'⟩
    · simp only [RD] at h2;obtain⟨p,vs,rfl,hp,_⟩:=h2;cases r2
      obtain⟨its,_,il⟩:=iu hok hp
      exact⟨SeqAt.RcAt.int_tuple _ t il hu0,SeqAt.RcNeAt.int_tuple _ t il hu0⟩
  · subst h1;obtain⟨t,rfl⟩:=r1
    cases k<;>simp only [peq] at e<;>try (cases e;done)
    all_goals cases e
    rename_i x y
    simp only [RD] at h2;subst h2;obtain⟨t',rfl⟩:=r2
    have:decide (x=y)=(toS x == toS y):=by
      by_cases z:x=y
      · subst z;simp
      · have : ¬ toS x=toS y:=fun q=>z (by have:=congrArg (fun (s:Str)=>s.cps.toList) q;simpa [toS] using this)
        simp [z,this]
    rw [this]
    exact⟨SeqAt.RcAt.str_str _ t _ t',SeqAt.RcNeAt.str_str _ t _ t'⟩
  · rename_i xs
    obtain⟨p,vs,rfl,hp,q1⟩:=h1
    cases r1
    obtain⟨its,rv,il⟩:=iu hok hp
    cases k<;>simp only [peq] at e<;>try (cases e;done)
    · cases e;simp only [RD] at h2;subst h2;cases r2;exact⟨SeqAt.RcAt.tuple_none il hu0,SeqAt.RcNeAt.tuple_none il hu0⟩
    · cases e;simp only [RD] at h2;subst h2;obtain⟨t',rfl⟩:=r2;exact⟨SeqAt.RcAt.tuple_int _ t' il hu0,SeqAt.RcNeAt.tuple_int _ t' il hu0⟩
    · rename_i ys
      simp only [RD] at h2
      obtain⟨p',vs',rfl,hp',q2⟩:=h2
      cases r2
      obtain⟨its',rv',il'⟩:=iu hok hp'
      cases c:fv xs ys with
      | none=>rw [c] at e;cases e
      | some b' =>
        rw [c] at e
        simp only [Option.map_some,Option.some.injEq] at e
        obtain⟨f,hf,ha⟩:=nR hok (A:=A.in1) q1 q2 rv rv' c (by simp only [dep] at hu;show A.units + 1 + ja xs < cLine;omega)
        have g1:=SeqAt.RcAt.tuples (s:=s) (A:=A) (e:=f) il il' hu0 (fun j h1 h2=>by simpa using hf j (by simpa using h1) (by simpa using h2))
        have g2:=SeqAt.RcNeAt.tuples (s:=s) (A:=A) (e:=f) il il' hu0 (fun j h1 h2=>by simpa using hf j (by simpa using h1) (by simpa using h2))
        rw [← e,← ha,q1.length,q2.length,rv.length,rv'.length,show (decide (its.length=its'.length))=(its.length == its'.length) from rfl]
        exact⟨by simpa using g1,by simpa using g2⟩
  · cases k<;>simp only [peq] at e<;>cases e
  · cases k<;>simp only [peq] at e<;>cases e
  · simp only [peq] at e<;>cases e
end
section
variable {X:Cx}
theorem uq {K:PySem.W.Frag}{ρ:List Addr}{H:Hp}{hd:Hd}{d:D}{v:V}{l:List D}(r:RH K ρ H hd)(h:RD K ρ H d v)(e:gw hd d=some l):∃ p vs,v=.ref p∧SqL K H p vs∧RDs K ρ H l vs:=by
  cases d<;>simp only [gw] at e<;>try (cases e;done)
  · rename_i n
    simp only [RD] at h
    obtain⟨a,e1,e2⟩:=h
    cases c:hd[n]? with
    | none=>rw [c] at e;cases e
    | some x =>
      rw [c] at e
      cases x with
      | dct l=>cases e
      | lst l' =>
        cases e
        obtain⟨vs,q1,q2⟩:=r.cel n _ a c e1
        exact⟨a,vs,e2,SqL.of q1,q2⟩
  · cases e
    simp only [RD] at h
    obtain⟨p,vs,e1,e2,e3⟩:=h
    exact⟨p,vs,e1,e2.sq,e3⟩
theorem Dq {pins:List (Addr × Obj)}{σ:St}{H:Hp}{s:Shared}{ρ:List Addr}{hd:Hd}{d k:D}{v v':V}{u u':Value}{b:Bool}(hu:X.A.units + 24 < cLine)(I:Inv X pins σ H s)(r:RH X.K ρ H hd)(h1:RD X.K ρ H d v)(h2:RD X.K ρ H k v')
    (r1:bj v u) (r2:bj v' u') (e:eqG hd d k=some b):SeqAt.RcAt X.A s u u' b∧SeqAt.RcNeAt X.A s u u' (!b):=by
  have hu0:X.A.units < cLine:=by omega
  simp only [eqG] at e
  cases c1:gw hd d with
  | none =>
    cases c2:gw hd k with
    | some l=>rw [c1,c2] at e;cases e
    | none =>
      rw [c1,c2] at e
      simp only at e
      split at e
      · rename_i hd20
        exact Hv I.hok h1 h2 r1 r2 e (by omega)
      · cases e
  | some xs =>
    cases c2:gw hd k with
    | none=>rw [c1,c2] at e;cases e
    | some ys =>
      rw [c1,c2] at e
      simp only [eqL] at e
      obtain⟨p,vs,rfl,s1,q1⟩:=uq r h1 c1
      obtain⟨p',vs',rfl,s2,q2⟩:=uq r h2 c2
      cases r1;cases r2
      obtain⟨its,rv,pl,_⟩:=I.list s1
      obtain⟨its',rv',pl',_⟩:=I.list s2
      have il:s.heap.IsList p its.toArray:=pl.isList
      have il':s.heap.IsList p' its'.toArray:=pl'.isList
      have l1:xs.length=its.length:=q1.length.trans rv.length
      have l2:ys.length=its'.length:=q2.length.trans rv'.length
      split at e
      · rename_i hd20
        split at e
        · rename_i hl
          obtain⟨f,hf,ha⟩:=nR I.hok (A:=X.A.in1) q1 q2 rv rv' e (by show X.A.units + 1 + ja xs < cLine;omega)
          have hs:its.toArray.size=its'.toArray.size:=by simp;omega
          have g1:=SeqAt.RcAt.lists (s:=s) (A:=X.A) (e:=f) il il' hs hu0 (fun j h1 h2=>by simpa using hf j (by simpa using h1) (by simpa using h2))
          have g2:=SeqAt.RcNeAt.lists (s:=s) (A:=X.A) (e:=f) il il' hs hu0 (fun j h1 h2=>by simpa using hf j (by simpa using h1) (by simpa using h2))
          have hm:min its.length its'.length=its.length:=by omega
          rw [hm] at ha
          rw [← ha]
          exact⟨by simpa using g1,by simpa using g2⟩
        · rename_i hl
          cases e
          have hs:(its.toArray.size != its'.toArray.size)=true:=by simp;omega
          exact⟨SeqAt.RcAt.lists_lengths il il' hs hu0,SeqAt.RcNeAt.lists_lengths il il' hs hu0⟩
      · cases e
def FA (K:PySem.W.Frag) (f:Bool→Bool):R2:=fun x y H Q=>∃ ρ hd d k b,RH K ρ H hd∧RD K ρ H d x∧RD K ρ H k y∧eqG hd d k=some b∧Q (.bl (f b)) H
theorem fZ (hu:X.A.units + 24 < cLine):OpR X (compareOp .Eq) (FA X.K id):=by
  intro pins s σ H x y v u Q I rx ry h
  obtain⟨ρ,hd,d,k,b,r,h1,h2,e,q⟩:=h
  exact (Dq hu I r h1 h2 rx ry e).1 _ _ _ _ ⟨.bl b,H,I,rfl,q⟩
theorem ki (hu:X.A.units + 24 < cLine):OpR X (compareOp .NotEq) (FA X.K not):=by
  intro pins s σ H x y v u Q I rx ry h
  obtain⟨ρ,hd,d,k,b,r,h1,h2,e,q⟩:=h
  exact (Dq hu I r h1 h2 rx ry e).2 _ _ _ _ ⟨.bl (!b),H,I,rfl,q⟩
theorem jj {K:PySem.W.Frag}:Og K oEq (FA K id):=by
  intro ρ H σd hd σ d k v w Q rs rv rw' p
  unfold oEq at p
  cases e:eqG hd d k with
  | none=>rw [e] at p;exact p.elim
  | some b=>rw [e] at p;exact⟨ρ,hd,d,k,b,rs.hp,rv,rw',e,p.here rs (by simp only [rD,RD];rfl)⟩
theorem oy {K:PySem.W.Frag}:Og K oNe (FA K not):=by
  intro ρ H σd hd σ d k v w Q rs rv rw' p
  unfold oNe at p
  cases e:eqG hd d k with
  | none=>rw [e] at p;exact p.elim
  | some b=>rw [e] at p;exact⟨ρ,hd,d,k,b,rs.hp,rv,rw',e,p.here rs (by simp only [rD,RD])⟩
end
end Fm
set_option Elab.async false
set_option linter.all false
set_option maxRecDepth 100000
namespace Fm
open PySem PySem.Spec L2
section
variable {K:PySem.W.Frag} {ρ ρ':List Addr} {H H':Hp} {hd hd':Hd} {σd:Sd} {σ:St}
theorem bI.outE {r:Res D}{k:D→Hd→Out}{En:n6}(p:bI K ρ H (outE r σd k) En) :
    bp K (rD K) ρ H σd σ r (fun v H'=>∃ ρ' d hd',Ext ρ H ρ' H'∧RS K ρ' H' σd hd' σ ∧ RD K ρ' H' d v∧bI K ρ' H' (k d hd') En):=by
  cases r with
  | ok d h'=>exact fun b H' ρ' ex rs q=>⟨ρ',d,h',ex,rs,q,bI.ext ex p⟩
  | exc x h'=>exact p
  | bad=>exact p
theorem RSt.set (r:RSt K ρ H σd σ){d:D}{v:V}(i:Nat)(h:RD K ρ H d v):RSt K ρ H (σd.set i (some d)) (σ.set i (some v)):=by
  refine⟨by simp [r.len],fun j x e => ?_⟩
  by_cases hj:i=j
  · subst hj
    by_cases hl:i < σd.length
    · simp only [slot,List.getElem?_set_self hl] at e
      cases e
      exact⟨v,by rw [List.getElem?_set_self (by rw [← r.len];exact hl)],h⟩
    · simp only [slot] at e
      rw [List.getElem?_eq_none (by simp;omega)] at e
      cases e
  · simp only [slot,List.getElem?_set_ne hj] at e
    rw [List.getElem?_set_ne hj]
    exact r.at' j x (by simpa only [slot] using e)
def Jp (K:PySem.W.Frag) (g:GF):TG:=fun v σ H Q=>∃ ρ σd hd d σd',RS K ρ H σd hd σ ∧ RD K ρ H d v∧g d σd=some σd' ∧ ∀ σ',RS K ρ H σd' hd σ'→Q σ' H
def Hw (σ:Sd) (l:List Nat) (xs:List D):Sd:=(l.zip xs).foldl (fun σ p => σ.set p.1 (some p.2)) σ
def Hx (K:PySem.W.Frag) (l:List Nat):TGs:=fun vs σ H Q=>∃ ρ σd hd ds,RS K ρ H σd hd σ ∧ RDs K ρ H ds vs∧ds.length=l.length ∧ ∀ σ',RS K ρ H (Hw σd l ds) hd σ'→Q σ' H
end
def MG (X:Cx) (tg:Expr) (g:GF):Prop:=PG X tg (Jp X.K g)
def MGs (X:Cx) (ts:List Expr) (l:List Nat):Prop:=PGs X ts (Hx X.K l)
section
variable {X:Cx} {pos:Pos}
theorem PG.imp {tg:Expr}{t u:TG}(h:PG X tg t)(i:∀ v σ H Q,u v σ H Q→t v σ H Q):PG X tg u:=fun pins s σ H v w Q I r q=>h pins s σ H v w Q I r (i v σ H Q q)
theorem PGs.imp {tg:List Expr}{t u:TGs}(h:PGs X tg t)(i:∀ v σ H Q,u v σ H Q→t v σ H Q):PGs X tg u:=fun pins s σ H v w Q I r q=>h pins s σ H v w Q I r (i v σ H Q q)
theorem aJ {i:Nat}{x:Str}(hN:X.N.Nodup)(hi:X.N[i]? = some x)(hx:Loc X.env.scope x)(hf:X.fn x=true∨X.env.scope.names.lookup x=some .local:=by first|exact .inl rfl|exact .inr rfl|assumption):MG X (.Name x pos) (gN i):=by
  refine PG.imp (Fh hN hi hx hf) fun v σ H Q ⟨ρ,σd,hd,d,σd',rs,rv,e,q⟩ => ?_
  simp only [gN,Option.some.injEq] at e
  subst e
  exact q _ ⟨rs.hp,rs.st.set i rv⟩
theorem ur:MGs X [] []:=by
  refine PGs.imp Fi fun vs σ H Q ⟨ρ,σd,hd,ds,rs,rv,e,q⟩ => ?_
  have:ds=[]:=by simpa using e
  subst this
  simp only [RDs] at rv
  exact⟨rv,q σ rs⟩
theorem gb {e:Expr}{es:List Expr}{i:Nat}{l:List Nat}(h1:MG X e (gN i))(h2:MGs X es l)
    (hs:(assignEach (e :: es) X.env).map (·.2)=assign e X.env :: (assignEach es X.env).map (·.2):=by rfl):MGs X (e :: es) (i :: l):=by
  refine PGs.imp (C8 h1 h2 hs) fun vs σ H Q ⟨ρ,σd,hd,ds,rs,rv,e,q⟩ => ?_
  cases ds with
  | nil=>simp at e
  | cons d ds =>
    simp only [RDs] at rv
    obtain⟨v,r,rfl,h1,h2⟩:=rv
    refine⟨v,r,rfl,ρ,σd,hd,d,_,rs,h1,rfl,fun σ' rs' => ?_⟩
    exact⟨ρ,_,hd,ds,rs',h2,by simpa using e,fun σ2 rs2=>q σ2 rs2⟩
theorem yS {es:List Expr}{k:Nat}{l:List Nat}(hc:X.calm=true)(h:MGs X es l)
    (hn:(assignEach es X.env).length=l.length:=by rfl) (hst:(assignEach es X.env).findIdx? (·.1)=none:=by rfl):MG X (.Tuple es k pos) (gT l):=by
  refine PG.imp (G6 hc h hn hst) fun v σ H Q ⟨ρ,σd,hd,d,σd',rs,rv,e,q⟩ => ?_
  cases d<;>simp only [gT] at e<;>try (cases e;done)
  rename_i xs
  split at e
  · rename_i hl
    cases e
    simp only [RD] at rv
    obtain⟨p,vs,rfl,hp,r⟩:=rv
    exact⟨p,vs,rfl,SqT.of hp,by rw [← r.length];exact hl,ρ,σd,hd,xs,rs,r,hl,q⟩
  · cases e
theorem bn:MSs X [] bB:=PSs.imp uf fun En σ H ⟨ρ,σd,hd,rs,p⟩=>p σ H ρ Ext.refl rs
theorem ai {st:Stmt}{rest:List Stmt}{a b:SF}(h1:MS X st a)(h2:MSs X rest b):MSs X (st :: rest) (av a b):=by
  refine PSs.imp (wz h1 h2) fun En σ H ⟨ρ,σd,hd,rs,p⟩=>⟨ρ,σd,hd,rs,?_⟩
  unfold av at p
  cases e:a σd hd with
  | nx σ1 h1=>rw [e] at p;exact fun σ' H' ρ' ex rs'=>⟨ρ',σ1,h1,rs',bI.ext ex p⟩
  | rt d h1=>rw [e] at p;exact p
  | bk σ1 h1=>rw [e] at p;exact p
  | ct σ1 h1=>rw [e] at p;exact p
  | exc x σ1 h1=>rw [e] at p;exact p
  | bad=>rw [e] at p;exact p
theorem ar {st:Stmt}{a:SF}(h:MS X st a):MSs X [st] a:=ug h
theorem iw {st:Stmt}:MS X st jb:=PS.imp C6 fun En σ H ⟨ρ,σd,hd,rs,p⟩=>p.elim
theorem aY {e:Expr}{f:EF}(h:ME X e f):MS X (.Return (some e) pos) (bo f):=by
  refine PS.imp (G2 h) fun En σ H ⟨ρ,σd,hd,rs,p⟩=>⟨ρ,σd,hd,rs,(bI.outE p).imp fun v H1 ⟨ρ1,d,hd1,e1,rs1,rv,p1⟩ => ?_⟩
  exact p1 v H1 ρ1 Ext.refl rs1.hp rv
theorem nS {e:Expr}{f:EF}(h:ME X e f)(hs:swapsWith e none pos.line X.env=pure false:=by rfl):MS X (.Expr e pos) (kO f):=by
  refine PS.imp (Au h hs) fun En σ H ⟨ρ,σd,hd,rs,p⟩=>⟨ρ,σd,hd,rs,(bI.outE p).imp fun v H1 ⟨ρ1,d,hd1,e1,rs1,rv,p1⟩ => ?_⟩
  exact p1 σ H1 ρ1 Ext.refl rs1
theorem cO {c:Expr}{a b:List Stmt}{t:TF}{fa fb:SF}(hc:MT X c t)(ha:MSs X a fa)(hb:MSs X b fb):MS X (.If c a b pos) (sIf t fa fb):=by
  refine PS.imp (Gs hc ha hb) fun En σ H ⟨ρ,σd,hd,rs,p⟩=>⟨ρ,σd,hd,rs,?_⟩
  unfold sIf at p
  cases e:t σd hd with
  | ok c h1 =>
    rw [e] at p
    intro b H' ρ' ex rs' q
    cases q
    cases c with
    | true=>simp only [if_true] at p ⊢;exact⟨ρ',σd,h1,rs',bI.ext ex p⟩
    | false=>simp only [Bool.false_eq_true,if_false] at p ⊢;exact⟨ρ',σd,h1,rs',bI.ext ex p⟩
  | exc x h1=>rw [e] at p;exact p
  | bad=>rw [e] at p;exact p
theorem aW {i:Nat}{x:Str}{e:Expr}{f:EF}{pos':Pos}(hN:X.N.Nodup)(hi:X.N[i]? = some x)(hx:Loc X.env.scope x)(he:ME X e f)(hs:swapsWith e (some (.Name x pos')) pos.line X.env=pure false:=by rfl)(hf:X.fn x=true∨X.env.scope.names.lookup x=some .local:=by first|exact .inl rfl|exact .inr rfl|assumption) :
    MS X (.Assign [.Name x pos'] e pos) (aC (gN i) f):=by
  refine PS.imp (yH hN hi hx he hs hf) fun En σ H ⟨ρ,σd,hd,rs,p⟩=>⟨ρ,σd,hd,rs,(bI.outE p).imp fun v H1 ⟨ρ1,d,hd1,e1,rs1,rv,p1⟩ => ?_⟩
  exact p1 _ H1 ρ1 Ext.refl ⟨rs1.hp,rs1.st.set i rv⟩
theorem Hy {tg e:Expr}{f:EF}{g:GF}(he:ME X e f)(hg:MG X tg g)(hs:swapsWithSole [tg] e pos.line X.env=pure false:=by rfl)(hw:swappedStores [tg] e X.env=pure none:=by rfl)
    (h1:(assignEach [tg] X.env).map (·.2)=[assign tg X.env]:=by rfl):MS X (.Assign [tg] e pos) (aC g f):=by
  refine PS.imp (yG he hg hs hw h1) fun En σ H ⟨ρ,σd,hd,rs,p⟩=>⟨ρ,σd,hd,rs,(bI.outE p).imp fun v H1 ⟨ρ1,d,hd1,e1,rs1,rv,p1⟩ => ?_⟩
  cases c:g d σd with
  | none=>rw [c] at p1;exact p1.elim
  | some σ1=>rw [c] at p1;exact⟨ρ1,σd,hd1,d,σ1,rs1,rv,c,fun σ' rs'=>p1 σ' H1 ρ1 Ext.refl rs'⟩
theorem Hz:Fm.ixN=L2.ixN:=rfl
theorem yT {o i e:Expr}{fo fi fe:EF}{p2:Pos}(he:ME X e fe)(ho:ME X o fo)(hi:ME X i fi)(hs:swapsWithSole [.Subscript o i p2] e pos.line X.env=pure false:=by rfl)(hw:swappedStores [.Subscript o i p2] e X.env=pure none:=by rfl)
    (h1:(assignEach [.Subscript o i p2] X.env).map (·.2)=[assign (.Subscript o i p2) X.env]:=by rfl) (ha:∀ v,assign (.Subscript o i p2) X.env v=(do
      let ov ← holding [v] (eval o X.env)
      let iv ← holding [v,ov] (eval i X.env)
      standAt p2
      holding [v,ov,iv] (setItem ov iv v)
      release [v,ov,iv] []):=by intro _;rfl):MS X (.Assign [.Subscript o i p2] e pos) (nG fo fi fe):=by
  refine PS.imp (yG he (C9 ho hi Di ha) hs hw h1) fun En σ H ⟨ρ,σd,hd,rs,p⟩=>⟨ρ,σd,hd,rs,(bI.outE p).imp fun v H1 ⟨ρ1,d,hd1,e1,rs1,rv,p1⟩ => ?_⟩
  refine⟨ρ1,σd,hd1,rs1,(bI.outE p1).imp fun vo H2 ⟨ρ2,dO,hd2,e2,rs2,ro,p2⟩ => ?_⟩
  refine⟨ρ2,σd,hd2,rs2,(bI.outE p2).imp fun vi H3 ⟨ρ3,di,hd3,e3,rs3,ri,p3⟩ => ?_⟩
  have rv3:=(rv.mono (rs1.hp.kp e2)).mono (rs2.hp.kp e3)
  have ro3:=ro.mono (rs2.hp.kp e3)
  cases dO with
  | ref n =>
    cases di with
    | int j =>
      simp only at p3
      cases c:hd3[n]? with
      | none=>rw [c] at p3;exact p3.elim
      | some cell =>
        rw [c] at p3
        cases cell with
        | dct l=>exact p3.elim
        | lst l =>
          simp only at p3
          cases c2:ixN l.length j with
          | none=>rw [c2] at p3;exact p3.elim
          | some k =>
            rw [c2] at p3
            simp only [RD] at ro3 ri
            obtain⟨a,ha,rfl⟩:=ro3
            obtain⟨vs,hv,rvs⟩:=rs3.hp.cel n _ a c ha
            refine⟨a,vs,j,k,rfl,ri,hv,by rw [← rvs.length,← Hz];exact c2,?_⟩
            have hn:n < hd3.length:=(List.getElem?_eq_some_iff.mp c).1
            have rh:=rs3.hp.write ha hn (RDs.set rv3 k rvs)
            have ex:Ext ρ3 H3 ρ3 (upd H3 a (.lst (vs.set k v))):=Ext.write (List.mem_of_getElem? ha)
            exact p3 σ _ ρ3 ex (rs3.ext ex rh)
    | _=>exact p3.elim
  | _=>exact p3.elim
end
section
variable (K:PySem.W.Frag)
structure pZ (ρ0:List Addr) (H0:Hp) (J:It) (l:List D) (g:Option Nat):Prop where
  go:∀ ρ H hd (i:Nat) d,Ext ρ0 H0 ρ H→RH K ρ H hd→fV g l hd→l[i]? = some d→J.go i H ∧ ∀ x H',J.yld i H x H'→hJ H H'∧RD K ρ H' d x
  stop:∀ ρ H hd,Ext ρ0 H0 ρ H→RH K ρ H hd→fV g l hd→J.stop l.length H
  sz:l.length≤sizeLine
def Jq (ρ:List Addr) (H:Hp) (σd:Sd) (σ:St) (r:Res (List D × Option Nat)) (R:It→Hp→Prop):Prop:=match r with
  | .ok p hd'=>∀ J H' ρ',Ext ρ H ρ' H'→RS K ρ' H' σd hd' σ → pZ K ρ' H' J p.1 p.2→R J H'
  | _=>False
def Jr (f:IF):TI:=fun σ H R=>∃ ρ σd hd,RS K ρ H σd hd σ ∧ Jq K ρ H σd σ (f σd hd) R
end
def MI (X:Cx) (tg e:Expr) (f:IF):Prop:=PI X tg e (Jr X.K f)
section
variable {X:Cx} {pos:Pos} {tg:Expr}
theorem PI.imp {e:Expr}{t u:TI}(h:PI X tg e t)(i:∀ σ H R,u σ H R→t σ H R):PI X tg e u:=fun pins s σ H R I q=>h pins s σ H R I (i σ H R q)
theorem fz {iter:Expr}{body:List Stmt}{f:IF}{g:GF}{b:SF}(hp:PassesOwn (model X.prog X.w) X.A X.env X.xe)(hc:X.calm=true)(hi:MI X tg iter f)(hg:MG X tg g)(hb:MSs X body b)
    (hs:∀ x,foldedSetIterable iter X.env x=pure x:=by intro _;rfl):MS X (.For tg iter body [] pos) (eC f g b):=by
  refine PS.imp (Dc hp hc hi hg hb hs) fun En σ H ⟨ρ,σd,hd,rs,p⟩=>⟨ρ,σd,hd,rs,?_⟩
  unfold eC at p
  cases e:f σd hd with
  | exc x h'=>rw [e] at p;exact p
  | bad=>rw [e] at p;exact p
  | ok q hd1 =>
    rw [e] at p
    obtain⟨l,gd⟩:=q
    intro J H1 ρ1 ex1 rs1 wk
    simp only at p wk
    refine⟨fun i m σ' H'=>∃ ρ' σd' hd',Ext ρ1 H1 ρ' H'∧RS X.K ρ' H' σd' hd' σ'∧i≤l.length∧m=l.length - i∧bI X.K ρ' H' (dm gd l g b (l.drop i) σd' hd') En,
      ⟨l.length,ρ1,σd,hd1,Ext.refl,rs1,Nat.zero_le _,by simp,by simpa using bI.ext ex1 p⟩,?_⟩
    rintro i m σ' H' ⟨ρ',σd',hd',ex,rs',hil,rfl,pp⟩
    by_cases hlt:i < l.length
    · have hdi:l[i]? = some l[i]:=by simp [hlt]
      rw [List.drop_eq_getElem_cons hlt] at pp
      unfold dm at pp
      by_cases hh:fV gd l hd'
      · rw [if_pos hh] at pp
        obtain⟨go,yl⟩:=wk.go ρ' H' hd' i _ ex rs'.hp hh hdi
        refine .inr ⟨go,fun σ2 H2=>∃ ρ2 σd2 hd2,Ext ρ1 H1 ρ2 H2∧RS X.K ρ2 H2 σd2 hd2 σ2∧bI X.K ρ2 H2 (dm gd l g b (l.drop (i + 1)) σd2 hd2) En,
          fun σ2 H2 ⟨ρ2,σd2,hd2,a1,a2,a3⟩=>⟨l.length - (i + 1),by omega,ρ2,σd2,hd2,a1,a2,hlt,rfl,a3⟩,fun x H2 y => ?_⟩
        obtain⟨sm,rx⟩:=yl x H2 y
        cases c:g l[i] σd' with
        | none=>rw [c] at pp;exact pp.elim
        | some σd2 =>
          rw [c] at pp
          simp only at pp
          refine⟨ρ',σd',hd',l[i],σd2,rs'.same sm,rx,c,fun σ2 rs2=>⟨ρ',σd2,hd',rs2,?_⟩⟩
          have e12:Ext ρ' H' ρ' H2:=Ext.same sm
          cases c2:b σd2 hd' with
          | nx σ3 h3=>rw [c2] at pp;exact fun σ4 H4 ρ4 ex4 rs4=>⟨ρ4,σ3,h3,ex.trans (e12.trans ex4),rs4,bI.ext (e12.trans ex4) pp⟩
          | ct σ3 h3=>rw [c2] at pp;exact fun σ4 H4 ρ4 ex4 rs4=>⟨ρ4,σ3,h3,ex.trans (e12.trans ex4),rs4,bI.ext (e12.trans ex4) pp⟩
          | bk σ3 h3=>rw [c2] at pp;exact fun σ4 H4 ρ4 ex4 rs4=>pp σ4 H4 ρ4 (e12.trans ex4) rs4
          | rt d h3=>rw [c2] at pp;exact fun v H4 ρ4 ex4 rs4 rv=>pp v H4 ρ4 (e12.trans ex4) rs4 rv
          | exc x σ3 h3=>rw [c2] at pp;exact pp
          | bad=>rw [c2] at pp;exact pp
      · rw [if_neg hh] at pp;exact pp.elim
    · have e0:i=l.length:=by omega
      subst e0
      rw [List.drop_length] at pp
      unfold dm at pp
      by_cases hh:fV gd l hd'
      · rw [if_pos hh] at pp
        exact .inl ⟨wk.stop ρ' H' hd' ex rs'.hp hh,pp σ' H' ρ' Ext.refl rs'⟩
      · rw [if_neg hh] at pp;exact pp.elim
theorem Dr {K:PySem.W.Frag}{ρ:List Addr}{H:Hp}{hd:Hd}{q:Addr}{l:List D}{vs:List V}(r:RH K ρ H hd)(hq:H q=some (.tup vs))(rv:RDs K ρ H l vs)(hz:vs.length≤sizeLine):pZ K ρ H (Itt K q) l none where
  go:=fun ρ' H' hd' i d ex rh _ hi=>by
    have k:=r.kp ex
    obtain⟨v,hv,rd⟩:=(rv.mono k).get hi
    have sq:SqT K H' q vs:=SqT.of (k.tup q vs hq)
    refine⟨⟨vs,v,sq,hv⟩,fun x H2 y => ?_⟩
    obtain⟨rfl,y⟩:=y
    have:=y vs sq
    rw [hv] at this
    cases this
    exact⟨hJ.refl _,rd⟩
  stop:=fun ρ' H' hd' ex rh _=>⟨vs,SqT.of ((r.kp ex).tup q vs hq),by rw [rv.length];exact Nat.le_refl _⟩
  sz:=by rw [rv.length];exact hz
theorem Ds {K:PySem.W.Frag}{ρ:List Addr}{H:Hp}{hd:Hd}{q:Addr}{l:List D}{vs:List V}(r:RH K ρ H hd)(hq:mT K H q vs)(rv:RDs K ρ H l vs)(hz:vs.length≤sizeLine):pZ K ρ H (Itl K q) l none where
  go:=fun ρ' H' hd' i d ex rh _ hi=>by
    have k:=r.kp ex
    obtain⟨v,hv,rd⟩:=(rv.mono k).get hi
    have sq:SqL K H' q vs:=(hq.mono k).sq
    refine⟨⟨vs,v,sq,hv⟩,fun x H2 y => ?_⟩
    obtain⟨rfl,y⟩:=y
    have:=y vs sq
    rw [hv] at this
    cases this
    exact⟨hJ.refl _,rd⟩
  stop:=fun ρ' H' hd' ex rh _=>⟨vs,(hq.mono (r.kp ex)).sq,by rw [rv.length];exact Nat.le_refl _⟩
  sz:=by rw [rv.length];exact hz
theorem Dt {K:PySem.W.Frag}{ρ:List Addr}{H:Hp}{n:Nat}{q:Addr}{l:List D}(hq : ρ[n]? = some q)(hz:l.length≤sizeLine):pZ K ρ H (Itl K q) l (some n) where
  sz:=hz
  go:=fun ρ' H' hd' i d ex rh hl hi=>by
    obtain⟨vs,e,rv⟩:=rh.cel n _ q hl (ex.get hq)
    obtain⟨v,hv,rd⟩:=rv.get hi
    have sq:SqL K H' q vs:=SqL.of e
    refine⟨⟨vs,v,sq,hv⟩,fun x H2 y => ?_⟩
    obtain⟨rfl,y⟩:=y
    have:=y vs sq
    rw [hv] at this
    cases this
    exact⟨hJ.refl _,rd⟩
  stop:=fun ρ' H' hd' ex rh hl=>by
    obtain⟨vs,e,rv⟩:=rh.cel n _ q hl (ex.get hq)
    exact⟨vs,SqL.of e,by rw [rv.length];exact Nat.le_refl _⟩
theorem Du {l:Expr}{tl:TE}(hl:PE X l tl):PI X tg l (fun σ H R=>tl σ H fun x H1=>(∃ a xs,x=.ref a∧SqL X.K H1 a xs∧(xs.length≤sizeLine→R (Itl X.K a) H1)) ∨ ∃ a xs,x=.ref a∧SqT X.K H1 a xs∧(xs.length≤sizeLine→R (Itt X.K a) H1)):=by
  intro pins s σ H R I h
  refine thn (hl pins s σ H _ I h) fun v s1 ⟨x,H1,I1,r1,q1⟩ => ?_
  rcases q1 with ⟨a,xs,e,hq,q⟩|⟨a,xs,e,hq,q⟩
  · subst e
    cases r1
    obtain⟨its,rv,p,hz⟩:=I1.list hq
    refine wpAny_pyIter_list p.isList ?_
    refine⟨s1.heap.objs.size,[s1.heap.objs.size],_,_,H1,rfl,I1.kept (t':=s1.toks) fun b o e=>Heap.get?_push_of_some _ e,Bv a _,⟨_,Heap.get?_push_size _ rfl,rfl,rfl⟩,fun b hb => ?_,q hz⟩
    have e:b=s1.heap.objs.size:=by simpa using hb
    subst e
    exact I1.fpOk (Nat.le_refl _) (I1.hok.fresh (Nat.le_refl _))
  · subst e
    cases r1
    obtain⟨its,rv,p,hz⟩:=I1.tuple hq
    refine wpAny_pyIter_tuple (show s1.heap.IsTuple a its.toArray from p) ?_
    refine⟨s1.heap.objs.size,[s1.heap.objs.size],_,_,H1,rfl,I1.kept (t':=s1.toks) fun b o e=>Heap.get?_push_of_some _ e,yI a _,⟨_,Heap.get?_push_size _ rfl,rfl,rfl⟩,fun b hb => ?_,q hz⟩
    have e:b=s1.heap.objs.size:=by simpa using hb
    subst e
    exact I1.fpOk (Nat.le_refl _) (I1.hok.fresh (Nat.le_refl _))
theorem d9 {e:Expr}{f:EF}(h:ME X e f):MI X tg e (cS f):=by
  refine PI.imp (Du h) fun σ H R ⟨ρ,σd,hd,rs,p⟩=>⟨ρ,σd,hd,rs,?_⟩
  unfold cS at p
  cases e:f σd hd with
  | exc x h1=>rw [e] at p;exact p
  | bad=>rw [e] at p;exact p
  | ok d hd1 =>
    rw [e] at p
    simp only [ax] at p
    intro v H1 ρ1 ex1 rs1 rv
    cases d<;>try exact p.elim
    · rename_i l
      simp only [rD,RD] at rv
      obtain⟨q,vs,rfl,hq,rvs⟩:=rv
      exact .inr ⟨q,vs,rfl,SqT.of hq,fun hz=>p _ H1 ρ1 ex1 rs1 (Dr rs1.hp hq rvs hz)⟩
    · rename_i n
      simp only [rD,RD] at rv
      obtain⟨a,ha,rfl⟩:=rv
      cases c:hd1[n]? with
      | none=>simp only [c] at p;exact p.elim
      | some cell =>
        cases cell with
        | dct l=>simp only [c] at p;exact p.elim
        | lst l =>
          simp only [c] at p
          obtain⟨vs,hv,rvs⟩:=rs1.hp.cel n _ a c ha
          exact .inl ⟨a,vs,rfl,SqL.of hv,fun hz=>p _ H1 ρ1 ex1 rs1 (Dt ha (by rw [rvs.length];exact hz))⟩
    · rename_i l
      simp only [rD,RD] at rv
      obtain⟨q,vs,rfl,hq,rvs⟩:=rv
      exact .inl ⟨q,vs,rfl,hq.sq,fun hz=>p _ H1 ρ1 ex1 rs1 (Ds rs1.hp hq rvs hz)⟩
theorem HA {e:Expr}{la:LF}(h:MF X e la):MI X tg e (BE la):=by
  refine PI.imp (Du h) fun σ H R ⟨ρ,σd,hd,rs,p⟩=>⟨ρ,σd,hd,rs,?_⟩
  unfold BE at p
  cases e:la σd hd with
  | exc x h1=>rw [e] at p;exact p
  | bad=>rw [e] at p;exact p
  | ok l hd1 =>
    rw [e] at p
    simp only [ax] at p
    intro q vs H1 ρ1 ex1 rs1 hq0 hq hn rvs
    refine .inl ⟨q,vs,rfl,SqL.of hq,fun hz=>p _ H1 ρ1 ex1 rs1 ⟨fun ρ' H' hd' i d ex rh _ hi => ?_,fun ρ' H' hd' ex rh _=>⟨vs,SqL.of (ex.frame q _ hq hn),by rw [rvs.length];exact Nat.le_refl _⟩,by rw [rvs.length];exact hz⟩⟩
    obtain⟨v,hv,rd⟩:=(rvs.mono (rs1.hp.kp ex)).get hi
    have sq:SqL X.K H' q vs:=SqL.of (ex.frame q _ hq hn)
    refine⟨⟨vs,v,sq,hv⟩,fun x H2 y => ?_⟩
    obtain⟨rfl,y⟩:=y
    have:=y vs sq
    rw [hv] at this
    cases this
    exact⟨hJ.refl _,rd⟩
theorem yU {K:PySem.W.Frag}{ρ:List Addr}{H:Hp}(lo:Int)(n:Nat)(hz:n≤2000000):pZ K ρ H (Itr lo n) ((List.range n).map fun k:Nat=>.int (lo + k)) none where
  go:=fun ρ' H' hd' i d ex rh _ hi=>by
    have hin:i < n:=by
      have:=(List.getElem?_eq_some_iff.mp hi).1
      simpa using this
    refine⟨hin,fun x H2 y => ?_⟩
    obtain⟨rfl,rfl⟩:=y
    have e:d=.int (lo + i):=by simpa [hin] using hi.symm
    subst e
    exact⟨hJ.refl _,by simp only [RD]⟩
  stop:=fun ρ' H' hd' ex rh _=>by
    show n≤_
    simp
  sz:=by
    have:(2000000:Nat)≤sizeLine:=by rw [sizeLine_eq];decide
    simp;omega
theorem bQ {a:Expr} {f:EF} {p:Pos} (hg:Gl X "range") (hm:X.mg "range" = none) (ha:ME X a f) (hs:starEach [a] X.env=[(false,eval a X.env)]:=by rfl):MI X tg (.Call (.Name "range" p) [a] [] pos) (aV f):=by
  refine PI.imp (Bw hg hm (cx ha eA hs) hs) fun σ H R ⟨ρ,σd,hd,rs,pp⟩=>⟨ρ,σd,hd,rs,?_⟩
  unfold aV at pp
  cases e:f σd hd with
  | exc x h1=>rw [e] at pp;exact pp
  | bad=>rw [e] at pp;exact pp
  | ok d hd1 =>
    rw [e] at pp
    simp only [ax] at pp
    intro v H1 ρ1 ex1 rs1 rv
    cases d<;>try exact pp.elim
    rename_i n
    simp only at pp
    simp only [rD,RD] at rv
    subst rv
    split at pp
    · rename_i hb
      refine⟨n,rfl,by omega,by omega,pp _ H1 ρ1 ex1 rs1 ?_⟩
      have:=yU (K:=X.K) (ρ := ρ1) (H:=H1) 0 n.toNat (by omega)
      simpa using this
    · exact pp.elim
end
end Fm
set_option linter.all false
namespace Fm
noncomputable section
open Classical
def eQ (G:Hd→Prop) (tg:GF) (cs:List TF) (e:EF):List D→Sd→Hd→Res (List D)
  | [],_,h=>if G h then .ok [] h else .bad
  | x :: xs,σ,h=>if G h then match tg x σ with
      | some σ=>(i6 cs σ h).bind fun b h=>if b then (e σ h).bind fun d h=>(eQ G tg cs e xs σ h).bind fun ds h=>.ok (d :: ds) h
        else eQ G tg cs e xs σ h
      | none=>.bad
    else .bad
end
theorem nT {g:Option Nat}{all:List D}{tg:GF}{cs:List TF}{e:EF}:∀ (xs:List D) (σ:Sd) (h:Hd),bV g all tg cs e xs σ h=eQ (fV g all) tg cs e xs σ h
  | [],_,h=>by unfold bV eQ;rfl
  | x :: xs,σ,h=>by
    unfold bV eQ
    by_cases hh:fV g all h
    · rw [if_pos hh,if_pos hh]
      cases tg x σ with
      | none=>rfl
      | some σ'=>simp only [nT xs]
    · rw [if_neg hh,if_neg hh]
end Fm
set_option Elab.async false
set_option linter.all false
set_option maxRecDepth 100000
namespace Fm
open PySem PySem.Spec L2
section
variable {prog:Program} {w:World} {A:Around} {R:Result→Shared→Prop} {s:Shared}
theorem kT {elt target iter:Expr}{ifs:List Expr}{scope:Scope}{pos:Pos}{it acc:Value}{env:Env}{E:Value→Shared→Prop}(hE:∀ e s,¬ E e s)(I:Nat→Shared→Prop)
    (turn:∀ n s,I n s→wpAny (model prog w) A (pyNext it) (fun r s₁ => match r with
      | none=>R (.ok .next) s₁
      | some v=>wpAny (model prog w) A (letOwnedTupleGo target it v) (fun _ s₁ => wpAny (model prog w) A (assign target env v) (fun _ s₂ =>
          wpAny (model prog w) A (forIn ifs true fun c r=>if r=true then do let ok ← isTrue c env (eval c env);pure (ForInStep.yield ok) else pure (ForInStep.yield r)) (fun ok s₃ =>
            if ok=true then wpAny (model prog w) A (eval elt env) (fun x s₄ =>
              wpAny (model prog w) A (call (.builtin "list.append") [acc,x]) (fun _ s₅ => ∃ m,m < n∧I m s₅) E s₄) E s₃
            else ∃ m,m < n∧I m s₃) E s₂) E s₁) E s₁) E s)
    (n:Nat) (h:I n s) :
    codeAny (model prog w) A (.compLoop (.ListComp elt [⟨target,iter,ifs,0⟩] scope pos) 0 it acc env) R s:=by
  refine codeAny_loop rfl I (fun n s hI => ?_) n h
  show wpAny _ A ((compTurn (.ListComp elt [⟨target,iter,ifs,0⟩] scope pos) 0 it acc env).onRaise (fun x=>do noteFrame x env;theTreesLotGoes x)) _ _ s
  refine wpAny_noted ?_
  rw [compTurn_list]
  have no:∀ {α : Type} {t:Sem α} {Q Q' : α → Shared→Prop} {E':Value→Shared→Prop} {s:Shared},wpAny (model prog w) A t Q E s→(∀ a s,Q a s→Q' a s)→wpAny (model prog w) A t Q' E' s:=fun h hq=>wpAny_mono h hq fun e s z=>(hE e s z).elim
  refine wpAny_bind (wpAny_standAt (wpAny_bind (no (turn n s hI) fun r s₁ h₁ => ?_)))
  cases r with
  | none=>exact wpAny_pure h₁
  | some v =>
    refine wpAny_bind (no h₁ fun _ s₁ h₁ => ?_)
    refine wpAny_bind (no h₁ fun _ s₂ h₂ => wpAny_bind (no h₂ fun ok s₃ h₃ => ?_))
    cases ok with
    | false=>exact wpAny_pure ⟨rfl,h₃⟩
    | true =>
      exact wpAny_bind (wpAny_bind (no h₃ fun x s₄ h₄ => wpAny_bind (no h₄ fun _ s₅ h₅ => wpAny_pure (wpAny_pure ⟨rfl,h₅⟩))))
end
theorem kj {env:Env}:∀ (l:List (Str × NameKind)) (cs:List (Str × Addr)),(∀ y∈l,y.2=.free → ∃ c,env.cells.lookup y.1=some c) →
    ∃ cl,(forIn l cs fun (x:Str × NameKind) (r:List (Str × Addr))=>if (x.2 == .free)=true then do let a ← cellOf env x.1;pure (ForInStep.yield ((x.1,a) :: r)) else pure (ForInStep.yield r))=(pure cl:Sem _) ∧
      (∀ x c,cl.lookup x=some c→cs.lookup x=some c∨env.cells.lookup x=some c)∧(∀ y∈l,y.2=.free → ∃ c,cl.lookup y.1=some c) ∧ ∀ x c,cs.lookup x=some c → ∃ c',cl.lookup x=some c'
  | [],cs,_=>⟨cs,by simp,fun x c h=>.inl h,fun y hy=>by simp at hy,fun x c h=>⟨c,h⟩⟩
  | (n,k) :: l,cs,hf=>by
    by_cases hk:k=.free
    · subst hk
      obtain⟨c,hc⟩:=hf (n,.free) (by simp) rfl
      obtain⟨cl,h1,h2,h3,h4⟩:=kj l ((n,c) :: cs) fun y hy=>hf y (by simp [hy])
      refine⟨cl,?_,fun x d h => ?_,fun y hy hyf => ?_,fun x d h => ?_⟩
      · rw [List.forIn_cons]
        simp only [beq_self_eq_true,if_true,cellOf,hc]
        exact h1
      · rcases h2 x d h with q|q
        · rw [List.lookup_cons] at q
          cases e:x == n with
          | true =>
            rw [e] at q
            have:x=n:=by simpa using e
            subst this
            cases q
            exact .inr hc
          | false=>rw [e] at q;exact .inl q
        · exact .inr q
      · rcases List.mem_cons.mp hy with e|e
        · subst e
          exact h4 n c (by simp [List.lookup_cons])
        · exact h3 y e hyf
      · by_cases e:x=n
        · subst e
          exact h4 x c (by simp [List.lookup_cons])
        · exact h4 x d (by rw [List.lookup_cons,beq_eq_false_iff_ne.mpr e];exact h)
    · obtain⟨cl,h1,h2,h3,h4⟩:=kj l cs fun y hy=>hf y (by simp [hy])
      refine⟨cl,?_,h2,fun y hy hyf => ?_,h4⟩
      · rw [List.forIn_cons]
        have:(k == NameKind.free)=false:=by simpa using hk
        simp only [this,Bool.false_eq_true,if_false]
        exact h1
      · rcases List.mem_cons.mp hy with e|e
        · subst e;exact absurd hyf hk
        · exact h3 y e hyf
theorem kl {scope:Scope}{env:Env}(hf:∀ y∈scope.names,y.2=.free → ∃ c,env.cells.lookup y.1=some c) :
    ∃ cl,closureFor scope env=pure cl∧(∀ x c,cl.lookup x=some c→env.cells.lookup x=some c) ∧ ∀ y∈scope.names,y.2=.free → ∃ c,cl.lookup y.1=some c:=by
  obtain⟨cl,h1,h2,h3,_⟩:=kj scope.names [] hf
  refine⟨cl,?_,fun x c h=>(h2 x c h).elim (fun z=>by simp at z) id,h3⟩
  unfold closureFor
  have e:(forIn scope.names ([] : List (Str × Addr)) fun (x:Str × NameKind) (r:List (Str × Addr))=>if (x.2 == .free)=true then do let a ← cellOf env x.1;pure (ForInStep.yield ((x.1,a) :: r)) else pure (ForInStep.yield r))=(pure cl:Sem _):=h1
  exact (congrArg (fun t:Sem (List (Str × Addr))=>t >>= fun r=>pure r) e).trans rfl
def cxC (X:Cx) (N:List Str) (scope:Scope) (cl:List (Str × Addr)) (C:Addr) (s:Shared) (H:Hp) (ex:List Addr):Cx where
  prog:=X.prog
  w:=X.w
  K:=X.K
  mg:=X.mg
  base:=X.base
  A:=X.A
  N:=N
  s₀ := s
  H₀ := H
  env:=compEnvC scope cl C X.env
  outer:=X.stack
  stack:=X.stack
  ex:=ex
  fn:=fun _=>false
  calm:=X.calm
  pn:=[]
  xe:=fun _ _=>False
def MTs (X:Cx) (ifs:List Expr) (cs:List TF):Prop :=
  ∀ (pins:List (Addr × Obj)) (s:Shared) (σ:St) (H:Hp) (Q:Bool→Hp→Prop),Inv X pins σ H s→jU X.K rB (i6 cs) σ H Q →
    wpAny (model X.prog X.w) X.A (forIn ifs true fun c r=>if r=true then do let ok ← isTrue c X.env (eval c X.env);pure (ForInStep.yield ok) else pure (ForInStep.yield r)) (TP X pins σ Q) X.xe s
theorem b4 {X:Cx}:MTs X [] []:=fun pins s σ H Q I ⟨ρ,σd,hd,rs,p⟩=>wpAny_tests_nil ⟨H,I,p.here rs rfl⟩
theorem FC {X:Cx}{c:Expr}{t:TF}(h:MT X c t):MTs X [c] [t]:=fun pins s σ H Q I ⟨ρ,σd,hd,rs,p⟩=>wpAny_tests_one (h pins s σ H Q I ⟨ρ,σd,hd,rs,by
  have e:i6 [t] σd hd=t σd hd:=by
    simp only [i6]
    cases c:t σd hd with
    | ok b h'=>cases b<;>simp
    | exc x h'=>rfl
    | bad=>rfl
  rw [e] at p
  exact p⟩)
theorem gc {env:Env}{x:Str}:∀ {names:List (Str × NameKind)} {k:NameKind},(names.map fun (n,k)=>if (k == NameKind.free && env.scope.kind == .function && env.kindOf n == some .cell) then (n,NameKind.cell) else (n,k)).lookup x=some k →
    ∃ k0,names.lookup x=some k0∧(k=k0∨(k0=.free∧k=.cell))
  | [],_,h=>by simp at h
  | (n,k') :: r,k,h=>by
    have ih := @gc env x r k
    have h':List.lookup x ((if (k' == NameKind.free && env.scope.kind == .function && env.kindOf n == some .cell)=true then (n,NameKind.cell) else (n,k')) :: _)=some k:=h
    cases hx:x == n with
    | true =>
      refine⟨k',by simp [List.lookup_cons,hx],?_⟩
      by_cases hc:(k' == NameKind.free && env.scope.kind == .function && env.kindOf n == some .cell)=true
      · rw [if_pos hc] at h'
        simp only [List.lookup_cons,hx,Option.some.injEq] at h'
        simp only [Bool.and_eq_true,beq_iff_eq] at hc
        exact .inr ⟨hc.1.1,h'.symm⟩
      · rw [if_neg hc] at h'
        simp only [List.lookup_cons,hx,Option.some.injEq] at h'
        exact .inl h'.symm
    | false =>
      have:List.lookup x ((n,k') :: r)=List.lookup x r:=by simp [List.lookup_cons,hx]
      rw [this]
      refine ih ?_
      by_cases hc:(k' == NameKind.free && env.scope.kind == .function && env.kindOf n == some .cell)=true
      · rw [if_pos hc] at h';simpa only [List.lookup_cons,hx] using h'
      · rw [if_neg hc] at h';simpa only [List.lookup_cons,hx] using h'
theorem dw {x:Str}{k:NameKind}:∀ {l:List (Str × NameKind)},l.lookup x=some k→(x,k)∈l
  | [],h=>by simp at h
  | (n,k') :: r,h=>by
    rw [List.lookup_cons] at h
    cases e:x == n with
    | true =>
      rw [e] at h
      have:x=n:=by simpa using e
      subst this
      cases h
      exact List.mem_cons_self
    | false=>rw [e] at h;exact List.mem_cons_of_mem _ (dw h)
structure bM (X:Cx) (scope:Scope) (own capn:List Str) (caps:List Nat):Prop where
  kind:scope.kind=.function
  cell:∀ y∈scope.names,y.2 ≠ .cell
  names:∀ y∈scope.names,y.2=.local→scope.names.lookup y.1=some .local
  free:∀ y∈scope.names,y.2=.free→X.env.kindOf y.1=some .cell∨X.env.kindOf y.1=some .free
  cap:∀ (j:Nat) x,capn[j]? = some x → ∃ i,caps[j]? = some i∧X.N[i]? = some x∧scope.names.lookup x=some .free
  len:capn.length=caps.length
section
variable {X:Cx} {pins:List (Addr × Obj)} {σ:St} {H1:Hp} {s2:Shared} {scope:Scope} {own capn:List Str} {caps:List Nat} {cl:List (Str × Addr)} {C:Addr} {ex:List Addr}
def stC (own:List Str) (caps:List Nat) (σ:St):St:=List.replicate own.length none++caps.map fun i=>(σ[i]?).join
theorem HB (I:Inv X pins σ H1 s2)(S:bM X scope own capn caps)(hC:s2.heap.objs.size≤C)(hcl1:∀ x c,cl.lookup x=some c→X.env.cells.lookup x=some c)(hcl2:∀ y∈scope.names,y.2=.free → ∃ c,cl.lookup y.1=some c)
    (hf:∀ b∈ex,kM X pins H1 b) (hlt:∀ b∈ex,b < s2.heap.objs.size):(cxC X (own++capn) scope cl C s2 H1 ex).Ok where
  mod:=I.ok.mod
  kind:=S.kind
  glob:=I.ok.glob
  blt:=I.ok.blt
  above:=hC
  inj:=fun x y c h1 h2=>I.ok.inj x y c (hcl1 x c h1) (hcl1 y c h2)
  has:=fun x hx=>by
    have key:∀ k,(relabel scope X.env).names.lookup x=some k→k=.cell∨k=.free → ∃ c,cl.lookup x=some c:=fun k h hk=>by
      obtain⟨k0,h0,q⟩:=gc h
      have hm:=dw h0
      have:k0=.free:=by
        rcases q with q|q
        · subst q
          rcases hk with e|e
          · exact absurd e (S.cell _ hm)
          · exact e
        · exact q.1
      exact hcl2 _ hm this
    rcases hx with h|h
    · exact key _ h (.inl rfl)
    · exact key _ h (.inr rfl)
  cab:=fun x c h=>by cases h
  hd:=I.ok.hd
  frames:=I.ok.frames
  stk:=.inl rfl
  exf:=fun b hb=>by
    obtain⟨f0,f1,f2,f3,f4,f5⟩:=hf b hb
    exact⟨fun z=>absurd (Nat.lt_of_lt_of_le (hlt b hb) hC) (by rw [z];exact Nat.lt_irrefl _),fun x c e=>f4 x c (hcl1 x c e)⟩
  bs:=I.bs
  bsz:=Nat.le_trans I.ok.bsz I.sz
  noex:=fun b o e hb=>by
    obtain⟨f0,f1,f2,f3,f4,f5⟩:=hf b hb
    rcases f3 with z|z
    · exact I.ok.noex b o e z
    · exact absurd (Nat.lt_of_lt_of_le (Heap.lt_size (I.ok.bs b o e).1) z) (Nat.lt_irrefl _)
  exfs:=fun b hb hs=>by
    obtain⟨f0,f1,f2,f3,f4,f5⟩:=hf b hb
    rcases List.mem_cons.mp (I.stkSub b hs) with z|z
    · exact f1 z
    · exact f2 z
  funs:=I.stack
  frf:=I.stkFree
theorem iy {env:Env}{x:Str}:∀ {names:List (Str × NameKind)},names.lookup x=some .free →
    (names.map fun (n,k)=>if (k == NameKind.free && env.scope.kind == .function && env.kindOf n == some .cell) then (n,NameKind.cell) else (n,k)).lookup x=some .cell ∨
    (names.map fun (n,k)=>if (k == NameKind.free && env.scope.kind == .function && env.kindOf n == some .cell) then (n,NameKind.cell) else (n,k)).lookup x=some .free
  | [],h=>by simp at h
  | (n,k') :: r,h=>by
    have ih := @iy env x r
    show List.lookup x ((if (k' == NameKind.free && env.scope.kind == .function && env.kindOf n == some .cell)=true then (n,NameKind.cell) else (n,k')) :: _)=_∨List.lookup x ((if (k' == NameKind.free && env.scope.kind == .function && env.kindOf n == some .cell)=true then (n,NameKind.cell) else (n,k')) :: _)=_
    cases hx:x == n with
    | true =>
      simp only [List.lookup_cons,hx,Option.some.injEq] at h
      subst h
      by_cases hc:(NameKind.free == NameKind.free && env.scope.kind == .function && env.kindOf n == some .cell)=true
      · rw [if_pos hc];exact .inl (by simp only [List.lookup_cons,hx])
      · rw [if_neg hc];exact .inr (by simp only [List.lookup_cons,hx])
    | false =>
      simp only [List.lookup_cons,hx] at h
      by_cases hc:(k' == NameKind.free && env.scope.kind == .function && env.kindOf n == some .cell)=true
      · rw [if_pos hc];simp only [List.lookup_cons,hx];exact ih h
      · rw [if_neg hc];simp only [List.lookup_cons,hx];exact ih h
theorem AF {i:Nat}{v:V}(h:(stC own caps σ)[i]? = some (some v)):∃ j k,i=own.length + j∧caps[j]? = some k ∧ σ[k]? = some (some v):=by
  unfold stC at h
  by_cases hi:i < own.length
  · rw [List.getElem?_append_left (by simpa using hi)] at h
    simp [hi] at h
  · rw [List.getElem?_append_right (by simpa using Nat.le_of_not_lt hi)] at h
    simp only [List.length_replicate,List.getElem?_map] at h
    cases c:caps[i - own.length]? with
    | none=>rw [c] at h;cases h
    | some k =>
      rw [c] at h
      simp only [Option.map_some,Option.some.injEq] at h
      refine⟨i - own.length,k,by omega,c,?_⟩
      cases e : σ[k]? with
      | none=>rw [e] at h;cases h
      | some o=>rw [e] at h;simp only [Option.join_some] at h;rw [h]
theorem BG (I:Inv X pins σ H1 s2)(S:bM X scope own capn caps)(hC:s2.heap.objs.size < C)(hcl1:∀ x c,cl.lookup x=some c→X.env.cells.lookup x=some c)(hcl2:∀ y∈scope.names,y.2=.free → ∃ c,cl.lookup y.1=some c)
    (hf:∀ b∈ex,kM X pins H1 b) (hlt:∀ b∈ex,b < s2.heap.objs.size) {h1:Heap} {m:Str→Option Value} {tk:Nat} (hn:h1.Ns C m) (hk:∀ b o,s2.heap.get? b=some o→h1.get? b=some o)
    (hD:h1.get? s2.heap.objs.size=some { cls:=.type "list",data:=.seq #[] }) :
    Inv (cxC X (own++capn) scope cl C s2 H1 ex) [] (stC own caps σ) (upd H1 s2.heap.objs.size (.lst [])) { s2 with heap:=h1,toks:=tk } where
  ok:=HB I S (Nat.le_of_lt hC) hcl1 hcl2 hf hlt
  os:=rfl
  bare:=I.bare
  base:=Un.laid hk (Nat.le_refl _) (I.hok.fresh (Nat.le_refl _))
  loc:=by
    refine⟨m,hn,fun i x v e1 e2 e3 => ?_⟩
    obtain⟨j,k,rfl,hj,hk'⟩:=AF e2
    have e1':capn[j]? = some x:=by
      have:(own++capn)[own.length + j]? = some x:=e1
      rw [List.getElem?_append_right (by omega)] at this
      simpa using this
    obtain⟨k2,q1,q2,q3⟩:=S.cap j x e1'
    rw [hj] at q1;cases q1
    have hm:=dw q3
    have kd:=S.free _ hm rfl
    obtain⟨m0,hn0,hl⟩:=I.loc
    obtain⟨u,r,lk⟩:=hl k x v q2 hk' (.inr kd)
    refine⟨u,r,.inr ⟨iy q3,?_⟩⟩
    rcases lk with ⟨z,_⟩|⟨_,c,hc,o,ho,hd⟩
    · rcases kd with e|e<;>(rw [z] at e;cases e)
    · obtain⟨c',hc'⟩:=hcl2 _ hm rfl
      have:=hcl1 _ _ hc'
      rw [hc] at this
      cases this
      exact⟨c,hc',o,hk c o ho,hd⟩
  cell:=fun x c e=>by
    obtain⟨v,o,ho,hd⟩:=I.cell x c (hcl1 x c e)
    exact⟨v,o,hk c o ho,hd⟩
  free:=by
    show upd H1 _ _ C=none
    rw [ay (Nat.ne_of_gt hC)]
    exact I.hok.fresh (Nat.le_of_lt hC)
  freeC:=fun x c e=>by
    obtain⟨v,o,ho,hd⟩:=I.cell x c (hcl1 x c e)
    rw [ay (Nat.ne_of_lt (Heap.lt_size ho))]
    exact I.freeC x c (hcl1 x c e)
  pin:=fun p hp=>absurd (show p∈([] : List (Addr × Obj)) from hp) (by simp)
  hok:=I.hok.laid hk (Nat.le_refl _) ⟨Nat.zero_le _,[],0,.nil,hD⟩
  len:=by
    show (stC own caps σ).length=(own++capn).length
    simp [stC,S.len]
end
theorem RS.other {K:PySem.W.Frag}{ρ:List Addr}{H:Hp}{σd:Sd}{hd:Hd}{σ:St}{d:Addr}{ys zs:List V}(r:RS K ρ H σd hd σ)(h:H d=some (.lst ys))(n:d ∉ ρ):RS K ρ (upd H d (.lst zs)) σd hd σ ∧ Kp ρ H ρ (upd H d (.lst zs)):=by
  have k:Kp ρ H ρ (upd H d (.lst zs)):=⟨fun _ _ h=>h,fun a us e=>by
    rw [ay (fun z=>by rw [z,h] at e;cases e)];exact e,fun a o u e=>by
    rw [ay (fun z=>by rw [z,h] at e;cases e)];exact e,fun a φ e=>by
    rw [ay (fun z=>by rw [z,h] at e;cases e)];exact e⟩
  refine⟨⟨⟨r.hp.len,r.hp.nd,fun m c a h1 h2=>(r.hp.cel m c a h1 h2).mono k (ay fun z=>n (by rw [← z];exact List.mem_of_getElem? h2))⟩,r.st.mono k⟩,k⟩
theorem Ext.other {ρ ρ':List Addr}{H H':Hp}{d:Addr}{o:HO}(e:Ext ρ H ρ' H')(h:H d=none):Ext ρ H ρ' (upd H' d o) :=
  ⟨e.pre,e.new,fun p u hp n=>by rw [ay (cR hp h)];exact e.frame p u hp n⟩
theorem mU {nl:Nat}{caps:List Nat}{σd:Sd}{i:Nat}{d:D}(h:slot (d6 nl caps σd) i=some d):∃ j k,i=nl + j∧caps[j]? = some k∧slot σd k=some d:=by
  unfold d6 at h
  simp only [slot] at h
  by_cases hi:i < nl
  · rw [List.getElem?_append_left (by simpa using hi)] at h
    simp [hi] at h
  · rw [List.getElem?_append_right (by simpa using Nat.le_of_not_lt hi)] at h
    simp only [List.length_replicate,List.getElem?_map] at h
    cases c:caps[i - nl]? with
    | none=>rw [c] at h;cases h
    | some k =>
      rw [c] at h
      simp only [Option.map_some] at h
      refine⟨i - nl,k,by omega,c,?_⟩
      simp only [slot]
      revert h
      cases e : σd[k]? with
      | none=>simp
      | some o=>cases o<;>simp
structure Dv (K:PySem.W.Frag) (ρ0:List Addr) (H0:Hp) (J:It) (l:List D) (G:Hd→Prop):Prop where
  go:∀ ρ H hd (i:Nat) d,Ext ρ0 H0 ρ H→RH K ρ H hd→G hd→l[i]? = some d→J.go i H ∧ ∀ x H',J.yld i H x H'→hJ H H'∧RD K ρ H' d x
  stop:∀ ρ H hd,Ext ρ0 H0 ρ H→RH K ρ H hd→G hd→J.stop l.length H
  sz:l.length≤sizeLine
theorem pZ.g {K:PySem.W.Frag}{ρ:List Addr}{H:Hp}{J:It}{l:List D}{g:Option Nat}(w:pZ K ρ H J l g):Dv K ρ H J l (fV g l):=⟨w.go,w.stop,w.sz⟩
structure CD where
  i:Nat
  ys:List V
  acc:List D
  rest:List D
  ρ:List Addr
  σd:Sd
  hd:Hd
  H:Hp
  σ:St
structure CI (X:Cx) (own capn:List Str) (scope:Scope) (cl:List (Str × Addr)) (s2:Shared) (C:Addr) (H1:Hp) (ρ1:List Addr) (fp:List Addr) (tn:Nat→Heap→Prop) (G:Hd→Prop) (g:GF) (cs:List TF) (e:EF) (l:List D) (hdF:Hd) (ds:List D) (d:CD) (s':Shared):Prop where
  le:d.i≤l.length
  inv:Inv (cxC X (own++capn) scope cl C s2 H1 fp) [] d.σ d.H s'
  st:tn d.i s'.heap
  fr:∀ b∈fp,d.H b=none
  at':d.H s2.heap.objs.size=some (.lst d.ys)
  out:s2.heap.objs.size∉d.ρ
  yl:d.ys.length≤d.i
  ex:Ext ρ1 H1 d.ρ d.H
  rs:RS X.K d.ρ d.H d.σd d.hd d.σ
  ac:RDs X.K d.ρ d.H d.acc d.ys
  run:eQ G g cs e (l.drop d.i) d.σd d.hd=.ok d.rest hdF
  eq:d.acc++d.rest=ds
section
variable {X:Cx} {pins:List (Addr × Obj)} {σ:St} {H1:Hp} {s2:Shared} {scope:Scope} {own capn:List Str} {caps:List Nat} {cl:List (Str × Addr)}
theorem yV {ρ1:List Addr}{σd:Sd}{hd1:Hd}(S:bM X scope own capn caps)(r:RS X.K ρ1 H1 σd hd1 σ){d:Addr}(hd:H1 d=none):RS X.K ρ1 (upd H1 d (.lst [])) (d6 own.length caps σd) hd1 (stC own caps σ):=by
  have sm:=bG (o:=HO.lst []) hd
  refine⟨r.hp.same sm,⟨by simp [stC,d6],fun i x e => ?_⟩⟩
  obtain⟨j,k,rfl,hj,hs⟩:=mU e
  obtain⟨v,h1,h2⟩:=r.st.at' k x hs
  refine⟨v,?_,h2.mono (Kp.same sm)⟩
  unfold stC
  rw [List.getElem?_append_right (by simp)]
  simp [hj,h1]
theorem sU {elt tg iter:Expr}{ifs:List Expr}{pos:Pos}{it:Addr}{fp:List Addr}{tn:Nat→Heap→Prop}{J:It}{l:List D}{G:Hd→Prop}{g:GF}{cs:List TF}{e:EF}{ρ1:List Addr}{σd:Sd}{hd1 hdF:Hd}{ds:List D}{E:Value→Shared→Prop}{RR:Value→Addr→Result→Shared→Prop}
    (hc:X.calm=true) (S:bM X scope own capn caps) (hin:∀ cl C s H ex,MG (cxC X (own++capn) scope cl C s H ex) tg g∧MTs (cxC X (own++capn) scope cl C s H ex) ifs cs∧ME (cxC X (own++capn) scope cl C s H ex) elt e)
    (I1:Inv X pins σ H1 s2) (T:Bu X.prog X.w X.K tg J fp it tn) (st0:tn 0 s2.heap) (hf:∀ b∈fp,kM X pins H1 b) (rs1:RS X.K ρ1 H1 σd hd1 σ) (wk:Dv X.K ρ1 H1 J l G)
    (hcl1:∀ x c,cl.lookup x=some c→X.env.cells.lookup x=some c) (hcl2:∀ y∈scope.names,y.2=.free → ∃ c,cl.lookup y.1=some c)
    (run:eQ G g cs e l (d6 own.length caps σd) hd1=.ok ds hdF)
    (hRR:∀ C s' m H' ρ' vs,s2.heap.objs.size < C→s'.heap.Ns C m→Inv X pins σ H' s'→H' C=none→Ext ρ1 H1 ρ' H'→RH X.K ρ' H' hdF→H1 s2.heap.objs.size=none→H' s2.heap.objs.size=some (.lst vs)→s2.heap.objs.size ∉ ρ'→RDs X.K ρ' H' ds vs →
      RR (.ref s2.heap.objs.size) C (.ok .next) s') :
    wpAny (model X.prog X.w) X.A (newList []) (fun acc s₃ => wpAny (model X.prog X.w) X.A (newFunctionEnv scope X.env.globals cl [] X.env.qual none .none (some X.env)) (fun cenv s₄ =>
      codeAny (model X.prog X.w) X.A (.compStart (.ListComp elt [⟨tg,iter,ifs,0⟩] scope pos) 0 (.ref it) acc { cenv with scope:=relabel scope X.env }) (RR acc cenv.locals) s₄) E s₃) E s2:=by
  refine wpAny_newObj_type (wpAny_newFunctionEnv S.cell (by intro y hy;simp at hy) (fun h₁ hns₁ hsb₁ => ?_) S.kind)
  dsimp only at hns₁ hsb₁ ⊢
  generalize hH2:s2.heap.push { cls:=.type "list",dict:=none,data:=.seq ([] : List Value).toArray } = H2 at hns₁ hsb₁ ⊢
  have hC:H2.objs.size=s2.heap.objs.size + 1:=by rw [← hH2,Heap.size_push]
  have hDC:s2.heap.objs.size≠H2.objs.size:=by rw [hC];exact Nat.ne_of_lt (Nat.lt_succ_self _)
  have old:∀ b o,s2.heap.get? b=some o→h₁.get? b=some o:=fun b o e=>hsb₁.extBut b o (by rw [hC];exact Nat.ne_of_lt (Nat.lt_succ_of_lt (Heap.lt_size e))) (Heap.get?_push_of_some _ (hH2 ▸ Heap.get?_push_of_some _ e))
  have hacc:h₁.get? s2.heap.objs.size=some { cls:=.type "list",data:=.seq #[] }:=hsb₁.extBut _ _ hDC (Heap.get?_push_of_some _ (hH2 ▸ Heap.get?_push_size _ rfl))
  have hlt:∀ b∈fp,b < s2.heap.objs.size:=fun b hb=>by
    obtain⟨o,ho,_⟩:=T.obj 0 _ st0 b hb
    exact Heap.lt_size ho
  have hCl:s2.heap.objs.size < H2.objs.size:=by rw [hC];exact Nat.lt_succ_self _
  have hD0:H1 s2.heap.objs.size=none:=I1.hok.fresh (Nat.le_refl _)
  have st1:tn 0 h₁ := T.keep 0 _ _ st0 fun b hb o e=>old b o e
  have hn1:s2.heap.objs.size ∉ ρ1:=rs1.hp.free hD0
  obtain⟨hG,hT,hE⟩:=hin cl H2.objs.size s2 H1 fp
  have I':=BG (tk:=s2.toks + ([] : List (Str × Value)).length) I1 S hCl hcl1 hcl2 hf hlt hns₁ old hacc
  have fpC:∀ {pins':List (Addr × Obj)} {H':Hp},(∀ b∈fp,H' b=none) → ∀ b∈fp,kM (cxC X (own++capn) scope cl H2.objs.size s2 H1 fp) [] H' b:=fun {pins' H'} hn b hb=>by
    obtain⟨f0,f1,f2,f3,f4,f5⟩:=hf b hb
    have lt:=hlt b hb
    refine⟨hn b hb,fun z=>absurd lt (by rw [show b=H2.objs.size from z,hC];exact Nat.not_lt.mpr (Nat.le_succ _)),fun z => ?_,.inl hb,fun x c e=>f4 x c (hcl1 x c e),fun p hp=>absurd (show p∈([] : List (Addr × Obj)) from hp) (by simp)⟩
    rcases List.mem_cons.mp (I1.stkSub b z) with q|q
    · exact f1 q
    · exact f2 q
  have loop:∀ s₃ : Shared,s₃ = { s2 with heap:=h₁,toks:=s2.toks + ([] : List (Str × Value)).length } →
      codeAny (model X.prog X.w) X.A (.compLoop (.ListComp elt [⟨tg,iter,ifs,0⟩] scope pos) 0 (.ref it) (.ref s2.heap.objs.size) (compEnvC scope cl H2.objs.size X.env)) (RR (.ref s2.heap.objs.size) H2.objs.size) s₃ := by
    rintro s₃ rfl
    refine kT (E:=fun _ _=>False) (fun _ _ z=>z) (fun n s'=>∃ d:CD,n=l.length - d.i∧CI X own capn scope cl s2 H2.objs.size H1 ρ1 fp tn G g cs e l hdF ds d s') ?_ l.length
      ⟨⟨0,[],[],ds,ρ1,_,hd1,_,_⟩,by simp,Nat.zero_le _,I',st1,fun b hb => ?_,aO,hn1,Nat.le_refl _,Ext.same (bG hD0),yV S rs1 hD0,RDs.nil,by simpa using run,rfl⟩
    · rintro n s' ⟨⟨i,ys,acc,rest,ρ',σd',hd',H',σ'⟩,rfl,ci⟩
      have hil:i≤l.length:=ci.le
      have I':Inv (cxC X (own++capn) scope cl H2.objs.size s2 H1 fp) [] σ' H' s':=ci.inv
      have stn:tn i s'.heap:=ci.st
      have hfp:∀ b∈fp,H' b=none:=ci.fr
      have hDy:H' s2.heap.objs.size=some (.lst ys):=ci.at'
      have hnD:s2.heap.objs.size ∉ ρ':=ci.out
      have hyl:ys.length≤i:=ci.yl
      have ex:Ext ρ1 H1 ρ' H':=ci.ex
      have rs':RS X.K ρ' H' σd' hd' σ':=ci.rs
      have racc:RDs X.K ρ' H' acc ys:=ci.ac
      have hrun:eQ G g cs e (l.drop i) σd' hd'=.ok rest hdF:=ci.run
      have hds:acc++rest=ds:=ci.eq
      by_cases hlt':i < l.length
      · have hdi:l[i]? = some l[i]:=by simp [hlt']
        rw [List.drop_eq_getElem_cons hlt'] at hrun
        unfold eQ at hrun
        by_cases hh:G hd'
        · rw [if_pos hh] at hrun
          obtain⟨go,yl⟩:=wk.go ρ' H' hd' i _ ex rs'.hp hh hdi
          cases c:g l[i] σd' with
          | none=>rw [c] at hrun;cases hrun
          | some σd2 =>
            rw [c] at hrun
            simp only at hrun
            refine thn (T.item (cxC X (own++capn) scope cl H2.objs.size s2 H1 fp) rfl rfl rfl hc i [] s' σ' H' (fun _ _=>False) I' (fpC (pins':=[]) hfp) stn go) fun r s₁ ⟨u,hr,h4⟩ => ?_
            subst hr
            refine thn h4 fun _ s5 ⟨x,H5,I5,r5,y5,st5,fr5⟩ => ?_
            obtain⟨sm,rx⟩:=yl x H5 y5
            have I5':=I5.pinned (fpC (pins':=[]) fr5) (T.obj _ _ st5)
            have rs5:=rs'.same sm
            have hDy5:=sm _ _ hDy
            refine thn (hG _ s5 σ' H5 x u (fun σ6 H6=>H6=H5∧RS X.K ρ' H5 σd2 hd' σ6) I5' r5 ⟨ρ',σd',hd',l[i],σd2,rs5,rx,c,fun σ6 rs6=>⟨rfl,rs6⟩⟩) fun _ s6 ⟨σ6,H6,I6,hH6,rs6⟩ => ?_
            subst hH6
            cases c2:i6 cs σd2 hd' with
            | exc z h7=>rw [c2] at hrun;cases hrun
            | bad=>rw [c2] at hrun;cases hrun
            | ok b hd7 =>
              rw [c2] at hrun
              simp only [ax] at hrun
              refine thn (hT _ s6 σ6 H6 (fun b' H7=>b'=b ∧ ∃ ρ7,Ext ρ' H6 ρ7 H7∧RS X.K ρ7 H7 σd2 hd7 σ6) I6 ⟨ρ',σd2,hd',rs6,by
                rw [c2]
                exact fun b' H7 ρ7 ex7 rs7 q=>⟨q.symm,ρ7,ex7,rs7⟩⟩) fun b' s7 ⟨H7,I7,hb',ρ7,ex7,rs7⟩ => ?_
              subst hb'
              have stay:∀ {σ8:St} {H8:Hp} {s8:Shared},Inv (cxC X (own++capn) scope cl H2.objs.size s2 H1 fp) ([]++lX fp s5.heap) σ8 H8 s8→tn (i + 1) s8.heap ∧ ∀ b∈fp,H8 b=none:=fun {σ8 H8 s8} I8 =>
                ⟨T.keep _ _ _ st5 fun b hb o e=>(I8.pin (b,o) (List.mem_append_right _ (List.mem_append_right _ (eR hb e)))).1,fun b hb=>by
                  obtain⟨o,e,d⟩:=T.obj _ _ st5 b hb
                  exact (I8.pin (b,o) (List.mem_append_right _ (List.mem_append_right _ (eR hb e)))).2.1⟩
              have ex5:Ext ρ' H' ρ7 H7:=(Ext.same sm).trans ex7
              have hDy7:H7 s2.heap.objs.size=some (.lst ys):=ex5.frame _ _ hDy hnD
              have hnD7:=ex5.out hDy hnD
              have racc7:=racc.mono (rs'.hp.kp ex5)
              cases b' with
              | false =>
                simp only [Bool.false_eq_true,if_false] at hrun ⊢
                obtain⟨st8,f8⟩:=stay I7
                exact⟨l.length - (i + 1),by omega,⟨i + 1,ys,acc,rest,ρ7,σd2,hd7,H7,σ6⟩,rfl,hlt',I7.unpinned,st8,f8,hDy7,hnD7,Nat.le_succ_of_le hyl,ex.trans ex5,rs7,racc7,hrun,hds⟩
              | true =>
                simp only [if_true] at hrun ⊢
                cases c3:e σd2 hd7 with
                | exc z h7=>rw [c3] at hrun;cases hrun
                | bad=>rw [c3] at hrun;cases hrun
                | ok d hd8 =>
                  rw [c3] at hrun
                  simp only [ax] at hrun
                  cases c4:eQ G g cs e (l.drop (i + 1)) σd2 hd8 with
                  | exc z h7=>rw [c4] at hrun;cases hrun
                  | bad=>rw [c4] at hrun;cases hrun
                  | ok rest' hd9 =>
                    rw [c4] at hrun
                    simp only [ax,Res.ok.injEq] at hrun
                    obtain⟨hrest,hF⟩:=hrun
                    subst hrest hF
                    refine thn (hE _ s7 σ6 H7 (fun v H8=>∃ ρ8,Ext ρ7 H7 ρ8 H8∧RS X.K ρ8 H8 σd2 hd8 σ6∧RD X.K ρ8 H8 d v) I7 ⟨ρ7,σd2,hd7,rs7,by
                      rw [c3]
                      exact fun v H8 ρ8 ex8 rs8 q=>⟨ρ8,ex8,rs8,q⟩⟩) fun u8 s8 ⟨v8,H8,I8,r8,ρ8,ex8,rs8,rd8⟩ => ?_
                    have hDy8:H8 s2.heap.objs.size=some (.lst ys):=ex8.frame _ _ hDy7 hnD7
                    have hnD8:=ex8.out hDy7 hnD7
                    refine thn (lZ _ s8 σ6 H8 (.ref s2.heap.objs.size) [v8] (.ref s2.heap.objs.size) [u8] (fun _ H9=>H9=upd H8 s2.heap.objs.size (.lst (ys++[v8]))) I8 rfl (.cons r8 .nil) ⟨_,ys,v8,rfl,rfl,hDy8,by have:=wk.sz;omega,rfl⟩) fun u9 s9 ⟨v9,H9,I9,r9,q9⟩ => ?_
                    subst q9
                    obtain⟨st9,f9⟩:=stay I9
                    obtain⟨rs9,k9⟩:=rs8.other (zs:=ys++[v8]) hDy8 hnD8
                    exact⟨l.length - (i + 1),by omega,⟨i + 1,ys++[v8],acc++[d],rest',ρ8,σd2,hd8,_,σ6⟩,rfl,hlt',I9.unpinned,st9,f9,aO,hnD8,by simp;exact hyl,(ex.trans (ex5.trans ex8)).other hD0,rs9,
                      ((racc7.mono (rs7.hp.kp ex8)).mono k9).append (RDs.cons (rd8.mono k9) RDs.nil),c4,by rw [← hds];simp⟩
        · rw [if_neg hh] at hrun;cases hrun
      · have e0:i=l.length:=by omega
        subst e0
        rw [List.drop_length] at hrun
        unfold eQ at hrun
        by_cases hh:G hd'
        · rw [if_pos hh] at hrun
          simp only [Res.ok.injEq] at hrun
          obtain⟨hrest,hF⟩:=hrun
          subst hrest hF
          rw [List.append_nil] at hds
          subst hds
          refine thn (T.done (cxC X (own++capn) scope cl H2.objs.size s2 H1 fp) rfl rfl rfl hc _ [] s' σ' H' (fun _ _=>False) I' (fpC (pins':=[]) hfp) stn (wk.stop ρ' H' hd' ex rs'.hp hh)) fun r s₁ ⟨hr,I4⟩ => ?_
          subst hr
          obtain⟨m,hm,_⟩:=I4.loc
          refine hRR H2.objs.size s₁ m H' ρ' ys hCl hm ?_ I4.free ex rs'.hp hD0 hDy hnD racc
          exact I1.call' I4.os I4.base I4.hok I4.bare fun b hb=>by
            obtain⟨f0,f1,f2,f3,f4,f5⟩:=hf b hb
            exact⟨f3,f1,f4,f5⟩
        · rw [if_neg hh] at hrun;cases hrun
    · show upd H1 _ _ b=none
      rw [ay (Nat.ne_of_lt (hlt b hb))]
      exact (hf b hb).1
  exact codeAny_compStart_list (loop _ rfl) (T.self _ 0 _ _ _ st1 (loop _ rfl))
end
section
variable {X:Cx} {pos:Pos} {scope:Scope} {own capn:List Str} {caps:List Nat}
theorem eF {elt tg iter:Expr}{ifs:List Expr}{f:IF}{g:GF}{cs:List TF}{e:EF}(hc:X.calm=true)(S:bM X scope own capn caps)(hi:MI X tg iter f)
    (hin:∀ cl C s H ex,MG (cxC X (own++capn) scope cl C s H ex) tg g∧MTs (cxC X (own++capn) scope cl C s H ex) ifs cs∧ME (cxC X (own++capn) scope cl C s H ex) elt e)
    (hs:∀ x,foldedSetIterable iter X.env x=pure x:=by intro _;rfl):MF X (.ListComp elt [⟨tg,iter,ifs,0⟩] scope pos) (aT own.length caps f g cs e):=by
  intro pins s σ H Q I ⟨ρ,σd,hd,rs,p⟩
  rw [eval_ListComp]
  unfold aT at p
  cases c:f σd hd with
  | exc z h7=>rw [c] at p;exact p.elim
  | bad=>rw [c] at p;exact p.elim
  | ok q hd1 =>
    obtain⟨l,gd⟩:=q
    rw [c] at p
    simp only [ax] at p
    obtain⟨cl,h1,hcl1,hcl2⟩:=kl (scope:=scope) (env:=X.env) fun y hy hyf=>I.ok.has y.1 (S.free y hy hyf)
    refine wpAny_comprehension_free (use:=none) rfl hs h1 S.kind S.names (thn (hi pins s σ H (fun J H1=>∃ ρ1,Ext ρ H ρ1 H1∧RS X.K ρ1 H1 σd hd1 σ ∧ pZ X.K ρ1 H1 J l gd) I ⟨ρ,σd,hd,rs,by
      rw [c]
      exact fun J H' ρ' ex rs' wk=>⟨ρ',ex,rs',wk⟩⟩) fun v s1 h1=>thn h1 fun itv s2 h2 => ?_)
    obtain⟨it,fp,tn,J,H1,rfl,I1,T,st0,hf,ρ1,ex1,rs1,wk⟩:=h2
    cases c2:bV gd l g cs e l (d6 own.length caps σd) hd1 with
    | exc z h7=>rw [c2] at p;exact p.elim
    | bad=>rw [c2] at p;exact p.elim
    | ok ds hdF =>
      rw [c2] at p
      refine sU (RR:=fun acc C=>compPost (model X.prog X.w) X.A X.xe none (EP X pins σ Q) acc C) hc S hin I1 T st0 hf rs1 wk.g hcl1 hcl2 ((nT _ _ _).symm.trans c2) fun C s' m H' ρ' vs hC hn I' hCn ex rh hD0 hD hnD rds => ?_
      refine⟨m,hn,fun h' sb=>⟨.ref s2.heap.objs.size,H',?_,rfl,?_⟩⟩
      · refine I'.turned (it:=C) (t':=s'.toks) (fun b o hb e=>(sb.2 b hb).trans e) hCn ?_ (.inr (Nat.le_of_lt (Nat.lt_of_le_of_lt I1.sz hC))) (fun x c e z => ?_) fun q hq z => ?_
        · exact Nat.ne_of_gt (Nat.lt_trans I1.lt hC)
        · obtain⟨v,o,ho,hd⟩:=I1.cell x c e
          exact absurd (Nat.lt_trans (Heap.lt_size ho) hC) (by rw [z];exact Nat.lt_irrefl _)
        · exact absurd (Nat.lt_trans (Heap.lt_size (I1.pin q hq).1) hC) (by rw [z];exact Nat.lt_irrefl _)
      · exact p _ vs H' ρ' (ex1.trans ex) (rs.ext (ex1.trans ex) rh) (ex1.fresh hD0 (rs1.hp.free hD0)) hD hnD rds
theorem iz {i:Nat}{x:Str}{pos':Pos}{elt tg iter:Expr}{ifs:List Expr}{f:IF}{g:GF}{cs:List TF}{e:EF}{cpos:Pos}(hN:X.N.Nodup)(hi':X.N[i]? = some x)(hx:Loc X.env.scope x)(hc:X.calm=true)(S:bM X scope own capn caps)(hi:MI X tg iter f)
    (hin:∀ cl C s H ex,MG (cxC X (own++capn) scope cl C s H ex) tg g∧MTs (cxC X (own++capn) scope cl C s H ex) ifs cs∧ME (cxC X (own++capn) scope cl C s H ex) elt e)
    (hsw:swapsWith (.ListComp elt [⟨tg,iter,ifs,0⟩] scope cpos) (some (.Name x pos')) pos.line X.env=pure true:=by rfl)
    (hs:∀ x,foldedSetIterable iter X.env x=pure x:=by intro _;rfl) (hf':X.fn x=true∨X.env.scope.names.lookup x=some .local:=by first|exact .inl rfl|exact .inr rfl|assumption) :
    MS X (.Assign [.Name x pos'] (.ListComp elt [⟨tg,iter,ifs,0⟩] scope cpos) pos) (aC (gN i) (aL (aT own.length caps f g cs e))):=by
  intro pins s σ H En I ⟨ρ,σd,hd,rs,p⟩
  rw [exec_Assign_Name_used _ _ _ _ hsw]
  refine wpAny_bind (wpAny_standAt ?_)
  show wpAny _ _ ((comprehension _ scope X.env _ (newList []) _ _ _ >>= fun _=>pure ()) >>= fun _=>pure Flow.next) _ _ _
  have p1:=bI.outE (σ := σ) p
  unfold aL aT at p1
  cases c:f σd hd with
  | exc z h7=>rw [c] at p1;exact p1.elim
  | bad=>rw [c] at p1;exact p1.elim
  | ok q hd1 =>
    obtain⟨l,gd⟩:=q
    rw [c] at p1
    simp only [ax] at p1
    obtain⟨cl,h1,hcl1,hcl2⟩:=kl (scope:=scope) (env:=X.env) fun y hy hyf=>I.ok.has y.1 (S.free y hy hyf)
    refine wpAny_bind (wpAny_bind (wpAny_comprehension_free (Q:=fun _ s'=>wpAny (model X.prog X.w) X.A (pure ()) (fun _ s'=>wpAny (model X.prog X.w) X.A (pure Flow.next) (SP X pins En) X.xe s') X.xe s') (use:=some (assign (.Name x pos') X.env)) rfl hs h1 S.kind S.names (thn (hi pins s σ H (fun J H1=>∃ ρ1,Ext ρ H ρ1 H1∧RS X.K ρ1 H1 σd hd1 σ ∧ pZ X.K ρ1 H1 J l gd) I ⟨ρ,σd,hd,rs,by
      rw [c]
      exact fun J H' ρ' ex rs' wk=>⟨ρ',ex,rs',wk⟩⟩) fun v s1 h1=>thn h1 fun itv s2 h2 => ?_)))
    obtain⟨it,fp,tn,J,H1,rfl,I1,T,st0,hf,ρ1,ex1,rs1,wk⟩:=h2
    cases c2:bV gd l g cs e l (d6 own.length caps σd) hd1 with
    | exc z h7=>rw [c2] at p1;exact p1.elim
    | bad=>rw [c2] at p1;exact p1.elim
    | ok ds hdF =>
      rw [c2] at p1
      simp only [ax] at p1
      by_cases hz:ds.length≤SZ
      · rw [if_pos hz] at p1
        refine sU (RR:=fun acc C=>compPost (model X.prog X.w) X.A X.xe (some (assign (.Name x pos') X.env)) _ acc C) hc S hin I1 T st0 hf rs1 wk.g hcl1 hcl2 ((nT _ _ _).symm.trans c2) fun C s' m H' ρ' vs hC hn I' hCn ex rh hD0 hD hnD rds => ?_
        refine wpAny_assign_Name (sJ I' hN hi' hx (v:=.ref s2.heap.objs.size) rfl (fun s'' I'' hsb => ?_) hf')
        have hCl:C≠X.env.locals:=Nat.ne_of_gt (Nat.lt_trans I1.lt hC)
        have hCc:∀ y c,X.env.cells.lookup y=some c→c≠C:=fun y c e z=>by
          obtain⟨v,o,ho,hd⟩:=I1.cell y c e
          exact absurd (Nat.lt_trans (Heap.lt_size ho) hC) (by rw [z];exact Nat.lt_irrefl _)
        refine⟨m,?_,fun h' sb=>wpAny_pure (wpAny_pure ?_)⟩
        · obtain⟨a,sa,ha⟩:=hsb
          refine hn.sameBut sa ?_
          rcases ha with z|z
          · rw [z];exact hCl
          · exact Ne.symm (hCc _ _ z)
        · have I3:Inv X pins (σ.set i (some (.ref s2.heap.objs.size))) H' { s'' with heap:=h' }:=I''.turned (it:=C) (t':=s''.toks) (fun b o hb e=>(sb.2 b hb).trans e) hCn hCl (.inr (Nat.le_of_lt (Nat.lt_of_le_of_lt I1.sz hC))) hCc fun q hq z =>
            absurd (Nat.lt_trans (Heap.lt_size (I1.pin q hq).1) hC) (by rw [z];exact Nat.lt_irrefl _)
          have ex':Ext ρ H ρ' H':=ex1.trans ex
          have rh':=rh.alloc hD hnD rds
          have hH0:H s2.heap.objs.size=none:=ex1.fresh hD0 (rs1.hp.free hD0)
          have exA:Ext ρ H (ρ'++[s2.heap.objs.size]) H':=⟨by obtain⟨t,rfl⟩:=ex'.pre;exact⟨t++[s2.heap.objs.size],by simp⟩,fun a ha=>by
            rcases List.mem_append.mp ha with z|z
            · exact ex'.new a z
            · simp at z;subst z;exact .inr hH0,ex'.frame⟩
          obtain⟨ρ2,d2,hd2,e2,rs2,rd2,pn⟩:=p1 (.ref s2.heap.objs.size) H' (ρ'++[s2.heap.objs.size]) exA (rs.ext exA rh') (by
            simp only [rD,RD]
            refine⟨s2.heap.objs.size,?_,rfl⟩
            rw [← rh.len]
            simp)
          exact⟨_,H',I3,pn _ H' ρ2 Ext.refl ⟨rs2.hp,rs2.st.set i rd2⟩⟩
      · rw [if_neg hz] at p1;exact p1.elim
end
end Fm
set_option Elab.async false
set_option linter.all false
set_option maxRecDepth 100000
namespace Fm
open PySem PySem.Spec L2 PyProof.Rows
mutual
def rfs (k:Nat):D→Prop
  | .ref n=>n < k
  | .tup l=>jc k l
  | .lit l=>jc k l
  | .exn _ l=>jc k l
  | _=>True
def jc (k:Nat):List D→Prop
  | []=>True
  | x :: xs=>rfs k x∧jc k xs
end
section
variable {K:PySem.W.Frag} {ρ ρ' t:List Addr} {H H':Hp} {hd hd':Hd}
mutual
theorem RD.rfs:∀ {d:D} {v:V},RD K ρ H d v→Fm.rfs ρ.length d
  | .non,_,_=>by simp only [Fm.rfs]
  | .bl _,_,_=>by simp only [Fm.rfs]
  | .int _,_,_=>by simp only [Fm.rfs]
  | .str _,_,_=>by simp only [Fm.rfs]
  | .tup l,_,h=>by
    simp only [RD] at h;obtain⟨p,vs,_,_,h2⟩:=h
    simp only [Fm.rfs];exact RDs.rfs h2
  | .lit l,_,h=>by
    simp only [RD] at h;obtain⟨p,vs,_,_,h2⟩:=h
    simp only [Fm.rfs];exact RDs.rfs h2
  | .ref n,_,h=>by
    simp only [RD] at h;obtain⟨a,h1,_⟩:=h
    simp only [Fm.rfs];exact (List.getElem?_eq_some_iff.mp h1).1
  | .exn _ _,_,h=>by simp only [RD] at h;obtain⟨rfl,_⟩:=h;simp only [Fm.rfs,Fm.jc]
theorem RDs.rfs:∀ {l:List D} {vs:List V},RDs K ρ H l vs→Fm.jc ρ.length l
  | [],_,_=>by simp only [Fm.jc]
  | d :: ds,_,h=>by
    simp only [RDs] at h;obtain⟨v,r,_,h1,h2⟩:=h
    simp only [Fm.jc];exact⟨RD.rfs h1,RDs.rfs h2⟩
end
mutual
theorem RD.cut:∀ {d:D} {v:V},RD K (ρ ++ t) H d v→Fm.rfs ρ.length d→RD K ρ H d v
  | .non,_,h,_=>by simp only [RD] at h ⊢;exact h
  | .bl _,_,h,_=>by simp only [RD] at h ⊢;exact h
  | .int _,_,h,_=>by simp only [RD] at h ⊢;exact h
  | .str _,_,h,_=>by simp only [RD] at h ⊢;exact h
  | .tup l,_,h,q=>by
    simp only [RD] at h ⊢;simp only [Fm.rfs] at q
    obtain⟨p,vs,e,h1,h2⟩:=h
    exact⟨p,vs,e,h1,RDs.cut h2 q⟩
  | .lit l,_,h,q=>by
    simp only [RD] at h ⊢;simp only [Fm.rfs] at q
    obtain⟨p,vs,e,h1,h2⟩:=h
    exact⟨p,vs,e,h1,RDs.cut h2 q⟩
  | .ref n,_,h,q=>by
    simp only [RD] at h ⊢;simp only [Fm.rfs] at q
    obtain⟨a,h1,h2⟩:=h
    exact⟨a,by rwa [List.getElem?_append_left q] at h1,h2⟩
  | .exn _ _,_,h,_=>by simp only [RD] at h ⊢;exact h
theorem RDs.cut:∀ {l:List D} {vs:List V},RDs K (ρ ++ t) H l vs→Fm.jc ρ.length l→RDs K ρ H l vs
  | [],_,h,_=>by simp only [RDs] at h ⊢;exact h
  | d :: ds,_,h,q=>by
    simp only [RDs] at h ⊢;simp only [Fm.jc] at q
    obtain⟨v,r,e,h1,h2⟩:=h
    exact⟨v,r,e,RD.cut h1 q.1,RDs.cut h2 q.2⟩
end
mutual
theorem oz {k:Nat}:∀ {d:D},pure? d=true→Fm.rfs k d
  | .non,_=>by simp only [Fm.rfs]
  | .bl _,_=>by simp only [Fm.rfs]
  | .int _,_=>by simp only [Fm.rfs]
  | .str _,_=>by simp only [Fm.rfs]
  | .tup l,h=>by simp only [pure?] at h;simp only [Fm.rfs];exact hV h
  | .lit l,h=>by simp only [pure?] at h;simp only [Fm.rfs];exact hV h
  | .exn _ l,h=>by simp only [pure?] at h;simp only [Fm.rfs];exact hV h
  | .ref _,h=>by simp only [pure?] at h;cases h
theorem hV {k:Nat}:∀ {l:List D},hU l=true→Fm.jc k l
  | [],_=>by simp only [Fm.jc]
  | x :: xs,h=>by
    simp only [hU,Bool.and_eq_true] at h
    simp only [Fm.jc];exact⟨oz h.1,hV h.2⟩
end
def Dw (k:Nat):cm→Prop
  | .lst l=>Fm.jc k l
  | .dct l=>Fm.jc k (l.map (·.2))
theorem RC.rfs {c:cm}{a:Addr}(h:RC K ρ H c a):Dw ρ.length c:=by
  cases c with
  | lst l=>obtain⟨vs,_,h2⟩:=h;exact h2.rfs
  | dct l=>obtain⟨vs,_,_,h2⟩:=h;exact h2.rfs
theorem RC.cut {c:cm}{a:Addr}(h:RC K (ρ ++ t) H c a)(q:Dw ρ.length c):RC K ρ H c a:=by
  cases c with
  | lst l=>obtain⟨vs,h1,h2⟩:=h;exact⟨vs,h1,h2.cut q⟩
  | dct l=>obtain⟨vs,h1,h2,h3⟩:=h;exact⟨vs,h1,h2,h3.cut q⟩
theorem ut {k:Nat}{c:cm}(h:wE c=true):Dw k c:=by
  cases c with
  | lst l=>exact hV h
  | dct l =>
    have:∀ l:List (Int × D),(l.all fun p=>pure? p.2)=true→Fm.jc k (l.map (·.2)):=by
      intro l
      induction l with
      | nil=>intro _;simp only [List.map_nil,Fm.jc]
      | cons x l ih=>intro h;simp only [List.all_cons,Bool.and_eq_true] at h;simp only [List.map_cons,Fm.jc];exact⟨oz h.1,ih h.2⟩
    exact this l h
theorem RH.back (r:RH K ρ H hd)(r':RH K (ρ ++ t) H' hd')(o:Dl hd hd'):RH K ρ H' (hd'.take hd.length):=by
  have hl:(ρ ++ t).length=hd'.length:=r'.len
  refine⟨by rw [List.length_take,← hl,List.length_append,← r.len];omega,(List.nodup_append.mp r'.nd).1,fun n c a h1 h2 => ?_⟩
  have hn:n < hd.length:=by rw [← r.len];exact (List.getElem?_eq_some_iff.mp h2).1
  rw [List.getElem?_take_of_lt hn] at h1
  have q:=r'.cel n c a h1 (by rw [List.getElem?_append_left (by rw [r.len];exact hn)];exact h2)
  refine q.cut ?_
  rcases o n c hn h1 with z|z
  · exact (r.cel n c a z h2).rfs
  · exact ut z
def kU (K:PySem.W.Frag) (ρ:List Addr) (H:Hp) (r:Res D) (Q:VK):Prop:=match r with
  | .ok d hd'=>∀ v H' ρ',Ext ρ H ρ' H'→RH K ρ' H' hd'→RD K ρ' H' d v→Q v H'
  | _=>False
def spF (K:PySem.W.Frag) (F:Fn) (np:Nat):Sp:=fun vs H Q _=>∃ ρ hd ds,RH K ρ H hd∧RDs K ρ H ds vs∧ds.length=np∧kU K ρ H (F ds hd) Q
theorem Ext.short (e:Ext ρ H (ρ ++ t) H'):Ext ρ H ρ H':=⟨⟨[],by simp⟩,fun _ h=>.inl h,e.frame⟩
theorem kU.letGo {r:Res D}{Q:VK}(rh:RH K ρ H hd)(p:kU K ρ H (letGo hd r) Q):kU K ρ H r Q:=by
  cases r with
  | exc x h'=>exact p
  | bad=>exact p
  | ok d h' =>
    intro v H' ρ' ex rh' rd
    simp only [Fm.letGo] at p
    split at p
    · rename_i hc
      obtain⟨t,rfl⟩:=ex.pre
      exact p v H' ρ ex.short (rh.back rh' hc.2) (rd.cut (oz hc.1))
    · exact p v H' ρ' ex rh' rd
theorem kU.runB {n:Nat}{b:SF}{ds:List D}{Q:VK}(p:kU K ρ H (runB n b ds hd) Q):bI K ρ H (b (ds.map some++List.replicate (n - ds.length) none) hd) { nx:=fun _ H'=>Q .non H',rt:=Q }:=by
  unfold Fm.runB at p
  cases e:b (ds.map some++List.replicate (n - ds.length) none) hd with
  | nx σ h'=>rw [e] at p;exact fun σ' H' ρ' ex rs=>p .non H' ρ' ex rs.hp (by simp only [RD])
  | rt d h'=>rw [e] at p;exact p
  | bk σ h'=>rw [e] at p;exact p.elim
  | ct σ h'=>rw [e] at p;exact p.elim
  | exc x σ h'=>rw [e] at p;exact p.elim
  | bad=>rw [e] at p;exact p.elim
theorem sV {N:List Str}{ds:List D}{vs:List V}(r:RDs K ρ H ds vs):RSt K ρ H (ds.map some++List.replicate (N.length - ds.length) none) (L2.jh N vs):=by
  have hl:=r.length
  refine⟨by simp [L2.jh,hl],fun i d e => ?_⟩
  simp only [slot] at e
  by_cases hi:i < ds.length
  · rw [List.getElem?_append_left (by simpa using hi)] at e
    simp only [List.getElem?_map,List.getElem?_eq_getElem hi,Option.map_some] at e
    cases e
    obtain⟨v,hv,q⟩:=r.get (i:=i) (d:=ds[i]) (by simp [hi])
    refine⟨v,?_,q⟩
    unfold L2.jh
    rw [List.getElem?_append_left (by simp;omega)]
    simp [hv]
  · rw [List.getElem?_append_right (by simpa using Nat.le_of_not_lt hi)] at e
    simp only [List.getElem?_replicate] at e
    by_cases hq:i - (List.map some ds).length < N.length - ds.length
    · simp only [hq,if_true] at e;cases e
    · simp only [hq,if_false] at e;cases e
end
structure Def (P:Program) (w:World) (K:PySem.W.Frag) (mg:Str→Option Value) (base:Heap) (x:Str) (k np:Nat) (F:Fn):Prop where
  ex:∃ f fd ps,mg x=some (.ref f)∧PySem.W.keepIn K (.ref f)=true∧jV K fd ps []∧cA P w K mg base CX0 k f fd ps (spF K F np)
section
variable {P:Program} {w:World} {K:PySem.W.Frag} {mg:Str→Option Value} {base:Heap}
theorem cP {x:Str}{st:Stmt}{f:Addr}{fd:FuncData}{N ps:List Str}{k:Nat}{b:SF}(F:Fun K x x st f fd)(S:aP N ps (aj st))
    (body:∀ (cdv:Value) (A:Around) (outer:List Env) (s:Shared) (H:Hp) (E:XK),fS k (A.deeper (envOfC x (aj st) s.heap.objs.size f cdv))→MSs (nE CX0 P w K mg base N x (aj st) f cdv A outer s H E).nox (aK st) b) :
    cA P w K mg base CX0 (k + 1) f fd ps (spF K (bF ps.length N.length b) ps.length):=by
  refine F.ok S (fun vs H Q E ⟨ρ,hd,ds,rh,rd,hl,p⟩=>by rw [← rd.length];exact hl) fun cdv A outer s H vs Q E hr ⟨ρ,hd,ds,rh,rd,hl,p⟩=>⟨_,body cdv A outer s H E hr,ρ,_,hd,⟨rh,sV rd⟩,?_⟩
  simp only [bF,hl,if_true] at p
  exact (kU.letGo rh p).runB
theorem Def.mk' {x:Str}{f:Addr}{fd:FuncData}{ps:List Str}{k np:Nat}{F:Fn}(hm:mg x=some (.ref f))(hk:PySem.W.keepIn K (.ref f)=true)(hb:jV K fd ps [])(h:cA P w K mg base CX0 k f fd ps (spF K F np)):Def P w K mg base x k np F:=⟨f,fd,ps,hm,hk,hb,h⟩
end
section
variable {X:Cx} {pos p:Pos}
theorem aA {x:Str}{k np:Nat}{F:Fn}{e:Expr}{es:List Expr}{r:LF}(hd:Def X.prog X.w X.K X.mg X.base x k np F)(hr:fS k X.A)(hg:Gl X x)(ha:MA X (e :: es) r)(hnp:∀ ds h d h',F ds h=.ok d h'→ds.length=np)
    (hdb:(x == ("__debug__" : Str))=false:=by decide) (he:starEach (e :: es) X.env=(false,eval e X.env) :: starEach es X.env:=by rfl) (hpl:(backTo pos (starEach es X.env)).any (·.1)=false:=by rfl) :
    ME X (.Call (.Name x p) (e :: es) [] pos) (aq F r):=by
  obtain⟨f,fd,ps,h1,h2,h3,h4⟩:=hd.ex
  refine PE.imp (Av h4 hr hg h1 h2 h3 .nil Jl ha hdb he hpl) fun σ H Q ⟨ρ,σd,hd,rs,pp⟩=>⟨ρ,σd,hd,rs,(bp.bind (R:=rDs X.K) pp).imp fun vs H1 ⟨ρ1,ds,hd1,e1,rs1,rv,p1⟩ => ?_⟩
  rw [List.append_nil]
  cases c:F ds hd1 with
  | exc z h'=>rw [c] at p1;exact p1.elim
  | bad=>rw [c] at p1;exact p1.elim
  | ok d hd2 =>
    rw [c] at p1
    refine⟨ρ1,hd1,ds,rs1.hp,rv,hnp _ _ _ _ c,?_⟩
    rw [c]
    exact fun v H' ρ' ex rh rd=>p1 v H' ρ' ex (rs1.ext ex rh) rd
theorem aB {np n:Nat}{b:SF}:∀ ds h d h',bF np n b ds h=.ok d h'→ds.length=np:=by
  intro ds h d h' e
  unfold bF at e
  split at e
  · assumption
  · cases e
end
theorem Js {l:PySem.W.OpenLaw}{q:Program}{loose:List Str}{XP:(Str→Option Value)→Heap→Prop}{YP:World→Heap→Prop}{d:DefRec}{K:Params→PySem.W.Frag}{F:Fn}{k:Nat}{x:Str}(hn:l.most=some 63)(hdf:d.params.defaults=[])(hr:fS k callerA)
    (hY:∀ (w:World) (h:Heap),YP w h→(K w.params).In h)
    (hF:∀ (w:World) (mg:Str→Option Value) (fa:Addr) (h:Heap),(K w.params).In h→h.Ns mainGlobals mg→mg d.name=some (.ref fa) →
      ∃ fd:FuncData,(∀ (s:Shared) (u:Value),BindsTo s fd ⟨[u],[]⟩ [(x,u)]) ∧ ∀ base:Heap,(K w.params).In base→base.Ns mainGlobals mg→cA l.prog w (K w.params) mg base CX0 k fa fd [x] (spF (K w.params) F 1))
    (law:∀ ns:List Int,ns.length≤63 → ∃ h,F [.lit (ns.map .int)] []=.ok (.bl true) h) :
    PySem.W.WalkO q loose XP YP l.row.toRowW d [] (fun f vs=>PySem.call f vs):=by
  refine L2.Fx (n:=63) (k:=k) (x:=x) (CX:=fun _=>CX0) (sp:=fun w=>spF (K w.params) F 1) hn (by decide) hdf hr hY hF (fun w H a ns hl hO hS => ?_) fun _ _ _ _ _ z=>z
  obtain⟨h,e⟩:=law ns hl
  have hL:mT (K w.params) H a (ns.map V.int):=by
    rcases hS with (z|⟨o,z⟩)|z
    · rcases hO a with y|⟨o,xs,y⟩<;>(rw [z] at y;cases y)
    · exact .inl ⟨o,z⟩
    · exact .inr z
  have hI:RDs (K w.params) [] H (ns.map D.int) (ns.map V.int):=by
    clear hl hS e hL law
    induction ns with
    | nil=>exact RDs.nil
    | cons n ns ih=>exact RDs.cons (by simp only [RD]) ih
  refine⟨[],[],[.lit (ns.map .int)],⟨rfl,List.nodup_nil,fun n c a h1=>by simp at h1⟩,RDs.cons (by simp only [RD];exact⟨a,_,rfl,hL,hI⟩) RDs.nil,rfl,?_⟩
  rw [e]
  intro v H' ρ' ex rh rd
  simpa only [RD] using rd
end Fm
set_option Elab.async false
set_option linter.all false
set_option maxRecDepth 100000
namespace Fm
open PySem PySem.Spec L2
open PyProof.Rows (Subscript_ tail_any)
def tyS:Ty→String
  | .int => "int" | .bool => "bool" | .tuple => "tuple" | .list => "list" | .str => "str"
theorem fJ (t:Ty):typeOf (.type (tyS t))=pure (.type "type"):=by
  cases t
  · exact F.isi_meta_int
  · exact F.isi_meta_bool
  · exact F.isi_meta_tuple
  · exact F.isi_meta_list
  · exact F.isi_meta_str
theorem FD (t:Ty):isSubtype (.type "NoneType") (.type (tyS t))=pure false:=by cases t<;>(rw [isSubtype_type];kernel_rfl)
theorem HC {t:Ty} (h:t ≠ .int):isSubtype (.type "int") (.type (tyS t))=pure false:=by cases t<;>first|exact absurd rfl h|(rw [isSubtype_type];kernel_rfl)
theorem FE {t:Ty} (h:t ≠ .int) (h2:t ≠ .bool):isSubtype (.type "bool") (.type (tyS t))=pure false:=by cases t<;>first|exact absurd rfl h|exact absurd rfl h2|(rw [isSubtype_type];kernel_rfl)
theorem HD {t:Ty} (h:t ≠ .str):isSubtype (.type "str") (.type (tyS t))=pure false:=by cases t<;>first|exact absurd rfl h|(rw [isSubtype_type];kernel_rfl)
theorem Dx {t:Ty} (h:t ≠ .tuple):isSubtype (.type "tuple") (.type (tyS t))=pure false:=by cases t<;>first|exact absurd rfl h|(rw [isSubtype_type];kernel_rfl)
theorem AG {t:Ty} (h:t ≠ .list):isSubtype (.type "list") (.type (tyS t))=pure false:=by cases t<;>first|exact absurd rfl h|(rw [isSubtype_type];kernel_rfl)
theorem FF (t:Ty):isSubtype (.type "dict") (.type (tyS t))=pure false:=by cases t<;>(rw [isSubtype_type];kernel_rfl)
theorem jN (t:Ty):isSubtype (.type (tyS t)) (.type (tyS t))=pure true:=by cases t<;>(rw [isSubtype_type];kernel_rfl)
theorem wJ:isSubtype (.type "bool") (.type (tyS .int))=pure true:=by rw [isSubtype_type];kernel_rfl
theorem mV {n:String}{t:Ty}(h:n≠tyS t):(Value.type n == Value.type (tyS t))=false:=by
  rw [beq_eq_false_iff_ne];intro e;cases e;exact h rfl
theorem yW {a b:Ty}(h:a≠b):(a == b)=false:=by cases a<;>cases b<;>first|rfl|exact absurd rfl h
section
variable {X:Cx} {pos p:Pos}
theorem HE {pins:List (Addr × Obj)}{σ:St}{H:Hp}{s:Shared}{ρ:List Addr}{hd:Hd}{d:D}{v:V}{u:Value}{t:Ty}{b:Bool}{Q:Value→Shared→Prop}{E:Value→Shared→Prop}(I:Inv X pins σ H s)(rh:RH X.K ρ H hd)(rd:RD X.K ρ H d v)(r:bj v u)(e:yQ hd t d=some b)
    (q:∀ s',Inv X pins σ H s'→Q (.bool b) s'):wpAny (model X.prog X.w) X.A (call (.builtin "isinstance") [u,.type (tyS t)]) Q E s:=by
  have q0:=q s I
  have q1:=q { s with toks:=s.toks + 1 } (I.tok _)
  have yes:∀ {n:String},s.TypeIs u n→isSubtype (.type n) (.type (tyS t))=pure true→Q (.bool true) s→wpAny (model X.prog X.w) X.A (call (.builtin "isinstance") [u,.type (tyS t)]) Q E s:=fun h1 h2 h3=>call_isinstance (isinstance_true (fJ t) h2) ⟨h1,h3⟩
  cases d<;>simp only [RD] at rd<;>simp only [yQ] at e
  · subst rd;cases r;cases e
    exact call_isinstance (isinstance_false_none (by cases t<;>exact mV (by decide)) (fJ t) (FD t)) q1
  · subst rd;cases r
    by_cases h1:t=.int
    · subst h1;cases e;exact yes (n := "bool") rfl wJ q0
    · by_cases h2:t=.bool
      · subst h2;cases e;exact yes (n := "bool") rfl (jN .bool) q0
      · rw [yW h1,yW h2] at e;cases e
        exact call_isinstance (isinstance_false_bool (by cases t<;>first|exact absurd rfl h1|exact absurd rfl h2|exact mV (by decide)) (fJ t) (FE h1 h2)) q1
  · subst rd;obtain⟨tk,rfl⟩:=r
    by_cases h1:t=.int
    · subst h1;cases e;exact yes (n := "int") rfl (jN .int) q0
    · rw [yW h1] at e;cases e
      exact call_isinstance (isinstance_false_int (by cases t<;>first|exact absurd rfl h1|exact mV (by decide)) (fJ t) (HC h1)) q1
  · subst rd;obtain⟨tk,rfl⟩:=r
    by_cases h1:t=.str
    · subst h1;cases e;exact yes (n := "str") rfl (jN .str) q0
    · rw [yW h1] at e;cases e
      exact call_isinstance (isinstance_false_str (by cases t<;>first|exact absurd rfl h1|exact mV (by decide)) (fJ t) (HD h1)) q1
  · obtain⟨a,vs,rfl,ha,_⟩:=rd
    cases r
    obtain⟨its,_,o,ho,hc,_⟩:=iu I.hok ha
    by_cases h1:t=.tuple
    · subst h1;cases e;exact yes (n := "tuple") ⟨o,ho,hc⟩ (jN .tuple) q0
    · rw [yW h1] at e;cases e
      exact call_isinstance (isinstance_false_tuple (by cases t<;>first|exact absurd rfl h1|exact mV (by decide)) (fJ t) (Dx h1)) ⟨⟨o,ho,hc⟩,q1⟩
  · rename_i n
    obtain⟨a,ha,rfl⟩:=rd
    cases r
    cases c:hd[n]? with
    | none=>rw [c] at e;cases e
    | some cell =>
      rw [c] at e
      cases cell with
      | lst l =>
        obtain⟨vs,hv,_⟩:=rh.cel n _ a c ha
        obtain⟨z,its,k,_,ho⟩:=I.hok a _ hv
        by_cases h1:t=.list
        · subst h1;cases e;exact yes (n := "list") ⟨_,ho,rfl⟩ (jN .list) q0
        · simp only [yW h1] at e;cases e
          exact call_isinstance (isinstance_false_list (by cases t<;>first|exact absurd rfl h1|exact mV (by decide)) (fJ t) (AG h1)) ⟨⟨_,ho,rfl⟩,q1⟩
      | dct l =>
        obtain⟨vs,hv,_,_⟩:=rh.cel n _ a c ha
        obtain⟨_,_,_,_,o,_,_,ho,ex,_⟩:=I.hok a _ hv
        cases e
        exact call_isinstance (isinstance_false_dict (by cases t<;>exact mV (by decide)) (fJ t) (FF t)) ⟨⟨o,ho,ex.1⟩,q1⟩
  · obtain⟨a,vs,rfl,ha,_⟩:=rd
    cases r
    obtain⟨its,_,pl,_⟩:=I.list ha.sq
    obtain⟨o,ho,hc,_⟩:=pl.isList
    by_cases h1:t=.list
    · subst h1;cases e;exact yes (n := "list") ⟨o,ho,hc⟩ (jN .list) q0
    · simp only [yW h1] at e;cases e
      exact call_isinstance (isinstance_false_list (by cases t<;>first|exact absurd rfl h1|exact mV (by decide)) (fJ t) (AG h1)) ⟨⟨o,ho,hc⟩,q1⟩
  · cases e
def Kr (K:PySem.W.Frag) (t:Ty):List V→Hp→VK→Prop:=fun xs H Q=>∃ ρ hd d v b,xs=[v,.ty (tyS t)]∧RH K ρ H hd∧RD K ρ H d v∧yQ hd t d=some b∧Q (.bl b) H
theorem Dy (t:Ty):eP X (.builtin "isinstance") (Kr X.K t):=by
  intro pins s σ H xs us Q I r h
  obtain⟨ρ,hd,d,v,b,rfl,rh,rd,e,q⟩:=h
  obtain⟨u,u2,rfl,ru,ru2⟩:=aI.two r
  cases (show u2=Value.type (tyS t) from ru2)
  exact HE I rh rd ru e fun s' I'=>⟨.bl b,H,I',rfl,q⟩
theorem dF {t:Ty} {a:Expr} {fa:EF} {p2:Pos} {n:Str} (hg:Gl X "isinstance") (hm:X.mg "isinstance" = none) (hg2:Gl X n) (hm2:X.mg n=none) (hv:bootBuiltins n=some (.type (tyS t))) (ha:ME X a fa)
    (hs:starEach [a,.Name n p2] X.env=(false,eval a X.env) :: starEach [.Name n p2] X.env:=by rfl) (hs2:starEach [.Name n p2] X.env=(false,eval (.Name n p2) X.env) :: starEach [] X.env:=by rfl) (hn:n ≠ "__name__" := by decide) (hd:(n == ("__debug__" : Str))=false:=by decide) :
    ME X (.Call (.Name "isinstance" p) [a,.Name n p2] [] pos) (cN t fa):=by
  refine PE.imp (fU (Dy t) hg hm (by decide +kernel) (cx ha (cx (At (v:=.ty (tyS t)) hg2 hm2 hv rfl hn hd) eA hs2) hs) (he:=hs)) fun σ H Q ⟨ρ,σd,hd,rs,pp⟩=>⟨ρ,σd,hd,rs,(bp.bind (R:=rD X.K) pp).imp fun v H1 ⟨ρ1,d,hd1,e1,rs1,rv,p1⟩ => ?_⟩
  cases c:yQ hd1 t d with
  | none=>simp only [c] at p1;exact p1.elim
  | some b=>simp only [c] at p1;exact⟨ρ1,hd1,d,v,b,rfl,rs1.hp,rv,c,p1.here rs1 (by simp only [rD,RD])⟩
theorem cF:OpR X (binaryOp .Add) (fun x y H Q=>rI0 (fun i j=>.int (i + j)) x y H Q∨wC X.K x y H Q):=Ha.or Ax
theorem dW {K:PySem.W.Frag}:Og K bA (fun x y H Q=>rI0 (fun i j=>.int (i + j)) x y H Q∨wC K x y H Q):=by
  intro ρ H σd hd σ d k v w Q rs rv rw' pp
  cases d<;>try exact pp.elim
  · cases k<;>try exact pp.elim
    simp only [RD] at rv rw'
    exact .inl ⟨_,_,rv,rw',pp.here rs (by simp only [rD,RD])⟩
  · rename_i l
    cases l with
    | nil=>exact pp.elim
    | cons x xs =>
      cases k<;>try exact pp.elim
      rename_i ys
      simp only [bA] at pp
      split at pp
      · rename_i hz
        simp only [RD] at rv rw'
        obtain⟨a,vs,rfl,ha,rvs⟩:=rv
        obtain⟨b,ws,rfl,hb,rws⟩:=rw'
        refine .inr ⟨a,b,vs,ws,rfl,rfl,SqT.of ha,SqT.of hb,?_,?_,fun z => ?_,fun _ q hq => ?_⟩
        · intro z;subst z;have:=rvs.length;simp at this
        · rw [← rvs.length,← rws.length];exact kR hz
        · subst z
          have hy:ys=[]:=by have:=rws.length;simpa using this
          subst hy
          exact pp.here rs (by simp only [rD,RD];exact⟨a,vs,rfl,ha,by simpa using rvs⟩)
        · have sm:=bG (o:=HO.tup (vs++ws)) hq
          exact pp.at (Ext.same sm) (rs.same sm) (by simp only [rD,RD];exact⟨q,_,rfl,aO,(RDs.append rvs rws).mono (Kp.same sm)⟩)
      · exact pp.elim
theorem nU {a:Expr} {la:LF} (hg:Gl X "list") (hm:X.mg "list" = none) (ha:MQ X a la) (hs:starEach [a] X.env=(false,eval a X.env) :: starEach [] X.env:=by rfl):MF X (.Call (.Name "list" p) [a] [] pos) la:=by
  refine PE.imp (sP ul hg hm (by decide +kernel) (cx ha eA hs) (he:=hs)) fun σ H Q ⟨ρ,σd,hd,rs,pp⟩=>⟨ρ,σd,hd,rs,?_⟩
  cases e:la σd hd with
  | exc x h'=>rw [e] at pp;exact pp
  | bad=>rw [e] at pp;exact pp
  | ok l hd1 =>
    rw [e] at pp
    intro v H1 ρ1 e1 rs1 ⟨q,vs,hv,sq,rvs⟩
    subst hv
    exact⟨q,vs,rfl,sq.imp id SqT.of,pp.mk e1 rs1 rvs⟩
def MO (X:Cx) (e:Option Expr) (f:OF):Prop:=PO X e (jU X.K rO f)
theorem AH:MO X none pNo:=fun pins s σ H Q I ⟨ρ,σd,hd,rs,pp⟩=>Fq pins s σ H Q I (pp.here rs rfl)
theorem AI {e:Expr}{f:EF}(h:ME X e f):MO X (some e) (pAt f):=fun pins s σ H Q I ⟨ρ,σd,hd,rs,pp⟩=>Fs h pins s σ H Q I ⟨ρ,σd,hd,rs,(bp.bind (R:=rD X.K) pp).imp fun v H1 ⟨ρ1,d,hd1,e1,rs1,rv,p1⟩=>by
  cases d<;>try exact p1.elim
  simp only [rD,RD] at rv
  exact⟨_,rv,p1.here rs1 rfl⟩⟩
theorem AJ {K:PySem.W.Frag}{ρ:List Addr}{H:Hp}{l:List D}{vs:List V}{lo hi:Option Int}(r:RDs K ρ H l vs):RDs K ρ H (cut l lo hi) (ol vs lo hi):=by
  have e:∀ (n d:Nat) (o:Option Int),Fm.sIx n d o=HT.sIx n d o:=fun n d o=>by cases o<;>rfl
  unfold cut ol
  rw [r.length,e,e]
  exact (r.drop _).take _
theorem kW {a:Expr}{fa:EF}{lo hi:Option Expr}{fl fh:OF}{p2:Pos}(ha:ME X a fa)(hl:MO X lo fl)(hh:MO X hi fh):ME X (.Subscript a (.Slice lo hi none p2) pos) (gO fa fl fh):=by
  refine PE.imp (Dh (SlR.or Ft Hh) ha hl hh) fun σ H Q ⟨ρ,σd,hd,rs,pp⟩ => ?_
  unfold gO at pp
  refine⟨ρ,σd,hd,rs,(bp.bind (R:=rD X.K) pp).imp fun v H1 ⟨ρ1,d,hd1,e1,rs1,rv,p1⟩ => ?_⟩
  refine⟨ρ1,σd,hd1,rs1,(bp.bind (R:=rO) p1).imp fun o1 H2 ⟨ρ2,o1',hd2,e2,rs2,q2,p2⟩ => ?_⟩
  cases q2
  refine⟨ρ2,σd,hd2,rs2,(bp.bind (R:=rO) p2).imp fun o2 H3 ⟨ρ3,o2',hd3,e3,rs3,q3,p3⟩ => ?_⟩
  cases q3
  have rv3:=(rv.mono (rs1.hp.kp e2)).mono (rs2.hp.kp e3)
  have list:∀ l,gw hd3 d=some l→bp X.K (rD X.K) ρ3 H3 σd σ (.ok (.ref hd3.length) (hd3++[.lst (cut l o1 o2)])) Q→Jk X.K v o1 o2 H3 Q:=fun l c p=>by
    obtain⟨q,vs,hv,sq,rvs⟩:=uq rs3.hp rv3 c
    refine⟨q,vs,hv,sq,fun q' hq => ?_⟩
    have sm:=bG (o:=HO.lst (ol vs o1 o2)) hq
    have nq:=rs3.hp.free hq
    have rh:=(rs3.hp.same sm).alloc aO nq ((AJ rvs).mono (Kp.same sm))
    have ex:Ext ρ3 H3 (ρ3++[q']) (upd H3 q' (.lst (ol vs o1 o2))):=Ext.alloc hq
    refine p.at ex (rs3.ext ex rh) ?_
    simp only [rD,RD]
    exact⟨q',by rw [← rs3.hp.len];simp,rfl⟩
  cases d with
  | tup l =>
    simp only at p3
    split at p3
    · exact p3.elim
    · rename_i hw
      simp only [RD] at rv3
      obtain⟨q,vs,rfl,hq,rvs⟩:=rv3
      have e:∀ (n d:Nat) (o:Option Int),Fm.sIx n d o=HT.sIx n d o:=fun n d o=>by cases o<;>rfl
      refine .inr ⟨q,vs,rfl,SqT.of hq,by rw [← rvs.length,← e,← e];exact hw,fun q' hq' => ?_⟩
      have sm:=bG (o:=HO.tup (ol vs o1 o2)) hq'
      exact p3.at (Ext.same sm) (rs3.same sm) (by simp only [rD,RD];exact⟨q',_,rfl,aO,(AJ rvs).mono (Kp.same sm)⟩)
  | ref n =>
    simp only at p3
    cases c:gw hd3 (.ref n) with
    | none=>rw [c] at p3;exact p3.elim
    | some l=>rw [c] at p3;exact .inl (list l c p3)
  | lit l' =>
    simp only at p3
    cases c:gw hd3 (.lit l') with
    | none=>rw [c] at p3;exact p3.elim
    | some l=>rw [c] at p3;exact .inl (list l c p3)
  | _=>exact p3.elim
theorem yX {o e:Expr} {fo fe:EF} {apos cpos:Pos} (ho:ME X o fo) (he:ME X e fe) (hbase:attributeBase o "append" X.env (eval o X.env)=eval o X.env:=by rfl)
    (hfew:((backTo cpos (starEach [e] X.env)).all (fun x => !x.1) && (backToKw cpos (keywordEach [] X.env)).all (fun x=>x.1.isSome)
      && decide (([e] : List Expr).length + ([] : List Keyword).length + (if ([] : List Keyword).isEmpty then 0 else 1) < 30))=true:=by rfl)
    (hline:(apos.endLine == cpos.line)=true:=by rfl) (hs:starEach [e] X.env=(false,eval e X.env) :: starEach [] X.env:=by rfl) :
    ME X (.Call (.Attribute o "append" apos) [e] [] cpos) (um fo fe):=by
  refine PE.imp (Gx PySem.F.plainAttrs_list PySem.F.slot_list_append PySem.F.type_list_append lZ ho (cx he eA hs) hbase hfew hline hs) fun σ H Q ⟨ρ,σd,hd,rs,pp⟩=>⟨ρ,σd,hd,rs,?_⟩
  unfold um at pp
  refine (bp.bind (R:=rD X.K) pp).imp fun v H1 ⟨ρ1,d,hd1,e1,rs1,rv,p1⟩ => ?_
  cases d<;>try exact p1.elim
  rename_i n
  simp only [rD,RD] at rv
  obtain⟨a,ha,rfl⟩:=rv
  simp only at p1
  cases c1:hd1[n]? with
  | none=>rw [c1] at p1;exact p1.elim
  | some cell1 =>
    rw [c1] at p1
    cases cell1 with
    | dct l=>exact p1.elim
    | lst l1 =>
      obtain⟨vs,hv,_⟩:=rs1.hp.cel n _ a c1 ha
      simp only at p1
      refine⟨.inl ⟨rfl,vs,SqL.of hv⟩,ρ1,σd,hd1,rs1,(bp.bind (R:=rD X.K) p1).imp fun w H2 ⟨ρ2,k,hd2,e2,rs2,rw',p2⟩ => ?_⟩
      simp only [Hq] at p2
      cases c:hd2[n]? with
      | none=>rw [c] at p2;exact p2.elim
      | some cell =>
        rw [c] at p2
        cases cell with
        | dct l=>exact p2.elim
        | lst l =>
          simp only at p2
          split at p2
          · rename_i hz
            have ha2:=e2.get ha
            obtain⟨vs2,hv2,rvs2⟩:=rs2.hp.cel n _ a c ha2
            refine⟨a,vs2,w,rfl,rfl,hv2,?_,?_⟩
            · rw [← rvs2.length];exact Nat.lt_of_lt_of_le hz (by rw [sizeLine_eq];decide)
            · have hn:n < hd2.length:=(List.getElem?_eq_some_iff.mp c).1
              have rh:=rs2.hp.write ha2 hn (RDs.append rvs2 (RDs.cons rw' RDs.nil))
              have ex:Ext ρ2 H2 ρ2 (upd H2 a (.lst (vs2++[w]))):=Ext.write (List.mem_of_getElem? ha2)
              exact p2.at ex (rs2.ext ex rh) (by simp only [rD,RD])
          · exact p2.elim
end
end Fm
set_option Elab.async false
set_option linter.all false
set_option maxRecDepth 100000
namespace Fm
open PySem PySem.Spec L2
open AutoSeq1 (wpAny_loadPart')
open PyProof.Rows (Call_)
section
variable {prog:Program} {w:World} {A:Around} {E:Value→Shared→Prop} {s:Shared}
end
section
variable {X:Cx} {pos p tp:Pos} {elts:List Expr} {tk:Nat}
end
end Fm
set_option Elab.async false
set_option linter.all false
set_option maxRecDepth 100000
namespace Fm
open PySem PySem.Spec L2 PySem.W PyProof.Rows
section
variable {prog:Program} {w:World} {A:Around} {E:Value→Shared→Prop} {s:Shared}
theorem yY {a:Addr} {vs:List Value} {n:Nat} {P:PySem.Fin→Shared→Prop} (ho:s.heap.get? a=some (seqObj "list" vs.toArray n)) (h2:vs.length < 2)
    (h:P (.done (.ret .none)) { s with heap:=sortedHeap s.heap a vs vs.toArray }):wpAny (model prog w) A (Builtin.«list.sort» ⟨[.ref a],[]⟩) P E s:=by
  rw [list_sort_plain]
  have ha:a < s.heap.objs.size:=Heap.lt_size ho
  refine wpAny_bind (listItems_at ho rfl ?_)
  refine wpAny_bind (listUpdate_at ho rfl ?_)
  obtain⟨e1,ho1⟩ : ∃ e1,(s.heap.update a (Obj.mapSeq fun _ => #[])).get? a=some (seqObj "list" #[] e1):=⟨_,get?_update_seq ho (fun _ => #[])⟩
  refine wpAny_bind (seqEpoch_at ho1 rfl ?_)
  refine wpAny_bind (wpAny_newTuple ?_)
  refine wpAny_bind (wpAny_newList ?_)
  refine wpAny_holding ?_
  have ho6:(((s.heap.update a (Obj.mapSeq fun _ => #[])).push (seqObj "tuple" vs.toArray 0)).push (seqObj "list" #[] 0)).get? a=some (seqObj "list" #[] e1):=by
    rw [Heap.get?_push_ne _ _ _ (by rw [size_push',Heap.size_update];exact Nat.ne_of_lt (Nat.lt_succ_of_lt ha)),Heap.get?_push_ne _ _ _ (by rw [Heap.size_update];exact Nat.ne_of_lt ha)]
    exact ho1
  show wpAny (model prog w) A _ P E { s with heap:=((s.heap.update a (Obj.mapSeq fun _ => #[])).push (seqObj "tuple" vs.toArray 0)).push (seqObj "list" #[] 0) }
  dsimp only
  have hsz:vs.toArray.size=vs.length:=by simp
  have h2':vs.toArray.size < 2:=by rw [hsz];exact h2
  rw [if_pos h2',if_pos h2']
  refine wpAny_bind (wpAny_pure ?_)
  rw [StateT.run_pure]
  refine wpAny_bind (wpAny_pure ?_)
  dsimp only
  refine wpAny_bind (seqEpoch_at ho6 rfl ?_)
  refine wpAny_bind (listUpdate_at ho6 rfl ?_ (hsz2:=by rw [Array.size_map];show (pairsOf vs).size≤_;rw [pairsOf_size,sizeLine_eq];omega))
  simp only [bne_self_eq_false,Bool.false_eq_true,if_false]
  have e:(arrOf (SortSt.mk' general' (vs.toArray.zip vs.toArray) #[] 7 none)).map (·.2)=vs.toArray:=by
    show (vs.toArray.zip vs.toArray).map (·.2)=vs.toArray
    apply Array.ext
    · simp
    · intro i h1 h2
      simp
  refine wpAny_pure ?_
  have h':=h
  unfold sortedHeap at h'
  rw [e]
  exact h'
theorem HF {Q:Bool→Shared→Prop}:∀ (ns ms:List Int) {xs ys:List Value} (i:Nat),IntsAre xs ns→IntsAre ys ms→Q (Fm.bN ns ms) s→KatLex prog w A true (decide (xs.length < ys.length)) Q (xs.zip ys) i s:=by
  intro ns
  induction ns with
  | nil =>
    intro ms xs ys i hx hy h
    cases hx
    cases ms with
    | nil=>cases hy;exact h
    | cons m ms =>
      cases hy
      have h':Q true s:=h
      exact h'
  | cons n ns ih =>
    intro ms xs ys i hx hy h
    cases hx with
    | cons _ t r =>
      cases ms with
      | nil =>
        cases hy
        have h':Q false s:=h
        exact h'
      | cons m ms =>
        cases hy with
        | cons _ t' r' =>
          rename_i xs ys
          refine kat_cons (SeqAt.EqAt.int_int n t m t' prog w _ _ ?_)
          by_cases e:n=m
          · subst e
            rw [show (n == n)=true by simp]
            refine kat_yes ?_
            have h':Q (Fm.bN ns ms) s:=by simpa [Fm.bN] using h
            have:=ih ms (i + 1) r r' h'
            have e2:decide ((Value.int n t :: xs).length < (Value.int n t' :: ys).length)=decide (xs.length < ys.length):=by simp
            rw [e2]
            exact this
          · rw [show (n == m)=false by simpa using e]
            refine kat_no ?_
            have h':Q (decide (n < m)) s:=by simpa [Fm.bN,e] using h
            cases i with
            | zero=>exact oneLt_int h'
            | succ i =>
              have:(true && (i + 1 == 0))=false:=by simp
              rw [this]
              exact kat_one _ _ (lt_int (by first|exact⟨_,rfl,h'⟩|exact h'))
end
theorem Dz {h:Heap}{a:Addr}{m m':Str→Option Value}(x:h.Ns a m)(y:h.Ns a m'):m=m':=by
  obtain⟨o,es,ep,ho,hd,_,r⟩:=x
  obtain⟨o',es',ep',ho',hd',_,r'⟩:=y
  rw [ho] at ho';cases ho'
  rw [hd] at hd';cases hd'
  funext z
  rw [← r z,← r' z]
inductive cD (H:Hp):List V→List (List Int)→Prop
  | nil:cD H [] []
  | cons {a:Addr} {r:List Int} {vs:List V} {rs:List (List Int)}:H a=some (.tup (r.map V.int))→cD H vs rs→cD H (.ref a :: vs) (r :: rs)
theorem cD.get {H:Hp}:∀ {vs:List V} {rs:List (List Int)} {i:Nat} {v:V},cD H vs rs→vs[i]? = some v → ∃ a,v=.ref a∧H a=some (.tup ((rs.getD i []).map V.int))
  | _,_,_,_,.nil,e=>by simp at e
  | _,_,0,_,.cons h t,e=>by simp at e;subst e;exact⟨_,rfl,h⟩
  | _,_,i + 1,v,.cons h t,e=>by
    obtain⟨a,h1,h2⟩:=cD.get (i:=i) (v:=v) t (by simpa using e)
    exact⟨a,h1,by simpa using h2⟩
theorem cD.length {H:Hp}:∀ {vs:List V} {rs:List (List Int)},cD H vs rs→vs.length=rs.length
  | _,_,.nil=>rfl
  | _,_,.cons _ t=>by simp [cD.length t]
section
variable {X:Cx} {pos p:Pos}
theorem AK {i:Int}{u:Value}(r:bj (.int i) u):∃ t,u=.int i t:=r
end
end Fm
set_option Elab.async false
set_option linter.all false
set_option maxRecDepth 100000
namespace Fm
open PySem PySem.Spec L2
section
variable {X:Cx}
theorem mv (i:Nat) {x:Str} {pos:Pos} (hN:X.N[i]? = some x:=by rfl) (hv:Vis X.env.scope x:=by first|exact Or.inl rfl|exact Or.inr (Or.inl rfl)|exact Or.inr (Or.inr rfl)) (hd:(x == ("__debug__" : Str))=false:=by decide)
    (hcd:(x == ("__classdict__" : Str))=false:=by decide):ME X (.Name x pos) (aa i):=Hr hN hv hd hcd
end
theorem eL {k:Nat}{A:Around}(r:fS k A):A.units + 24 < cLine:=by have:=r.un;omega
def aF (X:Cx):List (Str × NameKind)→Prop
  | []=>True
  | y :: r=>(y.2=.free→X.env.kindOf y.1=some .cell∨X.env.kindOf y.1=some .free)∧aF X r
def bJ (X:Cx) (scope:Scope):List Str→List Nat→Prop
  | [],[]=>True
  | x :: xs,i :: is=>(X.N[i]? = some x∧scope.names.lookup x=some .free)∧bJ X scope xs is
  | _,_=>False
theorem aF.get {X:Cx}:∀ {l:List (Str × NameKind)},aF X l → ∀ y∈l,y.2=.free→X.env.kindOf y.1=some .cell∨X.env.kindOf y.1=some .free
  | [],_,y,hy=>by simp at hy
  | z :: r,h,y,hy=>by
    rcases List.mem_cons.mp hy with rfl|hy
    · exact h.1
    · exact aF.get h.2 y hy
theorem bJ.get {X:Cx}{scope:Scope}:∀ {capn:List Str} {caps:List Nat},bJ X scope capn caps→(∀ (j:Nat) x,capn[j]? = some x → ∃ i,caps[j]? = some i∧X.N[i]? = some x∧scope.names.lookup x=some .free)∧capn.length=caps.length
  | [],[],_=>⟨fun j x e=>by simp at e,rfl⟩
  | x :: xs,i :: is,h=>by
    obtain⟨h1,h2⟩:=bJ.get h.2
    refine⟨fun j y e => ?_,by simp [h2]⟩
    cases j with
    | zero=>simp at e;subst e;exact⟨i,rfl,h.1⟩
    | succ j=>exact h1 j y (by simpa using e)
  | [],_ :: _,h=>h.elim
  | _ :: _,[],h=>h.elim
theorem aF.nil {X:Cx}:aF X []:=trivial
theorem aF.cons {X:Cx}{y:Str × NameKind}{r:List (Str × NameKind)}(h:y.2=.free→X.env.kindOf y.1=some .cell∨X.env.kindOf y.1=some .free)(t:aF X r):aF X (y :: r):=⟨h,t⟩
theorem bJ.nil {X:Cx}{scope:Scope}:bJ X scope [] []:=trivial
theorem bJ.cons {X:Cx}{scope:Scope}{x:Str}{xs:List Str}{i:Nat}{is:List Nat}(h1:X.N[i]? = some x)(h2:scope.names.lookup x=some .free)(t:bJ X scope xs is):bJ X scope (x :: xs) (i :: is):=⟨⟨h1,h2⟩,t⟩
theorem bM.mk' {X:Cx}{scope:Scope}{own capn:List Str}{caps:List Nat}(k:scope.kind=.function)(c:∀ y∈scope.names,y.2 ≠ .cell)(n:∀ y∈scope.names,y.2=.local→scope.names.lookup y.1=some .local)(f:aF X scope.names)(cp:bJ X scope capn caps):bM X scope own capn caps :=
  ⟨k,c,n,f.get,cp.get.1,cp.get.2⟩
end Fm
set_option Elab.async false
set_option linter.all false
set_option maxRecDepth 100000
namespace Fm
open PySem PySem.Spec L2
section
variable {M:Model} {A:Around} {E:Value→Shared→Prop} {s:Shared}
theorem yZ {scope:Scope}{globals:Addr}{closure:List (Str × Addr)}{qual:Str}{code:Value}{env:Env}{x:Str}{Q:Env→Shared→Prop}
    (hcf:∀ n acc,cellsFrom n scope.names acc=(x,n) :: acc) (hpc:∀ h,pushCells h scope.names=h.push { cls:=.type "cell",data:=.cell none })
    (hQ:∀ h',h'.Ns s.heap.objs.size (fun _=>none)→(∀ b o,s.heap.get? b=some o→h'.get? b=some o)→h'.get? (s.heap.objs.size + 1)=some { cls:=.type "cell",data:=.cell none } →
      Q (newEnv scope s.heap.objs.size globals ((x,s.heap.objs.size + 1) :: closure) qual none code (some env) builtinsNs) { s with heap:=h' }) :
    wpAny M A (newFunctionEnv scope globals closure [] qual none code (some env)) Q E s:=by
  simp only [newFunctionEnv,Option.isSome_some,if_true]
  refine wpAny_bind (wpAny_alloc ?_)
  refine wpAny_bind (wpAny_layCells _ (fun name kind cells=>by cases hkc:kind == NameKind.cell<;>simp [hkc]) _ _ _ _ ?_)
  rw [hcf,hpc]
  have sz:({ s with heap:=s.heap.push { cls:=.type "dict",data:=.dict #[] } }:Shared).heap.objs.size=s.heap.objs.size + 1:=Heap.size_push ..
  rw [sz]
  refine wpAny_bind (wpAny_of_eq (show (forIn ([] : List (Str × Value)) PUnit.unit _:Sem PUnit)=pure PUnit.unit from rfl) (wpAny_pure ?_))
  refine hQ _ ?_ ?_ ?_
  · exact (Heap.Ns.new s.heap (.type "dict")).keeps fun b o e=>Heap.get?_push_of_some _ e
  · exact fun b o e=>Heap.get?_push_of_some _ (Heap.get?_push_of_some _ e)
  · have:=Heap.get?_push_size (s.heap.push { cls:=.type "dict",data:=.dict #[] }) (o:={ cls:=.type "cell",data:=.cell none }) rfl
    rw [show (s.heap.push { cls:=.type "dict",data:=.dict #[] }).objs.size=s.heap.objs.size + 1 from Heap.size_push ..] at this
    exact this
end
def kX (x:Str) (X:Cx) (N:List Str) (scope:Scope) (cl:List (Str × Addr)) (C:Addr) (s:Shared) (H:Hp) (ex:List Addr):Cx where
  prog:=X.prog
  w:=X.w
  K:=X.K
  mg:=X.mg
  base:=X.base
  A:=X.A
  N:=N
  s₀ := s
  H₀ := H
  env:=compEnvC scope ((x,C + 1) :: cl) C X.env
  outer:=X.stack
  stack:=X.stack
  ex:=ex
  fn:=fun y=>y == x
  calm:=X.calm
  pn:=[]
  xe:=fun _ _=>False
structure gz (x:Str) (X:Cx) (scope:Scope) (own capn:List Str) (caps:List Nat):Prop where
  kind:scope.kind=.function
  cell1:∀ y∈scope.names,y.2=.cell→y.1=x
  names:∀ y∈scope.names,y.2=.local→scope.names.lookup y.1=some .local
  free:∀ y∈scope.names,y.2=.free→X.env.kindOf y.1=some .cell∨X.env.kindOf y.1=some .free
  cap:∀ (j:Nat) x,capn[j]? = some x → ∃ i,caps[j]? = some i∧X.N[i]? = some x∧scope.names.lookup x=some .free
  len:capn.length=caps.length
  nox:∀ y∈scope.names,y.2=.free→y.1≠x
  cf:∀ n acc,cellsFrom n scope.names acc=(x,n) :: acc
  pc:∀ h,pushCells h scope.names=h.push { cls:=.type "cell",data:=.cell none }
theorem gz.mk' {x:Str}{X:Cx}{scope:Scope}{own capn:List Str}{caps:List Nat}(k:scope.kind=.function)(c:∀ y∈scope.names,y.2=.cell→y.1=x)(n:∀ y∈scope.names,y.2=.local→scope.names.lookup y.1=some .local)(f:aF X scope.names)(cp:bJ X scope capn caps)(nox:∀ y∈scope.names,y.2=.free→y.1≠x)
    (cf:∀ n acc,cellsFrom n scope.names acc=(x,n) :: acc) (pc:∀ h,pushCells h scope.names=h.push { cls:=.type "cell",data:=.cell none }):gz x X scope own capn caps :=
  ⟨k,c,n,f.get,cp.get.1,cp.get.2,nox,cf,pc⟩
theorem wK {x y:Str}{c:Addr}{cl:List (Str × Addr)}{d:Addr}(h:((x,d) :: cl).lookup y=some c):(y=x∧c=d)∨(y≠x∧cl.lookup y=some c):=by
  rw [List.lookup_cons] at h
  cases e:y == x with
  | true=>rw [e] at h;exact .inl ⟨by simpa using e,(Option.some.inj h).symm⟩
  | false=>rw [e] at h;exact .inr ⟨by simpa using e,h⟩
theorem AL {x y:Str}{cl:List (Str × Addr)}{d:Addr}(h:y≠x):((x,d) :: cl).lookup y=cl.lookup y:=by
  rw [List.lookup_cons,beq_eq_false_iff_ne.mpr h]
theorem AM {x:Str}{cl:List (Str × Addr)}{d:Addr}:((x,d) :: cl).lookup x=some d:=by rw [List.lookup_cons,beq_self_eq_true]
theorem AN {x:Str}{cl:List (Str × Addr)}{d b:Addr}(f:∀ y c,cl.lookup y=some c→c≠b)(lt:b < d){y:Str}{c:Addr}(h:((x,d + 1) :: cl).lookup y=some c):c≠b:=by
  rcases wK h with ⟨_,rfl⟩|⟨_,h⟩
  · exact Nat.ne_of_gt (Nat.lt_succ_of_lt lt)
  · exact f y c h
section
variable {X:Cx} {pins:List (Addr × Obj)} {σ:St} {H1:Hp} {s2:Shared} {c0:Str} {scope:Scope} {own capn:List Str} {caps:List Nat} {cl:List (Str × Addr)} {C:Addr} {ex:List Addr}
theorem FG (I:Inv X pins σ H1 s2)(S:gz c0 X scope own capn caps)(hC:s2.heap.objs.size≤C)(hcl1:∀ x c,cl.lookup x=some c→X.env.cells.lookup x=some c)(hcl2:∀ y∈scope.names,y.2=.free → ∃ c,cl.lookup y.1=some c)
    (hf:∀ b∈ex,kM X pins H1 b) (hlt:∀ b∈ex,b < s2.heap.objs.size):(kX c0 X (own++capn) scope cl C s2 H1 ex).Ok where
  mod:=I.ok.mod
  kind:=S.kind
  glob:=I.ok.glob
  blt:=I.ok.blt
  above:=hC
  inj:=fun x y c h1 h2=>by
    have lt:∀ {z:Str} {d:Addr},cl.lookup z=some d→d < C + 1:=fun {z d} e=>by
      obtain⟨v,o,ho,_⟩:=I.cell z d (hcl1 z d e)
      exact Nat.lt_succ_of_le (Nat.le_trans (Nat.le_of_lt (Heap.lt_size ho)) hC)
    rcases wK h1 with ⟨a1,a2⟩|⟨a1,a2⟩<;>rcases wK h2 with ⟨b1,b2⟩|⟨b1,b2⟩
    · rw [a1,b1]
    · exact absurd (lt b2) (by rw [a2];exact Nat.lt_irrefl _)
    · exact absurd (lt a2) (by rw [b2];exact Nat.lt_irrefl _)
    · exact I.ok.inj x y c (hcl1 x c a2) (hcl1 y c b2)
  has:=fun x hx=>by
    have key:∀ k,(relabel scope X.env).names.lookup x=some k→k=.cell∨k=.free → ∃ c,((c0,C + 1) :: cl).lookup x=some c:=fun k h hk=>by
      obtain⟨k0,h0,q⟩:=gc h
      have hm:=dw h0
      have fr:k0=.free → ∃ c,((c0,C + 1) :: cl).lookup x=some c:=fun e=>by
        obtain⟨c,hc⟩:=hcl2 _ hm e
        exact⟨c,by rw [AL (S.nox _ hm e)];exact hc⟩
      rcases q with q|q
      · subst q
        rcases hk with e|e
        · have:=S.cell1 _ hm e
          exact⟨C + 1,by rw [show x=c0 from this];exact AM⟩
        · exact fr e
      · exact fr q.1
    rcases hx with h|h
    · exact key _ h (.inl rfl)
    · exact key _ h (.inr rfl)
  cab:=fun x c h e=>by
    have h:(x == c0)=true:=h
    have h:x=c0:=by simpa using h
    subst h
    have e:((x,C + 1) :: cl).lookup x=some c:=e
    rw [AM] at e
    cases e
    exact Nat.le_succ_of_le hC
  hd:=I.ok.hd
  frames:=I.ok.frames
  stk:=.inl rfl
  exf:=fun b hb=>by
    obtain⟨f0,f1,f2,f3,f4,f5⟩:=hf b hb
    exact⟨fun z=>absurd (Nat.lt_of_lt_of_le (hlt b hb) hC) (by rw [z];exact Nat.lt_irrefl _),fun x c e=>AN (fun x c e=>f4 x c (hcl1 x c e)) (Nat.lt_of_lt_of_le (hlt b hb) hC) e⟩
  bs:=I.bs
  bsz:=Nat.le_trans I.ok.bsz I.sz
  noex:=fun b o e hb=>by
    obtain⟨f0,f1,f2,f3,f4,f5⟩:=hf b hb
    rcases f3 with z|z
    · exact I.ok.noex b o e z
    · exact absurd (Nat.lt_of_lt_of_le (Heap.lt_size (I.ok.bs b o e).1) z) (Nat.lt_irrefl _)
  exfs:=fun b hb hs=>by
    obtain⟨f0,f1,f2,f3,f4,f5⟩:=hf b hb
    rcases List.mem_cons.mp (I.stkSub b hs) with z|z
    · exact f1 z
    · exact f2 z
  funs:=I.stack
  frf:=I.stkFree
theorem y0 (I:Inv X pins σ H1 s2)(S:gz c0 X scope own capn caps)(hC:s2.heap.objs.size < C)(hcl1:∀ x c,cl.lookup x=some c→X.env.cells.lookup x=some c)(hcl2:∀ y∈scope.names,y.2=.free → ∃ c,cl.lookup y.1=some c)
    (hf:∀ b∈ex,kM X pins H1 b) (hlt:∀ b∈ex,b < s2.heap.objs.size) {h1:Heap} {m:Str→Option Value} {tk:Nat} (hn:h1.Ns C m) (hk:∀ b o,s2.heap.get? b=some o→h1.get? b=some o)
    (hD:h1.get? s2.heap.objs.size=some { cls:=.type "list",data:=.seq #[] }) (hx:h1.get? (C + 1)=some { cls:=.type "cell",data:=.cell none }) :
    Inv (kX c0 X (own++capn) scope cl C s2 H1 ex) [] (stC own caps σ) (upd H1 s2.heap.objs.size (.lst [])) { s2 with heap:=h1,toks:=tk } where
  ok:=FG I S (Nat.le_of_lt hC) hcl1 hcl2 hf hlt
  os:=rfl
  bare:=I.bare
  base:=Un.laid hk (Nat.le_refl _) (I.hok.fresh (Nat.le_refl _))
  loc:=by
    refine⟨m,hn,fun i x v e1 e2 e3 => ?_⟩
    obtain⟨j,k,rfl,hj,hk'⟩:=AF e2
    have e1':capn[j]? = some x:=by
      have:(own++capn)[own.length + j]? = some x:=e1
      rw [List.getElem?_append_right (by omega)] at this
      simpa using this
    obtain⟨k2,q1,q2,q3⟩:=S.cap j x e1'
    rw [hj] at q1;cases q1
    have hm:=dw q3
    have kd:=S.free _ hm rfl
    obtain⟨m0,hn0,hl⟩:=I.loc
    obtain⟨u,r,lk⟩:=hl k x v q2 hk' (.inr kd)
    refine⟨u,r,.inr ⟨iy q3,?_⟩⟩
    rcases lk with ⟨z,_⟩|⟨_,c,hc,o,ho,hd⟩
    · rcases kd with e|e<;>(rw [z] at e;cases e)
    · obtain⟨c',hc'⟩:=hcl2 _ hm rfl
      have:=hcl1 _ _ hc'
      rw [hc] at this
      cases this
      exact⟨c,(AL (S.nox _ hm rfl)).trans hc',o,hk c o ho,hd⟩
  cell:=fun x c e=>by
    rcases wK e with ⟨_,rfl⟩|⟨_,e⟩
    · exact⟨none,_,hx,rfl⟩
    · obtain⟨v,o,ho,hd⟩:=I.cell x c (hcl1 x c e)
      exact⟨v,o,hk c o ho,hd⟩
  free:=by
    show upd H1 _ _ C=none
    rw [ay (Nat.ne_of_gt hC)]
    exact I.hok.fresh (Nat.le_of_lt hC)
  freeC:=fun x c e=>by
    rcases wK e with ⟨_,rfl⟩|⟨_,e⟩
    · rw [ay (Nat.ne_of_gt (Nat.lt_succ_of_lt hC))]
      exact I.hok.fresh (Nat.le_of_lt (Nat.lt_succ_of_lt hC))
    · obtain⟨v,o,ho,hd⟩:=I.cell x c (hcl1 x c e)
      rw [ay (Nat.ne_of_lt (Heap.lt_size ho))]
      exact I.freeC x c (hcl1 x c e)
  pin:=fun p hp=>absurd (show p∈([] : List (Addr × Obj)) from hp) (by simp)
  hok:=I.hok.laid hk (Nat.le_refl _) ⟨Nat.zero_le _,[],0,.nil,hD⟩
  len:=by
    show (stC own caps σ).length=(own++capn).length
    simp [stC,S.len]
end
structure CIc (c0:Str) (X:Cx) (own capn:List Str) (scope:Scope) (cl:List (Str × Addr)) (s2:Shared) (C:Addr) (H1:Hp) (ρ1:List Addr) (fp:List Addr) (tn:Nat→Heap→Prop) (G:Hd→Prop) (g:GF) (cs:List TF) (e:EF) (l:List D) (hdF:Hd) (ds:List D) (d:CD) (s':Shared):Prop where
  le:d.i≤l.length
  inv:Inv (kX c0 X (own++capn) scope cl C s2 H1 fp) [] d.σ d.H s'
  st:tn d.i s'.heap
  fr:∀ b∈fp,d.H b=none
  at':d.H s2.heap.objs.size=some (.lst d.ys)
  out:s2.heap.objs.size∉d.ρ
  yl:d.ys.length≤d.i
  ex:Ext ρ1 H1 d.ρ d.H
  rs:RS X.K d.ρ d.H d.σd d.hd d.σ
  ac:RDs X.K d.ρ d.H d.acc d.ys
  run:eQ G g cs e (l.drop d.i) d.σd d.hd=.ok d.rest hdF
  eq:d.acc++d.rest=ds
section
variable {X:Cx} {pins:List (Addr × Obj)} {σ:St} {H1:Hp} {s2:Shared} {c0:Str} {scope:Scope} {own capn:List Str} {caps:List Nat} {cl:List (Str × Addr)}
theorem wL {ρ1:List Addr}{σd:Sd}{hd1:Hd}(S:gz c0 X scope own capn caps)(r:RS X.K ρ1 H1 σd hd1 σ){d:Addr}(hd:H1 d=none):RS X.K ρ1 (upd H1 d (.lst [])) (d6 own.length caps σd) hd1 (stC own caps σ):=by
  have sm:=bG (o:=HO.lst []) hd
  refine⟨r.hp.same sm,⟨by simp [stC,d6],fun i x e => ?_⟩⟩
  obtain⟨j,k,rfl,hj,hs⟩:=mU e
  obtain⟨v,h1,h2⟩:=r.st.at' k x hs
  refine⟨v,?_,h2.mono (Kp.same sm)⟩
  unfold stC
  rw [List.getElem?_append_right (by simp)]
  simp [hj,h1]
theorem y3 {elt tg iter:Expr}{ifs:List Expr}{pos:Pos}{it:Addr}{fp:List Addr}{tn:Nat→Heap→Prop}{J:It}{l:List D}{G:Hd→Prop}{g:GF}{cs:List TF}{e:EF}{ρ1:List Addr}{σd:Sd}{hd1 hdF:Hd}{ds:List D}{E:Value→Shared→Prop}{RR:Value→Addr→Result→Shared→Prop}
    (hc:X.calm=true) (S:gz c0 X scope own capn caps) (hin:∀ cl C s H ex,MG (kX c0 X (own++capn) scope cl C s H ex) tg g∧MTs (kX c0 X (own++capn) scope cl C s H ex) ifs cs∧ME (kX c0 X (own++capn) scope cl C s H ex) elt e)
    (I1:Inv X pins σ H1 s2) (T:Bu X.prog X.w X.K tg J fp it tn) (st0:tn 0 s2.heap) (hf:∀ b∈fp,kM X pins H1 b) (rs1:RS X.K ρ1 H1 σd hd1 σ) (wk:Dv X.K ρ1 H1 J l G)
    (hcl1:∀ x c,cl.lookup x=some c→X.env.cells.lookup x=some c) (hcl2:∀ y∈scope.names,y.2=.free → ∃ c,cl.lookup y.1=some c)
    (run:eQ G g cs e l (d6 own.length caps σd) hd1=.ok ds hdF)
    (hRR:∀ C s' m H' ρ' vs,s2.heap.objs.size < C→s'.heap.Ns C m→Inv X pins σ H' s'→H' C=none→Ext ρ1 H1 ρ' H'→RH X.K ρ' H' hdF→H1 s2.heap.objs.size=none→H' s2.heap.objs.size=some (.lst vs)→s2.heap.objs.size ∉ ρ'→RDs X.K ρ' H' ds vs →
      RR (.ref s2.heap.objs.size) C (.ok .next) s') :
    wpAny (model X.prog X.w) X.A (newList []) (fun acc s₃ => wpAny (model X.prog X.w) X.A (newFunctionEnv scope X.env.globals cl [] X.env.qual none .none (some X.env)) (fun cenv s₄ =>
      codeAny (model X.prog X.w) X.A (.compStart (.ListComp elt [⟨tg,iter,ifs,0⟩] scope pos) 0 (.ref it) acc { cenv with scope:=relabel scope X.env }) (RR acc cenv.locals) s₄) E s₃) E s2:=by
  refine wpAny_newObj_type (yZ (x:=c0) (scope:=scope) S.cf S.pc (fun h₁ hns₁ old₁ hcell => ?_))
  dsimp only at hns₁ old₁ hcell ⊢
  generalize hH2:s2.heap.push { cls:=.type "list",dict:=none,data:=.seq ([] : List Value).toArray } = H2 at hns₁ old₁ hcell ⊢
  have hC:H2.objs.size=s2.heap.objs.size + 1:=by rw [← hH2,Heap.size_push]
  have old:∀ b o,s2.heap.get? b=some o→h₁.get? b=some o:=fun b o e=>old₁ b o (hH2 ▸ Heap.get?_push_of_some _ e)
  have hacc:h₁.get? s2.heap.objs.size=some { cls:=.type "list",data:=.seq #[] }:=old₁ _ _ (hH2 ▸ Heap.get?_push_size _ rfl)
  have hlt:∀ b∈fp,b < s2.heap.objs.size:=fun b hb=>by
    obtain⟨o,ho,_⟩:=T.obj 0 _ st0 b hb
    exact Heap.lt_size ho
  have hCl:s2.heap.objs.size < H2.objs.size:=by rw [hC];exact Nat.lt_succ_self _
  have hD0:H1 s2.heap.objs.size=none:=I1.hok.fresh (Nat.le_refl _)
  have st1:tn 0 h₁ := T.keep 0 _ _ st0 fun b hb o e=>old b o e
  have hn1:s2.heap.objs.size ∉ ρ1:=rs1.hp.free hD0
  obtain⟨hG,hT,hE⟩:=hin cl H2.objs.size s2 H1 fp
  have I':=y0 (tk:=s2.toks) I1 S hCl hcl1 hcl2 hf hlt hns₁ old hacc hcell
  have fpC:∀ {pins':List (Addr × Obj)} {H':Hp},(∀ b∈fp,H' b=none) → ∀ b∈fp,kM (kX c0 X (own++capn) scope cl H2.objs.size s2 H1 fp) [] H' b:=fun {pins' H'} hn b hb=>by
    obtain⟨f0,f1,f2,f3,f4,f5⟩:=hf b hb
    have lt:=hlt b hb
    refine⟨hn b hb,fun z=>absurd lt (by rw [show b=H2.objs.size from z,hC];exact Nat.not_lt.mpr (Nat.le_succ _)),fun z => ?_,.inl hb,fun x c e=>AN (fun x c e=>f4 x c (hcl1 x c e)) (Nat.lt_of_lt_of_le lt (by rw [hC];exact Nat.le_succ _)) e,fun p hp=>absurd (show p∈([] : List (Addr × Obj)) from hp) (by simp)⟩
    rcases List.mem_cons.mp (I1.stkSub b z) with q|q
    · exact f1 q
    · exact f2 q
  have loop:∀ s₃ : Shared,s₃ = { s2 with heap:=h₁,toks:=s2.toks } →
      codeAny (model X.prog X.w) X.A (.compLoop (.ListComp elt [⟨tg,iter,ifs,0⟩] scope pos) 0 (.ref it) (.ref s2.heap.objs.size) (compEnvC scope ((c0,H2.objs.size + 1) :: cl) H2.objs.size X.env)) (RR (.ref s2.heap.objs.size) H2.objs.size) s₃ := by
    rintro s₃ rfl
    refine kT (E:=fun _ _=>False) (fun _ _ z=>z) (fun n s'=>∃ d:CD,n=l.length - d.i∧CIc c0 X own capn scope cl s2 H2.objs.size H1 ρ1 fp tn G g cs e l hdF ds d s') ?_ l.length
      ⟨⟨0,[],[],ds,ρ1,_,hd1,_,_⟩,by simp,Nat.zero_le _,I',st1,fun b hb => ?_,aO,hn1,Nat.le_refl _,Ext.same (bG hD0),wL S rs1 hD0,RDs.nil,by simpa using run,rfl⟩
    · rintro n s' ⟨⟨i,ys,acc,rest,ρ',σd',hd',H',σ'⟩,rfl,ci⟩
      have hil:i≤l.length:=ci.le
      have I':Inv (kX c0 X (own++capn) scope cl H2.objs.size s2 H1 fp) [] σ' H' s':=ci.inv
      have stn:tn i s'.heap:=ci.st
      have hfp:∀ b∈fp,H' b=none:=ci.fr
      have hDy:H' s2.heap.objs.size=some (.lst ys):=ci.at'
      have hnD:s2.heap.objs.size ∉ ρ':=ci.out
      have hyl:ys.length≤i:=ci.yl
      have ex:Ext ρ1 H1 ρ' H':=ci.ex
      have rs':RS X.K ρ' H' σd' hd' σ':=ci.rs
      have racc:RDs X.K ρ' H' acc ys:=ci.ac
      have hrun:eQ G g cs e (l.drop i) σd' hd'=.ok rest hdF:=ci.run
      have hds:acc++rest=ds:=ci.eq
      by_cases hlt':i < l.length
      · have hdi:l[i]? = some l[i]:=by simp [hlt']
        rw [List.drop_eq_getElem_cons hlt'] at hrun
        unfold eQ at hrun
        by_cases hh:G hd'
        · rw [if_pos hh] at hrun
          obtain⟨go,yl⟩:=wk.go ρ' H' hd' i _ ex rs'.hp hh hdi
          cases c:g l[i] σd' with
          | none=>rw [c] at hrun;cases hrun
          | some σd2 =>
            rw [c] at hrun
            simp only at hrun
            refine thn (T.item (kX c0 X (own++capn) scope cl H2.objs.size s2 H1 fp) rfl rfl rfl hc i [] s' σ' H' (fun _ _=>False) I' (fpC (pins':=[]) hfp) stn go) fun r s₁ ⟨u,hr,h4⟩ => ?_
            subst hr
            refine thn h4 fun _ s5 ⟨x,H5,I5,r5,y5,st5,fr5⟩ => ?_
            obtain⟨sm,rx⟩:=yl x H5 y5
            have I5':=I5.pinned (fpC (pins':=[]) fr5) (T.obj _ _ st5)
            have rs5:=rs'.same sm
            have hDy5:=sm _ _ hDy
            refine thn (hG _ s5 σ' H5 x u (fun σ6 H6=>H6=H5∧RS X.K ρ' H5 σd2 hd' σ6) I5' r5 ⟨ρ',σd',hd',l[i],σd2,rs5,rx,c,fun σ6 rs6=>⟨rfl,rs6⟩⟩) fun _ s6 ⟨σ6,H6,I6,hH6,rs6⟩ => ?_
            subst hH6
            cases c2:i6 cs σd2 hd' with
            | exc z h7=>rw [c2] at hrun;cases hrun
            | bad=>rw [c2] at hrun;cases hrun
            | ok b hd7 =>
              rw [c2] at hrun
              simp only [ax] at hrun
              refine thn (hT _ s6 σ6 H6 (fun b' H7=>b'=b ∧ ∃ ρ7,Ext ρ' H6 ρ7 H7∧RS X.K ρ7 H7 σd2 hd7 σ6) I6 ⟨ρ',σd2,hd',rs6,by
                rw [c2]
                exact fun b' H7 ρ7 ex7 rs7 q=>⟨q.symm,ρ7,ex7,rs7⟩⟩) fun b' s7 ⟨H7,I7,hb',ρ7,ex7,rs7⟩ => ?_
              subst hb'
              have stay:∀ {σ8:St} {H8:Hp} {s8:Shared},Inv (kX c0 X (own++capn) scope cl H2.objs.size s2 H1 fp) ([]++lX fp s5.heap) σ8 H8 s8→tn (i + 1) s8.heap ∧ ∀ b∈fp,H8 b=none:=fun {σ8 H8 s8} I8 =>
                ⟨T.keep _ _ _ st5 fun b hb o e=>(I8.pin (b,o) (List.mem_append_right _ (List.mem_append_right _ (eR hb e)))).1,fun b hb=>by
                  obtain⟨o,e,d⟩:=T.obj _ _ st5 b hb
                  exact (I8.pin (b,o) (List.mem_append_right _ (List.mem_append_right _ (eR hb e)))).2.1⟩
              have ex5:Ext ρ' H' ρ7 H7:=(Ext.same sm).trans ex7
              have hDy7:H7 s2.heap.objs.size=some (.lst ys):=ex5.frame _ _ hDy hnD
              have hnD7:=ex5.out hDy hnD
              have racc7:=racc.mono (rs'.hp.kp ex5)
              cases b' with
              | false =>
                simp only [Bool.false_eq_true,if_false] at hrun ⊢
                obtain⟨st8,f8⟩:=stay I7
                exact⟨l.length - (i + 1),by omega,⟨i + 1,ys,acc,rest,ρ7,σd2,hd7,H7,σ6⟩,rfl,hlt',I7.unpinned,st8,f8,hDy7,hnD7,Nat.le_succ_of_le hyl,ex.trans ex5,rs7,racc7,hrun,hds⟩
              | true =>
                simp only [if_true] at hrun ⊢
                cases c3:e σd2 hd7 with
                | exc z h7=>rw [c3] at hrun;cases hrun
                | bad=>rw [c3] at hrun;cases hrun
                | ok d hd8 =>
                  rw [c3] at hrun
                  simp only [ax] at hrun
                  cases c4:eQ G g cs e (l.drop (i + 1)) σd2 hd8 with
                  | exc z h7=>rw [c4] at hrun;cases hrun
                  | bad=>rw [c4] at hrun;cases hrun
                  | ok rest' hd9 =>
                    rw [c4] at hrun
                    simp only [ax,Res.ok.injEq] at hrun
                    obtain⟨hrest,hF⟩:=hrun
                    subst hrest hF
                    refine thn (hE _ s7 σ6 H7 (fun v H8=>∃ ρ8,Ext ρ7 H7 ρ8 H8∧RS X.K ρ8 H8 σd2 hd8 σ6∧RD X.K ρ8 H8 d v) I7 ⟨ρ7,σd2,hd7,rs7,by
                      rw [c3]
                      exact fun v H8 ρ8 ex8 rs8 q=>⟨ρ8,ex8,rs8,q⟩⟩) fun u8 s8 ⟨v8,H8,I8,r8,ρ8,ex8,rs8,rd8⟩ => ?_
                    have hDy8:H8 s2.heap.objs.size=some (.lst ys):=ex8.frame _ _ hDy7 hnD7
                    have hnD8:=ex8.out hDy7 hnD7
                    refine thn (lZ _ s8 σ6 H8 (.ref s2.heap.objs.size) [v8] (.ref s2.heap.objs.size) [u8] (fun _ H9=>H9=upd H8 s2.heap.objs.size (.lst (ys++[v8]))) I8 rfl (.cons r8 .nil) ⟨_,ys,v8,rfl,rfl,hDy8,by have:=wk.sz;omega,rfl⟩) fun u9 s9 ⟨v9,H9,I9,r9,q9⟩ => ?_
                    subst q9
                    obtain⟨st9,f9⟩:=stay I9
                    obtain⟨rs9,k9⟩:=rs8.other (zs:=ys++[v8]) hDy8 hnD8
                    exact⟨l.length - (i + 1),by omega,⟨i + 1,ys++[v8],acc++[d],rest',ρ8,σd2,hd8,_,σ6⟩,rfl,hlt',I9.unpinned,st9,f9,aO,hnD8,by simp;exact hyl,(ex.trans (ex5.trans ex8)).other hD0,rs9,
                      ((racc7.mono (rs7.hp.kp ex8)).mono k9).append (RDs.cons (rd8.mono k9) RDs.nil),c4,by rw [← hds];simp⟩
        · rw [if_neg hh] at hrun;cases hrun
      · have e0:i=l.length:=by omega
        subst e0
        rw [List.drop_length] at hrun
        unfold eQ at hrun
        by_cases hh:G hd'
        · rw [if_pos hh] at hrun
          simp only [Res.ok.injEq] at hrun
          obtain⟨hrest,hF⟩:=hrun
          subst hrest hF
          rw [List.append_nil] at hds
          subst hds
          refine thn (T.done (kX c0 X (own++capn) scope cl H2.objs.size s2 H1 fp) rfl rfl rfl hc _ [] s' σ' H' (fun _ _=>False) I' (fpC (pins':=[]) hfp) stn (wk.stop ρ' H' hd' ex rs'.hp hh)) fun r s₁ ⟨hr,I4⟩ => ?_
          subst hr
          obtain⟨m,hm,_⟩:=I4.loc
          refine hRR H2.objs.size s₁ m H' ρ' ys hCl hm ?_ I4.free ex rs'.hp hD0 hDy hnD racc
          exact I1.call' I4.os I4.base I4.hok I4.bare fun b hb=>by
            obtain⟨f0,f1,f2,f3,f4,f5⟩:=hf b hb
            exact⟨f3,f1,f4,f5⟩
        · rw [if_neg hh] at hrun;cases hrun
    · show upd H1 _ _ b=none
      rw [ay (Nat.ne_of_lt (hlt b hb))]
      exact (hf b hb).1
  exact codeAny_compStart_list (loop _ rfl) (T.self _ 0 _ _ _ st1 (loop _ rfl))
end
section
variable {X:Cx} {pos:Pos} {c0:Str} {scope:Scope} {own capn:List Str} {caps:List Nat}
theorem DA {elt tg iter:Expr}{ifs:List Expr}{f:IF}{g:GF}{cs:List TF}{e:EF}(hc:X.calm=true)(S:gz c0 X scope own capn caps)(hi:MI X tg iter f)
    (hin:∀ cl C s H ex,MG (kX c0 X (own++capn) scope cl C s H ex) tg g∧MTs (kX c0 X (own++capn) scope cl C s H ex) ifs cs∧ME (kX c0 X (own++capn) scope cl C s H ex) elt e)
    (hs:∀ x,foldedSetIterable iter X.env x=pure x:=by intro _;rfl):MF X (.ListComp elt [⟨tg,iter,ifs,0⟩] scope pos) (aT own.length caps f g cs e):=by
  intro pins s σ H Q I ⟨ρ,σd,hd,rs,p⟩
  rw [eval_ListComp]
  unfold aT at p
  cases c:f σd hd with
  | exc z h7=>rw [c] at p;exact p.elim
  | bad=>rw [c] at p;exact p.elim
  | ok q hd1 =>
    obtain⟨l,gd⟩:=q
    rw [c] at p
    simp only [ax] at p
    obtain⟨cl,h1,hcl1,hcl2⟩:=kl (scope:=scope) (env:=X.env) fun y hy hyf=>I.ok.has y.1 (S.free y hy hyf)
    refine wpAny_comprehension_free (use:=none) rfl hs h1 S.kind S.names (thn (hi pins s σ H (fun J H1=>∃ ρ1,Ext ρ H ρ1 H1∧RS X.K ρ1 H1 σd hd1 σ ∧ pZ X.K ρ1 H1 J l gd) I ⟨ρ,σd,hd,rs,by
      rw [c]
      exact fun J H' ρ' ex rs' wk=>⟨ρ',ex,rs',wk⟩⟩) fun v s1 h1=>thn h1 fun itv s2 h2 => ?_)
    obtain⟨it,fp,tn,J,H1,rfl,I1,T,st0,hf,ρ1,ex1,rs1,wk⟩:=h2
    cases c2:bV gd l g cs e l (d6 own.length caps σd) hd1 with
    | exc z h7=>rw [c2] at p;exact p.elim
    | bad=>rw [c2] at p;exact p.elim
    | ok ds hdF =>
      rw [c2] at p
      refine y3 (RR:=fun acc C=>compPost (model X.prog X.w) X.A X.xe none (EP X pins σ Q) acc C) hc S hin I1 T st0 hf rs1 wk.g hcl1 hcl2 ((nT _ _ _).symm.trans c2) fun C s' m H' ρ' vs hC hn I' hCn ex rh hD0 hD hnD rds => ?_
      refine⟨m,hn,fun h' sb=>⟨.ref s2.heap.objs.size,H',?_,rfl,?_⟩⟩
      · refine I'.turned (it:=C) (t':=s'.toks) (fun b o hb e=>(sb.2 b hb).trans e) hCn ?_ (.inr (Nat.le_of_lt (Nat.lt_of_le_of_lt I1.sz hC))) (fun x c e z => ?_) fun q hq z => ?_
        · exact Nat.ne_of_gt (Nat.lt_trans I1.lt hC)
        · obtain⟨v,o,ho,hd⟩:=I1.cell x c e
          exact absurd (Nat.lt_trans (Heap.lt_size ho) hC) (by rw [z];exact Nat.lt_irrefl _)
        · exact absurd (Nat.lt_trans (Heap.lt_size (I1.pin q hq).1) hC) (by rw [z];exact Nat.lt_irrefl _)
      · exact p _ vs H' ρ' (ex1.trans ex) (rs.ext (ex1.trans ex) rh) (ex1.fresh hD0 (rs1.hp.free hD0)) hD hnD rds
end
end Fm
set_option Elab.async false
set_option linter.all false
set_option maxRecDepth 100000
namespace Fm
open PySem PySem.Spec L2
section
variable {K:PySem.W.Frag} {ρ:List Addr} {H:Hp}
end
section
variable {X:Cx} {pos:Pos}
end
end Fm
set_option Elab.async false
set_option linter.all false
set_option maxRecDepth 100000
namespace Fm
open PySem PySem.Spec L2 PySem.W PyProof.Rows
theorem HG {l r:Nat}(h:l < r):l≤(l + r) / 2∧(l + r) / 2 < r:=by omega
section
variable {cmp:Nat→Nat→(Bool→Shared→Prop)→Shared→Prop} {n:Nat} {s:Shared} {lt:Nat→Nat→Bool}
structure Ord (lt:Nat→Nat→Bool) (n:Nat):Prop where
  asy:∀ i j,i < n→j < n→lt i j=true→lt j i=false
  tr:∀ i j k,i < n→j < n→k < n→lt i j=true→lt j k=true→lt i k=true
  tot:∀ i j,i < n→j < n→i≠j→lt i j=false→lt j i=true
structure Gd (n:Nat) (p:Array Nat):Prop where
  sz:p.size=n
  pm:p.Perm (List.toArray (List.range n))
theorem Gd.below (g:Gd n p){i:Nat}(hi:i < n):p.getD i 0 < n:=by
  have h1:i < p.size:=by rw [g.sz];exact hi
  have e:p.getD i 0=p[i]:=by simp [Array.getD,h1]
  rw [e]
  have m:p[i]∈p.toList:=by simp
  have:=(Array.perm_iff_toList_perm.mp g.pm).mem_iff.mp m
  simpa using this
theorem Gd.ne (g:Gd n p){i j:Nat}(hi:i < n)(hj:j < n)(h:i≠j):p.getD i 0≠p.getD j 0:=by
  have h1:i < p.size:=by rw [g.sz];exact hi
  have h2:j < p.size:=by rw [g.sz];exact hj
  have e:p.getD i 0=p[i]:=by simp [Array.getD,h1]
  have e':p.getD j 0=p[j]:=by simp [Array.getD,h2]
  rw [e,e']
  have nd:p.toList.Nodup:=(Array.perm_iff_toList_perm.mp g.pm).nodup_iff.mpr (by simpa using List.nodup_range)
  intro z
  have:=(List.getElem_inj (xs:=p.toList) nd (i:=i) (j:=j) (h₀ := by simpa using h1) (h₁ := by simpa using h2)).mp (by simpa using z)
  exact h this
def Srt (lt:Nat→Nat→Bool) (p:Array Nat) (m:Nat):Prop:=∀ i j,i < j→j < m→lt (p.getD i 0) (p.getD j 0)=true
def Dsc (lt:Nat→Nat→Bool) (p:Array Nat) (m:Nat):Prop:=∀ i j,i < j→j < m→lt (p.getD j 0) (p.getD i 0)=true
theorem ge:Gd n (List.toArray (List.range n)):=⟨by simp,Array.Perm.refl _⟩
theorem Srt.next {p:Array Nat}{m:Nat}(O:Ord lt n)(g:Gd n p)(h:Srt lt p m)(h1:1≤m)(hm:m < n)(c:lt (p.getD (m - 1) 0) (p.getD m 0)=true):Srt lt p (m + 1):=by
  intro i j hij hj
  by_cases e:j < m
  · exact h i j hij e
  · have:j=m:=by omega
    subst this
    by_cases e2:i=j - 1
    · subst e2;exact c
    · exact O.tr _ _ _ (g.below (by omega)) (g.below (by omega)) (g.below hm) (h i (j - 1) (by omega) (by omega)) c
theorem Dsc.next {p:Array Nat}{m:Nat}(O:Ord lt n)(g:Gd n p)(h:Dsc lt p m)(h1:1≤m)(hm:m < n)(c:lt (p.getD m 0) (p.getD (m - 1) 0)=true):Dsc lt p (m + 1):=by
  intro i j hij hj
  by_cases e:j < m
  · exact h i j hij e
  · have:j=m:=by omega
    subst this
    by_cases e2:i=j - 1
    · subst e2;exact c
    · exact O.tr _ _ _ (g.below hm) (g.below (by omega)) (g.below (by omega)) c (h i (j - 1) (by omega) (by omega))
variable (O:Ord lt n) (hc:∀ i j,i < n→j < n → ∀ C:Bool→Shared→Prop,C (lt i j) s→cmp i j C s)
include O hc
theorem km {p:Array Nat}(g:Gd n p){Q:Nat→Shared→Prop}(q:∀ m,1≤m→m≤n→Srt lt p m→(m < n→lt (p.getD m 0) (p.getD (m - 1) 0)=true)→Q m s) :
    ∀ (f m:Nat),1≤m→m + f=n→Srt lt p m→(kas_asc p f m).kasWp cmp Q s
  | 0,m,h1,e,h=>q m h1 (by omega) h fun z=>by omega
  | f + 1,m,h1,e,h=>by
    refine hc _ _ (g.below (by omega)) (g.below (by omega)) _ ?_
    cases c:lt (p.getD m 0) (p.getD (m - 1) 0) with
    | true=>((try dsimp only);(try rw [if_pos rfl]));exact q m h1 (by omega) h fun _=>c
    | false =>
      ((try dsimp only);(try rw [if_neg Bool.false_ne_true]))
      have c':=O.tot _ _ (g.below (by omega)) (g.below (by omega)) (g.ne (i:=m) (j:=m - 1) (by omega) (by omega) (by omega)) c
      exact km g q f (m + 1) (by omega) (by omega) (h.next O g h1 (by omega) c')
theorem mW {p:Array Nat}(g:Gd n p){Q:Array Nat × Nat × Nat→Shared→Prop}(q:∀ m,1≤m→m≤n→Dsc lt p m→Q (p,m,0) s) :
    ∀ (f m:Nat),1≤m→m + f=n→Dsc lt p m→(kas_desc f p m 0).kasWp cmp Q s
  | 0,m,h1,e,h=>q m h1 (by omega) h
  | f + 1,m,h1,e,h=>by
    refine hc _ _ (g.below (by omega)) (g.below (by omega)) _ ?_
    cases c:lt (p.getD m 0) (p.getD (m - 1) 0) with
    | true =>
      ((try dsimp only);(try rw [if_pos rfl]));(try rw [if_neg (by omega)])
      exact mW g q f (m + 1) (by omega) (by omega) (h.next O g h1 (by omega) c)
    | false =>
      ((try dsimp only);(try rw [if_neg Bool.false_ne_true]))
      have c':=O.tot _ _ (g.below (by omega)) (g.below (by omega)) (g.ne (i:=m) (j:=m - 1) (by omega) (by omega) (by omega)) c
      refine hc _ _ (g.below (by omega)) (g.below (by omega)) _ ?_
      rw [c'];((try dsimp only);(try rw [if_pos rfl]))
      exact q m h1 (by omega) h
omit hc in
theorem HH {p:Array Nat}(g:Gd n p){m:Nat}(hm:m≤n)(h:Dsc lt p m):Gd n (kas_rev p 0 m)∧Srt lt (kas_rev p 0 m) m:=by
  have at':∀ k,k < m→(kas_rev p 0 m).getD k 0=p.getD (m - 1 - k) 0:=fun k hk=>by
    have e:=getElem?_mirror_all (xs:=p) (i:=0) (j:=m) (by rw [g.sz];exact hm) k
    rw [if_pos ⟨Nat.zero_le _,hk⟩] at e
    unfold kas_rev
    rw [Array.getD_eq_getD_getElem?,Array.getD_eq_getD_getElem?,e,Nat.zero_add]
  refine⟨⟨by unfold kas_rev;rw [mirror_size,g.sz],(mirror_perm _ _ _ _).trans g.pm⟩,fun i j hij hj => ?_⟩
  rw [at' i (by omega),at' j hj]
  exact h _ _ (by omega) (by omega)
theorem uv (h2:2≤n){Q:Nat × Array Nat→Shared→Prop}(q:∀ m p,Gd n p→1≤m→m≤n→Srt lt p m→Q (m,p) s):(kas_count n (List.toArray (List.range n))).kasWp cmp Q s:=by
  unfold kas_count
  rw [KasT.kasWp_bind]
  refine km O hc ge (fun m h1 hm hs hd => ?_) (n - 1) 1 (Nat.le_refl _) (by omega) (fun i j hij hj=>by omega)
  by_cases e:m=n
  · subst e
    rw [if_pos (by simp)]
    exact q m _ ge h1 (Nat.le_refl _) hs
  · rw [if_neg (by simpa using e)]
    by_cases e1:m > 1
    · rw [if_pos e1]
      refine hc _ _ (ge.below (by omega)) (ge.below (by omega)) _ ?_
      have:=hs 0 (m - 1) (by omega) (by omega)
      rw [this];((try dsimp only);(try rw [if_pos rfl]))
      exact q m _ ge h1 hm hs
    · rw [if_neg e1]
      have:m=1:=by omega
      subst this
      have c:=hd (by omega)
      unfold kas_descPart
      rw [KasT.kasWp_bind]
      refine mW O hc ge (fun m h1 hm hs => ?_) (n - 2) 2 (by omega) (by omega) (fun i j hij hj => ?_)
      · rw [if_neg (by simp)]
        unfold kas_tail3
        rw [KasT.kasWp_bind]
        obtain⟨g',s'⟩:=HH O ge hm hs
        exact km O hc g' (fun m' h1' hm' hs' _=>q m' _ g' h1' hm' hs') (n - m) m h1 (by omega) s'
      · have hi:i=0:=by omega
        have hj:j=1:=by omega
        subst hi hj
        exact c
theorem iA {p:Array Nat}(g:Gd n p){k:Nat}(hk:k < n)(hs:Srt lt p k){Q:Nat→Shared→Prop}(q:∀ l,l≤k→(∀ i,i < l→lt (p.getD i 0) (p.getD k 0)=true)→(∀ i,l≤i→i < k→lt (p.getD k 0) (p.getD i 0)=true)→Q l s) :
    ∀ (f l r:Nat),r - l≤f→l≤r→r≤k→(∀ i,i < l→lt (p.getD i 0) (p.getD k 0)=true)→(∀ i,r≤i→i < k→lt (p.getD k 0) (p.getD i 0)=true)→(kas_place p k f l r).kasWp cmp Q s
  | 0,l,r,hf,hl,hr,a,b=>q l (Nat.le_trans hl hr) a fun i h1 h2=>b i (Nat.le_trans (Nat.le_of_sub_eq_zero (Nat.le_zero.mp hf)) h1) h2
  | f + 1,l,r,hf,hl,hr,a,b=>by
    unfold kas_place
    by_cases e:l ≥ r
    · rw [if_pos e]
      exact q l (Nat.le_trans hl hr) a fun i h1 h2=>b i (Nat.le_trans e h1) h2
    · rw [if_neg e]
      have lr:l < r:=Nat.not_le.mp e
      have hh:=HG lr
      generalize (l + r) / 2=M at hh
      have hm:M < k:=Nat.lt_of_lt_of_le hh.2 hr
      have hMn:M < n:=Nat.lt_trans hm hk
      refine hc _ _ (g.below hk) (g.below hMn) _ ?_
      cases c:lt (p.getD k 0) (p.getD M 0) with
      | true =>
        ((try dsimp only);(try rw [if_pos rfl]))
        refine iA g hk hs q f l M (Nat.le_of_lt_succ (Nat.lt_of_lt_of_le (Nat.sub_lt_sub_right hh.1 hh.2) hf)) hh.1 (Nat.le_of_lt hm) a fun i h1 h2 => ?_
        by_cases z:i=M
        · subst z;exact c
        · exact O.tr _ _ _ (g.below hk) (g.below hMn) (g.below (Nat.lt_trans h2 hk)) c (hs _ i (Nat.lt_of_le_of_ne h1 (Ne.symm z)) h2)
      | false =>
        ((try dsimp only);(try rw [if_neg Bool.false_ne_true]))
        have c':=O.tot _ _ (g.below hk) (g.below hMn) (g.ne (i:=k) (j:=M) hk hMn (Nat.ne_of_gt hm)) c
        refine iA g hk hs q f (M + 1) r (Nat.le_of_lt_succ (Nat.lt_of_lt_of_le (Nat.sub_lt_sub_left lr (Nat.lt_succ_of_le hh.1)) hf)) hh.2 hr (fun i h1 => ?_) b
        by_cases z:i=M
        · subst z;exact c'
        · have hi:i < M:=Nat.lt_of_le_of_ne (Nat.le_of_lt_succ h1) z
          exact O.tr _ _ _ (g.below (Nat.lt_trans hi hMn)) (g.below hMn) (g.below hk) (hs i _ hi hm) c'
theorem oA {Q:Array Nat→Shared→Prop}(q:∀ p,Gd n p→Srt lt p n→Q p s):∀ (f:Nat) (p:Array Nat) (k:Nat),Gd n p→k + f=n→Srt lt p k→(kas_bin f p k).kasWp cmp Q s
  | 0,p,k,g,e,h=>by
    have:k=n:=e
    subst this
    exact q p g h
  | f + 1,p,k,g,e,h=>by
    unfold kas_bin
    rw [KasT.kasWp_bind]
    have hk:k < n:=e ▸ Nat.lt_add_of_pos_right (Nat.succ_pos f)
    refine iA O hc g hk h (fun l hl a b => ?_) k 0 k (Nat.le_refl _) (Nat.zero_le _) (Nat.le_refl _) (fun i z=>absurd z (Nat.not_lt_zero _)) (fun i z z'=>absurd z' (Nat.not_lt.mpr z))
    have hks:k < p.size:=by rw [g.sz];exact hk
    have at':∀ i,(bubble p k (k - l)).getD i 0=if i=l then p.getD k 0 else if l < i∧i≤k then p.getD (i - 1) 0 else p.getD i 0:=fun i=>by
      have:=getElem?_bubble hks (k - l) (Nat.sub_le _ _) i
      rw [Nat.sub_sub_self hl] at this
      simp only [Array.getD_eq_getD_getElem?]
      rw [this]
      by_cases c1:i=l
      · rw [if_pos c1,if_pos c1]
      · rw [if_neg c1,if_neg c1]
        by_cases c2:l < i∧i≤k
        · rw [if_pos c2,if_pos c2]
        · rw [if_neg c2,if_neg c2]
    refine oA q f _ (k + 1) ⟨by rw [bubble_size,g.sz],(bubble_perm _ _ _).trans g.pm⟩ (by rw [Nat.add_right_comm];exact e) fun i j hij hj => ?_
    have jk:j≤k:=Nat.le_of_lt_succ hj
    have j1:j - 1 < k:=Nat.sub_one_lt_of_le (Nat.zero_lt_of_lt hij) jk
    rw [at' i,at' j]
    by_cases c1:i=l
    · have lj:l < j:=c1 ▸ hij
      rw [if_pos c1,if_neg (Nat.ne_of_gt lj),if_pos ⟨lj,jk⟩]
      exact b _ (Nat.le_sub_one_of_lt lj) j1
    · rw [if_neg c1]
      by_cases c2:l < i∧i≤k
      · have lj:l < j:=Nat.lt_trans c2.1 hij
        rw [if_pos c2,if_neg (Nat.ne_of_gt lj),if_pos ⟨lj,jk⟩]
        exact h _ _ (Nat.sub_lt_sub_right (Nat.zero_lt_of_lt c2.1) hij) j1
      · rw [if_neg c2]
        have il:i < l:=Nat.lt_of_le_of_ne (Nat.not_lt.mp fun z=>c2 ⟨z,Nat.le_trans (Nat.le_of_lt hij) jk⟩) c1
        by_cases c3:j=l
        · rw [if_pos c3];exact a _ il
        · rw [if_neg c3]
          by_cases c4:l < j∧j≤k
          · rw [if_pos c4]
            exact h _ _ (Nat.lt_of_lt_of_le il (Nat.le_sub_one_of_lt c4.1)) j1
          · rw [if_neg c4]
            have jl:j < l:=Nat.lt_of_le_of_ne (Nat.not_lt.mp fun z=>c4 ⟨z,jk⟩) c3
            exact h _ _ hij (Nat.lt_of_lt_of_le jl hl)
theorem wM (h2:2≤n){Q:Array Nat→Shared→Prop}(q:∀ p,Gd n p→Srt lt p n→Q p s):(kas_sort n).kasWp cmp Q s:=by
  unfold kas_sort
  rw [KasT.kasWp_bind]
  refine uv O hc h2 fun m p g h1 hm hs => ?_
  by_cases e:m < n
  · rw [if_pos e]
    have:max m 1=m:=by omega
    show KasT.kasWp cmp (kas_bin (n - max m 1) p (max m 1)) Q s
    rw [this]
    exact oA O hc q (n - m) p m g (by omega) hs
  · rw [if_neg e]
    have:m=n:=by omega
    subst this
    exact q p g hs
end
end Fm
set_option linter.all false
namespace Fm
def uw (x:List Int):List (List Int)→List (List Int)
  | []=>[x]
  | y :: r=>if bN x y=true then x :: y :: r else y :: uw x r
def cH:List (List Int)→List (List Int)
  | []=>[]
  | x :: r=>uw x (cH r)
def ux (r:List Int):D:=.tup (r.map .int)
theorem kY:∀ a,bN a a=false
  | []=>rfl
  | x :: a=>by simp [bN,kY a]
theorem gC:∀ {a b c},bN a b=true→bN b c=true→bN a c=true
  | [],[],_,h,_=>by simp [bN] at h
  | [],_ :: _,[],_,h=>by simp [bN] at h
  | [],_ :: _,_ :: _,_,_=>rfl
  | _ :: _,[],_,h,_=>by simp [bN] at h
  | _ :: _,_ :: _,[],_,h=>by simp [bN] at h
  | x :: a,y :: b,z :: c,h,h'=>by
    simp only [bN] at h h' ⊢
    by_cases e:x=y
    · subst e
      rw [if_pos rfl] at h
      by_cases e2:x=z
      · subst e2
        rw [if_pos rfl] at h' ⊢
        exact gC h h'
      · rw [if_neg e2] at h' ⊢;exact h'
    · rw [if_neg e] at h
      by_cases e2:y=z
      · subst e2
        rw [if_neg e];exact h
      · rw [if_neg e2] at h'
        simp at h h'
        rw [if_neg (by omega)]
        simp;omega
theorem mf:∀ {a b},a≠b→bN a b=false→bN b a=true
  | [],[],h,_=>absurd rfl h
  | [],_ :: _,_,h=>by simp [bN] at h
  | _ :: _,[],_,_=>rfl
  | x :: a,y :: b,h,h'=>by
    simp only [bN] at h' ⊢
    by_cases e:x=y
    · subst e
      rw [if_pos rfl] at h' ⊢
      exact mf (fun z=>h (by rw [z])) h'
    · rw [if_neg e] at h'
      rw [if_neg (Ne.symm e)]
      simp at h' ⊢;omega
theorem mX {a b:List Int}(h:bN a b=true):bN b a=false:=by
  cases c:bN b a with
  | false=>rfl
  | true=>have:=gC h c;rw [kY] at this;cases this
theorem mh (x:List Int):∀ r,(uw x r).Perm (x :: r)
  | []=>.refl _
  | y :: r=>by
    simp only [uw]
    split
    · exact .refl _
    · exact ((mh x r).cons y).trans (.swap x y r)
theorem gP:∀ r,(cH r).Perm r
  | []=>.refl _
  | x :: r=>(mh x _).trans ((gP r).cons x)
theorem oC {x:List Int}:∀ {r:List (List Int)},x∉r→r.Pairwise (fun a b=>bN a b=true)→(uw x r).Pairwise (fun a b=>bN a b=true)
  | [],_,_=>by simp [uw]
  | y :: r,hx,h=>by
    simp only [uw]
    have hy : ¬ x=y:=fun z=>hx (by simp [z])
    have hr:x∉r:=fun z=>hx (by simp [z])
    obtain⟨h1,h2⟩:=List.pairwise_cons.mp h
    split
    · rename_i c
      refine List.pairwise_cons.mpr ⟨fun b hb => ?_,h⟩
      rcases List.mem_cons.mp hb with rfl|hb
      · exact c
      · exact gC c (h1 b hb)
    · rename_i c
      have c':=mf hy (by simpa using c)
      refine List.pairwise_cons.mpr ⟨fun b hb => ?_,oC hr h2⟩
      rcases List.mem_cons.mp ((mh x r).mem_iff.mp hb) with rfl|hb
      · exact c'
      · exact h1 b hb
theorem jm:∀ {r:List (List Int)},r.Nodup→(cH r).Pairwise (fun a b=>bN a b=true)
  | [],_=>.nil
  | x :: r,h=>by
    obtain⟨h1,h2⟩:=List.nodup_cons.mp h
    exact oC (fun z=>h1 ((gP r).mem_iff.mp z)) (jm h2)
theorem BH {a b:List (List Int)}(p:a.Perm b)(ha:a.Pairwise (fun a b=>bN a b=true))(hb:b.Pairwise (fun a b=>bN a b=true)):a=b :=
  List.Perm.eq_of_pairwise (fun x y _ _ h h'=>by have:=mX h;rw [h'] at this;cases this) ha hb p
end Fm
set_option Elab.async false
set_option linter.all false
set_option maxRecDepth 100000
namespace Fm
open PySem PySem.Spec L2 PySem.W PyProof.Rows
section
variable {X:Cx} {pos p:Pos}
theorem cD.rds {K:PySem.W.Frag}{ρ:List Addr}{H:Hp}:∀ {vs:List V} {rs:List (List Int)},cD H vs rs→RDs K ρ H (rs.map ux) vs
  | _,_,.nil=>RDs.nil
  | _,_,.cons (a:=a) (r:=r) h t=>by
    refine RDs.cons ?_ (cD.rds t)
    unfold ux
    simp only [RD]
    refine⟨a,_,rfl,h,?_⟩
    clear h
    induction r with
    | nil=>exact RDs.nil
    | cons x r ih=>exact RDs.cons (by simp only [RD]) ih
theorem cD.pick {H:Hp}{vs:List V}{rs:List (List Int)}(h:cD H vs rs):∀ (l:List Nat),(∀ i∈l,i < vs.length)→cD H (l.map fun i=>vs.getD i .non) (l.map fun i=>rs.getD i [])
  | [],_=>.nil
  | i :: l,hl=>by
    have hi:i < vs.length:=hl i (by simp)
    obtain⟨a,e,ha⟩:=h.get (i:=i) (v:=vs[i]) (by simp [hi])
    have t:=cD.pick h l fun j hj=>hl j (by simp [hj])
    have:vs.getD i .non=.ref a:=by simp [List.getD,hi,e]
    simp only [List.map_cons,this]
    exact .cons ha t
theorem aI.pick {vs:List V}{us:List Value}(h:aI vs us):∀ (l:List Nat),(∀ i∈l,i < vs.length)→aI (l.map fun i=>vs.getD i .non) (l.map fun i=>us.getD i Value.none)
  | [],_=>.nil
  | i :: l,hl=>by
    have hi:i < vs.length:=hl i (by simp)
    obtain⟨u,e,ru⟩:=h.get (i:=i) (x:=vs[i]) (by simp [hi])
    have t:=aI.pick h l fun j hj=>hl j (by simp [hj])
    simp only [List.map_cons]
    refine .cons ?_ t
    simp [List.getD,hi,e]
    exact ru
end
end Fm
set_option Elab.async false
set_option linter.all false
set_option maxRecDepth 100000
namespace Fm
open PySem PySem.Spec L2 PySem.W PyProof.Rows
section
variable {X:Cx} {pos p:Pos}
theorem RDs.rep {K:PySem.W.Frag}{ρ:List Addr}{H:Hp}{l:List D}{vs:List V}(r:RDs K ρ H l vs):∀ k,RDs K ρ H (List.replicate k l).flatten (List.replicate k vs).flatten
  | 0=>RDs.nil
  | k + 1=>by
    rw [List.replicate_succ,List.replicate_succ,List.flatten_cons,List.flatten_cons]
    exact RDs.append r (RDs.rep r k)
end
end Fm
set_option Elab.async false
set_option linter.all false
set_option maxRecDepth 100000
namespace L2
open PySem PySem.Spec PyProof.Rows
section
variable {κ : Type} [DecidableEq κ]
def jd (kvs:List (κ × V)) (k : κ):Option V:=(kvs.find? fun kv=>decide (kv.1=k)).map (·.2)
def kn (kvs:List (κ × V)) (k : κ) (v:V):List (κ × V) :=
  if (kvs.any fun kv=>decide (kv.1=k))=true then kvs.map (fun kv=>if kv.1=k then (kv.1,v) else kv) else kvs++[(k,v)]
theorem oD {p : κ × V}{r:List (κ × V)}{k : κ}(e:p.1=k):jd (p :: r) k=some p.2:=by simp [jd,List.find?_cons,e]
theorem kZ {p : κ × V}{r:List (κ × V)}{k : κ}(e : ¬ p.1=k):jd (p :: r) k=jd r k:=by simp [jd,List.find?_cons,e]
theorem wN (k : κ):∀ kvs:List (κ × V),(kvs.any fun kv=>decide (kv.1=k))=(jd kvs k).isSome
  | []=>rfl
  | p :: r=>by
    rw [List.any_cons]
    by_cases e:p.1=k
    · simp only [oD e,decide_eq_true e,Bool.true_or,Option.isSome_some]
    · rw [kZ e,decide_eq_false e,Bool.false_or];exact wN k r
theorem mY (kvs:List (κ × V))(k : κ)(v:V):(kn kvs k v).length≤kvs.length + 1:=by
  unfold kn
  split
  · rw [List.length_map];omega
  · rw [List.length_append,List.length_cons,List.length_nil];omega
theorem pW.isSome_eq {o:Option V}{u:Option Value}(r:pW o u):o.isSome=u.isSome:=by
  cases o with
  | none=>cases u with
    | none=>rfl
    | some _=>exact (show False from r).elim
  | some _=>cases u with
    | none=>exact (show False from r).elim
    | some _=>rfl
theorem KV.val {kvs:List (κ × V)}{vs:List (κ × Value)}(r:KV kvs vs)(k : κ):pW (jd kvs k) (valueAt vs k):=by
  unfold KV at r
  induction r with
  | nil=>exact True.intro
  | @cons p q ps qs h t ih =>
    obtain⟨h1,h2⟩:=h
    by_cases e:p.1=k
    · have e':q.1=k:=h1.symm.trans e
      have b:valueAt (q :: qs) k=some q.2:=by simp [valueAt,List.find?_cons,e']
      rw [oD e,b];exact h2
    · have e' : ¬ q.1=k:=fun z=>e (h1.trans z)
      have b:valueAt (q :: qs) k=valueAt qs k:=by simp [valueAt,List.find?_cons,e']
      rw [kZ e,b];exact ih
theorem KV.any {kvs:List (κ × V)}{vs:List (κ × Value)}(r:KV kvs vs)(k : κ):(kvs.any fun kv=>decide (kv.1=k))=vs.any fun kv=>decide (kv.1=k):=by
  unfold KV at r
  induction r with
  | nil=>rfl
  | cons h t ih=>rw [List.any_cons,List.any_cons,ih,h.1]
theorem KV.repl {kvs:List (κ × V)}{vs:List (κ × Value)}(r:KV kvs vs)(k : κ){y:V}{u:Value}(ry:bj y u) :
    KV (kvs.map fun kv=>if kv.1=k then (kv.1,y) else kv) (vs.map fun kv=>if kv.1=k then (kv.1,u) else kv):=by
  unfold KV at r ⊢
  induction r with
  | nil=>exact .nil
  | @cons p q ps qs h t ih =>
    rw [List.map_cons,List.map_cons]
    refine .cons ?_ ih
    obtain⟨h1,h2⟩:=h
    by_cases e:p.1=k
    · rw [if_pos e,if_pos (h1.symm.trans e)];exact⟨h1,ry⟩
    · rw [if_neg e,if_neg (fun z=>e (h1.trans z))];exact⟨h1,h2⟩
theorem KV.put {kvs:List (κ × V)}{vs:List (κ × Value)}(r:KV kvs vs)(k : κ){y:V}{u:Value}(ry:bj y u):KV (kn kvs k y) (stored vs k u):=by
  unfold kn stored
  rw [r.any k]
  by_cases e:(vs.any fun kv=>decide (kv.1=k))=true
  · rw [if_pos e,if_pos e];exact r.repl k ry
  · rw [if_neg e,if_neg e];exact Paired.snoc r ⟨rfl,ry⟩
theorem KV.keys {kvs:List (κ × V)}{vs:List (κ × Value)}(r:KV kvs vs):kvs.map (·.1)=vs.map (·.1):=by
  unfold KV at r
  induction r with
  | nil=>rfl
  | cons h t ih=>rw [List.map_cons,List.map_cons,ih,h.1]
theorem KV.length {kvs:List (κ × V)}{vs:List (κ × Value)}(r:KV kvs vs):kvs.length=vs.length:=Paired.length r
end
theorem AO {P:Program}{w:World}{k:Key}{u:Value}(r:bj (kV k) u):(bZ P w).is k u=true:=by
  cases k with
  | inl i=>obtain⟨t,e⟩:=(show ∃ t,u=Value.int i t from r);subst e;exact wx P w i t
  | inr x=>obtain⟨t,e⟩:=(show ∃ t,u=Value.str x t from r);subst e;exact wy P w x t
theorem sW {P:Program}{w:World}:∀ {ks:List Key} {us:List Value},aI (ks.map kV) us→ItemsAre (bZ P w) ks us
  | [],_,r=>by rw [List.map_nil] at r;cases r;exact .nil
  | k :: ks,_,r=>by
    rw [List.map_cons] at r
    cases r with
    | cons h t=>exact .cons (AO h) (sW t)
abbrev KT (H:Hp):List (List Key × V)→List (List Key × Addr × Value)→Prop:=Paired fun p q=>p.1=q.1∧H q.2.1=some (.tup (p.1.map kV))∧bj p.2 q.2.2
theorem KT.val {H:Hp}{kvs:List (List Key × V)}{xs:List (List Key × Addr × Value)}(r:KT H kvs xs)(k:List Key):pW (jd kvs k) ((atKey xs k).map (·.2)):=by
  induction r with
  | nil=>exact True.intro
  | @cons p q ps qs h t ih =>
    obtain⟨h1,_,h2⟩:=h
    by_cases e:p.1=k
    · have e':q.1=k:=h1.symm.trans e
      have b:atKey (q :: qs) k=some q.2:=by simp [atKey,List.find?_cons,e']
      rw [oD e,b];exact h2
    · have e' : ¬ q.1=k:=fun z=>e (h1.trans z)
      have b:atKey (q :: qs) k=atKey qs k:=by simp [atKey,List.find?_cons,e']
      rw [kZ e,b];exact ih
theorem KT.repl {H:Hp}{kvs:List (List Key × V)}{xs:List (List Key × Addr × Value)}(r:KT H kvs xs)(k:List Key){y:V}{u:Value}(ry:bj y u) :
    KT H (kvs.map fun kv=>if kv.1=k then (kv.1,y) else kv) (xs.map (putAt k u)):=by
  induction r with
  | nil=>exact .nil
  | @cons p q ps qs h t ih =>
    rw [List.map_cons,List.map_cons]
    refine .cons ?_ ih
    obtain⟨h1,h2,h3⟩:=h
    unfold putAt
    by_cases e:p.1=k
    · rw [if_pos e,if_pos (h1.symm.trans e)];exact⟨h1,h2,ry⟩
    · rw [if_neg e,if_neg (fun z=>e (h1.trans z))];exact⟨h1,h2,h3⟩
theorem KT.put {H:Hp}{kvs:List (List Key × V)}{xs:List (List Key × Addr × Value)}(r:KT H kvs xs)(k:List Key){b:Addr}{y:V}{u:Value}(hb:H b=some (.tup (k.map kV)))(ry:bj y u) :
    KT H (kn kvs k y) (storedH xs k b u):=by
  have e:(kvs.any fun kv=>decide (kv.1=k))=(atKey xs k).isSome:=by
    rw [wN,(r.val k).isSome_eq,Option.isSome_map]
  unfold kn storedH
  rw [e]
  by_cases q:(atKey xs k).isSome=true
  · rw [if_pos q,if_pos q];exact r.repl k ry
  · rw [if_neg q,if_neg q];exact Paired.snoc r ⟨rfl,hb,ry⟩
theorem KT.keeps {H H':Hp}{kvs:List (List Key × V)}{xs:List (List Key × Addr × Value)}(r:KT H kvs xs)(ht:∀ b ys,H b=some (.tup ys)→H' b=some (.tup ys)):KT H' kvs xs :=
  Paired.mapP r fun _ _ z=>⟨z.1,ht _ _ z.2.1,z.2.2⟩
section
variable {P:Program} {w:World} {H:Hp} {h:Heap} {a:Addr}
theorem GB {u:HO}(ok:HOk P w H h)(e:Rd H a u):dl P w H h a u:=e.ok ok
theorem wO {kvs:List (Key × V)}(ok:HOk P w H h)(e:Rd H a (.dK kvs)):kvs.length≤sizeLine∧(a == sysModules)=false ∧ ∃ vs,KV kvs vs∧h.DictOf (bZ P w) a vs :=
  show dl P w H h a (.dK kvs) from GB ok e
theorem AQ {kvs:List (Key × V)}(ok:HOk P w H h)(e:H a=some (.dK kvs)):kvs.length≤sizeLine∧(a == sysModules)=false ∧ ∃ vs,KV kvs vs∧h.DictOf (bZ P w) a vs:=wO ok (.inl e)
theorem uy {ks:List Key}(ok:HOk P w H h)(e:H a=some (.tup (ks.map kV))):(tupleKind (bZ P w)).is h ks a:=by
  obtain⟨_,its,r,o,h1,h2,n,h3⟩:=(show dl P w H h a (.tup (ks.map kV)) from ok a _ e)
  exact⟨o,its.toArray,n,h1,h2,h3,by simpa using sW r⟩
theorem wP {kvs:List (List Key × V)}(ok:HOk P w H h)(e:Rd H a (.dT kvs)):kvs.length≤sizeLine∧(a == sysModules)=false ∧
    ∃ xs,KT H kvs xs∧h.DictOfH (tupleKind (bZ P w)) a xs:=by
  obtain⟨z,y,xs,r,o,es,ep,h1,h2,h3,h4,h5⟩:=(show dl P w H h a (.dT kvs) from GB ok e)
  refine⟨z,y,xs,r,o,es,ep,h1,h2,h3,h4,fun x hx => ?_,h5⟩
  have all:∀ {l:List (List Key × V)} {m:List (List Key × Addr × Value)},KT H l m → ∀ x∈m,(tupleKind (bZ P w)).is h x.1 x.2.1:=by
    intro l m q
    induction q with
    | nil=>intro x hx;exact nomatch hx
    | @cons p q ps qs hq t ih =>
      intro x hx
      rcases List.mem_cons.mp hx with e|hx
      · subst e
        exact uy ok (by rw [← hq.1];exact hq.2.1)
      · exact ih x hx
  exact all r x hx
theorem Jt {kvs:List (List Key × V)}(ok:HOk P w H h)(e:H a=some (.dT kvs)):kvs.length≤sizeLine∧(a == sysModules)=false ∧
    ∃ xs,KT H kvs xs∧h.DictOfH (tupleKind (bZ P w)) a xs:=wP ok (.inl e)
end
def uz (H:Hp) (a:Addr) (y:V) (r:Option V):Prop :=
  (∃ kvs k,Rd H a (.dK kvs)∧y=kV k∧r=jd kvs k) ∨ ∃ kvs k b,Rd H a (.dT kvs)∧y=.ref b∧H b=some (.tup (k.map kV))∧r=jd kvs k
def DB (H:Hp) (a:Addr) (y v:V) (H':Hp):Prop :=
  (∃ kvs k,H a=some (.dK kvs)∧y=kV k∧kvs.length < sizeLine∧H'=upd H a (.dK (kn kvs k v))) ∨
  ∃ kvs k b,H a=some (.dT kvs)∧y=.ref b∧H b=some (.tup (k.map kV))∧kvs.length < sizeLine∧H'=upd H a (.dT (kn kvs k v))
theorem uz.k {H:Hp}{a:Addr}{kvs:List (Key × V)}{k:Key}(e:H a=some (.dK kvs)):uz H a (kV k) (jd kvs k):=.inl ⟨kvs,k,.inl e,rfl,rfl⟩
theorem DB.k {H:Hp}{a:Addr}{kvs:List (Key × V)}{k:Key}{v:V}(e:H a=some (.dK kvs))(hl:kvs.length < sizeLine):DB H a (kV k) v (upd H a (.dK (kn kvs k v))):=.inl ⟨kvs,k,e,rfl,hl,rfl⟩
section
variable {X:Cx} {pins:List (Addr × Obj)} {σ:St} {H:Hp} {s:Shared} {a:Addr} {y v:V} {u r:Value} {o:Option V} {A:Around} {E:Value→Shared→Prop}
theorem Inv.big (I:Inv X pins σ H s):sysModules < s.heap.objs.size:=by
  have h:mainGlobals < s.heap.objs.size:=(I.mod.glob.keeps I.bk).lt
  exact Nat.lt_trans (by decide) h
theorem BI {Q:Value→Shared→Prop}(hu:A.units + 1 < cLine)(I:Inv X pins σ H s)(g:uz H a y (some v))(ry:bj y u)(h:∀ w' s',Inv X pins σ H s'→bj v w'→Q w' s') :
    wpAny (model X.prog X.w) A (getItem (.ref a) u) Q E s:=by
  rcases g with ⟨kvs,k,e,ey,l⟩|⟨kvs,k,b,e,ey,eb,l⟩
  · subst ey
    obtain⟨z,hd,vs,rel,dd⟩:=wO I.hok e
    obtain⟨w',hw,rw'⟩:=pW.some_of (v:=v) (o:=valueAt vs k) (by rw [l];exact rel.val k)
    exact wpAny_getItem_of (AO ry) dd.mapOf hw (h w' _ (I.tok _) rw')
  · subst ey
    cases (show u=Value.ref b from ry)
    obtain⟨z,hd,xs,rel,dd⟩:=wP I.hok e
    obtain⟨w',hw,rw'⟩:=pW.some_of (v:=v) (o:=(atKey xs k).map (·.2)) (by rw [l];exact rel.val k)
    obtain⟨p,hp,hp2⟩:=Option.map_eq_some_iff.mp hw
    refine wpAny_getItem_heap (tupleKind_room_in1 hu) (uy I.hok eb) dd hp ?_
    rw [hp2]
    exact h w' _ (I.tok _) rw'
theorem Ks {Q:Value→Shared→Prop}(hu:A.units + 1 < cLine)(I:Inv X pins σ H s)(g:uz H a y o)(ry:bj y u)(h:∀ s',Inv X pins σ H s'→Q (.bool o.isSome) s') :
    wpAny (model X.prog X.w) A (compareOp .In u (.ref a)) Q E s:=by
  rcases g with ⟨kvs,k,e,ey,l⟩|⟨kvs,k,b,e,ey,eb,l⟩
  · subst ey
    obtain⟨z,hd,vs,rel,dd⟩:=wO I.hok e
    refine wpAny_in_of (AO ry) hd dd.mapOf ?_
    rw [← (rel.val k).isSome_eq,← l]
    exact h _ (I.tok _)
  · subst ey
    cases (show u=Value.ref b from ry)
    obtain⟨z,hd,xs,rel,dd⟩:=wP I.hok e
    refine wpAny_in_heap (tupleKind_room_in1 hu) (uy I.hok eb) hd dd ?_
    have q:=(rel.val k).isSome_eq
    rw [Option.isSome_map] at q
    rw [← q,← l]
    exact h _ (I.tok _)
theorem AR {h':Heap}{t':Nat}{ob:HO}(I:Inv X pins σ H s)(mu:Mut (H a))(hs:Heap.SameBut a s.heap h')(he:∃ q,h'.get? a=some q)(new:dl X.prog X.w (upd H a ob) h' a ob) :
    Inv X pins σ (upd H a ob) { s with heap:=h',toks:=t' } :=
  I.write (x:=a) (e:=a) mu (.inl rfl) (fun b q hb z=>(hs.2 b hb).trans z) he new
theorem HI {P:Program}{w:World}{H':Hp}{h':Heap}{kvs:List (Key × V)}{vs:List (Key × Value)}(z:kvs.length≤sizeLine)(hd:(a == sysModules)=false)(rel:KV kvs vs)(dd:h'.DictOf (bZ P w) a vs) :
    dl P w H' h' a (.dK kvs):=⟨z,hd,vs,rel,dd⟩
theorem BJ {H':Hp}{Q:Unit→Shared→Prop}(hu:A.units + 1 < cLine)(I:Inv X pins σ H s)(g:DB H a y v H')(ry:bj y u)(rv:bj v r)(h:∀ s',Inv X pins σ H' s'→Q () s') :
    wpAny (model X.prog X.w) A (setItem (.ref a) u r) Q E s:=by
  rcases g with ⟨kvs,k,e,ey,l,eH⟩|⟨kvs,k,b,e,ey,eb,l,eH⟩
  · subst ey eH
    obtain⟨z,hd,vs,rel,dd⟩:=AQ I.hok e
    have hz:vs.length≤sizeLine:=by rw [← rel.length];exact z
    have hl:(kn kvs k v).length≤sizeLine:=by have:=mY kvs k v;omega
    refine wpAny_setItem_pairs (hsz:=hz) (AO ry) dd fun h' dd' hs=>h _ ?_
    have he:∃ q,h'.get? a=some q:=let ⟨q,_,_,hq,_⟩:=dd';⟨q,hq⟩
    exact AR I (by rw [e];exact True.intro) hs he (HI hl hd (rel.put k rv) dd')
  · subst ey eH
    cases (show u=Value.ref b from ry)
    obtain⟨z,hd,xs,rel,dd⟩:=Jt I.hok e
    have hz:xs.length≤sizeLine:=by rw [← Paired.length rel];exact z
    have hl:(kn kvs k v).length≤sizeLine:=by have:=mY kvs k v;omega
    refine wpAny_setItem_heap (hsz:=hz) (tupleKind_room_in1 hu) (uy I.hok eb) dd fun h' dd' hs=>h _ ?_
    obtain⟨q,es,ep,hq,h2,h3,h4,_,h5⟩:=dd'
    refine AR I (by rw [e];exact True.intro) hs ⟨q,hq⟩ ⟨hl,hd,_,(rel.put k eb rv).keeps fun c ys ec => ?_,q,es,ep,hq,h2,h3,h4,h5⟩
    rw [ay (Gr ec e (fun z=>nomatch z))]
    exact ec
end
section
variable {X:Cx} {pins:List (Addr × Obj)} {σ:St} {H:Hp} {s:Shared} {a:Addr} {kvs:List (Key × V)} {k:Key} {u:Value} {A:Around} {E:Value→Shared→Prop}
end
def HJ (i:Expr):Prop:=∀ ov iv,subscripted i false ov iv=operate [ov,iv] (getItem ov iv)
theorem FH {prog:Program}{w:World}{A:Around}{E:Value→Shared→Prop}{s:Shared}{env:Env}{value slice:Expr}{pos:Pos}{T id:String}{Q:Value→Shared→Prop}
    (hl:typeLookup (.type T) "__getitem__" = pure (some (.builtin id))) (hs:HJ slice)
    (h:wpAny (model prog w) A (eval value env) (fun o s₁ => wpAny (model prog w) A (eval slice env) (fun i s₂ => s₂.TypeIs o T∧wpAny (model prog w) A (getItem o i) Q E s₂) E s₁) E s) :
    wpAny (model prog w) A (eval (.Subscript value slice pos) env) Q E s:=by
  refine Subscript_ (wpAny_mono h (fun o s₁ h₁ => wpAny_mono h₁ (fun i s₂ h₂ => ?_) fun _ _ x=>x) fun _ _ x=>x)
  obtain⟨hT,h₂⟩:=h₂
  unfold subscriptTail
  refine wpAny_bind ?_
  rw [getitemInPython_of_ne hT.not_modules]
  refine wpAny_bind (wpAny_specialOf hT hl ?_)
  have fin:wpAny (model prog w) A (subscripted slice false o i) (fun r s₃ => wpAny (model prog w) A (letTemporaryGo value o r >>= fun _=>pure r) Q E s₃) E s₂ := by
    rw [hs o i]
    exact wpAny_operating (wpAny_mono h₂ (fun r s₃ h₃ => wpAny_bind (wpAny_letTemporaryGo (wpAny_pure h₃))) fun _ _ x=>x)
  first
    | exact wpAny_pure (wpAny_bind fin)
    | exact wpAny_bind (wpAny_pure (wpAny_bind fin))
    | exact wpAny_bind fin
theorem wQ {X:Cx} {pins:List (Addr × Obj)} {σ:St} {H:Hp} {s:Shared} {a:Addr} {y:V} {o:Option V} (I:Inv X pins σ H s) (g:uz H a y o):s.TypeIs (.ref a) "dict" := by
  rcases g with ⟨kvs,k,e,_,_⟩|⟨kvs,k,b,e,_,_,_⟩
  · obtain⟨_,_,vs,_,dd⟩:=wO I.hok e
    exact dd.typeIs
  · obtain⟨_,_,xs,_,dd⟩:=wP I.hok e
    exact dd.typeIs
def Ju (td ty:TE):TE:=fun σ H Q=>td σ H fun x H1=>ty σ H1 fun y H2=>∃ a v,x=.ref a∧uz H2 a y (some v)∧Q v H2
section
variable {X:Cx} {o i e value:Expr} {pos pos' tpos:Pos} {td ty tv:TE}
theorem FI (hu:X.A.units + 1 < cLine)(ho:PE X o td)(hi:PE X i ty)(hs:HJ i):PE X (.Subscript o i pos) (Ju td ty):=by
  intro pins s σ H Q I h
  refine FH PySem.F.slot_dict_getitem.lookup hs (thn (ho pins s σ H _ I h) fun u s1 ⟨x,H1,I1,rx,q1⟩=>thn (hi pins s1 σ H1 _ I1 q1) fun iv s2 ⟨y,H2,I2,ry,a,v,ex,g,q2⟩ => ?_)
  subst ex
  obtain rfl:u=Value.ref a:=rx
  exact⟨wQ I2 g,BI hu I2 g ry fun w' s3 I3 rw'=>⟨v,H2,I3,rw',q2⟩⟩
end
theorem DC {P:Program} {w:World} {H:Hp} (h:Heap) (hb:sysModules < h.objs.size):dl P w H (h.push { cls:=.type "dict",data:=.dict #[] }) h.objs.size (.dK []) :=
  ⟨Nat.zero_le _,beq_eq_false_iff_ne.mpr (Ne.symm (Nat.ne_of_lt hb)),[],.nil,Heap.DictOf.new h⟩
def HK:TE:=fun _ H Q=>∀ p,H p=none→Q (.ref p) (upd H p (.dK []))
section
variable {X:Cx} {pos:Pos}
theorem DD:PE X (.Dict [] [] pos) HK:=fun pins s σ H Q I h =>
  wpAny_Dict_empty ⟨.ref s.heap.objs.size,_,I.laid (a:=s.heap.objs.size) (o:=.dK []) (t':=s.toks) (fun _ _ q=>Heap.get?_push_of_some _ q) (Nat.le_refl _) (DC s.heap I.big),rfl,h _ (I.hok.fresh (Nat.le_refl _))⟩
end
structure M1 (X:Cx) (o:Expr) (m:Str) (apos:Pos) (e:Expr) (cpos:Pos):Prop where
  base:attributeBase o m X.env (eval o X.env)=eval o X.env
  few:((backTo cpos (starEach [e] X.env)).all (fun x => !x.1) && (backToKw cpos (keywordEach [] X.env)).all (fun x=>x.1.isSome)
    && decide (([e] : List Expr).length + ([] : List Keyword).length + (if ([] : List Keyword).isEmpty then 0 else 1) < 30))=true
  line:(apos.endLine == cpos.line)=true
  trees:backTo cpos (starEach [e] X.env)=[(false,eval e X.env)]
structure M2 (X:Cx) (o:Expr) (m:Str) (apos:Pos) (e f:Expr) (cpos:Pos):Prop where
  base:attributeBase o m X.env (eval o X.env)=eval o X.env
  few:((backTo cpos (starEach [e,f] X.env)).all (fun x => !x.1) && (backToKw cpos (keywordEach [] X.env)).all (fun x=>x.1.isSome)
    && decide (([e,f] : List Expr).length + ([] : List Keyword).length + (if ([] : List Keyword).isEmpty then 0 else 1) < 30))=true
  line:(apos.endLine == cpos.line)=true
  trees:backTo cpos (starEach [e,f] X.env)=[(false,eval e X.env),(false,eval f X.env)]
def IsD (H:Hp) (a:Addr):Prop:=(∃ kvs,Rd H a (.dK kvs)) ∨ ∃ kvs,Rd H a (.dT kvs)
theorem HL {X:Cx}{pins:List (Addr × Obj)}{σ:St}{H:Hp}{s:Shared}{a:Addr}(I:Inv X pins σ H s)(d:IsD H a) :
    s.TypeIs (.ref a) "dict" ∧ (∀ b,Value.ref a=.ref b → ∃ ob,s.heap.get? b=some ob∧ob.dict=none)∧(a == sysModules)=false:=by
  rcases d with ⟨kvs,e⟩|⟨kvs,e⟩
  · obtain⟨_,hd,vs,_,dd⟩:=wO I.hok e
    refine⟨dd.typeIs,fun b q => ?_,hd⟩
    cases q
    obtain⟨ob,_,_,h1,h2,_⟩:=dd
    exact⟨ob,h1,h2.2.1⟩
  · obtain⟨_,hd,xs,_,dd⟩:=wP I.hok e
    refine⟨dd.typeIs,fun b q => ?_,hd⟩
    cases q
    obtain⟨ob,_,_,h1,h2,_⟩:=dd
    exact⟨ob,h1,h2.2.1⟩
section
variable {X:Cx} {pins:List (Addr × Obj)} {σ:St} {H:Hp} {s:Shared} {a:Addr} {y d:V} {u r:Value} {o:Option V} {A:Around} {E:Value→Shared→Prop}
end
section
variable {X:Cx} {o e f:Expr} {apos cpos:Pos} {td ty tx:TE}
end
section
variable {X:Cx} {pins:List (Addr × Obj)} {σ:St} {H:Hp} {s:Shared} {a:Addr} {kvs:List (Key × V)} {A:Around} {E:Value→Shared→Prop}
end
section
variable {X:Cx} {pins:List (Addr × Obj)} {σ:St} {H:Hp} {s:Shared} {a:Addr} {y:V} {u:Value} {A:Around} {E:Value→Shared→Prop}
end
end L2
set_option linter.all false
namespace Fm
@[simp] def mZ:EF:=fun _ h=>.ok (.ref h.length) (h++[.dct []])
def je (l:List (Int × D)) (k:Int):Option D:=(l.find? fun p=>decide (p.1=k)).map (·.2)
def wR (l:List (Int × D)) (k:Int) (v:D):List (Int × D):=if (l.any fun p=>decide (p.1=k))=true then l.map (fun p=>if p.1=k then (p.1,v) else p) else l++[(k,v)]
@[simp] def BK:O2:=fun x y h=>match x,y with
  | .int k,.ref n=>match h[n]? with|some (.dct l)=>.ok (.bl (je l k).isSome) h|_=>.bad
  | _,_=>.bad
@[simp] def gf (x i e:EF):SF:=fun σ h=>outE (e σ h) σ fun d h=>outE (x σ h) σ fun p h=>outE (i σ h) σ fun j h=>match p,j with
  | .ref n,.int k=>match h[n]? with
    | some (.dct l)=>if l.length < SZ then .nx σ (h.set n (.dct (wR l k d))) else .bad
    | _=>.bad
  | _,_=>.bad
def eG:List (Int × D)→Option (List (List Int))
  | []=>some []
  | (k,.int v) :: r=>(eG r).map fun l=>[k,v] :: l
  | _=>none
@[simp] def ko (a:EF):LF:=fun σ h=>(a σ h).bind fun x h=>match x with
  | .ref n=>match h[n]? with
    | some (.dct l)=>match eG l with
      | some r=>if r.length < 64∧r.Nodup then .ok ((cH r).map ux) h else .bad
      | none=>.bad
    | _=>.bad
  | _=>.bad
end Fm
set_option Elab.async false
set_option linter.all false
set_option maxRecDepth 100000
namespace Fm
open PySem PySem.Spec L2 PySem.W PyProof.Rows
section
variable {K:PySem.W.Frag} {ρ:List Addr} {H:Hp} {hd:Hd}
theorem RH.allocD (r:RH K ρ H hd){p:Addr}{l:List (Int × D)}(hp:RC K ρ H (.dct l) p)(hn:p ∉ ρ):RH K (ρ ++ [p]) H (hd++[.dct l]):=by
  have k:Kp ρ H (ρ ++ [p]) H:=⟨fun n a e=>by rw [List.getElem?_append_left (List.getElem?_eq_some_iff.mp e).1];exact e,fun _ _ h=>h,fun _ _ _ h=>h,fun _ _ h=>h⟩
  refine⟨by simp [r.len],?_,fun n c a h1 h2 => ?_⟩
  · rw [List.nodup_append]
    exact⟨r.nd,by simp,fun a ha b hb=>by simp at hb;subst hb;intro e;subst e;exact hn ha⟩
  · by_cases hlt:n < hd.length
    · rw [List.getElem?_append_left hlt] at h1
      rw [List.getElem?_append_left (by rw [r.len];exact hlt)] at h2
      exact (r.cel n c a h1 h2).mono k rfl
    · have e1:n=hd.length:=by
        have:=(List.getElem?_eq_some_iff.mp h1).1
        simp at this
        omega
      subst e1
      simp at h1
      subst h1
      rw [← r.len] at h2
      simp at h2
      subst h2
      obtain⟨kvs,q1,q2,q3⟩:=hp
      exact⟨kvs,q1,q2,q3.mono k⟩
theorem RH.writeD (r:RH K ρ H hd){n:Nat}{p:Addr}{l:List (Int × D)}{kvs:List (Key × V)}(hp : ρ[n]? = some p)(hn:n < hd.length)(h1:kvs.map (·.1)=l.map (fun p=>(Sum.inl p.1:Key)))(h2:RDs K ρ H (l.map (·.2)) (kvs.map (·.2))):RH K ρ (upd H p (.dK kvs)) (hd.set n (.dct l)):=by
  have k:Kp ρ H ρ (upd H p (.dK kvs)):=by
    have hm:=List.mem_of_getElem? hp
    refine⟨fun _ _ h=>h,fun a us e => ?_,fun a o u e => ?_,fun a φ e => ?_⟩
    · rw [ay (fun z=>r.noTup e (by rw [z];exact hm))];exact e
    · rw [ay (fun z=>r.noFrz e (by rw [z];exact hm))];exact e
    · rw [ay (fun z=>r.noExt e (by rw [z];exact hm))];exact e
  refine⟨by simp [r.len],r.nd,fun m c a q1 q2 => ?_⟩
  by_cases e:n=m
  · subst e
    rw [List.getElem?_set_self hn] at q1
    cases q1
    rw [hp] at q2
    cases q2
    exact⟨kvs,aO,h1,h2.mono k⟩
  · rw [List.getElem?_set_ne e] at q1
    have ne:a≠p:=fun z=>by
      subst z
      exact e (ou r.nd hp q2)
    exact (r.cel m c a q1 q2).mono k (ay ne)
theorem oE (k:Int):∀ {l:List (Int × D)} {kvs:List (Key × V)},kvs.map (·.1)=l.map (fun p=>(Sum.inl p.1:Key))→RDs K ρ H (l.map (·.2)) (kvs.map (·.2)) →
    (je l k=none∧jd kvs (Sum.inl k)=none) ∨ ∃ d v,je l k=some d∧jd kvs (Sum.inl k)=some v∧RD K ρ H d v
  | [],[],_,_=>.inl ⟨rfl,rfl⟩
  | [],_ :: _,h,_=>by simp at h
  | _ :: _,[],h,_=>by simp at h
  | (j,d) :: l,(kk,v) :: kvs,h1,h2=>by
    simp only [List.map_cons,List.cons.injEq] at h1
    simp only [List.map_cons,RDs] at h2
    obtain⟨v',r',e,q1,q2⟩:=h2
    cases e
    obtain⟨e1,e2⟩:=h1
    subst e1
    by_cases e:j=k
    · subst e
      exact .inr ⟨d,v,by simp [je],by simp [jd],q1⟩
    · have ih:=oE k e2 q2
      have a1:je ((j,d) :: l) k=je l k:=by simp [je,e]
      have a2:jd ((Sum.inl j,v) :: kvs) (Sum.inl k)=jd kvs (Sum.inl k):=kZ (fun z=>e (by cases z;rfl))
      rw [a1,a2]
      exact ih
theorem wS (k:Int):∀ {l:List (Int × D)} {kvs:List (Key × V)},kvs.map (·.1)=l.map (fun p=>(Sum.inl p.1:Key))→(kvs.any fun kv=>decide (kv.1=(Sum.inl k:Key)))=l.any fun p=>decide (p.1=k)
  | [],[],_=>rfl
  | [],_ :: _,h=>by simp at h
  | _ :: _,[],h=>by simp at h
  | (j,d) :: l,(kk,v) :: kvs,h1=>by
    simp only [List.map_cons,List.cons.injEq] at h1
    obtain⟨e1,e2⟩:=h1
    subst e1
    simp [wS k e2]
theorem wT (k:Int){d0:D}{v0:V}(hv:RD K ρ H d0 v0):∀ {l:List (Int × D)} {kvs:List (Key × V)},kvs.map (·.1)=l.map (fun p=>(Sum.inl p.1:Key))→RDs K ρ H (l.map (·.2)) (kvs.map (·.2)) →
    (kvs.map fun kv=>if kv.1=(Sum.inl k:Key) then (kv.1,v0) else kv).map (·.1)=(l.map fun p=>if p.1=k then (p.1,d0) else p).map (fun p=>(Sum.inl p.1:Key))∧RDs K ρ H ((l.map fun p=>if p.1=k then (p.1,d0) else p).map (·.2)) ((kvs.map fun kv=>if kv.1=(Sum.inl k:Key) then (kv.1,v0) else kv).map (·.2))
  | [],[],_,_=>⟨rfl,RDs.nil⟩
  | [],_ :: _,h,_=>by simp at h
  | _ :: _,[],h,_=>by simp at h
  | (j,d) :: l,(kk,v) :: kvs,h1,h2=>by
    simp only [List.map_cons,List.cons.injEq] at h1
    simp only [List.map_cons,RDs] at h2
    obtain⟨v',r',e,q1,q2⟩:=h2
    cases e
    obtain⟨e1,e2⟩:=h1
    subst e1
    obtain⟨i1,i2⟩:=wT k hv e2 q2
    by_cases e:j=k
    · subst e
      simp only [List.map_cons,if_true]
      exact⟨by rw [i1],RDs.cons hv i2⟩
    · have e' : ¬ (Sum.inl j:Key)=Sum.inl k:=fun z=>e (by cases z;rfl)
      simp only [List.map_cons,if_neg e,if_neg e']
      exact⟨by rw [i1],RDs.cons q1 i2⟩
theorem DE (k:Int){d0:D}{v0:V}(hv:RD K ρ H d0 v0){l:List (Int × D)}{kvs:List (Key × V)}(h1:kvs.map (·.1)=l.map (fun p=>(Sum.inl p.1:Key)))(h2:RDs K ρ H (l.map (·.2)) (kvs.map (·.2))) :
    (kn kvs (Sum.inl k) v0).map (·.1)=(wR l k d0).map (fun p=>(Sum.inl p.1:Key))∧RDs K ρ H ((wR l k d0).map (·.2)) ((kn kvs (Sum.inl k) v0).map (·.2)):=by
  unfold kn wR
  rw [wS k h1]
  split
  · exact wT k hv h1 h2
  · refine⟨by simp [h1],?_⟩
    rw [List.map_append,List.map_append]
    exact RDs.append h2 (RDs.cons hv RDs.nil)
end
section
variable {X:Cx} {pos p:Pos}
theorem AS:ME X (.Dict [] [] pos) mZ:=by
  refine PE.imp DD fun σ H Q ⟨ρ,σd,hd,rs,pp⟩=>fun q hq => ?_
  have sm:=bG (o:=HO.dK []) hq
  have hn:=rs.hp.free hq
  have rh:=(rs.hp.same sm).allocD (p:=q) (l:=[]) ⟨[],aO,rfl,RDs.nil⟩ hn
  have ex:Ext ρ H (ρ ++ [q]) (upd H q (.dK [])):=Ext.alloc hq
  refine bp.at (R:=rD X.K) (a:=.ref hd.length) pp ex (rs.ext ex rh) ?_
  simp only [rD,RD]
  refine⟨q,?_,rfl⟩
  rw [← rs.hp.len]
  simp
def Jv (K:PySem.W.Frag):R2:=fun x y H Q=>∃ a o,y=.ref a∧uz H a x o∧Q (.bl o.isSome) H
theorem HM (hu:X.A.units + 1 < cLine):OpR X (compareOp .In) (Jv X.K):=by
  intro pins s σ H x y v u Q I rx ry h
  obtain⟨a,o,rfl,g,q⟩:=h
  obtain rfl:u=Value.ref a:=ry
  exact Ks hu I g rx fun s3 I3=>⟨.bl o.isSome,H,I3,rfl,q⟩
theorem HN {K:PySem.W.Frag}:Og K BK (Jv K):=by
  intro ρ H σd hd σ d k v w Q rs rv rw' pp
  cases d<;>try exact pp.elim
  cases k<;>try exact pp.elim
  rename_i i n
  simp only [BK] at pp
  simp only [RD] at rv rw'
  subst rv
  obtain⟨a,ha,rfl⟩:=rw'
  cases c:hd[n]? with
  | none=>rw [c] at pp;exact pp.elim
  | some cell =>
    rw [c] at pp
    cases cell with
    | lst l=>exact pp.elim
    | dct l =>
      simp only at pp
      obtain⟨kvs,q1,q2,q3⟩:=rs.hp.cel n _ a c ha
      refine⟨a,jd kvs (Sum.inl i),rfl,uz.k (k:=Sum.inl i) q1,?_⟩
      have e:(jd kvs (Sum.inl i)).isSome=(je l i).isSome:=by
        rcases oE i q2 q3 with ⟨e1,e2⟩|⟨d,v,e1,e2,_⟩<;>rw [e1,e2]<;>rfl
      rw [e]
      exact pp.here rs (by simp only [rD,RD])
def Jw:V→V→V→Hp→(Hp→Prop)→Prop:=fun o i v H Q=>∃ a H',o=.ref a∧DB H a i v H'∧Q H'
theorem DF (hu:X.A.units + 1 < cLine):G5 X Jw:=by
  intro pins s σ H o i v ov iv u Q I ro ri rv h
  obtain⟨a,H',rfl,g,q⟩:=h
  obtain rfl:ov=Value.ref a:=ro
  exact BJ hu I g ri rv fun s' I'=>⟨H',I',q⟩
theorem jO {o i e:Expr}{fo fi fe:EF}{p2:Pos}(hu:X.A.units + 1 < cLine)(he:ME X e fe)(ho:ME X o fo)(hi:ME X i fi)(hs:swapsWithSole [.Subscript o i p2] e pos.line X.env=pure false:=by rfl)(hw:swappedStores [.Subscript o i p2] e X.env=pure none:=by rfl)
    (h1:(assignEach [.Subscript o i p2] X.env).map (·.2)=[assign (.Subscript o i p2) X.env]:=by rfl) (ha:∀ v,assign (.Subscript o i p2) X.env v=(do
      let ov ← holding [v] (eval o X.env)
      let iv ← holding [v,ov] (eval i X.env)
      standAt p2
      holding [v,ov,iv] (setItem ov iv v)
      release [v,ov,iv] []):=by intro _;rfl):MS X (.Assign [.Subscript o i p2] e pos) (gf fo fi fe):=by
  refine PS.imp (yG he (C9 ho hi (DF hu) ha) hs hw h1) fun En σ H ⟨ρ,σd,hd,rs,p⟩=>⟨ρ,σd,hd,rs,(bI.outE p).imp fun v H1 ⟨ρ1,d,hd1,e1,rs1,rv,p1⟩ => ?_⟩
  refine⟨ρ1,σd,hd1,rs1,(bI.outE p1).imp fun vo H2 ⟨ρ2,dO,hd2,e2,rs2,ro,p2⟩ => ?_⟩
  refine⟨ρ2,σd,hd2,rs2,(bI.outE p2).imp fun vi H3 ⟨ρ3,di,hd3,e3,rs3,ri,p3⟩ => ?_⟩
  have rv3:=(rv.mono (rs1.hp.kp e2)).mono (rs2.hp.kp e3)
  have ro3:=ro.mono (rs2.hp.kp e3)
  cases dO with
  | ref n =>
    cases di with
    | int j =>
      simp only at p3
      cases c:hd3[n]? with
      | none=>rw [c] at p3;exact p3.elim
      | some cell =>
        rw [c] at p3
        cases cell with
        | lst l=>exact p3.elim
        | dct l =>
          simp only at p3
          split at p3
          · rename_i hz
            simp only [RD] at ro3 ri
            subst ri
            obtain⟨a,ha,rfl⟩:=ro3
            obtain⟨kvs,q1,q2,q3⟩:=rs3.hp.cel n _ a c ha
            have hl:kvs.length=l.length:=by have:=congrArg List.length q2;simpa using this
            refine⟨a,_,rfl,DB.k (k:=Sum.inl j) q1 (by rw [hl];exact Nat.lt_of_lt_of_le hz (by rw [sizeLine_eq];decide)),?_⟩
            have hn:n < hd3.length:=(List.getElem?_eq_some_iff.mp c).1
            obtain⟨u1,u2⟩:=DE j rv3 q2 q3
            have rh:=rs3.hp.writeD ha hn u1 u2
            have ex:Ext ρ3 H3 ρ3 (upd H3 a (.dK (kn kvs (Sum.inl j) v))):=Ext.write (List.mem_of_getElem? ha)
            exact p3 σ _ ρ3 ex (rs3.ext ex rh)
          · exact p3.elim
    | _=>exact p3.elim
  | _=>exact p3.elim
end
end Fm
set_option Elab.async false
set_option linter.all false
set_option maxRecDepth 100000
namespace Fm
open PySem PySem.Spec L2 PySem.W PyProof.Rows
section
variable {X:Cx} {pos p:Pos}
theorem sX {P:Program}{w:World}{H:Hp}{h h':Heap}(hok:HOk P w H h)(hk:∀ b o xs,H b=some (.tup xs)→h.get? b=some o→h'.get? b=some o):∀ {vs:List V} {rs:List (List Int)} {its:List Value},cD H vs rs→aI vs its→(rs.all fun x => !x.isEmpty)=true →
    ∃ fs,KatTups h' its fs∧fs.length=its.length ∧ ∀ v∈fs,∃ i t,v=Value.int i t
  | _,_,_,.nil,.nil,_=>⟨[],.nil,rfl,fun v hv=>by simp at hv⟩
  | _,_,_,.cons (a:=a) (r:=r) ha t,.cons rv rt,hne=>by
    simp only [List.all_cons,Bool.and_eq_true,Bool.not_eq_true'] at hne
    obtain⟨fs,h1,h2,h3⟩:=sX hok hk t rt hne.2
    obtain⟨z,its0,r0,o,ho,hc,n,hd⟩:=hok a _ ha
    cases r with
    | nil=>simp at hne
    | cons i r =>
      cases r0 with
      | cons q0 qr =>
        rename_i u us
        obtain⟨tk,rfl⟩:=AK q0
        cases rv
        refine⟨.int i tk :: fs,KatTups.cons (hk a o _ ha ho) hc hd (by simp) h1,by simp [h2],fun v hv => ?_⟩
        rcases List.mem_cons.mp hv with rfl|hv
        · exact⟨i,tk,rfl⟩
        · exact h3 v hv
theorem HP {pins:List (Addr × Obj)}{σ:L2.St}{H:Hp}{s:Shared}{B:Addr}{vs:List V}{rs:List (List Int)}{A:Around}{E:Value→Shared→Prop}{Q:Value→Shared→Prop}(I:Inv X pins σ H s)(hB:H B=some (.lst vs))(h64:vs.length < 64)(rv:cD H vs rs)(nd:rs.Nodup)(hne:(rs.all fun x => !x.isEmpty)=true)
    (q:∀ vs' s',cD H vs' (cH rs)→Inv X pins σ (upd H B (.lst vs')) s'→Q .none s'):wpAny (model X.prog X.w) A (call (.builtin "list.sort") [.ref B]) Q E s:=by
  obtain⟨hz,its,n0,rvs,ho⟩:=I.hok B _ hB
  have hlen:its.length=vs.length:=rvs.length.symm
  obtain⟨m,hm,_⟩:=id I.loc
  have nL:∀ b u,H b=some u→b≠X.env.locals:=fun b u e z=>by rw [z,I.free] at e;cases e
  have BL:=nL B _ hB
  have selfUpd:∀ vs',vs'=vs→upd H B (.lst vs')=H:=fun vs' e=>by
    subst e
    funext b
    by_cases z:b=B
    · subst z;rw [aO,hB]
    · rw [ay z]
  have after:∀ (h2:Heap) (its':List Value) (vs':List V) (c t':Nat),cD H vs' (cH rs)→aI vs' its'→vs'.length≤sizeLine→h2.get? B=some (PySem.W.listOf its'.toArray c)→(∀ b o,b≠X.env.locals→b≠B→s.heap.get? b=some o→h2.get? b=some o)→h2.Ns X.env.locals m→Inv X pins σ (upd H B (.lst vs')) { s with heap:=h2,toks:=t' }:=fun h2 its' vs' c t' rv' rvs' hz' hB2 keep2 ns2=>by
    have I2:L2.Inv X pins σ (upd H B (.lst vs')) { s with heap:=h2,gens:=s.gens,drawn:=s.drawn,toks:=t' }:=by
      refine I.step (g':=s.gens) (d':=s.drawn) (t':=t') (ch:=[]) (fun _ z=>nomatch z) (fun b o hb _ _ e n=>keep2 b o hb (fun z=>by subst z;rw [hB] at n;cases n) e) (fun b o hb _ _ e n=>⟨o.slots,keep2 b o hb (fun z=>by subst z;rw [hB] at n;cases n) e⟩) (fun b o _ e n=>by rw [ay (fun z=>by subst z;rw [hB] at n;cases n)];exact n) (fun b o _ e => ?_)
        (fun b ys e=>by rw [ay (fun z=>by subst z;rw [hB] at e;cases e)];exact e) (fun b o u e=>by rw [ay (fun z=>by subst z;rw [hB] at e;cases e)];exact e) (fun b ps e=>⟨#[],by rw [ay (fun z=>by subst z;rw [hB] at e;cases e),e];simp⟩) (fun m' hm'=>by rw [Dz hm' hm];exact ns2) (fun b u e => ?_) I.bare
      · by_cases hb:b=X.env.locals
        · obtain⟨o',_,_,ho',_⟩:=ns2
          rw [hb];exact⟨o',ho'⟩
        · by_cases hb2:b=B
          · subst hb2;exact⟨_,hB2⟩
          · exact⟨o,keep2 b o hb hb2 e⟩
      · by_cases hb:b=B
        · subst hb
          rw [aO] at e
          cases e
          exact⟨hz',its',c,rvs',hB2⟩
        · rw [ay hb] at e
          refine (I.hok b u e).stay (fun c v hc z => ?_) (fun c z=>by rw [ay (fun y=>by subst y;rw [hB] at z;cases z)];exact z) fun c ys z=>by rw [ay (fun y=>by subst y;rw [hB] at z;cases z)];exact z
          rcases hc with w|w
          · subst w;exact keep2 c v (nL c _ e) hb z
          · exact keep2 c v (nL c _ w) (fun y=>by subst y;rw [hB] at w;cases w) z
    exact I2
  by_cases h2:its.length < 2
  · have hs:cH rs=rs:=by
      have:rs.length < 2:=by rw [← rv.length];omega
      match rs,this with
      | [],_=>rfl
      | [_],_=>rfl
    have ha:B < s.heap.objs.size:=Heap.lt_size ho
    have ho':s.heap.get? B=some (seqObj "list" its.toArray n0):=ho
    refine wpAny_call_entry slot_list_sort ⟨_,ho,rfl⟩ entry_list_sort (yY ho' h2 ⟨_,rfl,?_⟩) (args_list_sort _)
    obtain⟨e1,ho1⟩ : ∃ e1,(s.heap.update B (Obj.mapSeq fun _ => #[])).get? B=some (seqObj "list" #[] e1):=⟨_,get?_update_seq ho' (fun _ => #[])⟩
    have ho6:(((s.heap.update B (Obj.mapSeq fun _ => #[])).push (seqObj "tuple" its.toArray 0)).push (seqObj "list" #[] 0)).get? B=some (seqObj "list" #[] e1):=by
      rw [Heap.get?_push_ne _ _ _ (by rw [size_push',Heap.size_update];exact Nat.ne_of_lt (Nat.lt_succ_of_lt ha)),Heap.get?_push_ne _ _ _ (by rw [Heap.size_update];exact Nat.ne_of_lt ha)]
      exact ho1
    have keepS:∀ b o,b≠B→s.heap.get? b=some o→(sortedHeap s.heap B its its.toArray).get? b=some o:=fun b o hb e=>by
      have hlt:b < s.heap.objs.size:=Heap.lt_size e
      unfold sortedHeap
      rw [Heap.get?_update_ne _ _ _ _ hb,Heap.get?_push_ne _ _ _ (by rw [size_push',Heap.size_update];exact Nat.ne_of_lt (Nat.lt_succ_of_lt hlt)),Heap.get?_push_ne _ _ _ (by rw [Heap.size_update];exact Nat.ne_of_lt hlt),Heap.get?_update_ne _ _ _ _ hb]
      exact e
    have ns2:(sortedHeap s.heap B its its.toArray).Ns X.env.locals m:=by
      obtain⟨o',es,ep,h1,r⟩:=hm
      exact⟨o',es,ep,keepS _ _ (Ne.symm BL) h1,r⟩
    refine q vs _ (by rw [hs];exact rv) (after _ its vs _ s.toks (by rw [hs];exact rv) rvs hz (get?_update_seq ho6 _) (fun b o _ hb e=>keepS b o hb e) ns2)
  · have N0:News (Att.noObjs s.heap) X.env.locals s.heap ((B,PySem.W.listOf its.toArray n0) :: Att.ledger s.heap X.env.locals B):=fun ⟨b,o⟩ hb=>by
      rcases List.mem_cons.mp hb with e|hb
      · cases e
        exact⟨ho,BL,Att.noObjs_get _ _⟩
      · obtain⟨n1,n2,e⟩:=Att.mem_ledger.mp hb
        exact⟨e,n1,Att.noObjs_get _ _⟩
    have hDn:∀ q∈Att.ledger s.heap X.env.locals B,q.1≠B:=fun ⟨b,o⟩ hq=>(Att.mem_ledger.mp hq).2.1
    refine kat_lsort (vs:=its) (Att.fr_all hm) N0 (UpdF.head hDn) (by simp) (by omega) (by omega) fun e1 h' F' N' => ?_
    have inN:∀ b o,b≠X.env.locals→b≠B→s.heap.get? b=some o→(b,o)∈Att.ledger s.heap X.env.locals B:=fun b o hb hb2 e=>Att.mem_ledger.mpr ⟨hb,hb2,e⟩
    have keep':∀ b o,b≠X.env.locals→b≠B→s.heap.get? b=some o→h'.get? b=some o:=fun b o hb hb2 e=>(N' (b,o) (List.mem_cons_of_mem _ (inN b o hb hb2 e))).1
    obtain⟨fs,t1,t2,t3⟩:=sX I.hok (h':=h') (fun b o xs hb e=>keep' b o (nL b _ hb) (fun z=>by subst z;rw [hB] at hb;cases hb) e) rv rvs hne
    refine kat_kind (s:={ s with heap:=h' }) (T:=.type "int") t1 (by omega) (fun v hv => ?_) rfl ?_
    · obtain⟨i,t,rfl⟩:=t3 v hv
      exact Looks.of_pure rfl
    · have hT:(Value.type "int" != Value.type "tuple")=true:=by decide
      rw [hT]
      have hrl:rs.length=its.length:=by rw [← rv.length,hlen]
      have dif:∀ i j,i < its.length→j < its.length→i≠j→rs.getD i []≠rs.getD j []:=fun i j hi hj hij z=>by
        have e1:rs.getD i [] = rs[i]'(by omega):=by simp [List.getD,show i < rs.length by omega]
        have e2:rs.getD j [] = rs[j]'(by omega):=by simp [List.getD,show j < rs.length by omega]
        rw [e1,e2] at z
        exact hij ((List.getElem_inj nd).mp z)
      have O:Ord (fun i j=>Fm.bN (rs.getD i []) (rs.getD j [])) its.length:=⟨fun i j _ _ h=>mX h,fun i j k _ _ _ h h'=>gC h h',fun i j hi hj hij h=>mf (dif i j hi hj hij) h⟩
      refine wM O (fun i j hi hj C hC => ?_) (by omega) fun pp g srt => ?_
      · unfold kas_ask
        have at':∀ i,i < its.length → ∃ b,its.getD i Value.none=.ref b ∧ ∃ (o:Obj) (zs:List Value) (n:Nat),h'.get? b=some o∧o.data=.seq zs.toArray n∧IntsAre zs (rs.getD i []):=fun i hi=>by
          have hv:vs[i]? = some (vs[i]'(by omega)):=by simp [show i < vs.length by omega]
          obtain⟨b,e1,e2⟩:=rv.get hv
          obtain⟨u,hu,ru⟩:=rvs.get hv
          rw [e1] at ru
          cases (show u=Value.ref b from ru)
          obtain⟨z,zs,r0,o,ho,hc,n,hd⟩:=I.hok b _ e2
          exact⟨b,by simp [List.getD,hu],o,zs,n,keep' b o (nL b _ e2) (fun z=>by subst z;rw [hB] at e2;cases e2) ho,hd,yM r0⟩
        obtain⟨b1,x1,o1,z1,n1,y1,d1,i1⟩:=at' i hi
        obtain⟨b2,x2,o2,z2,n2,y2,d2,i2⟩:=at' j hj
        rw [x1,x2]
        refine kat_lt (s:={ s with heap:=h' }) y1 d1 y2 d2 ?_
        have:=HF (prog:=X.prog) (w:=X.w) (A:=A.in1) (s:={ s with heap:=h' }) (Q:=C) (rs.getD i []) (rs.getD j []) 0 i1 i2 hC
        simpa using this
      · have pmL:pp.toList.Perm (List.range its.length):=by simpa using Array.perm_iff_toList_perm.mp g.pm
        have inR:∀ i∈pp.toList,i < vs.length:=fun i hi=>by
          have:=pmL.mem_iff.mp hi
          rw [← hlen];simpa using this
        obtain⟨vs',hvs'⟩ : ∃ vs',vs'=pp.toList.map fun i=>vs.getD i .non:=⟨_,rfl⟩
        obtain⟨its',hits'⟩ : ∃ its',its'=pp.toList.map fun i=>its.getD i Value.none:=⟨_,rfl⟩
        have rv':cD H vs' (cH rs):=by
          have e:(pp.toList.map fun i=>rs.getD i [])=cH rs:=by
            refine BH (?_:List.Perm _ _) ?_ (jm nd)
            · refine ((pmL.map fun i=>rs.getD i []).trans ?_).trans (gP rs).symm
              have:((List.range its.length).map fun i=>rs.getD i [])=rs:=by
                apply List.ext_getElem?
                intro i
                by_cases hi:i < rs.length
                · have:i < its.length:=by omega
                  simp [List.getD,hi,this]
                · have : ¬ i < its.length:=by omega
                  simp [hi,this]
              rw [this]
            · rw [List.pairwise_map]
              rw [List.pairwise_iff_getElem]
              intro i j hi hj hij
              have s1:=srt i j hij (by rw [← g.sz];simpa using hj)
              have g1:pp.getD i 0=pp.toList[i]:=by simp [Array.getD,show i < pp.size by simpa using hi]
              have g2:pp.getD j 0=pp.toList[j]:=by simp [Array.getD,show j < pp.size by simpa using hj]
              rw [g1,g2] at s1
              exact s1
          have:=rv.pick pp.toList inR
          rw [e,← hvs'] at this
          exact this
        have rvs':aI vs' its':=by rw [hvs',hits'];exact aI.pick rvs pp.toList inR
        have hz':vs'.length≤sizeLine:=by
          have l1:vs'.length=its.length:=by rw [hvs',List.length_map,pmL.length_eq,List.length_range]
          rw [l1,hlen];exact hz
        rw [← hits']
        refine KasFin.intro F' N' (UpdF.head hDn) fun h2 c F2 N2 => ?_
        have hD2:h2.get? B=some (PySem.W.listOf its'.toArray c):=(N2 (B,_) (List.mem_cons_self ..)).1
        have keep2:∀ b o,b≠X.env.locals→b≠B→s.heap.get? b=some o→h2.get? b=some o:=fun b o hb hb2 e=>(N2 (b,o) (List.mem_cons_of_mem _ (inN b o hb hb2 e))).1
        exact q vs' _ rv' (after h2 its' vs' c s.toks rv' rvs' hz' hD2 keep2 F2.ns)
end
end Fm
set_option Elab.async false
set_option linter.all false
set_option maxRecDepth 100000
namespace Fm
open PySem PySem.Spec L2 PySem.W PyProof.Rows
section
variable {X:Cx} {pos p:Pos}
def uA (p d:Addr):Heap→Prop:=fun h=>h.get? p=some { cls:=.type "dict_items",data:=.fields #[.ref d] }
def HQ (td:TE):TE:=fun σ H Q=>td σ H fun x H1=>∃ a kvs,x=.ref a∧H1 a=some (.dK kvs) ∧ ∀ p,H1 p=none→Q (.ref p) (upd H1 p (.ext (uA p a)))
theorem DG {o:Expr} {td:TE} {apos cpos:Pos} (ho:PE X o td) (hbase:attributeBase o "items" X.env (eval o X.env)=eval o X.env:=by rfl) (hline:(apos.endLine == cpos.line)=true:=by rfl) :
    PE X (.Call (.Attribute o "items" apos) [] [] cpos) (HQ td):=by
  intro pins s σ H Q I h
  refine wpAny_Call_method0_late hbase hline (thn (ho pins s σ H _ I h) fun v s1 ⟨x,H1,I1,r1,a,kvs,ex,e,q1⟩ => ?_)
  subst ex
  obtain rfl:v=Value.ref a:=r1
  obtain⟨t1,t2,hs⟩:=HL I1 (.inl ⟨kvs,.inl e⟩)
  obtain⟨_,hd,vs,_,dd⟩:=AQ I1.hok e
  refine⟨"dict", "dict.items",PySem.F.plainAttrs_dict,PySem.F.slot_dict_items,PySem.F.type_dict_items,t1,t2,Calls.callWith_builtin rfl (PySem.evalArgs_none ?_)⟩
  refine call_meetsIn PySem.F.slot_dict_items t1 PySem.F.entry_dict_items (PySem.F.args_dict_items_1 _) (meets_dict_items (bZ X.prog X.w) a hd) ⟨⟨vs,dd⟩,?_⟩
  refine⟨.ref s1.heap.objs.size,_,I1.laid (t':=s1.toks) (o:=.ext (uA s1.heap.objs.size a)) (fun b ob q=>Heap.get?_push_of_some _ q) (Nat.le_refl _) ⟨Heap.get?_push_size _ rfl,⟨_,Heap.get?_push_size _ rfl⟩,fun h1 h2 f k=>k _ f⟩,rfl,q1 _ (I1.hok.fresh (Nat.le_refl _))⟩
theorem DH {pins:List (Addr × Obj)}{σ:L2.St}{H H':Hp}{s:Shared}{h':Heap}{t':Nat}(I:Inv X pins σ H s)(keep:∀ b o,s.heap.get? b=some o→h'.get? b=some o)(sm:hJ H H')(fresh:∀ b,b < s.heap.objs.size→H' b=H b)(new:∀ b u,s.heap.objs.size≤b→H' b=some u→dl X.prog X.w H' h' b u ∧ ∀ c,u ≠ .own c):Inv X pins σ H' { s with heap:=h',toks:=t' }:=by
  have I2:L2.Inv X pins σ H' { s with heap:=h',gens:=s.gens,drawn:=s.drawn,toks:=t' }:=by
    refine I.step (g':=s.gens) (d':=s.drawn) (t':=t') (ch:=[]) (fun _ z=>nomatch z) (fun b o _ _ _ e _=>keep b o e) (fun b o _ _ _ e _=>⟨o.slots,keep b o e⟩) (fun b o _ e n=>by rw [fresh b (Heap.lt_size e)];exact n) (fun b o _ e=>⟨o,keep b o e⟩)
      (fun b ys e=>sm _ _ e) (fun b o u e=>sm _ _ e) (fun b ps e=>⟨#[],by rw [sm _ _ e];simp⟩) (fun m hm => ?_) (fun b u e => ?_) I.bare
    · obtain⟨o',es,ep,h1,r⟩:=hm
      exact⟨o',es,ep,keep _ _ h1,r⟩
    · by_cases hb:b < s.heap.objs.size
      · rw [fresh b hb] at e
        refine (I.hok b u e).stay (fun c v hc z=>keep c v z) (fun c z=>sm _ _ z) fun c ys z=>sm _ _ z
      · exact (new b u (Nat.le_of_not_lt hb) e).1
  exact I2
def ov:List Addr→List (List Int)→Hp→Hp
  | a :: as,r :: rs,H=>upd (ov as rs H) a (.tup (r.map V.int))
  | _,_,H=>H
theorem AT {b:Addr}{H:Hp}:∀ {as:List Addr} {rs:List (List Int)},b∉as→ov as rs H b=H b
  | [],_,_=>rfl
  | a :: as,[],_=>rfl
  | a :: as,r :: rs,h=>by
    have h1:b≠a:=fun z=>h (by simp [z])
    have h2:b∉as:=fun z=>h (by simp [z])
    show upd _ _ _ b=_
    rw [ay h1,AT h2]
theorem DI {H:Hp}:∀ {as:List Addr} {rs:List (List Int)} {j:Nat} {a:Addr} {r:List Int},as.Nodup→as[j]? = some a→rs[j]? = some r→ov as rs H a=some (.tup (r.map V.int))
  | [],_,_,_,_,_,e,_=>by simp at e
  | a :: as,[],_,_,_,_,_,e=>by simp at e
  | a :: as,r :: rs,0,_,_,_,e,e'=>by simp at e e';subst e e';exact aO
  | a :: as,r :: rs,j + 1,b,q,nd,e,e'=>by
    obtain⟨n1,n2⟩:=List.nodup_cons.mp nd
    have e:as[j]? = some b:=by simpa using e
    have hb:b≠a:=fun z=>n1 (by rw [← z];exact List.mem_of_getElem? e)
    show upd _ _ _ b=_
    rw [ay hb]
    exact DI n2 e (by simpa using e')
theorem cD.mono {H H':Hp}(k:∀ a xs,H a=some (.tup xs)→H' a=some (.tup xs)):∀ {vs:List V} {rs:List (List Int)},cD H vs rs→cD H' vs rs
  | _,_,.nil=>.nil
  | _,_,.cons h t=>.cons (k _ _ h) (cD.mono k t)
theorem AU {H':Hp}:∀ {as:List Addr} {rs:List (List Int)},as.length=rs.length→(∀ (j:Nat) a r,as[j]? = some a→rs[j]? = some r→H' a=some (.tup (r.map V.int)))→cD H' (as.map V.ref) rs
  | [],[],_,_=>.nil
  | [],_ :: _,h,_=>by simp at h
  | _ :: _,[],h,_=>by simp at h
  | a :: as,r :: rs,h,f=>.cons (f 0 a r rfl rfl) (AU (by simpa using h) fun j b q e e'=>f (j + 1) b q (by simpa using e) (by simpa using e'))
def HR:List V→Hp→VK→Prop:=fun xs H Q=>∃ (p a:Addr) (ps:List (Int × Int)),xs=[.ref p]∧H p=some (.ext (uA p a))∧H a=some (.dK (ps.map fun q=>((Sum.inl q.1:Key),V.int q.2)))∧ps.length < 64∧(ps.map fun q=>[q.1,q.2]).Nodup ∧
  ∀ H' q vs',hJ H H'→H q=none→H' q=some (.lst vs')→cD H' vs' (cH (ps.map fun q=>[q.1,q.2]))→Q (.ref q) H'
theorem Jx {κ : Type}{kvs:List (κ × V)}{vs:List (κ × Value)}(r:KV kvs vs):∀ {j:Nat} {k : κ} {x:Value} {k' : κ} {v:V},vs[j]? = some (k,x)→kvs[j]? = some (k',v)→k'=k∧bj v x:=by
  induction r with
  | nil=>intro j k x k' v e;simp at e
  | cons h t ih =>
    intro j k x k' v e e'
    cases j with
    | zero=>simp at e e';subst e e';exact h
    | succ j=>exact ih (by simpa using e) (by simpa using e')
theorem y4 (hc:X.calm=true):eP X (.builtin "sorted") HR:=by
  intro pins s σ H xs us Q I r h
  obtain⟨p,a,ps,rfl,hp,ha,h64,nd,q⟩:=h
  obtain⟨u,rfl,ru⟩:=aI.one r
  cases (show u=Value.ref p from ru)
  obtain⟨rs,hrs⟩ : ∃ rs,rs=ps.map fun q=>[q.1,q.2]:=⟨_,rfl⟩
  rw [← hrs] at nd q
  have view:uA p a s.heap:=(I.hok p _ hp).1
  obtain⟨hz,_,vs,rel,dd⟩:=AQ I.hok ha
  have lv:vs.length=ps.length:=by rw [← rel.length];simp
  obtain⟨o,es,ep,d1,d2⟩:=id dd
  have dat:s.heap.DictAt (bZ X.prog X.w) a vs ep:=⟨o,es,d1,d2⟩
  refine Calls.call_function_entry kind_sorted plain_sorted entry_sorted (args_sorted1 _) ?_
  unfold Builtin.«sorted»
  refine wpAny_bind (m:=checkCount "sorted" 1 1 _) (wpAny_pure ?_)
  refine wpAny_bind (kdx_collect (A:=X.A.in1) (knd:=bZ X.prog X.w) (kvs:=vs) (ep:=ep) (I.ok.hd hc) ⟨_,view,rfl,rfl⟩ dat (by rw [lv,sizeLine_eq];omega) fun h' tk as hk hl hG => ?_)
  have ndA:as.Nodup:=hG.rise.imp fun h=>Nat.ne_of_lt h
  have lr:as.length=rs.length:=by rw [hl,lv,hrs];simp
  have newA:∀ b∈as,s.heap.objs.size≤b:=fun b hb=>Nat.le_of_lt (hG.above b hb)
  have sm:hJ H (ov as rs H):=fun b u e=>by
    rw [AT]
    · exact e
    · intro z
      exact absurd (I.hok.lt e) (Nat.not_lt.mpr (newA b z))
  have I1:Inv X pins σ (ov as rs H) { s with heap:=h',toks:=tk }:=by
    refine DH I hk sm (fun b hb=>AT fun z=>absurd hb (Nat.not_lt.mpr (newA b z))) fun b u hb e => ?_
    by_cases hm:b∈as
    · obtain⟨j,hj⟩:=List.getElem?_of_mem hm
      have hjl:j < as.length:=(List.getElem?_eq_some_iff.mp hj).1
      obtain⟨key,k,x,e1,e2,e3⟩:=hG.pairs j b hj
      obtain⟨pq,hpq⟩ : ∃ pq,ps[j]? = some pq:=⟨ps[j]'(by omega),by simp [show j < ps.length by omega]⟩
      have hr:rs[j]? = some [pq.1,pq.2]:=by rw [hrs,List.getElem?_map,hpq];rfl
      rw [DI ndA hj hr] at e
      cases e
      refine⟨?_,fun c z=>by cases z⟩
      obtain⟨hkk,rx⟩:=Jx rel e1 (show (ps.map fun q=>((Sum.inl q.1:Key),V.int q.2))[j]? = some (Sum.inl pq.1,V.int pq.2) by rw [List.getElem?_map,hpq];rfl)
      obtain⟨t,rfl⟩:=AK rx
      subst hkk
      have:∃ t',key=Value.int pq.1 t':=Value.isInt_shape e2
      obtain⟨t',rfl⟩:=this
      exact⟨by simp [sizeLine_eq],[_,_],.cons ⟨t',rfl⟩ (.cons ⟨t,rfl⟩ .nil),_,e3,rfl,_,rfl⟩
    · rw [AT hm] at e
      exact absurd (I.hok.lt e) (Nat.not_lt.mpr hb)
  refine wpAny_bind (wpAny_newList ?_ (by rw [List.length_map,hl,lv,sizeLine_eq];omega))
  have rvA:aI (as.map V.ref) (as.map Value.ref):=by
    clear hl hG ndA lr newA sm I1 q
    induction as with
    | nil=>exact .nil
    | cons a as ih=>exact .cons rfl ih
  have I2:Inv X pins σ (upd (ov as rs H) h'.objs.size (.lst (as.map V.ref))) { s with heap:=h'.push { cls:=.type "list",data:=.seq (as.map Value.ref).toArray },toks:=tk }:=I1.lnew (t':=tk) rvA (by rw [List.length_map,hl,lv,sizeLine_eq];omega)
  have fr:ov as rs H h'.objs.size=none:=I1.hok.fresh (Nat.le_refl _)
  have sm2:hJ (ov as rs H) (upd (ov as rs H) h'.objs.size (.lst (as.map V.ref))):=bG fr
  have rowsA:cD (upd (ov as rs H) h'.objs.size (.lst (as.map V.ref))) (as.map V.ref) rs:=AU lr fun j b r e e'=>sm2 _ _ (DI ndA e e')
  have hne:(rs.all fun x => !x.isEmpty)=true:=by rw [hrs,List.all_map,List.all_eq_true];intro q _;rfl
  refine wpAny_bind (wpAny_holding (HP (A:=X.A.in1) I2 aO (by rw [List.length_map,hl,lv];exact h64) rowsA nd hne fun vs' s' rv' I3=>wpAny_pure ⟨_,rfl,?_⟩))
  have uu:upd (upd (ov as rs H) h'.objs.size (.lst (as.map V.ref))) h'.objs.size (.lst vs')=upd (ov as rs H) h'.objs.size (.lst vs'):=by
    funext b
    by_cases z:b=h'.objs.size
    · subst z;rw [aO,aO]
    · rw [ay z,ay z,ay z]
  rw [uu] at I3
  refine⟨.ref h'.objs.size,_,I3,rfl,q _ _ vs' (fun b u e=>bG fr _ _ (sm _ _ e)) ?_ aO ?_⟩
  · cases e:H h'.objs.size with
    | none=>rfl
    | some u=>rw [sm _ _ e] at fr;cases fr
  · refine rv'.mono fun b ys e => ?_
    have hb:b≠h'.objs.size:=fun z=>by subst z;rw [aO] at e;cases e
    rw [ay hb] at e ⊢
    exact e
theorem nc:∀ {l:List (Int × D)} {r:List (List Int)},eG l=some r → ∃ ps:List (Int × Int),l=ps.map (fun q=>(q.1,D.int q.2))∧r=ps.map fun q=>[q.1,q.2]
  | [],r,e=>by simp only [eG] at e;cases e;exact⟨[],rfl,rfl⟩
  | (k,d) :: l,r,e=>by
    cases d<;>simp only [eG] at e<;>try (cases e;done)
    rename_i v
    cases c:eG l with
    | none=>rw [c] at e;cases e
    | some r' =>
      rw [c] at e
      cases e
      obtain⟨ps,rfl,rfl⟩:=nc c
      exact⟨(k,v) :: ps,rfl,rfl⟩
theorem DJ {K:PySem.W.Frag}{ρ:List Addr}{H:Hp}:∀ {ps:List (Int × Int)} {kvs:List (Key × V)},kvs.map (·.1)=(ps.map fun q=>(q.1,D.int q.2)).map (fun p=>(Sum.inl p.1:Key))→RDs K ρ H ((ps.map fun q=>(q.1,D.int q.2)).map (·.2)) (kvs.map (·.2))→kvs=ps.map fun q=>((Sum.inl q.1:Key),V.int q.2)
  | [],[],_,_=>rfl
  | [],_ :: _,h,_=>by simp at h
  | _ :: _,[],h,_=>by simp at h
  | (j,d) :: ps,(kk,v) :: kvs,h1,h2=>by
    simp only [List.map_cons,List.cons.injEq] at h1
    simp only [List.map_cons,RDs] at h2
    obtain⟨v',r',e,q1,q2⟩:=h2
    cases e
    obtain⟨e1,e2⟩:=h1
    subst e1
    simp only [RD] at q1
    subst q1
    rw [DJ e2 q2]
    rfl
theorem DK {o:Expr} {fo:EF} {apos cpos:Pos} (hc:X.calm=true) (hg:Gl X "sorted") (hm:X.mg "sorted" = none) (ho:ME X o fo)
    (hs:starEach [.Call (.Attribute o "items" apos) [] [] cpos] X.env=(false,eval (.Call (.Attribute o "items" apos) [] [] cpos) X.env) :: starEach [] X.env:=by rfl)
    (hbase:attributeBase o "items" X.env (eval o X.env)=eval o X.env:=by rfl) (hline:(apos.endLine == cpos.line)=true:=by rfl) :
    MF X (.Call (.Name "sorted" p) [.Call (.Attribute o "items" apos) [] [] cpos] [] pos) (ko fo):=by
  refine PE.imp (fU (y4 hc) hg hm (by decide +kernel) (cx (DG ho hbase hline) eA hs) (he:=hs)) fun σ H Q ⟨ρ,σd,hd,rs,pp⟩=>⟨ρ,σd,hd,rs,?_⟩
  unfold ko at pp
  cases e:fo σd hd with
  | exc x h'=>rw [e] at pp;exact pp
  | bad=>rw [e] at pp;exact pp
  | ok d hd1 =>
    rw [e] at pp
    simp only [ax] at pp
    intro v H1 ρ1 e1 rs1 rv
    cases d<;>try exact pp.elim
    rename_i n
    simp only at pp
    simp only [rD,RD] at rv
    obtain⟨a,ha,rfl⟩:=rv
    cases c:hd1[n]? with
    | none=>rw [c] at pp;exact pp.elim
    | some cell =>
      rw [c] at pp
      cases cell with
      | lst l=>exact pp.elim
      | dct l =>
        simp only at pp
        cases c2:eG l with
        | none=>rw [c2] at pp;exact pp.elim
        | some r =>
          rw [c2] at pp
          simp only at pp
          split at pp
          · rename_i hz
            obtain⟨ps,rfl,rfl⟩:=nc c2
            obtain⟨kvs,q1,q2,q3⟩:=rs1.hp.cel n _ a c ha
            have hk:=DJ q2 q3
            subst hk
            refine⟨a,_,rfl,q1,fun q hq=>⟨q,a,ps,rfl,aO,by rw [ay (cR q1 hq)];exact q1,by simpa using hz.1,hz.2,fun H' q' vs' sm hq' hl' rv' => ?_⟩⟩
            have sm1:hJ H1 H':=fun b u eb=>sm _ _ (bG hq _ _ eb)
            have nq:q'≠q:=fun z=>by subst z;rw [aO] at hq';cases hq'
            rw [ay nq] at hq'
            have hn:=rs1.hp.free hq'
            exact pp q' vs' H' ρ1 (e1.trans (Ext.same sm1)) (rs1.same sm1) (e1.fresh hq' hn) hl' hn rv'.rds
          · exact pp.elim
end
end Fm
set_option linter.all false
namespace Fm
@[simp] def oF (la:LF) (b:EF):LF:=fun σ h=>(la σ h).bind fun l h=>(b σ h).bind fun y h=>match y with
  | .int n=>if 0≤n∧n≤1000∧l.length * n.toNat≤1000 then .ok (List.replicate n.toNat l).flatten h else .bad
  | _=>.bad
@[simp] def Kt (x i e:EF):EF:=fun σ h=>(x σ h).bind fun p h=>match p with
  | .ref n=>match h[n]? with
    | some (.lst _)=>(i σ h).bind fun j h=>(e σ h).bind fun d h=>match j with
      | .int k=>match h[n]? with
        | some (.lst l)=>if 0≤k∧k≤l.length∧l.length < SZ then .ok .non (h.set n (.lst (l.take k.toNat++[d]++l.drop k.toNat))) else .bad
        | _=>.bad
      | _=>.bad
    | _=>.bad
  | _=>.bad
@[simp] def y6 (a b:EF):EF:=fun σ h=>(a σ h).bind fun x h=>(b σ h).bind fun y h=>match x,y with
  | .int i,.int j=>.ok (.int (if j > i then j else i)) h
  | _,_=>.bad
@[simp] def cQ (a b:EF):LF:=fun σ h=>(a σ h).bind fun x h=>(b σ h).bind fun y h=>match x,y with
  | .ref n,.ref m=>match h[n]?,h[m]? with
    | some (.lst l),some (.lst k)=>if l.length + k.length≤SZ then .ok (l++k) h else .bad
    | _,_=>.bad
  | _,_=>.bad
@[simp] def AV:O2:=fun x y h=>match x,y with
  | .tup xs,.tup ys=>if xs.length + ys.length≤SZ then .ok (.tup (xs++ys)) h else .bad
  | _,_=>.bad
end Fm
set_option Elab.async false
set_option linter.all false
set_option maxRecDepth 100000
namespace Fm
open PySem PySem.Spec L2 PySem.W PyProof.Rows
section
variable {X:Cx} {pos p:Pos}
theorem mi {K:PySem.W.Frag}{ρ:List Addr}{H:Hp}:∀ {l:List D} {vs:List V} {bs:List Bool},RDs K ρ H l vs→fE l=some bs→vs=bs.map V.bl
  | [],_,is,r,e=>by simp only [fE] at e;cases e;simp only [RDs] at r;subst r;rfl
  | d :: l,_,is,r,e=>by
    simp only [RDs] at r
    obtain⟨v,vs,rfl,h1,h2⟩:=r
    cases d<;>simp only [fE] at e<;>try (cases e;done)
    rename_i i
    cases c:fE l with
    | none=>rw [c] at e;cases e
    | some js =>
      rw [c] at e
      cases e
      simp only [RD] at h1
      rw [h1,mi h2 c]
      rfl
theorem wU {bs:List Bool}{its:List Value}(r:aI (bs.map V.bl) its):∀ (i:Nat) (v:Value),its.toArray[i]? = some v→v=.bool (bs.getD i false):=by
  intro i v e
  have e':its[i]? = some v:=by simpa using e
  have hi:i < bs.length:=by
    have:=(List.getElem?_eq_some_iff.mp e').1
    have:=r.length
    simp at this
    omega
  obtain⟨u,hu,ru⟩:=r.get (i:=i) (x:=V.bl bs[i]) (by simp [hi])
  rw [hu] at e'
  cases e'
  rw [show v=Value.bool bs[i] from ru]
  simp [List.getD,hi]
theorem DL (bs:List Bool):(List.range bs.length).all (fun i=>bs.getD i false)=bs.all id:=by
  have:bs=(List.range bs.length).map fun i=>bs.getD i false:=by
    apply List.ext_getElem?
    intro i
    by_cases hi:i < bs.length<;>simp [List.getD,hi]
  conv=>rhs;rw [this]
  rw [List.all_map]
  rfl
theorem BM (hc:X.calm=true):eP X (.builtin "all") (fun xs H Q=>∃ (p:Addr) (bs:List Bool),xs=[.ref p]∧(SqL X.K H p (bs.map V.bl)∨SqT X.K H p (bs.map V.bl))∧Q (.bl (bs.all id)) H):=by
  intro pins s σ H xs us Q I r q
  obtain⟨p,bs,rfl,sq,q⟩:=q
  obtain⟨u,rfl,ru⟩:=aI.one r
  cases (show u=Value.ref p from ru)
  have hA:(X.A.in1).handled=none:=I.ok.hd hc
  have tr:∀ (its:List Value),aI (bs.map V.bl) its→TruthOf X.prog X.w X.A.in1 (fun i v=>its.toArray[i]? = some v) (fun i=>bs.getD i false):=fun its rv i v s Q E hP hQ=>by
    rw [wU rv i v hP]
    exact wpAny_truthy_bool hQ
  have fin:∀ {it:Obj} {h':Heap} {tk:Nat} {n:Nat},n=bs.length→(∀ b o,b∉[s.heap.objs.size]→(s.heap.push it).get? b=some o→h'.get? b=some o)→EP X pins σ Q (.bool ((List.range n).all fun i=>bs.getD i false)) { s with heap:=h',toks:=tk }:=by
    intro it h' tk n hn hk
    subst hn
    refine⟨.bl (bs.all id),H,I.kept (t':=tk) fun b o e=>hk b o (by simp;exact Nat.ne_of_lt (Heap.lt_size e)) (Heap.get?_push_of_some _ e),by rw [DL];rfl,q⟩
  rcases sq with sq|sq
  · obtain⟨its,rv,pl,hz⟩:=I.list sq
    have il:s.heap.IsList p its.toArray:=pl.isList
    have hlt:p < s.heap.objs.size:=by obtain⟨o,ho,_⟩:=il;exact Heap.lt_size ho
    refine PySem.call_all_walk (PySem.wpAny_pyIter_list il ?_)
    refine⟨s.heap.objs.size,_,[s.heap.objs.size],_,_,_,fun i=>bs.getD i false,rfl,PySem.Walks.list hA s.heap.objs.size p (Nat.ne_of_lt hlt) its.toArray,⟨⟨_,Heap.get?_push_size _ rfl,rfl,rfl⟩,?_⟩,tr its rv,?_⟩
    · obtain⟨o,ho,r⟩:=il;exact⟨o,Heap.get?_push_of_some _ ho,r⟩
    · exact fun h' tk hk=>fin (by simpa using rv.length.symm) hk
  · obtain⟨its,rv,pl,hz⟩:=I.tuple sq
    have il:s.heap.IsTuple p its.toArray:=pl
    have hlt:p < s.heap.objs.size:=by obtain⟨o,ho,_⟩:=il;exact Heap.lt_size ho
    refine PySem.call_all_walk (PySem.wpAny_pyIter_tuple il ?_)
    refine⟨s.heap.objs.size,_,[s.heap.objs.size],_,_,_,fun i=>bs.getD i false,rfl,PySem.Walks.tuple hA s.heap.objs.size p (Nat.ne_of_lt hlt) its.toArray,⟨⟨_,Heap.get?_push_size _ rfl,rfl,rfl⟩,?_⟩,tr its rv,?_⟩
    · obtain⟨o,ho,r⟩:=il;exact⟨o,Heap.get?_push_of_some _ ho,r⟩
    · exact fun h' tk hk=>fin (by simpa using rv.length.symm) hk
theorem DM {a:Expr} {la:LF} (hc:X.calm=true) (hg:Gl X "all") (hm:X.mg "all" = none) (ha:MQ X a la) (hs:starEach [a] X.env=(false,eval a X.env) :: starEach [] X.env:=by rfl):ME X (.Call (.Name "all" p) [a] [] pos) (yP la):=by
  refine md (g:=fun l h=>match fE l with|some bs=>.ok (.bl (bs.all id)) h|none=>.bad) (wG (BM hc) hg hm (by decide +kernel) (he:=hs)) ha (fun ρ H σd hd σ l q vs Q rs sq rvs p => ?_) hs
  cases c:fE l with
  | none=>simp only [c] at p;exact p.elim
  | some is =>
    simp only [c] at p
    have e:=mi rvs c
    subst e
    exact⟨q,is,rfl,sq.imp id SqT.of,p.here rs (by simp only [rD,RD])⟩
theorem DN {a b:Expr}{la:LF}{fb:EF}(ha:MF X a la)(hb:ME X b fb):MF X (.BinOp a .Mult b pos) (oF la fb):=by
  refine PE.imp (Dd Hn ha hb) fun σ H Q ⟨ρ,σd,hd,rs,pp⟩=>⟨ρ,σd,hd,rs,?_⟩
  unfold oF at pp
  cases e:la σd hd with
  | exc x h'=>rw [e] at pp;exact pp
  | bad=>rw [e] at pp;exact pp
  | ok l hd1 =>
    rw [e] at pp
    simp only [ax] at pp
    intro q vs H1 ρ1 e1 rs1 hq0 hq hn rvs
    refine⟨ρ1,σd,hd1,rs1,?_⟩
    cases e2:fb σd hd1 with
    | exc x h'=>rw [e2] at pp;exact pp
    | bad=>rw [e2] at pp;exact pp
    | ok y hd2 =>
      rw [e2] at pp
      simp only [ax] at pp
      intro v H2 ρ2 ex2 rs2 rv
      cases y<;>try exact pp.elim
      rename_i n
      simp only at pp
      split at pp
      · rename_i hz
        simp only [rD,RD] at rv
        subst rv
        have hq2:H2 q=some (.lst vs):=ex2.frame q _ hq hn
        have rvs2:=rvs.mono (rs1.hp.kp ex2)
        refine⟨q,n,vs,rfl,rfl,hq2,by omega,by omega,by rw [← rvs.length,sizeLine_eq];omega,fun p' hp' => ?_⟩
        exact wF.mk pp (e1.trans ex2) rs2 (RDs.rep rvs2 n.toNat) p' hp'
      · exact pp.elim
theorem HS {a b:Expr} {fa fb:EF} (hc:X.calm=true) (hg:Gl X "max") (hm:X.mg "max" = none) (ha:ME X a fa) (hb:ME X b fb) (hs:starEach [a,b] X.env=(false,eval a X.env) :: starEach [b] X.env:=by rfl) (hs2:starEach [b] X.env=(false,eval b X.env) :: starEach [] X.env:=by rfl) (hpl:(backTo pos (starEach [b] X.env)).any (fun x=>x.1)=false:=by rfl):ME X (.Call (.Name "max" p) [a,b] [] pos) (y6 fa fb):=by
  refine PE.imp (fU (By hc) hg hm (by decide +kernel) (cx ha (cx hb eA hs2) hs) (he:=hs) (hpl:=hpl)) fun σ H Q ⟨ρ,σd,hd,rs,pp⟩=>⟨ρ,σd,hd,rs,?_⟩
  unfold y6 at pp
  refine (bp.bind (R:=rD X.K) pp).imp fun v H1 ⟨ρ1,d,hd1,e1,rs1,rv,p1⟩ => ?_
  refine⟨ρ1,σd,hd1,rs1,(bp.bind (R:=rD X.K) p1).imp fun w H2 ⟨ρ2,k,hd2,e2,rs2,rw',p2⟩ => ?_⟩
  cases d<;>try exact p2.elim
  cases k<;>try exact p2.elim
  simp only [rD,RD] at rv rw'
  subst rv rw'
  exact⟨_,_,rfl,p2.here rs2 (by simp only [rD,RD])⟩
theorem gD {a b:Expr}{fa fb:EF}(ha:ME X a fa)(hb:ME X b fb):MF X (.BinOp a .Add b pos) (cQ fa fb):=by
  refine PE.imp (Dd Hm ha hb) fun σ H Q ⟨ρ,σd,hd,rs,pp⟩=>⟨ρ,σd,hd,rs,?_⟩
  unfold cQ at pp
  cases e:fa σd hd with
  | exc x h'=>rw [e] at pp;exact pp
  | bad=>rw [e] at pp;exact pp
  | ok d hd1 =>
    rw [e] at pp
    simp only [ax] at pp
    intro v H1 ρ1 e1 rs1 rv
    refine⟨ρ1,σd,hd1,rs1,?_⟩
    cases e2:fb σd hd1 with
    | exc x h'=>rw [e2] at pp;exact pp
    | bad=>rw [e2] at pp;exact pp
    | ok k hd2 =>
      rw [e2] at pp
      simp only [ax] at pp
      intro w H2 ρ2 ex2 rs2 rw'
      cases d with
      | ref n =>
        cases k with
        | ref m =>
          simp only at pp
          simp only [rD,RD] at rv rw'
          obtain⟨a1,ha1,rfl⟩:=rv
          obtain⟨b1,hb1,rfl⟩:=rw'
          have ha2:=ex2.get ha1
          cases c1:hd2[n]? with
          | none=>rw [c1] at pp;exact pp.elim
          | some x1 =>
            cases c2:hd2[m]? with
            | none=>rw [c1,c2] at pp;cases x1<;>exact pp.elim
            | some x2 =>
              rw [c1,c2] at pp
              cases x1 with
              | dct _=>exact pp.elim
              | lst l =>
                cases x2 with
                | dct _=>exact pp.elim
                | lst k =>
                  simp only at pp
                  split at pp
                  · rename_i hz
                    obtain⟨vs1,hv1,rvs1⟩:=rs2.hp.cel n _ a1 c1 ha2
                    obtain⟨vs2,hv2,rvs2⟩:=rs2.hp.cel m _ b1 c2 hb1
                    refine⟨a1,b1,vs1,vs2,rfl,rfl,hv1,hv2,by rw [← rvs1.length,← rvs2.length];exact kR hz,fun p' hp' => ?_⟩
                    exact wF.mk pp (e1.trans ex2) rs2 (RDs.append rvs1 rvs2) p' hp'
                  · exact pp.elim
        | _=>exact pp.elim
      | _=>exact pp.elim
theorem wV (l b:Addr)(items items2:Array Value)(n n2:Nat)(dd dd2:Option Addr)(sl sl2:Array (Option Value))(hc0:items.isEmpty=true) :
    Meets (Builtin.«tuple.__add__» ⟨[.ref l,.ref b],[]⟩) (fun _ R s=>s.heap.get? l=some { cls:=.type "tuple",dict:=dd,data:=.seq items n,slots:=sl } ∧ s.heap.get? b=some { cls:=.type "tuple",dict:=dd2,data:=.seq items2 n2,slots:=sl2 } ∧ R (.ok (.ret (Value.ref b))) s) :=
  .of_wp fun prog w A R s h=>by obtain⟨hp,g,d,tk,os⟩:=s;obtain⟨hl,hb,h⟩:=h;have f1:=PySem.AutoSeq1.idx_int;have f2:=PySem.AutoSeq1.sub_tuple_tuple;wp_walk using wpAny_loadPart' hl,wpAny_loadPart' hb;exact⟨_,rfl,h⟩
def DO (K:PySem.W.Frag):R2:=fun x y H Q=>∃ a b ys,x=.ref a∧y=.ref b∧SqT K H a []∧SqT K H b ys∧Q (.ref b) H
theorem FJ:OpR X (binaryOp .Add) (DO X.K):=by
  intro pins s σ H x y v u Q I rx ry h
  obtain⟨a,b,ys,rfl,rfl,ha,hb,q⟩:=h
  cases rx
  cases ry
  obtain⟨its,r1,p1,_⟩:=I.tuple ha
  obtain⟨its2,r2,p2,_⟩:=I.tuple hb
  cases r1
  obtain⟨⟨cls,dd,data,sl⟩,ho,hc,n,hd⟩:=id p1
  obtain⟨⟨cls2,dd2,data2,sl2⟩,ho2,hc2,n2,hd2⟩:=id p2
  simp only at hc hd hc2 hd2
  subst hc hd hc2 hd2
  exact concat_meets ⟨_,ho,rfl⟩ ⟨_,ho2,rfl⟩ noFill_tuple_add seq_tuple_add PySem.F.slot_tuple_add PySem.F.entry_tuple_add (PySem.F.args_tuple_add_2 _ _)
    (wV a b _ its2.toArray n n2 dd dd2 sl sl2 rfl) ⟨ho,ho2,⟨.ref b,H,I,rfl,q⟩⟩
theorem FK:OpR X (binaryOp .Add) (fun x y H Q=>DO X.K x y H Q∨wC X.K x y H Q):=FJ.or Ax
theorem FL {K:PySem.W.Frag}:Og K AV (fun x y H Q=>DO K x y H Q∨wC K x y H Q):=by
  intro ρ H σd hd σ d k v w Q rs rv rw' pp
  cases d with
  | tup xs =>
    cases k with
    | tup ys =>
      simp only [AV] at pp
      split at pp
      · rename_i hz
        simp only [RD] at rv
        obtain⟨a,vs,rfl,ha,rvs⟩:=rv
        have rw2:=rw'
        simp only [RD] at rw'
        obtain⟨b,ws,rfl,hb,rws⟩:=rw'
        cases xs with
        | nil =>
          simp only [RDs] at rvs
          subst rvs
          exact .inl ⟨a,b,ws,rfl,rfl,SqT.of ha,SqT.of hb,pp.here rs (by simpa using rw2)⟩
        | cons x xs =>
          refine .inr ⟨a,b,vs,ws,rfl,rfl,SqT.of ha,SqT.of hb,?_,?_,fun z => ?_,fun _ q hq => ?_⟩
          · intro z;subst z;have:=rvs.length;simp at this
          · rw [← rvs.length,← rws.length];exact kR hz
          · subst z
            have hy:ys=[]:=by have:=rws.length;simpa using this
            subst hy
            exact pp.here rs (by simp only [rD,RD];exact⟨a,vs,rfl,ha,by simpa using rvs⟩)
          · have sm:=bG (o:=HO.tup (vs++ws)) hq
            exact pp.at (Ext.same sm) (rs.same sm) (by simp only [rD,RD];exact⟨q,_,rfl,aO,(RDs.append rvs rws).mono (Kp.same sm)⟩)
      · exact pp.elim
    | _=>exact pp.elim
  | _=>exact pp.elim
end
end Fm
set_option linter.all false
namespace Fm
noncomputable section
open Classical
def Jy (l:List D):List D:=(List.range l.length).zip l |>.map fun p=>.tup [.int (p.1:Nat),p.2]
end
end Fm
set_option Elab.async false
set_option linter.all false
set_option maxRecDepth 100000
namespace Fm
open PySem PySem.Spec L2
open PyProof.Rows (Call_)
section
variable {prog:Program} {w:World} {A:Around} {E:Value→Shared→Prop} {s:Shared} {z TI TO i1 i2 l1 l2:Addr} {k:Nat} {xs ys:Array Value} {a b:Value}
end
section
variable {prog:Program} {w:World} {A:Around} {E:Value→Shared→Prop} {s:Shared}
end
section
variable {X:Cx} {pos p tp:Pos} {elts:List Expr} {tk:Nat}
end
end Fm
set_option Elab.async false
set_option linter.all false
set_option maxRecDepth 100000
namespace Fm
open PySem PySem.Spec L2 PySem.W PyProof.Rows
section
variable {X:Cx} {pos p:Pos}
end
section
variable {prog:Program} {w:World} {A:Around} {E:Value→Shared→Prop} {s:Shared}
end
section
variable {X:Cx} {pos p:Pos}
end
end Fm
set_option Elab.async false
set_option linter.all false
set_option maxRecDepth 100000
namespace Fm
open PySem PySem.Spec L2
open AutoSeq1 (wpAny_loadPart')
open PyProof.Rows (Call_)
section
variable {X:Cx} {pos p tp:Pos} {elts:List Expr} {tk:Nat}
end
section
variable {X:Cx} {pos:Pos} {tg:Expr}
end
end Fm
set_option linter.all false
namespace Fm
end Fm
set_option Elab.async false
set_option linter.all false
set_option maxRecDepth 100000
namespace Fm
open PySem PySem.Spec L2
open PyProof.Rows (Call_)
section
variable {X:Cx} {pos p p2 pos2:Pos}
end
end Fm
set_option linter.all false
namespace Fm
end Fm
set_option linter.all false
namespace Fm
noncomputable section
open Classical
@[simp] def Ku (nl:Nat) (caps:List Nat) (a:EF) (tg:GF) (cs:List TF) (e:EF):LF:=fun σ h=>match a σ h with
  | .ok (.ref n) h=>match h[n]? with
    | some (.lst l)=>eQ (fun h=>h[n]? = some (.lst l)) tg cs e (Jy l) (d6 nl caps σ) h
    | _=>.bad
  | .ok _ _=>.bad
  | .exc x h=>.exc x h
  | .bad=>.bad
end
@[simp] def wW (x:EF) (L:LF):EF:=fun σ h=>(x σ h).bind fun p h=>match p with
  | .ref n=>match h[n]? with
    | some (.lst _)=>(L σ h).bind fun ds h=>match h[n]? with
      | some (.lst l)=>if l.length + ds.length≤SZ then .ok .non (h.set n (.lst (l++ds))) else .bad
      | _=>.bad
    | _=>.bad
  | _=>.bad
end Fm
set_option Elab.async false
set_option linter.all false
set_option maxRecDepth 100000
namespace Fm
open PySem PySem.Spec L2
section
variable {X:Cx} {pos:Pos} {scope:Scope} {own capn:List Str} {caps:List Nat}
end
section
variable {X:Cx}
theorem FM {o e:Expr} {fo:EF} {L:LF} {apos cpos:Pos} (ho:ME X o fo) (he:MF X e L) (hbase:attributeBase o "extend" X.env (eval o X.env)=eval o X.env:=by rfl)
    (hfew:((backTo cpos (starEach [e] X.env)).all (fun x => !x.1) && (backToKw cpos (keywordEach [] X.env)).all (fun x=>x.1.isSome)
      && decide (([e] : List Expr).length + ([] : List Keyword).length + (if ([] : List Keyword).isEmpty then 0 else 1) < 30))=true:=by rfl)
    (hline:(apos.endLine == cpos.line)=true:=by rfl) (hs:starEach [e] X.env=(false,eval e X.env) :: starEach [] X.env:=by rfl) :
    ME X (.Call (.Attribute o "extend" apos) [e] [] cpos) (wW fo L):=by
  refine PE.imp (Gx PySem.F.plainAttrs_list PySem.F.slot_list_extend PySem.F.type_list_extend BB ho (cx he eA hs) hbase hfew hline hs) fun σ H Q ⟨ρ,σd,hd,rs,pp⟩=>⟨ρ,σd,hd,rs,?_⟩
  unfold wW at pp
  refine (bp.bind (R:=rD X.K) pp).imp fun v H1 ⟨ρ1,d,hd1,e1,rs1,rv,p1⟩ => ?_
  cases d<;>try exact p1.elim
  rename_i n
  simp only [rD,RD] at rv
  obtain⟨a,ha,rfl⟩:=rv
  simp only at p1
  cases c1:hd1[n]? with
  | none=>rw [c1] at p1;exact p1.elim
  | some cell1 =>
    rw [c1] at p1
    cases cell1 with
    | dct l=>exact p1.elim
    | lst l1 =>
      obtain⟨vs,hv,_⟩:=rs1.hp.cel n _ a c1 ha
      simp only at p1
      refine⟨.inl ⟨rfl,vs,SqL.of hv⟩,ρ1,σd,hd1,rs1,?_⟩
      cases c2:L σd hd1 with
      | exc z h7=>rw [c2] at p1;exact p1.elim
      | bad=>rw [c2] at p1;exact p1.elim
      | ok ds hd2 =>
        rw [c2] at p1
        simp only [ax] at p1
        intro q ws H2 ρ2 e2 rs2 hq0 hq hn rws
        cases c:hd2[n]? with
        | none=>rw [c] at p1;exact p1.elim
        | some cell =>
          rw [c] at p1
          cases cell with
          | dct l=>exact p1.elim
          | lst l =>
            simp only at p1
            split at p1
            · rename_i hz
              have ha2:=e2.get ha
              obtain⟨vs2,hv2,rvs2⟩:=rs2.hp.cel n _ a c ha2
              refine⟨a,q,vs2,ws,rfl,rfl,hv2,hq,?_,?_⟩
              · rw [← rvs2.length,← rws.length];exact Nat.le_trans hz (by rw [sizeLine_eq];decide)
              · have hn:n < hd2.length:=(List.getElem?_eq_some_iff.mp c).1
                have rh:=rs2.hp.write ha2 hn (RDs.append rvs2 rws)
                have ex:Ext ρ2 H2 ρ2 (upd H2 a (.lst (vs2++ws))):=Ext.write (List.mem_of_getElem? ha2)
                exact (p1.ext e2).at ex (rs2.ext ex rh) (by simp only [rD,RD])
            · exact p1.elim
end
end Fm
set_option Elab.async false
set_option linter.all false
set_option maxRecDepth 100000
namespace L2
open PySem PySem.Spec PyProof.Rows PySem.W PySem.Builtin PySem.Builtin.ObjectAttr PySem.Builtin.Getset_descriptor
structure p7 (K:PySem.W.Frag) (D:Addr):Prop where
  ga:PySem.W.findIn K (.ref D) "__getattribute__" = some (some (.builtin "BaseException.__getattribute__"))
  gt:PySem.W.findIn K (.ref D) "__getattr__" = some none
  cl:PySem.W.findIn K (.ref D) "__class__" = some (some (.builtin "object.__class__"))
  be:PySem.W.subIn K (.ref D) (.type "BaseException")=some true
  ob:PySem.W.mroIn K D (.type "object")=some true
  is:(PySem.W.clsIn K D).isSome=true
section
variable {prog:Program} {w:World} {A:Around} {E:Value→Shared→Prop} {K:PySem.W.Frag} {D:Addr} {h:Heap} {g:Array GenState} {d:Drawn} {t:Nat} {os:OsState} {a:Addr} {o:Obj} {vs:Array Value}
theorem om.type {M:Model}(I:om h a D o):PySem.W.Looks M h (typeOf (.ref a)) (.ref D):=I.cls ▸ (PySem.W.Looks.ld I.at_).andThen .now
theorem HU {R:Result→Shared→Prop} {tp:Value} (X:K.In h) (I:om h a D o) (hm:PySem.W.mroIn K D (.type "object")=some true) (hq:R (.ok (.ret (.ref D))) ⟨h,g,d,t,os⟩) :
    codeAny (model prog w) A (.call (.builtin "getset_descriptor.__get__") ⟨[.builtin "object.__class__",.ref a,tp],[]⟩) R ⟨h,g,d,t,os⟩:=by
  have hT5:(⟨h,g,d,t,os⟩ : Shared).TypeIs (.builtin "object.__class__") "getset_descriptor" := F.typeOf_object_class
  have L0:=I.type (M:=model prog w)
  have L1:=PySem.W.looks_mroIn (M:=model prog w) X hm
  refine codeAny_call_builtin F.slot_gs_get.plain F.entry_gs_get (F.slot_gs_get.check _ _ _ _ _ _ _ _ hT5 (F.args_gs_get _ _ _) ?_)
  unfold Builtin.«getset_descriptor.__get__» descrGet
  rw [PySem.W.dga_obj]
  refine wpAny_bind (wpAny_pure ?_);unfold descrGetter descrCheckInstance descrNameAndClass isInstance
  simp only [KF.owner_class]
  repeat (first|with_reducible refine L0.at ?_|with_reducible refine L1.at ?_|lk)
  refine⟨Code.quiet_builtin _ (by decide +kernel),codeAny_builtin F.entry_object_class ?_⟩
  unfold Builtin.«object.__class__» shownTypeOf
  repeat (first|with_reducible refine L0.at ?_|lk)
  exact hq
theorem DP {tk:Tok}{Q:Fin→Shared→Prop}(Z:p7 K D)(X:K.In h)(I:om h a D o)(hq:Q (.done (.ret (.ref D))) ⟨h,g,d,t,os⟩) :
    wpAny (model prog w) A (Builtin.«object.__getattribute__» ⟨[.ref a,.str "__class__" tk],[]⟩) Q E ⟨h,g,d,t,os⟩:=by
  have L0:=I.type (M:=model prog w)
  have L1:=PySem.W.looks_findIn (M:=model prog w) X Z.cl
  have hT5:(⟨h,g,d,t,os⟩ : Shared).TypeIs (.builtin "object.__class__") "getset_descriptor" := F.typeOf_object_class
  have f5:=F.typeOf_object_class
  have f6:=F.slot_gs_get.lookup
  have f7:=F.slot_gs_set.lookup
  repeat (any_goals (first|assumption|with_reducible refine L0.at ?_|with_reducible refine L1.at ?_|wp_step))
  refine HU X I Z.ob ?_
  repeat (any_goals (first|assumption|wp_step))
theorem DQ {M:Model}{nameV:Value}{Q:Unit→Shared→Prop}(Z:p7 K D)(X:K.In h)(I:om h a D o)(hq:Q () ⟨h,g,d,t,os⟩) :
    wpAny M A (checkBuiltinCall "BaseException.__getattribute__" ⟨[.ref a,nameV],[]⟩) Q E ⟨h,g,d,t,os⟩:=by
  have hk:builtinKind "BaseException.__getattribute__" = some .slot:=by decide +kernel
  have hsplit:splitId "BaseException.__getattribute__" = some ("BaseException", "__getattribute__"):=by decide +kernel
  have ha:=F.args_bexc_ga (.ref a) nameV
  have L0:=I.type (M:=M)
  have L1:=PySem.W.looks_subIn (M:=M) X Z.be
  simp only [checkBuiltinCall,hk,hsplit]
  refine wpAny_bind ?_
  unfold isInstance
  repeat (first|with_reducible refine L0.at ?_|with_reducible refine L1.at ?_|wp_step)
  exact hq
theorem FN {tk:Tok}{R:Result→Shared→Prop}(Z:p7 K D)(X:K.In h)(I:om h a D o)(hq:R (.ok (.ret (.ref D))) ⟨h,g,d,t,os⟩) :
    codeAny (model prog w) A (.call (.builtin "BaseException.__getattribute__") ⟨[.ref a,.str "__class__" tk],[]⟩) R ⟨h,g,d,t,os⟩ :=
  codeAny_call_builtin F.attr_ValueError.ga.plain F.entry_bexc_ga (DQ Z X I (DP Z X I hq))
theorem Jz {tk:Tok}{fill expr:Bool}{Q:Value→Shared→Prop}(Z:p7 K D)(X:K.In h)(I:om h a D o)(hq:Q (.ref D) ⟨h,g,d,t,os⟩) :
    wpAny (model prog w) A (getAttrBy (.ref a) (.str "__class__" tk) fill expr) Q E ⟨h,g,d,t,os⟩:=by
  have f3:=F.attr_ValueError.ga.bind (.ref a)
  have hx0:(expr && onTheHeap (Value.builtin "BaseException.__getattribute__"))=false:=by cases expr<;>rfl
  have hx2:(Value.builtin "BaseException.__getattribute__" == Value.builtin "object.__getattribute__")=false:=by decide +kernel
  have hx1:(onTheHeap (Value.ref D) && Value.builtin "BaseException.__getattribute__" == Value.builtin "object.__getattribute__")=false:=by rw [hx2];rfl
  have L0:=I.type (M:=model prog w)
  have L1:=PySem.W.looks_findIn (M:=model prog w) X Z.ga
  have L2:=PySem.W.looks_findIn (M:=model prog w) X Z.gt
  repeat (any_goals (first|assumption|with_reducible refine L0.at ?_|with_reducible refine L1.at ?_|with_reducible refine L2.at ?_|wp_step))
  refine FN Z X I ?_
  repeat (any_goals (first|assumption|wp_step))
theorem FO {Q:Option Value→Shared→Prop}(Z:p7 K D)(X:K.In h)(I:om h a D o)(hq:Q (some (.ref D)) ⟨h,g,d,t + 1,os⟩) :
    wpAny (model prog w) A (getAttr? (.ref a) "__class__") Q E ⟨h,g,d,t,os⟩:=by
  unfold getAttr? getAttrBy?
  repeat (any_goals (first|assumption|with_reducible apply Jz Z X I|wp_step))
theorem HV (Z:p7 K D):PySem.W.KitX K (.ref a) (.ref D) (fun h=>∃ o,om h a D o) where
  ty:=fun _ _ _ ⟨o,I⟩=>I.type
  it:=fun _ _ X _=>by
    obtain⟨cd,hc⟩:=Option.isSome_iff_exists.mp Z.is
    unfold PySem.W.clsIn at hc
    split at hc
    · rename_i c' d' cd' sl' ho
      intro A' Q' E' s' k q
      unfold isType loadHead
      exact wpAny_bind (wpAny_loadPart (k _ _ (X _ _ ho)) (wpAny_pure q))
    · cases hc
  ne:=fun h tp dd its n sl X htp=>by
    obtain⟨cd,hc⟩:=Option.isSome_iff_exists.mp Z.is
    refine Bool.eq_false_iff.mpr fun q => ?_
    have e:D=tp:=Value.ref.inj (beq_iff_eq.mp q)
    subst e
    unfold PySem.W.clsIn at hc
    split at hc
    · rename_i c' d' cd' sl' ho
      have z:=(X _ _ ho).symm.trans htp
      cases z
    · cases hc
  ca:=fun {_ _ _ _ _ s} X ⟨o,I⟩ k=>by obtain⟨h,g,d,t,os⟩:=s;exact FO Z X I k
theorem DR {M:Model} {B:Addr} {Q:Bool→Shared→Prop} (X:K.In h) (I:om h a D o) (hs:PySem.W.subIn K (.ref D) (.ref B)=some true) (hb:PySem.W.subIn K (.ref B) (.type "BaseException")=some true)
    (hc:(PySem.W.clsIn K B).isSome=true) (ht:PySem.W.typeIn K (.ref B)=some (.type "type")) (hq:Q true ⟨h,g,d,t,os⟩):wpAny M A (excMatches (.ref a) (.ref B)) Q E ⟨h,g,d,t,os⟩:=by
  have L0:=I.type (M:=M)
  have L1:=PySem.W.looks_subIn (M:=M) X hs
  have L2:=PySem.W.looks_subIn (M:=M) X hb
  have L3:=PySem.W.looks_typeIn (M:=M) X ht
  have f:=tc_notTuple
  obtain⟨cd,hcd⟩:=Option.isSome_iff_exists.mp hc
  unfold PySem.W.clsIn at hcd
  split at hcd
  · rename_i c' d' cd' sl' ho
    have hB:=X _ _ ho
    unfold excMatches
    repeat (first|with_reducible refine L0.at ?_|with_reducible refine L1.at ?_|with_reducible refine L2.at ?_|with_reducible refine L3.at ?_|with_reducible refine wpAny_loadPart_at hB ?_|wp_step)
    exact hq
  · cases hcd
end
end L2
set_option Elab.async false
set_option linter.all false
set_option maxRecDepth 100000
namespace L2
open PySem PySem.Spec PyProof.Rows
section
variable {P:Program} {w:World} {H:Hp} {h:Heap} {a:Addr} {o:HO}
theorem dl.obj (x:dl P w H h a o):∃ ob,h.get? a=some ob:=by
  induction o with
  | lst xs=>obtain⟨_,_,_,_,e⟩:=x;exact⟨_,e⟩
  | tup xs=>obtain⟨_,_,_,ob,e,_⟩:=x;exact⟨_,e⟩
  | dK kvs=>obtain⟨_,_,_,_,o,_,_,e,_⟩:=x;exact⟨_,e⟩
  | dT kvs=>obtain⟨_,_,_,_,o,_,_,e,_⟩:=x;exact⟨_,e⟩
  | set S n=>obtain⟨o,_,_,_,e,_⟩:=x;exact⟨_,e⟩
  | ins C dx fs=>obtain⟨_,_,_,e,_⟩:=x;exact⟨_,e⟩
  | own y=>obtain⟨_,e⟩:=x;exact⟨_,e⟩
  | xd fs=>obtain⟨_,⟨ob,_,_,e,_⟩,_⟩:=x;exact⟨_,e⟩
  | rng lo hi=>obtain⟨_,_,_,e⟩:=x;exact⟨_,e⟩
  | frz ob u ih=>obtain⟨e,_⟩:=x;exact⟨_,e⟩
  | tbl ps=>exact⟨_,x⟩
  | met f y=>exact⟨_,x⟩
  | ext φ => obtain⟨_,⟨ob,e⟩,_⟩:=x;exact⟨_,e⟩
end
structure Cov (X:Cx) (pins:List (Addr × Obj)) (H:Hp) (B:Heap):Prop where
  trk:∀ b u,H b=some u → ∃ o,B.get? b=some o
  old:∀ b o,X.s₀.heap.get? b=some o→b∉frs X.stack→b∉X.ex → ∃ o,B.get? b=some o
  pin:∀ p∈X.pn++pins,∃ o,B.get? p.1=some o
section
variable {X:Cx} {pins:List (Addr × Obj)} {σ:St} {H:Hp} {s:Shared} {B h':Heap}
theorem Inv.flown (I:Inv X pins σ H s)(b1:B.StaysIn s.heap)(b2:B.StaysIn h')(sm:s.heap.UpToSlots h')(c:Cov X pins H B)(t':Nat):Inv X pins σ H { s with heap:=h',toks:=t' }:=by
  have same:∀ b o,(∃ u,B.get? b=some u)→s.heap.get? b=some o→h'.get? b=some o:=fun b o ⟨u,e⟩ q=>by
    have:=b1 b u e
    rw [q] at this;cases this
    exact b2 b _ e
  have nst:∀ b o,X.s₀.heap.get? b=some o→b∉X.fs→b∉frs X.stack:=fun b o e hb hs=>by
    rcases List.mem_cons.mp (I.stkSub b hs) with z|z
    · exact absurd z (Nat.ne_of_lt (Nat.lt_of_lt_of_le (Heap.lt_size e) I.ok.above))
    · exact hb z
  have fsl:∀ b o,b∈X.fs→s.heap.get? b=some o → ∃ sl,h'.get? b=some { o with slots:=sl }:=fun b o hb e=>by
    obtain⟨_,o',ho',nf⟩:=I.funs.mem hb
    rw [e] at ho';cases ho'
    exact sm b o e nf
  have cellK:∀ c v,s.heap.IsCell c v→h'.IsCell c v:=fun c v ⟨o,ho,hd⟩=>by
    obtain⟨sl,q⟩:=sm c o ho (fun vs z=>by rw [hd] at z;cases z)
    exact⟨_,q,hd⟩
  refine⟨I.ok,I.os,I.bare,⟨fun b o e n hb hx => ?_,fun b o e n hb hx => ?_,I.base.free,fun b o e hx => ?_,I.base.tups,I.base.frzs,I.base.tbls⟩,?_,fun x c e => ?_,I.free,I.freeC,fun p hp => ?_,fun b u e => ?_,I.len⟩
  · exact same b o (c.old b o e (nst b o e hb) hx) (I.base.keep b o e n hb hx)
  · obtain⟨sl,e1⟩:=I.base.slot b o e n hb hx
    obtain⟨sl',e2⟩:=fsl b _ hb e1
    exact⟨sl',e2⟩
  · obtain⟨o',e1⟩:=I.base.there b o e hx
    by_cases hb:b∈X.fs
    · obtain⟨sl,e2⟩:=fsl b o' hb e1;exact⟨_,e2⟩
    · exact⟨o',same b o' (c.old b o e (nst b o e hb) hx) e1⟩
  · obtain⟨m,hn,hl⟩:=I.loc
    refine⟨m,sm.ns hn,fun i x v e1 e2 e3 => ?_⟩
    obtain⟨u,r,l⟩:=hl i x v e1 e2 e3
    refine⟨u,r,?_⟩
    rcases l with l|⟨k,c,e,z⟩
    · exact .inl l
    · exact .inr ⟨k,c,e,cellK c _ z⟩
  · obtain⟨v,z⟩:=I.cell x c e
    exact⟨v,cellK c v z⟩
  · obtain⟨e,n,ne,nf,d⟩:=I.pin p hp
    exact⟨same _ _ (c.pin p hp) e,n,ne,nf,d⟩
  · refine (I.hok b u e).stay (fun c' v hc q=>same c' v ?_ q) (fun _ q=>q) fun _ _ q=>q
    rcases hc with z|z
    · rw [z];exact c.trk b u e
    · exact c.trk c' _ z
def XF (X:Cx) (E:Addr→Hp→Prop) (e:Value) (s':Shared):Prop:=∃ pins σ H a C B t,e=.ref a∧Inv X pins σ H s'∧Heap.FlyingW B X.stack a (.ref C) (.ref t) s'.heap∧Cov X pins H B∧E C H
def XAt (X:Cx) (pins:List (Addr × Obj)) (σ:St) (H:Hp) (a C:Addr) (s':Shared):Prop :=
  (∃ s1 h' vs,Inv X pins σ H s1∧Heap.MadeExcOf s1.heap h' a (.ref C) vs∧s' = { s1 with heap:=h' }) ∨
  (∃ B t,Inv X pins σ H s'∧Heap.FlyingW B X.stack a (.ref C) (.ref t) s'.heap∧Cov X pins H B)
def XP (X:Cx) (E:Addr→Hp→Prop) (e:Value) (s':Shared):Prop:=∃ pins σ H a C,e=.ref a∧XAt X pins σ H a C s'∧E C H
def CX1 (P:Program) (w:World):CXT:=fun outer H s E e s'=>∃ a C B t H',e=.ref a∧s'.os=s.os∧AllBare s'.gens∧Un (frs outer) [] H H' s.heap s'.heap∧HOk P w H' s'.heap ∧
  Heap.FlyingW B outer a (.ref C) (.ref t) s'.heap∧(∀ b u,H' b=some u → ∃ o,B.get? b=some o)∧(∀ b o,s.heap.get? b=some o→b∉frs outer → ∃ o,B.get? b=some o)∧E (.ref C) none H'
theorem XF.xp {E:Addr→Hp→Prop}{e:Value}{s':Shared}:XF X E e s'→XP X E e s':=fun ⟨pins,σ,H,a,C,B,t,he,I,fl,c,q⟩=>⟨pins,σ,H,a,C,he,.inr ⟨B,t,I,fl,c⟩,q⟩
theorem JA {E:XK}{E':Addr→Hp→Prop}{R:Value→Shared→Prop}(h:∀ C H,E (.ref C) none H→E' C H)(hR:∀ e s',XF X E' e s'→R e s'):oi (CX1 X.prog X.w) (X.wish R) E:=by
  rintro pins σ H s e s' I ⟨a,C,B,t,H',he,os,bare,un,hok,fl,trk,old,q⟩
  have I0:=I.unwish
  have I':Inv X pins σ H' s':=I0.call' (ch:=[]) os un hok bare (fun b z=>absurd z (by simp))
  refine hR _ _ ⟨pins,σ,H',a,C,B,t,he,I',fl,⟨trk,fun b o e hb hx => ?_,fun p hp => ?_⟩,h C H' q⟩
  · obtain⟨o',e'⟩:=I0.base.there b o e hx
    exact old b o' e' hb
  · obtain⟨e,n,ne,nf,_⟩:=I0.pin p hp
    exact old p.1 p.2 e fun z=>(List.mem_cons.mp (I0.stkSub p.1 z)).elim ne nf
theorem DS (I:Inv X pins σ H s):Cov X pins H (PySem.W.hideAll s.heap (frs X.stack)) where
  trk:=fun b u e=>by
    obtain⟨o,q⟩:=(I.hok b u e).obj
    refine⟨o,PySem.W.hideAll_get _ q fun z => ?_⟩
    rw [I.stkFree b z] at e;cases e
  old:=fun b o e hb hx=>by
    obtain⟨o',e'⟩:=I.base.there b o e hx
    exact⟨o',PySem.W.hideAll_get _ e' hb⟩
  pin:=fun p hp=>by
    obtain⟨e,n,ne,nf,_⟩:=I.pin p hp
    exact⟨_,PySem.W.hideAll_get _ e fun z=>(List.mem_cons.mp (I.stkSub p.1 z)).elim ne nf⟩
end
theorem y7 {P:Program}{w:World}{K:PySem.W.Frag}{mg:Str→Option Value}{base:Heap}{N:List Str}{qual:Str}{scope:Scope}{f:Addr}{cd:Value}{A:Around}{outer:List Env}{s:Shared}{H:Hp}{E:XK}{e:Value}{s':Shared}
    (h:XP (nE (CX1 P w) P w K mg base N qual scope f cd A outer s H E) (fun C H'=>E (.ref C) none H') e s'):(nE (CX1 P w) P w K mg base N qual scope f cd A outer s H E).xe e s':=by
  obtain⟨pins,σ,H',a,C,rfl,hx,q⟩:=h
  have fin:∀ {s1:Shared} {B:Heap} {h':Heap} {t:Addr},Inv (nE (CX1 P w) P w K mg base N qual scope f cd A outer s H E) pins σ H' s1→B.StaysIn s1.heap→s1.heap.UpToSlots h' →
      Cov (nE (CX1 P w) P w K mg base N qual scope f cd A outer s H E) pins H' B→Heap.FlyingW B outer a (.ref C) (.ref t) h'→CX1 P w outer H s E (.ref a) { s1 with heap:=h' }:=by
    intro s1 B h' t I b1 sm c fl
    have J:=I.flown (h':=h') b1 fl.1 sm c s1.toks
    refine⟨a,C,B,t,H',rfl,J.os,J.bare,J.base,J.hok,fl,c.trk,fun b o e hb=>c.old b o e (fun z => ?_) (fun z=>absurd (show b∈([] : List Addr) from z) (by simp)),q⟩
    rcases List.mem_cons.mp (I.stkSub b z) with y|y
    · exact absurd y (Nat.ne_of_lt (Nat.lt_of_lt_of_le (Heap.lt_size e) I.ok.above))
    · exact hb y
  rcases hx with ⟨s1,h1,vs,I,mk,rfl⟩|⟨B,t,I,fl,c⟩
  · have hin:∀ env∈(envOfC qual scope s.heap.objs.size f cd :: outer),∀ b,env.frame=some b→b∈frs (envOfC qual scope s.heap.objs.size f cd :: outer):=fun env he b hb=>List.mem_filterMap.mpr ⟨env,he,hb⟩
    refine wpAny_leaves_madeW (base:=PySem.W.hideAll s1.heap (frs (envOfC qual scope s.heap.objs.size f cd :: outer))) (I.ok.frames) rfl (fun b o q=>PySem.W.of_hideAll _ q) (PySem.W.funFrames_hide I.stack hin) mk fun h' t x1 x2 x3 x4 => ?_
    exact fin (s1:=s1) (h':=h') (t:=t) I (fun b o q=>PySem.W.of_hideAll _ q) ((Heap.UpToSlots.of_keeps mk.keeps).trans x4) (DS I) x1
  · exact wpAny_leaves_onW I.ok.frames rfl fl fun h' x1 x2=>fin I fl.1 x2 c x1
end L2
set_option Elab.async false
set_option linter.all false
set_option maxRecDepth 100000
namespace L2
open PySem PySem.Spec PyProof.Rows
section
variable {X:Cx} {E:Addr→Hp→Prop} {x:Str} {C:Addr} {bm:List Value} {B newId initId:String} {np cpos pos:Pos} {e₀ : Expr} {rest:List Expr} {ta:TA}
def HW (C:Addr) (E:Addr→Hp→Prop) (ta:TA):TS:=fun _ σ H=>ta σ H fun vs H1=>vs.length≤sizeLine∧E C H1
theorem DT (O:OwnCls x C bm newId X.mg X.base) (FB:ExcBaseFacts B newId initId bm) (hc:X.calm=true) (hg:Gl X x) (ha:PA (X.wish (XP X E)) (e₀ :: rest) ta) (hdb:(x == ("__debug__" : Str))=false:=by decide)
    (he:starEach (e₀ :: rest) X.env=(false,eval e₀ X.env) :: starEach rest X.env:=by rfl) (hpl:(backTo cpos (starEach rest X.env)).any (·.1)=false:=by rfl) :
    PS (X.wish (XP X E)) (.Raise (some (.Call (.Name x np) (e₀ :: rest) [] cpos)) none pos) (HW C E ta):=by
  intro pins s σ H D I h
  obtain⟨tl,N,nm,q,bs,hdct,sn,sub,ab,col,dd,k0,k1,k2,k3,k5,mN,hC,hN,hni,T⟩:=O.obj
  have hp2:(backTo cpos (starEach (e₀ :: rest) X.env)).any (·.1)=false:=by
    rw [he];show (false || (backTo cpos (starEach rest X.env)).any (·.1))=false;rw [hpl];rfl
  refine wpAny_Raise_call_subT (C:=C) (nm:=nm) (q:=q) (N:=N) (bs:=bs) (bm:=tl) (hdct:=hdct) (sn:=sn) (sub:=sub) (ab:=ab) (col:=col) (dd:=dd) (k0:=k0) (k1:=k1) (k2:=k2) (k3:=k3) (k5:=k5) (mN:=mN)
    FB (T.hasType FB.hasBase) (I.ok.hd hc) hp2 hni (ud I hg O.bound ⟨rfl,?_⟩ hdb)
  have h2:=ha cpos pins s σ H _ I h
  have he':starEach (e₀ :: rest) (X.wish (XP X E)).env=(false,eval e₀ X.env) :: starEach rest X.env:=he
  rw [he'] at h2 ⊢
  exact Calls.evalArgs_plain (wpAny_mono h2 (fun us s2 ⟨vs,H1,I1,r,q1⟩=>⟨rfl,by rw [← r.length];exact q1.1,I1.bk _ _ hC,hN.keeps I1.bk,T.keeps I1.bk,fun h' e mk=>⟨pins,σ,H1,e,C,rfl,.inl ⟨s2,h',us,I1.unwish,mk,rfl⟩,q1.2⟩⟩) fun _ _ z=>z)
end
section
variable {P:Program} {w:World} {K:PySem.W.Frag} {mg:Str→Option Value} {base:Heap}
end
section
variable {X:Cx} {pins:List (Addr × Obj)} {σ:St} {H:Hp} {s:Shared}
theorem Inv.exc {B:Heap}{a C t:Addr}(I:Inv X pins σ H s)(fl:Heap.FlyingW B X.stack a (.ref C) (.ref t) s.heap)(c:Cov X pins H B):Inv X pins σ (upd H a (oo a C)) s:=by
  obtain⟨oe,vs,hoe,hcl,hdt,_⟩:=fl.first
  have hB:=fl.2.1
  have hn:H a=none:=by
    cases e:H a with
    | none=>rfl
    | some u=>obtain⟨o,q⟩:=c.trk a u e;rw [hB] at q;cases q
  have nfr:a∉frs X.stack:=fun z=>by
    obtain⟨_,o,ho,nf⟩:=I.stack.mem z
    rw [hoe] at ho;cases ho;exact nf vs hdt
  have nold:∀ b o,X.s₀.heap.get? b=some o→b∉X.ex→b≠a:=fun b o e hx z=>by
    subst z
    obtain⟨o',q⟩:=c.old _ o e nfr hx
    rw [hB] at q;cases q
  have keepH:∀ b u,H b=some u→upd H a (oo a C) b=some u:=fun b u e=>by rw [ay (cR e hn)];exact e
  refine⟨I.ok,I.os,I.bare,⟨I.base.keep,I.base.slot,fun b o e n hx => ?_,I.base.there,fun b xs e=>keepH b _ (I.base.tups b xs e),fun b o u e=>keepH b _ (I.base.frzs b o u e),fun b ps e => ?_⟩,I.loc,I.cell,?_,fun x c' e => ?_,fun p hp => ?_,fun b u e => ?_,I.len⟩
  · rw [ay (nold b o e hx)];exact I.base.free b o e n hx
  · obtain⟨m,q⟩:=I.base.tbls b ps e
    exact⟨m,keepH b _ q⟩
  · rw [ay]
    · exact I.free
    · intro z
      obtain⟨m,⟨o,es,ep,ho,hd,_⟩,_⟩:=I.loc
      rw [z,hoe] at ho;cases ho;rw [hdt] at hd;cases hd
  · rw [ay]
    · exact I.freeC x c' e
    · intro z
      obtain⟨v,o,ho,hd⟩:=I.cell x c' e
      rw [z,hoe] at ho;cases ho;rw [hdt] at hd;cases hd
  · obtain⟨e,n,ne,nf,d⟩:=I.pin p hp
    refine⟨e,?_,ne,nf,d⟩
    rw [ay]
    · exact n
    · intro z
      obtain⟨o,q⟩:=c.pin p hp
      rw [z,hB] at q;cases q
  · by_cases hb:b=a
    · subst hb
      rw [aO] at e;cases e
      exact⟨⟨oe,hoe,hcl⟩,⟨oe,hoe⟩,fun h1 h2 ⟨o,ho,hc⟩ k=>⟨o,k o ho,hc⟩⟩
    · rw [ay hb] at e
      exact (I.hok b u e).stay (fun _ _ _ q=>q) (fun b' q=>keepH b' _ q) fun b' xs q=>keepH b' _ q
theorem Inv.goes {M:Model}{A:Around}{E:Value→Shared→Prop}{j:Nat}{n:Str}{pos:Pos}{Q:Unit→Shared→Prop}(I:Inv X pins σ H s)(hN:X.N.Nodup)(hj:X.N[j]? = some n)(hl:X.env.kindOf n=some .local)
    (h:∀ s',Inv X pins (σ.set j none) H s'→Q () s'):wpAny M A (do bindName X.env n .none;unbindBehindTheSuite X.env n pos) Q E s:=by
  obtain⟨m,hn,hlo⟩:=id I.loc
  have hcls:(X.env.scope.kind == .class || (X.env.scope.kind == .module && X.env.locals != X.env.globals))=false:=by rw [I.ok.kind];rfl
  obtain⟨oL,_,_,hoL,_⟩:=id hn
  refine wpAny_nameGoes_keeps hl hn hcls fun h' v hn' hs => ?_
  have old:∀ b o,X.s₀.heap.get? b=some o→b≠X.env.locals:=fun b o e=>Nat.ne_of_lt (Nat.lt_of_lt_of_le (Heap.lt_size e) I.ok.above)
  refine h _ ⟨I.ok,I.os,I.bare,⟨fun b o e n hb hx=>(hs.2 b (old b o e)).trans (I.base.keep b o e n hb hx),fun b o e n hb hx => ?_,I.base.free,fun b o e hx => ?_,I.base.tups,I.base.frzs,I.base.tbls⟩,⟨_,hn',fun i y v' e1 e2 e3 => ?_⟩,fun y c e => ?_,I.free,I.freeC,fun p hp => ?_,fun b u e => ?_,by simpa using I.len⟩
  · obtain⟨sl,e1⟩:=I.base.slot b o e n hb hx
    exact⟨sl,(hs.2 b (old b o e)).trans e1⟩
  · obtain⟨o',e1⟩:=I.base.there b o e hx
    exact⟨o',(hs.2 b (old b o e)).trans e1⟩
  · by_cases hi:i=j
    · subst hi
      by_cases hlt:i < σ.length
      · rw [List.getElem?_set_self hlt] at e2;cases e2
      · rw [List.getElem?_eq_none (by simpa using hlt)] at e2;cases e2
    · rw [List.getElem?_set_ne (Ne.symm hi)] at e2
      obtain⟨u',r',q⟩:=hlo i y v' e1 e2 e3
      refine⟨u',r',?_⟩
      rcases q with ⟨k,e⟩|⟨k,c,e,z⟩
      · refine .inl ⟨k,?_⟩
        have:y≠n:=fun e=>hi (n4 hN e1 (e ▸ hj))
        simp [this,e]
      · exact .inr ⟨k,c,e,z.sameBut hs (I.cne y c e)⟩
  · obtain⟨w',z⟩:=I.cell y c e
    exact⟨w',z.sameBut hs (I.cne y c e)⟩
  · obtain⟨e,n,ne,nf,d⟩:=I.pin p hp
    exact⟨(hs.2 p.1 ne).trans e,n,ne,nf,d⟩
  · refine (I.hok b u e).stay (fun c w' hc q=>(hs.2 c ?_).trans q) (fun _ q=>q) fun _ _ q=>q
    rintro rfl
    rcases hc with z|z
    · rw [← z,I.free] at e;cases e
    · rw [I.free] at z;cases z
abbrev Cx.sui (X:Cx) (a:Addr):Cx:={ X with A:=X.A.mark (some (.ref a)),calm:=false,xe:=fun _ _=>False }
theorem Inv.marked (I:Inv X pins σ H s)(a:Addr):Inv (X.sui a) pins σ H s :=
  ⟨⟨I.ok.mod,I.ok.kind,I.ok.glob,I.ok.blt,I.ok.above,I.ok.inj,I.ok.has,I.ok.cab,(fun z=>by cases z),I.ok.frames,I.ok.stk,I.ok.exf,I.ok.bs,I.ok.bsz,I.ok.noex,I.ok.exfs,I.ok.funs,I.ok.frf⟩,I.os,I.bare,I.base,I.loc,I.cell,I.free,I.freeC,I.pin,I.hok,I.len⟩
theorem Inv.unmark (hh:X.calm=true→X.A.handled=none){a:Addr}(I:Inv (X.sui a) pins σ H s):Inv X pins σ H s :=
  ⟨⟨I.ok.mod,I.ok.kind,I.ok.glob,I.ok.blt,I.ok.above,I.ok.inj,I.ok.has,I.ok.cab,hh,I.ok.frames,I.ok.stk,I.ok.exf,I.ok.bs,I.ok.bsz,I.ok.noex,I.ok.exfs,I.ok.funs,I.ok.frf⟩,I.os,I.bare,I.base,I.loc,I.cell,I.free,I.freeC,I.pin,I.hok,I.len⟩
abbrev Cx.pin (X:Cx) (q:List (Addr × Obj)):Cx:={ X with pn:=q }
theorem Inv.pinq (I:Inv X pins σ H s):Inv (X.pin (X.pn++pins)) [] σ H s :=
  ⟨⟨I.ok.mod,I.ok.kind,I.ok.glob,I.ok.blt,I.ok.above,I.ok.inj,I.ok.has,I.ok.cab,I.ok.hd,I.ok.frames,I.ok.stk,I.ok.exf,I.ok.bs,I.ok.bsz,I.ok.noex,I.ok.exfs,I.ok.funs,I.ok.frf⟩,I.os,I.bare,I.base,I.loc,I.cell,I.free,I.freeC,fun p hp=>I.pin p (by simpa using hp),I.hok,I.len⟩
theorem Inv.unpin {pins':List (Addr × Obj)}(I:Inv (X.pin (X.pn++pins)) pins' σ H s):Inv X pins σ H s :=
  ⟨⟨I.ok.mod,I.ok.kind,I.ok.glob,I.ok.blt,I.ok.above,I.ok.inj,I.ok.has,I.ok.cab,I.ok.hd,I.ok.frames,I.ok.stk,I.ok.exf,I.ok.bs,I.ok.bsz,I.ok.noex,I.ok.exfs,I.ok.funs,I.ok.frf⟩,I.os,I.bare,I.base,I.loc,I.cell,I.free,I.freeC,fun p hp=>I.pin p (List.mem_append_left _ hp),I.hok,I.len⟩
end
section
variable {X:Cx} {body:List Stmt} {x n c:Str} {M:Addr} {i j:Nat} {np cp vp ap hp pos:Pos} {tb:(Addr→Hp→Prop)→TS}
end
end L2
namespace Fm
@[simp] def jn (c:String):SF:=fun σ h=>.exc (.exn c []) σ h
@[simp] def oG (t:TF) (a b:SF):SF:=fun σ h=>match t σ h with | .ok c h'=>if c then a σ h' else b σ h'|_=>.bad
end Fm
set_option Elab.async false
set_option linter.all false
set_option maxRecDepth 100000
namespace Fm
open PySem PySem.Spec L2 PyProof.Rows
section
variable (K:PySem.W.Frag) (mg:Str→Option Value)
def eI (ρ:List Addr) (H:Hp) (o:Out) (E:Addr→Hp→Prop) (En:n6):Prop:=match o with
  | .exc x _ hd=>∃ c l C,x=.exn c l∧mg (Str.ofString c)=some (.ref C) ∧ ∀ H' ρ',Ext ρ H ρ' H'→RH K ρ' H' hd→E C H'
  | .nx σ hd=>bI K ρ H (.nx σ hd) En
  | .rt d hd=>bI K ρ H (.rt d hd) En
  | .bk σ hd=>bI K ρ H (.bk σ hd) En
  | .ct σ hd=>bI K ρ H (.ct σ hd) En
  | .bad=>False
def wX (E:Addr→Hp→Prop) (f:SF):TS:=fun En σ H=>∃ ρ σd hd,RS K ρ H σd hd σ ∧ eI K mg ρ H (f σd hd) E En
def spX (F:Fn) (np:Nat):Sp:=fun vs H _ E=>∃ ρ hd ds,RH K ρ H hd∧RDs K ρ H ds vs∧ds.length=np ∧
  ∃ c l hd' C,F ds hd=.exc (.exn c l) hd'∧mg (Str.ofString c)=some (.ref C) ∧ ∀ H' ρ',Ext ρ H ρ' H'→RH K ρ' H' hd'→E (.ref C) none H'
end
section
variable {K:PySem.W.Frag} {mg:Str→Option Value} {ρ ρ':List Addr} {H H':Hp} {E:Addr→Hp→Prop} {En:n6}
theorem eI.ext {o:Out}(e:Ext ρ H ρ' H')(p:eI K mg ρ H o E En):eI K mg ρ' H' o E En:=by
  cases o with
  | exc x σ hd=>obtain⟨c,l,C,h1,h2,h3⟩:=p;exact⟨c,l,C,h1,h2,fun H2 ρ2 e2 r=>h3 H2 ρ2 (e.trans e2) r⟩
  | nx σ hd=>exact bI.ext (o:=.nx σ hd) e p
  | rt d hd=>exact bI.ext (o:=.rt d hd) e p
  | bk σ hd=>exact bI.ext (o:=.bk σ hd) e p
  | ct σ hd=>exact bI.ext (o:=.ct σ hd) e p
  | bad=>exact p
theorem Ext.sm {H2:Hp}(e:Ext ρ H ρ' H')(s:hJ H' H2):Ext ρ H ρ' H2:=⟨e.pre,e.new,fun q u h n=>s q u (e.frame q u h n)⟩
end
abbrev Wi:=(Addr→Hp→Prop)→Value→Shared→Prop
def MX (X:Cx) (R:Wi) (s:Stmt) (f:SF):Prop:=∀ E,PS (X.wish (R E)) s (wX X.K X.mg E f)
def MXs (X:Cx) (R:Wi) (s:List Stmt) (f:SF):Prop:=∀ E,PSs (X.wish (R E)) s (wX X.K X.mg E f)
structure KH (P:Program) (w:World) (K:PySem.W.Frag) (mg:Str→Option Value) (base:Heap) (x:Str) (k np:Nat) (F:Fn):Prop where
  ex:∃ f fd ps,mg x=some (.ref f)∧PySem.W.keepIn K (.ref f)=true∧jV K fd ps []∧cA P w K mg base (CX1 P w) k f fd ps (spX K mg F np)
section
variable {X:Cx} {R:Wi} {pos p:Pos}
theorem DU {n:String}{C:Addr}{bm:List Value}{B newId initId:String}{np cpos cp:Pos}{txt:Str}{j}(O:OwnCls (Str.ofString n) C bm newId X.mg X.base)(FB:ExcBaseFacts B newId initId bm)(hc:X.calm=true)(hg:Gl X (Str.ofString n))
    (hdb:(Str.ofString n == ("__debug__" : Str))=false:=by decide):MX X (XP X) (.Raise (some (.Call (.Name (Str.ofString n) np) [.Constant (.str txt) j cp] [] cpos)) none pos) (jn n):=fun E=>by
  refine PS.imp (DT O FB hc hg (cx GV eA) hdb) fun En σ H ⟨ρ,σd,hd,rs,q⟩ => ?_
  obtain⟨c,l,C',h1,h2,h3⟩:=q
  cases h1
  rw [O.bound] at h2;cases h2
  exact⟨by show 1≤sizeLine;decide,h3 H ρ Ext.refl rs.hp⟩
end
section
variable {P:Program} {w:World} {K:PySem.W.Frag} {mg:Str→Option Value} {base:Heap}
end
end Fm
set_option Elab.async false
set_option linter.all false
set_option maxRecDepth 100000
namespace Fm
open PySem PySem.Spec L2 PyProof.Rows
def gg:V→Value | .ref a=>.ref a | .ty n=>.type n|_=>.none
def DV:V→Bool | .ref _=>true | .ty _=>true|_=>false
theorem FP {v:V}{u:Value}(h:DV v=true)(r:bj v u):u=gg v:=by
  cases v<;>first|exact r|cases h
section
variable {X:Cx} {pos p:Pos}
def Kv (K:PySem.W.Frag):List V→Hp→VK→Prop:=fun xs H Q=>∃ a C v b,xs=[.ref a,v]∧DV v=true∧H a=some (oo a C)∧p7 K C∧PySem.W.kitOne K (.ref C) (gg v)=some b∧Q (.bl b) H
theorem DW:eP X (.builtin "isinstance") (Kv X.K):=by
  rintro pins s σ H xs us Q I r ⟨a,C,v,b,rfl,hc,ha,Z,e,q⟩
  obtain⟨u,u2,rfl,ru,ru2⟩:=aI.two r
  cases (show u=Value.ref a from ru)
  rw [FP hc ru2]
  have p0:=(I.hok a _ ha).1
  exact PySem.W.kia_one (HV Z) I.kIn p0 e (by intro z;cases z) fun tk=>⟨.bl b,H,I.tok tk,rfl,q⟩
end
end Fm
set_option Elab.async false
set_option linter.all false
set_option maxRecDepth 100000
namespace Fm
open PySem PySem.Spec L2 PyProof.Rows
abbrev Kw:List Value:=[.type "ValueError",.type "Exception",.type "BaseException",.type "object"]
theorem HX {K:PySem.W.Frag}{h:Heap}{mg:Str→Option Value}{x:Str}{C:Addr}{bm:List Value}{id:String}(X:K.In h)(e:mg x=some (.ref C))(q:PySem.W.excIn K C bm id=true):OwnCls x C bm id mg h:=by
  refine⟨e,?_⟩
  unfold PySem.W.excIn at q;split at q
  · rename_i dd cd sl ho;split at q
    · rename_i C' bm' k0 k1 k2 k3 n k5 hm hs
      simp only [Bool.and_eq_true,beq_iff_eq,Bool.not_eq_true'] at q;obtain⟨⟨⟨⟨⟨rfl,rfl⟩,hdel⟩,ht⟩,hok⟩,hni⟩:=q
      obtain⟨nm,bs,mro,ns,qn,hd,sn,sub,ab,col,del⟩:=cd
      dsimp only at hm hdel hok hni;subst hm hdel
      have hsl:sl = #[k0,k1,k2,k3,some (.builtin n),k5]:=by obtain⟨l⟩:=sl;simp only at hs;rw [hs]
      subst hsl
      exact⟨bm',ns,nm,qn,bs,hd,sn,sub,ab,col,dd,k0,k1,k2,k3,k5,_,X _ _ ho,.of_isNs (PySem.W.isNs_of_in X hok),PySem.W.nsMap_none_of_in X hok hni,PySem.W.tail_of_in X ht⟩
    · cases q
  · cases q
end Fm
namespace Fm
@[simp] noncomputable def oH (it:IF) (tg:GF) (b:SF):SF:=fun σ h=>match it σ h with
  | .ok (l,g) h=>dm g l tg b l σ h
  | _=>.bad
def noX {α : Type}:Res α → Res α
  | .exc _ _=>.bad
  | r=>r
def fPl {α : Type} (f:Sd→Hd→Res α):Sd→Hd→Res α := fun σ h=>noX (f σ h)
def sPl (f:SF):SF:=fun σ h=>match f σ h with | .exc _ _ _=>.bad|o=>o
end Fm
set_option Elab.async false
set_option linter.all false
set_option maxRecDepth 100000
namespace L2
open PySem PySem.Spec PyProof.Rows
theorem JB {X:Cx}{E:XK}{E':Addr→Hp→Prop}(h:∀ C H,E (.ref C) none H→E' C H)(hR:∀ e s',XF X E' e s'→X.xe e s'):oi (CX1 X.prog X.w) X E:=by
  intro pins σ H s e s' I q
  have:=JA (X:=X) (R:=X.xe) h hR pins σ H s e s' (I.wish _) q
  exact this
end L2
namespace Fm
open PySem PySem.Spec L2 PyProof.Rows
section
variable (K:PySem.W.Frag) (mg:Str→Option Value)
def XC (ρ:List Addr) (H:Hp) (E:Addr→Hp→Prop) (x:D) (hd:Hd):Prop:=∃ c l C,x=.exn c l∧mg (Str.ofString c)=some (.ref C) ∧ ∀ H' ρ',Ext ρ H ρ' H'→RH K ρ' H' hd→E C H'
def fG {α β : Type} (R:VR α β) (ρ:List Addr) (H:Hp) (σd:Sd) (σ:L2.St) (r:Res α) (E:Addr→Hp→Prop) (Q : β → Hp→Prop):Prop:=match r with
  | .ok a hd'=>∀ b H' ρ',Ext ρ H ρ' H'→RS K ρ' H' σd hd' σ → R ρ' H' a b→Q b H'
  | .exc x hd'=>XC K mg ρ H E x hd'
  | .bad=>False
def GC {α β : Type} (R:VR α β) (E:Addr→Hp→Prop) (f:Sd→Hd→Res α):L2.St→Hp→(β → Hp→Prop)→Prop:=fun σ H Q=>∃ ρ σd hd,RS K ρ H σd hd σ ∧ fG K mg R ρ H σd σ (f σd hd) E Q
def spY (F:Fn) (np:Nat):Sp:=fun vs H Q E=>∃ ρ hd ds,RH K ρ H hd∧RDs K ρ H ds vs∧ds.length=np∧match F ds hd with
  | .ok d hd'=>∀ v H' ρ',Ext ρ H ρ' H'→RH K ρ' H' hd'→RD K ρ' H' d v→Q v H'
  | .exc x hd'=>XC K mg ρ H (fun C H'=>E (.ref C) none H') x hd'
  | .bad=>False
end
section
variable {K:PySem.W.Frag} {mg:Str→Option Value} {ρ ρ':List Addr} {H H':Hp} {E:Addr→Hp→Prop} {σd:Sd} {σ:L2.St} {hd:Hd} {α β α' β':Type} {R:VR α β} {R':VR α' β'}
theorem XC.ext {x:D}(e:Ext ρ H ρ' H')(p:XC K mg ρ H E x hd):XC K mg ρ' H' E x hd:=by
  obtain⟨c,l,C,h1,h2,h3⟩:=p
  exact⟨c,l,C,h1,h2,fun H2 ρ2 e2 r=>h3 H2 ρ2 (e.trans e2) r⟩
theorem fG.ext {r:Res α}{Q : β → Hp→Prop}(e:Ext ρ H ρ' H')(h:fG K mg R ρ H σd σ r E Q):fG K mg R ρ' H' σd σ r E Q:=by
  cases r with
  | ok a h'=>exact fun b H2 ρ2 e2 s q=>h b H2 ρ2 (e.trans e2) s q
  | exc x h'=>exact XC.ext e h
  | bad=>exact h
theorem fG.imp {r:Res α}{Q Q' : β → Hp→Prop}(h:fG K mg R ρ H σd σ r E Q)(i:∀ b H',Q b H'→Q' b H'):fG K mg R ρ H σd σ r E Q':=by
  cases r with
  | ok a h'=>exact fun b H' ρ' e s q=>i b H' (h b H' ρ' e s q)
  | exc x h'=>exact h
  | bad=>exact h
theorem fG.bind {r:Res α}{k : α → Hd→Res α'}{Q : β'→Hp→Prop}(h:fG K mg R' ρ H σd σ (r.bind k) E Q) :
    fG K mg R ρ H σd σ r E (fun b H'=>∃ ρ' a hd',Ext ρ H ρ' H'∧RS K ρ' H' σd hd' σ ∧ R ρ' H' a b∧fG K mg R' ρ' H' σd σ (k a hd') E Q):=by
  cases r with
  | ok a h'=>exact fun b H' ρ' e s q=>⟨ρ',a,h',e,s,q,fG.ext e h⟩
  | exc x h'=>exact h
  | bad=>exact h
theorem eI.outE {r:Res D}{k:D→Hd→Out}{En:n6}(p:eI K mg ρ H (outE r σd k) E En) :
    fG K mg (rD K) ρ H σd σ r E (fun v H'=>∃ ρ' d hd',Ext ρ H ρ' H'∧RS K ρ' H' σd hd' σ ∧ RD K ρ' H' d v∧eI K mg ρ' H' (k d hd') E En):=by
  cases r with
  | ok d h'=>exact fun b H' ρ' ex rs q=>⟨ρ',d,h',ex,rs,q,eI.ext ex p⟩
  | exc x h'=>exact p
  | bad=>exact p
theorem fG.of_pl {r:Res α}{Q : β → Hp→Prop}(p:fG K mg R ρ H σd σ (noX r) E Q):bp K R ρ H σd σ r Q:=by
  cases r with
  | ok a h'=>exact p
  | exc x h'=>exact p
  | bad=>exact p
end
def NE (X:Cx) (E:Addr→Hp→Prop) (e:Expr) (f:EF):Prop:=PE X e (GC X.K X.mg (rD X.K) E f)
def NA (X:Cx) (E:Addr→Hp→Prop) (es:List Expr) (f:LF):Prop:=PA X es (GC X.K X.mg (rDs X.K) E f)
def NS (X:Cx) (E:Addr→Hp→Prop) (s:Stmt) (f:SF):Prop:=PS X s (wX X.K X.mg E f)
def NSs (X:Cx) (E:Addr→Hp→Prop) (s:List Stmt) (f:SF):Prop:=PSs X s (wX X.K X.mg E f)
structure uB (P:Program) (w:World) (K:PySem.W.Frag) (mg:Str→Option Value) (base:Heap) (x:Str) (k np:Nat) (F:Fn):Prop where
  ex:∃ f fd ps,mg x=some (.ref f)∧PySem.W.keepIn K (.ref f)=true∧jV K fd ps []∧cA P w K mg base (CX1 P w) k f fd ps (spY K mg F np)
section
variable {X:Cx} {E:Addr→Hp→Prop} {pos p:Pos}
theorem Gr {e:Expr}{f:EF}(h:ME X e f):NE X E e (fPl f):=PE.imp h fun σ H Q ⟨ρ,σd,hd,rs,q⟩=>⟨ρ,σd,hd,rs,q.of_pl⟩
theorem GD {es:List Expr}{f:LF}(h:MA X es f):NA X E es (fPl f):=PA.imp h fun σ H Q ⟨ρ,σd,hd,rs,q⟩=>⟨ρ,σd,hd,rs,q.of_pl⟩
theorem AW {x:Str}{k np:Nat}{F:Fn}{e:Expr}{es:List Expr}{r:LF}(hd:uB X.prog X.w X.K X.mg X.base x k np F)(hr:fS k X.A)(hg:Gl X x)(ha:NA X E (e :: es) r)(hR:∀ v s',XF X E v s'→X.xe v s')
    (hnp:∀ ds h,F ds h ≠ .bad→ds.length=np) (hdb:(x == ("__debug__" : Str))=false:=by decide) (he:starEach (e :: es) X.env=(false,eval e X.env) :: starEach es X.env:=by rfl) (hpl:(backTo pos (starEach es X.env)).any (·.1)=false:=by rfl) :
    NE X E (.Call (.Name x p) (e :: es) [] pos) (aq F r):=by
  obtain⟨f,fd,ps,h1,h2,h3,h4⟩:=hd.ex
  refine PE.imp (Av (E:=fun v _ H=>∃ C,v=.ref C∧E C H) h4 hr hg h1 h2 h3 .nil (JB (E':=E) (fun C H ⟨C',e,q⟩=>by cases e;exact q) hR) ha hdb he hpl) fun σ H Q ⟨ρ,σd,hd,rs,pp⟩=>⟨ρ,σd,hd,rs,(fG.bind (R:=rDs X.K) pp).imp fun vs H1 ⟨ρ1,ds,hd1,e1,rs1,rv,p1⟩ => ?_⟩
  rw [List.append_nil]
  refine⟨ρ1,hd1,ds,rs1.hp,rv,?_,?_⟩
  · refine hnp ds hd1 fun z => ?_
    rw [z] at p1;exact p1
  · cases c:F ds hd1 with
    | bad=>rw [c] at p1;exact p1
    | exc z h' =>
      rw [c] at p1
      obtain⟨cn,l,C,q1,q2,q3⟩:=p1
      exact⟨cn,l,C,q1,q2,fun H2 ρ2 e2 r2=>⟨C,rfl,q3 H2 ρ2 e2 r2⟩⟩
    | ok d hd2 =>
      rw [c] at p1
      exact fun v H' ρ' ex rh rd=>p1 v H' ρ' ex (rs1.ext ex rh) rd
theorem AX {np n:Nat}{b:SF}:∀ ds h,bF np n b ds h ≠ .bad→ds.length=np:=by
  intro ds h e
  unfold bF at e
  split at e
  · assumption
  · exact absurd rfl e
theorem DX {s:Stmt}{f:SF}(h:MS X s f):NS X E s (sPl f):=PS.imp h fun En σ H ⟨ρ,σd,hd,rs,q⟩=>⟨ρ,σd,hd,rs,by
  unfold sPl at q
  cases e:f σd hd<;>rw [e] at q<;>exact q⟩
theorem AY:NSs X E [] bB:=PSs.imp uf fun En σ H ⟨ρ,σd,hd,rs,p⟩=>p σ H ρ Ext.refl rs
theorem jP {st:Stmt}{a:SF}(h:NS X E st a):NSs X E [st] a:=ug h
theorem k7 {st:Stmt}{rest:List Stmt}{a b:SF}(h1:NS X E st a)(h2:NSs X E rest b):NSs X E (st :: rest) (av a b):=by
  refine PSs.imp (wz h1 h2) fun En σ H ⟨ρ,σd,hd,rs,q⟩=>⟨ρ,σd,hd,rs,?_⟩
  unfold av at q
  cases e:a σd hd with
  | nx σ1 h1=>rw [e] at q;exact fun σ' H' ρ' ex rs'=>⟨ρ',σ1,h1,rs',eI.ext ex q⟩
  | rt d h1=>rw [e] at q;exact q
  | bk σ1 h1=>rw [e] at q;exact q
  | ct σ1 h1=>rw [e] at q;exact q
  | exc x σ1 h1=>rw [e] at q;exact q
  | bad=>rw [e] at q;exact q
theorem GE {c:Expr}{a b:List Stmt}{t:TF}{fa fb:SF}(hc:MT X c t)(ha:NSs X E a fa)(hb:NSs X E b fb):NS X E (.If c a b pos) (oG t fa fb):=by
  refine PS.imp (Gs hc ha hb) fun En σ H ⟨ρ,σd,hd,rs,q⟩=>⟨ρ,σd,hd,rs,?_⟩
  unfold oG at q
  cases e:t σd hd with
  | exc x h'=>rw [e] at q;exact q
  | bad=>rw [e] at q;exact q
  | ok c h' =>
    rw [e] at q
    intro b H' ρ' ex rs' hb
    cases hb
    cases c with
    | true=>rw [if_pos rfl];exact⟨ρ',σd,h',rs',eI.ext ex q⟩
    | false=>rw [if_neg Bool.false_ne_true];exact⟨ρ',σd,h',rs',eI.ext ex q⟩
theorem HY {i:Nat}{x:Str}{e:Expr}{f:EF}{pos':Pos}(hN:X.N.Nodup)(hi:X.N[i]? = some x)(hx:Loc X.env.scope x)(he:NE X E e f)(hs:swapsWith e (some (.Name x pos')) pos.line X.env=pure false:=by rfl)
    (hf:X.fn x=true∨X.env.scope.names.lookup x=some .local:=by first|exact .inl rfl|exact .inr rfl|assumption):NS X E (.Assign [.Name x pos'] e pos) (aC (gN i) f):=by
  refine PS.imp (yH hN hi hx he hs hf) fun En σ H ⟨ρ,σd,hd,rs,p⟩=>⟨ρ,σd,hd,rs,(eI.outE p).imp fun v H1 ⟨ρ1,d,hd1,e1,rs1,rv,p1⟩ => ?_⟩
  exact p1 _ H1 ρ1 Ext.refl ⟨rs1.hp,rs1.st.set i rv⟩
theorem FQ {e:Expr}{f:EF}(h:NE X E e f)(hs:swapsWith e none pos.line X.env=pure false:=by rfl):NS X E (.Expr e pos) (kO f):=by
  refine PS.imp (Au h hs) fun En σ H ⟨ρ,σd,hd,rs,p⟩=>⟨ρ,σd,hd,rs,(eI.outE p).imp fun v H1 ⟨ρ1,d,hd1,e1,rs1,rv,p1⟩ => ?_⟩
  exact p1 σ H1 ρ1 Ext.refl rs1
end
end Fm
set_option Elab.async false
set_option linter.all false
set_option maxRecDepth 100000
namespace L2
open PySem PySem.Spec PyProof.Rows
section
variable {X:Cx} {E:Addr→Hp→Prop} {e:Value} {s':Shared} {R:Value→Shared→Prop}
theorem Cov.unwish {pins:List (Addr × Obj)}{H:Hp}{B:Heap}(c:Cov (X.wish R) pins H B):Cov X pins H B:=⟨c.trk,c.old,c.pin⟩
theorem XF.unwish (h:XF (X.wish R) E e s'):XF X E e s':=by
  obtain⟨pins,σ,H,a,C,B,t,he,I,fl,c,q⟩:=h
  exact⟨pins,σ,H,a,C,B,t,he,I.unwish,fl,c.unwish,q⟩
theorem PS.xe {st:Stmt}{t:TS}(hx:∀ e s',R e s'→X.xe e s')(h:PS (X.wish R) st t):PS X st t:=fun pins s σ H D I hw =>
  wpAny_mono (h pins s σ H D (I.wish _) hw) (fun _ _ q=>q.unwish) hx
end
end L2
namespace Fm
open PySem PySem.Spec L2 PyProof.Rows
section
variable {X:Cx} {E:Addr→Hp→Prop} {pos p:Pos}
theorem HZ {tg:Expr}{iter:Expr}{body:List Stmt}{f:IF}{g:GF}{b:SF}(hp:PassesOwn (model X.prog X.w) X.A X.env X.xe)(hc:X.calm=true)(hi:MI X tg iter f)(hg:MG X tg g)(hb:NSs X E body b)
    (hs:∀ x,foldedSetIterable iter X.env x=pure x:=by intro _;rfl):NS X E (.For tg iter body [] pos) (oH f g b):=by
  refine PS.imp (Dc hp hc hi hg hb hs) fun En σ H ⟨ρ,σd,hd,rs,p⟩=>⟨ρ,σd,hd,rs,?_⟩
  unfold oH at p
  cases e:f σd hd with
  | exc x h'=>rw [e] at p;exact p
  | bad=>rw [e] at p;exact p
  | ok q hd1 =>
    rw [e] at p
    obtain⟨l,gd⟩:=q
    intro J H1 ρ1 ex1 rs1 wk
    simp only at p wk
    refine⟨fun i m σ' H'=>∃ ρ' σd' hd',Ext ρ1 H1 ρ' H'∧RS X.K ρ' H' σd' hd' σ'∧i≤l.length∧m=l.length - i∧eI X.K X.mg ρ' H' (dm gd l g b (l.drop i) σd' hd') E En,
      ⟨l.length,ρ1,σd,hd1,Ext.refl,rs1,Nat.zero_le _,by simp,by simpa using eI.ext ex1 p⟩,?_⟩
    rintro i m σ' H' ⟨ρ',σd',hd',ex,rs',hil,rfl,pp⟩
    by_cases hlt:i < l.length
    · have hdi:l[i]? = some l[i]:=by simp [hlt]
      rw [List.drop_eq_getElem_cons hlt] at pp
      unfold dm at pp
      by_cases hh:fV gd l hd'
      · rw [if_pos hh] at pp
        obtain⟨go,yl⟩:=wk.go ρ' H' hd' i _ ex rs'.hp hh hdi
        refine .inr ⟨go,fun σ2 H2=>∃ ρ2 σd2 hd2,Ext ρ1 H1 ρ2 H2∧RS X.K ρ2 H2 σd2 hd2 σ2∧eI X.K X.mg ρ2 H2 (dm gd l g b (l.drop (i + 1)) σd2 hd2) E En,
          fun σ2 H2 ⟨ρ2,σd2,hd2,a1,a2,a3⟩=>⟨l.length - (i + 1),by omega,ρ2,σd2,hd2,a1,a2,hlt,rfl,a3⟩,fun x H2 y => ?_⟩
        obtain⟨sm,rx⟩:=yl x H2 y
        cases c:g l[i] σd' with
        | none=>rw [c] at pp;exact pp.elim
        | some σd2 =>
          rw [c] at pp
          simp only at pp
          refine⟨ρ',σd',hd',l[i],σd2,rs'.same sm,rx,c,fun σ2 rs2=>⟨ρ',σd2,hd',rs2,?_⟩⟩
          have e12:Ext ρ' H' ρ' H2:=Ext.same sm
          cases c2:b σd2 hd' with
          | nx σ3 h3=>rw [c2] at pp;exact fun σ4 H4 ρ4 ex4 rs4=>⟨ρ4,σ3,h3,ex.trans (e12.trans ex4),rs4,eI.ext (e12.trans ex4) pp⟩
          | ct σ3 h3=>rw [c2] at pp;exact fun σ4 H4 ρ4 ex4 rs4=>⟨ρ4,σ3,h3,ex.trans (e12.trans ex4),rs4,eI.ext (e12.trans ex4) pp⟩
          | bk σ3 h3=>rw [c2] at pp;exact fun σ4 H4 ρ4 ex4 rs4=>pp σ4 H4 ρ4 (e12.trans ex4) rs4
          | rt d h3=>rw [c2] at pp;exact fun v H4 ρ4 ex4 rs4 rv=>pp v H4 ρ4 (e12.trans ex4) rs4 rv
          | exc x σ3 h3=>rw [c2] at pp;exact eI.ext (o:=.exc x σ3 h3) e12 pp
          | bad=>rw [c2] at pp;exact pp
      · rw [if_neg hh] at pp;exact pp.elim
    · have e0:i=l.length:=by omega
      subst e0
      rw [List.drop_length] at pp
      unfold dm at pp
      by_cases hh:fV gd l hd'
      · rw [if_pos hh] at pp
        exact .inl ⟨wk.stop ρ' H' hd' ex rs'.hp hh,pp σ' H' ρ' Ext.refl rs'⟩
      · rw [if_neg hh] at pp;exact pp.elim
theorem wY {n:String}{C:Addr}{bm:List Value}{B newId initId:String}{np cpos cp:Pos}{txt:Str}{j}(O:OwnCls (Str.ofString n) C bm newId X.mg X.base)(FB:ExcBaseFacts B newId initId bm)(hc:X.calm=true)(hg:Gl X (Str.ofString n))(hx:∀ e s',XP X E e s'→X.xe e s')
    (hdb:(Str.ofString n == ("__debug__" : Str))=false:=by decide):NS X E (.Raise (some (.Call (.Name (Str.ofString n) np) [.Constant (.str txt) j cp] [] cpos)) none pos) (jn n):=PS.xe hx (DU O FB hc hg hdb E)
end
section
variable {P:Program} {w:World} {K:PySem.W.Frag} {mg:Str→Option Value} {base:Heap}
def wZ (K:PySem.W.Frag) (mg:Str→Option Value) (ρ:List Addr) (H:Hp) (r:Res D) (E:XK) (Q:VK):Prop:=match r with
  | .ok d hd'=>∀ v H' ρ',Ext ρ H ρ' H'→RH K ρ' H' hd'→RD K ρ' H' d v→Q v H'
  | .exc x hd'=>XC K mg ρ H (fun C H'=>E (.ref C) none H') x hd'
  | .bad=>False
theorem wZ.letGo {ρ:List Addr}{H:Hp}{hd:Hd}{r:Res D}{E:XK}{Q:VK}(rh:RH K ρ H hd)(p:wZ K mg ρ H (letGo hd r) E Q):wZ K mg ρ H r E Q:=by
  cases r with
  | exc x h'=>exact p
  | bad=>exact p
  | ok d h' =>
    have q:kU K ρ H (Fm.letGo hd (.ok d h')) Q:=by
      simp only [Fm.letGo] at p ⊢
      split at p<;>rename_i c
      · rw [if_pos c];exact p
      · rw [if_neg c];exact p
    exact kU.letGo rh q
theorem DY {x:Str}{st:Stmt}{f:Addr}{fd:FuncData}{N ps:List Str}{k:Nat}{b:SF}(F:Fun K x x st f fd)(S:aP N ps (aj st))
    (body:∀ (cdv:Value) (A:Around) (outer:List Env) (s:Shared) (H:Hp) (E:XK),fS k (A.deeper (envOfC x (aj st) s.heap.objs.size f cdv)) →
      NSs (nE (CX1 P w) P w K mg base N x (aj st) f cdv A outer s H E) (fun C H'=>E (.ref C) none H') (aK st) b) :
    cA P w K mg base (CX1 P w) (k + 1) f fd ps (spY K mg (bF ps.length N.length b) ps.length):=by
  obtain⟨oc,od,kV,doc,pm,an,cdv,ct,osl,rfl,lk,hcd⟩:=F.ex
  refine Gv lk hcd S (fun vs H Q E ⟨ρ,hd,ds,rh,rd,hl,p⟩=>by rw [← rd.length];exact hl) fun A outer s H vs Q E hr ⟨ρ,hd,ds,rh,rd,hl,p⟩=>⟨_,body cdv A outer s H E hr,ρ,_,hd,⟨rh,sV rd⟩,?_⟩
  have p0:wZ K mg ρ H (bF ps.length N.length b ds hd) E Q:=p
  unfold bF at p0
  rw [if_pos hl] at p0
  have p1:=wZ.letGo rh p0
  unfold runB at p1
  cases e2:b (ds.map some++List.replicate (N.length - ds.length) none) hd with
  | nx σ1 h1=>rw [e2] at p1;exact fun σ' H' ρ' ex rs'=>p1 .non H' ρ' ex rs'.hp (by simp only [RD])
  | rt d h1=>rw [e2] at p1;exact p1
  | bk _ _=>rw [e2] at p1;exact p1.elim
  | ct _ _=>rw [e2] at p1;exact p1.elim
  | bad=>rw [e2] at p1;exact p1.elim
  | exc y σ1 h1=>rw [e2] at p1;exact p1
theorem uB.mk' {x:Str}{f:Addr}{fd:FuncData}{ps:List Str}{k np:Nat}{F:Fn}(hm:mg x=some (.ref f))(hk:PySem.W.keepIn K (.ref f)=true)(hb:jV K fd ps [])(h:cA P w K mg base (CX1 P w) k f fd ps (spY K mg F np)):uB P w K mg base x k np F:=⟨f,fd,ps,hm,hk,hb,h⟩
end
end Fm
set_option Elab.async false
set_option linter.all false
set_option maxRecDepth 100000
namespace Fm
open PySem PySem.Spec L2 PyProof.Rows
section
variable {X:Cx} {pos p:Pos}
end
end Fm
namespace Fm
def uC (n i:Nat) (cs:List String) (b:SF):SF:=fun σ h=>match b σ h with
  | .nx σ' h'=>.nx σ' h'
  | .exc (.exn c []) _ h'=>if c∈cs then .nx ((List.replicate n none).set i (some (.exn c []))) h' else .bad
  | _=>.bad
def isX (tb:List (String × Bool)):D→Option Bool
  | .exn c _=>tb.lookup c
  | _=>none
def eM (tb:List (String × Bool)) (a:EF):EF:=fun σ h=>(a σ h).bind fun x h=>match isX tb x with|some b=>.ok (.bl b) h|none=>.bad
end Fm
set_option Elab.async false
set_option linter.all false
set_option maxRecDepth 100000
namespace L2
open PySem PySem.Spec PyProof.Rows
def JC (K:PySem.W.Frag) (M:Addr) (i L:Nat) (tb:(Addr→Hp→Prop)→TS):TS:=fun D σ H=>∃ E:Addr→Hp→Prop,tb E { nx:=D.nx,rt:=fun _ _=>False } σ H ∧
  ∀ C H' a σ',E C H'→H' a=none → σ'.length=L → σ'[i]? = some (some (.ref a))→PySem.W.subIn K (.ref C) (.ref M)=some true∧D.nx σ' (upd H' a (oo a C))
section
variable {X:Cx} {body:List Stmt} {x n c:Str} {M:Addr} {i j:Nat} {np cp vp ap hp pos:Pos} {tb:(Addr→Hp→Prop)→TS}
theorem BN (hb:∀ q E,PSs ((X.pin q).wish (XF (X.pin q) E)) body (tb E))(hxe:X.xe=fun _ _=>False)(hstk:X.stack=X.env :: X.outer)(hfr:X.env.frame=some X.env.locals)(hm:X.mg x=some (.ref M))(hg:Gl X x)
    (hbe:PySem.W.subIn X.K (.ref M) (.type "BaseException")=some true) (his:(PySem.W.clsIn X.K M).isSome=true) (hty:PySem.W.typeIn X.K (.ref M)=some (.type "type")) (hN:X.N.Nodup) (hij:i≠j) (hj:X.N[j]? = some n) (hjl:X.env.scope.names.lookup n=some .local)
    (hi:X.N[i]? = some c) (hil:X.env.scope.names.lookup c=some .local) (hdb:(x == ("__debug__" : Str))=false:=by decide) (hd1:(n == ("__debug__" : Str))=false:=by decide) (hd2:(n == ("__classdict__" : Str))=false:=by decide)
    (hs:swapsWith (.Name n vp) (some (.Name c cp)) ap.line X.env=pure false:=by rfl) :
    PS X (.Try body [.ExceptHandler (some (.Name x np)) (some n) [.Assign [.Name c cp] (.Name n vp) ap] hp] [] [] pos) (JC X.K M i X.N.length tb):=by
  rintro pins s σ H D I ⟨E,h1,h2⟩
  refine wpAny_Try_except (wpAny_mono (hb (X.pn++pins) E [] s σ H _ ((I.pinq).wish _) h1) (fun f s1 q => ?_) (fun e s1 q => ?_))
  · cases f with
    | next=>obtain⟨σ1,H1,J,q⟩:=q;exact uf pins s1 σ1 H1 D J.unwish.unpin q
    | brk=>obtain⟨_,_,_,q⟩:=q;exact q.elim
    | cont=>obtain⟨_,_,_,q⟩:=q;exact q.elim
    | ret u=>obtain⟨_,_,_,_,_,q⟩:=q;exact q.elim
  · obtain⟨pins',σ',H',a,C,B,t,rfl,J,fl,cv,q⟩:=q
    have hf:X.A.frames=some (X.env :: X.outer):=by rw [← hstk];exact I.ok.frames
    have fl':Heap.FlyingW B (X.env :: X.outer) a (.ref C) (.ref t) s1.heap:=by rw [← hstk];exact fl
    have hn:H' a=none:=by
      cases e:H' a with
      | none=>rfl
      | some u=>obtain⟨o,z⟩:=cv.trk a u e;rw [fl.2.1] at z;cases z
    refine wpAny_looks_onW hf hfr fl' fun h4 hl4 sm4=>wpAny_landsW hl4 fun h5 fl5 sm5 => ?_
    have J5:=J.flown (h':=h5) fl.1 fl5.1 (sm4.trans sm5) cv s1.toks
    obtain⟨oe,vs,hoe,hcl,hdt,_⟩:=fl5.first
    have hw:∀ σ'',σ''.length=X.N.length → σ''[i]? = some (some (.ref a))→PySem.W.subIn X.K (.ref C) (.ref M)=some true∧D.nx σ'' (upd H' a (oo a C)):=fun σ'' e1 e2=>h2 C H' a σ'' q hn e1 e2
    have hls : σ'.length=X.N.length:=J.len
    have hit:i < X.N.length:=(List.getElem?_eq_some_iff.mp hi).1
    have hsub:PySem.W.subIn X.K (.ref C) (.ref M)=some true:=(hw (σ'.set i (some (.ref a))) (by simpa using hls) (by rw [List.getElem?_set_self (by omega)])).1
    refine wpAny_handleBy_cons (codeAny_handlers_test (Calls.Name_function_global J.ok.kind hg (Calls.loadGlobal_global (by rw [J.ok.glob];exact J5.mod.glob.keeps J5.bk) hm ?_) hdb)) (by intro q;cases q)
    refine DR J5.kIn ⟨hoe,hcl⟩ hsub hbe his hty (codeAny_handlers_suite_as ?_)
    refine lands_againW fl5 fun h6 fl6 sm6 => ?_
    have J6:=J5.flown (h':=h6) fl5.1 fl6.1 sm6 cv s1.toks
    have J7:=J6.exc (by rw [show (X.pin (X.pn++pins)).stack=X.env :: X.outer from hstk];exact fl6) cv
    refine n5 (X:=X.pin (X.pn++pins)) J7 hN hj (.inl hjl) (v:=.ref a) rfl (fun s8 J8 => ?_) (.inr hjl)
    have ps:PSs ((X.pin (X.pn++pins)).sui a) [.Assign [.Name c cp] (.Name n vp) ap] (G7 (IP j) (C7 i)):=ug (yH hN hi (.inl hil) (CZ hj (.inl hjl) hd1 hd2) hs (.inr hil))
    refine wpAny_mono (ps pins' s8 _ _ { nx:=fun σ9 H9 => σ9=(σ'.set j (some (.ref a))).set i (some (.ref a))∧H9=upd H' a (oo a C),rt:=fun _ _=>False } (J8.marked a) ⟨.ref a,by rw [List.getElem?_set_self (by rw [J.len];exact (List.getElem?_eq_some_iff.mp hj).1)],rfl,rfl⟩) (fun f s9 q => ?_) (fun _ _ z=>z.elim)
    cases f with
    | brk=>obtain⟨_,_,_,q⟩:=q;exact q.elim
    | cont=>obtain⟨_,_,_,q⟩:=q;exact q.elim
    | ret u=>obtain⟨_,_,_,_,_,q⟩:=q;exact q.elim
    | next =>
      obtain⟨σ9,H9,J9,rfl,rfl⟩:=q
      refine Inv.goes (X:=X.pin (X.pn++pins)) (J9.unmark I.ok.hd) hN hj hjl fun s10 J10=>⟨_,_,J10.unpin,(hw _ ?_ ?_).2⟩
      · simpa using hls
      · rw [List.getElem?_set_ne (Ne.symm hij),List.getElem?_set_self (by simp only [List.length_set];omega)]
end
end L2
namespace Fm
open PySem PySem.Spec L2 PyProof.Rows
def fK (K:PySem.W.Frag) (f:Addr→Bool→Prop) (tb:List (String × Bool)):Prop:=∀ c b,(c,b)∈tb → ∃ C,PySem.W.nsIn K mainGlobals (Str.ofString c)=some (some (.ref C))∧p7 K C∧f C b
theorem gQ {K:PySem.W.Frag}{f:Addr→Bool→Prop}:fK K f []:=fun _ _ h=>absurd h (List.not_mem_nil)
theorem fj {K:PySem.W.Frag}{f:Addr→Bool→Prop}{c:String}{b:Bool}{tb:List (String × Bool)}{C:Addr}(n:PySem.W.nsIn K mainGlobals (Str.ofString c)=some (some (.ref C)))(Z:p7 K C)(k:f C b)(r:fK K f tb):fK K f ((c,b) :: tb):=fun c' b' h=>by
  rcases List.mem_cons.mp h with e|e
  · cases e;exact⟨C,n,Z,k⟩
  · exact r c' b' e
theorem oJ {c:String}{b:Bool}:∀ {tb:List (String × Bool)},tb.lookup c=some b→(c,b)∈tb
  | [],h=>by cases h
  | (c',b') :: r,h=>by
    rw [List.lookup_cons] at h
    cases e:c == c' with
    | true =>
      rw [e] at h
      have:=eq_of_beq e
      subst this
      cases h
      exact List.mem_cons_self
    | false=>rw [e] at h;exact List.mem_cons_of_mem _ (oJ h)
def BO (K:PySem.W.Frag) (mg:Str→Option Value) (M:Addr) (cs:List String):Prop:=∀ c∈cs,∃ C,mg (Str.ofString c)=some (.ref C)∧PySem.W.nsIn K mainGlobals (Str.ofString c)=some (some (.ref C))∧PySem.W.subIn K (.ref C) (.ref M)=some true
theorem Ia {K:PySem.W.Frag}{mg:Str→Option Value}{M:Addr}:BO K mg M []:=fun _ h=>absurd h (List.not_mem_nil)
theorem FR {K:PySem.W.Frag}{mg:Str→Option Value}{M C:Addr}{c:String}{cs:List String}(g:mg (Str.ofString c)=some (.ref C))(n:PySem.W.nsIn K mainGlobals (Str.ofString c)=some (some (.ref C)))(s:PySem.W.subIn K (.ref C) (.ref M)=some true)(r:BO K mg M cs):BO K mg M (c :: cs):=fun c' h=>by
  rcases List.mem_cons.mp h with e|e
  · subst e;exact⟨C,g,n,s⟩
  · exact r c' e
section
variable {X:Cx} {pos p:Pos}
theorem Ib {i j L:Nat}{c n x:Str}{M:Addr}{tb:List Stmt}{bt:SF}{cs:List String}{np cp vp ap hp:Pos}(hL:X.N.length=L)(hxe:X.xe=fun _ _=>False)(hb:∀ q,MXs (X.pin q) (XF (X.pin q)) tb bt)(hstk:X.stack=X.env :: X.outer)
    (hfr:X.env.frame=some X.env.locals) (hm:X.mg x=some (.ref M)) (hg:Gl X x) (hbe:PySem.W.subIn X.K (.ref M) (.type "BaseException")=some true) (his:(PySem.W.clsIn X.K M).isSome=true)
    (hty:PySem.W.typeIn X.K (.ref M)=some (.type "type")) (hN:X.N.Nodup) (hij:i≠j) (hj:X.N[j]? = some n) (hjl:X.env.scope.names.lookup n=some .local) (hi:X.N[i]? = some c) (hil:X.env.scope.names.lookup c=some .local)
    (hcs:BO X.K X.mg M cs)
    (hdb:(x == ("__debug__" : Str))=false:=by decide) (hd1:(n == ("__debug__" : Str))=false:=by decide) (hd2:(n == ("__classdict__" : Str))=false:=by decide)
    (hs:swapsWith (.Name n vp) (some (.Name c cp)) ap.line X.env=pure false:=by rfl) :
    MS X (.Try tb [.ExceptHandler (some (.Name x np)) (some n) [.Assign [.Name c cp] (.Name n vp) ap] hp] [] [] pos) (uC L i cs bt):=by
  refine PS.imp (BN (tb:=fun E=>wX X.K X.mg E bt) (fun q E=>hb q E) hxe hstk hfr hm hg hbe his hty hN hij hj hjl hi hil hdb hd1 hd2 hs) fun En σ H ⟨ρ,σd,hd,rs,pp⟩ => ?_
  unfold uC at pp
  cases e:bt σd hd with
  | nx σ1 h1=>rw [e] at pp;exact⟨fun _ _=>False,⟨ρ,σd,hd,rs,by rw [e];exact pp⟩,fun _ _ _ _ z=>z.elim⟩
  | rt _ _=>rw [e] at pp;exact pp.elim
  | bk _ _=>rw [e] at pp;exact pp.elim
  | ct _ _=>rw [e] at pp;exact pp.elim
  | bad=>rw [e] at pp;exact pp.elim
  | exc y σ1 h1 =>
    rw [e] at pp
    cases y with
    | exn cn l =>
      cases l with
      | cons _ _=>exact pp.elim
      | nil =>
        simp only at pp
        split at pp
        · rename_i hcn
          obtain⟨C,m1,m2,m3⟩:=hcs cn hcn
          refine⟨fun C' H'=>C'=C ∧ ∃ ρ',Ext ρ H ρ' H'∧RH X.K ρ' H' h1,⟨ρ,σd,hd,rs,by rw [e];exact⟨cn,[],C,rfl,m1,fun H' ρ' ex r=>⟨rfl,ρ',ex,r⟩⟩⟩,?_⟩
          rintro C' H' a σ' ⟨rfl,ρ',ex,r⟩ hn hl hi'
          refine⟨m3,pp σ' _ ρ' (ex.sm (bG hn)) ⟨r.same (bG hn),?_,fun k d hk => ?_⟩⟩
          · rw [List.length_set,List.length_replicate,hl,hL]
          · by_cases hki:k=i
            · subst hki
              have hlt:k < L:=by rw [← hL];exact (List.getElem?_eq_some_iff.mp hi).1
              simp only [slot,List.getElem?_set_self (show k < (List.replicate L (none:Option D)).length by rw [List.length_replicate];exact hlt)] at hk
              cases hk
              exact⟨.ref a,hi',by simp only [RD];exact⟨trivial,a,C',rfl,aO,m2⟩⟩
            · exfalso
              simp only [slot,List.getElem?_set_ne (Ne.symm hki)] at hk
              by_cases hlt:k < L
              · rw [List.getElem?_replicate_of_lt hlt] at hk;cases hk
              · rw [List.getElem?_eq_none (by rw [List.length_replicate];omega)] at hk;cases hk
        · exact pp.elim
    | _=>exact pp.elim
theorem fk {tb:List (String × Bool)} {a:Expr} {fa:EF} {n:Str} {p2:Pos} {v:V} (hc:DV v=true) (hg:Gl X "isinstance") (hm:X.mg "isinstance" = none) (hv:PE X (.Name n p2) (tC v))
    (htb:fK X.K (fun C b=>PySem.W.kitOne X.K (.ref C) (gg v)=some b) tb) (ha:ME X a fa)
    (hs:starEach [a,.Name n p2] X.env=(false,eval a X.env) :: starEach [.Name n p2] X.env:=by rfl) (hs2:starEach [.Name n p2] X.env=(false,eval (.Name n p2) X.env) :: starEach [] X.env:=by rfl) :
    ME X (.Call (.Name "isinstance" p) [a,.Name n p2] [] pos) (eM tb fa):=by
  refine PE.imp (fU DW hg hm (by decide +kernel) (cx ha (cx hv eA hs2) hs) (he:=hs)) fun σ H Q ⟨ρ,σd,hd,rs,pp⟩=>⟨ρ,σd,hd,rs,(bp.bind (R:=rD X.K) pp).imp fun v1 H1 ⟨ρ1,d,hd1,e1,rs1,rv,p1⟩ => ?_⟩
  cases d<;>try exact p1.elim
  rename_i c l
  simp only [isX] at p1
  cases e:tb.lookup c with
  | none=>rw [e] at p1;exact p1.elim
  | some b =>
    rw [e] at p1
    simp only [rD,RD] at rv
    obtain⟨rfl,q,C,rfl,hq,hn⟩:=rv
    obtain⟨C',n',Z,k⟩:=htb c b (oJ e)
    rw [hn] at n'
    cases n'
    exact⟨q,C,v,b,rfl,hc,hq,Z,k,p1.here rs1 (by simp only [rD,RD])⟩
end
end Fm
set_option linter.all false
namespace Fm
def y8 (x:Int):List Int→List Int
  | []=>[x]
  | y :: r=>if x≤y then x :: y :: r else y :: y8 x r
def jX:List Int→List Int
  | []=>[]
  | x :: r=>y8 x (jX r)
theorem mj (x:Int):∀ r,(y8 x r).Perm (x :: r)
  | []=>.refl _
  | y :: r=>by
    unfold y8
    split
    · exact .refl _
    · exact ((mj x r).cons y).trans (.swap x y r)
theorem kq:∀ r,(jX r).Perm r
  | []=>.refl _
  | x :: r=>(mj x _).trans ((kq r).cons x)
theorem sY {x:Int}:∀ {r:List Int},r.Pairwise (· ≤ ·)→(y8 x r).Pairwise (· ≤ ·)
  | [],_=>by simp [y8]
  | y :: r,h=>by
    obtain⟨h1,h2⟩:=List.pairwise_cons.mp h
    unfold y8
    split
    · rename_i c
      refine List.pairwise_cons.mpr ⟨fun b hb => ?_,h⟩
      rcases List.mem_cons.mp hb with e|hb
      · rw [e];exact c
      · exact Int.le_trans c (h1 b hb)
    · rename_i c
      refine List.pairwise_cons.mpr ⟨fun b hb => ?_,sY h2⟩
      rcases List.mem_cons.mp ((mj x r).mem_iff.mp hb) with e|hb
      · rw [e];omega
      · exact h1 b hb
theorem oK:∀ {r:List Int},(jX r).Pairwise (· ≤ ·)
  | []=>by simp [jX]
  | x :: r=>sY oK
theorem sZ {a r:List Int}(p:a.Perm r)(h:a.Pairwise (· ≤ ·)):a=jX r :=
  List.Perm.eq_of_pairwise (fun x y _ _ h h'=>Int.le_antisymm h h') h oK (p.trans (kq r).symm)
end Fm
set_option Elab.async false
set_option linter.all false
set_option maxRecDepth 100000
namespace Fm
open PySem PySem.Spec L2 PySem.W PyProof.Rows
section
variable {prog:Program} {w:World} {A:Around} {E:Value→Shared→Prop} {s:Shared}
end
theorem w4:∀ {us:List Value} {ns:List Int},IntsAre us ns→aI (ns.map V.int) us
  | _,_,.nil=>.nil
  | _,_,.cons n t r=>.cons ⟨t,rfl⟩ (w4 r)
section
variable {X:Cx} {pos p:Pos}
theorem JD {K:PySem.W.Frag}{ρ:List Addr}{H:Hp}:∀ l:List Int,RDs K ρ H (l.map D.int) (l.map V.int)
  | []=>RDs.nil
  | x :: l=>RDs.cons (by simp only [RD]) (JD l)
end
end Fm
set_option linter.all false
namespace Fm
noncomputable section
open Classical
end
end Fm
set_option Elab.async false
set_option linter.all false
set_option maxRecDepth 100000
namespace Fm
open PySem PySem.Spec L2
open PyProof.Rows (Call_)
section
variable {prog:Program} {w:World} {A:Around} {E:Value→Shared→Prop} {s:Shared}
end
section
variable {La Lb:Bool} {prog:Program} {w:World} {A:Around} {E:Value→Shared→Prop} {s:Shared} {z TI TO i1 i2 l1 l2:Addr} {k:Nat} {xs ys:Array Value} {a b:Value}
end
section
variable {La Lb:Bool} {prog:Program} {w:World} {A:Around} {E:Value→Shared→Prop} {s:Shared}
end
section
variable {X:Cx} {pos p tp:Pos} {elts:List Expr} {tk:Nat}
end
section
variable {X:Cx} {pos:Pos} {tg:Expr}
end
end Fm
set_option Elab.async false
set_option linter.all false
set_option maxRecDepth 100000
namespace Fm
open PySem PySem.Spec L2
section
variable {X:Cx}
end
end Fm
set_option Elab.async false
set_option linter.all false
namespace Fm
open PySem PyProof.Rows
mutual
def fA:D→PyData
  | .bl b=>.bool b
  | .int i=>.int i
  | .tup l=>.tuple (jo l)
  | _=>.none
def jo:List D→List PyData
  | []=>[]
  | d :: l=>fA d :: jo l
end
mutual
def okR:D→Bool
  | .non=>true
  | .bl _=>true
  | .int i=>decide (i.natAbs < 1000000000)
  | .tup l=>ml l
  | _=>false
def ml:List D→Bool
  | []=>true
  | d :: l=>okR d && ml l
end
mutual
def jp:D→Nat
  | .tup l=>i7 l
  | _=>30
def i7:List D→Nat
  | []=>0
  | d :: l=>jp d + 1 + i7 l
end
def DZ (d:D):List Nat:=(fA d).shown.cps.toList
@[simp] def tf (a:EF):EF:=fun σ h=>(a σ h).bind fun x h=>match x with
  | .tup l=>if okR (.tup l)=true∧dep (.tup l)≤20∧jp (.tup l)≤1000000 then .ok (.str (DZ (.tup l))) h else .bad
  | _=>.bad
end Fm
set_option Elab.async false
set_option linter.all false
set_option maxRecDepth 100000
namespace Fm
open PySem PySem.Spec L2 PySem.W PyProof.Rows
theorem AZ {n k:Nat}(hk:0 < k)(h:n < 10 ^ k):(toString n:String).length≤k:=by
  rw [Nat.toString_eq_ofList_toDigits,String.length_ofList]
  exact (Nat.length_toDigits_le_iff (by decide) hk).mpr h
theorem FS (i:Int)(h:i.natAbs < 10 ^ 12):(PyData.int i).shown.length≤13:=by
  rw [PyData.shown.eq_3,PySem.ofString_length]
  cases i with
  | ofNat m =>
    have:(toString (Int.ofNat m):String)=toString m:=rfl
    rw [this]
    exact Nat.le_succ_of_le (AZ (by decide) h)
  | negSucc m =>
    have:(toString (Int.negSucc m):String) = "-" ++ toString (m + 1):=rfl
    rw [this,String.length_append]
    have:=AZ (n:=m + 1) (k:=12) (by decide) h
    have e:("-" : String).length=1:=rfl
    omega
theorem Ic {n:Nat}(h:n < 1000000000):n.log2 < 30:=by
  by_cases c:n=0
  · subst c;decide
  · rw [Nat.log2_lt c];exact Nat.lt_trans h (by decide)
mutual
theorem GG:∀ (d:D),okR d=true→(fA d).showable=true∧(fA d).hasDict=false∧(fA d).canLay0=true∧PyData.intsShort 13 (fA d)=true∧(fA d).depth≤dep d∧(fA d).weight≤jp d
  | .non,_=>by simp [fA,PyData.showable,PyData.hasDict,PyData.canLay0,PyData.intsShort,PyData.depth,PyData.weight,jp,dep]
  | .bl b,_=>by simp [fA,PyData.showable,PyData.hasDict,PyData.canLay0,PyData.intsShort,PyData.depth,PyData.weight,jp,dep]
  | .int i,h=>by
    simp only [okR,decide_eq_true_eq] at h
    have l:=Ic h
    have s:=FS i (Nat.lt_trans h (by decide))
    refine⟨?_,by simp [fA,PyData.hasDict],by simp [fA,PyData.canLay0],by simp only [fA,PyData.intsShort];exact decide_eq_true s,by simp [fA,PyData.depth],?_⟩
    · simp only [fA,PyData.showable];exact decide_eq_true (by omega)
    · simp only [fA,PyData.weight,jp]
      split<;>omega
  | .tup l,h=>by
    simp only [okR] at h
    obtain⟨a,b,c,d,e,f⟩:=D0 l h
    simp only [fA,PyData.showable,PyData.hasDict,PyData.canLay0,PyData.intsShort,PyData.depth,PyData.weight,jp,dep]
    exact⟨a,b,c,d,by omega,f⟩
  | .str _,h=>by simp [okR] at h
  | .ref _,h=>by simp [okR] at h
  | .lit _,h=>by simp [okR] at h
  | .exn _ _,h=>by simp [okR] at h
theorem D0:∀ (l:List D),ml l=true→PyData.showableAll (jo l)=true∧PyData.hasDictAll (jo l)=false∧PyData.canLayAll0 (jo l)=true∧PyData.intsShortAll 13 (jo l)=true∧PyData.depthAll (jo l)≤ja l∧PyData.weightAll (jo l)≤i7 l
  | [],_=>by simp [jo,PyData.showableAll,PyData.hasDictAll,PyData.canLayAll0,PyData.intsShortAll,PyData.depthAll,PyData.weightAll]
  | x :: l,h=>by
    simp only [ml,Bool.and_eq_true] at h
    obtain⟨a,b,c,d,e,f⟩:=GG x h.1
    obtain⟨a',b',c',d',e',f'⟩:=D0 l h.2
    simp only [jo,PyData.showableAll,PyData.hasDictAll,PyData.canLayAll0,PyData.intsShortAll,PyData.depthAll,PyData.weightAll,i7,ja,a,b,c,d,a',b',c',d']
    refine⟨rfl,rfl,rfl,rfl,?_,by omega⟩
    exact Nat.max_le.mpr ⟨Nat.le_trans e (Nat.le_max_left _ _),Nat.le_trans e' (Nat.le_max_right _ _)⟩
end
section
variable {P:Program} {w:World} {K:PySem.W.Frag} {ρ:List Addr} {H:Hp} {h h':Heap}
mutual
theorem w5 (hok:HOk P w H h)(kk:∀ b o u,H b=some u→h.get? b=some o→h'.get? b=some o):∀ {d:D} {v:V} {u:Value},RD K ρ H d v→bj v u→okR d=true → ∃ as,Reads h' u (fA d) as
  | .non,v,u,r,q,_=>by
    simp only [RD] at r;subst r
    cases (show u=Value.none from q)
    exact⟨_,Reads.none⟩
  | .bl b,v,u,r,q,_=>by
    simp only [RD] at r;subst r
    cases (show u=Value.bool b from q)
    exact⟨_,Reads.bool b⟩
  | .int i,v,u,r,q,_=>by
    simp only [RD] at r;subst r
    obtain⟨t,rfl⟩:=q
    exact⟨_,Reads.int i t⟩
  | .tup l,v,u,r,q,o=>by
    simp only [RD] at r
    obtain⟨p,vs,rfl,hp,rs⟩:=r
    cases (show u=Value.ref p from q)
    obtain⟨z,its,rv,ob,ho,hc,n,hd⟩:=hok p _ hp
    simp only [okR] at o
    obtain⟨as,ra⟩:=tj hok kk rs rv o
    simp only [fA]
    exact⟨as,Reads.tuple (kk p ob _ hp ho) hc hd (by simpa using ra)⟩
  | .str _,_,_,_,_,o=>by simp [okR] at o
  | .ref _,_,_,_,_,o=>by simp [okR] at o
  | .lit _,_,_,_,_,o=>by simp [okR] at o
  | .exn _ _,_,_,_,_,o=>by simp [okR] at o
theorem tj (hok:HOk P w H h)(kk:∀ b o u,H b=some u→h.get? b=some o→h'.get? b=some o):∀ {l:List D} {vs:List V} {us:List Value},RDs K ρ H l vs→aI vs us→ml l=true → ∃ as,ReadsAll h' us (jo l) as
  | [],vs,us,r,q,_=>by
    simp only [RDs] at r;subst r
    cases q
    exact⟨_,ReadsAll.nil⟩
  | x :: l,vs,us,r,q,o=>by
    simp only [RDs] at r
    obtain⟨v,rr,rfl,r1,r2⟩:=r
    cases q with
    | cons q1 q2 =>
      simp only [ml,Bool.and_eq_true] at o
      obtain⟨as,a⟩:=w5 hok kk r1 q1 o.1
      obtain⟨bs,b⟩:=tj hok kk r2 q2 o.2
      exact⟨_,ReadsAll.cons a b⟩
end
end
section
variable {X:Cx} {pos p:Pos}
def JE (K:PySem.W.Frag):List V→Hp→VK→Prop:=fun xs H Q=>∃ (ρ:List Addr) (l:List D) (v:V),xs=[v]∧RD K ρ H (.tup l) v∧okR (.tup l)=true∧dep (.tup l)≤20∧jp (.tup l)≤1000000∧Q (.str (fA (.tup l)).shown) H
theorem BP (hgd:X.A.guards=some []) (hu:X.A.units + 64 < cLine):eP X (.builtin "repr") (JE X.K):=by
  intro pins s σ H xs us Q I r h
  obtain⟨ρ,l,v,rfl,rd,ok,dp,ct,q⟩:=h
  obtain⟨u,rfl,ru⟩:=aI.one r
  obtain⟨m,hm,_⟩:=id I.loc
  have N0:News (Att.noObjs s.heap) X.env.locals s.heap (Att.ledger s.heap X.env.locals X.env.locals):=fun ⟨b,o⟩ hb=>by
    obtain⟨n1,n2,e⟩:=Att.mem_ledger.mp hb
    exact⟨e,n1,Att.noObjs_get _ _⟩
  have inN:∀ b o,b≠X.env.locals→s.heap.get? b=some o→(b,o)∈Att.ledger s.heap X.env.locals X.env.locals:=fun b o hb e=>Att.mem_ledger.mpr ⟨hb,hb,e⟩
  have nL:∀ b u,H b=some u→b≠X.env.locals:=fun b u e z=>by rw [z,I.free] at e;cases e
  have via:ReadsVia (Att.noObjs s.heap) (Att.ledger s.heap X.env.locals X.env.locals) u (fA (.tup l)):=fun h' _ hn=>w5 I.hok (fun b o u' hb e=>hn (b,o) (inN b o (nL b u' hb) e)) rd ru ok
  obtain⟨p1,p2,p3,p4,p5,p6⟩:=GG _ ok
  have lay:(fA (.tup l)).layable0=true:=by
    unfold PyData.layable0
    rw [p3]
    simp only [Bool.true_and,Bool.and_eq_true,decide_eq_true_eq]
    exact⟨by omega,by omega⟩
  have disp:PyProof.Rows.isDisplay (fA (.tup l))=true:=by simp only [fA,PyProof.Rows.isDisplay]
  refine repr_via via (Att.fr_all hm) N0 p1 p2 disp hgd (by omega) (fun h' tu tk F' N' => ?_) (PyData.shown_fits_of_layable0 (B:=13) (by decide) (by decide) lay p4)
  have keep:∀ b o,b≠X.env.locals→s.heap.get? b=some o→h'.get? b=some o:=fun b o hb e=>(N' (b,o) (inN b o hb e)).1
  refine⟨.str (fA (.tup l)).shown,H,?_,⟨tu,rfl⟩,q⟩
  suffices I2:L2.Inv X pins σ H { s with heap:=h',gens:=s.gens,drawn:=s.drawn,toks:=tk } from I2
  refine I.step (g':=s.gens) (d':=s.drawn) (t':=tk) (ch:=[]) (fun _ z=>nomatch z) (fun b o hb _ _ e _=>keep b o hb e) (fun b o hb _ _ e _=>⟨o.slots,keep b o hb e⟩) (fun b o _ e n=>n) (fun b o _ e => ?_)
    (fun b ys e=>e) (fun b o u e=>e) (fun b ps e=>⟨#[],by rw [e];simp⟩) (fun m' hm'=>by rw [Dz hm' hm];exact F'.ns) (fun b u e => ?_) I.bare
  · by_cases hb:b=X.env.locals
    · obtain⟨o',_,_,ho',_⟩:=F'.ns
      rw [hb];exact⟨o',ho'⟩
    · exact⟨o,keep b o hb e⟩
  · refine (I.hok b u e).stay (fun c v hc z => ?_) (fun c z=>z) fun c ys z=>z
    rcases hc with w|w
    · subst w;exact keep c v (nL c _ e) z
    · exact keep c v (nL c _ w) z
theorem uD {a:Expr} {fa:EF} (hgd:X.A.guards=some []) (hu:X.A.units + 64 < cLine) (hg:Gl X "repr") (hm:X.mg "repr" = none) (ha:ME X a fa) (hs:starEach [a] X.env=(false,eval a X.env) :: starEach [] X.env:=by rfl):ME X (.Call (.Name "repr" p) [a] [] pos) (tf fa):=by
  refine PE.imp (fU (BP hgd hu) hg hm (by decide +kernel) (cx ha eA hs) (he:=hs)) fun σ H Q ⟨ρ,σd,hd,rs,pp⟩=>⟨ρ,σd,hd,rs,(bp.bind (R:=rD X.K) pp).imp fun v H1 ⟨ρ1,d,hd1,e1,rs1,rv,p1⟩ => ?_⟩
  cases d<;>try exact p1.elim
  rename_i l
  simp only at p1
  split at p1
  · rename_i hz
    refine⟨ρ1,l,v,rfl,rv,hz.1,hz.2.1,hz.2.2,p1.here rs1 ?_⟩
    simp only [rD,RD,DZ,toS]
  · exact p1.elim
end
end Fm
set_option linter.all false
namespace Fm
@[simp] def D1 (a:LF):EF:=fun σ h=>(a σ h).bind fun l h=>match fE l with|some bs=>.ok (.bl (bs.any id)) h|none=>.bad
def gE (f:Nat→Int):Nat→Int
  | 0=>f 0
  | k + 1=>if f (k + 1) > gE f k then f (k + 1) else gE f k
def FT (l:List D) (h:Hd):Res D:=match gy l with|some is=>if 0 < is.length then .ok (.int (gE (fun i=>is.getD i 0) (is.length - 1))) h else .bad|none=>.bad
@[simp] def oM (a:LF):EF:=fun σ h=>(a σ h).bind fun l h=>FT l h
def A0 (x:D) (h:Hd):Res (List D):=match x with
  | .ref n=>match h[n]? with
    | some (.dct l)=>if l.length < 64 then .ok ((jX (l.map (·.1))).map .int) h else .bad
    | _=>.bad
  | _=>.bad
@[simp] def jq (a:EF):LF:=fun σ h=>(a σ h).bind fun x h=>A0 x h
def FU:O2:=fun x y h=>match x,y with
  | .ref n,.int k=>match h[n]? with
    | some (.dct l)=>match je l k with|some d=>.ok d h|none=>.bad
    | _=>.bad
  | _,_=>.bad
@[simp] def w6 (a b:EF):EF:=af FU a b
end Fm
set_option Elab.async false
set_option linter.all false
set_option maxRecDepth 100000
namespace Fm
open PySem PySem.Spec L2 PySem.W PyProof.Rows
section
variable {X:Cx} {pos p:Pos}
theorem D2 (bs:List Bool):(List.range bs.length).any (fun i=>bs.getD i false)=bs.any id:=by
  have:bs=(List.range bs.length).map fun i=>bs.getD i false:=by
    apply List.ext_getElem?
    intro i
    by_cases hi:i < bs.length<;>simp [List.getD,hi]
  conv=>rhs;rw [this]
  rw [List.any_map]
  rfl
theorem BQ (hc:X.calm=true):eP X (.builtin "any") (fun xs H Q=>∃ (p:Addr) (bs:List Bool),xs=[.ref p]∧(SqL X.K H p (bs.map V.bl)∨SqT X.K H p (bs.map V.bl))∧Q (.bl (bs.any id)) H):=by
  intro pins s σ H xs us Q I r q
  obtain⟨p,bs,rfl,sq,q⟩:=q
  obtain⟨u,rfl,ru⟩:=aI.one r
  cases (show u=Value.ref p from ru)
  have hA:(X.A.in1).handled=none:=I.ok.hd hc
  have tr:∀ (its:List Value),aI (bs.map V.bl) its→TruthOf X.prog X.w X.A.in1 (fun i v=>its.toArray[i]? = some v) (fun i=>bs.getD i false):=fun its rv i v s Q E hP hQ=>by
    rw [wU rv i v hP]
    exact wpAny_truthy_bool hQ
  have fin:∀ {it:Obj} {h':Heap} {tk:Nat} {n:Nat},n=bs.length→(∀ b o,b∉[s.heap.objs.size]→(s.heap.push it).get? b=some o→h'.get? b=some o)→EP X pins σ Q (.bool ((List.range n).any fun i=>bs.getD i false)) { s with heap:=h',toks:=tk }:=by
    intro it h' tk n hn hk
    subst hn
    refine⟨.bl (bs.any id),H,I.kept (t':=tk) fun b o e=>hk b o (by simp;exact Nat.ne_of_lt (Heap.lt_size e)) (Heap.get?_push_of_some _ e),by rw [D2];rfl,q⟩
  rcases sq with sq|sq
  · obtain⟨its,rv,pl,hz⟩:=I.list sq
    have il:s.heap.IsList p its.toArray:=pl.isList
    have hlt:p < s.heap.objs.size:=by obtain⟨o,ho,_⟩:=il;exact Heap.lt_size ho
    refine PySem.call_any_walk (PySem.wpAny_pyIter_list il ?_)
    refine⟨s.heap.objs.size,_,[s.heap.objs.size],_,_,_,fun i=>bs.getD i false,rfl,PySem.Walks.list hA s.heap.objs.size p (Nat.ne_of_lt hlt) its.toArray,⟨⟨_,Heap.get?_push_size _ rfl,rfl,rfl⟩,?_⟩,tr its rv,?_⟩
    · obtain⟨o,ho,r⟩:=il;exact⟨o,Heap.get?_push_of_some _ ho,r⟩
    · exact fun h' tk hk=>fin (by simpa using rv.length.symm) hk
  · obtain⟨its,rv,pl,hz⟩:=I.tuple sq
    have il:s.heap.IsTuple p its.toArray:=pl
    have hlt:p < s.heap.objs.size:=by obtain⟨o,ho,_⟩:=il;exact Heap.lt_size ho
    refine PySem.call_any_walk (PySem.wpAny_pyIter_tuple il ?_)
    refine⟨s.heap.objs.size,_,[s.heap.objs.size],_,_,_,fun i=>bs.getD i false,rfl,PySem.Walks.tuple hA s.heap.objs.size p (Nat.ne_of_lt hlt) its.toArray,⟨⟨_,Heap.get?_push_size _ rfl,rfl,rfl⟩,?_⟩,tr its rv,?_⟩
    · obtain⟨o,ho,r⟩:=il;exact⟨o,Heap.get?_push_of_some _ ho,r⟩
    · exact fun h' tk hk=>fin (by simpa using rv.length.symm) hk
theorem Id {a:Expr} {la:LF} (hc:X.calm=true) (hg:Gl X "any") (hm:X.mg "any" = none) (ha:MQ X a la) (hs:starEach [a] X.env=(false,eval a X.env) :: starEach [] X.env:=by rfl):ME X (.Call (.Name "any" p) [a] [] pos) (D1 la):=by
  refine md (g:=fun l h=>match fE l with|some bs=>.ok (.bl (bs.any id)) h|none=>.bad) (wG (BQ hc) hg hm (by decide +kernel) (he:=hs)) ha (fun ρ H σd hd σ l q vs Q rs sq rvs p => ?_) hs
  cases c:fE l with
  | none=>simp only [c] at p;exact p.elim
  | some is =>
    simp only [c] at p
    have e:=mi rvs c
    subst e
    exact⟨q,is,rfl,sq.imp id SqT.of,p.here rs (by simp only [rD,RD])⟩
theorem w8 (f:Nat→Int):∀ n,f (argBest (fun i j=>decide (f i > f j)) n)=gE f n
  | 0=>rfl
  | n + 1=>by
    have ih:=w8 f n
    unfold argBest gE
    rw [← ih]
    by_cases c:f (n + 1) > f (argBest (fun i j=>decide (f i > f j)) n)
    · simp [c]
    · simp [c]
theorem BR (hc:X.calm=true):eP X (.builtin "max") (fun xs H Q=>∃ (p:Addr) (is:List Int),xs=[.ref p]∧(SqL X.K H p (is.map V.int)∨SqT X.K H p (is.map V.int))∧0 < is.length∧Q (.int (gE (fun i=>is.getD i 0) (is.length - 1))) H):=by
  intro pins s σ H xs us Q I r q
  obtain⟨p,is,rfl,sq,hne,q⟩:=q
  obtain⟨u,rfl,ru⟩:=aI.one r
  cases (show u=Value.ref p from ru)
  have hA:(X.A.in1).handled=none:=I.ok.hd hc
  have fin:∀ {its:List Value} {it:Obj} {h':Heap} {tk:Nat} {v:Value},aI (is.map V.int) its→its.toArray[argBest (fun i j=>decide ((fun i=>is.getD i 0) i > (fun i=>is.getD i 0) j)) (its.toArray.size - 1)]? = some v→(∀ b o,b∉[s.heap.objs.size]→(s.heap.push it).get? b=some o→h'.get? b=some o)→EP X pins σ Q v { s with heap:=h',toks:=tk }:=by
    intro its it h' tk v rv hP hk
    have hl:its.toArray.size=is.length:=by have:=rv.length;simpa using this.symm
    rw [hl] at hP
    obtain⟨t,rfl⟩:=kS rv _ _ hP
    exact⟨.int (gE (fun i=>is.getD i 0) (is.length - 1)),H,I.kept (t':=tk) fun b o e=>hk b o (by simp;exact Nat.ne_of_lt (Heap.lt_size e)) (Heap.get?_push_of_some _ e),⟨t,by rw [← w8]⟩,q⟩
  rcases sq with sq|sq
  · obtain⟨its,rv,pl,hz⟩:=I.list sq
    have il:s.heap.IsList p its.toArray:=pl.isList
    have hlt:p < s.heap.objs.size:=by obtain⟨o,ho,_⟩:=il;exact Heap.lt_size ho
    have hl:its.toArray.size=is.length:=by have:=rv.length;simpa using this.symm
    refine PySem.call_max_walk (PySem.wpAny_pyIter_list il ?_)
    refine⟨s.heap.objs.size,_,[s.heap.objs.size],_,_,_,_,rfl,PySem.Walks.list hA s.heap.objs.size p (Nat.ne_of_lt hlt) its.toArray,⟨⟨_,Heap.get?_push_size _ rfl,rfl,rfl⟩,?_⟩,?_,by rw [hl];exact hne,CmpOf.ints_gt (fun i=>is.getD i 0) (kS rv),?_⟩
    · obtain⟨o,ho,r⟩:=il;exact⟨o,Heap.get?_push_of_some _ ho,r⟩
    · intro b hb
      show b < (s.heap.push _).objs.size
      rw [Heap.size_push]
      simp at hb
      rcases hb with rfl|rfl
      · exact Nat.lt_succ_self _
      · exact Nat.lt_succ_of_lt hlt
    · exact fun v h' tk hP hk=>fin rv hP hk
  · obtain⟨its,rv,pl,hz⟩:=I.tuple sq
    have il:s.heap.IsTuple p its.toArray:=pl
    have hlt:p < s.heap.objs.size:=by obtain⟨o,ho,_⟩:=il;exact Heap.lt_size ho
    have hl:its.toArray.size=is.length:=by have:=rv.length;simpa using this.symm
    refine PySem.call_max_walk (PySem.wpAny_pyIter_tuple il ?_)
    refine⟨s.heap.objs.size,_,[s.heap.objs.size],_,_,_,_,rfl,PySem.Walks.tuple hA s.heap.objs.size p (Nat.ne_of_lt hlt) its.toArray,⟨⟨_,Heap.get?_push_size _ rfl,rfl,rfl⟩,?_⟩,?_,by rw [hl];exact hne,CmpOf.ints_gt (fun i=>is.getD i 0) (kS rv),?_⟩
    · obtain⟨o,ho,r⟩:=il;exact⟨o,Heap.get?_push_of_some _ ho,r⟩
    · intro b hb
      show b < (s.heap.push _).objs.size
      rw [Heap.size_push]
      simp at hb
      rcases hb with rfl|rfl
      · exact Nat.lt_succ_self _
      · exact Nat.lt_succ_of_lt hlt
    · exact fun v h' tk hP hk=>fin rv hP hk
theorem A1 {a:Expr} {la:LF} (hc:X.calm=true) (hg:Gl X "max") (hm:X.mg "max" = none) (ha:MQ X a la) (hs:starEach [a] X.env=(false,eval a X.env) :: starEach [] X.env:=by rfl):ME X (.Call (.Name "max" p) [a] [] pos) (oM la):=by
  refine md (g:=FT) (wG (BR hc) hg hm (by decide +kernel) (he:=hs)) ha (fun ρ H σd hd σ l q vs Q rs sq rvs p => ?_) hs
  unfold FT at p
  cases c:gy l with
  | none=>simp only [c] at p;exact p.elim
  | some is =>
    simp only [c] at p
    split at p
    · rename_i hz
      have e:=ox rvs c
      subst e
      exact⟨q,is,rfl,sq.imp id SqT.of,hz,p.here rs (by simp only [rD,RD])⟩
    · exact p.elim
theorem Ie {a b:Expr}{fa fb:EF}(hu:X.A.units + 1 < cLine)(ha:ME X a fa)(hb:ME X b fb)(hs:HJ b:=by intro _ _;rfl):ME X (.Subscript a b pos) (w6 fa fb):=by
  refine me2 (a:=a) (b:=b) (g:=FU) (FI hu ha hb hs) fun ρ H σd hd σ d k v w Q rs rv rw' p => ?_
  unfold FU at p
  cases d<;>try exact p.elim
  cases k<;>try exact p.elim
  rename_i n i
  simp only at p
  simp only [RD] at rv rw'
  subst rw'
  obtain⟨a,ha,rfl⟩:=rv
  cases c:hd[n]? with
  | none=>rw [c] at p;exact p.elim
  | some cell =>
    rw [c] at p
    cases cell with
    | lst l=>exact p.elim
    | dct l =>
      simp only at p
      obtain⟨kvs,q1,q2,q3⟩:=rs.hp.cel n _ a c ha
      rcases oE i q2 q3 with ⟨e1,e2⟩|⟨d,v,e1,e2,rd⟩
      · rw [e1] at p;exact p.elim
      · rw [e1] at p
        exact⟨a,v,rfl,by have z:=uz.k (k:=Sum.inl i) q1;rw [e2] at z;exact z,p.here rs rd⟩
end
section
variable {prog:Program} {w:World} {A:Around} {E:Value→Shared→Prop} {s:Shared} {κ : Type} [DecidableEq κ] {knd:KeyKind prog w κ}
theorem uE {d:Addr}{kvs:List (κ × Value)}{ep:Nat}{R:List Value→Shared→Prop}(hh:A.handled=none)(lo:(d == sysModules)=false)(hm:s.heap.DictAt knd d kvs ep)(hn:kvs.length≤sizeLine)
    (h:∀ (h':Heap) (tk:Nat) (acc:Array Value),(∀ b o,s.heap.get? b=some o→h'.get? b=some o)→ItemsOf (fun i v=>∃ k x,kvs[i]? = some (k,x)∧knd.is k v=true) acc kvs.length→R acc.toList { s with heap:=h',toks:=tk }) :
    wpAny (model prog w) A (collect (.ref d)) R E s:=by
  have hd:d < s.heap.objs.size:=hm.lt_size
  unfold collect
  refine wpAny_bind (wpAny_runValue (codeAny_builtin entry_proto_collect' ?_))
  rw [Around.under_plainId PySem.F.plain_proto_collect _]
  show wpAny _ A.in1 (newList [] >>= fun l=>again (.builtin "list.__iadd__" ⟨[l,.ref d],[]⟩)) _ _ s
  refine wpAny_bind (wpAny_newObj_type ?_)
  refine wpAny_pure ⟨plainId_quiet PySem.F.plain_list_iadd _,codeAny_builtin entry_list_iadd' ?_⟩
  rw [Around.under_plainId PySem.F.plain_list_iadd _]
  have hS₁ : (s.heap.push { cls:=.type "list",data:=.seq ([] : List Value).toArray }).get? s.heap.objs.size=some { cls:=.type "list",data:=.seq #[] }:=Heap.get?_push_size _ rfl
  show wpAny _ A.in1 (Builtin.List.listExtendWith (.ref s.heap.objs.size) (.ref d) (.ref s.heap.objs.size)) _ _ _
  have key:=kdl_extend (A:=A) (s:={ s with heap:=s.heap.push { cls:=.type "list",data:=.seq ([] : List Value).toArray } })
    (R:=fun (q:Result) (s':Shared)=>∃ (h':Heap) (tk:Nat) (acc':Array Value) (c':Nat),q=.ok (.ret (.ref s.heap.objs.size))∧s' = { s with heap:=h',toks:=tk } ∧
      (∀ b o,s.heap.get? b=some o→h'.get? b=some o)∧h'.get? s.heap.objs.size=some { cls:=.type "list",dict:=none,data:=.seq acc' c',slots := #[] } ∧ ItemsOf (fun i v=>∃ k x,kvs[i]? = some (k,x)∧knd.is k v=true) acc' kvs.length)
    (kdl_dict (knd:=knd) (kvs:=kvs) (ep:=ep) lo) hh (hm.push _) s.heap.objs.size (Nat.ne_of_gt hd) (Nat.ne_of_gt hd) (.ref s.heap.objs.size) 0 hS₁
    (fun h' tk acc' c' hk hS' hacc=>⟨h',tk,acc',c',rfl,rfl,fun b o e=>hk b o (Nat.ne_of_lt (Heap.lt_size e)) (Heap.get?_push_of_some _ e),hS',hacc⟩) hn
  refine wpAny_mono key (fun fin s' x => ?_) fun e s' x => ?_
  · cases fin with
    | done f =>
      obtain⟨h',tk,acc',c',e,rfl,hk,hS',hacc⟩:=x
      cases e
      show wpAny _ A (load s.heap.objs.size >>= _) _ _ _
      exact wpAny_bind (wpAny_load hS' (wpAny_pure (h h' tk acc' hk hacc)))
    | again c₁ =>
      refine⟨x.1,codeAny_mono x.2 fun q s₂ y => ?_⟩
      obtain⟨h',tk,acc',c',rfl,rfl,hk,hS',hacc⟩:=y
      show wpAny _ A (load s.heap.objs.size >>= _) _ _ _
      exact wpAny_bind (wpAny_load hS' (wpAny_pure (h h' tk acc' hk hacc)))
  · obtain⟨_,_,_,_,e',_⟩:=x
    cases e'
end
theorem oN:∀ {vs:List Value} {ns:List Int},vs.length=ns.length→(∀ (j:Nat) v n,vs[j]? = some v→ns[j]? = some n → ∃ t,v=Value.int n t)→IntsAre vs ns
  | [],[],_,_=>.nil
  | [],_ :: _,h,_=>by simp at h
  | _ :: _,[],h,_=>by simp at h
  | v :: vs,n :: ns,h,f=>by
    obtain⟨t,rfl⟩:=f 0 v n rfl rfl
    exact .cons n t (oN (by simpa using h) fun j v n e e'=>f (j + 1) v n (by simpa using e) (by simpa using e'))
section
variable {prog:Program} {w:World} {A:Around} {E:Value→Shared→Prop} {s:Shared}
theorem D3 {d:Addr}{kvs:List (Key × Value)}{ep:Nat}{ns:List Int}{Q:Value→Shared→Prop}(hh:A.handled=none)(lo:(d == sysModules)=false)(hm:s.heap.DictAt (bZ prog w) d kvs ep)(hk:kvs.map (·.1)=ns.map (fun n=>(Sum.inl n:Key)))(h64:ns.length < 64)
    (h:∀ (h1 h':Heap) (tk e:Nat) (vs':List Value) (ns':List Int),(∀ b u,s.heap.get? b=some u→h1.get? b=some u)→(∀ b u,h1.get? b=some u→h'.get? b=some u)→h'.get? h1.objs.size=some (seqObj "list" vs'.toArray e)→IntsAre vs' ns'→ns'.Perm ns→ns'.Pairwise (· ≤ ·)→Q (.ref h1.objs.size) { s with heap:=h',toks:=tk }) :
    wpAny (model prog w) A (call (.builtin "sorted") [.ref d]) Q E s:=by
  have hl:kvs.length=ns.length:=by have:=congrArg List.length hk;simpa using this
  refine Calls.call_function_entry kind_sorted plain_sorted entry_sorted (args_sorted1 _) ?_
  unfold Builtin.«sorted»
  refine wpAny_bind (m:=checkCount "sorted" 1 1 _) (wpAny_pure ?_)
  refine wpAny_bind (uE (A:=A.in1) hh lo hm (by rw [sizeLine_eq];omega) fun h1 tk acc k1 hacc => ?_)
  obtain⟨vs,rfl⟩ : ∃ vs:List Value,acc=vs.toArray:=⟨acc.toList,by simp⟩
  have et:vs.toArray.toList=vs:=by simp
  rw [et]
  have lv:vs.length=ns.length:=by have:=hacc.1;simpa [hl] using this
  have hi:IntsAre vs ns:=by
    refine oN lv fun j v n e e' => ?_
    obtain⟨k,x,e1,e2⟩:=hacc.2 j v (by simpa using e)
    have e3:(kvs.map (·.1))[j]? = some k:=by rw [List.getElem?_map,e1];rfl
    rw [hk,List.getElem?_map,e'] at e3
    cases e3
    exact Value.isInt_shape e2
  refine wpAny_bind (wpAny_newList ?_ (by rw [sizeLine_eq];omega))
  have hoL:(h1.push (seqObj "list" vs.toArray 0)).get? h1.objs.size=some (seqObj "list" vs.toArray 0):=Heap.get?_push_size _ rfl
  have keep:∀ b u,h1.get? b=some u→(h1.push (seqObj "list" vs.toArray 0)).get? b=some u:=fun b u q=>Heap.get?_push_of_some _ q
  show wpAny _ _ (holding [Value.ref h1.objs.size] _ >>= fun _=>_) _ _ { s with heap:=h1.push (seqObj "list" vs.toArray 0),toks:=tk }
  generalize hG:h1.push (seqObj "list" vs.toArray 0)=G at hoL keep
  have hGs:G.objs.size=h1.objs.size + 1:=by rw [← hG,size_push']
  refine wpAny_bind (wpAny_holding (wpAny_call_entry slot_list_sort (s:={ s with heap:=G,toks:=tk }) ⟨_,hoL,rfl⟩ entry_list_sort (list_sort_tree hoL hi (by omega) fun out ns' i' p' r'=>⟨_,rfl,?_⟩) (args_list_sort _)))
  refine wpAny_pure ⟨_,rfl,?_⟩
  have hlt1:h1.objs.size < G.objs.size:=by omega
  obtain⟨e1,ho1⟩ : ∃ e1,(G.update h1.objs.size (Obj.mapSeq fun _ => #[])).get? h1.objs.size=some (seqObj "list" #[] e1):=⟨_,get?_update_seq hoL (fun _ => #[])⟩
  have ho6:(((G.update h1.objs.size (Obj.mapSeq fun _ => #[])).push (seqObj "tuple" vs.toArray 0)).push (seqObj "list" #[] 0)).get? h1.objs.size=some (seqObj "list" #[] e1):=by
    rw [Heap.get?_push_ne _ _ _ (by rw [size_push',Heap.size_update];exact Nat.ne_of_lt (Nat.lt_succ_of_lt hlt1)),Heap.get?_push_ne _ _ _ (by rw [Heap.size_update];exact Nat.ne_of_lt hlt1)]
    exact ho1
  have fin:=get?_update_seq ho6 (fun _=>out)
  refine h h1 (sortedHeap G h1.objs.size vs out) _ _ out.toList ns' k1 (fun b u q => ?_) (by unfold sortedHeap;simpa using fin) i' p' r'
  have hlt:b < h1.objs.size:=Heap.lt_size q
  have n1:b≠h1.objs.size:=Nat.ne_of_lt hlt
  have n2:b < G.objs.size:=Nat.lt_trans hlt hlt1
  unfold sortedHeap
  rw [Heap.get?_update_ne _ _ _ _ n1,Heap.get?_push_ne _ _ _ (by rw [size_push',Heap.size_update];exact Nat.ne_of_lt (Nat.lt_succ_of_lt n2)),Heap.get?_push_ne _ _ _ (by rw [Heap.size_update];exact Nat.ne_of_lt n2),Heap.get?_update_ne _ _ _ _ n1]
  exact keep b u q
end
section
variable {X:Cx} {pos p:Pos}
def Ig:List V→Hp→VK→Prop:=fun xs H Q=>∃ (a:Addr) (kvs:List (Key × V)) (ns:List Int),xs=[.ref a]∧H a=some (.dK kvs)∧kvs.map (·.1)=ns.map (fun n=>(Sum.inl n:Key))∧ns.length < 64 ∧ ∀ q,H q=none→Q (.ref q) (upd H q (.lst ((jX ns).map V.int)))
theorem y9 (hc:X.calm=true):eP X (.builtin "sorted") Ig:=by
  intro pins s σ H xs us Q I r h
  obtain⟨a,kvs,ns,rfl,ha,hk,h64,q⟩:=h
  obtain⟨u,rfl,ru⟩:=aI.one r
  cases (show u=Value.ref a from ru)
  obtain⟨hz,lo,vs,rel,dd⟩:=AQ I.hok ha
  obtain⟨o,es,ep,d1,d2⟩:=id dd
  have dat:s.heap.DictAt (bZ X.prog X.w) a vs ep:=⟨o,es,d1,d2⟩
  refine D3 (I.ok.hd hc) lo dat (by rw [← rel.keys];exact hk) h64 fun h1 h' tk e vs' ns' k1 k2 hq i' p' r' => ?_
  have e0:=sZ p' r'
  subst e0
  have I1:Inv X pins σ H { s with heap:=h1,toks:=tk }:=I.kept (t':=tk) k1
  have lz:(jX ns).length=ns.length:=(kq ns).length_eq
  exact⟨.ref h1.objs.size,_,I1.laid (t':=tk) (o:=.lst ((jX ns).map V.int)) k2 (Nat.le_refl _) ⟨by rw [List.length_map,sizeLine_eq];omega,vs',e,w4 i',hq⟩,rfl,q _ (I1.hok.fresh (Nat.le_refl _))⟩
theorem D4 {a:Expr} {fa:EF} (hc:X.calm=true) (hg:Gl X "sorted") (hm:X.mg "sorted" = none) (ha:ME X a fa) (hs:starEach [a] X.env=(false,eval a X.env) :: starEach [] X.env:=by rfl):MF X (.Call (.Name "sorted" p) [a] [] pos) (jq fa):=by
  refine PE.imp (fU (y9 hc) hg hm (by decide +kernel) (cx ha eA hs) (he:=hs)) fun σ H Q ⟨ρ,σd,hd,rs,pp⟩=>⟨ρ,σd,hd,rs,?_⟩
  unfold jq at pp
  cases e:fa σd hd with
  | exc x h'=>rw [e] at pp;exact pp
  | bad=>rw [e] at pp;exact pp
  | ok l hd1 =>
    rw [e] at pp
    simp only [ax] at pp
    intro v H1 ρ1 e1 rs1 rv
    unfold A0 at pp
    cases l<;>try exact pp.elim
    rename_i n
    simp only at pp
    simp only [rD,RD] at rv
    obtain⟨a,ha,rfl⟩:=rv
    cases c:hd1[n]? with
    | none=>rw [c] at pp;exact pp.elim
    | some cell =>
      rw [c] at pp
      cases cell with
      | lst l=>exact pp.elim
      | dct l =>
        simp only at pp
        obtain⟨kvs,q1,q2,q3⟩:=rs1.hp.cel n _ a c ha
        split at pp
        · rename_i hz
          exact⟨a,kvs,l.map (·.1),rfl,q1,by rw [q2];simp,by simpa using hz,fun q' hq=>pp.mk e1 rs1 (JD _) q' hq⟩
        · exact pp.elim
end
end Fm
namespace Fm
theorem BS {h h':Hd}{d:D}(e:h'.length≤h.length):letGo h (.ok d h')=.ok d h':=by
  simp only [letGo];split
  · rw [List.take_of_length_le e]
  · rfl
@[simp] theorem cT {h:Hd} {d:D}:letGo h (.ok d h)=.ok d h:=BS (Nat.le_refl _)
theorem tm {h h':Hd}{d:D}(e:pure? d=false):letGo h (.ok d h')=.ok d h':=by
  simp [letGo,e]
@[simp] theorem cU {h h':Hd} {n:Nat}:letGo h (.ok (.ref n) h')=.ok (.ref n) h':=tm rfl
theorem dy {h g:Hd}{d:D}(e:pure? d=true):letGo h (.ok d (h++g))=.ok d h:=by
  have:Dl h (h++g):=fun n c hn hc=>.inl (by rwa [List.getElem?_append_left hn] at hc)
  simp [letGo,e,this]
structure Web where
  ties:List (List (Nat × Int))
  bars:List Int
  stays:List (Option Int)
def bW:Option Int→D
  | none=>.non
  | some i=>.int i
def gR (p:Nat × Int):D:=.tup [.int p.1,.int p.2]
def dn (r:List (Nat × Int)):D:=.tup (r.map gR)
def bC (l:List Int):D:=.tup (l.map .int)
def Web.enc (w:Web):D:=.tup [.tup (w.ties.map dn),.tup (w.bars.map .int),.tup (w.stays.map bW)]
structure Web.Ok (w:Web) (n:Nat):Prop where
  t:w.ties.length=n
  b:w.bars.length=n
  s:w.stays.length=n
  lt:∀ r∈w.ties,∀ p∈r,p.1 < n
  sz:n≤1000
structure JF (w:Web) (n:Nat) (s:List Int):Prop where
  len:s.length=n
  op:∀ x∈s,x=0∨x=1
  st:∀ (i:Nat) (x:Int),w.stays[i]? = some (some x)→s[i]? = some x
theorem kN {l:List D}{i:Nat}{d:D}(e:l[i]? = some d):atI l (i:Int)=some d:=by
  have:=(List.getElem?_eq_some_iff.mp e).1
  simp [atI,ixN,this]
  simpa [List.getElem?_eq_getElem this] using e
theorem bv {g:Option Nat}{all:List D}{tg:GF}{cs:List TF}{e:EF}{h:Hd}(I:Sd→Prop)(p:D→Bool)(f:D→D)(hh:fV g all h) :
    ∀ {xs:List D} {σ:Sd},(∀ x∈xs,∀ σ,I σ → ∃ σ',tg x σ = some σ'∧I σ'∧i6 cs σ' h=.ok (p x) h∧(p x=true→e σ' h=.ok (f x) h))→I σ →
      bV g all tg cs e xs σ h=.ok ((xs.filter p).map f) h
  | [],_,_,_=>by simp [bV,hh]
  | x :: xs,σ,st,i=>by
    obtain⟨σ',h1,h2,h3,h4⟩:=st x (by simp) σ i
    have ih:=bv I p f hh (xs:=xs) (σ := σ') (fun y hy=>st y (by simp [hy])) h2
    cases hp:p x with
    | true=>simp [bV,hh,h1,h3,hp,h4 hp,ih]
    | false=>simp [bV,hh,h1,h3,hp,ih]
theorem mm {g:Option Nat}{all:List D}{tg:GF}{b:SF}{rest:List D}(P:Nat→Sd→Hd→Prop)(hh:∀ i σ h,P i σ h→fV g all h) :
    ∀ {xs:List D} {k:Nat} {σ:Sd} {h:Hd},(∀ (i:Nat) x σ h,xs[i]? = some x→P (k + i) σ h → ∃ σ',tg x σ = some σ' ∧ ∃ σ'' h'',b σ' h=.nx σ'' h''∧P (k + i + 1) σ'' h'')→P k σ h →
      ∃ σ' h',dm g all tg b (xs++rest) σ h=dm g all tg b rest σ' h'∧P (k + xs.length) σ' h'
  | [],k,σ,h,_,p=>⟨σ,h,rfl,by simpa using p⟩
  | x :: xs,k,σ,h,st,p=>by
    obtain⟨σ',h1,σ2,h2,h3,h4⟩:=st 0 x σ h (by simp) (by simpa using p)
    have st':∀ (i:Nat) y σ h,xs[i]? = some y→P (k + 1 + i) σ h → ∃ σ',tg y σ = some σ' ∧ ∃ σ'' h'',b σ' h=.nx σ'' h''∧P (k + 1 + i + 1) σ'' h'':=fun i y σ h e q=>by
      have e1:k + 1 + i=k + (i + 1):=by omega
      rw [e1] at q ⊢
      exact st (i + 1) y σ h (by simpa using e) q
    obtain⟨σ3,h5,h6,h7⟩:=mm P hh st' (by simpa using h4)
    refine⟨σ3,h5,?_,?_⟩
    · rw [← h6,List.cons_append,dm,if_pos (hh _ _ _ p),h1]
      simp only [h3]
    · have e1:k + (x :: xs).length=k + 1 + xs.length:=by simp;omega
      rw [e1];exact h7
theorem c5 {g:Option Nat}{all:List D}{tg:GF}{b:SF}(P:Nat→Sd→Hd→Prop)(hh:∀ i σ h,P i σ h→fV g all h)
    {xs:List D} {k:Nat} {σ:Sd} {h:Hd} (st:∀ (i:Nat) x σ h,xs[i]? = some x→P (k + i) σ h → ∃ σ',tg x σ = some σ' ∧ ∃ σ'' h'',b σ' h=.nx σ'' h''∧P (k + i + 1) σ'' h'') (p:P k σ h) :
      ∃ σ' h',dm g all tg b xs σ h=.nx σ' h'∧P (k + xs.length) σ' h':=by
  obtain⟨σ',h',q,z⟩:=mm (rest:=[]) P hh st p
  rw [List.append_nil] at q
  exact⟨σ',h',q.trans (by unfold dm;exact if_pos (hh _ _ _ z)),z⟩
theorem iB {g:Option Nat}{all:List D}{tg:GF}{e:EF}(P:Nat→Sd→Hd→Prop)(V:Nat→D→Prop)(hh:∀ i σ h,P i σ h→fV g all h) :
    ∀ {xs:List D} {k:Nat} {σ:Sd} {h:Hd},(∀ (i:Nat) x σ h,xs[i]? = some x→P (k + i) σ h → ∃ σ',tg x σ = some σ' ∧ ∃ d h'',e σ' h=.ok d h''∧V (k + i) d∧P (k + i + 1) σ' h'')→P k σ h →
      ∃ ds h',bV g all tg [] e xs σ h=.ok ds h'∧ds.length=xs.length∧(∀ (i:Nat) d,ds[i]? = some d→V (k + i) d) ∧ ∃ σ',P (k + xs.length) σ' h'
  | [],k,σ,h,_,p=>⟨[],h,by simp [bV,hh _ _ _ p],rfl,by simp,σ,by simpa using p⟩
  | x :: xs,k,σ,h,st,p=>by
    obtain⟨σ',h1,d,h2,h3,hv,h4⟩:=st 0 x σ h (by simp) (by simpa using p)
    have st':∀ (i:Nat) y σ h,xs[i]? = some y→P (k + 1 + i) σ h → ∃ σ',tg y σ = some σ' ∧ ∃ d h'',e σ' h=.ok d h''∧V (k + 1 + i) d∧P (k + 1 + i + 1) σ' h'':=fun i y σ h e q=>by
      have e1:k + 1 + i=k + (i + 1):=by omega
      rw [e1] at q ⊢
      exact st (i + 1) y σ h (by simpa using e) q
    obtain⟨ds,h5,h6,hl,hvs,σ3,h7⟩:=iB P V hh st' (by simpa using h4)
    refine⟨d :: ds,h5,?_,by simp [hl],fun i d' hd => ?_,σ3,?_⟩
    · simp [bV,hh _ _ _ p,h1,i6,h3,h6]
    · cases i with
      | zero=>simp at hd;subst hd;simpa using hv
      | succ i =>
        have:=hvs i d' (by simpa using hd)
        rwa [show k + 1 + i=k + (i + 1) by omega] at this
    · have e1:k + (x :: xs).length=k + 1 + xs.length:=by simp;omega
      rw [e1];exact h7
theorem kr {α : Type}{n:Nat}{ds:List α}{f:Nat → α}(hl:ds.length=n)(h:∀ (i:Nat) d,ds[i]? = some d→d=f i):ds=(List.range n).map f:=by
  apply List.ext_getElem?
  intro i
  by_cases hi:i < n
  · have:ds[i]? = some (ds[i]'(by omega)):=by simp [hl,hi]
    rw [this,h i _ this]
    simp [hi]
  · simp [hi,hl]
end Fm
set_option linter.all false
namespace Fm
theorem aw {F:Fn}{r:LF}{σ:Sd}{h h1 h':Hd}{ds:List D}{d:D}(a:r σ h=.ok ds h1)(b:F ds h1=.ok d h'):aq F r σ h=.ok d h':=by
  show Res.bind _ _=_;rw [a];exact b
theorem ag {a:EF}{r:LF}{σ:Sd}{h h1 h2:Hd}{d:D}{ds:List D}(p:a σ h=.ok d h1)(q:r σ h1=.ok ds h2):ad a r σ h=.ok (d :: ds) h2:=by
  show Res.bind _ _=_;rw [p,ax,q];rfl
theorem ak {g:O2}{a b:EF}{σ:Sd}{h h1 h2 h3:Hd}{x y z:D}(p:a σ h=.ok x h1)(q:b σ h1=.ok y h2)(r:g x y h2=.ok z h3):af g a b σ h=.ok z h3:=by
  show Res.bind _ _=_;rw [p,ax,q];exact r
theorem iC {r:LF}{σ:Sd}{h h':Hd}{xs:List D}(p:r σ h=.ok xs h')(q:xs.length≤SZ:=by exact of_decide_eq_true rfl):eB r σ h=.ok (.tup xs) h':=by
  show Res.bind _ _=_;rw [p];exact if_pos q
theorem gh {r:LF}{σ:Sd}{h h':Hd}{xs:List D}(p:r σ h=.ok xs h')(q:xs.length≤SZ:=by exact of_decide_eq_true rfl):aL r σ h=.ok (.ref h'.length) (h'++[.lst xs]):=by
  show Res.bind _ _=_;rw [p];exact if_pos q
theorem A2 {a:LF}{b:EF}{σ:Sd}{h h1 h2:Hd}{l:List D}{i:Int}{d:D}(p:a σ h=.ok l h1)(q:b σ h1=.ok (.int i) h2)(r:atI l i=some d):fIx a b σ h=.ok d h2:=by
  show Res.bind _ _=_;rw [p,ax,q];simp only [ax,r]
theorem a4 {a b:EF}{σ:Sd}{h h1 h2:Hd}{x:D}{l:List D}{i:Int}{d:D}(p:a σ h=.ok x h1)(q:b σ h1=.ok (.int i) h2)(s:jW h2 x=some l)(r:atI l i=some d):fAt a b σ h=.ok d h2:=by
  show af _ _ _ _ _=_;exact ak p q (by simp only [oAt,s,r])
theorem aZ {h:Hd}{n:Nat}{l:List D}(p:h[n]? = some (.lst l)):jW h (.ref n)=some l:=by simp only [jW,p]
theorem aG {i:Nat}{e:EF}{σ:Sd}{h h':Hd}{d:D}(p:e σ h=.ok d h'):aC (gN i) e σ h=.nx (σ.set i (some d)) h':=by
  show outE _ _ _=_;rw [p];rfl
theorem bP {e:EF}{σ:Sd}{h h':Hd}{d:D}(p:e σ h=.ok d h'):bo e σ h=.rt d h':=by
  show outE _ _ _=_;rw [p];rfl
theorem oO {e:EF}{σ:Sd}{h h':Hd}{d:D}(p:e σ h=.ok d h'):kO e σ h=.nx σ h':=by
  show outE _ _ _=_;rw [p];rfl
theorem za {t:TF}{a b:SF}{σ:Sd}{h h1:Hd}(p:t σ h=.ok true h1):sIf t a b σ h=a σ h1:=by
  unfold sIf;rw [p];rfl
theorem gS {t:TF}{a b:SF}{σ:Sd}{h h1:Hd}(p:t σ h=.ok false h1):sIf t a b σ h=b σ h1:=by
  unfold sIf;rw [p];rfl
theorem bu {a:EF}{σ:Sd}{h h':Hd}{b:Bool}(p:a σ h=.ok (.bl b) h'):tE a σ h=.ok b h':=by
  show asB _=_;rw [p];rfl
theorem ed {t:TF}{σ:Sd}{h h':Hd}{b:Bool}(p:t σ h=.ok b h'):dU t σ h=.ok (!b) h':=by
  show Res.bind _ _=_;rw [p];rfl
theorem oP {t u:TF}{σ:Sd}{h h1 h':Hd}{b:Bool}(p:t σ h=.ok true h1)(q:u σ h1=.ok b h'):n8 t u σ h=.ok b h':=by
  show Res.bind _ _=_;rw [p];exact q
theorem i8 {t u:TF}{σ:Sd}{h h1 h':Hd}{b:Bool}(p:t σ h=.ok false h1)(q:u σ h1=.ok b h'):tOr t u σ h=.ok b h':=by
  show Res.bind _ _=_;rw [p];exact q
theorem D5 {t u:TF}{σ:Sd}{h h1:Hd}(p:t σ h=.ok true h1):tOr t u σ h=.ok true h1:=by
  show Res.bind _ _=_;rw [p];rfl
theorem A3 {i j:Int}{h:Hd}:oEq (.int i) (.int j) h=.ok (.bl (decide (i=j))) h:=rfl
theorem gi {a:LF}{σ:Sd}{h h1:Hd}{l:List D}(p:a σ h=.ok l h1):dE a σ h=.ok (.int l.length) h1:=by
  show Res.bind _ _=_;rw [p];rfl
theorem cI {a:EF}{σ:Sd}{h h1:Hd}{x:D}{l:List D}(p:a σ h=.ok x h1)(s:jW h1 x=some l):lOf a σ h=.ok l h1:=by
  show Res.bind _ _=_;rw [p];simp only [ax,s]
theorem uF {x i e:EF}{σ:Sd}{h h1 h2 h3:Hd}{d:D}{n k:Nat}{j:Int}{l:List D}(p:e σ h=.ok d h1)(q:x σ h1=.ok (.ref n) h2)(r:i σ h2=.ok (.int j) h3)(s:h3[n]? = some (.lst l))(t:ixN l.length j=some k):nG x i e σ h=.nx σ (h3.set n (.lst (l.set k d))):=by
  simp only [nG,p,q,r,outE,s,t]
theorem zc {x e:EF}{σ:Sd}{h h1 h2:Hd}{d:D}{n:Nat}{l l0:List D}(p:x σ h=.ok (.ref n) h1)(q:h1[n]? = some (.lst l0))(r:e σ h1=.ok d h2)(s:h2[n]? = some (.lst l))(t:l.length < SZ):um x e σ h=.ok .non (h2.set n (.lst (l++[d]))):=by
  simp only [um,p,ax,q,r,Hq,s,if_pos t]
theorem cV {i j:Int}{h:Hd}(p:0 < j):ck (.int i) (.int j) h=.ok (.int (i % j)) h:=by
  simp only [ck,oIc,decide_eq_true p,if_true]
theorem gU {i j:Int}{h:Hd}(p:0 < j)(q:j < 2 ^ 250):fI (.int i) (.int j) h=.ok (.int (i / j)) h:=by
  simp only [fI,oIc,decide_eq_true p,decide_eq_true q,Bool.and_self,if_true]
theorem zd {i j:Int}{h:Hd}(e:i=j):oEq (.int i) (.int j) h=.ok (.bl true) h:=by rw [A3,decide_eq_true e]
theorem ze {i j:Int}{h:Hd}(e : ¬ i=j):oEq (.int i) (.int j) h=.ok (.bl false) h:=by rw [A3,decide_eq_false e]
theorem D6 {i j:Int}{h:Hd}(p:(sml i || sml j)=true):bh (.int i) (.int j) h=.ok (.int (i * j)) h:=by
  show (if (sml i || sml j)=true then _ else _)=_
  exact if_pos p
theorem fm {i j:Int}{h:Hd}(p:sml i=true):bh (.int i) (.int j) h=.ok (.int (i * j)) h:=D6 (by rw [p];rfl)
theorem FV {i j:Int}{h:Hd}(p:sml j=true):bh (.int i) (.int j) h=.ok (.int (i * j)) h:=D6 (by rw [p,Bool.or_true])
theorem jY {t:TF}{σ:Sd}{h h':Hd}{b:Bool}(p:t σ h=.ok b h'):fT t σ h=.ok (.bl b) h':=by
  show Res.bind _ _=_;rw [p];rfl
theorem dG {r:LF}{σ:Sd}{h0 h g:Hd}{xs:List D}{A:Nat}(hA:A=h0.length)(p:r σ h=.ok xs (h0++g))(q:xs.length≤SZ):aL r σ h=.ok (.ref (A + g.length)) (h0++(g++[.lst xs])):=by
  rw [gh p q,hA,List.length_append,List.append_assoc]
theorem k8 {h0 g:Hd}{A:Nat}(hA:A=h0.length)(k:Nat)(c:cm):(h0++g).set (A + k) c=h0++g.set k c:=by
  subst hA
  rw [List.set_append_right _ _ (by omega)]
  congr 2;omega
theorem bT {h0 g:Hd}{A:Nat}(hA:A=h0.length)(k:Nat):(h0++g)[A + k]? = g[k]? := by
  subst hA
  rw [List.getElem?_append_right (by omega),Nat.add_sub_cancel_left]
theorem cW {h0:Hd}{j:Nat}{c:cm}(g:Hd)(e:h0[j]? = some c):(h0++g)[j]? = some c:=(List.getElem?_append_left (List.getElem?_eq_some_iff.mp e).1).trans e
theorem bR {a:EF}{σ:Sd}{h h1:Hd}{n:Nat}(p:a σ h=.ok (.int n) h1)(hn:n≤1000):aV a σ h=.ok ((List.range n).map (fun k:Nat=>D.int k),none) h1:=by
  show Res.bind _ _=_
  rw [p]
  exact if_pos ⟨Int.le_trans (by decide) (Int.natCast_nonneg n),Int.le_trans (Int.ofNat_le.mpr hn) (by decide)⟩
theorem fB {it:IF}{tg:GF}{b:SF}{σ:Sd}{h h1:Hd}{l:List D}{g:Option Nat}{o:Out}(p:it σ h=.ok (l,g) h1)(q:dm g l tg b l σ h1=o):eC it tg b σ h=o:=by
  unfold eC;rw [p];exact q
theorem b5 {nl:Nat}{caps:List Nat}{it:IF}{tg:GF}{cs:List TF}{e:EF}{σ:Sd}{h h1 h2:Hd}{l ds:List D}{g:Option Nat}(p:it σ h=.ok (l,g) h1)(q:bV g l tg cs e l (d6 nl caps σ) h1=.ok ds h2):aT nl caps it tg cs e σ h=.ok ds h2:=by
  show Res.bind _ _=_;rw [p];exact q
theorem Ih {la:LF}{b:EF}{σ:Sd}{h h1 h2:Hd}{l:List D}{n:Int}(p:la σ h=.ok l h1)(q:b σ h1=.ok (.int n) h2)(r:0≤n∧n≤1000∧l.length * n.toNat≤1000):oF la b σ h=.ok (List.replicate n.toNat l).flatten h2:=by
  simp only [oF,p,ax,q,if_pos r]
theorem Ii {k:Int}{n:Nat}{h:Hd}{l:List (Int × D)}(p:h[n]? = some (.dct l)):BK (.int k) (.ref n) h=.ok (.bl (je l k).isSome) h:=by simp only [BK,p]
theorem nV {x i e:EF}{σ:Sd}{h h1 h2 h3:Hd}{d:D}{n:Nat}{j:Int}{l:List (Int × D)}(p:e σ h=.ok d h1)(q:x σ h1=.ok (.ref n) h2)(r:i σ h2=.ok (.int j) h3)(s:h3[n]? = some (.dct l))(t:l.length < SZ):gf x i e σ h=.nx σ (h3.set n (.dct (wR l j d))):=by
  simp only [gf,p,q,r,outE,s,if_pos t]
theorem zf {a:EF}{σ:Sd}{h h1:Hd}{n:Nat}{l:List D}(p:a σ h=.ok (.ref n) h1)(q:h1[n]? = some (.lst l)):cN .list a σ h=.ok (.bl true) h1:=by
  simp only [cN,p,ax,yQ,q];rfl
theorem fq {a:EF}{σ:Sd}{h h1:Hd}{n:Nat}{l:List D}(p:a σ h=.ok (.ref n) h1)(q:h1[n]? = some (.lst l)):cS a σ h=.ok (l,some n) h1:=by
  simp only [cS,p,ax,q]
theorem Ij {a b:EF}{σ:Sd}{h h1 h2:Hd}{i j:Int}(p:a σ h=.ok (.int i) h1)(q:b σ h1=.ok (.int j) h2):y6 a b σ h=.ok (.int (if j > i then j else i)) h2:=by
  simp only [y6,p,ax,q]
theorem Ik {a:EF}{σ:Sd}{h h1:Hd}{b:Bool}(p:a σ h=.ok (.bl b) h1):Dk a σ h=.ok (.int (b2i b)) h1:=by
  simp only [Dk,p,ax]
theorem Il {a:LF}{σ:Sd}{h h1:Hd}{l:List D}{is:List Int}(p:a σ h=.ok l h1)(q:gy l=some is):yO a σ h=.ok (.int is.sum) h1:=by
  simp only [yO,p,ax,q]
theorem gF {a:LF}{σ:Sd}{h h1:Hd}{l:List D}(p:a σ h=.ok l h1):cC a σ h=.ok (.tup l) h1:=by
  show Res.bind _ _=_;rw [p];rfl
theorem Im {i j:Int}{h:Hd}(e:j < i):oGt (.int i) (.int j) h=.ok (.bl true) h:=by show Res.ok (D.bl (decide (j < i))) h=_;rw [decide_eq_true e]
theorem D7 {i j:Int}{h:Hd}(e : ¬ j < i):oGt (.int i) (.int j) h=.ok (.bl false) h:=by show Res.ok (D.bl (decide (j < i))) h=_;rw [decide_eq_false e]
theorem gG {h:Hd}{A:Nat}(hA:A=h.length)(c:cm):(h++[c])[A]? = some c:=by rw [hA];exact List.getElem?_concat_length
theorem uG {h:Hd}{A:Nat}(hA:A=h.length)(c d:cm):(h++[c]).set A d=h++[d]:=by
  have:=k8 (g:=[c]) hA 0 d
  rwa [Nat.add_zero] at this
theorem gH {r:LF}{σ:Sd}{h h':Hd}{xs:List D}{A:Nat}(hA:A=h'.length)(p:r σ h=.ok xs h')(q:xs.length≤SZ):aL r σ h=.ok (.ref A) (h'++[.lst xs]):=by rw [hA];exact gh p q
theorem bf {a b:SF}{σ σ':Sd}{h h':Hd}(e:a σ h=.nx σ' h'):av a b σ h=b σ' h':=by simp only [av,e]
theorem GH {a b:SF}{σ:Sd}{h h':Hd}{d:D}(e:a σ h=.rt d h'):av a b σ h=.rt d h':=by simp only [av,e]
theorem eJ {np n:Nat}{b:SF}{ds:List D}{σ:Sd}{h h':Hd}{d:D}(hl:ds.length=np)(st:(ds.map some++List.replicate (n - ds.length) none:Sd) = σ)(e:b σ h=.rt d h'):bF np n b ds h=letGo h (.ok d h'):=by
  unfold bF runB;rw [if_pos hl,st,e]
theorem JG {np n:Nat}{b:SF}{ds:List D}{σ σ':Sd}{h h':Hd}(hl:ds.length=np)(st:(ds.map some++List.replicate (n - ds.length) none:Sd) = σ)(e:b σ h=.nx σ' h'):bF np n b ds h=letGo h (.ok .non h'):=by
  unfold bF runB;rw [if_pos hl,st,e]
theorem BT {t:TF}{σ:Sd}{h:Hd}{b:Bool}(p:t σ h=.ok b h):i6 [t] σ h=.ok b h:=by
  simp only [i6,p,ax];cases b<;>rfl
theorem jr {a:EF}{σ:Sd}{h h1:Hd}{l:List D}(p:a σ h=.ok (.tup l) h1):cS a σ h=.ok (l,none) h1:=by
  show Res.bind _ _=_;rw [p];rfl
theorem D8 {a:LF}{σ:Sd}{h h1:Hd}{l:List D}{bs:List Bool}(p:a σ h=.ok l h1)(q:fE l=some bs):yP a σ h=.ok (.bl (bs.all id)) h1:=by
  simp only [yP,p,ax,q]
theorem Io (a b:Int)(h:Hd):oNe (.int a) (.int b) h=.ok (.bl (!decide (a=b))) h:=rfl
theorem gj {a b:EF}{σ:Sd}{h h1 h2:Hd}{d e:D}(p:a σ h=.ok d h1)(q:b σ h1=.ok e h2):ad a (ad b ao) σ h=.ok [d,e] h2:=ag p (ag q rfl)
theorem jt {n m:Nat}(h:n≤30)(q:30≤m:=by decide):n≤m:=Nat.le_trans h q
end Fm
set_option linter.all false
namespace Fm
noncomputable def bX:Fn:=bF 1 1 (bo (fT (n8 (tE (cN .int (aa 0))) (dU (tE (cN .bool (aa 0)))))))
noncomputable def aR:Fn:=bF 3 3 (bo (fT (n8 (tE (aq bX (ad (aa 0) ao))) (tE (ot oLe oLe (aa 1) (aa 0) (aa 2))))))
noncomputable def cy:Fn:=bF 1 1 (bo (aq aR (ad (aa 0) (ad (fC (.int 0)) (ad (fC (.int 1)) ao)))))
noncomputable def bi:Fn:=bF 1 1 (bo (dE (lOf (fAt (aa 0) (fC (.int 0))))))
noncomputable def cJ:Fn:=bF 2 2 (bo (fAt (fAt (aa 0) (fC (.int 0))) (aa 1)))
theorem lc (i:Int)(h:Hd):bX [.int i] h=.ok (.bl true) h:=(eJ (d:=.bl true) (h':=h) rfl rfl rfl).trans cT
theorem gk (i a b:Int)(h:Hd):aR [.int i,.int a,.int b] h=.ok (.bl (decide (a≤i) && decide (i≤b))) h:=by
  have ch:ot oLe oLe (aa 1) (aa 0) (aa 2) [some (.int i),some (.int a),some (.int b)] h=.ok (.bl (decide (a≤i) && decide (i≤b))) h:=by
    show (match D.bl (decide (a≤i)) with | .bl true=>Res.ok (D.bl (decide (i≤b))) h | .bl false=>.ok (.bl false) h|_=>.bad)=_
    cases decide (a≤i)<;>rfl
  have t:n8 (tE (aq bX (ad (aa 0) ao))) (tE (ot oLe oLe (aa 1) (aa 0) (aa 2))) [some (.int i),some (.int a),some (.int b)] h=.ok (decide (a≤i) && decide (i≤b)) h:=oP (bu (aw (ag rfl rfl) (lc i h))) (bu ch)
  exact (eJ rfl rfl (bP (jY t))).trans cT
theorem ju (i:Int)(h:Hd):cy [.int i] h=.ok (.bl (decide (0≤i) && decide (i≤1))) h:=by
  exact (eJ rfl rfl (bP (aw (ag rfl (gj rfl rfl)) (gk i 0 1 h)))).trans cT
theorem w9 (w:Web)(h:Hd):bi [w.enc] h=.ok (.int w.ties.length) h:=by
  have:=(eJ (np:=1) (n:=1) (b:=bo (dE (lOf (fAt (aa 0) (fC (.int 0)))))) (ds:=[w.enc]) (h:=h) rfl rfl (bP (gi (cI (a4 rfl rfl rfl rfl) rfl)))).trans cT
  rwa [List.length_map] at this
theorem ni (w:Web)(h:Hd){p:Nat}{r:List (Nat × Int)}(e:w.ties[p]? = some r):cJ [w.enc,.int p] h=.ok (dn r) h:=by
  have q:atI (w.ties.map dn) (p:Int)=some (dn r):=kN (by simp [e])
  exact (eJ rfl rfl (bP (a4 (a4 rfl rfl rfl rfl) rfl rfl q))).trans cT
theorem tq (l:List Int):gy (l.map .int)=some l:=by
  induction l with
  | nil=>rfl
  | cons x xs ih=>simp [gy,ih]
def iD (r:List (Nat × Int)) (s:List Int):List Int:=(r.filter fun p=>decide (s.getD p.1 0=1)).map (·.2)
def ee (r:List (Nat × Int)) (s:List Int):Int:=(iD r s).sum
end Fm
set_option linter.all false
namespace Fm
def JH (w:Web) (s:List Int) (p:Nat):Int:=match w.stays.getD p none with
  | some x=>x
  | none=>if 2 * ee (w.ties.getD p []) s=w.bars.getD p 0 then s.getD p 0 else if w.bars.getD p 0 < 2 * ee (w.ties.getD p []) s then 1 else 0
def GI (w:Web) (n:Nat) (s:List Int):List Int:=(List.range n).map (JH w s)
end Fm
set_option linter.all false
namespace Fm
noncomputable def jv:Fn:=bF 2 4 (av (sIf (tOr (dU (tE (cN .tuple (aa 1)))) (tE (af oNe (dE (lOf (aa 1))) (fC (.int 3))))) (bo (fC (.bl false))) bB)
    (av (aC (gN 2) (fAt (aa 1) (fC (.int 0))))
    (av (aC (gN 3) (fAt (aa 1) (fC (.int 1))))
    (av (sIf (tOr (dU (tE (aq aR (ad (aa 2) (ad (fC (.int 0)) (ad (af oq (aa 0) (fC (.int 1))) ao)))))) (dU (tE (aq aR (ad (aa 3) (ad (fC (.int 0)) (ad (af oq (aa 0) (fC (.int 1))) ao))))))) (bo (fC (.bl false))) bB)
    (bo (fT (n8 (tE (af oNe (aa 2) (aa 3))) (tE (aq aR (ad (fAt (aa 1) (fC (.int 2))) (ad (fC (.int 1)) (ad (fC (.int 400)) ao))))))))))))
noncomputable abbrev c6:SF:=(av (sIf (dU (tE (aq jv (ad (aa 0) (ad (aa 3) ao))))) jb bB)
    (av (aC (gN 4) (fAt (aa 3) (fC (.int 0))))
    (av (aC (gN 5) (fAt (aa 3) (fC (.int 1))))
    (av (sIf (tE (af BK (aa 5) (fAt (aa 2) (aa 4)))) jb bB)
    (av (gf (fAt (aa 2) (aa 4)) (aa 5) (fAt (aa 3) (fC (.int 2))))
    (gf (fAt (aa 2) (aa 5)) (aa 4) (fAt (aa 3) (fC (.int 2)))))))))
noncomputable def cX:Fn:=bF 2 6 (av (sIf (dU (tE (cN .list (aa 1)))) jb bB)
    (av (aC (gN 2) (aL (aT 1 [] (aV (aa 0)) (gN 0) [] mZ)))
    (av (eC (cS (aa 1)) (gN 3) c6)
    (bo (aa 2)))))
noncomputable def dz:Fn:=bF 2 2 (av (sIf (tE (af l4 (aa 1) (fC .non))) jb bB)
    (av (sIf (tOr (dU (tE (cN .list (aa 1)))) (tE (af oNe (dE (lOf (aa 1))) (dE (lOf (aa 0)))))) jb bB)
    (av (sIf (dU (tE (yP (aT 1 [] (cS (aa 1)) (gN 0) [] (aq bX (ad (aa 0) ao)))))) jb bB)
    (bo (cC (lOf (aa 1)))))))
noncomputable def cY:Fn:=bF 2 2 (av (sIf (tE (af l4 (aa 1) (fC .non))) (bo (cC (aT 1 [] (aV (aa 0)) (gN 0) [] (fC .non)))) bB)
    (av (sIf (tOr (dU (tE (cN .list (aa 1)))) (tE (af oNe (dE (lOf (aa 1))) (aa 0)))) jb bB)
    (av (sIf (dU (tE (yP (aT 1 [] (cS (aa 1)) (gN 0) [] (fT (tOr (tE (af l4 (aa 0) (fC .non))) (tE (aq cy (ad (aa 0) ao))))))))) jb bB)
    (bo (cC (lOf (aa 1)))))))
noncomputable def dA:Fn:=bF 4 6 (av (sIf (dU (tE (aq aR (ad (aa 0) (ad (fC (.int 1)) (ad (fC (.int 30)) ao)))))) jb bB)
    (av (aC (gN 4) (aq cX (ad (aa 0) (ad (aa 1) ao))))
    (av (aC (gN 5) (cC (aT 1 [] (cS (aa 4)) (gN 0) [] (cC (ko (aa 0))))))
    (bo (eB (ad (aa 5) (ad (aq dz (ad (aa 4) (ad (aa 2) ao))) (ad (aq cY (ad (aa 0) (ad (aa 3) ao))) ao))))))))
noncomputable def tw:Fn:=bF 2 4 (av (aC (gN 2) (fC (.int 0)))
    (av (sIf (tE (af oLt (aa 1) (dE (lOf (aa 0))))) (aC (gN 2) (fAt (aa 0) (aa 1))) bB)
    (av (aC (gN 3) (fT (tOr (tE (af oEq (dE (lOf (aa 0))) (fC (.int 0)))) (tE (af oEq (af ck (fAt (aa 0) (fC (.int 0))) (fC (.int 2))) (fC (.int 1)))))))
    (av (sIf (tE (aa 3)) (aC (gN 2) (af bA (af ck (aa 2) (fC (.int 2147483647))) (af bh (fC (.int 1000003)) (aa 1)))) bB)
    (bo (aL (ad (aa 2) (ad (fC (.int 0)) (ad (aa 3) ao)))))))))
noncomputable def cK:Fn:=bF 2 4 (av (nG (aa 0) (fC (.int 1)) (af bA (fAt (aa 0) (fC (.int 1))) (fC (.int 1))))
    (av (sIf (tE (fAt (aa 0) (fC (.int 2)))) (av (aC (gN 2) (af ck (af bh (af bA (af bA (fAt (aa 0) (fC (.int 0))) (af bh (fC (.int 7919)) (fAt (aa 0) (fC (.int 1))))) (fC (.int 1))) (fC (.int 48271))) (fC (.int 2147483647))))
    (av (aC (gN 2) (af ck (af bh (aa 2) (af bA (af ck (aa 2) (fC (.int 65521))) (fAt (aa 0) (fC (.int 1))))) (fC (.int 2147483629))))
    (bo (af ck (af ck (af bA (af bh (aa 2) (aa 2)) (af bh (fC (.int 69621)) (aa 2))) (fC (.int 2147483563))) (aa 1))))) bB)
    (av (aC (gN 3) (af ck (fAt (aa 0) (fC (.int 0))) (aa 1)))
    (av (nG (aa 0) (fC (.int 0)) (af fI (fAt (aa 0) (fC (.int 0))) (aa 1)))
    (bo (aa 3))))))
noncomputable def FW:Fn:=bF 3 3 (av (sIf (tE (af oEq (aa 0) (fC (.int 0)))) (bo (aa 2)) bB)
    (av (sIf (tE (af oEq (aa 0) (fC (.int 1)))) (bo (af oq (aa 1) (fC (.int 60)))) bB)
    (av (sIf (tE (af oEq (aa 0) (fC (.int 2)))) (bo (af oq (af bA (aa 2) (af ck (aa 1) (fC (.int 5)))) (fC (.int 2)))) bB)
    (av (sIf (tE (af oEq (aa 0) (fC (.int 3)))) (bo (af bh (fC (.int 2)) (af ck (aa 1) (af bA (aa 2) (fC (.int 1)))))) bB)
    (bo (af bh (af bA (af Ko (fC (.int 10)) (fC (.int 59))) (aa 1)) (fIx (ad (fC (.int 1)) (ad (fC (.int (-1))) ao)) (af ck (aa 1) (fC (.int 2))))))))))
noncomputable abbrev xa:SF:=(sIf (tE (af oEq (aq cK (ad (aa 9) (ad (aa 3) ao))) (fC (.int 0)))) (av (aC (gN 11) (af bA (fC (.int 1)) (aq cK (ad (aa 9) (ad (fIx (ad (fC (.int 3)) (ad (fC (.int 400)) ao)) (aq cK (ad (aa 9) (ad (fC (.int 2)) ao)))) ao)))))
    (av (kO (Kt (aa 4) (aq cK (ad (aa 9) (ad (af bA (dE (lOf (aa 4))) (fC (.int 1))) ao))) (fIx (ad (eB (ad (aa 8) (ad (aa 10) (ad (aa 11) ao)))) (ad (eB (ad (aa 10) (ad (aa 8) (ad (aa 11) ao)))) ao)) (af ck (aa 11) (fC (.int 2))))))
    (av (nG (aa 7) (aa 8) (af bA (fAt (aa 7) (aa 8)) (aa 11)))
    (nG (aa 7) (aa 10) (af bA (fAt (aa 7) (aa 10)) (aa 11)))))) bB)
noncomputable abbrev xb:SF:=(av (aC (gN 9) (aq tw (ad (aa 0) (ad (af bA (fC (.int 1)) (aa 8)) ao))))
    (av (kO (um (aa 6) (fIx (ad (fC .non) (ad (fC .non) (ad (fC .non) (ad (fC (.int 0)) (ad (fC (.int 1)) ao))))) (aq cK (ad (aa 9) (ad (fC (.int 5)) ao))))))
    (av (kO (um (aa 5) (eB (ad (aq cK (ad (aa 9) (ad (fC (.int 5)) ao))) (ad (aq cK (ad (aa 9) (ad (fC (.int 200)) ao))) ao)))))
    (eC (aV (aa 8)) (gN 10) xa))))
noncomputable def zg:Fn:=bF 1 12 (av (aC (gN 1) (aq tw (ad (aa 0) (ad (fC (.int 0)) ao))))
    (av (kO (aq cK (ad (aa 1) (ad (fC (.int 2)) ao))))
    (av (aC (gN 2) (af bA (fC (.int 1)) (aq cK (ad (aa 1) (ad (fIx (ad (fC (.int 6)) (ad (fC (.int 12)) (ad (fC (.int 30)) ao))) (aq cK (ad (aa 1) (ad (fC (.int 3)) ao)))) ao)))))
    (av (aC (gN 3) (fIx (ad (fC (.int 1)) (ad (fC (.int 2)) (ad (fC (.int 5)) ao))) (aq cK (ad (aa 1) (ad (fC (.int 3)) ao)))))
    (av (aC (gN 4) (aL ao))
    (av (aC (gN 5) (aL ao))
    (av (aC (gN 6) (aL ao))
    (av (aC (gN 7) (aL (oF (ad (fC (.int 0)) ao) (aa 2))))
    (av (eC (aV (aa 2)) (gN 8) xb)
    (av (aC (gN 5) (aL (aT 1 [7,5] (aV (aa 2)) (gN 0) [] (aq FW (ad (fAt (fAt (aa 2) (aa 0)) (fC (.int 0))) (ad (fAt (fAt (aa 2) (aa 0)) (fC (.int 1))) (ad (fAt (aa 1) (aa 0)) ao)))))))
    (bo (eB (ad (aa 2) (ad (aa 4) (ad (aa 5) (ad (aa 6) (ad (aa 7) ao)))))))))))))))))
end Fm
set_option linter.all false
namespace Fm
theorem aH {a b:SF}{σ σ':Sd}{h h':Hd}(e:a σ h=.nx σ' h'):av a b σ h=b σ' h':=by simp [av,e]
theorem nW {x:Int}(h0:0≤x)(h1:x < 4611686018427387904):sml x=true:=by
  simp only [sml,Bool.and_eq_true,decide_eq_true_eq];omega
theorem jQ {α : Type}{f : α → D}{l:List α}{i:Nat}(h:i < l.length):atI (l.map f) (i:Int)=some (f l[i]):=kN (by simp [h])
end Fm
set_option linter.all false
namespace Fm
theorem cL {n i:Nat}{x:D}(hx:((List.range n).map fun k:Nat=>D.int k)[i]? = some x):i < n∧x=.int (i:Nat):=by
  have hi:i < n:=by
    have:=(List.getElem?_eq_some_iff.mp hx).1
    simpa using this
  exact⟨hi,by simpa [hi,List.getElem?_eq_getElem] using hx.symm⟩
theorem JI {α : Type}(f : α → D)(l:List α){x:Int}(h0:0≤x)(h:x < l.length):∃ v∈l,atI (l.map f) x=some (f v):=by
  have h3:x.toNat < l.length:=by omega
  refine⟨l[x.toNat],List.getElem_mem h3,?_⟩
  have:=jQ (f:=f) h3
  rwa [show ((x.toNat:Nat):Int)=x by omega] at this
structure Tie where
  a:Nat
  b:Nat
  w:Int
def bH (t:Tie):D:=.tup [.int t.a,.int t.b,.int t.w]
def far (i:Nat) (t:Tie):Option Nat:=if t.a=i then some t.b else if t.b=i then some t.a else none
def wOf (i:Nat) (t:Tie):Int:=if t.a=i∨t.b=i then t.w else 0
def GJ (T:List Tie) (i:Nat):Int:=(T.map (wOf i)).sum
def JJ (one other:Nat) (t:Tie):Prop:=(t.a < one∧t.b < one)∨(t.a=one∧t.b < other)∨(t.b=one∧t.a < other)
def gl (s t:Tie):Prop:=¬ (s.a=t.a∧s.b=t.b) ∧ ¬ (s.a=t.b∧s.b=t.a)
structure TOk (n one other:Nat) (T:List Tie):Prop where
  ne:∀ t∈T,t.a≠t.b
  lt:∀ t∈T,t.a < n∧t.b < n
  wt:∀ t∈T,1≤t.w∧t.w≤400
  be:∀ t∈T,JJ one other t
  un:T.Pairwise gl
  len:T.length≤30 * one + other
theorem gl.symm {s t:Tie}(h:gl s t):gl t s:=⟨fun z=>h.1 ⟨z.1.symm,z.2.symm⟩,fun z=>h.2 ⟨z.2.symm,z.1.symm⟩⟩
theorem TOk.skip {n one other:Nat}{T:List Tie}(o:TOk n one other T):TOk n one (other + 1) T :=
  ⟨o.ne,o.lt,o.wt,fun t ht=>by
    rcases o.be t ht with h|h|h
    · exact .inl h
    · exact .inr (.inl ⟨h.1,Nat.lt_succ_of_lt h.2⟩)
    · exact .inr (.inr ⟨h.1,Nat.lt_succ_of_lt h.2⟩),o.un,Nat.le_succ_of_le o.len⟩
theorem TOk.step {n one:Nat}{T:List Tie}(o:TOk n one one T)(h:one < n)(hn:n≤30):TOk n (one + 1) 0 T :=
  ⟨o.ne,o.lt,o.wt,fun t ht=>by
    rcases o.be t ht with h|h|h
    · exact .inl ⟨Nat.lt_succ_of_lt h.1,Nat.lt_succ_of_lt h.2⟩
    · exact .inl ⟨Nat.lt_succ_of_le (Nat.le_of_eq h.1),Nat.lt_succ_of_lt h.2⟩
    · exact .inl ⟨Nat.lt_succ_of_lt h.2,Nat.lt_succ_of_le (Nat.le_of_eq h.1)⟩,o.un,Nat.le_trans o.len (Nat.add_le_add_left (Nat.le_trans (Nat.le_of_lt h) hn) _)⟩
theorem nX {α : Type}{x y : α}{l:List α}{k:Nat}(h:y∈l.take k++[x]++l.drop k):y=x∨y∈l:=by
  simp only [List.append_assoc,List.mem_append,List.mem_singleton] at h
  rcases h with h|h|h
  · exact .inr (List.mem_of_mem_take h)
  · exact .inl h
  · exact .inr (List.mem_of_mem_drop h)
theorem D9 {α : Type}{R : α → α → Prop}(sym:∀ a b,R a b→R b a){x : α}{l:List α}(k:Nat)(h:l.Pairwise R)(hx:∀ y∈l,R x y):(l.take k++[x]++l.drop k).Pairwise R:=by
  have hl:(l.take k++l.drop k).Pairwise R:=by rw [List.take_append_drop];exact h
  rw [List.pairwise_append] at hl
  obtain⟨h1,h2,h3⟩:=hl
  rw [List.append_assoc,List.pairwise_append]
  refine⟨h1,?_,fun a ha b hb => ?_⟩
  · rw [List.singleton_append,List.pairwise_cons]
    exact⟨fun y hy=>hx y (List.mem_of_mem_drop hy),h2⟩
  · rcases List.mem_append.mp hb with hb|hb
    · simp at hb;subst hb;exact sym _ _ (hx a (List.mem_of_mem_take ha))
    · exact h3 a ha b hb
theorem TOk.put {n one other:Nat}{T:List Tie}(o:TOk n one other T)(h1:one < n)(h2:other < one){w:Int}(w1:1≤w)(w2:w≤400){t:Tie}(ht:t=⟨one,other,w⟩ ∨t=⟨other,one,w⟩)(k:Nat):TOk n one (other + 1) (T.take k++[t]++T.drop k) where
  ne:=fun s hs=>by
    rcases nX hs with rfl|hs
    · rcases ht with e|e<;>subst e
      · exact Nat.ne_of_gt h2
      · exact Nat.ne_of_lt h2
    · exact o.ne s hs
  lt:=fun s hs=>by
    rcases nX hs with rfl|hs
    · rcases ht with e|e<;>subst e
      · exact⟨h1,Nat.lt_trans h2 h1⟩
      · exact⟨Nat.lt_trans h2 h1,h1⟩
    · exact o.lt s hs
  wt:=fun s hs=>by
    rcases nX hs with rfl|hs
    · rcases ht with e|e<;>subst e<;>exact⟨w1,w2⟩
    · exact o.wt s hs
  be:=fun s hs=>by
    rcases nX hs with rfl|hs
    · rcases ht with e|e<;>subst e
      · exact .inr (.inl ⟨rfl,Nat.lt_succ_self _⟩)
      · exact .inr (.inr ⟨rfl,Nat.lt_succ_self _⟩)
    · exact o.skip.be s hs
  un:=D9 (fun _ _=>gl.symm) k o.un fun s hs=>by
    have hb:=o.be s hs
    rcases ht with e|e<;>subst e<;>rcases hb with hb|hb|hb
    · exact⟨fun z=>Nat.ne_of_gt hb.1 z.1,fun z=>Nat.ne_of_gt hb.2 z.1⟩
    · exact⟨fun z=>Nat.ne_of_gt hb.2 z.2,fun z=>Nat.ne_of_gt (Nat.lt_trans hb.2 h2) z.1⟩
    · exact⟨fun z=>Nat.ne_of_gt (Nat.lt_trans hb.2 h2) z.1,fun z=>Nat.ne_of_gt hb.2 z.2⟩
    · exact⟨fun z=>Nat.ne_of_gt hb.2 z.2,fun z=>Nat.ne_of_gt hb.1 z.2⟩
    · exact⟨fun z=>Nat.ne_of_gt (Nat.lt_trans hb.2 h2) z.2,fun z=>Nat.ne_of_gt hb.2 z.1⟩
    · exact⟨fun z=>Nat.ne_of_gt hb.2 z.1,fun z=>Nat.ne_of_gt (Nat.lt_trans hb.2 h2) z.2⟩
  len:=by
    have e:(T.take k).length + (T.drop k).length=T.length:=by rw [← List.length_append,List.take_append_drop]
    rw [List.length_append,List.length_append,List.length_singleton,Nat.add_right_comm,e]
    exact Nat.succ_le_succ o.len
end Fm
set_option linter.all false
namespace Fm
def Kx (p:Int × Int):D:=.tup [.int p.1,.int p.2]
structure PH (n i:Nat) (T:List Tie) (bs:List (Int × Int)) (ss:List (Option Int)) (h:Hd):Prop where
  ti:h[1]? = some (.lst (T.map bH))
  ba:h[2]? = some (.lst (bs.map Kx))
  st:h[3]? = some (.lst (ss.map bW))
  to:h[4]? = some (.lst (((List.range n).map (GJ T)).map .int))
  len:h.length=5 + i
  lb:bs.length=i
  ls:ss.length=i
  os:∀ x∈ss,x=none∨x=some 0∨x=some 1
theorem Ip {g:Hd}{k:Nat}{c:cm}(cc:cm)(h:g[k]? = some c):(g.set k cc)[k]? = some cc:=List.getElem?_set_self (List.getElem?_eq_some_iff.mp h).1
theorem uH {j n:Nat}(h:j < n):ixN n (j:Int)=some j:=by simp [ixN,h]
noncomputable abbrev XP (lit:D) (hd:Option D) (n thin one:Nat) (a b:Option D):Sd:=[some lit,hd,some (.int n),some (.int thin),some (.ref 1),some (.ref 2),some (.ref 3),some (.ref 4),some (.int one),some (.ref (5 + one)),a,b]
abbrev SC (c t:Int) (b:Bool):cm:=.lst [.int c,.int t,.bl b]
inductive PI (lit:D) (hd:Option D) (n thin one:Nat) (bs:List (Int × Int)) (ss:List (Option Int)) (m:Bool):Nat→Sd→Hd→Prop
  | mk {i:Nat} {h:Hd} {T:List Tie} {a b:Option D} {c t:Int} (P:PH n (one + 1) T bs ss h) (O:TOk n one i T) (hs:h[5 + one]? = some (SC c t m)):PI lit hd n thin one bs ss m i (XP lit hd n thin one a b) h
theorem few {l one n i:Nat}(h:l≤30 * one + i)(h1:one < n)(hn:n≤30)(hi:i < one):l < 1000:=by omega
end Fm
set_option linter.all false
namespace Fm
noncomputable abbrev XQ (lit:D) (hd:Option D) (n thin:Nat) (a b c d:Option D):Sd:=[some lit,hd,some (.int n),some (.int thin),some (.ref 1),some (.ref 2),some (.ref 3),some (.ref 4),a,b,c,d]
inductive PO (ns:List Int) (hd:Option D) (n thin:Nat):Nat→Sd→Hd→Prop
  | mk {i:Nat} {h:Hd} {a b c d:Option D} {T:List Tie} {bs:List (Int × Int)} {ss:List (Option Int)} (P:PH n i T bs ss h) (O:TOk n i 0 T):PO ns hd n thin i (XQ (.lit (ns.map .int)) hd n thin a b c d) h
structure Ky (ns:List Int) (n:Nat) (T:List Tie) (bs:List Int) (ss:List (Option Int)) (h:Hd):Prop where
  run:zg [.lit (ns.map .int)] []=.ok (.tup [.int n,.ref 1,.ref (5 + n),.ref 3,.ref 4]) h
  n1:1≤n
  n30:n≤30
  ok:TOk n n 0 T
  ti:h[1]? = some (.lst (T.map bH))
  ba:h[5 + n]? = some (.lst (bs.map .int))
  st:h[3]? = some (.lst (ss.map bW))
  to:h[4]? = some (.lst (((List.range n).map (GJ T)).map .int))
  len:h.length=6 + n
  lb:bs.length=n
  ls:ss.length=n
  os:∀ x∈ss,x=none∨x=some 0∨x=some 1
end Fm
set_option linter.all false
namespace Fm
theorem eS {α : Type}{f : α → D}:∀ {l:List α},(∀ x∈l,pure? (f x)=true)→hU (l.map f)=true
  | [],_=>rfl
  | x :: l,h=>by
    simp only [List.map_cons,hU,Bool.and_eq_true]
    exact⟨h x (by simp),eS fun y hy=>h y (by simp [hy])⟩
theorem lf (w:Web):pure? w.enc=true:=by
  have h1:∀ r:List (Nat × Int),pure? (dn r)=true:=fun r=>by
    unfold dn
    simp only [pure?]
    exact eS fun p _=>rfl
  have h2:hU (w.ties.map dn)=true:=eS fun r _=>h1 r
  have h3:hU (w.bars.map D.int)=true:=eS fun r _=>rfl
  have h4:hU (w.stays.map bW)=true:=eS fun r _=>by cases r<;>rfl
  unfold Web.enc
  simp only [pure?,hU,h2,h3,h4]
  rfl
def lh (p:Nat × Int):List Int:=[(p.1:Int),p.2]
def kt (x:Nat × Int):List (Nat × Int)→List (Nat × Int)
  | []=>[x]
  | y :: r=>if bN (lh x) (lh y)=true then x :: y :: r else y :: kt x r
def bc:List (Nat × Int)→List (Nat × Int)
  | []=>[]
  | x :: r=>kt x (bc r)
theorem xc (x:Nat × Int):∀ r,(kt x r).map lh=uw (lh x) (r.map lh)
  | []=>rfl
  | y :: r=>by
    simp only [kt,uw,List.map_cons]
    split
    · rfl
    · simp [xc x r]
theorem tD:∀ r,(bc r).map lh=cH (r.map lh)
  | []=>rfl
  | x :: r=>by simp only [bc,cH,List.map_cons,xc,tD r]
theorem oQ {x p:Nat × Int}:∀ {r},p∈kt x r ↔ p=x∨p∈r
  | []=>by simp [kt]
  | y :: r=>by
    simp only [kt]
    split
    · simp
    · simp only [List.mem_cons,oQ (r:=r)]
      constructor
      · rintro (h|h|h)
        · exact .inr (.inl h)
        · exact .inl h
        · exact .inr (.inr h)
      · rintro (h|h|h)
        · exact .inr (.inl h)
        · exact .inl h
        · exact .inr (.inr h)
theorem cr {p:Nat × Int}:∀ {r},p∈bc r ↔ p∈r
  | []=>by simp [bc]
  | x :: r=>by simp only [bc,oQ,cr (r:=r),List.mem_cons]
theorem xf (f:Nat × Int→Int)(x:Nat × Int):∀ r,((kt x r).map f).sum=f x + (r.map f).sum
  | []=>by simp [kt]
  | y :: r=>by
    simp only [kt]
    split
    · simp
    · simp [xf f x r];omega
theorem tF (f:Nat × Int→Int):∀ r,((bc r).map f).sum=(r.map f).sum
  | []=>rfl
  | x :: r=>by simp [bc,xf,tF f r]
def nbs (T:List Tie) (i:Nat):List (Nat × Int):=T.filterMap fun t=>(far i t).map fun j=>(j,t.w)
def eN (p:Nat × Int):Int × D:=((p.1:Int),.int p.2)
theorem xg (T:List Tie)(t:Tie)(i:Nat):nbs (T++[t]) i=nbs T i++(match far i t with|some j=>[(j,t.w)] | none=>[]):=by
  unfold nbs
  rw [List.filterMap_append]
  congr 1
  cases e:far i t<;>simp [e]
theorem BU {l:List (Nat × Int)}{k:Nat}(h:∀ p∈l,p.1≠k):je (l.map eN) k=none:=by
  unfold je
  rw [List.find?_eq_none.mpr]
  · rfl
  · intro x hx
    obtain⟨p,hp,rfl⟩:=List.mem_map.mp hx
    have hne:=h p hp
    have : ¬ ((p.1:Int)=(k:Int)):=fun z=>hne (by omega)
    show ¬ (decide ((p.1:Int)=(k:Int))=true)
    rw [decide_eq_true_eq]
    exact this
theorem li {l:List (Nat × Int)}{k:Nat}{v:Int}(h:∀ p∈l,p.1≠k):wR (l.map eN) k (.int v)=(l++[(k,v)]).map eN:=by
  unfold wR
  rw [if_neg]
  · simp [eN]
  · simp only [List.any_eq_true,List.mem_map,decide_eq_true_eq]
    rintro⟨x,⟨p,hp,rfl⟩,e⟩
    have hne:=h p hp
    have e:(p.1:Int)=(k:Int):=e
    exact hne (by omega)
theorem xh {i j:Nat}{t:Tie}(h:far i t=some j):(t.a=i∧t.b=j)∨(t.b=i∧t.a=j):=by
  unfold far at h
  by_cases a:t.a=i
  · rw [if_pos a] at h;exact .inl ⟨a,Option.some.inj h⟩
  · rw [if_neg a] at h
    by_cases b:t.b=i
    · rw [if_pos b] at h;exact .inr ⟨b,Option.some.inj h⟩
    · rw [if_neg b] at h;cases h
theorem zh {T:List Tie}{t:Tie}{i j:Nat}(hf:far i t=some j)(un:∀ s∈T,gl s t):∀ p∈nbs T i,p.1≠j:=fun p hp e=>by
  obtain⟨s,hs,q⟩:=List.mem_filterMap.mp hp
  obtain⟨k,hk,rfl⟩:=Option.map_eq_some_iff.mp q
  have u:=un s hs
  rw [show k=j from e] at hk
  rcases xh hf with ⟨a1,a2⟩|⟨a1,a2⟩<;>rcases xh hk with ⟨b1,b2⟩|⟨b1,b2⟩
  · exact u.1 ⟨b1.trans a1.symm,b2.trans a2.symm⟩
  · exact u.2 ⟨b2.trans a2.symm,b1.trans a1.symm⟩
  · exact u.2 ⟨b1.trans a1.symm,b2.trans a2.symm⟩
  · exact u.1 ⟨b2.trans a2.symm,b1.trans a1.symm⟩
theorem BV {n:Nat}{t:Tie}(h1:t.a≠t.b)(h2:t.a < n)(h3:t.b < n)(h4:1≤t.w∧t.w≤400)(h:Hd):jv [.int n,bH t] h=.ok (.bl true) h:=by
  have e1:(t.a:Int)≤n - 1:=Int.le_sub_one_of_lt (Int.ofNat_lt.mpr h2)
  have e2:(t.b:Int)≤n - 1:=Int.le_sub_one_of_lt (Int.ofNat_lt.mpr h3)
  have e3 : ¬ (t.a:Int)=t.b:=fun z=>h1 (Int.ofNat.inj z)
  have bt:∀ {i a b:Int},a≤i→i≤b→aR [.int i,.int a,.int b] h=.ok (.bl true) h:=fun x y=>by rw [gk,decide_eq_true x,decide_eq_true y];rfl
  have s1:sIf (tOr (dU (tE (cN .tuple (aa 1)))) (tE (af oNe (dE (lOf (aa 1))) (fC (.int 3))))) (bo (fC (.bl false))) bB [some (.int n),some (bH t),none,none] h=.nx [some (.int n),some (bH t),none,none] h:=gS (i8 (ed (b:=true) (bu rfl)) (bu (ak (gi (cI rfl rfl)) rfl rfl)))
  have s4:sIf (tOr (dU (tE (aq aR (ad (aa 2) (ad (fC (.int 0)) (ad (af oq (aa 0) (fC (.int 1))) ao)))))) (dU (tE (aq aR (ad (aa 3) (ad (fC (.int 0)) (ad (af oq (aa 0) (fC (.int 1))) ao))))))) (bo (fC (.bl false))) bB [some (.int n),some (bH t),some (.int t.a),some (.int t.b)] h=.nx [some (.int n),some (bH t),some (.int t.a),some (.int t.b)] h:=gS (i8 (ed (b:=true) (bu (aw (ag rfl (ag rfl (ag (ak rfl rfl rfl) rfl))) (bt (Int.natCast_nonneg _) e1)))) (ed (b:=true) (bu (aw (ag rfl (ag rfl (ag (ak rfl rfl rfl) rfl))) (bt (Int.natCast_nonneg _) e2)))))
  have s5:bo (fT (n8 (tE (af oNe (aa 2) (aa 3))) (tE (aq aR (ad (fAt (aa 1) (fC (.int 2))) (ad (fC (.int 1)) (ad (fC (.int 400)) ao))))))) [some (.int n),some (bH t),some (.int t.a),some (.int t.b)] h=.rt (.bl true) h:=bP (jY (oP (bu (ak rfl rfl (by rw [Io,decide_eq_false e3];rfl))) (bu (aw (ag (a4 rfl rfl rfl rfl) (ag rfl (ag rfl rfl))) (bt h4.1 h4.2)))))
  exact (eJ rfl rfl ((bf s1).trans ((bf (aG (a4 rfl rfl rfl rfl))).trans ((bf (aG (a4 rfl rfl rfl rfl))).trans ((bf s4).trans s5))))).trans cT
structure NH (n A:Nat) (h0:Hd) (T:List Tie) (h:Hd):Prop where
  pre:∃ g,h=h0++g∧g.length=n + 1
  dc:∀ j,j < n→h[A + j]? = some (.dct ((nbs T j).map eN))
  rf:h[A + n]? = some (.lst ((List.range n).map fun i=>.ref (A + i)))
theorem NH.put {n A:Nat}{h0:Hd}{T:List Tie}{h:Hd}(hA:A=h0.length)(N:NH n A h0 T h){j:Nat}(hj:j < n)(c:cm):(∃ g,h.set (A + j) c=h0++g∧g.length=n + 1)∧(h.set (A + j) c)[A + j]? = some c∧(∀ k,k≠j→(h.set (A + j) c)[A + k]? = h[A + k]?):=by
  obtain⟨g,e,l⟩:=N.pre
  have lt:=(List.getElem?_eq_some_iff.mp (N.dc j hj)).1
  exact⟨⟨g.set j c,by rw [e,k8 hA],by rw [List.length_set];exact l⟩,List.getElem?_set_self lt,fun k hk=>List.getElem?_set_ne fun z=>hk (Nat.add_left_cancel z).symm⟩
def SNx (a b:SF):Prop:=∀ {σ h σ' h'},a σ h=.nx σ' h'→b σ h=.nx σ' h'
theorem SNx.refl {a:SF}:SNx a a:=fun e=>e
theorem Ea {n i j:Nat}{T:List Tie}(hn:n≤30)(O:TOk n n 0 T):((nbs (T.take i) j).map eN).length < SZ:=by
  rw [List.length_map]
  exact Nat.lt_of_le_of_lt (Nat.le_trans (List.length_filterMap_le _ _) (Nat.le_trans (List.length_take_le' _ _) (Nat.le_trans O.len (Nat.add_le_add_right (Nat.mul_le_mul_left 30 hn) 0)))) (by decide)
noncomputable abbrev XN (n tk A:Nat) (a b c:Option D):Sd:=[some (.int n),some (.ref tk),some (.ref (A + n)),a,b,c]
theorem FX {n A tk i:Nat}(hn:n≤30){T:List Tie}(O:TOk n n 0 T){h h0:Hd}(hA:A=h.length)(N:NH n A h (T.take i) h0){t:Tie}(mt:t∈T)(un:∀ s∈T.take i,gl s t)(tk1:T.take (i + 1)=T.take i++[t])(b c:Option D) :
    ∃ h6,c6 (XN n tk A (some (bH t)) b c) h0=.nx (XN n tk A (some (bH t)) (some (.int t.a)) (some (.int t.b))) h6∧NH n A h (T.take (i + 1)) h6:=by
  have tne:=O.ne t mt
  have tlt:=O.lt t mt
  have fa:far t.a t=some t.b:=if_pos rfl
  have fb:far t.b t=some t.a:=(if_neg tne).trans (if_pos rfl)
  have na:=zh fa un
  have nb:=zh fb un
  have rat:∀ j:Nat,j < n→atI ((List.range n).map fun i=>D.ref (A + i)) (j:Int)=some (.ref (A + j)):=fun j hj=>kN (by rw [List.getElem?_map,List.getElem?_range hj];rfl)
  have ra:=rat t.a tlt.1
  have rb:=rat t.b tlt.2
  have da:=N.dc t.a tlt.1
  obtain⟨p1,p2,p3⟩:=N.put hA tlt.1 (.dct ((nbs (T.take i) t.a++[(t.b,t.w)]).map eN))
  obtain⟨h5,hh5⟩ : ∃ h5,h5=h0.set (A + t.a) (.dct ((nbs (T.take i) t.a++[(t.b,t.w)]).map eN)):=⟨_,rfl⟩
  rw [← hh5] at p1 p2 p3
  have rf5:h5[A + n]? = some (.lst ((List.range n).map fun i=>.ref (A + i))):=(p3 n (Nat.ne_of_gt tlt.1)).trans N.rf
  have db:h5[A + t.b]? = some (.dct ((nbs (T.take i) t.b).map eN)):=(p3 t.b (Ne.symm tne)).trans (N.dc t.b tlt.2)
  obtain⟨h6,hh6⟩ : ∃ h6,h6=h5.set (A + t.b) (.dct ((nbs (T.take i) t.b++[(t.a,t.w)]).map eN)):=⟨_,rfl⟩
  have s4:sIf (tE (af BK (aa 5) (fAt (aa 2) (aa 4)))) jb bB (XN n tk A (some (bH t)) (some (.int t.a)) (some (.int t.b))) h0=.nx (XN n tk A (some (bH t)) (some (.int t.a)) (some (.int t.b))) h0:=by
    refine gS (bu (ak rfl (a4 rfl rfl (aZ N.rf) ra) ?_))
    rw [Ii da,BU na];rfl
  have s5:gf (fAt (aa 2) (aa 4)) (aa 5) (fAt (aa 3) (fC (.int 2))) (XN n tk A (some (bH t)) (some (.int t.a)) (some (.int t.b))) h0=.nx (XN n tk A (some (bH t)) (some (.int t.a)) (some (.int t.b))) h5:=by
    rw [hh5,← li na]
    exact nV (a4 rfl rfl rfl rfl) (a4 rfl rfl (aZ N.rf) ra) rfl da (Ea hn O)
  have s6:gf (fAt (aa 2) (aa 5)) (aa 4) (fAt (aa 3) (fC (.int 2))) (XN n tk A (some (bH t)) (some (.int t.a)) (some (.int t.b))) h5=.nx (XN n tk A (some (bH t)) (some (.int t.a)) (some (.int t.b))) h6:=by
    rw [hh6,← li nb]
    exact nV (a4 rfl rfl rfl rfl) (a4 rfl rfl (aZ rf5) rb) rfl db (Ea hn O)
  refine⟨h6,(aH (gS (ed (bu (aw (ag rfl (ag rfl rfl)) (BV tne tlt.1 tlt.2 (O.wt t mt) h0)))))).trans ((aH (aG (a4 rfl rfl rfl rfl))).trans ((aH (aG (a4 rfl rfl rfl rfl))).trans ((aH s4).trans ((aH s5).trans s6)))),?_,fun j hj => ?_,?_⟩
  · obtain⟨g,e,l⟩:=p1
    exact⟨_,by rw [hh6,e,k8 hA],by rw [List.length_set];exact l⟩
  · rw [tk1,xg]
    by_cases e1:t.b=j
    · subst e1
      rw [hh6,Ip _ db,fb]
    · rw [hh6,List.getElem?_set_ne (fun z=>e1 (Nat.add_left_cancel z))]
      by_cases e2:t.a=j
      · subst e2
        rw [p2,fa]
      · have:far j t=none:=(if_neg e2).trans (if_neg e1)
        rw [p3 j (Ne.symm e2),this,N.dc j hj]
        simp only [List.append_nil]
  · rw [hh6];exact (List.getElem?_set_ne (fun z=>Nat.ne_of_lt tlt.2 (Nat.add_left_cancel z))).trans rf5
theorem tG {n:Nat}{h:Hd}{A:Nat}(hA:A=h.length):∃ h1 g,bV none ((List.range n).map fun k:Nat=>D.int k) (gN 0) [] mZ ((List.range n).map fun k:Nat=>D.int k) [none] h=.ok ((List.range n).map fun i=>.ref (A + i)) h1∧h1=h++g∧g.length=n ∧ ∀ j,j < n→h1[A + j]? = some (.dct []):=by
  obtain⟨ds,h1,k1,l1,v1,σ1,-,g,hg,lg,g1⟩:=iB (g:=none) (all:=(List.range n).map fun k:Nat=>D.int k) (tg:=gN 0) (xs:=(List.range n).map fun k:Nat=>D.int k) (k:=0)
    (e:=mZ) (σ:=[none]) (h:=h)
    (P:=fun i σ h'=>(∃ a,σ = [a]) ∧ ∃ g,h'=h++g∧g.length=i ∧ ∀ j,j < i→h'[A + j]? = some (.dct [])) (V:=fun i d=>d=.ref (A + i)) (fun _ _ _ _=>trivial) (by
      rintro i x σ h0 hx ⟨⟨a,rfl⟩,g,e0,lg,e1⟩
      obtain⟨hi,rfl⟩:=cL hx
      rw [Nat.zero_add] at lg e1 ⊢
      have hl:h0.length=A + i:=by rw [e0,List.length_append,lg,hA]
      refine⟨_,rfl,.ref h0.length,h0++[.dct []],rfl,by rw [hl],⟨_,rfl⟩,g++[.dct []],by rw [e0,List.append_assoc],by rw [List.length_append,lg];rfl,fun j hj => ?_⟩
      by_cases hji:j < i
      · exact cW _ (e1 j hji)
      · rw [Nat.le_antisymm (Nat.le_of_lt_succ hj) (Nat.not_lt.mp hji),← hl];exact List.getElem?_concat_length) ⟨⟨_,rfl⟩,[],(List.append_nil _).symm,rfl,fun j hj=>absurd hj (Nat.not_lt_zero _)⟩
  rw [List.length_map,List.length_range] at l1
  rw [Nat.zero_add,List.length_map,List.length_range] at lg g1
  have e1:ds=(List.range n).map fun i=>.ref (A + i):=kr l1 fun i d hd=>by have:=v1 i d hd;rwa [Nat.zero_add] at this
  exact⟨h1,g,by rw [k1,e1],hg,lg,g1⟩
inductive NI (n A tk:Nat) (h:Hd) (T:List Tie):Nat→Sd→Hd→Prop
  | mk {i:Nat} {h':Hd} {a b c:Option D} (N:NH n A h (T.take i) h'):NI n A tk h T i (XN n tk A a b c) h'
theorem Iq {n:Nat}(hn1:1≤n)(hn:n≤30){T:List Tie}(O:TOk n n 0 T){B:SF}(hB:SNx c6 B){rest:List D}{h:Hd}{tk:Nat}(ht:h[tk]? = some (.lst (T.map bH++rest))) :
    ∃ h2 h3 a3 b3 c3,aC (gN 2) (aL (aT 1 [] (aV (aa 0)) (gN 0) [] mZ)) [some (.int n),some (.ref tk),none,none,none,none] h=.nx [some (.int n),some (.ref tk),some (.ref (h.length + n)),none,none,none] h2∧h2[tk]? = some (.lst (T.map bH++rest)) ∧
      dm (some tk) (T.map bH++rest) (gN 3) B (T.map bH++rest) [some (.int n),some (.ref tk),some (.ref (h.length + n)),none,none,none] h2=dm (some tk) (T.map bH++rest) (gN 3) B rest [some (.int n),some (.ref tk),some (.ref (h.length + n)),a3,b3,c3] h3 ∧
      h3[tk]? = some (.lst (T.map bH++rest))∧NH n h.length h T h3:=by
  obtain⟨A,hA⟩ : ∃ A,A=h.length:=⟨_,rfl⟩
  obtain⟨h1,g,k1,hg,lg,g1⟩:=tG (n:=n) hA
  obtain⟨h2,hh2⟩ : ∃ h2,h2=h1++[.lst ((List.range n).map fun i=>.ref (A + i))]:=⟨_,rfl⟩
  have l1':h1.length=A + n:=by rw [hg,List.length_append,lg,hA]
  have N0:NH n A h [] h2:=⟨⟨g++[.lst ((List.range n).map fun i=>.ref (A + i))],by rw [hh2,hg,List.append_assoc],by rw [List.length_append,lg];rfl⟩,fun j hj=>by rw [hh2];exact cW _ (g1 j hj),by rw [hh2,← l1'];exact List.getElem?_concat_length⟩
  obtain⟨_,h3,k3,@⟨_,a3,b3,c3,N3⟩⟩:=mm (rest:=rest) (P:=NI n A tk h T) (g:=some tk) (k:=0)
      (all:=T.map bH++rest) (fun _ _ h' q=>by
        obtain⟨N⟩:=q
        obtain⟨g,e,_⟩:=N.pre
        show h'[tk]? = _
        rw [e];exact cW _ ht)
      (xs:=T.map bH) (tg:=gN 3) (σ:=XN n tk A none none none) (h:=h2) (b:=B) (by
      intro i x σ h0 hx z
      rw [Nat.zero_add] at z ⊢
      obtain @⟨_,a,b,c,N⟩:=z
      have hiT:i < T.length:=by have:=(List.getElem?_eq_some_iff.mp hx).1;rwa [List.length_map] at this
      rw [List.getElem?_map,List.getElem?_eq_getElem hiT] at hx
      cases hx
      have mt:T[i]∈T:=List.getElem_mem hiT
      have un:∀ s∈T.take i,gl s T[i]:=fun s hs=>by
        obtain⟨k,hk,rfl⟩:=List.getElem_of_mem hs
        rw [List.length_take] at hk
        rw [List.getElem_take]
        exact List.pairwise_iff_getElem.mp O.un k i _ hiT (Nat.lt_of_lt_of_le hk (Nat.min_le_left _ _))
      obtain⟨h6,q6,N6⟩:=FX (tk:=tk) hn O hA N mt un (List.take_succ_eq_append_getElem hiT) b c
      exact⟨_,rfl,_,h6,hB q6,.mk N6⟩) (.mk N0)
  rw [Nat.zero_add,List.length_map,List.take_length] at N3
  have s2:aC (gN 2) (aL (aT 1 [] (aV (aa 0)) (gN 0) [] mZ)) [some (.int n),some (.ref tk),none,none,none,none] h=.nx [some (.int n),some (.ref tk),some (.ref (A + n)),none,none,none] h2:=by
    rw [hh2,← l1']
    exact aG (gh (b5 (bR rfl (Nat.le_trans hn (by decide))) k1) (by rw [List.length_map,List.length_range];exact Nat.le_trans hn (by decide)))
  have t2:h2[tk]? = some (.lst (T.map bH++rest)):=by rw [hh2,hg];exact cW _ (cW _ ht)
  obtain⟨g3,e3,_⟩:=N3.pre
  refine⟨h2,h3,a3,b3,c3,by rw [← hA];exact s2,t2,by rw [← hA];exact k3,?_,by rw [← hA];exact N3⟩
  rw [e3];exact cW _ ht
theorem p8 {n:Nat}(hn1:1≤n)(hn:n≤30){T:List Tie}(O:TOk n n 0 T){h:Hd}{tk:Nat}(ht:h[tk]? = some (.lst (T.map bH))) :
    ∃ h',cX [.int n,.ref tk] h=.ok (.ref (h.length + n)) h'∧NH n h.length h T h':=by
  obtain⟨h2,h3,a3,b3,c3,s2,t2,k3,t3,N3⟩:=Iq hn1 hn O (B:=c6) SNx.refl (rest:=[]) (h:=h) (tk:=tk) (by rw [List.append_nil];exact ht)
  rw [List.append_nil] at t2 t3 k3
  refine⟨h3,?_,N3⟩
  have s1:sIf (dU (tE (cN .list (aa 1)))) jb bB [some (.int n),some (.ref tk),none,none,none,none] h=.nx [some (.int n),some (.ref tk),none,none,none,none] h:=gS (ed (bu (zf rfl ht)))
  have s3:eC (cS (aa 1)) (gN 3) c6 [some (.int n),some (.ref tk),some (.ref (h.length + n)),none,none,none] h2=.nx [some (.int n),some (.ref tk),some (.ref (h.length + n)),a3,b3,c3] h3:=by
    have e:dm (some tk) (T.map bH) (gN 3) c6 [] [some (.int n),some (.ref tk),some (.ref (h.length + n)),a3,b3,c3] h3=.nx [some (.int n),some (.ref tk),some (.ref (h.length + n)),a3,b3,c3] h3:=by
      unfold dm
      exact if_pos t3
    rw [e] at k3
    exact fB (fq rfl t2) k3
  have st:([D.int n,D.ref tk].map some++List.replicate (6 - [D.int n,D.ref tk].length) none:Sd)=[some (.int n),some (.ref tk),none,none,none,none]:=rfl
  unfold cX bF runB
  rw [if_pos (show [D.int n,D.ref tk].length=2 from rfl),st,aH s1,aH s2,aH s3]
  simp [letGo,pure?]
end Fm
set_option linter.all false
namespace Fm
theorem JK (a b:Int)(h:Hd):oNe (.int a) (.int b) h=.ok (.bl (!decide (a=b))) h:=rfl
theorem Eb {l:List Nat}{n:Nat}(nd:l.Nodup)(h:∀ x∈l,x < n):l.length≤n:=by
  induction n generalizing l with
  | zero=>match l,h with
    | [],_=>exact Nat.le_refl _
    | x :: _,h=>exact absurd (h x List.mem_cons_self) (Nat.not_lt_zero _)
  | succ n ih =>
    by_cases m:n∈l
    · have:=ih (nd.erase n) fun x hx=>by
        have z:=(List.Nodup.mem_erase_iff nd).mp hx
        exact Nat.lt_of_le_of_ne (Nat.le_of_lt_succ (h x z.2)) z.1
      rw [List.length_erase_of_mem m] at this
      exact Nat.le_add_of_sub_le this
    · exact Nat.le_succ_of_le (ih nd fun x hx=>Nat.lt_of_le_of_ne (Nat.le_of_lt_succ (h x hx)) fun z=>m (z ▸ hx))
def bg (n:Nat) (T:List Tie) (bs:List Int) (ss:List (Option Int)):Web:=⟨(List.range n).map fun i=>bc (nbs T i),bs,ss⟩
theorem lm:∀ l:List (Nat × Int),eG (l.map eN)=some (l.map lh)
  | []=>rfl
  | p :: l=>by
    have ih:=lm l
    simp only [List.map_cons]
    show (eG (l.map eN)).map _=_
    rw [ih]
    rfl
theorem mn {T:List Tie}(un:T.Pairwise gl)(i:Nat):((nbs T i).map (·.1)).Nodup:=by
  unfold nbs
  induction T with
  | nil=>simp
  | cons t T ih =>
    obtain⟨h1,h2⟩:=List.pairwise_cons.mp un
    have ih:=ih h2
    cases e:far i t with
    | none=>simp only [List.filterMap_cons,e,Option.map_none];exact ih
    | some j =>
      simp only [List.filterMap_cons,e,Option.map_some,List.map_cons,List.nodup_cons]
      refine⟨fun z => ?_,ih⟩
      obtain⟨p,hp,hpj⟩:=List.mem_map.mp z
      exact zh (T:=T) e (fun s hs=>(h1 s hs).symm) p hp hpj
theorem FY {l:List (Nat × Int)}(nd:(l.map (·.1)).Nodup):(l.map lh).Nodup:=by
  rw [List.nodup_iff_pairwise_ne,List.pairwise_map] at nd ⊢
  exact nd.imp fun {a b} h e=>h (by have:=(List.cons.inj e).1;omega)
theorem tH {α : Type}{l:List α}:fE (l.map fun _=>D.bl true)=some (l.map fun _=>true):=by
  induction l with
  | nil=>rfl
  | cons x l ih=>simp [fE,ih]
theorem uI {n:Nat}{h:Hd}{nk bk:Nat}{l:List D}{bs:List Int}(hn:h[nk]? = some (.lst l))(hl:l.length=n)(hb:h[bk]? = some (.lst (bs.map .int)))(lb:bs.length=n):dz [.ref nk,.ref bk] h=.ok (.tup (bs.map .int)) h:=by
  have c:bV (some bk) (bs.map D.int) (gN 0) [] (aq bX (ad (aa 0) ao)) (bs.map D.int) [none] h=.ok ((bs.map D.int).map fun _=>D.bl true) h:=by
    have:=bv (g:=some bk) (all:=bs.map D.int) (tg:=gN 0) (cs:=[]) (e:=aq bX (ad (aa 0) ao)) (h:=h) (I:=fun σ=>∃ a,σ = [a]) (fun _=>true) (fun _=>.bl true) hb (xs:=bs.map D.int) (σ:=[none]) (by
      rintro x hx σ ⟨a,rfl⟩
      obtain⟨i,_,rfl⟩:=List.mem_map.mp hx
      exact⟨_,rfl,⟨_,rfl⟩,rfl,fun _=>aw (ag rfl rfl) (lc _ _)⟩) ⟨_,rfl⟩
    rw [this,List.filter_eq_self.mpr (by simp)]
  have al:((bs.map D.int).map fun _=>true).all id=true:=by simp
  have lg:=dy (h:=h) (g:=[]) (d:=.tup (bs.map D.int)) (by simp only [pure?];exact eS fun _ _=>rfl)
  rw [List.append_nil] at lg
  have s1:sIf (tE (af l4 (aa 1) (fC .non))) jb bB [some (.ref nk),some (.ref bk)] h=.nx [some (.ref nk),some (.ref bk)] h:=gS (bu (ak rfl rfl rfl))
  have s2:sIf (tOr (dU (tE (cN .list (aa 1)))) (tE (af oNe (dE (lOf (aa 1))) (dE (lOf (aa 0)))))) jb bB [some (.ref nk),some (.ref bk)] h=.nx [some (.ref nk),some (.ref bk)] h:=by
    exact gS (i8 (ed (b:=true) (bu (zf rfl hb))) (bu (ak (gi (cI rfl (aZ hb))) (gi (cI rfl (aZ hn))) (by rw [JK,List.length_map,lb,hl,decide_eq_true rfl];rfl))))
  have s3:sIf (dU (tE (yP (aT 1 [] (cS (aa 1)) (gN 0) [] (aq bX (ad (aa 0) ao)))))) jb bB [some (.ref nk),some (.ref bk)] h=.nx [some (.ref nk),some (.ref bk)] h:=by
    exact gS (ed (b:=true) (bu ((D8 (b5 (fq rfl hb) c) tH).trans (by rw [al]))))
  have s4:bo (cC (lOf (aa 1))) [some (.ref nk),some (.ref bk)] h=.rt (.tup (bs.map .int)) h:=bP (gF (cI rfl (aZ hb)))
  have st:([D.ref nk,D.ref bk].map some++List.replicate (2 - [D.ref nk,D.ref bk].length) none:Sd)=[some (.ref nk),some (.ref bk)]:=rfl
  unfold dz bF runB
  rw [if_pos (show [D.ref nk,D.ref bk].length=2 from rfl),st,aH s1,aH s2,aH s3,s4]
  exact lg
theorem p9 {n:Nat}{h:Hd}{sk:Nat}{ss:List (Option Int)}(hs:h[sk]? = some (.lst (ss.map bW)))(ls:ss.length=n)(os:∀ x∈ss,x=none∨x=some 0∨x=some 1):cY [.int n,.ref sk] h=.ok (.tup (ss.map bW)) h:=by
  have c:bV (some sk) (ss.map bW) (gN 0) [] (fT (tOr (tE (af l4 (aa 0) (fC .non))) (tE (aq cy (ad (aa 0) ao))))) (ss.map bW) [none] h=.ok ((ss.map bW).map fun _=>D.bl true) h:=by
    have:=bv (g:=some sk) (all:=ss.map bW) (tg:=gN 0) (cs:=[]) (e:=fT (tOr (tE (af l4 (aa 0) (fC .non))) (tE (aq cy (ad (aa 0) ao))))) (h:=h) (I:=fun σ=>∃ a,σ = [a]) (fun _=>true) (fun _=>.bl true) hs (xs:=ss.map bW) (σ:=[none]) (by
      rintro x hx σ ⟨a,rfl⟩
      obtain⟨i,hi,rfl⟩:=List.mem_map.mp hx
      refine⟨_,rfl,⟨_,rfl⟩,rfl,fun _ => ?_⟩
      rcases os i hi with e|e|e<;>subst e
      · exact jY (D5 (bu (ak rfl rfl rfl)))
      · exact jY (i8 (bu (ak rfl rfl rfl)) (bu (aw (ag rfl rfl) (ju 0 h))))
      · exact jY (i8 (bu (ak rfl rfl rfl)) (bu (aw (ag rfl rfl) (ju 1 h))))) ⟨_,rfl⟩
    rw [this,List.filter_eq_self.mpr (by simp)]
  have lg:=dy (h:=h) (g:=[]) (d:=.tup (ss.map bW)) (by simp only [pure?];exact eS fun x _=>by cases x<;>rfl)
  rw [List.append_nil] at lg
  have s1:sIf (tE (af l4 (aa 1) (fC .non))) (bo (cC (aT 1 [] (aV (aa 0)) (gN 0) [] (fC .non)))) bB [some (.int n),some (.ref sk)] h=.nx [some (.int n),some (.ref sk)] h:=gS (bu (ak rfl rfl rfl))
  have s2:sIf (tOr (dU (tE (cN .list (aa 1)))) (tE (af oNe (dE (lOf (aa 1))) (aa 0)))) jb bB [some (.int n),some (.ref sk)] h=.nx [some (.int n),some (.ref sk)] h:=by
    exact gS (i8 (ed (b:=true) (bu (zf rfl hs))) (bu (ak (gi (cI rfl (aZ hs))) rfl (by rw [JK,List.length_map,ls,decide_eq_true rfl];rfl))))
  have s3:sIf (dU (tE (yP (aT 1 [] (cS (aa 1)) (gN 0) [] (fT (tOr (tE (af l4 (aa 0) (fC .non))) (tE (aq cy (ad (aa 0) ao))))))))) jb bB [some (.int n),some (.ref sk)] h=.nx [some (.int n),some (.ref sk)] h:=by
    have al:((ss.map bW).map fun _=>true).all id=true:=by simp
    exact gS (ed (b:=true) (bu ((D8 (b5 (fq rfl hs) c) tH).trans (by rw [al]))))
  have s4:bo (cC (lOf (aa 1))) [some (.int n),some (.ref sk)] h=.rt (.tup (ss.map bW)) h:=bP (gF (cI rfl (aZ hs)))
  have st:([D.int n,D.ref sk].map some++List.replicate (2 - [D.int n,D.ref sk].length) none:Sd)=[some (.int n),some (.ref sk)]:=rfl
  unfold cY bF runB
  rw [if_pos (show [D.int n,D.ref sk].length=2 from rfl),st,aH s1,aH s2,aH s3,s4]
  exact lg
theorem FZ {n A:Nat}(hn:n≤30){T:List Tie}(O:TOk n n 0 T){h h1:Hd}(N:NH n A h T h1) :
    bV (some (A + n)) ((List.range n).map fun i=>.ref (A + i)) (gN 0) [] (cC (ko (aa 0))) ((List.range n).map fun i=>.ref (A + i)) [none] h1=.ok (((List.range n).map fun i=>bc (nbs T i)).map dn) h1:=by
  have:=bv (g:=some (A + n)) (all:=(List.range n).map fun i=>.ref (A + i)) (tg:=gN 0) (cs:=[]) (e:=cC (ko (aa 0))) (h:=h1) (I:=fun σ=>∃ a,σ = [a]) (fun _=>true)
    (fun d=>match d with | .ref k=>dn (bc (nbs T (k - A)))|_=>.non) N.rf (xs:=(List.range n).map fun i=>.ref (A + i)) (σ:=[none]) (by
      rintro x hx σ ⟨a,rfl⟩
      obtain⟨i,hi,rfl⟩:=List.mem_map.mp hx
      have hi:=List.mem_range.mp hi
      refine⟨_,rfl,⟨_,rfl⟩,rfl,fun _ => ?_⟩
      have nd:=mn O.un i
      have l64:((nbs T i).map lh).length < 64:=by
        have lt:∀ p∈nbs T i,p.1 < n:=fun p hp=>by
          unfold nbs at hp
          obtain⟨t,ht',q⟩:=List.mem_filterMap.mp hp
          have:=O.lt t ht'
          unfold far at q
          by_cases a1:t.a=i
          · rw [if_pos a1] at q;simp at q;subst q;exact this.2
          · rw [if_neg a1] at q
            by_cases a2:t.b=i
            · rw [if_pos a2] at q;simp at q;subst q;exact this.1
            · rw [if_neg a2] at q;cases q
        have:=Eb nd (n:=n) (fun x hx=>by
          obtain⟨p,hp,rfl⟩:=List.mem_map.mp hx
          exact lt p hp)
        simp at this ⊢
        omega
      have e:((cH ((nbs T i).map lh)).map ux)=(bc (nbs T i)).map gR:=by rw [← tD,List.map_map];rfl
      simp only [List.set_cons_zero,cC,ko,aa,slot,List.getElem?_cons_zero,ax,N.dc i hi,lm,if_pos (And.intro l64 (FY nd)),e,dn,Nat.add_sub_cancel_left]) ⟨_,rfl⟩
  rw [this,List.filter_eq_self.mpr (by simp),List.map_map,List.map_map]
  congr 1
  apply List.map_congr_left
  intro i _
  simp
theorem tI {n:Nat}(hn1:1≤n)(hn:n≤30){T:List Tie}(O:TOk n n 0 T){bs:List Int}{ss:List (Option Int)}(lb:bs.length=n)(ls:ss.length=n)(os:∀ x∈ss,x=none∨x=some 0∨x=some 1){h:Hd}{tk bk sk:Nat}
    (ht:h[tk]? = some (.lst (T.map bH))) (hb:h[bk]? = some (.lst (bs.map .int))) (hs:h[sk]? = some (.lst (ss.map bW))):dA [.int n,.ref tk,.ref bk,.ref sk] h=.ok (bg n T bs ss).enc h:=by
  obtain⟨h1,r1,N⟩:=p8 hn1 hn O ht
  obtain⟨A,hA⟩ : ∃ A,A=h.length:=⟨_,rfl⟩
  rw [← hA] at r1 N
  obtain⟨g,hg,lg⟩:=N.pre
  have old:∀ {k:Nat} {c:cm},h[k]? = some c→h1[k]? = some c:=fun {k c} e=>by rw [hg,List.getElem?_append_left (List.getElem?_eq_some_iff.mp e).1];exact e
  have comp:=FZ hn O N
  have bt:=uI (n:=n) (l:=(List.range n).map fun i=>.ref (A + i)) N.rf (by simp) (old hb) lb
  have stt:=p9 (n:=n) (old hs) ls os
  have i1:(1:Int)≤n:=Int.ofNat_le.mpr hn1
  have i2:(n:Int)≤30:=Int.ofNat_le.mpr hn
  have rf:=N.rf
  have s1:sIf (dU (tE (aq aR (ad (aa 0) (ad (fC (.int 1)) (ad (fC (.int 30)) ao)))))) jb bB [some (.int n),some (.ref tk),some (.ref bk),some (.ref sk),none,none] h=.nx [some (.int n),some (.ref tk),some (.ref bk),some (.ref sk),none,none] h:=gS (ed (b:=true) (bu (aw (ag rfl (ag rfl (ag rfl rfl))) (by rw [gk,decide_eq_true i1,decide_eq_true i2];rfl))))
  have s2:aC (gN 4) (aq cX (ad (aa 0) (ad (aa 1) ao))) [some (.int n),some (.ref tk),some (.ref bk),some (.ref sk),none,none] h=.nx [some (.int n),some (.ref tk),some (.ref bk),some (.ref sk),some (.ref (A + n)),none] h1:=aG (aw (ag rfl (ag rfl rfl)) r1)
  have s3:aC (gN 5) (cC (aT 1 [] (cS (aa 4)) (gN 0) [] (cC (ko (aa 0))))) [some (.int n),some (.ref tk),some (.ref bk),some (.ref sk),some (.ref (A + n)),none] h1=.nx [some (.int n),some (.ref tk),some (.ref bk),some (.ref sk),some (.ref (A + n)),some (.tup (((List.range n).map fun i=>bc (nbs T i)).map dn))] h1:=by
    exact aG (gF (b5 (fq rfl rf) comp))
  have s4:bo (eB (ad (aa 5) (ad (aq dz (ad (aa 4) (ad (aa 2) ao))) (ad (aq cY (ad (aa 0) (ad (aa 3) ao))) ao)))) [some (.int n),some (.ref tk),some (.ref bk),some (.ref sk),some (.ref (A + n)),some (.tup (((List.range n).map fun i=>bc (nbs T i)).map dn))] h1=.rt (bg n T bs ss).enc h1:=by
    exact bP (iC (ag rfl (ag (aw (ag rfl (ag rfl rfl)) bt) (ag (aw (ag rfl (ag rfl rfl)) stt) rfl))) (by exact of_decide_eq_true rfl))
  have st:([D.int n,D.ref tk,D.ref bk,D.ref sk].map some++List.replicate (6 - [D.int n,D.ref tk,D.ref bk,D.ref sk].length) none:Sd)=[some (.int n),some (.ref tk),some (.ref bk),some (.ref sk),none,none]:=rfl
  unfold dA bF runB
  rw [if_pos (show [D.int n,D.ref tk,D.ref bk,D.ref sk].length=4 from rfl),st,aH s1,aH s2,aH s3,s4]
  show letGo h (.ok _ h1)=_
  rw [hg]
  exact dy (lf _)
end Fm
set_option linter.all false
namespace Fm
theorem oR (s:List Int):∀ r:List (Nat × Int),ee r s=(r.map fun p=>if s.getD p.1 0=1 then p.2 else 0).sum
  | []=>rfl
  | p :: r=>by
    have ih:=oR s r
    simp only [ee,iD,List.filter_cons,List.map_cons,List.sum_cons] at ih ⊢
    by_cases e:s.getD p.1 0=1
    · simp only [e,decide_true,if_true,List.map_cons,List.sum_cons];rw [ih]
    · simp only [e,decide_false,if_false,Bool.false_eq_true];rw [ih];omega
theorem oS {n:Nat}{T:List Tie}(lt:∀ t∈T,t.a < n∧t.b < n){i:Nat}:∀ p∈nbs T i,p.1 < n:=fun p hp=>by
  unfold nbs at hp
  obtain⟨t,ht',q⟩:=List.mem_filterMap.mp hp
  have:=lt t ht'
  unfold far at q
  by_cases a1:t.a=i
  · rw [if_pos a1] at q;simp at q;subst q;exact this.2
  · rw [if_neg a1] at q
    by_cases a2:t.b=i
    · rw [if_pos a2] at q;simp at q;subst q;exact this.1
    · rw [if_neg a2] at q;cases q
structure KI (n:Nat) (T:List Tie) (bs:List Int) (ss:List (Option Int)) (tk bk sk:Nat) (h:Hd):Prop where
  ti:h[tk]? = some (.lst (T.map bH))
  ba:h[bk]? = some (.lst (bs.map .int))
  st:h[sk]? = some (.lst (ss.map bW))
theorem hZ {α : Type}{f : α → D}(h:∀ x,peq (f x) (f x)=some true):∀ l:List α,fv (l.map f) (l.map f)=some true
  | []=>rfl
  | x :: l=>by simp [fv,h x,hZ h l]
theorem ia {α : Type}{f : α → D}{k:Nat}(h:∀ x,dep (f x)≤k):∀ l:List α,ja (l.map f)≤k
  | []=>Nat.zero_le _
  | x :: l=>by simp only [List.map_cons,ja];exact Nat.max_le.mpr ⟨h x,ia h l⟩
theorem A4 (w:Web):peq w.enc w.enc=some true∧dep w.enc≤20:=by
  have p1:∀ p:Nat × Int,peq (gR p) (gR p)=some true:=fun p=>by simp [gR,peq,fv]
  have p2:∀ r:List (Nat × Int),peq (dn r) (dn r)=some true:=fun r=>by simp [dn,peq,hZ p1 r]
  have p3:∀ x:Option Int,peq (bW x) (bW x)=some true:=fun x=>by cases x<;>simp [bW,peq]
  have p4:∀ x:Int,peq (.int x) (.int x)=some true:=fun x=>by simp [peq]
  have d1:∀ p:Nat × Int,dep (gR p)≤1:=fun p=>by simp [gR,dep,ja]
  have d2:∀ r:List (Nat × Int),dep (dn r)≤2:=fun r=>by have:=ia d1 r;simp [dn,dep];omega
  have d3:∀ x:Option Int,dep (bW x)≤0:=fun x=>by cases x<;>simp [bW,dep]
  have d4:∀ x:Int,dep (.int x)≤0:=fun x=>by simp [dep]
  have e1:=ia d2 w.ties
  have e2:=ia d4 w.bars
  have e3:=ia d3 w.stays
  constructor
  · simp [Web.enc,peq,fv,hZ p2 w.ties,hZ p4 w.bars,hZ p3 w.stays]
  · simp only [Web.enc,dep,ja];omega
structure KJ (n:Nat) (ss:List (Option Int)) (s:List Int):Prop where
  len:s.length=n
  op:∀ x∈s,x=0∨x=1
  st:∀ (i:Nat) x,ss[i]? = some (some x)→s[i]? = some x
end Fm
set_option linter.all false
namespace Fm
def LeS (a b:List Int):Prop:=∀ i:Nat,a.getD i 0≤b.getD i 0
theorem gI (p:Nat × Int)(r:List (Nat × Int))(s:List Int):ee (p :: r) s=(if s.getD p.1 0=1 then p.2 else 0) + ee r s:=by
  unfold ee iD
  by_cases e:s.getD p.1 0=1
  · rw [List.filter_cons,if_pos (by simp only [decide_eq_true_eq];exact e),if_pos e];rfl
  · rw [List.filter_cons,if_neg (by simp only [decide_eq_true_eq];exact e),if_neg e];omega
structure KK (w1 w2:Web) (n:Nat):Prop where
  go:∀ a b,JF w1 n a→JF w2 n b→LeS a b→LeS (GI w1 n a) (GI w2 n b)
end Fm
set_option linter.all false
namespace Fm
def jw (g:Nat→Int):Nat→Int
  | 0=>0
  | n + 1=>jw g n + g n
end Fm
set_option linter.all false
namespace Fm
theorem tJ:∀ (a b:List Int),a.length=b.length→fv (a.map .int) (b.map .int)=some (decide (a=b))
  | [],[],_=>by simp [fv]
  | x :: a,y :: b,h=>by
    have ih:=tJ a b (by simpa using h)
    simp only [List.map_cons,fv,peq,ih]
    by_cases e:x=y<;>by_cases e2:a=b<;>simp [e,e2]
  | [],_ :: _,h=>by simp at h
  | _ :: _,[],h=>by simp at h
theorem BW (l:List Int):ja (l.map .int)=0:=by
  induction l with
  | nil=>rfl
  | cons x l ih=>simp [ja,dep,ih]
theorem A5 (l:List Int):dep (bC l)=1:=by simp [bC,dep,BW]
theorem uJ {a b:List Int}(h:a.length=b.length):peq (bC a) (bC b)=some (decide (a=b)):=by
  simp only [bC,peq,tJ a b h,Option.map_some,List.length_map,h]
  simp
theorem F1 {a b:List Int}(h:a.length=b.length)(hd:Hd):eqG hd (bC a) (bC b)=some (decide (a=b)):=by
  have e1:∀ l,gw hd (bC l)=none:=fun l=>rfl
  simp only [eqG,e1,A5,uJ h]
  rfl
end Fm
set_option linter.all false
namespace Fm
noncomputable def eT:Fn:=bF 1 1 (bo (aL (lOf (fAt (aa 0) (fC (.int 2))))))
end Fm
set_option linter.all false
namespace Fm
section
variable {w:Web} {n:Nat} {s:List Int}
theorem lt2 (a t:Nat):t≤a + 2 * t∧t≤a + 2 * t + 1:=by omega
end
end Fm
set_option linter.all false
namespace Fm
section
variable {w:Web} {n:Nat} {s:List Int}
end
section
variable {w:Web} {n:Nat} {a b:List Int}
end
end Fm
set_option linter.all false
namespace Fm
noncomputable def aS:Fn:=bF 2 2 (av (sIf (tE (af oLt (aa 1) (dE (lOf (aa 0))))) (bo (fAt (aa 0) (aa 1))) bB)
    (bo (af bA (af bh (af bh (fC (.int 71)) (aa 1)) (aa 1)) (af bh (fC (.int 7)) (aa 1)))))
noncomputable abbrev oT:SF:=(sIf (tE (af oEq (af ck (aa 1) (fC (.int 2))) (fC (.int 1)))) (av (aC (gN 5) (af ck (af bA (af bA (af bA (af bh (aa 5) (aa 5)) (af bh (fC (.int 69621)) (aa 5))) (af bh (fC (.int 11)) (aa 6))) (fC (.int 5))) (fC (.int 2147483549))))
    (kO (um (aa 4) (af ck (af fI (aa 5) (fC (.int 7))) (aa 3))))) (av (kO (um (aa 4) (af ck (aa 5) (aa 3))))
    (aC (gN 5) (af fI (aa 5) (aa 3)))))
noncomputable def cj:Fn:=bF 4 7 (av (aC (gN 4) (aL ao))
    (av (aC (gN 5) (aa 0))
    (av (sIf (tE (af oEq (af ck (aa 1) (fC (.int 2))) (fC (.int 1)))) (aC (gN 5) (af ck (af bh (af ck (aa 0) (fC (.int 2147483629))) (fC (.int 48271))) (fC (.int 2147483647)))) bB)
    (av (eC (aV (aa 2)) (gN 6) oT)
    (bo (aa 4))))))
noncomputable abbrev gm:SF:=(nG (aa 9) (aa 6) (fIx (ad (af oq (fAt (aa 10) (aa 6)) (fC (.int 1000))) (ad (af oq (af bA (fAt (aa 9) (aa 6)) (af ck (fAt (aa 10) (aa 6)) (fC (.int 7)))) (fC (.int 3))) ao)) (af ck (af fI (aa 2) (fC (.int 256))) (fC (.int 2)))))
noncomputable abbrev ku:SF:=(av (aC (gN 8) (y6 (fC (.int 0)) (af oq (fAt (aa 5) (af bA (af bh (aa 6) (aa 3)) (aa 7))) (fC (.int 402)))))
    (av (sIf (tE (af oEq (af ck (af fI (aa 2) (fC (.int 64))) (fC (.int 2))) (fC (.int 1)))) (aC (gN 8) (fIx (ad (fC (.int 0)) (ad (fC (.int 0)) (ad (fC (.int 1)) (ad (fC (.int 1)) (ad (fC (.int 2)) (ad (fC (.int 3)) (ad (fC (.int 1)) ao))))))) (af ck (fAt (aa 5) (af bA (af bh (aa 6) (aa 3)) (aa 7))) (fC (.int 7))))) bB)
    (av (nG (fAt (aa 4) (aa 6)) (aa 7) (aa 8))
    (nG (fAt (aa 4) (aa 7)) (aa 6) (aa 8)))))
noncomputable abbrev iE:SF:=(eC (aV (aa 6)) (gN 7) ku)
noncomputable def fL:Fn:=bF 2 12 (av (aC (gN 2) (aq aS (ad (aa 0) (ad (fC (.int 0)) ao))))
    (av (aC (gN 3) (af bA (fC (.int 1)) (af ck (af fI (aa 2) (fC (.int 2))) (aa 1))))
    (av (aC (gN 4) (aL (aT 1 [3] (aV (aa 3)) (gN 0) [] (aL (oF (ad (fC (.int 0)) ao) (aa 1))))))
    (av (aC (gN 5) (aq cj (ad (aq aS (ad (aa 0) (ad (fC (.int 1)) ao))) (ad (aa 2) (ad (af bh (aa 3) (aa 3)) (ad (fC (.int 803)) ao))))))
    (av (eC (aV (aa 3)) (gN 6) iE)
    (av (aC (gN 9) (aL (aT 1 [] (cS (aa 4)) (gN 0) [] (yO (lOf (aa 0))))))
    (av (sIf (tE (af oEq (af ck (af fI (aa 2) (fC (.int 128))) (fC (.int 2))) (fC (.int 1)))) (av (aC (gN 10) (aq cj (ad (aq aS (ad (aa 0) (ad (fC (.int 2)) ao))) (ad (aa 2) (ad (aa 3) (ad (fC (.int 2001)) ao))))))
    (eC (aV (aa 3)) (gN 6) gm)) bB)
    (av (aC (gN 11) (aL (oF (ad (fC .non) ao) (aa 3))))
    (av (sIf (tE (af oEq (af ck (af fI (aa 2) (fC (.int 512))) (fC (.int 2))) (fC (.int 1)))) (av (aC (gN 5) (aq cj (ad (aq aS (ad (aa 0) (ad (fC (.int 3)) ao))) (ad (aa 2) (ad (aa 3) (ad (fC (.int 7)) ao))))))
    (aC (gN 11) (aL (aT 1 [] (cS (aa 5)) (gN 0) [] (fIx (ad (fC (.int 0)) (ad (fC (.int 1)) (ad (fC .non) (ad (fC .non) (ad (fC .non) (ad (fC .non) (ad (fC .non) ao))))))) (aa 0)))))) bB)
    (bo (eB (ad (aa 4) (ad (aa 9) (ad (aa 11) ao))))))))))))))
noncomputable abbrev oU:SF:=(sIf (tE (af oGt (fAt (fAt (fAt (aa 0) (fC (.int 0))) (aa 2)) (aa 3)) (fC (.int 0)))) (kO (um (aa 1) (eB (ad (aa 3) (ad (aa 2) (ad (fAt (fAt (fAt (aa 0) (fC (.int 0))) (aa 2)) (aa 3)) ao)))))) bB)
noncomputable abbrev kw:SF:=(eC (aV (aa 2)) (gN 3) oU)
noncomputable def ei:Fn:=bF 1 4 (av (aC (gN 1) (aL ao))
    (av (eC (aV (dE (lOf (fAt (aa 0) (fC (.int 1)))))) (gN 2) kw)
    (bo (aa 1))))
noncomputable def ic:Fn:=bF 1 1 (bo (aq dA (ad (dE (lOf (fAt (aa 0) (fC (.int 1))))) (ad (aq ei (ad (aa 0) ao)) (ad (aL (lOf (fAt (aa 0) (fC (.int 1))))) (ad (aL (lOf (fAt (aa 0) (fC (.int 2))))) ao))))))
end Fm
set_option linter.all false
namespace Fm
theorem JL {t:TF}{a b:SF}{σ:Sd}{h h':Hd}(e:t σ h=.ok true h'):sIf t a b σ h=a σ h':=by simp [sIf,e]
theorem F3 {t:TF}{a b:SF}{σ:Sd}{h h':Hd}(e:t σ h=.ok false h'):sIf t a b σ h=b σ h':=by simp [sIf,e]
theorem yc1 (ns:List Int)(k:Nat)(e:k < ns.length)(h:Hd):aS [.lit (ns.map .int),.int k] h=.ok (.int ns[k]) h:=by
  have pk:=jQ (f:=D.int) e
  simp [aS,bF,runB,e,pk]
theorem Ec {x y:Int}(e:(sml x || sml y)=true)(h:Hd):bh (.int x) (.int y) h=.ok (.int (x * y)) h:=by
  simp only [bh,oIc,e,if_true]
theorem yc2 (ns:List Int)(K:Int)(e : ¬ K < (ns.length:Int))(s3:sml K=true)(h:Hd):aS [.lit (ns.map .int),.int K] h=.ok (.int (71 * K * K + 7 * K)) h:=by
  have m1:∀ h,bh (.int 71) (.int K) h=.ok (.int (71 * K)) h:=fun h=>Ec (by rw [s3,Bool.or_true]) h
  have m2:∀ h,bh (.int (71 * K)) (.int K) h=.ok (.int (71 * K * K)) h:=fun h=>Ec (by rw [s3,Bool.or_true]) h
  have m3:∀ h,bh (.int 7) (.int K) h=.ok (.int (7 * K)) h:=fun h=>Ec (by rw [s3,Bool.or_true]) h
  generalize 71 * K=a at m1 m2 ⊢
  generalize a * K=b at m2 ⊢
  generalize 7 * K=c at m3 ⊢
  simp [-bh,aS,bF,runB,e,m1,m2,m3]
theorem tK (ns:List Int)(k:Nat)(hk:k≤63):∃ v,∀ h,aS [.lit (ns.map .int),.int k] h=.ok (.int v) h:=by
  by_cases e:k < ns.length
  · exact⟨_,yc1 ns k e⟩
  · exact⟨_,yc2 ns k (by omega) (nW (by omega) (by omega))⟩
theorem F4 (c way base:Int)(m:Nat)(hm:m≤1000)(b0:0 < base)(b1:base < 2 ^ 250)(h:Hd):∃ l:List Int,cj [.int c,.int way,.int m,.int base] h=.ok (.ref h.length) (h++[.lst (l.map .int)])∧l.length=m ∧ ∀ x∈l,0≤x∧x < base:=by
  obtain⟨A,hA⟩ : ∃ A,A=h.length:=⟨_,rfl⟩
  obtain⟨z0,hz0⟩ : ∃ z0:Int,z0=if way % 2=1 then c % 2147483629 * 48271 % 2147483647 else c:=⟨_,rfl⟩
  have zb:way % 2=1→0≤z0∧z0 < 4611686018427387904:=fun e=>by
    rw [hz0,if_pos e]
    exact⟨Int.emod_nonneg _ (by decide),Int.lt_trans (Int.emod_lt_of_pos _ (by decide)) (by decide)⟩
  obtain⟨σ',h',k1,l,z,y,k2,k3,k4,k5,k6⟩:=c5 (P:=fun i σ h'=>∃ (l:List Int) (z:Int) (y:Option D),σ = [some (.int c),some (.int way),some (.int m),some (.int base),some (.ref A),some (.int z),y]∧h'=h++[.lst (l.map .int)]∧l.length=i∧(∀ x∈l,0≤x∧x < base)∧(way % 2=1→0≤z∧z < 4611686018427387904)) (g:=none) (k:=0)
      (all:=(List.range m).map fun k:Nat=>D.int k) (fun _ _ _ _=>trivial)
      (xs:=(List.range m).map fun k:Nat=>D.int k) (tg:=gN 6) (σ:=[some (.int c),some (.int way),some (.int m),some (.int base),some (.ref A),some (.int z0),none]) (h:=h++[.lst []]) (b:=oT) (by
      rintro i x σ h0 hx ⟨l,z,y,rfl,hh0,ll,bl,bz⟩
      obtain⟨hi,rfl⟩:=cL hx
      rw [Nat.zero_add] at ll ⊢
      have gA:h0[A]? = some (.lst (l.map .int)):=by rw [hh0];exact gG hA _
      have lz:(l.map D.int).length < SZ:=by rw [List.length_map,ll];exact Nat.lt_trans hi (Nat.lt_of_le_of_lt hm (by decide))
      have st:∀ v:Int,h0.set A (.lst (l.map .int++[.int v]))=h++[.lst ((l++[v]).map .int)]:=fun v=>by rw [hh0,uG hA,List.map_append];rfl
      have nb:∀ q:Int,(0≤q % base∧q % base < base):=fun q=>⟨Int.emod_nonneg q (Int.ne_of_gt b0),Int.emod_lt_of_pos q b0⟩
      by_cases e:way % 2=1
      · have bz':=bz e
        have sz:sml z=true:=nW bz'.1 bz'.2
        have s9:sml 69621=true:=by decide
        have s11:sml 11=true:=by decide
        obtain⟨z',hz'⟩ : ∃ z',z'=(z * z + 69621 * z + 11 * i + 5) % 2147483549:=⟨_,rfl⟩
        have c1:0≤z':=by rw [hz'];exact Int.emod_nonneg _ (by decide)
        have c2:z' < 2147483549:=by rw [hz'];exact Int.emod_lt_of_pos _ (by decide)
        refine⟨_,rfl,[some (.int c),some (.int way),some (.int m),some (.int base),some (.ref A),some (.int z'),some (.int i)],_,?_,l++[z' / 7 % base],z',_,rfl,rfl,by simp [ll],fun x hx => ?_,fun _=>⟨c1,Int.lt_trans c2 (by decide)⟩⟩
        · rw [← st]
          have t1:aC (gN 5) (af ck (af bA (af bA (af bA (af bh (aa 5) (aa 5)) (af bh (fC (.int 69621)) (aa 5))) (af bh (fC (.int 11)) (aa 6))) (fC (.int 5))) (fC (.int 2147483549))) [some (.int c),some (.int way),some (.int m),some (.int base),some (.ref A),some (.int z),some (.int i)] h0=.nx [some (.int c),some (.int way),some (.int m),some (.int base),some (.ref A),some (.int z'),some (.int i)] h0:=by
            rw [hz'];exact aG (ak (ak (ak (ak (ak rfl rfl (fm sz)) (ak rfl rfl (fm s9)) rfl) (ak rfl rfl (fm s11)) rfl) rfl rfl) rfl (cV (by decide)))
          have tt:tE (af oEq (af ck (aa 1) (fC (.int 2))) (fC (.int 1))) [some (.int c),some (.int way),some (.int m),some (.int base),some (.ref A),some (.int z),some (.int i)] h0=.ok true h0:=bu (ak (ak rfl rfl (cV (by decide))) rfl (zd e))
          show sIf _ _ _ [some (.int c),some (.int way),some (.int m),some (.int base),some (.ref A),some (.int z),some (.int i)] h0=_
          rw [JL tt,aH t1]
          exact oO (zc rfl gA (ak (ak rfl rfl (gU (by decide) (by decide))) rfl (cV b0)) gA lz)
        · rcases List.mem_append.mp hx with hx|hx
          · exact bl x hx
          · simp at hx;subst hx;exact nb _
      · refine⟨_,rfl,[some (.int c),some (.int way),some (.int m),some (.int base),some (.ref A),some (.int (z / base)),some (.int i)],_,?_,l++[z % base],z / base,_,rfl,rfl,by simp [ll],fun x hx => ?_,fun q=>absurd q e⟩
        · rw [← st]
          have tt:tE (af oEq (af ck (aa 1) (fC (.int 2))) (fC (.int 1))) [some (.int c),some (.int way),some (.int m),some (.int base),some (.ref A),some (.int z),some (.int i)] h0=.ok false h0:=bu (ak (ak rfl rfl (cV (by decide))) rfl (ze e))
          show sIf _ _ _ [some (.int c),some (.int way),some (.int m),some (.int base),some (.ref A),some (.int z),some (.int i)] h0=_
          rw [F3 tt]
          exact (aH (oO (zc rfl gA (ak rfl rfl (cV b0)) gA lz))).trans (aG (ak rfl rfl (gU b0 b1)))
        · rcases List.mem_append.mp hx with hx|hx
          · exact bl x hx
          · simp at hx;subst hx;exact nb _) ⟨[],z0,none,rfl,rfl,rfl,by simp,zb⟩
  have e0:0 + ((List.range m).map fun k:Nat=>D.int k).length=m:=by simp
  rw [e0] at k4
  refine⟨l,?_,k4,k5⟩
  have s1:aC (gN 4) (aL ao) [some (.int c),some (.int way),some (.int m),some (.int base),none,none,none] h=.nx [some (.int c),some (.int way),some (.int m),some (.int base),some (.ref A),none,none] (h++[.lst []]):=aG (gH hA rfl (Nat.zero_le _))
  have s2:aC (gN 5) (aa 0) [some (.int c),some (.int way),some (.int m),some (.int base),some (.ref A),none,none] (h++[.lst []])=.nx [some (.int c),some (.int way),some (.int m),some (.int base),some (.ref A),some (.int c),none] (h++[.lst []]):=rfl
  have s3:sIf (tE (af oEq (af ck (aa 1) (fC (.int 2))) (fC (.int 1)))) (aC (gN 5) (af ck (af bh (af ck (aa 0) (fC (.int 2147483629))) (fC (.int 48271))) (fC (.int 2147483647)))) bB [some (.int c),some (.int way),some (.int m),some (.int base),some (.ref A),some (.int c),none] (h++[.lst []])=.nx [some (.int c),some (.int way),some (.int m),some (.int base),some (.ref A),some (.int z0),none] (h++[.lst []]):=by
    have s48:sml 48271=true:=by decide
    rw [hz0]
    by_cases e:way % 2=1
    · rw [if_pos e];exact (za (bu (ak (ak rfl rfl (cV (by decide))) rfl (zd e)))).trans (aG (ak (ak (ak rfl rfl (cV (by decide))) rfl (FV s48)) rfl (cV (by decide))))
    · rw [if_neg e];exact gS (bu (ak (ak rfl rfl (cV (by decide))) rfl (ze e)))
  have s4:eC (aV (aa 2)) (gN 6) oT [some (.int c),some (.int way),some (.int m),some (.int base),some (.ref A),some (.int z0),none] (h++[.lst []])=.nx [some (.int c),some (.int way),some (.int m),some (.int base),some (.ref A),some (.int z),y] (h++[.lst (l.map .int)]):=by
    rw [k2,k3] at k1
    exact fB (bR rfl hm) k1
  have s5:bo (aa 4) [some (.int c),some (.int way),some (.int m),some (.int base),some (.ref A),some (.int z),y] (h++[.lst (l.map .int)])=.rt (.ref A) (h++[.lst (l.map .int)]):=bP rfl
  have st:([D.int c,D.int way,D.int m,D.int base].map some++List.replicate (7 - [D.int c,D.int way,D.int m,D.int base].length) none:Sd)=[some (.int c),some (.int way),some (.int m),some (.int base),none,none,none]:=rfl
  unfold cj bF runB
  rw [if_pos (by rfl),st,aH s1,aH s2,aH s3,aH s4,s5,← hA]
  exact cU
end Fm
set_option linter.all false
namespace Fm
def ef (M:Nat→Nat→Int) (n i:Nat):List Int:=(List.range n).map (M i)
def mr (M:Nat→Nat→Int) (a b:Nat) (v:Int):Nat→Nat→Int:=fun i j=>if i=a∧j=b then v else M i j
structure gn (A n:Nat) (M:Nat→Nat→Int) (h:Hd):Prop where
  ro:∀ i,i < n→h[A + i]? = some (.lst ((ef M n i).map .int))
  ti:h[A + n]? = some (.lst ((List.range n).map fun i=>.ref (A + i)))
structure MOk (M:Nat→Nat→Int):Prop where
  sym:∀ i j,M i j=M j i
  bd:∀ i j,0≤M i j∧M i j≤400
  no:∀ i,M i i=0
theorem Ed (M:Nat→Nat→Int)(n a b:Nat)(v:Int)(i:Nat):ef (mr M a b v) n i=if i=a then (ef M n a).set b v else ef M n i:=by
  by_cases e:i=a
  · subst e
    rw [if_pos rfl]
    apply List.ext_getElem?
    intro j
    by_cases hj:j < n
    · by_cases ej:j=b
      · subst ej
        rw [List.getElem?_set_self (by simp [ef,hj])]
        simp [ef,mr,hj]
      · rw [List.getElem?_set_ne (by omega)]
        simp [ef,mr,hj,ej]
    · rw [List.getElem?_eq_none (by simp [ef];omega),List.getElem?_eq_none (by simp [ef];omega)]
  · rw [if_neg e]
    apply List.map_congr_left
    intro j _
    simp [mr,e]
theorem gn.put {A n:Nat}{M:Nat→Nat→Int}{h:Hd}(m:gn A n M h){a b:Nat}(ha:a < n)(v:Int):gn A n (mr M a b v) (h.set (A + a) (.lst (((ef M n a).map .int).set b (.int v)))) where
  ro:=fun i hi=>by
    rw [Ed]
    by_cases e:i=a
    · subst e
      rw [if_pos rfl,List.getElem?_set_self (List.getElem?_eq_some_iff.mp (m.ro i hi)).1,List.map_set]
    · rw [if_neg e,List.getElem?_set_ne (fun z=>e (Nat.add_left_cancel z).symm)];exact m.ro i hi
  ti:=by rw [List.getElem?_set_ne (fun z=>Nat.ne_of_lt ha (Nat.add_left_cancel z))];exact m.ti
theorem gn.more {A n:Nat}{M:Nat→Nat→Int}{h:Hd}(m:gn A n M h)(g:Hd):gn A n M (h++g):=by
  have k:∀ {i:Nat} {x:cm},h[i]? = some x→(h++g)[i]? = some x:=fun {i x} e=>by
    rw [List.getElem?_append_left (List.getElem?_eq_some_iff.mp e).1];exact e
  exact⟨fun i hi=>k (m.ro i hi),k m.ti⟩
theorem gn.set {A n:Nat}{M:Nat→Nat→Int}{h:Hd}(m:gn A n M h){k:Nat}(hk:A + n < k)(c:cm):gn A n M (h.set k c) :=
  ⟨fun i hi=>by rw [List.getElem?_set_ne (by omega)];exact m.ro i hi,by rw [List.getElem?_set_ne (by omega)];exact m.ti⟩
theorem MOk.put {M:Nat→Nat→Int}(o:MOk M){a b:Nat}(ne:a≠b){v:Int}(h0:0≤v)(h1:v≤400):MOk (mr (mr M a b v) b a v) where
  sym:=fun i j=>by
    simp only [mr]
    by_cases q:i=b∧j=a
    · rw [if_pos q]
      by_cases r:j=b∧i=a
      · rw [if_pos r]
      · rw [if_neg r,if_pos ⟨q.2,q.1⟩]
    · rw [if_neg q]
      by_cases p:i=a∧j=b
      · rw [if_pos p,if_pos ⟨p.2,p.1⟩]
      · rw [if_neg p,if_neg fun z=>p ⟨z.2,z.1⟩,if_neg fun z=>q ⟨z.2,z.1⟩];exact o.sym i j
  bd:=fun i j=>by
    simp only [mr]
    split
    · exact⟨h0,h1⟩
    · split
      · exact⟨h0,h1⟩
      · exact o.bd i j
  no:=fun i=>by
    simp only [mr]
    rw [if_neg fun z=>ne (z.2.symm.trans z.1),if_neg fun z=>ne (z.1.symm.trans z.2)]
    exact o.no i
theorem Kz {t:Int}(h:0≤t∧t < 803):0≤(if t - 402 > 0 then t - 402 else 0)∧(if t - 402 > 0 then t - 402 else 0)≤400:=by split<;>omega
theorem Ee {M:Nat→Nat→Int}{n i j:Nat}(hj:j < n):atI ((ef M n i).map D.int) (j:Int)=some (.int (M i j)):=by
  rw [jQ (by simp [ef,hj])];simp [ef]
theorem xi {A n i:Nat}(hi:i < n):atI ((List.range n).map fun i=>D.ref (A + i)) (i:Int)=some (.ref (A + i)):=by
  refine kN ?_
  simp [hi]
theorem GK {x0 x1 x2 x4 x5:Option D}{r:Sd}{N O:Int}(e:(sml O || sml N)=true)(h:Hd):af bh (aa 6) (aa 3) (x0 :: x1 :: x2 :: some (.int N) :: x4 :: x5 :: some (.int O) :: r) h=.ok (.int (O * N)) h:=by
  rw [show af bh (aa 6) (aa 3) (x0 :: x1 :: x2 :: some (.int N) :: x4 :: x5 :: some (.int O) :: r) h=bh (.int O) (.int N) h from rfl]
  exact Ec e h
theorem q1 {tk n one i:Nat}{S0 p1:D}{way t q:Int}{td:List D}{c b:Option D}{h0:Hd}{E:EF}(pr:E [some S0,some p1,some (.int way),some (.int n),c,some (.ref tk),some (.int one),some (.int i),b,none,none,none] h0=.ok (.int q) h0)(t1:h0[tk]? = some (.lst td))(at1:atI td (q + i)=some (.int t)):aC (gN 8) (y6 (fC (.int 0)) (af oq (fAt (aa 5) (af bA E (aa 7))) (fC (.int 402)))) [some S0,some p1,some (.int way),some (.int n),c,some (.ref tk),some (.int one),some (.int i),b,none,none,none] h0=.nx [some S0,some p1,some (.int way),some (.int n),c,some (.ref tk),some (.int one),some (.int i),some (.int (if t - 402 > 0 then t - 402 else 0)),none,none,none] h0:=by
  exact aG (Ij rfl (ak (a4 rfl (ak pr rfl rfl) (aZ t1) at1) rfl rfl))
theorem q2 {tk n one i:Nat}{S0 p1:D}{way t y q v0:Int}{td:List D}{c:Option D}{h0:Hd}{E:EF}(pr:E [some S0,some p1,some (.int way),some (.int n),c,some (.ref tk),some (.int one),some (.int i),some (.int v0),none,none,none] h0=.ok (.int q) h0)(t1:h0[tk]? = some (.lst td))(at1:atI td (q + i)=some (.int t))(e:way / 64 % 2=1)(py:atI [D.int 0,.int 0,.int 1,.int 1,.int 2,.int 3,.int 1] (t % 7)=some (.int y)):sIf (tE (af oEq (af ck (af fI (aa 2) (fC (.int 64))) (fC (.int 2))) (fC (.int 1)))) (aC (gN 8) (fIx (ad (fC (.int 0)) (ad (fC (.int 0)) (ad (fC (.int 1)) (ad (fC (.int 1)) (ad (fC (.int 2)) (ad (fC (.int 3)) (ad (fC (.int 1)) ao))))))) (af ck (fAt (aa 5) (af bA E (aa 7))) (fC (.int 7))))) bB [some S0,some p1,some (.int way),some (.int n),c,some (.ref tk),some (.int one),some (.int i),some (.int v0),none,none,none] h0=.nx [some S0,some p1,some (.int way),some (.int n),c,some (.ref tk),some (.int one),some (.int i),some (.int y),none,none,none] h0:=by
  exact (za (bu (ak (ak (ak rfl rfl (gU (by decide) (by decide))) rfl (cV (by decide))) rfl (zd e)))).trans (aG (A2 (ag rfl (ag rfl (ag rfl (ag rfl (ag rfl (gj rfl rfl)))))) (ak (a4 rfl (ak pr rfl rfl) (aZ t1) at1) rfl (cV (by decide))) py))
theorem q3 {tk n one i:Nat}{S0 p1:D}{way v0:Int}{c:Option D}{h0:Hd}{B:SF}(e : ¬ way / 64 % 2=1):sIf (tE (af oEq (af ck (af fI (aa 2) (fC (.int 64))) (fC (.int 2))) (fC (.int 1)))) B bB [some S0,some p1,some (.int way),some (.int n),c,some (.ref tk),some (.int one),some (.int i),some (.int v0),none,none,none] h0=.nx [some S0,some p1,some (.int way),some (.int n),c,some (.ref tk),some (.int one),some (.int i),some (.int v0),none,none,none] h0:=by
  exact gS (bu (ak (ak (ak rfl rfl (gU (by decide) (by decide))) rfl (cV (by decide))) rfl (ze e)))
theorem F5 {A n one tk:Nat}{way:Int}{td:List Int}(h1:one < n)(hn:n≤30)(tl:td.length=n * n)(tb:∀ x∈td,0≤x∧x < 803)(hA:A + n < tk){M:Nat→Nat→Int}(O:MOk M){h:Hd}(m:gn A n M h)(ht:h[tk]? = some (.lst (td.map .int))){S0 p1:D}{a b:Option D}{L:Nat}(hL:h.length=L) :
    ∃ M' h' a' b',dm none ((List.range one).map fun k:Nat=>D.int k) (gN 7) ku ((List.range one).map fun k:Nat=>D.int k) [some S0,some p1,some (.int way),some (.int n),some (.ref (A + n)),some (.ref tk),some (.int one),a,b,none,none,none] h
      = .nx [some S0,some p1,some (.int way),some (.int n),some (.ref (A + n)),some (.ref tk),some (.int one),a',b',none,none,none] h'∧MOk M'∧gn A n M' h'∧h'[tk]? = some (.lst (td.map .int))∧h'.length=L:=by
  obtain⟨σ',h',k1,M',a',b',k2,k3,k4,k5,k6⟩:=c5 (P:=fun i σ h'=>∃ (M':Nat→Nat→Int) (a b:Option D),σ = [some S0,some p1,some (.int way),some (.int n),some (.ref (A + n)),some (.ref tk),some (.int one),a,b,none,none,none]∧MOk M'∧gn A n M' h'∧h'[tk]? = some (.lst (td.map .int))∧h'.length=L) (g:=none) (k:=0)
      (all:=(List.range one).map fun k:Nat=>D.int k) (fun _ _ _ _=>trivial)
      (xs:=(List.range one).map fun k:Nat=>D.int k) (tg:=gN 7) (σ:=[some S0,some p1,some (.int way),some (.int n),some (.ref (A + n)),some (.ref tk),some (.int one),a,b,none,none,none]) (h:=h) (b:=ku) (by
      rintro i x σ h0 hx ⟨M1,a,b,rfl,O1,m1,t1,l1⟩
      obtain⟨hi,rfl⟩:=cL hx
      have hin:i < n:=Nat.lt_trans hi h1
      have lt:one * n + i < td.length:=by
        rw [tl]
        exact Nat.lt_of_lt_of_le (Nat.add_lt_add_left hin _) (by rw [← Nat.succ_mul];exact Nat.mul_le_mul_right n h1)
      have at1:atI (td.map D.int) ((one:Int) * n + i)=some (.int td[one * n + i]):=by
        have:=jQ (f:=D.int) lt
        rw [show (one:Int) * n + i=((one * n + i:Nat):Int) by rw [Int.natCast_add,Int.natCast_mul]]
        exact this
      have tb1:=tb _ (List.getElem_mem lt)
      generalize td[one * n + i] = t at at1 tb1
      have sn:sml (n:Int)=true:=nW (Int.natCast_nonneg n) (Int.lt_of_le_of_lt (Int.ofNat_le.mpr hn) (by decide))
      obtain⟨v0,hv0⟩ : ∃ v0:Int,v0=if t - 402 > 0 then t - 402 else 0:=⟨_,rfl⟩
      have v0b:0≤v0∧v0≤400:=by rw [hv0];exact Kz tb1
      have s1:aC (gN 8) (y6 (fC (.int 0)) (af oq (fAt (aa 5) (af bA (af bh (aa 6) (aa 3)) (aa 7))) (fC (.int 402)))) [some S0,some p1,some (.int way),some (.int n),some (.ref (A + n)),some (.ref tk),some (.int one),some (.int i),b,none,none,none] h0=.nx [some S0,some p1,some (.int way),some (.int n),some (.ref (A + n)),some (.ref tk),some (.int one),some (.int i),some (.int v0),none,none,none] h0:=by
        rw [hv0];exact q1 (E:=af bh (aa 6) (aa 3)) (GK (by rw [sn,Bool.or_true]) h0) t1 at1
      obtain⟨v,vb,s2⟩ : ∃ v:Int,(0≤v∧v≤400)∧sIf (tE (af oEq (af ck (af fI (aa 2) (fC (.int 64))) (fC (.int 2))) (fC (.int 1)))) (aC (gN 8) (fIx (ad (fC (.int 0)) (ad (fC (.int 0)) (ad (fC (.int 1)) (ad (fC (.int 1)) (ad (fC (.int 2)) (ad (fC (.int 3)) (ad (fC (.int 1)) ao))))))) (af ck (fAt (aa 5) (af bA (af bh (aa 6) (aa 3)) (aa 7))) (fC (.int 7))))) bB [some S0,some p1,some (.int way),some (.int n),some (.ref (A + n)),some (.ref tk),some (.int one),some (.int i),some (.int v0),none,none,none] h0=.nx [some S0,some p1,some (.int way),some (.int n),some (.ref (A + n)),some (.ref tk),some (.int one),some (.int i),some (.int v),none,none,none] h0:=by
        by_cases e:way / 64 % 2=1
        · obtain⟨y,hy,py⟩:=JI D.int [0,0,1,1,2,3,1] (x:=t % 7) (Int.emod_nonneg t (by decide)) (Int.emod_lt_of_pos t (by decide))
          simp only [List.map_cons,List.map_nil] at py
          refine⟨y,by simp at hy;rcases hy with rfl|rfl|rfl|rfl|rfl<;>decide,?_⟩
          exact q2 (E:=af bh (aa 6) (aa 3)) (GK (by rw [sn,Bool.or_true]) h0) t1 at1 e py
        · refine⟨v0,v0b,?_⟩
          exact q3 e
      have lr:∀ (M:Nat→Nat→Int) (i:Nat),(ef M n i).length=n:=fun M i=>by simp [ef]
      have ne:one≠i:=Nat.ne_of_gt hi
      have m2:=m1.put (b:=i) h1 v
      have m3:=m2.put (b:=one) hin v
      have ro1:=m1.ro one h1
      have ro2:=m2.ro i hin
      have a1:=xi (A:=A) h1
      have a2:=xi (A:=A) hin
      have s3:nG (fAt (aa 4) (aa 6)) (aa 7) (aa 8) [some S0,some p1,some (.int way),some (.int n),some (.ref (A + n)),some (.ref tk),some (.int one),some (.int i),some (.int v),none,none,none] h0=.nx [some S0,some p1,some (.int way),some (.int n),some (.ref (A + n)),some (.ref tk),some (.int one),some (.int i),some (.int v),none,none,none] (h0.set (A + one) (.lst (((ef M1 n one).map .int).set i (.int v)))):=by
        exact uF rfl (a4 rfl rfl (aZ m1.ti) a1) rfl ro1 (uH (by rw [List.length_map,lr];exact hin))
      have s4:nG (fAt (aa 4) (aa 7)) (aa 6) (aa 8) [some S0,some p1,some (.int way),some (.int n),some (.ref (A + n)),some (.ref tk),some (.int one),some (.int i),some (.int v),none,none,none] (h0.set (A + one) (.lst (((ef M1 n one).map .int).set i (.int v))))=.nx [some S0,some p1,some (.int way),some (.int n),some (.ref (A + n)),some (.ref tk),some (.int one),some (.int i),some (.int v),none,none,none] ((h0.set (A + one) (.lst (((ef M1 n one).map .int).set i (.int v)))).set (A + i) (.lst (((ef (mr M1 one i v) n i).map .int).set one (.int v)))):=by
        exact uF rfl (a4 rfl rfl (aZ m2.ti) a2) rfl ro2 (uH (by rw [List.length_map,lr];exact h1))
      refine⟨_,rfl,[some S0,some p1,some (.int way),some (.int n),some (.ref (A + n)),some (.ref tk),some (.int one),some (.int i),some (.int v),none,none,none],_,?_,mr (mr M1 one i v) i one v,_,_,rfl,O1.put ne vb.1 vb.2,m3,?_,by simp [l1]⟩
      · show av _ _ [some S0,some p1,some (.int way),some (.int n),some (.ref (A + n)),some (.ref tk),some (.int one),some (.int i),b,none,none,none] h0=_
        rw [aH s1,aH s2,aH s3,s4]
      · exact (List.getElem?_set_ne (Nat.ne_of_lt (Nat.lt_trans (Nat.add_lt_add_left hin A) hA))).trans ((List.getElem?_set_ne (Nat.ne_of_lt (Nat.lt_trans (Nat.add_lt_add_left h1 A) hA))).trans t1)) ⟨M,a,b,rfl,O,m,ht,hL⟩
  exact⟨M',h',a',b',by rw [k1,k2],k3,k4,k5,k6⟩
theorem F6 {A n tk:Nat}{way:Int}{td:List Int}(hn:n≤30)(tl:td.length=n * n)(tb:∀ x∈td,0≤x∧x < 803)(hA:A + n < tk){M:Nat→Nat→Int}(O:MOk M){h:Hd}(m:gn A n M h)(ht:h[tk]? = some (.lst (td.map .int))){S0 p1:D}{L:Nat}(hL:h.length=L) :
    ∃ M' h' c a b,dm none ((List.range n).map fun k:Nat=>D.int k) (gN 6) iE ((List.range n).map fun k:Nat=>D.int k) [some S0,some p1,some (.int way),some (.int n),some (.ref (A + n)),some (.ref tk),none,none,none,none,none,none] h
      = .nx [some S0,some p1,some (.int way),some (.int n),some (.ref (A + n)),some (.ref tk),c,a,b,none,none,none] h'∧MOk M'∧gn A n M' h'∧h'.length=L:=by
  obtain⟨σ',h',k1,M',c',a',b',k2,k3,k4,k5,k6⟩:=c5 (P:=fun i σ h'=>∃ (M':Nat→Nat→Int) (c a b:Option D),σ = [some S0,some p1,some (.int way),some (.int n),some (.ref (A + n)),some (.ref tk),c,a,b,none,none,none]∧MOk M'∧gn A n M' h'∧h'[tk]? = some (.lst (td.map .int))∧h'.length=L) (g:=none) (k:=0)
      (all:=(List.range n).map fun k:Nat=>D.int k) (fun _ _ _ _=>trivial)
      (xs:=(List.range n).map fun k:Nat=>D.int k) (tg:=gN 6) (σ:=[some S0,some p1,some (.int way),some (.int n),some (.ref (A + n)),some (.ref tk),none,none,none,none,none,none]) (h:=h) (b:=iE) (by
      rintro i x σ h0 hx ⟨M1,c,a,b,rfl,O1,m1,t1,l1⟩
      obtain⟨hi,rfl⟩:=cL hx
      obtain⟨M2,h2,a2,b2,q,O2,m2,t2,l2⟩:=F5 hi hn tl tb hA O1 m1 t1 (S0:=S0) (p1:=p1) (way:=way) (a:=a) (b:=b) l1
      refine⟨_,rfl,_,h2,?_,M2,some (.int i),a2,b2,rfl,O2,m2,t2,l2⟩
      show eC _ _ _ [some S0,some p1,some (.int way),some (.int n),some (.ref (A + n)),some (.ref tk),some (.int i),a,b,none,none,none] h0=_
      exact fB (bR rfl (Nat.le_trans (Nat.le_of_lt hi) (jt hn))) q) ⟨M,none,none,none,rfl,O,m,ht,hL⟩
  exact⟨M',h',c',a',b',by rw [k1,k2],k3,k4,k6⟩
end Fm
set_option linter.all false
namespace Fm
structure Mdl (ns:List Int) (mo:Int) (n:Nat) (M:Nat→Nat→Int) (bs:List Int) (ss:List (Option Int)) (bk sk:Nat) (h:Hd):Prop where
  run:fL [.lit (ns.map .int),.int mo] []=.ok (.tup [.ref (0 + n),.ref bk,.ref sk]) h
  n1:1≤n
  n30:n≤30
  mt:gn 0 n M h
  mo:MOk M
  ba:h[bk]? = some (.lst (bs.map .int))
  st:h[sk]? = some (.lst (ss.map bW))
  lb:bs.length=n
  ls:ss.length=n
  os:∀ x∈ss,x=none∨x=some 0∨x=some 1
  bb:∀ x∈bs,-20000≤x∧x≤20000
theorem xj {way d:Int}{σ:Sd}{h:Hd}{i:Nat}(hi : σ[i]? = some (some (.int way)))(d0:0 < d)(d1:d < 2 ^ 250):tE (af oEq (af ck (af fI (aa i) (fC (.int d))) (fC (.int 2))) (fC (.int 1))) σ h=.ok (decide (way / d % 2=1)) h:=by
  have v:aa i σ h=.ok (.int way) h:=by simp only [aa,slot,hi]
  exact bu (ak (ak (ak v rfl (gU d0 d1)) rfl (cV (by decide))) rfl A3)
theorem Ir (x:Int):x % 2=0∨x % 2=1:=Int.emod_two_eq x
theorem lv1 {x:Int}(h:0≤x∧x < 2001) : -20000≤x - 1000∧x - 1000≤20000:=by omega
theorem lv2 {x y:Int}(h:0≤x∧x≤12000) : -20000≤x + y % 7 - 3∧x + y % 7 - 3≤20000:=by omega
theorem lv3 {x:Int}(h:0≤x∧x≤12000) : -20000≤x∧x≤20000:=by omega
theorem Ef {A n lk tk:Nat}{way:Int}{stp:List Int}(hn:n≤30)(sl:stp.length=n)(ne:lk≠tk){h:Hd}{bs:List Int}(lb:bs.length=n)(sb:∀ x∈stp,0≤x∧x < 2001)(bb:∀ x∈bs,0≤x∧x≤12000)(hl:h[lk]? = some (.lst (bs.map .int)))(ht:h[tk]? = some (.lst (stp.map .int))){S0 p1 q4 q5:D}{a b c:Option D} :
    ∃ (bs':List Int) (c':Option D),dm none ((List.range n).map fun k:Nat=>D.int k) (gN 6) gm ((List.range n).map fun k:Nat=>D.int k) [some S0,some p1,some (.int way),some (.int n),some q4,some q5,c,a,b,some (.ref lk),some (.ref tk),none] h
      = .nx [some S0,some p1,some (.int way),some (.int n),some q4,some q5,c',a,b,some (.ref lk),some (.ref tk),none] (h.set lk (.lst (bs'.map .int)))∧bs'.length=n ∧ ∀ x∈bs',-20000≤x∧x≤20000:=by
  have hlt:lk < h.length:=(List.getElem?_eq_some_iff.mp hl).1
  obtain⟨σ',h',k1,bs',c',k2,k3,k4,k5⟩:=c5 (P:=fun i σ h'=>∃ (bs':List Int) (c':Option D),σ = [some S0,some p1,some (.int way),some (.int n),some q4,some q5,c',a,b,some (.ref lk),some (.ref tk),none]∧h'=h.set lk (.lst (bs'.map .int))∧bs'.length=n ∧ ∀ (j:Nat) x,bs'[j]? = some x→(-20000≤x∧x≤20000)∧(i≤j→0≤x∧x≤12000)) (g:=none) (k:=0)
      (all:=(List.range n).map fun k:Nat=>D.int k) (fun _ _ _ _=>trivial)
      (xs:=(List.range n).map fun k:Nat=>D.int k) (tg:=gN 6) (σ:=[some S0,some p1,some (.int way),some (.int n),some q4,some q5,c,a,b,some (.ref lk),some (.ref tk),none]) (h:=h) (b:=gm) (by
      rintro i x σ h0 hx ⟨b1,c1,rfl,hh0,l1,bd1⟩
      rw [Nat.zero_add] at bd1 ⊢
      obtain⟨hi,rfl⟩:=cL hx
      have g1:h0[lk]? = some (.lst (b1.map .int)):=by rw [hh0,List.getElem?_set_self hlt]
      have g2:h0[tk]? = some (.lst (stp.map .int)):=by rw [hh0,List.getElem?_set_ne ne];exact ht
      have hi1:i < b1.length:=l1 ▸ hi
      have a1:atI (b1.map D.int) (i:Int)=some (.int b1[i]):=jQ hi1
      have a2:atI (stp.map D.int) (i:Int)=some (.int stp[i]):=jQ (sl ▸ hi)
      have bx1:=(bd1 i b1[i] (by simp [hi1])).2 (Nat.le_refl _)
      have bx2:=sb stp[i] (List.getElem_mem _)
      generalize b1[i] = x1 at a1 bx1
      generalize stp[i] = x2 at a2 bx2
      have e2:=Ir (way / 256)
      have ix:ixN (b1.map D.int).length (i:Int)=some i:=uH (by rw [List.length_map];exact hi1)
      obtain⟨y,hy,s1⟩ : ∃ y:Int,(-20000≤y∧y≤20000)∧gm [some S0,some p1,some (.int way),some (.int n),some q4,some q5,some (.int i),a,b,some (.ref lk),some (.ref tk),none] h0=.nx [some S0,some p1,some (.int way),some (.int n),some q4,some q5,some (.int i),a,b,some (.ref lk),some (.ref tk),none] (h0.set lk (.lst ((b1.map .int).set i (.int y)))):=by
        rcases e2 with e|e
        · exact⟨x2 - 1000,lv1 bx2,(uF (A2 (ag (ak (a4 rfl rfl (aZ g2) a2) rfl rfl) (ag (ak (ak (a4 rfl rfl (aZ g1) a1) (ak (a4 rfl rfl (aZ g2) a2) rfl (cV (by decide))) rfl) rfl rfl) rfl)) (ak (ak rfl rfl (gU (by decide) (by decide))) rfl (cV (by decide))) (by rw [e];rfl)) rfl rfl g1 ix)⟩
        · exact⟨x1 + x2 % 7 - 3,lv2 bx1,(uF (A2 (ag (ak (a4 rfl rfl (aZ g2) a2) rfl rfl) (ag (ak (ak (a4 rfl rfl (aZ g1) a1) (ak (a4 rfl rfl (aZ g2) a2) rfl (cV (by decide))) rfl) rfl rfl) rfl)) (ak (ak rfl rfl (gU (by decide) (by decide))) rfl (cV (by decide))) (by rw [e];rfl)) rfl rfl g1 ix)⟩
      refine⟨_,rfl,_,_,s1,b1.set i y,some (.int i),rfl,?_,by simp [l1],fun j z hz => ?_⟩
      · rw [hh0,List.set_set,List.map_set]
      · by_cases e:i=j
        · subst e
          rw [List.getElem?_set_self hi1] at hz
          cases hz
          exact⟨hy,fun q=>absurd q (Nat.not_succ_le_self _)⟩
        · rw [List.getElem?_set_ne e] at hz
          have q:=bd1 j z hz
          exact⟨q.1,fun le=>q.2 (Nat.le_of_succ_le le)⟩) ⟨bs,c,rfl,by
        apply List.ext_getElem?
        intro j
        by_cases e:lk=j
        · subst e;rw [List.getElem?_set_self hlt];exact hl
        · rw [List.getElem?_set_ne e],lb,fun j z hz=>by
          have q:=bb z (List.mem_of_getElem? hz)
          exact⟨lv3 q,fun _=>q⟩⟩
  exact⟨bs',c',by rw [k1,k2,k3],k4,fun z hz=>by
    obtain⟨j,hj⟩:=List.getElem?_of_mem hz
    exact (k5 j z hj).1⟩
theorem A6 (v:D):∀ n,(List.replicate n [v]).flatten=List.replicate n v
  | 0=>rfl
  | n + 1=>by rw [List.replicate_succ,List.replicate_succ,List.flatten_cons,A6 v n];rfl
theorem BX {l:List Int}(hb:∀ x∈l,0≤x∧x < 7){h:Hd}{k:Nat}(hk:h[k]? = some (.lst (l.map .int)))(a:Option D):∃ ss:List (Option Int),bV (some k) (l.map .int) (gN 0) [] (fIx (ad (fC (.int 0)) (ad (fC (.int 1)) (ad (fC .non) (ad (fC .non) (ad (fC .non) (ad (fC .non) (ad (fC .non) ao))))))) (aa 0)) (l.map .int) [a] h=.ok (ss.map bW) h∧ss.length=l.length ∧ ∀ x∈ss,x=none∨x=some 0∨x=some 1:=by
  have:=bv (g:=some k) (all:=l.map .int) (tg:=gN 0) (cs:=[]) (e:=fIx (ad (fC (.int 0)) (ad (fC (.int 1)) (ad (fC .non) (ad (fC .non) (ad (fC .non) (ad (fC .non) (ad (fC .non) ao))))))) (aa 0)) (h:=h) (I:=fun σ=>∃ a,σ = [a]) (fun _=>true) (fun d=>match d with | .int x=>bW (if x=0 then some 0 else if x=1 then some 1 else none)|_=>.non) hk
    (xs:=l.map .int) (σ:=[a]) (by
      rintro x hx σ ⟨c,rfl⟩
      obtain⟨u,hu,rfl⟩:=List.mem_map.mp hx
      have b:=hb u hu
      refine⟨_,rfl,⟨_,rfl⟩,rfl,fun _ => ?_⟩
      obtain⟨u,rfl⟩:=Int.eq_ofNat_of_zero_le b.1
      match u,Int.ofNat_lt.mp b.2 with
      | 0,_|1,_|2,_|3,_|4,_|5,_|6,_=>rfl
      | k + 7,z=>exact absurd z (Nat.not_lt.mpr (Nat.le_add_left 7 k))) ⟨_,rfl⟩
  refine⟨l.map fun x=>if x=0 then some 0 else if x=1 then some 1 else none,?_,by simp,fun x hx => ?_⟩
  · rw [this,List.filter_eq_self.mpr (by simp),List.map_map,List.map_map];rfl
  · obtain⟨u,_,rfl⟩:=List.mem_map.mp hx
    split
    · exact .inr (.inl rfl)
    · split
      · exact .inr (.inr rfl)
      · exact .inl rfl
theorem JM {x0 x1 x2:Option D}{r:Sd}{N:Int}(e:(sml N || sml N)=true)(h:Hd):af bh (aa 3) (aa 3) (x0 :: x1 :: x2 :: some (.int N) :: r) h=.ok (.int (N * N)) h:=by
  rw [show af bh (aa 3) (aa 3) (x0 :: x1 :: x2 :: some (.int N) :: r) h=bh (.int N) (.int N) h from rfl]
  exact Ec e h
theorem Iu {S0:D}{x1 x3 x4:D}{way c1 q:Int}{k:Nat}{E:EF}{h3 h4:Hd}(hc1:aS [S0,.int 1] h3=.ok (.int c1) h3)(pr:E [some S0,some x1,some (.int way),some x3,some x4,none,none,none,none,none,none,none] h3=.ok (.int q) h3)(q4:cj [.int c1,.int way,.int q,.int 803] h3=.ok (.ref k) h4) :
    aC (gN 5) (aq cj (ad (aq aS (ad (aa 0) (ad (fC (.int 1)) ao))) (ad (aa 2) (ad E (ad (fC (.int 803)) ao))))) [some S0,some x1,some (.int way),some x3,some x4,none,none,none,none,none,none,none] h3=.nx [some S0,some x1,some (.int way),some x3,some x4,some (.ref k),none,none,none,none,none,none] h4:=by
  exact aG (aw (ag (aw (gj rfl rfl) hc1) (ag rfl (ag pr (ag rfl rfl)))) q4)
theorem GL {n:Nat}(hn:n≤30){v:D}{σ:Sd}{h:Hd}{b:EF}(hb:b σ h=.ok (.int n) h):aL (oF (ad (fC v) ao) b) σ h=.ok (.ref h.length) (h++[.lst (List.replicate n v)]) :=
  gh (by rw [Ih (l:=[v]) rfl hb ⟨Int.natCast_nonneg n,Int.le_trans (Int.ofNat_le.mpr hn) (by decide),by rw [Int.toNat_natCast];exact Nat.le_trans (Nat.le_of_eq (Nat.one_mul n)) (jt hn)⟩,Int.toNat_natCast,A6]) (by rw [List.length_replicate];exact jt hn)
theorem Iv (way:Int){mo:Int}(h0:0 < mo)(h1:mo≤17):∃ n:Nat,(n:Int)=1 + way / 2 % mo∧1≤n∧n≤30:=by
  have a:=Int.emod_nonneg (way / 2) (Int.ne_of_gt h0)
  have b:=Int.emod_lt_of_pos (way / 2) h0
  generalize way / 2 % mo=x at a b
  obtain⟨k,rfl⟩:=Int.eq_ofNat_of_zero_le a
  exact⟨1 + k,rfl,Nat.le_add_right 1 k,by omega⟩
theorem GM:∀ l:List Int,(∀ y∈l,0≤y∧y≤400)→0≤l.sum∧l.sum≤400 * l.length
  | [],_=>⟨Int.le_refl _,Int.le_refl _⟩
  | y :: l,h=>by
    have a:=h y List.mem_cons_self
    have b:=GM l fun z hz=>h z (List.mem_cons_of_mem _ hz)
    rw [List.sum_cons,List.length_cons]
    omega
theorem KA {n:Nat}{x:Int}(hn:n≤30)(h:0≤x∧x≤400 * n):0≤x∧x≤12000:=⟨h.1,Int.le_trans h.2 (Int.mul_le_mul_of_nonneg_left (Int.ofNat_le.mpr hn) (by decide))⟩
noncomputable abbrev XM (S0:D) (mo way:Int) (n:Nat) (a5 a6 a7 a8 a9 a10 a11:Option D):Sd:=[some S0,some (.int mo),some (.int way),some (.int n),some (.ref (0 + n)),a5,a6,a7,a8,a9,a10,a11]
theorem Eg (ns:List Int){mo:Int}(h0:0 < mo)(h17:mo≤17):∃ n M bs ss bk sk h,Mdl ns mo n M bs ss bk sk h:=by
  obtain⟨way,hway⟩:=tK ns 0 (by decide)
  obtain⟨c1,hc1⟩:=tK ns 1 (by decide)
  obtain⟨c2,hc2⟩:=tK ns 2 (by decide)
  obtain⟨c3,hc3⟩:=tK ns 3 (by decide)
  obtain⟨S0,hS0⟩ : ∃ S0:D,S0=.lit (ns.map .int):=⟨_,rfl⟩
  have hway:∀ h,aS [S0,.int 0] h=.ok (.int way) h:=by rw [hS0];exact hway
  have hc1:∀ h,aS [S0,.int 1] h=.ok (.int c1) h:=by rw [hS0];exact hc1
  have hc2:∀ h,aS [S0,.int 2] h=.ok (.int c2) h:=by rw [hS0];exact hc2
  have hc3:∀ h,aS [S0,.int 3] h=.ok (.int c3) h:=by rw [hS0];exact hc3
  obtain⟨n,hn,n1,n30⟩:=Iv way h0 h17
  have e0:aC (gN 2) (aq aS (ad (aa 0) (ad (fC (.int 0)) ao))) [some S0,some (.int mo),none,none,none,none,none,none,none,none,none,none] []=.nx [some S0,some (.int mo),some (.int way),none,none,none,none,none,none,none,none,none] []:=aG (aw (gj rfl rfl) (hway _))
  have e1:aC (gN 3) (af bA (fC (.int 1)) (af ck (af fI (aa 2) (fC (.int 2))) (aa 1))) [some S0,some (.int mo),some (.int way),none,none,none,none,none,none,none,none,none] []=.nx [some S0,some (.int mo),some (.int way),some (.int n),none,none,none,none,none,none,none,none] []:=by rw [hn];exact aG (ak rfl (ak (ak rfl rfl (gU (by decide) (by decide))) rfl (cV h0)) rfl)
  obtain⟨ds,h2,k2,l2,v2,σ2,q2,hh2,g2⟩:=iB (g:=none) (all:=(List.range n).map fun k:Nat=>D.int k) (tg:=gN 0) (xs:=(List.range n).map fun k:Nat=>D.int k) (k:=0)
    (e:=aL (oF (ad (fC (.int 0)) ao) (aa 1))) (σ:=[none,some (.int n)]) (h:=[])
    (P:=fun i σ h=>(∃ a,σ = [a,some (.int n)])∧h.length=i ∧ ∀ j,j < i→h[j]? = some (.lst ((List.replicate n 0).map .int))) (V:=fun i d=>d=.ref i) (fun _ _ _ _=>trivial) (by
      rintro i x σ h0 hx ⟨⟨a,rfl⟩,hl,e1⟩
      obtain⟨hi,rfl⟩:=cL hx
      rw [Nat.zero_add] at hl e1 ⊢
      refine⟨_,rfl,.ref h0.length,h0++[.lst ((List.replicate n 0).map .int)],?_,by rw [hl],⟨_,rfl⟩,by simp [hl],fun j hj => ?_⟩
      · rw [List.map_replicate];exact GL n30 rfl
      · by_cases hji:j < i
        · exact cW _ (e1 j hji)
        · have:j=i:=Nat.le_antisymm (Nat.le_of_lt_succ hj) (Nat.not_lt.mp hji)
          subst this
          rw [← hl];exact List.getElem?_concat_length) ⟨⟨_,rfl⟩,rfl,fun j hj=>absurd hj (Nat.not_lt_zero _)⟩
  simp at l2 hh2 g2
  have e2':ds=(List.range n).map fun i=>.ref (0 + i):=kr l2 fun i d hd=>by simpa using v2 i d hd
  subst e2'
  obtain⟨h3,hh3⟩ : ∃ h3,h3=h2++[cm.lst ((List.range n).map fun i=>.ref (0 + i))]:=⟨_,rfl⟩
  have l3:h3.length=n + 1:=by rw [hh3];simp [hh2]
  have e2:aC (gN 4) (aL (aT 1 [3] (aV (aa 3)) (gN 0) [] (aL (oF (ad (fC (.int 0)) ao) (aa 1))))) [some S0,some (.int mo),some (.int way),some (.int n),none,none,none,none,none,none,none,none] []=.nx (XM S0 mo way n none none none none none none none) h3:=by
    rw [hh3]
    show _=Out.nx [some S0,some (.int mo),some (.int way),some (.int n),some (.ref (0 + n)),none,none,none,none,none,none,none] _
    rw [show D.ref (0 + n)=.ref h2.length by rw [hh2,Nat.zero_add]]
    exact aG (gh (b5 (bR rfl (jt n30)) k2) (by rw [List.length_map,List.length_range];exact (jt n30)))
  have m3:gn 0 n (fun _ _=>0) h3:=by
    refine⟨fun i hi => ?_,?_⟩
    · rw [hh3,Nat.zero_add,cW _ (g2 i hi)]
      congr 2
      simp only [ef,List.map_map]
      apply List.ext_getElem?
      intro j
      by_cases hj:j < n<;>simp [hj]
    · rw [hh3,Nat.zero_add,← hh2];exact List.getElem?_concat_length
  have O3:MOk (fun _ _=>0):=⟨fun _ _=>rfl,fun _ _=>⟨Int.le_refl _,by decide⟩,fun _=>rfl⟩
  obtain⟨td,q4,tl,tb⟩:=F4 c1 way 803 (n * n) (Nat.le_trans (Nat.mul_le_mul n30 n30) (by decide)) (by decide) (by decide) h3
  obtain⟨h4,hh4⟩ : ∃ h4,h4=h3++[cm.lst (td.map .int)]:=⟨_,rfl⟩
  rw [← hh4,l3] at q4
  have sn:sml (n:Int)=true:=nW (Int.natCast_nonneg n) (Int.lt_of_le_of_lt (Int.ofNat_le.mpr n30) (by decide))
  have e3:aC (gN 5) (aq cj (ad (aq aS (ad (aa 0) (ad (fC (.int 1)) ao))) (ad (aa 2) (ad (af bh (aa 3) (aa 3)) (ad (fC (.int 803)) ao))))) (XM S0 mo way n none none none none none none none) h3=.nx (XM S0 mo way n (some (.ref (n + 1))) none none none none none none) h4:=by
    have q4':cj [.int c1,.int way,.int ((n:Int) * n),.int 803] h3=.ok (.ref (n + 1)) h4:=by rw [← Int.natCast_mul];exact q4
    exact Iu (E:=af bh (aa 3) (aa 3)) (hc1 h3) (JM (by rw [sn,Bool.or_self]) h3) q4'
  have m4:gn 0 n (fun _ _=>0) h4:=by rw [hh4];exact m3.more _
  have t4:h4[n + 1]? = some (.lst (td.map .int)):=by rw [hh4,← l3];exact List.getElem?_concat_length
  obtain⟨M,h5,x6,x7,x8,q5,O5,m5,l5⟩:=F6 (A:=0) (tk:=n + 1) (way:=way) n30 tl tb (by omega) O3 m4 t4 (S0:=S0) (p1:=.int mo) (L:=n + 2) (by rw [hh4];simp [l3])
  have e4:eC (aV (aa 3)) (gN 6) iE (XM S0 mo way n (some (.ref (n + 1))) none none none none none none) h4=.nx (XM S0 mo way n (some (.ref (n + 1))) x6 x7 x8 none none none) h5:=fB (bR rfl (jt n30)) q5
  have cs:bV (some (0 + n)) ((List.range n).map fun i=>.ref (0 + i)) (gN 0) [] (yO (lOf (aa 0))) ((List.range n).map fun i=>.ref (0 + i)) [none] h5=.ok (((List.range n).map fun i=>(ef M n i).sum).map D.int) h5:=by
    have:=bv (g:=some (0 + n)) (all:=(List.range n).map fun i=>.ref (0 + i)) (tg:=gN 0) (cs:=[]) (e:=yO (lOf (aa 0))) (h:=h5) (I:=fun σ=>∃ a,σ = [a]) (fun _=>true) (fun d=>match d with | .ref k=>.int (ef M n k).sum|_=>.non) m5.ti (xs:=(List.range n).map fun i=>.ref (0 + i)) (σ:=[none]) (by
      rintro x hx σ ⟨a,rfl⟩
      obtain⟨i,hi,rfl⟩:=List.mem_map.mp hx
      have hi:=List.mem_range.mp hi
      have r:=m5.ro i hi
      simp only [Nat.zero_add] at r ⊢
      refine⟨_,rfl,⟨_,rfl⟩,rfl,fun _ => ?_⟩
      exact Il (cI rfl (aZ r)) (tq _)) ⟨_,rfl⟩
    rw [this,List.filter_eq_self.mpr (by simp),List.map_map,List.map_map]
    refine congrArg (fun l=>Res.ok l h5) ?_
    apply List.map_congr_left
    intro i _
    simp
  obtain⟨bs0,hbs0⟩ : ∃ bs0,bs0=(List.range n).map fun i=>(ef M n i).sum:=⟨_,rfl⟩
  rw [← hbs0] at cs
  have lb0:bs0.length=n:=by rw [hbs0];simp
  have bb0:∀ x∈bs0,0≤x∧x≤12000:=fun x hx=>by
    rw [hbs0] at hx
    obtain⟨i,_,rfl⟩:=List.mem_map.mp hx
    have:=GM (ef M n i) fun y hy=>by
      obtain⟨j,_,rfl⟩:=List.mem_map.mp hy
      exact O5.bd i j
    have ll:(ef M n i).length=n:=by simp [ef]
    rw [ll] at this
    exact KA n30 this
  obtain⟨h6,hh6⟩ : ∃ h6,h6=h5++[cm.lst (bs0.map .int)]:=⟨_,rfl⟩
  have l6:h6.length=n + 3:=by rw [hh6];simp [l5]
  have e5:aC (gN 9) (aL (aT 1 [] (cS (aa 4)) (gN 0) [] (yO (lOf (aa 0))))) (XM S0 mo way n (some (.ref (n + 1))) x6 x7 x8 none none none) h5=.nx (XM S0 mo way n (some (.ref (n + 1))) x6 x7 x8 (some (.ref (n + 2))) none none) h6:=by
    rw [hh6,← l5]
    exact aG (gh (b5 (fq rfl m5.ti) cs) (by rw [List.length_map,lb0];exact (jt n30)))
  have m6:gn 0 n M h6:=by rw [hh6];exact m5.more _
  have b6:h6[n + 2]? = some (.lst (bs0.map .int)):=by rw [hh6,← l5];exact List.getElem?_concat_length
  have e6:∃ (bs:List Int) (x6' x10:Option D) (h7:Hd),sIf (tE (af oEq (af ck (af fI (aa 2) (fC (.int 128))) (fC (.int 2))) (fC (.int 1)))) (av (aC (gN 10) (aq cj (ad (aq aS (ad (aa 0) (ad (fC (.int 2)) ao))) (ad (aa 2) (ad (aa 3) (ad (fC (.int 2001)) ao))))))
    (eC (aV (aa 3)) (gN 6) gm)) bB (XM S0 mo way n (some (.ref (n + 1))) x6 x7 x8 (some (.ref (n + 2))) none none) h6=.nx (XM S0 mo way n (some (.ref (n + 1))) x6' x7 x8 (some (.ref (n + 2))) x10 none) h7∧gn 0 n M h7∧h7[n + 2]? = some (.lst (bs.map .int))∧bs.length=n∧n + 3≤h7.length ∧ ∀ x∈bs,-20000≤x∧x≤20000:=by
    have bt:=xj (way:=way) (d:=128) (σ:=(XM S0 mo way n (some (.ref (n + 1))) x6 x7 x8 (some (.ref (n + 2))) none none)) (h:=h6) (i:=2) rfl (by decide) (by decide)
    by_cases e:way / 128 % 2=1
    · rw [decide_eq_true e] at bt
      obtain⟨stp,q7,sl,sb⟩:=F4 c2 way 2001 n (jt n30) (by decide) (by decide) h6
      rw [l6] at q7
      have t1:aC (gN 10) (aq cj (ad (aq aS (ad (aa 0) (ad (fC (.int 2)) ao))) (ad (aa 2) (ad (aa 3) (ad (fC (.int 2001)) ao))))) (XM S0 mo way n (some (.ref (n + 1))) x6 x7 x8 (some (.ref (n + 2))) none none) h6=.nx (XM S0 mo way n (some (.ref (n + 1))) x6 x7 x8 (some (.ref (n + 2))) (some (.ref (n + 3))) none) (h6++[.lst (stp.map .int)]):=by
        exact aG (aw (ag (aw (gj rfl rfl) (hc2 _)) (ag rfl (gj rfl rfl))) q7)
      obtain⟨bs',c',q8,lb',bb'⟩:=Ef (A:=0) (lk:=n + 2) (tk:=n + 3) (way:=way) n30 sl (Nat.ne_of_lt (Nat.lt_succ_self _)) (h:=h6++[.lst (stp.map .int)]) lb0 sb bb0 (cW _ b6) (by rw [← l6];exact List.getElem?_concat_length) (S0:=S0) (p1:=.int mo) (q4:=.ref (0 + n)) (q5:=.ref (n + 1)) (a:=x7) (b:=x8) (c:=x6)
      refine⟨bs',c',some (.ref (n + 3)),_,?_,(m6.more [.lst (stp.map .int)]).set (k:=n + 2) (by omega) (.lst (bs'.map .int)),?_,lb',by simp [l6],bb'⟩
      · exact (za bt).trans ((aH t1).trans (fB (bR rfl (jt n30)) q8))
      · rw [List.getElem?_set_self (by simp [l6])]
    · rw [decide_eq_false e] at bt
      exact⟨bs0,x6,none,h6,by rw [F3 bt];rfl,m6,b6,lb0,Nat.le_of_eq l6.symm,fun x hx=>lv3 (bb0 x hx)⟩
  obtain⟨bs,x6',x10,h7,e6,m7,b7,lb7,l7,bb7⟩:=e6
  obtain⟨h8,hh8⟩ : ∃ h8,h8=h7++[cm.lst ((List.replicate n (none:Option Int)).map bW)]:=⟨_,rfl⟩
  have e7:aC (gN 11) (aL (oF (ad (fC .non) ao) (aa 3))) (XM S0 mo way n (some (.ref (n + 1))) x6' x7 x8 (some (.ref (n + 2))) x10 none) h7=.nx (XM S0 mo way n (some (.ref (n + 1))) x6' x7 x8 (some (.ref (n + 2))) x10 (some (.ref h7.length))) h8:=by
    rw [hh8,List.map_replicate]
    exact aG (GL n30 rfl)
  have m8:gn 0 n M h8:=by rw [hh8];exact m7.more _
  have b8:h8[n + 2]? = some (.lst (bs.map .int)):=by rw [hh8];exact cW _ b7
  have s8:h8[h7.length]? = some (.lst ((List.replicate n (none:Option Int)).map bW)):=by rw [hh8];simp
  have e8:∃ (ss:List (Option Int)) (x5:D) (sk:Nat) (h9:Hd),sIf (tE (af oEq (af ck (af fI (aa 2) (fC (.int 512))) (fC (.int 2))) (fC (.int 1)))) (av (aC (gN 5) (aq cj (ad (aq aS (ad (aa 0) (ad (fC (.int 3)) ao))) (ad (aa 2) (ad (aa 3) (ad (fC (.int 7)) ao))))))
    (aC (gN 11) (aL (aT 1 [] (cS (aa 5)) (gN 0) [] (fIx (ad (fC (.int 0)) (ad (fC (.int 1)) (ad (fC .non) (ad (fC .non) (ad (fC .non) (ad (fC .non) (ad (fC .non) ao))))))) (aa 0)))))) bB (XM S0 mo way n (some (.ref (n + 1))) x6' x7 x8 (some (.ref (n + 2))) x10 (some (.ref h7.length))) h8=.nx (XM S0 mo way n (some x5) x6' x7 x8 (some (.ref (n + 2))) x10 (some (.ref sk))) h9∧gn 0 n M h9∧h9[n + 2]? = some (.lst (bs.map .int))∧h9[sk]? = some (.lst (ss.map bW))∧ss.length=n ∧ ∀ x∈ss,x=none∨x=some 0∨x=some 1:=by
    have bt:=xj (way:=way) (d:=512) (σ:=(XM S0 mo way n (some (.ref (n + 1))) x6' x7 x8 (some (.ref (n + 2))) x10 (some (.ref h7.length)))) (h:=h8) (i:=2) rfl (by decide) (by decide)
    by_cases e:way / 512 % 2=1
    · rw [decide_eq_true e] at bt
      obtain⟨tl3,q9,sl,sb⟩:=F4 c3 way 7 n (jt n30) (by decide) (by decide) h8
      obtain⟨hA,hhA⟩ : ∃ hA,hA=h8++[cm.lst (tl3.map .int)]:=⟨_,rfl⟩
      rw [← hhA] at q9
      have g9:hA[h8.length]? = some (.lst (tl3.map .int)):=by rw [hhA];simp
      obtain⟨ss,cq,lss,oss⟩:=BX sb g9 none
      have t1:aC (gN 5) (aq cj (ad (aq aS (ad (aa 0) (ad (fC (.int 3)) ao))) (ad (aa 2) (ad (aa 3) (ad (fC (.int 7)) ao))))) (XM S0 mo way n (some (.ref (n + 1))) x6' x7 x8 (some (.ref (n + 2))) x10 (some (.ref h7.length))) h8=.nx (XM S0 mo way n (some (.ref h8.length)) x6' x7 x8 (some (.ref (n + 2))) x10 (some (.ref h7.length))) hA:=by
        exact aG (aw (ag (aw (gj rfl rfl) (hc3 _)) (ag rfl (gj rfl rfl))) q9)
      have t2:aC (gN 11) (aL (aT 1 [] (cS (aa 5)) (gN 0) [] (fIx (ad (fC (.int 0)) (ad (fC (.int 1)) (ad (fC .non) (ad (fC .non) (ad (fC .non) (ad (fC .non) (ad (fC .non) ao))))))) (aa 0)))) (XM S0 mo way n (some (.ref h8.length)) x6' x7 x8 (some (.ref (n + 2))) x10 (some (.ref h7.length))) hA=.nx (XM S0 mo way n (some (.ref h8.length)) x6' x7 x8 (some (.ref (n + 2))) x10 (some (.ref hA.length))) (hA++[.lst (ss.map bW)]):=by
        exact aG (gh (b5 (fq rfl g9) cq) (by rw [List.length_map,lss,sl];exact (jt n30)))
      refine⟨ss,.ref h8.length,hA.length,hA++[.lst (ss.map bW)],?_,by rw [hhA];exact (m8.more _).more _,?_,by simp,lss.trans sl,oss⟩
      · exact (za bt).trans ((aH t1).trans t2)
      · exact cW _ (by rw [hhA];exact cW _ b8)
    · rw [decide_eq_false e] at bt
      exact⟨List.replicate n none,.ref (n + 1),h7.length,h8,by rw [F3 bt];rfl,m8,b8,s8,by simp,fun x hx=>.inl (List.eq_of_mem_replicate hx)⟩
  obtain⟨ss,x5,sk,h9,e8,m9,b9,s9,ls9,os9⟩:=e8
  have e9:bo (eB (ad (aa 4) (ad (aa 9) (ad (aa 11) ao)))) (XM S0 mo way n (some x5) x6' x7 x8 (some (.ref (n + 2))) x10 (some (.ref sk))) h9=.rt (.tup [.ref (0 + n),.ref (n + 2),.ref sk]) h9:=bP (iC (ag rfl (gj rfl rfl)))
  refine⟨n,M,bs,ss,n + 2,sk,h9,?_,n1,n30,m9,O5,b9,s9,lb7,ls9,os9,bb7⟩
  have st:([S0,D.int mo].map some++List.replicate (12 - [S0,D.int mo].length) none:Sd)=[some S0,some (.int mo),none,none,none,none,none,none,none,none,none,none]:=rfl
  rw [← hS0]
  unfold fL bF runB
  rw [if_pos (by rfl),st,aH e0,aH e1,aH e2,aH e3,aH e4,aH e5,aH e6,aH e7,aH e8,e9]
  exact tm rfl
end Fm
set_option linter.all false
namespace Fm
def ky (one other i j:Nat):Prop:=(i < one∧j < one)∨(i=one∧j < other)∨(j=one∧i < other)
instance (one other i j:Nat):Decidable (ky one other i j):=by unfold ky;infer_instance
def fH (M:Nat→Nat→Int) (s:List Int) (one other i j:Nat):Int:=if ky one other i j∧s.getD j 0=1 then M i j else 0
structure LP (n:Nat) (M:Nat→Nat→Int) (one other:Nat) (T:List Tie):Prop where
  ok:TOk n one other T
  pl:∀ i,i < n → ∀ s,ee (nbs T i) s=jw (fH M s one other i) n
theorem pa1 (a b c:Int):a + (b + c)=a + b + c:=(Int.add_assoc a b c).symm
theorem zi (r r':List (Nat × Int))(s:List Int):ee (r++r') s=ee r s + ee r' s:=by
  induction r with
  | nil=>simp [ee,iD]
  | cons p r ih=>rw [List.cons_append,gI,gI,ih];exact pa1 _ _ _
theorem sr1 (S x y:Int):S + 0 + x=S + y + (x - y):=by omega
theorem nY {f g:Nat→Int}{p:Nat}(h:∀ j,j≠p→f j=g j):∀ n,jw f n=jw g n + if p < n then f p - g p else 0
  | 0=>by simp [jw]
  | n + 1=>by
    rw [jw,jw,nY h n]
    by_cases e:n=p
    · subst e
      rw [if_neg (Nat.lt_irrefl _),if_pos (Nat.lt_succ_self _)];exact sr1 _ _ _
    · rw [h n e]
      by_cases l:p < n
      · rw [if_pos l,if_pos (Nat.lt_succ_of_lt l)];exact Int.add_right_comm _ _ _
      · rw [if_neg l,if_neg fun z=>(Nat.lt_succ_iff_lt_or_eq.mp z).elim l fun z=>e z.symm,Int.add_zero,Int.add_zero]
theorem kz {f g:Nat→Int}:∀ n,(∀ j,j < n→f j=g j)→jw f n=jw g n
  | 0,_=>rfl
  | n + 1,h=>by rw [jw,jw,kz n fun j hj=>h j (by omega),h n (by omega)]
theorem BY {one other i j:Nat}:ky one (other + 1) i j ↔ ky one other i j∨(i=one∧j=other)∨(j=one∧i=other):=by
  constructor
  · rintro (h|⟨a,b⟩|⟨a,b⟩)
    · exact .inl (.inl h)
    · exact (Nat.lt_succ_iff_lt_or_eq.mp b).elim (fun b=>.inl (.inr (.inl ⟨a,b⟩))) fun b=>.inr (.inl ⟨a,b⟩)
    · exact (Nat.lt_succ_iff_lt_or_eq.mp b).elim (fun b=>.inl (.inr (.inr ⟨a,b⟩))) fun b=>.inr (.inr ⟨a,b⟩)
  · rintro ((h|⟨a,b⟩|⟨a,b⟩)|⟨a,b⟩|⟨a,b⟩)
    · exact .inl h
    · exact .inr (.inl ⟨a,Nat.lt_succ_of_lt b⟩)
    · exact .inr (.inr ⟨a,Nat.lt_succ_of_lt b⟩)
    · exact .inr (.inl ⟨a,b ▸ Nat.lt_succ_self _⟩)
    · exact .inr (.inr ⟨a,b ▸ Nat.lt_succ_self _⟩)
theorem mw {one other i j:Nat}(h1 : ¬ (i=one∧j=other))(h2 : ¬ (j=one∧i=other)):ky one (other + 1) i j ↔ ky one other i j :=
  BY.trans ⟨fun z=>z.elim id fun z=>z.elim (fun z=>absurd z h1) fun z=>absurd z h2,.inl⟩
theorem A7 {one other:Nat}(ho:other < one) : ¬ ky one other one other ∧ ¬ ky one other other one:=by
  refine⟨?_,?_⟩
  · rintro (h|h|h)
    · exact Nat.lt_irrefl _ h.1
    · exact Nat.lt_irrefl _ h.2
    · exact Nat.lt_irrefl _ (h.1 ▸ ho)
  · rintro (h|h|h)
    · exact Nat.lt_irrefl _ h.2
    · exact Nat.lt_irrefl _ (h.1 ▸ ho)
    · exact Nat.lt_irrefl _ h.2
theorem BZ {one i j:Nat}(e : ¬ (i=one∧j=one)):ky one one i j ↔ ky (one + 1) 0 i j:=by
  constructor
  · rintro (h|h|h)
    · exact .inl ⟨Nat.lt_succ_of_lt h.1,Nat.lt_succ_of_lt h.2⟩
    · exact .inl ⟨h.1 ▸ Nat.lt_succ_self _,Nat.lt_succ_of_lt h.2⟩
    · exact .inl ⟨Nat.lt_succ_of_lt h.2,h.1 ▸ Nat.lt_succ_self _⟩
  · rintro (⟨a,b⟩|h|h)
    · rcases Nat.lt_succ_iff_lt_or_eq.mp a with a|a<;>rcases Nat.lt_succ_iff_lt_or_eq.mp b with b|b
      · exact .inl ⟨a,b⟩
      · exact .inr (.inr ⟨b,a⟩)
      · exact .inr (.inl ⟨a,b⟩)
      · exact absurd ⟨a,b⟩ e
    · exact absurd h.2 (Nat.not_lt_zero _)
    · exact absurd h.2 (Nat.not_lt_zero _)
theorem tL {n:Nat}{M:Nat→Nat→Int}(O:MOk M){one other:Nat}(ho:other < one)(hn:one < n)(i:Nat)(s:List Int) :
    jw (fH M s one (other + 1) i) n=jw (fH M s one other i) n + (if i=one then (if s.getD other 0=1 then M one other else 0) else if i=other then (if s.getD one 0=1 then M one other else 0) else 0):=by
  by_cases e1:i=one
  · subst e1
    rw [if_pos rfl,nY (p:=other) (g:=fH M s i other i) (fun j hj => ?_),if_pos (Nat.lt_trans ho hn)]
    · have p1:ky i (other + 1) i other:=.inr (.inl ⟨rfl,Nat.lt_succ_self _⟩)
      have p2:=(A7 ho).1
      simp only [fH,p1,p2,true_and,false_and,if_false,Int.sub_zero]
    · have:=mw (one:=i) (i:=i) (fun z=>hj z.2) fun z=>Nat.ne_of_gt ho z.2
      simp only [fH,this]
  · rw [if_neg e1]
    by_cases e2:i=other
    · subst e2
      rw [if_pos rfl,nY (p:=one) (g:=fH M s one i i) (fun j hj => ?_),if_pos hn]
      · have p1:ky one (i + 1) i one:=.inr (.inr ⟨rfl,Nat.lt_succ_self _⟩)
        have p2:=(A7 ho).2
        simp only [fH,p1,p2,true_and,false_and,if_false,O.sym i one,Int.sub_zero]
      · have:=mw (i:=i) (other:=i) (fun z=>e1 z.1) fun z=>hj z.1
        simp only [fH,this]
    · rw [if_neg e2,kz n (g:=fH M s one other i) fun j _ => ?_]
      · exact (Int.add_zero _).symm
      · have:=mw (i:=i) (j:=j) (fun z=>e1 z.1) fun z=>e2 z.2
        simp only [fH,this]
theorem LP.skip {n:Nat}{M:Nat→Nat→Int}(O:MOk M){one other:Nat}{T:List Tie}(L:LP n M one other T)(ho:other < one)(hn:one < n)(z:M one other=0):LP n M one (other + 1) T :=
  ⟨L.ok.skip,fun i hi s=>by
    rw [L.pl i hi s,tL O ho hn i s,z]
    split<;>(try split)<;>(try split)<;>omega⟩
theorem LP.put {n:Nat}{M:Nat→Nat→Int}(O:MOk M){one other:Nat}{T:List Tie}(L:LP n M one other T)(ho:other < one)(hn:one < n)(z:0 < M one other):LP n M one (other + 1) (T++[⟨other,one,M one other⟩]):=by
  have b:=O.bd one other
  refine⟨?_,fun i hi s => ?_⟩
  · have:=L.ok.put hn ho (w:=M one other) z b.2 (t:=⟨other,one,M one other⟩) (.inr rfl) T.length
    simpa using this
  · rw [xg,zi,L.pl i hi s,tL O ho hn i s]
    congr 1
    by_cases e1:i=one
    · have f:far i ⟨other,one,M one other⟩ = some other:=by
        unfold far;rw [if_neg (fun z:other=i=>Nat.ne_of_lt ho (z.trans e1)),if_pos e1.symm]
      rw [f,if_pos e1]
      simp only
      rw [gI]
      simp [ee,iD]
    · rw [if_neg e1]
      by_cases e2:i=other
      · have f:far i ⟨other,one,M one other⟩ = some one:=by unfold far;rw [if_pos e2.symm]
        rw [f,if_pos e2]
        simp only
        rw [gI]
        simp [ee,iD]
      · have f:far i ⟨other,one,M one other⟩ = none:=by
          unfold far;rw [if_neg (fun z:other=i=>e2 z.symm),if_neg (fun z:one=i=>e1 z.symm)]
        rw [f,if_neg e2]
        simp [ee,iD]
theorem LP.step {n:Nat}{M:Nat→Nat→Int}(O:MOk M){one:Nat}{T:List Tie}(L:LP n M one one T)(h:one < n)(hn:n≤30):LP n M (one + 1) 0 T :=
  ⟨L.ok.step h hn,fun i hi s=>by
    rw [L.pl i hi s]
    refine kz n fun j _ => ?_
    unfold fH
    by_cases e:i=one∧j=one
    · rw [e.1,e.2,O.no one];split<;>split<;>rfl
    · have:=BZ e
      simp only [this]⟩
structure Md (Z n:Nat) (M:Nat→Nat→Int) (bs:List Int) (ss:List (Option Int)) (bk sk:Nat) (h:Hd):Prop where
  n1:1≤n
  n30:n≤30
  mt:gn Z n M h
  mo:MOk M
  ba:h[bk]? = some (.lst (bs.map .int))
  st:h[sk]? = some (.lst (ss.map bW))
  lb:bs.length=n
  ls:ss.length=n
  os:∀ x∈ss,x=none∨x=some 0∨x=some 1
theorem Md.more {Z n:Nat}{M:Nat→Nat→Int}{bs:List Int}{ss:List (Option Int)}{bk sk:Nat}{h:Hd}(m:Md Z n M bs ss bk sk h)(g:Hd):Md Z n M bs ss bk sk (h++g):=by
  have k:∀ {i:Nat} {x:cm},h[i]? = some x→(h++g)[i]? = some x:=fun {i x} e=>by
    rw [List.getElem?_append_left (List.getElem?_eq_some_iff.mp e).1];exact e
  exact⟨m.n1,m.n30,m.mt.more g,m.mo,k m.ba,k m.st,m.lb,m.ls,m.os⟩
theorem Eh {Z n:Nat}{M:Nat→Nat→Int}{bs:List Int}{ss:List (Option Int)}{bk sk:Nat}{h:Hd}(m:Md Z n M bs ss bk sk h) :
    ∃ T,ei [.tup [.ref (Z + n),.ref bk,.ref sk]] h=.ok (.ref h.length) (h++[.lst (T.map bH)])∧LP n M n 0 T:=by
  have n30:=m.n30
  obtain⟨td,htd⟩ : ∃ td:D,td=.tup [.ref (Z + n),.ref bk,.ref sk]:=⟨_,rfl⟩
  obtain⟨A,hA⟩ : ∃ A,A=h.length:=⟨_,rfl⟩
  have t0:∀ g,fAt (aa 0) (fC (.int 0)) (some td :: g)=fun h=>.ok (.ref (Z + n)) h:=fun g=>by
    funext h;rw [htd]
    exact a4 rfl rfl rfl rfl
  obtain⟨σ',h',k1,T,a,b,k2,k3,k4⟩:=c5 (P:=fun i σ h'=>∃ (T:List Tie) (a b:Option D),σ = [some td,some (.ref A),a,b]∧h'=h++[.lst (T.map bH)]∧LP n M i 0 T) (g:=none) (k:=0)
      (all:=(List.range n).map fun k:Nat=>D.int k) (fun _ _ _ _=>trivial)
      (xs:=(List.range n).map fun k:Nat=>D.int k) (tg:=gN 2) (σ:=[some td,some (.ref A),none,none]) (h:=h++[.lst []]) (b:=kw) (by
      rintro i x σ h0 hx ⟨T,a,b,rfl,hh0,L⟩
      obtain⟨hi,rfl⟩:=cL hx
      rw [Nat.zero_add] at L ⊢
      obtain⟨σ2,h2,j1,T2,b2,j2,j3,j4⟩:=c5 (P:=fun j σ h'=>∃ (T:List Tie) (b:Option D),σ = [some td,some (.ref A),some (.int i),b]∧h'=h++[.lst (T.map bH)]∧LP n M i j T) (g:=none) (k:=0)
          (all:=(List.range i).map fun k:Nat=>D.int k) (fun _ _ _ _=>trivial)
          (xs:=(List.range i).map fun k:Nat=>D.int k) (tg:=gN 3) (σ:=[some td,some (.ref A),some (.int i),b]) (h:=h0) (b:=oU) (by
          rintro j x σ h1 hx ⟨T1,b1,rfl,hh1,L1⟩
          obtain⟨hj,rfl⟩:=cL hx
          rw [Nat.zero_add] at L1 ⊢
          have m1:Md Z n M bs ss bk sk h1:=by rw [hh1];exact m.more _
          have a1:=xi (A:=Z) hi
          have r1:=m1.mt.ro i hi
          have v1:=Ee (M:=M) (n:=n) (i:=i) (j:=j) (Nat.lt_trans hj hi)
          have ti1:=m1.mt.ti
          have cellE:fAt (fAt (fAt (aa 0) (fC (.int 0))) (aa 2)) (aa 3) [some td,some (.ref A),some (.int i),some (.int j)] h1=.ok (.int (M i j)) h1:=by
            have e0:=congrFun (t0 [some (.ref A),some (.int i),some (.int j)]) h1
            exact a4 (a4 e0 rfl (aZ ti1) a1) rfl (aZ r1) v1
          have gA:h1[A]? = some (.lst (T1.map bH)):=by rw [hh1];exact gG hA _
          have tz:(T1.map bH).length < SZ:=by rw [List.length_map];exact Nat.lt_trans (few L1.ok.len hi n30 hj) (by decide)
          have tt:tE (af oGt (fAt (fAt (fAt (aa 0) (fC (.int 0))) (aa 2)) (aa 3)) (fC (.int 0))) [some td,some (.ref A),some (.int i),some (.int j)] h1=.ok (decide (0 < M i j)) h1:=by
            exact bu (ak cellE rfl rfl)
          by_cases c:0 < M i j
          · refine⟨_,rfl,[some td,some (.ref A),some (.int i),some (.int j)],h++[.lst ((T1++[(⟨j,i,M i j⟩ : Tie)]).map bH)],?_,T1++[(⟨j,i,M i j⟩ : Tie)],_,rfl,rfl,L1.put m.mo hj hi c⟩
            rw [decide_eq_true c] at tt
            show sIf _ _ _ [some td,some (.ref A),some (.int i),some (.int j)] h1=_
            rw [JL tt]
            have st:h1.set A (.lst (T1.map bH++[.tup [.int j,.int i,.int (M i j)]]))=h++[.lst ((T1++[(⟨j,i,M i j⟩ : Tie)]).map bH)]:=by rw [hh1,uG hA,List.map_append];rfl
            rw [← st]
            exact oO (zc rfl gA (iC (ag rfl (ag rfl (ag cellE rfl)))) gA tz)
          · have z:M i j=0:=Int.le_antisymm (Int.not_lt.mp c) (m.mo.bd i j).1
            refine⟨_,rfl,[some td,some (.ref A),some (.int i),some (.int j)],h1,?_,T1,_,rfl,hh1,L1.skip m.mo hj hi z⟩
            rw [decide_eq_false c] at tt
            show sIf _ _ _ [some td,some (.ref A),some (.int i),some (.int j)] h1=_
            rw [F3 tt];rfl) ⟨T,b,rfl,hh0,L⟩
      have e0:0 + ((List.range i).map fun k:Nat=>D.int k).length=i:=by simp
      rw [e0] at j4
      refine⟨_,rfl,[some td,some (.ref A),some (.int i),b2],h2,?_,T2,_,_,rfl,j3,j4.step m.mo hi n30⟩
      show eC _ _ _ [some td,some (.ref A),some (.int i),b] h0=_
      exact (fB (bR rfl (Nat.le_trans (Nat.le_of_lt hi) (jt n30))) j1).trans (by rw [j2])) ⟨[],none,none,rfl,rfl,⟨⟨by simp,by simp,by simp,by simp,List.Pairwise.nil,by simp⟩,fun i hi s=>by
        have:∀ k,jw (fH M s 0 0 i) k=0:=fun k=>by
          induction k with
          | zero=>rfl
          | succ k ih =>
            rw [jw,ih]
            have : ¬ ky 0 0 i k:=by unfold ky;omega
            simp [fH,this]
        rw [this];rfl⟩⟩
  have e0:0 + ((List.range n).map fun k:Nat=>D.int k).length=n:=by simp
  rw [e0] at k4
  refine⟨T,?_,k4⟩
  have s1:aC (gN 1) (aL ao) [some td,none,none,none] h=.nx [some td,some (.ref A),none,none] (h++[.lst []]):=aG (gH hA rfl (Nat.zero_le _))
  have b1:=(m.more [.lst []]).ba
  have ln:dE (lOf (fAt (aa 0) (fC (.int 1)))) [some td,some (.ref A),none,none] (h++[.lst []])=.ok (.int n) (h++[.lst []]):=by
    rw [htd]
    exact (gi (cI (a4 rfl rfl rfl rfl) (aZ b1))).trans (by rw [List.length_map,m.lb])
  have s2:eC (aV (dE (lOf (fAt (aa 0) (fC (.int 1)))))) (gN 2) kw [some td,some (.ref A),none,none] (h++[.lst []])=.nx [some td,some (.ref A),a,b] (h++[.lst (T.map bH)]):=by
    rw [k2,k3] at k1
    exact fB (bR ln (jt n30)) k1
  have s3:bo (aa 1) [some td,some (.ref A),a,b] (h++[.lst (T.map bH)])=.rt (.ref A) (h++[.lst (T.map bH)]):=bP rfl
  have st:([td].map some++List.replicate (4 - [td].length) none:Sd)=[some td,none,none,none]:=rfl
  rw [← htd]
  unfold ei bF runB
  rw [if_pos (by rfl),st,aH s1,aH s2,s3,← hA]
  exact cU
end Fm
set_option linter.all false
namespace Fm
section
variable {Z n:Nat} {M:Nat→Nat→Int} {bs:List Int} {ss:List (Option Int)} {bk sk:Nat} {h:Hd}
theorem F7 (m:Md Z n M bs ss bk sk h){T:List Tie}(q:ei [.tup [.ref (Z + n),.ref bk,.ref sk]] h=.ok (.ref h.length) (h++[.lst (T.map bH)]))(L:LP n M n 0 T) :
    ic [.tup [.ref (Z + n),.ref bk,.ref sk]] h=.ok (bg n T bs ss).enc h:=by
  have n30:=m.n30
  obtain⟨td,htd⟩ : ∃ td:D,td=.tup [.ref (Z + n),.ref bk,.ref sk]:=⟨_,rfl⟩
  have f1:∀ g,fAt (aa 0) (fC (.int 1)) [some td] g=.ok (.ref bk) g:=fun g=>by
    rw [htd];exact (a4 rfl rfl rfl rfl)
  have f2:∀ g,fAt (aa 0) (fC (.int 2)) [some td] g=.ok (.ref sk) g:=fun g=>by
    rw [htd];exact (a4 rfl rfl rfl rfl)
  obtain⟨h1,hh1⟩ : ∃ h1,h1=h++[cm.lst (T.map bH)]:=⟨_,rfl⟩
  have m1:Md Z n M bs ss bk sk h1:=by rw [hh1];exact m.more _
  obtain⟨h2,hh2⟩ : ∃ h2,h2=h1++[cm.lst (bs.map .int)]:=⟨_,rfl⟩
  have m2:Md Z n M bs ss bk sk h2:=by rw [hh2];exact m1.more _
  obtain⟨h3,hh3⟩ : ∃ h3,h3=h2++[cm.lst (ss.map bW)]:=⟨_,rfl⟩
  have old1:∀ {k:Nat} {x:cm},h1[k]? = some x→h3[k]? = some x:=fun {k x} e=>by
    have z:=(List.getElem?_eq_some_iff.mp e).1
    rw [hh3,hh2,List.append_assoc,List.getElem?_append_left z];exact e
  have g1:h3[h.length]? = some (.lst (T.map bH)):=old1 (by rw [hh1];simp)
  have g2:h3[h1.length]? = some (.lst (bs.map .int)):=by rw [hh3,hh2];exact cW _ List.getElem?_concat_length
  have g3:h3[h2.length]? = some (.lst (ss.map bW)):=by rw [hh3];simp
  have wq:=tI m.n1 n30 L.ok m.lb m.ls m.os g1 g2 g3
  have lb:(bs.map D.int).length≤SZ:=by rw [List.length_map,m.lb];exact (jt n30)
  have ls:(ss.map bW).length≤SZ:=by rw [List.length_map,m.ls];exact (jt n30)
  have ba:=m.ba
  have ba1:=m1.ba
  have st2:=m2.st
  rw [← htd,← hh1] at q
  have r:aq dA (ad (dE (lOf (fAt (aa 0) (fC (.int 1))))) (ad (aq ei (ad (aa 0) ao)) (ad (aL (lOf (fAt (aa 0) (fC (.int 1))))) (ad (aL (lOf (fAt (aa 0) (fC (.int 2))))) ao)))) [some td] h=.ok (bg n T bs ss).enc h3:=by
    have e1:aL (lOf (fAt (aa 0) (fC (.int 1)))) [some td] h1=.ok (.ref h1.length) h2:=by rw [hh2];exact gh (cI (f1 _) (aZ ba1)) lb
    have e2:aL (lOf (fAt (aa 0) (fC (.int 2)))) [some td] h2=.ok (.ref h2.length) h3:=by rw [hh3];exact gh (cI (f2 _) (aZ st2)) ls
    have e3:dE (lOf (fAt (aa 0) (fC (.int 1)))) [some td] h=.ok (.int n) h:=by
      have:=gi (cI (f1 h) (aZ ba))
      rwa [List.length_map,m.lb] at this
    exact aw (ag e3 (ag (aw (ag rfl rfl) q) (ag e1 (ag e2 rfl)))) wq
  have fin:letGo h (.ok (bg n T bs ss).enc h3)=.ok (bg n T bs ss).enc h:=by
    rw [hh3,hh2,hh1,List.append_assoc,List.append_assoc];exact dy (lf _)
  rw [← htd]
  unfold ic bF runB
  rw [if_pos (by rfl)]
  show letGo h (match outE (aq dA _ [some td] h) _ _ with | .nx _ h=>_ | .rt d h=>_ | .exc x _ h=>_|_=>_)=_
  rw [r]
  exact fin
end
end Fm
set_option linter.all false
namespace Fm
theorem tM {x:Nat × Int}:∀ {r:List (Nat × Int)},(∀ p∈r,p.1≠x.1)→r.Pairwise (fun a b=>a.1 < b.1)→(kt x r).Pairwise (fun a b=>a.1 < b.1)
  | [],_,_=>by simp [kt]
  | y :: r,hne,hp=>by
    obtain⟨h1,h2⟩:=List.pairwise_cons.mp hp
    have hy:=hne y (by simp)
    have ih:=tM (x:=x) (r:=r) (fun p hp=>hne p (by simp [hp])) h2
    have e:bN (lh x) (lh y)=decide (x.1 < y.1):=by
      simp only [lh,bN]
      rw [if_neg (by omega)]
      simp
    simp only [kt]
    split
    · rename_i c
      rw [e,decide_eq_true_eq] at c
      refine List.pairwise_cons.mpr ⟨fun b hb => ?_,hp⟩
      rcases List.mem_cons.mp hb with z|hb
      · rw [z];exact c
      · exact Nat.lt_trans c (h1 b hb)
    · rename_i c
      rw [e,decide_eq_true_eq] at c
      refine List.pairwise_cons.mpr ⟨fun b hb => ?_,ih⟩
      rcases oQ.mp hb with z|hb
      · rw [z];omega
      · exact h1 b hb
theorem gp:∀ {r:List (Nat × Int)},(r.map (·.1)).Nodup→(bc r).Pairwise (fun a b=>a.1 < b.1)
  | [],_=>by simp [bc]
  | x :: r,nd=>by
    rw [List.map_cons,List.nodup_cons] at nd
    refine tM (fun p hp e=>nd.1 ?_) (gp nd.2)
    rw [← e]
    exact List.mem_map.mpr ⟨p,cr.mp hp,rfl⟩
theorem A8:∀ {a b:List (Nat × Int)},a.Pairwise (fun a b=>a.1 < b.1)→b.Pairwise (fun a b=>a.1 < b.1)→(∀ p,p∈a ↔ p∈b)→a=b
  | [],[],_,_,_=>rfl
  | [],y :: b,_,_,h=>absurd ((h y).mpr (by simp)) (by simp)
  | x :: a,[],_,_,h=>absurd ((h x).mp (by simp)) (by simp)
  | x :: a,y :: b,ha,hb,h=>by
    obtain⟨a1,a2⟩:=List.pairwise_cons.mp ha
    obtain⟨b1,b2⟩:=List.pairwise_cons.mp hb
    have e:x=y:=by
      rcases List.mem_cons.mp ((h x).mp (by simp)) with e|e
      · exact e
      · rcases List.mem_cons.mp ((h y).mpr (by simp)) with e2|e2
        · exact e2.symm
        · have q1:=b1 x e
          have q2:=a1 y e2
          omega
    subst e
    have t:=A8 a2 b2 fun p=>⟨fun hp=>by
      rcases List.mem_cons.mp ((h p).mp (by simp [hp])) with e|e
      · subst e;exact absurd (a1 p hp) (Nat.lt_irrefl _)
      · exact e,fun hp=>by
      rcases List.mem_cons.mp ((h p).mpr (by simp [hp])) with e|e
      · subst e;exact absurd (b1 p hp) (Nat.lt_irrefl _)
      · exact e⟩
    rw [t]
theorem zj {a b:List (Nat × Int)}(na:(a.map (·.1)).Nodup)(nb:(b.map (·.1)).Nodup)(h:∀ p,p∈a ↔ p∈b):bc a=bc b :=
  A8 (gp na) (gp nb) fun p=>by rw [cr,cr];exact h p
theorem uK {T:List Tie}{i:Nat}{p:Nat × Int}:p∈nbs T i ↔ ∃ t∈T,far i t=some p.1∧t.w=p.2:=by
  unfold nbs
  rw [List.mem_filterMap]
  constructor
  · rintro⟨t,ht,q⟩
    cases e:far i t with
    | none=>rw [e] at q;cases q
    | some j=>rw [e] at q;simp at q;subst q;exact⟨t,ht,e,rfl⟩
  · rintro⟨t,ht,q1,q2⟩
    exact⟨t,ht,by rw [q1,q2];rfl⟩
theorem mx:∀ r:List (Nat × Int),(bc r).length=r.length:=fun r=>by
  have:=tF (fun _=>1) r
  have q:∀ l:List (Nat × Int),(l.map fun _=>(1:Int)).sum=l.length:=fun l=>by
    induction l with
    | nil=>rfl
    | cons x l ih=>simp only [List.map_cons,List.sum_cons,ih,List.length_cons];omega
  rw [q,q] at this
  omega
theorem A9 {n:Nat}{T:List Tie}(lt:∀ t∈T,t.a < n∧t.b < n)(un:T.Pairwise gl)(i:Nat):(nbs T i).length≤n:=by
  have:=Eb (mn un i) (n:=n) fun x hx=>by
    obtain⟨p,hp,rfl⟩:=List.mem_map.mp hx
    exact oS lt p hp
  simpa using this
end Fm
set_option linter.all false
namespace Fm
noncomputable def fM:Fn:=bF 1 1 (bo (aL (lOf (fAt (aa 0) (fC (.int 1))))))
noncomputable abbrev fD:SF:=(kO (wW (aa 2) (aT 2 [3,1] (cS (aq cJ (ad (aa 0) (ad (aa 3) ao)))) (gT [0,1]) [] (eB (ad (aa 2) (ad (af bA (aa 3) (aa 0)) (ad (af bh (fC (.int 2)) (aa 1)) ao)))))))
noncomputable def bY:Fn:=bF 1 4 (av (aC (gN 1) (aq bi (ad (aa 0) ao)))
    (av (aC (gN 2) (aL (aT 1 [1] (aV (aa 1)) (gN 0) [] (eB (ad (aa 0) (ad (af bA (aa 1) (aa 0)) (ad (fC (.int 1)) ao)))))))
    (av (eC (aV (aa 1)) (gN 3) fD)
    (bo (aa 2)))))
noncomputable def jx:Fn:=bF 1 2 (av (aC (gN 1) (af fI (dE (lOf (aa 0))) (fC (.int 2))))
    (bo (eB (ad (gO (aa 0) pNo (pAt (aa 1))) (ad (gO (aa 0) (pAt (aa 1)) pNo) ao)))))
noncomputable def iF:Fn:=bF 2 2 (bo (af AV (aa 0) (aa 1)))
noncomputable def ie:Fn:=bF 1 2 (av (sIf (tE (af l4 (aa 0) (fC .non))) (bo (aL ao)) bB)
    (av (aC (gN 1) (aL (ad (eM [("TooMuch",false)] (aa 0)) (ad (eM [("TooMuch",false)] (aa 0)) (ad (eM [("TooMuch",true)] (aa 0)) ao)))))
    (av (aC (gN 1) (aL (cQ (aa 1) (aL (ad (eM [("TooMuch",false)] (aa 0)) (ad (eM [("TooMuch",false)] (aa 0)) (ad (eM [("TooMuch",false)] (aa 0)) ao)))))))
    (av (aC (gN 1) (aL (cQ (aa 1) (aL (ad (eM [("TooMuch",false)] (aa 0)) (ad (eM [("TooMuch",false)] (aa 0)) (ad (eM [("TooMuch",false)] (aa 0)) ao)))))))
    (bo (aL (cQ (aa 1) (aL (ad (eM [("TooMuch",true)] (aa 0)) ao)))))))))
noncomputable def lp:Fn:=bF 1 1 (bo (aL (cQ (aL (aT 1 [0] (aV (fC (.int 9))) (gN 0) [] (af oEq (aa 0) (aa 1)))) (aL (ad (fC (.bl true)) ao)))))
noncomputable abbrev jy:SF:=(sIf (tE (af oGt (fAt (fAt (aa 1) (aa 6)) (aa 7)) (fC (.int 0)))) (av (gf (fAt (aa 5) (aa 6)) (af bA (aa 7) (aa 4)) (af bh (fC (.int 2)) (fAt (fAt (aa 1) (aa 6)) (aa 7))))
    (gf (fAt (aa 5) (af bA (aa 6) (aa 4))) (aa 7) (af bh (fC (.int 2)) (fAt (fAt (aa 1) (aa 6)) (aa 7))))) bB)
noncomputable abbrev jz:SF:=(av (gf (fAt (aa 5) (aa 6)) (af bA (aa 6) (aa 4)) (fC (.int 1)))
    (av (gf (fAt (aa 5) (af bA (aa 6) (aa 4))) (aa 6) (fC (.int 1)))
    (eC (aV (aa 4)) (gN 7) jy)))
noncomputable def eU:Fn:=bF 1 9 (av (aC (gT [1,2,3]) (aa 0))
    (av (aC (gN 4) (dE (lOf (aa 2))))
    (av (aC (gN 5) (aL (aT 1 [] (aV (af bh (fC (.int 2)) (aa 4))) (gN 0) [] mZ)))
    (av (eC (aV (aa 4)) (gN 6) jz)
    (av (aC (gN 8) (cC (aT 1 [] (cS (aa 5)) (gN 0) [] (cC (aT 1 [0] (cS (aL (jq (aa 0)))) (gN 0) [] (eB (ad (aa 0) (ad (w6 (aa 1) (aa 0)) ao))))))))
    (bo (eB (ad (aa 8) (ad (cC (aT 1 [] (BE (cQ (aa 2) (aa 2))) (gN 0) [] (af bA (af bh (fC (.int 2)) (aa 0)) (fC (.int 1))))) (ad (cC (cQ (aa 3) (aa 3))) ao))))))))))
noncomputable def cB:Fn:=bF 1 2 (av (oG (tE (af oGt (aq bi (ad (aa 0) ao)) (fC (.int 15)))) (jn "TooMuch") bB)
    (oH (aV (aq bi (ad (aa 0) ao))) (gN 1) (oG (tE (D1 (aT 2 [] (cS (aq cJ (ad (aa 0) (ad (aa 1) ao)))) (gT [0,1]) [] (af oGt (aa 1) (fC (.int 200)))))) (jn "TooMuch") bB)))
noncomputable def eg:Fn:=bF 1 3 (av (kO (aq cB (fPl (ad (aa 0) ao))))
    (av (sPl (aC (gN 1) (aL (aT 1 [] (cS (aq fM (ad (aa 0) ao))) (gN 0) [] (af bA (af bh (fC (.int 2)) (aa 0)) (fC (.int 1)))))))
    (av (sPl (aC (gN 2) (aq eT (ad (aa 0) ao))))
    (sPl (bo (aq dA (ad (af bh (fC (.int 2)) (aq bi (ad (aa 0) ao))) (ad (aq bY (ad (aa 0) ao)) (ad (aL (cQ (aa 1) (aa 1))) (ad (aL (cQ (aa 2) (aa 2))) ao))))))))))
noncomputable def fN:Fn:=bF 1 4 (av (aC (gN 1) (fC .non))
    (av (aC (gN 2) (fC .non))
    (av (uC 4 1 ["TooMuch"] (aC (gN 2) (aq eg (fPl (ad (aa 0) ao)))))
    (av (sIf (tE (af l4 (aa 1) (fC .non))) (bo (aL (ad (aa 2) ao))) bB)
    (bo (aq ie (ad (aa 1) ao)))))))
noncomputable abbrev oV:SF:=(sIf (tOr (dU (tE (cN .tuple (aa 2)))) (tOr (tE (cN .bool (fAt (aa 2) (fC (.int 1))))) (dU (tE (cN .int (fAt (aa 2) (fC (.int 1)))))))) (bo (fC (.bl false))) bB)
noncomputable abbrev kA:SF:=(eC (cS (aa 1)) (gN 2) oV)
noncomputable def ig:Fn:=bF 1 3 (av (eC (cS (fAt (aa 0) (fC (.int 0)))) (gN 1) kA)
    (bo (fT (n8 (tE (cN .tuple (aa 0))) (tE (af oEq (aL (aT 1 [] (cS (aa 0)) (gN 0) [(dU (tE (cN .tuple (aa 0))))] (aa 0))) (aL ao)))))))
noncomputable abbrev Ei:SF:=(aC (gN 1) (aq aS (ad (aa 0) (ad (fC (.int 0)) ao))))
noncomputable abbrev Ej:SF:=(aC (gN 2) (aq fL (ad (aa 0) (ad (fIx (ad (fC (.int 7)) (ad (fC (.int 17)) ao)) (Dk (af oEq (af ck (af fI (aa 1) (fC (.int 1024))) (fC (.int 8))) (fC (.int 3))))) ao))))
noncomputable abbrev Ek:SF:=(aC (gN 3) (aq ic (ad (aa 2) ao)))
noncomputable abbrev El:SF:=(aC (gN 4) (tf (aa 3)))
noncomputable abbrev Em:SF:=(aC (gN 5) (fT (tOr (tE (af oGt (dE (lOf (fAt (aa 2) (fC (.int 1))))) (fC (.int 15)))) (tE (af oGt (oM (aT 1 [] (cS (fAt (aa 2) (fC (.int 0)))) (gN 0) [] (oM (lOf (aa 0))))) (fC (.int 200)))))))
noncomputable abbrev uL:SF:=(aC (gN 6) (aq fN (ad (aa 3) ao)))
noncomputable abbrev uM:SF:=(sIf (tE (aa 5)) (bo (fT (n8 (tE (af oEq (aa 6) (aq lp (ad (fC (.int 2)) ao)))) (tE (af oEq (tf (aa 3)) (aa 4)))))) bB)
noncomputable abbrev zk:SF:=(sIf (tOr (tE (af oNe (aa 6) (aL (ad (aq eU (ad (aa 2) ao)) ao)))) (tOr (dU (tE (aq ig (ad (fAt (aa 6) (fC (.int 0))) ao)))) (tE (af oNe (tf (aa 3)) (aa 4))))) (bo (fC (.bl false))) bB)
noncomputable abbrev zl:SF:=(aC (gN 7) (cC (lOf (aq cj (ad (aq aS (ad (aa 0) (ad (fC (.int 4)) ao))) (ad (aa 1) (ad (af bh (fC (.int 2)) (dE (lOf (fAt (aa 2) (fC (.int 1)))))) (ad (fC (.int 2)) ao))))))))
noncomputable abbrev zm:SF:=(aC (gN 8) (aq jx (ad (aa 7) ao)))
noncomputable abbrev uN:SF:=(sIf (tOr (dU (tE (cN .tuple (aa 8)))) (tE (af oNe (aa 8) (eB (ad (gO (aa 7) pNo (pAt (af fI (dE (lOf (aa 7))) (fC (.int 2))))) (ad (gO (aa 7) (pAt (af fI (dE (lOf (aa 7))) (fC (.int 2)))) pNo) ao)))))) (bo (fC (.bl false))) bB)
noncomputable abbrev uO:SF:=(bo (fT (n8 (tE (af oEq (aq iF (ad (fAt (aa 8) (fC (.int 0))) (ad (fAt (aa 8) (fC (.int 1))) ao))) (aa 7))) (tE (cN .tuple (aq iF (ad (fAt (aa 8) (fC (.int 1))) (ad (fAt (aa 8) (fC (.int 0))) ao))))))))
noncomputable def xk:Fn:=bF 1 9 (av Ei (av Ej (av Ek (av El (av Em (av uL (av uM (av zk (av zl (av zm (av uN uO)))))))))))
end Fm
set_option linter.all false
namespace Fm
theorem zn {j:Nat}:∀ {r:List (Nat × Int)},(∀ p∈r,p.1≠j)→(r.map fun p=>if p.1=j then p.2 else 0).sum=0
  | [],_=>rfl
  | p :: r,h=>by
    rw [List.map_cons,List.sum_cons,zn fun q hq=>h q (List.mem_cons_of_mem _ hq),if_neg (h p List.mem_cons_self)];rfl
theorem zo {j:Nat}{v:Int}:∀ {r:List (Nat × Int)},(r.map (·.1)).Nodup→(j,v)∈r→(r.map fun p=>if p.1=j then p.2 else 0).sum=v
  | [],_,h=>by cases h
  | p :: r,nd,h=>by
    rw [List.map_cons] at nd
    obtain⟨n1,n2⟩:=List.nodup_cons.mp nd
    rw [List.map_cons,List.sum_cons]
    rcases List.mem_cons.mp h with e|h
    · subst e
      rw [if_pos rfl,zn fun q hq z=>n1 (List.mem_map.mpr ⟨q,hq,z⟩)]
      exact Int.add_zero _
    · rw [if_neg fun z=>n1 (List.mem_map.mpr ⟨_,h,z.symm⟩),zo n2 h];exact Int.zero_add _
def Ba (n j:Nat):List Int:=(List.range n).map fun k=>if k=j then 1 else 0
theorem jR (n j k:Nat):(Ba n j).getD k 0=if k < n∧k=j then 1 else 0:=by
  unfold Ba
  rw [List.getD_eq_getElem?_getD,List.getElem?_map]
  by_cases h:k < n
  · rw [List.getElem?_range h]
    by_cases e:k=j
    · rw [if_pos ⟨h,e⟩];simp [e]
    · rw [if_neg (fun z=>e z.2)];simp [e]
  · rw [List.getElem?_eq_none (by rw [List.length_range];omega),if_neg (fun z=>h z.1)];rfl
theorem Eo:∀ n,jw (fun _=>0) n=0
  | 0=>rfl
  | n + 1=>by rw [jw,Eo n];rfl
theorem gJ {n:Nat}{M:Nat→Nat→Int}{T:List Tie}(L:LP n M n 0 T){i j:Nat}{v:Int}(hi:i < n):(j,v)∈nbs T i ↔ j < n∧M i j=v∧0 < v:=by
  have key:j < n→((nbs T i).map fun p=>if p.1=j then p.2 else 0).sum=M i j:=fun hj=>by
    have e:=L.pl i hi (Ba n j)
    rw [oR] at e
    have e1:((nbs T i).map fun p=>if (Ba n j).getD p.1 0=1 then p.2 else 0)=(nbs T i).map fun p=>if p.1=j then p.2 else 0:=List.map_congr_left fun p hp=>by
      have hp:=oS L.ok.lt p hp
      by_cases c:p.1=j
      · rw [if_pos c,if_pos (by rw [jR,if_pos ⟨hp,c⟩])]
      · rw [if_neg c,if_neg (by rw [jR,if_neg (fun z=>c z.2)];decide)]
    rw [e1] at e
    rw [e,nY (p:=j) (g:=fun _=>0) (fun k hk => ?_) n,if_pos hj,Eo]
    · unfold fH
      rw [if_pos ⟨.inl ⟨hi,hj⟩,by rw [jR,if_pos ⟨hj,rfl⟩]⟩]
      omega
    · unfold fH
      rw [if_neg]
      rintro⟨_,z⟩
      rw [jR,if_neg fun z=>hk z.2] at z
      exact absurd z (by decide)
  constructor
  · intro h
    have hj:=oS L.ok.lt _ h
    obtain⟨t,ht,_,q⟩:=uK.mp h
    have w:=L.ok.wt t ht
    exact⟨hj,(key hj).symm.trans (zo (mn L.ok.un i) h),by rw [q] at w;exact Int.lt_of_lt_of_le (by decide) w.1⟩
  · rintro⟨hj,e,p⟩
    by_cases c:∃ w,(j,w)∈nbs T i
    · obtain⟨w,hw⟩:=c
      have:=(key hj).symm.trans (zo (mn L.ok.un i) hw)
      rw [← e,this];exact hw
    · have:=(key hj).symm.trans (zn fun p hp z=>c ⟨p.2,by rw [← z];exact hp⟩)
      omega
def lq (n p:Nat) (r:List (Nat × Int)):List Tie:=r.map fun q=>⟨p,n + q.1,2 * q.2⟩
def kB (n:Nat):List Tie:=(List.range n).map fun p=>⟨p,n + p,1⟩
def cE (n:Nat) (T:List Tie) (k:Nat):List Tie:=kB n++(List.range k).flatMap fun p=>lq n p (bc (nbs T p))
theorem oW (n:Nat)(T:List Tie)(k:Nat):cE n T (k + 1)=cE n T k++lq n k (bc (nbs T k)):=by
  unfold cE
  rw [List.range_succ,List.flatMap_append,List.append_assoc]
  congr 2
  simp
theorem ek {n:Nat}{T:List Tie}{k:Nat}{t:Tie}:t∈cE n T k ↔ (∃ p,p < n∧t=⟨p,n + p,1⟩) ∨ ∃ p q,p < k∧q∈nbs T p∧t=⟨p,n + q.1,2 * q.2⟩:=by
  unfold cE kB lq
  rw [List.mem_append,List.mem_map,List.mem_flatMap]
  constructor
  · rintro (⟨p,hp,rfl⟩|⟨p,hp,h⟩)
    · exact .inl ⟨p,List.mem_range.mp hp,rfl⟩
    · obtain⟨q,hq,rfl⟩:=List.mem_map.mp h
      exact .inr ⟨p,q,List.mem_range.mp hp,cr.mp hq,rfl⟩
  · rintro (⟨p,hp,rfl⟩|⟨p,q,hp,hq,rfl⟩)
    · exact .inl ⟨p,List.mem_range.mpr hp,rfl⟩
    · exact .inr ⟨p,List.mem_range.mpr hp,List.mem_map.mpr ⟨q,cr.mpr hq,rfl⟩⟩
theorem xl {f:Nat→List Tie}{m:Nat}:∀ l:List Nat,(∀ p∈l,(f p).length≤m)→(l.flatMap f).length≤m * l.length
  | [],_=>Nat.le_refl _
  | p :: l,h=>by
    have a:=h p List.mem_cons_self
    have b:=xl l fun q hq=>h q (List.mem_cons_of_mem _ hq)
    rw [List.flatMap_cons,List.length_append,List.length_cons,Nat.mul_succ]
    omega
theorem tN {n:Nat}{M:Nat→Nat→Int}{T:List Tie}(L:LP n M n 0 T){k:Nat}(hk:k≤n):(cE n T k).length≤n + n * n:=by
  have a:((List.range k).flatMap fun p=>lq n p (bc (nbs T p))).length≤n * (List.range k).length:=xl _ fun p _=>by
    unfold lq
    rw [List.length_map,mx]
    exact A9 L.ok.lt L.ok.un p
  rw [List.length_range] at a
  have b:=Nat.mul_le_mul_left n hk
  unfold cE kB
  rw [List.length_append,List.length_map,List.length_range]
  omega
theorem Bb {s t:Tie}{n:Nat}(h1:s.a < n)(h2:n≤t.b)(h3 : ¬ (s.a=t.a∧s.b=t.b)):gl s t:=⟨h3,fun z=>absurd (z.1 ▸ h1) (Nat.not_lt.mpr h2)⟩
theorem xm {n:Nat}(n1:1≤n)(n15:n≤15){M:Nat→Nat→Int}(O:MOk M)(w2:∀ i j,i < n→j < n→M i j≤200){T:List Tie}(L:LP n M n 0 T):TOk (2 * n) (2 * n) 0 (cE n T n):=by
  have lt:∀ t∈cE n T n,t.a < n∧n≤t.b∧t.b < 2 * n:=fun t ht=>by
    rcases ek.mp ht with ⟨p,hp,rfl⟩|⟨p,q,hp,hq,rfl⟩
    · exact⟨hp,Nat.le_add_right _ _,by show n + p < 2 * n;omega⟩
    · have:=oS L.ok.lt q hq
      exact⟨hp,Nat.le_add_right _ _,by show n + q.1 < 2 * n;omega⟩
  refine⟨fun t ht => ?_,fun t ht => ?_,fun t ht => ?_,fun t ht => ?_,?_,?_⟩
  · have:=lt t ht;omega
  · have:=lt t ht;omega
  · rcases ek.mp ht with ⟨p,hp,rfl⟩|⟨p,q,hp,hq,rfl⟩
    · exact⟨by show (1:Int)≤1;decide,by show (1:Int)≤400;decide⟩
    · have:=(gJ L hp).mp (show (q.1,q.2)∈nbs T p from hq)
      have b:=w2 p q.1 hp this.1
      rw [this.2.1] at b
      exact⟨by show 1≤2 * q.2;omega,by show 2 * q.2≤400;omega⟩
  · have:=lt t ht
    exact .inl ⟨by omega,by omega⟩
  · unfold cE
    refine List.pairwise_append.mpr ⟨?_,?_,fun s hs t ht => ?_⟩
    · unfold kB
      rw [List.pairwise_map]
      refine List.Pairwise.imp_of_mem (R:=fun a b:Nat=>a < b) (fun {a b} ha hb h=>Bb (n:=n) (List.mem_range.mp ha) (Nat.le_add_right _ _) fun z=>Nat.ne_of_lt h z.1) List.pairwise_lt_range
    · rw [List.pairwise_flatMap]
      refine⟨fun p hp => ?_,?_⟩
      · unfold lq
        rw [List.pairwise_map]
        exact (gp (mn L.ok.un p)).imp fun {a b} h=>Bb (n:=n) (List.mem_range.mp hp) (Nat.le_add_right _ _) fun z=>absurd (Nat.add_left_cancel z.2) (Nat.ne_of_lt h)
      · refine List.Pairwise.imp_of_mem (R:=fun a b:Nat=>a < b) (fun {a b} ha hb h s hs t ht => ?_) List.pairwise_lt_range
        obtain⟨q,hq,rfl⟩:=List.mem_map.mp hs
        obtain⟨q',hq',rfl⟩:=List.mem_map.mp ht
        exact Bb (n:=n) (List.mem_range.mp ha) (Nat.le_add_right _ _) fun z=>Nat.ne_of_lt h z.1
    · obtain⟨p,hp,rfl⟩:=List.mem_map.mp hs
      obtain⟨p',hp',ht⟩:=List.mem_flatMap.mp ht
      obtain⟨q,hq,rfl⟩:=List.mem_map.mp ht
      have hp:=List.mem_range.mp hp
      have hp':=List.mem_range.mp hp'
      refine Bb (n:=n) hp (Nat.le_add_right _ _) fun z => ?_
      have z1:p=p':=z.1
      have z2:p=q.1:=Nat.add_left_cancel z.2
      have:=(gJ L hp').mp (show (q.1,q.2)∈nbs T p' from cr.mp hq)
      rw [← z2,← z1,O.no p] at this
      omega
  · have a:=tN L (Nat.le_refl n)
    have b:=Nat.mul_le_mul_left n n15
    omega
def jA (n:Nat) (M:Nat→Nat→Int) (i k:Nat):List (Nat × Int):=(i,1) :: ((List.range k).filter fun o=>decide (0 < M i o)).map fun o=>(o,2 * M i o)
def eV (n:Nat) (r:List (Nat × Int)):List (Nat × Int):=r.map fun p=>(p.1 + n,p.2)
def my (n:Nat) (M:Nat→Nat→Int) (i:Nat):List (Nat × Int):=if i < n then eV n (jA n M i n) else jA n M (i - n) n
theorem jB {n:Nat}{M:Nat→Nat→Int}{i k j:Nat}{v:Int}:(j,v)∈jA n M i k ↔ (j=i∧v=1)∨(j < k∧0 < M i j∧v=2 * M i j):=by
  unfold jA
  rw [List.mem_cons,List.mem_map]
  constructor
  · rintro (e|⟨o,ho,e⟩)
    · cases e;exact .inl ⟨rfl,rfl⟩
    · obtain⟨a,b⟩:=List.mem_filter.mp ho
      cases e
      exact .inr ⟨List.mem_range.mp a,of_decide_eq_true b,rfl⟩
  · rintro (⟨rfl,rfl⟩|⟨a,b,rfl⟩)
    · exact .inl rfl
    · exact .inr ⟨j,List.mem_filter.mpr ⟨List.mem_range.mpr a,decide_eq_true b⟩,rfl⟩
theorem Bc {n:Nat}{M:Nat→Nat→Int}(O:MOk M)(i k:Nat):((jA n M i k).map (·.1)).Nodup:=by
  unfold jA
  rw [List.map_cons,List.map_map,List.nodup_cons]
  refine⟨fun z => ?_,?_⟩
  · obtain⟨o,ho,e⟩:=List.mem_map.mp z
    have e:o=i:=e
    have:=of_decide_eq_true (List.mem_filter.mp ho).2
    rw [e,O.no i] at this
    exact absurd this (by decide)
  · have:((fun x:Nat × Int=>x.1) ∘ fun o=>(o,2 * M i o))=id:=rfl
    rw [this,List.map_id]
    exact List.nodup_range.filter _
theorem B0 {n:Nat}{r:List (Nat × Int)}(h:(r.map (·.1)).Nodup):((eV n r).map (·.1)).Nodup:=by
  unfold eV
  rw [List.nodup_iff_pairwise_ne,List.pairwise_map] at h
  rw [List.map_map,List.nodup_iff_pairwise_ne,List.pairwise_map]
  exact h.imp fun {a b} h z=>h (Nat.add_right_cancel z)
theorem Bd {n:Nat}{M:Nat→Nat→Int}(O:MOk M)(i:Nat):((my n M i).map (·.1)).Nodup:=by
  unfold my
  split
  · exact B0 (Bc O _ _)
  · exact Bc O _ _
theorem nj {n i p b:Nat}{w:Int}(hp:p < n)(hb:n≤b):far i ⟨p,b,w⟩ = if p=i then some b else if b=i then some p else none:=rfl
theorem B2 {n:Nat}{M:Nat→Nat→Int}(O:MOk M){T:List Tie}(L:LP n M n 0 T)(ok:TOk (2 * n) (2 * n) 0 (cE n T n))(i:Nat)(hi:i < 2 * n):bc (nbs (cE n T n) i)=bc (my n M i):=by
  refine zj (mn ok.un i) (Bd O i) fun ⟨j,v⟩ => ?_
  rw [uK]
  show (∃ t∈cE n T n,far i t=some j∧t.w=v) ↔ _
  unfold my
  by_cases c:i < n
  · rw [if_pos c]
    unfold eV
    rw [List.mem_map]
    constructor
    · rintro⟨t,ht,f,e⟩
      rcases ek.mp ht with ⟨p,hp,rfl⟩|⟨p,q,hp,hq,rfl⟩
      · rw [nj hp (Nat.le_add_right _ _)] at f
        by_cases z:p=i
        · rw [if_pos z] at f
          have f:=Option.some.inj f
          have e:(1:Int)=v:=e
          exact⟨(i,1),jB.mpr (.inl ⟨rfl,rfl⟩),by rw [← f,← e,z,Nat.add_comm]⟩
        · rw [if_neg z,if_neg (by omega)] at f;cases f
      · rw [nj hp (Nat.le_add_right _ _)] at f
        have m:=(gJ L hp).mp (show (q.1,q.2)∈nbs T p from hq)
        by_cases z:p=i
        · rw [if_pos z] at f
          have f:=Option.some.inj f
          have e:2 * q.2=v:=e
          rw [z] at m
          exact⟨(q.1,2 * q.2),jB.mpr (.inr ⟨m.1,by rw [m.2.1];exact m.2.2,by rw [m.2.1]⟩),by rw [← f,← e,Nat.add_comm]⟩
        · rw [if_neg z,if_neg (by omega)] at f;cases f
    · rintro⟨⟨a,u⟩,ha,e⟩
      have e1:a + n=j:=congrArg Prod.fst e
      have e2:u=v:=congrArg Prod.snd e
      subst e1 e2
      rcases jB.mp ha with ⟨rfl,rfl⟩|⟨x,y,rfl⟩
      · exact⟨⟨a,n + a,1⟩,ek.mpr (.inl ⟨a,c,rfl⟩),by rw [nj c (Nat.le_add_right _ _),if_pos rfl,Nat.add_comm],rfl⟩
      · exact⟨⟨i,n + a,2 * M i a⟩,ek.mpr (.inr ⟨i,(a,M i a),c,(gJ L c).mpr ⟨x,rfl,y⟩,rfl⟩),by rw [nj c (Nat.le_add_right _ _),if_pos rfl,Nat.add_comm],rfl⟩
  · rw [if_neg c]
    obtain⟨k,rfl⟩ : ∃ k,i=n + k:=⟨i - n,by omega⟩
    have hk:k < n:=by omega
    rw [Nat.add_sub_cancel_left,jB]
    constructor
    · rintro⟨t,ht,f,e⟩
      rcases ek.mp ht with ⟨p,hp,rfl⟩|⟨p,q,hp,hq,rfl⟩
      · rw [nj hp (Nat.le_add_right _ _),if_neg (by omega)] at f
        by_cases z:n + p=n + k
        · rw [if_pos z] at f
          exact .inl ⟨(Option.some.inj f).symm.trans (Nat.add_left_cancel z),e.symm⟩
        · rw [if_neg z] at f;cases f
      · rw [nj hp (Nat.le_add_right _ _),if_neg (by omega)] at f
        have m:=(gJ L hp).mp (show (q.1,q.2)∈nbs T p from hq)
        by_cases z:n + q.1=n + k
        · rw [if_pos z] at f
          have f:=Option.some.inj f
          have e:2 * q.2=v:=e
          rw [Nat.add_left_cancel z,f] at m
          rw [f] at hp
          exact .inr ⟨hp,by rw [O.sym,m.2.1];exact m.2.2,by rw [O.sym,m.2.1];exact e.symm⟩
        · rw [if_neg z] at f;cases f
    · rintro (⟨rfl,rfl⟩|⟨x,y,rfl⟩)
      · exact⟨⟨j,n + j,1⟩,ek.mpr (.inl ⟨j,hk,rfl⟩),by rw [nj hk (Nat.le_add_right _ _),if_neg (by omega),if_pos rfl],rfl⟩
      · have y':0 < M j k:=by rw [O.sym];exact y
        exact⟨⟨j,n + k,2 * M j k⟩,ek.mpr (.inr ⟨j,(k,M j k),x,(gJ L x).mpr ⟨hk,rfl,y'⟩,rfl⟩),by rw [nj x (Nat.le_add_right _ _),if_neg (by omega),if_pos rfl],by rw [O.sym k j]⟩
end Fm
set_option linter.all false
namespace Fm
theorem zp {n np:Nat}{b:SF}{ds:List D}{h h':Hd}{σ σ':Sd}{x:D}(hl:ds.length=np)(st:(ds.map some++List.replicate (n - ds.length) none:Sd) = σ)(e:b σ h=.exc x σ' h'):bF np n b ds h=.exc x h':=by
  unfold bF runB
  rw [if_pos hl,st,e]
  rfl
theorem Be {a b:SF}{σ σ':Sd}{h h':Hd}{x:D}(e:a σ h=.exc x σ' h'):av a b σ h=.exc x σ' h':=by simp only [av,e]
theorem uP {t:TF}{a b:SF}{σ:Sd}{h h':Hd}(e:t σ h=.ok false h'):oG t a b σ h=b σ h':=by unfold oG;rw [e];rfl
theorem Bf {t:TF}{c:String}{b:SF}{σ:Sd}{h h':Hd}(e:t σ h=.ok true h'):oG t (jn c) b σ h=.exc (.exn c []) σ h':=by unfold oG;rw [e];rfl
theorem xn {F:Fn}{r:LF}{σ:Sd}{h h1 h':Hd}{ds:List D}{x:D}(a:r σ h=.ok ds h1)(b:F ds h1=.exc x h'):aq F r σ h=.exc x h':=by
  show Res.bind _ _=_;rw [a];exact b
theorem F8 {e:EF}{σ:Sd}{h h':Hd}{x:D}(p:e σ h=.exc x h'):kO e σ h=.exc x σ h':=by show outE _ _ _=_;rw [p];rfl
theorem Bg {g:Option Nat}{all:List D}{tg:GF}{b:SF}{x:D}{xs:List D}{σ σ' σ'':Sd}{h h':Hd}(hh:fV g all h)(t:tg x σ = some σ')(e:b σ' h=.nx σ'' h'):dm g all tg b (x :: xs) σ h=dm g all tg b xs σ'' h':=by
  rw [dm,if_pos hh,t];simp only [e]
theorem Ep {g:Option Nat}{all:List D}{tg:GF}{b:SF}{x y:D}{xs:List D}{σ σ' σ'':Sd}{h h':Hd}(hh:fV g all h)(t:tg x σ = some σ')(e:b σ' h=.exc y σ'' h'):dm g all tg b (x :: xs) σ h=.exc y σ'' h':=by
  rw [dm,if_pos hh,t];simp only [e]
theorem gK {a b:EF}{σ:Sd}{h h1 h2:Hd}{n m:Nat}{l k:List D}(p:a σ h=.ok (.ref n) h1)(q:b σ h1=.ok (.ref m) h2)(r:h2[n]? = some (.lst l))(s:h2[m]? = some (.lst k))(t:l.length + k.length≤SZ):cQ a b σ h=.ok (l++k) h2:=by
  simp only [cQ,p,ax,q,r,s,if_pos t]
theorem Bh {α : Type}{f:Sd→Hd→Res α}{σ:Sd}{h h':Hd}{x : α}(p:f σ h=.ok x h'):fPl f σ h=.ok x h':=by unfold fPl;rw [p];rfl
theorem GN {f:SF}{σ σ':Sd}{h h':Hd}(p:f σ h=.nx σ' h'):sPl f σ h=.nx σ' h':=by unfold sPl;rw [p]
theorem JN {f:SF}{σ:Sd}{h h':Hd}{d:D}(p:f σ h=.rt d h'):sPl f σ h=.rt d h':=by unfold sPl;rw [p]
theorem Bi {it:IF}{tg:GF}{b:SF}{σ:Sd}{h h1:Hd}{l:List D}{g:Option Nat}{o:Out}(p:it σ h=.ok (l,g) h1)(q:dm g l tg b l σ h1=o):oH it tg b σ h=o:=by
  unfold oH;rw [p];exact q
theorem F9 {i:Nat}{e:EF}{σ:Sd}{h h':Hd}{x:D}(p:e σ h=.exc x h'):aC (gN i) e σ h=.exc x σ h':=by show outE _ _ _=_;rw [p];rfl
theorem Iw {n i:Nat}{cs:List String}{b:SF}{σ σ':Sd}{h h':Hd}(p:b σ h=.nx σ' h'):uC n i cs b σ h=.nx σ' h':=by unfold uC;rw [p]
theorem Ix {n i:Nat}{cs:List String}{b:SF}{σ σ':Sd}{h h':Hd}{c:String}(p:b σ h=.exc (.exn c []) σ' h')(q:c∈cs):uC n i cs b σ h=.nx ((List.replicate n none).set i (some (.exn c []))) h':=by unfold uC;rw [p];exact if_pos q
theorem Iy {tb:List (String × Bool)}{a:EF}{σ:Sd}{h h1:Hd}{c:String}{l:List D}{b:Bool}(p:a σ h=.ok (.exn c l) h1)(q:tb.lookup c=some b):eM tb a σ h=.ok (.bl b) h1:=by
  unfold eM;rw [p,ax];simp only [isX,q]
theorem uQ {g:Option Nat}{all:List D}{tg:GF}{B:SF}{σ:Option D→Sd}{h:Hd}(hh:fV g all h)(ht:∀ x a,tg x (σ a)=some (σ (some x))):∀ {xs:List D} (a:Option D),(∀ x∈xs,B (σ (some x)) h=.nx (σ (some x)) h) → ∃ a',dm g all tg B xs (σ a) h=.nx (σ a') h
  | [],a,_=>⟨a,by rw [dm,if_pos hh]⟩
  | x :: xs,a,q=>by
    obtain⟨a',e⟩:=uQ hh ht (xs:=xs) (some x) fun y hy=>q y (List.mem_cons_of_mem _ hy)
    exact⟨a',(Bg hh (ht x a) (q x List.mem_cons_self)).trans e⟩
theorem Ga {g:Option Nat}{all:List D}{tg:GF}{b:SF}{x:D}{xs:List D}{σ σ':Sd}{h h':Hd}{d:D}(hh:fV g all h)(t:tg x σ = some σ')(e:b σ' h=.rt d h'):dm g all tg b (x :: xs) σ h=.rt d h':=by
  rw [dm,if_pos hh,t];simp only [e]
theorem xo {g:Option Nat}{all:List D}{tg:GF}{B:SF}{σ:Option D→Sd}{h:Hd}(bad:D→Prop)(hh:fV g all h)(ht:∀ x a,tg x (σ a)=some (σ (some x)))(out:D→Out)(so:∀ x,(∃ d,out x=.rt d h) ∨ ∃ y σ',out x=.exc y σ' h) :
    ∀ {xs:List D} (a:Option D),(∀ x∈xs,(bad x→B (σ (some x)) h=out x)∧(¬ bad x→B (σ (some x)) h=.nx (σ (some x)) h))→(∃ x∈xs,bad x) → ∃ x,dm g all tg B xs (σ a) h=out x
  | [],a,_,⟨x,hx,_⟩=>by cases hx
  | x :: xs,a,q,⟨y,hy,by'⟩=>by
    by_cases bx:bad x
    · have e:=(q x List.mem_cons_self).1 bx
      rcases so x with ⟨d,z⟩|⟨u,σ',z⟩
      · exact⟨x,(Ga hh (ht x a) (e.trans z)).trans z.symm⟩
      · exact⟨x,(Ep hh (ht x a) (e.trans z)).trans z.symm⟩
    · have hy':y∈xs:=(List.mem_cons.mp hy).resolve_left fun z=>bx (z ▸ by')
      obtain⟨u,e⟩:=xo bad hh ht out so (xs:=xs) (some x) (fun z hz=>q z (List.mem_cons_of_mem _ hz)) ⟨y,hy',by'⟩
      exact⟨u,(Bg hh (ht x a) ((q x List.mem_cons_self).2 bx)).trans e⟩
theorem Iz {x:EF}{L:LF}{σ:Sd}{h h1 h2:Hd}{n:Nat}{l l0 ds:List D}(p:x σ h=.ok (.ref n) h1)(q:h1[n]? = some (.lst l0))(r:L σ h1=.ok ds h2)(s:h2[n]? = some (.lst l))(t:l.length + ds.length≤SZ):wW x L σ h=.ok .non (h2.set n (.lst (l++ds))):=by
  simp only [wW,p,ax,q,r,s,if_pos t]
abbrev TMx:D:=.exn "TooMuch" []
def BL (j:Int):List D:=((List.range 9).map fun k:Nat=>D.bl (decide ((k:Int)=j)))++[.bl true]
theorem IA (j:Int)(h:Hd):∃ k g,lp [.int j] h=.ok (.ref k) (h++g)∧(h++g)[k]? = some (.lst (BL j)):=by
  obtain⟨A,hA⟩ : ∃ A,A=h.length:=⟨_,rfl⟩
  obtain⟨L9,hL9⟩ : ∃ L9:List D,L9=(List.range 9).map fun k:Nat=>D.bl (decide ((k:Int)=j)):=⟨_,rfl⟩
  have l9:L9.length=9:=by rw [hL9,List.length_map,List.length_range]
  have cp:bV none ((List.range 9).map fun k:Nat=>D.int k) (gN 0) [] (af oEq (aa 0) (aa 1)) ((List.range 9).map fun k:Nat=>D.int k) [none,some (.int j)] h=.ok L9 h:=by
    have:=bv (g:=none) (all:=(List.range 9).map fun k:Nat=>D.int k) (tg:=gN 0) (cs:=[]) (e:=af oEq (aa 0) (aa 1)) (h:=h) (I:=fun σ=>∃ x,σ = [x,some (.int j)]) (fun _=>true) (fun d=>match d with | .int i=>.bl (decide (i=j))|_=>.non) trivial (xs:=(List.range 9).map fun k:Nat=>D.int k) (σ:=[none,some (.int j)]) (by
      rintro x hx σ ⟨u,rfl⟩
      obtain⟨i,hi,rfl⟩:=List.mem_map.mp hx
      exact⟨_,rfl,⟨_,rfl⟩,rfl,fun _=>rfl⟩) ⟨_,rfl⟩
    rw [this,List.filter_eq_self.mpr (fun _ _=>rfl),List.map_map,hL9];rfl
  have e1:aL (aT 1 [0] (aV (fC (.int 9))) (gN 0) [] (af oEq (aa 0) (aa 1))) [some (.int j)] h=.ok (.ref A) (h++[.lst L9]):=gH hA (b5 (bR (n:=9) rfl (by decide)) cp) (by rw [l9];decide)
  have e2:aL (ad (fC (.bl true)) ao) [some (.int j)] (h++[.lst L9])=.ok (.ref (A + 1)) (h++[.lst L9,.lst [.bl true]]):=dG (g:=[.lst L9]) hA (ag rfl rfl) (by exact of_decide_eq_true rfl)
  have e3:cQ (aL (aT 1 [0] (aV (fC (.int 9))) (gN 0) [] (af oEq (aa 0) (aa 1)))) (aL (ad (fC (.bl true)) ao)) [some (.int j)] h=.ok (L9++[.bl true]) (h++[.lst L9,.lst [.bl true]]):=gK e1 e2 (bT hA 0) (bT hA 1) (by rw [l9];decide)
  refine⟨A + 2,[.lst L9,.lst [.bl true],.lst (L9++[.bl true])],?_,(bT hA 2).trans (by rw [hL9];rfl)⟩
  exact (eJ rfl rfl (bP (dG (g:=[.lst L9,.lst [.bl true]]) hA e3 (by rw [List.length_append,l9];decide)))).trans cU
theorem IB:eqL (BL 2) (BL 2)=some true:=by
  simp [BL,eqL,fv,peq,ja,dep,List.range,List.range.loop]
theorem Bj {h:Hd}{a c:Nat}{l k:List D}{b:Bool}(h1:h[a]? = some (.lst l))(h2:h[c]? = some (.lst k))(e:eqL l k=some b):oEq (.ref a) (.ref c) h=.ok (.bl b) h:=by
  simp only [oEq,eqG,gw,h1,h2,e]
theorem Er (h:Hd):∃ k g,ie [TMx] h=.ok (.ref k) (h++g)∧(h++g)[k]? = some (.lst (BL 2)):=by
  obtain⟨A,hA⟩ : ∃ A,A=h.length:=⟨_,rfl⟩
  obtain⟨x,hx⟩ : ∃ x:D,x=TMx:=⟨_,rfl⟩
  have l0 : [("TooMuch",false)].lookup "TooMuch" = some false:=by decide
  have l1 : [("TooMuch",true)].lookup "TooMuch" = some true:=by decide
  have iX:∀ {tb:List (String × Bool)} {b:Bool} (y:Option D) (g:Hd),tb.lookup "TooMuch" = some b→eM tb (aa 0) [some x,y] g=.ok (.bl b) g:=fun y g q=>Iy (c := "TooMuch") (l:=[]) (by rw [hx];rfl) q
  have bl:BL 2=[.bl false,.bl false,.bl true]++[.bl false,.bl false,.bl false]++[.bl false,.bl false,.bl false]++[.bl true]:=rfl
  have s0:sIf (tE (af l4 (aa 0) (fC .non))) (bo (aL ao)) bB [some x,none] h=.nx [some x,none] h:=gS (bu (ak (x:=x) rfl rfl (by rw [hx];rfl)))
  obtain⟨C0,hC0⟩ : ∃ C0:cm,C0=.lst [.bl false,.bl false,.bl true]:=⟨_,rfl⟩
  obtain⟨C1,hC1⟩ : ∃ C1:cm,C1=.lst [.bl false,.bl false,.bl false]:=⟨_,rfl⟩
  obtain⟨C2,hC2⟩ : ∃ C2:cm,C2=.lst ([.bl false,.bl false,.bl true]++[.bl false,.bl false,.bl false]):=⟨_,rfl⟩
  obtain⟨C4,hC4⟩ : ∃ C4:cm,C4=.lst ([.bl false,.bl false,.bl true]++[.bl false,.bl false,.bl false]++[.bl false,.bl false,.bl false]):=⟨_,rfl⟩
  obtain⟨C5,hC5⟩ : ∃ C5:cm,C5=.lst [.bl true]:=⟨_,rfl⟩
  have s1:aC (gN 1) (aL (ad (eM [("TooMuch",false)] (aa 0)) (ad (eM [("TooMuch",false)] (aa 0)) (ad (eM [("TooMuch",true)] (aa 0)) ao)))) [some x,none] h=.nx [some x,some (.ref A)] (h++[C0]):=by
    rw [hC0];exact aG (gH hA (ag (iX _ _ l0) (gj (iX _ _ l0) (iX _ _ l1))) (by exact of_decide_eq_true rfl))
  have n3:∀ (k:Nat) (g:Hd),aL (ad (eM [("TooMuch",false)] (aa 0)) (ad (eM [("TooMuch",false)] (aa 0)) (ad (eM [("TooMuch",false)] (aa 0)) ao))) [some x,some (.ref k)] (h++g)=.ok (.ref (A + g.length)) (h++(g++[C1])):=fun k g=>by
    rw [hC1];exact dG hA (ag (iX _ _ l0) (gj (iX _ _ l0) (iX _ _ l0))) (by exact of_decide_eq_true rfl)
  have s2:aC (gN 1) (aL (cQ (aa 1) (aL (ad (eM [("TooMuch",false)] (aa 0)) (ad (eM [("TooMuch",false)] (aa 0)) (ad (eM [("TooMuch",false)] (aa 0)) ao)))))) [some x,some (.ref A)] (h++[C0])=.nx [some x,some (.ref (A + 2))] (h++[C0,C1,C2]):=by
    rw [hC2]
    exact aG (dG (g:=[C0,C1]) hA (gK rfl (n3 A [C0]) (by rw [hC0];exact bT hA 0) (by rw [hC1];exact bT hA 1) (by exact of_decide_eq_true rfl)) (by exact of_decide_eq_true rfl))
  have s3:aC (gN 1) (aL (cQ (aa 1) (aL (ad (eM [("TooMuch",false)] (aa 0)) (ad (eM [("TooMuch",false)] (aa 0)) (ad (eM [("TooMuch",false)] (aa 0)) ao)))))) [some x,some (.ref (A + 2))] (h++[C0,C1,C2])=.nx [some x,some (.ref (A + 4))] (h++[C0,C1,C2,C1,C4]):=by
    rw [hC4]
    exact aG (dG (g:=[C0,C1,C2,C1]) hA (gK rfl (n3 (A + 2) [C0,C1,C2]) (by rw [hC2];exact bT hA 2) (by rw [hC1];exact bT hA 3) (by exact of_decide_eq_true rfl)) (by exact of_decide_eq_true rfl))
  have n1:aL (ad (eM [("TooMuch",true)] (aa 0)) ao) [some x,some (.ref (A + 4))] (h++[C0,C1,C2,C1,C4])=.ok (.ref (A + 5)) (h++[C0,C1,C2,C1,C4,C5]):=by
    rw [hC5];exact dG (g:=[C0,C1,C2,C1,C4]) hA (ag (iX _ _ l1) rfl) (by exact of_decide_eq_true rfl)
  have s4:bo (aL (cQ (aa 1) (aL (ad (eM [("TooMuch",true)] (aa 0)) ao)))) [some x,some (.ref (A + 4))] (h++[C0,C1,C2,C1,C4])=.rt (.ref (A + 6)) (h++[C0,C1,C2,C1,C4,C5,.lst (BL 2)]):=by
    rw [bl]
    exact bP (dG (g:=[C0,C1,C2,C1,C4,C5]) hA (gK rfl n1 (by rw [hC4];exact bT hA 4) (by rw [hC5];exact bT hA 5) (by exact of_decide_eq_true rfl)) (by exact of_decide_eq_true rfl))
  refine⟨A + 6,[C0,C1,C2,C1,C4,C5,.lst (BL 2)],?_,bT hA 6⟩
  rw [← hx]
  exact (eJ (σ:=[some x,none]) rfl rfl ((bf s0).trans ((bf s1).trans ((bf s2).trans ((bf s3).trans s4))))).trans cU
section
variable {n:Nat} {M:Nat→Nat→Int} {T:List Tie} {bs:List Int} {ss:List (Option Int)}
theorem Bk {p:Nat}(hp:p < n):(bg n T bs ss).ties[p]? = some (bc (nbs T p)):=by
  show ((List.range n).map fun i=>bc (nbs T i))[p]? = _
  rw [List.getElem?_map,List.getElem?_range hp];rfl
theorem gq (h:Hd):bi [(bg n T bs ss).enc] h=.ok (.int n) h:=by
  rw [w9]
  show Res.ok (D.int (((List.range n).map fun i=>bc (nbs T i)).length:Nat)) h=_
  rw [List.length_map,List.length_range]
theorem xq {α : Type}(f : α → Bool):∀ l:List α,fE (l.map fun x=>D.bl (f x))=some (l.map f)
  | []=>rfl
  | x :: l=>by simp only [List.map_cons,fE,xq f l];rfl
theorem zq (r:List (Nat × Int))(h:Hd):bV none (r.map gR) (gT [0,1]) [] (af oGt (aa 1) (fC (.int 200))) (r.map gR) [none,none] h=.ok (r.map fun p=>D.bl (decide (200 < p.2))) h:=by
  have:=bv (g:=none) (all:=r.map gR) (tg:=gT [0,1]) (cs:=[]) (e:=af oGt (aa 1) (fC (.int 200))) (h:=h) (I:=fun σ=>∃ a b,σ = [a,b]) (fun _=>true) (fun d=>match d with | .tup [_,.int v]=>.bl (decide (200 < v))|_=>.non) trivial (xs:=r.map gR) (σ:=[none,none]) (by
    rintro x hx σ ⟨a,b,rfl⟩
    obtain⟨p,_,rfl⟩:=List.mem_map.mp hx
    exact⟨_,rfl,⟨_,_,rfl⟩,rfl,fun _=>rfl⟩) ⟨_,_,rfl⟩
  rw [this,List.filter_eq_self.mpr (fun _ _=>rfl),List.map_map];rfl
theorem kC {p:Nat}(hp:p < n)(h:Hd):tE (D1 (aT 2 [] (cS (aq cJ (ad (aa 0) (ad (aa 1) ao)))) (gT [0,1]) [] (af oGt (aa 1) (fC (.int 200))))) [some (bg n T bs ss).enc,some (.int p)] h=.ok ((bc (nbs T p)).any fun q=>decide (200 < q.2)) h:=by
  have e:aT 2 [] (cS (aq cJ (ad (aa 0) (ad (aa 1) ao)))) (gT [0,1]) [] (af oGt (aa 1) (fC (.int 200))) [some (bg n T bs ss).enc,some (.int p)] h=.ok ((bc (nbs T p)).map fun q=>D.bl (decide (200 < q.2))) h:=b5 (jr (aw (gj rfl rfl) (ni _ h (Bk hp)))) (zq _ h)
  refine bu ?_
  simp only [D1,e,ax,xq]
  rw [List.any_map];rfl
def lu (n:Nat) (M:Nat→Nat→Int):Prop:=∃ i j,i < n∧j < n∧200 < M i j
theorem mz (L:LP n M n 0 T){p:Nat}(hp:p < n):((bc (nbs T p)).any fun q=>decide (200 < q.2))=true ↔ ∃ j,j < n∧200 < M p j:=by
  rw [List.any_eq_true]
  constructor
  · rintro⟨q,hq,e⟩
    have m:=(gJ L hp).mp (show (q.1,q.2)∈nbs T p from cr.mp hq)
    exact⟨q.1,m.1,by rw [m.2.1];exact of_decide_eq_true e⟩
  · rintro⟨j,hj,e⟩
    exact⟨(j,M p j),cr.mpr ((gJ L hp).mpr ⟨hj,rfl,Int.lt_trans (by decide) e⟩),decide_eq_true e⟩
noncomputable abbrev CSB:SF:=oG (tE (D1 (aT 2 [] (cS (aq cJ (ad (aa 0) (ad (aa 1) ao)))) (gT [0,1]) [] (af oGt (aa 1) (fC (.int 200)))))) (jn "TooMuch") bB
theorem Gb (n15:n≤15)(L:LP n M n 0 T)(nh : ¬ lu n M)(h:Hd):cB [(bg n T bs ss).enc] h=.ok .non h:=by
  have s1:oG (tE (af oGt (aq bi (ad (aa 0) ao)) (fC (.int 15)))) (jn "TooMuch") bB [some (bg n T bs ss).enc,none] h=.nx [some (bg n T bs ss).enc,none] h:=uP (bu (ak (aw (ag rfl rfl) (gq h)) rfl (D7 (by omega))))
  obtain⟨a',e⟩:=uQ (g:=none) (all:=(List.range n).map fun k:Nat=>D.int k) (tg:=gN 1) (B:=CSB) (σ:=fun a=>[some (bg n T bs ss).enc,a]) (h:=h) trivial (fun _ _=>rfl) (xs:=(List.range n).map fun k:Nat=>D.int k) none (fun x hx=>by
    obtain⟨i,hi,rfl⟩:=List.mem_map.mp hx
    have hi:=List.mem_range.mp hi
    refine uP ((kC hi h).trans ?_)
    cases c:(bc (nbs T i)).any fun q=>decide (200 < q.2) with
    | false=>rfl
    | true=>exact absurd (let ⟨j,a,b⟩:=(mz L hi).mp c;⟨i,j,hi,a,b⟩) nh)
  have s2:oH (aV (aq bi (ad (aa 0) ao))) (gN 1) CSB [some (bg n T bs ss).enc,none] h=.nx [some (bg n T bs ss).enc,a'] h:=Bi (bR (aw (ag rfl rfl) (gq h)) (by omega)) e
  exact (JG rfl rfl ((bf s1).trans s2)).trans cT
theorem Gc (n30:n≤30)(L:LP n M n 0 T)(g:15 < n∨lu n M)(h:Hd):cB [(bg n T bs ss).enc] h=.exc TMx h:=by
  by_cases c:15 < n
  · exact zp rfl rfl (Be (Bf (bu (ak (aw (ag rfl rfl) (gq h)) rfl (Im (by omega))))))
  · obtain⟨i,j,hi,hj,hv⟩:=g.resolve_left c
    have s1:oG (tE (af oGt (aq bi (ad (aa 0) ao)) (fC (.int 15)))) (jn "TooMuch") bB [some (bg n T bs ss).enc,none] h=.nx [some (bg n T bs ss).enc,none] h:=uP (bu (ak (aw (ag rfl rfl) (gq h)) rfl (D7 (by omega))))
    obtain⟨x,e⟩:=xo (g:=none) (all:=(List.range n).map fun k:Nat=>D.int k) (tg:=gN 1) (B:=CSB) (σ:=fun a=>[some (bg n T bs ss).enc,a]) (h:=h) (fun d=>∃ i j:Nat,d=.int i∧i < n∧j < n∧200 < M i j) trivial (fun _ _=>rfl) (fun x=>.exc TMx [some (bg n T bs ss).enc,some x] h) (fun x=>.inr ⟨_,_,rfl⟩) (xs:=(List.range n).map fun k:Nat=>D.int k) none (fun x hx=>by
      obtain⟨i,hi,rfl⟩:=List.mem_map.mp hx
      have hi:=List.mem_range.mp hi
      refine⟨fun ⟨k,j,e,_,hj,hv⟩ => ?_,fun nb => ?_⟩
      · have e:i=k:=by have e:=D.int.inj e;omega
        subst e
        exact Bf ((kC hi h).trans (by rw [(mz L hi).mpr ⟨j,hj,hv⟩]))
      · refine uP ((kC hi h).trans ?_)
        cases c:(bc (nbs T i)).any fun q=>decide (200 < q.2) with
        | false=>rfl
        | true=>exact absurd (let ⟨j,a,b⟩:=(mz L hi).mp c;⟨i,j,rfl,hi,a,b⟩) nb) ⟨.int i,List.mem_map.mpr ⟨i,List.mem_range.mpr hi,rfl⟩,i,j,rfl,hi,hj,hv⟩
    have s2:oH (aV (aq bi (ad (aa 0) ao))) (gN 1) CSB [some (bg n T bs ss).enc,none] h=.exc TMx [some (bg n T bs ss).enc,some x] h:=Bi (bR (aw (ag rfl rfl) (gq h)) (by omega)) e
    exact zp rfl rfl ((bf s1).trans s2)
theorem B3 (p:Nat)(r:List (Nat × Int))(h:Hd):bV none (r.map gR) (gT [0,1]) [] (eB (ad (aa 2) (ad (af bA (aa 3) (aa 0)) (ad (af bh (fC (.int 2)) (aa 1)) ao)))) (r.map gR) [none,none,some (.int p),some (.int n)] h=.ok ((lq n p r).map bH) h:=by
  have:=bv (g:=none) (all:=r.map gR) (tg:=gT [0,1]) (cs:=[]) (e:=eB (ad (aa 2) (ad (af bA (aa 3) (aa 0)) (ad (af bh (fC (.int 2)) (aa 1)) ao)))) (h:=h) (I:=fun σ=>∃ a b,σ = [a,b,some (.int p),some (.int n)]) (fun _=>true) (fun d=>match d with | .tup [.int o,.int v]=>.tup [.int p,.int (n + o),.int (2 * v)] | _=>.non) trivial (xs:=r.map gR) (σ:=[none,none,some (.int p),some (.int n)]) (by
    rintro x hx σ ⟨a,b,rfl⟩
    obtain⟨q,_,rfl⟩:=List.mem_map.mp hx
    exact⟨_,rfl,⟨_,_,rfl⟩,rfl,fun _=>iC (ag rfl (ag (ak rfl rfl rfl) (ag (ak rfl rfl (fm (by decide))) rfl)))⟩) ⟨_,_,rfl⟩
  rw [this,List.filter_eq_self.mpr (fun _ _=>rfl),List.map_map]
  unfold lq
  rw [List.map_map]
  congr 1
theorem zr (h:Hd):bV none ((List.range n).map fun k:Nat=>D.int k) (gN 0) [] (eB (ad (aa 0) (ad (af bA (aa 1) (aa 0)) (ad (fC (.int 1)) ao)))) ((List.range n).map fun k:Nat=>D.int k) [none,some (.int n)] h=.ok ((kB n).map bH) h:=by
  have:=bv (g:=none) (all:=(List.range n).map fun k:Nat=>D.int k) (tg:=gN 0) (cs:=[]) (e:=eB (ad (aa 0) (ad (af bA (aa 1) (aa 0)) (ad (fC (.int 1)) ao)))) (h:=h) (I:=fun σ=>∃ a,σ = [a,some (.int n)]) (fun _=>true) (fun d=>match d with | .int p=>.tup [.int p,.int (n + p),.int 1] | _=>.non) trivial (xs:=(List.range n).map fun k:Nat=>D.int k) (σ:=[none,some (.int n)]) (by
    rintro x hx σ ⟨a,rfl⟩
    obtain⟨q,_,rfl⟩:=List.mem_map.mp hx
    exact⟨_,rfl,⟨_,rfl⟩,rfl,fun _=>iC (ag rfl (ag (ak rfl rfl rfl) (ag rfl rfl)))⟩) ⟨_,rfl⟩
  rw [this,List.filter_eq_self.mpr (fun _ _=>rfl),List.map_map]
  unfold kB
  rw [List.map_map]
  congr 1
theorem B4 (n15:n≤15)(L:LP n M n 0 T){h:Hd}{A:Nat}(hA:A=h.length):bY [(bg n T bs ss).enc] h=.ok (.ref A) (h++[.lst ((cE n T n).map bH)]):=by
  obtain⟨w,hw⟩ : ∃ w:D,w=(bg n T bs ss).enc:=⟨_,rfl⟩
  have sz:∀ k,k≤n→((cE n T k).map bH).length≤1000:=fun k hk=>by
    have a:=tN L hk
    have b:=Nat.mul_le_mul_left n n15
    rw [List.length_map];omega
  have s1:aC (gN 1) (aq bi (ad (aa 0) ao)) [some w,none,none,none] h=.nx [some w,some (.int n),none,none] h:=by rw [hw];exact aG (aw (ag rfl rfl) (gq h))
  have s2:aC (gN 2) (aL (aT 1 [1] (aV (aa 1)) (gN 0) [] (eB (ad (aa 0) (ad (af bA (aa 1) (aa 0)) (ad (fC (.int 1)) ao)))))) [some w,some (.int n),none,none] h=.nx [some w,some (.int n),some (.ref A),none] (h++[.lst ((cE n T 0).map bH)]):=by
    have e0:cE n T 0=kB n:=by unfold cE;simp
    rw [e0]
    exact aG (gH hA (b5 (bR rfl (by omega)) (zr h)) (by have:=sz 0 (Nat.zero_le _);rw [e0] at this;exact Nat.le_trans this (by decide)))
  obtain⟨σ',h',k1,a,k2,k3⟩:=c5 (P:=fun i σ h'=>∃ a,σ = [some w,some (.int n),some (.ref A),a]∧h'=h++[.lst ((cE n T i).map bH)]) (g:=none) (k:=0) (all:=(List.range n).map fun k:Nat=>D.int k) (fun _ _ _ _=>trivial)
    (xs:=(List.range n).map fun k:Nat=>D.int k) (tg:=gN 3) (σ:=[some w,some (.int n),some (.ref A),none]) (h:=h++[.lst ((cE n T 0).map bH)]) (b:=fD) (by
      rintro i x σ h0 hx ⟨a,rfl,rfl⟩
      obtain⟨hi,rfl⟩:=cL hx
      rw [Nat.zero_add]
      have e:aT 2 [3,1] (cS (aq cJ (ad (aa 0) (ad (aa 3) ao)))) (gT [0,1]) [] (eB (ad (aa 2) (ad (af bA (aa 3) (aa 0)) (ad (af bh (fC (.int 2)) (aa 1)) ao)))) [some w,some (.int n),some (.ref A),some (.int i)] (h++[.lst ((cE n T i).map bH)])=.ok ((lq n i (bc (nbs T i))).map bH) (h++[.lst ((cE n T i).map bH)]):=by
        rw [hw]
        exact b5 (jr (aw (gj rfl rfl) (ni _ _ (Bk hi)))) (B3 i _ _)
      refine⟨_,rfl,[some w,some (.int n),some (.ref A),some (.int i)],_,oO (Iz rfl (gG hA _) e (gG hA _) ?_),_,rfl,?_⟩
      · have:=sz (i + 1) hi
        rw [oW,List.map_append,List.length_append] at this
        exact Nat.le_trans this (by decide)
      · rw [uG hA,oW,List.map_append]) ⟨_,rfl,rfl⟩
  have e0:0 + ((List.range n).map fun k:Nat=>D.int k).length=n:=by simp
  rw [e0] at k3
  rw [k2,k3] at k1
  have s3:eC (aV (aa 1)) (gN 3) fD [some w,some (.int n),some (.ref A),none] (h++[.lst ((cE n T 0).map bH)])=.nx [some w,some (.int n),some (.ref A),a] (h++[.lst ((cE n T n).map bH)]):=fB (bR rfl (by omega)) k1
  rw [← hw]
  exact (eJ (σ:=[some w,none,none,none]) rfl rfl ((bf s1).trans ((bf s2).trans ((bf s3).trans (bP rfl))))).trans cU
def el (bs:List Int):List Int:=bs.map fun b=>2 * b + 1
def uR (n:Nat) (T:List Tie) (bs:List Int) (ss:List (Option Int)):Web:=bg (2 * n) (cE n T n) (el bs++el bs) (ss++ss)
theorem tO {h:Hd}{g:Option Nat}(hk:fV g (bs.map .int) h):bV g (bs.map D.int) (gN 0) [] (af bA (af bh (fC (.int 2)) (aa 0)) (fC (.int 1))) (bs.map D.int) [none] h=.ok ((el bs).map .int) h:=by
  have:=bv (g:=g) (all:=bs.map D.int) (tg:=gN 0) (cs:=[]) (e:=af bA (af bh (fC (.int 2)) (aa 0)) (fC (.int 1))) (h:=h) (I:=fun σ=>∃ a,σ = [a]) (fun _=>true) (fun d=>match d with | .int b=>.int (2 * b + 1)|_=>.non) hk (xs:=bs.map D.int) (σ:=[none]) (by
    rintro x hx σ ⟨a,rfl⟩
    obtain⟨q,_,rfl⟩:=List.mem_map.mp hx
    exact⟨_,rfl,⟨_,rfl⟩,rfl,fun _=>ak (ak rfl rfl (fm (by decide))) rfl rfl⟩) ⟨_,rfl⟩
  rw [this,List.filter_eq_self.mpr (fun _ _=>rfl),List.map_map]
  unfold el
  rw [List.map_map]
  congr 1
theorem zt (n1:1≤n)(n15:n≤15)(O:MOk M)(L:LP n M n 0 T)(nh : ¬ lu n M)(lb:bs.length=n)(ls:ss.length=n)(os:∀ x∈ss,x=none∨x=some 0∨x=some 1)(h:Hd):eg [(bg n T bs ss).enc] h=.ok (uR n T bs ss).enc h:=by
  have w2:∀ i j,i < n→j < n→M i j≤200:=fun i j hi hj=>Int.not_lt.mp fun z=>nh ⟨i,j,hi,hj,z⟩
  have ok:=xm n1 n15 O w2 L
  obtain⟨A,hA⟩ : ∃ A,A=h.length:=⟨_,rfl⟩
  obtain⟨w,hw⟩ : ∃ w:D,w=(bg n T bs ss).enc:=⟨_,rfl⟩
  have lb2:(el bs).length=n:=by unfold el;rw [List.length_map,lb]
  obtain⟨C0,hC0⟩ : ∃ C0:cm,C0=.lst (bs.map .int):=⟨_,rfl⟩
  obtain⟨C1,hC1⟩ : ∃ C1:cm,C1=.lst ((el bs).map .int):=⟨_,rfl⟩
  obtain⟨C2,hC2⟩ : ∃ C2:cm,C2=.lst (ss.map bW):=⟨_,rfl⟩
  obtain⟨C3,hC3⟩ : ∃ C3:cm,C3=.lst ((cE n T n).map bH):=⟨_,rfl⟩
  obtain⟨C4,hC4⟩ : ∃ C4:cm,C4=.lst ((el bs++el bs).map .int):=⟨_,rfl⟩
  obtain⟨C5,hC5⟩ : ∃ C5:cm,C5=.lst ((ss++ss).map bW):=⟨_,rfl⟩
  have qb:fM [w] h=.ok (.ref A) (h++[C0]):=by
    rw [hw,hC0]
    exact (eJ rfl rfl (bP (gH hA (cI (a4 rfl rfl rfl rfl) rfl) (by rw [List.length_map];show bs.length≤_;rw [lb];exact Nat.le_trans n15 (by decide))))).trans cU
  have qs:eT [w] (h++[C0,C1])=.ok (.ref (A + 2)) (h++[C0,C1,C2]):=by
    rw [hw,hC2]
    exact (eJ rfl rfl (bP (dG (g:=[C0,C1]) hA (cI (a4 rfl rfl rfl rfl) rfl) (by rw [List.length_map];show ss.length≤_;rw [ls];exact Nat.le_trans n15 (by decide))))).trans cU
  have qt:bY [w] (h++[C0,C1,C2])=.ok (.ref (A + 3)) (h++[C0,C1,C2,C3]):=by
    have:=B4 (bs:=bs) (ss:=ss) n15 L (h:=h++[C0,C1,C2]) (A:=A + 3) (by rw [List.length_append,hA];rfl)
    rw [hw,this,hC3,List.append_assoc];rfl
  have s1:kO (aq cB (fPl (ad (aa 0) ao))) [some w,none,none] h=.nx [some w,none,none] h:=by rw [hw];exact oO (aw (Bh (ag rfl rfl)) (Gb n15 L nh h))
  have s2:aC (gN 1) (aL (aT 1 [] (cS (aq fM (ad (aa 0) ao))) (gN 0) [] (af bA (af bh (fC (.int 2)) (aa 0)) (fC (.int 1))))) [some w,none,none] h=.nx [some w,some (.ref (A + 1)),none] (h++[C0,C1]):=by
    have g0:(h++[C0])[A]? = some (.lst (bs.map .int)):=by rw [hC0];exact gG hA _
    rw [hC1]
    exact aG (dG (g:=[C0]) hA (b5 (fq (aw (ag rfl rfl) qb) g0) (tO (g:=some A) g0)) (by rw [List.length_map,lb2];exact Nat.le_trans n15 (by decide)))
  have s3:aC (gN 2) (aq eT (ad (aa 0) ao)) [some w,some (.ref (A + 1)),none] (h++[C0,C1])=.nx [some w,some (.ref (A + 1)),some (.ref (A + 2))] (h++[C0,C1,C2]):=aG (aw (ag rfl rfl) qs)
  have m2:af bh (fC (.int 2)) (aq bi (ad (aa 0) ao)) [some w,some (.ref (A + 1)),some (.ref (A + 2))] (h++[C0,C1,C2])=.ok (.int ((2 * n:Nat):Int)) (h++[C0,C1,C2]):=by
    rw [hw,show ((2 * n:Nat):Int)=2 * (n:Int) from Int.natCast_mul 2 n]
    exact ak rfl (aw (ag rfl rfl) (gq _)) (fm (by decide))
  have b2:aL (cQ (aa 1) (aa 1)) [some w,some (.ref (A + 1)),some (.ref (A + 2))] (h++[C0,C1,C2,C3])=.ok (.ref (A + 4)) (h++[C0,C1,C2,C3,C4]):=by
    have g:(h++[C0,C1,C2,C3])[A + 1]? = some (.lst ((el bs).map .int)):=by rw [← hC1];exact bT hA 1
    rw [hC4,List.map_append]
    exact dG (g:=[C0,C1,C2,C3]) hA (gK rfl rfl g g (by rw [List.length_map,lb2];exact Nat.le_trans (Nat.add_le_add n15 n15) (by decide))) (by rw [List.length_append,List.length_map,lb2];exact Nat.le_trans (Nat.add_le_add n15 n15) (by decide))
  have c2:aL (cQ (aa 2) (aa 2)) [some w,some (.ref (A + 1)),some (.ref (A + 2))] (h++[C0,C1,C2,C3,C4])=.ok (.ref (A + 5)) (h++[C0,C1,C2,C3,C4,C5]):=by
    have g:(h++[C0,C1,C2,C3,C4])[A + 2]? = some (.lst (ss.map bW)):=by rw [← hC2];exact bT hA 2
    rw [hC5,List.map_append]
    exact dG (g:=[C0,C1,C2,C3,C4]) hA (gK rfl rfl g g (by rw [List.length_map,ls];exact Nat.le_trans (Nat.add_le_add n15 n15) (by decide))) (by rw [List.length_append,List.length_map,ls];exact Nat.le_trans (Nat.add_le_add n15 n15) (by decide))
  have wq:=tI (n:=2 * n) (by omega) (by omega) ok (bs:=el bs++el bs) (ss:=ss++ss) (by rw [List.length_append,lb2];omega) (by rw [List.length_append,ls];omega) (fun x hx=>os x ((List.mem_append.mp hx).elim id id)) (h:=h++[C0,C1,C2,C3,C4,C5]) (tk:=A + 3) (bk:=A + 4) (sk:=A + 5) (by rw [← hC3];exact bT hA 3) (by rw [← hC4];exact bT hA 4) (by rw [← hC5];exact bT hA 5)
  have s4:bo (aq dA (ad (af bh (fC (.int 2)) (aq bi (ad (aa 0) ao))) (ad (aq bY (ad (aa 0) ao)) (ad (aL (cQ (aa 1) (aa 1))) (ad (aL (cQ (aa 2) (aa 2))) ao))))) [some w,some (.ref (A + 1)),some (.ref (A + 2))] (h++[C0,C1,C2])=.rt (uR n T bs ss).enc (h++[C0,C1,C2,C3,C4,C5]):=bP (aw (ag m2 (ag (aw (ag rfl rfl) qt) (ag b2 (ag c2 rfl)))) wq)
  rw [← hw]
  exact (eJ (σ:=[some w,none,none]) rfl rfl ((bf s1).trans ((bf (GN s2)).trans ((bf (GN s3)).trans (JN s4))))).trans (dy (lf _))
theorem zu (n30:n≤30)(L:LP n M n 0 T)(g:15 < n∨lu n M)(h:Hd):eg [(bg n T bs ss).enc] h=.exc TMx h :=
  zp rfl rfl (Be (F8 (xn (Bh (ag rfl rfl)) (Gc n30 L g h))))
noncomputable abbrev JO:SF:=aC (gN 2) (aq eg (fPl (ad (aa 0) ao)))
theorem Es (n1:1≤n)(n15:n≤15)(O:MOk M)(L:LP n M n 0 T)(nh : ¬ lu n M)(lb:bs.length=n)(ls:ss.length=n)(os:∀ x∈ss,x=none∨x=some 0∨x=some 1)(h:Hd):fN [(bg n T bs ss).enc] h=.ok (.ref h.length) (h++[.lst [(uR n T bs ss).enc]]):=by
  obtain⟨w,hw⟩ : ∃ w:D,w=(bg n T bs ss).enc:=⟨_,rfl⟩
  have q:=zt n1 n15 O L nh lb ls os h
  rw [← hw] at q ⊢
  have t:uC 4 1 ["TooMuch"] JO [some w,some .non,some .non,none] h=.nx [some w,some .non,some (uR n T bs ss).enc,none] h:=Iw (aG (aw (Bh (ag rfl rfl)) q))
  exact (eJ (σ:=[some w,none,none,none]) rfl rfl ((bf (aG (d:=.non) rfl)).trans ((bf (aG (d:=.non) rfl)).trans ((bf t).trans (GH ((za (bu (ak (x:=.non) rfl rfl rfl))).trans (bP (gh (ag rfl rfl) (by exact of_decide_eq_true rfl))))))))).trans cU
theorem Et (n30:n≤30)(L:LP n M n 0 T)(gr:15 < n∨lu n M)(h:Hd):∃ k g,fN [(bg n T bs ss).enc] h=.ok (.ref k) (h++g)∧(h++g)[k]? = some (.lst (BL 2)):=by
  obtain⟨w,hw⟩ : ∃ w:D,w=(bg n T bs ss).enc:=⟨_,rfl⟩
  have q:=zu (bs:=bs) (ss:=ss) n30 L gr h
  rw [← hw] at q ⊢
  obtain⟨k,g,c1,c2⟩:=Er h
  have t:uC 4 1 ["TooMuch"] JO [some w,some .non,some .non,none] h=.nx [none,some TMx,none,none] h:=Ix (F9 (xn (Bh (ag rfl rfl)) q)) (by decide)
  refine⟨k,g,?_,c2⟩
  exact (eJ (σ:=[some w,none,none,none]) rfl rfl ((bf (aG (d:=.non) rfl)).trans ((bf (aG (d:=.non) rfl)).trans ((bf t).trans ((bf (gS (bu (ak (x:=TMx) rfl rfl rfl)))).trans (bP (aw (ag rfl rfl) c1))))))).trans cU
end
end Fm
set_option linter.all false
namespace Fm
theorem tP (x:Nat × Int):∀ r,(kt x r).Perm (x :: r)
  | []=>.refl _
  | y :: r=>by
    unfold kt
    split
    · exact .refl _
    · exact ((tP x r).cons y).trans (.swap x y r)
theorem oX:∀ r,(bc r).Perm r
  | []=>.refl _
  | x :: r=>(tP x _).trans ((oX r).cons x)
theorem xr {r:List (Nat × Int)}(nd:(r.map (·.1)).Nodup):jX ((r.map eN).map (·.1))=(bc r).map fun p=>(p.1:Int):=by
  refine (sZ ?_ ?_).symm
  · rw [List.map_map]
    exact (oX r).map _
  · rw [List.pairwise_map]
    exact (gp nd).imp fun {a b} h=>Int.ofNat_le.mpr (Nat.le_of_lt h)
theorem uS {k:Nat}{v:Int}:∀ {r:List (Nat × Int)},(r.map (·.1)).Nodup→(k,v)∈r→je (r.map eN) (k:Int)=some (.int v)
  | [],_,h=>by cases h
  | p :: r,nd,h=>by
    rw [List.map_cons] at nd
    obtain⟨n1,n2⟩:=List.nodup_cons.mp nd
    by_cases e:p.1=k
    · rcases List.mem_cons.mp h with z|z
      · subst z
        unfold je
        rw [List.map_cons,List.find?_cons_of_pos (by exact decide_eq_true rfl)];rfl
      · exact absurd (List.mem_map.mpr ⟨_,z,e.symm⟩) n1
    · rcases List.mem_cons.mp h with z|z
      · exact absurd (congrArg Prod.fst z).symm e
      · have:=uS n2 z
        unfold je at this ⊢
        rw [List.map_cons,List.find?_cons_of_neg (by
          show ¬ decide ((p.1:Int)=(k:Int))=true
          rw [decide_eq_true_eq]
          exact fun z=>e (Int.ofNat.inj z))]
        exact this
structure RX (n A:Nat) (h:Hd) (F:Nat→List (Nat × Int)) (h':Hd):Prop where
  pre:∃ g,h'=h++g∧g.length=2 * n + 1
  lo:∀ j,j < n→h'[A + j]? = some (.dct ((eV n (F j)).map eN))
  hi:∀ j,j < n→h'[A + (n + j)]? = some (.dct ((F j).map eN))
  rf:h'[A + 2 * n]? = some (.lst ((List.range (2 * n)).map fun i=>.ref (A + i)))
def zv (F:Nat→List (Nat × Int)) (i:Nat) (p:Nat × Int):Nat→List (Nat × Int):=fun j=>if j=i then F i++[p] else F j
section
variable {n A:Nat} {h:Hd} {F:Nat→List (Nat × Int)} {h':Hd}
theorem tQ (r:List (Nat × Int)):(eV n r).length=r.length:=by unfold eV;rw [List.length_map]
theorem RX.put (hA:A=h.length)(R:RX n A h F h'){i key:Nat}{v:Int}(hi:i < n)(ne:∀ p∈F i,p.1≠key)(sz:(F i).length < 1000){σ:Sd}{E1 V1 E2 V2 R1 R2:EF} 
    (v1:V1 σ h'=.ok (.int v) h') (r1:R1 σ h'=.ok (.ref (A + i)) h') (e1:E1 σ h'=.ok (.int ((key + n:Nat):Int)) h')
    (nx:∀ h2,(∃ g,h2=h++g)→h2[A + 2 * n]? = some (.lst ((List.range (2 * n)).map fun i=>.ref (A + i)))→V2 σ h2=.ok (.int v) h2∧R2 σ h2=.ok (.ref (A + (n + i))) h2∧E2 σ h2=.ok (.int (key:Int)) h2) :
    ∃ h1 h'',gf R1 E1 V1 σ h'=.nx σ h1∧gf R2 E2 V2 σ h1=.nx σ h''∧RX n A h (zv F i (key,v)) h'':=by
  obtain⟨g,hg,lg⟩:=R.pre
  have ne2:∀ p∈eV n (F i),p.1≠key + n:=fun p hp z=>by
    obtain⟨q,hq,rfl⟩:=List.mem_map.mp hp
    exact ne q hq (Nat.add_right_cancel z)
  have l1:=R.lo i hi
  have lt1:=(List.getElem?_eq_some_iff.mp l1).1
  obtain⟨h1,hh1⟩ : ∃ h1,h1=h'.set (A + i) (.dct ((eV n (F i++[(key,v)])).map eN)):=⟨_,rfl⟩
  have st1:gf R1 E1 V1 σ h'=.nx σ h1:=by
    have e:(eV n (F i++[(key,v)])).map eN=wR ((eV n (F i)).map eN) ((key + n:Nat):Int) (.int v):=by
      rw [li ne2];unfold eV;rw [List.map_append];rfl
    rw [hh1,e]
    exact nV v1 r1 e1 l1 (by rw [List.length_map,tQ];exact Nat.lt_of_lt_of_le sz (by decide))
  have rf1:h1[A + 2 * n]? = some (.lst ((List.range (2 * n)).map fun i=>.ref (A + i))):=by rw [hh1,List.getElem?_set_ne (by omega)];exact R.rf
  have p1:h1=h++g.set i (.dct ((eV n (F i++[(key,v)])).map eN)):=by rw [hh1,hg,k8 hA]
  obtain⟨v2,r2,e2⟩:=nx h1 ⟨_,p1⟩ rf1
  have l2:h1[A + (n + i)]? = some (.dct ((F i).map eN)):=by rw [hh1,List.getElem?_set_ne (by omega)];exact R.hi i hi
  have lt2:=(List.getElem?_eq_some_iff.mp l2).1
  obtain⟨h2,hh2⟩ : ∃ h2,h2=h1.set (A + (n + i)) (.dct ((F i++[(key,v)]).map eN)):=⟨_,rfl⟩
  have st2:gf R2 E2 V2 σ h1=.nx σ h2:=by
    rw [hh2,← li ne]
    exact nV v2 r2 e2 l2 (by rw [List.length_map];exact Nat.lt_of_lt_of_le sz (by decide))
  refine⟨h1,h2,st1,st2,⟨_,by rw [hh2,p1,k8 hA],by rw [List.length_set,List.length_set];exact lg⟩,fun j hj => ?_,fun j hj => ?_,?_⟩
  · rw [hh2,List.getElem?_set_ne (by omega),hh1]
    unfold zv
    by_cases e:j=i
    · subst e
      rw [List.getElem?_set_self lt1,if_pos rfl]
    · rw [List.getElem?_set_ne (by omega),if_neg e];exact R.lo j hj
  · rw [hh2]
    unfold zv
    by_cases e:j=i
    · subst e
      rw [List.getElem?_set_self lt2,if_pos rfl]
    · rw [List.getElem?_set_ne (by omega),if_neg e,hh1,List.getElem?_set_ne (by omega)];exact R.hi j hj
  · rw [hh2,List.getElem?_set_ne (by omega)];exact rf1
end
theorem tR {n:Nat}{M:Nat→Nat→Int}{i k:Nat}:jA n M i (k + 1)=if 0 < M i k then jA n M i k++[(k,2 * M i k)] else jA n M i k:=by
  unfold jA
  rw [List.range_succ,List.filter_append,List.map_append]
  by_cases c:0 < M i k
  · have e : [k].filter (fun o=>decide (0 < M i o))=[k]:=by simp [c]
    rw [if_pos c,e];rfl
  · have e : [k].filter (fun o=>decide (0 < M i o))=[]:=by simp [c]
    rw [if_neg c,e];simp
theorem oY {n:Nat}{M:Nat→Nat→Int}{i k:Nat}:(jA n M i k).length≤k + 1:=by
  unfold jA
  rw [List.length_cons,List.length_map]
  have:=List.length_filter_le (fun o=>decide (0 < M i o)) (List.range k)
  rw [List.length_range] at this
  omega
def dB (n:Nat) (M:Nat→Nat→Int) (one:Nat):Nat→List (Nat × Int):=fun j=>if j < one then jA n M j n else []
def eK (n:Nat) (M:Nat→Nat→Int) (one oth:Nat):Nat→List (Nat × Int):=fun j=>if j < one then jA n M j n else if j=one then jA n M one oth else []
theorem Ge {n:Nat}{M:Nat→Nat→Int}{one:Nat}:zv (dB n M one) one (one,1)=eK n M one 0:=by
  funext j
  unfold zv dB eK
  by_cases e:j=one
  · subst e
    rw [if_pos rfl,if_neg (Nat.lt_irrefl _),if_neg (Nat.lt_irrefl _),if_pos rfl];rfl
  · rw [if_neg e,if_neg e]
theorem Gf {n:Nat}{M:Nat→Nat→Int}{one:Nat}:eK n M one n=dB n M (one + 1):=by
  funext j
  unfold dB eK
  by_cases e:j < one
  · rw [if_pos e,if_pos (Nat.lt_succ_of_lt e)]
  · rw [if_neg e]
    by_cases e2:j=one
    · rw [if_pos e2,if_pos (by omega),e2]
    · rw [if_neg e2,if_neg (by omega)]
theorem B5 {n:Nat}{M:Nat→Nat→Int}{one oth:Nat}(c:0 < M one oth):zv (eK n M one oth) one (oth,2 * M one oth)=eK n M one (oth + 1):=by
  funext j
  unfold zv eK
  by_cases e:j=one
  · subst e
    rw [if_pos rfl,if_neg (Nat.lt_irrefl _),if_pos rfl,if_neg (Nat.lt_irrefl _),if_pos rfl,tR,if_pos c]
  · rw [if_neg e,if_neg e,if_neg e]
theorem zw {n:Nat}{M:Nat→Nat→Int}{one oth:Nat}(c : ¬ 0 < M one oth):eK n M one oth=eK n M one (oth + 1):=by
  funext j
  unfold eK
  rw [tR,if_neg c]
noncomputable abbrev XD (td:D) (Z n bk sk A:Nat) (a6 a7 a8:Option D):Sd:=[some td,some (.ref (Z + n)),some (.ref bk),some (.ref sk),some (.int n),some (.ref (A + 2 * n)),a6,a7,a8]
section
variable {Z n:Nat} {M:Nat→Nat→Int} {bs:List Int} {ss:List (Option Int)} {bk sk:Nat} {h:Hd} {A:Nat} {td:D}
theorem JP (n:Nat):(2:Int) * (n:Int)=((2 * n:Nat):Int):=(Int.natCast_mul 2 n).symm
theorem Bl {i:Nat}(hi:i < 2 * n):atI ((List.range (2 * n)).map fun i=>D.ref (A + i)) (i:Int)=some (.ref (A + i)):=xi hi
theorem GO (m:Md Z n M bs ss bk sk h){h2:Hd}(p:∃ g,h2=h++g){i j:Nat}(hi:i < n)(hj:j < n)(a8:Option D):fAt (fAt (aa 1) (aa 6)) (aa 7) (XD td Z n bk sk A (some (.int i)) (some (.int j)) a8) h2=.ok (.int (M i j)) h2:=by
  obtain⟨g,rfl⟩:=p
  have m2:=m.more g
  exact a4 (a4 rfl rfl (aZ m2.mt.ti) (xi hi)) rfl (aZ (m2.mt.ro i hi)) (Ee hj)
theorem Eu (m:Md Z n M bs ss bk sk h)(hA:A=h.length){one:Nat}(h1:one < n){h0:Hd}(R:RX n A h (eK n M one 0) h0)(a7 a8:Option D) :
    ∃ a' h',eC (aV (aa 4)) (gN 7) jy (XD td Z n bk sk A (some (.int one)) a7 a8) h0=.nx (XD td Z n bk sk A (some (.int one)) a' a8) h'∧RX n A h (dB n M (one + 1)) h':=by
  have n30:=m.n30
  obtain⟨σ',h',k1,a',k2,k3⟩:=c5 (P:=fun i σ h'=>∃ a,σ = XD td Z n bk sk A (some (.int one)) a a8∧RX n A h (eK n M one i) h') (g:=none) (k:=0) (all:=(List.range n).map fun k:Nat=>D.int k) (fun _ _ _ _=>trivial)
    (xs:=(List.range n).map fun k:Nat=>D.int k) (tg:=gN 7) (σ:=XD td Z n bk sk A (some (.int one)) a7 a8) (h:=h0) (b:=jy) (by
      rintro i x σ h2 hx ⟨a,rfl,R2⟩
      obtain⟨hi,rfl⟩:=cL hx
      rw [Nat.zero_add] at R2 ⊢
      obtain⟨g,hg,lg⟩:=R2.pre
      have ce:=GO (td:=td) (A:=A) m ⟨g,hg⟩ h1 hi a8
      have tt:tE (af oGt (fAt (fAt (aa 1) (aa 6)) (aa 7)) (fC (.int 0))) (XD td Z n bk sk A (some (.int one)) (some (.int i)) a8) h2=.ok (decide (0 < M one i)) h2:=bu (ak ce rfl rfl)
      by_cases c:0 < M one i
      · rw [decide_eq_true c] at tt
        have st:eK n M one i one=jA n M one i:=by unfold eK;rw [if_neg (Nat.lt_irrefl _),if_pos rfl]
        obtain⟨h5,h3,q5,q3,R3⟩:=R2.put (σ:=XD td Z n bk sk A (some (.int one)) (some (.int i)) a8) (key:=i) (v:=2 * M one i) (R1:=fAt (aa 5) (aa 6)) (E1:=af bA (aa 7) (aa 4)) (V1:=af bh (fC (.int 2)) (fAt (fAt (aa 1) (aa 6)) (aa 7))) (R2:=fAt (aa 5) (af bA (aa 6) (aa 4))) (E2:=aa 7) (V2:=af bh (fC (.int 2)) (fAt (fAt (aa 1) (aa 6)) (aa 7))) hA h1 (fun p hp z=>by
            rw [st] at hp
            rcases jB.mp (show (p.1,p.2)∈jA n M one i from hp) with ⟨y,_⟩|⟨y,_⟩
            · rw [← y,z,m.mo.no i] at c;exact absurd c (by decide)
            · exact Nat.ne_of_lt y z) (by rw [st];have:=oY (n:=n) (M:=M) (i:=one) (k:=i);omega)
          (ak rfl ce (fm (by decide))) (a4 rfl rfl (aZ R2.rf) (Bl (by omega))) (ak rfl rfl (by show Res.ok (D.int ((i:Int) + (n:Int))) _=_;rw [Int.natCast_add]))
          (fun h4 p4 r4=>⟨ak rfl (GO (td:=td) (A:=A) m p4 h1 hi a8) (fm (by decide)),a4 rfl (ak rfl rfl (show bA (.int (one:Nat)) (.int (n:Nat)) h4=.ok (.int ((n + one:Nat):Int)) h4 by show Res.ok (D.int ((one:Int) + (n:Int))) _=_;rw [Int.natCast_add,Int.add_comm])) (aZ r4) (Bl (by omega)),rfl⟩)
        rw [B5 c] at R3
        exact⟨_,rfl,_,_,(za tt).trans ((bf q5).trans q3),_,rfl,R3⟩
      · rw [decide_eq_false c] at tt
        rw [zw c] at R2
        exact⟨_,rfl,_,_,(gS tt).trans rfl,_,rfl,R2⟩) ⟨_,rfl,R⟩
  have e0:0 + ((List.range n).map fun k:Nat=>D.int k).length=n:=by simp
  rw [e0,Gf] at k3
  rw [k2] at k1
  exact⟨a',h',fB (bR rfl (jt n30)) k1,k3⟩
theorem Ev (m:Md Z n M bs ss bk sk h)(hA:A=h.length){h0:Hd}(R:RX n A h (dB n M 0) h0)(a6 a7 a8:Option D) :
    ∃ b6 b7 h',eC (aV (aa 4)) (gN 6) jz (XD td Z n bk sk A a6 a7 a8) h0=.nx (XD td Z n bk sk A b6 b7 a8) h'∧RX n A h (dB n M n) h':=by
  have n30:=m.n30
  obtain⟨σ',h',k1,b6,b7,k2,k3⟩:=c5 (P:=fun i σ h'=>∃ a b,σ = XD td Z n bk sk A a b a8∧RX n A h (dB n M i) h') (g:=none) (k:=0) (all:=(List.range n).map fun k:Nat=>D.int k) (fun _ _ _ _=>trivial)
    (xs:=(List.range n).map fun k:Nat=>D.int k) (tg:=gN 6) (σ:=XD td Z n bk sk A a6 a7 a8) (h:=h0) (b:=jz) (by
      rintro i x σ h2 hx ⟨a,b,rfl,R2⟩
      obtain⟨hi,rfl⟩:=cL hx
      rw [Nat.zero_add] at R2 ⊢
      have st:dB n M i i=[]:=by unfold dB;rw [if_neg (Nat.lt_irrefl _)]
      obtain⟨h5,h3,q5,q3,R3⟩:=R2.put (σ:=XD td Z n bk sk A (some (.int i)) b a8) (key:=i) (v:=1) (R1:=fAt (aa 5) (aa 6)) (E1:=af bA (aa 6) (aa 4)) (V1:=fC (.int 1)) (R2:=fAt (aa 5) (af bA (aa 6) (aa 4))) (E2:=aa 6) (V2:=fC (.int 1)) hA hi (fun p hp=>by rw [st] at hp;cases hp) (by rw [st];decide)
        rfl (a4 rfl rfl (aZ R2.rf) (Bl (by omega))) (ak rfl rfl (by show Res.ok (D.int ((i:Int) + (n:Int))) _=_;rw [Int.natCast_add]))
        (fun h4 p4 r4=>⟨rfl,a4 rfl (ak rfl rfl (show bA (.int (i:Nat)) (.int (n:Nat)) h4=.ok (.int ((n + i:Nat):Int)) h4 by show Res.ok (D.int ((i:Int) + (n:Int))) _=_;rw [Int.natCast_add,Int.add_comm])) (aZ r4) (Bl (by omega)),rfl⟩)
      rw [Ge] at R3
      obtain⟨a',h4,q4,R4⟩:=Eu (td:=td) m hA hi R3 b a8
      exact⟨_,rfl,_,_,(bf q5).trans ((bf q3).trans q4),_,_,rfl,R4⟩) ⟨_,_,rfl,R⟩
  have e0:0 + ((List.range n).map fun k:Nat=>D.int k).length=n:=by simp
  rw [e0] at k3
  rw [k2] at k1
  exact⟨b6,b7,h',fB (bR rfl (jt n30)) k1,k3⟩
theorem zx {r:List (Nat × Int)}(nd:(r.map (·.1)).Nodup)(l64:r.length < 64){hc:Hd}{k:Nat}(hk:hc[k]? = some (.dct (r.map eN))) :
    ∃ g,cC (aT 1 [0] (cS (aL (jq (aa 0)))) (gN 0) [] (eB (ad (aa 0) (ad (w6 (aa 1) (aa 0)) ao)))) [some (.ref k)] hc=.ok (dn (bc r)) (hc++g):=by
  have e1:jq (aa 0) [some (.ref k)] hc=.ok (((bc r).map fun p=>(p.1:Int)).map .int) hc:=by
    show A0 (.ref k) hc=_
    simp only [A0,hk]
    rw [if_pos (by rw [List.length_map];exact l64),xr nd]
  obtain⟨ks,hks⟩ : ∃ ks:List D,ks=((bc r).map fun p=>(p.1:Int)).map .int:=⟨_,rfl⟩
  rw [← hks] at e1
  have e2:=gh e1 (by rw [hks,List.length_map,List.length_map,mx];exact Nat.le_trans (Nat.le_of_lt l64) (by decide))
  have g2:(hc++[cm.lst ks])[hc.length]? = some (.lst ks):=gG rfl _
  have hk2:(hc++[cm.lst ks])[k]? = some (.dct (r.map eN)):=cW _ hk
  refine⟨[.lst ks],?_⟩
  have c:=bv (g:=some hc.length) (all:=ks) (tg:=gN 0) (cs:=[]) (e:=eB (ad (aa 0) (ad (w6 (aa 1) (aa 0)) ao))) (h:=hc++[.lst ks]) (I:=fun σ=>∃ a,σ = [a,some (.ref k)]) (fun _=>true) (fun d=>match d with | .int j=>.tup [.int j,(je (r.map eN) j).getD .non] | _=>.non) g2 (xs:=ks) (σ:=[none,some (.ref k)]) (by
    rintro x hx σ ⟨a,rfl⟩
    rw [hks,List.map_map] at hx
    obtain⟨q,hq,rfl⟩:=List.mem_map.mp hx
    refine⟨_,rfl,⟨_,rfl⟩,rfl,fun _ => ?_⟩
    have dv:=uS nd (show (q.1,q.2)∈r from cr.mp hq)
    have da:w6 (aa 1) (aa 0) [some (.int (q.1:Int)),some (.ref k)] (hc++[.lst ks])=.ok (.int q.2) (hc++[.lst ks]):=ak rfl rfl (by simp only [FU,hk2,dv])
    refine (iC (gj rfl da)).trans ?_
    show _=Res.ok (D.tup [.int (q.1:Int),(je (r.map eN) (q.1:Int)).getD .non]) _
    rw [dv];rfl) ⟨_,rfl⟩
  refine gF (b5 (fq e2 g2) ?_)
  have cg:d6 1 [0] [some (D.ref k)] = [none,some (.ref k)]:=rfl
  rw [cg,c,List.filter_eq_self.mpr (fun _ _=>rfl)]
  congr 1
  rw [hks,List.map_map,List.map_map]
  refine List.map_congr_left fun q hq => ?_
  have dv:=uS nd (show (q.1,q.2)∈r from cr.mp hq)
  show D.tup [.int (q.1:Int),(je (r.map eN) (q.1:Int)).getD .non] = gR q
  rw [dv];rfl
theorem RX.row (m:Md Z n M bs ss bk sk h){h':Hd}(R:RX n A h (dB n M n) h'){i:Nat}(hi:i < 2 * n):h'[A + i]? = some (.dct ((my n M i).map eN)):=by
  unfold my
  by_cases c:i < n
  · have:=R.lo i c
    unfold dB at this
    rw [if_pos c] at this
    rw [if_pos c];exact this
  · have:=R.hi (i - n) (by omega)
    unfold dB at this
    rw [if_pos (show i - n < n by omega),show n + (i - n)=i by omega] at this
    rw [if_neg c];exact this
theorem Ew {i:Nat}:(my n M i).length≤n + 1:=by
  unfold my
  split
  · rw [tQ];exact oY
  · exact oY
theorem Ex (m:Md Z n M bs ss bk sk h){h':Hd}(R:RX n A h (dB n M n) h'):∃ g,bV (some (A + 2 * n)) ((List.range (2 * n)).map fun i=>.ref (A + i)) (gN 0) [] (cC (aT 1 [0] (cS (aL (jq (aa 0)))) (gN 0) [] (eB (ad (aa 0) (ad (w6 (aa 1) (aa 0)) ao))))) ((List.range (2 * n)).map fun i=>.ref (A + i)) [none] h'=.ok (((List.range (2 * n)).map fun i=>bc (my n M i)).map dn) (h'++g):=by
  have n30:=m.n30
  obtain⟨ds,h1,k1,l1,v1,σ1,-,g,hg⟩:=iB (g:=some (A + 2 * n)) (all:=(List.range (2 * n)).map fun i=>D.ref (A + i)) (tg:=gN 0) (xs:=(List.range (2 * n)).map fun i=>D.ref (A + i)) (k:=0)
    (e:=cC (aT 1 [0] (cS (aL (jq (aa 0)))) (gN 0) [] (eB (ad (aa 0) (ad (w6 (aa 1) (aa 0)) ao))))) (σ:=[none]) (h:=h')
    (P:=fun i σ h2=>(∃ a,σ = [a]) ∧ ∃ g,h2=h'++g) (V:=fun i d=>d=dn (bc (my n M i))) (fun i σ h2 ⟨_,g,e⟩=>by show h2[A + 2 * n]? = _;rw [e];exact cW _ R.rf) (by
      rintro i x σ h0 hx ⟨⟨a,rfl⟩,g,rfl⟩
      rw [Nat.zero_add]
      have hi:i < 2 * n:=by have:=(List.getElem?_eq_some_iff.mp hx).1;rwa [List.length_map,List.length_range] at this
      rw [List.getElem?_map,List.getElem?_range hi] at hx
      cases hx
      obtain⟨g2,q⟩:=zx (Bd m.mo i) (by have:=Ew (n:=n) (M:=M) (i:=i);omega) (cW g (R.row m hi))
      exact⟨_,rfl,_,_,q,rfl,⟨_,rfl⟩,g++g2,by rw [List.append_assoc]⟩) ⟨⟨_,rfl⟩,[],(List.append_nil _).symm⟩
  rw [List.length_map,List.length_range] at l1
  have e1:ds=(List.range (2 * n)).map fun i=>dn (bc (my n M i)):=kr l1 fun i d hd=>by have:=v1 i d hd;rwa [Nat.zero_add] at this
  exact⟨g,by rw [k1,e1,hg,List.map_map];rfl⟩
theorem B6 (m:Md Z n M bs ss bk sk h)(htd:td=.tup [.ref (Z + n),.ref bk,.ref sk]){T:List Tie}(L:LP n M n 0 T)(ok:TOk (2 * n) (2 * n) 0 (cE n T n)):eU [td] h=.ok (uR n T bs ss).enc h:=by
  have n30:=m.n30
  obtain⟨A,hA⟩ : ∃ A,A=h.length:=⟨_,rfl⟩
  have s1:aC (gT [1,2,3]) (aa 0) [some td,none,none,none,none,none,none,none,none] h=.nx [some td,some (.ref (Z + n)),some (.ref bk),some (.ref sk),none,none,none,none,none] h:=by rw [htd];rfl
  have s2:aC (gN 4) (dE (lOf (aa 2))) [some td,some (.ref (Z + n)),some (.ref bk),some (.ref sk),none,none,none,none,none] h=.nx [some td,some (.ref (Z + n)),some (.ref bk),some (.ref sk),some (.int n),none,none,none,none] h:=by
    have:=aG (i:=4) (gi (cI (a:=aa 2) (σ:=[some td,some (.ref (Z + n)),some (.ref bk),some (.ref sk),none,none,none,none,none]) rfl (aZ m.ba)))
    rw [List.length_map,m.lb] at this
    exact this
  obtain⟨h1,g,k1,hg,lg,g1⟩:=tG (n:=2 * n) hA
  obtain⟨h2,hh2⟩ : ∃ h2,h2=h1++[cm.lst ((List.range (2 * n)).map fun i=>.ref (A + i))]:=⟨_,rfl⟩
  have l1:h1.length=A + 2 * n:=by rw [hg,List.length_append,lg,hA]
  have s3:aC (gN 5) (aL (aT 1 [] (aV (af bh (fC (.int 2)) (aa 4))) (gN 0) [] mZ)) [some td,some (.ref (Z + n)),some (.ref bk),some (.ref sk),some (.int n),none,none,none,none] h=.nx (XD td Z n bk sk A none none none) h2:=by
    rw [hh2]
    exact aG (gH l1.symm (b5 (bR (n:=2 * n) (by rw [← JP];exact ak rfl rfl (fm (by decide))) (by omega)) k1) (by rw [List.length_map,List.length_range];exact Nat.le_trans (Nat.mul_le_mul_left 2 n30) (by decide)))
  have R0:RX n A h (dB n M 0) h2:=by
    have e0:∀ j,dB n M 0 j=[]:=fun j=>by unfold dB;rw [if_neg (Nat.not_lt_zero _)]
    refine⟨⟨g++[.lst ((List.range (2 * n)).map fun i=>.ref (A + i))],by rw [hh2,hg,List.append_assoc],by rw [List.length_append,lg];rfl⟩,fun j hj => ?_,fun j hj => ?_,by rw [hh2];exact gG l1.symm _⟩
    · rw [e0,hh2];exact cW _ (g1 j (by omega))
    · rw [e0,hh2];exact cW _ (g1 (n + j) (by omega))
  obtain⟨b6,b7,h3,s4,R⟩:=Ev (td:=td) m hA R0 none none none
  obtain⟨g5,q5⟩:=Ex m R
  obtain⟨h5,hh5⟩ : ∃ h5,h5=h3++g5:=⟨_,rfl⟩
  rw [← hh5] at q5
  obtain⟨rws,hr⟩ : ∃ rws,rws=D.tup (((List.range (2 * n)).map fun i=>bc (my n M i)).map dn):=⟨_,rfl⟩
  have s5:aC (gN 8) (cC (aT 1 [] (cS (aa 5)) (gN 0) [] (cC (aT 1 [0] (cS (aL (jq (aa 0)))) (gN 0) [] (eB (ad (aa 0) (ad (w6 (aa 1) (aa 0)) ao))))))) (XD td Z n bk sk A b6 b7 none) h3=.nx (XD td Z n bk sk A b6 b7 (some rws)) h5:=by rw [hr];exact aG (gF (b5 (fq rfl R.rf) q5))
  obtain⟨g3,hg3,_⟩:=R.pre
  have hx5:∃ gx,h5=h++gx:=⟨g3++g5,by rw [hh5,hg3,List.append_assoc]⟩
  obtain⟨gx,hx⟩:=hx5
  have m5:Md Z n M bs ss bk sk h5:=by rw [hx];exact m.more _
  have lz:∀ {l:List D},l.length=n→l.length + l.length≤SZ:=fun {l} e=>by rw [e];exact Nat.le_trans (Nat.add_le_add n30 n30) (by decide)
  have cb:cQ (aa 2) (aa 2) (XD td Z n bk sk A b6 b7 (some rws)) h5=.ok ((bs++bs).map .int) h5:=by
    rw [List.map_append];exact gK rfl rfl m5.ba m5.ba (lz (by rw [List.length_map,m.lb]))
  have cs:cQ (aa 3) (aa 3) (XD td Z n bk sk A b6 b7 (some rws)) h5=.ok ((ss++ss).map bW) h5:=by
    rw [List.map_append];exact gK rfl rfl m5.st m5.st (lz (by rw [List.length_map,m.ls]))
  have lbb:((bs++bs).map D.int).length≤SZ:=by rw [List.length_map,List.length_append,m.lb];exact Nat.le_trans (Nat.add_le_add n30 n30) (by decide)
  have ib:BE (cQ (aa 2) (aa 2)) (XD td Z n bk sk A b6 b7 (some rws)) h5=.ok ((bs++bs).map .int,none) h5:=by
    show Res.bind _ _=_
    rw [cb];rfl
  have bq:cC (aT 1 [] (BE (cQ (aa 2) (aa 2))) (gN 0) [] (af bA (af bh (fC (.int 2)) (aa 0)) (fC (.int 1)))) (XD td Z n bk sk A b6 b7 (some rws)) h5=.ok (.tup ((el bs++el bs).map .int)) h5:=by
    have e:el bs++el bs=el (bs++bs):=by unfold el;rw [List.map_append]
    rw [e]
    exact gF (b5 ib (tO (g:=none) trivial))
  have ew:(uR n T bs ss).enc=.tup [rws,.tup ((el bs++el bs).map .int),.tup ((ss++ss).map bW)]:=by
    have:(uR n T bs ss).ties=(List.range (2 * n)).map fun i=>bc (my n M i):=by
      show ((List.range (2 * n)).map fun i=>bc (nbs (cE n T n) i))=_
      exact List.map_congr_left fun i hi=>B2 m.mo L ok i (List.mem_range.mp hi)
    rw [hr,← this];rfl
  have s6:bo (eB (ad (aa 8) (ad (cC (aT 1 [] (BE (cQ (aa 2) (aa 2))) (gN 0) [] (af bA (af bh (fC (.int 2)) (aa 0)) (fC (.int 1))))) (ad (cC (cQ (aa 3) (aa 3))) ao)))) (XD td Z n bk sk A b6 b7 (some rws)) h5=.rt (uR n T bs ss).enc h5:=by
    rw [ew]
    exact bP (iC (ag rfl (ag bq (ag (gF cs) rfl))) (by exact of_decide_eq_true rfl))
  refine (eJ (σ:=[some td,none,none,none,none,none,none,none,none]) rfl rfl ((bf s1).trans ((bf s2).trans ((bf s3).trans ((bf s4).trans ((bf s5).trans s6)))))).trans ?_
  rw [hx]
  exact dy (lf _)
end
end Fm
set_option linter.all false
namespace Fm
theorem jC {α : Type}{f : α → D}:∀ {l:List α},(∀ x∈l,okR (f x)=true)→ml (l.map f)=true
  | [],_=>rfl
  | x :: l,h=>by
    have a:=h x (by simp)
    have b:=jC (f:=f) (l:=l) fun y hy=>h y (by simp [hy])
    simp only [List.map_cons,ml,a,b,Bool.and_self]
theorem ii {α : Type}{f : α → D}{k:Nat}:∀ {l:List α},(∀ x∈l,jp (f x)≤k)→i7 (l.map f)≤(k + 1) * l.length
  | [],_=>by simp [i7]
  | x :: l,h=>by
    have a:=h x (by simp)
    have b:=ii (l:=l) fun y hy=>h y (by simp [hy])
    simp only [List.map_cons,i7,List.length_cons,Nat.mul_succ]
    omega
theorem Ey {n:Nat}(hn:n≤30){T:List Tie}(O:TOk n n 0 T){bs:List Int}{ss:List (Option Int)}(lb:bs.length=n)(ls:ss.length=n)(os:∀ x∈ss,x=none∨x=some 0∨x=some 1)(bb:∀ x∈bs,-20000≤x∧x≤20000) :
    okR (bg n T bs ss).enc=true∧jp (bg n T bs ss).enc≤1000000:=by
  have pr:∀ i,i < n → ∀ p∈bc (nbs T i),p.1 < 30∧1≤p.2∧p.2≤400:=fun i _ p hp=>by
    have hp:=cr.mp hp
    have l:=oS O.lt p hp
    obtain⟨t,ht,_,q⟩:=uK.mp hp
    have w:=O.wt t ht
    rw [q] at w
    exact⟨by omega,w⟩
  have r1:ml ((bg n T bs ss).ties.map dn)=true:=jC fun r hr=>by
    obtain⟨i,hi,rfl⟩:=List.mem_map.mp hr
    have hi:=List.mem_range.mp hi
    simp only [dn,okR]
    refine jC fun p hp => ?_
    obtain⟨a,b,c⟩:=pr i hi p hp
    simp only [gR,okR,ml,Bool.and_true,Bool.and_eq_true,decide_eq_true_eq]
    exact⟨by omega,by omega⟩
  have r2:ml (bs.map D.int)=true:=jC fun x hx=>by
    have:=bb x hx
    simp only [okR,decide_eq_true_eq]
    omega
  have r3:ml (ss.map bW)=true:=jC fun x hx=>by
    rcases os x hx with e|e|e<;>subst e<;>decide
  have c1:i7 ((bg n T bs ss).ties.map dn)≤(1890 + 1) * (bg n T bs ss).ties.length:=ii fun r hr=>by
    obtain⟨i,hi,rfl⟩:=List.mem_map.mp hr
    have c:=ii (f:=gR) (k:=62) (l:=bc (nbs T i)) fun p _=>by simp [gR,jp,i7]
    have l:=A9 O.lt O.un i
    rw [mx] at c
    simp only [dn,jp]
    omega
  have c2:i7 (bs.map D.int)≤(30 + 1) * bs.length:=ii fun x _=>by simp [jp]
  have c3:i7 (ss.map bW)≤(30 + 1) * ss.length:=ii fun x _=>by cases x<;>simp [bW,jp]
  have lt:(bg n T bs ss).ties.length=n:=by simp [bg]
  rw [lt] at c1
  constructor
  · show okR (.tup [.tup ((bg n T bs ss).ties.map dn),.tup (bs.map .int),.tup (ss.map bW)])=true
    simp only [okR,ml,r1,r2,r3,Bool.and_self]
  · show jp (.tup [.tup ((bg n T bs ss).ties.map dn),.tup (bs.map .int),.tup (ss.map bW)])≤1000000
    simp only [jp,i7]
    omega
theorem Bm (x:List Nat)(h:Hd):oEq (.str x) (.str x) h=.ok (.bl true) h:=by
  have:eqG h (.str x) (.str x)=some true:=by
    show (if dep (.str x)≤20 then peq (.str x) (.str x) else none)=some true
    rw [if_pos (by exact Nat.zero_le _)]
    simp [peq]
  simp only [oEq,this]
theorem Gg {h:Hd}{a c:Nat}{l k:List D}{b:Bool}(h1:h[a]? = some (.lst l))(h2:h[c]? = some (.lst k))(e:eqL l k=some b):oNe (.ref a) (.ref c) h=.ok (.bl (!b)) h:=by
  simp only [oNe,eqG,gw,h1,h2,e]
theorem iG {t:Ty}{a:EF}{σ:Sd}{h h1:Hd}{x:D}{b:Bool}(p:a σ h=.ok x h1)(q:yQ h1 t x=some b):cN t a σ h=.ok (.bl b) h1:=by simp only [cN,p,ax,q]
theorem Ez (w:Web)(h:Hd):ig [w.enc] h=.ok (.bl true) h:=by
  obtain⟨e,he⟩ : ∃ e:D,e=w.enc:=⟨_,rfl⟩
  obtain⟨A,hA⟩ : ∃ A,A=h.length:=⟨_,rfl⟩
  have a0:∀ (a b:Option D),fAt (aa 0) (fC (.int 0)) [some e,a,b] h=.ok (.tup (w.ties.map dn)) h:=fun a b=>by rw [he];exact a4 rfl rfl rfl rfl
  obtain⟨σ',h',k1,a,b,k2,k3⟩:=c5 (P:=fun _ σ h'=>∃ a b,σ = [some e,a,b]∧h'=h) (g:=none) (k:=0) (all:=w.ties.map dn) (fun _ _ _ _=>trivial) (xs:=w.ties.map dn) (tg:=gN 1) (σ:=[some e,none,none]) (h:=h) (b:=kA) (by
    rintro i x σ h0 hx ⟨a,b,rfl,rfl⟩
    obtain⟨r,_,rfl⟩:=List.mem_map.mp (List.mem_of_getElem? hx)
    obtain⟨b',q⟩:=uQ (g:=none) (all:=r.map gR) (tg:=gN 2) (B:=oV) (σ:=fun a=>[some e,some (dn r),a]) (h:=h0) trivial (fun _ _=>rfl) (xs:=r.map gR) b (fun x hx=>by
      obtain⟨p,_,rfl⟩:=List.mem_map.mp hx
      exact gS (i8 (ed (b:=true) (bu (iG rfl rfl))) (i8 (bu (iG (a4 rfl rfl rfl rfl) rfl)) (ed (b:=true) (bu (iG (a4 rfl rfl rfl rfl) rfl))))))
    exact⟨_,rfl,_,_,fB (jr rfl) q,_,_,rfl,rfl⟩) ⟨_,_,rfl,rfl⟩
  rw [k2,k3] at k1
  have s1:eC (cS (fAt (aa 0) (fC (.int 0)))) (gN 1) kA [some e,none,none] h=.nx [some e,a,b] h:=fB (jr (a0 _ _)) k1
  have c:bV none [.tup (w.ties.map dn),.tup (w.bars.map .int),.tup (w.stays.map bW)] (gN 0) [(dU (tE (cN .tuple (aa 0))))] (aa 0) [.tup (w.ties.map dn),.tup (w.bars.map .int),.tup (w.stays.map bW)] [none] h=.ok [] h:=by
    have:=bv (g:=none) (all:=[.tup (w.ties.map dn),.tup (w.bars.map .int),.tup (w.stays.map bW)]) (tg:=gN 0) (cs:=[(dU (tE (cN .tuple (aa 0))))]) (e:=aa 0) (h:=h) (I:=fun σ=>∃ a,σ = [a]) (fun _=>false) (fun d=>d) trivial (xs:=[.tup (w.ties.map dn),.tup (w.bars.map .int),.tup (w.stays.map bW)]) (σ:=[none]) (by
      rintro x hx σ ⟨a,rfl⟩
      obtain⟨l,rfl⟩ : ∃ l,x=.tup l:=by
        simp only [List.mem_cons,List.not_mem_nil,or_false] at hx
        rcases hx with rfl|rfl|rfl<;>exact⟨_,rfl⟩
      exact⟨_,rfl,⟨_,rfl⟩,BT (ed (b:=true) (bu (iG rfl rfl))),fun z=>by cases z⟩) ⟨_,rfl⟩
    exact this
  have n1:aL (aT 1 [] (cS (aa 0)) (gN 0) [(dU (tE (cN .tuple (aa 0))))] (aa 0)) [some e,a,b] h=.ok (.ref A) (h++[.lst []]):=by
    rw [he];exact gH hA (b5 (jr rfl) c) (Nat.zero_le _)
  have n2:aL ao [some e,a,b] (h++[.lst []])=.ok (.ref (A + 1)) (h++[.lst [],.lst []]):=dG (g:=[.lst []]) hA rfl (Nat.zero_le _)
  have q:oEq (.ref A) (.ref (A + 1)) (h++[.lst [],.lst []])=.ok (.bl true) (h++[.lst [],.lst []]):=Bj (bT hA 0) (bT hA 1) (by decide)
  have ty:tE (cN .tuple (aa 0)) [some e,a,b] h=.ok true h:=by rw [he];exact bu (iG rfl rfl)
  rw [← he]
  exact (eJ (σ:=[some e,none,none]) rfl rfl ((bf s1).trans (bP (jY (oP ty (bu (ak n1 n2 q))))))).trans (dy rfl)
theorem Bn {n d k:Nat}(h:k≤n):sIx n d (some (k:Int))=k:=by
  show (if (k:Int) < 0 then ((k:Int) + (n:Nat)).toNat else min ((k:Int)).toNat n)=k
  rw [if_neg (Int.not_lt.mpr (Int.natCast_nonneg k)),Int.toNat_natCast]
  exact Nat.min_eq_left h
theorem IC {l:List D}{k:Nat}(h:k≤l.length):cut l none (some (k:Int))=l.take k:=by
  unfold cut
  rw [Bn h];rfl
theorem ID {l:List D}{k:Nat}(h:k≤l.length):cut l (some (k:Int)) none=l.drop k:=by
  unfold cut
  rw [Bn h]
  show List.take (l.length - k) (l.drop k)=_
  exact List.take_of_length_le (by rw [List.length_drop];exact Nat.le_refl _)
theorem xt {e k:EF}{σ:Sd}{h:Hd}{l:List D}{n:Nat}(pe:e σ h=.ok (.tup l) h)(pk:k σ h=.ok (.int (n:Nat)) h)(ln:l.length=2 * n)(n1:1≤n):gO e pNo (pAt k) σ h=.ok (.tup (l.take n)) h:=by
  simp only [gO,pe,ax,pNo,pAt,pk]
  rw [if_neg (fun z=>by rw [Bn (by omega)] at z;omega),IC (by omega)]
theorem xu {e k:EF}{σ:Sd}{h:Hd}{l:List D}{n:Nat}(pe:e σ h=.ok (.tup l) h)(pk:k σ h=.ok (.int (n:Nat)) h)(ln:l.length=2 * n)(n1:1≤n):gO e (pAt k) pNo σ h=.ok (.tup (l.drop n)) h:=by
  simp only [gO,pe,ax,pNo,pAt,pk]
  rw [if_neg (fun z=>by rw [Bn (by omega)] at z;omega),ID (by omega)]
theorem oZ {e:EF}{σ:Sd}{h:Hd}{l:List D}{n:Nat}(pe:e σ h=.ok (.tup l) h)(ln:l.length=2 * n):af fI (dE (lOf e)) (fC (.int 2)) σ h=.ok (.int (n:Nat)) h:=by
  have a:=gi (cI (l:=l) pe rfl)
  have e2:((l.length:Nat):Int) / 2=(n:Nat):=by rw [ln];omega
  rw [← e2]
  exact ak a rfl (gU (by decide) (by decide))
theorem B7 {l:List D}{n:Nat}(ln:l.length=2 * n)(n1:1≤n)(h:Hd):jx [.tup l] h=.ok (.tup [.tup (l.take n),.tup (l.drop n)]) h :=
  (eJ rfl rfl ((bf (aG (oZ rfl ln))).trans (bP (iC (gj (xt rfl rfl ln n1) (xu rfl rfl ln n1)))))).trans cT
theorem xv {a b:List D}(z:a.length + b.length≤SZ)(h:Hd):iF [.tup a,.tup b] h=.ok (.tup (a++b)) h :=
  (eJ rfl rfl (bP (ak (x:=.tup a) (y:=.tup b) rfl rfl (by simp only [AV,if_pos z])))).trans cT
theorem lw {f:Nat→Int}{b:Int}:∀ {k:Nat},b < gE f k ↔ ∃ i,i≤k∧b < f i
  | 0=>⟨fun h=>⟨0,Nat.le_refl _,h⟩,fun ⟨i,hi,h⟩=>by rw [Nat.le_zero.mp hi] at h;exact h⟩
  | k + 1=>by
    have ih:=lw (f:=f) (b:=b) (k:=k)
    unfold gE
    constructor
    · intro h
      by_cases c:f (k + 1) > gE f k
      · rw [if_pos c] at h;exact⟨k + 1,Nat.le_refl _,h⟩
      · rw [if_neg c] at h
        obtain⟨i,hi,q⟩:=ih.mp h
        exact⟨i,Nat.le_succ_of_le hi,q⟩
    · rintro⟨i,hi,q⟩
      by_cases c:f (k + 1) > gE f k
      · rw [if_pos c]
        by_cases e:i=k + 1
        · rw [← e];exact q
        · exact Int.lt_trans (ih.mpr ⟨i,by omega,q⟩) c
      · rw [if_neg c]
        by_cases e:i=k + 1
        · rw [e] at q;exact Int.lt_of_lt_of_le q (Int.not_lt.mp c)
        · exact ih.mpr ⟨i,by omega,q⟩
theorem Bo {a:LF}{σ:Sd}{h h1:Hd}{is:List Int}(p:a σ h=.ok (is.map .int) h1)(ne:0 < is.length):oM a σ h=.ok (.int (gE (fun i=>is.getD i 0) (is.length - 1))) h1:=by
  simp only [oM,p,ax,FT,tq,if_pos ne]
section
variable {Z n:Nat} {M:Nat→Nat→Int} {bs:List Int} {ss:List (Option Int)} {bk sk:Nat} {h:Hd} {td:D}
def mxR (n:Nat) (M:Nat→Nat→Int) (i:Nat):Int:=gE (fun j=>(ef M n i).getD j 0) (n - 1)
theorem tS {i j:Nat}(hj:j < n):(ef M n i).getD j 0=M i j:=by simp [ef,List.getD,hj]
theorem EA (m:Md Z n M bs ss bk sk h):bV (some (Z + n)) ((List.range n).map fun i=>D.ref (Z + i)) (gN 0) [] (oM (lOf (aa 0))) ((List.range n).map fun i=>D.ref (Z + i)) [none] h=.ok (((List.range n).map (mxR n M)).map .int) h:=by
  have n1:=m.n1
  have:=bv (g:=some (Z + n)) (all:=(List.range n).map fun i=>D.ref (Z + i)) (tg:=gN 0) (cs:=[]) (e:=oM (lOf (aa 0))) (h:=h) (I:=fun σ=>∃ a,σ = [a]) (fun _=>true) (fun d=>match d with | .ref k=>.int (mxR n M (k - Z))|_=>.non) m.mt.ti (xs:=(List.range n).map fun i=>D.ref (Z + i)) (σ:=[none]) (by
    rintro x hx σ ⟨a,rfl⟩
    obtain⟨i,hi,rfl⟩:=List.mem_map.mp hx
    have hi:=List.mem_range.mp hi
    refine⟨_,rfl,⟨_,rfl⟩,rfl,fun _ => ?_⟩
    have lr:(ef M n i).length=n:=by simp [ef]
    refine (Bo (cI rfl (aZ (m.mt.ro i hi))) (by rw [lr];omega)).trans ?_
    show _=Res.ok (D.int (mxR n M (Z + i - Z))) h
    rw [Nat.add_sub_cancel_left,lr];rfl) ⟨_,rfl⟩
  rw [this,List.filter_eq_self.mpr (fun _ _=>rfl),List.map_map,List.map_map]
  congr 1
  refine List.map_congr_left fun i _ => ?_
  show D.int (mxR n M (Z + i - Z))=_
  rw [Nat.add_sub_cancel_left];rfl
theorem EB (m:Md Z n M bs ss bk sk h)(htd:td=.tup [.ref (Z + n),.ref bk,.ref sk])(x0 x1 x3 x4:Option D):∃ b:Bool,Em [x0,x1,some td,x3,x4,none,none,none,none] h=.nx [x0,x1,some td,x3,x4,some (.bl b),none,none,none] h∧(b=true ↔ 15 < n∨lu n M):=by
  have n1:=m.n1
  obtain⟨σ,hσ⟩ : ∃ σ:Sd,σ = [x0,x1,some td,x3,x4,none,none,none,none]:=⟨_,rfl⟩
  have a1:fAt (aa 2) (fC (.int 1)) σ h=.ok (.ref bk) h:=by rw [hσ,htd];exact a4 rfl rfl rfl rfl
  have a0:fAt (aa 2) (fC (.int 0)) σ h=.ok (.ref (Z + n)) h:=by rw [hσ,htd];exact a4 rfl rfl rfl rfl
  have ln:dE (lOf (fAt (aa 2) (fC (.int 1)))) σ h=.ok (.int n) h:=by
    have:=gi (cI a1 (aZ m.ba))
    rwa [List.length_map,m.lb] at this
  have t1:tE (af oGt (dE (lOf (fAt (aa 2) (fC (.int 1))))) (fC (.int 15))) σ h=.ok (decide ((15:Int) < n)) h:=bu (ak ln rfl rfl)
  rw [← hσ]
  by_cases c:15 < n
  · refine⟨true,?_,fun _=>.inl c,fun _=>rfl⟩
    rw [decide_eq_true (show (15:Int) < n by omega)] at t1
    refine (aG (jY (D5 t1))).trans ?_
    rw [hσ];rfl
  · rw [decide_eq_false (show ¬ (15:Int) < n by omega)] at t1
    have q:=Bo (b5 (nl:=1) (caps:=[]) (fq a0 m.mt.ti) (EA m)) (by rw [List.length_map,List.length_range];omega)
    obtain⟨X,hX⟩ : ∃ X,X=gE (fun i=>((List.range n).map (mxR n M)).getD i 0) (((List.range n).map (mxR n M)).length - 1):=⟨_,rfl⟩
    rw [← hX] at q
    refine⟨decide (200 < X),?_,?_⟩
    · refine (aG (jY (i8 t1 (bu (ak q rfl rfl))))).trans ?_
      rw [hσ];rfl
    · rw [decide_eq_true_eq,hX,lw,List.length_map,List.length_range]
      have gt:∀ i,i < n→((List.range n).map (mxR n M)).getD i 0=mxR n M i:=fun i hi=>by simp [List.getD,hi]
      constructor
      · rintro⟨i,hi,z⟩
        have hi:i < n:=by omega
        rw [gt i hi] at z
        obtain⟨j,hj,z⟩:=lw.mp z
        rw [tS (show j < n by omega)] at z
        exact .inr ⟨i,j,hi,by omega,z⟩
      · rintro (z|⟨i,j,hi,hj,z⟩)
        · exact absurd z c
        · exact⟨i,by omega,by rw [gt i hi];exact lw.mpr ⟨j,by omega,by rw [tS hj];exact z⟩⟩
end
theorem Gh (w:Web):eqL [w.enc] [w.enc] = some true:=by
  obtain⟨p,q⟩:=A4 w
  unfold eqL
  rw [if_pos (by show max (dep w.enc) 0≤20;exact Nat.max_le.mpr ⟨q,Nat.zero_le _⟩),if_pos rfl]
  simp only [fv,p];rfl
theorem IE (a b:List Int)(h:Hd):oNe (.tup [bC a,bC b]) (.tup [bC a,bC b]) h=.ok (.bl false) h:=by
  have pa:=uJ (a:=a) (b:=a) rfl
  have pb:=uJ (a:=b) (b:=b) rfl
  rw [decide_eq_true rfl] at pa pb
  have e:peq (.tup [bC a,bC b]) (.tup [bC a,bC b])=some true:=by
    simp only [peq,fv,pa,pb];rfl
  have d:dep (.tup [bC a,bC b])≤20:=by
    simp only [dep,ja,A5];decide
  have g:eqG h (.tup [bC a,bC b]) (.tup [bC a,bC b])=some true:=by
    show (if dep (.tup [bC a,bC b])≤20 then peq (.tup [bC a,bC b]) (.tup [bC a,bC b]) else none)=_
    rw [if_pos d,e]
  simp only [oNe,g];rfl
theorem IG (ns:List Int)(hns:ns.length≤63):∃ h,xk [.lit (ns.map .int)] []=.ok (.bl true) h:=by
  obtain⟨way,hway⟩:=tK ns 0 (by decide)
  obtain⟨c4,hc4⟩:=tK ns 4 (by decide)
  obtain⟨mo,hmo⟩ : ∃ mo:Int,mo=if way / 1024 % 8=3 then 17 else 7:=⟨_,rfl⟩
  have mo0:0 < mo:=by rw [hmo];split<;>decide
  have mo1:mo≤17:=by rw [hmo];split<;>decide
  obtain⟨n,M,bs,ss,bk,sk,h1,P⟩:=Eg ns mo0 mo1
  have n30:=P.n30
  have m:Md 0 n M bs ss bk sk h1:=⟨P.n1,P.n30,P.mt,P.mo,P.ba,P.st,P.lb,P.ls,P.os⟩
  obtain⟨td,htd⟩ : ∃ td:D,td=.tup [.ref (0 + n),.ref bk,.ref sk]:=⟨_,rfl⟩
  obtain⟨S0,hS0⟩ : ∃ S0:D,S0=.lit (ns.map .int):=⟨_,rfl⟩
  rw [← hS0] at hway hc4
  obtain⟨T,ql,LL⟩:=Eh m
  have mq:=F7 m ql LL
  obtain⟨w,hw⟩ : ∃ w:D,w=(bg n T bs ss).enc:=⟨_,rfl⟩
  rw [← htd,← hw] at mq
  have run:=P.run
  rw [← htd,← hS0] at run
  obtain⟨rok,rct⟩:=Ey n30 LL.ok P.lb P.ls P.os P.bb
  have rdp:=(A4 (bg n T bs ss)).2
  rw [← hw] at rok rct rdp
  obtain⟨kx,hkx⟩ : ∃ kx,kx=DZ w:=⟨_,rfl⟩
  have rp:∀ (σ:Sd) (h:Hd) (x0 x1 x2:Option D),tf (aa 3) (x0 :: x1 :: x2 :: some w :: σ) h=.ok (.str kx) h:=fun σ h x0 x1 x2=>by
    have v:aa 3 (x0 :: x1 :: x2 :: some w :: σ) h=.ok w h:=rfl
    obtain⟨l,hl⟩ : ∃ l,w=.tup l:=⟨_,hw⟩
    unfold tf
    rw [v,hkx]
    simp only [ax]
    rw [hl] at rok rct rdp ⊢
    simp only [if_pos (show okR (.tup l)=true∧dep (.tup l)≤20∧jp (.tup l)≤1000000 from ⟨rok,rdp,rct⟩)]
  have e0:Ei [some S0,none,none,none,none,none,none,none,none] []=.nx [some S0,some (.int way),none,none,none,none,none,none,none] []:=aG (aw (gj rfl rfl) (hway _))
  have ix:fIx (ad (fC (.int 7)) (ad (fC (.int 17)) ao)) (Dk (af oEq (af ck (af fI (aa 1) (fC (.int 1024))) (fC (.int 8))) (fC (.int 3)))) [some S0,some (.int way),none,none,none,none,none,none,none] []=.ok (.int mo) []:=by
    refine A2 (gj rfl rfl) (Ik (ak (ak (ak rfl rfl (gU (by decide) (by decide))) rfl (cV (by decide))) rfl A3)) ?_
    rw [hmo]
    by_cases c:way / 1024 % 8=3
    · rw [decide_eq_true c,if_pos c];rfl
    · rw [decide_eq_false c,if_neg c];rfl
  have e1:Ej [some S0,some (.int way),none,none,none,none,none,none,none] []=.nx [some S0,some (.int way),some td,none,none,none,none,none,none] h1:=aG (aw (gj rfl ix) run)
  have e2:Ek [some S0,some (.int way),some td,none,none,none,none,none,none] h1=.nx [some S0,some (.int way),some td,some w,none,none,none,none,none] h1:=aG (aw (ag rfl rfl) mq)
  have e3:El [some S0,some (.int way),some td,some w,none,none,none,none,none] h1=.nx [some S0,some (.int way),some td,some w,some (.str kx),none,none,none,none] h1:=aG (rp _ _ _ _ _)
  obtain⟨b,e4,hb⟩:=EB m htd (some S0) (some (.int way)) (some w) (some (.str kx))
  have go:∀ {o:Out},(av uL (av uM (av zk (av zl (av zm (av uN uO)))))) [some S0,some (.int way),some td,some w,some (.str kx),some (.bl b),none,none,none] h1=o→(∃ g,o=.rt (.bl true) (h1++g)) → ∃ h,xk [.lit (ns.map .int)] []=.ok (.bl true) h:=fun {o} e ⟨g,q⟩=>by
    rw [← hS0]
    refine⟨_,(eJ (σ:=[some S0,none,none,none,none,none,none,none,none]) rfl rfl ((bf e0).trans ((bf e1).trans ((bf e2).trans ((bf e3).trans ((bf e4).trans (e.trans q))))))).trans (dy (h:=[]) (g:=h1++g) rfl)⟩
  by_cases c:b=true
  · have gr:=hb.mp c
    subst c
    obtain⟨k,g,q1,q2⟩:=Et (bs:=bs) (ss:=ss) n30 LL gr h1
    rw [← hw] at q1
    obtain⟨k',g',d1,d2⟩:=IA 2 (h1++g)
    have e5:uL [some S0,some (.int way),some td,some w,some (.str kx),some (.bl true),none,none,none] h1=.nx [some S0,some (.int way),some td,some w,some (.str kx),some (.bl true),some (.ref k),none,none] (h1++g):=aG (aw (ag rfl rfl) q1)
    have e6:uM [some S0,some (.int way),some td,some w,some (.str kx),some (.bl true),some (.ref k),none,none] (h1++g)=.rt (.bl true) (h1++g++g'):=(za (bu (by rfl))).trans (bP (jY (oP (bu (ak rfl (aw (ag rfl rfl) d1) (Bj (cW _ q2) d2 IB))) (bu (ak (rp _ _ _ _ _) rfl (Bm kx _))))))
    exact go ((bf e5).trans (GH e6)) ⟨g++g',by rw [List.append_assoc]⟩
  · have ng : ¬ (15 < n∨lu n M):=fun z=>c (hb.mpr z)
    have c:b=false:=by cases b<;>first|rfl|exact absurd rfl c
    subst c
    have n15:n≤15:=Nat.not_lt.mp fun z=>ng (.inl z)
    have nh : ¬ lu n M:=fun z=>ng (.inr z)
    have w2:∀ i j,i < n→j < n→M i j≤200:=fun i j hi hj=>Int.not_lt.mp fun z=>nh ⟨i,j,hi,hj,z⟩
    have ok:=xm P.n1 n15 P.mo w2 LL
    have q1:=Es P.n1 n15 P.mo LL nh P.lb P.ls P.os h1
    rw [← hw] at q1
    obtain⟨A,hA⟩ : ∃ A,A=h1.length:=⟨_,rfl⟩
    obtain⟨W,hW⟩ : ∃ W,W=uR n T bs ss:=⟨_,rfl⟩
    rw [← hA,← hW] at q1
    have m2:Md 0 n M bs ss bk sk (h1++[.lst [W.enc]]):=m.more _
    have dq:=B6 m2 htd LL ok
    rw [← hW] at dq
    have e5:uL [some S0,some (.int way),some td,some w,some (.str kx),some (.bl false),none,none,none] h1=.nx [some S0,some (.int way),some td,some w,some (.str kx),some (.bl false),some (.ref A),none,none] (h1++[.lst [W.enc]]):=aG (aw (ag rfl rfl) q1)
    have e6:uM [some S0,some (.int way),some td,some w,some (.str kx),some (.bl false),some (.ref A),none,none] (h1++[.lst [W.enc]])=.nx [some S0,some (.int way),some td,some w,some (.str kx),some (.bl false),some (.ref A),none,none] (h1++[.lst [W.enc]]):=gS (bu (by rfl))
    have nw:aL (ad (aq eU (ad (aa 2) ao)) ao) [some S0,some (.int way),some td,some w,some (.str kx),some (.bl false),some (.ref A),none,none] (h1++[.lst [W.enc]])=.ok (.ref (A + 1)) (h1++[.lst [W.enc],.lst [W.enc]]):=dG (g:=[.lst [W.enc]]) hA (ag (aw (ag rfl rfl) dq) rfl) (by exact of_decide_eq_true rfl)
    obtain⟨h3,hh3⟩ : ∃ h3,h3=h1++[cm.lst [W.enc],.lst [W.enc]]:=⟨_,rfl⟩
    rw [← hh3] at nw
    have gA:h3[A]? = some (.lst [W.enc]):=by rw [hh3];exact bT hA 0
    have gB:h3[A + 1]? = some (.lst [W.enc]):=by rw [hh3];exact bT hA 1
    have e7:zk [some S0,some (.int way),some td,some w,some (.str kx),some (.bl false),some (.ref A),none,none] (h1++[.lst [W.enc]])=.nx [some S0,some (.int way),some td,some w,some (.str kx),some (.bl false),some (.ref A),none,none] h3:=by
      have ne1:oNe (.ref A) (.ref (A + 1)) h3=.ok (.bl false) h3:=Gg gA gB (Gh W)
      have ne2:oNe (.str kx) (.str kx) h3=.ok (.bl false) h3:=by
        have:=Bm kx h3
        simp only [oEq] at this
        simp only [oNe]
        cases c:eqG h3 (.str kx) (.str kx) with
        | none=>rw [c] at this;cases this
        | some b=>rw [c] at this;cases this;rfl
      exact gS (i8 (bu (ak rfl nw ne1)) (i8 (ed (b:=true) (bu (aw (ag (a4 rfl rfl (aZ gA) rfl) rfl) (Ez W h3)))) (bu (ak (rp _ _ _ _ _) rfl ne2))))
    have m3:Md 0 n M bs ss bk sk h3:=by rw [hh3];exact m.more _
    obtain⟨l,ql2,l2,_⟩:=F4 c4 way 2 (2 * n) (by omega) (by decide) (by decide) h3
    have ln:(l.map D.int).length=2 * n:=by rw [List.length_map];exact l2
    obtain⟨h4,hh4⟩ : ∃ h4,h4=h3++[cm.lst (l.map .int)]:=⟨_,rfl⟩
    rw [← hh4] at ql2
    have g4:h4[h3.length]? = some (.lst (l.map .int)):=by rw [hh4];exact gG rfl _
    have e8:zl [some S0,some (.int way),some td,some w,some (.str kx),some (.bl false),some (.ref A),none,none] h3=.nx [some S0,some (.int way),some td,some w,some (.str kx),some (.bl false),some (.ref A),some (bC l),none] h4:=by
      have ll:dE (lOf (fAt (aa 2) (fC (.int 1)))) [some S0,some (.int way),some td,some w,some (.str kx),some (.bl false),some (.ref A),none,none] h3=.ok (.int n) h3:=by
        have a1:fAt (aa 2) (fC (.int 1)) [some S0,some (.int way),some td,some w,some (.str kx),some (.bl false),some (.ref A),none,none] h3=.ok (.ref bk) h3:=by rw [htd];exact a4 rfl rfl rfl rfl
        have:=gi (cI a1 (aZ m3.ba))
        rwa [List.length_map,m.lb] at this
      have l2n:af bh (fC (.int 2)) (dE (lOf (fAt (aa 2) (fC (.int 1))))) [some S0,some (.int way),some td,some w,some (.str kx),some (.bl false),some (.ref A),none,none] h3=.ok (.int ((2 * n:Nat):Int)) h3:=by
        rw [← JP];exact ak rfl ll (fm (by decide))
      exact aG (gF (cI (aw (ag (aw (gj rfl rfl) (hc4 _)) (ag rfl (gj l2n rfl))) ql2) (aZ g4)))
    obtain⟨la,hla⟩ : ∃ la,la=l.take n:=⟨_,rfl⟩
    obtain⟨lb,hlb⟩ : ∃ lb,lb=l.drop n:=⟨_,rfl⟩
    have hv:=B7 ln P.n1 h4
    rw [← List.map_take,← List.map_drop,← hla,← hlb] at hv
    have e9:zm [some S0,some (.int way),some td,some w,some (.str kx),some (.bl false),some (.ref A),some (bC l),none] h4=.nx [some S0,some (.int way),some td,some w,some (.str kx),some (.bl false),some (.ref A),some (bC l),some (.tup [bC la,bC lb])] h4:=aG (aw (ag rfl rfl) hv)
    have e10:uN [some S0,some (.int way),some td,some w,some (.str kx),some (.bl false),some (.ref A),some (bC l),some (.tup [bC la,bC lb])] h4=.nx [some S0,some (.int way),some td,some w,some (.str kx),some (.bl false),some (.ref A),some (bC l),some (.tup [bC la,bC lb])] h4:=by
      have v7:aa 7 [some S0,some (.int way),some td,some w,some (.str kx),some (.bl false),some (.ref A),some (bC l),some (.tup [bC la,bC lb])] h4=.ok (.tup (l.map .int)) h4:=rfl
      have s1:=xt v7 (oZ v7 ln) ln P.n1
      have s2:=xu v7 (oZ v7 ln) ln P.n1
      rw [← List.map_take,← hla] at s1
      rw [← List.map_drop,← hlb] at s2
      exact gS (i8 (ed (b:=true) (bu (iG rfl rfl))) (bu (ak rfl (iC (gj s1 s2)) (IE la lb h4))))
    have sl:(la.map D.int).length + (lb.map D.int).length≤SZ:=by
      rw [List.length_map,List.length_map,hla,hlb,List.length_take,List.length_drop,l2]
      exact Nat.le_trans (show min n (2 * n) + (2 * n - n)≤1000 by omega) (by decide)
    have wq:iF [bC la,bC lb] h4=.ok (bC l) h4:=by
      have:=xv sl h4
      rw [← List.map_append,hla,hlb,List.take_append_drop,← hla,← hlb] at this
      exact this
    have wq2:=xv (a:=lb.map D.int) (b:=la.map D.int) (by rw [Nat.add_comm];exact sl) h4
    have q8a:fAt (aa 8) (fC (.int 0)) [some S0,some (.int way),some td,some w,some (.str kx),some (.bl false),some (.ref A),some (bC l),some (.tup [bC la,bC lb])] h4=.ok (bC la) h4:=a4 rfl rfl rfl rfl
    have q8b:fAt (aa 8) (fC (.int 1)) [some S0,some (.int way),some td,some w,some (.str kx),some (.bl false),some (.ref A),some (bC l),some (.tup [bC la,bC lb])] h4=.ok (bC lb) h4:=a4 rfl rfl rfl rfl
    have e11:uO [some S0,some (.int way),some td,some w,some (.str kx),some (.bl false),some (.ref A),some (bC l),some (.tup [bC la,bC lb])] h4=.rt (.bl true) h4:=by
      have eq:oEq (bC l) (bC l) h4=.ok (.bl true) h4:=by
        have:=F1 (a:=l) (b:=l) rfl h4
        rw [decide_eq_true rfl] at this
        simp only [oEq,this]
      exact bP (jY (oP (bu (ak (aw (gj q8a q8b) wq) rfl eq)) (bu (iG (aw (gj q8b q8a) wq2) rfl))))
    exact go ((bf e5).trans ((bf e6).trans ((bf e7).trans ((bf e8).trans ((bf e9).trans ((bf e10).trans e11)))))) ⟨[.lst [W.enc],.lst [W.enc],.lst (l.map .int)],by rw [hh4,hh3,List.append_assoc];rfl⟩
end Fm
set_option Elab.async false
set_option linter.all false
set_option maxRecDepth 100000
set_option maxHeartbeats 4000000
namespace Fm
open PySem PySem.Spec L2
section
abbrev eO (i : Nat) : Stmt := PySem.Challenge.pw_followmost_k28_webs_doubled.main.body.getD i (.Pass ⟨0, 0, 0, 0⟩)
abbrev eW:Stmt:=eO 12
abbrev dH:Stmt:=eO 13
abbrev dI:Stmt:=eO 14
abbrev ij:Stmt:=eO 24
abbrev dJ:Stmt:=eO 23
abbrev em:Stmt:=eO 25
abbrev dL:Stmt:=eO 26
abbrev ik:Stmt:=eO 18
abbrev fO:Stmt:=eO 19
abbrev fP:Stmt:=eO 20
abbrev fQ:Stmt:=eO 21
abbrev eX:Stmt:=eO 22
abbrev dM:Stmt:=eO 33
abbrev cM:Stmt:=eO 34
abbrev fR:Stmt:=eO 30
abbrev im:Stmt:=eO 31
abbrev jS:Stmt:=eO 32
abbrev en:Stmt:=eO 36
abbrev eY:Stmt:=eO 37
abbrev dN:Stmt:=eO 38
abbrev dP:Stmt:=eO 39
abbrev eo:Stmt:=eO 42
abbrev dQ:Stmt:=eO 43
abbrev eZ:Stmt:=eO 44
abbrev c7:Stmt:=eO 45
abbrev dR:Stmt:=eO 46
abbrev dS:Stmt:=eO 47
abbrev lx:Stmt:=eO 48
variable {P:Program} {w:World} {K:PySem.W.Frag} {mg:Str→Option Value} {base:Heap} {f:Addr} {fd:FuncData}
theorem xw:aP ["thing"] ["thing"] (aj eW):=⟨rfl,rfl,rfl,by decide +kernel,rfl,by decide +kernel,by decide +kernel⟩
theorem xx (F:Fun K "is_whole" "is_whole" eW f fd) (am:mg "isinstance" = none) (mD:mg "bool" = none) (ly:mg "int" = none):cA P w K mg base CX0 1 f fd ["thing"] (spF K bX 1):=by
  refine cP F xw fun cdv A outer s H E hr => ?_
  have hu:=eL hr
  exact (ar (aY (MB.me (ma (fF (dF (t:=.int) rfl am rfl ly (by decide +kernel) (mv 0))) (ji (Hs (fF (dF (t:=.bool) rfl am rfl mD (by decide +kernel) (mv 0)))))))))
theorem qa:aP ["thing", "least", "most"] ["thing", "least", "most"] (aj dH):=⟨rfl,rfl,rfl,by decide +kernel,rfl,by decide +kernel,by decide +kernel⟩
theorem qc (F:Fun K "is_between" "is_between" dH f fd) (gs:Def P w K mg base "is_whole" 1 1 bX):cA P w K mg base CX0 2 f fd ["thing", "least", "most"] (spF K aR 3):=by
  refine cP F qa fun cdv A outer s H E hr => ?_
  have hu:=eL hr
  exact (ar (aY (MB.me (ma (fF (aA gs (hr.mono (by decide)) rfl (ae (mv 0) au) aB)) (ji (fF (Dp Gu Gu up up (mv 1) (mv 0) (mv 2))))))))
theorem qd:aP ["thing"] ["thing"] (aj dI):=⟨rfl,rfl,rfl,by decide +kernel,rfl,by decide +kernel,by decide +kernel⟩
theorem qe (F:Fun K "is_opinion" "is_opinion" dI f fd) (bU:Def P w K mg base "is_between" 2 3 aR):cA P w K mg base CX0 3 f fd ["thing"] (spF K cy 1):=by
  refine cP F qd fun cdv A outer s H E hr => ?_
  have hu:=eL hr
  exact (ar (aY (aA bU (hr.mono (by decide)) rfl (ae (mv 0) (ae ah (ae ah au))) aB)))
theorem mB:aP ["many", "thing", "one", "other"] ["many", "thing"] (aj ij):=⟨rfl,rfl,rfl,by decide +kernel,rfl,by decide +kernel,by decide +kernel⟩
theorem B8 (F:Fun K "is_tie" "is_tie" ij f fd) (bO:mg "len" = none) (am:mg "isinstance" = none) (aX:mg "tuple" = none) {gX:Tok} (gY:mg "MOST_WEIGHT" = some (.int 400 gX)) (bU:Def P w K mg base "is_between" 2 3 aR):cA P w K mg base CX0 3 f fd ["many", "thing"] (spF K jv 2):=by
  refine cP F mB fun cdv A outer s H E hr => ?_
  have hu:=eL hr
  exact (ai (cO (MW.mt (kQ (d8 (df (dF (t:=.tuple) rfl am rfl aX (by decide +kernel) (mv 1)))) (kh (cG (ki hu) oy (eE rfl bO (du (mv 1))) ah (br _)) (.inr rfl)))) (ar (aY sS)) bn)
    (ai (aW (i:=2) mB.nd rfl (by first|exact .inl rfl|exact .inr rfl) (aU (mv 1) ah (fun _ _=>rfl)))
    (ai (aW (i:=3) mB.nd rfl (by first|exact .inl rfl|exact .inr rfl) (aU (mv 1) ah (fun _ _=>rfl)))
    (ai (cO (MW.mt (kQ (d8 (df (aA bU (hr.mono (by decide)) rfl (ae (mv 2) (ae ah (ae (aE n9 Dm (mv 0) ah) au))) aB))) (kh (d8 (df (aA bU (hr.mono (by decide)) rfl (ae (mv 3) (ae ah (ae (aE n9 Dm (mv 0) ah) au))) aB))) (.inr rfl)))) (ar (aY sS)) bn)
    (ar (aY (MB.me (ma (fF (fW (ki hu) oy (mv 2) (mv 3) (br _))) (ji (fF (aA bU (hr.mono (by decide)) rfl (ae (aU (mv 1) ah (fun _ _=>rfl)) (ae ah (ae (kP rfl gY) au))) aB)))))))))))
theorem dX:aP ["many", "ties", "near", "tie", "one", "other"] ["many", "ties"] (aj dJ):=⟨rfl,rfl,rfl,by decide +kernel,rfl,by decide +kernel,by decide +kernel⟩
theorem qf (F:Fun K "neighbours" "neighbours" dJ f fd) (aN:mg "range" = none) (am:mg "isinstance" = none) (cZ:mg "list" = none) (o4:Def P w K mg base "is_tie" 3 2 jv):cA P w K mg base CX0 4 f fd ["many", "ties"] (spF K cX 2):=by
  refine cP F dX fun cdv A outer s H E hr => ?_
  have hu:=eL hr
  exact (ai (cO (d8 (df (dF (t:=.list) rfl am rfl cZ (by decide +kernel) (mv 1)))) (ar iw) bn)
    (ai (iz (i:=2) dX.nd rfl (by first|exact .inl rfl|exact .inr rfl) (own:=["person"]) (capn:=[]) (caps:=[]) rfl (bM.mk' rfl (by decide +kernel) (by decide +kernel) (by repeat' (first|exact aF.nil|refine aF.cons (by first|exact (fun _=>.inl rfl)|exact (fun _=>.inr rfl)|(intro z;cases z;done)) ?_)) bJ.nil) (bQ rfl aN (mv 0))
      (fun cl C s H ex=>⟨(aJ (i:=0) (show ((["person"] : List Str)++([] : List Str)).Nodup by decide +kernel) rfl (by first|exact .inl rfl|exact .inr rfl)),b4,AS⟩))
    (ai (fz PassesOwn.never rfl (d9 (mv 1)) (aJ (i:=3) dX.nd rfl (by first|exact .inl rfl|exact .inr rfl)) (ai (cO (d8 (df (aA o4 (hr.mono (by decide)) rfl (ae (mv 0) (ae (mv 3) au)) aB))) (ar iw) bn)
    (ai (aW (i:=4) dX.nd rfl (by first|exact .inl rfl|exact .inr rfl) (aU (mv 3) ah (fun _ _=>rfl)))
    (ai (aW (i:=5) dX.nd rfl (by first|exact .inl rfl|exact .inr rfl) (aU (mv 3) ah (fun _ _=>rfl)))
    (ai (cO (cG (HM (Nat.lt_of_le_of_lt (Nat.add_le_add_left (by decide) _) hu)) HN (mv 5) (aU (mv 2) (mv 4) (fun _ _=>rfl)) rfl) (ar iw) bn)
    (ai (jO (Nat.lt_of_le_of_lt (Nat.add_le_add_left (by decide) _) hu) (aU (mv 3) ah (fun _ _=>rfl)) (aU (mv 2) (mv 4) (fun _ _=>rfl)) (mv 5))
    (ar (jO (Nat.lt_of_le_of_lt (Nat.add_le_add_left (by decide) _) hu) (aU (mv 3) ah (fun _ _=>rfl)) (aU (mv 2) (mv 5) (fun _ _=>rfl)) (mv 4)))))))))
    (ar (aY (mv 2))))))
theorem uT:aP ["near", "bars"] ["near", "bars"] (aj em):=⟨rfl,rfl,rfl,by decide +kernel,rfl,by decide +kernel,by decide +kernel⟩
theorem uU (F:Fun K "bars_told" "bars_told" em f fd) (aX:mg "tuple" = none) (tU:mg "all" = none) (bO:mg "len" = none) (am:mg "isinstance" = none) (cZ:mg "list" = none) (gs:Def P w K mg base "is_whole" 1 1 bX):cA P w K mg base CX0 2 f fd ["near", "bars"] (spF K dz 2):=by
  refine cP F uT fun cdv A outer s H E hr => ?_
  have hu:=eL hr
  exact (ai (cO (cG oa ow (mv 1) eD (br _)) (ar iw) bn)
    (ai (cO (MW.mt (kQ (d8 (df (dF (t:=.list) rfl am rfl cZ (by decide +kernel) (mv 1)))) (kh (cG (ki hu) oy (eE rfl bO (du (mv 1))) (eE rfl bO (du (mv 0))) (br _)) (.inr rfl)))) (ar iw) bn)
    (ai (cO (d8 (df (DM rfl rfl tU (fY (eF (own:=["bar"]) (capn:=[]) (caps:=[]) rfl (bM.mk' rfl (by decide +kernel) (by decide +kernel) (by repeat' (first|exact aF.nil|refine aF.cons (by first|exact (fun _=>.inl rfl)|exact (fun _=>.inr rfl)|(intro z;cases z;done)) ?_)) bJ.nil) (d9 (mv 1))
      (fun cl C s H ex=>⟨(aJ (i:=0) (show ((["bar"] : List Str)++([] : List Str)).Nodup by decide +kernel) rfl (by first|exact .inl rfl|exact .inr rfl)),b4,(aA gs (hr.mono (by decide)) rfl (ae (mv 0) au) aB)⟩)))))) (ar iw) bn)
    (ar (aY (fg rfl aX (du (mv 1))))))))
theorem qg:aP ["many", "stays"] ["many", "stays"] (aj dL):=⟨rfl,rfl,rfl,by decide +kernel,rfl,by decide +kernel,by decide +kernel⟩
theorem qh (F:Fun K "stays_told" "stays_told" dL f fd) (aX:mg "tuple" = none) (tU:mg "all" = none) (bO:mg "len" = none) (am:mg "isinstance" = none) (cZ:mg "list" = none) (aN:mg "range" = none) (iI:Def P w K mg base "is_opinion" 3 1 cy):cA P w K mg base CX0 4 f fd ["many", "stays"] (spF K cY 2):=by
  refine cP F qg fun cdv A outer s H E hr => ?_
  have hu:=eL hr
  exact (ai (cO (cG oa ow (mv 1) eD (br _)) (ar (aY (fg rfl aX (fY (eF (own:=["person"]) (capn:=[]) (caps:=[]) rfl (bM.mk' rfl (by decide +kernel) (by decide +kernel) (by repeat' (first|exact aF.nil|refine aF.cons (by first|exact (fun _=>.inl rfl)|exact (fun _=>.inr rfl)|(intro z;cases z;done)) ?_)) bJ.nil) (bQ rfl aN (mv 0))
      (fun cl C s H ex=>⟨(aJ (i:=0) (show ((["person"] : List Str)++([] : List Str)).Nodup by decide +kernel) rfl (by first|exact .inl rfl|exact .inr rfl)),b4,eD⟩)))))) bn)
    (ai (cO (MW.mt (kQ (d8 (df (dF (t:=.list) rfl am rfl cZ (by decide +kernel) (mv 1)))) (kh (cG (ki hu) oy (eE rfl bO (du (mv 1))) (mv 0) (br _)) (.inr rfl)))) (ar iw) bn)
    (ai (cO (d8 (df (DM rfl rfl tU (fY (eF (own:=["stay"]) (capn:=[]) (caps:=[]) rfl (bM.mk' rfl (by decide +kernel) (by decide +kernel) (by repeat' (first|exact aF.nil|refine aF.cons (by first|exact (fun _=>.inl rfl)|exact (fun _=>.inr rfl)|(intro z;cases z;done)) ?_)) bJ.nil) (d9 (mv 1))
      (fun cl C s H ex=>⟨(aJ (i:=0) (show ((["stay"] : List Str)++([] : List Str)).Nodup by decide +kernel) rfl (by first|exact .inl rfl|exact .inr rfl)),b4,(MB.me (Gz (fF (fW oa ow (mv 0) eD (br _))) (ji (fF (aA iI (hr.mono (by decide)) rfl (ae (mv 0) au) aB)))))⟩)))))) (ar iw) bn)
    (ar (aY (fg rfl aX (du (mv 1))))))))
theorem mC:aP ["many", "ties", "bars", "stays", "near", "rows"] ["many", "ties", "bars", "stays"] (aj ik):=⟨rfl,rfl,rfl,by decide +kernel,rfl,by decide +kernel,by decide +kernel⟩
theorem B9 (F:Fun K "web_of" "web_of" ik f fd) (aX:mg "tuple" = none) (io:mg "sorted" = none) {gZ:Tok} (g6:mg "MOST_PEOPLE" = some (.int 30 gZ)) (iJ:Def P w K mg base "stays_told" 4 2 cY) (jD:Def P w K mg base "bars_told" 2 2 dz) (iK:Def P w K mg base "neighbours" 4 2 cX) (bU:Def P w K mg base "is_between" 2 3 aR):cA P w K mg base CX0 5 f fd ["many", "ties", "bars", "stays"] (spF K dA 4):=by
  refine cP F mC fun cdv A outer s H E hr => ?_
  have hu:=eL hr
  exact (ai (cO (d8 (df (aA bU (hr.mono (by decide)) rfl (ae (mv 0) (ae ah (ae (kP rfl g6) au))) aB))) (ar iw) bn)
    (ai (aW (i:=4) mC.nd rfl (by first|exact .inl rfl|exact .inr rfl) (aA iK (hr.mono (by decide)) rfl (ae (mv 0) (ae (mv 1) au)) aB))
    (ai (aW (i:=5) mC.nd rfl (by first|exact .inl rfl|exact .inr rfl) (fg rfl aX (fY (eF (own:=["row"]) (capn:=[]) (caps:=[]) rfl (bM.mk' rfl (by decide +kernel) (by decide +kernel) (by repeat' (first|exact aF.nil|refine aF.cons (by first|exact (fun _=>.inl rfl)|exact (fun _=>.inr rfl)|(intro z;cases z;done)) ?_)) bJ.nil) (d9 (mv 4))
      (fun cl C s H ex=>⟨(aJ (i:=0) (show ((["row"] : List Str)++([] : List Str)).Nodup by decide +kernel) rfl (by first|exact .inl rfl|exact .inr rfl)),b4,(fg rfl aX (fY (DK rfl rfl io (mv 0))))⟩)))))
    (ar (aY (ir (ae (mv 5) (ae (aA jD (hr.mono (by decide)) rfl (ae (mv 4) (ae (mv 2) au)) aB) (ae (aA iJ (hr.mono (by decide)) rfl (ae (mv 0) (ae (mv 3) au)) aB) au)))))))))
theorem zy:aP ["web"] ["web"] (aj fO):=⟨rfl,rfl,rfl,by decide +kernel,rfl,by decide +kernel,by decide +kernel⟩
theorem zz (F:Fun K "many_of" "many_of" fO f fd) (bO:mg "len" = none):cA P w K mg base CX0 1 f fd ["web"] (spF K bi 1):=by
  refine cP F zy fun cdv A outer s H E hr => ?_
  have hu:=eL hr
  exact (ar (aY (eE rfl bO (du (aU (mv 0) ah (fun _ _=>rfl))))))
theorem zA:aP ["web", "person"] ["web", "person"] (aj fP):=⟨rfl,rfl,rfl,by decide +kernel,rfl,by decide +kernel,by decide +kernel⟩
theorem zB (F:Fun K "ties_of" "ties_of" fP f fd):cA P w K mg base CX0 1 f fd ["web", "person"] (spF K cJ 2):=by
  refine cP F zA fun cdv A outer s H E hr => ?_
  have hu:=eL hr
  exact (ar (aY (aU (aU (mv 0) ah (fun _ _=>rfl)) (mv 1) (fun _ _=>rfl))))
theorem zC:aP ["web"] ["web"] (aj fQ):=⟨rfl,rfl,rfl,by decide +kernel,rfl,by decide +kernel,by decide +kernel⟩
theorem zD (F:Fun K "bars_of" "bars_of" fQ f fd) (cZ:mg "list" = none):cA P w K mg base CX0 1 f fd ["web"] (spF K fM 1):=by
  refine cP F zC fun cdv A outer s H E hr => ?_
  have hu:=eL hr
  exact (ar (aY (bL (nU rfl cZ (du (aU (mv 0) ah (fun _ _=>rfl)))))))
theorem xy:aP ["web"] ["web"] (aj eX):=⟨rfl,rfl,rfl,by decide +kernel,rfl,by decide +kernel,by decide +kernel⟩
theorem xz (F:Fun K "stays_of" "stays_of" eX f fd) (cZ:mg "list" = none):cA P w K mg base CX0 1 f fd ["web"] (spF K eT 1):=by
  refine cP F xy fun cdv A outer s H E hr => ?_
  have hu:=eL hr
  exact (ar (aY (bL (nU rfl cZ (du (aU (mv 0) ah (fun _ _=>rfl)))))))
theorem jZ:aP ["web", "person"] ["web"] (aj dM):=⟨rfl,rfl,rfl,by decide +kernel,rfl,by decide +kernel,by decide +kernel⟩
theorem dZ:aP ["web", "many", "ties", "person"] ["web"] (aj cM):=⟨rfl,rfl,rfl,by decide +kernel,rfl,by decide +kernel,by decide +kernel⟩
theorem nH (F:Fun K "doubled_ties" "doubled_ties" cM f fd) (aN:mg "range" = none) (ip:Def P w K mg base "ties_of" 1 2 cJ) (er:Def P w K mg base "many_of" 1 1 bi):cA P w K mg base CX0 2 f fd ["web"] (spF K bY 1):=by
  refine cP F dZ fun cdv A outer s H E hr => ?_
  have hu:=eL hr
  exact (ai (aW (i:=1) dZ.nd rfl (by first|exact .inl rfl|exact .inr rfl) (aA er (hr.mono (by decide)) rfl (ae (mv 0) au) aB))
    (ai (iz (i:=2) dZ.nd rfl (by first|exact .inl rfl|exact .inr rfl) (own:=["person"]) (capn:=["many"]) (caps:=[1]) rfl (bM.mk' rfl (by decide +kernel) (by decide +kernel) (by repeat' (first|exact aF.nil|refine aF.cons (by first|exact (fun _=>.inl rfl)|exact (fun _=>.inr rfl)|(intro z;cases z;done)) ?_)) (bJ.cons rfl rfl bJ.nil)) (bQ rfl aN (mv 1))
      (fun cl C s H ex=>⟨(aJ (i:=0) (show ((["person"] : List Str)++(["many"] : List Str)).Nodup by decide +kernel) rfl (by first|exact .inl rfl|exact .inr rfl)),b4,(ir (ae (mv 0) (ae (aE cF dW (mv 1) (mv 0)) (ae ah au))))⟩))
    (ai (fz PassesOwn.never rfl (bQ rfl aN (mv 1)) (aJ (i:=3) dZ.nd rfl (by first|exact .inl rfl|exact .inr rfl)) (ar (nS (FM (mv 2) (eF (own:=["other", "weight"]) (capn:=["person", "many"]) (caps:=[3,1]) rfl (bM.mk' rfl (by decide +kernel) (by decide +kernel) (by repeat' (first|exact aF.nil|refine aF.cons (by first|exact (fun _=>.inl rfl)|exact (fun _=>.inr rfl)|(intro z;cases z;done)) ?_)) (bJ.cons rfl rfl (bJ.cons rfl rfl bJ.nil))) (d9 (aA ip (hr.mono (by decide)) rfl (ae (mv 0) (ae (mv 3) au)) aB))
      (fun cl C s H ex=>⟨(yS rfl (gb (aJ (i:=0) (show ((["other", "weight"] : List Str)++(["person", "many"] : List Str)).Nodup by decide +kernel) rfl (by first|exact .inl rfl|exact .inr rfl)) (gb (aJ (i:=1) (show ((["other", "weight"] : List Str)++(["person", "many"] : List Str)).Nodup by decide +kernel) rfl (by first|exact .inl rfl|exact .inr rfl)) ur))),b4,(ir (ae (mv 2) (ae (aE cF dW (mv 3) (mv 0)) (ae (aE c9 de ah (mv 1)) au))))⟩))))))
    (ar (aY (mv 2))))))
theorem kD:aP ["web", "bars", "stays"] ["web"] (aj fR):=⟨rfl,rfl,rfl,by decide +kernel,rfl,by decide +kernel,by decide +kernel⟩
theorem tT:aP ["stand", "many"] ["stand"] (aj im):=⟨rfl,rfl,rfl,by decide +kernel,rfl,by decide +kernel,by decide +kernel⟩
theorem Ca (F:Fun K "halves" "halves" im f fd) (bO:mg "len" = none):cA P w K mg base CX0 1 f fd ["stand"] (spF K jx 1):=by
  refine cP F tT fun cdv A outer s H E hr => ?_
  have hu:=eL hr
  exact (ai (aW (i:=1) tT.nd rfl (by first|exact .inl rfl|exact .inr rfl) (aE dr fX (eE rfl bO (du (mv 0))) ah))
    (ar (aY (ir (ae (kW (mv 0) AH (AI (mv 1))) (ae (kW (mv 0) (AI (mv 1)) AH) au))))))
theorem EC:aP ["one", "other"] ["one", "other"] (aj jS):=⟨rfl,rfl,rfl,by decide +kernel,rfl,by decide +kernel,by decide +kernel⟩
theorem ED (F:Fun K "whole" "whole" jS f fd):cA P w K mg base CX0 1 f fd ["one", "other"] (spF K iF 2):=by
  refine cP F EC fun cdv A outer s H E hr => ?_
  have hu:=eL hr
  exact (ar (aY (aE FK FL (mv 0) (mv 1))))
theorem uV:aP ["_law_script", "_law_k"] ["_law_script", "_law_k"] (aj en):=⟨rfl,rfl,rfl,by decide +kernel,rfl,by decide +kernel,by decide +kernel⟩
theorem uW (F:Fun K "_law_cell" "_law_cell" en f fd) (bO:mg "len" = none):cA P w K mg base CX0 1 f fd ["_law_script", "_law_k"] (spF K aS 2):=by
  refine cP F uV fun cdv A outer s H E hr => ?_
  have hu:=eL hr
  exact (ai (cO (cG Ja up (mv 1) (eE rfl bO (du (mv 0))) (br _)) (ar (aY (aU (mv 0) (mv 1) (fun _ _=>rfl)))) bn)
    (ar (aY (aE cF dW (aE c9 de (aE c9 de ah (mv 1)) (mv 1)) (aE c9 de ah (mv 1))))))
theorem dC:aP ["_law_cell_here", "_law_way", "_law_many", "_law_base", "_law_found", "_law_number", "_law_k"] ["_law_cell_here", "_law_way", "_law_many", "_law_base"] (aj eY):=⟨rfl,rfl,rfl,by decide +kernel,rfl,by decide +kernel,by decide +kernel⟩
theorem xA (F:Fun K "_law_row" "_law_row" eY f fd) (aN:mg "range" = none):cA P w K mg base CX0 1 f fd ["_law_cell_here", "_law_way", "_law_many", "_law_base"] (spF K cj 4):=by
  refine cP F dC fun cdv A outer s H E hr => ?_
  have hu:=eL hr
  exact (ai (aW (i:=4) dC.nd rfl (by first|exact .inl rfl|exact .inr rfl) (bL (dt au (fun _ _ _ _ z=>by rw [bK _ _ _ _ z];decide))))
    (ai (aW (i:=5) dC.nd rfl (by first|exact .inl rfl|exact .inr rfl) (mv 0))
    (ai (cO (cG (fZ hu) jj (aE d5 d7 (mv 1) ah) ah (br _)) (ar (aW (i:=5) dC.nd rfl (by first|exact .inl rfl|exact .inr rfl) (aE d5 d7 (aE c9 de (aE d5 d7 (mv 0) ah) ah) ah))) bn)
    (ai (fz PassesOwn.never rfl (bQ rfl aN (mv 2)) (aJ (i:=6) dC.nd rfl (by first|exact .inl rfl|exact .inr rfl)) (ar (cO (cG (fZ hu) jj (aE d5 d7 (mv 1) ah) ah (br _)) (ai (aW (i:=5) dC.nd rfl (by first|exact .inl rfl|exact .inr rfl) (aE d5 d7 (aE cF dW (aE cF dW (aE cF dW (aE c9 de (mv 5) (mv 5)) (aE c9 de ah (mv 5))) (aE c9 de ah (mv 6))) ah) ah))
    (ar (nS (yX (mv 4) (aE d5 d7 (aE dr fX (mv 5) ah) (mv 3)))))) (ai (nS (yX (mv 4) (aE d5 d7 (mv 5) (mv 3))))
    (ar (aW (i:=5) dC.nd rfl (by first|exact .inl rfl|exact .inr rfl) (aE dr fX (mv 5) (mv 3))))))))
    (ar (aY (mv 4)))))))
theorem aM:aP ["_law_script", "_law_most", "_law_way", "_law_many", "_law_tied", "_law_told", "_law_one", "_law_other", "_law_heavy", "_law_levels", "_law_steps", "_law_holders"] ["_law_script", "_law_most"] (aj dN):=⟨rfl,rfl,rfl,by decide +kernel,rfl,by decide +kernel,by decide +kernel⟩
theorem qi (F:Fun K "_law_model" "_law_model" dN f fd) (aN:mg "range" = none) (EG:mg "sum" = none) (o5:mg "max" = none) (eh:Def P w K mg base "_law_row" 1 4 cj) (cz:Def P w K mg base "_law_cell" 1 2 aS):cA P w K mg base CX0 2 f fd ["_law_script", "_law_most"] (spF K fL 2):=by
  refine cP F aM fun cdv A outer s H E hr => ?_
  have hu:=eL hr
  exact (ai (aW (i:=2) aM.nd rfl (by first|exact .inl rfl|exact .inr rfl) (aA cz (hr.mono (by decide)) rfl (ae (mv 0) (ae ah au)) aB))
    (ai (aW (i:=3) aM.nd rfl (by first|exact .inl rfl|exact .inr rfl) (aE cF dW ah (aE d5 d7 (aE dr fX (mv 2) ah) (mv 1))))
    (ai (iz (i:=4) aM.nd rfl (by first|exact .inl rfl|exact .inr rfl) (own:=["_law_one"]) (capn:=["_law_many"]) (caps:=[3]) rfl (bM.mk' rfl (by decide +kernel) (by decide +kernel) (by repeat' (first|exact aF.nil|refine aF.cons (by first|exact (fun _=>.inl rfl)|exact (fun _=>.inr rfl)|(intro z;cases z;done)) ?_)) (bJ.cons rfl rfl bJ.nil)) (bQ rfl aN (mv 3))
      (fun cl C s H ex=>⟨(aJ (i:=0) (show ((["_law_one"] : List Str)++(["_law_many"] : List Str)).Nodup by decide +kernel) rfl (by first|exact .inl rfl|exact .inr rfl)),b4,(bL (DN (dt (ae ah au) (fun _ _ _ _ z=>by rw [(az bK) _ _ _ _ z];decide)) (mv 1)))⟩))
    (ai (aW (i:=5) aM.nd rfl (by first|exact .inl rfl|exact .inr rfl) (aA eh (hr.mono (by decide)) rfl (ae (aA cz (hr.mono (by decide)) rfl (ae (mv 0) (ae ah au)) aB) (ae (mv 2) (ae (aE c9 de (mv 3) (mv 3)) (ae ah au)))) aB))
    (ai (fz PassesOwn.never rfl (bQ rfl aN (mv 3)) (aJ (i:=6) aM.nd rfl (by first|exact .inl rfl|exact .inr rfl)) (ar (fz PassesOwn.never rfl (bQ rfl aN (mv 6)) (aJ (i:=7) aM.nd rfl (by first|exact .inl rfl|exact .inr rfl)) (ai (aW (i:=8) aM.nd rfl (by first|exact .inl rfl|exact .inr rfl) (HS rfl rfl o5 ah (aE n9 Dm (aU (mv 5) (aE cF dW (aE c9 de (mv 6) (mv 3)) (mv 7)) (fun _ _=>rfl)) ah)))
    (ai (cO (cG (fZ hu) jj (aE d5 d7 (aE dr fX (mv 2) ah) ah) ah (br _)) (ar (aW (i:=8) aM.nd rfl (by first|exact .inl rfl|exact .inr rfl) (AE (dt (ae ah (ae ah (ae ah (ae ah (ae ah (ae ah (ae ah au))))))) (fun _ _ _ _ z=>by rw [(az (az (az (az (az (az (az bK))))))) _ _ _ _ z];decide)) (aE d5 d7 (aU (mv 5) (aE cF dW (aE c9 de (mv 6) (mv 3)) (mv 7)) (fun _ _=>rfl)) ah) (fun _ _=>rfl)))) bn)
    (ai (yT (mv 8) (aU (mv 4) (mv 6) (fun _ _=>rfl)) (mv 7))
    (ar (yT (mv 8) (aU (mv 4) (mv 7) (fun _ _=>rfl)) (mv 6)))))))))
    (ai (iz (i:=9) aM.nd rfl (by first|exact .inl rfl|exact .inr rfl) (own:=["_law_row_here"]) (capn:=[]) (caps:=[]) rfl (bM.mk' rfl (by decide +kernel) (by decide +kernel) (by repeat' (first|exact aF.nil|refine aF.cons (by first|exact (fun _=>.inl rfl)|exact (fun _=>.inr rfl)|(intro z;cases z;done)) ?_)) bJ.nil) (d9 (mv 4))
      (fun cl C s H ex=>⟨(aJ (i:=0) (show ((["_law_row_here"] : List Str)++([] : List Str)).Nodup by decide +kernel) rfl (by first|exact .inl rfl|exact .inr rfl)),b4,(Ht rfl rfl EG (du (mv 0)))⟩))
    (ai (cO (cG (fZ hu) jj (aE d5 d7 (aE dr fX (mv 2) ah) ah) ah (br _)) (ai (aW (i:=10) aM.nd rfl (by first|exact .inl rfl|exact .inr rfl) (aA eh (hr.mono (by decide)) rfl (ae (aA cz (hr.mono (by decide)) rfl (ae (mv 0) (ae ah au)) aB) (ae (mv 2) (ae (mv 3) (ae ah au)))) aB))
    (ar (fz PassesOwn.never rfl (bQ rfl aN (mv 3)) (aJ (i:=6) aM.nd rfl (by first|exact .inl rfl|exact .inr rfl)) (ar (yT (AE (dt (ae (aE n9 Dm (aU (mv 10) (mv 6) (fun _ _=>rfl)) ah) (ae (aE n9 Dm (aE cF dW (aU (mv 9) (mv 6) (fun _ _=>rfl)) (aE d5 d7 (aU (mv 10) (mv 6) (fun _ _=>rfl)) ah)) ah) au)) (fun _ _ _ _ z=>by rw [(az (az bK)) _ _ _ _ z];decide)) (aE d5 d7 (aE dr fX (mv 2) ah) ah) (fun _ _=>rfl)) (mv 9) (mv 6)))))) bn)
    (ai (aW (i:=11) aM.nd rfl (by first|exact .inl rfl|exact .inr rfl) (bL (DN (dt (ae eD au) (fun _ _ _ _ z=>by rw [(az bK) _ _ _ _ z];decide)) (mv 3))))
    (ai (cO (cG (fZ hu) jj (aE d5 d7 (aE dr fX (mv 2) ah) ah) ah (br _)) (ai (aW (i:=5) aM.nd rfl (by first|exact .inl rfl|exact .inr rfl) (aA eh (hr.mono (by decide)) rfl (ae (aA cz (hr.mono (by decide)) rfl (ae (mv 0) (ae ah au)) aB) (ae (mv 2) (ae (mv 3) (ae ah au)))) aB))
    (ar (iz (i:=11) aM.nd rfl (by first|exact .inl rfl|exact .inr rfl) (own:=["_law_number"]) (capn:=[]) (caps:=[]) rfl (bM.mk' rfl (by decide +kernel) (by decide +kernel) (by repeat' (first|exact aF.nil|refine aF.cons (by first|exact (fun _=>.inl rfl)|exact (fun _=>.inr rfl)|(intro z;cases z;done)) ?_)) bJ.nil) (d9 (mv 5))
      (fun cl C s H ex=>⟨(aJ (i:=0) (show ((["_law_number"] : List Str)++([] : List Str)).Nodup by decide +kernel) rfl (by first|exact .inl rfl|exact .inr rfl)),b4,(AE (dt (ae ah (ae ah (ae eD (ae eD (ae eD (ae eD (ae eD au))))))) (fun _ _ _ _ z=>by rw [(az (az (az (az (az (az (az bK))))))) _ _ _ _ z];decide)) (mv 0) (fun _ _=>rfl))⟩)))) bn)
    (ar (aY (ir (ae (mv 4) (ae (mv 9) (ae (mv 11) au)))))))))))))))
theorem ft:aP ["_law_model_here", "_law_found", "_law_one", "_law_other"] ["_law_model_here"] (aj dP):=⟨rfl,rfl,rfl,by decide +kernel,rfl,by decide +kernel,by decide +kernel⟩
theorem qj (F:Fun K "_law_lines" "_law_lines" dP f fd) (aN:mg "range" = none) (bO:mg "len" = none):cA P w K mg base CX0 1 f fd ["_law_model_here"] (spF K ei 1):=by
  refine cP F ft fun cdv A outer s H E hr => ?_
  have hu:=eL hr
  exact (ai (aW (i:=1) ft.nd rfl (by first|exact .inl rfl|exact .inr rfl) (bL (dt au (fun _ _ _ _ z=>by rw [bK _ _ _ _ z];decide))))
    (ai (fz PassesOwn.never rfl (bQ rfl aN (eE rfl bO (du (aU (mv 0) ah (fun _ _=>rfl))))) (aJ (i:=2) ft.nd rfl (by first|exact .inl rfl|exact .inr rfl)) (ar (fz PassesOwn.never rfl (bQ rfl aN (mv 2)) (aJ (i:=3) ft.nd rfl (by first|exact .inl rfl|exact .inr rfl)) (ar (cO (cG sK up (aU (aU (aU (mv 0) ah (fun _ _=>rfl)) (mv 2) (fun _ _=>rfl)) (mv 3) (fun _ _=>rfl)) ah (br _)) (ar (nS (yX (mv 1) (ir (ae (mv 3) (ae (mv 2) (ae (aU (aU (aU (mv 0) ah (fun _ _=>rfl)) (mv 2) (fun _ _=>rfl)) (mv 3) (fun _ _=>rfl)) au))))))) bn)))))
    (ar (aY (mv 1)))))
theorem uX:aP ["_law_model_here"] ["_law_model_here"] (aj eo):=⟨rfl,rfl,rfl,by decide +kernel,rfl,by decide +kernel,by decide +kernel⟩
theorem uY (F:Fun K "_law_made" "_law_made" eo f fd) (cZ:mg "list" = none) (bO:mg "len" = none) (jE:Def P w K mg base "web_of" 5 4 dA) (iL:Def P w K mg base "_law_lines" 1 1 ei):cA P w K mg base CX0 6 f fd ["_law_model_here"] (spF K ic 1):=by
  refine cP F uX fun cdv A outer s H E hr => ?_
  have hu:=eL hr
  exact (ar (aY (aA jE (hr.mono (by decide)) rfl (ae (eE rfl bO (du (aU (mv 0) ah (fun _ _=>rfl)))) (ae (aA iL (hr.mono (by decide)) rfl (ae (mv 0) au) aB) (ae (bL (nU rfl cZ (du (aU (mv 0) ah (fun _ _=>rfl))))) (ae (bL (nU rfl cZ (du (aU (mv 0) ah (fun _ _=>rfl))))) au)))) aB)))
theorem fu:aP ["_law_error", "_law_some"] ["_law_error"] (aj dQ):=⟨rfl,rfl,rfl,by decide +kernel,rfl,by decide +kernel,by decide +kernel⟩
theorem qk (F:Fun K "_law_class" "_law_class" dQ f fd) (am:mg "isinstance" = none) (iM:mg "ValueError" = none) {eu:Addr} (mE:mg "TooLong" = some (.ref eu)) {ev:Addr} (mF:mg "NoOrder" = some (.ref ev)) {gL:Addr} (uZ:mg "NoWeb" = some (.ref gL)) {fx:Addr} (o6:mg "NoText" = some (.ref fx)) {gM:Addr} (u0:mg "NoRow" = some (.ref gM)) {dD:Addr} (kE:mg "NoPeople" = some (.ref dD)) {aD:Addr} (iq:mg "TooMuch" = some (.ref aD)) {fy:Addr} (o7:mg "NoRest" = some (.ref fy)) {ez:Addr} (mG:mg "NoStand" = some (.ref ez)) (iN:fK K (fun C b=>PySem.W.kitOne K (.ref C) (gg (.ty "ValueError"))=some b) [("TooMuch",true)]) (mH:fK K (fun C b=>PySem.W.kitOne K (.ref C) (gg (.ref eu))=some b) [("TooMuch",false)]) (mI:fK K (fun C b=>PySem.W.kitOne K (.ref C) (gg (.ref ev))=some b) [("TooMuch",false)]) (u3:fK K (fun C b=>PySem.W.kitOne K (.ref C) (gg (.ref gL))=some b) [("TooMuch",false)]) (o8:fK K (fun C b=>PySem.W.kitOne K (.ref C) (gg (.ref fx))=some b) [("TooMuch",false)]) (u4:fK K (fun C b=>PySem.W.kitOne K (.ref C) (gg (.ref gM))=some b) [("TooMuch",false)]) (kF:fK K (fun C b=>PySem.W.kitOne K (.ref C) (gg (.ref dD))=some b) [("TooMuch",false)]) (mJ:fK K (fun C b=>PySem.W.kitOne K (.ref C) (gg (.ref aD))=some b) [("TooMuch",true)]) (o9:fK K (fun C b=>PySem.W.kitOne K (.ref C) (gg (.ref fy))=some b) [("TooMuch",false)]) (mK:fK K (fun C b=>PySem.W.kitOne K (.ref C) (gg (.ref ez))=some b) [("TooMuch",false)]):cA P w K mg base CX0 1 f fd ["_law_error"] (spF K ie 1):=by
  refine cP F fu fun cdv A outer s H E hr => ?_
  have hu:=eL hr
  exact (ai (cO (cG oa ow (mv 0) eD (br _)) (ar (aY (bL (dt au (fun _ _ _ _ z=>by rw [bK _ _ _ _ z];decide))))) bn)
    (ai (aW (i:=1) fu.nd rfl (by first|exact .inl rfl|exact .inr rfl) (bL (dt (ae (fk (tb:=[("TooMuch",false)]) (v:=.ref ez) rfl rfl am (ff (v:=.ref ez) rfl mG rfl (by decide)) mK (mv 0)) (ae (fk (tb:=[("TooMuch",false)]) (v:=.ref fy) rfl rfl am (ff (v:=.ref fy) rfl o7 rfl (by decide)) o9 (mv 0)) (ae (fk (tb:=[("TooMuch",true)]) (v:=.ref aD) rfl rfl am (ff (v:=.ref aD) rfl iq rfl (by decide)) mJ (mv 0)) au))) (fun _ _ _ _ z=>by rw [(az (az (az bK))) _ _ _ _ z];decide))))
    (ai (aW (i:=1) fu.nd rfl (by first|exact .inl rfl|exact .inr rfl) (bL (gD (mv 1) (bL (dt (ae (fk (tb:=[("TooMuch",false)]) (v:=.ref dD) rfl rfl am (ff (v:=.ref dD) rfl kE rfl (by decide)) kF (mv 0)) (ae (fk (tb:=[("TooMuch",false)]) (v:=.ref gM) rfl rfl am (ff (v:=.ref gM) rfl u0 rfl (by decide)) u4 (mv 0)) (ae (fk (tb:=[("TooMuch",false)]) (v:=.ref fx) rfl rfl am (ff (v:=.ref fx) rfl o6 rfl (by decide)) o8 (mv 0)) au))) (fun _ _ _ _ z=>by rw [(az (az (az bK))) _ _ _ _ z];decide))))))
    (ai (aW (i:=1) fu.nd rfl (by first|exact .inl rfl|exact .inr rfl) (bL (gD (mv 1) (bL (dt (ae (fk (tb:=[("TooMuch",false)]) (v:=.ref gL) rfl rfl am (ff (v:=.ref gL) rfl uZ rfl (by decide)) u3 (mv 0)) (ae (fk (tb:=[("TooMuch",false)]) (v:=.ref ev) rfl rfl am (ff (v:=.ref ev) rfl mF rfl (by decide)) mI (mv 0)) (ae (fk (tb:=[("TooMuch",false)]) (v:=.ref eu) rfl rfl am (ff (v:=.ref eu) rfl mE rfl (by decide)) mH (mv 0)) au))) (fun _ _ _ _ z=>by rw [(az (az (az bK))) _ _ _ _ z];decide))))))
    (ar (aY (bL (gD (mv 1) (bL (dt (ae (fk (tb:=[("TooMuch",true)]) (v:=.ty "ValueError") rfl rfl am (At (v:=.ty "ValueError") (u:=.type "ValueError") rfl iM (by decide +kernel) rfl) iN (mv 0)) au) (fun _ _ _ _ z=>by rw [(az bK) _ _ _ _ z];decide)))))))))))
theorem xB:aP ["_law_k"] ["_law_k"] (aj eZ):=⟨rfl,rfl,rfl,by decide +kernel,rfl,by decide +kernel,by decide +kernel⟩
theorem xC (F:Fun K "_law_due" "_law_due" eZ f fd) (aN:mg "range" = none):cA P w K mg base CX0 1 f fd ["_law_k"] (spF K lp 1):=by
  refine cP F xB fun cdv A outer s H E hr => ?_
  have hu:=eL hr
  exact (ar (aY (bL (gD (bL (eF (own:=["_law_j"]) (capn:=["_law_k"]) (caps:=[0]) rfl (bM.mk' rfl (by decide +kernel) (by decide +kernel) (by repeat' (first|exact aF.nil|refine aF.cons (by first|exact (fun _=>.inl rfl)|exact (fun _=>.inr rfl)|(intro z;cases z;done)) ?_)) (bJ.cons rfl rfl bJ.nil)) (bQ rfl aN ah)
      (fun cl C s H ex=>⟨(aJ (i:=0) (show ((["_law_j"] : List Str)++(["_law_k"] : List Str)).Nodup by decide +kernel) rfl (by first|exact .inl rfl|exact .inr rfl)),b4,(fW (fZ hu) jj (mv 0) (mv 1) (br _))⟩))) (bL (dt (ae sS au) (fun _ _ _ _ z=>by rw [(az bK) _ _ _ _ z];decide)))))))
theorem bw:aP ["_law_model_here", "_law_tied", "_law_levels", "_law_holders", "_law_many", "_law_rows", "_law_one", "_law_other", "_law_ties"] ["_law_model_here"] (aj c7):=⟨rfl,rfl,rfl,by decide +kernel,rfl,by decide +kernel,by decide +kernel⟩
theorem o0 (F:Fun K "_law_double" "_law_double" c7 f fd) (aX:mg "tuple" = none) (io:mg "sorted" = none) (aN:mg "range" = none) (bO:mg "len" = none):cA P w K mg base CX0 1 f fd ["_law_model_here"] (spF K eU 1):=by
  refine cP F bw fun cdv A outer s H E hr => ?_
  have hu:=eL hr
  exact (ai (Hy (mv 0) (yS rfl (gb (aJ (i:=1) bw.nd rfl (by first|exact .inl rfl|exact .inr rfl)) (gb (aJ (i:=2) bw.nd rfl (by first|exact .inl rfl|exact .inr rfl)) (gb (aJ (i:=3) bw.nd rfl (by first|exact .inl rfl|exact .inr rfl)) ur)))))
    (ai (aW (i:=4) bw.nd rfl (by first|exact .inl rfl|exact .inr rfl) (eE rfl bO (du (mv 2))))
    (ai (iz (i:=5) bw.nd rfl (by first|exact .inl rfl|exact .inr rfl) (own:=["_law_half"]) (capn:=[]) (caps:=[]) rfl (bM.mk' rfl (by decide +kernel) (by decide +kernel) (by repeat' (first|exact aF.nil|refine aF.cons (by first|exact (fun _=>.inl rfl)|exact (fun _=>.inr rfl)|(intro z;cases z;done)) ?_)) bJ.nil) (bQ rfl aN (aE c9 de ah (mv 4)))
      (fun cl C s H ex=>⟨(aJ (i:=0) (show ((["_law_half"] : List Str)++([] : List Str)).Nodup by decide +kernel) rfl (by first|exact .inl rfl|exact .inr rfl)),b4,AS⟩))
    (ai (fz PassesOwn.never rfl (bQ rfl aN (mv 4)) (aJ (i:=6) bw.nd rfl (by first|exact .inl rfl|exact .inr rfl)) (ai (jO (Nat.lt_of_le_of_lt (Nat.add_le_add_left (by decide) _) hu) ah (aU (mv 5) (mv 6) (fun _ _=>rfl)) (aE cF dW (mv 6) (mv 4)))
    (ai (jO (Nat.lt_of_le_of_lt (Nat.add_le_add_left (by decide) _) hu) ah (aU (mv 5) (aE cF dW (mv 6) (mv 4)) (fun _ _=>rfl)) (mv 6))
    (ar (fz PassesOwn.never rfl (bQ rfl aN (mv 4)) (aJ (i:=7) bw.nd rfl (by first|exact .inl rfl|exact .inr rfl)) (ar (cO (cG sK up (aU (aU (mv 1) (mv 6) (fun _ _=>rfl)) (mv 7) (fun _ _=>rfl)) ah (br _)) (ai (jO (Nat.lt_of_le_of_lt (Nat.add_le_add_left (by decide) _) hu) (aE c9 de ah (aU (aU (mv 1) (mv 6) (fun _ _=>rfl)) (mv 7) (fun _ _=>rfl))) (aU (mv 5) (mv 6) (fun _ _=>rfl)) (aE cF dW (mv 7) (mv 4)))
    (ar (jO (Nat.lt_of_le_of_lt (Nat.add_le_add_left (by decide) _) hu) (aE c9 de ah (aU (aU (mv 1) (mv 6) (fun _ _=>rfl)) (mv 7) (fun _ _=>rfl))) (aU (mv 5) (aE cF dW (mv 6) (mv 4)) (fun _ _=>rfl)) (mv 7)))) bn)))))))
    (ai (aW (i:=8) bw.nd rfl (by first|exact .inl rfl|exact .inr rfl) (fg rfl aX (fY (DA (own:=["_law_row_here"]) (capn:=[]) (caps:=[]) rfl (gz.mk' (x := "_law_row_here") rfl (by decide +kernel) (by decide +kernel) (by repeat' (first|exact aF.nil|refine aF.cons (by first|exact (fun _=>.inl rfl)|exact (fun _=>.inr rfl)|(intro z;cases z;done)) ?_)) bJ.nil (by decide +kernel) (fun _ _=>rfl) (fun _=>rfl)) (d9 (mv 5))
      (fun cl C s H ex=>⟨(aJ (i:=0) (show ((["_law_row_here"] : List Str)++([] : List Str)).Nodup by decide +kernel) rfl (by first|exact .inl rfl|exact .inr rfl)),b4,(fg rfl aX (fY (eF (own:=["_law_half"]) (capn:=["_law_row_here"]) (caps:=[0]) rfl (bM.mk' rfl (by decide +kernel) (by decide +kernel) (by repeat' (first|exact aF.nil|refine aF.cons (by first|exact (fun _=>.inl rfl)|exact (fun _=>.inr rfl)|(intro z;cases z;done)) ?_)) (bJ.cons rfl rfl bJ.nil)) (d9 (bL (D4 rfl rfl io (mv 0))))
      (fun cl C s H ex=>⟨(aJ (i:=0) (show ((["_law_half"] : List Str)++(["_law_row_here"] : List Str)).Nodup by decide +kernel) rfl (by first|exact .inl rfl|exact .inr rfl)),b4,(ir (ae (mv 0) (ae (Ie (Nat.lt_of_le_of_lt (Nat.add_le_add_left (by decide) _) hu) (mv 1) (mv 0)) au)))⟩))))⟩)))))
    (ar (aY (ir (ae (mv 8) (ae (fg rfl aX (fY (eF (own:=["_law_level"]) (capn:=[]) (caps:=[]) rfl (bM.mk' rfl (by decide +kernel) (by decide +kernel) (by repeat' (first|exact aF.nil|refine aF.cons (by first|exact (fun _=>.inl rfl)|exact (fun _=>.inr rfl)|(intro z;cases z;done)) ?_)) bJ.nil) (HA (gD (mv 2) (mv 2)))
      (fun cl C s H ex=>⟨(aJ (i:=0) (show ((["_law_level"] : List Str)++([] : List Str)).Nodup by decide +kernel) rfl (by first|exact .inl rfl|exact .inr rfl)),b4,(aE cF dW (aE c9 de ah (mv 0)) ah)⟩)))) (ae (fg rfl aX (fY (gD (mv 3) (mv 3)))) au)))))))))))
theorem dY:aP ["_law_web", "_law_caught", "_law_found", "_law_error"] ["_law_web"] (aj dR):=⟨rfl,rfl,rfl,by decide +kernel,rfl,by decide +kernel,by decide +kernel⟩
theorem o3 (F0:Fun K "check_size" "check_size" dM f fd) (aN:mg "range" = none) (EH:mg "any" = none) (er:Def P w K mg base "many_of" 1 1 bi) (ip:Def P w K mg base "ties_of" 1 2 cJ) {dg:Tok} (dh:mg "MOST_WEIGHT_DOUBLED" = some (.int 200 dg)) {dj:Tok} (dk:mg "MOST_PEOPLE_DOUBLED" = some (.int 15 dj)) {aD:Addr} (jT:PyProof.Rows.OwnCls (Str.ofString "TooMuch") aD Kw "ValueError.__new__" mg base):cA P w K mg base (CX1 P w) 2 f fd ["web"] (spY K mg cB 1):=by
  refine DY F0 jZ fun cdv A outer s H E hr => ?_
  have hu:=eL hr
  exact (k7 (GE (cG sK up (aA er (hr.mono (by decide)) rfl (ae (mv 0) au) aB) (kP rfl dk) (br _)) (jP (wY (n := "TooMuch") jT F.excBase_ValueError rfl rfl (fun e s' h=>y7 h))) AY)
    (jP (HZ PassesOwn.leaving rfl (bQ rfl aN (aA er (hr.mono (by decide)) rfl (ae (mv 0) au) aB)) (aJ (i:=1) jZ.nd rfl (by first|exact .inl rfl|exact .inr rfl)) (jP (GE (df (Id rfl rfl EH (fY (eF (own:=["other", "weight"]) (capn:=[]) (caps:=[]) rfl (bM.mk' rfl (by decide +kernel) (by decide +kernel) (by repeat' (first|exact aF.nil|refine aF.cons (by first|exact (fun _=>.inl rfl)|exact (fun _=>.inr rfl)|(intro z;cases z;done)) ?_)) bJ.nil) (d9 (aA ip (hr.mono (by decide)) rfl (ae (mv 0) (ae (mv 1) au)) aB))
      (fun cl C s H ex=>⟨(yS rfl (gb (aJ (i:=0) (show ((["other", "weight"] : List Str)++([] : List Str)).Nodup by decide +kernel) rfl (by first|exact .inl rfl|exact .inr rfl)) (gb (aJ (i:=1) (show ((["other", "weight"] : List Str)++([] : List Str)).Nodup by decide +kernel) rfl (by first|exact .inl rfl|exact .inr rfl)) ur))),b4,(fW sK up (mv 1) (kP rfl dh) (br _))⟩))))) (jP (wY (n := "TooMuch") jT F.excBase_ValueError rfl rfl (fun e s' h=>y7 h))) AY)))))
theorem xD (F0:Fun K "doubled" "doubled" fR f fd) (jE:Def P w K mg base "web_of" 5 4 dA) (gu:Def P w K mg base "doubled_ties" 2 1 bY) (er:Def P w K mg base "many_of" 1 1 bi) (kG:Def P w K mg base "stays_of" 1 1 eT) (mL:Def P w K mg base "bars_of" 1 1 fM) (u5:uB P w K mg base "check_size" 2 1 cB):cA P w K mg base (CX1 P w) 6 f fd ["web"] (spY K mg eg 1):=by
  refine DY F0 kD fun cdv A outer s H E hr => ?_
  have hu:=eL hr
  exact (k7 (FQ (AW u5 (hr.mono (by decide)) rfl (GD (ae (mv 0) au)) (fun v s' h=>y7 h.xp) AX))
    (k7 (DX (iz (i:=1) kD.nd rfl (by first|exact .inl rfl|exact .inr rfl) (own:=["bar"]) (capn:=[]) (caps:=[]) rfl (bM.mk' rfl (by decide +kernel) (by decide +kernel) (by repeat' (first|exact aF.nil|refine aF.cons (by first|exact (fun _=>.inl rfl)|exact (fun _=>.inr rfl)|(intro z;cases z;done)) ?_)) bJ.nil) (d9 (aA mL (hr.mono (by decide)) rfl (ae (mv 0) au) aB))
      (fun cl C s H ex=>⟨(aJ (i:=0) (show ((["bar"] : List Str)++([] : List Str)).Nodup by decide +kernel) rfl (by first|exact .inl rfl|exact .inr rfl)),b4,(aE cF dW (aE c9 de ah (mv 0)) ah)⟩)))
    (k7 (DX (aW (i:=2) kD.nd rfl (by first|exact .inl rfl|exact .inr rfl) (aA kG (hr.mono (by decide)) rfl (ae (mv 0) au) aB)))
    (jP (DX (aY (aA jE (hr.mono (by decide)) rfl (ae (aE c9 de ah (aA er (hr.mono (by decide)) rfl (ae (mv 0) au) aB)) (ae (aA gu (hr.mono (by decide)) rfl (ae (mv 0) au) aB) (ae (bL (gD (mv 1) (mv 1))) (ae (bL (gD (mv 2) (mv 2))) au)))) aB)))))))
theorem qm (F:Fun K "_law_asked" "_law_asked" dR f fd) {bD:Addr} (jF:mg "MostError" = some (.ref bD)) (h_be:PySem.W.subIn K (.ref bD) (.type "BaseException")=some true) (h_is:(PySem.W.clsIn K bD).isSome=true) (h_ty:PySem.W.typeIn K (.ref bD)=some (.type "type")) (h_cs:BO K mg bD ["TooMuch"]) (Cb:uB P w K mg base "doubled" 6 1 eg) (iO:Def P w K mg base "_law_class" 1 1 ie):cA P w K mg base CX0 7 f fd ["_law_web"] (spF K fN 1):=by
  refine cP F dY fun cdv A outer s H E hr => ?_
  have hu:=eL hr
  exact (ai (aW (i:=1) dY.nd rfl (by first|exact .inl rfl|exact .inr rfl) eD)
    (ai (aW (i:=2) dY.nd rfl (by first|exact .inl rfl|exact .inr rfl) eD)
    (ai (Ib (i:=1) (j:=3) (cs:=["TooMuch"]) rfl rfl (fun q E=>(jP (HY (i:=2) dY.nd rfl (by first|exact .inl rfl|exact .inr rfl) (AW Cb (hr.mono (by decide)) rfl (GD (ae (mv 0) au)) (fun v s' h=>h.unwish) AX)))) rfl rfl jF rfl h_be h_is h_ty dY.nd (by decide) rfl rfl rfl rfl h_cs)
    (ai (cO (cG oa ow (mv 1) eD (br _)) (ar (aY (bL (dt (ae (mv 2) au) (fun _ _ _ _ z=>by rw [(az bK) _ _ _ _ z];decide))))) bn)
    (ar (aY (aA iO (hr.mono (by decide)) rfl (ae (mv 1) au) aB)))))))
theorem gW:aP ["_law_web", "_law_row_here", "_law_pair"] ["_law_web"] (aj dS):=⟨rfl,rfl,rfl,by decide +kernel,rfl,by decide +kernel,by decide +kernel⟩
theorem qo (F:Fun K "_law_kinds" "_law_kinds" dS f fd) (am:mg "isinstance" = none) (aX:mg "tuple" = none) (ly:mg "int" = none) (mD:mg "bool" = none):cA P w K mg base CX0 1 f fd ["_law_web"] (spF K ig 1):=by
  refine cP F gW fun cdv A outer s H E hr => ?_
  have hu:=eL hr
  exact (ai (fz PassesOwn.never rfl (d9 (aU (mv 0) ah (fun _ _=>rfl))) (aJ (i:=1) gW.nd rfl (by first|exact .inl rfl|exact .inr rfl)) (ar (fz PassesOwn.never rfl (d9 (mv 1)) (aJ (i:=2) gW.nd rfl (by first|exact .inl rfl|exact .inr rfl)) (ar (cO (MW.mt (kQ (d8 (df (dF (t:=.tuple) rfl am rfl aX (by decide +kernel) (mv 2)))) (kQ (df (dF (t:=.bool) rfl am rfl mD (by decide +kernel) (aU (mv 2) ah (fun _ _=>rfl)))) (kh (d8 (df (dF (t:=.int) rfl am rfl ly (by decide +kernel) (aU (mv 2) ah (fun _ _=>rfl))))) (.inr rfl))))) (ar (aY sS)) bn)))))
    (ar (aY (MB.me (ma (fF (dF (t:=.tuple) rfl am rfl aX (by decide +kernel) (mv 0))) (ji (fF (fW (fZ hu) jj (bL (eF (own:=["_law_part"]) (capn:=[]) (caps:=[]) rfl (bM.mk' rfl (by decide +kernel) (by decide +kernel) (by repeat' (first|exact aF.nil|refine aF.cons (by first|exact (fun _=>.inl rfl)|exact (fun _=>.inr rfl)|(intro z;cases z;done)) ?_)) bJ.nil) (d9 (mv 0))
      (fun cl C s H ex=>⟨(aJ (i:=0) (show ((["_law_part"] : List Str)++([] : List Str)).Nodup by decide +kernel) rfl (by first|exact .inl rfl|exact .inr rfl)),(FC (d8 (df (dF (t:=.tuple) rfl am rfl aX (by decide +kernel) (mv 0))))),(mv 0)⟩))) (bL (dt au (fun _ _ _ _ z=>by rw [bK _ _ _ _ z];decide))) (br _)))))))))
theorem iH:aP ["_law_script", "_law_way", "_law_model_here", "_law_web", "_law_kept", "_law_great", "_law_found", "_law_some", "_law_parts"] ["_law_script"] (aj lx):=⟨rfl,rfl,rfl,by decide +kernel,rfl,by decide +kernel,by decide +kernel⟩
theorem IH (F:Fun K "law" "law" lx f fd) (am:mg "isinstance" = none) (aX:mg "tuple" = none) (bO:mg "len" = none) (pd:mg "repr" = none) (o5:mg "max" = none) (ly:mg "int" = none) (nZ:Def P w K mg base "whole" 1 2 iF) (pf:Def P w K mg base "halves" 1 1 jx) (eh:Def P w K mg base "_law_row" 1 4 cj) (cz:Def P w K mg base "_law_cell" 1 2 aS) (iP:Def P w K mg base "_law_kinds" 1 1 ig) (g7:Def P w K mg base "_law_double" 1 1 eU) (kH:Def P w K mg base "_law_due" 1 1 lp) (iQ:Def P w K mg base "_law_asked" 7 1 fN) (jG:Def P w K mg base "_law_made" 6 1 ic) (iR:Def P w K mg base "_law_model" 2 2 fL):cA P w K mg base CX0 8 f fd ["_law_script"] (spF K xk 1):=by
  refine cP F iH fun cdv A outer s H E hr => ?_
  have hu:=eL hr
  exact (ai (aW (i:=1) iH.nd rfl (by first|exact .inl rfl|exact .inr rfl) (aA cz (hr.mono (by decide)) rfl (ae (mv 0) (ae ah au)) aB))
    (ai (aW (i:=2) iH.nd rfl (by first|exact .inl rfl|exact .inr rfl) (aA iR (hr.mono (by decide)) rfl (ae (mv 0) (ae (AE (dt (ae ah (ae ah au)) (fun _ _ _ _ z=>by rw [(az (az bK)) _ _ _ _ z];decide)) (Fz rfl ly (fW (fZ hu) jj (aE d5 d7 (aE dr fX (mv 1) ah) ah) ah (br _))) (fun _ _=>rfl)) au)) aB))
    (ai (aW (i:=3) iH.nd rfl (by first|exact .inl rfl|exact .inr rfl) (aA jG (hr.mono (by decide)) rfl (ae (mv 2) au) aB))
    (ai (aW (i:=4) iH.nd rfl (by first|exact .inl rfl|exact .inr rfl) (uD hr.gd hr.units rfl pd (mv 3)))
    (ai (aW (i:=5) iH.nd rfl (by first|exact .inl rfl|exact .inr rfl) (MB.me (Gz (fF (fW sK up (eE rfl bO (du (aU (mv 2) ah (fun _ _=>rfl)))) ah (br _))) (ji (fF (fW sK up (A1 rfl rfl o5 (fY (eF (own:=["_law_row_here"]) (capn:=[]) (caps:=[]) rfl (bM.mk' rfl (by decide +kernel) (by decide +kernel) (by repeat' (first|exact aF.nil|refine aF.cons (by first|exact (fun _=>.inl rfl)|exact (fun _=>.inr rfl)|(intro z;cases z;done)) ?_)) bJ.nil) (d9 (aU (mv 2) ah (fun _ _=>rfl)))
      (fun cl C s H ex=>⟨(aJ (i:=0) (show ((["_law_row_here"] : List Str)++([] : List Str)).Nodup by decide +kernel) rfl (by first|exact .inl rfl|exact .inr rfl)),b4,(A1 rfl rfl o5 (du (mv 0)))⟩)))) ah (br _)))))))
    (ai (aW (i:=6) iH.nd rfl (by first|exact .inl rfl|exact .inr rfl) (aA iQ (hr.mono (by decide)) rfl (ae (mv 3) au) aB))
    (ai (cO (df (mv 5)) (ar (aY (MB.me (ma (fF (fW (fZ hu) jj (mv 6) (aA kH (hr.mono (by decide)) rfl (ae ah au) aB) (br _))) (ji (fF (fW (fZ hu) jj (uD hr.gd hr.units rfl pd (mv 3)) (mv 4) (br _)))))))) bn)
    (ai (cO (MW.mt (kQ (cG (ki hu) oy (mv 6) (bL (dt (ae (aA g7 (hr.mono (by decide)) rfl (ae (mv 2) au) aB) au) (fun _ _ _ _ z=>by rw [(az bK) _ _ _ _ z];decide))) (br _)) (kQ (d8 (df (aA iP (hr.mono (by decide)) rfl (ae (aU (mv 6) ah (fun _ _=>rfl)) au) aB))) (kh (cG (ki hu) oy (uD hr.gd hr.units rfl pd (mv 3)) (mv 4) (br _)) (.inr rfl))))) (ar (aY sS)) bn)
    (ai (aW (i:=7) iH.nd rfl (by first|exact .inl rfl|exact .inr rfl) (fg rfl aX (du (aA eh (hr.mono (by decide)) rfl (ae (aA cz (hr.mono (by decide)) rfl (ae (mv 0) (ae ah au)) aB) (ae (mv 1) (ae (aE c9 de ah (eE rfl bO (du (aU (mv 2) ah (fun _ _=>rfl))))) (ae ah au)))) aB))))
    (ai (aW (i:=8) iH.nd rfl (by first|exact .inl rfl|exact .inr rfl) (aA pf (hr.mono (by decide)) rfl (ae (mv 7) au) aB))
    (ai (cO (MW.mt (kQ (d8 (df (dF (t:=.tuple) rfl am rfl aX (by decide +kernel) (mv 8)))) (kh (cG (ki hu) oy (mv 8) (ir (ae (kW (mv 7) AH (AI (aE dr fX (eE rfl bO (du (mv 7))) ah))) (ae (kW (mv 7) (AI (aE dr fX (eE rfl bO (du (mv 7))) ah)) AH) au))) (br _)) (.inr rfl)))) (ar (aY sS)) bn)
    (ar (aY (MB.me (ma (fF (fW (fZ hu) jj (aA nZ (hr.mono (by decide)) rfl (ae (aU (mv 8) ah (fun _ _=>rfl)) (ae (aU (mv 8) ah (fun _ _=>rfl)) au)) aB) (mv 7) (br _))) (ji (fF (dF (t:=.tuple) rfl am rfl aX (by decide +kernel) (aA nZ (hr.mono (by decide)) rfl (ae (aU (mv 8) ah (fun _ _=>rfl)) (ae (aU (mv 8) ah (fun _ _=>rfl)) au)) aB)))))))))))))))))))
end
theorem bS {α : Type}(us:List α)(hl:us.length=1):∃ x0,us=[x0]:=match us,hl with | [x0],_=>⟨x0,rfl⟩
theorem fw {α : Type}(us:List α)(hl:us.length=2):∃ x0 x1,us=[x0,x1]:=match us,hl with | [x0,x1],_=>⟨x0,x1,rfl⟩
theorem EE {α : Type}(us:List α)(hl:us.length=3):∃ x0 x1 x2,us=[x0,x1,x2]:=match us,hl with | [x0,x1,x2],_=>⟨x0,x1,x2,rfl⟩
theorem xE {α : Type}(us:List α)(hl:us.length=4):∃ x0 x1 x2 x3,us=[x0,x1,x2,x3]:=match us,hl with | [x0,x1,x2,x3],_=>⟨x0,x1,x2,x3,rfl⟩
theorem II {l:PySem.W.OpenLaw} {w:World} {K:PySem.W.Frag} {h:Heap} {mg:Str→Option Value} {fa kI iS iT ph iU jH iV pi mM mO mP kJ iW gv mQ pj u6 jI kK iY iZ jJ i0 kL g8 i3 i4 EI bD aD eu ev gL fx gM dD fy ez:Addr} (X:K.In h) (G:h.Ns mainGlobals mg) (hfa:mg "law" = some (.ref fa))
    {xF xG:Option Addr} {xH:Array (Option Value)} {xI xJ xK xL nn xM:Value}
    (zE:PySem.W.nsIn K mainGlobals "is_whole" = some (some (.ref kI))) (zF:K.lookup kI=some ⟨xI,xF,.func (PySem.W.fnOf "is_whole" "is_whole" (aQ eW) (aK eW) (aj eW) .none xJ xK xL xG nn xM),xH⟩) (gs:PySem.W.codeIn K nn "is_whole" = true) (pv:PySem.W.keepIn K (.ref kI)=true)
    {qp qq:Option Addr} {qu:Array (Option Value)} {qv qw qx qy j0 qz:Value}
    (u7:PySem.W.nsIn K mainGlobals "is_between" = some (some (.ref iS))) (va:K.lookup iS=some ⟨qv,qp,.func (PySem.W.fnOf "is_between" "is_between" (aQ dH) (aK dH) (aj dH) .none qw qx qy qq j0 qz),qu⟩) (bU:PySem.W.codeIn K j0 "is_between" = true) (lA:PySem.W.keepIn K (.ref iS)=true)
    {qA qB:Option Addr} {qC:Array (Option Value)} {qD qE qF qG j5 qH:Value}
    (vc:PySem.W.nsIn K mainGlobals "is_opinion" = some (some (.ref iT))) (vd:K.lookup iT=some ⟨qD,qA,.func (PySem.W.fnOf "is_opinion" "is_opinion" (aQ dI) (aK dI) (aj dI) .none qE qF qG qB j5 qH),qC⟩) (iI:PySem.W.codeIn K j5 "is_opinion" = true) (lB:PySem.W.keepIn K (.ref iT)=true)
    {Cc Cd:Option Addr} {Ce:Array (Option Value)} {Cf Cg Ch Ci tV Cj:Value}
    (EJ:PySem.W.nsIn K mainGlobals "is_tie" = some (some (.ref ph))) (EK:K.lookup ph=some ⟨Cf,Cc,.func (PySem.W.fnOf "is_tie" "is_tie" (aQ ij) (aK ij) (aj ij) .none Cg Ch Ci Cd tV Cj),Ce⟩) (o4:PySem.W.codeIn K tV "is_tie" = true) (xN:PySem.W.keepIn K (.ref ph)=true)
    {qI qJ:Option Addr} {qK:Array (Option Value)} {qL qM qN qO j6 qP:Value}
    (ve:PySem.W.nsIn K mainGlobals "neighbours" = some (some (.ref iU))) (vf:K.lookup iU=some ⟨qL,qI,.func (PySem.W.fnOf "neighbours" "neighbours" (aQ dJ) (aK dJ) (aj dJ) .none qM qN qO qJ j6 qP),qK⟩) (iK:PySem.W.codeIn K j6 "neighbours" = true) (lC:PySem.W.keepIn K (.ref iU)=true)
    {vg vh:Option Addr} {vj:Array (Option Value)} {vk vm vn vq lD vt:Value}
    (xO:PySem.W.nsIn K mainGlobals "bars_told" = some (some (.ref jH))) (xP:K.lookup jH=some ⟨vk,vg,.func (PySem.W.fnOf "bars_told" "bars_told" (aQ em) (aK em) (aj em) .none vm vn vq vh lD vt),vj⟩) (jD:PySem.W.codeIn K lD "bars_told" = true) (nr:PySem.W.keepIn K (.ref jH)=true)
    {qQ qR:Option Addr} {qS:Array (Option Value)} {qT qU qV qW j7 qX:Value}
    (vv:PySem.W.nsIn K mainGlobals "stays_told" = some (some (.ref iV))) (vw:K.lookup iV=some ⟨qT,qQ,.func (PySem.W.fnOf "stays_told" "stays_told" (aQ dL) (aK dL) (aj dL) .none qU qV qW qR j7 qX),qS⟩) (iJ:PySem.W.codeIn K j7 "stays_told" = true) (lE:PySem.W.keepIn K (.ref iV)=true)
    {Ck Cl:Option Addr} {Cm:Array (Option Value)} {Cn Co Cp Cq tW Cr:Value}
    (EL:PySem.W.nsIn K mainGlobals "web_of" = some (some (.ref pi))) (EM:K.lookup pi=some ⟨Cn,Ck,.func (PySem.W.fnOf "web_of" "web_of" (aQ ik) (aK ik) (aj ik) .none Co Cp Cq Cl tW Cr),Cm⟩) (jE:PySem.W.codeIn K tW "web_of" = true) (xQ:PySem.W.keepIn K (.ref pi)=true)
    {zG zH:Option Addr} {zI:Array (Option Value)} {zJ zK zL zM pw zN:Value}
    (Cs:PySem.W.nsIn K mainGlobals "many_of" = some (some (.ref mM))) (Ct:K.lookup mM=some ⟨zJ,zG,.func (PySem.W.fnOf "many_of" "many_of" (aQ fO) (aK fO) (aj fO) .none zK zL zM zH pw zN),zI⟩) (er:PySem.W.codeIn K pw "many_of" = true) (tX:PySem.W.keepIn K (.ref mM)=true)
    {zO zP:Option Addr} {zQ:Array (Option Value)} {zR zS zT zU px zV:Value}
    (Cu:PySem.W.nsIn K mainGlobals "ties_of" = some (some (.ref mO))) (Cv:K.lookup mO=some ⟨zR,zO,.func (PySem.W.fnOf "ties_of" "ties_of" (aQ fP) (aK fP) (aj fP) .none zS zT zU zP px zV),zQ⟩) (ip:PySem.W.codeIn K px "ties_of" = true) (tY:PySem.W.keepIn K (.ref mO)=true)
    {zW zX:Option Addr} {zY:Array (Option Value)} {zZ z3 z4 z5 pz z6:Value}
    (Cw:PySem.W.nsIn K mainGlobals "bars_of" = some (some (.ref mP))) (Cy:K.lookup mP=some ⟨zZ,zW,.func (PySem.W.fnOf "bars_of" "bars_of" (aQ fQ) (aK fQ) (aj fQ) .none z3 z4 z5 zX pz z6),zY⟩) (mL:PySem.W.codeIn K pz "bars_of" = true) (tZ:PySem.W.keepIn K (.ref mP)=true)
    {xR xS:Option Addr} {xT:Array (Option Value)} {xU xV xW xX nt xY:Value}
    (z7:PySem.W.nsIn K mainGlobals "stays_of" = some (some (.ref kJ))) (z8:K.lookup kJ=some ⟨xU,xR,.func (PySem.W.fnOf "stays_of" "stays_of" (aQ eX) (aK eX) (aj eX) .none xV xW xX xS nt xY),xT⟩) (kG:PySem.W.codeIn K nt "stays_of" = true) (pA:PySem.W.keepIn K (.ref kJ)=true)
    {qY qZ:Option Addr} {rc:Array (Option Value)} {re rg rj rk j8 rl:Value}
    (vx:PySem.W.nsIn K mainGlobals "check_size" = some (some (.ref iW))) (vy:K.lookup iW=some ⟨re,qY,.func (PySem.W.fnOf "check_size" "check_size" (aQ dM) (aK dM) (aj dM) .none rg rj rk qZ j8 rl),rc⟩) (vz:PySem.W.codeIn K j8 "check_size" = true) (lF:PySem.W.keepIn K (.ref iW)=true)
    {nI nJ:Option Addr} {nK:Array (Option Value)} {nM nN nO nP i9 nQ:Value}
    (pB:PySem.W.nsIn K mainGlobals "doubled_ties" = some (some (.ref gv))) (pC:K.lookup gv=some ⟨nM,nI,.func (PySem.W.fnOf "doubled_ties" "doubled_ties" (aQ cM) (aK cM) (aj cM) .none nN nO nP nJ i9 nQ),nK⟩) (gu:PySem.W.codeIn K i9 "doubled_ties" = true) (jK:PySem.W.keepIn K (.ref gv)=true)
    {z9 Aa:Option Addr} {Ab:Array (Option Value)} {Ac Ad Ae Af pD Ag:Value}
    (Cz:PySem.W.nsIn K mainGlobals "doubled" = some (some (.ref mQ))) (CA:K.lookup mQ=some ⟨Ac,z9,.func (PySem.W.fnOf "doubled" "doubled" (aQ fR) (aK fR) (aj fR) .none Ad Ae Af Aa pD Ag),Ab⟩) (CB:PySem.W.codeIn K pD "doubled" = true) (t5:PySem.W.keepIn K (.ref mQ)=true)
    {CC CF:Option Addr} {CG:Array (Option Value)} {CH CJ CK CL t6 CM:Value}
    (EN:PySem.W.nsIn K mainGlobals "halves" = some (some (.ref pj))) (EO:K.lookup pj=some ⟨CH,CC,.func (PySem.W.fnOf "halves" "halves" (aQ im) (aK im) (aj im) .none CJ CK CL CF t6 CM),CG⟩) (pf:PySem.W.codeIn K t6 "halves" = true) (xZ:PySem.W.keepIn K (.ref pj)=true)
    {EQ ER:Option Addr} {ES:Array (Option Value)} {ET EU EV EW x9 EX:Value}
    (Gi:PySem.W.nsIn K mainGlobals "whole" = some (some (.ref u6))) (Gj:K.lookup u6=some ⟨ET,EQ,.func (PySem.W.fnOf "whole" "whole" (aQ jS) (aK jS) (aj jS) .none EU EV EW ER x9 EX),ES⟩) (nZ:PySem.W.codeIn K x9 "whole" = true) (Bp:PySem.W.keepIn K (.ref u6)=true)
    {vA vB:Option Addr} {vC:Array (Option Value)} {vD vE vF vG lG vH:Value}
    (ya:PySem.W.nsIn K mainGlobals "_law_cell" = some (some (.ref jI))) (yb:K.lookup jI=some ⟨vD,vA,.func (PySem.W.fnOf "_law_cell" "_law_cell" (aQ en) (aK en) (aj en) .none vE vF vG vB lG vH),vC⟩) (cz:PySem.W.codeIn K lG "_law_cell" = true) (nu:PySem.W.keepIn K (.ref jI)=true)
    {yc yd:Option Addr} {ye:Array (Option Value)} {yf yg yh yi nv yj:Value}
    (Ah:PySem.W.nsIn K mainGlobals "_law_row" = some (some (.ref kK))) (Ai:K.lookup kK=some ⟨yf,yc,.func (PySem.W.fnOf "_law_row" "_law_row" (aQ eY) (aK eY) (aj eY) .none yg yh yi yd nv yj),ye⟩) (eh:PySem.W.codeIn K nv "_law_row" = true) (pE:PySem.W.keepIn K (.ref kK)=true)
    {rm rn:Option Addr} {rq:Array (Option Value)} {rA rC rE rF j9 rG:Value}
    (vI:PySem.W.nsIn K mainGlobals "_law_model" = some (some (.ref iY))) (vJ:K.lookup iY=some ⟨rA,rm,.func (PySem.W.fnOf "_law_model" "_law_model" (aQ dN) (aK dN) (aj dN) .none rC rE rF rn j9 rG),rq⟩) (iR:PySem.W.codeIn K j9 "_law_model" = true) (lH:PySem.W.keepIn K (.ref iY)=true)
    {rH rJ:Option Addr} {rK:Array (Option Value)} {rL rM rN rP ka rR:Value}
    (vK:PySem.W.nsIn K mainGlobals "_law_lines" = some (some (.ref iZ))) (vL:K.lookup iZ=some ⟨rL,rH,.func (PySem.W.fnOf "_law_lines" "_law_lines" (aQ dP) (aK dP) (aj dP) .none rM rN rP rJ ka rR),rK⟩) (iL:PySem.W.codeIn K ka "_law_lines" = true) (lI:PySem.W.keepIn K (.ref iZ)=true)
    {vM vN:Option Addr} {vO:Array (Option Value)} {vP vQ vR vS lJ vT:Value}
    (yk:PySem.W.nsIn K mainGlobals "_law_made" = some (some (.ref jJ))) (ym:K.lookup jJ=some ⟨vP,vM,.func (PySem.W.fnOf "_law_made" "_law_made" (aQ eo) (aK eo) (aj eo) .none vQ vR vS vN lJ vT),vO⟩) (jG:PySem.W.codeIn K lJ "_law_made" = true) (ny:PySem.W.keepIn K (.ref jJ)=true)
    {rS rT:Option Addr} {rU:Array (Option Value)} {rV rW rX rY kb rZ:Value}
    (vU:PySem.W.nsIn K mainGlobals "_law_class" = some (some (.ref i0))) (vV:K.lookup i0=some ⟨rV,rS,.func (PySem.W.fnOf "_law_class" "_law_class" (aQ dQ) (aK dQ) (aj dQ) .none rW rX rY rT kb rZ),rU⟩) (iO:PySem.W.codeIn K kb "_law_class" = true) (lK:PySem.W.keepIn K (.ref i0)=true)
    {yn yo:Option Addr} {yp:Array (Option Value)} {yq yr yt yu nz yv:Value}
    (Aj:PySem.W.nsIn K mainGlobals "_law_due" = some (some (.ref kL))) (Ak:K.lookup kL=some ⟨yq,yn,.func (PySem.W.fnOf "_law_due" "_law_due" (aQ eZ) (aK eZ) (aj eZ) .none yr yt yu yo nz yv),yp⟩) (kH:PySem.W.codeIn K nz "_law_due" = true) (pF:PySem.W.keepIn K (.ref kL)=true)
    {pG pH:Option Addr} {pI:Array (Option Value)} {pJ pK pL pM jL pN:Value}
    (r6:PySem.W.nsIn K mainGlobals "_law_double" = some (some (.ref g8))) (sd:K.lookup g8=some ⟨pJ,pG,.func (PySem.W.fnOf "_law_double" "_law_double" (aQ c7) (aK c7) (aj c7) .none pK pL pM pH jL pN),pI⟩) (g7:PySem.W.codeIn K jL "_law_double" = true) (kc:PySem.W.keepIn K (.ref g8)=true)
    {se sf:Option Addr} {sg:Array (Option Value)} {sh si sj sr ke su:Value}
    (vW:PySem.W.nsIn K mainGlobals "_law_asked" = some (some (.ref i3))) (vX:K.lookup i3=some ⟨sh,se,.func (PySem.W.fnOf "_law_asked" "_law_asked" (aQ dR) (aK dR) (aj dR) .none si sj sr sf ke su),sg⟩) (iQ:PySem.W.codeIn K ke "_law_asked" = true) (lL:PySem.W.keepIn K (.ref i3)=true)
    {sv sw:Option Addr} {sx:Array (Option Value)} {sy sA sB sC kf sD:Value}
    (vY:PySem.W.nsIn K mainGlobals "_law_kinds" = some (some (.ref i4))) (vZ:K.lookup i4=some ⟨sy,sv,.func (PySem.W.fnOf "_law_kinds" "_law_kinds" (aQ dS) (aK dS) (aj dS) .none sA sB sC sw kf sD),sx⟩) (iP:PySem.W.codeIn K kf "_law_kinds" = true) (lM:PySem.W.keepIn K (.ref i4)=true)
    {IJ EY:Option Addr} {IK:Array (Option Value)} {IL EZ E3 E4 Al E5:Value}
    (JQ:PySem.W.nsIn K mainGlobals "law" = some (some (.ref EI))) (JR:K.lookup EI=some ⟨IL,IJ,.func (PySem.W.fnOf "law" "law" (aQ lx) (aK lx) (aj lx) .none EZ E3 E4 EY Al E5),IK⟩) (JS:PySem.W.codeIn K Al "law" = true) (JT:PySem.W.keepIn K (.ref EI)=true)
    (v3:PySem.W.nsIn K mainGlobals "isinstance" = some none)
    (IM:PySem.W.nsIn K mainGlobals "bool" = some none)
    (JU:PySem.W.nsIn K mainGlobals "int" = some none)
    (JV:PySem.W.nsIn K mainGlobals "len" = some none)
    (Gk:PySem.W.nsIn K mainGlobals "tuple" = some none)
    (Gm:PySem.W.nsIn K mainGlobals "range" = some none)
    (IN:PySem.W.nsIn K mainGlobals "list" = some none)
    (JW:PySem.W.nsIn K mainGlobals "all" = some none)
    (E6:PySem.W.nsIn K mainGlobals "sorted" = some none)
    (JX:PySem.W.nsIn K mainGlobals "any" = some none)
    (JY:PySem.W.nsIn K mainGlobals "sum" = some none)
    (JZ:PySem.W.nsIn K mainGlobals "max" = some none)
    (v4:PySem.W.nsIn K mainGlobals "ValueError" = some none)
    (IO:PySem.W.nsIn K mainGlobals "repr" = some none)
    {gX:Tok} (sE:PySem.W.nsIn K mainGlobals "MOST_WEIGHT" = some (some (.int 400 gX)))
    {gZ:Tok} (sF:PySem.W.nsIn K mainGlobals "MOST_PEOPLE" = some (some (.int 30 gZ)))
    {dg:Tok} (jf:PySem.W.nsIn K mainGlobals "MOST_WEIGHT_DOUBLED" = some (some (.int 200 dg)))
    {dj:Tok} (jg:PySem.W.nsIn K mainGlobals "MOST_PEOPLE_DOUBLED" = some (some (.int 15 dj)))
    {cd_M cd_A_TooMuch:ClassData}
    (yw:PySem.W.nsIn K mainGlobals "MostError" = some (some (.ref bD)))
    (cu:PySem.W.nsIn K mainGlobals "TooMuch" = some (some (.ref aD)))
    (CN:PySem.W.nsIn K mainGlobals "TooLong" = some (some (.ref eu)))
    (CO:PySem.W.nsIn K mainGlobals "NoOrder" = some (some (.ref ev)))
    (Gn:PySem.W.nsIn K mainGlobals "NoWeb" = some (some (.ref gL)))
    (E7:PySem.W.nsIn K mainGlobals "NoText" = some (some (.ref fx)))
    (Go:PySem.W.nsIn K mainGlobals "NoRow" = some (some (.ref gM)))
    (Am:PySem.W.nsIn K mainGlobals "NoPeople" = some (some (.ref dD)))
    (E8:PySem.W.nsIn K mainGlobals "NoRest" = some (some (.ref fy)))
    (CP:PySem.W.nsIn K mainGlobals "NoStand" = some (some (.ref ez)))
    (w_be:PySem.W.subIn K (.ref bD) (.type "BaseException")=some true)
    (w_is:PySem.W.clsIn K bD=some cd_M)
    (w_ty:PySem.W.typeIn K (.ref bD)=some (.type "type"))
    (w_own_TooMuch:PySem.W.excIn K aD [.type "ValueError",.type "Exception",.type "BaseException",.type "object"] "ValueError.__new__" = true)
    (w_sub_TooMuch:PySem.W.subIn K (.ref aD) (.ref bD)=some true)
    (w_z1_TooMuch:PySem.W.findIn K (.ref aD) "__getattribute__" = some (some (.builtin "BaseException.__getattribute__")))
    (w_z2_TooMuch:PySem.W.findIn K (.ref aD) "__getattr__" = some none)
    (w_z3_TooMuch:PySem.W.findIn K (.ref aD) "__class__" = some (some (.builtin "object.__class__")))
    (w_z4_TooMuch:PySem.W.subIn K (.ref aD) (.type "BaseException")=some true)
    (w_z5_TooMuch:PySem.W.mroIn K aD (.type "object")=some true)
    (w_z6_TooMuch:PySem.W.clsIn K aD=some cd_A_TooMuch)
    (w_kA_TooMuch_ValueError:PySem.W.kitOne K (.ref aD) (.type "ValueError")=some true)
    (w_kA_TooMuch_TooLong:PySem.W.kitOne K (.ref aD) (.ref eu)=some false)
    (w_kA_TooMuch_NoOrder:PySem.W.kitOne K (.ref aD) (.ref ev)=some false)
    (w_kA_TooMuch_NoWeb:PySem.W.kitOne K (.ref aD) (.ref gL)=some false)
    (w_kA_TooMuch_NoText:PySem.W.kitOne K (.ref aD) (.ref fx)=some false)
    (w_kA_TooMuch_NoRow:PySem.W.kitOne K (.ref aD) (.ref gM)=some false)
    (w_kA_TooMuch_NoPeople:PySem.W.kitOne K (.ref aD) (.ref dD)=some false)
    (w_kA_TooMuch_TooMuch:PySem.W.kitOne K (.ref aD) (.ref aD)=some true)
    (w_kA_TooMuch_NoRest:PySem.W.kitOne K (.ref aD) (.ref fy)=some false)
    (w_kA_TooMuch_NoStand:PySem.W.kitOne K (.ref aD) (.ref ez)=some false)
    : ∃ fd:FuncData,(∀ (s:Shared) (v:Value),BindsTo s fd ⟨[v],[]⟩ [("_law_script",v)]) ∧ ∀ base:Heap,K.In base→base.Ns mainGlobals mg→cA l.prog w K mg base CX0 8 fa fd ["_law_script"] (spF K xk 1):=by
  have e:=hfa.symm.trans (PySem.W.mg_of X G JQ)
  cases e
  have am:=PySem.W.mg_none_of X G v3
  have mD:=PySem.W.mg_none_of X G IM
  have ly:=PySem.W.mg_none_of X G JU
  have bO:=PySem.W.mg_none_of X G JV
  have aX:=PySem.W.mg_none_of X G Gk
  have aN:=PySem.W.mg_none_of X G Gm
  have cZ:=PySem.W.mg_none_of X G IN
  have tU:=PySem.W.mg_none_of X G JW
  have io:=PySem.W.mg_none_of X G E6
  have EH:=PySem.W.mg_none_of X G JX
  have EG:=PySem.W.mg_none_of X G JY
  have o5:=PySem.W.mg_none_of X G JZ
  have iM:=PySem.W.mg_none_of X G v4
  have pd:=PySem.W.mg_none_of X G IO
  have gY:=PySem.W.mg_of X G sE
  have g6:=PySem.W.mg_of X G sF
  have dh:=PySem.W.mg_of X G jf
  have dk:=PySem.W.mg_of X G jg
  have jF:=PySem.W.mg_of X G yw
  have iq:=PySem.W.mg_of X G cu
  have mE:=PySem.W.mg_of X G CN
  have mF:=PySem.W.mg_of X G CO
  have uZ:=PySem.W.mg_of X G Gn
  have o6:=PySem.W.mg_of X G E7
  have u0:=PySem.W.mg_of X G Go
  have kE:=PySem.W.mg_of X G Am
  have o7:=PySem.W.mg_of X G E8
  have mG:=PySem.W.mg_of X G CP
  have pO:=bE (st:=eW) zF gs pv
  have An:=pO.binds (ps:=["thing"]) fun _ _ _ _ _ _ us hl=>by obtain⟨_,rfl⟩:=bS us hl;rfl
  have lN:=bE (st:=dH) va bU lA
  have v5:=lN.binds (ps:=["thing", "least", "most"]) fun _ _ _ _ _ _ us hl=>by obtain⟨_,_,_,rfl⟩:=EE us hl;rfl
  have lO:=bE (st:=dI) vd iI lB
  have v6:=lO.binds (ps:=["thing"]) fun _ _ _ _ _ _ us hl=>by obtain⟨_,rfl⟩:=bS us hl;rfl
  have yx:=bE (st:=ij) EK o4 xN
  have E9:=yx.binds (ps:=["many", "thing"]) fun _ _ _ _ _ _ us hl=>by obtain⟨_,_,rfl⟩:=fw us hl;rfl
  have lP:=bE (st:=dJ) vf iK lC
  have wa:=lP.binds (ps:=["many", "ties"]) fun _ _ _ _ _ _ us hl=>by obtain⟨_,_,rfl⟩:=fw us hl;rfl
  have nA:=bE (st:=em) xP jD nr
  have yy:=nA.binds (ps:=["near", "bars"]) fun _ _ _ _ _ _ us hl=>by obtain⟨_,_,rfl⟩:=fw us hl;rfl
  have lQ:=bE (st:=dL) vw iJ lE
  have wb:=lQ.binds (ps:=["many", "stays"]) fun _ _ _ _ _ _ us hl=>by obtain⟨_,_,rfl⟩:=fw us hl;rfl
  have yz:=bE (st:=ik) EM jE xQ
  have Fa:=yz.binds (ps:=["many", "ties", "bars", "stays"]) fun _ _ _ _ _ _ us hl=>by obtain⟨_,_,_,_,rfl⟩:=xE us hl;rfl
  have t7:=bE (st:=fO) Ct er tX
  have CQ:=t7.binds (ps:=["web"]) fun _ _ _ _ _ _ us hl=>by obtain⟨_,rfl⟩:=bS us hl;rfl
  have t8:=bE (st:=fP) Cv ip tY
  have CS:=t8.binds (ps:=["web", "person"]) fun _ _ _ _ _ _ us hl=>by obtain⟨_,_,rfl⟩:=fw us hl;rfl
  have t9:=bE (st:=fQ) Cy mL tZ
  have CT:=t9.binds (ps:=["web"]) fun _ _ _ _ _ _ us hl=>by obtain⟨_,rfl⟩:=bS us hl;rfl
  have pP:=bE (st:=eX) z8 kG pA
  have Ao:=pP.binds (ps:=["web"]) fun _ _ _ _ _ _ us hl=>by obtain⟨_,rfl⟩:=bS us hl;rfl
  have lR:=bE (st:=dM) vy vz lF
  have wc:=lR.binds (ps:=["web"]) fun _ _ _ _ _ _ us hl=>by obtain⟨_,rfl⟩:=bS us hl;rfl
  have jM:=bE (st:=cM) pC gu jK
  have pQ:=jM.binds (ps:=["web"]) fun _ _ _ _ _ _ us hl=>by obtain⟨_,rfl⟩:=bS us hl;rfl
  have ua:=bE (st:=fR) CA CB t5
  have CU:=ua.binds (ps:=["web"]) fun _ _ _ _ _ _ us hl=>by obtain⟨_,rfl⟩:=bS us hl;rfl
  have yA:=bE (st:=im) EO pf xZ
  have Fb:=yA.binds (ps:=["stand"]) fun _ _ _ _ _ _ us hl=>by obtain⟨_,rfl⟩:=bS us hl;rfl
  have Bq:=bE (st:=jS) Gj nZ Bp
  have Gp:=Bq.binds (ps:=["one", "other"]) fun _ _ _ _ _ _ us hl=>by obtain⟨_,_,rfl⟩:=fw us hl;rfl
  have nB:=bE (st:=en) yb cz nu
  have yB:=nB.binds (ps:=["_law_script", "_law_k"]) fun _ _ _ _ _ _ us hl=>by obtain⟨_,_,rfl⟩:=fw us hl;rfl
  have pR:=bE (st:=eY) Ai eh pE
  have Ap:=pR.binds (ps:=["_law_cell_here", "_law_way", "_law_many", "_law_base"]) fun _ _ _ _ _ _ us hl=>by obtain⟨_,_,_,_,rfl⟩:=xE us hl;rfl
  have lS:=bE (st:=dN) vJ iR lH
  have wd:=lS.binds (ps:=["_law_script", "_law_most"]) fun _ _ _ _ _ _ us hl=>by obtain⟨_,_,rfl⟩:=fw us hl;rfl
  have lT:=bE (st:=dP) vL iL lI
  have we:=lT.binds (ps:=["_law_model_here"]) fun _ _ _ _ _ _ us hl=>by obtain⟨_,rfl⟩:=bS us hl;rfl
  have nC:=bE (st:=eo) ym jG ny
  have yC:=nC.binds (ps:=["_law_model_here"]) fun _ _ _ _ _ _ us hl=>by obtain⟨_,rfl⟩:=bS us hl;rfl
  have lU:=bE (st:=dQ) vV iO lK
  have wf:=lU.binds (ps:=["_law_error"]) fun _ _ _ _ _ _ us hl=>by obtain⟨_,rfl⟩:=bS us hl;rfl
  have pS:=bE (st:=eZ) Ak kH pF
  have Aq:=pS.binds (ps:=["_law_k"]) fun _ _ _ _ _ _ us hl=>by obtain⟨_,rfl⟩:=bS us hl;rfl
  have kg:=bE (st:=c7) sd g7 kc
  have sG:=kg.binds (ps:=["_law_model_here"]) fun _ _ _ _ _ _ us hl=>by obtain⟨_,rfl⟩:=bS us hl;rfl
  have lV:=bE (st:=dR) vX iQ lL
  have wg:=lV.binds (ps:=["_law_web"]) fun _ _ _ _ _ _ us hl=>by obtain⟨_,rfl⟩:=bS us hl;rfl
  have lW:=bE (st:=dS) vZ iP lM
  have wj:=lW.binds (ps:=["_law_web"]) fun _ _ _ _ _ _ us hl=>by obtain⟨_,rfl⟩:=bS us hl;rfl
  have J0:=bE (st:=lx) JR JS JT
  refine⟨PySem.W.fnOf "law" "law" (aQ lx) (aK lx) (aj lx) .none EZ E3 E4 EY Al E5,fun s v=>.of_eq rfl,fun base KB _ => ?_⟩
  have jT:=HX (mg:=mg) KB iq w_own_TooMuch
  have c8:p7 K aD:=⟨w_z1_TooMuch,w_z2_TooMuch,w_z3_TooMuch,w_z4_TooMuch,w_z5_TooMuch,by rw [w_z6_TooMuch];rfl⟩
  have iN:fK K (fun C b=>PySem.W.kitOne K (.ref C) (gg (.ty "ValueError"))=some b) [("TooMuch",true)]:=(fj cu c8 w_kA_TooMuch_ValueError gQ)
  have mH:fK K (fun C b=>PySem.W.kitOne K (.ref C) (gg (.ref eu))=some b) [("TooMuch",false)]:=(fj cu c8 w_kA_TooMuch_TooLong gQ)
  have mI:fK K (fun C b=>PySem.W.kitOne K (.ref C) (gg (.ref ev))=some b) [("TooMuch",false)]:=(fj cu c8 w_kA_TooMuch_NoOrder gQ)
  have u3:fK K (fun C b=>PySem.W.kitOne K (.ref C) (gg (.ref gL))=some b) [("TooMuch",false)]:=(fj cu c8 w_kA_TooMuch_NoWeb gQ)
  have o8:fK K (fun C b=>PySem.W.kitOne K (.ref C) (gg (.ref fx))=some b) [("TooMuch",false)]:=(fj cu c8 w_kA_TooMuch_NoText gQ)
  have u4:fK K (fun C b=>PySem.W.kitOne K (.ref C) (gg (.ref gM))=some b) [("TooMuch",false)]:=(fj cu c8 w_kA_TooMuch_NoRow gQ)
  have kF:fK K (fun C b=>PySem.W.kitOne K (.ref C) (gg (.ref dD))=some b) [("TooMuch",false)]:=(fj cu c8 w_kA_TooMuch_NoPeople gQ)
  have mJ:fK K (fun C b=>PySem.W.kitOne K (.ref C) (gg (.ref aD))=some b) [("TooMuch",true)]:=(fj cu c8 w_kA_TooMuch_TooMuch gQ)
  have o9:fK K (fun C b=>PySem.W.kitOne K (.ref C) (gg (.ref fy))=some b) [("TooMuch",false)]:=(fj cu c8 w_kA_TooMuch_NoRest gQ)
  have mK:fK K (fun C b=>PySem.W.kitOne K (.ref C) (gg (.ref ez))=some b) [("TooMuch",false)]:=(fj cu c8 w_kA_TooMuch_NoStand gQ)
  have h_cs:BO K mg bD ["TooMuch"]:=(FR iq cu w_sub_TooMuch Ia)
  have pT:Def l.prog w K mg base "is_whole" 1 1 bX:=Def.mk' (PySem.W.mg_of X G zE) pv An (xx (P:=l.prog) (w:=w) (base:=base) pO am mD ly)
  have i5:Def l.prog w K mg base "is_between" 2 3 aR:=Def.mk' (PySem.W.mg_of X G u7) lA v5 (qc (P:=l.prog) (w:=w) (base:=base) lN pT)
  have wl:Def l.prog w K mg base "is_opinion" 3 1 cy:=Def.mk' (PySem.W.mg_of X G vc) lB v6 (qe (P:=l.prog) (w:=w) (base:=base) lO i5)
  have Fc:Def l.prog w K mg base "is_tie" 3 2 jv:=Def.mk' (PySem.W.mg_of X G EJ) xN E9 (B8 (P:=l.prog) (w:=w) (base:=base) yx bO am aX gY i5)
  have wm:Def l.prog w K mg base "neighbours" 4 2 cX:=Def.mk' (PySem.W.mg_of X G ve) lC wa (qf (P:=l.prog) (w:=w) (base:=base) lP aN am cZ Fc)
  have yD:Def l.prog w K mg base "bars_told" 2 2 dz:=Def.mk' (PySem.W.mg_of X G xO) nr yy (uU (P:=l.prog) (w:=w) (base:=base) nA aX tU bO am cZ pT)
  have wn:Def l.prog w K mg base "stays_told" 4 2 cY:=Def.mk' (PySem.W.mg_of X G vv) lE wb (qh (P:=l.prog) (w:=w) (base:=base) lQ aX tU bO am cZ aN wl)
  have yE:Def l.prog w K mg base "web_of" 5 4 dA:=Def.mk' (PySem.W.mg_of X G EL) xQ Fa (B9 (P:=l.prog) (w:=w) (base:=base) yz aX io g6 wn yD wm i5)
  have mR:Def l.prog w K mg base "many_of" 1 1 bi:=Def.mk' (PySem.W.mg_of X G Cs) tX CQ (zz (P:=l.prog) (w:=w) (base:=base) t7 bO)
  have ub:Def l.prog w K mg base "ties_of" 1 2 cJ:=Def.mk' (PySem.W.mg_of X G Cu) tY CS (zB (P:=l.prog) (w:=w) (base:=base) t8)
  have CV:Def l.prog w K mg base "bars_of" 1 1 fM:=Def.mk' (PySem.W.mg_of X G Cw) tZ CT (zD (P:=l.prog) (w:=w) (base:=base) t9 cZ)
  have Ar:Def l.prog w K mg base "stays_of" 1 1 eT:=Def.mk' (PySem.W.mg_of X G z7) pA Ao (xz (P:=l.prog) (w:=w) (base:=base) pP cZ)
  have pU:Def l.prog w K mg base "doubled_ties" 2 1 bY:=Def.mk' (PySem.W.mg_of X G pB) jK pQ (nH (P:=l.prog) (w:=w) (base:=base) jM aN ub mR)
  have Fd:Def l.prog w K mg base "halves" 1 1 jx:=Def.mk' (PySem.W.mg_of X G EN) xZ Fb (Ca (P:=l.prog) (w:=w) (base:=base) yA bO)
  have Gq:Def l.prog w K mg base "whole" 1 2 iF:=Def.mk' (PySem.W.mg_of X G Gi) Bp Gp (ED (P:=l.prog) (w:=w) (base:=base) Bq)
  have nD:Def l.prog w K mg base "_law_cell" 1 2 aS:=Def.mk' (PySem.W.mg_of X G ya) nu yB (uW (P:=l.prog) (w:=w) (base:=base) nB bO)
  have pV:Def l.prog w K mg base "_law_row" 1 4 cj:=Def.mk' (PySem.W.mg_of X G Ah) pE Ap (xA (P:=l.prog) (w:=w) (base:=base) pR aN)
  have wo:Def l.prog w K mg base "_law_model" 2 2 fL:=Def.mk' (PySem.W.mg_of X G vI) lH wd (qi (P:=l.prog) (w:=w) (base:=base) lS aN EG o5 pV nD)
  have wp:Def l.prog w K mg base "_law_lines" 1 1 ei:=Def.mk' (PySem.W.mg_of X G vK) lI we (qj (P:=l.prog) (w:=w) (base:=base) lT aN bO)
  have yF:Def l.prog w K mg base "_law_made" 6 1 ic:=Def.mk' (PySem.W.mg_of X G yk) ny yC (uY (P:=l.prog) (w:=w) (base:=base) nC cZ bO yE wp)
  have wr:Def l.prog w K mg base "_law_class" 1 1 ie:=Def.mk' (PySem.W.mg_of X G vU) lK wf (qk (P:=l.prog) (w:=w) (base:=base) lU am iM mE mF uZ o6 u0 kE iq o7 mG iN mH mI u3 o8 u4 kF mJ o9 mK)
  have As:Def l.prog w K mg base "_law_due" 1 1 lp:=Def.mk' (PySem.W.mg_of X G Aj) pF Aq (xC (P:=l.prog) (w:=w) (base:=base) pS aN)
  have sH:Def l.prog w K mg base "_law_double" 1 1 eU:=Def.mk' (PySem.W.mg_of X G r6) kc sG (o0 (P:=l.prog) (w:=w) (base:=base) kg aX io aN bO)
  have wu:uB l.prog w K mg base "check_size" 2 1 cB:=uB.mk' (PySem.W.mg_of X G vx) lF wc (o3 (P:=l.prog) (w:=w) (base:=base) lR aN EH mR ub dh dk jT)
  have CW:uB l.prog w K mg base "doubled" 6 1 eg:=uB.mk' (PySem.W.mg_of X G Cz) t5 CU (xD (P:=l.prog) (w:=w) (base:=base) ua yE pU mR Ar CV wu)
  have wv:Def l.prog w K mg base "_law_asked" 7 1 fN:=Def.mk' (PySem.W.mg_of X G vW) lL wg (qm (P:=l.prog) (w:=w) (base:=base) lV jF w_be (by rw [w_is];rfl) w_ty h_cs CW wr)
  have ww:Def l.prog w K mg base "_law_kinds" 1 1 ig:=Def.mk' (PySem.W.mg_of X G vY) lM wj (qo (P:=l.prog) (w:=w) (base:=base) lW am aX ly mD)
  exact IH (P:=l.prog) (w:=w) (base:=base) J0 am aX bO pd o5 ly Gq Fd pV nD ww sH As wv yF wo
end Fm
set_option Elab.async false
set_option linter.all false
set_option maxRecDepth 100000
def PySem.W.Fast.tw90343872475197607 : Type := PySem.Params
theorem PySem.W.Fast.te90343872475197607 : PySem.Params = PySem.W.Fast.tw90343872475197607 := rfl
open PySem PySem.W PyProof.Rows
set_option maxRecDepth 100000 in
set_option maxHeartbeats 0 in
theorem PySem.Challenge.cw_followmost_k28_webs_doubled_holds : PySem.Challenge.rw_followmost_k28_webs_doubled.Holds := by
  w_on;o_law;k_head;(case hw=>w_witness2)
  k_fill
  refine Fm.Js (l := PySem.Challenge.rw_followmost_k28_webs_doubled) (F := Fm.xk) (k := 8) (x := "_law_script") rfl rfl ⟨rfl, by decide, by decide, rfl⟩ (fun w h Y => PySem.W.kIn_of Y) ?F Fm.IG
  case F =>
    intro w mg fa h KX G hmg
    refine' Fm.II KX G hmg ?_ ?_ ?_ ?_ ?_ ?_ ?_ ?_ ?_ ?_ ?_ ?_ ?_ ?_ ?_ ?_ ?_ ?_ ?_ ?_ ?_ ?_ ?_ ?_ ?_ ?_ ?_ ?_ ?_ ?_ ?_ ?_ ?_ ?_ ?_ ?_ ?_ ?_ ?_ ?_ ?_ ?_ ?_ ?_ ?_ ?_ ?_ ?_ ?_ ?_ ?_ ?_ ?_ ?_ ?_ ?_ ?_ ?_ ?_ ?_ ?_ ?_ ?_ ?_ ?_ ?_ ?_ ?_ ?_ ?_ ?_ ?_ ?_ ?_ ?_ ?_ ?_ ?_ ?_ ?_ ?_ ?_ ?_ ?_ ?_ ?_ ?_ ?_ ?_ ?_ ?_ ?_ ?_ ?_ ?_ ?_ ?_ ?_ ?_ ?_ ?_ ?_ ?_ ?_ ?_ ?_ ?_ ?_ ?_ ?_ ?_ ?_ ?_ ?_ ?_ ?_ ?_ ?_ ?_ ?_ ?_ ?_ ?_ ?_ ?_ ?_ ?_ ?_ ?_ ?_ ?_ ?_ ?_ ?_ ?_ ?_ ?_ ?_ ?_ ?_ ?_ ?_ ?_ ?_ ?_ ?_ ?_ ?_ ?_ ?_ ?_ ?_ ?_ ?_ ?_ ?_ ?_ ?_ ?_ ?_ ?_
    all_goals try first|k_is|k_exc|kit_is
