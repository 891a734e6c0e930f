import PyProof.Rows.All
import Wide.All
import OpenK.AllK
import Wide.FinOn
import Lean
import PyProof.EqAt
import PyProof.EqKinds
import PyProof.TupleCall
import PyProof.NeKinds
import PyProof.IsInstanceH
import PyProof.IsiNone
import PyProof.EnumMake
import PyProof.Draws
import PyProof.ZipIter
import PyProof.ListRange
import KE.RegKIsAll
import PyProof.ExcAttrAll.ValueError
import PyProof.NsDelKeeps
import PySem.Challenge.RW_followmost_k24_joined_and_met
set_option Elab.async false
set_option linter.all false
set_option maxRecDepth 100000
namespace L2
open PySem PySem.Spec PyProof.Rows
abbrev Key:=Sum Int Str
def wG:Key→Value→Bool
  | .inl k,v=>Value.isInt k v
  | .inr x,v=>Value.isStrOf x v
def QQ (w:World):Key→Int
  | .inl k=>hashInt k
  | .inr x=>hashStr w x
theorem c7:∀ {k:Key} {v:Value},wG k v=true→(∃ i t,k=Sum.inl i∧v=Value.int i t)∨(∃ x t,k=Sum.inr x∧v=Value.str x t)
  | .inl i,v,h=>by
    obtain⟨t,e⟩:=Value.isInt_shape (k:=i) (v:=v) h
    exact .inl ⟨i,t,rfl,e⟩
  | .inr x,v,h=>by
    obtain⟨t,e⟩:=Value.isStrOf_shape (x:=x) (v:=v) h
    exact .inr ⟨x,t,rfl,e⟩
theorem Fv (i:Int)(t:Tok):wG (.inl i) (.int i t)=true:=by simp [wG,Value.isInt]
theorem Fw (x:Str)(t:Tok):wG (.inr x) (.str x t)=true:=by simp [wG,Value.isStrOf]
theorem Nr (a b:Int):decide ((Sum.inl a:Key)=Sum.inl b)=(a == b):=by
  by_cases e:a=b
  · subst e;simp
  · have h : ¬ (Sum.inl a:Key)=Sum.inl b:=fun q=>e (Sum.inl.inj q)
    rw [decide_eq_false h]
    exact (beq_eq_false_iff_ne.mpr e).symm
theorem Nt (a b:Str):decide ((Sum.inr a:Key)=Sum.inr b)=decide (a=b):=by
  by_cases e:a=b
  · subst e;simp
  · have h : ¬ (Sum.inr a:Key)=Sum.inr b:=fun q=>e (Sum.inr.inj q)
    rw [decide_eq_false h,decide_eq_false e]
theorem Nu (a:Int)(b:Str):decide ((Sum.inl a:Key)=Sum.inr b)=false:=decide_eq_false (fun q=>nomatch q)
theorem Nv (a:Str)(b:Int):decide ((Sum.inr a:Key)=Sum.inl b)=false:=decide_eq_false (fun q=>nomatch q)
def dl (prog:Program) (w:World):PySem.KeyKind prog w Key where
  is:=wG
  hash:=QQ w
  inj:=fun v a b ha hb=>by
    rcases c7 ha with ⟨i,t,rfl,rfl⟩|⟨x,t,rfl,rfl⟩
    · rcases c7 hb with ⟨j,u,rfl,e⟩|⟨y,u,rfl,e⟩
      · injection e with e1 _;rw [e1]
      · exact nomatch e
    · rcases c7 hb with ⟨j,u,rfl,e⟩|⟨y,u,rfl,e⟩
      · exact nomatch e
      · injection e with e1 _;rw [e1]
  byValue:=fun k v h=>by
    rcases c7 h with ⟨i,t,rfl,rfl⟩|⟨x,t,rfl,rfl⟩<;>rfl
  pyHash:=fun hv h=>by
    rcases c7 hv with ⟨i,t,rfl,rfl⟩|⟨x,t,rfl,rfl⟩
    · exact wpAny_pyHash_int h
    · exact wpAny_pyHash_str h
  eqBool:=fun hu hv h=>by
    rcases c7 hu with ⟨i,t,rfl,rfl⟩|⟨x,t,rfl,rfl⟩
    · rcases c7 hv with ⟨j,u,rfl,rfl⟩|⟨y,u,rfl,rfl⟩
      · rw [Nr] at h;exact wpAny_eqBool_int h
      · rw [Nu] at h;exact SeqAt.EqAt.int_str i t y u _ _ _ _ h
    · rcases c7 hv with ⟨j,u,rfl,rfl⟩|⟨y,u,rfl,rfl⟩
      · rw [Nv] at h;exact SeqAt.EqAt.str_int x t j u _ _ _ _ h
      · rw [Nt] at h;exact wpAny_eqBool_str h
  «strs» := fun k x t v h=>by
    rcases c7 h with ⟨i,u,rfl,e⟩|⟨y,u,rfl,e⟩
    · exact nomatch e
    · injection e with e1 _
      subst e1
      cases v<;>rfl
theorem Ad (prog:Program)(w:World)(i:Int)(t:Tok):(dl prog w).is (.inl i) (.int i t)=true:=Fv i t
theorem Ae (prog:Program)(w:World)(x:Str)(t:Tok):(dl prog w).is (.inr x) (.str x t)=true:=Fw x t
end L2
namespace L2
open PySem PySem.Spec PyProof.Rows
inductive V where
  | non|bl (b:Bool)|int (i:Int)|str (x:Str)|byt (b:Array UInt8)|flt (b:UInt64)|ref (a:Addr)|ty (n:String)
  deriving DecidableEq
def bT:V→Value→Prop
  | .non,u=>u=Value.none
  | .bl b,u=>u=Value.bool b
  | .int i,u=>∃ t,u=Value.int i t
  | .str x,u=>∃ t,u=Value.str x t
  | .byt b,u=>∃ t,u=Value.bytes b t
  | .flt b,u=>∃ t,u=Value.float b t
  | .ref a,u=>u=Value.ref a
  | .ty n,u=>u=Value.type n
abbrev bg:List V→List Value→Prop:=Paired bT
theorem bg.length {xs:List V}{us:List Value}(r:bg xs us):xs.length=us.length:=Paired.length r
theorem bg.get:∀ {xs:List V} {us:List Value} {i:Nat} {x:V},bg xs us→xs[i]? = some x → ∃ u,us[i]? = some u∧bT x u
  | _,_,_,_,.nil,e=>by simp at e
  | _,_,0,_,.cons r _,e=>by simp at e;subst e;exact⟨_,rfl,r⟩
  | _,_,i + 1,x,.cons _ t,e=>by
    obtain⟨u,h1,h2⟩:=bg.get (i:=i) (x:=x) t (by simpa using e)
    exact⟨u,by simpa using h1,h2⟩
theorem bg.set {x:V}{u:Value}(r:bT x u):∀ {xs:List V} {us:List Value} (i:Nat),bg xs us→bg (xs.set i x) (us.set i u)
  | _,_,_,.nil=>.nil
  | _,_,0,.cons _ t=>.cons r t
  | _,_,i + 1,.cons q t=>.cons q (bg.set r i t)
theorem bg.append:∀ {xs ys:List V} {us ws:List Value},bg xs us→bg ys ws→bg (xs++ys) (us++ws)
  | _,_,_,_,.nil,s=>s
  | _,_,_,_,.cons r t,s=>.cons r (bg.append t s)
theorem bg.take:∀ {xs:List V} {us:List Value} (n:Nat),bg xs us→bg (xs.take n) (us.take n)
  | _,_,0,_=>.nil
  | _,_,_ + 1,.nil=>.nil
  | _,_,n + 1,.cons r t=>.cons r (bg.take n t)
theorem bg.drop:∀ {xs:List V} {us:List Value} (n:Nat),bg xs us→bg (xs.drop n) (us.drop n)
  | _,_,0,r=>r
  | _,_,_ + 1,.nil=>.nil
  | _,_,n + 1,.cons _ t=>bg.drop n t
def Fx:Option V→Option Value→Prop
  | some v,some u=>bT v u
  | none,none=>True
  | _,_=>False
def KV {κ : Type}:List (κ × V)→List (κ × Value)→Prop:=Paired fun (p : κ × V) (q : κ × Value)=>p.1=q.1∧bT p.2 q.2
def kV:Key→V
  | .inl i=>.int i
  | .inr x=>.str x
inductive HO where
    | lst (xs:List V)
    | tup (xs:List V)
    | dK (kvs:List (Key × V))|dT (kvs:List (List Key × V))
    | set (S:Int→Bool) (n:Nat)
    | ins (C dx:Addr) (fs:List (Str × V))
    | own (x:Addr)
    | xd (fs:List (Str × V))
    | met (f x:Addr)
    | rng (lo hi:Int)
    | frz (o:Obj) (u:HO)
    | tbl (ps:Array Value)
    | ext (φ : Heap→Prop)
abbrev Hp:=Addr→Option HO
def upd (H:Hp) (a:Addr) (o:HO):Hp:=fun b=>if b=a then some o else H b
theorem bh {H:Hp}{a:Addr}{o:HO}:upd H a o a=some o:=by unfold upd;rw [if_pos rfl]
theorem aF {H:Hp}{a b:Addr}{o:HO}(h:b≠a):upd H a o b=H b:=by unfold upd;rw [if_neg h]
theorem MZ {H:Hp}{a b:Addr}{o u:HO}(h:H a=some o)(h':H b=some u)(d:o≠u):a≠b:=by
  intro e;subst e;rw [h] at h';exact d (Option.some.inj h')
theorem bD {H:Hp}{a b:Addr}{o:HO}(h:H a=some o)(h':H b=none):a≠b:=by
  intro e;subst e;rw [h] at h';cases h'
section
variable (P:Program) (w:World)
def d7 (H:Hp) (h:Heap) (a:Addr):HO→Prop
  | .lst xs=>xs.length≤sizeLine ∧ ∃ (its:List Value) (n:Nat),bg xs its∧h.get? a=some { cls:=.type "list",data:=.seq its.toArray n }
  | .tup xs=>xs.length≤sizeLine ∧ ∃ its:List Value,bg xs its∧IsTup h a its.toArray
  | .dK kvs=>kvs.length≤sizeLine∧(a == sysModules)=false ∧ ∃ vs,KV kvs vs∧h.DictOf (dl P w) a vs
  | .dT kvs=>kvs.length≤sizeLine∧(a == sysModules)=false ∧ ∃ xs:List (List Key × Addr × Value),
      Paired (fun (p:List Key × V) (q:List Key × Addr × Value)=>p.1=q.1∧H q.2.1=some (.tup (p.1.map kV))∧bT p.2 q.2.2) kvs xs ∧
      ∃ o es ep,h.get? a=some o∧o.ExactDict∧o.data=.dict es ep∧es.toList=xs.map (entryOfKey (tupleKind (dl P w)))∧(xs.map (·.1)).Nodup
  | .set S n=>h.SetOf (intKind P w) a S n
  | .ins C dx fs=>H dx=some (.own a)∧fs.length≤1000∧dx≠a∧h.get? a=some (PySem.W.instObj C dx) ∧
      ∃ mA,h.Ns1 dx mA∧(∀ f,Fx (fs.lookup f) (mA f))∧PySem.Within mA (fs.map (·.1))
  | .own _=>∃ o,h.get? a=some o
  | .xd fs=>∃ mA,h.Ns1 a mA ∧ ∀ f,Fx (fs.lookup f) (mA f)
  | .rng lo hi=>∃ t u v,h.get? a=some { cls:=.type "range",data:=.fields #[.int lo t,.int hi u,.int 1 v] }
  | .frz o u=>h.get? a=some o∧d7 H h a u
  | .tbl ps=>h.get? a=some { cls:=.none,data:=.fields ps }
  | .met f x=>h.get? a=some (PySem.W.methodObj (.ref f) (.ref x))
  | .ext φ => φ h∧(∃ o,h.get? a=some o) ∧ ∀ h1 h2:Heap,φ h1→(∀ o,h1.get? a=some o→h2.get? a=some o) → φ h2
def HOk (H:Hp) (h:Heap):Prop:=∀ a o,H a=some o→d7 P w H h a o
end
section
variable {P:Program} {w:World} {H H':Hp} {h h':Heap} {a:Addr} {o:HO}
theorem d7.lt (x:d7 P w H h a o):a < h.objs.size:=by
  cases o with
  | lst xs=>obtain⟨_,_,_,_,e⟩:=x;exact Heap.lt_size e
  | tup xs=>obtain⟨_,_,_,p⟩:=x;exact p.lt
  | dK kvs=>obtain⟨_,_,_,_,o,_,_,e,_⟩:=x;exact Heap.lt_size e
  | dT kvs=>obtain⟨_,_,_,_,o,_,_,e,_⟩:=x;exact Heap.lt_size e
  | set S n=>obtain⟨o,_,_,_,e,_⟩:=x;exact Heap.lt_size e
  | ins C dx fs=>obtain⟨_,_,_,e,_⟩:=x;exact Heap.lt_size e
  | own y=>obtain⟨_,e⟩:=x;exact Heap.lt_size e
  | xd fs=>obtain⟨_,⟨_,_,_,e,_⟩,_⟩:=x;exact Heap.lt_size e
  | rng lo hi=>obtain⟨_,_,_,e⟩:=x;exact Heap.lt_size e
  | frz ob u=>obtain⟨e,_⟩:=x;exact Heap.lt_size e
  | tbl ps=>exact Heap.lt_size (show h.get? a=some _ from x)
  | met f y=>exact Heap.lt_size (show h.get? a=some _ from x)
  | ext φ => obtain⟨_,⟨_,e⟩,_⟩:=x;exact Heap.lt_size e
theorem Paired.mapP {α β : Type}{F G : α → β → Prop}:∀ {l₁ : List α} {l₂ : List β},Paired F l₁ l₂ → (∀ a b,F a b→G a b)→Paired G l₁ l₂
  | _,_,.nil,_=>.nil
  | _,_,.cons r t,f=>.cons (f _ _ r) (Paired.mapP t f)
theorem d7.stay (x:d7 P w H h a o)(k:∀ b u,(b=a∨H b=some (.own a))→h.get? b=some u→h'.get? b=some u)
    (ho:∀ b,H b=some (.own a)→H' b=some (.own a)) (ht:∀ b xs,H b=some (.tup xs)→H' b=some (.tup xs)):d7 P w H' h' a o:=by
  induction o with
  | lst xs=>obtain⟨z,its,n,r,e⟩:=x;exact⟨z,its,n,r,k _ _ (.inl rfl) e⟩
  | tup xs=>obtain⟨z,its,r,ob,e,c⟩:=x;exact⟨z,its,r,ob,k _ _ (.inl rfl) e,c⟩
  | dK kvs=>obtain⟨z,y,vs,r,ob,es,ep,e,c⟩:=x;exact⟨z,y,vs,r,ob,es,ep,k _ _ (.inl rfl) e,c⟩
  | dT kvs =>
    obtain⟨z,y,xs,r,ob,es,ep,e,c⟩:=x
    exact⟨z,y,xs,Paired.mapP r fun p q z=>⟨z.1,ht _ _ z.2.1,z.2.2⟩,ob,es,ep,k _ _ (.inl rfl) e,c⟩
  | set S n=>obtain⟨ob,es,ep,t,e,c⟩:=x;exact⟨ob,es,ep,t,k _ _ (.inl rfl) e,c⟩
  | ins C dx fs =>
    obtain⟨d,z,ne,e,mA,⟨od,es,ep,e2,c⟩,r⟩:=x
    exact⟨ho _ d,z,ne,k _ _ (.inl rfl) e,mA,⟨od,es,ep,k _ _ (.inr d) e2,c⟩,r⟩
  | own y=>obtain⟨ob,e⟩:=x;exact⟨ob,k _ _ (.inl rfl) e⟩
  | xd fs=>obtain⟨mA,⟨od,es,ep,e,c⟩,r⟩:=x;exact⟨mA,⟨od,es,ep,k _ _ (.inl rfl) e,c⟩,r⟩
  | rng lo hi=>obtain⟨t,u,v,e⟩:=x;exact⟨t,u,v,k _ _ (.inl rfl) e⟩
  | frz ob u ih=>obtain⟨e,q⟩:=x;exact⟨k _ _ (.inl rfl) e,ih q⟩
  | tbl ps =>
    have e:h.get? a=some { cls:=.none,data:=.fields ps }:=x
    show h'.get? a=some { cls:=.none,data:=.fields ps }
    exact k a _ (.inl rfl) e
  | met f y =>
    have e:h.get? a=some (PySem.W.methodObj (.ref f) (.ref y)):=x
    show h'.get? a=some (PySem.W.methodObj (.ref f) (.ref y))
    exact k a _ (.inl rfl) e
  | ext φ => obtain⟨p,⟨o,e⟩,st⟩:=x;exact⟨st _ _ p fun o q=>k _ _ (.inl rfl) q,⟨o,k _ _ (.inl rfl) e⟩,st⟩
theorem HOk.lt (x:HOk P w H h)(e:H a=some o):a < h.objs.size:=(x a o e).lt
theorem HOk.fresh (x:HOk P w H h)(e:h.objs.size≤a):H a=none:=by
  cases q:H a with
  | none=>rfl
  | some u=>exact absurd (Nat.lt_of_lt_of_le (x.lt q) e) (Nat.lt_irrefl _)
theorem HOk.kept (x:HOk P w H h)(k:∀ b u,h.get? b=some u→h'.get? b=some u):HOk P w H h':=fun a o e =>
  (x a o e).stay (fun b u _ q=>k b u q) (fun _ q=>q) fun _ _ q=>q
theorem HOk.laid (x:HOk P w H h)(k:∀ b u,h.get? b=some u→h'.get? b=some u)(hp:h.objs.size≤a)(new:d7 P w (upd H a o) h' a o):HOk P w (upd H a o) h':=fun b u e=>by
  have hn:=x.fresh hp
  by_cases hb:b=a
  · subst hb;rw [bh] at e;cases e;exact new
  · rw [aF hb] at e
    exact (x b u e).stay (fun c v _ q=>k c v q) (fun c q=>by rw [aF (bD q hn)];exact q) fun c xs q=>by rw [aF (bD q hn)];exact q
end
def Rd (H:Hp) (a:Addr) (u:HO):Prop:=H a=some u ∨ ∃ o,H a=some (.frz o u)
theorem Rd.ok {P:Program}{w:World}{H:Hp}{h:Heap}{a:Addr}{u:HO}(r:Rd H a u)(x:HOk P w H h):d7 P w H h a u:=by
  rcases r with r|⟨o,r⟩
  · exact x a u r
  · obtain⟨_,q⟩:=x a _ r
    exact q
def Mut:Option HO→Prop
  | some (.lst _)=>True
  | some (.dK _)=>True
  | some (.dT _)=>True
  | some (.set _ _)=>True
  | some (.ins _ _ _)=>True
  | some (.ext _)=>True
  | _=>False
section
variable {P:Program} {w:World} {H:Hp} {h h':Heap} {x e:Addr} {o':HO}
theorem HOk.write (ok:HOk P w H h)(mu:Mut (H x))(he:e=x∨H e=some (.own x))(k:∀ b u,b≠e→h.get? b=some u→h'.get? b=some u)(heo:∃ u,h'.get? e=some u)
    (new:d7 P w (upd H x o') h' x o'):HOk P w (upd H x o') h':=fun b u q=>by
  have nown:∀ c y,H c=some (.own y)→c≠x:=fun c y r z=>by subst z;rw [r] at mu;exact mu
  have ntup:∀ c xs,H c=some (.tup xs)→c≠x:=fun c xs r z=>by subst z;rw [r] at mu;exact mu
  by_cases hb:b=x
  · subst hb;rw [bh] at q;cases q;exact new
  · rw [aF hb] at q
    by_cases hbe:b=e
    · have q':H b=some (.own x):=by
        rcases he with z|z
        · exact absurd (hbe.trans z) hb
        · rw [hbe];exact z
      rw [q] at q';cases q'
      obtain⟨v,hv⟩:=heo
      exact⟨v,by rw [hbe];exact hv⟩
    · refine (ok b u q).stay (fun c v hc r=>k c v ?_ r) (fun c r=>by rw [aF (nown c b r)];exact r) fun c xs r=>by rw [aF (ntup c xs r)];exact r
      rcases hc with rfl|hc
      · exact hbe
      · rintro rfl
        rcases he with z|z
        · exact nown c b hc z
        · rw [hc] at z;cases z;exact hb rfl
end
structure Un (fs ex:List Addr) (H H':Hp) (h h':Heap):Prop where
  keep:∀ b o,h.get? b=some o→H b=none→b∉fs→b∉ex→h'.get? b=some o
  slot:∀ b o,h.get? b=some o→H b=none→b∈fs→b∉ex → ∃ sl,h'.get? b=some { o with slots:=sl }
  free:∀ b o,h.get? b=some o→H b=none→b∉ex→H' b=none
  there:∀ b o,h.get? b=some o→b∉ex → ∃ o',h'.get? b=some o'
  tups:∀ b xs,H b=some (.tup xs)→H' b=some (.tup xs)
  frzs:∀ b o u,H b=some (.frz o u)→H' b=some (.frz o u)
  tbls:∀ b ps,H b=some (.tbl ps) → ∃ more,H' b=some (.tbl (ps++more))
section
variable {fs fs' ex ex':List Addr} {H H1 H2:Hp} {h h1 h2 h':Heap} {a x e:Addr} {o:HO}
theorem Un.any (u:Un fs ex H H1 h h1){b:Addr}{ob:Obj}(q:h.get? b=some ob)(n:H b=none)(hx:b∉ex):∃ sl,h1.get? b=some { ob with slots:=sl }:=by
  by_cases hb:b∈fs
  · exact u.slot b ob q n hb hx
  · exact⟨ob.slots,u.keep b ob q n hb hx⟩
theorem Un.kept (k:∀ b u,h.get? b=some u→h'.get? b=some u):Un fs ex H H h h' :=
  ⟨fun b ob q _ _ _=>k b ob q,fun b ob q _ _ _=>⟨ob.slots,k b ob q⟩,fun _ _ _ n _=>n,fun b ob q _=>⟨ob,k b ob q⟩,fun _ _ q=>q,fun _ _ _ q=>q,fun _ ps q=>⟨#[],by rw [q];simp⟩⟩
theorem Un.refl:Un fs ex H H h h:=Un.kept fun _ _ q=>q
theorem Un.laid (k:∀ b u,h.get? b=some u→h'.get? b=some u)(hp:h.objs.size≤a)(hn:H a=none):Un fs ex H (upd H a o) h h' where
  keep:=fun b u q _ _ _=>k b u q
  slot:=fun b u q _ _ _=>⟨u.slots,k b u q⟩
  free:=fun b u q n _=>by rw [aF (Nat.ne_of_lt (Nat.lt_of_lt_of_le (Heap.lt_size q) hp))];exact n
  there:=fun b u q _=>⟨u,k b u q⟩
  tups:=fun b xs q=>by rw [aF (bD q hn)];exact q
  frzs:=fun b u xs q=>by rw [aF (bD q hn)];exact q
  tbls:=fun b ps q=>⟨#[],by rw [aF (bD q hn),q];simp⟩
theorem Un.write (mu:Mut (H x))(he:e=x∨H e=some (.own x))(k:∀ b u,b≠e→h.get? b=some u→h'.get? b=some u)(heo:∃ u,h'.get? e=some u):Un fs ex H (upd H x o) h h':=by
  have hx:∀ b,H b=none→b≠x:=fun b n z=>by subst z;rw [n] at mu;exact mu
  have hb:∀ b,H b=none→b≠e:=fun b n z=>by
    subst z
    rcases he with r|r
    · exact hx b n r
    · rw [n] at r;cases r
  have hm:∀ b u,H b=some u → ¬ Mut (some u)→b≠x:=fun b u q nm z=>by subst z;rw [q] at mu;exact nm mu
  refine⟨fun b u q n _ _=>k b u (hb b n) q,fun b u q n _ _=>⟨u.slots,k b u (hb b n) q⟩,fun b u q n _=>by rw [aF (hx b n)];exact n,fun b u q _ => ?_,
    fun b xs q=>by rw [aF (hm b _ q fun z=>z)];exact q,fun b u xs q=>by rw [aF (hm b _ q fun z=>z)];exact q,fun b ps q=>⟨#[],by rw [aF (hm b _ q fun z=>z),q];simp⟩⟩
  by_cases hbe:b=e
  · subst hbe;exact heo
  · exact⟨u,k b u hbe q⟩
end
def trk (h:Heap) (H:Hp):List Addr:=(List.range h.objs.size).filter fun a=>(H a).isSome
def xN (h:Heap) (H:Hp):Heap:=PySem.W.hideAll h (trk h H)
theorem Fy (h:Heap)(H:Hp):(xN h H).objs.size=h.objs.size:=PySem.W.hideAll_size _ _
theorem HJ {h:Heap}{H:Hp}{b:Addr}{o:Obj}(e:h.get? b=some o)(n:H b=none):(xN h H).get? b=some o :=
  PySem.W.hideAll_get _ e fun hm=>by
    have q:(H b).isSome=true:=(List.mem_filter.mp hm).2
    rw [n] at q;simp at q
theorem Lc {h:Heap}{H:Hp}{b:Addr}{o:Obj}(e:(xN h H).get? b=some o):h.get? b=some o∧H b=none:=by
  have e':h.get? b=some o:=PySem.W.of_hideAll (trk h H) e
  refine⟨e',?_⟩
  cases q:H b with
  | none=>rfl
  | some x =>
    have hm:b∈trk h H:=List.mem_filter.mpr ⟨List.mem_range.mpr (Heap.lt_size e'),by simp [q]⟩
    have z:(xN h H).get? b=none:=PySem.W.hideAll_none (trk h H) hm
    rw [z] at e;cases e
def Ld (g h:Heap) (L:Addr):List (Addr × Obj):=(List.range h.objs.size).filterMap fun a=>if a=L∨(g.get? a).isSome=true then none else (h.get? a).map fun o=>(a,o)
def rest (g h:Heap) (L d:Addr):List (Addr × Obj):=(Ld g h L).filter fun p=>decide (p.1≠d)
end L2
namespace L2
open PySem PySem.Spec PyProof.Rows
structure Mod (K:PySem.W.Frag) (mg:Str→Option Value) (base:Heap):Prop where
  kin:K.In base
  glob:base.Ns mainGlobals mg
  blt:∃ mb,base.Ns builtinsNs mb ∧ ∀ x:Str,x ≠ "__name__" → mb x=bootBuiltins x
  nolimit:base.NoLimit
structure Cx where
  prog:Program
  w:World
  K:PySem.W.Frag
  mg:Str→Option Value
  base:Heap
  A:Around
  N:List Str
  s₀ : Shared
  H₀ : Hp
  env:Env
  outer:List Env
  stack:List Env
  ex:List Addr
  fn:Str→Bool
  calm:Bool
  pn:List (Addr × Obj)
  xe:Value→Shared→Prop
def frs (l:List Env):List Addr:=l.filterMap (·.frame)
abbrev Cx.fs (X:Cx):List Addr:=frs X.outer
def Vis (sc:Scope) (x:Str):Prop:=sc.names.lookup x=some .local ∨sc.names.lookup x=some .cell∨sc.names.lookup x=some .free
def Loc (sc:Scope) (x:Str):Prop:=sc.names.lookup x=some .local ∨sc.names.lookup x=some .cell
def QR (env:Env) (h:Heap) (m:Str→Option Value) (x:Str) (u:Value):Prop :=
  (env.kindOf x=some .local∧m x=some u)∨((env.kindOf x=some .cell∨env.kindOf x=some .free) ∧ ∃ c,env.cells.lookup x=some c∧h.IsCell c (some u))
structure Cx.Ok (X:Cx):Prop where
  mod:Mod X.K X.mg X.base
  kind:X.env.scope.kind=.function
  glob:X.env.globals=mainGlobals
  blt:X.env.builtins=builtinsNs
  above:X.s₀.heap.objs.size≤X.env.locals
  inj:∀ x y c,X.env.cells.lookup x=some c→X.env.cells.lookup y=some c→x=y
  has:∀ x,(X.env.kindOf x=some .cell∨X.env.kindOf x=some .free) → ∃ c,X.env.cells.lookup x=some c
  cab:∀ x c,X.fn x=true→X.env.cells.lookup x=some c→X.s₀.heap.objs.size≤c
  hd:X.calm=true→X.A.handled=none
  frames:X.A.frames=some X.stack
  stk:X.stack=X.outer∨(X.stack=X.env :: X.outer∧X.env.frame=some X.env.locals)
  exf:∀ b∈X.ex,b≠X.env.locals ∧ ∀ x c,X.env.cells.lookup x=some c→c≠b
  bs:∀ b o,X.base.get? b=some o→X.s₀.heap.get? b=some o∧X.H₀ b=none
  bsz:X.base.objs.size≤X.s₀.heap.objs.size
  noex:∀ b o,X.base.get? b=some o→b∉X.ex
  exfs:∀ b∈X.ex,b∉X.fs
  funs:X.s₀.heap.FunFrames X.base X.outer
  frf:∀ b∈X.fs,X.H₀ b=none
structure Inv (X:Cx) (pins:List (Addr × Obj)) (σ:List (Option V)) (H:Hp) (s:Shared):Prop where
  ok:X.Ok
  os:s.os=X.s₀.os
  bare:AllBare s.gens
  base:Un X.fs X.ex X.H₀ H X.s₀.heap s.heap
  loc:∃ m,s.heap.Ns X.env.locals m ∧ ∀ (i:Nat) (x:Str) (v:V),X.N[i]? = some x → σ[i]? = some (some v)→Vis X.env.scope x → ∃ u,bT v u∧QR X.env s.heap m x u
  cell:∀ x c,X.env.cells.lookup x=some c → ∃ v,s.heap.IsCell c v
  free:H X.env.locals=none
  freeC:∀ x c,X.env.cells.lookup x=some c→H c=none
  pin:∀ p∈X.pn++pins,s.heap.get? p.1=some p.2∧H p.1=none∧p.1≠X.env.locals∧p.1∉X.fs ∧ ∀ v,p.2.data ≠ .cell v
  hok:HOk X.prog X.w H s.heap
  len : σ.length=X.N.length
section
variable {X:Cx} {pins:List (Addr × Obj)} {σ:List (Option V)} {H H':Hp} {s:Shared} {h':Heap}
theorem Cx.Ok.nofr (ok:X.Ok){b:Addr}{o:Obj}(e:X.base.get? b=some o):b∉X.fs:=fun hb=>by
  have:=(ok.funs.mem hb).1
  rw [e] at this;cases this
theorem Inv.bs (I:Inv X pins σ H s):∀ b o,X.base.get? b=some o→s.heap.get? b=some o∧H b=none:=fun b o e =>
  ⟨I.base.keep b o (I.ok.bs b o e).1 (I.ok.bs b o e).2 (I.ok.nofr e) (I.ok.noex b o e),I.base.free b o (I.ok.bs b o e).1 (I.ok.bs b o e).2 (I.ok.noex b o e)⟩
theorem Inv.bk (I:Inv X pins σ H s):∀ b o,X.base.get? b=some o→s.heap.get? b=some o:=fun b o e=>(I.bs b o e).1
theorem Inv.mod (I:Inv X pins σ H s):Mod X.K X.mg X.base:=I.ok.mod
theorem Inv.kIn (I:Inv X pins σ H s):X.K.In s.heap:=I.ok.mod.kin.keeps I.bk
theorem Inv.lt (I:Inv X pins σ H s):X.env.locals < s.heap.objs.size:=let ⟨_,hn,_⟩:=I.loc;hn.lt
theorem Inv.sz (I:Inv X pins σ H s):X.s₀.heap.objs.size≤s.heap.objs.size:=Nat.le_trans I.ok.above (Nat.le_of_lt I.lt)
theorem Inv.nofs (I:Inv X pins σ H s){a:Addr}(h:s.heap.objs.size≤a):a∉X.fs:=fun hb=>by
  obtain⟨_,o,ho,_⟩:=I.ok.funs.mem hb
  exact absurd (Nat.lt_of_lt_of_le (Heap.lt_size ho) (Nat.le_trans I.sz h)) (Nat.lt_irrefl _)
theorem Inv.cne (I:Inv X pins σ H s):∀ x c,X.env.cells.lookup x=some c→c≠X.env.locals:=fun x c e z=>by
  obtain⟨v,o,ho,hd⟩:=I.cell x c e
  obtain⟨m,⟨o',es,ep,ho',hd',_⟩,_⟩:=I.loc
  rw [z,ho'] at ho;cases ho;rw [hd'] at hd;cases hd
theorem Inv.funs (I:Inv X pins σ H s):s.heap.FunFrames X.base X.outer:=by
  have all:∀ (l:List Env),(∀ b∈frs l,b∈X.fs)→X.s₀.heap.FunFrames X.base l→s.heap.FunFrames X.base l:=by
    intro l
    induction l with
    | nil=>intro _ _;trivial
    | cons env r ih =>
      intro hs hl
      obtain⟨hk,⟨L,o,hf,hn,ho,hd⟩,hr⟩:=hl
      have hL:L∈X.fs:=hs L (by unfold frs;rw [List.filterMap_cons,hf];exact List.mem_cons_self)
      obtain⟨sl,e⟩:=I.base.slot L o ho (I.ok.frf L hL) hL fun z=>I.ok.exfs L z hL
      exact⟨hk,⟨L,_,hf,hn,e,hd⟩,ih (fun b hb=>hs b (by unfold frs;rw [List.filterMap_cons,hf];exact List.mem_cons_of_mem _ hb)) hr⟩
  exact all X.outer (fun _ hb=>hb) I.ok.funs
theorem Inv.stack (I:Inv X pins σ H s):s.heap.FunFrames X.base X.stack:=by
  rcases I.ok.stk with e|⟨e,hf⟩
  · rw [e];exact I.funs
  · rw [e]
    obtain⟨m,hn,_⟩:=I.loc
    refine .cons (by rw [I.ok.kind];decide) hf hn ?_ I.funs
    exact Heap.get?_none_of_le (Nat.le_trans I.ok.bsz I.ok.above)
theorem Inv.stkSub (I:Inv X pins σ H s):∀ b∈frs X.stack,b∈X.env.locals :: X.fs:=fun b hb=>by
  rcases I.ok.stk with e|⟨e,hf⟩
  · rw [e] at hb;exact List.mem_cons_of_mem _ hb
  · rw [e] at hb
    unfold frs at hb
    rw [List.filterMap_cons,hf] at hb
    exact hb
theorem Inv.stkFree (I:Inv X pins σ H s):∀ b∈frs X.stack,H b=none:=fun b hb=>by
  rcases List.mem_cons.mp (I.stkSub b hb) with e|hb
  · rw [e];exact I.free
  · obtain⟨_,o,ho,_⟩:=I.ok.funs.mem hb
    exact I.base.free b o ho (I.ok.frf b hb) fun z=>I.ok.exfs b z hb
theorem Inv.step {g':Array GenState}{t':Nat}{d':Drawn}{ch:List Addr}(I:Inv X pins σ H s)
    (hch:∀ b∈ch,(b∈X.ex∨X.s₀.heap.objs.size≤b)∧b≠X.env.locals∧(∀ x c,X.env.cells.lookup x=some c→c≠b) ∧ ∀ p∈X.pn++pins,p.1≠b)
    (keep:∀ b o,b≠X.env.locals→b∉X.fs→b∉ch→s.heap.get? b=some o→H b=none→h'.get? b=some o)
    (slot:∀ b o,b≠X.env.locals→b∈X.fs→b∉ch→s.heap.get? b=some o→H b=none → ∃ sl,h'.get? b=some { o with slots:=sl }) (free:∀ b o,b∉ch→s.heap.get? b=some o→H b=none→H' b=none)
    (there:∀ b o,b∉ch→s.heap.get? b=some o → ∃ o',h'.get? b=some o')
    (tups:∀ b xs,H b=some (.tup xs)→H' b=some (.tup xs)) (frzs:∀ b o u,H b=some (.frz o u)→H' b=some (.frz o u)) (tbls:∀ b ps,H b=some (.tbl ps) → ∃ more,H' b=some (.tbl (ps++more)))
    (ns:∀ m,s.heap.Ns X.env.locals m→h'.Ns X.env.locals m) (hok:HOk X.prog X.w H' h') (hg:AllBare g') :
    Inv X pins σ H' { s with heap:=h',gens:=g',drawn:=d',toks:=t' }:=by
  have neL:∀ b o,X.s₀.heap.get? b=some o→b≠X.env.locals:=fun b o e=>Nat.ne_of_lt (Nat.lt_of_lt_of_le (Heap.lt_size e) I.ok.above)
  have neC:∀ b o,X.s₀.heap.get? b=some o→b∉X.ex→b∉ch:=fun b o e hx hb=>by
    rcases (hch b hb).1 with z|z
    · exact hx z
    · exact absurd (Nat.lt_of_lt_of_le (Heap.lt_size e) z) (Nat.lt_irrefl _)
  have cellK:∀ x c,X.env.cells.lookup x=some c → ∀ v,s.heap.IsCell c v→h'.IsCell c v:=fun x c e v ⟨o,ho,hd⟩=>by
    have nch:c∉ch:=fun z=>(hch c z).2.2.1 x c e rfl
    by_cases hc:c∈X.fs
    · obtain⟨sl,q⟩:=slot c o (I.cne x c e) hc nch ho (I.freeC x c e)
      exact⟨_,q,hd⟩
    · exact⟨o,keep c o (I.cne x c e) hc nch ho (I.freeC x c e),hd⟩
  refine⟨I.ok,I.os,hg,⟨fun b o e n hb hx => ?_,fun b o e n hb hx => ?_,fun b o e n hx => ?_,fun b o e hx => ?_,fun b xs e=>tups b xs (I.base.tups b xs e),fun b o xs e=>frzs b o xs (I.base.frzs b o xs e),fun b ps e => ?_⟩,?_,fun x c e => ?_,?_,fun x c e => ?_,fun p hp => ?_,hok,I.len⟩
  · exact keep b o (neL b o e) hb (neC b o e hx) (I.base.keep b o e n hb hx) (I.base.free b o e n hx)
  · obtain⟨sl,e1⟩:=I.base.slot b o e n hb hx
    obtain⟨sl',e2⟩:=slot b _ (neL b o e) hb (neC b o e hx) e1 (I.base.free b o e n hx)
    exact⟨sl',e2⟩
  · obtain⟨o',e1⟩:=I.base.there b o e hx
    exact free b o' (neC b o e hx) e1 (I.base.free b o e n hx)
  · obtain⟨o',e1⟩:=I.base.there b o e hx
    exact there b o' (neC b o e hx) e1
  · obtain⟨m1,e1⟩:=I.base.tbls b ps e
    obtain⟨m2,e2⟩:=tbls b _ e1
    exact⟨m1++m2,by rw [e2,Array.append_assoc]⟩
  · obtain⟨m,hn,hl⟩:=I.loc
    refine⟨m,ns m hn,fun i x v e1 e2 e3 => ?_⟩
    obtain⟨u,r,l⟩:=hl i x v e1 e2 e3
    refine⟨u,r,?_⟩
    rcases l with l|⟨k,c,e,z⟩
    · exact .inl l
    · exact .inr ⟨k,c,e,cellK x c e _ z⟩
  · obtain⟨v,z⟩:=I.cell x c e
    exact⟨v,cellK x c e v z⟩
  · obtain⟨m,⟨o,_,_,ho,_⟩,_⟩:=I.loc
    exact free _ o (fun z=>(hch _ z).2.1 rfl) ho I.free
  · obtain⟨v,o,ho,hd⟩:=I.cell x c e
    exact free c o (fun z=>(hch c z).2.2.1 x c e rfl) ho (I.freeC x c e)
  · obtain⟨e,n,ne,nf,d⟩:=I.pin p hp
    have nch:p.1∉ch:=fun z=>(hch p.1 z).2.2.2 p hp rfl
    exact⟨keep p.1 p.2 ne nf nch e n,free p.1 p.2 nch e n,ne,nf,d⟩
theorem Inv.un {t':Nat}(I:Inv X pins σ H s)(u:Un X.fs [] H H' s.heap h')(hok:HOk X.prog X.w H' h'):Inv X pins σ H' { s with heap:=h',toks:=t' }:=by
  obtain⟨m,⟨o,es,ep,ho,r⟩,_⟩:=id I.loc
  obtain⟨sl,hL⟩:=u.any ho I.free (by simp)
  exact I.step (g':=s.gens) (d':=s.drawn) (ch:=[]) (fun _ z=>nomatch z) (fun b o _ hb _ e n=>u.keep b o e n hb (by simp)) (fun b o _ hb _ e n=>u.slot b o e n hb (by simp)) (fun b o _ e n=>u.free b o e n (by simp)) (fun b o _ e=>u.there b o e (by simp)) u.tups u.frzs u.tbls (fun m' hm=>by
    obtain⟨o',es',ep',ho',r'⟩:=hm
    rw [ho] at ho';cases ho'
    exact⟨_,es',ep',hL,r'⟩) hok I.bare
theorem Inv.call {g':Array GenState}{t':Nat}{d':Drawn}{ch:List Addr}(I:Inv X pins σ H s)(u:Un (frs X.stack) ch H H' s.heap h')(hok:HOk X.prog X.w H' h')(hg:AllBare g')
    (hch:∀ b∈ch,(b∈X.ex∨X.s₀.heap.objs.size≤b)∧b≠X.env.locals∧(∀ x c,X.env.cells.lookup x=some c→c≠b) ∧ ∀ p∈X.pn++pins,p.1≠b) :
    Inv X pins σ H' { s with heap:=h',gens:=g',drawn:=d',toks:=t' }:=by
  obtain⟨m,⟨o,es,ep,ho,r⟩,_⟩:=id I.loc
  obtain⟨sl,hL⟩:=u.any ho I.free fun z=>(hch _ z).2.1 rfl
  exact I.step (ch:=ch) hch (fun b o hL hb hc e n=>u.keep b o e n (fun z=>(List.mem_cons.mp (I.stkSub b z)).elim hL hb) hc) (fun b o _ _ hc e n=>u.any e n hc) (fun b o hc e n=>u.free b o e n hc) (fun b o hc e=>u.there b o e hc) u.tups u.frzs u.tbls (fun m' hm=>by
    obtain⟨o',es',ep',ho',r'⟩:=hm
    rw [ho] at ho';cases ho'
    exact⟨_,es',ep',hL,r'⟩) hok hg
theorem Inv.turned {t':Nat}{it:Addr}(I:Inv X pins σ H s)(k:∀ b o,b≠it→s.heap.get? b=some o→h'.get? b=some o)(hn:H it=none)(hL:it≠X.env.locals)
    (h1:it∈X.ex∨X.s₀.heap.objs.size≤it) (h2:∀ x c,X.env.cells.lookup x=some c→c≠it) (h3:∀ p∈X.pn++pins,p.1≠it):Inv X pins σ H { s with heap:=h',toks:=t' }:=by
  have nit:∀ b u,H b=some u→b≠it:=fun b u e z=>by rw [z,hn] at e;cases e
  refine I.step (g':=s.gens) (d':=s.drawn) (ch:=[it]) (fun b hb => ?_) (fun b o _ _ hc e _=>k b o (fun z=>hc (by simp [z])) e) (fun b o _ _ hc e _=>⟨o.slots,k b o (fun z=>hc (by simp [z])) e⟩) (fun _ _ _ _ n=>n)
    (fun b o hc e=>⟨o,k b o (fun z=>hc (by simp [z])) e⟩) (fun _ _ e=>e) (fun _ _ _ e=>e) (fun b ps e=>⟨#[],by rw [e];simp⟩) (fun m hm => ?_) (fun b u e => ?_) I.bare
  · have e:b=it:=by simpa using hb
    subst e
    exact⟨h1,hL,h2,h3⟩
  · obtain⟨o,es,ep,ho,r⟩:=hm
    exact⟨o,es,ep,k _ o (Ne.symm hL) ho,r⟩
  · refine (I.hok b u e).stay (fun c v hc q=>k c v ?_ q) (fun _ q=>q) fun _ _ q=>q
    rcases hc with z|z
    · rw [z];exact nit b u e
    · exact nit c _ z
theorem Inv.tok (I:Inv X pins σ H s)(t:Nat):Inv X pins σ H { s with toks:=t }:=I.un (h':=s.heap) (t':=t) Un.refl I.hok
theorem Inv.kept {t':Nat}(I:Inv X pins σ H s)(k:∀ b u,s.heap.get? b=some u→h'.get? b=some u):Inv X pins σ H { s with heap:=h',toks:=t' }:=I.un (Un.kept k) (I.hok.kept k)
theorem Inv.laid {a:Addr}{o:HO}{t':Nat}(I:Inv X pins σ H s)(k:∀ b u,s.heap.get? b=some u→h'.get? b=some u)(hp:s.heap.objs.size≤a)(new:d7 X.prog X.w (upd H a o) h' a o) :
    Inv X pins σ (upd H a o) { s with heap:=h',toks:=t' }:=I.un (Un.laid k hp (I.hok.fresh hp)) (I.hok.laid k hp new)
theorem Inv.write {x e:Addr}{o:HO}{t':Nat}(I:Inv X pins σ H s)(mu:Mut (H x))(he:e=x∨H e=some (.own x))(k:∀ b u,b≠e→s.heap.get? b=some u→h'.get? b=some u)(heo:∃ u,h'.get? e=some u)
    (new:d7 X.prog X.w (upd H x o) h' x o):Inv X pins σ (upd H x o) { s with heap:=h',toks:=t' }:=I.un (Un.write mu he k heo) (I.hok.write mu he k heo new)
theorem Inv.pins_of {pins':List (Addr × Obj)}(I:Inv X pins σ H s)(h:∀ p∈pins',s.heap.get? p.1=some p.2∧H p.1=none∧p.1≠X.env.locals∧p.1∉X.fs ∧ ∀ v,p.2.data ≠ .cell v):Inv X pins' σ H s :=
  ⟨I.ok,I.os,I.bare,I.base,I.loc,I.cell,I.free,I.freeC,fun p hp=>(List.mem_append.mp hp).elim (fun z=>I.pin p (List.mem_append_left _ z)) (h p),I.hok,I.len⟩
theorem rJ {N:List Str}(hN:N.Nodup){i j:Nat}{x:Str}(a:N[i]? = some x)(b:N[j]? = some x):i=j:=by
  obtain⟨h1,e1⟩:=List.getElem?_eq_some_iff.mp a
  obtain⟨h2,e2⟩:=List.getElem?_eq_some_iff.mp b
  exact (List.getElem_inj hN).mp (e1.trans e2.symm)
theorem wH {M:Model}{A:Around}{E:Value→Shared→Prop}{i:Nat}{x:Str}{v:V}{u:Value}{Q:Unit→Shared→Prop}(I:Inv X pins σ H s)(hN:X.N.Nodup)(hi:X.N[i]? = some x)(hx:Loc X.env.scope x)(r:bT v u)
    (h:∀ s',Inv X pins (σ.set i (some v)) H s'→(∃ a,Heap.SameBut a s.heap s'.heap∧(a=X.env.locals∨X.env.cells.lookup x=some a))→Q () s') (hf:X.fn x=true∨X.env.scope.names.lookup x=some .local:=by first|exact .inl rfl|exact .inr rfl|assumption):wpAny M A (storeName X.env x u) Q E s:=by
  obtain⟨m,hn,hl⟩:=id I.loc
  have hcls:(X.env.scope.kind == .class || (X.env.scope.kind == .module && X.env.locals != X.env.globals))=false:=by rw [I.ok.kind];rfl
  have hiσ:i < σ.length:=by rw [I.len];exact (List.getElem?_eq_some_iff.mp hi).1
  have cne:=I.cne
  have tracked:∀ {a:Addr} {h':Heap},(∃ o,s.heap.get? a=some o∧H a=none)→Heap.SameBut a s.heap h'→HOk X.prog X.w H h':=fun {a h'} ha hs b ob e=>by
    obtain⟨_,_,hfree⟩:=ha
    refine (I.hok b ob e).stay (fun c w' hc q=>(hs.2 c ?_).trans q) (fun _ q=>q) fun _ _ q=>q
    rintro rfl
    rcases hc with rfl|hc
    · rw [hfree] at e;cases e
    · rw [hfree] at hc;cases hc
  rcases hx with hk|hk
  · refine wpAny_storeName_local hk hn (fun h' hn' hs => ?_) hcls
    obtain⟨oL,_,_,hoL,_⟩:=id hn
    refine h _ ⟨I.ok,I.os,I.bare,⟨fun b o e n hb hx => ?_,fun b o e n hb hx => ?_,I.base.free,fun b o e hx => ?_,I.base.tups,I.base.frzs,I.base.tbls⟩,⟨_,hn',fun j y v' e1 e2 e3 => ?_⟩,fun y c e => ?_,I.free,I.freeC,fun p hp => ?_,tracked ⟨oL,hoL,I.free⟩ hs,by simpa using I.len⟩ ⟨_,hs,.inl rfl⟩
    · exact (hs.2 b (Nat.ne_of_lt (Nat.lt_of_lt_of_le (Heap.lt_size e) I.ok.above))).trans (I.base.keep b o e n hb hx)
    · obtain⟨sl,e1⟩:=I.base.slot b o e n hb hx
      exact⟨sl,(hs.2 b (Nat.ne_of_lt (Nat.lt_of_lt_of_le (Heap.lt_size e) I.ok.above))).trans e1⟩
    · obtain⟨o',e1⟩:=I.base.there b o e hx
      exact⟨o',(hs.2 b (Nat.ne_of_lt (Nat.lt_of_lt_of_le (Heap.lt_size e) I.ok.above))).trans e1⟩
    · by_cases hj:j=i
      · subst hj
        rw [hi] at e1;cases e1
        rw [List.getElem?_set_self hiσ] at e2
        cases e2
        exact⟨u,r,.inl ⟨hk,by simp⟩⟩
      · rw [List.getElem?_set_ne (Ne.symm hj)] at e2
        obtain⟨u',r',q⟩:=hl j y v' e1 e2 e3
        refine⟨u',r',?_⟩
        rcases q with ⟨k,e⟩|⟨k,c,e,z⟩
        · refine .inl ⟨k,?_⟩
          have:y≠x:=fun e=>hj (rJ hN e1 (e ▸ hi))
          simp [this,e]
        · exact .inr ⟨k,c,e,z.sameBut hs (cne y c e)⟩
    · obtain⟨w',z⟩:=I.cell y c e
      exact⟨w',z.sameBut hs (cne y c e)⟩
    · obtain⟨e,n,ne,nf,d⟩:=I.pin p hp
      exact⟨(hs.2 p.1 ne).trans e,n,ne,nf,d⟩
  · have hfn:X.fn x=true:=by
      rcases hf with z|z
      · exact z
      · rw [z] at hk;cases hk
    obtain⟨c,hc⟩:=I.ok.has x (.inl hk)
    obtain⟨w',z⟩:=I.cell x c hc
    refine wpAny_storeName_cell I.ok.kind hk hc z (fun h' hc' hs => ?_)
    obtain⟨oc,hoc,hocd⟩:=id z
    refine h { s with heap:=h' } ⟨I.ok,I.os,I.bare,⟨fun b o e n hb hx => ?_,fun b o e n hb hx => ?_,I.base.free,fun b o e hx => ?_,I.base.tups,I.base.frzs,I.base.tbls⟩,⟨m,hn.sameBut hs (Ne.symm (cne x c hc)),fun j y v' e1 e2 e3 => ?_⟩,fun y c' e => ?_,I.free,I.freeC,fun p hp => ?_,tracked ⟨oc,hoc,I.freeC x c hc⟩ hs,by simpa using I.len⟩ ⟨c,hs,.inr hc⟩
    · exact (hs.2 b (Nat.ne_of_lt (Nat.lt_of_lt_of_le (Heap.lt_size e) (I.ok.cab x c hfn hc)))).trans (I.base.keep b o e n hb hx)
    · obtain⟨sl,e1⟩:=I.base.slot b o e n hb hx
      exact⟨sl,(hs.2 b (Nat.ne_of_lt (Nat.lt_of_lt_of_le (Heap.lt_size e) (I.ok.cab x c hfn hc)))).trans e1⟩
    · obtain⟨o',e1⟩:=I.base.there b o e hx
      exact⟨o',(hs.2 b (Nat.ne_of_lt (Nat.lt_of_lt_of_le (Heap.lt_size e) (I.ok.cab x c hfn hc)))).trans e1⟩
    · by_cases hj:j=i
      · subst hj
        rw [hi] at e1;cases e1
        rw [List.getElem?_set_self hiσ] at e2
        cases e2
        exact⟨u,r,.inr ⟨.inl hk,c,hc,hc'⟩⟩
      · rw [List.getElem?_set_ne (Ne.symm hj)] at e2
        obtain⟨u',r',q⟩:=hl j y v' e1 e2 e3
        refine⟨u',r',?_⟩
        rcases q with q|⟨k,c',e,z'⟩
        · exact .inl q
        · refine .inr ⟨k,c',e,z'.sameBut hs ?_⟩
          rintro rfl
          exact hj (rJ hN e1 (I.ok.inj _ _ _ e hc ▸ hi))
    · by_cases hcc:c'=c
      · subst hcc;exact⟨_,hc'⟩
      · obtain⟨w2,z2⟩:=I.cell y c' e
        exact⟨w2,z2.sameBut hs hcc⟩
    · obtain⟨e,n,ne,nf,d⟩:=I.pin p hp
      refine⟨(hs.2 p.1 ?_).trans e,n,ne,nf,d⟩
      intro q
      rw [q,hoc] at e
      have q':oc=p.2:=Option.some.inj e
      exact d w' (by rw [← q'];exact hocd)
theorem rK {M:Model}{A:Around}{E:Value→Shared→Prop}{i:Nat}{x:Str}{v:V}{u:Value}{Q:Unit→Shared→Prop}(I:Inv X pins σ H s)(hN:X.N.Nodup)(hi:X.N[i]? = some x)(hx:Loc X.env.scope x)(r:bT v u)
    (h:∀ s',Inv X pins (σ.set i (some v)) H s'→Q () s') (hf:X.fn x=true∨X.env.scope.names.lookup x=some .local:=by first|exact .inl rfl|exact .inr rfl|assumption):wpAny M A (storeName X.env x u) Q E s :=
  wH I hN hi hx r (fun s' I' _=>h s' I') hf
theorem Inv.call' {s':Shared}{ch:List Addr}(I:Inv X pins σ H s)(ho:s'.os=s.os)(u:Un (frs X.stack) ch H H' s.heap s'.heap)(hok:HOk X.prog X.w H' s'.heap)(hg:AllBare s'.gens)
    (hch:∀ b∈ch,(b∈X.ex∨X.s₀.heap.objs.size≤b)∧b≠X.env.locals∧(∀ x c,X.env.cells.lookup x=some c→c≠b) ∧ ∀ p∈X.pn++pins,p.1≠b):Inv X pins σ H' s':=by
  obtain⟨h',g',d',t',o'⟩:=s'
  have e:o'=s.os:=ho
  subst e
  exact I.call (g':=g') (t':=t') (d':=d') u hok hg hch
end
abbrev XK:=Value→Option Addr→Hp→Prop
abbrev St:=List (Option V)
abbrev VK:=V→Hp→Prop
abbrev TE:=St→Hp→VK→Prop
abbrev TT:=St→Hp→(Bool→Hp→Prop)→Prop
abbrev TA:=St→Hp→(List V→Hp→Prop)→Prop
structure rL where
  nx:St→Hp→Prop
  rt:VK
  bk:St→Hp→Prop:=fun _ _=>False
  ct:St→Hp→Prop:=fun _ _=>False
abbrev TS:=rL→St→Hp→Prop
def EP (X:Cx) (pins:List (Addr × Obj)) (σ:St) (Q:VK) (u:Value) (s':Shared):Prop:=∃ v H',Inv X pins σ H' s'∧bT v u∧Q v H'
def TP (X:Cx) (pins:List (Addr × Obj)) (σ:St) (Q:Bool→Hp→Prop) (b:Bool) (s':Shared):Prop:=∃ H',Inv X pins σ H' s'∧Q b H'
def AP (X:Cx) (pins:List (Addr × Obj)) (σ:St) (Q:List V→Hp→Prop) (us:List Value) (s':Shared):Prop:=∃ vs H',Inv X pins σ H' s'∧bg vs us∧Q vs H'
def SP (X:Cx) (pins:List (Addr × Obj)) (D:rL) (f:Flow) (s':Shared):Prop :=
  match f with
  | .next=>∃ σ' H',Inv X pins σ' H' s'∧D.nx σ' H'
  | .brk=>∃ σ' H',Inv X pins σ' H' s'∧D.bk σ' H'
  | .cont=>∃ σ' H',Inv X pins σ' H' s'∧D.ct σ' H'
  | .ret u=>∃ v σ' H',Inv X pins σ' H' s'∧bT v u∧D.rt v H'
def PE (X:Cx) (e:Expr) (t:TE):Prop :=
  ∀ (pins:List (Addr × Obj)) (s:Shared) (σ:St) (H:Hp) (Q:VK),Inv X pins σ H s→t σ H Q→wpAny (model X.prog X.w) X.A (eval e X.env) (EP X pins σ Q) X.xe s
def PT (X:Cx) (e:Expr) (t:TT):Prop :=
  ∀ (pins:List (Addr × Obj)) (s:Shared) (σ:St) (H:Hp) (Q:Bool→Hp→Prop),Inv X pins σ H s→t σ H Q→wpAny (model X.prog X.w) X.A (isTrue e X.env (eval e X.env)) (TP X pins σ Q) X.xe s
def PW (X:Cx) (e:Expr) (t:TT):Prop :=
  ∀ (whole:Sem Value) (pins:List (Addr × Obj)) (s:Shared) (σ:St) (H:Hp) (Q:Bool→Hp→Prop),Inv X pins σ H s→t σ H Q→wpAny (model X.prog X.w) X.A (isTrue e X.env whole) (TP X pins σ Q) X.xe s
theorem PW.pt {X:Cx}{e:Expr}{t:TT}(h:PW X e t):PT X e t:=h _
def PA (X:Cx) (es:List Expr) (t:TA):Prop :=
  ∀ (pos:Pos) (pins:List (Addr × Obj)) (s:Shared) (σ:St) (H:Hp) (Q:List V→Hp→Prop),Inv X pins σ H s→t σ H Q→wpAny (model X.prog X.w) X.A (spliced (backTo pos (starEach es X.env))) (AP X pins σ Q) X.xe s
def PS (X:Cx) (st:Stmt) (t:TS):Prop :=
  ∀ (pins:List (Addr × Obj)) (s:Shared) (σ:St) (H:Hp) (D:rL),Inv X pins σ H s→t D σ H→wpAny (model X.prog X.w) X.A (exec st X.env) (SP X pins D) X.xe s
def PSs (X:Cx) (st:List Stmt) (t:TS):Prop :=
  ∀ (pins:List (Addr × Obj)) (s:Shared) (σ:St) (H:Hp) (D:rL),Inv X pins σ H s→t D σ H→wpAny (model X.prog X.w) X.A (execs st X.env) (SP X pins D) X.xe s
theorem thn {α : Type}{t:Sem α}{Q Q' : α → Shared→Prop}{M:Model}{A:Around}{E:Value→Shared→Prop}{s:Shared}(h:wpAny M A t Q E s)(hQ:∀ a s,Q a s→Q' a s):wpAny M A t Q' E s:=wpAny_mono h hQ fun _ _ x=>x
end L2
namespace L2
open PySem PySem.Spec PyProof.Rows
section
variable {X:Cx}
def Py (i:Nat):TE:=fun σ H Q=>∃ v,σ[i]? = some (some v)∧Q v H
def tC (v:V):TE:=fun _ H Q=>Q v H
theorem HK {i:Nat} {x:Str} {pos:Pos} (hN:X.N[i]? = some x) (hv:Vis X.env.scope x) (hd:(x == ("__debug__" : Str))=false:=by decide) (hcd:(x == ("__classdict__" : Str))=false:=by decide):PE X (.Name x pos) (Py i):=by
  intro pins s σ H Q I h
  obtain⟨v,e,h⟩:=h
  obtain⟨m,hn,hl⟩:=I.loc
  obtain⟨u,r,l⟩:=hl i x v hN e hv
  have fin:EP X pins σ Q u s:=⟨v,H,I,r,h⟩
  rcases l with ⟨hk,hm⟩|⟨hk,c,hc,hcell⟩
  · exact wpAny_Name (wpAny_loadName_local I.ok.kind hk hn hm fin) hd
  · rcases hk with hk|hk
    · exact wpAny_Name (wpAny_loadName_cell I.ok.kind hk hc hcell fin) hd
    · exact wpAny_Name (wpAny_loadName_free I.ok.kind hk hc hcell fin hcd) hd
theorem HL {i j pos}:PE X (.Constant (.int i) j pos) (tC (.int i)):=fun _ _ _ H _ I h=>wpAny_Constant_int ⟨.int i,H,I.tok _,⟨_,rfl⟩,h⟩
theorem Pz {b j pos}:PE X (.Constant (.bool b) j pos) (tC (.bl b)):=fun _ _ _ H _ I h=>Constant_bool ⟨.bl b,H,I,rfl,h⟩
theorem Nw {j pos}:PE X (.Constant .none j pos) (tC .non):=fun _ _ _ H _ I h=>Constant_none ⟨.non,H,I,rfl,h⟩
theorem HM {x j pos}:PE X (.Constant (.str x) j pos) (tC (.str x)):=fun _ _ _ H _ I h=>Calls.Constant_str ⟨.str x,H,I.tok _,⟨_,rfl⟩,h⟩
def Gl (X:Cx) (x:Str):Prop:=X.env.kindOf x=some .globalImplicit
theorem xO {E:Value→Shared→Prop}{pins:List (Addr × Obj)}{s:Shared}{σ:St}{H:Hp}{x:Str}{u:Value}{pos:Pos}{Q:Value→Shared→Prop}(I:Inv X pins σ H s)(hg:Gl X x)(hm:X.mg x=some u)(h:Q u s)
    (hd:(x == ("__debug__" : Str))=false:=by decide):wpAny (model X.prog X.w) X.A (eval (.Name x pos) X.env) Q E s :=
  Calls.Name_function_global I.ok.kind hg (Calls.loadGlobal_global (by rw [I.ok.glob];exact I.mod.glob.keeps I.bk) hm h) hd
theorem mL {E:Value→Shared→Prop}{pins:List (Addr × Obj)}{s:Shared}{σ:St}{H:Hp}{x:Str}{u:Value}{pos:Pos}{Q:Value→Shared→Prop}(I:Inv X pins σ H s)(hg:Gl X x)(hm:X.mg x=none)(hv:bootBuiltins x=some u)(h:Q u s)
    (hn:x ≠ "__name__" := by decide) (hd:(x == ("__debug__" : Str))=false:=by decide):wpAny (model X.prog X.w) X.A (eval (.Name x pos) X.env) Q E s:=by
  obtain⟨mb,h1,h2⟩:=I.mod.blt
  exact Calls.Name_function_global I.ok.kind hg (Calls.loadGlobal_builtin (by rw [I.ok.glob];exact I.mod.glob.keeps I.bk) hm (by rw [I.ok.blt];exact h1.keeps I.bk) ((h2 x hn).trans hv) h) hd
theorem gc {x:Str} {v:V} {u:Value} {pos:Pos} (hg:Gl X x) (hm:X.mg x=some u) (r:bT v u) (hd:(x == ("__debug__" : Str))=false:=by decide):PE X (.Name x pos) (tC v) :=
  fun _ _ _ H _ I h=>xO I hg hm ⟨v,H,I,r,h⟩ hd
theorem Ex {x:Str} {v:V} {u:Value} {pos:Pos} (hg:Gl X x) (hm:X.mg x=none) (hv:bootBuiltins x=some u) (r:bT v u) (hn:x ≠ "__name__" := by decide) (hd:(x == ("__debug__" : Str))=false:=by decide):PE X (.Name x pos) (tC v) :=
  fun _ _ _ H _ I h=>mL I hg hm hv ⟨v,H,I,r,h⟩ hn hd
variable {a b:Expr} {ta tb:TE} {pos:Pos}
def tB (t:TE):TT:=fun σ H Q=>t σ H fun x H1=>∃ c,x=.bl c∧Q c H1
theorem Nx {e:Expr}{t:TE}(h:PE X e t)(he:∀ whole,isTrue e X.env whole=(do let v ← whole;standAt e.pos;holding [v] (truthy v)):=by intro _;rfl):PT X e (tB t):=by
  intro pins s σ H Q I hw
  refine isTrue_plain (thn (h pins s σ H _ I hw) fun v s1 ⟨x,H1,I1,r1,q1⟩ => ?_) (he _)
  obtain⟨d,rfl,q⟩:=q1
  cases r1
  exact wpAny_truthy_bool ⟨H1,I1,q⟩
variable {tA tB':TT} {rest:List Expr}
def iR (t u:TT):TT:=fun σ H Q=>t σ H fun c H1=>if c=true then u σ H1 Q else Q false H1
def tOr (t u:TT):TT:=fun σ H Q=>t σ H fun c H1=>if c=true then Q true H1 else u σ H1 Q
def cK (t:TT):TT:=fun σ H Q=>t σ H fun c H1=>Q (!c) H1
theorem Le (ha:PT X a tA):PW X (.BoolOp .And [a] pos) tA:=by
  intro wh pins s σ H Q I h
  refine isTrue_and (thn (ha pins s σ H Q I h) fun c s1 e => ?_)
  cases c with
  | true=>exact isTrue_and_nil e
  | false=>exact e
theorem Ny (ha:PT X a tA):PW X (.BoolOp .Or [a] pos) tA:=by
  intro wh pins s σ H Q I h
  refine isTrue_or (thn (ha pins s σ H Q I h) fun c s1 e => ?_)
  cases c with
  | false=>exact isTrue_or_nil e
  | true=>exact e
theorem Nz (ha:PT X a tA)(hb:PW X (.BoolOp .And (b :: rest) pos) tB'):PW X (.BoolOp .And (a :: b :: rest) pos) (iR tA tB'):=by
  intro wh pins s σ H Q I h
  refine isTrue_and (thn (ha pins s σ H _ I h) fun c s1 ⟨H1,I1,q1⟩ => ?_)
  cases c with
  | true=>exact hb wh pins s1 σ H1 Q I1 q1
  | false=>exact⟨H1,I1,q1⟩
theorem PB (ha:PT X a tA)(hb:PW X (.BoolOp .Or (b :: rest) pos) tB'):PW X (.BoolOp .Or (a :: b :: rest) pos) (tOr tA tB'):=by
  intro wh pins s σ H Q I h
  refine isTrue_or (thn (ha pins s σ H _ I h) fun c s1 ⟨H1,I1,q1⟩ => ?_)
  cases c with
  | true=>exact⟨H1,I1,q1⟩
  | false=>exact hb wh pins s1 σ H1 Q I1 q1
theorem NB (ha:PT X a tA):PT X (.UnaryOp .Not a pos) (cK tA):=by
  intro pins s σ H Q I h
  exact isTrue_not (ha pins s σ H (fun c H1=>Q (!c) H1) I h)
def PC (ta tb:TE):TE:=fun σ H Q=>ta σ H fun x H1=>∃ c,x=.bl c∧if c=true then tb σ H1 Q else Q (.bl false) H1
def QS (ta tb:TE):TE:=fun σ H Q=>ta σ H fun x H1=>∃ c,x=.bl c∧if c=true then Q (.bl true) H1 else tb σ H1 Q
def PD (ta:TE):TE:=fun σ H Q=>ta σ H fun x H1=>∃ c,x=.bl c∧Q (.bl (!c)) H1
theorem NC {op}{t:TE}(h:PE X a t):PE X (.BoolOp op [a] pos) t:=fun pins s σ H Q I hw=>BoolOp_one (h pins s σ H Q I hw)
theorem ND (ha:PE X a ta)(hb:PE X (.BoolOp .And (b :: rest) pos) tb):PE X (.BoolOp .And (a :: b :: rest) pos) (PC ta tb):=by
  intro pins s σ H Q I h
  refine BoolOp_and (thn (ha pins s σ H _ I h) fun v s1 ⟨x,H1,I1,r1,q1⟩ => ?_)
  obtain⟨c,rfl,q1⟩:=q1
  cases r1
  refine wpAny_truthy_bool ?_
  cases c with
  | true=>exact hb pins s1 σ H1 Q I1 q1
  | false=>exact⟨.bl false,H1,I1,rfl,q1⟩
theorem PF (ha:PE X a ta)(hb:PE X (.BoolOp .Or (b :: rest) pos) tb):PE X (.BoolOp .Or (a :: b :: rest) pos) (QS ta tb):=by
  intro pins s σ H Q I h
  refine BoolOp_or (thn (ha pins s σ H _ I h) fun v s1 ⟨x,H1,I1,r1,q1⟩ => ?_)
  obtain⟨c,rfl,q1⟩:=q1
  cases r1
  refine wpAny_truthy_bool ?_
  cases c with
  | false=>exact hb pins s1 σ H1 Q I1 q1
  | true=>exact⟨.bl true,H1,I1,rfl,q1⟩
theorem NF (ha:PE X a ta):PE X (.UnaryOp .Not a pos) (PD ta):=by
  intro pins s σ H Q I h
  refine UnaryOp_ (thn (ha pins s σ H _ I h) fun v s1 ⟨x,H1,I1,r1,q1⟩ => ?_)
  obtain⟨c,rfl,q1⟩:=q1
  cases r1
  exact not_of (wpAny_truthy_bool ⟨.bl (!c),H1,I1,rfl,q1⟩)
def tIf (t:TT) (ta tb:TE):TE:=fun σ H Q=>t σ H fun c H1=>if c=true then ta σ H1 Q else tb σ H1 Q
theorem HN {c:Expr}(hc:PT X c tA)(ha:PE X a ta)(hb:PE X b tb):PE X (.IfExp c a b pos) (tIf tA ta tb):=by
  intro pins s σ H Q I h
  refine wpAny_IfExp (thn (hc pins s σ H _ I h) fun d s1 ⟨H1,I1,q1⟩ => ?_)
  cases d with
  | true=>exact ha pins s1 σ H1 Q I1 q1
  | false=>exact hb pins s1 σ H1 Q I1 q1
end
end L2
namespace L2
open PySem PySem.Spec PyProof.Rows
def SqL (K:PySem.W.Frag) (H:Hp) (a:Addr) (xs:List V):Prop :=
  Rd H a (.lst xs) ∨
    ∃ (o:Obj) (its:Array Value) (n:Nat),K.lookup a=some o∧o.cls=.type "list" ∧ o.dict=none∧o.data=.seq its n∧its.size≤sizeLine∧bg xs its.toList
def SqT (K:PySem.W.Frag) (H:Hp) (a:Addr) (xs:List V):Prop :=
  Rd H a (.tup xs) ∨
    ∃ (o:Obj) (its:Array Value) (n:Nat),K.lookup a=some o∧o.cls=.type "tuple" ∧ o.data=.seq its n∧its.size≤sizeLine∧bg xs its.toList
def QT:Value→Option V
  | .none=>some .non
  | .bool b=>some (.bl b)
  | .int i _=>some (.int i)
  | .str x _=>some (.str x)
  | .bytes b _=>some (.byt b)
  | .float b _=>some (.flt b)
  | .ref a=>some (.ref a)
  | .type n=>some (.ty n)
  | _=>none
theorem bT.abs {x:V}{u:Value}(r:bT x u):QT u=some x:=by
  cases x with
  | non=>cases r;rfl
  | bl _=>cases r;rfl
  | int _=>obtain⟨t,rfl⟩:=r;rfl
  | str _=>obtain⟨t,rfl⟩:=r;rfl
  | byt _=>obtain⟨t,rfl⟩:=r;rfl
  | flt _=>obtain⟨t,rfl⟩:=r;rfl
  | ref _=>cases r;rfl
  | ty _=>cases r;rfl
theorem bT.inj {x y:V}{u:Value}(r:bT x u)(q:bT y u):x=y:=Option.some.inj (r.abs.symm.trans q.abs)
theorem bg.inj:∀ {xs ys:List V} {us:List Value},bg xs us→bg ys us→xs=ys
  | _,_,_,.nil,.nil=>rfl
  | _,_,_,.cons r t,.cons r' t'=>by rw [r.inj r',bg.inj t t']
section
variable {X:Cx} {pins:List (Addr × Obj)} {σ:St} {H:Hp} {s:Shared} {a:Addr} {xs ys:List V}
theorem SqL.of {K:PySem.W.Frag}(h:H a=some (.lst xs)):SqL K H a xs:=.inl (.inl h)
theorem SqT.of {K:PySem.W.Frag}(h:H a=some (.tup xs)):SqT K H a xs:=.inl (.inl h)
theorem Inv.list (I:Inv X pins σ H s)(h:SqL X.K H a xs):∃ its:List Value,bg xs its∧PlainL s.heap a its.toArray∧xs.length≤sizeLine:=by
  rcases h with h|⟨o,its,n,hk,hc,hd,hs,hz,r⟩
  · obtain⟨z,its,n,r,e⟩:=h.ok I.hok
    exact⟨its,r,⟨_,n,e,rfl,rfl,rfl⟩,z⟩
  · refine⟨its.toList,r,⟨o,n,I.kIn a o hk,hc,hd,by simpa using hs⟩,?_⟩
    have e:=r.length
    simp only [Array.length_toList] at e
    omega
theorem Inv.tuple (I:Inv X pins σ H s)(h:SqT X.K H a xs):∃ its:List Value,bg xs its∧IsTup s.heap a its.toArray∧xs.length≤sizeLine:=by
  rcases h with h|⟨o,its,n,hk,hc,hs,hz,r⟩
  · obtain⟨z,its,r,p⟩:=h.ok I.hok
    exact⟨its,r,p,z⟩
  · refine⟨its.toList,r,⟨o,I.kIn a o hk,hc,n,by simpa using hs⟩,?_⟩
    have e:=r.length
    simp only [Array.length_toList] at e
    omega
theorem Inv.list_inj (I:Inv X pins σ H s)(h:SqL X.K H a xs)(h':SqL X.K H a ys):xs=ys:=by
  obtain⟨its,r,⟨o,n,e,_,_,d⟩,_⟩:=I.list h
  obtain⟨its',r',⟨o',n',e',_,_,d'⟩,_⟩:=I.list h'
  rw [e] at e';cases e'
  rw [d] at d'
  injection d' with d1 _
  have:its=its':=by simpa using congrArg Array.toList d1
  subst this
  exact r.inj r'
theorem Inv.tuple_inj (I:Inv X pins σ H s)(h:SqT X.K H a xs)(h':SqT X.K H a ys):xs=ys:=by
  obtain⟨its,r,⟨o,e,_,n,d⟩,_⟩:=I.tuple h
  obtain⟨its',r',⟨o',e',_,n',d'⟩,_⟩:=I.tuple h'
  rw [e] at e';cases e'
  rw [d] at d'
  injection d' with d1 _
  have:its=its':=by simpa using congrArg Array.toList d1
  subst this
  exact r.inj r'
end
abbrev Cx.wish (X:Cx) (E:Value→Shared→Prop):Cx:={ X with xe:=E }
abbrev Cx.nox (X:Cx):Cx:=X.wish fun _ _=>False
theorem Cx.Ok.wish {X:Cx}(ok:X.Ok)(E:Value→Shared→Prop):(X.wish E).Ok :=
  ⟨ok.mod,ok.kind,ok.glob,ok.blt,ok.above,ok.inj,ok.has,ok.cab,ok.hd,ok.frames,ok.stk,ok.exf,ok.bs,ok.bsz,ok.noex,ok.exfs,ok.funs,ok.frf⟩
theorem Cx.Ok.unwish {X:Cx}{E:Value→Shared→Prop}(ok:(X.wish E).Ok):X.Ok :=
  ⟨ok.mod,ok.kind,ok.glob,ok.blt,ok.above,ok.inj,ok.has,ok.cab,ok.hd,ok.frames,ok.stk,ok.exf,ok.bs,ok.bsz,ok.noex,ok.exfs,ok.funs,ok.frf⟩
section
variable {X:Cx} {pins:List (Addr × Obj)} {σ:St} {H:Hp} {s:Shared} {E:Value→Shared→Prop}
theorem Inv.wish (I:Inv X pins σ H s)(E:Value→Shared→Prop):Inv (X.wish E) pins σ H s:=⟨I.ok.wish E,I.os,I.bare,I.base,I.loc,I.cell,I.free,I.freeC,I.pin,I.hok,I.len⟩
theorem Inv.unwish (I:Inv (X.wish E) pins σ H s):Inv X pins σ H s:=⟨I.ok.unwish,I.os,I.bare,I.base,I.loc,I.cell,I.free,I.freeC,I.pin,I.hok,I.len⟩
theorem SP.unwish {D:rL}{f:Flow}{s':Shared}(h:SP (X.wish E) pins D f s'):SP X pins D f s':=by
  cases f with
  | next=>obtain⟨σ',H',I,q⟩:=h;exact⟨σ',H',I.unwish,q⟩
  | brk=>obtain⟨σ',H',I,q⟩:=h;exact⟨σ',H',I.unwish,q⟩
  | cont=>obtain⟨σ',H',I,q⟩:=h;exact⟨σ',H',I.unwish,q⟩
  | ret u=>obtain⟨v,σ',H',I,r,q⟩:=h;exact⟨v,σ',H',I.unwish,r,q⟩
theorem PSs.nox {st:List Stmt}{t:TS}(h:PSs X.nox st t):PSs X st t:=fun pins s σ H D I hw =>
  wpAny_mono (h pins s σ H D (I.wish _) hw) (fun _ _ q=>q.unwish) fun _ _ z=>False.elim z
end
section
variable {X:Cx} {st:Stmt} {rest:List Stmt} {t u:TS} {e:Expr} {te:TE} {pos:Pos}
def PJ:TS:=fun D σ H=>D.nx σ H
def QU (t u:TS):TS:=fun D σ H=>t { D with nx:=u D } σ H
theorem xP:PSs X [] PJ:=fun _ _ σ H _ I h=>wpAny_execs_nil ⟨σ,H,I,h⟩
theorem Af (h1:PS X st t)(h2:PSs X rest u):PSs X (st :: rest) (QU t u):=by
  intro pins s σ H D I h
  refine wpAny_execs_cons (thn (h1 pins s σ H { D with nx:=u D } I h) fun f s1 q => ?_)
  cases f with
  | next =>
    obtain⟨σ',H',I',q⟩:=q
    exact h2 pins s1 σ' H' D I' q
  | ret v=>exact q
  | brk=>exact q
  | cont=>exact q
theorem xQ (h1:PS X st t):PSs X [st] t:=by
  intro pins s σ H D I h
  refine wpAny_execs_cons (thn (h1 pins s σ H D I h) fun f s1 q => ?_)
  cases f with
  | next=>exact wpAny_execs_nil q
  | ret v=>exact q
  | brk=>exact q
  | cont=>exact q
theorem Inv.quiet {pins:List (Addr × Obj)}{σ:St}{H:Hp}{s:Shared}(I:Inv X pins σ H s):interactive X.env=false:=by simp [interactive,I.ok.kind]
def PK (te:TE):TS:=fun D σ H=>te σ H fun _ H1=>D.nx σ H1
theorem Ey (he:PE X e te)(hs:swapsWith e none pos.line X.env=pure false:=by rfl):PS X (.Expr e pos) (PK te):=by
  intro pins s σ H D I h
  exact wpAny_Expr_any (thn (he pins s σ H _ I h) fun v s1 ⟨x,H1,I1,r1,q1⟩=>⟨σ,H1,I1,q1⟩) I.quiet hs
def QV (te:TE):TS:=fun D σ H=>te σ H D.rt
theorem NG (he:PE X e te):PS X (.Return (some e) pos) (QV te):=by
  intro pins s σ H D I h
  exact wpAny_Return_some (thn (he pins s σ H _ I h) fun v s1 ⟨x,H1,I1,r1,q1⟩=>⟨x,σ,H1,I1,r1,q1⟩)
def QW (c:TT) (t u:TS):TS:=fun D σ H=>c σ H fun b H1=>if b=true then t D σ H1 else u D σ H1
theorem M0 {c:Expr}{a b:List Stmt}{tc:TT}(hc:PT X c tc)(ha:PSs X a t)(hb:PSs X b u):PS X (.If c a b pos) (QW tc t u):=by
  intro pins s σ H D I h
  refine wpAny_If (thn (hc pins s σ H _ I h) fun d s1 ⟨H1,I1,q1⟩ => ?_)
  cases d with
  | true=>exact ha pins s1 σ H1 D I1 q1
  | false=>exact hb pins s1 σ H1 D I1 q1
def NJ:TS:=fun _ _ _=>False
theorem HP:PS X st NJ:=fun _ _ _ _ _ _ h=>h.elim
end
abbrev TG:=V→St→Hp→(St→Hp→Prop)→Prop
abbrev TGs:=List V→St→Hp→(St→Hp→Prop)→Prop
def PG (X:Cx) (target:Expr) (t:TG):Prop :=
  ∀ (pins:List (Addr × Obj)) (s:Shared) (σ:St) (H:Hp) (v:V) (u:Value) (Q:St→Hp→Prop),Inv X pins σ H s→bT v u→t v σ H Q →
    wpAny (model X.prog X.w) X.A (assign target X.env u) (fun _ s'=>∃ σ' H',Inv X pins σ' H' s'∧Q σ' H') X.xe s
def PGs (X:Cx) (ts:List Expr) (t:TGs):Prop :=
  ∀ (pins:List (Addr × Obj)) (s:Shared) (σ:St) (H:Hp) (vs:List V) (us:List Value) (Q:St→Hp→Prop),Inv X pins σ H s→bg vs us→t vs σ H Q →
    wpAny (model X.prog X.w) X.A (assignInOrder ((assignEach ts X.env).map (·.2)) us) (fun _ s'=>∃ σ' H',Inv X pins σ' H' s'∧Q σ' H') X.xe s
abbrev NK:=V→V→V→Hp→(Hp→Prop)→Prop
def NL (X:Cx) (t:NK):Prop :=
  ∀ (pins:List (Addr × Obj)) (s:Shared) (σ:St) (H:Hp) (o i v:V) (ov iv u:Value) (Q:Hp→Prop),Inv X pins σ H s→bT o ov→bT i iv→bT v u→t o i v H Q →
    wpAny (model X.prog X.w) X.A (setItem ov iv u) (fun _ s'=>∃ H',Inv X pins σ H' s'∧Q H') X.xe s
section
variable {X:Cx} {pos:Pos}
def HQ (i:Nat):TG:=fun v σ H Q=>Q (σ.set i (some v)) H
theorem Lf {i:Nat}{x:Str}(hN:X.N.Nodup)(hi:X.N[i]? = some x)(hx:Loc X.env.scope x)(hf:X.fn x=true∨X.env.scope.names.lookup x=some .local:=by first|exact .inl rfl|exact .inr rfl|assumption):PG X (.Name x pos) (HQ i):=by
  intro pins s σ H v u Q I r h
  exact wpAny_assign_Name (rK I hN hi hx r (fun s' I'=>⟨_,H,I',h⟩) hf)
def QX:TGs:=fun vs σ H Q=>vs=[]∧Q σ H
def PL (t:TG) (u:TGs):TGs:=fun vs σ H Q=>∃ v r,vs=v :: r∧t v σ H fun σ' H'=>u r σ' H' Q
theorem Lg:PGs X [] QX:=by
  intro pins s σ H vs us Q I r h
  obtain⟨e,h⟩:=h
  subst e
  cases r
  exact assignInOrder_nil ⟨σ,H,I,h⟩
theorem HR {e:Expr}{es:List Expr}{t:TG}{u:TGs}(h1:PG X e t)(h2:PGs X es u)
    (hs:(assignEach (e :: es) X.env).map (·.2)=assign e X.env :: (assignEach es X.env).map (·.2):=by rfl):PGs X (e :: es) (PL t u):=by
  intro pins s σ H vs us Q I r h
  obtain⟨v,vr,e1,h⟩:=h
  subst e1
  cases r with
  | cons r rr =>
    rw [hs]
    refine assignInOrder_cons (thn (h1 pins s σ H _ _ _ I r h) fun _ s1 ⟨σ1,H1,I1,q1⟩ => ?_)
    exact h2 pins s1 σ1 H1 _ _ Q I1 rr q1
def QY (K:PySem.W.Frag) (n:Nat) (t:TGs):TG:=fun v σ H Q=>∃ a xs,v=.ref a∧SqT K H a xs∧xs.length=n∧t xs σ H Q
theorem NM {es:List Expr}{k:Nat}{t:TGs}{n:Nat}(hc:X.calm=true)(h:PGs X es t)
    (hn:(assignEach es X.env).length=n:=by rfl) (hst:(assignEach es X.env).findIdx? (·.1)=none:=by rfl):PG X (.Tuple es k pos) (QY X.K n t):=by
  intro pins s σ H v u Q I r hw
  obtain⟨a,xs,e1,hq,hl,hw⟩:=hw
  subst e1
  cases r
  obtain⟨its,rv,ht,hz⟩:=I.tuple hq
  refine assign_Tuple_tuple (I.ok.hd hc) ht (by simp [hn,← hl,rv.length]) hst fun h' hx => ?_
  have I1:Inv X pins σ H { s with heap:=h' }:=I.kept (t':=s.toks) fun b o e=>hx b o (Nat.ne_of_lt (Heap.lt_size e)) e
  exact h pins _ σ H xs _ Q I1 (by simpa using rv) hw
def QZ (to ti:TE) (t:NK):TG:=fun v σ H Q=>to σ H fun o H1=>ti σ H1 fun i H2=>t o i v H2 fun H3=>Q σ H3
theorem HS {o i:Expr}{to ti:TE}{t:NK}(ho:PE X o to)(hi:PE X i ti)(hs:NL X t)
    (ha:∀ v,assign (.Subscript o i pos) X.env v=(do
      let ov ← holding [v] (eval o X.env)
      let iv ← holding [v,ov] (eval i X.env)
      standAt pos
      holding [v,ov,iv] (setItem ov iv v)
      release [v,ov,iv] []):=by intro _;rfl):PG X (.Subscript o i pos) (QZ to ti t):=by
  intro pins s σ H v u Q I r h
  rw [ha]
  refine wpAny_bind (wpAny_holding (thn (ho pins s σ H _ I h) fun ov s1 ⟨x,H1,I1,r1,q1⟩ => ?_))
  refine wpAny_bind (wpAny_holding (thn (hi pins s1 σ H1 _ I1 q1) fun iv s2 ⟨y,H2,I2,r2,q2⟩ => ?_))
  refine wpAny_bind (wpAny_standAt (wpAny_bind (wpAny_holding (thn (hs pins s2 σ H2 x y v ov iv u _ I2 r1 r2 r q2) fun _ s3 ⟨H3,I3,q3⟩ => ?_))))
  exact wpAny_release ⟨σ,H3,I3,q3⟩
def NN (te:TE) (g:TG):TS:=fun D σ H=>te σ H fun x H1=>g x σ H1 D.nx
theorem Ce {tg e:Expr}{te:TE}{g:TG}(he:PE X e te)(hg:PG X tg g)(hs:swapsWithSole [tg] e pos.line X.env=pure false:=by rfl)(hw:swappedStores [tg] e X.env=pure none:=by rfl)
    (h1:(assignEach [tg] X.env).map (·.2)=[assign tg X.env]:=by rfl):PS X (.Assign [tg] e pos) (NN te g):=by
  intro pins s σ H D I h
  refine wpAny_Assign_stores (thn (he pins s σ H _ I h) fun v s1 ⟨x,H1,I1,r1,q1⟩ => ?_) hs hw
  rw [h1]
  exact thn (hg pins s1 σ H1 x v _ I1 r1 q1) fun _ s2 q=>q
theorem Cf {i:Nat}{x:Str}{e:Expr}{te:TE}{pos':Pos}(hN:X.N.Nodup)(hi:X.N[i]? = some x)(hx:Loc X.env.scope x)(he:PE X e te)(hs:swapsWith e (some (.Name x pos')) pos.line X.env=pure false:=by rfl)(hf:X.fn x=true∨X.env.scope.names.lookup x=some .local:=by first|exact .inl rfl|exact .inr rfl|assumption) :
    PS X (.Assign [.Name x pos'] e pos) (NN te (HQ i)):=by
  intro pins s σ H D I h
  refine wpAny_Assign_Name (thn (he pins s σ H _ I h) fun v s1 ⟨y,H1,I1,r1,q1⟩ => ?_) hs
  exact rK I1 hN hi hx r1 (fun s2 I2=>⟨_,H1,I2,q1⟩) hf
end
section
variable {X:Cx} {pos:Pos}
def NO (c:TT) (tb:TS):TS:=fun D σ H=>∃ W:Nat→St→Hp→Prop,(∃ m,W m σ H) ∧ ∀ m σ H,W m σ H →
  c σ H fun b H1=>if b=true then ∃ N:St→Hp→Prop,(∀ σ' H',N σ' H' → ∃ m',m' < m∧W m' σ' H')∧tb { D with nx:=N,ct:=N,bk:=D.nx } σ H1 else D.nx σ H1
theorem HU {c:Expr}{body:List Stmt}{tc:TT}{tb:TS}(hp:PassesOwn (model X.prog X.w) X.A X.env X.xe)(hc:PT X c tc)(hb:PSs X body tb):PS X (.While c body [] pos) (NO tc tb):=by
  intro pins s σ H D I h
  obtain⟨W,⟨m0,w0⟩,turn⟩:=h
  refine wpAny_While (codeAny_whileLoop (fun n s'=>∃ σ' H',Inv X pins σ' H' s'∧W n σ' H') ?_ m0 ⟨σ,H,I,w0⟩)
  rintro n s1 ⟨σ1,H1,I1,w1⟩
  refine wpAny_passesOwn hp (thn (hc pins s1 σ1 H1 _ I1 (turn n σ1 H1 w1)) fun b s2 ⟨H2,I2,q2⟩ => ?_)
  cases b with
  | true =>
    obtain⟨N,hN,q2⟩:=q2
    rw [if_pos rfl]
    refine wpAny_passesOwn hp (thn (hb pins s2 σ1 H2 _ I2 q2) fun f s3 q3 => ?_)
    cases f with
    | next =>
      obtain⟨σ3,H3,I3,n3⟩:=q3
      obtain⟨m',hm,w3⟩:=hN σ3 H3 n3
      exact⟨m',hm,σ3,H3,I3,w3⟩
    | cont =>
      obtain⟨σ3,H3,I3,n3⟩:=q3
      obtain⟨m',hm,w3⟩:=hN σ3 H3 n3
      exact⟨m',hm,σ3,H3,I3,w3⟩
    | brk=>exact q3
    | ret v=>exact q3
  | false =>
    rw [if_neg Bool.false_ne_true]
    exact wpAny_execs_nil ⟨σ1,H2,I2,q2⟩
end
structure It where
  go:Nat→Hp→Prop
  yld:Nat→Hp→V→Hp→Prop
  stop:Nat→Hp→Prop
def rM (X:Cx) (pins:List (Addr × Obj)) (H:Hp) (b:Addr):Prop :=
  H b=none∧b≠X.env.locals∧b∉X.fs∧(b∈X.ex∨X.s₀.heap.objs.size≤b)∧(∀ x c,X.env.cells.lookup x=some c→c≠b) ∧ ∀ p∈X.pn++pins,p.1≠b
theorem Inv.fpOk {X:Cx}{pins:List (Addr × Obj)}{σ:St}{H H':Hp}{s:Shared}{b:Addr}(I:Inv X pins σ H s)(hb:s.heap.objs.size≤b)(hn:H' b=none):rM X pins H' b:=by
  refine⟨hn,Nat.ne_of_gt (Nat.lt_of_lt_of_le I.lt hb),I.nofs hb,.inr (Nat.le_trans I.sz hb),fun x c e z => ?_,fun p hp z => ?_⟩
  · obtain⟨v,q⟩:=I.cell x c e
    exact absurd (Nat.lt_of_lt_of_le q.lt (by rw [z];exact hb)) (Nat.lt_irrefl _)
  · exact absurd (Nat.lt_of_lt_of_le (Heap.lt_size (I.pin p hp).1) (by rw [z];exact hb)) (Nat.lt_irrefl _)
structure Cg (P:Program) (w:World) (K:PySem.W.Frag) (tg:Expr) (J:It) (fp:List Addr) (it:Addr) (tn:Nat→Heap→Prop):Prop where
  mem:it∈fp
  obj:∀ i h,tn i h → ∀ b∈fp,∃ o,h.get? b=some o ∧ ∀ v,o.data ≠ .cell v
  keep:∀ i h h',tn i h→(∀ b∈fp,∀ o,h.get? b=some o→h'.get? b=some o)→tn i h'
  item:∀ (X:Cx),X.prog=P→X.w=w→X.K=K→X.calm=true → ∀ (i:Nat) (pins:List (Addr × Obj)) (s:Shared) (σ:St) (H:Hp) (E:Value→Shared→Prop),Inv X pins σ H s→(∀ b∈fp,rM X pins H b)→tn i s.heap→J.go i H →
    wpAny (model P w) X.A (pyNext (.ref it)) (fun r s1=>∃ u,r=some u ∧
      wpAny (model P w) X.A (letOwnedTupleGo tg (.ref it) u) (fun _ s2=>∃ x H',Inv X pins σ H' s2∧bT x u∧J.yld i H x H'∧tn (i + 1) s2.heap ∧ ∀ b∈fp,H' b=none) E s1) E s
  done:∀ (X:Cx),X.prog=P→X.w=w→X.K=K→X.calm=true → ∀ (i:Nat) (pins:List (Addr × Obj)) (s:Shared) (σ:St) (H:Hp) (E:Value→Shared→Prop),Inv X pins σ H s→(∀ b∈fp,rM X pins H b)→tn i s.heap→J.stop i H →
    wpAny (model P w) X.A (pyNext (.ref it)) (fun r s1=>r=none∧Inv X pins σ H s1) E s
  self:∀ (A:Around) (i:Nat) (s:Shared) (Q:Value→Shared→Prop) (E:Value→Shared→Prop),tn i s.heap→Q (.ref it) s→wpAny (model P w) A (pyIter (.ref it)) Q E s
abbrev TI:=St→Hp→(It→Hp→Prop)→Prop
def PIE (X:Cx) (pins:List (Addr × Obj)) (σ:St) (tg:Expr) (R:It→Hp→Prop) (itv:Value) (s2:Shared):Prop :=
  ∃ (it:Addr) (fp:List Addr) (tn:Nat→Heap→Prop) (J:It) (H':Hp),itv=.ref it∧Inv X pins σ H' s2∧Cg X.prog X.w X.K tg J fp it tn∧tn 0 s2.heap∧(∀ b∈fp,rM X pins H' b)∧R J H'
def PI (X:Cx) (tg iter:Expr) (wi:TI):Prop :=
  ∀ (pins:List (Addr × Obj)) (s:Shared) (σ:St) (H:Hp) (R:It→Hp→Prop),Inv X pins σ H s→wi σ H R →
    wpAny (model X.prog X.w) X.A (eval iter X.env) (fun v s1=>wpAny (model X.prog X.w) X.A (pyIter v) (PIE X pins σ tg R) X.xe s1) X.xe s
theorem HV {M:Model}{A:Around}{E:Value→Shared→Prop}{s:Shared}{tg:Expr}{it:Addr}{u:Value}{o:Obj}{n:String}{vs:Array Value}{Q:Unit→Shared→Prop}(ho:s.heap.get? it=some o)(hc:o.cls=.type n)(hd:o.data=.fields vs)
    (hn : ["enumerate", "zip", "dict_itemiterator", "dict_reverseitemiterator", "odict_iterator", "itertools.zip_longest", "itertools.pairwise"].contains n=false) (hQ:Q () s):wpAny M A (letOwnedTupleGo tg (.ref it) u) Q E s:=by
  unfold letOwnedTupleGo
  cases tg<;>first
    | exact wpAny_pure hQ
    | (cases u<;>first
        | exact wpAny_pure hQ
        | (refine wpAny_bind (wpAny_load ho ?_)
           rw [hc,hd]
           show wpAny M A (if (["enumerate", "zip", "dict_itemiterator", "dict_reverseitemiterator", "odict_iterator", "itertools.zip_longest", "itertools.pairwise"].contains n && vs[0]? == some (rawInt _))=true then _ else _) Q E s
           rw [if_neg (by intro h;rw [hn,Bool.false_and] at h;cases h)]
           exact wpAny_pure hQ))
def Itl (K:PySem.W.Frag) (a:Addr):It :=
  ⟨fun i H=>∃ xs x,SqL K H a xs∧xs[i]? = some x,fun i H x H'=>H'=H ∧ ∀ xs,SqL K H a xs→xs[i]? = some x,fun i H=>∃ xs,SqL K H a xs∧xs.length≤i⟩
def Itt (K:PySem.W.Frag) (a:Addr):It :=
  ⟨fun i H=>∃ xs x,SqT K H a xs∧xs[i]? = some x,fun i H x H'=>H'=H ∧ ∀ xs,SqT K H a xs→xs[i]? = some x,fun i H=>∃ xs,SqT K H a xs∧xs.length≤i⟩
def Itr (lo:Int) (n:Nat):It:=⟨fun i _=>i < n,fun i H x H'=>H'=H∧x=.int (lo + i),fun i _=>n≤i⟩
theorem Fz {P:Program}{w:World}{K:PySem.W.Frag}{tg:Expr}(a it:Addr):Cg P w K tg (Itl K a) [it] it (fun i h=>h.IsListIter it a i) where
  mem:=by simp
  obj:=fun i h st b hb=>by
    have e:b=it:=by simpa using hb
    subst e
    obtain⟨o,e,c,d⟩:=st
    exact⟨o,e,fun v z=>by rw [d] at z;cases z⟩
  keep:=fun i h h' st k=>st.at fun o e=>k it (by simp) o e
  item:=by
    intro X hP hw hK hc i pins s σ H E I hf st hg
    subst hP hw hK
    obtain⟨xs,x,hq,hx⟩:=hg
    obtain⟨its,rv,p,hz⟩:=I.list hq
    obtain⟨u,hu,ru⟩:=rv.get hx
    obtain⟨f0,f1,f2,f3,f4,f5⟩:=hf it (by simp)
    refine wpAny_pyNext_list_item st p.isList (x:=u) (by simpa using hu) fun h' st' sb => ?_
    have I1:Inv X pins σ H { s with heap:=h' }:=I.turned (t':=s.toks) (fun b o hb e=>(sb.2 b hb).trans e) f0 f1 f3 f4 f5
    obtain⟨o,e,c,d⟩:=id st'
    exact⟨u,rfl,HV (s:={ s with heap:=h' }) e c d (by decide) ⟨x,H,I1,ru,⟨rfl,fun ys hy=>by rw [I.list_inj hy hq];exact hx⟩,st',fun b hb=>(hf b hb).1⟩⟩
  done:=by
    intro X hP hw hK hc i pins s σ H E I hf st hg
    subst hP hw hK
    obtain⟨xs,hq,hx⟩:=hg
    obtain⟨its,rv,p,hz⟩:=I.list hq
    obtain⟨f0,f1,f2,f3,f4,f5⟩:=hf it (by simp)
    have hl:=rv.length
    exact wpAny_pyNext_list_end (I.ok.hd hc) st p.isList (by simp;omega) fun h' eb=>⟨rfl,I.turned (t':=s.toks) (fun b o hb e=>eb b o hb e) f0 f1 f3 f4 f5⟩
  self:=fun _ _ _ _ _ st h=>wpAny_pyIter_listiter st h
theorem Ch {P:Program}{w:World}{K:PySem.W.Frag}{tg:Expr}(a it:Addr):Cg P w K tg (Itt K a) [it] it (fun i h=>h.IsTupleIter it a i) where
  mem:=by simp
  obj:=fun i h st b hb=>by
    have e:b=it:=by simpa using hb
    subst e
    obtain⟨o,e,c,d⟩:=st
    exact⟨o,e,fun v z=>by rw [d] at z;cases z⟩
  keep:=fun i h h' st k=>st.at fun o e=>k it (by simp) o e
  item:=by
    intro X hP hw hK hc i pins s σ H E I hf st hg
    subst hP hw hK
    obtain⟨xs,x,hq,hx⟩:=hg
    obtain⟨its,rv,p,hz⟩:=I.tuple hq
    obtain⟨u,hu,ru⟩:=rv.get hx
    obtain⟨f0,f1,f2,f3,f4,f5⟩:=hf it (by simp)
    refine wpAny_pyNext_tuple_item st (show s.heap.IsTuple a its.toArray from p) (x:=u) (by simpa using hu) fun h' st' sb => ?_
    have I1:Inv X pins σ H { s with heap:=h' }:=I.turned (t':=s.toks) (fun b o hb e=>(sb.2 b hb).trans e) f0 f1 f3 f4 f5
    obtain⟨o,e,c,d⟩:=id st'
    exact⟨u,rfl,HV (s:={ s with heap:=h' }) e c d (by decide) ⟨x,H,I1,ru,⟨rfl,fun ys hy=>by rw [I.tuple_inj hy hq];exact hx⟩,st',fun b hb=>(hf b hb).1⟩⟩
  done:=by
    intro X hP hw hK hc i pins s σ H E I hf st hg
    subst hP hw hK
    obtain⟨xs,hq,hx⟩:=hg
    obtain⟨its,rv,p,hz⟩:=I.tuple hq
    obtain⟨f0,f1,f2,f3,f4,f5⟩:=hf it (by simp)
    have hl:=rv.length
    exact wpAny_pyNext_tuple_end (I.ok.hd hc) st (show s.heap.IsTuple a its.toArray from p) (by simp;omega) fun h' eb=>⟨rfl,I.turned (t':=s.toks) (fun b o hb e=>eb b o hb e) f0 f1 f3 f4 f5⟩
  self:=fun _ _ _ _ _ st h=>wpAny_pyIter_tupleiter st h
theorem Ci {P:Program}{w:World}{K:PySem.W.Frag}{tg:Expr}(it:Addr)(lo:Int)(n:Nat):Cg P w K tg (Itr lo n) [it] it (fun i h=>IsRangeIter h it (lo + (i:Nat) * 1) ((n:Int) - (i:Nat)) 1) where
  mem:=by simp
  obj:=fun i h st b hb=>by
    have e:b=it:=by simpa using hb
    subst e
    exact⟨_,st,fun v z=>by
      have z':Data.fields _=Data.cell v:=z
      cases z'⟩
  keep:=fun i h h' st k=>k it (by simp) _ st
  item:=by
    intro X hP hw hK hc i pins s σ H E I hf st hg
    subst hP hw hK
    obtain⟨f0,f1,f2,f3,f4,f5⟩:=hf it (by simp)
    have W:=Walks.range (prog:=X.prog) (w:=X.w) (I.ok.hd hc) it lo 1 n
    refine W.item i s _ _ hg st fun v h' tk hv st' kk => ?_
    obtain⟨t,rfl⟩:=hv
    have I1:Inv X pins σ H { s with heap:=h',toks:=tk }:=I.turned (fun b o hb e=>kk b o (by simpa using hb) e) f0 f1 f3 f4 f5
    refine⟨_,rfl,HV (s:={ s with heap:=h',toks:=tk }) (n := "range_iterator") st' rfl rfl (by decide) ⟨.int (lo + i),H,I1,⟨t,?_⟩,⟨rfl,rfl⟩,st',fun b hb=>(hf b hb).1⟩⟩
    rw [Int.mul_one]
  done:=by
    intro X hP hw hK hc i pins s σ H E I hf st hg
    subst hP hw hK
    obtain⟨f0,f1,f2,f3,f4,f5⟩:=hf it (by simp)
    exact wpAny_pyNext_range_end (I.ok.hd hc) st (by have:n≤i:=hg;omega) fun h' eb=>⟨rfl,I.turned (t':=s.toks) (fun b o hb e=>eb b o hb e) f0 f1 f3 f4 f5⟩
  self:=fun _ _ _ _ _ st h=>wpAny_pyIter_rangeiter st h
end L2
namespace L2
open PySem PySem.Spec PyProof.Rows
section
variable {X:Cx} {tg:Expr}
theorem Ag {pins:List (Addr × Obj)}{σ:St}{H:Hp}{s:Shared}{R:It→Hp→Prop}{E:Value→Shared→Prop}{lo hi:Int}{t u v:Tok}{tk:Nat}(I:Inv X pins σ H s)(h1 : -(2 ^ 62)≤lo)(h2:lo < 2 ^ 62)(h3 : -(2 ^ 62)≤hi)(h4:hi < 2 ^ 62)
    (q:R (Itr lo (hi - lo).toNat) H):wpAny (model X.prog X.w) X.A (pyIter (.ref s.heap.objs.size)) (PIE X pins σ tg R) E { s with heap:=s.heap.push { cls:=.type "range",data:=.fields #[.int lo t,.int hi u,.int 1 v] },toks:=tk }:=by
  refine wpAny_pyIter_range (IsRange.new ..) (small_one h1 h2 h3 h4) ?_
  have I1:Inv X pins σ H { s with heap:=s.heap.push { cls:=.type "range",data:=.fields #[.int lo t,.int hi u,.int 1 v] },toks:=tk }:=I.kept fun b o e=>Heap.get?_push_of_some _ e
  refine⟨(s.heap.push { cls:=.type "range",data:=.fields #[.int lo t,.int hi u,.int 1 v] }).objs.size,[(s.heap.push { cls:=.type "range",data:=.fields #[.int lo t,.int hi u,.int 1 v] }).objs.size],_,_,H,rfl,
    I1.kept (t':=tk) fun b o e=>Heap.get?_push_of_some _ e,Ci _ lo (hi - lo).toNat,?_,fun b hb => ?_,q⟩
  · have e1:lo + ((0:Nat):Int) * 1=lo:=by simp
    have e2:(((hi - lo).toNat:Nat):Int) - ((0:Nat):Int)=Builtin.Range.rangeSize lo hi 1:=by rw [rangeSize_one];split<;>omega
    show IsRangeIter _ _ (lo + ((0:Nat):Int) * 1) ((((hi - lo).toNat:Nat):Int) - ((0:Nat):Int)) 1
    rw [e1,e2]
    exact Heap.get?_push_size _ rfl
  · have e:b=(s.heap.push { cls:=.type "range",data:=.fields #[.int lo t,.int hi u,.int 1 v] }).objs.size:=by simpa using hb
    subst e
    exact I1.fpOk (Nat.le_refl _) (I1.hok.fresh (Nat.le_refl _))
def PM (ta:TA):TI:=fun σ H R=>ta σ H fun vs H1=>∃ j:Int,vs=[.int j] ∧ -(2 ^ 62)≤j∧j < 2 ^ 62∧R (Itr 0 j.toNat) H1
def PN (ta:TA):TI:=fun σ H R=>ta σ H fun vs H1=>∃ i j:Int,vs=[.int i,.int j]∧(-(2 ^ 62)≤i∧i < 2 ^ 62 ∧ -(2 ^ 62)≤j∧j < 2 ^ 62)∧R (Itr i (j - i).toNat) H1
theorem FA {a:Expr} {ta:TA} {p pos:Pos} (hg:Gl X "range") (hm:X.mg "range" = none) (ha:PA X [a] ta) (hs:starEach [a] X.env=[(false,eval a X.env)]:=by rfl):PI X tg (.Call (.Name "range" p) [a] [] pos) (PM ta):=by
  intro pins s σ H R I h
  refine Call_ (mL I hg hm boot_range (PyProof.Rows.callWith_type1 (thn (ha pos pins s σ H _ I h) fun us s1 ⟨vs,H1,I1,r1,q1⟩ => ?_) hs rfl))
  obtain⟨j,e,q1,q2,q⟩:=q1
  subst e
  cases r1 with
  | cons r rr =>
    cases rr
    obtain⟨t,rfl⟩:=r
    exact call_range_1 (Ag I1 (by omega) (by omega) q1 q2 (by simpa using q))
theorem FC {a b:Expr} {ta:TA} {p pos:Pos} (hg:Gl X "range") (hm:X.mg "range" = none) (ha:PA X [a,b] ta) (hs:starEach [a,b] X.env=[(false,eval a X.env),(false,eval b X.env)]:=by rfl) (hs2:starEach [b] X.env=[(false,eval b X.env)]:=by rfl) :
    PI X tg (.Call (.Name "range" p) [a,b] [] pos) (PN ta):=by
  intro pins s σ H R I h
  refine Call_ (mL I hg hm boot_range (PyProof.Rows.callWith_type1 (thn (ha pos pins s σ H _ I h) fun us s1 ⟨vs,H1,I1,r1,q1⟩ => ?_) (by rw [hs,hs2]) (by rw [hs2];rfl)))
  obtain⟨i,j,e,⟨q1,q2,q3,q4⟩,q⟩:=q1
  subst e
  cases r1 with
  | cons r rr =>
    cases rr with
    | cons r' rr =>
      cases rr
      obtain⟨t,rfl⟩:=r
      obtain⟨t',rfl⟩:=r'
      exact call_range_2 (Ag I1 q1 q2 q3 q4 q)
def Q0 (wi:TI) (g:TG) (tb:TS):TS:=fun D σ H=>wi σ H fun J H1=>∃ W:Nat→Nat→St→Hp→Prop,(∃ m,W 0 m σ H1) ∧ ∀ i m σ H,W i m σ H →
  (J.stop i H∧D.nx σ H)∨(J.go i H ∧ ∃ N:St→Hp→Prop,(∀ σ' H',N σ' H' → ∃ m',m' < m∧W (i + 1) m' σ' H') ∧ ∀ x H',J.yld i H x H'→g x σ H' fun σ2 H2=>tb { D with nx:=N,ct:=N,bk:=D.nx } σ2 H2)
def rN (fp:List Addr) (h:Heap):List (Addr × Obj):=fp.filterMap fun b=>(h.get? b).map fun o=>(b,o)
theorem jK {fp:List Addr}{h:Heap}{b:Addr}{o:Obj}(hb:b∈fp)(e:h.get? b=some o):(b,o)∈rN fp h:=List.mem_filterMap.mpr ⟨b,hb,by rw [e];rfl⟩
theorem FD {fp:List Addr}{h:Heap}{p:Addr × Obj}(hp:p∈rN fp h):p.1∈fp∧h.get? p.1=some p.2:=by
  obtain⟨b,hb,e⟩:=List.mem_filterMap.mp hp
  cases q:h.get? b with
  | none=>rw [q] at e;cases e
  | some o =>
    rw [q] at e
    have e':(b,o)=p:=Option.some.inj e
    subst e'
    exact⟨hb,q⟩
theorem Inv.pinned {pins:List (Addr × Obj)}{σ:St}{H:Hp}{s:Shared}{fp:List Addr}(I:Inv X pins σ H s)(hf:∀ b∈fp,rM X pins H b)(ho:∀ b∈fp,∃ o,s.heap.get? b=some o ∧ ∀ v,o.data ≠ .cell v):Inv X (pins++rN fp s.heap) σ H s :=
  I.pins_of fun p hp=>(List.mem_append.mp hp).elim (fun z=>I.pin p (List.mem_append_right _ z)) fun z=>by
    obtain⟨hb,e⟩:=FD z
    obtain⟨f0,f1,f2,_⟩:=hf p.1 hb
    obtain⟨o,e',d⟩:=ho p.1 hb
    rw [e] at e';cases e'
    exact⟨e,f0,f1,f2,d⟩
theorem Inv.unpinned {pins pl:List (Addr × Obj)}{σ:St}{H:Hp}{s:Shared}(I:Inv X (pins++pl) σ H s):Inv X pins σ H s:=I.pins_of fun p hp=>I.pin p (List.mem_append_right _ (List.mem_append_left _ hp))
theorem NP {iter:Expr}{body:List Stmt}{wi:TI}{g:TG}{tb:TS}{pos:Pos}(hp:PassesOwn (model X.prog X.w) X.A X.env X.xe)(hc:X.calm=true)(hi:PI X tg iter wi)(hg:PG X tg g)(hb:PSs X body tb)
    (hs:∀ x,foldedSetIterable iter X.env x=pure x:=by intro _;rfl):PS X (.For tg iter body [] pos) (Q0 wi g tb):=by
  intro pins s σ H D I h
  refine wpAny_For (thn (hi pins s σ H _ I h) fun v s1 h1=>thn h1 fun itv s2 h2 => ?_) hs
  obtain⟨it,fp,tn,J,H2,e,I2,T,st2,f2,W,⟨m0,w0⟩,turn⟩:=h2
  subst e
  have stat:∀ {H':Hp},(∀ b∈fp,H' b=none) → ∀ b∈fp,rM X pins H' b:=fun hn b hb=>⟨hn b hb,(f2 b hb).2⟩
  refine codeAny_forLoop_any (fun n s'=>∃ i σ' H',Inv X pins σ' H' s'∧tn i s'.heap∧(∀ b∈fp,H' b=none)∧W i n σ' H') ?_ m0 ⟨0,σ,H2,I2,st2,fun b hb=>(f2 b hb).1,w0⟩
  rintro n s3 ⟨i,σ3,H3,I3,st3,fr3,w3⟩
  rcases turn i n σ3 H3 w3 with ⟨stop,qn⟩|⟨go,N,hN,step⟩
  · refine wpAny_passesOwn hp (thn (T.done X rfl rfl rfl hc i pins s3 σ3 H3 X.xe I3 (stat fr3) st3 stop) fun r s4 ⟨hr,I4⟩ => ?_)
    subst hr
    exact wpAny_execs_nil ⟨σ3,H3,I4,qn⟩
  · refine wpAny_passesOwn hp (thn (T.item X rfl rfl rfl hc i pins s3 σ3 H3 X.xe I3 (stat fr3) st3 go) fun r s4 ⟨u,hr,h4⟩ => ?_)
    subst hr
    refine wpAny_passesOwn hp (thn h4 fun _ s5 ⟨x,H5,I5,r5,y5,st5,fr5⟩ => ?_)
    have I5':=I5.pinned (stat fr5) (T.obj _ _ st5)
    refine wpAny_passesOwn hp (thn (hg _ s5 σ3 H5 x u _ I5' r5 (step x H5 y5)) fun _ s6 ⟨σ6,H6,I6,q6⟩ => ?_)
    refine wpAny_passesOwn hp (thn (hb _ s6 σ6 H6 _ I6 q6) fun f s7 q7 => ?_)
    have again:∀ {σ7:St} {H7:Hp},Inv X (pins++rN fp s5.heap) σ7 H7 s7→N σ7 H7 → ∃ m,m < n ∧ ∃ i σ' H',Inv X pins σ' H' s7∧tn i s7.heap∧(∀ b∈fp,H' b=none)∧W i m σ' H':=fun {σ7 H7} I7 n7=>by
      obtain⟨m',hm,w7⟩:=hN σ7 H7 n7
      refine⟨m',hm,i + 1,σ7,H7,I7.unpinned,T.keep _ _ _ st5 fun b hb o e=>(I7.pin (b,o) (List.mem_append_right _ (List.mem_append_right _ (jK hb e)))).1,fun b hb => ?_,w7⟩
      obtain⟨o,e,d⟩:=T.obj _ _ st5 b hb
      exact (I7.pin (b,o) (List.mem_append_right _ (List.mem_append_right _ (jK hb e)))).2.1
    cases f with
    | next=>obtain⟨σ7,H7,I7,n7⟩:=q7;exact again I7 n7
    | cont=>obtain⟨σ7,H7,I7,n7⟩:=q7;exact again I7 n7
    | brk=>obtain⟨σ7,H7,I7,q7⟩:=q7;exact⟨σ7,H7,I7.unpinned,q7⟩
    | ret v=>obtain⟨x7,σ7,H7,I7,r7,q7⟩:=q7;exact⟨x7,σ7,H7,I7.unpinned,r7,q7⟩
end
end L2
namespace L2
open PySem PySem.Spec PyProof.Rows
abbrev R2:=V→V→Hp→VK→Prop
def OpR (X:Cx) (f:Value→Value→Sem Value) (r:R2):Prop :=
  ∀ (pins:List (Addr × Obj)) (s:Shared) (σ:St) (H:Hp) (x y:V) (v u:Value) (Q:VK),Inv X pins σ H s→bT x v→bT y u→r x y H Q →
    wpAny (model X.prog X.w) X.A (f v u) (EP X pins σ Q) X.xe s
def UnR (X:Cx) (f:Value→Sem Value) (r:V→Hp→VK→Prop):Prop :=
  ∀ (pins:List (Addr × Obj)) (s:Shared) (σ:St) (H:Hp) (x:V) (v:Value) (Q:VK),Inv X pins σ H s→bT x v→r x H Q →
    wpAny (model X.prog X.w) X.A (f v) (EP X pins σ Q) X.xe s
def ie (X:Cx) (f:Value) (r:List V→Hp→VK→Prop):Prop :=
  ∀ (pins:List (Addr × Obj)) (s:Shared) (σ:St) (H:Hp) (xs:List V) (us:List Value) (Q:VK),Inv X pins σ H s→bg xs us→r xs H Q →
    wpAny (model X.prog X.w) X.A (call f us) (EP X pins σ Q) X.xe s
def tOp (r:R2) (ta tb:TE):TE:=fun σ H Q=>ta σ H fun x H1=>tb σ H1 fun y H2=>r x y H2 Q
def tUn (r:V→Hp→VK→Prop) (ta:TE):TE:=fun σ H Q=>ta σ H fun x H1=>r x H1 Q
def rI (C:Int→Int→Prop) (g:Int→Int→V):R2:=fun x y H Q=>∃ i j,x=.int i∧y=.int j∧C i j∧Q (g i j) H
def rI0 (g:Int→Int→V):R2:=fun x y H Q=>∃ i j,x=.int i∧y=.int j∧Q (g i j) H
def rU (g:Int→V):V→Hp→VK→Prop:=fun x H Q=>∃ i,x=.int i∧Q (g i) H
section
variable {X:Cx} {a b c:Expr} {ta tb tc:TE} {pos:Pos}
theorem NQ (ha:PE X a ta)(hb:PE X b tb){pins:List (Addr × Obj)}{s:Shared}{σ:St}{H:Hp}{R:V→V→Hp→Prop}(I:Inv X pins σ H s)
    (h:ta σ H fun x H1=>tb σ H1 fun y H2=>R x y H2) {Q:Value→Shared→Prop} {f:Value→Value→Sem Value}
    (hf:∀ v u s2 x y H2,Inv X pins σ H2 s2→bT x v→bT y u→R x y H2→wpAny (model X.prog X.w) X.A (f v u) Q X.xe s2) :
    wpAny (model X.prog X.w) X.A (eval a X.env) (fun v s₁ => wpAny (model X.prog X.w) X.A (eval b X.env) (fun u s₂ => wpAny (model X.prog X.w) X.A (f v u) Q X.xe s₂) X.xe s₁) X.xe s:=by
  refine thn (ha pins s σ H _ I h) fun v s1 ⟨x,H1,I1,r1,q1⟩ => ?_
  refine thn (hb pins s1 σ H1 _ I1 q1) fun u s2 ⟨y,H2,I2,r2,q2⟩ => ?_
  exact hf v u s2 x y H2 I2 r1 r2 q2
theorem HW {op:Operator}{r:R2}(ho:OpR X (binaryOp op) r)(ha:PE X a ta)(hb:PE X b tb):PE X (.BinOp a op b pos) (tOp r ta tb):=by
  intro pins s σ H Q I h
  exact wpAny_BinOp (NQ ha hb I h fun v u s2 x y H2 I2 rx ry q=>ho pins s2 σ H2 x y v u Q I2 rx ry q)
theorem PP {op:UnaryOp}{r:V→Hp→VK→Prop}(ho:UnR X (unaryOp op) r)(ha:PE X a ta):PE X (.UnaryOp op a pos) (tUn r ta):=by
  intro pins s σ H Q I h
  exact UnaryOp_ (thn (ha pins s σ H _ I h) fun v s1 ⟨x,H1,I1,r1,q1⟩=>ho pins s1 σ H1 x v Q I1 r1 q1)
theorem opI {f:Value→Value→Sem Value}{C:Int→Int→Prop}{g:Int→Int→Int}
    (rule:∀ (i j:Int) (t u:Tok) (s:Shared) (Q:Value→Shared→Prop) (E:Value→Shared→Prop),C i j→Q (.int (g i j) s.toks) { s with toks:=s.toks + 1 } → wpAny (model X.prog X.w) X.A (f (.int i t) (.int j u)) Q E s) :
    OpR X f (rI C fun i j=>.int (g i j)):=by
  intro pins s σ H x y v u Q I rx ry h
  obtain⟨i,j,rfl,rfl,hc,q⟩:=h
  obtain⟨t,rfl⟩:=rx
  obtain⟨t',rfl⟩:=ry
  exact rule i j t t' s _ _ hc ⟨.int (g i j),H,I.tok _,⟨_,rfl⟩,q⟩
theorem PQ {f:Value→Value→Sem Value}{g:Int→Int→Int}
    (rule:∀ (i j:Int) (t u:Tok) (s:Shared) (Q:Value→Shared→Prop) (E:Value→Shared→Prop),Q (.int (g i j) s.toks) { s with toks:=s.toks + 1 } → wpAny (model X.prog X.w) X.A (f (.int i t) (.int j u)) Q E s) :
    OpR X f (rI0 fun i j=>.int (g i j)):=by
  intro pins s σ H x y v u Q I rx ry h
  obtain⟨i,j,rfl,rfl,q⟩:=h
  obtain⟨t,rfl⟩:=rx
  obtain⟨t',rfl⟩:=ry
  exact rule i j t t' s _ _ ⟨.int (g i j),H,I.tok _,⟨_,rfl⟩,q⟩
theorem NR {f:Value→Value→Sem Value}{g:Int→Int→Bool}
    (rule:∀ (i j:Int) (t u:Tok) (s:Shared) (Q:Value→Shared→Prop) (E:Value→Shared→Prop),Q (.bool (g i j)) s→wpAny (model X.prog X.w) X.A (f (.int i t) (.int j u)) Q E s) :
    OpR X f (rI0 fun i j=>.bl (g i j)):=by
  intro pins s σ H x y v u Q I rx ry h
  obtain⟨i,j,rfl,rfl,q⟩:=h
  obtain⟨t,rfl⟩:=rx
  obtain⟨t',rfl⟩:=ry
  exact rule i j t t' s _ _ ⟨.bl (g i j),H,I,rfl,q⟩
def Lh (i j:Int):Prop:=(-(2 ^ 64) < i∧i < 2 ^ 64)∨(-(2 ^ 64) < j∧j < 2 ^ 64)
theorem Lh.ok {i j:Int}(h:Lh i j):IntMulOk i j:=by
  rcases h with ⟨h1,h2⟩|⟨h1,h2⟩
  · exact .of_left (intBits_le_64 h1 h2)
  · exact .of_right (intBits_le_64 h1 h2)
theorem NT:OpR X (binaryOp .Add) (rI0 fun i j=>.int (i + j)):=PQ fun _ _ _ _ _ _ _ q=>add_int q
theorem mM:OpR X (binaryOp .Sub) (rI0 fun i j=>.int (i - j)):=PQ fun _ _ _ _ _ _ _ q=>sub_int q
theorem fM:OpR X (binaryOp .Mult) (rI Lh fun i j=>.int (i * j)):=opI fun _ _ _ _ _ _ _ hc q=>mul_int q hc.ok
theorem dX:OpR X (binaryOp .Mod) (rI (fun _ j=>0 < j) fun i j=>.int (i % j)):=opI fun i j _ _ _ _ _ hc q=>by
  have h1:(0:Int) < j:=hc
  exact mod_int' (by omega) (by rw [Int.fmod_eq_emod_of_nonneg i (by omega)];exact q)
theorem unI {f:Value→Sem Value}{g:Int→Int}
    (rule:∀ (i:Int) (t:Tok) (s:Shared) (Q:Value→Shared→Prop) (E:Value→Shared→Prop),Q (.int (g i) s.toks) { s with toks:=s.toks + 1 } → wpAny (model X.prog X.w) X.A (f (.int i t)) Q E s) :
    UnR X f (rU fun i=>.int (g i)):=by
  intro pins s σ H x v Q I rx h
  obtain⟨i,rfl,q⟩:=h
  obtain⟨t,rfl⟩:=rx
  exact rule i t s _ _ ⟨.int (g i),H,I.tok _,⟨_,rfl⟩,q⟩
theorem NU:UnR X (unaryOp .USub) (rU fun i=>.int (-i)):=unI fun _ _ _ _ _ q=>neg_int q
end
section
variable {X:Cx} {a b c:Expr} {ta tb tc:TE} {pos:Pos}
theorem xR {pins:List (Addr × Obj)}{σ:St}{H:Hp}{s:Shared}{Q:VK}{k k':Bool}(I:Inv X pins σ H s)(q:Q (.bl k) H)(e:k=k'):EP X pins σ Q (.bool k') s:=by
  subst e
  exact⟨.bl k,H,I,rfl,q⟩
theorem M3:OpR X (compareOp .Lt) (rI0 fun i j=>.bl (decide (i < j))):=NR fun _ _ _ _ _ _ _ q=>lt_int q
theorem M4:OpR X (compareOp .LtE) (rI0 fun i j=>.bl (decide (i≤j))):=NR fun _ _ _ _ _ _ _ q=>le_int q
theorem Ez:OpR X (compareOp .Gt) (rI0 fun i j=>.bl (decide (j < i))):=NR fun _ _ _ _ _ _ _ q=>gt_int q
theorem oG:OpR X (compareOp .Is) (fun x y H Q=>y=.non∧Q (.bl (decide (x=.non))) H):=by
  intro pins s σ H x y v u Q I rx ry h
  obtain⟨rfl,q⟩:=h
  cases ry
  refine is_none_gen (xR I q ?_)
  cases x<;>first
    | (cases rx;rfl)
    | (obtain⟨t,rfl⟩:=rx;rfl)
theorem re:OpR X (compareOp .IsNot) (fun x y H Q=>y=.non∧Q (.bl (!decide (x=.non))) H):=by
  intro pins s σ H x y v u Q I rx ry h
  obtain⟨rfl,q⟩:=h
  cases ry
  refine isnot_none_gen (xR I q ?_)
  cases x<;>first
    | (cases rx;rfl)
    | (obtain⟨t,rfl⟩:=rx;rfl)
theorem OpR.or {f:Value→Value→Sem Value}{r r':R2}(h:OpR X f r)(h':OpR X f r'):OpR X f (fun x y H Q=>r x y H Q∨r' x y H Q):=by
  intro pins s σ H x y v u Q I rx ry q
  rcases q with q|q
  · exact h pins s σ H x y v u Q I rx ry q
  · exact h' pins s σ H x y v u Q I rx ry q
theorem bf (b:Expr){op:CmpOp}(h:op ≠ .In:=by decide)(h2:op ≠ .NotIn:=by decide):behindInMarks op b=false:=by
  have e1:(op == CmpOp.In)=false:=by cases op<;>first|rfl|exact absurd rfl h
  have e2:(op == CmpOp.NotIn)=false:=by cases op<;>first|rfl|exact absurd rfl h2
  cases b<;>simp [behindInMarks,e1,e2]
theorem Li {op:CmpOp}{r:R2}(ho:OpR X (compareOp op) r)(ha:PE X a ta)(hb:PE X b tb)(hm:behindInMarks op b=false):PE X (.Compare a [op] [b] pos) (tOp r ta tb):=by
  intro pins s σ H Q I h
  exact wpAny_Compare1 (NQ ha hb I h fun v u s2 x y H2 I2 rx ry q=>ho pins s2 σ H2 x y v u Q I2 rx ry q) hm
def PR (t:TE):TT:=fun σ H Q=>t σ H fun x H'=>∃ k,x=.bl k∧Q k H'
theorem Lj {op:CmpOp}{r:R2}(ho:OpR X (compareOp op) r)(ha:PE X a ta)(hb:PE X b tb)(hm:behindInMarks op b=false):PT X (.Compare a [op] [b] pos) (PR (tOp r ta tb)):=by
  intro pins s σ H Q I h
  refine wpAny_isTrue_Compare1 (thn (ha pins s σ H _ I h) fun v s1 ⟨x,H1,I1,r1,q1⟩=>thn (hb pins s1 σ H1 _ I1 q1) fun u s2 ⟨y,H2,I2,r2,q2⟩ =>
    thn (ho pins s2 σ H2 x y v u _ I2 r1 r2 q2) fun c s3 ⟨z,H3,I3,r3,k,e,q3⟩ => ?_) hm
  subst e
  cases r3
  exact wpAny_truthy_bool ⟨H3,I3,q3⟩
def HX (r r':R2) (ta tb tc:TE):TE:=fun σ H Q=>ta σ H fun x H1=>tb σ H1 fun y H2=>r x y H2 fun z H3=>∃ k,z=.bl k ∧
  (if k=true then tc σ H3 fun w' H4=>r' y w' H4 Q else Q (.bl false) H3)
theorem HY {op op':CmpOp}{r r':R2}(ho:OpR X (compareOp op) r)(ho':OpR X (compareOp op') r')(ha:PE X a ta)(hb:PE X b tb)(hc:PE X c tc)
    (hm:lastMarks [op,op'] [b,c] = false:=by with_unfolding_all rfl):PE X (.Compare a [op,op'] [b,c] pos) (HX r r' ta tb tc):=by
  intro pins s σ H Q I h
  refine Compare_chain (thn (ha pins s σ H _ I h) fun v s1 ⟨x,H1,I1,r1,q1⟩=>chain_link (thn (hb pins s1 σ H1 _ I1 q1) fun u s2 ⟨y,H2,I2,r2,q2⟩ =>
    thn (ho pins s2 σ H2 x y v u _ I2 r1 r2 q2) fun d s3 ⟨z,H3,I3,r3,k,e,q3⟩ => ?_)) hm
  subst e
  cases r3
  refine wpAny_truthy_bool ?_
  cases k with
  | false=>exact ite_ff ⟨.bl false,H3,I3,rfl,q3⟩
  | true=>exact ite_tt (chain_last (thn (hc pins s3 σ H3 _ I3 q3) fun w' s4 ⟨z',H4,I4,r4,q4⟩=>ho' pins s4 σ H4 y z' u w' Q I4 r2 r4 q4))
theorem rP:(sizeLine:Nat) < 2 ^ 63:=by rw [sizeLine_eq];decide
theorem HZ {x:V}{us:List Value}(r:bg [x] us):∃ u,us=[u]∧bT x u:=by
  cases r with
  | cons r1 r2=>cases r2;exact⟨_,rfl,r1⟩
theorem M5 {x y:V}{us:List Value}(r:bg [x,y] us):∃ u w',us=[u,w']∧bT x u∧bT y w':=by
  cases r with
  | cons r1 r2 =>
    cases r2 with
    | cons r3 r4=>cases r4;exact⟨_,_,rfl,r1,r3⟩
theorem FE (hc:X.calm=true):ie X (.builtin "max") (fun xs H Q=>∃ i j,xs=[.int i,.int j]∧Q (.int (if j > i then j else i)) H):=by
  intro pins s σ H xs us Q I r h
  obtain⟨i,j,rfl,q⟩:=h
  obtain⟨u,w',rfl,⟨t,rfl⟩,⟨t',rfl⟩⟩:=M5 r
  refine max_two_ints (I.ok.hd hc) fun h' tk k=>⟨_,H,I.kept k,?_,q⟩
  by_cases hj:j > i
  · rw [if_pos hj,if_pos hj];exact⟨_,rfl⟩
  · rw [if_neg hj,if_neg hj];exact⟨_,rfl⟩
theorem FF (hc:X.calm=true):ie X (.builtin "min") (fun xs H Q=>∃ i j,xs=[.int i,.int j]∧Q (.int (if j < i then j else i)) H):=by
  intro pins s σ H xs us Q I r h
  obtain⟨i,j,rfl,q⟩:=h
  obtain⟨u,w',rfl,⟨t,rfl⟩,⟨t',rfl⟩⟩:=M5 r
  refine min_two_ints (I.ok.hd hc) fun h' tk k=>⟨_,H,I.kept k,?_,q⟩
  by_cases hj:j < i
  · rw [if_pos hj,if_pos hj];exact⟨_,rfl⟩
  · rw [if_neg hj,if_neg hj];exact⟨_,rfl⟩
end
end L2
namespace L2
open PySem PySem.Spec PyProof.Rows
structure Rl (h:Heap) (x dx C:Addr) (mA:Str→Option Value):Prop where
  obj:h.get? x=some (PySem.W.instObj C dx)
  ns:h.Ns1 dx mA
  ne:dx≠x
section
variable {prog:Program} {w:World} {A:Around} {E:Value→Shared→Prop} {s:Shared} {K:PySem.W.Frag} {x dx C f:Addr} {mA:Str→Option Value} {name:Str} {v:Value}
end
section
variable {P:Program} {w:World} {H H':Hp} {h h':Heap} {a C dx:Addr} {fs fs':List (Str × V)}
end
structure Cls (K:PySem.W.Frag) (C:Addr):Prop where
  pg:PySem.W.plainGet K C Str.empty=true
  hd:PySem.W.hasDictIn K C=true
  po:PySem.W.plainOver K C=true
  sa:PySem.W.findIn K (.ref C) "__setattr__" = some (some (.builtin "object.__setattr__"))
structure Con (K:PySem.W.Frag) (C:Addr) (f:Str) (v:V) (u:Value):Prop where
  at_:PySem.W.findIn K (.ref C) f=some (some u)
  rel:bT v u
  get:PySem.W.specialIn K u "__get__" = some none
  cp:PySem.W.copiedNames.contains f=false
structure Rm (K:PySem.W.Frag) (C:Addr) (m:Str) (f:Addr):Prop where
  at_:PySem.W.findIn K (.ref C) m=some (some (.ref f))
  fn:PySem.W.isFn K (.ref f)=true
  kp:PySem.W.keepIn K (.ref f)=true
section
variable {X:Cx} {pins:List (Addr × Obj)} {σ:St} {H:Hp} {s:Shared} {a C dx:Addr} {fs:List (Str × V)} {f:Str} {v:V} {A:Around} {E:Value→Shared→Prop}
end
section
variable {X:Cx} {o e value:Expr} {f:Str} {pos pos' tpos:Pos} {ta tv:TE}
end
section
variable {X:Cx} {pins:List (Addr × Obj)} {σ:St} {H:Hp} {s:Shared} {A:Around} {E:Value→Shared→Prop} {Q:Value→Shared→Prop} {c:Value} {b:Bool}
inductive rR (K:PySem.W.Frag) (H:Hp):V→Value→Prop where
  | non:rR K H .non (.type "NoneType")
  | bl (x:Bool):rR K H (.bl x) (.type "bool")
  | int (i:Int):rR K H (.int i) (.type "int")
  | str (x:Str):rR K H (.str x) (.type "str")
  | flt (x:UInt64):rR K H (.flt x) (.type "float")
  | lst {a:Addr} {xs:List V} (e:H a=some (.lst xs)):rR K H (.ref a) (.type "list")
  | frz {a:Addr} {o:Obj} {xs:List V} (e:H a=some (.frz o (.lst xs))):rR K H (.ref a) (.type "list")
  | tup {a:Addr} {xs:List V} (e:H a=some (.tup xs)):rR K H (.ref a) (.type "tuple")
  | dK {a:Addr} {kvs:List (Key × V)} (e:H a=some (.dK kvs)):rR K H (.ref a) (.type "dict")
  | dT {a:Addr} {kvs:List (List Key × V)} (e:H a=some (.dT kvs)):rR K H (.ref a) (.type "dict")
  | ins {a C dx:Addr} {fs:List (Str × V)} (e:H a=some (.ins C dx fs)) (cl:Cls K C) (ha:PySem.W.findIn K (.ref C) "__class__" = some (some (.builtin "object.__class__")))
      (hn:PySem.W.specialIn K (.builtin "object.__class__") "__get__" = some (some (.builtin "getset_descriptor.__get__"))) (htk:PySem.W.takesIn K (.builtin "object.__class__")=some true)
      (hm:PySem.W.mroIn K C (.type "object")=some true):rR K H (.ref a) (.ref C)
end
end L2
namespace L2
open PySem PySem.Spec PyProof.Rows
structure ig (k:Nat) (A:Around):Prop where
  hd:A.handled=none
  dp:A.depth + 3 * k + 5 < recursionLimit
  un:A.units + 16 * k + 200 < cLine
  gd:A.guards=some []
theorem ig.mono {j k:Nat}{A:Around}(r:ig k A)(h:j≤k):ig j A:=⟨r.hd,by have:=r.dp;omega,by have:=r.un;omega,r.gd⟩
theorem ig.deeper {k:Nat}{A:Around}(r:ig (k + 1) A)(env:Env):ig k (A.deeper env) :=
  ⟨r.hd,by have:=r.dp;show A.depth + 1 + 3 * k + 5 < _;omega,by have:=r.un;show A.units + 3 + 16 * k + 200 < _;omega,r.gd⟩
theorem ig.depth {k:Nat}{A:Around}(r:ig k A):A.depth < recursionLimit:=by have:=r.dp;omega
theorem ig.units {k:Nat}{A:Around}(r:ig k A):A.units + 64 < cLine:=by have:=r.un;omega
def Q1:TA:=fun _ H Q=>Q [] H
def PU (ta:TE) (tr:TA):TA:=fun σ H Q=>ta σ H fun x H1=>tr σ H1 fun xs H2=>Q (x :: xs) H2
section
variable {X:Cx} {e:Expr} {es:List Expr} {te:TE} {t:TA} {pos:Pos}
theorem eR:PA X [] Q1:=fun _ _ _ _ H Q I h=>Calls.spliced_nil ⟨[],H,I,.nil,h⟩
theorem cr (ha:PE X e te)(hr:PA X es t)(hs:starEach (e :: es) X.env=(false,eval e X.env) :: starEach es X.env:=by rfl):PA X (e :: es) (PU te t):=by
  intro pos pins s σ H Q I h
  rw [hs]
  show wpAny _ _ (spliced ((false,eval e X.env) :: backTo pos (starEach es X.env))) _ _ s
  refine Calls.spliced_cons (thn (ha pins s σ H _ I h) fun u s1 ⟨x,H1,I1,r1,q1⟩ => ?_)
  exact thn (hr pos pins s1 σ H1 _ I1 q1) fun us s2 ⟨xs,H2,I2,r2,q2⟩=>⟨x :: xs,H2,I2,.cons r1 r2,q2⟩
def Q2 (t:TA):TE:=fun σ H Q=>t σ H fun xs H1=>xs.length≤sizeLine ∧ ∀ p,H1 p=none→Q (.ref p) (upd H1 p (.tup xs))
def Q3 (t:TA):TE:=fun σ H Q=>t σ H fun xs H1=>xs.length≤sizeLine ∧ ∀ p,H1 p=none→Q (.ref p) (upd H1 p (.lst xs))
theorem NV {x1}(h:PA X es t):PE X (.Tuple es x1 pos) (Q2 t):=by
  intro pins s σ H Q I hq
  refine wpAny_Tuple_spliced (thn (h pos pins s σ H _ I hq) fun us s1 ⟨xs,H1,I1,r,z,q⟩=>⟨by rw [← r.length];exact z,?_⟩)
  have hf:H1 s1.heap.objs.size=none:=I1.hok.fresh (Nat.le_refl _)
  refine⟨.ref s1.heap.objs.size,upd H1 s1.heap.objs.size (.tup xs),I1.laid (t':=s1.toks) (fun b u e=>Heap.get?_push_of_some _ e) (Nat.le_refl _) ?_,rfl,q _ hf⟩
  exact⟨z,us,r,⟨_,Heap.get?_push_size _ rfl,rfl,_,rfl⟩⟩
theorem NW (h:PA X es t):PE X (.List es pos) (Q3 t):=by
  intro pins s σ H Q I hq
  refine wpAny_List_spliced (thn (h pos pins s σ H _ I hq) fun us s1 ⟨xs,H1,I1,r,z,q⟩=>⟨by rw [← r.length];exact z,?_⟩)
  have hf:H1 s1.heap.objs.size=none:=I1.hok.fresh (Nat.le_refl _)
  refine⟨.ref s1.heap.objs.size,upd H1 s1.heap.objs.size (.lst xs),I1.laid (t':=s1.toks) (fun b u e=>Heap.get?_push_of_some _ e) (Nat.le_refl _) ?_,rfl,q _ hf⟩
  exact⟨z,us,0,r,Heap.get?_push_size _ rfl⟩
end
abbrev Sp:=List V→Hp→VK→XK→Prop
abbrev CXT:=List Env→Hp→Shared→XK→Value→Shared→Prop
structure Lk (P:Program) (w:World) (K:PySem.W.Frag) (mg:Str→Option Value) (base:Heap) (A:Around) (outer:List Env) (s:Shared) (H:Hp):Prop where
  frames:A.frames=some outer
  mod:Mod K mg base
  bs:∀ b o,base.get? b=some o→s.heap.get? b=some o∧H b=none
  bsz:base.objs.size≤s.heap.objs.size
  funs:s.heap.FunFrames base outer
  frf:∀ b∈frs outer,H b=none
  hok:HOk P w H s.heap
  bare:AllBare s.gens
def CE (outer:List Env) (P:Program) (w:World) (H:Hp) (s:Shared) (Q:VK) (u:Value) (s':Shared):Prop :=
  ∃ v H',s'.os=s.os∧AllBare s'.gens∧Un (frs outer) [] H H' s.heap s'.heap∧HOk P w H' s'.heap∧bT v u∧Q v H'
def CR (CX:CXT) (outer:List Env) (P:Program) (w:World) (H:Hp) (s:Shared) (Q:VK) (E:XK) (r:Result) (s':Shared):Prop :=
  match r with
  | .ok (.ret u)=>CE outer P w H s Q u s'
  | .ok _=>False
  | .error e=>CX outer H s E e s'
structure cy (P:Program) (w:World) (K:PySem.W.Frag) (mg:Str→Option Value) (base:Heap) (CX:CXT) (k:Nat) (f:Addr) (fd:FuncData) (ps:List Str) (sp:Sp):Prop where
  len:∀ vs H Q E,sp vs H Q E→vs.length=ps.length
  run:∀ (A:Around) (outer:List Env) (s:Shared) (H:Hp) (args:Args) (us:List Value) (vs:List V) (Q:VK) (E:XK),ig k A→Lk P w K mg base A outer s H→BindsTo s fd args (ps.zip us)→bg vs us→sp vs H Q E →
    codeAny (model P w) A (.call (.ref f) args) (CR CX outer P w H s Q E) s
section
variable {X:Cx} {pins:List (Addr × Obj)} {σ:St} {H:Hp} {s s':Shared}
theorem Inv.env0 (I:Inv X pins σ H s):Lk X.prog X.w X.K X.mg X.base X.A X.stack s H :=
  ⟨I.ok.frames,I.ok.mod,I.bs,Nat.le_trans I.ok.bsz I.sz,I.stack,I.stkFree,I.hok,I.bare⟩
theorem Inv.after {Q:VK}{u:Value}(I:Inv X pins σ H s)(h:CE X.stack X.prog X.w H s Q u s'):EP X pins σ Q u s':=by
  obtain⟨v,H',os,bare,un,hok,r,q⟩:=h
  obtain⟨hh,g,d,t,os'⟩:=s'
  obtain rfl:os'=s.os:=os
  exact⟨v,H',I.call (h':=hh) (g':=g) (d':=d) (t':=t) (ch:=[]) un hok bare (fun b z=>absurd z (by simp)),r,q⟩
end
def PV (sp:Sp) (dvs:List V) (E:XK) (t:TA):TE:=fun σ H Q=>t σ H fun vs H1=>sp (vs++dvs) H1 Q E
def lZ (K:PySem.W.Frag) (fd:FuncData) (ps:List Str) (ds:List Value):Prop :=
  ∀ (s:Shared) (us:List Value),K.In s.heap→(us++ds).length=ps.length→BindsTo s fd ⟨us,[]⟩ (ps.zip (us++ds))
theorem lZ.all {K:PySem.W.Frag}{fd:FuncData}{ps:List Str}(h:∀ us:List Value,us.length=ps.length→bindArgs fd ⟨us,[]⟩ = pure (ps.zip us)):lZ K fd ps []:=fun s us _ hl=>by
  rw [List.append_nil] at hl ⊢
  exact .of_eq (h us hl)
def rS (CX:CXT) (X:Cx) (E:XK):Prop:=∀ (pins:List (Addr × Obj)) (σ:St) (H:Hp) (s:Shared) (e:Value) (s':Shared),Inv X pins σ H s→CX X.stack H s E e s'→X.xe e s'
section
variable {X:Cx} {CX:CXT} {k:Nat} {f C:Addr} {fd:FuncData} {ps:List Str} {sp:Sp} {dvs:List V} {ds:List Value} {E:XK} {x m:Str} {p pos apos:Pos} {e o:Expr} {es:List Expr} {ta:TE} {t:TA}
theorem NX {pins:List (Addr × Obj)}{σ:St}{H:Hp}{s:Shared}{Q:VK}{us:List Value}{vs:List V}(F:cy X.prog X.w X.K X.mg X.base CX k f fd ps sp)(hr:ig k X.A)(hb:lZ X.K fd ps ds)(hd:bg dvs ds)(hx:rS CX X E)
    (I:Inv X pins σ H s) (r:bg vs us) (h:sp (vs++dvs) H Q E):wpAny (model X.prog X.w) X.A (call (.ref f) us) (EP X pins σ Q) X.xe s:=by
  have r2:bg (vs++dvs) (us++ds):=r.append hd
  have hl:(us++ds).length=ps.length:=by rw [← r2.length];exact F.len _ _ _ _ h
  refine wpAny_call (codeAny_mono (F.run X.A X.stack s H ⟨us,[]⟩ (us++ds) (vs++dvs) Q E hr I.env0 (hb s us I.kIn hl) r2 h) fun r s' hq => ?_)
  cases r with
  | error e=>exact hx pins σ H s e s' I hq
  | ok fl =>
    cases fl with
    | ret u=>exact I.after hq
    | next=>exact False.elim hq
    | brk=>exact False.elim hq
    | cont=>exact False.elim hq
theorem EA (F:cy X.prog X.w X.K X.mg X.base CX k f fd ps sp)(hr:ig k X.A)(hg:Gl X x)(hm:X.mg x=some (.ref f))(hk:PySem.W.keepIn X.K (.ref f)=true)(hb:lZ X.K fd ps ds)(hd:bg dvs ds)(hx:rS CX X E)
    (ha:PA X (e :: es) t) (hdb:(x == ("__debug__" : Str))=false:=by decide) (he:starEach (e :: es) X.env=(false,eval e X.env) :: starEach es X.env:=by rfl) (hpl:(backTo pos (starEach es X.env)).any (·.1)=false:=by rfl) :
    PE X (.Call (.Name x p) (e :: es) [] pos) (PV sp dvs E t):=by
  intro pins s σ H Q I h
  refine wpAny_Call_Name_kw (xO I hg hm ?_ hdb)
  refine PySem.W.callWith_K (h₀ := X.base) I.ok.mod.kin hk (thn (ha pos pins s σ H _ I h) fun us s1 ⟨vs,H1,I1,r,q⟩=>⟨I1.kIn,?_⟩) he hpl
  exact NX F hr hb hd hx I1 r q
structure Mk (K:PySem.W.Frag) (C f:Addr):Prop where
  makes:PySem.W.makesIn K C=true
  init:PySem.W.findIn K (.ref C) "__init__" = some (some (.ref f))
  fn:PySem.W.isFn K (.ref f)=true
  kp:PySem.W.keepIn K (.ref C)=true
end
section
variable {X:Cx} {CX:CXT} {k:Nat} {f C:Addr} {fd:FuncData} {ps ks:List Str} {sp:Sp} {E:XK} {x m:Str} {p pos apos kpos:Pos} {e o:Expr} {es:List Expr} {kws:List Keyword} {te ta:TE} {t tk:TA} {nm:Option Str}
structure Q4 (K:PySem.W.Frag) (fd:FuncData) (ps ks:List Str) (g:List Value→List Value→List Value) (gV:List V→List V→List V):Prop where
  to:∀ (s:Shared) (us ws:List Value),K.In s.heap→(g us ws).length=ps.length→BindsTo s fd ⟨us,ks.zip ws⟩ (ps.zip (g us ws))
  rel:∀ {vs:List V} {us:List Value} {zs:List V} {ws:List Value},bg vs us→bg zs ws→bg (gV vs zs) (g us ws)
variable {g:List Value→List Value→List Value} {gV:List V→List V→List V}
end
structure aT (N P:List Str) (sc:Scope):Prop where
  kind:sc.kind=.function
  co:sc.isCoroutine=false
  gen:sc.isGenerator=false
  nd:N.Nodup
  pre:N.take P.length=P
  par:∀ x∈P,sc.names.lookup x=some .local ∨sc.names.lookup x=some .cell
  nofree:∀ y∈sc.names,y.2 ≠ .free
theorem wI {kindOf:Str→Option NameKind}{x:Str}:∀ {binds:List (Str × Value)} {m:Str→Option Value},(∀ v,(x,v)∉binds)→bindL kindOf binds m x=m x
  | [],_,_=>rfl
  | (n,v) :: r,m,h=>by
    unfold bindL
    rw [wI fun w hw=>h w (List.mem_cons_of_mem _ hw)]
    split
    · have:x≠n:=by rintro rfl;exact h v List.mem_cons_self
      simp [this]
    · rfl
theorem wJ {kindOf:Str→Option NameKind}{x:Str}:∀ {binds:List (Str × Value)} {m:Str→Option Value},(∀ v,(x,v)∉binds)→bindC kindOf binds m x=m x
  | [],_,_=>rfl
  | (n,v) :: r,m,h=>by
    unfold bindC
    rw [wJ fun w hw=>h w (List.mem_cons_of_mem _ hw)]
    split
    · rfl
    · have:x≠n:=by rintro rfl;exact h v List.mem_cons_self
      simp [this]
theorem wK {kindOf:Str→Option NameKind}{x:Str}{v:Value}:∀ {P:List Str} {vs:List Value} {i:Nat} {m:Str→Option Value},P.Nodup→P[i]? = some x→vs[i]? = some v→kindOf x=some .local →
    bindL kindOf (P.zip vs) m x=some v
  | [],_,_,_,_,h,_,_=>by simp at h
  | _ :: _,[],_,_,_,_,h,_=>by simp at h
  | p :: P,w :: vs,0,m,nd,h1,h2,hk=>by
    simp at h1 h2;subst h1;subst h2
    show bindL kindOf ((p,w) :: P.zip vs) m p=_
    unfold bindL
    rw [wI fun v hv=>(List.nodup_cons.mp nd).1 (List.of_mem_zip hv).1,if_pos hk]
    simp
  | p :: P,w :: vs,i + 1,m,nd,h1,h2,hk=>by
    show bindL kindOf ((p,w) :: P.zip vs) m x=_
    unfold bindL
    exact wK (i:=i) (List.nodup_cons.mp nd).2 (by simpa using h1) (by simpa using h2) hk
theorem wL {kindOf:Str→Option NameKind}{x:Str}{v:Value}:∀ {P:List Str} {vs:List Value} {i:Nat} {m:Str→Option Value},P.Nodup→P[i]? = some x→vs[i]? = some v→kindOf x≠some .local →
    bindC kindOf (P.zip vs) m x=some v
  | [],_,_,_,_,h,_,_=>by simp at h
  | _ :: _,[],_,_,_,_,h,_=>by simp at h
  | p :: P,w :: vs,0,m,nd,h1,h2,hk=>by
    simp at h1 h2;subst h1;subst h2
    show bindC kindOf ((p,w) :: P.zip vs) m p=_
    unfold bindC
    rw [wJ fun v hv=>(List.nodup_cons.mp nd).1 (List.of_mem_zip hv).1,if_neg hk]
    simp
  | p :: P,w :: vs,i + 1,m,nd,h1,h2,hk=>by
    show bindC kindOf ((p,w) :: P.zip vs) m x=_
    unfold bindC
    exact wL (i:=i) (List.nodup_cons.mp nd).2 (by simpa using h1) (by simpa using h2) hk
def kH (N:List Str) (vs:List V):St:=vs.map some++List.replicate (N.length - vs.length) none
def qK (CX:CXT) (P:Program) (w:World) (K:PySem.W.Frag) (mg:Str→Option Value) (base:Heap) (N:List Str) (qual:Str) (scope:Scope) (f:Addr) (cd:Value) (A:Around) (outer:List Env) (s:Shared) (H:Hp) (E:XK):Cx where
  prog:=P
  w:=w
  K:=K
  mg:=mg
  base:=base
  A:=A.deeper (envOfC qual scope s.heap.objs.size f cd)
  N:=N
  s₀ := s
  H₀ := H
  env:=envOfC qual scope s.heap.objs.size f cd
  outer:=outer
  stack:=envOfC qual scope s.heap.objs.size f cd :: outer
  ex:=[]
  calm:=true
  fn:=fun _=>true
  pn:=[]
  xe:=fun e s'=>wpAny (model P w) (A.deeper (envOfC qual scope s.heap.objs.size f cd)) (leaving (envOfC qual scope s.heap.objs.size f cd) e) (fun _ s''=>CX outer H s E e s'') (fun e' s''=>CX outer H s E e' s'') s'
theorem Ah {sc:Scope}{n:Nat}{x:Str}(h:sc.names.lookup x=some .cell):∃ c,(cellsFrom n sc.names []).lookup x=some c:=by
  have q:=PySem.W.cellsFrom_some sc.names n [] (.inl h)
  exact Option.isSome_iff_exists.mp q
theorem FG {CX:CXT}{P:Program}{w:World}{K:PySem.W.Frag}{mg:Str→Option Value}{base:Heap}{N ps:List Str}{qual:Str}{scope:Scope}{f:Addr}{cd:Value}{A:Around}{outer:List Env}{s s1:Shared}{H:Hp}{E:XK}{us:List Value}{vs:List V}
    (S:aT N ps scope) (hd:A.handled=none) (e0:Lk P w K mg base A outer s H) (hl:vs.length=ps.length) (r:bg vs us)
    (x:InCallC s s.heap.objs.size (bindL (envOfC qual scope s.heap.objs.size f cd).kindOf (ps.zip us) fun _=>none) (cellsFrom (s.heap.objs.size + 1) scope.names []) (bindC (envOfC qual scope s.heap.objs.size f cd).kindOf (ps.zip us) fun _=>none) s1) :
    Inv (qK CX P w K mg base N qual scope f cd A outer s H E) [] (kH N vs) H s1:=by
  have hpl:ps.length≤N.length:=by have:=congrArg List.length S.pre;rw [List.length_take] at this;omega
  obtain⟨h1,tk,rfl,hk⟩:=x.done
  have noA:∀ b:Addr,b∉(qK CX P w K mg base N qual scope f cd A outer s H E).ex:=fun b z=>absurd (show b∈([] : List Addr) from z) (by simp)
  refine⟨⟨e0.mod,S.kind,rfl,rfl,Nat.le_refl _,fun y z c h1 h2 => ?_,fun y hy => ?_,fun y c _ h => ?_,fun _=>hd,Around.frames_deeper e0.frames,.inr ⟨rfl,rfl⟩,fun b z=>absurd z (noA b),e0.bs,e0.bsz,fun b _ _=>noA b,fun b z=>absurd z (noA b),e0.funs,e0.frf⟩,
    rfl,e0.bare,Un.kept hk,⟨_,x.toInCall.ns,fun i y v h1 h2 h3 => ?_⟩,fun y c h=>⟨_,x.cell y c h⟩,e0.hok.fresh (Nat.le_refl _),fun y c h => ?_,fun p hp=>absurd (show p∈([] : List (Addr × Obj)) from hp) (by simp),e0.hok.kept hk,?_⟩
  · exact name_of_addr x.apart (PySem.mem_of_lookup h1) (PySem.mem_of_lookup h2)
  · have hy:scope.names.lookup y=some .cell∨scope.names.lookup y=some .free:=hy
    rcases hy with hy|hy
    · exact Ah hy
    · exact absurd rfl (S.nofree _ (PySem.mem_of_lookup hy))
  · exact Nat.le_of_lt (x.above y c (PySem.mem_of_lookup h))
  · have hi:i < vs.length:=by
      unfold kH at h2
      by_cases hi:i < vs.length
      · exact hi
      · rw [List.getElem?_append_right (by simpa using hi)] at h2
        rw [List.getElem?_replicate] at h2
        split at h2<;>cases h2
    have ha:vs[i]? = some v:=by
      unfold kH at h2
      rw [List.getElem?_append_left (by simpa using hi),List.getElem?_map] at h2
      cases e:vs[i]? with
      | none=>rw [e] at h2;cases h2
      | some a=>rw [e] at h2;cases h2;rfl
    obtain⟨u,hu,rv⟩:=r.get ha
    have hp:ps[i]? = some y:=by
      rw [← S.pre,List.getElem?_take_of_lt (by omega)];exact h1
    have ndP:ps.Nodup:=by rw [← S.pre];exact S.nd.sublist (List.take_sublist _ _)
    refine⟨u,rv,?_⟩
    rcases S.par y (List.mem_of_getElem? hp) with k|k
    · exact .inl ⟨k,wK ndP hp hu k⟩
    · obtain⟨c,e⟩:=Ah (n:=s.heap.objs.size + 1) k
      refine .inr ⟨.inl k,c,e,?_⟩
      have q:=x.cell y c e
      rw [wL ndP hp hu (by show scope.names.lookup y≠_;rw [k];decide)] at q
      exact q
  · exact e0.hok.fresh (Nat.le_of_lt (x.above y c (PySem.mem_of_lookup h)))
  · unfold kH
    show _=N.length
    rw [List.length_append,List.length_map,List.length_replicate]
    omega
theorem M6 {CX:CXT}{P:Program}{w:World}{K:PySem.W.Frag}{mg:Str→Option Value}{base:Heap}{k:Nat}{f:Addr}{name qual:Str}{params:Arguments}{body:List Stmt}{scope:Scope}{dV kV doc pm cdv ct oc:Value}{an od:Option Addr}
    {osl:Array (Option Value)} {N ps:List Str} {sp:Sp} (lk:K.lookup f=some ⟨oc,od,.func (PySem.W.fnOf name qual params body scope dV kV doc pm an cdv ct),osl⟩) (hcd:PySem.W.codeIn K cdv qual=true) (S:aT N ps scope)
    (len:∀ vs H Q E,sp vs H Q E→vs.length=ps.length)
    (hbody:∀ (A:Around) (outer:List Env) (s:Shared) (H:Hp) (vs:List V) (Q:VK) (E:XK),ig k (A.deeper (envOfC qual scope s.heap.objs.size f cdv))→sp vs H Q E →
      ∃ t,PSs (qK CX P w K mg base N qual scope f cdv A outer s H E) body t∧t { nx:=fun _ H'=>Q .non H',rt:=Q } (kH N vs) H) :
    cy P w K mg base CX (k + 1) f (PySem.W.fnOf name qual params body scope dV kV doc pm an cdv ct) ps sp:=by
  refine⟨len,fun A outer s H args us vs Q E hr e0 hb r hsp => ?_⟩
  have hl:=len _ _ _ _ hsp
  have KX:K.In s.heap:=e0.mod.kin.keeps fun b o e=>(e0.bs b o e).1
  have lim:s.heap.NoLimit:=e0.mod.nolimit.keeps fun b o e=>(e0.bs b o e).1
  have hkind:∀ y∈ps.zip us,scope.names.lookup y.1=some .local ∨(scope.names.lookup y.1=some .cell∧((cellsFrom (s.heap.objs.size + 1) scope.names []).lookup y.1).isSome=true):=fun ⟨n,v⟩ hy=>by
    rcases S.par n (List.of_mem_zip hy).1 with q|q
    · exact .inl q
    · exact .inr ⟨q,PySem.W.cellsFrom_some _ _ _ (.inl q)⟩
  refine codeAny_call_function hr.depth (KX _ _ lk) rfl S.co S.gen rfl (PySem.W.codeRec_of KX hcd) (hb _ _ _ _ ?_)
  refine wpAny_newFunctionEnv_cells S.kind hkind fun env he s1 x => ?_
  subst he
  refine⟨lim.keeps x.toInCall.keep,codeAny_func ?_⟩
  obtain⟨t,ht,hq⟩:=hbody A outer s H vs Q E (hr.deeper _) hsp
  have I:Inv (qK CX P w K mg base N qual scope f cdv A outer s H E) [] (kH N vs) H s1:=FG S hr.hd e0 hl r x
  refine wpAny_mono (ht [] s1 (kH N vs) H _ I hq) (fun fl s' hs => ?_) fun e s' hs=>hs
  have fin:∀ {σ':St} {H':Hp} {v:V} {u:Value},Inv (qK CX P w K mg base N qual scope f cdv A outer s H E) [] σ' H' s'→bT v u→Q v H'→CE outer P w H s Q u s' :=
    fun {σ' H' v u} J rv q=>⟨v,H',J.os,J.bare,J.base,J.hok,rv,q⟩
  cases fl with
  | ret u =>
    obtain⟨v,σ',H',J,rv,q⟩:=hs
    exact fin J rv q
  | next =>
    obtain⟨σ',H',J,q⟩:=hs
    exact fin (v:=V.non) (u:=Value.none) J rfl q
  | brk =>
    obtain⟨_,_,_,q⟩:=hs
    exact False.elim q
  | cont =>
    obtain⟨_,_,_,q⟩:=hs
    exact False.elim q
end L2
namespace L2
open PySem PySem.Spec PyProof.Rows
section
variable {X:Cx} {x:Str} {p pos:Pos} {e:Expr} {es:List Expr} {t:TA} {id T:String} {r:List V→Hp→VK→Prop}
def tCB (r:List V→Hp→VK→Prop) (t:TA):TE:=fun σ H Q=>t σ H fun vs H1=>r vs H1 Q
theorem ii (hc:ie X (.builtin id) r) (hg:Gl X x) (hm:X.mg x=none) (hv:bootBuiltins x=some (.builtin id)) (ha:PA X (e :: es) t) (hn:x ≠ "__name__" := by decide) (hdb:(x == ("__debug__" : Str))=false:=by decide)
    (he:starEach (e :: es) X.env=(false,eval e X.env) :: starEach es X.env:=by rfl) (hpl:(backTo pos (starEach es X.env)).any (·.1)=false:=by rfl):PE X (.Call (.Name x p) (e :: es) [] pos) (tCB r t):=by
  intro pins s σ H Q I h
  refine wpAny_Call_Name_kw (mL I hg hm hv ?_ hn hdb)
  exact PyProof.Rows.callWith_builtin1 (thn (ha pos pins s σ H _ I h) fun us s1 ⟨vs,H1,I1,r1,q1⟩=>hc pins s1 σ H1 vs us Q I1 r1 q1) he hpl
theorem wM (hc:ie X (.type T) r) (hg:Gl X x) (hm:X.mg x=none) (hv:bootBuiltins x=some (.type T)) (ha:PA X (e :: es) t) (hn:x ≠ "__name__" := by decide) (hdb:(x == ("__debug__" : Str))=false:=by decide)
    (he:starEach (e :: es) X.env=(false,eval e X.env) :: starEach es X.env:=by rfl) (hpl:(backTo pos (starEach es X.env)).any (·.1)=false:=by rfl):PE X (.Call (.Name x p) (e :: es) [] pos) (tCB r t):=by
  intro pins s σ H Q I h
  refine wpAny_Call_Name_kw (mL I hg hm hv ?_ hn hdb)
  exact PyProof.Rows.callWith_type1 (thn (ha pos pins s σ H _ I h) fun us s1 ⟨vs,H1,I1,r1,q1⟩=>hc pins s1 σ H1 vs us Q I1 r1 q1) he hpl
end
end L2
namespace HT
open PySem PyProof.Rows
def cP:List Int→List Int→Bool
  | [],[]=>false
  | [],_ :: _=>true
  | _ :: _,[]=>false
  | x :: xs,y :: ys=>if x=y then cP xs ys else decide (x < y)
section
open PySem.SeqAt
open PySem.AutoSeq1 (wpAny_loadPart')
open PySem.MeetsSeq PySem.MeetsSeq2 PySem.MeetsSeq3
end
section
variable {prog:Program} {w:World} {A:Around} {E:Value→Shared→Prop} {s:Shared}
theorem cat_tup {t b:Addr}{vs ws:List Value}{Q:Value→Shared→Prop}(ht:IsTup s.heap t vs.toArray)(hb:IsTup s.heap b ws.toArray)(hv:vs≠[])
    (h1:ws=[]→Q (.ref t) s) (h2:ws≠[]→Q (.ref s.heap.objs.size) { s with heap:=s.heap.push { cls:=.type "tuple",data:=.seq (vs++ws).toArray } })
    (hsz:vs.length + ws.length≤sizeLine):wpAny (model prog w) A (binaryOp .Add (.ref t) (.ref b)) Q E s:=by
  obtain⟨⟨cls,dd,data,sl⟩,ho,hc,n,hd⟩:=id ht
  obtain⟨⟨cls2,dd2,data2,sl2⟩,ho2,hc2,n2,hd2⟩:=id hb
  simp only at hc hd hc2 hd2
  subst hc hd hc2 hd2
  have e:vs.toArray++ws.toArray=(vs++ws).toArray:=by simp
  by_cases hw:ws=[]
  · exact concat_meets ⟨_,ho,rfl⟩ ⟨_,ho2,rfl⟩ noFill_tuple_add seq_tuple_add PySem.F.slot_tuple_add PySem.F.entry_tuple_add (PySem.F.args_tuple_add_2 _ _)
      (tuple_addW1 t b vs.toArray ws.toArray n n2 dd dd2 sl sl2 (by simpa using hv) (by simp [hw])) ⟨ho,ho2,h1 hw⟩
  · refine concat_meets ⟨_,ho,rfl⟩ ⟨_,ho2,rfl⟩ noFill_tuple_add seq_tuple_add PySem.F.slot_tuple_add PySem.F.entry_tuple_add (PySem.F.args_tuple_add_2 _ _)
      (tuple_addW2 t b vs.toArray ws.toArray n n2 dd dd2 sl sl2 (by simpa using hv) (by simpa using hw) (by rw [List.size_toArray,List.size_toArray];exact hsz)) ⟨ho,ho2,?_⟩
    rw [e]
    exact h2 hw
def sIx (n d:Nat):Option Int→Nat
  | none=>d
  | some v=>if v < 0 then (v + (n:Int)).toNat else min v.toNat n
theorem NY (n d:Nat)(hd:d≤n)(o:Option Int):sIx n d o≤n:=by
  cases o with
  | none=>exact hd
  | some v =>
    show (if v < 0 then (v + (n:Int)).toNat else min v.toNat n)≤n
    by_cases hv:v < 0
    · rw [if_pos hv];omega
    · rw [if_neg hv];exact Nat.min_le_right _ _
theorem EB (v:Int)(n d:Nat):(if v < 0 then max (v + (n:Int)) 0 else min v (n:Int))=((sIx n d (some v):Nat):Int):=by
  show (if v < 0 then max (v + (n:Int)) 0 else min v (n:Int))=(((if v < 0 then (v + (n:Int)).toNat else min v.toNat n):Nat):Int)
  by_cases hv:v < 0
  · simp only [if_pos hv];omega
  · simp only [if_neg hv];omega
theorem Cj (lo hi:Option Int)(n:Nat):Builtin.Slice.sliceAdjust lo hi 1 (n:Int)=(((sIx n 0 lo:Nat):Int),((sIx n n hi:Nat):Int)):=by
  have h1 : ¬ ((1:Int) < 0):=by omega
  unfold Builtin.Slice.sliceAdjust
  simp only [h1,if_false]
  refine Prod.ext ?_ ?_
  · cases lo with
    | none=>rfl
    | some v=>exact EB v n 0
  · cases hi with
    | none=>rfl
    | some v=>exact EB v n n
theorem Ck (i j:Nat):Builtin.Slice.slicePlaces (i:Int) (j:Int) 1=j - i:=by
  unfold Builtin.Slice.slicePlaces
  have h1:(1:Int) > 0:=by omega
  simp only [h1,if_true,Int.ediv_one]
  split<;>omega
theorem rT {v:Value}{o:Option Int}{Q:Option Int→Shared→Prop}(p:IsPart v o)(h:Q o s):wpAny (model prog w) A (Builtin.Slice.slicePartIndex v) Q E s:=by
  cases p with
  | none=>exact slicePart_none h
  | int i t=>exact slicePart_int h
theorem oH {sl:Addr}{vl vu:Value}{lo hi:Option Int}{n:Nat}{Q:Int × Int × Nat→Shared→Prop}(hs:s.heap.IsSliceOf sl vl vu .none)(pl:IsPart vl lo)(pu:IsPart vu hi)
    (h:Q (((sIx n 0 lo:Nat):Int),1,sIx n n hi - sIx n 0 lo) s):wpAny (model prog w) A (Builtin.Slice.sliceApplied (.ref sl) (pure (n:Int))) Q E s:=by
  obtain⟨os,hos,hcs,hds⟩:=id hs
  unfold Builtin.Slice.sliceApplied Builtin.Slice.sliceFields
  refine wpAny_bind (wpAny_bind (wpAny_field hos hds (x:=vl) rfl (wpAny_bind (wpAny_field hos hds (x:=vu) rfl (wpAny_bind (wpAny_field hos hds (x:=.none) rfl (wpAny_pure ?_)))))))
  refine wpAny_bind (slicePart_none ?_)
  show wpAny _ _ (if ((1:Int) == 0)=true then _ else _) _ _ s
  rw [if_neg (by decide)]
  refine wpAny_bind (rT pl (wpAny_bind (rT pu (wpAny_bind (wpAny_pure ?_)))))
  show wpAny _ _ (match Builtin.Slice.sliceAdjust lo hi 1 (n:Int) with|(lo,hi)=>pure (lo,(1:Int),Builtin.Slice.slicePlaces lo hi 1)) _ _ s
  rw [Cj lo hi n]
  show wpAny _ _ (pure (((sIx n 0 lo:Nat):Int),(1:Int),Builtin.Slice.slicePlaces ((sIx n 0 lo:Nat):Int) ((sIx n n hi:Nat):Int) 1)) _ _ s
  rw [Ck]
  exact wpAny_pure h
theorem Ia (xs:Array Value)(i k:Nat):((List.range k).filterMap fun (m:Nat)=>xs[((i:Int) + (m:Int) * 1).toNat]?).toArray=((xs.toList.drop i).take k).toArray:=by
  have e:(fun (m:Nat)=>xs[((i:Int) + (m:Int) * 1).toNat]?)=fun m=>xs[i + m]? := by
    funext m
    have:((i:Int) + (m:Int) * 1).toNat=i + m:=by omega
    rw [this]
  rw [e]
  have:=pick_run xs i k
  rw [List.filterMap_map] at this
  have e2:((fun x=>xs[x]?) ∘ fun x=>i + x)=fun m=>xs[i + m]? := rfl
  rw [e2] at this
  rw [this]
theorem getItem_tuple_cut {t sl:Addr}{items:Array Value}{vl vu:Value}{lo hi:Option Int}{Q:Value→Shared→Prop}(ht:IsTup s.heap t items)(hs:s.heap.IsSliceOf sl vl vu .none)(pl:IsPart vl lo)(pu:IsPart vu hi)
    (hw : ¬ (sIx items.size 0 lo=0∧sIx items.size items.size hi=items.size))
    (h:Q (.ref s.heap.objs.size) { s with heap:=s.heap.push { cls:=.type "tuple",data:=.seq ((items.toList.drop (sIx items.size 0 lo)).take (sIx items.size items.size hi - sIx items.size 0 lo)).toArray } })
    (hsz:items.size≤sizeLine):wpAny (model prog w) A (getItem (.ref t) (.ref sl)) Q E s:=by
  have htake:sizeOk (.seq ((items.toList.drop (sIx items.size 0 lo)).take (sIx items.size items.size hi - sIx items.size 0 lo)).toArray):=by
    show ((items.toList.drop (sIx items.size 0 lo)).take (sIx items.size items.size hi - sIx items.size 0 lo)).toArray.size≤sizeLine
    rw [List.size_toArray,List.length_take,List.length_drop,Array.length_toList]
    omega
  have hj:sIx items.size items.size hi≤items.size:=NY _ _ (Nat.le_refl _) hi
  obtain⟨os,hos,hcs,hds⟩:=id hs
  have hTs:s.TypeIs (.ref sl) "slice" := ⟨os,hos,hcs⟩
  unfold getItem
  try with_reducible refine wpAny_holding ?_
  first|refine wpAny_bind (wpAny_pure ?_)|skip
  refine wpAny_bind (wpAny_sequenceKey ht.typeIs (by decide) ?_)
  refine wpAny_bind (wpAny_callSpecial?_slot (name:=Str.ofString "__getitem__") ht.typeIs PyProof.Rows.slot_tuple_getitem
    (wpAny_call_entry PyProof.Rows.slot_tuple_getitem ht.typeIs entry_tuple_getitem ?_ (args_tuple_getitem _ _)))
  show wpAny _ _ (Builtin.Tuple.tupleItemsOf (.ref t) >>= _) _ _ s
  refine wpAny_bind (tupleItemsOf_ ht ?_)
  refine wpAny_bind (wpAny_typeOf hTs ?_)
  rw [if_pos (by decide)]
  refine wpAny_bind (oH hs pl pu ?_)
  have hno : ¬ ((((sIx items.size 0 lo:Nat):Int) == 0 && (1:Int) == 1 && (sIx items.size items.size hi - sIx items.size 0 lo) == items.size)=true):=by
    intro q
    rw [Bool.and_eq_true,Bool.and_eq_true] at q
    have q1:((sIx items.size 0 lo:Nat):Int)=0:=eq_of_beq q.1.1
    have q2:sIx items.size items.size hi - sIx items.size 0 lo=items.size:=eq_of_beq q.2
    exact hw ⟨by omega,by omega⟩
  show wpAny _ _ (if (((sIx items.size 0 lo:Nat):Int) == 0 && (1:Int) == 1 && (sIx items.size items.size hi - sIx items.size 0 lo) == items.size)=true then _ else _) _ _ s
  rw [if_neg hno,Ia]
  first
    | exact wpAny_bind (m:=Builtin.Tuple.tupleExact _) (wpAny_newObj_type (wpAny_pure ⟨_,rfl,wpAny_pure h⟩) htake)
    | exact wpAny_bind (m:=Builtin.Tuple.tupleExact _) (wpAny_newObj_type (wpAny_bind (wpAny_pure (wpAny_pure ⟨_,rfl,wpAny_pure h⟩))) htake)
    | exact wpAny_bind (wpAny_bind (m:=Builtin.Tuple.tupleExact _) (wpAny_newObj_type (wpAny_pure (wpAny_pure ⟨_,rfl,wpAny_pure h⟩)) htake))
    | exact wpAny_bind (wpAny_bind (m:=Builtin.Tuple.tupleExact _) (wpAny_newObj_type (wpAny_pure ⟨_,rfl,wpAny_pure h⟩) htake))
end
end HT
namespace L2
open PySem PySem.Spec PyProof.Rows
abbrev TO:=St→Hp→(Option Int→Hp→Prop)→Prop
def PO (X:Cx) (e:Option Expr) (t:TO):Prop :=
  ∀ (pins:List (Addr × Obj)) (s:Shared) (σ:St) (H:Hp) (Q:Option Int→Hp→Prop),Inv X pins σ H s→t σ H Q →
    wpAny (model X.prog X.w) X.A (evalPart e X.env) (fun u s'=>∃ o H',Inv X pins σ H' s'∧IsPart u o∧Q o H') X.xe s
def Ll:TO:=fun _ H Q=>Q none H
def PX (t:TE):TO:=fun σ H Q=>t σ H fun x H1=>∃ i,x=.int i∧Q (some i) H1
theorem Cl {ns:List Int}:∀ {us:List Value},bg (ns.map V.int) us→IntsAre us ns:=by
  induction ns with
  | nil=>intro us r;rw [List.map_nil] at r;cases r;exact .nil
  | cons n ns ih =>
    intro us r
    rw [List.map_cons] at r
    cases r with
    | cons r1 r2 =>
      obtain⟨t,e⟩:=r1
      subst e
      exact .cons n t (ih r2)
section
variable {X:Cx} {e:Expr} {te:TE} {lo hi:Option Expr} {tl th:TO} {pos p2:Pos}
theorem Lm:PO X none Ll:=by
  intro pins s σ H Q I h
  rw [evalPart_none]
  exact wpAny_pure ⟨none,H,I,.none,h⟩
theorem Ln (h:PE X e te):PO X (some e) (PX te):=by
  intro pins s σ H Q I hw
  rw [evalPart_some]
  refine thn (h pins s σ H _ I hw) fun u s1 ⟨x,H1,I1,r1,q1⟩ => ?_
  obtain⟨i,rfl,q⟩:=q1
  obtain⟨t,rfl⟩:=r1
  exact⟨some i,H1,I1,.int i t,q⟩
def SlR (X:Cx) (r:V→Option Int→Option Int→Hp→VK→Prop):Prop :=
  ∀ (pins:List (Addr × Obj)) (s:Shared) (σ:St) (H:Hp) (x:V) (v vl vu:Value) (lo hi:Option Int) (sl:Addr) (Q:VK),Inv X pins σ H s→bT x v→s.heap.IsSliceOf sl vl vu .none→IsPart vl lo→IsPart vu hi→r x lo hi H Q →
    ∃ T id,typeLookup (.type T) "__getitem__" = pure (some (.builtin id))∧s.TypeIs v T∧wpAny (model X.prog X.w) X.A (getItem v (.ref sl)) (EP X pins σ Q) X.xe s
theorem SlR.or {r r':V→Option Int→Option Int→Hp→VK→Prop}(h:SlR X r)(h':SlR X r'):SlR X (fun x lo hi H Q=>r x lo hi H Q∨r' x lo hi H Q):=by
  intro pins s σ H x v vl vu lo hi sl Q I rx hs pl pu q
  rcases q with q|q
  · exact h pins s σ H x v vl vu lo hi sl Q I rx hs pl pu q
  · exact h' pins s σ H x v vl vu lo hi sl Q I rx hs pl pu q
def tSl (r:V→Option Int→Option Int→Hp→VK→Prop) (te:TE) (tl th:TO):TE:=fun σ H Q=>te σ H fun x H1=>tl σ H1 fun l H2=>th σ H2 fun u H3=>r x l u H3 Q
theorem Ib {r:V→Option Int→Option Int→Hp→VK→Prop}(hr:SlR X r)(he:PE X e te)(hl:PO X lo tl)(hu:PO X hi th):PE X (.Subscript e (.Slice lo hi none p2) pos) (tSl r te tl th):=by
  intro pins s σ H Q I h
  refine Subscript_ (thn (he pins s σ H _ I h) fun v s1 ⟨x,H1,I1,r1,q1⟩ => ?_)
  refine wpAny_Slice (thn (hl pins s1 σ H1 _ I1 q1) fun vl s2 ⟨l,H2,I2,pl,q2⟩=>thn (hu pins s2 σ H2 _ I2 q2) fun vu s3 ⟨u,H3,I3,pu,q3⟩ => ?_)
  rw [evalPart_none]
  refine wpAny_pure ?_
  have I4:Inv X pins σ H3 { s3 with heap:=s3.heap.push { cls:=.type "slice",data:=.fields #[vl,vu,.none] } }:=I3.kept (t':=s3.toks) fun b ob q=>Heap.get?_push_of_some _ q
  obtain⟨T,id,hT,ht,hg⟩:=hr pins { s3 with heap:=s3.heap.push { cls:=.type "slice",data:=.fields #[vl,vu,.none] } } σ H3 x v vl vu l u s3.heap.objs.size Q I4 r1 (Heap.IsSliceOf.new ..) pl pu q3
  show wpAny (model X.prog X.w) X.A (subscriptTail e (.Slice lo hi none p2) v (.ref s3.heap.objs.size)) (EP X pins σ Q) X.xe { s3 with heap:=s3.heap.push { cls:=.type "slice",data:=.fields #[vl,vu,.none] } }
  exact tail_any (ops:=[.ref s3.heap.objs.size,v]) ht hT hg (by with_unfolding_all rfl)
def rV (xs:List V) (lo hi:Option Int):List V:=(xs.drop (HT.sIx xs.length 0 lo)).take (HT.sIx xs.length xs.length hi - HT.sIx xs.length 0 lo)
theorem qf (xs:List V)(lo hi:Option Int):(rV xs lo hi).length≤xs.length:=by
  unfold rV
  rw [List.length_take,List.length_drop]
  omega
def Q5 (K:PySem.W.Frag):V→Option Int→Option Int→Hp→VK→Prop:=fun x lo hi H Q=>∃ a xs,x=.ref a∧SqT K H a xs ∧
  ¬ (HT.sIx xs.length 0 lo=0∧HT.sIx xs.length xs.length hi=xs.length) ∧ ∀ p,H p=none→Q (.ref p) (upd H p (.tup (rV xs lo hi)))
theorem NZ:SlR X (Q5 X.K):=by
  intro pins s σ H x v vl vu lo hi sl Q I rx hs pl pu h
  obtain⟨a,xs,rfl,hx,hw,q⟩:=h
  cases rx
  obtain⟨its,r,ht,hz⟩:=I.tuple hx
  have hlen:its.toArray.size=xs.length:=by rw [List.size_toArray];exact r.length.symm
  refine⟨"tuple",_,PyProof.Rows.slot_tuple_getitem.lookup,ht.typeIs,?_⟩
  refine HT.getItem_tuple_cut ht hs pl pu (by rw [hlen];exact hw) ?_ (by rw [hlen];exact hz)
  rw [hlen]
  refine⟨.ref s.heap.objs.size,_,I.laid (t':=s.toks) (o:=.tup (rV xs lo hi)) (fun b ob q=>Heap.get?_push_of_some _ q) (Nat.le_refl _) ?_,rfl,q _ (I.hok.fresh (Nat.le_refl _))⟩
  exact⟨Nat.le_trans (qf xs lo hi) hz,_,(r.drop (HT.sIx xs.length 0 lo)).take (HT.sIx xs.length xs.length hi - HT.sIx xs.length 0 lo),IsTup.new _ _⟩
def Ai (K:PySem.W.Frag):R2:=fun x y H Q=>∃ a b xs ys,x=.ref a∧y=.ref b∧SqT K H a xs∧SqT K H b ys∧xs≠[]∧xs.length + ys.length≤sizeLine ∧
  (ys=[]→Q (.ref a) H)∧(ys≠[] → ∀ p,H p=none→Q (.ref p) (upd H p (.tup (xs++ys))))
theorem bg.nil_iff {xs:List V}{us:List Value}(r:bg xs us):us=[] ↔ xs=[]:=by
  cases r with
  | nil=>simp
  | cons _ _=>simp
theorem EC:OpR X (binaryOp .Add) (Ai X.K):=by
  intro pins s σ H x y v u Q I rx ry h
  obtain⟨a,b,xs,ys,rfl,rfl,ha,hb,hx,hz,q1,q2⟩:=h
  cases rx
  cases ry
  obtain⟨its,r1,p1,_⟩:=I.tuple ha
  obtain⟨its2,r2,p2,_⟩:=I.tuple hb
  refine HT.cat_tup p1 p2 (fun z=>hx (r1.nil_iff.mp z)) (fun z=>⟨.ref a,H,I,rfl,q1 (r2.nil_iff.mp z)⟩) (fun z => ?_) (by rw [← r1.length,← r2.length];exact hz)
  refine⟨.ref s.heap.objs.size,_,I.laid (t':=s.toks) (o:=.tup (xs++ys)) (fun b ob q=>Heap.get?_push_of_some _ q) (Nat.le_refl _) ?_,rfl,q2 (fun w=>z (r2.nil_iff.mpr w)) _ (I.hok.fresh (Nat.le_refl _))⟩
  exact⟨by rw [List.length_append];exact hz,_,r1.append r2,IsTup.new _ _⟩
end
end L2
namespace L2
open PySem PySem.Spec PyProof.Rows
def ixN (n:Nat) (i:Int):Option Nat:=if 0≤i then (if i < n then some i.toNat else none) else if -(n:Int)≤i then some (i + n).toNat else none
def atI {α : Type} (xs:List α) (i:Int):Option α := (ixN xs.length i).bind fun j=>xs[j]?
theorem ED {n:Nat}{i:Int}{j:Nat}(h:ixN n i=some j):seqIndex? i n=some j∧j < n ∧ -(n:Int)≤i∧i < n:=by
  unfold ixN at h
  by_cases h0:0≤i
  · rw [if_pos h0] at h
    by_cases h1:i < n
    · rw [if_pos h1] at h
      have e:i.toNat=j:=Option.some.inj h
      exact⟨by rw [seqIndex_of h0 h1,e],by omega,by omega,h1⟩
    · rw [if_neg h1] at h;cases h
  · rw [if_neg h0] at h
    by_cases h1 : -(n:Int)≤i
    · rw [if_pos h1] at h
      have e:(i + n).toNat=j:=Option.some.inj h
      exact⟨by rw [seqIndex_neg (by omega) h1,e],by omega,h1,by omega⟩
    · rw [if_neg h1] at h;cases h
theorem xS {α : Type}{xs:List α}{i:Int}{v : α}(h:atI xs i=some v):∃ j,seqIndex? i xs.length=some j∧xs[j]? = some v∧j < xs.length ∧ -(xs.length:Int)≤i∧i < xs.length:=by
  unfold atI at h
  cases e:ixN xs.length i with
  | none=>rw [e] at h;cases h
  | some j =>
    rw [e] at h
    obtain⟨h1,h2,h3,h4⟩:=ED e
    exact⟨j,h1,h,h2,h3,h4⟩
theorem d8 {α : Type}{xs:List α}{j:Nat}{v : α}(h:xs[j]? = some v):atI xs (j:Int)=some v:=by
  have hj:j < xs.length:=(List.getElem?_eq_some_iff.mp h).1
  have e:ixN xs.length (j:Int)=some j:=by
    unfold ixN
    rw [if_pos (by omega),if_pos (by omega)];simp
  unfold atI;rw [e];exact h
def xT (b:Expr):Prop:=∀ o i,subscripted b false o i=operate [o,i] (getItem o i)
def IxR (X:Cx) (r:R2):Prop :=
  ∀ (value slice:Expr) (pins:List (Addr × Obj)) (s:Shared) (σ:St) (H:Hp) (x y:V) (v u:Value) (Q:VK),Inv X pins σ H s→bT x v→bT y u→r x y H Q →
    subscripted slice false v u=operate [v,u] (getItem v u)→wpAny (model X.prog X.w) X.A (subscriptTail value slice v u) (EP X pins σ Q) X.xe s
def MtR (X:Cx) (id:String) (r:V→List V→Hp→VK→Prop):Prop :=
  ∀ (pins:List (Addr × Obj)) (s:Shared) (σ:St) (H:Hp) (x:V) (xs:List V) (v:Value) (us:List Value) (Q:VK),Inv X pins σ H s→bT x v→bg xs us→r x xs H Q →
    wpAny (model X.prog X.w) X.A (call (.builtin id) (v :: us)) (EP X pins σ Q) X.xe s
section
variable {X:Cx} {a b:Expr} {ta tb:TE} {pos:Pos}
theorem IxR.or {r r':R2}(h:IxR X r)(h':IxR X r'):IxR X (fun x y H Q=>r x y H Q∨r' x y H Q):=by
  intro value slice pins s σ H x y v u Q I rx ry q hs
  rcases q with q|q
  · exact h value slice pins s σ H x y v u Q I rx ry q hs
  · exact h' value slice pins s σ H x y v u Q I rx ry q hs
theorem M7 {r:R2}(hr:IxR X r)(ha:PE X a ta)(hb:PE X b tb)(hs:xT b):PE X (.Subscript a b pos) (tOp r ta tb):=by
  intro pins s σ H Q I h
  exact Subscript_ (NQ ha hb I h fun v u s2 x y H2 I2 rx ry q=>hr a b pins s2 σ H2 x y v u Q I2 rx ry q (hs _ _))
def PY (K:PySem.W.Frag):R2:=fun x y H Q=>∃ p xs i v,x=.ref p∧y=.int i∧SqL K H p xs∧atI xs i=some v∧Q v H
def PZ (K:PySem.W.Frag):R2:=fun x y H Q=>∃ p xs i v,x=.ref p∧y=.int i∧SqT K H p xs∧atI xs i=some v∧Q v H
def P0:R2:=fun x y H Q=>∃ z i c,x=.str z∧y=.int i∧z.length≤sizeLine∧atI z.cps.toList i=some c∧Q (.str ⟨#[c]⟩) H
theorem EE:IxR X (PY X.K):=by
  intro value slice pins s σ H x y v u Q I rx ry h hs
  obtain⟨p,xs,i,z,rfl,rfl,hq,he,q⟩:=h
  cases rx
  obtain⟨t,rfl⟩:=ry
  obtain⟨its,r,pl,hz⟩:=I.list hq
  obtain⟨j,h1,h2,h3,h4,h5⟩:=xS he
  obtain⟨w,ew,rw'⟩:=r.get h2
  have hl:=r.length
  have hn:=rP
  have fin:EP X pins σ Q w s:=⟨z,H,I,rw',q⟩
  by_cases h0:0≤i
  · have hj:i.toNat=j:=by
      rw [seqIndex_of h0 h5] at h1
      exact Option.some.inj h1
    exact item_listR pl.isList h0 (by omega) (by rw [hj];simpa using ew) fin hs
  · have hj:(i + (its.toArray.size:Int)).toNat=j:=by
      rw [seqIndex_neg (by omega) h4] at h1
      rw [List.size_toArray,← hl]
      exact Option.some.inj h1
    exact subscriptTail_builtinR (x:=w) pl.isList.typeIs slot_list_getitem.lookup
      (wpAny_getItem_list_neg (Q:=fun r s'=>r=w∧EP X pins σ Q r s') pl.isList (by omega) (by rw [List.size_toArray]<;>omega) (by omega) (by rw [hj];simpa using ew) ⟨rfl,fin⟩) hs
theorem N1:IxR X (PZ X.K):=by
  intro value slice pins s σ H x y v u Q I rx ry h hs
  obtain⟨p,xs,i,z,rfl,rfl,hq,he,q⟩:=h
  cases rx
  obtain⟨t,rfl⟩:=ry
  obtain⟨its,r,pl,hz⟩:=I.tuple hq
  obtain⟨j,h1,h2,h3,h4,h5⟩:=xS he
  obtain⟨w,ew,rw'⟩:=r.get h2
  have hl:=r.length
  have hn:=rP
  have fin:EP X pins σ Q w s:=⟨z,H,I,rw',q⟩
  exact subscriptTail_builtinR (x:=w) pl.typeIs slot_tuple_getitem.lookup
    (getItem_tuple (j:=j) (Q:=fun r s'=>r=w∧EP X pins σ Q r s') pl (by omega) (by omega) (by rw [List.size_toArray,← hl];exact h1) (by simpa using ew) ⟨rfl,fin⟩) hs
theorem N4:IxR X P0:=by
  intro value slice pins s σ H x y v u Q I rx ry h hs
  obtain⟨z,i,c,rfl,rfl,hz,he,q⟩:=h
  obtain⟨t,rfl⟩:=rx
  obtain⟨t',rfl⟩:=ry
  obtain⟨j,h1,h2,h3,h4,h5⟩:=xS he
  have hl:z.cps.toList.length=z.length:=by simp [Str.length]
  rw [hl] at h1 h4 h5
  have hn:=rP
  exact tail_any (typeIs_str s z t) slot_str_getitem.lookup (getItem_str (c:=c) (by
    have e1:decide (i < -(2 ^ 63:Int))=false:=decide_eq_false (by omega)
    have e2:decide (i ≥ 2 ^ 63)=false:=decide_eq_false (by omega)
    rw [e1,e2,Bool.or_false]) (by rw [h1];simpa using h2) ⟨.str ⟨#[c]⟩,H,I.tok _,⟨_,rfl⟩,q⟩) hs
def rIx (K:PySem.W.Frag):R2:=fun x y H Q=>PY K x y H Q∨PZ K x y H Q∨P0 x y H Q
theorem N5:IxR X (rIx X.K):=EE.or (N1.or N4)
theorem Cm (its:List Value) (n j:Nat) (u:Value):Obj.mapSeq (·.setIfInBounds j u) { cls:=.type "list",data:=.seq its.toArray n } = { cls:=.type "list",data:=.seq (its.set j u).toArray n }:=by
  simp [Obj.mapSeq]
theorem Inv.lst {pins:List (Addr × Obj)}{σ:St}{H:Hp}{s:Shared}{p:Addr}{xs:List V}(I:Inv X pins σ H s)(h:H p=some (.lst xs)) :
    ∃ (its:List Value) (n:Nat),bg xs its∧s.heap.get? p=some { cls:=.type "list",data:=.seq its.toArray n } ∧ xs.length≤sizeLine:=by
  obtain⟨z,its,n,r,e⟩:=I.hok p _ h
  exact⟨its,n,r,e,z⟩
theorem Inv.lstUpd {pins:List (Addr × Obj)}{σ:St}{H:Hp}{s:Shared}{p:Addr}{xs ys:List V}{its its':List Value}{n n':Nat}{f:Obj→Obj}(I:Inv X pins σ H s)(h:H p=some (.lst xs))
    (ho:s.heap.get? p=some { cls:=.type "list",data:=.seq its.toArray n }) (hf:f { cls:=.type "list",data:=.seq its.toArray n } = { cls:=.type "list",data:=.seq its'.toArray n' }) (r:bg ys its') (hz:ys.length≤sizeLine) (t:Nat) :
    Inv X pins σ (upd H p (.lst ys)) { s with heap:=s.heap.update p f,toks:=t }:=by
  have e:(s.heap.update p f).get? p=some { cls:=.type "list",data:=.seq its'.toArray n' }:=by
    rw [Heap.get?_update_self f ho (by rw [hf]<;>rfl),hf]
  refine I.write (x:=p) (e:=p) (by rw [h];trivial) (.inl rfl) (fun b u hb q=>(Heap.get?_update_other _ _ (Ne.symm hb)).trans q) ⟨_,e⟩ ?_
  exact⟨hz,its',n',r,e⟩
def P3:V→V→V→Hp→(Hp→Prop)→Prop:=fun o i v H Q=>∃ p xs k j,o=.ref p∧i=.int k∧H p=some (.lst xs)∧ixN xs.length k=some j∧Q (upd H p (.lst (xs.set j v)))
theorem Ic:NL X P3:=by
  intro pins s σ H o i v ov iv u Q I ro ri rv h
  obtain⟨p,xs,k,j,rfl,rfl,hp,hj,q⟩:=h
  cases ro
  obtain⟨t,rfl⟩:=ri
  obtain⟨its,n,r,ho,hz⟩:=I.lst hp
  obtain⟨h1,h2,h3,h4⟩:=ED hj
  have hl:=r.length
  have hn:=rP
  have I':Inv X pins σ (upd H p (.lst (xs.set j v))) { s with heap:=s.heap.update p (Obj.mapSeq (·.setIfInBounds j u)) } :=
    I.lstUpd hp ho (Cm its n j u) (r.set rv j) (by rw [List.length_set];exact hz) s.toks
  by_cases h0:0≤k
  · have hk:k.toNat=j:=by
      rw [seqIndex_of h0 h4] at h1
      exact Option.some.inj h1
    exact PySem.W.ki_setAt ho h0 (by omega) (by rw [List.size_toArray,← hl];exact h4) (by rw [hk];exact⟨_,I',q⟩)
  · have hk:(k + (its.toArray.size:Int)).toNat=j:=by
      rw [seqIndex_neg (by omega) h3] at h1
      rw [List.size_toArray,← hl]
      exact Option.some.inj h1
    exact PySem.W.ki_setBack ho (by omega) (by rw [List.size_toArray,← hl];exact h3) (by omega) (by rw [hk];exact⟨_,I',q⟩)
theorem xU (lo hi:Option Int)(n:Nat):(sliceBounds lo hi none n).1=((HT.sIx n 0 lo:Nat):Int)∧(sliceBounds lo hi none n).2.1=((HT.sIx n n hi:Nat):Int)∧(sliceBounds lo hi none n).2.2=1:=by
  refine⟨?_,?_,rfl⟩
  · cases lo with
    | none=>simp [sliceBounds,HT.sIx]
    | some i =>
      simp only [sliceBounds,HT.sIx,Option.getD_none,show (1:Int) > 0 by decide,if_true]
      by_cases h:i < 0
      · simp only [h,if_true]<;>omega
      · simp only [h,if_false]<;>omega
  · cases hi with
    | none=>simp [sliceBounds,HT.sIx]
    | some i =>
      simp only [sliceBounds,HT.sIx,Option.getD_none,show (1:Int) > 0 by decide,if_true]
      by_cases h:i < 0
      · simp only [h,if_true]<;>omega
      · simp only [h,if_false]<;>omega
theorem uA (its:List Value)(lo hi:Option Int):slicePick its.toArray lo hi none=((its.drop (HT.sIx its.length 0 lo)).take (HT.sIx its.length its.length hi - HT.sIx its.length 0 lo)).toArray:=by
  obtain⟨h1,h2,h3⟩:=xU lo hi its.toArray.size
  unfold slicePick
  rw [h1,h2,h3]
  simp only [sliceRange_one,pick_run,List.size_toArray]<;>rfl
def P4 (K:PySem.W.Frag):V→Option Int→Option Int→Hp→VK→Prop:=fun x lo hi H Q=>∃ a xs,x=.ref a∧SqL K H a xs ∧ ∀ p,H p=none→Q (.ref p) (upd H p (.lst (rV xs lo hi)))
theorem Lo:SlR X (P4 X.K):=by
  intro pins s σ H x v vl vu lo hi sl Q I rx hs pl pu h
  obtain⟨a,xs,rfl,hx,q⟩:=h
  cases rx
  obtain⟨its,r,ht,hz⟩:=I.list hx
  have hlen:=r.length
  refine⟨"list",_,slot_list_getitem.lookup,ht.isList.typeIs,?_⟩
  refine wpAny_getItem_list_slice ht.isList hs pl pu .none (by simp) ?_ (by rw [List.size_toArray]<;>omega)
  rw [uA,← hlen]
  refine⟨.ref s.heap.objs.size,_,I.laid (t':=s.toks) (o:=.lst (rV xs lo hi)) (fun b ob q=>Heap.get?_push_of_some _ q) (Nat.le_refl _) ?_,rfl,q _ (I.hok.fresh (Nat.le_refl _))⟩
  exact⟨Nat.le_trans (qf xs lo hi) hz,_,0,(r.drop (HT.sIx xs.length 0 lo)).take (HT.sIx xs.length xs.length hi - HT.sIx xs.length 0 lo),Heap.get?_push_size _ rfl⟩
theorem xV:ie X (.builtin "len") (fun xs H Q=>∃ p ys,xs=[.ref p]∧(SqL X.K H p ys∨SqT X.K H p ys)∧Q (.int ys.length) H):=by
  intro pins s σ H xs us Q I r h
  obtain⟨p,ys,rfl,hq,q⟩:=h
  obtain⟨u,rfl,rx⟩:=HZ r
  cases rx
  have hn:=rP
  rcases hq with hq|hq
  · obtain⟨its,r',pl,hz⟩:=I.list hq
    have hlen:=r'.length
    exact Calls.call_len_list pl.isList (by simp only [List.size_toArray]<;>omega) ⟨.int ys.length,H,I.tok _,⟨s.toks + 1,by rw [List.size_toArray,hlen]⟩,q⟩
  · obtain⟨its,r',pl,hz⟩:=I.tuple hq
    have hlen:=r'.length
    exact len_tuple pl (by simp only [List.size_toArray]<;>omega) ⟨.int ys.length,H,I.tok _,⟨s.toks + 1,by rw [List.size_toArray,hlen]⟩,q⟩
theorem xW:ie X (.type "list") (fun xs H Q=>∃ p ys,xs=[.ref p]∧(SqL X.K H p ys∨SqT X.K H p ys) ∧ ∀ l,H l=none→Q (.ref l) (upd H l (.lst ys))):=by
  intro pins s σ H xs us Q I r h
  obtain⟨p,ys,rfl,hq,q⟩:=h
  obtain⟨u,rfl,rx⟩:=HZ r
  cases rx
  have fin:∀ (its:List Value),bg ys its→ys.length≤sizeLine → ∀ (h':Heap) (c':Nat),(∀ b o',s.heap.get? b=some o'→h'.get? b=some o') →
      h'.get? s.heap.objs.size=some { cls:=.type "list",dict:=none,data:=.seq its.toArray c',slots := #[] } → EP X pins σ Q (.ref s.heap.objs.size) { s with heap:=h' }:=fun its r' hz h' c' kp e =>
    ⟨.ref s.heap.objs.size,_,I.laid (t':=s.toks) kp (Nat.le_refl _) (show d7 X.prog X.w _ h' _ (.lst ys) from ⟨hz,its,c',r',e⟩),rfl,q _ (I.hok.fresh (Nat.le_refl _))⟩
  rcases hq with hq|hq
  · obtain⟨its,r',pl,hz⟩:=I.list hq
    have hlen:=r'.length
    obtain⟨o,ho,hc,n,hd⟩:=pl.isList
    exact call_list_seq p (.inl rfl) ho hc hd (fun h' c' kp e=>fin its r' hz h' c' kp e) (by simp only [List.size_toArray]<;>omega)
  · obtain⟨its,r',pl,hz⟩:=I.tuple hq
    have hlen:=r'.length
    obtain⟨o,ho,hc,n,hd⟩:=pl
    exact call_list_seq p (.inr rfl) ho hc hd (fun h' c' kp e=>fin its r' hz h' c' kp e) (by simp only [List.size_toArray]<;>omega)
theorem uB:ie X (.type "tuple") (fun xs H Q=>∃ p ys,xs=[.ref p]∧((SqL X.K H p ys ∧ ∀ l,H l=none→Q (.ref l) (upd H l (.tup ys)))∨(SqT X.K H p ys∧Q (.ref p) H))):=by
  intro pins s σ H xs us Q I r h
  obtain⟨p,ys,rfl,h⟩:=h
  obtain⟨u,rfl,rx⟩:=HZ r
  cases rx
  rcases h with ⟨hq,q⟩|⟨hq,q⟩
  · obtain⟨its,r',pl,hz⟩:=I.list hq
    have hlen:=r'.length
    refine call_tuple_list pl.isList (fun h' kp => ?_) (by simp only [List.size_toArray]<;>omega)
    have I1:Inv X pins σ H { s with heap:=h' }:=I.kept (t':=s.toks) kp
    have I2:Inv X pins σ (upd H h'.objs.size (.tup ys)) { s with heap:=h'.push { cls:=.type "tuple",data:=.seq its.toArray } } :=
      I1.laid (t':=s.toks) (fun b o e=>Heap.get?_push_of_some _ e) (Nat.le_refl _) (show d7 X.prog X.w _ _ _ (.tup ys) from ⟨hz,its,r',IsTup.new _ _⟩)
    exact⟨.ref h'.objs.size,_,I2,rfl,q _ (I1.hok.fresh (Nat.le_refl _))⟩
  · obtain⟨its,r',pl,hz⟩:=I.tuple hq
    exact call_tuple_same pl ⟨.ref p,H,I,rfl,q⟩
def tyV (K:PySem.W.Frag) (T:String) (x:V) (H:Hp):Prop:=match x with
  | .str _=>T = "str"
  | .int _=>T = "int"
  | .ref p=>(T = "list" ∧ ∃ xs,SqL K H p xs)∨(T = "tuple" ∧ ∃ o,K.lookup p=some o∧o.cls=.type "tuple" ∧ o.dict=none) ∨
      (T = "dict" ∧ ((∃ kvs,H p=some (.dK kvs)) ∨ ∃ kvs,H p=some (.dT kvs)))∨(T = "set" ∧ ∃ S n,H p=some (.set S n))
  | _=>False
theorem N7 {pins:List (Addr × Obj)}{σ:St}{H:Hp}{s:Shared}{T:String}{x:V}{v:Value}(I:Inv X pins σ H s)(r:bT x v)(ty:tyV X.K T x H) :
    s.TypeIs v T ∧ ∀ a,v=.ref a → ∃ ob,s.heap.get? a=some ob∧ob.dict=none:=by
  cases x with
  | str z =>
    obtain⟨t,rfl⟩:=r
    cases (show T = "str" from ty)
    exact⟨typeIs_str s z t,fun _ e=>nomatch e⟩
  | int i =>
    obtain⟨t,rfl⟩:=r
    cases (show T = "int" from ty)
    exact⟨typeIs_int s i t,fun _ e=>nomatch e⟩
  | ref p =>
    cases r
    rcases ty with ⟨rfl,xs,hq⟩|⟨rfl,o,hk,hc,hd⟩|⟨rfl,hk⟩|⟨rfl,S,n,hk⟩
    · obtain⟨its,_,pl,_⟩:=I.list hq
      refine⟨pl.isList.typeIs,fun a e => ?_⟩
      cases e
      obtain⟨o,n,e,c,hd,_⟩:=pl
      exact⟨o,e,hd⟩
    · refine⟨⟨o,I.kIn p o hk,hc⟩,fun a e => ?_⟩
      cases e
      exact⟨o,I.kIn _ o hk,hd⟩
    · have z:∃ o,s.heap.get? p=some o∧o.ExactDict:=by
        rcases hk with ⟨kvs,hk⟩|⟨kvs,hk⟩
        · obtain⟨_,_,_,_,o,_,_,e,ex,_⟩:=I.hok p _ hk
          exact⟨o,e,ex⟩
        · obtain⟨_,_,_,_,o,_,_,e,ex,_⟩:=I.hok p _ hk
          exact⟨o,e,ex⟩
      obtain⟨o,e,ex⟩:=z
      refine⟨⟨o,e,ex.1⟩,fun a e2 => ?_⟩
      cases e2
      exact⟨o,e,ex.2.1⟩
    · obtain⟨o,_,_,_,e,ex,_⟩:=I.hok p _ hk
      refine⟨⟨o,e,ex.1⟩,fun a e2 => ?_⟩
      cases e2
      exact⟨o,e,ex.2.1⟩
  | _=>exact False.elim ty
def tBM (K:PySem.W.Frag) (T:String) (r:V→List V→Hp→VK→Prop) (to:TE) (t:TA):TE:=fun σ H Q=>to σ H fun x H1=>tyV K T x H1∧t σ H1 fun xs H2=>r x xs H2 Q
variable {o e:Expr} {es:List Expr} {to:TE} {t:TA} {name:Str} {apos cpos:Pos} {T id:String} {r:V→List V→Hp→VK→Prop}
theorem M8 (pa:PlainAttrs T) (slot:Slot T name id) (hty:typeOf (.builtin id)=pure (.type "method_descriptor")) (hm:MtR X id r) (ho:PE X o to) (ha:PA X (e :: es) t)
    (hbase:attributeBase o name X.env (eval o X.env)=eval o X.env:=by rfl)
    (hfew:((backTo cpos (starEach (e :: es) X.env)).all (fun x => !x.1) && (backToKw cpos (keywordEach [] X.env)).all (fun x=>x.1.isSome)
      && decide ((e :: es).length + ([] : List Keyword).length + (if ([] : List Keyword).isEmpty then 0 else 1) < 30))=true:=by rfl)
    (hline:(apos.endLine == cpos.line)=true:=by rfl) (hs:starEach (e :: es) X.env=(false,eval e X.env) :: starEach es X.env:=by rfl) (hplain:(backTo cpos (starEach es X.env)).any (·.1)=false:=by rfl) :
    PE X (.Call (.Attribute o name apos) (e :: es) [] cpos) (tBM X.K T r to t):=by
  intro pins s σ H Q I h
  refine wpAny_Call_method_late hbase hfew hline rfl (thn (ho pins s σ H _ I h) fun v s1 ⟨x,H1,I1,r1,ty,q1⟩ => ?_)
  obtain⟨h1,h2⟩:=N7 I1 r1 ty
  refine⟨T,id,pa,slot,hty,h1,h2,?_⟩
  have hA:=ha cpos pins s1 σ H1 _ I1 q1
  rw [hs] at hA ⊢
  refine Calls.callWith_builtin (by show (false || (backTo cpos (starEach es X.env)).any (·.1))=false;rw [hplain]<;>rfl) (Calls.evalArgs_plain ?_)
  exact thn hA fun us s2 ⟨vs,H2,I2,r2,q2⟩=>hm pins s2 σ H2 x vs v us Q I2 r1 r2 q2
end
end L2
namespace L2
open PySem PySem.Spec PyProof.Rows
def MtM (X:Cx) (id:String) (r:V→List V→Hp→VK→Prop):Prop :=
  ∀ (pins:List (Addr × Obj)) (s:Shared) (σ:St) (H:Hp) (x:V) (xs:List V) (v:Value) (us:List Value) (Q:VK),Inv X pins σ H s→bT x v→bg xs us→r x xs H Q →
    wpAny (model X.prog X.w) X.A (call (.builtin id) (v :: us)) (EP X pins σ Q) X.xe s
theorem bg.one:∀ {x:V} {us:List Value},bg [x] us → ∃ u,us=[u]∧bT x u
  | _,_,.cons r .nil=>⟨_,rfl,r⟩
theorem bg.two:∀ {x y:V} {us:List Value},bg [x,y] us → ∃ u v,us=[u,v]∧bT x u∧bT y v
  | _,_,_,.cons r (.cons q .nil)=>⟨_,_,rfl,r,q⟩
theorem bg.rep {xs:List V}{us:List Value}(h:bg xs us):∀ k:Nat,bg (List.replicate k xs).flatten (List.replicate k us).flatten
  | 0=>.nil
  | k + 1=>by
    rw [List.replicate_succ,List.replicate_succ,List.flatten_cons,List.flatten_cons]
    exact bg.append h (bg.rep h k)
theorem wN (its:List Value):∀ (k:Nat) (acc:List Value),
    List.foldl (fun x1 x2=>x1++x2) acc.toArray (List.replicate k its.toArray)=(acc++(List.replicate k its).flatten).toArray
  | 0,acc=>by simp
  | k + 1,acc=>by
    have e:acc.toArray++its.toArray=(acc++its).toArray:=by simp
    have e2:(acc++its)++(List.replicate k its).flatten=acc++(List.replicate (k + 1) its).flatten:=by
      rw [List.replicate_succ,List.flatten_cons,List.append_assoc]
    rw [← e2,← wN its k (acc++its),← e,List.replicate_succ,List.foldl_cons]
section
variable {X:Cx} {pins:List (Addr × Obj)} {σ:St} {H:Hp} {s:Shared} {l b:Addr} {xs ys zs:List V}
theorem Inv.lset {its its':List Value}{n:Nat}{f:Array Value→Array Value}{t':Nat}(I:Inv X pins σ H s)(hH:H l=some (.lst xs))
    (e:s.heap.get? l=some { cls:=.type "list",data:=.seq its.toArray n }) (hf:f its.toArray=its'.toArray) (hv:bg ys its') (hz:ys.length≤sizeLine) :
    Inv X pins σ (upd H l (.lst ys)) { s with heap:=s.heap.update l (Obj.mapSeq f),toks:=t' }:=by
  have q:=PySem.IsL.update e f
  rw [hf] at q
  refine I.write (x:=l) (e:=l) (by rw [hH];exact trivial) (.inl rfl) (fun b' u hb hu=>(Heap.get?_update_other s.heap (Obj.mapSeq f) (Ne.symm hb)).trans hu) ⟨_,q⟩ ?_
  exact⟨hz,its',_,hv,q⟩
theorem Inv.lnew {its:List Value}{t':Nat}(I:Inv X pins σ H s)(hv:bg ys its)(hz:ys.length≤sizeLine) :
    Inv X pins σ (upd H s.heap.objs.size (.lst ys)) { s with heap:=s.heap.push { cls:=.type "list",data:=.seq its.toArray },toks:=t' } :=
  I.laid (fun _ _ q=>Heap.get?_push_of_some _ q) (Nat.le_refl _) ⟨hz,its,0,hv,Heap.get?_push_size _ rfl⟩
theorem Inv.fresh (I:Inv X pins σ H s):H s.heap.objs.size=none:=I.hok.fresh (Nat.le_refl _)
theorem Inv.lstM (I:Inv X pins σ H s) (hH:H l=some (.lst xs)):xs.length≤sizeLine ∧ ∃ (its:List Value) (n:Nat),bg xs its∧xs.length=its.length∧s.heap.get? l=some { cls:=.type "list",data:=.seq its.toArray n }:=by
  obtain⟨z,its,n,r,e⟩:=I.hok l _ hH
  exact⟨z,its,n,r,r.length,e⟩
theorem Aj {n:Nat}(h:n≤sizeLine):Builtin.List.listTooLong n=false:=by
  unfold Builtin.List.listTooLong
  exact decide_eq_false (by omega)
end
section
variable {X:Cx}
def Lp:V→List V→Hp→VK→Prop:=fun x vs H Q=>∃ l xs y,x=.ref l∧vs=[y]∧H l=some (.lst xs)∧xs.length < sizeLine∧Q .non (upd H l (.lst (xs++[y])))
theorem wO:MtM X "list.append" Lp:=by
  intro pins s σ H x vs v us Q I rx rv h
  obtain⟨l,xs,y,rfl,rfl,hH,hz,q⟩:=h
  cases rx
  obtain⟨u,rfl,ru⟩:=rv.one
  obtain⟨z,its,n,r,hl,e⟩:=I.lstM hH
  refine call_meets F.slot_list_append ⟨_,e,rfl⟩ F.entry_list_append (F.args_list_append_2 _ _) (PySem.list_append l its.toArray n u (by rw [List.size_toArray];omega)) ⟨e,?_⟩
  refine⟨.non,_,I.lset (its':=its++[u]) hH e (by simp) (r.append (.cons ru .nil)) ?_,rfl,q⟩
  rw [List.length_append,List.length_singleton]
  omega
def Lq:V→List V→Hp→VK→Prop:=fun x vs H Q=>∃ l b xs zs,x=.ref l∧vs=[.ref b]∧H l=some (.lst xs)∧H b=some (.lst zs)∧xs.length + zs.length≤sizeLine∧Q .non (upd H l (.lst (xs++zs)))
theorem FH:MtM X "list.extend" Lq:=by
  intro pins s σ H x vs v us Q I rx rv h
  obtain⟨l,b,xs,zs,rfl,rfl,hH,hB,hz,q⟩:=h
  cases rx
  obtain⟨u,rfl,ru⟩:=rv.one
  cases ru
  obtain⟨z,its,n,r,hl,e⟩:=I.lstM hH
  obtain⟨z2,its2,n2,r2,hl2,e2⟩:=I.lstM hB
  have hsz:its.toArray.size + its2.toArray.size≤sizeLine:=by rw [List.size_toArray,List.size_toArray];omega
  have hlong : ¬ (!its.toArray.isEmpty && Builtin.List.listTooLong (its.toArray.size + its2.toArray.size))=true:=by
    rw [Aj hsz,Bool.and_false]
    exact Bool.false_ne_true
  refine call_meets F.slot_list_extend ⟨_,e,rfl⟩ F.entry_list_extend (F.args_list_extend_2 _ _)
    (AutoSeq1.list_extend_list_list_0 l its.toArray n b its2.toArray n2 hlong (by rw [List.size_toArray];omega) (by omega)) ⟨e,e2,?_⟩
  refine⟨.non,_,I.lset (its':=its++its2) hH e (by simp) (r.append r2) ?_,rfl,q⟩
  rw [List.length_append]
  omega
def Q6:R2:=fun x y H Q=>∃ l b xs zs,x=.ref l∧y=.ref b∧H l=some (.lst xs)∧H b=some (.lst zs)∧xs.length + zs.length≤sizeLine ∧ ∀ p,H p=none→Q (.ref p) (upd H p (.lst (xs++zs)))
theorem N8:OpR X (binaryOp .Add) Q6:=by
  intro pins s σ H x y v u Q I rx ry h
  obtain⟨l,b,xs,zs,rfl,rfl,hH,hB,hz,q⟩:=h
  cases rx
  cases ry
  obtain⟨z,its,n,r,hl,e⟩:=I.lstM hH
  obtain⟨z2,its2,n2,r2,hl2,e2⟩:=I.lstM hB
  refine PySem.P.add_list e e2 ?_ (by rw [List.size_toArray,List.size_toArray];omega)
  have ea:its.toArray++its2.toArray=(its++its2).toArray:=by simp
  rw [ea]
  exact⟨.ref _,_,I.lnew (t':=s.toks) (r.append r2) (by rw [List.length_append];omega),rfl,q _ I.fresh⟩
def Q7:R2:=fun x y H Q=>∃ l k xs,x=.ref l∧y=.int k∧H l=some (.lst xs) ∧ -(2 ^ 63)≤k∧k < 2 ^ 63∧xs.length * k.toNat≤sizeLine ∧
  ∀ p,H p=none→Q (.ref p) (upd H p (.lst (List.replicate k.toNat xs).flatten))
theorem Lr {α : Type}(xs:List α)(k:Nat):(List.replicate k xs).flatten.length=k * xs.length:=by
  induction k with
  | zero=>simp
  | succ k ih=>rw [List.replicate_succ,List.flatten_cons,List.length_append,ih,Nat.succ_mul,Nat.add_comm]
theorem N9:OpR X (binaryOp .Mult) Q7:=by
  intro pins s σ H x y v u Q I rx ry h
  obtain⟨l,k,xs,rfl,rfl,hH,h1,h2,hz,q⟩:=h
  cases rx
  obtain⟨t,rfl⟩:=ry
  obtain⟨z,its,n,r,hl,e⟩:=I.lstM hH
  have hlen:its.toArray.size * k.toNat≤sizeLine:=by rw [List.size_toArray,← hl];exact hz
  have hcap : ¬ its.toArray.size * k.toNat > (2 ^ 63 - 1) / 8:=by
    have:(sizeLine:Nat)≤(2 ^ 63 - 1) / 8:=by decide
    omega
  have hfit : ¬ (!Builtin.List.listFitsIndex k)=true:=by
    rw [fitsIndex_both h1 h2]
    exact Bool.false_ne_true
  have hlong : ¬ Builtin.List.listTooLong (its.toArray.size * k.toNat)=true:=by
    rw [Aj hlen]
    exact Bool.false_ne_true
  have hnew:List.foldl (fun x1 x2=>x1++x2) #[] (List.replicate (if its.toArray.isEmpty=true then 0 else k.toNat) its.toArray)=(List.replicate k.toNat its).flatten.toArray:=by
    have f0:∀ m:Nat,List.foldl (fun x1 x2=>x1++x2) #[] (List.replicate m its.toArray)=(List.replicate m its).flatten.toArray:=fun m=>by
      have:=wN its m []
      rw [List.nil_append] at this
      exact this
    rw [f0]
    cases its with
    | nil=>simp
    | cons a r'=>rw [if_neg (by simp)]
  refine wpAny_binaryOp_repeat_ref (T := "list") (U := "int") (by decide) ⟨_,e,rfl⟩ (fun s'=>typeIs_int s' k t) noFill_list_mul F.fills_int_mul F.slot_int_rmul repeat_list F.slot_int_index.lookup
    (call_meets F.slot_int_rmul (typeIs_int s k t) F.entry_int_rmul (F.args_int_rmul_2 _ _) (int___rmul___int_list k t l its.toArray n)
      ⟨e,rfl,⟨_,e,rfl⟩,call_meets F.slot_list_mul ⟨_,e,rfl⟩ F.entry_list_mul (F.args_list_mul_2 _ _) (AutoListH.list___mul___list_int_3 l its.toArray n k t hfit hcap hlong) ⟨e,?_⟩⟩)
  rw [hnew]
  exact⟨.ref _,_,I.lnew (t':=s.toks) (r.rep k.toNat) (by rw [Lr,Nat.mul_comm];exact hz),rfl,q _ I.fresh⟩
end
section
variable {prog:Program} {w:World} {A:Around} {E:Value→Shared→Prop} {s:Shared}
end
section
variable {X:Cx}
end
end L2
namespace Att
open PySem PySem.W PySem.Calls PyProof.Rows
theorem qL {P:Params}{h:Heap}:∀ (ns:List Int) (vs:List Value),WellAll P h vs (ns.map WData.int)→IntsAre vs ns:=by
  intro ns
  induction ns with
  | nil =>
    intro vs w
    rw [List.map_nil] at w
    cases w
    exact .nil
  | cons n ns ih =>
    intro vs w
    rw [List.map_cons] at w
    cases w with
    | cons a b =>
      cases a
      exact .cons _ _ (ih _ b)
theorem FI {l:OpenLaw}{n:Nat}(hn:l.most=some n){P:Params}{h:Heap}{args:List WData}{vals:List Value}
    (hpre:l.row.toRowW.claim.pre args=true) (hwl:WellAll P h vals args) :
    ∃ a vs ns,vals=[Value.ref a]∧args=[WData.list (ns.map WData.int)]∧h.get? a=some { cls:=.type "list",data:=.seq vs.toArray } ∧ IntsAre vs ns∧ns.length≤n:=by
  have hsh:WShape.hasAll [] args [.list .int] = true:=(pre_splitW hpre).1
  have hc:l.pre.holds [] { args:=args } = true:=(pre_splitW hpre).2
  obtain⟨d,r,rfl,h1,h2⟩:=hasAllW_cons hsh
  obtain rfl:=hasAllW_nil h2
  obtain⟨xs,rfl,h3⟩:=hasW_list h1
  obtain⟨ns,rfl⟩:=items_int h3
  have hlen:ns.length≤n:=by
    unfold OpenLaw.pre at hc
    have h4:(WTm.not (.lt (.lit (.int (n:Int))) (.len (.arg 0)))).holds [] { args:=[.list (ns.map .int)] } = true:=by
      have h4:=(holds_andW hc).1
      rw [hn] at h4
      exact h4
    have h5:=condW_of h4 (w_not (w_lt w_lit (w_len_list (w_arg rfl))))
    rw [List.length_map] at h5
    refine Nat.le_of_not_lt fun q => ?_
    have q':(n:Int) < ((ns.length:Nat):Int):=by omega
    first
      | (rw [decide_eq_true q'] at h5;exact absurd h5 (by decide))
      | (simp at h5;omega)
  cases hwl with
  | cons w1 w2 =>
    cases w2
    cases w1 with
    | list ho hall=>exact⟨_,_,ns,rfl,rfl,ho,qL ns _ hall,hlen⟩
theorem FJ (l:OpenLaw)(args:List WData):l.row.toRowW.claim.post args (.bool true) args=true :=
  postW_of (r:=l.row.toRowW) (X:=(true == true))
    (show WShape.has [] (.bool true) .bool=true by first|rfl|decide|simp [WShape.has,WShape.arms,WShape.armsAll])
    (show (WTm.eq .res (.lit (.bool true))).value [] { args:=args,res:=some (.bool true),after:=args } = some (.bool (true == true)) from w_eq_bool (w_res rfl) w_lit) rfl
theorem attach_call {l:OpenLaw}{n:Nat}{q:Program}{loose:List Str}{XP:(Str→Option Value)→Heap→Prop}{YP:World→Heap→Prop}{d:DefRec}
    (hn:l.most=some n) (hdf:d.params.defaults=[])
    (call:∀ (w:World) (s₀ s₁ : Shared) (mg mb:Str→Option Value) (fa:Addr) (o:Obj) (pm cd doc:Value) (a:Addr) (vs:List Value) (ns:List Int),
      Ground q loose [] XP w s₀ mg mb s₁.heap→YP w s₁.heap →
      s₁.heap.get? fa=some o→o.data=.func (docDef d.name d.params d.body d.scope pm cd doc)→s₁.heap.CodeRec cd d.name→mg d.name=some (.ref fa) →
      s₁.heap.get? a=some { cls:=.type "list",data:=.seq vs.toArray } → IntsAre vs ns→ns.length≤n→s₁.gens = #[] →
      codeAny (model l.prog w) callerA (.call (.ref fa) ⟨[.ref a],[]⟩) (fun r s'=>r=.ok (.ret (.bool true))∧OldK s₁.heap s'.heap∧s'.os=s₁.os∧AllBare s'.gens) s₁) :
    WalkO q loose XP YP l.row.toRowW d [] (fun f vs=>PySem.call f vs):=by
  intro w s₀ s₁ mg mb G Y fa o pm cd doc dV kV ho hd hcd hD hmg hg args vals as hpre hlay hrd hwl hlo
  obtain rfl:dV=.none:=Dflts.none hD hdf
  obtain rfl:kV=.none:=Dflts.noKw hD
  obtain⟨a,vs,ns,rfl,rfl,hobj,hints,hlen⟩:=FI hn hpre hwl
  refine enter_call (codeAny_mono (call w s₀ s₁ mg mb fa o pm cd doc a vs ns G Y ho (fd_plain hd) hcd hmg hobj hints hlen hg) fun r s' hq => ?_)
  obtain⟨rfl,h2,h3,h4⟩:=hq
  exact⟨.inl ⟨.bool true,.bool true,[],rfl,fun _=>rfl,.bool true,FJ l _,fun _=>⟨List.Pairwise.nil,fun _ hm=>(nomatch hm)⟩⟩,h2,h3,h4⟩
section
variable {prog:Program} {w:World} {A:Around} {E:Value→Shared→Prop} {s:Shared} {K:Frag}
def noObjs (h:Heap):Heap:={ h with objs := #[] }
theorem noObjs_get (h:Heap)(b:Addr):(noObjs h).get? b=none:=by
  cases e:(noObjs h).get? b with
  | none=>rfl
  | some o=>exact absurd (Heap.lt_size e) (Nat.not_lt_zero _)
def ledger (h:Heap) (L d:Addr):List (Addr × Obj):=(List.range h.objs.size).filterMap fun a=>if a=L∨a=d then none else (h.get? a).map fun o=>(a,o)
theorem mem_ledger {h:Heap}{L d a:Addr}{o:Obj}:(a,o)∈ledger h L d ↔ a≠L∧a≠d∧h.get? a=some o:=by
  unfold ledger
  rw [List.mem_filterMap]
  constructor
  · rintro⟨b,_,e⟩
    split at e
    · cases e
    · rename_i hb
      obtain⟨o',ho,e'⟩:=Option.map_eq_some_iff.mp e
      cases e'
      exact⟨fun q=>hb (.inl q),fun q=>hb (.inr q),ho⟩
  · rintro⟨n1,n2,ho⟩
    refine⟨a,List.mem_range.mpr (Heap.lt_size ho),?_⟩
    rw [if_neg (show ¬ (a=L∨a=d) from fun q=>q.elim n1 n2),ho]<;>rfl
theorem fr_all {h:Heap}{L:Addr}{m:Str→Option Value}(n:h.Ns L m):Fr (noObjs h) L h m :=
  ⟨n,fun b o e=>(by rw [noObjs_get] at e;cases e),Nat.zero_le _⟩
end
end Att
namespace L2
open PySem PySem.Spec PyProof.Rows
theorem wP:∀ {vs:List Value} {ns:List Int},IntsAre vs ns→bg (ns.map V.int) vs
  | _,_,.nil=>.nil
  | _,_,.cons n t h=>.cons ⟨t,rfl⟩ (wP h)
def Oa (H:Hp):Prop:=∀ b,H b=none ∨ ∃ o xs,H b=some (.frz o (.lst xs))
theorem Id {P:Program}{w:World}{K:PySem.W.Frag}{mg mb:Str→Option Value}{CX:CXT}{k:Nat}{fa a:Addr}{fd:FuncData}{x:Str}{sp:Sp}{s₁ : Shared}{vs:List Value}{ns:List Int}
    (KX:K.In s₁.heap) (hns:s₁.heap.Ns mainGlobals mg) (hb:s₁.heap.Ns builtinsNs mb) (hbb:∀ x:Str,x ≠ "__name__" → mb x=bootBuiltins x) (hlim:s₁.heap.NoLimit) (hg:s₁.gens = #[])
    (ha:s₁.heap.get? a=some { cls:=.type "list",data:=.seq vs.toArray }) (hi:IntsAre vs ns) (hl:ns.length≤sizeLine) (hr:ig k callerA)
    (F:∀ base:Heap,K.In base→base.Ns mainGlobals mg→cy P w K mg base CX k fa fd [x] sp) (hbind:∀ (s:Shared) (u:Value),BindsTo s fd ⟨[u],[]⟩ [(x,u)])
    (hsp:∀ H:Hp,Oa H→SqL K H a (ns.map V.int)→sp [.ref a] H (fun v _=>v=.bl true) fun _ _ _=>False)
    (hCX:∀ H e s',CX [] H s₁ (fun _ _ _=>False) e s'→False) :
    codeAny (model P w) callerA (.call (.ref fa) ⟨[.ref a],[]⟩) (fun r s'=>r=.ok (.ret (.bool true))∧OldK s₁.heap s'.heap∧s'.os=s₁.os∧AllBare s'.gens) s₁ := by
  have rv:=wP hi
  have lenV:=hi.length
  have core:∀ H:Hp,Oa H→SqL K H a (ns.map V.int)→HOk P w H s₁.heap→(∀ b,H b≠none→b=a)→(H a≠none→K.lookup a=none) →
      codeAny (model P w) callerA (.call (.ref fa) ⟨[.ref a],[]⟩) (fun r s'=>r=.ok (.ret (.bool true))∧OldK s₁.heap s'.heap∧s'.os=s₁.os∧AllBare s'.gens) s₁ := by
    intro H hO hS hok hA hK
    have base_of:∀ {b:Addr} {o:Obj},s₁.heap.get? b=some o→H b=none→(xN s₁.heap H).get? b=some o:=fun e n=>HJ e n
    have noA:∀ {b:Addr} {o:Obj} {es:Array DictEntry} {ep:Nat},s₁.heap.get? b=some o→o.data=.dict es ep→H b=none:=fun {b o es ep} e d=>by
      cases q:H b with
      | none=>rfl
      | some u =>
        have e':b=a:=hA b (by rw [q];simp)
        subst e'
        rw [ha] at e;cases e
        have d':Data.seq vs.toArray _=Data.dict es ep:=d
        cases d'
    have nsK:∀ {b:Addr} {m:Str→Option Value},s₁.heap.Ns b m→(xN s₁.heap H).Ns b m:=fun {b m} ⟨o,es,ep,e,d,r⟩=>⟨o,es,ep,base_of e (noA e d),d,r⟩
    have hKb:K.In (xN s₁.heap H):=fun b o e=>base_of (KX b o e) (by
      cases q:H b with
      | none=>rfl
      | some u =>
        have e':b=a:=hA b (by rw [q];simp)
        subst e'
        rw [hK (by rw [q];simp)] at e;cases e)
    have hM:Mod K mg (xN s₁.heap H):=⟨hKb,nsK hns,⟨mb,nsK hb,hbb⟩,let ⟨mc,h1,h2⟩:=hlim;⟨mc,nsK h1,h2⟩⟩
    have e0:Lk P w K mg (xN s₁.heap H) callerA [] s₁ H:=⟨rfl,hM,fun b o e=>Lc e,Nat.le_of_eq (Fy _ _),trivial,fun b hb=>absurd (show b∈([] : List Addr) from hb) (by simp),hok,.of_eq hg⟩
    refine codeAny_mono ((F _ hKb (nsK hns)).run callerA [] s₁ H ⟨[.ref a],[]⟩ [.ref a] [.ref a] _ _ hr e0 (hbind s₁ (.ref a)) (.cons rfl .nil) (hsp H hO hS)) fun r s' h => ?_
    cases r with
    | error e=>exact (hCX H e s' h).elim
    | ok fl =>
      cases fl with
      | next=>exact False.elim h
      | brk=>exact False.elim h
      | cont=>exact False.elim h
      | ret u =>
        obtain⟨v,H',os,bare,un,hok',r',q⟩:=h
        have q':v=.bl true:=q
        subst q'
        obtain rfl:u=Value.bool true:=r'
        refine⟨rfl,OldK.of_keep fun b o e => ?_,os,bare⟩
        cases q:H b with
        | none=>exact un.keep b o e q (by intro z;exact absurd (show b∈([] : List Addr) from z) (by simp)) (by simp)
        | some u =>
          rcases hO b with z|⟨ob,xs,z⟩
          · rw [q] at z;cases z
          · have z2:=un.frzs b ob _ z
            obtain⟨e1,_⟩:=hok b _ z
            obtain⟨e2,_⟩:=hok' b _ z2
            rw [e] at e1;cases e1
            exact e2
  cases hk:K.lookup a with
  | some o =>
    have e:=KX a o hk
    rw [ha] at e
    cases e
    refine core (fun _=>none) (fun _=>.inl rfl) (.inr ⟨_,vs.toArray,_,hk,rfl,rfl,rfl,by rw [List.size_toArray,lenV];exact hl,by simpa using rv⟩) (fun b u z=>by have z':(none:Option HO)=some u:=z;cases z') (fun b z=>absurd rfl z) fun z=>absurd rfl z
  | none =>
    refine core (fun b=>if b=a then some (.frz { cls:=.type "list",data:=.seq vs.toArray } (.lst (ns.map V.int))) else none) (fun b => ?_) (.inl (.inr ⟨{ cls:=.type "list",data:=.seq vs.toArray },if_pos rfl⟩)) (fun b u z => ?_) (fun b z => ?_) fun _=>hk
    · by_cases hb:b=a
      · exact .inr ⟨_,_,if_pos hb⟩
      · exact .inl (if_neg hb)
    · by_cases hb:b=a
      · have z':=(if_pos hb).symm.trans z
        cases z'
        subst hb
        exact⟨ha,by rw [List.length_map];exact hl,vs,_,rv,ha⟩
      · have z':=(if_neg hb).symm.trans z
        cases z'
    · by_cases hb:b=a
      · exact hb
      · exact absurd (if_neg hb) z
end L2
namespace L2
open PySem PySem.Spec PyProof.Rows
theorem Lu {l:PySem.W.OpenLaw}{n k:Nat}{q:Program}{loose:List Str}{XP:(Str→Option Value)→Heap→Prop}{YP:World→Heap→Prop}{d:DefRec}{K:Params→PySem.W.Frag}{CX:World→CXT}{sp:World→Sp}{x:Str}
    (hn:l.most=some n) (hn2:n≤sizeLine) (hdf:d.params.defaults=[]) (hr:ig k callerA)
    (hY:∀ (w:World) (h:Heap),YP w h→(K w.params).In h)
    (F:∀ (w:World) (mg:Str→Option Value) (fa:Addr) (h:Heap),(K w.params).In h→h.Ns mainGlobals mg→mg d.name=some (.ref fa) →
      ∃ fd:FuncData,(∀ (s:Shared) (u:Value),BindsTo s fd ⟨[u],[]⟩ [(x,u)]) ∧
        ∀ base:Heap,(K w.params).In base→base.Ns mainGlobals mg→cy l.prog w (K w.params) mg base (CX w) k fa fd [x] (sp w))
    (hsp:∀ (w:World) (H:Hp) (a:Addr) (ns:List Int),ns.length≤n→Oa H→SqL (K w.params) H a (ns.map V.int)→sp w [.ref a] H (fun v _=>v=.bl true) fun _ _ _=>False)
    (hCX:∀ (w:World) (H:Hp) (s:Shared) (e:Value) (s':Shared),CX w [] H s (fun _ _ _=>False) e s'→False) :
    PySem.W.WalkO q loose XP YP l.row.toRowW d [] (fun f vs=>PySem.call f vs):=by
  refine Att.attach_call hn hdf fun w s₀ s₁ mg mb fa o pm cd doc a vs ns G Y ho hd hcd hmg hobj hints hlen hg => ?_
  have KX:=hY w _ Y
  obtain⟨fd,hb,hF⟩:=F w mg fa _ KX G.T.g hmg
  exact Id KX G.T.g G.T.b G.T.builtins G.T.nolimit hg hobj hints (Nat.le_trans hlen hn2) hr hF hb (fun H hO hS=>hsp w H a ns hlen hO hS) fun H e s'=>hCX w H s₁ e s'
end L2
namespace L2
open PySem PySem.Spec PyProof.Rows
def aU (s:Stmt):Arguments:=match s with
  | .FunctionDef _ a _ _ _ _ _ _ _ _=>a
  | _=>{ posonlyargs:=[],args:=[],vararg:=none,kwonlyargs:=[],kw_defaults:=[],kwarg:=none,defaults:=[] }
def aK (s:Stmt):List Stmt:=match s with
  | .FunctionDef _ _ b _ _ _ _ _ _ _=>b
  | _=>[]
def ao (s:Stmt):Scope:=match s with
  | .FunctionDef _ _ _ _ _ _ sc _ _ _=>sc
  | _=>{ kind:=.function,names:=[],isGenerator:=false,isCoroutine:=false }
abbrev CX0:CXT:=fun _ _ _ _ _ _=>False
abbrev E0:XK:=fun _ _ _=>False
theorem P5 {X:Cx}:rS CX0 X E0:=fun _ _ _ _ _ _ _ h=>h.elim
structure Fun (K:PySem.W.Frag) (x qual:Str) (st:Stmt) (f:Addr) (fd:FuncData):Prop where
  ex:∃ (oc:Value) (od:Option Addr) (kV doc pm:Value) (an:Option Addr) (cdv ct:Value) (osl:Array (Option Value)),
    fd=PySem.W.fnOf x qual (aU st) (aK st) (ao st) .none kV doc pm an cdv ct∧K.lookup f=some ⟨oc,od,.func fd,osl⟩ ∧ PySem.W.codeIn K cdv qual=true
  kp:PySem.W.keepIn K (.ref f)=true
section
variable {P:Program} {w:World} {K:PySem.W.Frag} {mg:Str→Option Value} {base:Heap}
theorem Fun.ok {x qual:Str}{st:Stmt}{f:Addr}{fd:FuncData}{N ps:List Str}{k:Nat}{sp:Sp}(F:Fun K x qual st f fd)(S:aT N ps (ao st))(len:∀ vs H Q E,sp vs H Q E→vs.length=ps.length)
    (hbody:∀ (cdv:Value) (A:Around) (outer:List Env) (s:Shared) (H:Hp) (vs:List V) (Q:VK) (E:XK),ig k (A.deeper (envOfC qual (ao st) s.heap.objs.size f cdv))→sp vs H Q E →
      ∃ t,PSs (qK CX0 P w K mg base N qual (ao st) f cdv A outer s H E).nox (aK st) t∧t { nx:=fun _ H'=>Q .non H',rt:=Q } (kH N vs) H):cy P w K mg base CX0 (k + 1) f fd ps sp:=by
  obtain⟨oc,od,kV,doc,pm,an,cdv,ct,osl,rfl,lk,hcd⟩:=F.ex
  refine M6 lk hcd S len fun A outer s H vs Q E hr hsp => ?_
  obtain⟨t,h,q⟩:=hbody cdv A outer s H vs Q E hr hsp
  exact⟨t,h.nox,q⟩
theorem Fun.binds {x qual:Str}{st:Stmt}{f:Addr}{fd:FuncData}{ps:List Str}(F:Fun K x qual st f fd)
    (h:∀ (kV doc pm:Value) (an:Option Addr) (cdv ct:Value) (us:List Value),us.length=ps.length→bindArgs (PySem.W.fnOf x qual (aU st) (aK st) (ao st) .none kV doc pm an cdv ct) ⟨us,[]⟩ = pure (ps.zip us)):lZ K fd ps []:=by
  obtain⟨oc,od,kV,doc,pm,an,cdv,ct,osl,rfl,lk,hcd⟩:=F.ex
  exact .all (h kV doc pm an cdv ct)
theorem bF {x qual:Str}{st:Stmt}{f:Addr}{oc:Value}{od an:Option Addr}{osl:Array (Option Value)}{kV doc pm cdv ct:Value}(l:K.lookup f=some ⟨oc,od,.func (PySem.W.fnOf x qual (aU st) (aK st) (ao st) .none kV doc pm an cdv ct),osl⟩)
    (c:PySem.W.codeIn K cdv qual=true) (k:PySem.W.keepIn K (.ref f)=true):Fun K x qual st f (PySem.W.fnOf x qual (aU st) (aK st) (ao st) .none kV doc pm an cdv ct):=⟨⟨oc,od,kV,doc,pm,an,cdv,ct,osl,rfl,l,c⟩,k⟩
end
section
variable {X:Cx}
end
def jh (H H':Hp):Prop:=∀ b o,H b=some o→H' b=some o
theorem jh.refl (H:Hp):jh H H:=fun _ _ h=>h
end L2
set_option linter.all false
namespace L2
open PySem PySem.Spec
structure rW (h:Heap) (a D:Addr) (o:Obj):Prop where
  at_:h.get? a=some o
  cls:o.cls=.ref D
def rX (a C:Addr):HO:=.ext fun h=>∃ o,rW h a C o
end L2
namespace Fm
inductive D where
  | non|bl (b:Bool)|int (i:Int)|str (x:List Nat)|tup (l:List D)|ref (n:Nat)|lit (l:List D)|exn (c:String) (l:List D)
deriving Inhabited
inductive dk where
  | lst (l:List D)|dct (l:List (Int × D))
abbrev Hd:=List dk
inductive Res (α : Type) where
  | ok (a : α) (h:Hd)|exc (x:D) (h:Hd)|bad
def Res.bind {α β : Type} (r:Res α) (f : α → Hd→Res β):Res β := match r with
  | .ok a h=>f a h | .exc x h=>.exc x h | .bad=>.bad
@[simp] theorem aH {α β : Type} (a : α) (h:Hd) (f : α → Hd→Res β):(Res.ok a h).bind f=f a h:=rfl
abbrev Sd:=List (Option D)
abbrev EF:=Sd→Hd→Res D
abbrev TF:=Sd→Hd→Res Bool
abbrev LF:=Sd→Hd→Res (List D)
inductive Out where
  | nx (σ:Sd) (h:Hd)|rt (d:D) (h:Hd)|bk (σ:Sd) (h:Hd)|ct (σ:Sd) (h:Hd)|exc (x:D) (σ:Sd) (h:Hd)|bad
abbrev SF:=Sd→Hd→Out
abbrev Fn:=List D→Hd→Res D
abbrev SZ:Nat:=1000000
@[simp] def slot (σ:Sd) (i:Nat):Option D:=match σ[i]? with|some (some d)=>some d|_=>none
@[simp] def aa (i:Nat):EF:=fun σ h=>match slot σ i with|some d=>.ok d h|none=>.bad
@[simp] def fC (d:D):EF:=fun _ h=>.ok d h
abbrev O2:=D→D→Hd→Res D
@[simp] def aj (g:O2) (a b:EF):EF:=fun σ h=>(a σ h).bind fun x h=>(b σ h).bind fun y h=>g x y h
@[simp] def oI (g:Int→Int→Int):O2:=fun x y h=>match x,y with | .int i,.int j=>.ok (.int (g i j)) h|_,_=>.bad
@[simp] def oB (g:Int→Int→Bool):O2:=fun x y h=>match x,y with | .int i,.int j=>.ok (.bl (g i j)) h|_,_=>.bad
@[simp] def oIc (c:Int→Int→Bool) (g:Int→Int→Int):O2:=fun x y h=>match x,y with | .int i,.int j=>if c i j then .ok (.int (g i j)) h else .bad|_,_=>.bad
def sml (i:Int):Bool:=decide (-18446744073709551616 < i) && decide (i < 18446744073709551616)
@[simp] def dM:O2:=fun x y h=>match x,y with
  | .int i,.int j=>.ok (.int (i + j)) h
  | .tup (x :: xs),.tup ys=>if (x :: xs).length + ys.length≤SZ then .ok (.tup (x :: xs++ys)) h else .bad
  | _,_=>.bad
@[simp] def nF:O2:=fun x y h=>(oI (· - ·)) x y h
@[simp] def cz:O2:=fun x y h=>(oIc (fun i j=>sml i || sml j) (· * ·)) x y h
@[simp] def cI:O2:=fun x y h=>(oIc (fun _ j=>decide (0 < j)) (· % ·)) x y h
@[simp] def gQ:O2:=fun x y h=>(oIc (fun _ j=>decide (0 < j) && decide (j < 2 ^ 250)) (· / ·)) x y h
@[simp] def Q8:O2:=fun x y h=>(oIc (fun i j=>decide (0≤j) && decide (j≤1000000) && sml i) (fun i j=>i ^ j.toNat)) x y h
@[simp] def oLt:O2:=fun x y h=>(oB fun i j=>decide (i < j)) x y h
@[simp] def oLe:O2:=fun x y h=>(oB fun i j=>decide (i≤j)) x y h
@[simp] def oGt:O2:=fun x y h=>(oB fun i j=>decide (j < i)) x y h
@[simp] def Rn:D→Hd→Res D:=fun x h=>match x with | .int i=>.ok (.int (-i)) h|_=>.bad
@[simp] def rY:D→Bool | .non=>true|_=>false
@[simp] def nG:O2:=fun x y h=>if rY y then .ok (.bl (rY x)) h else .bad
@[simp] def iF:O2:=fun x y h=>if rY y then .ok (.bl (!rY x)) h else .bad
@[simp] def b2i (b:Bool):Int:=if b then 1 else 0
mutual
def peq:D→D→Option Bool
  | .int i,k=>match k with | .int j=>some (decide (i=j)) | .bl c=>some (decide (i=b2i c)) | .non=>some false | .tup _=>some false|_=>none
  | .bl c,k=>match k with | .int j=>some (decide (b2i c=j)) | .bl d=>some (decide (c=d))|_=>none
  | .str x,k=>match k with | .str y=>some (decide (x=y))|_=>none
  | .non,k=>match k with | .non=>some true | .int _=>some false | .tup _=>some false|_=>none
  | .tup xs,k=>match k with | .tup ys=>(fN xs ys).map fun b=>b && decide (xs.length=ys.length) | .non=>some false | .int _=>some false|_=>none
  | .ref _,_=>none
  | .lit _,_=>none
  | .exn _ _,_=>none
def fN:List D→List D→Option Bool
  | x :: xs,y :: ys=>match peq x y,fN xs ys with
    | some a,some b=>some (a && b)
    | _,_=>none
  | _,_=>some true
end
mutual
def dep:D→Nat
  | .tup l=>gn l + 1
  | _=>0
def gn:List D→Nat
  | []=>0
  | x :: xs=>max (dep x) (gn xs)
end
def eqL (xs ys:List D):Option Bool:=if gn xs≤20 then (if xs.length=ys.length then fN xs ys else some false) else none
@[simp] def gp (h:Hd):D→Option (List D)
  | .ref n=>match h[n]? with|some (.lst l)=>some l|_=>none
  | .lit l=>some l
  | _=>none
@[simp] def eqG (h:Hd) (x y:D):Option Bool:=match gp h x,gp h y with
  | some xs,some ys=>eqL xs ys
  | none,none=>if dep x≤20 then peq x y else none
  | _,_=>none
@[simp] def oEq:O2:=fun x y h=>match eqG h x y with|some b=>.ok (.bl b) h|none=>.bad
@[simp] def oNe:O2:=fun x y h=>match eqG h x y with|some b=>.ok (.bl (!b)) h|none=>.bad
@[simp] def asB (r:Res D):Res Bool:=r.bind fun x h=>match x with | .bl b=>.ok b h|_=>.bad
@[simp] def tE (a:EF):TF:=fun σ h=>asB (a σ h)
@[simp] def cK (t:TF):TF:=fun σ h=>(t σ h).bind fun b h=>.ok (!b) h
@[simp] def iR (t u:TF):TF:=fun σ h=>(t σ h).bind fun b h=>if b then u σ h else .ok false h
@[simp] def tOr (t u:TF):TF:=fun σ h=>(t σ h).bind fun b h=>if b then .ok true h else u σ h
@[simp] def fT (t:TF):EF:=fun σ h=>(t σ h).bind fun b h=>.ok (.bl b) h
@[simp] def fIf (t:TF) (a b:EF):EF:=fun σ h=>(t σ h).bind fun c h=>if c then a σ h else b σ h
@[simp] def rZ (g k:O2) (a b c:EF):EF:=fun σ h=>(a σ h).bind fun x h=>(b σ h).bind fun y h=>(g x y h).bind fun z h=>match z with
  | .bl true=>(c σ h).bind fun w h=>k y w h
  | .bl false=>.ok (.bl false) h
  | _=>.bad
@[simp] def ak:LF:=fun _ h=>.ok [] h
@[simp] def ad (a:EF) (r:LF):LF:=fun σ h=>(a σ h).bind fun x h=>(r σ h).bind fun xs h=>.ok (x :: xs) h
@[simp] def cS (r:LF):EF:=fun σ h=>(r σ h).bind fun xs h=>if xs.length≤SZ then .ok (.tup xs) h else .bad
@[simp] def aM (r:LF):EF:=fun σ h=>(r σ h).bind fun xs h=>if xs.length≤SZ then .ok (.ref h.length) (h++[.lst xs]) else .bad
@[simp] def l8 (h:Hd):D→Option (List D)
  | .tup l=>some l
  | .lit l=>some l
  | .ref n=>match h[n]? with|some (.lst l)=>some l|_=>none
  | _=>none
@[simp] def lOf (a:EF):LF:=fun σ h=>(a σ h).bind fun x h=>match l8 h x with|some l=>.ok l h|none=>.bad
def ixN (n:Nat) (i:Int):Option Nat:=if 0≤i then (if i < n then some i.toNat else none) else if -(n:Int)≤i then some (i + n).toNat else none
def atI (xs:List D) (i:Int):Option D:=(ixN xs.length i).bind fun j=>xs[j]?
@[simp] def fIx (a:LF) (b:EF):EF:=fun σ h=>(a σ h).bind fun l h=>(b σ h).bind fun y h=>match y with
  | .int i=>match atI l i with|some d=>.ok d h|none=>.bad
  | _=>.bad
@[simp] def oAt:O2:=fun x y h=>match l8 h x,y with
  | some l,.int i=>match atI l i with|some d=>.ok d h|none=>.bad
  | _,_=>.bad
@[simp] def fAt (a b:EF):EF:=fun σ h=>aj oAt a b σ h
@[simp] def cY (a:LF):EF:=fun σ h=>(a σ h).bind fun l h=>.ok (.int l.length) h
def gJ:List D→Option (List Int)
  | []=>some []
  | .int i :: r=>(gJ r).map (i :: ·)
  | _=>none
@[simp] def r6 (a:LF):EF:=fun σ h=>(a σ h).bind fun l h=>match gJ l with|some is=>.ok (.int is.sum) h|none=>.bad
def kI:List D→Option (List Bool)
  | []=>some []
  | .bl b :: r=>(kI r).map (b :: ·)
  | _=>none
@[simp] def Cn (a:LF):EF:=fun σ h=>(a σ h).bind fun l h=>match kI l with|some bs=>.ok (.bl (bs.all id)) h|none=>.bad
@[simp] def eP (a:LF):EF:=fun σ h=>(a σ h).bind fun l h=>.ok (.tup l) h
inductive Ty where|int|bool|tuple|list|str
deriving DecidableEq
@[simp] def Ak (h:Hd) (t:Ty):D→Option Bool
  | .non=>some false
  | .bl _=>some (t == .bool || t == .int)
  | .int _=>some (t == .int)
  | .str _=>some (t == .str)
  | .tup _=>some (t == .tuple)
  | .lit _=>some (t == .list)
  | .ref n=>match h[n]? with|some (.lst _)=>some (t == .list)|some (.dct _)=>some false|none=>none
  | .exn _ _=>none
@[simp] def ed (t:Ty) (a:EF):EF:=fun σ h=>(a σ h).bind fun x h=>match Ak h t x with|some b=>.ok (.bl b) h|none=>.bad
def sIx (n d:Nat):Option Int→Nat
  | none=>d
  | some i=>if i < 0 then (i + n).toNat else min i.toNat n
def cut (l:List D) (lo hi:Option Int):List D:=(l.drop (sIx l.length 0 lo)).take (sIx l.length l.length hi - sIx l.length 0 lo)
abbrev OF:=Sd→Hd→Res (Option Int)
@[simp] def pNo:OF:=fun _ h=>.ok none h
@[simp] def pAt (a:EF):OF:=fun σ h=>(a σ h).bind fun x h=>match x with | .int i=>.ok (some i) h|_=>.bad
@[simp] def cT (a:EF) (lo hi:OF):EF:=fun σ h=>(a σ h).bind fun x h=>(lo σ h).bind fun i h=>(hi σ h).bind fun j h=>match x with
  | .tup l=>if sIx l.length 0 i=0∧sIx l.length l.length j=l.length then .bad else .ok (.tup (cut l i j)) h
  | x=>match gp h x with|some l=>.ok (.ref h.length) (h++[.lst (cut l i j)])|none=>.bad
def cP:List Int→List Int→Bool
  | [],[]=>false
  | [],_ :: _=>true
  | _ :: _,[]=>false
  | x :: xs,y :: ys=>if x=y then cP xs ys else decide (x < y)
def qM:List D→Option (List (List Int))
  | []=>some []
  | .tup l :: r=>match gJ l,qM r with|some a,some b=>some (a :: b)|_,_=>none
  | _=>none
@[simp] def au (F:Fn) (r:LF):EF:=fun σ h=>(r σ h).bind fun xs h=>F xs h
abbrev IF:=Sd→Hd→Res (List D × Option Nat)
@[simp] def Ob (a:LF):IF:=fun σ h=>(a σ h).bind fun l h=>.ok (l,none) h
@[simp] def bL (a:EF):IF:=fun σ h=>(a σ h).bind fun x h=>match x with
  | .int n=>if -1000000≤n∧n≤1000000 then .ok ((List.range n.toNat).map (fun k:Nat=>.int k),none) h else .bad
  | _=>.bad
@[simp] def xX (a b:EF):IF:=fun σ h=>(a σ h).bind fun x h=>(b σ h).bind fun y h=>match x,y with
  | .int m,.int n=>if (-1000000≤m∧m≤1000000) ∧ -1000000≤n∧n≤1000000 then .ok ((List.range (n - m).toNat).map (fun k:Nat=>.int (m + k)),none) h else .bad
  | _,_=>.bad
@[simp] def ek (a:EF):IF:=fun σ h=>(a σ h).bind fun x h=>match x with
  | .tup l=>.ok (l,none) h
  | .lit l=>.ok (l,none) h
  | .ref n=>match h[n]? with|some (.lst l)=>.ok (l,some n) h|_=>.bad
  | _=>.bad
@[simp] def Ie (a:EF):IF:=fun σ h=>(a σ h).bind fun x h=>match x with
  | .tup l=>.ok ((List.range l.length).zip l |>.map fun p=>.tup [.int (p.1:Nat),p.2],none) h
  | _=>.bad
noncomputable section
open Classical
def kJ (g:Option Nat) (all:List D) (h:Hd):Prop:=match g with|none=>True|some n=>h[n]? = some (.lst all)
abbrev GF:=D→Sd→Option Sd
@[simp] def gN (i:Nat):GF:=fun d σ=>some (σ.set i (some d))
@[simp] def gT (l:List Nat):GF:=fun d σ=>match d with
  | .tup xs=>if xs.length=l.length then some ((l.zip xs).foldl (fun σ p => σ.set p.1 (some p.2)) σ) else none
  | _=>none
@[simp] def aC (a b:SF):SF:=fun σ h=>match a σ h with | .nx σ h=>b σ h|r=>r
@[simp] def bB:SF:=fun σ h=>.nx σ h
@[simp] def outE (r:Res D) (σ:Sd) (k:D→Hd→Out):Out:=match r with | .ok d h=>k d h | .exc x h=>.exc x σ h | .bad=>.bad
@[simp] def aE (g:GF) (a:EF):SF:=fun σ h=>outE (a σ h) σ fun d h=>match g d σ with|some σ=>.nx σ h|none=>.bad
@[simp] def bo (a:EF):SF:=fun σ h=>outE (a σ h) σ fun d h=>.rt d h
@[simp] def gq (a:EF):SF:=fun σ h=>outE (a σ h) σ fun _ h=>.nx σ h
@[simp] def sIf (t:TF) (a b:SF):SF:=fun σ h=>match t σ h with | .ok c h=>if c then a σ h else b σ h | .exc x h=>.exc x σ h | .bad=>.bad
def jL:SF:=fun _ _=>.bad
@[simp] def qN (x i e:EF):SF:=fun σ h=>outE (e σ h) σ fun d h=>outE (x σ h) σ fun p h=>outE (i σ h) σ fun j h=>match p,j with
  | .ref n,.int j=>match h[n]? with
    | some (.lst l)=>match ixN l.length j with
      | some k=>.nx σ (h.set n (.lst (l.set k d)))
      | none=>.bad
    | _=>.bad
  | _,_=>.bad
@[simp] def Oc:O2:=fun p d h=>match p with
  | .ref n=>match h[n]? with
    | some (.lst l)=>if l.length < SZ then .ok .non (h.set n (.lst (l++[d]))) else .bad
    | _=>.bad
  | _=>.bad
@[simp] def mP (x e:EF):EF:=fun σ h=>(x σ h).bind fun p h=>match p with
  | .ref n=>match h[n]? with
    | some (.lst _)=>(e σ h).bind fun d h=>Oc (.ref n) d h
    | _=>.bad
  | _=>.bad
def fO (g:Option Nat) (all:List D) (tg:GF) (b:SF):List D→SF
  | [],σ,h=>if kJ g all h then .nx σ h else .bad
  | x :: xs,σ,h=>if kJ g all h then match tg x σ with
      | some σ=>match b σ h with
        | .nx σ h=>fO g all tg b xs σ h
        | .ct σ h=>fO g all tg b xs σ h
        | .bk σ h=>.nx σ h
        | r=>r
      | none=>.bad
    else .bad
@[simp] def fm (it:IF) (tg:GF) (b:SF):SF:=fun σ h=>match it σ h with
  | .ok (l,g) h=>fO g l tg b l σ h
  | .exc x h=>.exc x σ h
  | .bad=>.bad
def eS (t:TF) (b:SF):Nat→SF
  | 0,_,_=>.bad
  | n + 1,σ,h=>match t σ h with
    | .ok true h=>match b σ h with
      | .nx σ h=>eS t b n σ h
      | .ct σ h=>eS t b n σ h
      | .bk σ h=>.nx σ h
      | r=>r
    | .ok false h=>.nx σ h
    | .exc x h=>.exc x σ h
    | .bad=>.bad
def Lv (t:TF) (b:SF):Sd→Hd→Nat:=fun σ h=>if ex:∃ n,eS t b n σ h ≠ .bad then Classical.choose ex else 0
def sd (t:TF) (b:SF):SF:=fun σ h=>eS t b (Lv t b σ h) σ h
@[simp] def kK:List TF→TF
  | [],_,h=>.ok true h
  | t :: r,σ,h=>(t σ h).bind fun b h=>if b then kK r σ h else .ok false h
def cX (g:Option Nat) (all:List D) (tg:GF) (cs:List TF) (e:EF):List D→Sd→Hd→Res (List D)
  | [],_,h=>if kJ g all h then .ok [] h else .bad
  | x :: xs,σ,h=>if kJ g all h then match tg x σ with
      | some σ=>(kK cs σ h).bind fun b h=>if b then (e σ h).bind fun d h=>(cX g all tg cs e xs σ h).bind fun ds h=>.ok (d :: ds) h
        else cX g all tg cs e xs σ h
      | none=>.bad
    else .bad
@[simp] def iS (nl:Nat) (caps:List Nat) (σ:Sd):Sd:=List.replicate nl none++caps.map fun i=>slot σ i
@[simp] def bJ (nl:Nat) (caps:List Nat) (it:IF) (tg:GF) (cs:List TF) (e:EF):LF:=fun σ h=>(it σ h).bind fun p h =>
  cX p.2 p.1 tg cs e p.1 (iS nl caps σ) h
mutual
def pure? : D→Bool
  | .ref _=>false
  | .tup l=>ij l
  | .lit l=>ij l
  | .exn _ l=>ij l
  | _=>true
def ij:List D→Bool
  | []=>true
  | x :: xs=>pure? x && ij xs
end
def Al:dk→Bool
  | .lst l=>ij l
  | .dct l=>l.all fun p=>pure? p.2
def Ig (h h':Hd):Prop:=∀ n c,n < h.length→h'[n]? = some c→h[n]? = some c∨Al c=true
def letGo (h:Hd) (r:Res D):Res D:=match r with
  | .ok d h'=>if pure? d=true∧Ig h h' then .ok d (h'.take h.length) else .ok d h'
  | r=>r
def runB (n:Nat) (b:SF):Fn:=fun ds h=>match b (ds.map some++List.replicate (n - ds.length) none) h with
  | .nx _ h=>.ok .non h
  | .rt d h=>.ok d h
  | .exc x _ h=>.exc x h
  | _=>.bad
def bP (np n:Nat) (b:SF):Fn:=fun ds h=>if ds.length=np then letGo h (runB n b ds h) else .bad
end
end Fm
set_option Elab.async false
set_option linter.all false
set_option maxRecDepth 100000
namespace Fm
open PySem PySem.Spec L2
def toS (x:List Nat):Str:=⟨x.toArray⟩
def qg (K:PySem.W.Frag) (H:Hp) (a:Addr) (xs:List V):Prop :=
  (∃ o,H a=some (.frz o (.lst xs))) ∨
    ∃ (o:Obj) (its:Array Value) (n:Nat),K.lookup a=some o∧o.cls=.type "list" ∧ o.dict=none∧o.data=.seq its n∧its.size≤sizeLine∧bg xs its.toList
section
variable (K:PySem.W.Frag) (ρ:List Addr) (H:Hp)
mutual
def RD:D→V→Prop
  | .non,v=>v=.non
  | .bl b,v=>v=.bl b
  | .int i,v=>v=.int i
  | .str x,v=>v=.str (toS x)
  | .tup l,v=>∃ p vs,v=.ref p∧H p=some (.tup vs)∧RDs l vs
  | .lit l,v=>∃ p vs,v=.ref p∧qg K H p vs∧RDs l vs
  | .ref n,v=>∃ a,ρ[n]? = some a∧v=.ref a
  | .exn c l,v=>l=[] ∧ ∃ a C,v=.ref a∧H a=some (rX a C)∧PySem.W.nsIn K mainGlobals (Str.ofString c)=some (some (.ref C))
def RDs:List D→List V→Prop
  | [],vs=>vs=[]
  | d :: ds,vs=>∃ v r,vs=v :: r∧RD d v∧RDs ds r
end
def RC:dk→Addr→Prop
  | .lst l,a=>∃ vs,H a=some (.lst vs)∧RDs K ρ H l vs
  | .dct l,a=>∃ kvs,H a=some (.dK kvs)∧kvs.map (·.1)=l.map (fun p=>(Sum.inl p.1:Key))∧RDs K ρ H (l.map (·.2)) (kvs.map (·.2))
structure RH (hd:Hd):Prop where
  len : ρ.length=hd.length
  nd : ρ.Nodup
  cel:∀ (n:Nat) c a,hd[n]? = some c → ρ[n]? = some a→RC K ρ H c a
structure RSt (σd:Sd) (σ:St):Prop where
  len : σd.length = σ.length
  at':∀ i d,slot σd i=some d → ∃ v,σ[i]? = some (some v)∧RD K ρ H d v
structure RS (σd:Sd) (hd:Hd) (σ:St):Prop where
  hp:RH K ρ H hd
  st:RSt K ρ H σd σ
end
structure Ext (ρ:List Addr) (H:Hp) (ρ':List Addr) (H':Hp):Prop where
  pre:∃ t,ρ' = ρ ++ t
  new:∀ a ∈ ρ',a ∈ ρ ∨H a=none
  frame:∀ p o,H p=some o→p ∉ ρ → H' p=some o
section
variable {K:PySem.W.Frag} {ρ ρ' ρ'':List Addr} {H H' H'':Hp} {hd hd':Hd} {σd σd':Sd} {σ σ':St}
theorem Ext.refl:Ext ρ H ρ H:=⟨⟨[],by simp⟩,fun _ h=>.inl h,fun _ _ h _=>h⟩
theorem Ext.out (e:Ext ρ H ρ' H'){p:Addr}{o:HO}(h:H p=some o)(n:p ∉ ρ):p ∉ ρ':=fun z=>by
  rcases e.new p z with q|q
  · exact n q
  · rw [h] at q;cases q
theorem Ext.trans (a:Ext ρ H ρ' H')(b:Ext ρ' H' ρ'' H''):Ext ρ H ρ'' H'' where
  pre:=by
    obtain⟨t,rfl⟩:=a.pre
    obtain⟨u,rfl⟩:=b.pre
    exact⟨t++u,by simp⟩
  new:=fun x hx=>by
    rcases b.new x hx with q|q
    · exact a.new x q
    · cases e:H x with
      | none=>exact .inr rfl
      | some o =>
        by_cases hn:x ∈ ρ
        · exact .inl hn
        · rw [a.frame x o e hn] at q;cases q
  frame:=fun p o h n=>b.frame p o (a.frame p o h n) (a.out h n)
theorem Ext.same (s:jh H H'):Ext ρ H ρ H':=⟨⟨[],by simp⟩,fun _ h=>.inl h,fun p o h _=>s p o h⟩
theorem Ext.get (e:Ext ρ H ρ' H'){n:Nat}{a:Addr}(h : ρ[n]? = some a) : ρ'[n]? = some a:=by
  obtain⟨t,rfl⟩:=e.pre
  rw [List.getElem?_append_left (List.getElem?_eq_some_iff.mp h).1]
  exact h
theorem RH.mut (r:RH K ρ H hd){a:Addr}(h:a ∈ ρ):(∃ vs,H a=some (.lst vs)) ∨ ∃ kvs,H a=some (.dK kvs):=by
  obtain⟨n,hn⟩:=List.getElem?_of_mem h
  have hl:=(List.getElem?_eq_some_iff.mp hn).1
  have hc:hd[n]? = some (hd[n]'(by rw [← r.len];exact hl)):=by simp
  have q:=r.cel n _ a hc hn
  cases e:hd[n]'(by rw [← r.len];exact hl) with
  | lst l=>rw [e] at q;obtain⟨vs,h1,_⟩:=q;exact .inl ⟨vs,h1⟩
  | dct l=>rw [e] at q;obtain⟨vs,h1,_⟩:=q;exact .inr ⟨vs,h1⟩
theorem RH.noTup (r:RH K ρ H hd){a:Addr}{vs:List V}(h:H a=some (.tup vs)):a ∉ ρ:=fun z=>by
  rcases r.mut z with ⟨_,q⟩|⟨_,q⟩<;>(rw [h] at q;cases q)
theorem RH.noFrz (r:RH K ρ H hd){a:Addr}{o:Obj}{u:HO}(h:H a=some (.frz o u)):a ∉ ρ:=fun z=>by
  rcases r.mut z with ⟨_,q⟩|⟨_,q⟩<;>(rw [h] at q;cases q)
theorem RH.noExt (r:RH K ρ H hd){a:Addr}{φ : Heap→Prop}(h:H a=some (.ext φ)):a ∉ ρ:=fun z=>by
  rcases r.mut z with ⟨_,q⟩|⟨_,q⟩<;>(rw [h] at q;cases q)
structure Kp (ρ:List Addr) (H:Hp) (ρ':List Addr) (H':Hp):Prop where
  get:∀ (n:Nat) a,ρ[n]? = some a → ρ'[n]? = some a
  tup:∀ a vs,H a=some (.tup vs)→H' a=some (.tup vs)
  frz:∀ a o u,H a=some (.frz o u)→H' a=some (.frz o u)
  ext:∀ a φ,H a=some (.ext φ)→H' a=some (.ext φ)
theorem RH.kp (r:RH K ρ H hd)(e:Ext ρ H ρ' H'):Kp ρ H ρ' H' :=
  ⟨fun _ _ h=>e.get h,fun _ _ h=>e.frame _ _ h (r.noTup h),fun _ _ _ h=>e.frame _ _ h (r.noFrz h),fun _ _ h=>e.frame _ _ h (r.noExt h)⟩
theorem Kp.same (s:jh H H'):Kp ρ H ρ H':=⟨fun _ _ h=>h,fun _ _ h=>s _ _ h,fun _ _ _ h=>s _ _ h,fun _ _ h=>s _ _ h⟩
theorem qg.mono {a:Addr}{xs:List V}(k:Kp ρ H ρ' H')(h:qg K H a xs):qg K H' a xs:=by
  rcases h with ⟨o,h⟩|h
  · exact .inl ⟨o,k.frz _ _ _ h⟩
  · exact .inr h
mutual
theorem RD.mono (k:Kp ρ H ρ' H'):∀ {d:D} {v:V},RD K ρ H d v→RD K ρ' H' d v
  | .non,_,h=>by simp only [RD] at h ⊢;exact h
  | .bl _,_,h=>by simp only [RD] at h ⊢;exact h
  | .int _,_,h=>by simp only [RD] at h ⊢;exact h
  | .str _,_,h=>by simp only [RD] at h ⊢;exact h
  | .tup l,_,h=>by
    simp only [RD] at h ⊢
    obtain⟨p,vs,e,h1,h2⟩:=h
    exact⟨p,vs,e,k.tup _ _ h1,RDs.mono k h2⟩
  | .lit l,_,h=>by
    simp only [RD] at h ⊢
    obtain⟨p,vs,e,h1,h2⟩:=h
    exact⟨p,vs,e,h1.mono k,RDs.mono k h2⟩
  | .ref n,_,h=>by
    simp only [RD] at h ⊢
    obtain⟨a,h1,h2⟩:=h
    exact⟨a,k.get _ _ h1,h2⟩
  | .exn _ _,_,h=>by
    simp only [RD] at h ⊢
    obtain⟨e0,a,C,e,h1,h2⟩:=h
    exact⟨e0,a,C,e,k.ext _ _ h1,h2⟩
theorem RDs.mono (k:Kp ρ H ρ' H'):∀ {l:List D} {vs:List V},RDs K ρ H l vs→RDs K ρ' H' l vs
  | [],_,h=>by simp only [RDs] at h ⊢;exact h
  | d :: ds,_,h=>by
    simp only [RDs] at h ⊢
    obtain⟨v,r,e,h1,h2⟩:=h
    exact⟨v,r,e,RD.mono k h1,RDs.mono k h2⟩
end
theorem RDs.nil:RDs K ρ H [] []:=by simp only [RDs]
theorem RDs.cons {d:D}{v:V}{ds:List D}{vs:List V}(h:RD K ρ H d v)(t:RDs K ρ H ds vs):RDs K ρ H (d :: ds) (v :: vs):=by
  simp only [RDs];exact⟨v,vs,rfl,h,t⟩
theorem RDs.length:∀ {l:List D} {vs:List V},RDs K ρ H l vs→l.length=vs.length
  | [],_,h=>by simp only [RDs] at h;subst h;rfl
  | d :: ds,_,h=>by
    simp only [RDs] at h
    obtain⟨v,r,e,h1,h2⟩:=h
    subst e
    simp [RDs.length h2]
theorem RDs.get:∀ {l:List D} {vs:List V} {i:Nat} {d:D},RDs K ρ H l vs→l[i]? = some d → ∃ v,vs[i]? = some v∧RD K ρ H d v
  | [],_,i,_,_,e=>by simp at e
  | d :: ds,_,0,_,h,e=>by
    simp only [RDs] at h
    obtain⟨v,r,e',h1,h2⟩:=h
    subst e'
    simp at e
    subst e
    exact⟨v,rfl,h1⟩
  | d :: ds,_,i + 1,x,h,e=>by
    simp only [RDs] at h
    obtain⟨v,r,e',h1,h2⟩:=h
    subst e'
    obtain⟨w,hw,q⟩:=RDs.get (i:=i) (d:=x) h2 (by simpa using e)
    exact⟨w,by simpa using hw,q⟩
theorem RDs.set {d:D}{v:V}(h:RD K ρ H d v):∀ {l:List D} {vs:List V} (i:Nat),RDs K ρ H l vs→RDs K ρ H (l.set i d) (vs.set i v)
  | [],_,_,q=>by simp only [RDs] at q;subst q;exact RDs.nil
  | x :: xs,_,i,q=>by
    simp only [RDs] at q
    obtain⟨w,r,e,h1,h2⟩:=q
    subst e
    cases i with
    | zero=>exact RDs.cons h h2
    | succ i=>exact RDs.cons h1 (RDs.set h i h2)
theorem RDs.append:∀ {l l':List D} {vs vs':List V},RDs K ρ H l vs→RDs K ρ H l' vs'→RDs K ρ H (l++l') (vs++vs')
  | [],_,_,_,h,q=>by simp only [RDs] at h;subst h;exact q
  | d :: ds,_,_,_,h,q=>by
    simp only [RDs] at h
    obtain⟨v,r,e,h1,h2⟩:=h
    subst e
    exact RDs.cons h1 (RDs.append h2 q)
theorem RDs.take:∀ {l:List D} {vs:List V} (n:Nat),RDs K ρ H l vs→RDs K ρ H (l.take n) (vs.take n)
  | _,_,0,_=>by simp;exact RDs.nil
  | [],_,n + 1,h=>by simp only [RDs] at h;subst h;exact RDs.nil
  | d :: ds,_,n + 1,h=>by
    simp only [RDs] at h
    obtain⟨v,r,e,h1,h2⟩:=h
    subst e
    exact RDs.cons h1 (RDs.take n h2)
theorem RDs.drop:∀ {l:List D} {vs:List V} (n:Nat),RDs K ρ H l vs→RDs K ρ H (l.drop n) (vs.drop n)
  | _,_,0,h=>by simpa using h
  | [],_,n + 1,h=>by simp only [RDs] at h;subst h;exact RDs.nil
  | d :: ds,_,n + 1,h=>by
    simp only [RDs] at h
    obtain⟨v,r,e,h1,h2⟩:=h
    subst e
    simpa using RDs.drop n h2
theorem RC.mono {c:dk}{a:Addr}(k:Kp ρ H ρ' H')(e:H' a=H a)(h:RC K ρ H c a):RC K ρ' H' c a:=by
  cases c with
  | lst l=>obtain⟨vs,h1,h2⟩:=h;exact⟨vs,e.trans h1,h2.mono k⟩
  | dct l=>obtain⟨vs,h1,h2,h3⟩:=h;exact⟨vs,e.trans h1,h2,h3.mono k⟩
theorem RH.same (r:RH K ρ H hd)(s:jh H H'):RH K ρ H' hd :=
  ⟨r.len,r.nd,fun n c a h1 h2=>(r.cel n c a h1 h2).mono (Kp.same s) (by
    rcases r.mut (List.mem_of_getElem? h2) with ⟨_,q⟩|⟨_,q⟩<;>rw [q,s _ _ q])⟩
theorem RSt.mono (k:Kp ρ H ρ' H')(r:RSt K ρ H σd σ):RSt K ρ' H' σd σ :=
  ⟨r.len,fun i d h=>let ⟨v,h1,h2⟩:=r.at' i d h;⟨v,h1,h2.mono k⟩⟩
theorem RS.same (r:RS K ρ H σd hd σ)(s:jh H H'):RS K ρ H' σd hd σ:=⟨r.hp.same s,r.st.mono (Kp.same s)⟩
theorem cu {p:Addr}{o:HO}(h:H p=none):jh H (upd H p o):=fun b u e=>by
  rw [aF (bD e h)];exact e
theorem RH.alloc (r:RH K ρ H hd){p:Addr}{l:List D}{vs:List V}(hp:H p=some (.lst vs))(hn:p ∉ ρ)(h:RDs K ρ H l vs):RH K (ρ ++ [p]) H (hd++[.lst l]):=by
  have k:Kp ρ H (ρ ++ [p]) H:=⟨fun n a e=>by rw [List.getElem?_append_left (List.getElem?_eq_some_iff.mp e).1];exact e,fun _ _ h=>h,fun _ _ _ h=>h,fun _ _ h=>h⟩
  refine⟨by simp [r.len],?_,fun n c a h1 h2 => ?_⟩
  · rw [List.nodup_append]
    exact⟨r.nd,by simp,fun a ha b hb=>by simp at hb;subst hb;intro e;subst e;exact hn ha⟩
  · by_cases hlt:n < hd.length
    · rw [List.getElem?_append_left hlt] at h1
      rw [List.getElem?_append_left (by rw [r.len];exact hlt)] at h2
      exact (r.cel n c a h1 h2).mono k rfl
    · have e1:n=hd.length:=by
        have:=(List.getElem?_eq_some_iff.mp h1).1
        simp at this
        omega
      subst e1
      simp at h1
      subst h1
      rw [← r.len] at h2
      simp at h2
      subst h2
      exact⟨vs,hp,h.mono k⟩
theorem se {α : Type}:∀ {l:List α},l.Nodup → ∀ {i j:Nat} {x : α},l[i]? = some x→l[j]? = some x→i=j
  | [],_,i,_,_,e,_=>by simp at e
  | a :: l,nd,0,0,_,_,_=>rfl
  | a :: l,nd,0,j + 1,x,e,e'=>by
    simp at e e'
    subst e
    exact absurd (List.mem_of_getElem? e') (List.nodup_cons.mp nd).1
  | a :: l,nd,i + 1,0,x,e,e'=>by
    simp at e e'
    subst e'
    exact absurd (List.mem_of_getElem? e) (List.nodup_cons.mp nd).1
  | a :: l,nd,i + 1,j + 1,x,e,e'=>by
    simp at e e'
    rw [se (List.nodup_cons.mp nd).2 e e']
theorem RH.write (r:RH K ρ H hd){n:Nat}{p:Addr}{l:List D}{vs:List V}(hp : ρ[n]? = some p)(hn:n < hd.length)(h:RDs K ρ H l vs):RH K ρ (upd H p (.lst vs)) (hd.set n (.lst l)):=by
  have k:Kp ρ H ρ (upd H p (.lst vs)):=by
    have hm:=List.mem_of_getElem? hp
    refine⟨fun _ _ h=>h,fun a us e => ?_,fun a o u e => ?_,fun a φ e => ?_⟩
    · rw [aF (fun z=>r.noTup e (by rw [z];exact hm))];exact e
    · rw [aF (fun z=>r.noFrz e (by rw [z];exact hm))];exact e
    · rw [aF (fun z=>r.noExt e (by rw [z];exact hm))];exact e
  refine⟨by simp [r.len],r.nd,fun m c a h1 h2 => ?_⟩
  by_cases e:n=m
  · subst e
    rw [List.getElem?_set_self hn] at h1
    cases h1
    rw [hp] at h2
    cases h2
    exact⟨vs,bh,h.mono k⟩
  · rw [List.getElem?_set_ne e] at h1
    have ne:a≠p:=fun z=>by
      subst z
      exact e (se r.nd hp h2)
    exact (r.cel m c a h1 h2).mono k (aF ne)
theorem Ext.write {p:Addr}{o:HO}(hp:p ∈ ρ):Ext ρ H ρ (upd H p o) :=
  ⟨⟨[],by simp⟩,fun _ h=>.inl h,fun q u e n=>by rw [aF (fun z=>n (by rw [z];exact hp))];exact e⟩
theorem Ext.alloc {p:Addr}(h:H p=none){o:HO}:Ext ρ H (ρ ++ [p]) (upd H p o) :=
  ⟨⟨[p],rfl⟩,fun a ha=>by
    rcases List.mem_append.mp ha with q|q
    · exact .inl q
    · simp at q;subst q;exact .inr h,fun q u e _=>cu h q u e⟩
theorem RS.ext (r:RS K ρ H σd hd σ)(e:Ext ρ H ρ' H')(h:RH K ρ' H' hd'):RS K ρ' H' σd hd' σ:=⟨h,r.st.mono (r.hp.kp e)⟩
end
end Fm
set_option Elab.async false
set_option linter.all false
set_option maxRecDepth 100000
namespace Fm
open PySem PySem.Spec L2
abbrev VR (α β : Type):=List Addr→Hp → α → β → Prop
section
variable (K:PySem.W.Frag)
def bR {α β : Type} (R:VR α β) (ρ:List Addr) (H:Hp) (σd:Sd) (σ:St) (r:Res α) (Q : β → Hp→Prop):Prop:=match r with
  | .ok a hd'=>∀ b H' ρ',Ext ρ H ρ' H'→RS K ρ' H' σd hd' σ → R ρ' H' a b→Q b H'
  | _=>False
def lV {α β : Type} (R:VR α β) (f:Sd→Hd→Res α):St→Hp→(β → Hp→Prop)→Prop:=fun σ H Q =>
  ∃ ρ σd hd,RS K ρ H σd hd σ ∧ bR K R ρ H σd σ (f σd hd) Q
abbrev rD:VR D V:=fun ρ H d v=>RD K ρ H d v
abbrev rDs:VR (List D) (List V):=fun ρ H d v=>RDs K ρ H d v
abbrev rB:VR Bool Bool:=fun _ _ a b=>a=b
abbrev rO:VR (Option Int) (Option Int):=fun _ _ a b=>a=b
def rQ:VR (List D) V:=fun ρ H l v=>∃ p vs,v=.ref p∧(SqL K H p vs∨H p=some (.tup vs))∧RDs K ρ H l vs
def Am (ρ:List Addr) (H:Hp) (σd:Sd) (σ:St) (r:Res (List D)) (Q:VK):Prop:=match r with
  | .ok l hd'=>∀ q vs H' ρ',Ext ρ H ρ' H'→RS K ρ' H' σd hd' σ → H q=none→H' q=some (.lst vs)→q ∉ ρ'→RDs K ρ' H' l vs→Q (.ref q) H'
  | _=>False
def P6 (f:LF):TE:=fun σ H Q=>∃ ρ σd hd,RS K ρ H σd hd σ ∧ Am K ρ H σd σ (f σd hd) Q
def bZ (ρ:List Addr) (H:Hp) (o:Out) (E:rL):Prop:=match o with
  | .nx σd hd=>∀ σ H' ρ',Ext ρ H ρ' H'→RS K ρ' H' σd hd σ → E.nx σ H'
  | .bk σd hd=>∀ σ H' ρ',Ext ρ H ρ' H'→RS K ρ' H' σd hd σ → E.bk σ H'
  | .ct σd hd=>∀ σ H' ρ',Ext ρ H ρ' H'→RS K ρ' H' σd hd σ → E.ct σ H'
  | .rt d hd=>∀ v H' ρ',Ext ρ H ρ' H'→RH K ρ' H' hd→RD K ρ' H' d v→E.rt v H'
  | _=>False
def M9 (f:SF):TS:=fun E σ H=>∃ ρ σd hd,RS K ρ H σd hd σ ∧ bZ K ρ H (f σd hd) E
end
def ME (X:Cx) (e:Expr) (f:EF):Prop:=PE X e (lV X.K (rD X.K) f)
def MQ (X:Cx) (e:Expr) (f:LF):Prop:=PE X e (lV X.K (rQ X.K) f)
def MF (X:Cx) (e:Expr) (f:LF):Prop:=PE X e (P6 X.K f)
def MT (X:Cx) (e:Expr) (f:TF):Prop:=PT X e (lV X.K rB f)
def MW (X:Cx) (e:Expr) (f:TF):Prop:=PW X e (lV X.K rB f)
def MA (X:Cx) (es:List Expr) (f:LF):Prop:=PA X es (lV X.K (rDs X.K) f)
def MS (X:Cx) (s:Stmt) (f:SF):Prop:=PS X s (M9 X.K f)
def MSs (X:Cx) (s:List Stmt) (f:SF):Prop:=PSs X s (M9 X.K f)
section
variable {X:Cx}
theorem PE.imp {e:Expr}{t u:TE}(h:PE X e t)(i:∀ σ H Q,u σ H Q→t σ H Q):PE X e u:=fun pins s σ H Q I q=>h pins s σ H Q I (i σ H Q q)
theorem PT.imp {e:Expr}{t u:TT}(h:PT X e t)(i:∀ σ H Q,u σ H Q→t σ H Q):PT X e u:=fun pins s σ H Q I q=>h pins s σ H Q I (i σ H Q q)
theorem PW.imp {e:Expr}{t u:TT}(h:PW X e t)(i:∀ σ H Q,u σ H Q→t σ H Q):PW X e u:=fun w pins s σ H Q I q=>h w pins s σ H Q I (i σ H Q q)
theorem PA.imp {e:List Expr}{t u:TA}(h:PA X e t)(i:∀ σ H Q,u σ H Q→t σ H Q):PA X e u:=fun p pins s σ H Q I q=>h p pins s σ H Q I (i σ H Q q)
theorem PS.imp {e:Stmt}{t u:TS}(h:PS X e t)(i:∀ D σ H,u D σ H→t D σ H):PS X e u:=fun pins s σ H D I q=>h pins s σ H D I (i D σ H q)
theorem PSs.imp {e:List Stmt}{t u:TS}(h:PSs X e t)(i:∀ D σ H,u D σ H→t D σ H):PSs X e u:=fun pins s σ H D I q=>h pins s σ H D I (i D σ H q)
end
section
variable {K:PySem.W.Frag} {ρ ρ':List Addr} {H H':Hp} {hd hd':Hd} {σd:Sd} {σ:St} {α β α' β':Type} {R:VR α β} {R':VR α' β'}
theorem bR.here {a : α}{b : β}{Q : β → Hp→Prop}(h:bR K R ρ H σd σ (.ok a hd) Q)(r:RS K ρ H σd hd σ)(q:R ρ H a b):Q b H:=h b H ρ Ext.refl r q
theorem bR.at {a : α}{b : β}{Q : β → Hp→Prop}(h:bR K R ρ H σd σ (.ok a hd) Q)(e:Ext ρ H ρ' H')(r:RS K ρ' H' σd hd σ)(q:R ρ' H' a b):Q b H':=h b H' ρ' e r q
theorem bR.imp {r:Res α}{Q Q' : β → Hp→Prop}(h:bR K R ρ H σd σ r Q)(i:∀ b H',Q b H'→Q' b H'):bR K R ρ H σd σ r Q':=by
  cases r with
  | ok a h'=>exact fun b H' ρ' e s q=>i b H' (h b H' ρ' e s q)
  | exc x h'=>exact h
  | bad=>exact h
theorem bR.ext {r:Res α}{Q : β → Hp→Prop}(e:Ext ρ H ρ' H')(h:bR K R ρ H σd σ r Q):bR K R ρ' H' σd σ r Q:=by
  cases r with
  | ok a h'=>exact fun b H'' ρ'' e' s q=>h b H'' ρ'' (e.trans e') s q
  | exc x h'=>exact h
  | bad=>exact h
theorem bR.bind {r:Res α}{k : α → Hd→Res α'}{Q : β'→Hp→Prop}(h:bR K R' ρ H σd σ (r.bind k) Q) :
    bR K R ρ H σd σ r (fun b H'=>∃ ρ' a hd',Ext ρ H ρ' H'∧RS K ρ' H' σd hd' σ ∧ R ρ' H' a b∧bR K R' ρ' H' σd σ (k a hd') Q):=by
  cases r with
  | ok a h'=>exact fun b H' ρ' e s q=>⟨ρ',a,h',e,s,q,bR.ext e h⟩
  | exc x h'=>exact h
  | bad=>exact h
theorem bZ.ext {o:Out}{E:rL}(e:Ext ρ H ρ' H')(h:bZ K ρ H o E):bZ K ρ' H' o E:=by
  cases o with
  | nx σ h'=>exact fun σ' H'' ρ'' e' s=>h σ' H'' ρ'' (e.trans e') s
  | bk σ h'=>exact fun σ' H'' ρ'' e' s=>h σ' H'' ρ'' (e.trans e') s
  | ct σ h'=>exact fun σ' H'' ρ'' e' s=>h σ' H'' ρ'' (e.trans e') s
  | rt d h'=>exact fun v H'' ρ'' e' s q=>h v H'' ρ'' (e.trans e') s q
  | exc x σ h'=>exact h
  | bad=>exact h
end
section
variable {X:Cx} {pos:Pos}
theorem Od {i:Nat} {x:Str} (hN:X.N[i]? = some x) (hv:Vis X.env.scope x) (hd:(x == ("__debug__" : Str))=false:=by decide) (hcd:(x == ("__classdict__" : Str))=false:=by decide):ME X (.Name x pos) (aa i):=by
  refine PE.imp (HK hN hv hd hcd) fun σ H Q ⟨ρ,σd,hd,r,h⟩ => ?_
  unfold aa at h
  cases e:slot σd i with
  | none=>rw [e] at h;exact h.elim
  | some d =>
    rw [e] at h
    obtain⟨v,h1,h2⟩:=r.st.at' i d e
    exact⟨v,h1,h.here r h2⟩
theorem sf {K:PySem.W.Frag}{d:D}{v:V}(hv:∀ ρ H,RD K ρ H d v):∀ σ H Q,lV K (rD K) (fC d) σ H Q→tC v σ H Q:=fun _ H _ ⟨ρ,_,_,r,h⟩=>h.here r (hv ρ H)
theorem ar {i:Int}{j}:ME X (.Constant (.int i) j pos) (fC (.int i)):=PE.imp HL (sf fun _ _=>by simp only [RD])
theorem kq {b j}:ME X (.Constant (.bool b) j pos) (fC (.bl b)):=PE.imp Pz (sf fun _ _=>by simp only [RD])
theorem df {j}:ME X (.Constant .none j pos) (fC .non):=PE.imp Nw (sf fun _ _=>by simp only [RD])
theorem Ih {x:Str}{j}(l:List Nat)(h:x=toS l):ME X (.Constant (.str x) j pos) (fC (.str l)):=PE.imp HM (sf fun _ _=>by simp only [RD];rw [h])
theorem An {x:Str} {i:Int} {t:Tok} (hg:Gl X x) (hm:X.mg x=some (.int i t)) (hd:(x == ("__debug__" : Str))=false:=by decide):ME X (.Name x pos) (fC (.int i)) :=
  PE.imp (gc (v:=.int i) hg hm ⟨t,rfl⟩ hd) (sf fun _ _=>by simp only [RD])
theorem me2 {a b:Expr}{fa fb:EF}{r:R2}{g:O2}{e:Expr}(h:PE X e (tOp r (lV X.K (rD X.K) fa) (lV X.K (rD X.K) fb)))
    (hg:∀ ρ H σd hd σ d k v w Q,RS X.K ρ H σd hd σ → RD X.K ρ H d v→RD X.K ρ H k w→bR X.K (rD X.K) ρ H σd σ (g d k hd) Q→r v w H Q):ME X e (aj g fa fb):=by
  refine PE.imp h fun σ H Q ⟨ρ,σd,hd,rs,p⟩ => ?_
  refine⟨ρ,σd,hd,rs,(bR.bind (R:=rD X.K) p).imp fun v H1 ⟨ρ1,d,hd1,e1,rs1,rv,p1⟩ => ?_⟩
  refine⟨ρ1,σd,hd1,rs1,(bR.bind (R:=rD X.K) p1).imp fun w H2 ⟨ρ2,k,hd2,e2,rs2,rw',p2⟩ => ?_⟩
  exact hg ρ2 H2 σd hd2 σ d k v w Q rs2 (rv.mono (rs1.hp.kp e2)) rw' p2
def Og (K:PySem.W.Frag) (g:O2) (r:R2):Prop:=∀ ρ H σd hd σ d k v w Q,RS K ρ H σd hd σ → RD K ρ H d v→RD K ρ H k w→bR K (rD K) ρ H σd σ (g d k hd) Q→r v w H Q
theorem aX {a b:Expr}{fa fb:EF}{op:Operator}{r:R2}{g:O2}(ho:OpR X (binaryOp op) r)(hg:Og X.K g r)(ha:ME X a fa)(hb:ME X b fb):ME X (.BinOp a op b pos) (aj g fa fb) :=
  me2 (a:=a) (b:=b) (HW ho ha hb) hg
theorem ik {a b:Expr}{fa fb:EF}{op:CmpOp}{r:R2}{g:O2}(ho:OpR X (compareOp op) r)(hg:Og X.K g r)(ha:ME X a fa)(hb:ME X b fb)(hm:behindInMarks op b=false):ME X (.Compare a [op] [b] pos) (aj g fa fb) :=
  me2 (a:=a) (b:=b) (Li ho ha hb hm) hg
theorem Co {K:PySem.W.Frag}{g:Int→Int→Int}:Og K (oI g) (rI0 fun i j=>.int (g i j)):=by
  intro ρ H σd hd σ d k v w Q rs rv rw' p
  cases d<;>cases k<;>first|exact p.elim|skip
  simp only [RD] at rv rw'
  exact⟨_,_,rv,rw',p.here rs (by simp only [rD,RD])⟩
theorem Ao {K:PySem.W.Frag}{g:Int→Int→Bool}:Og K (oB g) (rI0 fun i j=>.bl (g i j)):=by
  intro ρ H σd hd σ d k v w Q rs rv rw' p
  cases d<;>cases k<;>first|exact p.elim|skip
  simp only [RD] at rv rw'
  exact⟨_,_,rv,rw',p.here rs (by simp only [rD,RD])⟩
theorem Ii {K:PySem.W.Frag}{c:Int→Int→Bool}{C:Int→Int→Prop}{g:Int→Int→Int}(hc:∀ i j,c i j=true→C i j):Og K (oIc c g) (rI C fun i j=>.int (g i j)):=by
  intro ρ H σd hd σ d k v w Q rs rv rw' p
  cases d<;>cases k<;>first|exact p.elim|skip
  rename_i i j
  simp only [RD] at rv rw'
  cases e:c i j with
  | false=>simp only [oIc,e] at p;exact p.elim
  | true =>
    simp only [oIc,e,if_true] at p
    exact⟨i,j,rv,rw',hc i j e,p.here rs (by simp only [rD,RD])⟩
theorem EG {i:Int}(h:sml i=true) : -(2 ^ 64) < i∧i < 2 ^ 64:=by
  simp only [sml,Bool.and_eq_true,decide_eq_true_eq] at h;exact h
theorem fP {K:PySem.W.Frag}:Og K cz (rI Lh fun i j=>.int (i * j)):=Ii fun i j h=>by
  rcases (Bool.or_eq_true _ _).mp h with q|q
  · exact .inl (EG q)
  · exact .inr (EG q)
theorem dY {K:PySem.W.Frag}:Og K cI (rI (fun _ j=>0 < j) fun i j=>.int (i % j)):=Ii fun i j h=>of_decide_eq_true h
def P7 (_ j:Int):Prop:=0 < j∧j < 2 ^ 250
theorem eY:OpR X (binaryOp .FloorDiv) (rI P7 fun i j=>.int (i / j)):=opI fun i j _ _ _ _ _ hc q=>by
  have h0:j≠0:=by have:=hc.1;omega
  refine PyProof.Rows.floordiv_int h0 (by rw [Int.fdiv_eq_ediv_of_nonneg _ (Int.le_of_lt hc.1)];exact q) (.inl (PyProof.noPylong_of_log2 ?_))
  have h2:j.natAbs < 2 ^ 250:=by have:=hc.2;have:=hc.1;omega
  have h3:j.natAbs≠0:=by omega
  have:=(Nat.log2_lt h3).mpr h2
  omega
theorem iT {K:PySem.W.Frag}:Og K gQ (rI P7 fun i j=>.int (i / j)):=Ii fun i j h=>by
  simp only [Bool.and_eq_true,decide_eq_true_eq] at h;exact h
theorem xY {K:PySem.W.Frag}{ρ:List Addr}{H:Hp}{d:D}{v:V}(h:RD K ρ H d v):rY d=decide (v=.non):=by
  cases d<;>simp only [RD] at h
  · subst h;rfl
  · subst h;rfl
  · subst h;rfl
  · subst h;rfl
  · obtain⟨p,vs,rfl,_⟩:=h;rfl
  · obtain⟨p,vs,rfl⟩:=h;rfl
  · obtain⟨p,vs,rfl,_⟩:=h;rfl
  · obtain⟨_,p,vs,rfl,_⟩:=h;rfl
theorem oJ {K:PySem.W.Frag}:Og K nG (fun x y H Q=>y=.non∧Q (.bl (decide (x=.non))) H):=by
  intro ρ H σd hd σ d k v w Q rs rv rw' p
  unfold nG at p
  cases e:rY k with
  | false=>rw [e] at p;exact p.elim
  | true =>
    rw [e,if_pos rfl] at p
    refine⟨of_decide_eq_true ((xY rw').symm.trans e),?_⟩
    rw [← xY rv]
    exact p.here rs (by simp only [rD,RD])
theorem lG {K:PySem.W.Frag}:Og K iF (fun x y H Q=>y=.non∧Q (.bl (!decide (x=.non))) H):=by
  intro ρ H σd hd σ d k v w Q rs rv rw' p
  unfold iF at p
  cases e:rY k with
  | false=>rw [e] at p;exact p.elim
  | true =>
    rw [e,if_pos rfl] at p
    refine⟨of_decide_eq_true ((xY rw').symm.trans e),?_⟩
    rw [← xY rv]
    exact p.here rs (by simp only [rD,RD])
theorem oK {K:PySem.W.Frag}{ρ:List Addr}{H:Hp}{σd:Sd}{σ:St}{r:Res D}{Q:Bool→Hp→Prop}(h:bR K rB ρ H σd σ (asB r) Q):bR K (rD K) ρ H σd σ r (fun x H'=>∃ c,x=.bl c∧Q c H'):=by
  refine (bR.bind (R:=rD K) h).imp fun v H1 ⟨ρ1,d,hd1,e1,rs1,rv,p1⟩ => ?_
  cases d<;>first|exact p1.elim|skip
  simp only [rD,RD] at rv
  exact⟨_,rv,p1.here rs1 rfl⟩
theorem cL {e:Expr}{f:EF}(h:ME X e f)(he:∀ whole,isTrue e X.env whole=(do let v ← whole;standAt e.pos;holding [v] (truthy v)):=by intro _;rfl):MT X e (tE f) :=
  PT.imp (Nx h he) fun σ H Q ⟨ρ,σd,hd,rs,p⟩=>⟨ρ,σd,hd,rs,oK p⟩
theorem bE {a b:Expr}{fa fb:EF}{op:CmpOp}{r:R2}{g:O2}(ho:OpR X (compareOp op) r)(hg:Og X.K g r)(ha:ME X a fa)(hb:ME X b fb)(hm:behindInMarks op b=false):MT X (.Compare a [op] [b] pos) (tE (aj g fa fb)):=by
  refine PT.imp (Lj ho ha hb hm) fun σ H Q ⟨ρ,σd,hd,rs,p⟩ => ?_
  have p:=oK p
  refine⟨ρ,σd,hd,rs,(bR.bind (R:=rD X.K) p).imp fun v H1 ⟨ρ1,d,hd1,e1,rs1,rv,p1⟩ => ?_⟩
  refine⟨ρ1,σd,hd1,rs1,(bR.bind (R:=rD X.K) p1).imp fun w H2 ⟨ρ2,k,hd2,e2,rs2,rw',p2⟩ => ?_⟩
  exact hg ρ2 H2 σd hd2 σ d k v w _ rs2 (rv.mono (rs1.hp.kp e2)) rw' p2
theorem dq {a:Expr}{t:TF}(h:MT X a t):MT X (.UnaryOp .Not a pos) (cK t):=by
  refine PT.imp (NB h) fun σ H Q ⟨ρ,σd,hd,rs,p⟩=>⟨ρ,σd,hd,rs,(bR.bind (R:=rB) p).imp fun c H1 ⟨ρ1,d,hd1,e1,rs1,rv,p1⟩ => ?_⟩
  cases rv
  exact p1.here rs1 rfl
theorem iU {op a}{t:TF}(h:MT X a t)(ho:op=BoolOp.And∨op=BoolOp.Or):MW X (.BoolOp op [a] pos) t:=by
  rcases ho with rfl|rfl
  · exact Le h
  · exact Ny h
theorem Cp {a b:Expr}{rest:List Expr}{t u:TF}(ha:MT X a t)(hb:MW X (.BoolOp .And (b :: rest) pos) u):MW X (.BoolOp .And (a :: b :: rest) pos) (iR t u):=by
  refine PW.imp (Nz ha hb) fun σ H Q ⟨ρ,σd,hd,rs,p⟩=>⟨ρ,σd,hd,rs,(bR.bind (R:=rB) p).imp fun c H1 ⟨ρ1,d,hd1,e1,rs1,rv,p1⟩ => ?_⟩
  cases rv
  cases c with
  | true=>simp only [if_true] at p1 ⊢;exact⟨ρ1,σd,hd1,rs1,p1⟩
  | false=>simp only [Bool.false_eq_true,if_false] at p1 ⊢;exact p1.here rs1 rfl
theorem qh {a b:Expr}{rest:List Expr}{t u:TF}(ha:MT X a t)(hb:MW X (.BoolOp .Or (b :: rest) pos) u):MW X (.BoolOp .Or (a :: b :: rest) pos) (tOr t u):=by
  refine PW.imp (PB ha hb) fun σ H Q ⟨ρ,σd,hd,rs,p⟩=>⟨ρ,σd,hd,rs,(bR.bind (R:=rB) p).imp fun c H1 ⟨ρ1,d,hd1,e1,rs1,rv,p1⟩ => ?_⟩
  cases rv
  cases c with
  | true=>simp only [if_true] at p1 ⊢;exact p1.here rs1 rfl
  | false=>simp only [Bool.false_eq_true,if_false] at p1 ⊢;exact⟨ρ1,σd,hd1,rs1,p1⟩
theorem MW.mt {e:Expr}{t:TF}(h:MW X e t):MT X e t:=h.pt
theorem Lw {K:PySem.W.Frag}{t:TF}{σ:St}{H:Hp}{Q:VK}(h:lV K (rD K) (fT t) σ H Q):lV K rB t σ H (fun b H'=>Q (.bl b) H'):=by
  obtain⟨ρ,σd,hd,rs,p⟩:=h
  refine⟨ρ,σd,hd,rs,(bR.bind (R:=rB) p).imp fun c H1 ⟨ρ1,d,hd1,e1,rs1,rv,p1⟩ => ?_⟩
  cases rv
  exact p1.here rs1 (by simp only [rD,RD])
def MB (X:Cx) (e:Expr) (t:TF):Prop:=PE X e (fun σ H Q=>lV X.K rB t σ H fun b H'=>Q (.bl b) H')
theorem MB.me {e:Expr}{t:TF}(h:MB X e t):ME X e (fT t):=PE.imp h fun _ _ _ q=>Lw q
theorem kr {e:Expr}{f:EF}(h:ME X e f):MB X e (tE f):=by
  refine PE.imp h fun σ H Q ⟨ρ,σd,hd,rs,p⟩=>⟨ρ,σd,hd,rs,(oK p).imp ?_⟩
  rintro v H1 ⟨c,rfl,q⟩
  exact q
theorem oM {op a}{t:TF}(h:MB X a t):MB X (.BoolOp op [a] pos) t:=NC h
theorem sg {a b:Expr}{rest:List Expr}{t u:TF}(ha:MB X a t)(hb:MB X (.BoolOp .And (b :: rest) pos) u):MB X (.BoolOp .And (a :: b :: rest) pos) (iR t u):=by
  refine PE.imp (ND ha hb) fun σ H Q ⟨ρ,σd,hd,rs,p⟩=>⟨ρ,σd,hd,rs,(bR.bind (R:=rB) p).imp fun c H1 ⟨ρ1,d,hd1,e1,rs1,rv,p1⟩=>⟨c,rfl,?_⟩⟩
  cases rv
  cases c with
  | true=>simp only [if_true] at p1 ⊢;exact⟨ρ1,σd,hd1,rs1,p1⟩
  | false=>simp only [Bool.false_eq_true,if_false] at p1 ⊢;exact p1.here rs1 rfl
theorem P8 {a b:Expr}{rest:List Expr}{t u:TF}(ha:MB X a t)(hb:MB X (.BoolOp .Or (b :: rest) pos) u):MB X (.BoolOp .Or (a :: b :: rest) pos) (tOr t u):=by
  refine PE.imp (PF ha hb) fun σ H Q ⟨ρ,σd,hd,rs,p⟩=>⟨ρ,σd,hd,rs,(bR.bind (R:=rB) p).imp fun c H1 ⟨ρ1,d,hd1,e1,rs1,rv,p1⟩=>⟨c,rfl,?_⟩⟩
  cases rv
  cases c with
  | true=>simp only [if_true] at p1 ⊢;exact p1.here rs1 rfl
  | false=>simp only [Bool.false_eq_true,if_false] at p1 ⊢;exact⟨ρ1,σd,hd1,rs1,p1⟩
theorem Oe {a:Expr}{t:TF}(h:MB X a t):MB X (.UnaryOp .Not a pos) (cK t):=by
  refine PE.imp (NF h) fun σ H Q ⟨ρ,σd,hd,rs,p⟩=>⟨ρ,σd,hd,rs,(bR.bind (R:=rB) p).imp fun c H1 ⟨ρ1,d,hd1,e1,rs1,rv,p1⟩=>⟨c,rfl,?_⟩⟩
  cases rv
  exact p1.here rs1 rfl
theorem Na {c a b:Expr}{t:TF}{fa fb:EF}(hc:MT X c t)(ha:ME X a fa)(hb:ME X b fb):ME X (.IfExp c a b pos) (fIf t fa fb):=by
  refine PE.imp (HN hc ha hb) fun σ H Q ⟨ρ,σd,hd,rs,p⟩=>⟨ρ,σd,hd,rs,(bR.bind (R:=rB) p).imp fun c H1 ⟨ρ1,d,hd1,e1,rs1,rv,p1⟩ => ?_⟩
  cases rv
  cases c with
  | true=>simp only [if_true] at p1 ⊢;exact⟨ρ1,σd,hd1,rs1,p1⟩
  | false=>simp only [Bool.false_eq_true,if_false] at p1 ⊢;exact⟨ρ1,σd,hd1,rs1,p1⟩
end
end Fm
set_option Elab.async false
set_option linter.all false
set_option maxRecDepth 100000
namespace Fm
open PySem PySem.Spec L2
section
variable {X:Cx} {pos:Pos}
theorem Cq {K:PySem.W.Frag}{ρ:List Addr}{H:Hp}{σd:Sd}{hd:Hd}{σ:St}{r r':R2}{g k:O2}{fa fb fc:EF}{Q:VK}(hg:Og K g r)(hk:Og K k r')(rs:RS K ρ H σd hd σ)
    (p:bR K (rD K) ρ H σd σ (rZ g k fa fb fc σd hd) Q):HX r r' (lV K (rD K) fa) (lV K (rD K) fb) (lV K (rD K) fc) σ H Q:=by
  refine⟨ρ,σd,hd,rs,(bR.bind (R:=rD K) p).imp fun v H1 ⟨ρ1,d,hd1,e1,rs1,rv,p1⟩ => ?_⟩
  refine⟨ρ1,σd,hd1,rs1,(bR.bind (R:=rD K) p1).imp fun w H2 ⟨ρ2,d2,hd2,e2,rs2,rw2,p2⟩ => ?_⟩
  refine hg ρ2 H2 σd hd2 σ d d2 v w _ rs2 (rv.mono (rs1.hp.kp e2)) rw2 ((bR.bind (R:=rD K) p2).imp fun z H3 ⟨ρ3,d3,hd3,e3,rs3,rz,p3⟩ => ?_)
  cases d3<;>first|exact p3.elim|skip
  rename_i b
  simp only [rD,RD] at rz
  refine⟨b,rz,?_⟩
  cases b with
  | false =>
    rw [if_neg Bool.false_ne_true]
    exact p3.here rs3 (by simp only [rD,RD])
  | true =>
    rw [if_pos rfl]
    refine⟨ρ3,σd,hd3,rs3,(bR.bind (R:=rD K) p3).imp fun u H4 ⟨ρ4,d4,hd4,e4,rs4,ru,p4⟩ => ?_⟩
    exact hk ρ4 H4 σd hd4 σ d2 d4 w u Q rs4 ((rw2.mono (rs2.hp.kp e3)).mono (rs3.hp.kp e4)) ru p4
theorem Ij {a b c:Expr}{fa fb fc:EF}{op op':CmpOp}{r r':R2}{g k:O2}(ho:OpR X (compareOp op) r)(ho':OpR X (compareOp op') r')(hg:Og X.K g r)(hk:Og X.K k r')(ha:ME X a fa)(hb:ME X b fb)(hc:ME X c fc)
    (hm:lastMarks [op,op'] [b,c] = false:=by with_unfolding_all rfl):ME X (.Compare a [op,op'] [b,c] pos) (rZ g k fa fb fc) :=
  PE.imp (HY ho ho' ha hb hc hm) fun _ _ _ ⟨_,_,_,rs,p⟩=>Cq hg hk rs p
theorem aq:MA X [] ak:=PA.imp eR fun _ _ _ ⟨_,_,_,rs,p⟩=>p.here rs RDs.nil
theorem ae {e:Expr}{es:List Expr}{f:EF}{r:LF}(he:ME X e f)(hr:MA X es r)(hs:starEach (e :: es) X.env=(false,eval e X.env) :: starEach es X.env:=by rfl):MA X (e :: es) (ad f r):=by
  refine PA.imp (cr he hr hs) fun σ H Q ⟨ρ,σd,hd,rs,p⟩ => ?_
  refine⟨ρ,σd,hd,rs,(bR.bind (R:=rD X.K) p).imp fun v H1 ⟨ρ1,d,hd1,e1,rs1,rv,p1⟩ => ?_⟩
  refine⟨ρ1,σd,hd1,rs1,(bR.bind (R:=rDs X.K) p1).imp fun vs H2 ⟨ρ2,ds,hd2,e2,rs2,rvs,p2⟩ => ?_⟩
  exact p2.here rs2 (RDs.cons (rv.mono (rs1.hp.kp e2)) rvs)
theorem nH {n:Nat}(h:n≤SZ):n≤sizeLine:=Nat.le_trans h (by show 1000000≤2 ^ 24;decide)
theorem dD {es:List Expr}{k}{r:LF}(h:MA X es r):ME X (.Tuple es k pos) (cS r):=by
  refine PE.imp (NV h) fun σ H Q ⟨ρ,σd,hd,rs,p⟩ => ?_
  refine⟨ρ,σd,hd,rs,(bR.bind (R:=rDs X.K) p).imp fun vs H1 ⟨ρ1,ds,hd1,e1,rs1,rvs,p1⟩ => ?_⟩
  by_cases hz:ds.length≤SZ
  · rw [if_pos hz] at p1
    refine⟨by rw [← rvs.length];exact nH hz,fun q hq => ?_⟩
    have sm:=cu (o:=HO.tup vs) hq
    exact p1.at (Ext.same sm) (rs1.same sm) (by simp only [rD,RD];exact⟨q,vs,rfl,bh,rvs.mono (Kp.same sm)⟩)
  · rw [if_neg hz] at p1;exact p1.elim
theorem Ext.fresh {ρ ρ':List Addr}{H H':Hp}{q:Addr}(e:Ext ρ H ρ' H')(h:H' q=none)(n:q ∉ ρ'):H q=none:=by
  cases z:H q with
  | none=>rfl
  | some o =>
    by_cases hq:q ∈ ρ
    · obtain⟨t,rfl⟩:=e.pre
      exact absurd (List.mem_append_left t hq) n
    · rw [e.frame q o z hq] at h;cases h
theorem RH.free {K:PySem.W.Frag}{ρ:List Addr}{H:Hp}{hd:Hd}(r:RH K ρ H hd){q:Addr}(h:H q=none):q ∉ ρ:=fun z=>by
  rcases r.mut z with ⟨_,e⟩|⟨_,e⟩<;>(rw [h] at e;cases e)
theorem Am.mk {K:PySem.W.Frag}{ρ ρ1:List Addr}{H H1:Hp}{hd1:Hd}{σd:Sd}{σ:St}{l:List D}{vs:List V}{Q:VK}(p:Am K ρ H σd σ (.ok l hd1) Q)(e1:Ext ρ H ρ1 H1)(rs1:RS K ρ1 H1 σd hd1 σ)(r:RDs K ρ1 H1 l vs) :
    ∀ q,H1 q=none→Q (.ref q) (upd H1 q (.lst vs)):=fun q hq=>by
  have sm:=cu (o:=HO.lst vs) hq
  have nq:=rs1.hp.free hq
  exact p q vs _ ρ1 (e1.trans (Ext.same sm)) (rs1.same sm) (e1.fresh hq nq) bh nq (r.mono (Kp.same sm))
theorem bY {es:List Expr}{r:LF}(h:MA X es r)(hz:∀ σd hd ds hd',r σd hd=.ok ds hd'→ds.length≤SZ):MF X (.List es pos) r:=by
  refine PE.imp (NW h) fun σ H Q ⟨ρ,σd,hd,rs,p⟩ => ?_
  refine⟨ρ,σd,hd,rs,?_⟩
  cases e:r σd hd with
  | exc x h'=>rw [e] at p;exact p
  | bad=>rw [e] at p;exact p
  | ok ds hd1 =>
    rw [e] at p
    intro vs H1 ρ1 e1 rs1 rvs
    exact⟨by rw [← RDs.length rvs];exact nH (hz _ _ _ _ e),p.mk e1 rs1 rvs⟩
theorem ax {f:EF}{r:LF}{n:Nat}(h:∀ σd hd ds hd',r σd hd=.ok ds hd'→ds.length=n):∀ σd hd ds hd',ad f r σd hd=.ok ds hd'→ds.length=n + 1:=by
  intro σd hd ds hd' e
  simp only [ad] at e
  cases e1:f σd hd with
  | exc x h'=>rw [e1] at e;cases e
  | bad=>rw [e1] at e;cases e
  | ok d h1 =>
    rw [e1] at e
    simp only [aH] at e
    cases e2:r σd h1 with
    | exc x h'=>rw [e2] at e;cases e
    | bad=>rw [e2] at e;cases e
    | ok ds2 h2 =>
      rw [e2] at e
      simp only [aH] at e
      cases e
      simp [h _ _ _ _ e2]
theorem bi:∀ σd hd ds hd',ak σd hd=.ok ds hd'→ds.length=0:=by
  intro σd hd ds hd' e
  simp only [ak] at e
  cases e
  rfl
theorem bG {e:Expr}{r:LF}(h:MF X e r):ME X e (aM r):=by
  refine PE.imp h fun σ H Q ⟨ρ,σd,hd,rs,p⟩=>⟨ρ,σd,hd,rs,?_⟩
  unfold aM at p
  cases e:r σd hd with
  | exc x h'=>rw [e] at p;exact p
  | bad=>rw [e] at p;exact p
  | ok ds hd1 =>
    rw [e] at p
    simp only [aH] at p
    intro q vs H1 ρ1 e1 rs1 hq0 hq hn rvs
    by_cases hz:ds.length≤SZ
    · rw [if_pos hz] at p
      have rh:=rs1.hp.alloc hq hn rvs
      have ex:Ext ρ H (ρ1++[q]) H1:=⟨by obtain⟨t,rfl⟩:=e1.pre;exact⟨t++[q],by simp⟩,fun a ha=>by
        rcases List.mem_append.mp ha with z|z
        · exact e1.new a z
        · simp at z;subst z;exact .inr hq0,e1.frame⟩
      refine p.at ex (rs.ext ex rh) ?_
      simp only [rD,RD]
      refine⟨q,?_,rfl⟩
      rw [← rs1.hp.len]
      simp
    · rw [if_neg hz] at p;exact p.elim
theorem iV {e:Expr}{r:LF}(h:MF X e r):MQ X e r:=by
  refine PE.imp h fun σ H Q ⟨ρ,σd,hd,rs,p⟩=>⟨ρ,σd,hd,rs,?_⟩
  cases e:r σd hd with
  | exc x h'=>rw [e] at p;exact p
  | bad=>rw [e] at p;exact p
  | ok ds hd1 =>
    rw [e] at p
    intro q vs H1 ρ1 e1 rs1 hq0 hq hn rvs
    exact p (.ref q) H1 ρ1 e1 rs1 ⟨q,vs,rfl,.inl (SqL.of hq),rvs⟩
theorem qg.sq {K:PySem.W.Frag}{H:Hp}{a:Addr}{xs:List V}(h:qg K H a xs):SqL K H a xs:=by
  rcases h with ⟨o,h⟩|h
  · exact .inl (.inr ⟨o,h⟩)
  · exact .inr h
theorem EH {K:PySem.W.Frag}{ρ:List Addr}{H:Hp}{hd:Hd}{d:D}{v:V}{l:List D}(r:RH K ρ H hd)(h:RD K ρ H d v)(e:l8 hd d=some l):∃ p vs,v=.ref p∧(SqL K H p vs∨H p=some (.tup vs))∧RDs K ρ H l vs:=by
  cases d<;>simp only [l8] at e<;>try (cases e;done)
  · cases e
    simp only [RD] at h
    obtain⟨p,vs,e1,e2,e3⟩:=h
    exact⟨p,vs,e1,.inr e2,e3⟩
  · rename_i n
    simp only [RD] at h
    obtain⟨a,e1,e2⟩:=h
    cases c:hd[n]? with
    | none=>rw [c] at e;cases e
    | some x =>
      rw [c] at e
      cases x with
      | dct l=>cases e
      | lst l' =>
        cases e
        obtain⟨vs,q1,q2⟩:=r.cel n _ a c e1
        exact⟨a,vs,e2,.inl (SqL.of q1),q2⟩
  · cases e
    simp only [RD] at h
    obtain⟨p,vs,e1,e2,e3⟩:=h
    exact⟨p,vs,e1,.inl e2.sq,e3⟩
theorem dB {e:Expr}{f:EF}(h:ME X e f):MQ X e (lOf f):=by
  refine PE.imp h fun σ H Q ⟨ρ,σd,hd,rs,p⟩=>⟨ρ,σd,hd,rs,(bR.bind (R:=rD X.K) p).imp fun v H1 ⟨ρ1,d,hd1,e1,rs1,rv,p1⟩ => ?_⟩
  cases e:l8 hd1 d with
  | none=>rw [e] at p1;exact p1.elim
  | some l=>rw [e] at p1;exact p1.here rs1 (EH rs1.hp rv e)
theorem EI {K:PySem.W.Frag}{ρ:List Addr}{H:Hp}{l:List D}{vs:List V}{i:Int}{d:D}(r:RDs K ρ H l vs)(e:atI l i=some d):∃ v,L2.atI vs i=some v∧RD K ρ H d v:=by
  unfold atI at e
  unfold L2.atI
  have hl:=r.length
  have hx:ixN l.length i=L2.ixN vs.length i:=by rw [hl];rfl
  rw [hx] at e
  cases c:L2.ixN vs.length i with
  | none=>rw [c] at e;cases e
  | some j =>
    rw [c] at e
    simp only [Option.bind_some] at e ⊢
    exact r.get e
theorem aY {a b:Expr}{fa fb:EF}(ha:ME X a fa)(hb:ME X b fb)(hs:xT b):ME X (.Subscript a b pos) (fAt fa fb):=by
  refine me2 (a:=a) (b:=b) (g:=oAt) (M7 N5 ha hb hs) fun ρ H σd hd σ d k v w Q rs rv rw' p => ?_
  unfold oAt at p
  cases e:l8 hd d with
  | none=>rw [e] at p;exact p.elim
  | some l =>
    rw [e] at p
    cases k<;>first|exact p.elim|skip
    rename_i i
    simp only at p
    cases e2:atI l i with
    | none=>rw [e2] at p;exact p.elim
    | some x =>
      rw [e2] at p
      simp only [RD] at rw'
      obtain⟨q,vs,hv,sq,rvs⟩:=EH rs.hp rv e
      obtain⟨u,hu,ru⟩:=EI rvs e2
      rcases sq with sq|sq
      · exact .inl ⟨q,vs,i,u,hv,rw',sq,hu,p.here rs ru⟩
      · exact .inr (.inl ⟨q,vs,i,u,hv,rw',SqT.of sq,hu,p.here rs ru⟩)
theorem EJ {a b:Expr}{la:LF}{fb:EF}(ha:MF X a la)(hb:ME X b fb)(hs:xT b):ME X (.Subscript a b pos) (fIx la fb):=by
  refine PE.imp (M7 EE ha hb hs) fun σ H Q ⟨ρ,σd,hd,rs,p⟩=>⟨ρ,σd,hd,rs,?_⟩
  unfold fIx at p
  cases e:la σd hd with
  | exc x h'=>rw [e] at p;exact p
  | bad=>rw [e] at p;exact p
  | ok l hd1 =>
    rw [e] at p
    simp only [aH] at p
    intro q vs H1 ρ1 e1 rs1 hq0 hq hn rvs
    refine⟨ρ1,σd,hd1,rs1,(bR.bind (R:=rD X.K) (p.ext e1)).imp fun w H2 ⟨ρ2,k,hd2,e2,rs2,rw',p2⟩ => ?_⟩
    cases k<;>first|exact p2.elim|skip
    rename_i i
    simp only at p2
    cases e3:atI l i with
    | none=>rw [e3] at p2;exact p2.elim
    | some x =>
      rw [e3] at p2
      simp only [rD,RD] at rw'
      obtain⟨u,hu,ru⟩:=EI (rvs.mono (rs1.hp.kp e2)) e3
      exact⟨q,vs,i,u,rfl,rw',SqL.of (e2.frame q _ hq hn),hu,p2.here rs2 ru⟩
end
end Fm
set_option Elab.async false
set_option linter.all false
set_option maxRecDepth 100000
namespace Fm
open PySem PySem.Spec L2
section
variable {X:Cx} {pos:Pos}
def B1 (X:Cx) (r:List V→Hp→VK→Prop) (x:Str) (p pos:Pos) (a:Expr):Prop:=∀ t,PA X [a] t→PE X (.Call (.Name x p) [a] [] pos) (tCB r t)
theorem Ik {x:Str} {p:Pos} {a:Expr} {id:String} {r:List V→Hp→VK→Prop} (hc:ie X (.builtin id) r) (hg:Gl X x) (hm:X.mg x=none) (hv:bootBuiltins x=some (.builtin id)) (hn:x ≠ "__name__" := by decide) (hdb:(x == ("__debug__" : Str))=false:=by decide)
    (he:starEach [a] X.env=(false,eval a X.env) :: starEach [] X.env:=by rfl):B1 X r x p pos a:=fun _ ha=>ii hc hg hm hv ha hn hdb he
theorem P9 {x:Str} {p:Pos} {a:Expr} {T:String} {r:List V→Hp→VK→Prop} (hc:ie X (.type T) r) (hg:Gl X x) (hm:X.mg x=none) (hv:bootBuiltins x=some (.type T)) (hn:x ≠ "__name__" := by decide) (hdb:(x == ("__debug__" : Str))=false:=by decide)
    (he:starEach [a] X.env=(false,eval a X.env) :: starEach [] X.env:=by rfl):B1 X r x p pos a:=fun _ ha=>wM hc hg hm hv ha hn hdb he
theorem xZ {x:Str}{p:Pos}{a:Expr}{la:LF}{r:List V→Hp→VK→Prop}{g:List D→Hd→Res D}(hb:B1 X r x p pos a)(ha:MQ X a la)
    (hg:∀ ρ H σd hd σ l q vs Q,RS X.K ρ H σd hd σ → (SqL X.K H q vs∨H q=some (.tup vs))→RDs X.K ρ H l vs→bR X.K (rD X.K) ρ H σd σ (g l hd) Q→r [.ref q] H Q)
    (hs:starEach [a] X.env=(false,eval a X.env) :: starEach [] X.env:=by rfl):ME X (.Call (.Name x p) [a] [] pos) (fun σ h=>(la σ h).bind fun l h=>g l h):=by
  refine PE.imp (hb _ (cr ha eR hs)) fun σ H Q ⟨ρ,σd,hd,rs,pp⟩=>⟨ρ,σd,hd,rs,(bR.bind (R:=rQ X.K) pp).imp fun v H1 ⟨ρ1,l,hd1,e1,rs1,⟨q,vs,hv,sq,rvs⟩,p1⟩ => ?_⟩
  subst hv
  exact hg ρ1 H1 σd hd1 σ l q vs Q rs1 sq rvs p1
theorem dE {p:Pos} {a:Expr} {la:LF} (hg:Gl X "len") (hm:X.mg "len" = none) (ha:MQ X a la) (hs:starEach [a] X.env=(false,eval a X.env) :: starEach [] X.env:=by rfl):ME X (.Call (.Name "len" p) [a] [] pos) (cY la) :=
  xZ (g:=fun l h=>.ok (.int l.length) h) (Ik xV hg hm PySem.boot_len (he:=hs)) ha (fun ρ H σd hd σ l q vs Q rs sq rvs p=>⟨q,vs,rfl,sq.imp id SqT.of,by rw [← rvs.length];exact p.here rs (by simp only [rD,RD])⟩) hs
theorem gR {p:Pos} {a:Expr} {la:LF} (hg:Gl X "tuple") (hm:X.mg "tuple" = none) (ha:MQ X a la) (hs:starEach [a] X.env=(false,eval a X.env) :: starEach [] X.env:=by rfl):ME X (.Call (.Name "tuple" p) [a] [] pos) (eP la):=by
  refine xZ (g:=fun l h=>.ok (.tup l) h) (P9 uB hg hm (by decide +kernel) (he:=hs)) ha (fun ρ H σd hd σ l q vs Q rs sq rvs p=>⟨q,vs,rfl,?_⟩) hs
  rcases sq with sq|sq
  · refine .inl ⟨sq,fun q' hq => ?_⟩
    have sm:=cu (o:=HO.tup vs) hq
    exact p.at (Ext.same sm) (rs.same sm) (by simp only [rD,RD];exact⟨q',vs,rfl,bh,rvs.mono (Kp.same sm)⟩)
  · exact .inr ⟨SqT.of sq,p.here rs (by simp only [rD,RD];exact⟨q,vs,rfl,sq,rvs⟩)⟩
theorem Ap (ns:List Int):PySem.preSum (fun i=>ns.getD i 0) ns.length=ns.sum:=by
  have key:∀ k,k≤ns.length→PySem.preSum (fun i=>ns.getD i 0) k=(ns.take k).sum:=by
    intro k
    induction k with
    | zero=>intro _;simp [PySem.preSum]
    | succ k ih =>
      intro hk
      rw [PySem.preSum,ih (by omega),List.take_add_one,List.getElem?_eq_getElem (by omega),List.sum_append]
      simp [List.getD,List.getElem?_eq_getElem (show k < ns.length by omega)]
  rw [key _ (Nat.le_refl _),List.take_length]
theorem EK {its:List Value}{ns:List Int}(r:bg (ns.map V.int) its)(i:Nat)(v:Value)(h:its.toArray[i]? = some v):∃ t,v=.int (ns.getD i 0) t:=by
  have h':its[i]? = some v:=by simpa using h
  have hl:=r.length
  have hi:i < its.length:=(List.getElem?_eq_some_iff.mp h').1
  have hn:i < ns.length:=by rw [← hl] at hi;simpa using hi
  obtain⟨u,hu,ru⟩:=r.get (i:=i) (x:=.int ns[i]) (by simp [hn])
  rw [h'] at hu
  cases hu
  obtain⟨t,e⟩:=ru
  exact⟨t,by rw [e];simp [List.getD,hn]⟩
theorem FK (hc:X.calm=true):ie X (.builtin "sum") (fun xs H Q=>∃ (p:Addr) (ns:List Int),xs=[.ref p]∧(SqL X.K H p (ns.map V.int)∨SqT X.K H p (ns.map V.int))∧Q (.int ns.sum) H):=by
  intro pins s σ H xs us Q I r q
  obtain⟨p,ns,rfl,sq,q⟩:=q
  obtain⟨u,rfl,ru⟩:=bg.one r
  cases (show u=Value.ref p from ru)
  have fin:∀ {it:Obj} {h':Heap} {tk:Nat} {t':Tok} {n:Nat},n=ns.length→(∀ b o,b∉[s.heap.objs.size]→(s.heap.push it).get? b=some o→h'.get? b=some o)→EP X pins σ Q (.int (PySem.preSum (fun i=>ns.getD i 0) n) t') { s with heap:=h',toks:=tk }:=by
    intro it h' tk t' n hn hk
    subst hn
    refine⟨.int ns.sum,H,I.kept (t':=tk) fun b o e=>hk b o (by simp;exact Nat.ne_of_lt (Heap.lt_size e)) (Heap.get?_push_of_some _ e),⟨t',by rw [Ap]⟩,q⟩
  have hA:(X.A.in1).handled=none:=I.ok.hd hc
  rcases sq with sq|sq
  · obtain⟨its,rv,pl,hz⟩:=I.list sq
    have il:s.heap.IsList p its.toArray:=pl.isList
    have hlt:p < s.heap.objs.size:=by obtain⟨o,ho,_⟩:=il;exact Heap.lt_size ho
    refine PySem.call_sum_walkG (PySem.wpAny_pyIter_list il ?_)
    refine⟨s.heap.objs.size,_,[s.heap.objs.size],_,_,_,fun i=>ns.getD i 0,rfl,PySem.Walks.list hA s.heap.objs.size p (Nat.ne_of_lt hlt) its.toArray,⟨⟨_,Heap.get?_push_size _ rfl,rfl,rfl⟩,?_⟩,?_,EK rv,?_⟩
    · obtain⟨o,ho,r⟩:=il;exact⟨o,Heap.get?_push_of_some _ ho,r⟩
    · intro b hb
      rcases List.mem_cons.mp hb with rfl|hb
      · rw [Heap.size_push];exact Nat.lt_succ_self _
      · simp at hb;subst hb;rw [Heap.size_push];exact Nat.lt_succ_of_lt hlt
    · exact fun h' tk t' hk=>fin (by simpa using rv.length.symm) hk
  · obtain⟨its,rv,pl,hz⟩:=I.tuple sq
    have il:s.heap.IsTuple p its.toArray:=pl
    have hlt:p < s.heap.objs.size:=by obtain⟨o,ho,_⟩:=il;exact Heap.lt_size ho
    refine PySem.call_sum_walkG (PySem.wpAny_pyIter_tuple il ?_)
    refine⟨s.heap.objs.size,_,[s.heap.objs.size],_,_,_,fun i=>ns.getD i 0,rfl,PySem.Walks.tuple hA s.heap.objs.size p (Nat.ne_of_lt hlt) its.toArray,⟨⟨_,Heap.get?_push_size _ rfl,rfl,rfl⟩,?_⟩,?_,EK rv,?_⟩
    · obtain⟨o,ho,r⟩:=il;exact⟨o,Heap.get?_push_of_some _ ho,r⟩
    · intro b hb
      rcases List.mem_cons.mp hb with rfl|hb
      · rw [Heap.size_push];exact Nat.lt_succ_self _
      · simp at hb;subst hb;rw [Heap.size_push];exact Nat.lt_succ_of_lt hlt
    · exact fun h' tk t' hk=>fin (by simpa using rv.length.symm) hk
theorem sh {K:PySem.W.Frag}{ρ:List Addr}{H:Hp}:∀ {l:List D} {vs:List V} {is:List Int},RDs K ρ H l vs→gJ l=some is→vs=is.map V.int
  | [],_,is,r,e=>by simp only [gJ] at e;cases e;simp only [RDs] at r;subst r;rfl
  | d :: l,_,is,r,e=>by
    simp only [RDs] at r
    obtain⟨v,vs,rfl,h1,h2⟩:=r
    cases d<;>simp only [gJ] at e<;>try (cases e;done)
    rename_i i
    cases c:gJ l with
    | none=>rw [c] at e;cases e
    | some js =>
      rw [c] at e
      cases e
      simp only [RD] at h1
      rw [h1,sh h2 c]
      rfl
theorem Cr {p:Pos} {a:Expr} {la:LF} (hc:X.calm=true) (hg:Gl X "sum") (hm:X.mg "sum" = none) (ha:MQ X a la) (hs:starEach [a] X.env=(false,eval a X.env) :: starEach [] X.env:=by rfl):ME X (.Call (.Name "sum" p) [a] [] pos) (r6 la):=by
  refine xZ (g:=fun l h=>match gJ l with|some is=>.ok (.int is.sum) h|none=>.bad) (Ik (FK hc) hg hm (by decide +kernel) (he:=hs)) ha (fun ρ H σd hd σ l q vs Q rs sq rvs p => ?_) hs
  cases c:gJ l with
  | none=>simp only [c] at p;exact p.elim
  | some is =>
    simp only [c] at p
    have e:=sh rvs c
    subst e
    exact⟨q,is,rfl,sq.imp id SqT.of,p.here rs (by simp only [rD,RD])⟩
end
end Fm
set_option Elab.async false
set_option linter.all false
set_option maxRecDepth 100000
namespace Fm
open PySem PySem.Spec L2
section
variable {K:PySem.W.Frag} {ρ:List Addr} {H:Hp}
mutual
theorem Aq:∀ {d k:D} {v:V} {b:Bool},RD K ρ H d v→RD K ρ H k v→peq d k=some b→b=true
  | .int i,k,v,b,h1,h2,e=>by
    simp only [RD] at h1;subst h1
    cases k<;>simp only [RD] at h2<;>try (cases h2;done)
    all_goals first
      | (cases h2;simp only [peq] at e;simpa using e.symm)
      | (obtain⟨_,_,z,_⟩:=h2;cases z;done)
      | (obtain⟨_,_,z⟩:=h2;cases z;done)
      | (obtain⟨_,_,_,z,_⟩:=h2;cases z;done)
  | .bl i,k,v,b,h1,h2,e=>by
    simp only [RD] at h1;subst h1
    cases k<;>simp only [RD] at h2<;>try (cases h2;done)
    all_goals first
      | (cases h2;simp only [peq] at e;simpa using e.symm)
      | (obtain⟨_,_,z,_⟩:=h2;cases z;done)
      | (obtain⟨_,_,z⟩:=h2;cases z;done)
      | (obtain⟨_,_,_,z,_⟩:=h2;cases z;done)
  | .str x,k,v,b,h1,h2,e=>by
    simp only [RD] at h1;subst h1
    cases k<;>simp only [RD] at h2<;>try (cases h2;done)
    all_goals first
      | (simp only [peq] at e;simp only [toS,V.str.injEq,PySem.Str.mk.injEq] at h2;have h3:=congrArg Array.toList h2;simp at h3;subst h3;simpa using e.symm)
      | (obtain⟨_,_,z,_⟩:=h2;cases z;done)
      | (obtain⟨_,_,z⟩:=h2;cases z;done)
      | (obtain⟨_,_,_,z,_⟩:=h2;cases z;done)
  | .non,k,v,b,h1,h2,e=>by
    simp only [RD] at h1;subst h1
    cases k<;>simp only [RD] at h2<;>try (cases h2;done)
    all_goals first
      | (simp only [peq] at e;simpa using e.symm)
      | (obtain⟨_,_,z,_⟩:=h2;cases z;done)
      | (obtain⟨_,_,z⟩:=h2;cases z;done)
      | (obtain⟨_,_,_,z,_⟩:=h2;cases z;done)
  | .tup xs,k,v,b,h1,h2,e=>by
    simp only [RD] at h1
    obtain⟨p,vs,rfl,hp,r1⟩:=h1
    cases k<;>simp only [peq] at e<;>try (cases e;done)
    · simp only [RD] at h2;cases h2
    · simp only [RD] at h2;cases h2
    · rename_i ys
      simp only [RD] at h2
      obtain⟨p',vs',z,hp',r2⟩:=h2
      cases z
      rw [hp] at hp';cases hp'
      cases c:fN xs ys with
      | none=>rw [c] at e;cases e
      | some b' =>
        rw [c] at e
        simp only [Option.map_some,Option.some.injEq] at e
        have:=wQ r1 r2 c
        subst this
        rw [← e,r1.length,r2.length]
        simp
  | .ref n,k,v,b,h1,h2,e=>by cases k<;>simp only [peq] at e<;>cases e
  | .lit l,k,v,b,h1,h2,e=>by cases k<;>simp only [peq] at e<;>cases e
  | .exn c l,k,v,b,h1,h2,e=>by simp only [peq] at e<;>cases e
theorem wQ:∀ {xs ys:List D} {vs:List V} {b:Bool},RDs K ρ H xs vs→RDs K ρ H ys vs→fN xs ys=some b→b=true
  | [],_,_,_,_,_,e=>by simp only [fN] at e;cases e;rfl
  | x :: xs,[],_,_,_,_,e=>by simp only [fN] at e;cases e;rfl
  | x :: xs,y :: ys,_,b,h1,h2,e=>by
    simp only [RDs] at h1 h2
    obtain⟨v,r,rfl,a1,a2⟩:=h1
    obtain⟨v',r',z,b1,b2⟩:=h2
    cases z
    simp only [fN] at e
    cases c:peq x y with
    | none=>rw [c] at e;cases e
    | some p =>
      cases c2:fN xs ys with
      | none=>rw [c,c2] at e;cases e
      | some q =>
        rw [c,c2] at e
        simp only [Option.some.injEq] at e
        rw [← e,Aq a1 b1 c,wQ a2 b2 c2];rfl
end
end
section
variable {K:PySem.W.Frag} {ρ:List Addr} {H:Hp} {P:Program} {w:World} {s:Shared}
theorem jM (hok:HOk P w H s.heap){p:Addr}{vs:List V}(h:H p=some (.tup vs)):∃ its:List Value,bg vs its∧s.heap.IsTuple p its.toArray:=by
  obtain⟨z,its,r,t⟩:=hok p _ h
  exact⟨its,r,t⟩
mutual
theorem Im (hok:HOk P w H s.heap):∀ {d k:D} {v v':V} {u u':Value} {b:Bool} {A:Around},RD K ρ H d v→RD K ρ H k v'→bT v u→bT v' u'→peq d k=some b→A.units + dep d < cLine→SeqAt.EqAt A s u u' b
  | .int i,k,v,v',u,u',b,A,h1,h2,r1,r2,e,hu=>by
    simp only [RD] at h1;subst h1
    obtain⟨t,rfl⟩:=r1
    cases k<;>simp only [peq] at e<;>try (cases e;done)
    all_goals cases e
    · simp only [RD] at h2;subst h2;cases r2;exact SeqAt.EqAt.int_none i t
    · simp only [RD] at h2;subst h2;cases r2;exact SeqAt.EqAt.int_bool i t _
    · simp only [RD] at h2;subst h2;obtain⟨t',rfl⟩:=r2;exact SeqAt.EqAt.int_int i t _ t'
    · simp only [RD] at h2;obtain⟨p,vs,rfl,hp,_⟩:=h2;cases r2
      obtain⟨its,_,il⟩:=jM hok hp
      exact SeqAt.EqAt.int_tuple i t il (Nat.lt_of_le_of_lt (Nat.le_add_right _ _) hu)
  | .bl i,k,v,v',u,u',b,A,h1,h2,r1,r2,e,hu=>by
    simp only [RD] at h1;subst h1
    cases r1
    cases k<;>simp only [peq] at e<;>try (cases e;done)
    all_goals cases e
    · simp only [RD] at h2;subst h2;cases r2;exact SeqAt.EqAt.bool_bool i _
    · simp only [RD] at h2;subst h2;obtain⟨t',rfl⟩:=r2;exact SeqAt.EqAt.bool_int i _ t'
  | .str x,k,v,v',u,u',b,A,h1,h2,r1,r2,e,hu=>by
    simp only [RD] at h1;subst h1
    obtain⟨t,rfl⟩:=r1
    cases k<;>simp only [peq] at e<;>try (cases e;done)
    all_goals cases e
    rename_i y
    simp only [RD] at h2;subst h2;obtain⟨t',rfl⟩:=r2
    have:decide (x=y)=(toS x == toS y):=by
      by_cases z:x=y
      · subst z;simp
      · have : ¬ toS x=toS y:=fun q=>z (by have:=congrArg (fun (s:Str)=>s.cps.toList) q;simpa [toS] using this)
        simp [z,this]
    rw [this]
    exact SeqAt.EqAt.str_str _ t _ t'
  | .non,k,v,v',u,u',b,A,h1,h2,r1,r2,e,hu=>by
    simp only [RD] at h1;subst h1
    cases r1
    cases k<;>simp only [peq] at e<;>try (cases e;done)
    all_goals cases e
    · simp only [RD] at h2;subst h2;cases r2;exact SeqAt.EqAt.same _
    · simp only [RD] at h2;subst h2;obtain⟨t',rfl⟩:=r2;exact SeqAt.EqAt.none_int _ t'
    · simp only [RD] at h2;obtain⟨p,vs,rfl,hp,_⟩:=h2;cases r2
      obtain⟨its,_,il⟩:=jM hok hp
      exact SeqAt.EqAt.none_tuple il (Nat.lt_of_le_of_lt (Nat.le_add_right _ _) hu)
  | .tup xs,k,v,v',u,u',b,A,h1,h2,r1,r2,e,hu=>by
    have h1':=h1
    simp only [RD] at h1
    obtain⟨p,vs,rfl,hp,q1⟩:=h1
    cases r1
    obtain⟨its,rv,il⟩:=jM hok hp
    have hu0:A.units < cLine:=Nat.lt_of_le_of_lt (Nat.le_add_right _ _) hu
    cases k<;>simp only [peq] at e<;>try (cases e;done)
    · cases e;simp only [RD] at h2;subst h2;cases r2;exact SeqAt.EqAt.tuple_none il hu0
    · cases e;simp only [RD] at h2;subst h2;obtain⟨t',rfl⟩:=r2;exact SeqAt.EqAt.tuple_int _ t' il hu0
    · rename_i ys
      have h2':=h2
      simp only [RD] at h2
      obtain⟨p',vs',rfl,hp',q2⟩:=h2
      cases r2
      by_cases hpp:p=p'
      · subst hpp
        have:b=true:=Aq h1' h2' (by simp only [peq];exact e)
        subst this
        exact SeqAt.EqAt.same _
      · obtain⟨its',rv',il'⟩:=jM hok hp'
        cases c:fN xs ys with
        | none=>rw [c] at e;cases e
        | some b' =>
          rw [c] at e
          simp only [Option.map_some,Option.some.injEq] at e
          obtain⟨f,hf,ha⟩:=rg hok (A:=A.in1) q1 q2 rv rv' c (by simp only [dep] at hu;show A.units + 1 + gn xs < cLine;omega)
          have:=SeqAt.RcAt.tuples (s:=s) (A:=A) (e:=f) il il' hu0 (fun j h1 h2=>by simpa using hf j (by simpa using h1) (by simpa using h2))
          rw [← e,← ha,q1.length,q2.length,rv.length,rv'.length]
          refine SeqAt.EqAt.of_refs hpp ?_
          rw [show (decide (its.length=its'.length))=(its.length == its'.length) from rfl]
          simpa using this
  | .ref n,k,v,v',u,u',b,A,h1,h2,r1,r2,e,hu=>by cases k<;>simp only [peq] at e<;>cases e
  | .lit l,k,v,v',u,u',b,A,h1,h2,r1,r2,e,hu=>by cases k<;>simp only [peq] at e<;>cases e
  | .exn c l,k,v,v',u,u',b,A,h1,h2,r1,r2,e,hu=>by simp only [peq] at e<;>cases e
theorem rg (hok:HOk P w H s.heap):∀ {xs ys:List D} {vs vs':List V} {us us':List Value} {b:Bool} {A:Around},RDs K ρ H xs vs→RDs K ρ H ys vs'→bg vs us→bg vs' us'→fN xs ys=some b→A.units + gn xs < cLine →
    ∃ f:Nat→Bool,(∀ j (h1:j < us.length) (h2:j < us'.length),SeqAt.EqAt A s us[j] us'[j] (f j))∧(List.range (min us.length us'.length)).all f=b
  | [],ys,vs,vs',us,us',b,A,h1,h2,r1,r2,e,hu=>by
    simp only [RDs] at h1;subst h1;cases r1
    simp only [fN] at e;cases e
    exact⟨fun _=>true,fun j h1=>by simp at h1,by simp⟩
  | x :: xs,[],vs,vs',us,us',b,A,h1,h2,r1,r2,e,hu=>by
    simp only [RDs] at h2;subst h2;cases r2
    simp only [fN] at e;cases e
    exact⟨fun _=>true,fun j h1 h2=>by simp at h2,by simp⟩
  | x :: xs,y :: ys,vs,vs',us,us',b,A,h1,h2,r1,r2,e,hu=>by
    simp only [RDs] at h1 h2
    obtain⟨v,r,rfl,a1,a2⟩:=h1
    obtain⟨v',r',rfl,b1,b2⟩:=h2
    cases r1 with
    | cons p1 p2 =>
      cases r2 with
      | cons s1 s2 =>
        simp only [fN] at e
        cases c:peq x y with
        | none=>rw [c] at e;cases e
        | some p =>
          cases c2:fN xs ys with
          | none=>rw [c,c2] at e;cases e
          | some q =>
            rw [c,c2] at e
            simp only [Option.some.injEq] at e
            simp only [gn] at hu
            have g1:=Im hok (A:=A) a1 b1 p1 s1 c (by omega)
            obtain⟨f,hf,ha⟩:=rg hok (A:=A) a2 b2 p2 s2 c2 (by omega)
            refine⟨fun j=>match j with|0=>p|j + 1=>f j,fun j h1 h2 => ?_,?_⟩
            · cases j with
              | zero=>exact g1
              | succ j=>exact hf j (by simpa using h1) (by simpa using h2)
            · rw [← e,← ha,List.length_cons,List.length_cons,Nat.succ_min_succ,List.range_succ_eq_map,List.all_cons,List.all_map]
              rfl
end
theorem Of (hok:HOk P w H s.heap){d k:D}{v v':V}{u u':Value}{b:Bool}{A:Around}(h1:RD K ρ H d v)(h2:RD K ρ H k v')(r1:bT v u)(r2:bT v' u')(e:peq d k=some b)(hu:A.units + dep d < cLine) :
    SeqAt.RcAt A s u u' b∧SeqAt.RcNeAt A s u u' (!b):=by
  have hu0:A.units < cLine:=Nat.lt_of_le_of_lt (Nat.le_add_right _ _) hu
  cases d<;>simp only [RD] at h1
  · subst h1;cases r1
    cases k<;>simp only [peq] at e<;>try (cases e;done)
    all_goals cases e
    · simp only [RD] at h2;subst h2;cases r2;exact⟨SeqAt.RcAt.none_none,SeqAt.RcNeAt.none_none⟩
    · simp only [RD] at h2;subst h2;obtain⟨t',rfl⟩:=r2;exact⟨SeqAt.RcAt.none_int _ t',SeqAt.RcNeAt.none_int _ t'⟩
    · simp only [RD] at h2;obtain⟨p,vs,rfl,hp,_⟩:=h2;cases r2
      obtain⟨its,_,il⟩:=jM hok hp
      exact⟨SeqAt.RcAt.none_tuple il hu0,SeqAt.RcNeAt.none_tuple il hu0⟩
  · subst h1;cases r1
    cases k<;>simp only [peq] at e<;>try (cases e;done)
    all_goals cases e
    · simp only [RD] at h2;subst h2;cases r2;exact⟨SeqAt.RcAt.bool_bool _ _,SeqAt.RcNeAt.bool_bool _ _⟩
    · simp only [RD] at h2;subst h2;obtain⟨t',rfl⟩:=r2;exact⟨SeqAt.RcAt.bool_int _ _ t',SeqAt.RcNeAt.bool_int _ _ t'⟩
  · subst h1;obtain⟨t,rfl⟩:=r1
    cases k<;>simp only [peq] at e<;>try (cases e;done)
    all_goals cases e
    · simp only [RD] at h2;subst h2;cases r2;exact⟨SeqAt.RcAt.int_none _ t,SeqAt.RcNeAt.int_none _ t⟩
    · simp only [RD] at h2;subst h2;cases r2;exact⟨SeqAt.RcAt.int_bool _ t _,SeqAt.RcNeAt.int_bool _ t _⟩
    · simp only [RD] at h2;subst h2;obtain⟨t',rfl⟩:=r2;exact⟨SeqAt.RcAt.int_int _ t _ t',SeqAt.RcNeAt.int_int _ t _ t'⟩
    · simp only [RD] at h2;obtain⟨p,vs,rfl,hp,_⟩:=h2;cases r2
      obtain⟨its,_,il⟩:=jM hok hp
      exact⟨SeqAt.RcAt.int_tuple _ t il hu0,SeqAt.RcNeAt.int_tuple _ t il hu0⟩
  · subst h1;obtain⟨t,rfl⟩:=r1
    cases k<;>simp only [peq] at e<;>try (cases e;done)
    all_goals cases e
    rename_i x y
    simp only [RD] at h2;subst h2;obtain⟨t',rfl⟩:=r2
    have:decide (x=y)=(toS x == toS y):=by
      by_cases z:x=y
      · subst z;simp
      · have : ¬ toS x=toS y:=fun q=>z (by have:=congrArg (fun (s:Str)=>s.cps.toList) q;simpa [toS] using this)
        simp [z,this]
    rw [this]
    exact⟨SeqAt.RcAt.str_str _ t _ t',SeqAt.RcNeAt.str_str _ t _ t'⟩
  · rename_i xs
    obtain⟨p,vs,rfl,hp,q1⟩:=h1
    cases r1
    obtain⟨its,rv,il⟩:=jM hok hp
    cases k<;>simp only [peq] at e<;>try (cases e;done)
    · cases e;simp only [RD] at h2;subst h2;cases r2;exact⟨SeqAt.RcAt.tuple_none il hu0,SeqAt.RcNeAt.tuple_none il hu0⟩
    · cases e;simp only [RD] at h2;subst h2;obtain⟨t',rfl⟩:=r2;exact⟨SeqAt.RcAt.tuple_int _ t' il hu0,SeqAt.RcNeAt.tuple_int _ t' il hu0⟩
    · rename_i ys
      simp only [RD] at h2
      obtain⟨p',vs',rfl,hp',q2⟩:=h2
      cases r2
      obtain⟨its',rv',il'⟩:=jM hok hp'
      cases c:fN xs ys with
      | none=>rw [c] at e;cases e
      | some b' =>
        rw [c] at e
        simp only [Option.map_some,Option.some.injEq] at e
        obtain⟨f,hf,ha⟩:=rg hok (A:=A.in1) q1 q2 rv rv' c (by simp only [dep] at hu;show A.units + 1 + gn xs < cLine;omega)
        have g1:=SeqAt.RcAt.tuples (s:=s) (A:=A) (e:=f) il il' hu0 (fun j h1 h2=>by simpa using hf j (by simpa using h1) (by simpa using h2))
        have g2:=SeqAt.RcNeAt.tuples (s:=s) (A:=A) (e:=f) il il' hu0 (fun j h1 h2=>by simpa using hf j (by simpa using h1) (by simpa using h2))
        rw [← e,← ha,q1.length,q2.length,rv.length,rv'.length,show (decide (its.length=its'.length))=(its.length == its'.length) from rfl]
        exact⟨by simpa using g1,by simpa using g2⟩
  · cases k<;>simp only [peq] at e<;>cases e
  · cases k<;>simp only [peq] at e<;>cases e
  · simp only [peq] at e<;>cases e
end
section
variable {X:Cx}
theorem rj {K:PySem.W.Frag}{ρ:List Addr}{H:Hp}{hd:Hd}{d:D}{v:V}{l:List D}(r:RH K ρ H hd)(h:RD K ρ H d v)(e:gp hd d=some l):∃ p vs,v=.ref p∧SqL K H p vs∧RDs K ρ H l vs:=by
  cases d<;>simp only [gp] at e<;>try (cases e;done)
  · rename_i n
    simp only [RD] at h
    obtain⟨a,e1,e2⟩:=h
    cases c:hd[n]? with
    | none=>rw [c] at e;cases e
    | some x =>
      rw [c] at e
      cases x with
      | dct l=>cases e
      | lst l' =>
        cases e
        obtain⟨vs,q1,q2⟩:=r.cel n _ a c e1
        exact⟨a,vs,e2,SqL.of q1,q2⟩
  · cases e
    simp only [RD] at h
    obtain⟨p,vs,e1,e2,e3⟩:=h
    exact⟨p,vs,e1,e2.sq,e3⟩
theorem Io {pins:List (Addr × Obj)}{σ:St}{H:Hp}{s:Shared}{ρ:List Addr}{hd:Hd}{d k:D}{v v':V}{u u':Value}{b:Bool}(hu:X.A.units + 24 < cLine)(I:Inv X pins σ H s)(r:RH X.K ρ H hd)(h1:RD X.K ρ H d v)(h2:RD X.K ρ H k v')
    (r1:bT v u) (r2:bT v' u') (e:eqG hd d k=some b):SeqAt.RcAt X.A s u u' b∧SeqAt.RcNeAt X.A s u u' (!b):=by
  have hu0:X.A.units < cLine:=by omega
  simp only [eqG] at e
  cases c1:gp hd d with
  | none =>
    cases c2:gp hd k with
    | some l=>rw [c1,c2] at e;cases e
    | none =>
      rw [c1,c2] at e
      simp only at e
      split at e
      · rename_i hd20
        exact Of I.hok h1 h2 r1 r2 e (by omega)
      · cases e
  | some xs =>
    cases c2:gp hd k with
    | none=>rw [c1,c2] at e;cases e
    | some ys =>
      rw [c1,c2] at e
      simp only [eqL] at e
      obtain⟨p,vs,rfl,s1,q1⟩:=rj r h1 c1
      obtain⟨p',vs',rfl,s2,q2⟩:=rj r h2 c2
      cases r1;cases r2
      obtain⟨its,rv,pl,_⟩:=I.list s1
      obtain⟨its',rv',pl',_⟩:=I.list s2
      have il:s.heap.IsList p its.toArray:=pl.isList
      have il':s.heap.IsList p' its'.toArray:=pl'.isList
      have l1:xs.length=its.length:=q1.length.trans rv.length
      have l2:ys.length=its'.length:=q2.length.trans rv'.length
      split at e
      · rename_i hd20
        split at e
        · rename_i hl
          obtain⟨f,hf,ha⟩:=rg I.hok (A:=X.A.in1) q1 q2 rv rv' e (by show X.A.units + 1 + gn xs < cLine;omega)
          have hs:its.toArray.size=its'.toArray.size:=by simp;omega
          have g1:=SeqAt.RcAt.lists (s:=s) (A:=X.A) (e:=f) il il' hs hu0 (fun j h1 h2=>by simpa using hf j (by simpa using h1) (by simpa using h2))
          have g2:=SeqAt.RcNeAt.lists (s:=s) (A:=X.A) (e:=f) il il' hs hu0 (fun j h1 h2=>by simpa using hf j (by simpa using h1) (by simpa using h2))
          have hm:min its.length its'.length=its.length:=by omega
          rw [hm] at ha
          rw [← ha]
          exact⟨by simpa using g1,by simpa using g2⟩
        · rename_i hl
          cases e
          have hs:(its.toArray.size != its'.toArray.size)=true:=by simp;omega
          exact⟨SeqAt.RcAt.lists_lengths il il' hs hu0,SeqAt.RcNeAt.lists_lengths il il' hs hu0⟩
      · cases e
def Lx (K:PySem.W.Frag) (f:Bool→Bool):R2:=fun x y H Q=>∃ ρ hd d k b,RH K ρ H hd∧RD K ρ H d x∧RD K ρ H k y∧eqG hd d k=some b∧Q (.bl (f b)) H
theorem dZ (hu:X.A.units + 24 < cLine):OpR X (compareOp .Eq) (Lx X.K id):=by
  intro pins s σ H x y v u Q I rx ry h
  obtain⟨ρ,hd,d,k,b,r,h1,h2,e,q⟩:=h
  exact (Io hu I r h1 h2 rx ry e).1 _ _ _ _ ⟨.bl b,H,I,rfl,q⟩
theorem gw (hu:X.A.units + 24 < cLine):OpR X (compareOp .NotEq) (Lx X.K not):=by
  intro pins s σ H x y v u Q I rx ry h
  obtain⟨ρ,hd,d,k,b,r,h1,h2,e,q⟩:=h
  exact (Io hu I r h1 h2 rx ry e).2 _ _ _ _ ⟨.bl (!b),H,I,rfl,q⟩
theorem fL {K:PySem.W.Frag}:Og K oEq (Lx K id):=by
  intro ρ H σd hd σ d k v w Q rs rv rw' p
  unfold oEq at p
  cases e:eqG hd d k with
  | none=>rw [e] at p;exact p.elim
  | some b=>rw [e] at p;exact⟨ρ,hd,d,k,b,rs.hp,rv,rw',e,p.here rs (by simp only [rD,RD];rfl)⟩
theorem ku {K:PySem.W.Frag}:Og K oNe (Lx K not):=by
  intro ρ H σd hd σ d k v w Q rs rv rw' p
  unfold oNe at p
  cases e:eqG hd d k with
  | none=>rw [e] at p;exact p.elim
  | some b=>rw [e] at p;exact⟨ρ,hd,d,k,b,rs.hp,rv,rw',e,p.here rs (by simp only [rD,RD])⟩
end
end Fm
set_option Elab.async false
set_option linter.all false
set_option maxRecDepth 100000
namespace Fm
open PySem PySem.Spec L2
section
variable {K:PySem.W.Frag} {ρ ρ':List Addr} {H H':Hp} {hd hd':Hd} {σd:Sd} {σ:St}
theorem bZ.outE {r:Res D}{k:D→Hd→Out}{En:rL}(p:bZ K ρ H (outE r σd k) En) :
    bR K (rD K) ρ H σd σ r (fun v H'=>∃ ρ' d hd',Ext ρ H ρ' H'∧RS K ρ' H' σd hd' σ ∧ RD K ρ' H' d v∧bZ K ρ' H' (k d hd') En):=by
  cases r with
  | ok d h'=>exact fun b H' ρ' ex rs q=>⟨ρ',d,h',ex,rs,q,bZ.ext ex p⟩
  | exc x h'=>exact p
  | bad=>exact p
theorem RSt.set (r:RSt K ρ H σd σ){d:D}{v:V}(i:Nat)(h:RD K ρ H d v):RSt K ρ H (σd.set i (some d)) (σ.set i (some v)):=by
  refine⟨by simp [r.len],fun j x e => ?_⟩
  by_cases hj:i=j
  · subst hj
    by_cases hl:i < σd.length
    · simp only [slot,List.getElem?_set_self hl] at e
      cases e
      exact⟨v,by rw [List.getElem?_set_self (by rw [← r.len];exact hl)],h⟩
    · simp only [slot] at e
      rw [List.getElem?_eq_none (by simp;omega)] at e
      cases e
  · simp only [slot,List.getElem?_set_ne hj] at e
    rw [List.getElem?_set_ne hj]
    exact r.at' j x (by simpa only [slot] using e)
def Qa (K:PySem.W.Frag) (g:GF):TG:=fun v σ H Q=>∃ ρ σd hd d σd',RS K ρ H σd hd σ ∧ RD K ρ H d v∧g d σd=some σd' ∧ ∀ σ',RS K ρ H σd' hd σ'→Q σ' H
def Oh (σ:Sd) (l:List Nat) (xs:List D):Sd:=(l.zip xs).foldl (fun σ p => σ.set p.1 (some p.2)) σ
def Oi (K:PySem.W.Frag) (l:List Nat):TGs:=fun vs σ H Q=>∃ ρ σd hd ds,RS K ρ H σd hd σ ∧ RDs K ρ H ds vs∧ds.length=l.length ∧ ∀ σ',RS K ρ H (Oh σd l ds) hd σ'→Q σ' H
end
def MG (X:Cx) (tg:Expr) (g:GF):Prop:=PG X tg (Qa X.K g)
def MGs (X:Cx) (ts:List Expr) (l:List Nat):Prop:=PGs X ts (Oi X.K l)
section
variable {X:Cx} {pos:Pos}
theorem PG.imp {tg:Expr}{t u:TG}(h:PG X tg t)(i:∀ v σ H Q,u v σ H Q→t v σ H Q):PG X tg u:=fun pins s σ H v w Q I r q=>h pins s σ H v w Q I r (i v σ H Q q)
theorem PGs.imp {tg:List Expr}{t u:TGs}(h:PGs X tg t)(i:∀ v σ H Q,u v σ H Q→t v σ H Q):PGs X tg u:=fun pins s σ H v w Q I r q=>h pins s σ H v w Q I r (i v σ H Q q)
theorem aL {i:Nat}{x:Str}(hN:X.N.Nodup)(hi:X.N[i]? = some x)(hx:Loc X.env.scope x)(hf:X.fn x=true∨X.env.scope.names.lookup x=some .local:=by first|exact .inl rfl|exact .inr rfl|assumption):MG X (.Name x pos) (gN i):=by
  refine PG.imp (Lf hN hi hx hf) fun v σ H Q ⟨ρ,σd,hd,d,σd',rs,rv,e,q⟩ => ?_
  simp only [gN,Option.some.injEq] at e
  subst e
  exact q _ ⟨rs.hp,rs.st.set i rv⟩
theorem lH:MGs X [] []:=by
  refine PGs.imp Lg fun vs σ H Q ⟨ρ,σd,hd,ds,rs,rv,e,q⟩ => ?_
  have:ds=[]:=by simpa using e
  subst this
  simp only [RDs] at rv
  exact⟨rv,q σ rs⟩
theorem c8 {e:Expr}{es:List Expr}{i:Nat}{l:List Nat}(h1:MG X e (gN i))(h2:MGs X es l)
    (hs:(assignEach (e :: es) X.env).map (·.2)=assign e X.env :: (assignEach es X.env).map (·.2):=by rfl):MGs X (e :: es) (i :: l):=by
  refine PGs.imp (HR h1 h2 hs) fun vs σ H Q ⟨ρ,σd,hd,ds,rs,rv,e,q⟩ => ?_
  cases ds with
  | nil=>simp at e
  | cons d ds =>
    simp only [RDs] at rv
    obtain⟨v,r,rfl,h1,h2⟩:=rv
    refine⟨v,r,rfl,ρ,σd,hd,d,_,rs,h1,rfl,fun σ' rs' => ?_⟩
    exact⟨ρ,_,hd,ds,rs',h2,by simpa using e,fun σ2 rs2=>q σ2 rs2⟩
theorem oN {es:List Expr}{k:Nat}{l:List Nat}(hc:X.calm=true)(h:MGs X es l)
    (hn:(assignEach es X.env).length=l.length:=by rfl) (hst:(assignEach es X.env).findIdx? (·.1)=none:=by rfl):MG X (.Tuple es k pos) (gT l):=by
  refine PG.imp (NM hc h hn hst) fun v σ H Q ⟨ρ,σd,hd,d,σd',rs,rv,e,q⟩ => ?_
  cases d<;>simp only [gT] at e<;>try (cases e;done)
  rename_i xs
  split at e
  · rename_i hl
    cases e
    simp only [RD] at rv
    obtain⟨p,vs,rfl,hp,r⟩:=rv
    exact⟨p,vs,rfl,SqT.of hp,by rw [← r.length];exact hl,ρ,σd,hd,xs,rs,r,hl,q⟩
  · cases e
theorem bn:MSs X [] bB:=PSs.imp xP fun En σ H ⟨ρ,σd,hd,rs,p⟩=>p σ H ρ Ext.refl rs
theorem ah {st:Stmt}{rest:List Stmt}{a b:SF}(h1:MS X st a)(h2:MSs X rest b):MSs X (st :: rest) (aC a b):=by
  refine PSs.imp (Af h1 h2) fun En σ H ⟨ρ,σd,hd,rs,p⟩=>⟨ρ,σd,hd,rs,?_⟩
  unfold aC at p
  cases e:a σd hd with
  | nx σ1 h1=>rw [e] at p;exact fun σ' H' ρ' ex rs'=>⟨ρ',σ1,h1,rs',bZ.ext ex p⟩
  | rt d h1=>rw [e] at p;exact p
  | bk σ1 h1=>rw [e] at p;exact p
  | ct σ1 h1=>rw [e] at p;exact p
  | exc x σ1 h1=>rw [e] at p;exact p
  | bad=>rw [e] at p;exact p
theorem av {st:Stmt}{a:SF}(h:MS X st a):MSs X [st] a:=xQ h
theorem iW {st:Stmt}:MS X st jL:=PS.imp HP fun En σ H ⟨ρ,σd,hd,rs,p⟩=>p.elim
theorem aV {e:Expr}{f:EF}(h:ME X e f):MS X (.Return (some e) pos) (bo f):=by
  refine PS.imp (NG h) fun En σ H ⟨ρ,σd,hd,rs,p⟩=>⟨ρ,σd,hd,rs,(bZ.outE p).imp fun v H1 ⟨ρ1,d,hd1,e1,rs1,rv,p1⟩ => ?_⟩
  exact p1 v H1 ρ1 Ext.refl rs1.hp rv
theorem ge {e:Expr}{f:EF}(h:ME X e f)(hs:swapsWith e none pos.line X.env=pure false:=by rfl):MS X (.Expr e pos) (gq f):=by
  refine PS.imp (Ey h hs) fun En σ H ⟨ρ,σd,hd,rs,p⟩=>⟨ρ,σd,hd,rs,(bZ.outE p).imp fun v H1 ⟨ρ1,d,hd1,e1,rs1,rv,p1⟩ => ?_⟩
  exact p1 σ H1 ρ1 Ext.refl rs1
theorem cm {c:Expr}{a b:List Stmt}{t:TF}{fa fb:SF}(hc:MT X c t)(ha:MSs X a fa)(hb:MSs X b fb):MS X (.If c a b pos) (sIf t fa fb):=by
  refine PS.imp (M0 hc ha hb) fun En σ H ⟨ρ,σd,hd,rs,p⟩=>⟨ρ,σd,hd,rs,?_⟩
  unfold sIf at p
  cases e:t σd hd with
  | ok c h1 =>
    rw [e] at p
    intro b H' ρ' ex rs' q
    cases q
    cases c with
    | true=>simp only [if_true] at p ⊢;exact⟨ρ',σd,h1,rs',bZ.ext ex p⟩
    | false=>simp only [Bool.false_eq_true,if_false] at p ⊢;exact⟨ρ',σd,h1,rs',bZ.ext ex p⟩
  | exc x h1=>rw [e] at p;exact p
  | bad=>rw [e] at p;exact p
theorem aP {i:Nat}{x:Str}{e:Expr}{f:EF}{pos':Pos}(hN:X.N.Nodup)(hi:X.N[i]? = some x)(hx:Loc X.env.scope x)(he:ME X e f)(hs:swapsWith e (some (.Name x pos')) pos.line X.env=pure false:=by rfl)(hf:X.fn x=true∨X.env.scope.names.lookup x=some .local:=by first|exact .inl rfl|exact .inr rfl|assumption) :
    MS X (.Assign [.Name x pos'] e pos) (aE (gN i) f):=by
  refine PS.imp (Cf hN hi hx he hs hf) fun En σ H ⟨ρ,σd,hd,rs,p⟩=>⟨ρ,σd,hd,rs,(bZ.outE p).imp fun v H1 ⟨ρ1,d,hd1,e1,rs1,rv,p1⟩ => ?_⟩
  exact p1 _ H1 ρ1 Ext.refl ⟨rs1.hp,rs1.st.set i rv⟩
theorem Oj {tg e:Expr}{f:EF}{g:GF}(he:ME X e f)(hg:MG X tg g)(hs:swapsWithSole [tg] e pos.line X.env=pure false:=by rfl)(hw:swappedStores [tg] e X.env=pure none:=by rfl)
    (h1:(assignEach [tg] X.env).map (·.2)=[assign tg X.env]:=by rfl):MS X (.Assign [tg] e pos) (aE g f):=by
  refine PS.imp (Ce he hg hs hw h1) fun En σ H ⟨ρ,σd,hd,rs,p⟩=>⟨ρ,σd,hd,rs,(bZ.outE p).imp fun v H1 ⟨ρ1,d,hd1,e1,rs1,rv,p1⟩ => ?_⟩
  cases c:g d σd with
  | none=>rw [c] at p1;exact p1.elim
  | some σ1=>rw [c] at p1;exact⟨ρ1,σd,hd1,d,σ1,rs1,rv,c,fun σ' rs'=>p1 σ' H1 ρ1 Ext.refl rs'⟩
theorem Om:Fm.ixN=L2.ixN:=rfl
theorem Cs {o i e:Expr}{fo fi fe:EF}{p2:Pos}(he:ME X e fe)(ho:ME X o fo)(hi:ME X i fi)(hs:swapsWithSole [.Subscript o i p2] e pos.line X.env=pure false:=by rfl)(hw:swappedStores [.Subscript o i p2] e X.env=pure none:=by rfl)
    (h1:(assignEach [.Subscript o i p2] X.env).map (·.2)=[assign (.Subscript o i p2) X.env]:=by rfl) (ha:∀ v,assign (.Subscript o i p2) X.env v=(do
      let ov ← holding [v] (eval o X.env)
      let iv ← holding [v,ov] (eval i X.env)
      standAt p2
      holding [v,ov,iv] (setItem ov iv v)
      release [v,ov,iv] []):=by intro _;rfl):MS X (.Assign [.Subscript o i p2] e pos) (qN fo fi fe):=by
  refine PS.imp (Ce he (HS ho hi Ic ha) hs hw h1) fun En σ H ⟨ρ,σd,hd,rs,p⟩=>⟨ρ,σd,hd,rs,(bZ.outE p).imp fun v H1 ⟨ρ1,d,hd1,e1,rs1,rv,p1⟩ => ?_⟩
  refine⟨ρ1,σd,hd1,rs1,(bZ.outE p1).imp fun vo H2 ⟨ρ2,dO,hd2,e2,rs2,ro,p2⟩ => ?_⟩
  refine⟨ρ2,σd,hd2,rs2,(bZ.outE p2).imp fun vi H3 ⟨ρ3,di,hd3,e3,rs3,ri,p3⟩ => ?_⟩
  have rv3:=(rv.mono (rs1.hp.kp e2)).mono (rs2.hp.kp e3)
  have ro3:=ro.mono (rs2.hp.kp e3)
  cases dO with
  | ref n =>
    cases di with
    | int j =>
      simp only at p3
      cases c:hd3[n]? with
      | none=>rw [c] at p3;exact p3.elim
      | some cell =>
        rw [c] at p3
        cases cell with
        | dct l=>exact p3.elim
        | lst l =>
          simp only at p3
          cases c2:ixN l.length j with
          | none=>rw [c2] at p3;exact p3.elim
          | some k =>
            rw [c2] at p3
            simp only [RD] at ro3 ri
            obtain⟨a,ha,rfl⟩:=ro3
            obtain⟨vs,hv,rvs⟩:=rs3.hp.cel n _ a c ha
            refine⟨a,vs,j,k,rfl,ri,hv,by rw [← rvs.length,← Om];exact c2,?_⟩
            have hn:n < hd3.length:=(List.getElem?_eq_some_iff.mp c).1
            have rh:=rs3.hp.write ha hn (RDs.set rv3 k rvs)
            have ex:Ext ρ3 H3 ρ3 (upd H3 a (.lst (vs.set k v))):=Ext.write (List.mem_of_getElem? ha)
            exact p3 σ _ ρ3 ex (rs3.ext ex rh)
    | _=>exact p3.elim
  | _=>exact p3.elim
end
section
variable (K:PySem.W.Frag)
structure si (ρ0:List Addr) (H0:Hp) (J:It) (l:List D) (g:Option Nat):Prop where
  go:∀ ρ H hd (i:Nat) d,Ext ρ0 H0 ρ H→RH K ρ H hd→kJ g l hd→l[i]? = some d→J.go i H ∧ ∀ x H',J.yld i H x H'→jh H H'∧RD K ρ H' d x
  stop:∀ ρ H hd,Ext ρ0 H0 ρ H→RH K ρ H hd→kJ g l hd→J.stop l.length H
  sz:l.length≤sizeLine
def Qb (ρ:List Addr) (H:Hp) (σd:Sd) (σ:St) (r:Res (List D × Option Nat)) (R:It→Hp→Prop):Prop:=match r with
  | .ok p hd'=>∀ J H' ρ',Ext ρ H ρ' H'→RS K ρ' H' σd hd' σ → si K ρ' H' J p.1 p.2→R J H'
  | _=>False
def Qc (f:IF):TI:=fun σ H R=>∃ ρ σd hd,RS K ρ H σd hd σ ∧ Qb K ρ H σd σ (f σd hd) R
end
def MI (X:Cx) (tg e:Expr) (f:IF):Prop:=PI X tg e (Qc X.K f)
section
variable {X:Cx} {pos:Pos} {tg:Expr}
theorem PI.imp {e:Expr}{t u:TI}(h:PI X tg e t)(i:∀ σ H R,u σ H R→t σ H R):PI X tg e u:=fun pins s σ H R I q=>h pins s σ H R I (i σ H R q)
theorem fq {iter:Expr}{body:List Stmt}{f:IF}{g:GF}{b:SF}(hp:PassesOwn (model X.prog X.w) X.A X.env X.xe)(hc:X.calm=true)(hi:MI X tg iter f)(hg:MG X tg g)(hb:MSs X body b)
    (hs:∀ x,foldedSetIterable iter X.env x=pure x:=by intro _;rfl):MS X (.For tg iter body [] pos) (fm f g b):=by
  refine PS.imp (NP hp hc hi hg hb hs) fun En σ H ⟨ρ,σd,hd,rs,p⟩=>⟨ρ,σd,hd,rs,?_⟩
  unfold fm at p
  cases e:f σd hd with
  | exc x h'=>rw [e] at p;exact p
  | bad=>rw [e] at p;exact p
  | ok q hd1 =>
    rw [e] at p
    obtain⟨l,gd⟩:=q
    intro J H1 ρ1 ex1 rs1 wk
    simp only at p wk
    refine⟨fun i m σ' H'=>∃ ρ' σd' hd',Ext ρ1 H1 ρ' H'∧RS X.K ρ' H' σd' hd' σ'∧i≤l.length∧m=l.length - i∧bZ X.K ρ' H' (fO gd l g b (l.drop i) σd' hd') En,
      ⟨l.length,ρ1,σd,hd1,Ext.refl,rs1,Nat.zero_le _,by simp,by simpa using bZ.ext ex1 p⟩,?_⟩
    rintro i m σ' H' ⟨ρ',σd',hd',ex,rs',hil,rfl,pp⟩
    by_cases hlt:i < l.length
    · have hdi:l[i]? = some l[i]:=by simp [hlt]
      rw [List.drop_eq_getElem_cons hlt] at pp
      unfold fO at pp
      by_cases hh:kJ gd l hd'
      · rw [if_pos hh] at pp
        obtain⟨go,yl⟩:=wk.go ρ' H' hd' i _ ex rs'.hp hh hdi
        refine .inr ⟨go,fun σ2 H2=>∃ ρ2 σd2 hd2,Ext ρ1 H1 ρ2 H2∧RS X.K ρ2 H2 σd2 hd2 σ2∧bZ X.K ρ2 H2 (fO gd l g b (l.drop (i + 1)) σd2 hd2) En,
          fun σ2 H2 ⟨ρ2,σd2,hd2,a1,a2,a3⟩=>⟨l.length - (i + 1),by omega,ρ2,σd2,hd2,a1,a2,hlt,rfl,a3⟩,fun x H2 y => ?_⟩
        obtain⟨sm,rx⟩:=yl x H2 y
        cases c:g l[i] σd' with
        | none=>rw [c] at pp;exact pp.elim
        | some σd2 =>
          rw [c] at pp
          simp only at pp
          refine⟨ρ',σd',hd',l[i],σd2,rs'.same sm,rx,c,fun σ2 rs2=>⟨ρ',σd2,hd',rs2,?_⟩⟩
          have e12:Ext ρ' H' ρ' H2:=Ext.same sm
          cases c2:b σd2 hd' with
          | nx σ3 h3=>rw [c2] at pp;exact fun σ4 H4 ρ4 ex4 rs4=>⟨ρ4,σ3,h3,ex.trans (e12.trans ex4),rs4,bZ.ext (e12.trans ex4) pp⟩
          | ct σ3 h3=>rw [c2] at pp;exact fun σ4 H4 ρ4 ex4 rs4=>⟨ρ4,σ3,h3,ex.trans (e12.trans ex4),rs4,bZ.ext (e12.trans ex4) pp⟩
          | bk σ3 h3=>rw [c2] at pp;exact fun σ4 H4 ρ4 ex4 rs4=>pp σ4 H4 ρ4 (e12.trans ex4) rs4
          | rt d h3=>rw [c2] at pp;exact fun v H4 ρ4 ex4 rs4 rv=>pp v H4 ρ4 (e12.trans ex4) rs4 rv
          | exc x σ3 h3=>rw [c2] at pp;exact pp
          | bad=>rw [c2] at pp;exact pp
      · rw [if_neg hh] at pp;exact pp.elim
    · have e0:i=l.length:=by omega
      subst e0
      rw [List.drop_length] at pp
      unfold fO at pp
      by_cases hh:kJ gd l hd'
      · rw [if_pos hh] at pp
        exact .inl ⟨wk.stop ρ' H' hd' ex rs'.hp hh,pp σ' H' ρ' Ext.refl rs'⟩
      · rw [if_neg hh] at pp;exact pp.elim
theorem Ip {c:Expr}{body:List Stmt}{t:TF}{b:SF}(hp:PassesOwn (model X.prog X.w) X.A X.env X.xe)(hc:MT X c t)(hb:MSs X body b):MS X (.While c body [] pos) (sd t b):=by
  refine PS.imp (HU hp hc hb) fun En σ H ⟨ρ,σd,hd,rs,p⟩ => ?_
  unfold sd at p
  refine⟨fun m σ' H'=>∃ ρ' σd' hd',RS X.K ρ' H' σd' hd' σ'∧bZ X.K ρ' H' (eS t b m σd' hd') En,⟨Lv t b σd hd,ρ,σd,hd,rs,p⟩,?_⟩
  rintro m σ' H' ⟨ρ',σd',hd',rs',pp⟩
  cases m with
  | zero=>exact pp.elim
  | succ m =>
    unfold eS at pp
    refine⟨ρ',σd',hd',rs',?_⟩
    cases e:t σd' hd' with
    | exc x h1=>rw [e] at pp;exact pp
    | bad=>rw [e] at pp;exact pp
    | ok c h1 =>
      rw [e] at pp
      intro b' H2 ρ2 ex2 rs2 q
      cases q
      cases c with
      | false=>simp only [Bool.false_eq_true,if_false] at pp ⊢;exact pp σ' H2 ρ2 ex2 rs2
      | true =>
        simp only [if_true] at pp ⊢
        refine⟨fun σ3 H3=>∃ ρ3 σd3 hd3,RS X.K ρ3 H3 σd3 hd3 σ3∧bZ X.K ρ3 H3 (eS t b m σd3 hd3) En,fun σ3 H3 q=>⟨m,Nat.lt_succ_self _,q⟩,ρ2,σd',h1,rs2,?_⟩
        cases c2:b σd' h1 with
        | nx σ3 h3=>rw [c2] at pp;exact fun σ4 H4 ρ4 ex4 rs4=>⟨ρ4,σ3,h3,rs4,bZ.ext (ex2.trans ex4) pp⟩
        | ct σ3 h3=>rw [c2] at pp;exact fun σ4 H4 ρ4 ex4 rs4=>⟨ρ4,σ3,h3,rs4,bZ.ext (ex2.trans ex4) pp⟩
        | bk σ3 h3=>rw [c2] at pp;exact fun σ4 H4 ρ4 ex4 rs4=>pp σ4 H4 ρ4 (ex2.trans ex4) rs4
        | rt d h3=>rw [c2] at pp;exact fun v H4 ρ4 ex4 rs4 rv=>pp v H4 ρ4 (ex2.trans ex4) rs4 rv
        | exc x σ3 h3=>rw [c2] at pp;exact pp
        | bad=>rw [c2] at pp;exact pp
theorem Iq {K:PySem.W.Frag}{ρ:List Addr}{H:Hp}{hd:Hd}{q:Addr}{l:List D}{vs:List V}(r:RH K ρ H hd)(hq:H q=some (.tup vs))(rv:RDs K ρ H l vs)(hz:vs.length≤sizeLine):si K ρ H (Itt K q) l none where
  go:=fun ρ' H' hd' i d ex rh _ hi=>by
    have k:=r.kp ex
    obtain⟨v,hv,rd⟩:=(rv.mono k).get hi
    have sq:SqT K H' q vs:=SqT.of (k.tup q vs hq)
    refine⟨⟨vs,v,sq,hv⟩,fun x H2 y => ?_⟩
    obtain⟨rfl,y⟩:=y
    have:=y vs sq
    rw [hv] at this
    cases this
    exact⟨jh.refl _,rd⟩
  stop:=fun ρ' H' hd' ex rh _=>⟨vs,SqT.of ((r.kp ex).tup q vs hq),by rw [rv.length];exact Nat.le_refl _⟩
  sz:=by rw [rv.length];exact hz
theorem Ir {K:PySem.W.Frag}{ρ:List Addr}{H:Hp}{hd:Hd}{q:Addr}{l:List D}{vs:List V}(r:RH K ρ H hd)(hq:qg K H q vs)(rv:RDs K ρ H l vs)(hz:vs.length≤sizeLine):si K ρ H (Itl K q) l none where
  go:=fun ρ' H' hd' i d ex rh _ hi=>by
    have k:=r.kp ex
    obtain⟨v,hv,rd⟩:=(rv.mono k).get hi
    have sq:SqL K H' q vs:=(hq.mono k).sq
    refine⟨⟨vs,v,sq,hv⟩,fun x H2 y => ?_⟩
    obtain⟨rfl,y⟩:=y
    have:=y vs sq
    rw [hv] at this
    cases this
    exact⟨jh.refl _,rd⟩
  stop:=fun ρ' H' hd' ex rh _=>⟨vs,(hq.mono (r.kp ex)).sq,by rw [rv.length];exact Nat.le_refl _⟩
  sz:=by rw [rv.length];exact hz
theorem Iu {K:PySem.W.Frag}{ρ:List Addr}{H:Hp}{n:Nat}{q:Addr}{l:List D}(hq : ρ[n]? = some q)(hz:l.length≤sizeLine):si K ρ H (Itl K q) l (some n) where
  sz:=hz
  go:=fun ρ' H' hd' i d ex rh hl hi=>by
    obtain⟨vs,e,rv⟩:=rh.cel n _ q hl (ex.get hq)
    obtain⟨v,hv,rd⟩:=rv.get hi
    have sq:SqL K H' q vs:=SqL.of e
    refine⟨⟨vs,v,sq,hv⟩,fun x H2 y => ?_⟩
    obtain⟨rfl,y⟩:=y
    have:=y vs sq
    rw [hv] at this
    cases this
    exact⟨jh.refl _,rd⟩
  stop:=fun ρ' H' hd' ex rh hl=>by
    obtain⟨vs,e,rv⟩:=rh.cel n _ q hl (ex.get hq)
    exact⟨vs,SqL.of e,by rw [rv.length];exact Nat.le_refl _⟩
theorem Iv {l:Expr}{tl:TE}(hl:PE X l tl):PI X tg l (fun σ H R=>tl σ H fun x H1=>(∃ a xs,x=.ref a∧SqL X.K H1 a xs∧(xs.length≤sizeLine→R (Itl X.K a) H1)) ∨ ∃ a xs,x=.ref a∧SqT X.K H1 a xs∧(xs.length≤sizeLine→R (Itt X.K a) H1)):=by
  intro pins s σ H R I h
  refine thn (hl pins s σ H _ I h) fun v s1 ⟨x,H1,I1,r1,q1⟩ => ?_
  rcases q1 with ⟨a,xs,e,hq,q⟩|⟨a,xs,e,hq,q⟩
  · subst e
    cases r1
    obtain⟨its,rv,p,hz⟩:=I1.list hq
    refine wpAny_pyIter_list p.isList ?_
    refine⟨s1.heap.objs.size,[s1.heap.objs.size],_,_,H1,rfl,I1.kept (t':=s1.toks) fun b o e=>Heap.get?_push_of_some _ e,Fz a _,⟨_,Heap.get?_push_size _ rfl,rfl,rfl⟩,fun b hb => ?_,q hz⟩
    have e:b=s1.heap.objs.size:=by simpa using hb
    subst e
    exact I1.fpOk (Nat.le_refl _) (I1.hok.fresh (Nat.le_refl _))
  · subst e
    cases r1
    obtain⟨its,rv,p,hz⟩:=I1.tuple hq
    refine wpAny_pyIter_tuple (show s1.heap.IsTuple a its.toArray from p) ?_
    refine⟨s1.heap.objs.size,[s1.heap.objs.size],_,_,H1,rfl,I1.kept (t':=s1.toks) fun b o e=>Heap.get?_push_of_some _ e,Ch a _,⟨_,Heap.get?_push_size _ rfl,rfl,rfl⟩,fun b hb => ?_,q hz⟩
    have e:b=s1.heap.objs.size:=by simpa using hb
    subst e
    exact I1.fpOk (Nat.le_refl _) (I1.hok.fresh (Nat.le_refl _))
theorem eT {e:Expr}{f:EF}(h:ME X e f):MI X tg e (ek f):=by
  refine PI.imp (Iv h) fun σ H R ⟨ρ,σd,hd,rs,p⟩=>⟨ρ,σd,hd,rs,?_⟩
  unfold ek at p
  cases e:f σd hd with
  | exc x h1=>rw [e] at p;exact p
  | bad=>rw [e] at p;exact p
  | ok d hd1 =>
    rw [e] at p
    simp only [aH] at p
    intro v H1 ρ1 ex1 rs1 rv
    cases d<;>try exact p.elim
    · rename_i l
      simp only [rD,RD] at rv
      obtain⟨q,vs,rfl,hq,rvs⟩:=rv
      exact .inr ⟨q,vs,rfl,SqT.of hq,fun hz=>p _ H1 ρ1 ex1 rs1 (Iq rs1.hp hq rvs hz)⟩
    · rename_i n
      simp only [rD,RD] at rv
      obtain⟨a,ha,rfl⟩:=rv
      cases c:hd1[n]? with
      | none=>simp only [c] at p;exact p.elim
      | some cell =>
        cases cell with
        | dct l=>simp only [c] at p;exact p.elim
        | lst l =>
          simp only [c] at p
          obtain⟨vs,hv,rvs⟩:=rs1.hp.cel n _ a c ha
          exact .inl ⟨a,vs,rfl,SqL.of hv,fun hz=>p _ H1 ρ1 ex1 rs1 (Iu ha (by rw [rvs.length];exact hz))⟩
    · rename_i l
      simp only [rD,RD] at rv
      obtain⟨q,vs,rfl,hq,rvs⟩:=rv
      exact .inl ⟨q,vs,rfl,hq.sq,fun hz=>p _ H1 ρ1 ex1 rs1 (Ir rs1.hp hq rvs hz)⟩
theorem On {e:Expr}{la:LF}(h:MF X e la):MI X tg e (Ob la):=by
  refine PI.imp (Iv h) fun σ H R ⟨ρ,σd,hd,rs,p⟩=>⟨ρ,σd,hd,rs,?_⟩
  unfold Ob at p
  cases e:la σd hd with
  | exc x h1=>rw [e] at p;exact p
  | bad=>rw [e] at p;exact p
  | ok l hd1 =>
    rw [e] at p
    simp only [aH] at p
    intro q vs H1 ρ1 ex1 rs1 hq0 hq hn rvs
    refine .inl ⟨q,vs,rfl,SqL.of hq,fun hz=>p _ H1 ρ1 ex1 rs1 ⟨fun ρ' H' hd' i d ex rh _ hi => ?_,fun ρ' H' hd' ex rh _=>⟨vs,SqL.of (ex.frame q _ hq hn),by rw [rvs.length];exact Nat.le_refl _⟩,by rw [rvs.length];exact hz⟩⟩
    obtain⟨v,hv,rd⟩:=(rvs.mono (rs1.hp.kp ex)).get hi
    have sq:SqL X.K H' q vs:=SqL.of (ex.frame q _ hq hn)
    refine⟨⟨vs,v,sq,hv⟩,fun x H2 y => ?_⟩
    obtain⟨rfl,y⟩:=y
    have:=y vs sq
    rw [hv] at this
    cases this
    exact⟨jh.refl _,rd⟩
theorem sj {K:PySem.W.Frag}{ρ:List Addr}{H:Hp}(lo:Int)(n:Nat)(hz:n≤2000000):si K ρ H (Itr lo n) ((List.range n).map fun k:Nat=>.int (lo + k)) none where
  go:=fun ρ' H' hd' i d ex rh _ hi=>by
    have hin:i < n:=by
      have:=(List.getElem?_eq_some_iff.mp hi).1
      simpa using this
    refine⟨hin,fun x H2 y => ?_⟩
    obtain⟨rfl,rfl⟩:=y
    have e:d=.int (lo + i):=by simpa [hin] using hi.symm
    subst e
    exact⟨jh.refl _,by simp only [RD]⟩
  stop:=fun ρ' H' hd' ex rh _=>by
    show n≤_
    simp
  sz:=by
    have:(2000000:Nat)≤sizeLine:=by rw [sizeLine_eq];decide
    simp;omega
theorem cU {a:Expr} {f:EF} {p:Pos} (hg:Gl X "range") (hm:X.mg "range" = none) (ha:ME X a f) (hs:starEach [a] X.env=[(false,eval a X.env)]:=by rfl):MI X tg (.Call (.Name "range" p) [a] [] pos) (bL f):=by
  refine PI.imp (FA hg hm (cr ha eR hs) hs) fun σ H R ⟨ρ,σd,hd,rs,pp⟩=>⟨ρ,σd,hd,rs,?_⟩
  unfold bL at pp
  cases e:f σd hd with
  | exc x h1=>rw [e] at pp;exact pp
  | bad=>rw [e] at pp;exact pp
  | ok d hd1 =>
    rw [e] at pp
    simp only [aH] at pp
    intro v H1 ρ1 ex1 rs1 rv
    cases d<;>try exact pp.elim
    rename_i n
    simp only at pp
    simp only [rD,RD] at rv
    subst rv
    split at pp
    · rename_i hb
      refine⟨n,rfl,by omega,by omega,pp _ H1 ρ1 ex1 rs1 ?_⟩
      have:=sj (K:=X.K) (ρ := ρ1) (H:=H1) 0 n.toNat (by omega)
      simpa using this
    · exact pp.elim
theorem FM {a b:Expr} {f g:EF} {p:Pos} (hg:Gl X "range") (hm:X.mg "range" = none) (ha:ME X a f) (hb:ME X b g) (hs:starEach [a,b] X.env=[(false,eval a X.env),(false,eval b X.env)]:=by rfl) (hs2:starEach [b] X.env=[(false,eval b X.env)]:=by rfl):MI X tg (.Call (.Name "range" p) [a,b] [] pos) (xX f g):=by
  refine PI.imp (FC hg hm (cr ha (cr hb eR hs2) (by rw [hs,hs2])) hs hs2) fun σ H R ⟨ρ,σd,hd,rs,pp⟩=>⟨ρ,σd,hd,rs,?_⟩
  unfold xX at pp
  cases e:f σd hd with
  | exc x h1=>rw [e] at pp;exact pp
  | bad=>rw [e] at pp;exact pp
  | ok d hd1 =>
    rw [e] at pp
    simp only [aH] at pp
    intro v H1 ρ1 ex1 rs1 rv
    refine⟨ρ1,σd,hd1,rs1,?_⟩
    cases e2:g σd hd1 with
    | exc x h1=>rw [e2] at pp;exact pp
    | bad=>rw [e2] at pp;exact pp
    | ok d2 hd2 =>
      rw [e2] at pp
      simp only [aH] at pp
      intro v2 H2 ρ2 ex2 rs2 rv2
      cases d<;>try exact pp.elim
      cases d2<;>try exact pp.elim
      rename_i i j
      simp only at pp
      simp only [rD,RD] at rv rv2
      subst rv rv2
      split at pp
      · rename_i hb
        exact⟨i,j,rfl,⟨by omega,by omega,by omega,by omega⟩,pp _ H2 ρ2 (ex1.trans ex2) rs2 (sj (K:=X.K) i (j - i).toNat (by omega))⟩
      · exact pp.elim
end
end Fm
set_option linter.all false
namespace Fm
noncomputable section
open Classical
def kw (G:Hd→Prop) (tg:GF) (cs:List TF) (e:EF):List D→Sd→Hd→Res (List D)
  | [],_,h=>if G h then .ok [] h else .bad
  | x :: xs,σ,h=>if G h then match tg x σ with
      | some σ=>(kK cs σ h).bind fun b h=>if b then (e σ h).bind fun d h=>(kw G tg cs e xs σ h).bind fun ds h=>.ok (d :: ds) h
        else kw G tg cs e xs σ h
      | none=>.bad
    else .bad
end
theorem ya {g:Option Nat}{all:List D}{tg:GF}{cs:List TF}{e:EF}:∀ (xs:List D) (σ:Sd) (h:Hd),cX g all tg cs e xs σ h=kw (kJ g all) tg cs e xs σ h
  | [],_,h=>by unfold cX kw;rfl
  | x :: xs,σ,h=>by
    unfold cX kw
    by_cases hh:kJ g all h
    · rw [if_pos hh,if_pos hh]
      cases tg x σ with
      | none=>rfl
      | some σ'=>simp only [ya xs]
    · rw [if_neg hh,if_neg hh]
end Fm
set_option Elab.async false
set_option linter.all false
set_option maxRecDepth 100000
namespace Fm
open PySem PySem.Spec L2
section
variable {prog:Program} {w:World} {A:Around} {R:Result→Shared→Prop} {s:Shared}
theorem yb {elt target iter:Expr}{ifs:List Expr}{scope:Scope}{pos:Pos}{it acc:Value}{env:Env}{E:Value→Shared→Prop}(hE:∀ e s,¬ E e s)(I:Nat→Shared→Prop)
    (turn:∀ n s,I n s→wpAny (model prog w) A (pyNext it) (fun r s₁ => match r with
      | none=>R (.ok .next) s₁
      | some v=>wpAny (model prog w) A (letOwnedTupleGo target it v) (fun _ s₁ => wpAny (model prog w) A (assign target env v) (fun _ s₂ =>
          wpAny (model prog w) A (forIn ifs true fun c r=>if r=true then do let ok ← isTrue c env (eval c env);pure (ForInStep.yield ok) else pure (ForInStep.yield r)) (fun ok s₃ =>
            if ok=true then wpAny (model prog w) A (eval elt env) (fun x s₄ =>
              wpAny (model prog w) A (call (.builtin "list.append") [acc,x]) (fun _ s₅ => ∃ m,m < n∧I m s₅) E s₄) E s₃
            else ∃ m,m < n∧I m s₃) E s₂) E s₁) E s₁) E s)
    (n:Nat) (h:I n s) :
    codeAny (model prog w) A (.compLoop (.ListComp elt [⟨target,iter,ifs,0⟩] scope pos) 0 it acc env) R s:=by
  refine codeAny_loop rfl I (fun n s hI => ?_) n h
  show wpAny _ A ((compTurn (.ListComp elt [⟨target,iter,ifs,0⟩] scope pos) 0 it acc env).onRaise (fun x=>do noteFrame x env;theTreesLotGoes x)) _ _ s
  refine wpAny_noted ?_
  rw [compTurn_list]
  have no:∀ {α : Type} {t:Sem α} {Q Q' : α → Shared→Prop} {E':Value→Shared→Prop} {s:Shared},wpAny (model prog w) A t Q E s→(∀ a s,Q a s→Q' a s)→wpAny (model prog w) A t Q' E' s:=fun h hq=>wpAny_mono h hq fun e s z=>(hE e s z).elim
  refine wpAny_bind (wpAny_standAt (wpAny_bind (no (turn n s hI) fun r s₁ h₁ => ?_)))
  cases r with
  | none=>exact wpAny_pure h₁
  | some v =>
    refine wpAny_bind (no h₁ fun _ s₁ h₁ => ?_)
    refine wpAny_bind (no h₁ fun _ s₂ h₂ => wpAny_bind (no h₂ fun ok s₃ h₃ => ?_))
    cases ok with
    | false=>exact wpAny_pure ⟨rfl,h₃⟩
    | true =>
      exact wpAny_bind (wpAny_bind (no h₃ fun x s₄ h₄ => wpAny_bind (no h₄ fun _ s₅ h₅ => wpAny_pure (wpAny_pure ⟨rfl,h₅⟩))))
end
theorem mQ {env:Env}:∀ (l:List (Str × NameKind)) (cs:List (Str × Addr)),(∀ y∈l,y.2=.free → ∃ c,env.cells.lookup y.1=some c) →
    ∃ cl,(forIn l cs fun (x:Str × NameKind) (r:List (Str × Addr))=>if (x.2 == .free)=true then do let a ← cellOf env x.1;pure (ForInStep.yield ((x.1,a) :: r)) else pure (ForInStep.yield r))=(pure cl:Sem _) ∧
      (∀ x c,cl.lookup x=some c→cs.lookup x=some c∨env.cells.lookup x=some c)∧(∀ y∈l,y.2=.free → ∃ c,cl.lookup y.1=some c) ∧ ∀ x c,cs.lookup x=some c → ∃ c',cl.lookup x=some c'
  | [],cs,_=>⟨cs,by simp,fun x c h=>.inl h,fun y hy=>by simp at hy,fun x c h=>⟨c,h⟩⟩
  | (n,k) :: l,cs,hf=>by
    by_cases hk:k=.free
    · subst hk
      obtain⟨c,hc⟩:=hf (n,.free) (by simp) rfl
      obtain⟨cl,h1,h2,h3,h4⟩:=mQ l ((n,c) :: cs) fun y hy=>hf y (by simp [hy])
      refine⟨cl,?_,fun x d h => ?_,fun y hy hyf => ?_,fun x d h => ?_⟩
      · rw [List.forIn_cons]
        simp only [beq_self_eq_true,if_true,cellOf,hc]
        exact h1
      · rcases h2 x d h with q|q
        · rw [List.lookup_cons] at q
          cases e:x == n with
          | true =>
            rw [e] at q
            have:x=n:=by simpa using e
            subst this
            cases q
            exact .inr hc
          | false=>rw [e] at q;exact .inl q
        · exact .inr q
      · rcases List.mem_cons.mp hy with e|e
        · subst e
          exact h4 n c (by simp [List.lookup_cons])
        · exact h3 y e hyf
      · by_cases e:x=n
        · subst e
          exact h4 x c (by simp [List.lookup_cons])
        · exact h4 x d (by rw [List.lookup_cons,beq_eq_false_iff_ne.mpr e];exact h)
    · obtain⟨cl,h1,h2,h3,h4⟩:=mQ l cs fun y hy=>hf y (by simp [hy])
      refine⟨cl,?_,h2,fun y hy hyf => ?_,h4⟩
      · rw [List.forIn_cons]
        have:(k == NameKind.free)=false:=by simpa using hk
        simp only [this,Bool.false_eq_true,if_false]
        exact h1
      · rcases List.mem_cons.mp hy with e|e
        · subst e;exact absurd hyf hk
        · exact h3 y e hyf
theorem so {scope:Scope}{env:Env}(hf:∀ y∈scope.names,y.2=.free → ∃ c,env.cells.lookup y.1=some c) :
    ∃ cl,closureFor scope env=pure cl∧(∀ x c,cl.lookup x=some c→env.cells.lookup x=some c) ∧ ∀ y∈scope.names,y.2=.free → ∃ c,cl.lookup y.1=some c:=by
  obtain⟨cl,h1,h2,h3,_⟩:=mQ scope.names [] hf
  refine⟨cl,?_,fun x c h=>(h2 x c h).elim (fun z=>by simp at z) id,h3⟩
  unfold closureFor
  have e:(forIn scope.names ([] : List (Str × Addr)) fun (x:Str × NameKind) (r:List (Str × Addr))=>if (x.2 == .free)=true then do let a ← cellOf env x.1;pure (ForInStep.yield ((x.1,a) :: r)) else pure (ForInStep.yield r))=(pure cl:Sem _):=h1
  exact (congrArg (fun t:Sem (List (Str × Addr))=>t >>= fun r=>pure r) e).trans rfl
def cxC (X:Cx) (N:List Str) (scope:Scope) (cl:List (Str × Addr)) (C:Addr) (s:Shared) (H:Hp) (ex:List Addr):Cx where
  prog:=X.prog
  w:=X.w
  K:=X.K
  mg:=X.mg
  base:=X.base
  A:=X.A
  N:=N
  s₀ := s
  H₀ := H
  env:=compEnvC scope cl C X.env
  outer:=X.stack
  stack:=X.stack
  ex:=ex
  fn:=fun _=>false
  calm:=X.calm
  pn:=[]
  xe:=fun _ _=>False
def MTs (X:Cx) (ifs:List Expr) (cs:List TF):Prop :=
  ∀ (pins:List (Addr × Obj)) (s:Shared) (σ:St) (H:Hp) (Q:Bool→Hp→Prop),Inv X pins σ H s→lV X.K rB (kK cs) σ H Q →
    wpAny (model X.prog X.w) X.A (forIn ifs true fun c r=>if r=true then do let ok ← isTrue c X.env (eval c X.env);pure (ForInStep.yield ok) else pure (ForInStep.yield r)) (TP X pins σ Q) X.xe s
theorem el {X:Cx}:MTs X [] []:=fun pins s σ H Q I ⟨ρ,σd,hd,rs,p⟩=>wpAny_tests_nil ⟨H,I,p.here rs rfl⟩
theorem iG {X:Cx}{c:Expr}{t:TF}(h:MT X c t):MTs X [c] [t]:=fun pins s σ H Q I ⟨ρ,σd,hd,rs,p⟩=>wpAny_tests_one (h pins s σ H Q I ⟨ρ,σd,hd,rs,by
  have e:kK [t] σd hd=t σd hd:=by
    simp only [kK]
    cases c:t σd hd with
    | ok b h'=>cases b<;>simp
    | exc x h'=>rfl
    | bad=>rfl
  rw [e] at p
  exact p⟩)
theorem kL {env:Env}{x:Str}:∀ {names:List (Str × NameKind)} {k:NameKind},(names.map fun (n,k)=>if (k == NameKind.free && env.scope.kind == .function && env.kindOf n == some .cell) then (n,NameKind.cell) else (n,k)).lookup x=some k →
    ∃ k0,names.lookup x=some k0∧(k=k0∨(k0=.free∧k=.cell))
  | [],_,h=>by simp at h
  | (n,k') :: r,k,h=>by
    have ih := @kL env x r k
    have h':List.lookup x ((if (k' == NameKind.free && env.scope.kind == .function && env.kindOf n == some .cell)=true then (n,NameKind.cell) else (n,k')) :: _)=some k:=h
    cases hx:x == n with
    | true =>
      refine⟨k',by simp [List.lookup_cons,hx],?_⟩
      by_cases hc:(k' == NameKind.free && env.scope.kind == .function && env.kindOf n == some .cell)=true
      · rw [if_pos hc] at h'
        simp only [List.lookup_cons,hx,Option.some.injEq] at h'
        simp only [Bool.and_eq_true,beq_iff_eq] at hc
        exact .inr ⟨hc.1.1,h'.symm⟩
      · rw [if_neg hc] at h'
        simp only [List.lookup_cons,hx,Option.some.injEq] at h'
        exact .inl h'.symm
    | false =>
      have:List.lookup x ((n,k') :: r)=List.lookup x r:=by simp [List.lookup_cons,hx]
      rw [this]
      refine ih ?_
      by_cases hc:(k' == NameKind.free && env.scope.kind == .function && env.kindOf n == some .cell)=true
      · rw [if_pos hc] at h';simpa only [List.lookup_cons,hx] using h'
      · rw [if_neg hc] at h';simpa only [List.lookup_cons,hx] using h'
theorem im {x:Str}{k:NameKind}:∀ {l:List (Str × NameKind)},l.lookup x=some k→(x,k)∈l
  | [],h=>by simp at h
  | (n,k') :: r,h=>by
    rw [List.lookup_cons] at h
    cases e:x == n with
    | true =>
      rw [e] at h
      have:x=n:=by simpa using e
      subst this
      cases h
      exact List.mem_cons_self
    | false=>rw [e] at h;exact List.mem_cons_of_mem _ (im h)
structure cf (X:Cx) (scope:Scope) (own capn:List Str) (caps:List Nat):Prop where
  kind:scope.kind=.function
  cell:∀ y∈scope.names,y.2 ≠ .cell
  names:∀ y∈scope.names,y.2=.local→scope.names.lookup y.1=some .local
  free:∀ y∈scope.names,y.2=.free→X.env.kindOf y.1=some .cell∨X.env.kindOf y.1=some .free
  cap:∀ (j:Nat) x,capn[j]? = some x → ∃ i,caps[j]? = some i∧X.N[i]? = some x∧scope.names.lookup x=some .free
  len:capn.length=caps.length
section
variable {X:Cx} {pins:List (Addr × Obj)} {σ:St} {H1:Hp} {s2:Shared} {scope:Scope} {own capn:List Str} {caps:List Nat} {cl:List (Str × Addr)} {C:Addr} {ex:List Addr}
def stC (own:List Str) (caps:List Nat) (σ:St):St:=List.replicate own.length none++caps.map fun i=>(σ[i]?).join
theorem Oo (I:Inv X pins σ H1 s2)(S:cf X scope own capn caps)(hC:s2.heap.objs.size≤C)(hcl1:∀ x c,cl.lookup x=some c→X.env.cells.lookup x=some c)(hcl2:∀ y∈scope.names,y.2=.free → ∃ c,cl.lookup y.1=some c)
    (hf:∀ b∈ex,rM X pins H1 b) (hlt:∀ b∈ex,b < s2.heap.objs.size):(cxC X (own++capn) scope cl C s2 H1 ex).Ok where
  mod:=I.ok.mod
  kind:=S.kind
  glob:=I.ok.glob
  blt:=I.ok.blt
  above:=hC
  inj:=fun x y c h1 h2=>I.ok.inj x y c (hcl1 x c h1) (hcl1 y c h2)
  has:=fun x hx=>by
    have key:∀ k,(relabel scope X.env).names.lookup x=some k→k=.cell∨k=.free → ∃ c,cl.lookup x=some c:=fun k h hk=>by
      obtain⟨k0,h0,q⟩:=kL h
      have hm:=im h0
      have:k0=.free:=by
        rcases q with q|q
        · subst q
          rcases hk with e|e
          · exact absurd e (S.cell _ hm)
          · exact e
        · exact q.1
      exact hcl2 _ hm this
    rcases hx with h|h
    · exact key _ h (.inl rfl)
    · exact key _ h (.inr rfl)
  cab:=fun x c h=>by cases h
  hd:=I.ok.hd
  frames:=I.ok.frames
  stk:=.inl rfl
  exf:=fun b hb=>by
    obtain⟨f0,f1,f2,f3,f4,f5⟩:=hf b hb
    exact⟨fun z=>absurd (Nat.lt_of_lt_of_le (hlt b hb) hC) (by rw [z];exact Nat.lt_irrefl _),fun x c e=>f4 x c (hcl1 x c e)⟩
  bs:=I.bs
  bsz:=Nat.le_trans I.ok.bsz I.sz
  noex:=fun b o e hb=>by
    obtain⟨f0,f1,f2,f3,f4,f5⟩:=hf b hb
    rcases f3 with z|z
    · exact I.ok.noex b o e z
    · exact absurd (Nat.lt_of_lt_of_le (Heap.lt_size (I.ok.bs b o e).1) z) (Nat.lt_irrefl _)
  exfs:=fun b hb hs=>by
    obtain⟨f0,f1,f2,f3,f4,f5⟩:=hf b hb
    rcases List.mem_cons.mp (I.stkSub b hs) with z|z
    · exact f1 z
    · exact f2 z
  funs:=I.stack
  frf:=I.stkFree
theorem nI {env:Env}{x:Str}:∀ {names:List (Str × NameKind)},names.lookup x=some .free →
    (names.map fun (n,k)=>if (k == NameKind.free && env.scope.kind == .function && env.kindOf n == some .cell) then (n,NameKind.cell) else (n,k)).lookup x=some .cell ∨
    (names.map fun (n,k)=>if (k == NameKind.free && env.scope.kind == .function && env.kindOf n == some .cell) then (n,NameKind.cell) else (n,k)).lookup x=some .free
  | [],h=>by simp at h
  | (n,k') :: r,h=>by
    have ih := @nI env x r
    show List.lookup x ((if (k' == NameKind.free && env.scope.kind == .function && env.kindOf n == some .cell)=true then (n,NameKind.cell) else (n,k')) :: _)=_∨List.lookup x ((if (k' == NameKind.free && env.scope.kind == .function && env.kindOf n == some .cell)=true then (n,NameKind.cell) else (n,k')) :: _)=_
    cases hx:x == n with
    | true =>
      simp only [List.lookup_cons,hx,Option.some.injEq] at h
      subst h
      by_cases hc:(NameKind.free == NameKind.free && env.scope.kind == .function && env.kindOf n == some .cell)=true
      · rw [if_pos hc];exact .inl (by simp only [List.lookup_cons,hx])
      · rw [if_neg hc];exact .inr (by simp only [List.lookup_cons,hx])
    | false =>
      simp only [List.lookup_cons,hx] at h
      by_cases hc:(k' == NameKind.free && env.scope.kind == .function && env.kindOf n == some .cell)=true
      · rw [if_pos hc];simp only [List.lookup_cons,hx];exact ih h
      · rw [if_neg hc];simp only [List.lookup_cons,hx];exact ih h
theorem Ly {i:Nat}{v:V}(h:(stC own caps σ)[i]? = some (some v)):∃ j k,i=own.length + j∧caps[j]? = some k ∧ σ[k]? = some (some v):=by
  unfold stC at h
  by_cases hi:i < own.length
  · rw [List.getElem?_append_left (by simpa using hi)] at h
    simp [hi] at h
  · rw [List.getElem?_append_right (by simpa using Nat.le_of_not_lt hi)] at h
    simp only [List.length_replicate,List.getElem?_map] at h
    cases c:caps[i - own.length]? with
    | none=>rw [c] at h;cases h
    | some k =>
      rw [c] at h
      simp only [Option.map_some,Option.some.injEq] at h
      refine⟨i - own.length,k,by omega,c,?_⟩
      cases e : σ[k]? with
      | none=>rw [e] at h;cases h
      | some o=>rw [e] at h;simp only [Option.join_some] at h;rw [h]
theorem FN (I:Inv X pins σ H1 s2)(S:cf X scope own capn caps)(hC:s2.heap.objs.size < C)(hcl1:∀ x c,cl.lookup x=some c→X.env.cells.lookup x=some c)(hcl2:∀ y∈scope.names,y.2=.free → ∃ c,cl.lookup y.1=some c)
    (hf:∀ b∈ex,rM X pins H1 b) (hlt:∀ b∈ex,b < s2.heap.objs.size) {h1:Heap} {m:Str→Option Value} {tk:Nat} (hn:h1.Ns C m) (hk:∀ b o,s2.heap.get? b=some o→h1.get? b=some o)
    (hD:h1.get? s2.heap.objs.size=some { cls:=.type "list",data:=.seq #[] }) :
    Inv (cxC X (own++capn) scope cl C s2 H1 ex) [] (stC own caps σ) (upd H1 s2.heap.objs.size (.lst [])) { s2 with heap:=h1,toks:=tk } where
  ok:=Oo I S (Nat.le_of_lt hC) hcl1 hcl2 hf hlt
  os:=rfl
  bare:=I.bare
  base:=Un.laid hk (Nat.le_refl _) (I.hok.fresh (Nat.le_refl _))
  loc:=by
    refine⟨m,hn,fun i x v e1 e2 e3 => ?_⟩
    obtain⟨j,k,rfl,hj,hk'⟩:=Ly e2
    have e1':capn[j]? = some x:=by
      have:(own++capn)[own.length + j]? = some x:=e1
      rw [List.getElem?_append_right (by omega)] at this
      simpa using this
    obtain⟨k2,q1,q2,q3⟩:=S.cap j x e1'
    rw [hj] at q1;cases q1
    have hm:=im q3
    have kd:=S.free _ hm rfl
    obtain⟨m0,hn0,hl⟩:=I.loc
    obtain⟨u,r,lk⟩:=hl k x v q2 hk' (.inr kd)
    refine⟨u,r,.inr ⟨nI q3,?_⟩⟩
    rcases lk with ⟨z,_⟩|⟨_,c,hc,o,ho,hd⟩
    · rcases kd with e|e<;>(rw [z] at e;cases e)
    · obtain⟨c',hc'⟩:=hcl2 _ hm rfl
      have:=hcl1 _ _ hc'
      rw [hc] at this
      cases this
      exact⟨c,hc',o,hk c o ho,hd⟩
  cell:=fun x c e=>by
    obtain⟨v,o,ho,hd⟩:=I.cell x c (hcl1 x c e)
    exact⟨v,o,hk c o ho,hd⟩
  free:=by
    show upd H1 _ _ C=none
    rw [aF (Nat.ne_of_gt hC)]
    exact I.hok.fresh (Nat.le_of_lt hC)
  freeC:=fun x c e=>by
    obtain⟨v,o,ho,hd⟩:=I.cell x c (hcl1 x c e)
    rw [aF (Nat.ne_of_lt (Heap.lt_size ho))]
    exact I.freeC x c (hcl1 x c e)
  pin:=fun p hp=>absurd (show p∈([] : List (Addr × Obj)) from hp) (by simp)
  hok:=I.hok.laid hk (Nat.le_refl _) ⟨Nat.zero_le _,[],0,.nil,hD⟩
  len:=by
    show (stC own caps σ).length=(own++capn).length
    simp [stC,S.len]
end
theorem RS.other {K:PySem.W.Frag}{ρ:List Addr}{H:Hp}{σd:Sd}{hd:Hd}{σ:St}{d:Addr}{ys zs:List V}(r:RS K ρ H σd hd σ)(h:H d=some (.lst ys))(n:d ∉ ρ):RS K ρ (upd H d (.lst zs)) σd hd σ ∧ Kp ρ H ρ (upd H d (.lst zs)):=by
  have k:Kp ρ H ρ (upd H d (.lst zs)):=⟨fun _ _ h=>h,fun a us e=>by
    rw [aF (fun z=>by rw [z,h] at e;cases e)];exact e,fun a o u e=>by
    rw [aF (fun z=>by rw [z,h] at e;cases e)];exact e,fun a φ e=>by
    rw [aF (fun z=>by rw [z,h] at e;cases e)];exact e⟩
  refine⟨⟨⟨r.hp.len,r.hp.nd,fun m c a h1 h2=>(r.hp.cel m c a h1 h2).mono k (aF fun z=>n (by rw [← z];exact List.mem_of_getElem? h2))⟩,r.st.mono k⟩,k⟩
theorem Ext.other {ρ ρ':List Addr}{H H':Hp}{d:Addr}{o:HO}(e:Ext ρ H ρ' H')(h:H d=none):Ext ρ H ρ' (upd H' d o) :=
  ⟨e.pre,e.new,fun p u hp n=>by rw [aF (bD hp h)];exact e.frame p u hp n⟩
theorem Ar {nl:Nat}{caps:List Nat}{σd:Sd}{i:Nat}{d:D}(h:slot (iS nl caps σd) i=some d):∃ j k,i=nl + j∧caps[j]? = some k∧slot σd k=some d:=by
  unfold iS at h
  simp only [slot] at h
  by_cases hi:i < nl
  · rw [List.getElem?_append_left (by simpa using hi)] at h
    simp [hi] at h
  · rw [List.getElem?_append_right (by simpa using Nat.le_of_not_lt hi)] at h
    simp only [List.length_replicate,List.getElem?_map] at h
    cases c:caps[i - nl]? with
    | none=>rw [c] at h;cases h
    | some k =>
      rw [c] at h
      simp only [Option.map_some] at h
      refine⟨i - nl,k,by omega,c,?_⟩
      simp only [slot]
      revert h
      cases e : σd[k]? with
      | none=>simp
      | some o=>cases o<;>simp
structure Nb (K:PySem.W.Frag) (ρ0:List Addr) (H0:Hp) (J:It) (l:List D) (G:Hd→Prop):Prop where
  go:∀ ρ H hd (i:Nat) d,Ext ρ0 H0 ρ H→RH K ρ H hd→G hd→l[i]? = some d→J.go i H ∧ ∀ x H',J.yld i H x H'→jh H H'∧RD K ρ H' d x
  stop:∀ ρ H hd,Ext ρ0 H0 ρ H→RH K ρ H hd→G hd→J.stop l.length H
  sz:l.length≤sizeLine
theorem si.g {K:PySem.W.Frag}{ρ:List Addr}{H:Hp}{J:It}{l:List D}{g:Option Nat}(w:si K ρ H J l g):Nb K ρ H J l (kJ g l):=⟨w.go,w.stop,w.sz⟩
structure CD where
  i:Nat
  ys:List V
  acc:List D
  rest:List D
  ρ:List Addr
  σd:Sd
  hd:Hd
  H:Hp
  σ:St
structure CI (X:Cx) (own capn:List Str) (scope:Scope) (cl:List (Str × Addr)) (s2:Shared) (C:Addr) (H1:Hp) (ρ1:List Addr) (fp:List Addr) (tn:Nat→Heap→Prop) (G:Hd→Prop) (g:GF) (cs:List TF) (e:EF) (l:List D) (hdF:Hd) (ds:List D) (d:CD) (s':Shared):Prop where
  le:d.i≤l.length
  inv:Inv (cxC X (own++capn) scope cl C s2 H1 fp) [] d.σ d.H s'
  st:tn d.i s'.heap
  fr:∀ b∈fp,d.H b=none
  at':d.H s2.heap.objs.size=some (.lst d.ys)
  out:s2.heap.objs.size∉d.ρ
  yl:d.ys.length≤d.i
  ex:Ext ρ1 H1 d.ρ d.H
  rs:RS X.K d.ρ d.H d.σd d.hd d.σ
  ac:RDs X.K d.ρ d.H d.acc d.ys
  run:kw G g cs e (l.drop d.i) d.σd d.hd=.ok d.rest hdF
  eq:d.acc++d.rest=ds
section
variable {X:Cx} {pins:List (Addr × Obj)} {σ:St} {H1:Hp} {s2:Shared} {scope:Scope} {own capn:List Str} {caps:List Nat} {cl:List (Str × Addr)}
theorem Ct {ρ1:List Addr}{σd:Sd}{hd1:Hd}(S:cf X scope own capn caps)(r:RS X.K ρ1 H1 σd hd1 σ){d:Addr}(hd:H1 d=none):RS X.K ρ1 (upd H1 d (.lst [])) (iS own.length caps σd) hd1 (stC own caps σ):=by
  have sm:=cu (o:=HO.lst []) hd
  refine⟨r.hp.same sm,⟨by simp [stC,iS],fun i x e => ?_⟩⟩
  obtain⟨j,k,rfl,hj,hs⟩:=Ar e
  obtain⟨v,h1,h2⟩:=r.st.at' k x hs
  refine⟨v,?_,h2.mono (Kp.same sm)⟩
  unfold stC
  rw [List.getElem?_append_right (by simp)]
  simp [hj,h1]
theorem wR {elt tg iter:Expr}{ifs:List Expr}{pos:Pos}{it:Addr}{fp:List Addr}{tn:Nat→Heap→Prop}{J:It}{l:List D}{G:Hd→Prop}{g:GF}{cs:List TF}{e:EF}{ρ1:List Addr}{σd:Sd}{hd1 hdF:Hd}{ds:List D}{E:Value→Shared→Prop}{RR:Value→Addr→Result→Shared→Prop}
    (hc:X.calm=true) (S:cf X scope own capn caps) (hin:∀ cl C s H ex,MG (cxC X (own++capn) scope cl C s H ex) tg g∧MTs (cxC X (own++capn) scope cl C s H ex) ifs cs∧ME (cxC X (own++capn) scope cl C s H ex) elt e)
    (I1:Inv X pins σ H1 s2) (T:Cg X.prog X.w X.K tg J fp it tn) (st0:tn 0 s2.heap) (hf:∀ b∈fp,rM X pins H1 b) (rs1:RS X.K ρ1 H1 σd hd1 σ) (wk:Nb X.K ρ1 H1 J l G)
    (hcl1:∀ x c,cl.lookup x=some c→X.env.cells.lookup x=some c) (hcl2:∀ y∈scope.names,y.2=.free → ∃ c,cl.lookup y.1=some c)
    (run:kw G g cs e l (iS own.length caps σd) hd1=.ok ds hdF)
    (hRR:∀ C s' m H' ρ' vs,s2.heap.objs.size < C→s'.heap.Ns C m→Inv X pins σ H' s'→H' C=none→Ext ρ1 H1 ρ' H'→RH X.K ρ' H' hdF→H1 s2.heap.objs.size=none→H' s2.heap.objs.size=some (.lst vs)→s2.heap.objs.size ∉ ρ'→RDs X.K ρ' H' ds vs →
      RR (.ref s2.heap.objs.size) C (.ok .next) s') :
    wpAny (model X.prog X.w) X.A (newList []) (fun acc s₃ => wpAny (model X.prog X.w) X.A (newFunctionEnv scope X.env.globals cl [] X.env.qual none .none (some X.env)) (fun cenv s₄ =>
      codeAny (model X.prog X.w) X.A (.compStart (.ListComp elt [⟨tg,iter,ifs,0⟩] scope pos) 0 (.ref it) acc { cenv with scope:=relabel scope X.env }) (RR acc cenv.locals) s₄) E s₃) E s2:=by
  refine wpAny_newObj_type (wpAny_newFunctionEnv S.cell (by intro y hy;simp at hy) (fun h₁ hns₁ hsb₁ => ?_) S.kind)
  dsimp only at hns₁ hsb₁ ⊢
  generalize hH2:s2.heap.push { cls:=.type "list",dict:=none,data:=.seq ([] : List Value).toArray } = H2 at hns₁ hsb₁ ⊢
  have hC:H2.objs.size=s2.heap.objs.size + 1:=by rw [← hH2,Heap.size_push]
  have hDC:s2.heap.objs.size≠H2.objs.size:=by rw [hC];exact Nat.ne_of_lt (Nat.lt_succ_self _)
  have old:∀ b o,s2.heap.get? b=some o→h₁.get? b=some o:=fun b o e=>hsb₁.extBut b o (by rw [hC];exact Nat.ne_of_lt (Nat.lt_succ_of_lt (Heap.lt_size e))) (Heap.get?_push_of_some _ (hH2 ▸ Heap.get?_push_of_some _ e))
  have hacc:h₁.get? s2.heap.objs.size=some { cls:=.type "list",data:=.seq #[] }:=hsb₁.extBut _ _ hDC (Heap.get?_push_of_some _ (hH2 ▸ Heap.get?_push_size _ rfl))
  have hlt:∀ b∈fp,b < s2.heap.objs.size:=fun b hb=>by
    obtain⟨o,ho,_⟩:=T.obj 0 _ st0 b hb
    exact Heap.lt_size ho
  have hCl:s2.heap.objs.size < H2.objs.size:=by rw [hC];exact Nat.lt_succ_self _
  have hD0:H1 s2.heap.objs.size=none:=I1.hok.fresh (Nat.le_refl _)
  have st1:tn 0 h₁ := T.keep 0 _ _ st0 fun b hb o e=>old b o e
  have hn1:s2.heap.objs.size ∉ ρ1:=rs1.hp.free hD0
  obtain⟨hG,hT,hE⟩:=hin cl H2.objs.size s2 H1 fp
  have I':=FN (tk:=s2.toks + ([] : List (Str × Value)).length) I1 S hCl hcl1 hcl2 hf hlt hns₁ old hacc
  have fpC:∀ {pins':List (Addr × Obj)} {H':Hp},(∀ b∈fp,H' b=none) → ∀ b∈fp,rM (cxC X (own++capn) scope cl H2.objs.size s2 H1 fp) [] H' b:=fun {pins' H'} hn b hb=>by
    obtain⟨f0,f1,f2,f3,f4,f5⟩:=hf b hb
    have lt:=hlt b hb
    refine⟨hn b hb,fun z=>absurd lt (by rw [show b=H2.objs.size from z,hC];exact Nat.not_lt.mpr (Nat.le_succ _)),fun z => ?_,.inl hb,fun x c e=>f4 x c (hcl1 x c e),fun p hp=>absurd (show p∈([] : List (Addr × Obj)) from hp) (by simp)⟩
    rcases List.mem_cons.mp (I1.stkSub b z) with q|q
    · exact f1 q
    · exact f2 q
  have loop:∀ s₃ : Shared,s₃ = { s2 with heap:=h₁,toks:=s2.toks + ([] : List (Str × Value)).length } →
      codeAny (model X.prog X.w) X.A (.compLoop (.ListComp elt [⟨tg,iter,ifs,0⟩] scope pos) 0 (.ref it) (.ref s2.heap.objs.size) (compEnvC scope cl H2.objs.size X.env)) (RR (.ref s2.heap.objs.size) H2.objs.size) s₃ := by
    rintro s₃ rfl
    refine yb (E:=fun _ _=>False) (fun _ _ z=>z) (fun n s'=>∃ d:CD,n=l.length - d.i∧CI X own capn scope cl s2 H2.objs.size H1 ρ1 fp tn G g cs e l hdF ds d s') ?_ l.length
      ⟨⟨0,[],[],ds,ρ1,_,hd1,_,_⟩,by simp,Nat.zero_le _,I',st1,fun b hb => ?_,bh,hn1,Nat.le_refl _,Ext.same (cu hD0),Ct S rs1 hD0,RDs.nil,by simpa using run,rfl⟩
    · rintro n s' ⟨⟨i,ys,acc,rest,ρ',σd',hd',H',σ'⟩,rfl,ci⟩
      have hil:i≤l.length:=ci.le
      have I':Inv (cxC X (own++capn) scope cl H2.objs.size s2 H1 fp) [] σ' H' s':=ci.inv
      have stn:tn i s'.heap:=ci.st
      have hfp:∀ b∈fp,H' b=none:=ci.fr
      have hDy:H' s2.heap.objs.size=some (.lst ys):=ci.at'
      have hnD:s2.heap.objs.size ∉ ρ':=ci.out
      have hyl:ys.length≤i:=ci.yl
      have ex:Ext ρ1 H1 ρ' H':=ci.ex
      have rs':RS X.K ρ' H' σd' hd' σ':=ci.rs
      have racc:RDs X.K ρ' H' acc ys:=ci.ac
      have hrun:kw G g cs e (l.drop i) σd' hd'=.ok rest hdF:=ci.run
      have hds:acc++rest=ds:=ci.eq
      by_cases hlt':i < l.length
      · have hdi:l[i]? = some l[i]:=by simp [hlt']
        rw [List.drop_eq_getElem_cons hlt'] at hrun
        unfold kw at hrun
        by_cases hh:G hd'
        · rw [if_pos hh] at hrun
          obtain⟨go,yl⟩:=wk.go ρ' H' hd' i _ ex rs'.hp hh hdi
          cases c:g l[i] σd' with
          | none=>rw [c] at hrun;cases hrun
          | some σd2 =>
            rw [c] at hrun
            simp only at hrun
            refine thn (T.item (cxC X (own++capn) scope cl H2.objs.size s2 H1 fp) rfl rfl rfl hc i [] s' σ' H' (fun _ _=>False) I' (fpC (pins':=[]) hfp) stn go) fun r s₁ ⟨u,hr,h4⟩ => ?_
            subst hr
            refine thn h4 fun _ s5 ⟨x,H5,I5,r5,y5,st5,fr5⟩ => ?_
            obtain⟨sm,rx⟩:=yl x H5 y5
            have I5':=I5.pinned (fpC (pins':=[]) fr5) (T.obj _ _ st5)
            have rs5:=rs'.same sm
            have hDy5:=sm _ _ hDy
            refine thn (hG _ s5 σ' H5 x u (fun σ6 H6=>H6=H5∧RS X.K ρ' H5 σd2 hd' σ6) I5' r5 ⟨ρ',σd',hd',l[i],σd2,rs5,rx,c,fun σ6 rs6=>⟨rfl,rs6⟩⟩) fun _ s6 ⟨σ6,H6,I6,hH6,rs6⟩ => ?_
            subst hH6
            cases c2:kK cs σd2 hd' with
            | exc z h7=>rw [c2] at hrun;cases hrun
            | bad=>rw [c2] at hrun;cases hrun
            | ok b hd7 =>
              rw [c2] at hrun
              simp only [aH] at hrun
              refine thn (hT _ s6 σ6 H6 (fun b' H7=>b'=b ∧ ∃ ρ7,Ext ρ' H6 ρ7 H7∧RS X.K ρ7 H7 σd2 hd7 σ6) I6 ⟨ρ',σd2,hd',rs6,by
                rw [c2]
                exact fun b' H7 ρ7 ex7 rs7 q=>⟨q.symm,ρ7,ex7,rs7⟩⟩) fun b' s7 ⟨H7,I7,hb',ρ7,ex7,rs7⟩ => ?_
              subst hb'
              have stay:∀ {σ8:St} {H8:Hp} {s8:Shared},Inv (cxC X (own++capn) scope cl H2.objs.size s2 H1 fp) ([]++rN fp s5.heap) σ8 H8 s8→tn (i + 1) s8.heap ∧ ∀ b∈fp,H8 b=none:=fun {σ8 H8 s8} I8 =>
                ⟨T.keep _ _ _ st5 fun b hb o e=>(I8.pin (b,o) (List.mem_append_right _ (List.mem_append_right _ (jK hb e)))).1,fun b hb=>by
                  obtain⟨o,e,d⟩:=T.obj _ _ st5 b hb
                  exact (I8.pin (b,o) (List.mem_append_right _ (List.mem_append_right _ (jK hb e)))).2.1⟩
              have ex5:Ext ρ' H' ρ7 H7:=(Ext.same sm).trans ex7
              have hDy7:H7 s2.heap.objs.size=some (.lst ys):=ex5.frame _ _ hDy hnD
              have hnD7:=ex5.out hDy hnD
              have racc7:=racc.mono (rs'.hp.kp ex5)
              cases b' with
              | false =>
                simp only [Bool.false_eq_true,if_false] at hrun ⊢
                obtain⟨st8,f8⟩:=stay I7
                exact⟨l.length - (i + 1),by omega,⟨i + 1,ys,acc,rest,ρ7,σd2,hd7,H7,σ6⟩,rfl,hlt',I7.unpinned,st8,f8,hDy7,hnD7,Nat.le_succ_of_le hyl,ex.trans ex5,rs7,racc7,hrun,hds⟩
              | true =>
                simp only [if_true] at hrun ⊢
                cases c3:e σd2 hd7 with
                | exc z h7=>rw [c3] at hrun;cases hrun
                | bad=>rw [c3] at hrun;cases hrun
                | ok d hd8 =>
                  rw [c3] at hrun
                  simp only [aH] at hrun
                  cases c4:kw G g cs e (l.drop (i + 1)) σd2 hd8 with
                  | exc z h7=>rw [c4] at hrun;cases hrun
                  | bad=>rw [c4] at hrun;cases hrun
                  | ok rest' hd9 =>
                    rw [c4] at hrun
                    simp only [aH,Res.ok.injEq] at hrun
                    obtain⟨hrest,hF⟩:=hrun
                    subst hrest hF
                    refine thn (hE _ s7 σ6 H7 (fun v H8=>∃ ρ8,Ext ρ7 H7 ρ8 H8∧RS X.K ρ8 H8 σd2 hd8 σ6∧RD X.K ρ8 H8 d v) I7 ⟨ρ7,σd2,hd7,rs7,by
                      rw [c3]
                      exact fun v H8 ρ8 ex8 rs8 q=>⟨ρ8,ex8,rs8,q⟩⟩) fun u8 s8 ⟨v8,H8,I8,r8,ρ8,ex8,rs8,rd8⟩ => ?_
                    have hDy8:H8 s2.heap.objs.size=some (.lst ys):=ex8.frame _ _ hDy7 hnD7
                    have hnD8:=ex8.out hDy7 hnD7
                    refine thn (wO _ s8 σ6 H8 (.ref s2.heap.objs.size) [v8] (.ref s2.heap.objs.size) [u8] (fun _ H9=>H9=upd H8 s2.heap.objs.size (.lst (ys++[v8]))) I8 rfl (.cons r8 .nil) ⟨_,ys,v8,rfl,rfl,hDy8,by have:=wk.sz;omega,rfl⟩) fun u9 s9 ⟨v9,H9,I9,r9,q9⟩ => ?_
                    subst q9
                    obtain⟨st9,f9⟩:=stay I9
                    obtain⟨rs9,k9⟩:=rs8.other (zs:=ys++[v8]) hDy8 hnD8
                    exact⟨l.length - (i + 1),by omega,⟨i + 1,ys++[v8],acc++[d],rest',ρ8,σd2,hd8,_,σ6⟩,rfl,hlt',I9.unpinned,st9,f9,bh,hnD8,by simp;exact hyl,(ex.trans (ex5.trans ex8)).other hD0,rs9,
                      ((racc7.mono (rs7.hp.kp ex8)).mono k9).append (RDs.cons (rd8.mono k9) RDs.nil),c4,by rw [← hds];simp⟩
        · rw [if_neg hh] at hrun;cases hrun
      · have e0:i=l.length:=by omega
        subst e0
        rw [List.drop_length] at hrun
        unfold kw at hrun
        by_cases hh:G hd'
        · rw [if_pos hh] at hrun
          simp only [Res.ok.injEq] at hrun
          obtain⟨hrest,hF⟩:=hrun
          subst hrest hF
          rw [List.append_nil] at hds
          subst hds
          refine thn (T.done (cxC X (own++capn) scope cl H2.objs.size s2 H1 fp) rfl rfl rfl hc _ [] s' σ' H' (fun _ _=>False) I' (fpC (pins':=[]) hfp) stn (wk.stop ρ' H' hd' ex rs'.hp hh)) fun r s₁ ⟨hr,I4⟩ => ?_
          subst hr
          obtain⟨m,hm,_⟩:=I4.loc
          refine hRR H2.objs.size s₁ m H' ρ' ys hCl hm ?_ I4.free ex rs'.hp hD0 hDy hnD racc
          exact I1.call' I4.os I4.base I4.hok I4.bare fun b hb=>by
            obtain⟨f0,f1,f2,f3,f4,f5⟩:=hf b hb
            exact⟨f3,f1,f4,f5⟩
        · rw [if_neg hh] at hrun;cases hrun
    · show upd H1 _ _ b=none
      rw [aF (Nat.ne_of_lt (hlt b hb))]
      exact (hf b hb).1
  exact codeAny_compStart_list (loop _ rfl) (T.self _ 0 _ _ _ st1 (loop _ rfl))
end
section
variable {X:Cx} {pos:Pos} {scope:Scope} {own capn:List Str} {caps:List Nat}
theorem en {elt tg iter:Expr}{ifs:List Expr}{f:IF}{g:GF}{cs:List TF}{e:EF}(hc:X.calm=true)(S:cf X scope own capn caps)(hi:MI X tg iter f)
    (hin:∀ cl C s H ex,MG (cxC X (own++capn) scope cl C s H ex) tg g∧MTs (cxC X (own++capn) scope cl C s H ex) ifs cs∧ME (cxC X (own++capn) scope cl C s H ex) elt e)
    (hs:∀ x,foldedSetIterable iter X.env x=pure x:=by intro _;rfl):MF X (.ListComp elt [⟨tg,iter,ifs,0⟩] scope pos) (bJ own.length caps f g cs e):=by
  intro pins s σ H Q I ⟨ρ,σd,hd,rs,p⟩
  rw [eval_ListComp]
  unfold bJ at p
  cases c:f σd hd with
  | exc z h7=>rw [c] at p;exact p.elim
  | bad=>rw [c] at p;exact p.elim
  | ok q hd1 =>
    obtain⟨l,gd⟩:=q
    rw [c] at p
    simp only [aH] at p
    obtain⟨cl,h1,hcl1,hcl2⟩:=so (scope:=scope) (env:=X.env) fun y hy hyf=>I.ok.has y.1 (S.free y hy hyf)
    refine wpAny_comprehension_free (use:=none) rfl hs h1 S.kind S.names (thn (hi pins s σ H (fun J H1=>∃ ρ1,Ext ρ H ρ1 H1∧RS X.K ρ1 H1 σd hd1 σ ∧ si X.K ρ1 H1 J l gd) I ⟨ρ,σd,hd,rs,by
      rw [c]
      exact fun J H' ρ' ex rs' wk=>⟨ρ',ex,rs',wk⟩⟩) fun v s1 h1=>thn h1 fun itv s2 h2 => ?_)
    obtain⟨it,fp,tn,J,H1,rfl,I1,T,st0,hf,ρ1,ex1,rs1,wk⟩:=h2
    cases c2:cX gd l g cs e l (iS own.length caps σd) hd1 with
    | exc z h7=>rw [c2] at p;exact p.elim
    | bad=>rw [c2] at p;exact p.elim
    | ok ds hdF =>
      rw [c2] at p
      refine wR (RR:=fun acc C=>compPost (model X.prog X.w) X.A X.xe none (EP X pins σ Q) acc C) hc S hin I1 T st0 hf rs1 wk.g hcl1 hcl2 ((ya _ _ _).symm.trans c2) fun C s' m H' ρ' vs hC hn I' hCn ex rh hD0 hD hnD rds => ?_
      refine⟨m,hn,fun h' sb=>⟨.ref s2.heap.objs.size,H',?_,rfl,?_⟩⟩
      · refine I'.turned (it:=C) (t':=s'.toks) (fun b o hb e=>(sb.2 b hb).trans e) hCn ?_ (.inr (Nat.le_of_lt (Nat.lt_of_le_of_lt I1.sz hC))) (fun x c e z => ?_) fun q hq z => ?_
        · exact Nat.ne_of_gt (Nat.lt_trans I1.lt hC)
        · obtain⟨v,o,ho,hd⟩:=I1.cell x c e
          exact absurd (Nat.lt_trans (Heap.lt_size ho) hC) (by rw [z];exact Nat.lt_irrefl _)
        · exact absurd (Nat.lt_trans (Heap.lt_size (I1.pin q hq).1) hC) (by rw [z];exact Nat.lt_irrefl _)
      · exact p _ vs H' ρ' (ex1.trans ex) (rs.ext (ex1.trans ex) rh) (ex1.fresh hD0 (rs1.hp.free hD0)) hD hnD rds
theorem iH {i:Nat}{x:Str}{pos':Pos}{elt tg iter:Expr}{ifs:List Expr}{f:IF}{g:GF}{cs:List TF}{e:EF}{cpos:Pos}(hN:X.N.Nodup)(hi':X.N[i]? = some x)(hx:Loc X.env.scope x)(hc:X.calm=true)(S:cf X scope own capn caps)(hi:MI X tg iter f)
    (hin:∀ cl C s H ex,MG (cxC X (own++capn) scope cl C s H ex) tg g∧MTs (cxC X (own++capn) scope cl C s H ex) ifs cs∧ME (cxC X (own++capn) scope cl C s H ex) elt e)
    (hsw:swapsWith (.ListComp elt [⟨tg,iter,ifs,0⟩] scope cpos) (some (.Name x pos')) pos.line X.env=pure true:=by rfl)
    (hs:∀ x,foldedSetIterable iter X.env x=pure x:=by intro _;rfl) (hf':X.fn x=true∨X.env.scope.names.lookup x=some .local:=by first|exact .inl rfl|exact .inr rfl|assumption) :
    MS X (.Assign [.Name x pos'] (.ListComp elt [⟨tg,iter,ifs,0⟩] scope cpos) pos) (aE (gN i) (aM (bJ own.length caps f g cs e))):=by
  intro pins s σ H En I ⟨ρ,σd,hd,rs,p⟩
  rw [exec_Assign_Name_used _ _ _ _ hsw]
  refine wpAny_bind (wpAny_standAt ?_)
  show wpAny _ _ ((comprehension _ scope X.env _ (newList []) _ _ _ >>= fun _=>pure ()) >>= fun _=>pure Flow.next) _ _ _
  have p1:=bZ.outE (σ := σ) p
  unfold aM bJ at p1
  cases c:f σd hd with
  | exc z h7=>rw [c] at p1;exact p1.elim
  | bad=>rw [c] at p1;exact p1.elim
  | ok q hd1 =>
    obtain⟨l,gd⟩:=q
    rw [c] at p1
    simp only [aH] at p1
    obtain⟨cl,h1,hcl1,hcl2⟩:=so (scope:=scope) (env:=X.env) fun y hy hyf=>I.ok.has y.1 (S.free y hy hyf)
    refine wpAny_bind (wpAny_bind (wpAny_comprehension_free (Q:=fun _ s'=>wpAny (model X.prog X.w) X.A (pure ()) (fun _ s'=>wpAny (model X.prog X.w) X.A (pure Flow.next) (SP X pins En) X.xe s') X.xe s') (use:=some (assign (.Name x pos') X.env)) rfl hs h1 S.kind S.names (thn (hi pins s σ H (fun J H1=>∃ ρ1,Ext ρ H ρ1 H1∧RS X.K ρ1 H1 σd hd1 σ ∧ si X.K ρ1 H1 J l gd) I ⟨ρ,σd,hd,rs,by
      rw [c]
      exact fun J H' ρ' ex rs' wk=>⟨ρ',ex,rs',wk⟩⟩) fun v s1 h1=>thn h1 fun itv s2 h2 => ?_)))
    obtain⟨it,fp,tn,J,H1,rfl,I1,T,st0,hf,ρ1,ex1,rs1,wk⟩:=h2
    cases c2:cX gd l g cs e l (iS own.length caps σd) hd1 with
    | exc z h7=>rw [c2] at p1;exact p1.elim
    | bad=>rw [c2] at p1;exact p1.elim
    | ok ds hdF =>
      rw [c2] at p1
      simp only [aH] at p1
      by_cases hz:ds.length≤SZ
      · rw [if_pos hz] at p1
        refine wR (RR:=fun acc C=>compPost (model X.prog X.w) X.A X.xe (some (assign (.Name x pos') X.env)) _ acc C) hc S hin I1 T st0 hf rs1 wk.g hcl1 hcl2 ((ya _ _ _).symm.trans c2) fun C s' m H' ρ' vs hC hn I' hCn ex rh hD0 hD hnD rds => ?_
        refine wpAny_assign_Name (wH I' hN hi' hx (v:=.ref s2.heap.objs.size) rfl (fun s'' I'' hsb => ?_) hf')
        have hCl:C≠X.env.locals:=Nat.ne_of_gt (Nat.lt_trans I1.lt hC)
        have hCc:∀ y c,X.env.cells.lookup y=some c→c≠C:=fun y c e z=>by
          obtain⟨v,o,ho,hd⟩:=I1.cell y c e
          exact absurd (Nat.lt_trans (Heap.lt_size ho) hC) (by rw [z];exact Nat.lt_irrefl _)
        refine⟨m,?_,fun h' sb=>wpAny_pure (wpAny_pure ?_)⟩
        · obtain⟨a,sa,ha⟩:=hsb
          refine hn.sameBut sa ?_
          rcases ha with z|z
          · rw [z];exact hCl
          · exact Ne.symm (hCc _ _ z)
        · have I3:Inv X pins (σ.set i (some (.ref s2.heap.objs.size))) H' { s'' with heap:=h' }:=I''.turned (it:=C) (t':=s''.toks) (fun b o hb e=>(sb.2 b hb).trans e) hCn hCl (.inr (Nat.le_of_lt (Nat.lt_of_le_of_lt I1.sz hC))) hCc fun q hq z =>
            absurd (Nat.lt_trans (Heap.lt_size (I1.pin q hq).1) hC) (by rw [z];exact Nat.lt_irrefl _)
          have ex':Ext ρ H ρ' H':=ex1.trans ex
          have rh':=rh.alloc hD hnD rds
          have hH0:H s2.heap.objs.size=none:=ex1.fresh hD0 (rs1.hp.free hD0)
          have exA:Ext ρ H (ρ'++[s2.heap.objs.size]) H':=⟨by obtain⟨t,rfl⟩:=ex'.pre;exact⟨t++[s2.heap.objs.size],by simp⟩,fun a ha=>by
            rcases List.mem_append.mp ha with z|z
            · exact ex'.new a z
            · simp at z;subst z;exact .inr hH0,ex'.frame⟩
          obtain⟨ρ2,d2,hd2,e2,rs2,rd2,pn⟩:=p1 (.ref s2.heap.objs.size) H' (ρ'++[s2.heap.objs.size]) exA (rs.ext exA rh') (by
            simp only [rD,RD]
            refine⟨s2.heap.objs.size,?_,rfl⟩
            rw [← rh.len]
            simp)
          exact⟨_,H',I3,pn _ H' ρ2 Ext.refl ⟨rs2.hp,rs2.st.set i rd2⟩⟩
      · rw [if_neg hz] at p1;exact p1.elim
end
end Fm
set_option Elab.async false
set_option linter.all false
set_option maxRecDepth 100000
namespace Fm
open PySem PySem.Spec L2 PyProof.Rows
mutual
def rfs (k:Nat):D→Prop
  | .ref n=>n < k
  | .tup l=>kD k l
  | .lit l=>kD k l
  | .exn _ l=>kD k l
  | _=>True
def kD (k:Nat):List D→Prop
  | []=>True
  | x :: xs=>rfs k x∧kD k xs
end
section
variable {K:PySem.W.Frag} {ρ ρ' t:List Addr} {H H':Hp} {hd hd':Hd}
mutual
theorem RD.rfs:∀ {d:D} {v:V},RD K ρ H d v→Fm.rfs ρ.length d
  | .non,_,_=>by simp only [Fm.rfs]
  | .bl _,_,_=>by simp only [Fm.rfs]
  | .int _,_,_=>by simp only [Fm.rfs]
  | .str _,_,_=>by simp only [Fm.rfs]
  | .tup l,_,h=>by
    simp only [RD] at h;obtain⟨p,vs,_,_,h2⟩:=h
    simp only [Fm.rfs];exact RDs.rfs h2
  | .lit l,_,h=>by
    simp only [RD] at h;obtain⟨p,vs,_,_,h2⟩:=h
    simp only [Fm.rfs];exact RDs.rfs h2
  | .ref n,_,h=>by
    simp only [RD] at h;obtain⟨a,h1,_⟩:=h
    simp only [Fm.rfs];exact (List.getElem?_eq_some_iff.mp h1).1
  | .exn _ _,_,h=>by simp only [RD] at h;obtain⟨rfl,_⟩:=h;simp only [Fm.rfs,Fm.kD]
theorem RDs.rfs:∀ {l:List D} {vs:List V},RDs K ρ H l vs→Fm.kD ρ.length l
  | [],_,_=>by simp only [Fm.kD]
  | d :: ds,_,h=>by
    simp only [RDs] at h;obtain⟨v,r,_,h1,h2⟩:=h
    simp only [Fm.kD];exact⟨RD.rfs h1,RDs.rfs h2⟩
end
mutual
theorem RD.cut:∀ {d:D} {v:V},RD K (ρ ++ t) H d v→Fm.rfs ρ.length d→RD K ρ H d v
  | .non,_,h,_=>by simp only [RD] at h ⊢;exact h
  | .bl _,_,h,_=>by simp only [RD] at h ⊢;exact h
  | .int _,_,h,_=>by simp only [RD] at h ⊢;exact h
  | .str _,_,h,_=>by simp only [RD] at h ⊢;exact h
  | .tup l,_,h,q=>by
    simp only [RD] at h ⊢;simp only [Fm.rfs] at q
    obtain⟨p,vs,e,h1,h2⟩:=h
    exact⟨p,vs,e,h1,RDs.cut h2 q⟩
  | .lit l,_,h,q=>by
    simp only [RD] at h ⊢;simp only [Fm.rfs] at q
    obtain⟨p,vs,e,h1,h2⟩:=h
    exact⟨p,vs,e,h1,RDs.cut h2 q⟩
  | .ref n,_,h,q=>by
    simp only [RD] at h ⊢;simp only [Fm.rfs] at q
    obtain⟨a,h1,h2⟩:=h
    exact⟨a,by rwa [List.getElem?_append_left q] at h1,h2⟩
  | .exn _ _,_,h,_=>by simp only [RD] at h ⊢;exact h
theorem RDs.cut:∀ {l:List D} {vs:List V},RDs K (ρ ++ t) H l vs→Fm.kD ρ.length l→RDs K ρ H l vs
  | [],_,h,_=>by simp only [RDs] at h ⊢;exact h
  | d :: ds,_,h,q=>by
    simp only [RDs] at h ⊢;simp only [Fm.kD] at q
    obtain⟨v,r,e,h1,h2⟩:=h
    exact⟨v,r,e,RD.cut h1 q.1,RDs.cut h2 q.2⟩
end
mutual
theorem sr {k:Nat}:∀ {d:D},pure? d=true→Fm.rfs k d
  | .non,_=>by simp only [Fm.rfs]
  | .bl _,_=>by simp only [Fm.rfs]
  | .int _,_=>by simp only [Fm.rfs]
  | .str _,_=>by simp only [Fm.rfs]
  | .tup l,h=>by simp only [pure?] at h;simp only [Fm.rfs];exact ji h
  | .lit l,h=>by simp only [pure?] at h;simp only [Fm.rfs];exact ji h
  | .exn _ l,h=>by simp only [pure?] at h;simp only [Fm.rfs];exact ji h
  | .ref _,h=>by simp only [pure?] at h;cases h
theorem ji {k:Nat}:∀ {l:List D},ij l=true→Fm.kD k l
  | [],_=>by simp only [Fm.kD]
  | x :: xs,h=>by
    simp only [ij,Bool.and_eq_true] at h
    simp only [Fm.kD];exact⟨sr h.1,ji h.2⟩
end
def Iw (k:Nat):dk→Prop
  | .lst l=>Fm.kD k l
  | .dct l=>Fm.kD k (l.map (·.2))
theorem RC.rfs {c:dk}{a:Addr}(h:RC K ρ H c a):Iw ρ.length c:=by
  cases c with
  | lst l=>obtain⟨vs,_,h2⟩:=h;exact h2.rfs
  | dct l=>obtain⟨vs,_,_,h2⟩:=h;exact h2.rfs
theorem RC.cut {c:dk}{a:Addr}(h:RC K (ρ ++ t) H c a)(q:Iw ρ.length c):RC K ρ H c a:=by
  cases c with
  | lst l=>obtain⟨vs,h1,h2⟩:=h;exact⟨vs,h1,h2.cut q⟩
  | dct l=>obtain⟨vs,h1,h2,h3⟩:=h;exact⟨vs,h1,h2,h3.cut q⟩
theorem yc {k:Nat}{c:dk}(h:Al c=true):Iw k c:=by
  cases c with
  | lst l=>exact ji h
  | dct l =>
    have:∀ l:List (Int × D),(l.all fun p=>pure? p.2)=true→Fm.kD k (l.map (·.2)):=by
      intro l
      induction l with
      | nil=>intro _;simp only [List.map_nil,Fm.kD]
      | cons x l ih=>intro h;simp only [List.all_cons,Bool.and_eq_true] at h;simp only [List.map_cons,Fm.kD];exact⟨sr h.1,ih h.2⟩
    exact this l h
theorem RH.back (r:RH K ρ H hd)(r':RH K (ρ ++ t) H' hd')(o:Ig hd hd'):RH K ρ H' (hd'.take hd.length):=by
  have hl:(ρ ++ t).length=hd'.length:=r'.len
  refine⟨by rw [List.length_take,← hl,List.length_append,← r.len];omega,(List.nodup_append.mp r'.nd).1,fun n c a h1 h2 => ?_⟩
  have hn:n < hd.length:=by rw [← r.len];exact (List.getElem?_eq_some_iff.mp h2).1
  rw [List.getElem?_take_of_lt hn] at h1
  have q:=r'.cel n c a h1 (by rw [List.getElem?_append_left (by rw [r.len];exact hn)];exact h2)
  refine q.cut ?_
  rcases o n c hn h1 with z|z
  · exact (r.cel n c a z h2).rfs
  · exact yc z
def nJ (K:PySem.W.Frag) (ρ:List Addr) (H:Hp) (r:Res D) (Q:VK):Prop:=match r with
  | .ok d hd'=>∀ v H' ρ',Ext ρ H ρ' H'→RH K ρ' H' hd'→RD K ρ' H' d v→Q v H'
  | _=>False
def spF (K:PySem.W.Frag) (F:Fn) (np:Nat):Sp:=fun vs H Q _=>∃ ρ hd ds,RH K ρ H hd∧RDs K ρ H ds vs∧ds.length=np∧nJ K ρ H (F ds hd) Q
theorem Ext.short (e:Ext ρ H (ρ ++ t) H'):Ext ρ H ρ H':=⟨⟨[],by simp⟩,fun _ h=>.inl h,e.frame⟩
theorem nJ.letGo {r:Res D}{Q:VK}(rh:RH K ρ H hd)(p:nJ K ρ H (letGo hd r) Q):nJ K ρ H r Q:=by
  cases r with
  | exc x h'=>exact p
  | bad=>exact p
  | ok d h' =>
    intro v H' ρ' ex rh' rd
    simp only [Fm.letGo] at p
    split at p
    · rename_i hc
      obtain⟨t,rfl⟩:=ex.pre
      exact p v H' ρ ex.short (rh.back rh' hc.2) (rd.cut (sr hc.1))
    · exact p v H' ρ' ex rh' rd
theorem nJ.runB {n:Nat}{b:SF}{ds:List D}{Q:VK}(p:nJ K ρ H (runB n b ds hd) Q):bZ K ρ H (b (ds.map some++List.replicate (n - ds.length) none) hd) { nx:=fun _ H'=>Q .non H',rt:=Q }:=by
  unfold Fm.runB at p
  cases e:b (ds.map some++List.replicate (n - ds.length) none) hd with
  | nx σ h'=>rw [e] at p;exact fun σ' H' ρ' ex rs=>p .non H' ρ' ex rs.hp (by simp only [RD])
  | rt d h'=>rw [e] at p;exact p
  | bk σ h'=>rw [e] at p;exact p.elim
  | ct σ h'=>rw [e] at p;exact p.elim
  | exc x σ h'=>rw [e] at p;exact p.elim
  | bad=>rw [e] at p;exact p.elim
theorem wS {N:List Str}{ds:List D}{vs:List V}(r:RDs K ρ H ds vs):RSt K ρ H (ds.map some++List.replicate (N.length - ds.length) none) (L2.kH N vs):=by
  have hl:=r.length
  refine⟨by simp [L2.kH,hl],fun i d e => ?_⟩
  simp only [slot] at e
  by_cases hi:i < ds.length
  · rw [List.getElem?_append_left (by simpa using hi)] at e
    simp only [List.getElem?_map,List.getElem?_eq_getElem hi,Option.map_some] at e
    cases e
    obtain⟨v,hv,q⟩:=r.get (i:=i) (d:=ds[i]) (by simp [hi])
    refine⟨v,?_,q⟩
    unfold L2.kH
    rw [List.getElem?_append_left (by simp;omega)]
    simp [hv]
  · rw [List.getElem?_append_right (by simpa using Nat.le_of_not_lt hi)] at e
    simp only [List.getElem?_replicate] at e
    by_cases hq:i - (List.map some ds).length < N.length - ds.length
    · simp only [hq,if_true] at e;cases e
    · simp only [hq,if_false] at e;cases e
end
structure Def (P:Program) (w:World) (K:PySem.W.Frag) (mg:Str→Option Value) (base:Heap) (x:Str) (k np:Nat) (F:Fn):Prop where
  ex:∃ f fd ps,mg x=some (.ref f)∧PySem.W.keepIn K (.ref f)=true∧lZ K fd ps []∧cy P w K mg base CX0 k f fd ps (spF K F np)
section
variable {P:Program} {w:World} {K:PySem.W.Frag} {mg:Str→Option Value} {base:Heap}
theorem cB {x:Str}{st:Stmt}{f:Addr}{fd:FuncData}{N ps:List Str}{k:Nat}{b:SF}(F:Fun K x x st f fd)(S:aT N ps (ao st))
    (body:∀ (cdv:Value) (A:Around) (outer:List Env) (s:Shared) (H:Hp) (E:XK),ig k (A.deeper (envOfC x (ao st) s.heap.objs.size f cdv))→MSs (qK CX0 P w K mg base N x (ao st) f cdv A outer s H E).nox (aK st) b) :
    cy P w K mg base CX0 (k + 1) f fd ps (spF K (bP ps.length N.length b) ps.length):=by
  refine F.ok S (fun vs H Q E ⟨ρ,hd,ds,rh,rd,hl,p⟩=>by rw [← rd.length];exact hl) fun cdv A outer s H vs Q E hr ⟨ρ,hd,ds,rh,rd,hl,p⟩=>⟨_,body cdv A outer s H E hr,ρ,_,hd,⟨rh,wS rd⟩,?_⟩
  simp only [bP,hl,if_true] at p
  exact (nJ.letGo rh p).runB
theorem Def.mk' {x:Str}{f:Addr}{fd:FuncData}{ps:List Str}{k np:Nat}{F:Fn}(hm:mg x=some (.ref f))(hk:PySem.W.keepIn K (.ref f)=true)(hb:lZ K fd ps [])(h:cy P w K mg base CX0 k f fd ps (spF K F np)):Def P w K mg base x k np F:=⟨f,fd,ps,hm,hk,hb,h⟩
end
section
variable {X:Cx} {pos p:Pos}
theorem aA {x:Str}{k np:Nat}{F:Fn}{e:Expr}{es:List Expr}{r:LF}(hd:Def X.prog X.w X.K X.mg X.base x k np F)(hr:ig k X.A)(hg:Gl X x)(ha:MA X (e :: es) r)(hnp:∀ ds h d h',F ds h=.ok d h'→ds.length=np)
    (hdb:(x == ("__debug__" : Str))=false:=by decide) (he:starEach (e :: es) X.env=(false,eval e X.env) :: starEach es X.env:=by rfl) (hpl:(backTo pos (starEach es X.env)).any (·.1)=false:=by rfl) :
    ME X (.Call (.Name x p) (e :: es) [] pos) (au F r):=by
  obtain⟨f,fd,ps,h1,h2,h3,h4⟩:=hd.ex
  refine PE.imp (EA h4 hr hg h1 h2 h3 .nil P5 ha hdb he hpl) fun σ H Q ⟨ρ,σd,hd,rs,pp⟩=>⟨ρ,σd,hd,rs,(bR.bind (R:=rDs X.K) pp).imp fun vs H1 ⟨ρ1,ds,hd1,e1,rs1,rv,p1⟩ => ?_⟩
  rw [List.append_nil]
  cases c:F ds hd1 with
  | exc z h'=>rw [c] at p1;exact p1.elim
  | bad=>rw [c] at p1;exact p1.elim
  | ok d hd2 =>
    rw [c] at p1
    refine⟨ρ1,hd1,ds,rs1.hp,rv,hnp _ _ _ _ c,?_⟩
    rw [c]
    exact fun v H' ρ' ex rh rd=>p1 v H' ρ' ex (rs1.ext ex rh) rd
theorem aB {np n:Nat}{b:SF}:∀ ds h d h',bP np n b ds h=.ok d h'→ds.length=np:=by
  intro ds h d h' e
  unfold bP at e
  split at e
  · assumption
  · cases e
end
theorem Qd {l:PySem.W.OpenLaw}{q:Program}{loose:List Str}{XP:(Str→Option Value)→Heap→Prop}{YP:World→Heap→Prop}{d:DefRec}{K:Params→PySem.W.Frag}{F:Fn}{k:Nat}{x:Str}(hn:l.most=some 63)(hdf:d.params.defaults=[])(hr:ig k callerA)
    (hY:∀ (w:World) (h:Heap),YP w h→(K w.params).In h)
    (hF:∀ (w:World) (mg:Str→Option Value) (fa:Addr) (h:Heap),(K w.params).In h→h.Ns mainGlobals mg→mg d.name=some (.ref fa) →
      ∃ fd:FuncData,(∀ (s:Shared) (u:Value),BindsTo s fd ⟨[u],[]⟩ [(x,u)]) ∧ ∀ base:Heap,(K w.params).In base→base.Ns mainGlobals mg→cy l.prog w (K w.params) mg base CX0 k fa fd [x] (spF (K w.params) F 1))
    (law:∀ ns:List Int,ns.length≤63 → ∃ h,F [.lit (ns.map .int)] []=.ok (.bl true) h) :
    PySem.W.WalkO q loose XP YP l.row.toRowW d [] (fun f vs=>PySem.call f vs):=by
  refine L2.Lu (n:=63) (k:=k) (x:=x) (CX:=fun _=>CX0) (sp:=fun w=>spF (K w.params) F 1) hn (by decide) hdf hr hY hF (fun w H a ns hl hO hS => ?_) fun _ _ _ _ _ z=>z
  obtain⟨h,e⟩:=law ns hl
  have hL:qg (K w.params) H a (ns.map V.int):=by
    rcases hS with (z|⟨o,z⟩)|z
    · rcases hO a with y|⟨o,xs,y⟩<;>(rw [z] at y;cases y)
    · exact .inl ⟨o,z⟩
    · exact .inr z
  have hI:RDs (K w.params) [] H (ns.map D.int) (ns.map V.int):=by
    clear hl hS e hL law
    induction ns with
    | nil=>exact RDs.nil
    | cons n ns ih=>exact RDs.cons (by simp only [RD]) ih
  refine⟨[],[],[.lit (ns.map .int)],⟨rfl,List.nodup_nil,fun n c a h1=>by simp at h1⟩,RDs.cons (by simp only [RD];exact⟨a,_,rfl,hL,hI⟩) RDs.nil,rfl,?_⟩
  rw [e]
  intro v H' ρ' ex rh rd
  simpa only [RD] using rd
end Fm
set_option Elab.async false
set_option linter.all false
set_option maxRecDepth 100000
namespace Fm
open PySem PySem.Spec L2
open PyProof.Rows (Subscript_ tail_any)
def tyS:Ty→String
  | .int => "int" | .bool => "bool" | .tuple => "tuple" | .list => "list" | .str => "str"
theorem gS (t:Ty):typeOf (.type (tyS t))=pure (.type "type"):=by
  cases t
  · exact F.isi_meta_int
  · exact F.isi_meta_bool
  · exact F.isi_meta_tuple
  · exact F.isi_meta_list
  · exact F.isi_meta_str
theorem Lz (t:Ty):isSubtype (.type "NoneType") (.type (tyS t))=pure false:=by cases t<;>(rw [isSubtype_type];kernel_rfl)
theorem Op {t:Ty} (h:t ≠ .int):isSubtype (.type "int") (.type (tyS t))=pure false:=by cases t<;>first|exact absurd rfl h|(rw [isSubtype_type];kernel_rfl)
theorem LA {t:Ty} (h:t ≠ .int) (h2:t ≠ .bool):isSubtype (.type "bool") (.type (tyS t))=pure false:=by cases t<;>first|exact absurd rfl h|exact absurd rfl h2|(rw [isSubtype_type];kernel_rfl)
theorem Oq {t:Ty} (h:t ≠ .str):isSubtype (.type "str") (.type (tyS t))=pure false:=by cases t<;>first|exact absurd rfl h|(rw [isSubtype_type];kernel_rfl)
theorem Ix {t:Ty} (h:t ≠ .tuple):isSubtype (.type "tuple") (.type (tyS t))=pure false:=by cases t<;>first|exact absurd rfl h|(rw [isSubtype_type];kernel_rfl)
theorem EL {t:Ty} (h:t ≠ .list):isSubtype (.type "list") (.type (tyS t))=pure false:=by cases t<;>first|exact absurd rfl h|(rw [isSubtype_type];kernel_rfl)
theorem LB (t:Ty):isSubtype (.type "dict") (.type (tyS t))=pure false:=by cases t<;>(rw [isSubtype_type];kernel_rfl)
theorem lI (t:Ty):isSubtype (.type (tyS t)) (.type (tyS t))=pure true:=by cases t<;>(rw [isSubtype_type];kernel_rfl)
theorem As:isSubtype (.type "bool") (.type (tyS .int))=pure true:=by rw [isSubtype_type];kernel_rfl
theorem qi {n:String}{t:Ty}(h:n≠tyS t):(Value.type n == Value.type (tyS t))=false:=by
  rw [beq_eq_false_iff_ne];intro e;cases e;exact h rfl
theorem Cu {a b:Ty}(h:a≠b):(a == b)=false:=by cases a<;>cases b<;>first|rfl|exact absurd rfl h
section
variable {X:Cx} {pos p:Pos}
theorem Os {pins:List (Addr × Obj)}{σ:St}{H:Hp}{s:Shared}{ρ:List Addr}{hd:Hd}{d:D}{v:V}{u:Value}{t:Ty}{b:Bool}{Q:Value→Shared→Prop}{E:Value→Shared→Prop}(I:Inv X pins σ H s)(rh:RH X.K ρ H hd)(rd:RD X.K ρ H d v)(r:bT v u)(e:Ak hd t d=some b)
    (q:∀ s',Inv X pins σ H s'→Q (.bool b) s'):wpAny (model X.prog X.w) X.A (call (.builtin "isinstance") [u,.type (tyS t)]) Q E s:=by
  have q0:=q s I
  have q1:=q { s with toks:=s.toks + 1 } (I.tok _)
  have yes:∀ {n:String},s.TypeIs u n→isSubtype (.type n) (.type (tyS t))=pure true→Q (.bool true) s→wpAny (model X.prog X.w) X.A (call (.builtin "isinstance") [u,.type (tyS t)]) Q E s:=fun h1 h2 h3=>call_isinstance (isinstance_true (gS t) h2) ⟨h1,h3⟩
  cases d<;>simp only [RD] at rd<;>simp only [Ak] at e
  · subst rd;cases r;cases e
    exact call_isinstance (isinstance_false_none (by cases t<;>exact qi (by decide)) (gS t) (Lz t)) q1
  · subst rd;cases r
    by_cases h1:t=.int
    · subst h1;cases e;exact yes (n := "bool") rfl As q0
    · by_cases h2:t=.bool
      · subst h2;cases e;exact yes (n := "bool") rfl (lI .bool) q0
      · rw [Cu h1,Cu h2] at e;cases e
        exact call_isinstance (isinstance_false_bool (by cases t<;>first|exact absurd rfl h1|exact absurd rfl h2|exact qi (by decide)) (gS t) (LA h1 h2)) q1
  · subst rd;obtain⟨tk,rfl⟩:=r
    by_cases h1:t=.int
    · subst h1;cases e;exact yes (n := "int") rfl (lI .int) q0
    · rw [Cu h1] at e;cases e
      exact call_isinstance (isinstance_false_int (by cases t<;>first|exact absurd rfl h1|exact qi (by decide)) (gS t) (Op h1)) q1
  · subst rd;obtain⟨tk,rfl⟩:=r
    by_cases h1:t=.str
    · subst h1;cases e;exact yes (n := "str") rfl (lI .str) q0
    · rw [Cu h1] at e;cases e
      exact call_isinstance (isinstance_false_str (by cases t<;>first|exact absurd rfl h1|exact qi (by decide)) (gS t) (Oq h1)) q1
  · obtain⟨a,vs,rfl,ha,_⟩:=rd
    cases r
    obtain⟨its,_,o,ho,hc,_⟩:=jM I.hok ha
    by_cases h1:t=.tuple
    · subst h1;cases e;exact yes (n := "tuple") ⟨o,ho,hc⟩ (lI .tuple) q0
    · rw [Cu h1] at e;cases e
      exact call_isinstance (isinstance_false_tuple (by cases t<;>first|exact absurd rfl h1|exact qi (by decide)) (gS t) (Ix h1)) ⟨⟨o,ho,hc⟩,q1⟩
  · rename_i n
    obtain⟨a,ha,rfl⟩:=rd
    cases r
    cases c:hd[n]? with
    | none=>rw [c] at e;cases e
    | some cell =>
      rw [c] at e
      cases cell with
      | lst l =>
        obtain⟨vs,hv,_⟩:=rh.cel n _ a c ha
        obtain⟨z,its,k,_,ho⟩:=I.hok a _ hv
        by_cases h1:t=.list
        · subst h1;cases e;exact yes (n := "list") ⟨_,ho,rfl⟩ (lI .list) q0
        · simp only [Cu h1] at e;cases e
          exact call_isinstance (isinstance_false_list (by cases t<;>first|exact absurd rfl h1|exact qi (by decide)) (gS t) (EL h1)) ⟨⟨_,ho,rfl⟩,q1⟩
      | dct l =>
        obtain⟨vs,hv,_,_⟩:=rh.cel n _ a c ha
        obtain⟨_,_,_,_,o,_,_,ho,ex,_⟩:=I.hok a _ hv
        cases e
        exact call_isinstance (isinstance_false_dict (by cases t<;>exact qi (by decide)) (gS t) (LB t)) ⟨⟨o,ho,ex.1⟩,q1⟩
  · obtain⟨a,vs,rfl,ha,_⟩:=rd
    cases r
    obtain⟨its,_,pl,_⟩:=I.list ha.sq
    obtain⟨o,ho,hc,_⟩:=pl.isList
    by_cases h1:t=.list
    · subst h1;cases e;exact yes (n := "list") ⟨o,ho,hc⟩ (lI .list) q0
    · simp only [Cu h1] at e;cases e
      exact call_isinstance (isinstance_false_list (by cases t<;>first|exact absurd rfl h1|exact qi (by decide)) (gS t) (EL h1)) ⟨⟨o,ho,hc⟩,q1⟩
  · cases e
def Q9 (K:PySem.W.Frag) (t:Ty):List V→Hp→VK→Prop:=fun xs H Q=>∃ ρ hd d v b,xs=[v,.ty (tyS t)]∧RH K ρ H hd∧RD K ρ H d v∧Ak hd t d=some b∧Q (.bl b) H
theorem Iy (t:Ty):ie X (.builtin "isinstance") (Q9 X.K t):=by
  intro pins s σ H xs us Q I r h
  obtain⟨ρ,hd,d,v,b,rfl,rh,rd,e,q⟩:=h
  obtain⟨u,u2,rfl,ru,ru2⟩:=bg.two r
  cases (show u2=Value.type (tyS t) from ru2)
  exact Os I rh rd ru e fun s' I'=>⟨.bl b,H,I',rfl,q⟩
theorem iI {t:Ty} {a:Expr} {fa:EF} {p2:Pos} {n:Str} (hg:Gl X "isinstance") (hm:X.mg "isinstance" = none) (hg2:Gl X n) (hm2:X.mg n=none) (hv:bootBuiltins n=some (.type (tyS t))) (ha:ME X a fa)
    (hs:starEach [a,.Name n p2] X.env=(false,eval a X.env) :: starEach [.Name n p2] X.env:=by rfl) (hs2:starEach [.Name n p2] X.env=(false,eval (.Name n p2) X.env) :: starEach [] X.env:=by rfl) (hn:n ≠ "__name__" := by decide) (hd:(n == ("__debug__" : Str))=false:=by decide) :
    ME X (.Call (.Name "isinstance" p) [a,.Name n p2] [] pos) (ed t fa):=by
  refine PE.imp (ii (Iy t) hg hm (by decide +kernel) (cr ha (cr (Ex (v:=.ty (tyS t)) hg2 hm2 hv rfl hn hd) eR hs2) hs) (he:=hs)) fun σ H Q ⟨ρ,σd,hd,rs,pp⟩=>⟨ρ,σd,hd,rs,(bR.bind (R:=rD X.K) pp).imp fun v H1 ⟨ρ1,d,hd1,e1,rs1,rv,p1⟩ => ?_⟩
  cases c:Ak hd1 t d with
  | none=>simp only [c] at p1;exact p1.elim
  | some b=>simp only [c] at p1;exact⟨ρ1,hd1,d,v,b,rfl,rs1.hp,rv,c,p1.here rs1 (by simp only [rD,RD])⟩
theorem gf:OpR X (binaryOp .Add) (fun x y H Q=>rI0 (fun i j=>.int (i + j)) x y H Q∨Ai X.K x y H Q):=NT.or EC
theorem iY {K:PySem.W.Frag}:Og K dM (fun x y H Q=>rI0 (fun i j=>.int (i + j)) x y H Q∨Ai K x y H Q):=by
  intro ρ H σd hd σ d k v w Q rs rv rw' pp
  cases d<;>try exact pp.elim
  · cases k<;>try exact pp.elim
    simp only [RD] at rv rw'
    exact .inl ⟨_,_,rv,rw',pp.here rs (by simp only [rD,RD])⟩
  · rename_i l
    cases l with
    | nil=>exact pp.elim
    | cons x xs =>
      cases k<;>try exact pp.elim
      rename_i ys
      simp only [dM] at pp
      split at pp
      · rename_i hz
        simp only [RD] at rv rw'
        obtain⟨a,vs,rfl,ha,rvs⟩:=rv
        obtain⟨b,ws,rfl,hb,rws⟩:=rw'
        refine .inr ⟨a,b,vs,ws,rfl,rfl,SqT.of ha,SqT.of hb,?_,?_,fun z => ?_,fun _ q hq => ?_⟩
        · intro z;subst z;have:=rvs.length;simp at this
        · rw [← rvs.length,← rws.length];exact nH hz
        · subst z
          have hy:ys=[]:=by have:=rws.length;simpa using this
          subst hy
          exact pp.here rs (by simp only [rD,RD];exact⟨a,vs,rfl,ha,by simpa using rvs⟩)
        · have sm:=cu (o:=HO.tup (vs++ws)) hq
          exact pp.at (Ext.same sm) (rs.same sm) (by simp only [rD,RD];exact⟨q,_,rfl,bh,(RDs.append rvs rws).mono (Kp.same sm)⟩)
      · exact pp.elim
theorem yd {a:Expr} {la:LF} (hg:Gl X "list") (hm:X.mg "list" = none) (ha:MQ X a la) (hs:starEach [a] X.env=(false,eval a X.env) :: starEach [] X.env:=by rfl):MF X (.Call (.Name "list" p) [a] [] pos) la:=by
  refine PE.imp (wM xW hg hm (by decide +kernel) (cr ha eR hs) (he:=hs)) fun σ H Q ⟨ρ,σd,hd,rs,pp⟩=>⟨ρ,σd,hd,rs,?_⟩
  cases e:la σd hd with
  | exc x h'=>rw [e] at pp;exact pp
  | bad=>rw [e] at pp;exact pp
  | ok l hd1 =>
    rw [e] at pp
    intro v H1 ρ1 e1 rs1 ⟨q,vs,hv,sq,rvs⟩
    subst hv
    exact⟨q,vs,rfl,sq.imp id SqT.of,pp.mk e1 rs1 rvs⟩
def MO (X:Cx) (e:Option Expr) (f:OF):Prop:=PO X e (lV X.K rO f)
theorem wT:MO X none pNo:=fun pins s σ H Q I ⟨ρ,σd,hd,rs,pp⟩=>Lm pins s σ H Q I (pp.here rs rfl)
theorem wU {e:Expr}{f:EF}(h:ME X e f):MO X (some e) (pAt f):=fun pins s σ H Q I ⟨ρ,σd,hd,rs,pp⟩=>Ln h pins s σ H Q I ⟨ρ,σd,hd,rs,(bR.bind (R:=rD X.K) pp).imp fun v H1 ⟨ρ1,d,hd1,e1,rs1,rv,p1⟩=>by
  cases d<;>try exact p1.elim
  simp only [rD,RD] at rv
  exact⟨_,rv,p1.here rs1 rfl⟩⟩
theorem EM {K:PySem.W.Frag}{ρ:List Addr}{H:Hp}{l:List D}{vs:List V}{lo hi:Option Int}(r:RDs K ρ H l vs):RDs K ρ H (cut l lo hi) (rV vs lo hi):=by
  have e:∀ (n d:Nat) (o:Option Int),Fm.sIx n d o=HT.sIx n d o:=fun n d o=>by cases o<;>rfl
  unfold cut rV
  rw [r.length,e,e]
  exact (r.drop _).take _
theorem jj {a:Expr}{fa:EF}{lo hi:Option Expr}{fl fh:OF}{p2:Pos}(ha:ME X a fa)(hl:MO X lo fl)(hh:MO X hi fh):ME X (.Subscript a (.Slice lo hi none p2) pos) (cT fa fl fh):=by
  refine PE.imp (Ib (SlR.or Lo NZ) ha hl hh) fun σ H Q ⟨ρ,σd,hd,rs,pp⟩ => ?_
  unfold cT at pp
  refine⟨ρ,σd,hd,rs,(bR.bind (R:=rD X.K) pp).imp fun v H1 ⟨ρ1,d,hd1,e1,rs1,rv,p1⟩ => ?_⟩
  refine⟨ρ1,σd,hd1,rs1,(bR.bind (R:=rO) p1).imp fun o1 H2 ⟨ρ2,o1',hd2,e2,rs2,q2,p2⟩ => ?_⟩
  cases q2
  refine⟨ρ2,σd,hd2,rs2,(bR.bind (R:=rO) p2).imp fun o2 H3 ⟨ρ3,o2',hd3,e3,rs3,q3,p3⟩ => ?_⟩
  cases q3
  have rv3:=(rv.mono (rs1.hp.kp e2)).mono (rs2.hp.kp e3)
  have list:∀ l,gp hd3 d=some l→bR X.K (rD X.K) ρ3 H3 σd σ (.ok (.ref hd3.length) (hd3++[.lst (cut l o1 o2)])) Q→P4 X.K v o1 o2 H3 Q:=fun l c p=>by
    obtain⟨q,vs,hv,sq,rvs⟩:=rj rs3.hp rv3 c
    refine⟨q,vs,hv,sq,fun q' hq => ?_⟩
    have sm:=cu (o:=HO.lst (rV vs o1 o2)) hq
    have nq:=rs3.hp.free hq
    have rh:=(rs3.hp.same sm).alloc bh nq ((EM rvs).mono (Kp.same sm))
    have ex:Ext ρ3 H3 (ρ3++[q']) (upd H3 q' (.lst (rV vs o1 o2))):=Ext.alloc hq
    refine p.at ex (rs3.ext ex rh) ?_
    simp only [rD,RD]
    exact⟨q',by rw [← rs3.hp.len];simp,rfl⟩
  cases d with
  | tup l =>
    simp only at p3
    split at p3
    · exact p3.elim
    · rename_i hw
      simp only [RD] at rv3
      obtain⟨q,vs,rfl,hq,rvs⟩:=rv3
      have e:∀ (n d:Nat) (o:Option Int),Fm.sIx n d o=HT.sIx n d o:=fun n d o=>by cases o<;>rfl
      refine .inr ⟨q,vs,rfl,SqT.of hq,by rw [← rvs.length,← e,← e];exact hw,fun q' hq' => ?_⟩
      have sm:=cu (o:=HO.tup (rV vs o1 o2)) hq'
      exact p3.at (Ext.same sm) (rs3.same sm) (by simp only [rD,RD];exact⟨q',_,rfl,bh,(EM rvs).mono (Kp.same sm)⟩)
  | ref n =>
    simp only at p3
    cases c:gp hd3 (.ref n) with
    | none=>rw [c] at p3;exact p3.elim
    | some l=>rw [c] at p3;exact .inl (list l c p3)
  | lit l' =>
    simp only at p3
    cases c:gp hd3 (.lit l') with
    | none=>rw [c] at p3;exact p3.elim
    | some l=>rw [c] at p3;exact .inl (list l c p3)
  | _=>exact p3.elim
theorem mS {o e:Expr} {fo fe:EF} {apos cpos:Pos} (ho:ME X o fo) (he:ME X e fe) (hbase:attributeBase o "append" X.env (eval o X.env)=eval o X.env:=by rfl)
    (hfew:((backTo cpos (starEach [e] X.env)).all (fun x => !x.1) && (backToKw cpos (keywordEach [] X.env)).all (fun x=>x.1.isSome)
      && decide (([e] : List Expr).length + ([] : List Keyword).length + (if ([] : List Keyword).isEmpty then 0 else 1) < 30))=true:=by rfl)
    (hline:(apos.endLine == cpos.line)=true:=by rfl) (hs:starEach [e] X.env=(false,eval e X.env) :: starEach [] X.env:=by rfl) :
    ME X (.Call (.Attribute o "append" apos) [e] [] cpos) (mP fo fe):=by
  refine PE.imp (M8 PySem.F.plainAttrs_list PySem.F.slot_list_append PySem.F.type_list_append wO ho (cr he eR hs) hbase hfew hline hs) fun σ H Q ⟨ρ,σd,hd,rs,pp⟩=>⟨ρ,σd,hd,rs,?_⟩
  unfold mP at pp
  refine (bR.bind (R:=rD X.K) pp).imp fun v H1 ⟨ρ1,d,hd1,e1,rs1,rv,p1⟩ => ?_
  cases d<;>try exact p1.elim
  rename_i n
  simp only [rD,RD] at rv
  obtain⟨a,ha,rfl⟩:=rv
  simp only at p1
  cases c1:hd1[n]? with
  | none=>rw [c1] at p1;exact p1.elim
  | some cell1 =>
    rw [c1] at p1
    cases cell1 with
    | dct l=>exact p1.elim
    | lst l1 =>
      obtain⟨vs,hv,_⟩:=rs1.hp.cel n _ a c1 ha
      simp only at p1
      refine⟨.inl ⟨rfl,vs,SqL.of hv⟩,ρ1,σd,hd1,rs1,(bR.bind (R:=rD X.K) p1).imp fun w H2 ⟨ρ2,k,hd2,e2,rs2,rw',p2⟩ => ?_⟩
      simp only [Oc] at p2
      cases c:hd2[n]? with
      | none=>rw [c] at p2;exact p2.elim
      | some cell =>
        rw [c] at p2
        cases cell with
        | dct l=>exact p2.elim
        | lst l =>
          simp only at p2
          split at p2
          · rename_i hz
            have ha2:=e2.get ha
            obtain⟨vs2,hv2,rvs2⟩:=rs2.hp.cel n _ a c ha2
            refine⟨a,vs2,w,rfl,rfl,hv2,?_,?_⟩
            · rw [← rvs2.length];exact Nat.lt_of_lt_of_le hz (by rw [sizeLine_eq];decide)
            · have hn:n < hd2.length:=(List.getElem?_eq_some_iff.mp c).1
              have rh:=rs2.hp.write ha2 hn (RDs.append rvs2 (RDs.cons rw' RDs.nil))
              have ex:Ext ρ2 H2 ρ2 (upd H2 a (.lst (vs2++[w]))):=Ext.write (List.mem_of_getElem? ha2)
              exact p2.at ex (rs2.ext ex rh) (by simp only [rD,RD])
          · exact p2.elim
end
end Fm
set_option Elab.async false
set_option linter.all false
set_option maxRecDepth 100000
namespace Fm
open PySem PySem.Spec L2
open AutoSeq1 (wpAny_loadPart')
open PyProof.Rows (Call_)
theorem LC {a b:String}(h:Value.type a=Value.type b)(n:a≠b):False:=by injection h with h;exact n h
theorem kM (l:Addr)(items:Array Value)(n:Nat)(dct:Option Addr)(sl:Array (Option Value)) :
    Meets (Builtin.«enumerate.__new__» ⟨[.type "enumerate",.ref l],[]⟩) (fun _ R s=>s.heap.get? l=some { cls:=.type "tuple",dict:=dct,data:=.seq items n,slots:=sl } ∧
      R (.ok (.ret (.ref (s.heap.push { cls:=.type "tuple_iterator",data:=.fields #[.ref l,.int 0 0] }).objs.size)))
        { s with heap:=(s.heap.push { cls:=.type "tuple_iterator",data:=.fields #[.ref l,.int 0 0] }).push { cls:=.type "enumerate",data:=.fields #[.none,.bool false,.ref s.heap.objs.size,rawInt 0,.none,.none] } }) :=
  .of_wp fun prog w A R s h=>by
    obtain⟨hp,g,d,tk,os⟩:=s;obtain⟨hl,h⟩:=h
    have hsub:=sub_enumerate
    have hL:Heap.IsTuple (Shared.heap ⟨hp,g,d,tk,os⟩) l items:=⟨_,hl,rfl,n,rfl⟩
    wp_walk using wpAny_loadPart' hl
    refine wpAny_stack_any fun st=>wpAny_pure ?_
    split
    · rename_i c _ _ _ _ _
      cases (c == Value.type "enumerate")
      · wp_walk using wpAny_loadPart' hl,wpAny_pyIter_tuple hL
        exact⟨_,rfl,h⟩
      · wp_walk using wpAny_loadPart' hl,wpAny_pyIter_tuple hL
        exact⟨_,rfl,h⟩
    · wp_walk using wpAny_loadPart' hl,wpAny_pyIter_tuple hL
      exact⟨_,rfl,h⟩
section
variable {prog:Program} {w:World} {A:Around} {E:Value→Shared→Prop} {s:Shared}
theorem kN {l:Addr}{items:Array Value}{Q:Value→Shared→Prop}(hL:s.heap.IsTuple l items)
    (h:∀ h',IsEnum h' (s.heap.objs.size + 1) s.heap.objs.size 0 .none→h'.IsTupleIter s.heap.objs.size l 0→h'.objs.size=s.heap.objs.size + 2 →
      (∀ b o,s.heap.get? b=some o→h'.get? b=some o)→Q (.ref (s.heap.objs.size + 1)) { s with heap:=h' }) :
    wpAny (model prog w) A (call (.type "enumerate") [.ref l]) Q E s:=by
  obtain⟨⟨c,dct,dt,sl⟩,hl,hc,n,hd⟩:=hL
  replace hc:c=.type "tuple" := hc
  replace hd:dt=.seq items n:=hd
  subst hc hd
  refine callType_new F.called_enumerate (by decide) (F.typeCall_enumerate_1 _) (F.newCall_enumerate_1 _) (fun obj=>F.args_object_init_2 obj _) F.entry_enumerate_new
    (kM l items n dct sl) ⟨hl,?_⟩
  have hz:(s.heap.push { cls:=.type "tuple_iterator",data:=.fields #[.ref l,.int 0 0] }).objs.size=s.heap.objs.size + 1:=Heap.size_push ..
  show _∧_
  rw [hz]
  have he:IsEnum ((s.heap.push { cls:=.type "tuple_iterator",data:=.fields #[.ref l,.int 0 0] }).push
      { cls:=.type "enumerate",data:=.fields #[.none,.bool false,.ref s.heap.objs.size,rawInt 0,.none,.none] }) (s.heap.objs.size + 1) s.heap.objs.size 0 .none:=by
    have:=Heap.get?_push_size (s.heap.push { cls:=.type "tuple_iterator",data:=.fields #[.ref l,.int 0 0] })
      (o:={ cls:=.type "enumerate",data:=.fields #[.none,.bool false,.ref s.heap.objs.size,rawInt 0,.none,.none] }) rfl
    rw [hz] at this;exact this
  refine⟨⟨_,he,rfl⟩,h _ he ⟨_,Heap.get?_push_of_some _ (Heap.get?_push_size _ rfl),rfl,rfl⟩ (by rw [Heap.size_push,hz]) fun b o x=>Heap.get?_push_of_some _ (Heap.get?_push_of_some _ x)⟩
theorem d9 {it l:Addr}{i:Nat}{items:Array Value}{x:Value}{Q:Value→Shared→Prop}(hit:s.heap.IsTupleIter it l i)
    (hl:s.heap.IsTuple l items) (hx:items[i]? = some x)
    (hQ:∀ h',h'.IsTupleIter it l (i + 1)→Heap.SameBut it s.heap h'→Q x { s with heap:=h' }) :
    wpAny (model prog w) A (Builtin.SmallTypes.nextOf (.ref it)) Q E s:=by
  obtain⟨o,ho,hc,hd⟩:=id hit
  obtain⟨ol,hol,_,nl,hdl⟩:=hl
  unfold Builtin.SmallTypes.nextOf
  refine wpAny_bind (wpAny_callSpecial?_slot (name:=Str.ofString "__next__") hit.typeIs F.slot_tuple_iterator_next
    (wpAny_call_entry F.slot_tuple_iterator_next hit.typeIs F.entry_tuple_iterator_next ?_ (F.args_tuple_iterator_next_1 _)))
  show wpAny _ _ (field (.ref it) 0 >>= _) _ _ s
  refine wpAny_bind (wpAny_field ho hd (x:=.ref l) rfl ?_)
  show wpAny _ _ (if (Value.ref l == Value.none)=true then _ else _) _ _ s
  rw [if_neg (show ¬ ((Value.ref l == Value.none)=true) from Bool.false_ne_true)]
  show wpAny _ _ (field (.ref it) 1 >>= _) _ _ s
  refine wpAny_bind (wpAny_field ho hd (x:=.int i 0) rfl ?_)
  show wpAny _ _ (seqItems? (.ref l) >>= _) _ _ s
  refine wpAny_bind (wpAny_seqItems hol hdl ?_)
  simp only [Int.toNat_natCast,hx]
  refine wpAny_bind (wpAny_setField ho hd (by simp) (wpAny_pure ⟨x,rfl,wpAny_pure (hQ _ ?_ (Heap.SameBut.update ..))⟩))
  exact⟨_,Heap.get?_update_self _ ho (Obj.isFreed_of_fields (Obj.data_mapFields hd _)),(Obj.cls_mapFields ..).trans hc,by
    rw [Obj.data_mapFields hd];simp [rawInt]⟩
theorem fQ {it l:Addr}{i:Nat}{items:Array Value}{Q:Value→Shared→Prop}(hh:A.handled=none)
    (hit:s.heap.IsTupleIter it l i) (hl:s.heap.IsTuple l items) (hx:items[i]? = none)
    (hE:∀ h' e,Heap.ExtBut it s.heap h'→(∃ o,h'.get? e=some o∧o.cls=.type "StopIteration")→E (.ref e) { s with heap:=h' }) :
    wpAny (model prog w) A (Builtin.SmallTypes.nextOf (.ref it)) Q E s:=by
  obtain⟨o,ho,hc,hd⟩:=id hit
  obtain⟨ol,hol,_,nl,hdl⟩:=hl
  unfold Builtin.SmallTypes.nextOf
  refine wpAny_bind (wpAny_callSpecial?_slot (name:=Str.ofString "__next__") hit.typeIs F.slot_tuple_iterator_next
    (wpAny_call_entry F.slot_tuple_iterator_next hit.typeIs F.entry_tuple_iterator_next ?_ (F.args_tuple_iterator_next_1 _)))
  show wpAny _ _ (field (.ref it) 0 >>= _) _ _ s
  refine wpAny_bind (wpAny_field ho hd (x:=.ref l) rfl ?_)
  show wpAny _ _ (if (Value.ref l == Value.none)=true then _ else _) _ _ s
  rw [if_neg (show ¬ ((Value.ref l == Value.none)=true) from Bool.false_ne_true)]
  show wpAny _ _ (field (.ref it) 1 >>= _) _ _ s
  refine wpAny_bind (wpAny_field ho hd (x:=.int i 0) rfl ?_)
  show wpAny _ _ (seqItems? (.ref l) >>= _) _ _ s
  refine wpAny_bind (wpAny_seqItems hol hdl ?_)
  simp only [Int.toNat_natCast,hx]
  refine wpAny_bind (wpAny_rule (wpAny_bind (wpAny_setField ho hd (by simp) ?_)))
  show wpAny _ _ (newExc (.type "StopIteration") [] >>= _) _ _ _
  refine wpAny_bind ?_
  simp only [newExc,newTuple]
  refine wpAny_bind (wpAny_newObj_type ?_ (by size_fits))
  refine wpAny_bind (m:=firstArgMember _ _) (wpAny_of_eq (a:=Value.none) (by first|rfl|(simp only [firstArgMember];rfl)) ?_)
  refine wpAny_newObj_type ?_ (by size_fits)
  simp only [raiseNew]
  refine wpAny_bind (wpAny_handled ?_)
  first|rw [show A.in1.handled=none from hh] | rw [hh]
  refine wpAny_bind (wpAny_pure (wpAny_throw ?_))
  exact hE _ _ (((Heap.SameBut.update ..).extBut.push _).push _) ⟨_,Heap.get?_push_size _ rfl,rfl⟩
end
theorem qj {prog:Program}{w:World}{A:Around}(hh:A.handled=none)(it l:Addr)(hne:l≠it)(items:Array Value) :
    Draws prog w A it [it,l] items.size (fun i v=>items[i]? = some v) (fun i h=>h.IsTupleIter it l i∧h.IsTuple l items) where
  live:=fun _ _ st=>let ⟨o,ho,_⟩:=st.1;⟨o,ho⟩
  frame:=fun _ _ _ st hk=>⟨st.1.at fun o e=>hk it (by simp) o e,let ⟨o,ho,r⟩:=st.2;⟨o,hk l (by simp) o ho,r⟩⟩
  item:=fun i s Q E hi st hQ=>by
    have hx:items[i]? = some items[i]:=by simp [hi]
    refine d9 st.1 st.2 hx fun h' hit' hs' => ?_
    refine hQ _ h' s.toks hx ⟨hit',?_⟩ hs'
    obtain⟨o,ho,r⟩:=st.2
    exact⟨o,(hs'.2 l hne).trans ho,r⟩
  done:=fun s Q E st hE=>fQ hh st.1 st.2 (by simp) hE
def Ite (K:PySem.W.Frag) (a:Addr):It :=
  ⟨fun i H=>∃ xs x,SqT K H a xs∧xs[i]? = some x,fun i H x H'=>∃ q v,x=.ref q∧H q=none∧H'=upd H q (.tup [.int (i:Nat),v]) ∧ ∀ xs,SqT K H a xs→xs[i]? = some v,fun i H=>∃ xs,SqT K H a xs∧xs.length=i⟩
theorem FO {P:Program}{w:World}{K:PySem.W.Frag}{elts:List Expr}{k:Nat}{pos:Pos}(e it a:Addr):Cg P w K (.Tuple elts k pos) (Ite K a) [e,it] e (fun i h=>(∃ old,IsEnum h e it (i:Nat) old)∧h.IsTupleIter it a i) where
  mem:=by simp
  obj:=fun i h st b hb=>by
    obtain⟨⟨old,he⟩,o,ho,hc,hd⟩:=st
    rcases List.mem_cons.mp hb with rfl|hb
    · exact⟨_,he,fun v z=>by
        have z':Data.fields _=Data.cell v:=z
        cases z'⟩
    · have:b=it:=by simpa using hb
      subst this
      exact⟨o,ho,fun v z=>by rw [hd] at z;cases z⟩
  keep:=fun i h h' st kk=>by
    obtain⟨⟨old,he⟩,st⟩:=st
    exact⟨⟨old,kk e (by simp) _ he⟩,st.at fun o x=>kk it (by simp) o x⟩
  item:=by
    intro X hP hw hK hc i pins s σ H E I hf st hg
    subst hP hw hK
    obtain⟨⟨old,he⟩,hit⟩:=st
    obtain⟨xs,x,hq,hx⟩:=hg
    obtain⟨its,rv,p,hz⟩:=I.tuple hq
    have ht:s.heap.IsTuple a its.toArray:=p
    obtain⟨oi,hoi,hci,hdi⟩:=id hit
    obtain⟨oa,hoa,hca,na,hda⟩:=id ht
    have hei:e≠it:=fun z=>by
      subst z
      have he':s.heap.get? e=_:=he
      rw [hoi] at he';cases he';exact LC hci (by decide)
    have hea:e≠a:=fun z=>by
      subst z
      have he':s.heap.get? e=_:=he
      rw [hoa] at he';cases he';exact LC hca (by decide)
    have hai:a≠it:=fun z=>by
      subst z
      rw [hoi] at hoa;cases hoa;rw [hci] at hca;exact LC hca (by decide)
    obtain⟨e0,e1,e2,e3,e4,e5⟩:=hf e (by simp)
    obtain⟨f0,f1,f2,f3,f4,f5⟩:=hf it (by simp)
    have hlt:i < its.toArray.size:=by
      have:=(List.getElem?_eq_some_iff.mp hx).1
      have hl:=rv.length
      simp;omega
    refine wpAny_pyNext_enum_itemD (qj (prog:=X.prog) (w:=X.w) (A:=X.A.in1) (I.ok.hd hc) it a hai its.toArray) he ⟨hit,ht⟩ hlt hei (by simp;exact⟨hei,hea⟩) fun y h' tk hy heo hst' htup hsz hk => ?_
    refine⟨_,rfl,wpAny_letOwnedTupleGo_enum heo fun h2 he2 hs2 => ?_⟩
    replace hs2:Heap.SameBut e h' h2:=hs2
    obtain⟨u,hu,ru⟩:=rv.get hx
    have hyu:y=u:=by
      have:its.toArray[i]? = some u:=by simpa using hu
      rw [hy] at this;exact Option.some.inj this
    subst hyu
    have elt:e < s.heap.objs.size:=Heap.lt_size he
    have ilt:it < s.heap.objs.size:=Heap.lt_size hoi
    have hN:H s.heap.objs.size=none:=I.hok.fresh (Nat.le_refl _)
    have keep:∀ b o,b≠e→b≠it→s.heap.get? b=some o→h2.get? b=some o:=fun b o b1 b2 q=>(hs2.2 b b1).trans (hk b o b1 b2 q)
    have htup2:h2.get? s.heap.objs.size=some { cls:=.type "tuple",data:=.seq #[.int i tk,y] }:=(hs2.2 _ (Nat.ne_of_gt elt)).trans htup
    have nch:∀ b,b∉([e,it] : List Addr)→b≠e∧b≠it:=fun b hb=>by simpa using hb
    refine⟨.ref s.heap.objs.size,upd H s.heap.objs.size (.tup [.int (i:Nat),x]),?_,rfl,⟨_,x,rfl,hN,rfl,fun ys hys=>by rw [I.tuple_inj hys hq];exact hx⟩,⟨⟨_,by simpa using he2⟩,hst'.1.extBut hs2.extBut (Ne.symm hei)⟩,fun b hb => ?_⟩
    · suffices I2:L2.Inv X pins σ (upd H s.heap.objs.size (.tup [.int (i:Nat),x])) { s with heap:=h2,gens:=s.gens,drawn:=s.drawn,toks:=tk + 1 } from I2
      refine I.step (g':=s.gens) (d':=s.drawn) (t':=tk + 1) (ch:=[e,it]) (fun b hb => ?_) (fun b o _ _ hb q _=>keep b o (nch b hb).1 (nch b hb).2 q) (fun b o _ _ hb q _=>⟨o.slots,keep b o (nch b hb).1 (nch b hb).2 q⟩) (fun b o _ q n => ?_) (fun b o hb q=>⟨o,keep b o (nch b hb).1 (nch b hb).2 q⟩)
        (fun b ys q => ?_) (fun b o u q => ?_) (fun b ps q=>⟨#[],?_⟩) (fun m hm => ?_) (fun b u q => ?_) I.bare
      · rcases List.mem_cons.mp hb with rfl|hb
        · exact⟨e3,e1,e4,e5⟩
        · have:b=it:=by simpa using hb
          subst this
          exact⟨f3,f1,f4,f5⟩
      · rw [aF (Nat.ne_of_lt (Heap.lt_size q))];exact n
      · rw [aF (bD q hN)];exact q
      · rw [aF (bD q hN)];exact q
      · rw [aF (bD q hN),q];simp
      · obtain⟨o,es,ep,ho,r⟩:=hm
        exact⟨o,es,ep,keep _ o (Ne.symm e1) (Ne.symm f1) ho,r⟩
      · by_cases hb:b=s.heap.objs.size
        · subst hb
          rw [bh] at q
          cases q
          exact⟨by show 2≤sizeLine;rw [sizeLine_eq];decide,[.int i tk,y],.cons ⟨tk,rfl⟩ (.cons ru .nil),_,htup2,rfl,_,rfl⟩
        · rw [aF hb] at q
          have ne1:∀ c v,H c=some v→c≠e:=fun c v z w=>by rw [w,e0] at z;cases z
          have ne2:∀ c v,H c=some v→c≠it:=fun c v z w=>by rw [w,f0] at z;cases z
          refine (I.hok b u q).stay (fun c v hc' z => ?_) (fun c z=>by rw [aF (bD z hN)];exact z) fun c ys z=>by rw [aF (bD z hN)];exact z
          rcases hc' with w|w
          · subst w;exact keep c v (ne1 c _ q) (ne2 c _ q) z
          · exact keep c v (ne1 c _ w) (ne2 c _ w) z
    · have:b≠s.heap.objs.size:=by
        rcases List.mem_cons.mp hb with rfl|hb
        · exact Nat.ne_of_lt elt
        · have:b=it:=by simpa using hb
          subst this
          exact Nat.ne_of_lt ilt
      rw [aF this]
      exact (hf b hb).1
  done:=by
    intro X hP hw hK hc i pins s σ H E I hf st hg
    subst hP hw hK
    obtain⟨⟨old,he⟩,hit⟩:=st
    obtain⟨xs,hq,hx⟩:=hg
    obtain⟨its,rv,p,hz⟩:=I.tuple hq
    have ht:s.heap.IsTuple a its.toArray:=p
    obtain⟨oi,hoi,hci,hdi⟩:=id hit
    obtain⟨oa,hoa,hca,na,hda⟩:=id ht
    have hai:a≠it:=fun z=>by
      subst z
      rw [hoi] at hoa;cases hoa;rw [hci] at hca;exact LC hca (by decide)
    obtain⟨f0,f1,f2,f3,f4,f5⟩:=hf it (by simp)
    have hsz:its.toArray.size=i:=by have:=rv.length;simp;omega
    refine wpAny_pyNext_enum_endD (qj (prog:=X.prog) (w:=X.w) (A:=X.A.in1) (I.ok.hd hc) it a hai its.toArray) he ⟨by rw [hsz];exact hit,ht⟩ fun h' hx'=>⟨rfl,I.turned (t':=s.toks) (fun b o hb e=>hx' b o hb e) f0 f1 f3 f4 f5⟩
  self:=fun _ _ _ _ _ st h=>by
    obtain⟨⟨old,he⟩,_⟩:=st
    exact wpAny_pyIter_enum he h
section
variable {X:Cx} {pos p tp:Pos} {elts:List Expr} {tk:Nat}
def iEn (K:PySem.W.Frag) (ta:TE):TI:=fun σ H R=>ta σ H fun x H1=>∃ a xs,x=.ref a∧SqT K H1 a xs∧(xs.length≤sizeLine→R (Ite K a) H1)
theorem LD {a:Expr} {ta:TE} (hg:Gl X "enumerate") (hm:X.mg "enumerate" = none) (ha:PE X a ta) (hs:starEach [a] X.env=[(false,eval a X.env)]:=by rfl):PI X (.Tuple elts tk tp) (.Call (.Name "enumerate" p) [a] [] pos) (iEn X.K ta):=by
  intro pins s σ H R I h
  have hpa:=cr ha eR hs
  refine Call_ (mL I hg hm PyProof.Rows.boot_enumerate (PyProof.Rows.callWith_type1 (thn (hpa pos pins s σ H (fun vs H1=>∃ a xs,vs=[.ref a]∧SqT X.K H1 a xs∧(xs.length≤sizeLine→R (Ite X.K a) H1)) I ?_) fun us s1 ⟨vs,H1,I1,r1,q1⟩ => ?_) hs rfl))
  · show ta σ H fun x H1=>_
    have key:∀ (x:V) (H1:Hp),(∃ a xs,x=.ref a∧SqT X.K H1 a xs∧(xs.length≤sizeLine→R (Ite X.K a) H1))=(∃ a xs,[x] = [.ref a]∧SqT X.K H1 a xs∧(xs.length≤sizeLine→R (Ite X.K a) H1)):=fun x H1=>by simp
    have h':ta σ H fun x H1=>∃ a xs,x=.ref a∧SqT X.K H1 a xs∧(xs.length≤sizeLine→R (Ite X.K a) H1):=h
    simp only [key] at h'
    exact h'
  · obtain⟨a,xs,e,hq,q⟩:=q1
    subst e
    obtain⟨u,rfl,ru⟩:=bg.one r1
    cases (show u=Value.ref a from ru)
    obtain⟨its,rv,pt,hz⟩:=I1.tuple hq
    refine kN (show s1.heap.IsTuple a its.toArray from pt) fun h' he hit hsz hk => ?_
    refine wpAny_pyIter_enum (s:={ s1 with heap:=h' }) he ?_
    have I2:Inv X pins σ H1 { s1 with heap:=h' }:=I1.kept (t':=s1.toks) hk
    refine⟨s1.heap.objs.size + 1,[s1.heap.objs.size + 1,s1.heap.objs.size],_,_,H1,rfl,I2,FO (s1.heap.objs.size + 1) s1.heap.objs.size a,⟨⟨_,by simpa using he⟩,hit⟩,fun b hb => ?_,q hz⟩
    have hb':s1.heap.objs.size≤b:=by
      rcases List.mem_cons.mp hb with e|hb
      · rw [e];exact Nat.le_succ _
      · have:b=s1.heap.objs.size:=by simpa using hb
        rw [this];exact Nat.le_refl _
    exact I1.fpOk hb' (I1.hok.fresh hb')
theorem FP {K:PySem.W.Frag}{ρ:List Addr}{H:Hp}{hd:Hd}{q:Addr}{l:List D}{vs:List V}(r:RH K ρ H hd)(hq:H q=some (.tup vs))(rv:RDs K ρ H l vs)(hz:vs.length≤sizeLine) :
    si K ρ H (Ite K q) ((List.range l.length).zip l |>.map fun p=>.tup [.int (p.1:Nat),p.2]) none where
  go:=fun ρ' H' hd' i d ex rh _ hi=>by
    have k:=r.kp ex
    obtain⟨hil,hi2⟩:=List.getElem?_eq_some_iff.mp hi
    have hl:i < l.length:=by simpa using hil
    have hd:d=.tup [.int (i:Nat),l[i]]:=by rw [← hi2];simp
    subst hd
    obtain⟨v,hv,rd⟩:=(rv.mono k).get (i:=i) (d:=l[i]) (by simp [hl])
    have sq:SqT K H' q vs:=SqT.of (k.tup q vs hq)
    refine⟨⟨vs,v,sq,hv⟩,fun x H2 y => ?_⟩
    obtain⟨q2,v2,rfl,hn,rfl,y⟩:=y
    have:=y vs sq
    rw [hv] at this
    cases this
    have sm:=cu (o:=HO.tup [.int (i:Nat),v]) hn
    refine⟨sm,?_⟩
    simp only [RD]
    exact⟨q2,_,rfl,bh,RDs.cons (by simp only [RD]) (RDs.cons (rd.mono (Kp.same sm)) RDs.nil)⟩
  stop:=fun ρ' H' hd' ex rh _=>⟨vs,SqT.of ((r.kp ex).tup q vs hq),by rw [← rv.length];simp⟩
  sz:=by
    have:=rv.length
    simp;omega
theorem LE {a:Expr} {f:EF} (hg:Gl X "enumerate") (hm:X.mg "enumerate" = none) (ha:ME X a f) (hs:starEach [a] X.env=[(false,eval a X.env)]:=by rfl):MI X (.Tuple elts tk tp) (.Call (.Name "enumerate" p) [a] [] pos) (Ie f):=by
  refine PI.imp (LD hg hm ha hs) fun σ H R ⟨ρ,σd,hd,rs,pp⟩=>⟨ρ,σd,hd,rs,?_⟩
  unfold Ie at pp
  cases e:f σd hd with
  | exc x h1=>rw [e] at pp;exact pp
  | bad=>rw [e] at pp;exact pp
  | ok d hd1 =>
    rw [e] at pp
    simp only [aH] at pp
    intro v H1 ρ1 ex1 rs1 rv
    cases d<;>try exact pp.elim
    rename_i l
    simp only [rD,RD] at rv
    obtain⟨q,vs,rfl,hq,rvs⟩:=rv
    exact⟨q,vs,rfl,SqT.of hq,fun hz=>pp _ H1 ρ1 ex1 rs1 (FP rs1.hp hq rvs hz)⟩
end
end Fm
set_option Elab.async false
set_option linter.all false
set_option maxRecDepth 100000
namespace Fm
open PySem PySem.Spec L2 PySem.W PyProof.Rows
section
variable {prog:Program} {w:World} {A:Around} {E:Value→Shared→Prop} {s:Shared}
theorem Cv {a:Addr} {vs:List Value} {n:Nat} {P:PySem.Fin→Shared→Prop} (ho:s.heap.get? a=some (seqObj "list" vs.toArray n)) (h2:vs.length < 2)
    (h:P (.done (.ret .none)) { s with heap:=sortedHeap s.heap a vs vs.toArray }):wpAny (model prog w) A (Builtin.«list.sort» ⟨[.ref a],[]⟩) P E s:=by
  rw [list_sort_plain]
  have ha:a < s.heap.objs.size:=Heap.lt_size ho
  refine wpAny_bind (listItems_at ho rfl ?_)
  refine wpAny_bind (listUpdate_at ho rfl ?_)
  obtain⟨e1,ho1⟩ : ∃ e1,(s.heap.update a (Obj.mapSeq fun _ => #[])).get? a=some (seqObj "list" #[] e1):=⟨_,get?_update_seq ho (fun _ => #[])⟩
  refine wpAny_bind (seqEpoch_at ho1 rfl ?_)
  refine wpAny_bind (wpAny_newTuple ?_)
  refine wpAny_bind (wpAny_newList ?_)
  refine wpAny_holding ?_
  have ho6:(((s.heap.update a (Obj.mapSeq fun _ => #[])).push (seqObj "tuple" vs.toArray 0)).push (seqObj "list" #[] 0)).get? a=some (seqObj "list" #[] e1):=by
    rw [Heap.get?_push_ne _ _ _ (by rw [size_push',Heap.size_update];exact Nat.ne_of_lt (Nat.lt_succ_of_lt ha)),Heap.get?_push_ne _ _ _ (by rw [Heap.size_update];exact Nat.ne_of_lt ha)]
    exact ho1
  show wpAny (model prog w) A _ P E { s with heap:=((s.heap.update a (Obj.mapSeq fun _ => #[])).push (seqObj "tuple" vs.toArray 0)).push (seqObj "list" #[] 0) }
  dsimp only
  have hsz:vs.toArray.size=vs.length:=by simp
  have h2':vs.toArray.size < 2:=by rw [hsz];exact h2
  rw [if_pos h2',if_pos h2']
  refine wpAny_bind (wpAny_pure ?_)
  rw [StateT.run_pure]
  refine wpAny_bind (wpAny_pure ?_)
  dsimp only
  refine wpAny_bind (seqEpoch_at ho6 rfl ?_)
  refine wpAny_bind (listUpdate_at ho6 rfl ?_ (hsz2:=by rw [Array.size_map];show (pairsOf vs).size≤_;rw [pairsOf_size,sizeLine_eq];omega))
  simp only [bne_self_eq_false,Bool.false_eq_true,if_false]
  have e:(arrOf (SortSt.mk' general' (vs.toArray.zip vs.toArray) #[] 7 none)).map (·.2)=vs.toArray:=by
    show (vs.toArray.zip vs.toArray).map (·.2)=vs.toArray
    apply Array.ext
    · simp
    · intro i h1 h2
      simp
  refine wpAny_pure ?_
  have h':=h
  unfold sortedHeap at h'
  rw [e]
  exact h'
theorem Ot {Q:Bool→Shared→Prop}:∀ (ns ms:List Int) {xs ys:List Value} (i:Nat),IntsAre xs ns→IntsAre ys ms→Q (Fm.cP ns ms) s→KatLex prog w A true (decide (xs.length < ys.length)) Q (xs.zip ys) i s:=by
  intro ns
  induction ns with
  | nil =>
    intro ms xs ys i hx hy h
    cases hx
    cases ms with
    | nil=>cases hy;exact h
    | cons m ms =>
      cases hy
      have h':Q true s:=h
      exact h'
  | cons n ns ih =>
    intro ms xs ys i hx hy h
    cases hx with
    | cons _ t r =>
      cases ms with
      | nil =>
        cases hy
        have h':Q false s:=h
        exact h'
      | cons m ms =>
        cases hy with
        | cons _ t' r' =>
          rename_i xs ys
          refine kat_cons (SeqAt.EqAt.int_int n t m t' prog w _ _ ?_)
          by_cases e:n=m
          · subst e
            rw [show (n == n)=true by simp]
            refine kat_yes ?_
            have h':Q (Fm.cP ns ms) s:=by simpa [Fm.cP] using h
            have:=ih ms (i + 1) r r' h'
            have e2:decide ((Value.int n t :: xs).length < (Value.int n t' :: ys).length)=decide (xs.length < ys.length):=by simp
            rw [e2]
            exact this
          · rw [show (n == m)=false by simpa using e]
            refine kat_no ?_
            have h':Q (decide (n < m)) s:=by simpa [Fm.cP,e] using h
            cases i with
            | zero=>exact oneLt_int h'
            | succ i =>
              have:(true && (i + 1 == 0))=false:=by simp
              rw [this]
              exact kat_one _ _ (lt_int (by first|exact⟨_,rfl,h'⟩|exact h'))
end
theorem Iz {h:Heap}{a:Addr}{m m':Str→Option Value}(x:h.Ns a m)(y:h.Ns a m'):m=m':=by
  obtain⟨o,es,ep,ho,hd,_,r⟩:=x
  obtain⟨o',es',ep',ho',hd',_,r'⟩:=y
  rw [ho] at ho';cases ho'
  rw [hd] at hd';cases hd'
  funext z
  rw [← r z,← r' z]
inductive cV (H:Hp):List V→List (List Int)→Prop
  | nil:cV H [] []
  | cons {a:Addr} {r:List Int} {vs:List V} {rs:List (List Int)}:H a=some (.tup (r.map V.int))→cV H vs rs→cV H (.ref a :: vs) (r :: rs)
theorem cV.get {H:Hp}:∀ {vs:List V} {rs:List (List Int)} {i:Nat} {v:V},cV H vs rs→vs[i]? = some v → ∃ a,v=.ref a∧H a=some (.tup ((rs.getD i []).map V.int))
  | _,_,_,_,.nil,e=>by simp at e
  | _,_,0,_,.cons h t,e=>by simp at e;subst e;exact⟨_,rfl,h⟩
  | _,_,i + 1,v,.cons h t,e=>by
    obtain⟨a,h1,h2⟩:=cV.get (i:=i) (v:=v) t (by simpa using e)
    exact⟨a,h1,by simpa using h2⟩
theorem cV.length {H:Hp}:∀ {vs:List V} {rs:List (List Int)},cV H vs rs→vs.length=rs.length
  | _,_,.nil=>rfl
  | _,_,.cons _ t=>by simp [cV.length t]
section
variable {X:Cx} {pos p:Pos}
theorem EN {i:Int}{u:Value}(r:bT (.int i) u):∃ t,u=.int i t:=r
theorem sw {K:PySem.W.Frag}{ρ:List Addr}{H:Hp}:∀ {l:List D} {vs:List V} {rs:List (List Int)},RDs K ρ H l vs→qM l=some rs→cV H vs rs
  | [],_,_,r,e=>by simp only [qM] at e;cases e;simp only [RDs] at r;subst r;exact .nil
  | d :: l,_,rs,r,e=>by
    simp only [RDs] at r
    obtain⟨v,vs,rfl,h1,h2⟩:=r
    cases d<;>simp only [qM] at e<;>try (cases e;done)
    rename_i l1
    cases c1:gJ l1 with
    | none=>rw [c1] at e;cases e
    | some is =>
      cases c2:qM l with
      | none=>rw [c1,c2] at e;cases e
      | some r2 =>
        rw [c1,c2] at e
        cases e
        simp only [RD] at h1
        obtain⟨p,ws,rfl,hp,rws⟩:=h1
        have:=sh rws c1
        subst this
        exact .cons hp (sw h2 c2)
end
end Fm
set_option Elab.async false
set_option linter.all false
set_option maxRecDepth 100000
namespace Fm
open PySem PySem.Spec L2
section
variable {X:Cx}
theorem mv (i:Nat) {x:Str} {pos:Pos} (hN:X.N[i]? = some x:=by rfl) (hv:Vis X.env.scope x:=by first|exact Or.inl rfl|exact Or.inr (Or.inl rfl)|exact Or.inr (Or.inr rfl)) (hd:(x == ("__debug__" : Str))=false:=by decide)
    (hcd:(x == ("__classdict__" : Str))=false:=by decide):ME X (.Name x pos) (aa i):=Od hN hv hd hcd
end
theorem dF {k:Nat}{A:Around}(r:ig k A):A.units + 24 < cLine:=by have:=r.un;omega
def aW (X:Cx):List (Str × NameKind)→Prop
  | []=>True
  | y :: r=>(y.2=.free→X.env.kindOf y.1=some .cell∨X.env.kindOf y.1=some .free)∧aW X r
def bH (X:Cx) (scope:Scope):List Str→List Nat→Prop
  | [],[]=>True
  | x :: xs,i :: is=>(X.N[i]? = some x∧scope.names.lookup x=some .free)∧bH X scope xs is
  | _,_=>False
theorem aW.get {X:Cx}:∀ {l:List (Str × NameKind)},aW X l → ∀ y∈l,y.2=.free→X.env.kindOf y.1=some .cell∨X.env.kindOf y.1=some .free
  | [],_,y,hy=>by simp at hy
  | z :: r,h,y,hy=>by
    rcases List.mem_cons.mp hy with rfl|hy
    · exact h.1
    · exact aW.get h.2 y hy
theorem bH.get {X:Cx}{scope:Scope}:∀ {capn:List Str} {caps:List Nat},bH X scope capn caps→(∀ (j:Nat) x,capn[j]? = some x → ∃ i,caps[j]? = some i∧X.N[i]? = some x∧scope.names.lookup x=some .free)∧capn.length=caps.length
  | [],[],_=>⟨fun j x e=>by simp at e,rfl⟩
  | x :: xs,i :: is,h=>by
    obtain⟨h1,h2⟩:=bH.get h.2
    refine⟨fun j y e => ?_,by simp [h2]⟩
    cases j with
    | zero=>simp at e;subst e;exact⟨i,rfl,h.1⟩
    | succ j=>exact h1 j y (by simpa using e)
  | [],_ :: _,h=>h.elim
  | _ :: _,[],h=>h.elim
theorem aW.nil {X:Cx}:aW X []:=trivial
theorem aW.cons {X:Cx}{y:Str × NameKind}{r:List (Str × NameKind)}(h:y.2=.free→X.env.kindOf y.1=some .cell∨X.env.kindOf y.1=some .free)(t:aW X r):aW X (y :: r):=⟨h,t⟩
theorem bH.nil {X:Cx}{scope:Scope}:bH X scope [] []:=trivial
theorem bH.cons {X:Cx}{scope:Scope}{x:Str}{xs:List Str}{i:Nat}{is:List Nat}(h1:X.N[i]? = some x)(h2:scope.names.lookup x=some .free)(t:bH X scope xs is):bH X scope (x :: xs) (i :: is):=⟨⟨h1,h2⟩,t⟩
theorem cf.mk' {X:Cx}{scope:Scope}{own capn:List Str}{caps:List Nat}(k:scope.kind=.function)(c:∀ y∈scope.names,y.2 ≠ .cell)(n:∀ y∈scope.names,y.2=.local→scope.names.lookup y.1=some .local)(f:aW X scope.names)(cp:bH X scope capn caps):cf X scope own capn caps :=
  ⟨k,c,n,f.get,cp.get.1,cp.get.2⟩
end Fm
set_option Elab.async false
set_option linter.all false
set_option maxRecDepth 100000
namespace Fm
open PySem PySem.Spec L2
section
variable {K:PySem.W.Frag} {ρ:List Addr} {H:Hp}
end
section
variable {X:Cx} {pos:Pos}
theorem gU {i:Int}{j:Nat}{p2:Pos}:ME X (.UnaryOp .USub (.Constant (.int i) j p2) pos) (fC (.int (-i))) :=
  PE.imp (PP NU HL) fun σ H Q ⟨ρ,σd,hd,rs,p⟩=>⟨i,rfl,p.here rs (by simp only [rD,RD])⟩
end
end Fm
set_option Elab.async false
set_option linter.all false
set_option maxRecDepth 100000
namespace Fm
open PySem PySem.Spec L2 PySem.W PyProof.Rows
theorem Ou {l r:Nat}(h:l < r):l≤(l + r) / 2∧(l + r) / 2 < r:=by omega
section
variable {cmp:Nat→Nat→(Bool→Shared→Prop)→Shared→Prop} {n:Nat} {s:Shared} {lt:Nat→Nat→Bool}
structure Ord (lt:Nat→Nat→Bool) (n:Nat):Prop where
  asy:∀ i j,i < n→j < n→lt i j=true→lt j i=false
  tr:∀ i j k,i < n→j < n→k < n→lt i j=true→lt j k=true→lt i k=true
  tot:∀ i j,i < n→j < n→i≠j→lt i j=false→lt j i=true
structure Gd (n:Nat) (p:Array Nat):Prop where
  sz:p.size=n
  pm:p.Perm (List.toArray (List.range n))
theorem Gd.below (g:Gd n p){i:Nat}(hi:i < n):p.getD i 0 < n:=by
  have h1:i < p.size:=by rw [g.sz];exact hi
  have e:p.getD i 0=p[i]:=by simp [Array.getD,h1]
  rw [e]
  have m:p[i]∈p.toList:=by simp
  have:=(Array.perm_iff_toList_perm.mp g.pm).mem_iff.mp m
  simpa using this
theorem Gd.ne (g:Gd n p){i j:Nat}(hi:i < n)(hj:j < n)(h:i≠j):p.getD i 0≠p.getD j 0:=by
  have h1:i < p.size:=by rw [g.sz];exact hi
  have h2:j < p.size:=by rw [g.sz];exact hj
  have e:p.getD i 0=p[i]:=by simp [Array.getD,h1]
  have e':p.getD j 0=p[j]:=by simp [Array.getD,h2]
  rw [e,e']
  have nd:p.toList.Nodup:=(Array.perm_iff_toList_perm.mp g.pm).nodup_iff.mpr (by simpa using List.nodup_range)
  intro z
  have:=(List.getElem_inj (xs:=p.toList) nd (i:=i) (j:=j) (h₀ := by simpa using h1) (h₁ := by simpa using h2)).mp (by simpa using z)
  exact h this
def Srt (lt:Nat→Nat→Bool) (p:Array Nat) (m:Nat):Prop:=∀ i j,i < j→j < m→lt (p.getD i 0) (p.getD j 0)=true
def Dsc (lt:Nat→Nat→Bool) (p:Array Nat) (m:Nat):Prop:=∀ i j,i < j→j < m→lt (p.getD j 0) (p.getD i 0)=true
theorem io:Gd n (List.toArray (List.range n)):=⟨by simp,Array.Perm.refl _⟩
theorem Srt.next {p:Array Nat}{m:Nat}(O:Ord lt n)(g:Gd n p)(h:Srt lt p m)(h1:1≤m)(hm:m < n)(c:lt (p.getD (m - 1) 0) (p.getD m 0)=true):Srt lt p (m + 1):=by
  intro i j hij hj
  by_cases e:j < m
  · exact h i j hij e
  · have:j=m:=by omega
    subst this
    by_cases e2:i=j - 1
    · subst e2;exact c
    · exact O.tr _ _ _ (g.below (by omega)) (g.below (by omega)) (g.below hm) (h i (j - 1) (by omega) (by omega)) c
theorem Dsc.next {p:Array Nat}{m:Nat}(O:Ord lt n)(g:Gd n p)(h:Dsc lt p m)(h1:1≤m)(hm:m < n)(c:lt (p.getD m 0) (p.getD (m - 1) 0)=true):Dsc lt p (m + 1):=by
  intro i j hij hj
  by_cases e:j < m
  · exact h i j hij e
  · have:j=m:=by omega
    subst this
    by_cases e2:i=j - 1
    · subst e2;exact c
    · exact O.tr _ _ _ (g.below hm) (g.below (by omega)) (g.below (by omega)) c (h i (j - 1) (by omega) (by omega))
variable (O:Ord lt n) (hc:∀ i j,i < n→j < n → ∀ C:Bool→Shared→Prop,C (lt i j) s→cmp i j C s)
include O hc
theorem mT {p:Array Nat}(g:Gd n p){Q:Nat→Shared→Prop}(q:∀ m,1≤m→m≤n→Srt lt p m→(m < n→lt (p.getD m 0) (p.getD (m - 1) 0)=true)→Q m s) :
    ∀ (f m:Nat),1≤m→m + f=n→Srt lt p m→(kas_asc p f m).kasWp cmp Q s
  | 0,m,h1,e,h=>q m h1 (by omega) h fun z=>by omega
  | f + 1,m,h1,e,h=>by
    refine hc _ _ (g.below (by omega)) (g.below (by omega)) _ ?_
    cases c:lt (p.getD m 0) (p.getD (m - 1) 0) with
    | true=>((try dsimp only);(try rw [if_pos rfl]));exact q m h1 (by omega) h fun _=>c
    | false =>
      ((try dsimp only);(try rw [if_neg Bool.false_ne_true]))
      have c':=O.tot _ _ (g.below (by omega)) (g.below (by omega)) (g.ne (i:=m) (j:=m - 1) (by omega) (by omega) (by omega)) c
      exact mT g q f (m + 1) (by omega) (by omega) (h.next O g h1 (by omega) c')
theorem qk {p:Array Nat}(g:Gd n p){Q:Array Nat × Nat × Nat→Shared→Prop}(q:∀ m,1≤m→m≤n→Dsc lt p m→Q (p,m,0) s) :
    ∀ (f m:Nat),1≤m→m + f=n→Dsc lt p m→(kas_desc f p m 0).kasWp cmp Q s
  | 0,m,h1,e,h=>q m h1 (by omega) h
  | f + 1,m,h1,e,h=>by
    refine hc _ _ (g.below (by omega)) (g.below (by omega)) _ ?_
    cases c:lt (p.getD m 0) (p.getD (m - 1) 0) with
    | true =>
      ((try dsimp only);(try rw [if_pos rfl]));(try rw [if_neg (by omega)])
      exact qk g q f (m + 1) (by omega) (by omega) (h.next O g h1 (by omega) c)
    | false =>
      ((try dsimp only);(try rw [if_neg Bool.false_ne_true]))
      have c':=O.tot _ _ (g.below (by omega)) (g.below (by omega)) (g.ne (i:=m) (j:=m - 1) (by omega) (by omega) (by omega)) c
      refine hc _ _ (g.below (by omega)) (g.below (by omega)) _ ?_
      rw [c'];((try dsimp only);(try rw [if_pos rfl]))
      exact q m h1 (by omega) h
omit hc in
theorem Ov {p:Array Nat}(g:Gd n p){m:Nat}(hm:m≤n)(h:Dsc lt p m):Gd n (kas_rev p 0 m)∧Srt lt (kas_rev p 0 m) m:=by
  have at':∀ k,k < m→(kas_rev p 0 m).getD k 0=p.getD (m - 1 - k) 0:=fun k hk=>by
    have e:=getElem?_mirror_all (xs:=p) (i:=0) (j:=m) (by rw [g.sz];exact hm) k
    rw [if_pos ⟨Nat.zero_le _,hk⟩] at e
    unfold kas_rev
    rw [Array.getD_eq_getD_getElem?,Array.getD_eq_getD_getElem?,e,Nat.zero_add]
  refine⟨⟨by unfold kas_rev;rw [mirror_size,g.sz],(mirror_perm _ _ _ _).trans g.pm⟩,fun i j hij hj => ?_⟩
  rw [at' i (by omega),at' j hj]
  exact h _ _ (by omega) (by omega)
theorem ye (h2:2≤n){Q:Nat × Array Nat→Shared→Prop}(q:∀ m p,Gd n p→1≤m→m≤n→Srt lt p m→Q (m,p) s):(kas_count n (List.toArray (List.range n))).kasWp cmp Q s:=by
  unfold kas_count
  rw [KasT.kasWp_bind]
  refine mT O hc io (fun m h1 hm hs hd => ?_) (n - 1) 1 (Nat.le_refl _) (by omega) (fun i j hij hj=>by omega)
  by_cases e:m=n
  · subst e
    rw [if_pos (by simp)]
    exact q m _ io h1 (Nat.le_refl _) hs
  · rw [if_neg (by simpa using e)]
    by_cases e1:m > 1
    · rw [if_pos e1]
      refine hc _ _ (io.below (by omega)) (io.below (by omega)) _ ?_
      have:=hs 0 (m - 1) (by omega) (by omega)
      rw [this];((try dsimp only);(try rw [if_pos rfl]))
      exact q m _ io h1 hm hs
    · rw [if_neg e1]
      have:m=1:=by omega
      subst this
      have c:=hd (by omega)
      unfold kas_descPart
      rw [KasT.kasWp_bind]
      refine qk O hc io (fun m h1 hm hs => ?_) (n - 2) 2 (by omega) (by omega) (fun i j hij hj => ?_)
      · rw [if_neg (by simp)]
        unfold kas_tail3
        rw [KasT.kasWp_bind]
        obtain⟨g',s'⟩:=Ov O io hm hs
        exact mT O hc g' (fun m' h1' hm' hs' _=>q m' _ g' h1' hm' hs') (n - m) m h1 (by omega) s'
      · have hi:i=0:=by omega
        have hj:j=1:=by omega
        subst hi hj
        exact c
theorem jN {p:Array Nat}(g:Gd n p){k:Nat}(hk:k < n)(hs:Srt lt p k){Q:Nat→Shared→Prop}(q:∀ l,l≤k→(∀ i,i < l→lt (p.getD i 0) (p.getD k 0)=true)→(∀ i,l≤i→i < k→lt (p.getD k 0) (p.getD i 0)=true)→Q l s) :
    ∀ (f l r:Nat),r - l≤f→l≤r→r≤k→(∀ i,i < l→lt (p.getD i 0) (p.getD k 0)=true)→(∀ i,r≤i→i < k→lt (p.getD k 0) (p.getD i 0)=true)→(kas_place p k f l r).kasWp cmp Q s
  | 0,l,r,hf,hl,hr,a,b=>q l (Nat.le_trans hl hr) a fun i h1 h2=>b i (Nat.le_trans (Nat.le_of_sub_eq_zero (Nat.le_zero.mp hf)) h1) h2
  | f + 1,l,r,hf,hl,hr,a,b=>by
    unfold kas_place
    by_cases e:l ≥ r
    · rw [if_pos e]
      exact q l (Nat.le_trans hl hr) a fun i h1 h2=>b i (Nat.le_trans e h1) h2
    · rw [if_neg e]
      have lr:l < r:=Nat.not_le.mp e
      have hh:=Ou lr
      generalize (l + r) / 2=M at hh
      have hm:M < k:=Nat.lt_of_lt_of_le hh.2 hr
      have hMn:M < n:=Nat.lt_trans hm hk
      refine hc _ _ (g.below hk) (g.below hMn) _ ?_
      cases c:lt (p.getD k 0) (p.getD M 0) with
      | true =>
        ((try dsimp only);(try rw [if_pos rfl]))
        refine jN g hk hs q f l M (Nat.le_of_lt_succ (Nat.lt_of_lt_of_le (Nat.sub_lt_sub_right hh.1 hh.2) hf)) hh.1 (Nat.le_of_lt hm) a fun i h1 h2 => ?_
        by_cases z:i=M
        · subst z;exact c
        · exact O.tr _ _ _ (g.below hk) (g.below hMn) (g.below (Nat.lt_trans h2 hk)) c (hs _ i (Nat.lt_of_le_of_ne h1 (Ne.symm z)) h2)
      | false =>
        ((try dsimp only);(try rw [if_neg Bool.false_ne_true]))
        have c':=O.tot _ _ (g.below hk) (g.below hMn) (g.ne (i:=k) (j:=M) hk hMn (Nat.ne_of_gt hm)) c
        refine jN g hk hs q f (M + 1) r (Nat.le_of_lt_succ (Nat.lt_of_lt_of_le (Nat.sub_lt_sub_left lr (Nat.lt_succ_of_le hh.1)) hf)) hh.2 hr (fun i h1 => ?_) b
        by_cases z:i=M
        · subst z;exact c'
        · have hi:i < M:=Nat.lt_of_le_of_ne (Nat.le_of_lt_succ h1) z
          exact O.tr _ _ _ (g.below (Nat.lt_trans hi hMn)) (g.below hMn) (g.below hk) (hs i _ hi hm) c'
theorem sx {Q:Array Nat→Shared→Prop}(q:∀ p,Gd n p→Srt lt p n→Q p s):∀ (f:Nat) (p:Array Nat) (k:Nat),Gd n p→k + f=n→Srt lt p k→(kas_bin f p k).kasWp cmp Q s
  | 0,p,k,g,e,h=>by
    have:k=n:=e
    subst this
    exact q p g h
  | f + 1,p,k,g,e,h=>by
    unfold kas_bin
    rw [KasT.kasWp_bind]
    have hk:k < n:=e ▸ Nat.lt_add_of_pos_right (Nat.succ_pos f)
    refine jN O hc g hk h (fun l hl a b => ?_) k 0 k (Nat.le_refl _) (Nat.zero_le _) (Nat.le_refl _) (fun i z=>absurd z (Nat.not_lt_zero _)) (fun i z z'=>absurd z' (Nat.not_lt.mpr z))
    have hks:k < p.size:=by rw [g.sz];exact hk
    have at':∀ i,(bubble p k (k - l)).getD i 0=if i=l then p.getD k 0 else if l < i∧i≤k then p.getD (i - 1) 0 else p.getD i 0:=fun i=>by
      have:=getElem?_bubble hks (k - l) (Nat.sub_le _ _) i
      rw [Nat.sub_sub_self hl] at this
      simp only [Array.getD_eq_getD_getElem?]
      rw [this]
      by_cases c1:i=l
      · rw [if_pos c1,if_pos c1]
      · rw [if_neg c1,if_neg c1]
        by_cases c2:l < i∧i≤k
        · rw [if_pos c2,if_pos c2]
        · rw [if_neg c2,if_neg c2]
    refine sx q f _ (k + 1) ⟨by rw [bubble_size,g.sz],(bubble_perm _ _ _).trans g.pm⟩ (by rw [Nat.add_right_comm];exact e) fun i j hij hj => ?_
    have jk:j≤k:=Nat.le_of_lt_succ hj
    have j1:j - 1 < k:=Nat.sub_one_lt_of_le (Nat.zero_lt_of_lt hij) jk
    rw [at' i,at' j]
    by_cases c1:i=l
    · have lj:l < j:=c1 ▸ hij
      rw [if_pos c1,if_neg (Nat.ne_of_gt lj),if_pos ⟨lj,jk⟩]
      exact b _ (Nat.le_sub_one_of_lt lj) j1
    · rw [if_neg c1]
      by_cases c2:l < i∧i≤k
      · have lj:l < j:=Nat.lt_trans c2.1 hij
        rw [if_pos c2,if_neg (Nat.ne_of_gt lj),if_pos ⟨lj,jk⟩]
        exact h _ _ (Nat.sub_lt_sub_right (Nat.zero_lt_of_lt c2.1) hij) j1
      · rw [if_neg c2]
        have il:i < l:=Nat.lt_of_le_of_ne (Nat.not_lt.mp fun z=>c2 ⟨z,Nat.le_trans (Nat.le_of_lt hij) jk⟩) c1
        by_cases c3:j=l
        · rw [if_pos c3];exact a _ il
        · rw [if_neg c3]
          by_cases c4:l < j∧j≤k
          · rw [if_pos c4]
            exact h _ _ (Nat.lt_of_lt_of_le il (Nat.le_sub_one_of_lt c4.1)) j1
          · rw [if_neg c4]
            have jl:j < l:=Nat.lt_of_le_of_ne (Nat.not_lt.mp fun z=>c4 ⟨z,jk⟩) c3
            exact h _ _ hij (Nat.lt_of_lt_of_le jl hl)
theorem At (h2:2≤n){Q:Array Nat→Shared→Prop}(q:∀ p,Gd n p→Srt lt p n→Q p s):(kas_sort n).kasWp cmp Q s:=by
  unfold kas_sort
  rw [KasT.kasWp_bind]
  refine ye O hc h2 fun m p g h1 hm hs => ?_
  by_cases e:m < n
  · rw [if_pos e]
    have:max m 1=m:=by omega
    show KasT.kasWp cmp (kas_bin (n - max m 1) p (max m 1)) Q s
    rw [this]
    exact sx O hc q (n - m) p m g (by omega) hs
  · rw [if_neg e]
    have:m=n:=by omega
    subst this
    exact q p g hs
end
end Fm
set_option linter.all false
namespace Fm
def yf (x:List Int):List (List Int)→List (List Int)
  | []=>[x]
  | y :: r=>if cP x y=true then x :: y :: r else y :: yf x r
def dr:List (List Int)→List (List Int)
  | []=>[]
  | x :: r=>yf x (dr r)
def gx (r:List Int):D:=.tup (r.map .int)
theorem nK:∀ a,cP a a=false
  | []=>rfl
  | x :: a=>by simp [cP,nK a]
theorem iJ:∀ {a b c},cP a b=true→cP b c=true→cP a c=true
  | [],[],_,h,_=>by simp [cP] at h
  | [],_ :: _,[],_,h=>by simp [cP] at h
  | [],_ :: _,_ :: _,_,_=>rfl
  | _ :: _,[],_,h,_=>by simp [cP] at h
  | _ :: _,_ :: _,[],_,h=>by simp [cP] at h
  | x :: a,y :: b,z :: c,h,h'=>by
    simp only [cP] at h h' ⊢
    by_cases e:x=y
    · subst e
      rw [if_pos rfl] at h
      by_cases e2:x=z
      · subst e2
        rw [if_pos rfl] at h' ⊢
        exact iJ h h'
      · rw [if_neg e2] at h' ⊢;exact h'
    · rw [if_neg e] at h
      by_cases e2:y=z
      · subst e2
        rw [if_neg e];exact h
      · rw [if_neg e2] at h'
        simp at h h'
        rw [if_neg (by omega)]
        simp;omega
theorem oO:∀ {a b},a≠b→cP a b=false→cP b a=true
  | [],[],h,_=>absurd rfl h
  | [],_ :: _,_,h=>by simp [cP] at h
  | _ :: _,[],_,_=>rfl
  | x :: a,y :: b,h,h'=>by
    simp only [cP] at h' ⊢
    by_cases e:x=y
    · subst e
      rw [if_pos rfl] at h' ⊢
      exact oO (fun z=>h (by rw [z])) h'
    · rw [if_neg e] at h'
      rw [if_neg (Ne.symm e)]
      simp at h' ⊢;omega
theorem qo {a b:List Int}(h:cP a b=true):cP b a=false:=by
  cases c:cP b a with
  | false=>rfl
  | true=>have:=iJ h c;rw [nK] at this;cases this
theorem oP (x:List Int):∀ r,(yf x r).Perm (x :: r)
  | []=>.refl _
  | y :: r=>by
    simp only [yf]
    split
    · exact .refl _
    · exact ((oP x r).cons y).trans (.swap x y r)
theorem iZ:∀ r,(dr r).Perm r
  | []=>.refl _
  | x :: r=>(oP x _).trans ((iZ r).cons x)
theorem sy {x:List Int}:∀ {r:List (List Int)},x∉r→r.Pairwise (fun a b=>cP a b=true)→(yf x r).Pairwise (fun a b=>cP a b=true)
  | [],_,_=>by simp [yf]
  | y :: r,hx,h=>by
    simp only [yf]
    have hy : ¬ x=y:=fun z=>hx (by simp [z])
    have hr:x∉r:=fun z=>hx (by simp [z])
    obtain⟨h1,h2⟩:=List.pairwise_cons.mp h
    split
    · rename_i c
      refine List.pairwise_cons.mpr ⟨fun b hb => ?_,h⟩
      rcases List.mem_cons.mp hb with rfl|hb
      · exact c
      · exact iJ c (h1 b hb)
    · rename_i c
      have c':=oO hy (by simpa using c)
      refine List.pairwise_cons.mpr ⟨fun b hb => ?_,sy hr h2⟩
      rcases List.mem_cons.mp ((oP x r).mem_iff.mp hb) with rfl|hb
      · exact c'
      · exact h1 b hb
theorem kO:∀ {r:List (List Int)},r.Nodup→(dr r).Pairwise (fun a b=>cP a b=true)
  | [],_=>.nil
  | x :: r,h=>by
    obtain⟨h1,h2⟩:=List.nodup_cons.mp h
    exact sy (fun z=>h1 ((iZ r).mem_iff.mp z)) (kO h2)
theorem FQ {a b:List (List Int)}(p:a.Perm b)(ha:a.Pairwise (fun a b=>cP a b=true))(hb:b.Pairwise (fun a b=>cP a b=true)):a=b :=
  List.Perm.eq_of_pairwise (fun x y _ _ h h'=>by have:=qo h;rw [h'] at this;cases this) ha hb p
theorem qp (r:List (List Int)):qM (r.map gx)=some r:=by
  have hi:∀ l:List Int,gJ (l.map .int)=some l:=fun l=>by
    induction l with
    | nil=>rfl
    | cons x l ih=>simp [gJ,ih]
  induction r with
  | nil=>rfl
  | cons x r ih=>simp [qM,gx,hi] at ih ⊢;simp [ih]
end Fm
set_option Elab.async false
set_option linter.all false
set_option maxRecDepth 100000
namespace Fm
open PySem PySem.Spec L2 PySem.W PyProof.Rows
section
variable {X:Cx} {pos p:Pos}
theorem cV.rds {K:PySem.W.Frag}{ρ:List Addr}{H:Hp}:∀ {vs:List V} {rs:List (List Int)},cV H vs rs→RDs K ρ H (rs.map gx) vs
  | _,_,.nil=>RDs.nil
  | _,_,.cons (a:=a) (r:=r) h t=>by
    refine RDs.cons ?_ (cV.rds t)
    unfold gx
    simp only [RD]
    refine⟨a,_,rfl,h,?_⟩
    clear h
    induction r with
    | nil=>exact RDs.nil
    | cons x r ih=>exact RDs.cons (by simp only [RD]) ih
theorem cV.pick {H:Hp}{vs:List V}{rs:List (List Int)}(h:cV H vs rs):∀ (l:List Nat),(∀ i∈l,i < vs.length)→cV H (l.map fun i=>vs.getD i .non) (l.map fun i=>rs.getD i [])
  | [],_=>.nil
  | i :: l,hl=>by
    have hi:i < vs.length:=hl i (by simp)
    obtain⟨a,e,ha⟩:=h.get (i:=i) (v:=vs[i]) (by simp [hi])
    have t:=cV.pick h l fun j hj=>hl j (by simp [hj])
    have:vs.getD i .non=.ref a:=by simp [List.getD,hi,e]
    simp only [List.map_cons,this]
    exact .cons ha t
theorem bg.pick {vs:List V}{us:List Value}(h:bg vs us):∀ (l:List Nat),(∀ i∈l,i < vs.length)→bg (l.map fun i=>vs.getD i .non) (l.map fun i=>us.getD i Value.none)
  | [],_=>.nil
  | i :: l,hl=>by
    have hi:i < vs.length:=hl i (by simp)
    obtain⟨u,e,ru⟩:=h.get (i:=i) (x:=vs[i]) (by simp [hi])
    have t:=bg.pick h l fun j hj=>hl j (by simp [hj])
    simp only [List.map_cons]
    refine .cons ?_ t
    simp [List.getD,hi,e]
    exact ru
end
end Fm
set_option Elab.async false
set_option linter.all false
set_option maxRecDepth 100000
namespace Fm
open PySem PySem.Spec L2 PySem.W PyProof.Rows
section
variable {X:Cx} {pos p:Pos}
theorem RDs.rep {K:PySem.W.Frag}{ρ:List Addr}{H:Hp}{l:List D}{vs:List V}(r:RDs K ρ H l vs):∀ k,RDs K ρ H (List.replicate k l).flatten (List.replicate k vs).flatten
  | 0=>RDs.nil
  | k + 1=>by
    rw [List.replicate_succ,List.replicate_succ,List.flatten_cons,List.flatten_cons]
    exact RDs.append r (RDs.rep r k)
end
end Fm
set_option Elab.async false
set_option linter.all false
set_option maxRecDepth 100000
namespace L2
open PySem PySem.Spec PyProof.Rows
section
variable {κ : Type} [DecidableEq κ]
def kE (kvs:List (κ × V)) (k : κ):Option V:=(kvs.find? fun kv=>decide (kv.1=k)).map (·.2)
def mV (kvs:List (κ × V)) (k : κ) (v:V):List (κ × V) :=
  if (kvs.any fun kv=>decide (kv.1=k))=true then kvs.map (fun kv=>if kv.1=k then (kv.1,v) else kv) else kvs++[(k,v)]
theorem sA {p : κ × V}{r:List (κ × V)}{k : κ}(e:p.1=k):kE (p :: r) k=some p.2:=by simp [kE,List.find?_cons,e]
theorem nM {p : κ × V}{r:List (κ × V)}{k : κ}(e : ¬ p.1=k):kE (p :: r) k=kE r k:=by simp [kE,List.find?_cons,e]
theorem Au (k : κ):∀ kvs:List (κ × V),(kvs.any fun kv=>decide (kv.1=k))=(kE kvs k).isSome
  | []=>rfl
  | p :: r=>by
    rw [List.any_cons]
    by_cases e:p.1=k
    · simp only [sA e,decide_eq_true e,Bool.true_or,Option.isSome_some]
    · rw [nM e,decide_eq_false e,Bool.false_or];exact Au k r
theorem qq (kvs:List (κ × V))(k : κ)(v:V):(mV kvs k v).length≤kvs.length + 1:=by
  unfold mV
  split
  · rw [List.length_map];omega
  · rw [List.length_append,List.length_cons,List.length_nil];omega
theorem Fx.isSome_eq {o:Option V}{u:Option Value}(r:Fx o u):o.isSome=u.isSome:=by
  cases o with
  | none=>cases u with
    | none=>rfl
    | some _=>exact (show False from r).elim
  | some _=>cases u with
    | none=>exact (show False from r).elim
    | some _=>rfl
theorem KV.val {kvs:List (κ × V)}{vs:List (κ × Value)}(r:KV kvs vs)(k : κ):Fx (kE kvs k) (valueAt vs k):=by
  unfold KV at r
  induction r with
  | nil=>exact True.intro
  | @cons p q ps qs h t ih =>
    obtain⟨h1,h2⟩:=h
    by_cases e:p.1=k
    · have e':q.1=k:=h1.symm.trans e
      have b:valueAt (q :: qs) k=some q.2:=by simp [valueAt,List.find?_cons,e']
      rw [sA e,b];exact h2
    · have e' : ¬ q.1=k:=fun z=>e (h1.trans z)
      have b:valueAt (q :: qs) k=valueAt qs k:=by simp [valueAt,List.find?_cons,e']
      rw [nM e,b];exact ih
theorem KV.any {kvs:List (κ × V)}{vs:List (κ × Value)}(r:KV kvs vs)(k : κ):(kvs.any fun kv=>decide (kv.1=k))=vs.any fun kv=>decide (kv.1=k):=by
  unfold KV at r
  induction r with
  | nil=>rfl
  | cons h t ih=>rw [List.any_cons,List.any_cons,ih,h.1]
theorem KV.repl {kvs:List (κ × V)}{vs:List (κ × Value)}(r:KV kvs vs)(k : κ){y:V}{u:Value}(ry:bT y u) :
    KV (kvs.map fun kv=>if kv.1=k then (kv.1,y) else kv) (vs.map fun kv=>if kv.1=k then (kv.1,u) else kv):=by
  unfold KV at r ⊢
  induction r with
  | nil=>exact .nil
  | @cons p q ps qs h t ih =>
    rw [List.map_cons,List.map_cons]
    refine .cons ?_ ih
    obtain⟨h1,h2⟩:=h
    by_cases e:p.1=k
    · rw [if_pos e,if_pos (h1.symm.trans e)];exact⟨h1,ry⟩
    · rw [if_neg e,if_neg (fun z=>e (h1.trans z))];exact⟨h1,h2⟩
theorem KV.put {kvs:List (κ × V)}{vs:List (κ × Value)}(r:KV kvs vs)(k : κ){y:V}{u:Value}(ry:bT y u):KV (mV kvs k y) (stored vs k u):=by
  unfold mV stored
  rw [r.any k]
  by_cases e:(vs.any fun kv=>decide (kv.1=k))=true
  · rw [if_pos e,if_pos e];exact r.repl k ry
  · rw [if_neg e,if_neg e];exact Paired.snoc r ⟨rfl,ry⟩
theorem KV.length {kvs:List (κ × V)}{vs:List (κ × Value)}(r:KV kvs vs):kvs.length=vs.length:=Paired.length r
end
theorem IA {P:Program}{w:World}{k:Key}{u:Value}(r:bT (kV k) u):(dl P w).is k u=true:=by
  cases k with
  | inl i=>obtain⟨t,e⟩:=(show ∃ t,u=Value.int i t from r);subst e;exact Ad P w i t
  | inr x=>obtain⟨t,e⟩:=(show ∃ t,u=Value.str x t from r);subst e;exact Ae P w x t
theorem wV {P:Program}{w:World}:∀ {ks:List Key} {us:List Value},bg (ks.map kV) us→ItemsAre (dl P w) ks us
  | [],_,r=>by rw [List.map_nil] at r;cases r;exact .nil
  | k :: ks,_,r=>by
    rw [List.map_cons] at r
    cases r with
    | cons h t=>exact .cons (IA h) (wV t)
abbrev KT (H:Hp):List (List Key × V)→List (List Key × Addr × Value)→Prop:=Paired fun p q=>p.1=q.1∧H q.2.1=some (.tup (p.1.map kV))∧bT p.2 q.2.2
theorem KT.val {H:Hp}{kvs:List (List Key × V)}{xs:List (List Key × Addr × Value)}(r:KT H kvs xs)(k:List Key):Fx (kE kvs k) ((atKey xs k).map (·.2)):=by
  induction r with
  | nil=>exact True.intro
  | @cons p q ps qs h t ih =>
    obtain⟨h1,_,h2⟩:=h
    by_cases e:p.1=k
    · have e':q.1=k:=h1.symm.trans e
      have b:atKey (q :: qs) k=some q.2:=by simp [atKey,List.find?_cons,e']
      rw [sA e,b];exact h2
    · have e' : ¬ q.1=k:=fun z=>e (h1.trans z)
      have b:atKey (q :: qs) k=atKey qs k:=by simp [atKey,List.find?_cons,e']
      rw [nM e,b];exact ih
theorem KT.repl {H:Hp}{kvs:List (List Key × V)}{xs:List (List Key × Addr × Value)}(r:KT H kvs xs)(k:List Key){y:V}{u:Value}(ry:bT y u) :
    KT H (kvs.map fun kv=>if kv.1=k then (kv.1,y) else kv) (xs.map (putAt k u)):=by
  induction r with
  | nil=>exact .nil
  | @cons p q ps qs h t ih =>
    rw [List.map_cons,List.map_cons]
    refine .cons ?_ ih
    obtain⟨h1,h2,h3⟩:=h
    unfold putAt
    by_cases e:p.1=k
    · rw [if_pos e,if_pos (h1.symm.trans e)];exact⟨h1,h2,ry⟩
    · rw [if_neg e,if_neg (fun z=>e (h1.trans z))];exact⟨h1,h2,h3⟩
theorem KT.put {H:Hp}{kvs:List (List Key × V)}{xs:List (List Key × Addr × Value)}(r:KT H kvs xs)(k:List Key){b:Addr}{y:V}{u:Value}(hb:H b=some (.tup (k.map kV)))(ry:bT y u) :
    KT H (mV kvs k y) (storedH xs k b u):=by
  have e:(kvs.any fun kv=>decide (kv.1=k))=(atKey xs k).isSome:=by
    rw [Au,(r.val k).isSome_eq,Option.isSome_map]
  unfold mV storedH
  rw [e]
  by_cases q:(atKey xs k).isSome=true
  · rw [if_pos q,if_pos q];exact r.repl k ry
  · rw [if_neg q,if_neg q];exact Paired.snoc r ⟨rfl,hb,ry⟩
theorem KT.keeps {H H':Hp}{kvs:List (List Key × V)}{xs:List (List Key × Addr × Value)}(r:KT H kvs xs)(ht:∀ b ys,H b=some (.tup ys)→H' b=some (.tup ys)):KT H' kvs xs :=
  Paired.mapP r fun _ _ z=>⟨z.1,ht _ _ z.2.1,z.2.2⟩
section
variable {P:Program} {w:World} {H:Hp} {h:Heap} {a:Addr}
theorem Nc {u:HO}(ok:HOk P w H h)(e:Rd H a u):d7 P w H h a u:=e.ok ok
theorem IB {kvs:List (Key × V)}(ok:HOk P w H h)(e:Rd H a (.dK kvs)):kvs.length≤sizeLine∧(a == sysModules)=false ∧ ∃ vs,KV kvs vs∧h.DictOf (dl P w) a vs :=
  show d7 P w H h a (.dK kvs) from Nc ok e
theorem IC {kvs:List (Key × V)}(ok:HOk P w H h)(e:H a=some (.dK kvs)):kvs.length≤sizeLine∧(a == sysModules)=false ∧ ∃ vs,KV kvs vs∧h.DictOf (dl P w) a vs:=IB ok (.inl e)
theorem Cw {ks:List Key}(ok:HOk P w H h)(e:H a=some (.tup (ks.map kV))):(tupleKind (dl P w)).is h ks a:=by
  obtain⟨_,its,r,o,h1,h2,n,h3⟩:=(show d7 P w H h a (.tup (ks.map kV)) from ok a _ e)
  exact⟨o,its.toArray,n,h1,h2,h3,by simpa using wV r⟩
theorem ID {kvs:List (List Key × V)}(ok:HOk P w H h)(e:Rd H a (.dT kvs)):kvs.length≤sizeLine∧(a == sysModules)=false ∧
    ∃ xs,KT H kvs xs∧h.DictOfH (tupleKind (dl P w)) a xs:=by
  obtain⟨z,y,xs,r,o,es,ep,h1,h2,h3,h4,h5⟩:=(show d7 P w H h a (.dT kvs) from Nc ok e)
  refine⟨z,y,xs,r,o,es,ep,h1,h2,h3,h4,fun x hx => ?_,h5⟩
  have all:∀ {l:List (List Key × V)} {m:List (List Key × Addr × Value)},KT H l m → ∀ x∈m,(tupleKind (dl P w)).is h x.1 x.2.1:=by
    intro l m q
    induction q with
    | nil=>intro x hx;exact nomatch hx
    | @cons p q ps qs hq t ih =>
      intro x hx
      rcases List.mem_cons.mp hx with e|hx
      · subst e
        exact Cw ok (by rw [← hq.1];exact hq.2.1)
      · exact ih x hx
  exact all r x hx
theorem Qe {kvs:List (List Key × V)}(ok:HOk P w H h)(e:H a=some (.dT kvs)):kvs.length≤sizeLine∧(a == sysModules)=false ∧
    ∃ xs,KT H kvs xs∧h.DictOfH (tupleKind (dl P w)) a xs:=ID ok (.inl e)
end
def IE (H:Hp) (a:Addr) (y:V) (r:Option V):Prop :=
  (∃ kvs k,Rd H a (.dK kvs)∧y=kV k∧r=kE kvs k) ∨ ∃ kvs k b,Rd H a (.dT kvs)∧y=.ref b∧H b=some (.tup (k.map kV))∧r=kE kvs k
def IG (H:Hp) (a:Addr) (y v:V) (H':Hp):Prop :=
  (∃ kvs k,H a=some (.dK kvs)∧y=kV k∧kvs.length < sizeLine∧H'=upd H a (.dK (mV kvs k v))) ∨
  ∃ kvs k b,H a=some (.dT kvs)∧y=.ref b∧H b=some (.tup (k.map kV))∧kvs.length < sizeLine∧H'=upd H a (.dT (mV kvs k v))
theorem IE.k {H:Hp}{a:Addr}{kvs:List (Key × V)}{k:Key}(e:H a=some (.dK kvs)):IE H a (kV k) (kE kvs k):=.inl ⟨kvs,k,.inl e,rfl,rfl⟩
theorem IG.k {H:Hp}{a:Addr}{kvs:List (Key × V)}{k:Key}{v:V}(e:H a=some (.dK kvs))(hl:kvs.length < sizeLine):IG H a (kV k) v (upd H a (.dK (mV kvs k v))):=.inl ⟨kvs,k,e,rfl,hl,rfl⟩
section
variable {X:Cx} {pins:List (Addr × Obj)} {σ:St} {H:Hp} {s:Shared} {a:Addr} {y v:V} {u r:Value} {o:Option V} {A:Around} {E:Value→Shared→Prop}
theorem Inv.big (I:Inv X pins σ H s):sysModules < s.heap.objs.size:=by
  have h:mainGlobals < s.heap.objs.size:=(I.mod.glob.keeps I.bk).lt
  exact Nat.lt_trans (by decide) h
theorem Ra {Q:Value→Shared→Prop}(hu:A.units + 1 < cLine)(I:Inv X pins σ H s)(g:IE H a y o)(ry:bT y u)(h:∀ s',Inv X pins σ H s'→Q (.bool o.isSome) s') :
    wpAny (model X.prog X.w) A (compareOp .In u (.ref a)) Q E s:=by
  rcases g with ⟨kvs,k,e,ey,l⟩|⟨kvs,k,b,e,ey,eb,l⟩
  · subst ey
    obtain⟨z,hd,vs,rel,dd⟩:=IB I.hok e
    refine wpAny_in_of (IA ry) hd dd.mapOf ?_
    rw [← (rel.val k).isSome_eq,← l]
    exact h _ (I.tok _)
  · subst ey
    cases (show u=Value.ref b from ry)
    obtain⟨z,hd,xs,rel,dd⟩:=ID I.hok e
    refine wpAny_in_heap (tupleKind_room_in1 hu) (Cw I.hok eb) hd dd ?_
    have q:=(rel.val k).isSome_eq
    rw [Option.isSome_map] at q
    rw [← q,← l]
    exact h _ (I.tok _)
theorem EO {h':Heap}{t':Nat}{ob:HO}(I:Inv X pins σ H s)(mu:Mut (H a))(hs:Heap.SameBut a s.heap h')(he:∃ q,h'.get? a=some q)(new:d7 X.prog X.w (upd H a ob) h' a ob) :
    Inv X pins σ (upd H a ob) { s with heap:=h',toks:=t' } :=
  I.write (x:=a) (e:=a) mu (.inl rfl) (fun b q hb z=>(hs.2 b hb).trans z) he new
theorem Ow {P:Program}{w:World}{H':Hp}{h':Heap}{kvs:List (Key × V)}{vs:List (Key × Value)}(z:kvs.length≤sizeLine)(hd:(a == sysModules)=false)(rel:KV kvs vs)(dd:h'.DictOf (dl P w) a vs) :
    d7 P w H' h' a (.dK kvs):=⟨z,hd,vs,rel,dd⟩
theorem FR {H':Hp}{Q:Unit→Shared→Prop}(hu:A.units + 1 < cLine)(I:Inv X pins σ H s)(g:IG H a y v H')(ry:bT y u)(rv:bT v r)(h:∀ s',Inv X pins σ H' s'→Q () s') :
    wpAny (model X.prog X.w) A (setItem (.ref a) u r) Q E s:=by
  rcases g with ⟨kvs,k,e,ey,l,eH⟩|⟨kvs,k,b,e,ey,eb,l,eH⟩
  · subst ey eH
    obtain⟨z,hd,vs,rel,dd⟩:=IC I.hok e
    have hz:vs.length≤sizeLine:=by rw [← rel.length];exact z
    have hl:(mV kvs k v).length≤sizeLine:=by have:=qq kvs k v;omega
    refine wpAny_setItem_pairs (hsz:=hz) (IA ry) dd fun h' dd' hs=>h _ ?_
    have he:∃ q,h'.get? a=some q:=let ⟨q,_,_,hq,_⟩:=dd';⟨q,hq⟩
    exact EO I (by rw [e];exact True.intro) hs he (Ow hl hd (rel.put k rv) dd')
  · subst ey eH
    cases (show u=Value.ref b from ry)
    obtain⟨z,hd,xs,rel,dd⟩:=Qe I.hok e
    have hz:xs.length≤sizeLine:=by rw [← Paired.length rel];exact z
    have hl:(mV kvs k v).length≤sizeLine:=by have:=qq kvs k v;omega
    refine wpAny_setItem_heap (hsz:=hz) (tupleKind_room_in1 hu) (Cw I.hok eb) dd fun h' dd' hs=>h _ ?_
    obtain⟨q,es,ep,hq,h2,h3,h4,_,h5⟩:=dd'
    refine EO I (by rw [e];exact True.intro) hs ⟨q,hq⟩ ⟨hl,hd,_,(rel.put k eb rv).keeps fun c ys ec => ?_,q,es,ep,hq,h2,h3,h4,h5⟩
    rw [aF (MZ ec e (fun z=>nomatch z))]
    exact ec
end
section
variable {X:Cx} {pins:List (Addr × Obj)} {σ:St} {H:Hp} {s:Shared} {a:Addr} {kvs:List (Key × V)} {k:Key} {u:Value} {A:Around} {E:Value→Shared→Prop}
end
section
variable {X:Cx} {o i e value:Expr} {pos pos' tpos:Pos} {td ty tv:TE}
end
theorem IH {P:Program} {w:World} {H:Hp} (h:Heap) (hb:sysModules < h.objs.size):d7 P w H (h.push { cls:=.type "dict",data:=.dict #[] }) h.objs.size (.dK []) :=
  ⟨Nat.zero_le _,beq_eq_false_iff_ne.mpr (Ne.symm (Nat.ne_of_lt hb)),[],.nil,Heap.DictOf.new h⟩
def Ox:TE:=fun _ H Q=>∀ p,H p=none→Q (.ref p) (upd H p (.dK []))
section
variable {X:Cx} {pos:Pos}
theorem II:PE X (.Dict [] [] pos) Ox:=fun pins s σ H Q I h =>
  wpAny_Dict_empty ⟨.ref s.heap.objs.size,_,I.laid (a:=s.heap.objs.size) (o:=.dK []) (t':=s.toks) (fun _ _ q=>Heap.get?_push_of_some _ q) (Nat.le_refl _) (IH s.heap I.big),rfl,h _ (I.hok.fresh (Nat.le_refl _))⟩
end
structure M1 (X:Cx) (o:Expr) (m:Str) (apos:Pos) (e:Expr) (cpos:Pos):Prop where
  base:attributeBase o m X.env (eval o X.env)=eval o X.env
  few:((backTo cpos (starEach [e] X.env)).all (fun x => !x.1) && (backToKw cpos (keywordEach [] X.env)).all (fun x=>x.1.isSome)
    && decide (([e] : List Expr).length + ([] : List Keyword).length + (if ([] : List Keyword).isEmpty then 0 else 1) < 30))=true
  line:(apos.endLine == cpos.line)=true
  trees:backTo cpos (starEach [e] X.env)=[(false,eval e X.env)]
structure M2 (X:Cx) (o:Expr) (m:Str) (apos:Pos) (e f:Expr) (cpos:Pos):Prop where
  base:attributeBase o m X.env (eval o X.env)=eval o X.env
  few:((backTo cpos (starEach [e,f] X.env)).all (fun x => !x.1) && (backToKw cpos (keywordEach [] X.env)).all (fun x=>x.1.isSome)
    && decide (([e,f] : List Expr).length + ([] : List Keyword).length + (if ([] : List Keyword).isEmpty then 0 else 1) < 30))=true
  line:(apos.endLine == cpos.line)=true
  trees:backTo cpos (starEach [e,f] X.env)=[(false,eval e X.env),(false,eval f X.env)]
def IsD (H:Hp) (a:Addr):Prop:=(∃ kvs,Rd H a (.dK kvs)) ∨ ∃ kvs,Rd H a (.dT kvs)
theorem Oy {X:Cx}{pins:List (Addr × Obj)}{σ:St}{H:Hp}{s:Shared}{a:Addr}(I:Inv X pins σ H s)(d:IsD H a) :
    s.TypeIs (.ref a) "dict" ∧ (∀ b,Value.ref a=.ref b → ∃ ob,s.heap.get? b=some ob∧ob.dict=none)∧(a == sysModules)=false:=by
  rcases d with ⟨kvs,e⟩|⟨kvs,e⟩
  · obtain⟨_,hd,vs,_,dd⟩:=IB I.hok e
    refine⟨dd.typeIs,fun b q => ?_,hd⟩
    cases q
    obtain⟨ob,_,_,h1,h2,_⟩:=dd
    exact⟨ob,h1,h2.2.1⟩
  · obtain⟨_,hd,xs,_,dd⟩:=ID I.hok e
    refine⟨dd.typeIs,fun b q => ?_,hd⟩
    cases q
    obtain⟨ob,_,_,h1,h2,_⟩:=dd
    exact⟨ob,h1,h2.2.1⟩
section
variable {X:Cx} {pins:List (Addr × Obj)} {σ:St} {H:Hp} {s:Shared} {a:Addr} {y d:V} {u r:Value} {o:Option V} {A:Around} {E:Value→Shared→Prop}
end
section
variable {X:Cx} {o e f:Expr} {apos cpos:Pos} {td ty tx:TE}
end
section
variable {X:Cx} {pins:List (Addr × Obj)} {σ:St} {H:Hp} {s:Shared} {a:Addr} {kvs:List (Key × V)} {A:Around} {E:Value→Shared→Prop}
end
section
variable {X:Cx} {pins:List (Addr × Obj)} {σ:St} {H:Hp} {s:Shared} {a:Addr} {y:V} {u:Value} {A:Around} {E:Value→Shared→Prop}
end
end L2
set_option linter.all false
namespace Fm
@[simp] def wW:EF:=fun _ h=>.ok (.ref h.length) (h++[.dct []])
def sB (l:List (Int × D)) (k:Int):Option D:=(l.find? fun p=>decide (p.1=k)).map (·.2)
def Cy (l:List (Int × D)) (k:Int) (v:D):List (Int × D):=if (l.any fun p=>decide (p.1=k))=true then l.map (fun p=>if p.1=k then (p.1,v) else p) else l++[(k,v)]
@[simp] def FS:O2:=fun x y h=>match x,y with
  | .int k,.ref n=>match h[n]? with|some (.dct l)=>.ok (.bl (sB l k).isSome) h|_=>.bad
  | _,_=>.bad
@[simp] def sC (x i e:EF):SF:=fun σ h=>outE (e σ h) σ fun d h=>outE (x σ h) σ fun p h=>outE (i σ h) σ fun j h=>match p,j with
  | .ref n,.int k=>match h[n]? with
    | some (.dct l)=>if l.length < SZ then .nx σ (h.set n (.dct (Cy l k d))) else .bad
    | _=>.bad
  | _,_=>.bad
def fF:List (Int × D)→Option (List (List Int))
  | []=>some []
  | (k,.int v) :: r=>(fF r).map fun l=>[k,v] :: l
  | _=>none
@[simp] def mW (a:EF):LF:=fun σ h=>(a σ h).bind fun x h=>match x with
  | .ref n=>match h[n]? with
    | some (.dct l)=>match fF l with
      | some r=>if r.length < 64∧r.Nodup then .ok ((dr r).map gx) h else .bad
      | none=>.bad
    | _=>.bad
  | _=>.bad
end Fm
set_option Elab.async false
set_option linter.all false
set_option maxRecDepth 100000
namespace Fm
open PySem PySem.Spec L2 PySem.W PyProof.Rows
section
variable {K:PySem.W.Frag} {ρ:List Addr} {H:Hp} {hd:Hd}
theorem RH.allocD (r:RH K ρ H hd){p:Addr}{l:List (Int × D)}(hp:RC K ρ H (.dct l) p)(hn:p ∉ ρ):RH K (ρ ++ [p]) H (hd++[.dct l]):=by
  have k:Kp ρ H (ρ ++ [p]) H:=⟨fun n a e=>by rw [List.getElem?_append_left (List.getElem?_eq_some_iff.mp e).1];exact e,fun _ _ h=>h,fun _ _ _ h=>h,fun _ _ h=>h⟩
  refine⟨by simp [r.len],?_,fun n c a h1 h2 => ?_⟩
  · rw [List.nodup_append]
    exact⟨r.nd,by simp,fun a ha b hb=>by simp at hb;subst hb;intro e;subst e;exact hn ha⟩
  · by_cases hlt:n < hd.length
    · rw [List.getElem?_append_left hlt] at h1
      rw [List.getElem?_append_left (by rw [r.len];exact hlt)] at h2
      exact (r.cel n c a h1 h2).mono k rfl
    · have e1:n=hd.length:=by
        have:=(List.getElem?_eq_some_iff.mp h1).1
        simp at this
        omega
      subst e1
      simp at h1
      subst h1
      rw [← r.len] at h2
      simp at h2
      subst h2
      obtain⟨kvs,q1,q2,q3⟩:=hp
      exact⟨kvs,q1,q2,q3.mono k⟩
theorem RH.writeD (r:RH K ρ H hd){n:Nat}{p:Addr}{l:List (Int × D)}{kvs:List (Key × V)}(hp : ρ[n]? = some p)(hn:n < hd.length)(h1:kvs.map (·.1)=l.map (fun p=>(Sum.inl p.1:Key)))(h2:RDs K ρ H (l.map (·.2)) (kvs.map (·.2))):RH K ρ (upd H p (.dK kvs)) (hd.set n (.dct l)):=by
  have k:Kp ρ H ρ (upd H p (.dK kvs)):=by
    have hm:=List.mem_of_getElem? hp
    refine⟨fun _ _ h=>h,fun a us e => ?_,fun a o u e => ?_,fun a φ e => ?_⟩
    · rw [aF (fun z=>r.noTup e (by rw [z];exact hm))];exact e
    · rw [aF (fun z=>r.noFrz e (by rw [z];exact hm))];exact e
    · rw [aF (fun z=>r.noExt e (by rw [z];exact hm))];exact e
  refine⟨by simp [r.len],r.nd,fun m c a q1 q2 => ?_⟩
  by_cases e:n=m
  · subst e
    rw [List.getElem?_set_self hn] at q1
    cases q1
    rw [hp] at q2
    cases q2
    exact⟨kvs,bh,h1,h2.mono k⟩
  · rw [List.getElem?_set_ne e] at q1
    have ne:a≠p:=fun z=>by
      subst z
      exact e (se r.nd hp q2)
    exact (r.cel m c a q1 q2).mono k (aF ne)
theorem Av (k:Int):∀ {l:List (Int × D)} {kvs:List (Key × V)},kvs.map (·.1)=l.map (fun p=>(Sum.inl p.1:Key))→RDs K ρ H (l.map (·.2)) (kvs.map (·.2)) →
    (sB l k=none∧kE kvs (Sum.inl k)=none) ∨ ∃ d v,sB l k=some d∧kE kvs (Sum.inl k)=some v∧RD K ρ H d v
  | [],[],_,_=>.inl ⟨rfl,rfl⟩
  | [],_ :: _,h,_=>by simp at h
  | _ :: _,[],h,_=>by simp at h
  | (j,d) :: l,(kk,v) :: kvs,h1,h2=>by
    simp only [List.map_cons,List.cons.injEq] at h1
    simp only [List.map_cons,RDs] at h2
    obtain⟨v',r',e,q1,q2⟩:=h2
    cases e
    obtain⟨e1,e2⟩:=h1
    subst e1
    by_cases e:j=k
    · subst e
      exact .inr ⟨d,v,by simp [sB],by simp [kE],q1⟩
    · have ih:=Av k e2 q2
      have a1:sB ((j,d) :: l) k=sB l k:=by simp [sB,e]
      have a2:kE ((Sum.inl j,v) :: kvs) (Sum.inl k)=kE kvs (Sum.inl k):=nM (fun z=>e (by cases z;rfl))
      rw [a1,a2]
      exact ih
theorem Aw (k:Int):∀ {l:List (Int × D)} {kvs:List (Key × V)},kvs.map (·.1)=l.map (fun p=>(Sum.inl p.1:Key))→(kvs.any fun kv=>decide (kv.1=(Sum.inl k:Key)))=l.any fun p=>decide (p.1=k)
  | [],[],_=>rfl
  | [],_ :: _,h=>by simp at h
  | _ :: _,[],h=>by simp at h
  | (j,d) :: l,(kk,v) :: kvs,h1=>by
    simp only [List.map_cons,List.cons.injEq] at h1
    obtain⟨e1,e2⟩:=h1
    subst e1
    simp [Aw k e2]
theorem Ax (k:Int){d0:D}{v0:V}(hv:RD K ρ H d0 v0):∀ {l:List (Int × D)} {kvs:List (Key × V)},kvs.map (·.1)=l.map (fun p=>(Sum.inl p.1:Key))→RDs K ρ H (l.map (·.2)) (kvs.map (·.2)) →
    (kvs.map fun kv=>if kv.1=(Sum.inl k:Key) then (kv.1,v0) else kv).map (·.1)=(l.map fun p=>if p.1=k then (p.1,d0) else p).map (fun p=>(Sum.inl p.1:Key))∧RDs K ρ H ((l.map fun p=>if p.1=k then (p.1,d0) else p).map (·.2)) ((kvs.map fun kv=>if kv.1=(Sum.inl k:Key) then (kv.1,v0) else kv).map (·.2))
  | [],[],_,_=>⟨rfl,RDs.nil⟩
  | [],_ :: _,h,_=>by simp at h
  | _ :: _,[],h,_=>by simp at h
  | (j,d) :: l,(kk,v) :: kvs,h1,h2=>by
    simp only [List.map_cons,List.cons.injEq] at h1
    simp only [List.map_cons,RDs] at h2
    obtain⟨v',r',e,q1,q2⟩:=h2
    cases e
    obtain⟨e1,e2⟩:=h1
    subst e1
    obtain⟨i1,i2⟩:=Ax k hv e2 q2
    by_cases e:j=k
    · subst e
      simp only [List.map_cons,if_true]
      exact⟨by rw [i1],RDs.cons hv i2⟩
    · have e' : ¬ (Sum.inl j:Key)=Sum.inl k:=fun z=>e (by cases z;rfl)
      simp only [List.map_cons,if_neg e,if_neg e']
      exact⟨by rw [i1],RDs.cons q1 i2⟩
theorem IJ (k:Int){d0:D}{v0:V}(hv:RD K ρ H d0 v0){l:List (Int × D)}{kvs:List (Key × V)}(h1:kvs.map (·.1)=l.map (fun p=>(Sum.inl p.1:Key)))(h2:RDs K ρ H (l.map (·.2)) (kvs.map (·.2))) :
    (mV kvs (Sum.inl k) v0).map (·.1)=(Cy l k d0).map (fun p=>(Sum.inl p.1:Key))∧RDs K ρ H ((Cy l k d0).map (·.2)) ((mV kvs (Sum.inl k) v0).map (·.2)):=by
  unfold mV Cy
  rw [Aw k h1]
  split
  · exact Ax k hv h1 h2
  · refine⟨by simp [h1],?_⟩
    rw [List.map_append,List.map_append]
    exact RDs.append h2 (RDs.cons hv RDs.nil)
end
section
variable {X:Cx} {pos p:Pos}
theorem LG:ME X (.Dict [] [] pos) wW:=by
  refine PE.imp II fun σ H Q ⟨ρ,σd,hd,rs,pp⟩=>fun q hq => ?_
  have sm:=cu (o:=HO.dK []) hq
  have hn:=rs.hp.free hq
  have rh:=(rs.hp.same sm).allocD (p:=q) (l:=[]) ⟨[],bh,rfl,RDs.nil⟩ hn
  have ex:Ext ρ H (ρ ++ [q]) (upd H q (.dK [])):=Ext.alloc hq
  refine bR.at (R:=rD X.K) (a:=.ref hd.length) pp ex (rs.ext ex rh) ?_
  simp only [rD,RD]
  refine⟨q,?_,rfl⟩
  rw [← rs.hp.len]
  simp
def Qf (K:PySem.W.Frag):R2:=fun x y H Q=>∃ a o,y=.ref a∧IE H a x o∧Q (.bl o.isSome) H
theorem Oz (hu:X.A.units + 1 < cLine):OpR X (compareOp .In) (Qf X.K):=by
  intro pins s σ H x y v u Q I rx ry h
  obtain⟨a,o,rfl,g,q⟩:=h
  obtain rfl:u=Value.ref a:=ry
  exact Ra hu I g rx fun s3 I3=>⟨.bl o.isSome,H,I3,rfl,q⟩
theorem OA {K:PySem.W.Frag}:Og K FS (Qf K):=by
  intro ρ H σd hd σ d k v w Q rs rv rw' pp
  cases d<;>try exact pp.elim
  cases k<;>try exact pp.elim
  rename_i i n
  simp only [FS] at pp
  simp only [RD] at rv rw'
  subst rv
  obtain⟨a,ha,rfl⟩:=rw'
  cases c:hd[n]? with
  | none=>rw [c] at pp;exact pp.elim
  | some cell =>
    rw [c] at pp
    cases cell with
    | lst l=>exact pp.elim
    | dct l =>
      simp only at pp
      obtain⟨kvs,q1,q2,q3⟩:=rs.hp.cel n _ a c ha
      refine⟨a,kE kvs (Sum.inl i),rfl,IE.k (k:=Sum.inl i) q1,?_⟩
      have e:(kE kvs (Sum.inl i)).isSome=(sB l i).isSome:=by
        rcases Av i q2 q3 with ⟨e1,e2⟩|⟨d,v,e1,e2,_⟩<;>rw [e1,e2]<;>rfl
      rw [e]
      exact pp.here rs (by simp only [rD,RD])
def Qg:V→V→V→Hp→(Hp→Prop)→Prop:=fun o i v H Q=>∃ a H',o=.ref a∧IG H a i v H'∧Q H'
theorem IK (hu:X.A.units + 1 < cLine):NL X Qg:=by
  intro pins s σ H o i v ov iv u Q I ro ri rv h
  obtain⟨a,H',rfl,g,q⟩:=h
  obtain rfl:ov=Value.ref a:=ro
  exact FR hu I g ri rv fun s' I'=>⟨H',I',q⟩
theorem EQ {o i e:Expr}{fo fi fe:EF}{p2:Pos}(hu:X.A.units + 1 < cLine)(he:ME X e fe)(ho:ME X o fo)(hi:ME X i fi)(hs:swapsWithSole [.Subscript o i p2] e pos.line X.env=pure false:=by rfl)(hw:swappedStores [.Subscript o i p2] e X.env=pure none:=by rfl)
    (h1:(assignEach [.Subscript o i p2] X.env).map (·.2)=[assign (.Subscript o i p2) X.env]:=by rfl) (ha:∀ v,assign (.Subscript o i p2) X.env v=(do
      let ov ← holding [v] (eval o X.env)
      let iv ← holding [v,ov] (eval i X.env)
      standAt p2
      holding [v,ov,iv] (setItem ov iv v)
      release [v,ov,iv] []):=by intro _;rfl):MS X (.Assign [.Subscript o i p2] e pos) (sC fo fi fe):=by
  refine PS.imp (Ce he (HS ho hi (IK hu) ha) hs hw h1) fun En σ H ⟨ρ,σd,hd,rs,p⟩=>⟨ρ,σd,hd,rs,(bZ.outE p).imp fun v H1 ⟨ρ1,d,hd1,e1,rs1,rv,p1⟩ => ?_⟩
  refine⟨ρ1,σd,hd1,rs1,(bZ.outE p1).imp fun vo H2 ⟨ρ2,dO,hd2,e2,rs2,ro,p2⟩ => ?_⟩
  refine⟨ρ2,σd,hd2,rs2,(bZ.outE p2).imp fun vi H3 ⟨ρ3,di,hd3,e3,rs3,ri,p3⟩ => ?_⟩
  have rv3:=(rv.mono (rs1.hp.kp e2)).mono (rs2.hp.kp e3)
  have ro3:=ro.mono (rs2.hp.kp e3)
  cases dO with
  | ref n =>
    cases di with
    | int j =>
      simp only at p3
      cases c:hd3[n]? with
      | none=>rw [c] at p3;exact p3.elim
      | some cell =>
        rw [c] at p3
        cases cell with
        | lst l=>exact p3.elim
        | dct l =>
          simp only at p3
          split at p3
          · rename_i hz
            simp only [RD] at ro3 ri
            subst ri
            obtain⟨a,ha,rfl⟩:=ro3
            obtain⟨kvs,q1,q2,q3⟩:=rs3.hp.cel n _ a c ha
            have hl:kvs.length=l.length:=by have:=congrArg List.length q2;simpa using this
            refine⟨a,_,rfl,IG.k (k:=Sum.inl j) q1 (by rw [hl];exact Nat.lt_of_lt_of_le hz (by rw [sizeLine_eq];decide)),?_⟩
            have hn:n < hd3.length:=(List.getElem?_eq_some_iff.mp c).1
            obtain⟨u1,u2⟩:=IJ j rv3 q2 q3
            have rh:=rs3.hp.writeD ha hn u1 u2
            have ex:Ext ρ3 H3 ρ3 (upd H3 a (.dK (mV kvs (Sum.inl j) v))):=Ext.write (List.mem_of_getElem? ha)
            exact p3 σ _ ρ3 ex (rs3.ext ex rh)
          · exact p3.elim
    | _=>exact p3.elim
  | _=>exact p3.elim
end
end Fm
set_option Elab.async false
set_option linter.all false
set_option maxRecDepth 100000
namespace Fm
open PySem PySem.Spec L2 PySem.W PyProof.Rows
section
variable {X:Cx} {pos p:Pos}
theorem wX {P:Program}{w:World}{H:Hp}{h h':Heap}(hok:HOk P w H h)(hk:∀ b o xs,H b=some (.tup xs)→h.get? b=some o→h'.get? b=some o):∀ {vs:List V} {rs:List (List Int)} {its:List Value},cV H vs rs→bg vs its→(rs.all fun x => !x.isEmpty)=true →
    ∃ fs,KatTups h' its fs∧fs.length=its.length ∧ ∀ v∈fs,∃ i t,v=Value.int i t
  | _,_,_,.nil,.nil,_=>⟨[],.nil,rfl,fun v hv=>by simp at hv⟩
  | _,_,_,.cons (a:=a) (r:=r) ha t,.cons rv rt,hne=>by
    simp only [List.all_cons,Bool.and_eq_true,Bool.not_eq_true'] at hne
    obtain⟨fs,h1,h2,h3⟩:=wX hok hk t rt hne.2
    obtain⟨z,its0,r0,o,ho,hc,n,hd⟩:=hok a _ ha
    cases r with
    | nil=>simp at hne
    | cons i r =>
      cases r0 with
      | cons q0 qr =>
        rename_i u us
        obtain⟨tk,rfl⟩:=EN q0
        cases rv
        refine⟨.int i tk :: fs,KatTups.cons (hk a o _ ha ho) hc hd (by simp) h1,by simp [h2],fun v hv => ?_⟩
        rcases List.mem_cons.mp hv with rfl|hv
        · exact⟨i,tk,rfl⟩
        · exact h3 v hv
theorem OB {pins:List (Addr × Obj)}{σ:L2.St}{H:Hp}{s:Shared}{B:Addr}{vs:List V}{rs:List (List Int)}{A:Around}{E:Value→Shared→Prop}{Q:Value→Shared→Prop}(I:Inv X pins σ H s)(hB:H B=some (.lst vs))(h64:vs.length < 64)(rv:cV H vs rs)(nd:rs.Nodup)(hne:(rs.all fun x => !x.isEmpty)=true)
    (q:∀ vs' s',cV H vs' (dr rs)→Inv X pins σ (upd H B (.lst vs')) s'→Q .none s'):wpAny (model X.prog X.w) A (call (.builtin "list.sort") [.ref B]) Q E s:=by
  obtain⟨hz,its,n0,rvs,ho⟩:=I.hok B _ hB
  have hlen:its.length=vs.length:=rvs.length.symm
  obtain⟨m,hm,_⟩:=id I.loc
  have nL:∀ b u,H b=some u→b≠X.env.locals:=fun b u e z=>by rw [z,I.free] at e;cases e
  have BL:=nL B _ hB
  have selfUpd:∀ vs',vs'=vs→upd H B (.lst vs')=H:=fun vs' e=>by
    subst e
    funext b
    by_cases z:b=B
    · subst z;rw [bh,hB]
    · rw [aF z]
  have after:∀ (h2:Heap) (its':List Value) (vs':List V) (c t':Nat),cV H vs' (dr rs)→bg vs' its'→vs'.length≤sizeLine→h2.get? B=some (PySem.W.listOf its'.toArray c)→(∀ b o,b≠X.env.locals→b≠B→s.heap.get? b=some o→h2.get? b=some o)→h2.Ns X.env.locals m→Inv X pins σ (upd H B (.lst vs')) { s with heap:=h2,toks:=t' }:=fun h2 its' vs' c t' rv' rvs' hz' hB2 keep2 ns2=>by
    have I2:L2.Inv X pins σ (upd H B (.lst vs')) { s with heap:=h2,gens:=s.gens,drawn:=s.drawn,toks:=t' }:=by
      refine I.step (g':=s.gens) (d':=s.drawn) (t':=t') (ch:=[]) (fun _ z=>nomatch z) (fun b o hb _ _ e n=>keep2 b o hb (fun z=>by subst z;rw [hB] at n;cases n) e) (fun b o hb _ _ e n=>⟨o.slots,keep2 b o hb (fun z=>by subst z;rw [hB] at n;cases n) e⟩) (fun b o _ e n=>by rw [aF (fun z=>by subst z;rw [hB] at n;cases n)];exact n) (fun b o _ e => ?_)
        (fun b ys e=>by rw [aF (fun z=>by subst z;rw [hB] at e;cases e)];exact e) (fun b o u e=>by rw [aF (fun z=>by subst z;rw [hB] at e;cases e)];exact e) (fun b ps e=>⟨#[],by rw [aF (fun z=>by subst z;rw [hB] at e;cases e),e];simp⟩) (fun m' hm'=>by rw [Iz hm' hm];exact ns2) (fun b u e => ?_) I.bare
      · by_cases hb:b=X.env.locals
        · obtain⟨o',_,_,ho',_⟩:=ns2
          rw [hb];exact⟨o',ho'⟩
        · by_cases hb2:b=B
          · subst hb2;exact⟨_,hB2⟩
          · exact⟨o,keep2 b o hb hb2 e⟩
      · by_cases hb:b=B
        · subst hb
          rw [bh] at e
          cases e
          exact⟨hz',its',c,rvs',hB2⟩
        · rw [aF hb] at e
          refine (I.hok b u e).stay (fun c v hc z => ?_) (fun c z=>by rw [aF (fun y=>by subst y;rw [hB] at z;cases z)];exact z) fun c ys z=>by rw [aF (fun y=>by subst y;rw [hB] at z;cases z)];exact z
          rcases hc with w|w
          · subst w;exact keep2 c v (nL c _ e) hb z
          · exact keep2 c v (nL c _ w) (fun y=>by subst y;rw [hB] at w;cases w) z
    exact I2
  by_cases h2:its.length < 2
  · have hs:dr rs=rs:=by
      have:rs.length < 2:=by rw [← rv.length];omega
      match rs,this with
      | [],_=>rfl
      | [_],_=>rfl
    have ha:B < s.heap.objs.size:=Heap.lt_size ho
    have ho':s.heap.get? B=some (seqObj "list" its.toArray n0):=ho
    refine wpAny_call_entry slot_list_sort ⟨_,ho,rfl⟩ entry_list_sort (Cv ho' h2 ⟨_,rfl,?_⟩) (args_list_sort _)
    obtain⟨e1,ho1⟩ : ∃ e1,(s.heap.update B (Obj.mapSeq fun _ => #[])).get? B=some (seqObj "list" #[] e1):=⟨_,get?_update_seq ho' (fun _ => #[])⟩
    have ho6:(((s.heap.update B (Obj.mapSeq fun _ => #[])).push (seqObj "tuple" its.toArray 0)).push (seqObj "list" #[] 0)).get? B=some (seqObj "list" #[] e1):=by
      rw [Heap.get?_push_ne _ _ _ (by rw [size_push',Heap.size_update];exact Nat.ne_of_lt (Nat.lt_succ_of_lt ha)),Heap.get?_push_ne _ _ _ (by rw [Heap.size_update];exact Nat.ne_of_lt ha)]
      exact ho1
    have keepS:∀ b o,b≠B→s.heap.get? b=some o→(sortedHeap s.heap B its its.toArray).get? b=some o:=fun b o hb e=>by
      have hlt:b < s.heap.objs.size:=Heap.lt_size e
      unfold sortedHeap
      rw [Heap.get?_update_ne _ _ _ _ hb,Heap.get?_push_ne _ _ _ (by rw [size_push',Heap.size_update];exact Nat.ne_of_lt (Nat.lt_succ_of_lt hlt)),Heap.get?_push_ne _ _ _ (by rw [Heap.size_update];exact Nat.ne_of_lt hlt),Heap.get?_update_ne _ _ _ _ hb]
      exact e
    have ns2:(sortedHeap s.heap B its its.toArray).Ns X.env.locals m:=by
      obtain⟨o',es,ep,h1,r⟩:=hm
      exact⟨o',es,ep,keepS _ _ (Ne.symm BL) h1,r⟩
    refine q vs _ (by rw [hs];exact rv) (after _ its vs _ s.toks (by rw [hs];exact rv) rvs hz (get?_update_seq ho6 _) (fun b o _ hb e=>keepS b o hb e) ns2)
  · have N0:News (Att.noObjs s.heap) X.env.locals s.heap ((B,PySem.W.listOf its.toArray n0) :: Att.ledger s.heap X.env.locals B):=fun ⟨b,o⟩ hb=>by
      rcases List.mem_cons.mp hb with e|hb
      · cases e
        exact⟨ho,BL,Att.noObjs_get _ _⟩
      · obtain⟨n1,n2,e⟩:=Att.mem_ledger.mp hb
        exact⟨e,n1,Att.noObjs_get _ _⟩
    have hDn:∀ q∈Att.ledger s.heap X.env.locals B,q.1≠B:=fun ⟨b,o⟩ hq=>(Att.mem_ledger.mp hq).2.1
    refine kat_lsort (vs:=its) (Att.fr_all hm) N0 (UpdF.head hDn) (by simp) (by omega) (by omega) fun e1 h' F' N' => ?_
    have inN:∀ b o,b≠X.env.locals→b≠B→s.heap.get? b=some o→(b,o)∈Att.ledger s.heap X.env.locals B:=fun b o hb hb2 e=>Att.mem_ledger.mpr ⟨hb,hb2,e⟩
    have keep':∀ b o,b≠X.env.locals→b≠B→s.heap.get? b=some o→h'.get? b=some o:=fun b o hb hb2 e=>(N' (b,o) (List.mem_cons_of_mem _ (inN b o hb hb2 e))).1
    obtain⟨fs,t1,t2,t3⟩:=wX I.hok (h':=h') (fun b o xs hb e=>keep' b o (nL b _ hb) (fun z=>by subst z;rw [hB] at hb;cases hb) e) rv rvs hne
    refine kat_kind (s:={ s with heap:=h' }) (T:=.type "int") t1 (by omega) (fun v hv => ?_) rfl ?_
    · obtain⟨i,t,rfl⟩:=t3 v hv
      exact Looks.of_pure rfl
    · have hT:(Value.type "int" != Value.type "tuple")=true:=by decide
      rw [hT]
      have hrl:rs.length=its.length:=by rw [← rv.length,hlen]
      have dif:∀ i j,i < its.length→j < its.length→i≠j→rs.getD i []≠rs.getD j []:=fun i j hi hj hij z=>by
        have e1:rs.getD i [] = rs[i]'(by omega):=by simp [List.getD,show i < rs.length by omega]
        have e2:rs.getD j [] = rs[j]'(by omega):=by simp [List.getD,show j < rs.length by omega]
        rw [e1,e2] at z
        exact hij ((List.getElem_inj nd).mp z)
      have O:Ord (fun i j=>Fm.cP (rs.getD i []) (rs.getD j [])) its.length:=⟨fun i j _ _ h=>qo h,fun i j k _ _ _ h h'=>iJ h h',fun i j hi hj hij h=>oO (dif i j hi hj hij) h⟩
      refine At O (fun i j hi hj C hC => ?_) (by omega) fun pp g srt => ?_
      · unfold kas_ask
        have at':∀ i,i < its.length → ∃ b,its.getD i Value.none=.ref b ∧ ∃ (o:Obj) (zs:List Value) (n:Nat),h'.get? b=some o∧o.data=.seq zs.toArray n∧IntsAre zs (rs.getD i []):=fun i hi=>by
          have hv:vs[i]? = some (vs[i]'(by omega)):=by simp [show i < vs.length by omega]
          obtain⟨b,e1,e2⟩:=rv.get hv
          obtain⟨u,hu,ru⟩:=rvs.get hv
          rw [e1] at ru
          cases (show u=Value.ref b from ru)
          obtain⟨z,zs,r0,o,ho,hc,n,hd⟩:=I.hok b _ e2
          exact⟨b,by simp [List.getD,hu],o,zs,n,keep' b o (nL b _ e2) (fun z=>by subst z;rw [hB] at e2;cases e2) ho,hd,Cl r0⟩
        obtain⟨b1,x1,o1,z1,n1,y1,d1,i1⟩:=at' i hi
        obtain⟨b2,x2,o2,z2,n2,y2,d2,i2⟩:=at' j hj
        rw [x1,x2]
        refine kat_lt (s:={ s with heap:=h' }) y1 d1 y2 d2 ?_
        have:=Ot (prog:=X.prog) (w:=X.w) (A:=A.in1) (s:={ s with heap:=h' }) (Q:=C) (rs.getD i []) (rs.getD j []) 0 i1 i2 hC
        simpa using this
      · have pmL:pp.toList.Perm (List.range its.length):=by simpa using Array.perm_iff_toList_perm.mp g.pm
        have inR:∀ i∈pp.toList,i < vs.length:=fun i hi=>by
          have:=pmL.mem_iff.mp hi
          rw [← hlen];simpa using this
        obtain⟨vs',hvs'⟩ : ∃ vs',vs'=pp.toList.map fun i=>vs.getD i .non:=⟨_,rfl⟩
        obtain⟨its',hits'⟩ : ∃ its',its'=pp.toList.map fun i=>its.getD i Value.none:=⟨_,rfl⟩
        have rv':cV H vs' (dr rs):=by
          have e:(pp.toList.map fun i=>rs.getD i [])=dr rs:=by
            refine FQ (?_:List.Perm _ _) ?_ (kO nd)
            · refine ((pmL.map fun i=>rs.getD i []).trans ?_).trans (iZ rs).symm
              have:((List.range its.length).map fun i=>rs.getD i [])=rs:=by
                apply List.ext_getElem?
                intro i
                by_cases hi:i < rs.length
                · have:i < its.length:=by omega
                  simp [List.getD,hi,this]
                · have : ¬ i < its.length:=by omega
                  simp [hi,this]
              rw [this]
            · rw [List.pairwise_map]
              rw [List.pairwise_iff_getElem]
              intro i j hi hj hij
              have s1:=srt i j hij (by rw [← g.sz];simpa using hj)
              have g1:pp.getD i 0=pp.toList[i]:=by simp [Array.getD,show i < pp.size by simpa using hi]
              have g2:pp.getD j 0=pp.toList[j]:=by simp [Array.getD,show j < pp.size by simpa using hj]
              rw [g1,g2] at s1
              exact s1
          have:=rv.pick pp.toList inR
          rw [e,← hvs'] at this
          exact this
        have rvs':bg vs' its':=by rw [hvs',hits'];exact bg.pick rvs pp.toList inR
        have hz':vs'.length≤sizeLine:=by
          have l1:vs'.length=its.length:=by rw [hvs',List.length_map,pmL.length_eq,List.length_range]
          rw [l1,hlen];exact hz
        rw [← hits']
        refine KasFin.intro F' N' (UpdF.head hDn) fun h2 c F2 N2 => ?_
        have hD2:h2.get? B=some (PySem.W.listOf its'.toArray c):=(N2 (B,_) (List.mem_cons_self ..)).1
        have keep2:∀ b o,b≠X.env.locals→b≠B→s.heap.get? b=some o→h2.get? b=some o:=fun b o hb hb2 e=>(N2 (b,o) (List.mem_cons_of_mem _ (inN b o hb hb2 e))).1
        exact q vs' _ rv' (after h2 its' vs' c s.toks rv' rvs' hz' hD2 keep2 F2.ns)
end
end Fm
set_option Elab.async false
set_option linter.all false
set_option maxRecDepth 100000
namespace Fm
open PySem PySem.Spec L2 PySem.W PyProof.Rows
section
variable {X:Cx} {pos p:Pos}
def yg (p d:Addr):Heap→Prop:=fun h=>h.get? p=some { cls:=.type "dict_items",data:=.fields #[.ref d] }
def OC (td:TE):TE:=fun σ H Q=>td σ H fun x H1=>∃ a kvs,x=.ref a∧H1 a=some (.dK kvs) ∧ ∀ p,H1 p=none→Q (.ref p) (upd H1 p (.ext (yg p a)))
theorem IL {o:Expr} {td:TE} {apos cpos:Pos} (ho:PE X o td) (hbase:attributeBase o "items" X.env (eval o X.env)=eval o X.env:=by rfl) (hline:(apos.endLine == cpos.line)=true:=by rfl) :
    PE X (.Call (.Attribute o "items" apos) [] [] cpos) (OC td):=by
  intro pins s σ H Q I h
  refine wpAny_Call_method0_late hbase hline (thn (ho pins s σ H _ I h) fun v s1 ⟨x,H1,I1,r1,a,kvs,ex,e,q1⟩ => ?_)
  subst ex
  obtain rfl:v=Value.ref a:=r1
  obtain⟨t1,t2,hs⟩:=Oy I1 (.inl ⟨kvs,.inl e⟩)
  obtain⟨_,hd,vs,_,dd⟩:=IC I1.hok e
  refine⟨"dict", "dict.items",PySem.F.plainAttrs_dict,PySem.F.slot_dict_items,PySem.F.type_dict_items,t1,t2,Calls.callWith_builtin rfl (PySem.evalArgs_none ?_)⟩
  refine call_meetsIn PySem.F.slot_dict_items t1 PySem.F.entry_dict_items (PySem.F.args_dict_items_1 _) (meets_dict_items (dl X.prog X.w) a hd) ⟨⟨vs,dd⟩,?_⟩
  refine⟨.ref s1.heap.objs.size,_,I1.laid (t':=s1.toks) (o:=.ext (yg s1.heap.objs.size a)) (fun b ob q=>Heap.get?_push_of_some _ q) (Nat.le_refl _) ⟨Heap.get?_push_size _ rfl,⟨_,Heap.get?_push_size _ rfl⟩,fun h1 h2 f k=>k _ f⟩,rfl,q1 _ (I1.hok.fresh (Nat.le_refl _))⟩
theorem IM {pins:List (Addr × Obj)}{σ:L2.St}{H H':Hp}{s:Shared}{h':Heap}{t':Nat}(I:Inv X pins σ H s)(keep:∀ b o,s.heap.get? b=some o→h'.get? b=some o)(sm:jh H H')(fresh:∀ b,b < s.heap.objs.size→H' b=H b)(new:∀ b u,s.heap.objs.size≤b→H' b=some u→d7 X.prog X.w H' h' b u ∧ ∀ c,u ≠ .own c):Inv X pins σ H' { s with heap:=h',toks:=t' }:=by
  have I2:L2.Inv X pins σ H' { s with heap:=h',gens:=s.gens,drawn:=s.drawn,toks:=t' }:=by
    refine I.step (g':=s.gens) (d':=s.drawn) (t':=t') (ch:=[]) (fun _ z=>nomatch z) (fun b o _ _ _ e _=>keep b o e) (fun b o _ _ _ e _=>⟨o.slots,keep b o e⟩) (fun b o _ e n=>by rw [fresh b (Heap.lt_size e)];exact n) (fun b o _ e=>⟨o,keep b o e⟩)
      (fun b ys e=>sm _ _ e) (fun b o u e=>sm _ _ e) (fun b ps e=>⟨#[],by rw [sm _ _ e];simp⟩) (fun m hm => ?_) (fun b u e => ?_) I.bare
    · obtain⟨o',es,ep,h1,r⟩:=hm
      exact⟨o',es,ep,keep _ _ h1,r⟩
    · by_cases hb:b < s.heap.objs.size
      · rw [fresh b hb] at e
        refine (I.hok b u e).stay (fun c v hc z=>keep c v z) (fun c z=>sm _ _ z) fun c ys z=>sm _ _ z
      · exact (new b u (Nat.le_of_not_lt hb) e).1
  exact I2
def ov:List Addr→List (List Int)→Hp→Hp
  | a :: as,r :: rs,H=>upd (ov as rs H) a (.tup (r.map V.int))
  | _,_,H=>H
theorem ER {b:Addr}{H:Hp}:∀ {as:List Addr} {rs:List (List Int)},b∉as→ov as rs H b=H b
  | [],_,_=>rfl
  | a :: as,[],_=>rfl
  | a :: as,r :: rs,h=>by
    have h1:b≠a:=fun z=>h (by simp [z])
    have h2:b∉as:=fun z=>h (by simp [z])
    show upd _ _ _ b=_
    rw [aF h1,ER h2]
theorem IN {H:Hp}:∀ {as:List Addr} {rs:List (List Int)} {j:Nat} {a:Addr} {r:List Int},as.Nodup→as[j]? = some a→rs[j]? = some r→ov as rs H a=some (.tup (r.map V.int))
  | [],_,_,_,_,_,e,_=>by simp at e
  | a :: as,[],_,_,_,_,_,e=>by simp at e
  | a :: as,r :: rs,0,_,_,_,e,e'=>by simp at e e';subst e e';exact bh
  | a :: as,r :: rs,j + 1,b,q,nd,e,e'=>by
    obtain⟨n1,n2⟩:=List.nodup_cons.mp nd
    have e:as[j]? = some b:=by simpa using e
    have hb:b≠a:=fun z=>n1 (by rw [← z];exact List.mem_of_getElem? e)
    show upd _ _ _ b=_
    rw [aF hb]
    exact IN n2 e (by simpa using e')
theorem cV.mono {H H':Hp}(k:∀ a xs,H a=some (.tup xs)→H' a=some (.tup xs)):∀ {vs:List V} {rs:List (List Int)},cV H vs rs→cV H' vs rs
  | _,_,.nil=>.nil
  | _,_,.cons h t=>.cons (k _ _ h) (cV.mono k t)
theorem ES {H':Hp}:∀ {as:List Addr} {rs:List (List Int)},as.length=rs.length→(∀ (j:Nat) a r,as[j]? = some a→rs[j]? = some r→H' a=some (.tup (r.map V.int)))→cV H' (as.map V.ref) rs
  | [],[],_,_=>.nil
  | [],_ :: _,h,_=>by simp at h
  | _ :: _,[],h,_=>by simp at h
  | a :: as,r :: rs,h,f=>.cons (f 0 a r rfl rfl) (ES (by simpa using h) fun j b q e e'=>f (j + 1) b q (by simpa using e) (by simpa using e'))
def OD:List V→Hp→VK→Prop:=fun xs H Q=>∃ (p a:Addr) (ps:List (Int × Int)),xs=[.ref p]∧H p=some (.ext (yg p a))∧H a=some (.dK (ps.map fun q=>((Sum.inl q.1:Key),V.int q.2)))∧ps.length < 64∧(ps.map fun q=>[q.1,q.2]).Nodup ∧
  ∀ H' q vs',jh H H'→H q=none→H' q=some (.lst vs')→cV H' vs' (dr (ps.map fun q=>[q.1,q.2]))→Q (.ref q) H'
theorem Qh {κ : Type}{kvs:List (κ × V)}{vs:List (κ × Value)}(r:KV kvs vs):∀ {j:Nat} {k : κ} {x:Value} {k' : κ} {v:V},vs[j]? = some (k,x)→kvs[j]? = some (k',v)→k'=k∧bT v x:=by
  induction r with
  | nil=>intro j k x k' v e;simp at e
  | cons h t ih =>
    intro j k x k' v e e'
    cases j with
    | zero=>simp at e e';subst e e';exact h
    | succ j=>exact ih (by simpa using e) (by simpa using e')
theorem Cz (hc:X.calm=true):ie X (.builtin "sorted") OD:=by
  intro pins s σ H xs us Q I r h
  obtain⟨p,a,ps,rfl,hp,ha,h64,nd,q⟩:=h
  obtain⟨u,rfl,ru⟩:=bg.one r
  cases (show u=Value.ref p from ru)
  obtain⟨rs,hrs⟩ : ∃ rs,rs=ps.map fun q=>[q.1,q.2]:=⟨_,rfl⟩
  rw [← hrs] at nd q
  have view:yg p a s.heap:=(I.hok p _ hp).1
  obtain⟨hz,_,vs,rel,dd⟩:=IC I.hok ha
  have lv:vs.length=ps.length:=by rw [← rel.length];simp
  obtain⟨o,es,ep,d1,d2⟩:=id dd
  have dat:s.heap.DictAt (dl X.prog X.w) a vs ep:=⟨o,es,d1,d2⟩
  refine Calls.call_function_entry kind_sorted plain_sorted entry_sorted (args_sorted1 _) ?_
  unfold Builtin.«sorted»
  refine wpAny_bind (m:=checkCount "sorted" 1 1 _) (wpAny_pure ?_)
  refine wpAny_bind (kdx_collect (A:=X.A.in1) (knd:=dl X.prog X.w) (kvs:=vs) (ep:=ep) (I.ok.hd hc) ⟨_,view,rfl,rfl⟩ dat (by rw [lv,sizeLine_eq];omega) fun h' tk as hk hl hG => ?_)
  have ndA:as.Nodup:=hG.rise.imp fun h=>Nat.ne_of_lt h
  have lr:as.length=rs.length:=by rw [hl,lv,hrs];simp
  have newA:∀ b∈as,s.heap.objs.size≤b:=fun b hb=>Nat.le_of_lt (hG.above b hb)
  have sm:jh H (ov as rs H):=fun b u e=>by
    rw [ER]
    · exact e
    · intro z
      exact absurd (I.hok.lt e) (Nat.not_lt.mpr (newA b z))
  have I1:Inv X pins σ (ov as rs H) { s with heap:=h',toks:=tk }:=by
    refine IM I hk sm (fun b hb=>ER fun z=>absurd hb (Nat.not_lt.mpr (newA b z))) fun b u hb e => ?_
    by_cases hm:b∈as
    · obtain⟨j,hj⟩:=List.getElem?_of_mem hm
      have hjl:j < as.length:=(List.getElem?_eq_some_iff.mp hj).1
      obtain⟨key,k,x,e1,e2,e3⟩:=hG.pairs j b hj
      obtain⟨pq,hpq⟩ : ∃ pq,ps[j]? = some pq:=⟨ps[j]'(by omega),by simp [show j < ps.length by omega]⟩
      have hr:rs[j]? = some [pq.1,pq.2]:=by rw [hrs,List.getElem?_map,hpq];rfl
      rw [IN ndA hj hr] at e
      cases e
      refine⟨?_,fun c z=>by cases z⟩
      obtain⟨hkk,rx⟩:=Qh rel e1 (show (ps.map fun q=>((Sum.inl q.1:Key),V.int q.2))[j]? = some (Sum.inl pq.1,V.int pq.2) by rw [List.getElem?_map,hpq];rfl)
      obtain⟨t,rfl⟩:=EN rx
      subst hkk
      have:∃ t',key=Value.int pq.1 t':=Value.isInt_shape e2
      obtain⟨t',rfl⟩:=this
      exact⟨by simp [sizeLine_eq],[_,_],.cons ⟨t',rfl⟩ (.cons ⟨t,rfl⟩ .nil),_,e3,rfl,_,rfl⟩
    · rw [ER hm] at e
      exact absurd (I.hok.lt e) (Nat.not_lt.mpr hb)
  refine wpAny_bind (wpAny_newList ?_ (by rw [List.length_map,hl,lv,sizeLine_eq];omega))
  have rvA:bg (as.map V.ref) (as.map Value.ref):=by
    clear hl hG ndA lr newA sm I1 q
    induction as with
    | nil=>exact .nil
    | cons a as ih=>exact .cons rfl ih
  have I2:Inv X pins σ (upd (ov as rs H) h'.objs.size (.lst (as.map V.ref))) { s with heap:=h'.push { cls:=.type "list",data:=.seq (as.map Value.ref).toArray },toks:=tk }:=I1.lnew (t':=tk) rvA (by rw [List.length_map,hl,lv,sizeLine_eq];omega)
  have fr:ov as rs H h'.objs.size=none:=I1.hok.fresh (Nat.le_refl _)
  have sm2:jh (ov as rs H) (upd (ov as rs H) h'.objs.size (.lst (as.map V.ref))):=cu fr
  have rowsA:cV (upd (ov as rs H) h'.objs.size (.lst (as.map V.ref))) (as.map V.ref) rs:=ES lr fun j b r e e'=>sm2 _ _ (IN ndA e e')
  have hne:(rs.all fun x => !x.isEmpty)=true:=by rw [hrs,List.all_map,List.all_eq_true];intro q _;rfl
  refine wpAny_bind (wpAny_holding (OB (A:=X.A.in1) I2 bh (by rw [List.length_map,hl,lv];exact h64) rowsA nd hne fun vs' s' rv' I3=>wpAny_pure ⟨_,rfl,?_⟩))
  have uu:upd (upd (ov as rs H) h'.objs.size (.lst (as.map V.ref))) h'.objs.size (.lst vs')=upd (ov as rs H) h'.objs.size (.lst vs'):=by
    funext b
    by_cases z:b=h'.objs.size
    · subst z;rw [bh,bh]
    · rw [aF z,aF z,aF z]
  rw [uu] at I3
  refine⟨.ref h'.objs.size,_,I3,rfl,q _ _ vs' (fun b u e=>cu fr _ _ (sm _ _ e)) ?_ bh ?_⟩
  · cases e:H h'.objs.size with
    | none=>rfl
    | some u=>rw [sm _ _ e] at fr;cases fr
  · refine rv'.mono fun b ys e => ?_
    have hb:b≠h'.objs.size:=fun z=>by subst z;rw [bh] at e;cases e
    rw [aF hb] at e ⊢
    exact e
theorem qt:∀ {l:List (Int × D)} {r:List (List Int)},fF l=some r → ∃ ps:List (Int × Int),l=ps.map (fun q=>(q.1,D.int q.2))∧r=ps.map fun q=>[q.1,q.2]
  | [],r,e=>by simp only [fF] at e;cases e;exact⟨[],rfl,rfl⟩
  | (k,d) :: l,r,e=>by
    cases d<;>simp only [fF] at e<;>try (cases e;done)
    rename_i v
    cases c:fF l with
    | none=>rw [c] at e;cases e
    | some r' =>
      rw [c] at e
      cases e
      obtain⟨ps,rfl,rfl⟩:=qt c
      exact⟨(k,v) :: ps,rfl,rfl⟩
theorem IO {K:PySem.W.Frag}{ρ:List Addr}{H:Hp}:∀ {ps:List (Int × Int)} {kvs:List (Key × V)},kvs.map (·.1)=(ps.map fun q=>(q.1,D.int q.2)).map (fun p=>(Sum.inl p.1:Key))→RDs K ρ H ((ps.map fun q=>(q.1,D.int q.2)).map (·.2)) (kvs.map (·.2))→kvs=ps.map fun q=>((Sum.inl q.1:Key),V.int q.2)
  | [],[],_,_=>rfl
  | [],_ :: _,h,_=>by simp at h
  | _ :: _,[],h,_=>by simp at h
  | (j,d) :: ps,(kk,v) :: kvs,h1,h2=>by
    simp only [List.map_cons,List.cons.injEq] at h1
    simp only [List.map_cons,RDs] at h2
    obtain⟨v',r',e,q1,q2⟩:=h2
    cases e
    obtain⟨e1,e2⟩:=h1
    subst e1
    simp only [RD] at q1
    subst q1
    rw [IO e2 q2]
    rfl
theorem IP {o:Expr} {fo:EF} {apos cpos:Pos} (hc:X.calm=true) (hg:Gl X "sorted") (hm:X.mg "sorted" = none) (ho:ME X o fo)
    (hs:starEach [.Call (.Attribute o "items" apos) [] [] cpos] X.env=(false,eval (.Call (.Attribute o "items" apos) [] [] cpos) X.env) :: starEach [] X.env:=by rfl)
    (hbase:attributeBase o "items" X.env (eval o X.env)=eval o X.env:=by rfl) (hline:(apos.endLine == cpos.line)=true:=by rfl) :
    MF X (.Call (.Name "sorted" p) [.Call (.Attribute o "items" apos) [] [] cpos] [] pos) (mW fo):=by
  refine PE.imp (ii (Cz hc) hg hm (by decide +kernel) (cr (IL ho hbase hline) eR hs) (he:=hs)) fun σ H Q ⟨ρ,σd,hd,rs,pp⟩=>⟨ρ,σd,hd,rs,?_⟩
  unfold mW at pp
  cases e:fo σd hd with
  | exc x h'=>rw [e] at pp;exact pp
  | bad=>rw [e] at pp;exact pp
  | ok d hd1 =>
    rw [e] at pp
    simp only [aH] at pp
    intro v H1 ρ1 e1 rs1 rv
    cases d<;>try exact pp.elim
    rename_i n
    simp only at pp
    simp only [rD,RD] at rv
    obtain⟨a,ha,rfl⟩:=rv
    cases c:hd1[n]? with
    | none=>rw [c] at pp;exact pp.elim
    | some cell =>
      rw [c] at pp
      cases cell with
      | lst l=>exact pp.elim
      | dct l =>
        simp only at pp
        cases c2:fF l with
        | none=>rw [c2] at pp;exact pp.elim
        | some r =>
          rw [c2] at pp
          simp only at pp
          split at pp
          · rename_i hz
            obtain⟨ps,rfl,rfl⟩:=qt c2
            obtain⟨kvs,q1,q2,q3⟩:=rs1.hp.cel n _ a c ha
            have hk:=IO q2 q3
            subst hk
            refine⟨a,_,rfl,q1,fun q hq=>⟨q,a,ps,rfl,bh,by rw [aF (bD q1 hq)];exact q1,by simpa using hz.1,hz.2,fun H' q' vs' sm hq' hl' rv' => ?_⟩⟩
            have sm1:jh H1 H':=fun b u eb=>sm _ _ (cu hq _ _ eb)
            have nq:q'≠q:=fun z=>by subst z;rw [bh] at hq';cases hq'
            rw [aF nq] at hq'
            have hn:=rs1.hp.free hq'
            exact pp q' vs' H' ρ1 (e1.trans (Ext.same sm1)) (rs1.same sm1) (e1.fresh hq' hn) hl' hn rv'.rds
          · exact pp.elim
end
end Fm
set_option linter.all false
namespace Fm
@[simp] def sD (la:LF) (b:EF):LF:=fun σ h=>(la σ h).bind fun l h=>(b σ h).bind fun y h=>match y with
  | .int n=>if 0≤n∧n≤1000∧l.length * n.toNat≤1000 then .ok (List.replicate n.toNat l).flatten h else .bad
  | _=>.bad
@[simp] def Rb (x i e:EF):EF:=fun σ h=>(x σ h).bind fun p h=>match p with
  | .ref n=>match h[n]? with
    | some (.lst _)=>(i σ h).bind fun j h=>(e σ h).bind fun d h=>match j with
      | .int k=>match h[n]? with
        | some (.lst l)=>if 0≤k∧k≤l.length∧l.length < SZ then .ok .non (h.set n (.lst (l.take k.toNat++[d]++l.drop k.toNat))) else .bad
        | _=>.bad
      | _=>.bad
    | _=>.bad
  | _=>.bad
@[simp] def uC (a b:EF):EF:=fun σ h=>(a σ h).bind fun x h=>(b σ h).bind fun y h=>match x,y with
  | .int i,.int j=>.ok (.int (if j > i then j else i)) h
  | _,_=>.bad
@[simp] def gK (a b:EF):LF:=fun σ h=>(a σ h).bind fun x h=>(b σ h).bind fun y h=>match x,y with
  | .ref n,.ref m=>match h[n]?,h[m]? with
    | some (.lst l),some (.lst k)=>if l.length + k.length≤SZ then .ok (l++k) h else .bad
    | _,_=>.bad
  | _,_=>.bad
@[simp] def eQ:O2:=fun x y h=>match x,y with
  | .tup xs,.tup ys=>if xs.length + ys.length≤SZ then .ok (.tup (xs++ys)) h else .bad
  | _,_=>.bad
end Fm
set_option Elab.async false
set_option linter.all false
set_option maxRecDepth 100000
namespace Fm
open PySem PySem.Spec L2 PySem.W PyProof.Rows
section
variable {X:Cx} {pos p:Pos}
theorem wY {K:PySem.W.Frag}{ρ:List Addr}{H:Hp}:∀ {l:List D} {vs:List V} {bs:List Bool},RDs K ρ H l vs→kI l=some bs→vs=bs.map V.bl
  | [],_,is,r,e=>by simp only [kI] at e;cases e;simp only [RDs] at r;subst r;rfl
  | d :: l,_,is,r,e=>by
    simp only [RDs] at r
    obtain⟨v,vs,rfl,h1,h2⟩:=r
    cases d<;>simp only [kI] at e<;>try (cases e;done)
    rename_i i
    cases c:kI l with
    | none=>rw [c] at e;cases e
    | some js =>
      rw [c] at e
      cases e
      simp only [RD] at h1
      rw [h1,wY h2 c]
      rfl
theorem IQ {bs:List Bool}{its:List Value}(r:bg (bs.map V.bl) its):∀ (i:Nat) (v:Value),its.toArray[i]? = some v→v=.bool (bs.getD i false):=by
  intro i v e
  have e':its[i]? = some v:=by simpa using e
  have hi:i < bs.length:=by
    have:=(List.getElem?_eq_some_iff.mp e').1
    have:=r.length
    simp at this
    omega
  obtain⟨u,hu,ru⟩:=r.get (i:=i) (x:=V.bl bs[i]) (by simp [hi])
  rw [hu] at e'
  cases e'
  rw [show v=Value.bool bs[i] from ru]
  simp [List.getD,hi]
theorem IR (bs:List Bool):(List.range bs.length).all (fun i=>bs.getD i false)=bs.all id:=by
  have:bs=(List.range bs.length).map fun i=>bs.getD i false:=by
    apply List.ext_getElem?
    intro i
    by_cases hi:i < bs.length<;>simp [List.getD,hi]
  conv=>rhs;rw [this]
  rw [List.all_map]
  rfl
theorem FT (hc:X.calm=true):ie X (.builtin "all") (fun xs H Q=>∃ (p:Addr) (bs:List Bool),xs=[.ref p]∧(SqL X.K H p (bs.map V.bl)∨SqT X.K H p (bs.map V.bl))∧Q (.bl (bs.all id)) H):=by
  intro pins s σ H xs us Q I r q
  obtain⟨p,bs,rfl,sq,q⟩:=q
  obtain⟨u,rfl,ru⟩:=bg.one r
  cases (show u=Value.ref p from ru)
  have hA:(X.A.in1).handled=none:=I.ok.hd hc
  have tr:∀ (its:List Value),bg (bs.map V.bl) its→TruthOf X.prog X.w X.A.in1 (fun i v=>its.toArray[i]? = some v) (fun i=>bs.getD i false):=fun its rv i v s Q E hP hQ=>by
    rw [IQ rv i v hP]
    exact wpAny_truthy_bool hQ
  have fin:∀ {it:Obj} {h':Heap} {tk:Nat} {n:Nat},n=bs.length→(∀ b o,b∉[s.heap.objs.size]→(s.heap.push it).get? b=some o→h'.get? b=some o)→EP X pins σ Q (.bool ((List.range n).all fun i=>bs.getD i false)) { s with heap:=h',toks:=tk }:=by
    intro it h' tk n hn hk
    subst hn
    refine⟨.bl (bs.all id),H,I.kept (t':=tk) fun b o e=>hk b o (by simp;exact Nat.ne_of_lt (Heap.lt_size e)) (Heap.get?_push_of_some _ e),by rw [IR];rfl,q⟩
  rcases sq with sq|sq
  · obtain⟨its,rv,pl,hz⟩:=I.list sq
    have il:s.heap.IsList p its.toArray:=pl.isList
    have hlt:p < s.heap.objs.size:=by obtain⟨o,ho,_⟩:=il;exact Heap.lt_size ho
    refine PySem.call_all_walk (PySem.wpAny_pyIter_list il ?_)
    refine⟨s.heap.objs.size,_,[s.heap.objs.size],_,_,_,fun i=>bs.getD i false,rfl,PySem.Walks.list hA s.heap.objs.size p (Nat.ne_of_lt hlt) its.toArray,⟨⟨_,Heap.get?_push_size _ rfl,rfl,rfl⟩,?_⟩,tr its rv,?_⟩
    · obtain⟨o,ho,r⟩:=il;exact⟨o,Heap.get?_push_of_some _ ho,r⟩
    · exact fun h' tk hk=>fin (by simpa using rv.length.symm) hk
  · obtain⟨its,rv,pl,hz⟩:=I.tuple sq
    have il:s.heap.IsTuple p its.toArray:=pl
    have hlt:p < s.heap.objs.size:=by obtain⟨o,ho,_⟩:=il;exact Heap.lt_size ho
    refine PySem.call_all_walk (PySem.wpAny_pyIter_tuple il ?_)
    refine⟨s.heap.objs.size,_,[s.heap.objs.size],_,_,_,fun i=>bs.getD i false,rfl,PySem.Walks.tuple hA s.heap.objs.size p (Nat.ne_of_lt hlt) its.toArray,⟨⟨_,Heap.get?_push_size _ rfl,rfl,rfl⟩,?_⟩,tr its rv,?_⟩
    · obtain⟨o,ho,r⟩:=il;exact⟨o,Heap.get?_push_of_some _ ho,r⟩
    · exact fun h' tk hk=>fin (by simpa using rv.length.symm) hk
theorem IS {a:Expr} {la:LF} (hc:X.calm=true) (hg:Gl X "all") (hm:X.mg "all" = none) (ha:MQ X a la) (hs:starEach [a] X.env=(false,eval a X.env) :: starEach [] X.env:=by rfl):ME X (.Call (.Name "all" p) [a] [] pos) (Cn la):=by
  refine xZ (g:=fun l h=>match kI l with|some bs=>.ok (.bl (bs.all id)) h|none=>.bad) (Ik (FT hc) hg hm (by decide +kernel) (he:=hs)) ha (fun ρ H σd hd σ l q vs Q rs sq rvs p => ?_) hs
  cases c:kI l with
  | none=>simp only [c] at p;exact p.elim
  | some is =>
    simp only [c] at p
    have e:=wY rvs c
    subst e
    exact⟨q,is,rfl,sq.imp id SqT.of,p.here rs (by simp only [rD,RD])⟩
theorem IT {a b:Expr}{la:LF}{fb:EF}(ha:MF X a la)(hb:ME X b fb):MF X (.BinOp a .Mult b pos) (sD la fb):=by
  refine PE.imp (HW N9 ha hb) fun σ H Q ⟨ρ,σd,hd,rs,pp⟩=>⟨ρ,σd,hd,rs,?_⟩
  unfold sD at pp
  cases e:la σd hd with
  | exc x h'=>rw [e] at pp;exact pp
  | bad=>rw [e] at pp;exact pp
  | ok l hd1 =>
    rw [e] at pp
    simp only [aH] at pp
    intro q vs H1 ρ1 e1 rs1 hq0 hq hn rvs
    refine⟨ρ1,σd,hd1,rs1,?_⟩
    cases e2:fb σd hd1 with
    | exc x h'=>rw [e2] at pp;exact pp
    | bad=>rw [e2] at pp;exact pp
    | ok y hd2 =>
      rw [e2] at pp
      simp only [aH] at pp
      intro v H2 ρ2 ex2 rs2 rv
      cases y<;>try exact pp.elim
      rename_i n
      simp only at pp
      split at pp
      · rename_i hz
        simp only [rD,RD] at rv
        subst rv
        have hq2:H2 q=some (.lst vs):=ex2.frame q _ hq hn
        have rvs2:=rvs.mono (rs1.hp.kp ex2)
        refine⟨q,n,vs,rfl,rfl,hq2,by omega,by omega,by rw [← rvs.length,sizeLine_eq];omega,fun p' hp' => ?_⟩
        exact Am.mk pp (e1.trans ex2) rs2 (RDs.rep rvs2 n.toNat) p' hp'
      · exact pp.elim
theorem IU {a b:Expr} {fa fb:EF} (hc:X.calm=true) (hg:Gl X "max") (hm:X.mg "max" = none) (ha:ME X a fa) (hb:ME X b fb) (hs:starEach [a,b] X.env=(false,eval a X.env) :: starEach [b] X.env:=by rfl) (hs2:starEach [b] X.env=(false,eval b X.env) :: starEach [] X.env:=by rfl) (hpl:(backTo pos (starEach [b] X.env)).any (fun x=>x.1)=false:=by rfl):ME X (.Call (.Name "max" p) [a,b] [] pos) (uC fa fb):=by
  refine PE.imp (ii (FE hc) hg hm (by decide +kernel) (cr ha (cr hb eR hs2) hs) (he:=hs) (hpl:=hpl)) fun σ H Q ⟨ρ,σd,hd,rs,pp⟩=>⟨ρ,σd,hd,rs,?_⟩
  unfold uC at pp
  refine (bR.bind (R:=rD X.K) pp).imp fun v H1 ⟨ρ1,d,hd1,e1,rs1,rv,p1⟩ => ?_
  refine⟨ρ1,σd,hd1,rs1,(bR.bind (R:=rD X.K) p1).imp fun w H2 ⟨ρ2,k,hd2,e2,rs2,rw',p2⟩ => ?_⟩
  cases d<;>try exact p2.elim
  cases k<;>try exact p2.elim
  simp only [rD,RD] at rv rw'
  subst rv rw'
  exact⟨_,_,rfl,p2.here rs2 (by simp only [rD,RD])⟩
theorem lJ {a b:Expr}{fa fb:EF}(ha:ME X a fa)(hb:ME X b fb):MF X (.BinOp a .Add b pos) (gK fa fb):=by
  refine PE.imp (HW N8 ha hb) fun σ H Q ⟨ρ,σd,hd,rs,pp⟩=>⟨ρ,σd,hd,rs,?_⟩
  unfold gK at pp
  cases e:fa σd hd with
  | exc x h'=>rw [e] at pp;exact pp
  | bad=>rw [e] at pp;exact pp
  | ok d hd1 =>
    rw [e] at pp
    simp only [aH] at pp
    intro v H1 ρ1 e1 rs1 rv
    refine⟨ρ1,σd,hd1,rs1,?_⟩
    cases e2:fb σd hd1 with
    | exc x h'=>rw [e2] at pp;exact pp
    | bad=>rw [e2] at pp;exact pp
    | ok k hd2 =>
      rw [e2] at pp
      simp only [aH] at pp
      intro w H2 ρ2 ex2 rs2 rw'
      cases d with
      | ref n =>
        cases k with
        | ref m =>
          simp only at pp
          simp only [rD,RD] at rv rw'
          obtain⟨a1,ha1,rfl⟩:=rv
          obtain⟨b1,hb1,rfl⟩:=rw'
          have ha2:=ex2.get ha1
          cases c1:hd2[n]? with
          | none=>rw [c1] at pp;exact pp.elim
          | some x1 =>
            cases c2:hd2[m]? with
            | none=>rw [c1,c2] at pp;cases x1<;>exact pp.elim
            | some x2 =>
              rw [c1,c2] at pp
              cases x1 with
              | dct _=>exact pp.elim
              | lst l =>
                cases x2 with
                | dct _=>exact pp.elim
                | lst k =>
                  simp only at pp
                  split at pp
                  · rename_i hz
                    obtain⟨vs1,hv1,rvs1⟩:=rs2.hp.cel n _ a1 c1 ha2
                    obtain⟨vs2,hv2,rvs2⟩:=rs2.hp.cel m _ b1 c2 hb1
                    refine⟨a1,b1,vs1,vs2,rfl,rfl,hv1,hv2,by rw [← rvs1.length,← rvs2.length];exact nH hz,fun p' hp' => ?_⟩
                    exact Am.mk pp (e1.trans ex2) rs2 (RDs.append rvs1 rvs2) p' hp'
                  · exact pp.elim
        | _=>exact pp.elim
      | _=>exact pp.elim
theorem Ay (l b:Addr)(items items2:Array Value)(n n2:Nat)(dd dd2:Option Addr)(sl sl2:Array (Option Value))(hc0:items.isEmpty=true) :
    Meets (Builtin.«tuple.__add__» ⟨[.ref l,.ref b],[]⟩) (fun _ R s=>s.heap.get? l=some { cls:=.type "tuple",dict:=dd,data:=.seq items n,slots:=sl } ∧ s.heap.get? b=some { cls:=.type "tuple",dict:=dd2,data:=.seq items2 n2,slots:=sl2 } ∧ R (.ok (.ret (Value.ref b))) s) :=
  .of_wp fun prog w A R s h=>by obtain⟨hp,g,d,tk,os⟩:=s;obtain⟨hl,hb,h⟩:=h;have f1:=PySem.AutoSeq1.idx_int;have f2:=PySem.AutoSeq1.sub_tuple_tuple;wp_walk using wpAny_loadPart' hl,wpAny_loadPart' hb;exact⟨_,rfl,h⟩
def IV (K:PySem.W.Frag):R2:=fun x y H Q=>∃ a b ys,x=.ref a∧y=.ref b∧SqT K H a []∧SqT K H b ys∧Q (.ref b) H
theorem LH:OpR X (binaryOp .Add) (IV X.K):=by
  intro pins s σ H x y v u Q I rx ry h
  obtain⟨a,b,ys,rfl,rfl,ha,hb,q⟩:=h
  cases rx
  cases ry
  obtain⟨its,r1,p1,_⟩:=I.tuple ha
  obtain⟨its2,r2,p2,_⟩:=I.tuple hb
  cases r1
  obtain⟨⟨cls,dd,data,sl⟩,ho,hc,n,hd⟩:=id p1
  obtain⟨⟨cls2,dd2,data2,sl2⟩,ho2,hc2,n2,hd2⟩:=id p2
  simp only at hc hd hc2 hd2
  subst hc hd hc2 hd2
  exact concat_meets ⟨_,ho,rfl⟩ ⟨_,ho2,rfl⟩ noFill_tuple_add seq_tuple_add PySem.F.slot_tuple_add PySem.F.entry_tuple_add (PySem.F.args_tuple_add_2 _ _)
    (Ay a b _ its2.toArray n n2 dd dd2 sl sl2 rfl) ⟨ho,ho2,⟨.ref b,H,I,rfl,q⟩⟩
theorem iK:OpR X (binaryOp .Add) (fun x y H Q=>IV X.K x y H Q∨Ai X.K x y H Q):=LH.or EC
theorem iL {K:PySem.W.Frag}:Og K eQ (fun x y H Q=>IV K x y H Q∨Ai K x y H Q):=by
  intro ρ H σd hd σ d k v w Q rs rv rw' pp
  cases d with
  | tup xs =>
    cases k with
    | tup ys =>
      simp only [eQ] at pp
      split at pp
      · rename_i hz
        simp only [RD] at rv
        obtain⟨a,vs,rfl,ha,rvs⟩:=rv
        have rw2:=rw'
        simp only [RD] at rw'
        obtain⟨b,ws,rfl,hb,rws⟩:=rw'
        cases xs with
        | nil =>
          simp only [RDs] at rvs
          subst rvs
          exact .inl ⟨a,b,ws,rfl,rfl,SqT.of ha,SqT.of hb,pp.here rs (by simpa using rw2)⟩
        | cons x xs =>
          refine .inr ⟨a,b,vs,ws,rfl,rfl,SqT.of ha,SqT.of hb,?_,?_,fun z => ?_,fun _ q hq => ?_⟩
          · intro z;subst z;have:=rvs.length;simp at this
          · rw [← rvs.length,← rws.length];exact nH hz
          · subst z
            have hy:ys=[]:=by have:=rws.length;simpa using this
            subst hy
            exact pp.here rs (by simp only [rD,RD];exact⟨a,vs,rfl,ha,by simpa using rvs⟩)
          · have sm:=cu (o:=HO.tup (vs++ws)) hq
            exact pp.at (Ext.same sm) (rs.same sm) (by simp only [rD,RD];exact⟨q,_,rfl,bh,(RDs.append rvs rws).mono (Kp.same sm)⟩)
      · exact pp.elim
    | _=>exact pp.elim
  | _=>exact pp.elim
end
end Fm
set_option linter.all false
namespace Fm
@[simp] def FU (a b:EF):IF:=fun σ h=>(a σ h).bind fun x h=>(b σ h).bind fun y h=>match x,y with
  | .tup l,.tup k=>.ok ((l.zip k).map fun p=>.tup [p.1,p.2],none) h
  | _,_=>.bad
@[simp] def Ro (a:EF):EF:=fun σ h=>(a σ h).bind fun x h=>match x with | .int i=>.ok (.int i.natAbs) h|_=>.bad
@[simp] def IW (a b:EF):EF:=fun σ h=>(a σ h).bind fun x h=>(b σ h).bind fun y h=>match x,y with
  | .int i,.int j=>.ok (.int (if j < i then j else i)) h
  | _,_=>.bad
noncomputable section
open Classical
def Qi (l:List D):List D:=(List.range l.length).zip l |>.map fun p=>.tup [.int (p.1:Nat),p.2]
end
end Fm
set_option Elab.async false
set_option linter.all false
set_option maxRecDepth 100000
namespace Fm
open PySem PySem.Spec L2
open PyProof.Rows (Call_)
theorem gW {h h':Heap}{i l:Addr}{xs:Array Value}(t:h.IsTuple l xs)(e:Heap.ExtBut i h h')(n:l≠i):h'.IsTuple l xs:=by
  obtain⟨o,ho,r⟩:=t
  exact⟨o,e _ _ n ho,r⟩
section
variable {prog:Program} {w:World} {A:Around} {E:Value→Shared→Prop} {s:Shared} {z TI TO i1 i2 l1 l2:Addr} {k:Nat} {xs ys:Array Value} {a b:Value}
theorem FV {x y:Value}{Q:Value→Shared→Prop}(Z:ZipApart z TI TO i1 i2 l1 l2)(gz:IsZip s.heap z TI TO .none)(gI:IsPair s.heap TI (.ref i1) (.ref i2))(gO:IsPair s.heap TO a b)
    (t1:s.heap.IsTupleIter i1 l1 k) (t2:s.heap.IsTupleIter i2 l2 k) (u1:s.heap.IsTuple l1 xs) (u2:s.heap.IsTuple l2 ys) (ex:xs[k]? = some x) (ey:ys[k]? = some y)
    (q:∀ h',IsZip h' z TI TO (rawInt s.heap.objs.size)→IsPair h' TO x y→h'.IsTupleIter i1 l1 (k + 1)→h'.IsTupleIter i2 l2 (k + 1)→IsPair h' s.heap.objs.size x y→h'.objs.size=s.heap.objs.size + 1 →
      (∀ c o,c≠z→c≠TO→c≠i1→c≠i2→s.heap.get? c=some o→h'.get? c=some o)→Q (.ref s.heap.objs.size) { s with heap:=h' }) :
    wpAny (model prog w) A (Builtin.«zip.__next__» ⟨[.ref z],[]⟩) (fun fin s'=>∃ v,fin=.done (.ret v)∧Q v s') E s:=by
  show wpAny _ _ (field (.ref z) 2 >>= fun _=>_) _ _ _
  refine wpAny_bind (wpAny_field gz rfl (x:=.bool false) rfl ?_)
  show wpAny _ _ (field (.ref z) 3 >>= fun _=>_) _ _ _
  refine wpAny_bind (wpAny_field gz rfl (x:=.ref TI) rfl (wpAny_bind (wpAny_seqItems gI rfl ?_)))
  show wpAny _ _ (Builtin.SmallTypes.ownedTupleIsFree (.ref z) >>= fun _=>_) _ _ _
  unfold Builtin.SmallTypes.ownedTupleIsFree
  refine wpAny_bind (wpAny_bind (wpAny_field gz rfl (x:=.none) rfl (wpAny_pure ?_)))
  simp only [if_true]
  refine wpAny_bind (wpAny_rule (wpAny_bind (wpAny_field gz rfl (x:=.ref TO) rfl (wpAny_bind (wpAny_setField_rec gz (by simp) fun g1 gz1 b1=>wpAny_bind ?_)))))
  replace gz1:IsZip g1 z TI TO .ellipsis:=gz1
  simp only [List.zipIdx_cons,List.zipIdx_nil,List.forIn_cons,List.forIn_nil]
  refine wpAny_bind (wpAny_bind (wpAny_onRaise ?_))
  show wpAny _ _ (Builtin.SmallTypes.nextOf (.ref i1) >>= fun _=>_) _ _ _
  refine wpAny_bind (d9 (t1.extBut b1.extBut Z.i1z) (gW u1 b1.extBut Z.l1z) ex fun g2 t12 b2=>wpAny_pure ?_)
  have gO2:IsPair g2 TO a b:=b2.extBut _ _ Z.TOi1 (b1.extBut _ _ Z.TOz gO)
  refine wpAny_bind (wpAny_seqItems gO2 rfl (wpAny_bind (wpAny_updateSeq_pair gO2 fun g3 gO3 b3=>wpAny_bind (wpAny_letGo (wpAny_pure ?_)))))
  replace gO3:IsPair g3 TO x b:=gO3
  refine wpAny_bind (wpAny_bind (wpAny_onRaise ?_))
  show wpAny _ _ (Builtin.SmallTypes.nextOf (.ref i2) >>= fun _=>_) _ _ _
  refine wpAny_bind (d9 (((t2.extBut b1.extBut Z.i2z).extBut b2.extBut Z.i12.symm).extBut b3.extBut Z.TOi2.symm) (gW (gW (gW u2 b1.extBut Z.l2z) b2.extBut Z.l2i1) b3.extBut Z.l2TO) ey fun g4 t24 b4=>wpAny_pure ?_)
  have gO4:IsPair g4 TO x b:=b4.extBut _ _ Z.TOi2 gO3
  refine wpAny_bind (wpAny_seqItems gO4 rfl (wpAny_bind (wpAny_updateSeq_pair gO4 fun g5 gO5 b5=>wpAny_bind (wpAny_letGo (wpAny_pure (wpAny_pure ?_))))))
  replace gO5:IsPair g5 TO x y:=gO5
  refine wpAny_bind (wpAny_seqItems gO5 rfl (wpAny_bind (wpAny_newTuple ?_)))
  have sz:g5.objs.size=s.heap.objs.size:=by rw [b5.1,b4.1,b3.1,b2.1,b1.1]
  have gz5:IsZip g5 z TI TO .ellipsis:=b5.extBut _ _ Z.TOz.symm (b4.extBut _ _ Z.i2z.symm (b3.extBut _ _ Z.TOz.symm (b2.extBut _ _ Z.i1z.symm gz1)))
  have kp:∀ c o,c≠z→c≠TO→c≠i1→c≠i2→s.heap.get? c=some o→g5.get? c=some o:=fun c o n1 n2 n3 n4 e=>b5.extBut _ _ n2 (b4.extBut _ _ n4 (b3.extBut _ _ n2 (b2.extBut _ _ n3 (b1.extBut _ _ n1 e))))
  have t15:g5.IsTupleIter i1 l1 (k + 1):=((t12.extBut b3.extBut Z.TOi1.symm).extBut b4.extBut Z.i12).extBut b5.extBut Z.TOi1.symm
  have t25:g5.IsTupleIter i2 l2 (k + 1):=t24.extBut b5.extBut Z.TOi2.symm
  have zl:z < g5.objs.size:=Heap.lt_size gz5
  show wpAny _ _ (Builtin.SmallTypes.ownedTupleHandOut (.ref z) (.ref g5.objs.size) >>= fun _=>_) _ _ _
  unfold Builtin.SmallTypes.ownedTupleHandOut
  have gz6:IsZip (g5.push { cls:=.type "tuple",data:=.seq #[x,y] }) z TI TO .ellipsis:=Heap.get?_push_of_some _ gz5
  refine wpAny_bind (wpAny_bind (wpAny_setField_rec gz6 (by simp) fun g7 gz7 b7 => ?_))
  replace gz7:IsZip g7 z TI TO (rawInt g5.objs.size):=gz7
  refine wpAny_setField_rec gz7 (by simp) fun g8 gz8 b8 => ?_
  replace gz8:IsZip g8 z TI TO (rawInt g5.objs.size):=gz8
  have up:∀ c o,c≠z→g5.get? c=some o→g8.get? c=some o:=fun c o n1 e=>b8.extBut _ _ n1 (b7.extBut _ _ n1 (Heap.get?_push_of_some _ e))
  have gT:IsPair g8 g5.objs.size x y:=b8.extBut _ _ (Nat.ne_of_gt zl) (b7.extBut _ _ (Nat.ne_of_gt zl) (Heap.get?_push_size _ rfl))
  have s8:g8.objs.size=g5.objs.size + 1:=by rw [b8.1,b7.1,Heap.size_push]
  rw [sz] at gz8 gT s8
  refine wpAny_pure ⟨_,rfl,?_⟩
  show Q (.ref g5.objs.size) _
  rw [sz]
  exact q g8 gz8 (up _ _ Z.TOz gO5) (let ⟨o,e,r⟩:=t15;⟨o,up _ o Z.i1z e,r⟩) (let ⟨o,e,r⟩:=t25;⟨o,up _ o Z.i2z e,r⟩) gT s8 fun c o n1 n2 n3 n4 e=>up c o n1 (kp c o n1 n2 n3 n4 e)
theorem IX {Q:Fin→Shared→Prop}(hh:A.handled=none)(Z:ZipApart z TI TO i1 i2 l1 l2)(gz:IsZip s.heap z TI TO .none)(gI:IsPair s.heap TI (.ref i1) (.ref i2))(gO:IsPair s.heap TO a b)
    (t1:s.heap.IsTupleIter i1 l1 k) (t2:s.heap.IsTupleIter i2 l2 k) (u1:s.heap.IsTuple l1 xs) (u2:s.heap.IsTuple l2 ys) (nd:xs[k]? = none∨ys[k]? = none)
    (q:∀ h' e,(∀ c o,c≠z→c≠TO→c≠i1→c≠i2→s.heap.get? c=some o→h'.get? c=some o)→(∃ o,h'.get? e=some o∧o.cls=.type "StopIteration")→E (.ref e) { s with heap:=h' }) :
    wpAny (model prog w) A (Builtin.«zip.__next__» ⟨[.ref z],[]⟩) Q E s:=by
  show wpAny _ _ (field (.ref z) 2 >>= fun _=>_) _ _ _
  refine wpAny_bind (wpAny_field gz rfl (x:=.bool false) rfl ?_)
  show wpAny _ _ (field (.ref z) 3 >>= fun _=>_) _ _ _
  refine wpAny_bind (wpAny_field gz rfl (x:=.ref TI) rfl (wpAny_bind (wpAny_seqItems gI rfl ?_)))
  show wpAny _ _ (Builtin.SmallTypes.ownedTupleIsFree (.ref z) >>= fun _=>_) _ _ _
  unfold Builtin.SmallTypes.ownedTupleIsFree
  refine wpAny_bind (wpAny_bind (wpAny_field gz rfl (x:=.none) rfl (wpAny_pure ?_)))
  simp only [if_true]
  refine wpAny_bind (wpAny_rule (wpAny_bind (wpAny_field gz rfl (x:=.ref TO) rfl (wpAny_bind (wpAny_setField_rec gz (by simp) fun g1 gz1 b1=>wpAny_bind ?_)))))
  replace gz1:IsZip g1 z TI TO .ellipsis:=gz1
  simp only [List.zipIdx_cons,List.zipIdx_nil,List.forIn_cons,List.forIn_nil]
  refine wpAny_bind (wpAny_bind (wpAny_onRaise ?_))
  show wpAny _ _ (Builtin.SmallTypes.nextOf (.ref i1) >>= fun _=>_) _ _ _
  cases ex:xs[k]? with
  | none =>
    refine wpAny_bind (fQ hh (t1.extBut b1.extBut Z.i1z) (gW u1 b1.extBut Z.l1z) ex fun g2 e b2 he => ?_)
    obtain⟨oe,ho,hc⟩:=he
    have gz2:IsZip g2 z TI TO .ellipsis:=b2 _ _ Z.i1z.symm gz1
    have ne:e≠z:=fun v=>by subst v;rw [gz2] at ho;cases ho;simp at hc
    exact wpAny_setField_rec gz2 (by simp) fun g3 _ b3=>q g3 e (fun c o n1 _ n3 _ v=>b3.extBut _ _ n1 (b2 _ _ n3 (b1.extBut _ _ n1 v))) ⟨oe,b3.extBut _ _ ne ho,hc⟩
  | some x =>
    have ey:ys[k]? = none:=nd.resolve_left (by rw [ex];exact Option.some_ne_none _)
    refine wpAny_bind (d9 (t1.extBut b1.extBut Z.i1z) (gW u1 b1.extBut Z.l1z) ex fun g2 t12 b2=>wpAny_pure ?_)
    have gO2:IsPair g2 TO a b:=b2.extBut _ _ Z.TOi1 (b1.extBut _ _ Z.TOz gO)
    refine wpAny_bind (wpAny_seqItems gO2 rfl (wpAny_bind (wpAny_updateSeq_pair gO2 fun g3 gO3 b3=>wpAny_bind (wpAny_letGo (wpAny_pure ?_)))))
    refine wpAny_bind (wpAny_bind (wpAny_onRaise ?_))
    show wpAny _ _ (Builtin.SmallTypes.nextOf (.ref i2) >>= fun _=>_) _ _ _
    refine wpAny_bind (fQ hh (((t2.extBut b1.extBut Z.i2z).extBut b2.extBut Z.i12.symm).extBut b3.extBut Z.TOi2.symm) (gW (gW (gW u2 b1.extBut Z.l2z) b2.extBut Z.l2i1) b3.extBut Z.l2TO) ey fun g4 e b4 he => ?_)
    obtain⟨oe,ho,hc⟩:=he
    have gz4:IsZip g4 z TI TO .ellipsis:=b4 _ _ Z.i2z.symm (b3.extBut _ _ Z.TOz.symm (b2.extBut _ _ Z.i1z.symm gz1))
    have ne:e≠z:=fun v=>by subst v;rw [gz4] at ho;cases ho;simp at hc
    exact wpAny_setField_rec gz4 (by simp) fun g5 _ b5=>q g5 e (fun c o n1 n2 n3 n4 v=>b5.extBut _ _ n1 (b4 _ _ n4 (b3.extBut _ _ n2 (b2.extBut _ _ n3 (b1.extBut _ _ n1 v))))) ⟨oe,b5.extBut _ _ ne ho,hc⟩
theorem yh {x y:Value}{Q:Option Value→Shared→Prop}(Z:ZipApart z TI TO i1 i2 l1 l2)(gz:IsZip s.heap z TI TO .none)(gI:IsPair s.heap TI (.ref i1) (.ref i2))(gO:IsPair s.heap TO a b)
    (t1:s.heap.IsTupleIter i1 l1 k) (t2:s.heap.IsTupleIter i2 l2 k) (u1:s.heap.IsTuple l1 xs) (u2:s.heap.IsTuple l2 ys) (ex:xs[k]? = some x) (ey:ys[k]? = some y)
    (q:∀ h',IsZip h' z TI TO (rawInt s.heap.objs.size)→IsPair h' TO x y→h'.IsTupleIter i1 l1 (k + 1)→h'.IsTupleIter i2 l2 (k + 1)→IsPair h' s.heap.objs.size x y→h'.objs.size=s.heap.objs.size + 1 →
      (∀ c o,c≠z→c≠TO→c≠i1→c≠i2→s.heap.get? c=some o→h'.get? c=some o)→Q (some (.ref s.heap.objs.size)) { s with heap:=h' }) :
    wpAny (model prog w) A (pyNext (.ref z)) Q E s:=by
  have ty:s.TypeIs (.ref z) "zip" := ⟨_,gz,rfl⟩
  unfold pyNext
  refine wpAny_bind (wpAny_attempt (wpAny_callSpecial?_slot (name:=Str.ofString "__next__") ty F.slot_zip_next (wpAny_call_entry F.slot_zip_next ty F.entry_zip_next ?_ (F.args_zip_next_1 _))))
  exact FV Z gz gI gO t1 t2 u1 u2 ex ey fun h' a1 a2 a3 a4 a5 a6 a7=>wpAny_pure (q h' a1 a2 a3 a4 a5 a6 a7)
theorem Az {Q:Option Value→Shared→Prop}(hh:A.handled=none)(Z:ZipApart z TI TO i1 i2 l1 l2)(gz:IsZip s.heap z TI TO .none)(gI:IsPair s.heap TI (.ref i1) (.ref i2))(gO:IsPair s.heap TO a b)
    (t1:s.heap.IsTupleIter i1 l1 k) (t2:s.heap.IsTupleIter i2 l2 k) (u1:s.heap.IsTuple l1 xs) (u2:s.heap.IsTuple l2 ys) (nd:xs[k]? = none∨ys[k]? = none)
    (q:∀ h',(∀ c o,c≠z→c≠TO→c≠i1→c≠i2→s.heap.get? c=some o→h'.get? c=some o)→Q none { s with heap:=h' }):wpAny (model prog w) A (pyNext (.ref z)) Q E s:=by
  have ty:s.TypeIs (.ref z) "zip" := ⟨_,gz,rfl⟩
  unfold pyNext
  refine wpAny_bind (wpAny_attempt (wpAny_callSpecial?_slot (name:=Str.ofString "__next__") ty F.slot_zip_next (wpAny_call_entry F.slot_zip_next ty F.entry_zip_next ?_ (F.args_zip_next_1 _))))
  refine IX hh Z gz gI gO t1 t2 u1 u2 nd fun h' e kk he => ?_
  obtain⟨o,ho,hc⟩:=he
  exact wpAny_bind (wpAny_isInstance (T := "StopIteration") (b:=true) ⟨o,ho,hc⟩ isSubtype_stop (wpAny_pure (q _ kk)))
end
def zt1 (h:Heap) (l1:Addr):Heap:=h.push { cls:=.type "tuple_iterator",data:=.fields #[.ref l1,.int 0 0] }
def zt2 (h:Heap) (l1 l2:Addr):Heap:=(zt1 h l1).push { cls:=.type "tuple_iterator",data:=.fields #[.ref l2,.int 0 0] }
def zt3 (h:Heap) (l1 l2:Addr):Heap:=(zt2 h l1 l2).push { cls:=.type "tuple",data:=.seq #[.ref h.objs.size,.ref (zt1 h l1).objs.size] }
def zt4 (h:Heap) (l1 l2:Addr):Heap:=(zt3 h l1 l2).push { cls:=.type "tuple",data:=.seq #[.none,.none] }
def zt5 (h:Heap) (l1 l2:Addr):Heap:=(zt4 h l1 l2).push { cls:=.type "zip",data:=.fields #[.none,.bool false,.bool false,.ref (zt2 h l1 l2).objs.size,.ref (zt3 h l1 l2).objs.size] }
theorem CA (l1 l2:Addr)(xs ys:Array Value) :
    Meets (Builtin.«zip.__new__» ⟨[.type "zip",.ref l1,.ref l2],[]⟩) (fun _ R s=>s.heap.IsTuple l1 xs∧s.heap.IsTuple l2 ys∧R (.ok (.ret (.ref (zt4 s.heap l1 l2).objs.size))) { s with heap:=zt5 s.heap l1 l2 }) :=
  .of_wp fun prog w A R s h=>by
    obtain⟨hp,g,d,tk,os⟩:=s;obtain⟨u1,u2,h⟩:=h
    have hsub:=sub_zip
    have T1:Heap.IsTuple (Shared.heap ⟨hp,g,d,tk,os⟩) l1 xs:=u1
    have T2:Heap.IsTuple (Shared.heap ⟨hp.push { cls:=.type "tuple_iterator",data:=.fields #[.ref l1,.int 0 0] },g,d,tk,os⟩) l2 ys:=by
      obtain⟨o,ho,r⟩:=u2
      exact⟨o,Heap.get?_push_of_some _ ho,r⟩
    wp_walk using wpAny_pyIter_tuple T1,wpAny_pyIter_tuple T2
    exact⟨_,rfl,h⟩
section
variable {prog:Program} {w:World} {A:Around} {E:Value→Shared→Prop} {s:Shared}
theorem FW {l1 l2:Addr}{xs ys:Array Value}{Q:Value→Shared→Prop}(u1:s.heap.IsTuple l1 xs)(u2:s.heap.IsTuple l2 ys)
    (q:∀ h',IsZip h' (s.heap.objs.size + 4) (s.heap.objs.size + 2) (s.heap.objs.size + 3) .none→IsPair h' (s.heap.objs.size + 2) (.ref s.heap.objs.size) (.ref (s.heap.objs.size + 1)) →
      IsPair h' (s.heap.objs.size + 3) .none .none→h'.IsTupleIter s.heap.objs.size l1 0→h'.IsTupleIter (s.heap.objs.size + 1) l2 0→h'.objs.size=s.heap.objs.size + 5 →
      (∀ c o,s.heap.get? c=some o→h'.get? c=some o)→Q (.ref (s.heap.objs.size + 4)) { s with heap:=h' }) :
    wpAny (model prog w) A (call (.type "zip") [.ref l1,.ref l2]) Q E s:=by
  refine callType_new F.called_zip (by decide) (F.typeCall_zip_2 _ _) (F.newCall_zip_2 _ _) (fun obj=>F.args_object_init_3 obj _ _) F.entry_zip_new (CA l1 l2 xs ys) ⟨u1,u2,?_⟩
  have z1:(zt1 s.heap l1).objs.size=s.heap.objs.size + 1:=Heap.size_push ..
  have z2:(zt2 s.heap l1 l2).objs.size=s.heap.objs.size + 2:=(Heap.size_push ..).trans (by rw [z1])
  have z3:(zt3 s.heap l1 l2).objs.size=s.heap.objs.size + 3:=(Heap.size_push ..).trans (by rw [z2])
  have z4:(zt4 s.heap l1 l2).objs.size=s.heap.objs.size + 4:=(Heap.size_push ..).trans (by rw [z3])
  have z5:(zt5 s.heap l1 l2).objs.size=s.heap.objs.size + 5:=(Heap.size_push ..).trans (by rw [z4])
  have p1:∀ {c o},(zt1 s.heap l1).get? c=some o→(zt5 s.heap l1 l2).get? c=some o:=fun e=>Heap.get?_push_of_some _ (Heap.get?_push_of_some _ (Heap.get?_push_of_some _ (Heap.get?_push_of_some _ e)))
  have p2:∀ {c o},(zt2 s.heap l1 l2).get? c=some o→(zt5 s.heap l1 l2).get? c=some o:=fun e=>Heap.get?_push_of_some _ (Heap.get?_push_of_some _ (Heap.get?_push_of_some _ e))
  have p3:∀ {c o},(zt3 s.heap l1 l2).get? c=some o→(zt5 s.heap l1 l2).get? c=some o:=fun e=>Heap.get?_push_of_some _ (Heap.get?_push_of_some _ e)
  have g1:(zt5 s.heap l1 l2).get? s.heap.objs.size=some { cls:=.type "tuple_iterator",data:=.fields #[.ref l1,.int 0 0] }:=p1 (Heap.get?_push_size _ rfl)
  have g2:(zt5 s.heap l1 l2).get? (s.heap.objs.size + 1)=some { cls:=.type "tuple_iterator",data:=.fields #[.ref l2,.int 0 0] }:=by rw [← z1];exact p2 (Heap.get?_push_size _ rfl)
  have g3:(zt5 s.heap l1 l2).get? (s.heap.objs.size + 2)=some { cls:=.type "tuple",data:=.seq #[.ref s.heap.objs.size,.ref (s.heap.objs.size + 1)] }:=by rw [← z2,← z1];exact p3 (Heap.get?_push_size _ rfl)
  have g4:(zt5 s.heap l1 l2).get? (s.heap.objs.size + 3)=some { cls:=.type "tuple",data:=.seq #[.none,.none] }:=by rw [← z3];exact Heap.get?_push_of_some _ (Heap.get?_push_size _ rfl)
  have g5:(zt5 s.heap l1 l2).get? (s.heap.objs.size + 4)=some { cls:=.type "zip",data:=.fields #[.none,.bool false,.bool false,.ref (s.heap.objs.size + 2),.ref (s.heap.objs.size + 3)] }:=by rw [← z4,← z2,← z3];exact Heap.get?_push_size _ rfl
  show _∧_
  rw [z4]
  exact⟨⟨_,g5,rfl⟩,q _ g5 g3 g4 ⟨_,g1,rfl,rfl⟩ ⟨_,g2,rfl,rfl⟩ z5 fun c o e=>p1 (Heap.get?_push_of_some _ e)⟩
end
theorem LI {X:Cx}{pins:List (Addr × Obj)}{σ:St}{H:Hp}{s:Shared}{h':Heap}{t':Nat}{ch:List Addr}(I:L2.Inv X pins σ H s)(k:∀ b o,b∉ch→s.heap.get? b=some o→h'.get? b=some o)(hf:∀ b∈ch,rM X pins H b) :
    L2.Inv X pins σ H { s with heap:=h',toks:=t' }:=by
  have nit:∀ b u,H b=some u→b∉ch:=fun b u e z=>by rw [(hf b z).1] at e;cases e
  refine I.step (g':=s.gens) (d':=s.drawn) (ch:=ch) (fun b hb=>⟨(hf b hb).2.2.2.1,(hf b hb).2.1,(hf b hb).2.2.2.2.1,(hf b hb).2.2.2.2.2⟩) (fun b o _ _ hc e _=>k b o hc e) (fun b o _ _ hc e _=>⟨o.slots,k b o hc e⟩) (fun _ _ _ _ n=>n)
    (fun b o hc e=>⟨o,k b o hc e⟩) (fun _ _ e=>e) (fun _ _ _ e=>e) (fun b ps e=>⟨#[],by rw [e];simp⟩) (fun m hm => ?_) (fun b u e => ?_) I.bare
  · obtain⟨o,es,ep,ho,r⟩:=hm
    exact⟨o,es,ep,k _ o (fun z=>(hf _ z).2.1 rfl) ho,r⟩
  · refine (I.hok b u e).stay (fun c v hc q=>k c v ?_ q) (fun _ q=>q) fun _ _ q=>q
    rcases hc with z|z
    · rw [z];exact nit b u e
    · exact nit c _ z
def Itz (K:PySem.W.Frag) (a b:Addr):It :=
  ⟨fun i H=>∃ xs ys x y,SqT K H a xs∧SqT K H b ys∧xs[i]? = some x∧ys[i]? = some y,fun i H x H'=>∃ q v u,x=.ref q∧H q=none∧H'=upd H q (.tup [v,u])∧(∀ xs,SqT K H a xs→xs[i]? = some v) ∧ ∀ ys,SqT K H b ys→ys[i]? = some u,fun i H=>∃ xs ys,SqT K H a xs∧SqT K H b ys∧min xs.length ys.length=i⟩
theorem IY {P:Program}{w:World}{K:PySem.W.Frag}{elts:List Expr}{k:Nat}{pos:Pos}(z TI TO i1 i2 a b:Addr)(Z:ZipApart z TI TO i1 i2 a b) :
    Cg P w K (.Tuple elts k pos) (Itz K a b) [z,TI,TO,i1,i2] z (fun i h=>IsZip h z TI TO .none∧IsPair h TI (.ref i1) (.ref i2)∧(∃ x y,IsPair h TO x y)∧h.IsTupleIter i1 a i∧h.IsTupleIter i2 b i) where
  mem:=by simp
  obj:=fun i h st c hc=>by
    obtain⟨gz,gI,⟨x,y,gO⟩,⟨o1,q1,c1,d1⟩,⟨o2,q2,c2,d2⟩⟩:=st
    have hc':c=z∨c=TI∨c=TO∨c=i1∨c=i2:=by simpa using hc
    rcases hc' with rfl|rfl|rfl|rfl|rfl
    · exact⟨_,gz,fun v e=>by
        have e':Data.fields _=Data.cell v:=e
        cases e'⟩
    · exact⟨_,gI,fun v e=>by
        have e':Data.seq _ _=Data.cell v:=e
        cases e'⟩
    · exact⟨_,gO,fun v e=>by
        have e':Data.seq _ _=Data.cell v:=e
        cases e'⟩
    · exact⟨o1,q1,fun v e=>by rw [d1] at e;cases e⟩
    · exact⟨o2,q2,fun v e=>by rw [d2] at e;cases e⟩
  keep:=fun i h h' st kk=>by
    obtain⟨gz,gI,⟨x,y,gO⟩,⟨o1,q1,r1⟩,⟨o2,q2,r2⟩⟩:=st
    exact⟨kk z (by simp) _ gz,kk TI (by simp) _ gI,⟨x,y,kk TO (by simp) _ gO⟩,⟨o1,kk i1 (by simp) _ q1,r1⟩,⟨o2,kk i2 (by simp) _ q2,r2⟩⟩
  item:=by
    intro X hP hw hK hc i pins s σ H E I hf st hg
    subst hP hw hK
    obtain⟨gz,gI,⟨x0,y0,gO⟩,t1,t2⟩:=st
    obtain⟨xs,ys,x,y,hq1,hq2,hx,hy⟩:=hg
    obtain⟨is1,rv1,p1,hz1⟩:=I.tuple hq1
    obtain⟨is2,rv2,p2,hz2⟩:=I.tuple hq2
    obtain⟨u,hu,ru⟩:=rv1.get hx
    obtain⟨v,hv,rv⟩:=rv2.get hy
    have T1:s.heap.IsTuple a is1.toArray:=p1
    have T2:s.heap.IsTuple b is2.toArray:=p2
    have ld:=fun c (h:c∈[z,TI,TO,i1,i2])=>hf c h
    refine yh Z gz gI gO t1 t2 T1 T2 (by simpa using hu) (by simpa using hv) fun h' az aO a1 a2 aN asz kk=>⟨_,rfl,wpAny_letOwnedTupleGo_zip az fun h2 az2 b2 => ?_⟩
    have zl:z < s.heap.objs.size:=Heap.lt_size gz
    have Il:TI < s.heap.objs.size:=Heap.lt_size gI
    have Ol:TO < s.heap.objs.size:=Heap.lt_size gO
    have l1:i1 < s.heap.objs.size:=by obtain⟨_,e,_⟩:=t1;exact Heap.lt_size e
    have l2:i2 < s.heap.objs.size:=by obtain⟨_,e,_⟩:=t2;exact Heap.lt_size e
    have hN:H s.heap.objs.size=none:=I.hok.fresh (Nat.le_refl _)
    have keep:∀ c o,c∉[z,TO,i1,i2]→s.heap.get? c=some o→h2.get? c=some o:=fun c o hc e=>by
      have hc':c≠z∧c≠TO∧c≠i1∧c≠i2:=by simpa using hc
      exact (b2.2 c hc'.1).trans (kk c o hc'.1 hc'.2.1 hc'.2.2.1 hc'.2.2.2 e)
    have nw:IsPair h2 s.heap.objs.size u v:=(b2.2 _ (Nat.ne_of_gt zl)).trans aN
    have sub:∀ c∈[z,TO,i1,i2],c∈[z,TI,TO,i1,i2]:=fun c hc=>by simp at hc ⊢;rcases hc with e|e|e|e<;>simp [e]
    have hTI2:IsPair h2 TI (.ref i1) (.ref i2):=keep TI _ (by simp;exact⟨Z.TIz,Z.TITO,Z.TIi1,Z.TIi2⟩) gI
    refine⟨.ref s.heap.objs.size,upd H s.heap.objs.size (.tup [x,y]),?_,rfl,⟨_,x,y,rfl,hN,rfl,fun zs hzs=>by rw [I.tuple_inj hzs hq1];exact hx,fun zs hzs=>by rw [I.tuple_inj hzs hq2];exact hy⟩,
      ⟨az2,hTI2,⟨_,_,(b2.2 _ Z.TOz).trans aO⟩,(let ⟨o,e,r⟩:=a1;⟨o,(b2.2 _ Z.i1z).trans e,r⟩),(let ⟨o,e,r⟩:=a2;⟨o,(b2.2 _ Z.i2z).trans e,r⟩)⟩,fun c hc => ?_⟩
    · suffices I2:L2.Inv X pins σ (upd H s.heap.objs.size (.tup [x,y])) { s with heap:=h2,gens:=s.gens,drawn:=s.drawn,toks:=s.toks } from I2
      have nch:∀ c u',H c=some u'→c∉[z,TO,i1,i2]:=fun c u' e q=>by rw [(hf c (sub c q)).1] at e;cases e
      refine I.step (g':=s.gens) (d':=s.drawn) (t':=s.toks) (ch:=[z,TO,i1,i2]) (fun c hc => ?_) (fun c o _ _ hc q _=>keep c o hc q) (fun c o _ _ hc q _=>⟨o.slots,keep c o hc q⟩) (fun c o _ q n => ?_) (fun c o hc q=>⟨o,keep c o hc q⟩)
        (fun c zs q => ?_) (fun c o u' q => ?_) (fun c ps q=>⟨#[],?_⟩) (fun m hm => ?_) (fun c u' q => ?_) I.bare
      · have:=hf c (sub c hc)
        exact⟨this.2.2.2.1,this.2.1,this.2.2.2.2.1,this.2.2.2.2.2⟩
      · rw [aF (Nat.ne_of_lt (Heap.lt_size q))];exact n
      · rw [aF (bD q hN)];exact q
      · rw [aF (bD q hN)];exact q
      · rw [aF (bD q hN),q];simp
      · obtain⟨o,es,ep,ho,r⟩:=hm
        exact⟨o,es,ep,keep _ o (fun q=>(hf _ (sub _ q)).2.1 rfl) ho,r⟩
      · by_cases hb:c=s.heap.objs.size
        · subst hb
          rw [bh] at q
          cases q
          exact⟨by show 2≤sizeLine;rw [sizeLine_eq];decide,[u,v],.cons ru (.cons rv .nil),_,nw,rfl,_,rfl⟩
        · rw [aF hb] at q
          refine (I.hok c u' q).stay (fun d v' hd' e => ?_) (fun d e=>by rw [aF (bD e hN)];exact e) fun d zs e=>by rw [aF (bD e hN)];exact e
          rcases hd' with e'|e'
          · subst e';exact keep d v' (nch d _ q) e
          · exact keep d v' (nch d _ e') e
    · have hc':c=z∨c=TI∨c=TO∨c=i1∨c=i2:=by simpa using hc
      have:c≠s.heap.objs.size:=by rcases hc' with e|e|e|e|e<;>rw [e]<;>exact Nat.ne_of_lt (by assumption)
      rw [aF this]
      exact (hf c hc).1
  done:=by
    intro X hP hw hK hc i pins s σ H E I hf st hg
    subst hP hw hK
    obtain⟨gz,gI,⟨x0,y0,gO⟩,t1,t2⟩:=st
    obtain⟨xs,ys,hq1,hq2,hi⟩:=hg
    obtain⟨is1,rv1,p1,hz1⟩:=I.tuple hq1
    obtain⟨is2,rv2,p2,hz2⟩:=I.tuple hq2
    have T1:s.heap.IsTuple a is1.toArray:=p1
    have T2:s.heap.IsTuple b is2.toArray:=p2
    have e1:=rv1.length
    have e2:=rv2.length
    have nd:is1.toArray[i]? = none∨is2.toArray[i]? = none:=by
      rcases Nat.le_total xs.length ys.length with h|h
      · exact .inl (Array.getElem?_eq_none (by simp;omega))
      · exact .inr (Array.getElem?_eq_none (by simp;omega))
    have sub:∀ c∈[z,TO,i1,i2],c∈[z,TI,TO,i1,i2]:=fun c hc=>by simp at hc ⊢;rcases hc with e|e|e|e<;>simp [e]
    refine Az (I.ok.hd hc) Z gz gI gO t1 t2 T1 T2 nd fun h' kk=>⟨rfl,LI (t':=s.toks) (ch:=[z,TO,i1,i2]) I (fun c o hc e => ?_) fun c hc=>hf c (sub c hc)⟩
    have hc':c≠z∧c≠TO∧c≠i1∧c≠i2:=by simpa using hc
    exact kk c o hc'.1 hc'.2.1 hc'.2.2.1 hc'.2.2.2 e
  self:=fun _ _ _ _ _ st h=>wpAny_pyIter_zip st.1 h
section
variable {X:Cx} {pos p tp:Pos} {elts:List Expr} {tk:Nat}
def iZp (K:PySem.W.Frag) (ta:TA):TI:=fun σ H R=>ta σ H fun vs H1=>∃ a b xs ys,vs=[.ref a,.ref b]∧SqT K H1 a xs∧SqT K H1 b ys∧(xs.length≤sizeLine→ys.length≤sizeLine→R (Itz K a b) H1)
theorem OE {a b:Expr} {ta:TA} (hg:Gl X "zip") (hm:X.mg "zip" = none) (ha:PA X [a,b] ta) (hs:starEach [a,b] X.env=[(false,eval a X.env),(false,eval b X.env)]:=by rfl) (hs2:starEach [b] X.env=[(false,eval b X.env)]:=by rfl):PI X (.Tuple elts tk tp) (.Call (.Name "zip" p) [a,b] [] pos) (iZp X.K ta):=by
  intro pins s σ H R I h
  refine Call_ (mL I hg hm PyProof.Rows.boot_zip (PyProof.Rows.callWith_type1 (thn (ha pos pins s σ H _ I h) fun us s1 ⟨vs,H1,I1,r1,q1⟩ => ?_) (by rw [hs,hs2]) (by rw [hs2];rfl)))
  obtain⟨a1,b1,xs,ys,e,hq1,hq2,q⟩:=q1
  subst e
  cases r1 with
  | cons r rr =>
    cases rr with
    | cons r' rr =>
      cases rr
      cases r
      cases r'
      obtain⟨is1,rv1,p1,hz1⟩:=I1.tuple hq1
      obtain⟨is2,rv2,p2,hz2⟩:=I1.tuple hq2
      have T1:s1.heap.IsTuple a1 is1.toArray:=p1
      have T2:s1.heap.IsTuple b1 is2.toArray:=p2
      have la:a1 < s1.heap.objs.size:=by obtain⟨_,e,_⟩:=T1;exact Heap.lt_size e
      have lb:b1 < s1.heap.objs.size:=by obtain⟨_,e,_⟩:=T2;exact Heap.lt_size e
      refine FW T1 T2 fun h' gz gI gO t1 t2 hsz hk => ?_
      refine wpAny_pyIter_zip (s:={ s1 with heap:=h' }) gz ?_
      have I2:Inv X pins σ H1 { s1 with heap:=h' }:=I1.kept (t':=s1.toks) hk
      have Z:ZipApart (s1.heap.objs.size + 4) (s1.heap.objs.size + 2) (s1.heap.objs.size + 3) s1.heap.objs.size (s1.heap.objs.size + 1) a1 b1:=by
        constructor<;>simp only [Addr] at *<;>omega
      refine⟨s1.heap.objs.size + 4,[s1.heap.objs.size + 4,s1.heap.objs.size + 2,s1.heap.objs.size + 3,s1.heap.objs.size,s1.heap.objs.size + 1],_,_,H1,rfl,I2,IY _ _ _ _ _ a1 b1 Z,⟨gz,gI,⟨_,_,gO⟩,t1,t2⟩,fun c hc => ?_,q hz1 hz2⟩
      have hc':s1.heap.objs.size≤c:=by
        have:c=s1.heap.objs.size + 4∨c=s1.heap.objs.size + 2∨c=s1.heap.objs.size + 3∨c=s1.heap.objs.size∨c=s1.heap.objs.size + 1:=by simpa using hc
        rcases this with e|e|e|e|e<;>rw [e]<;>first|exact Nat.le_add_right _ _|exact Nat.le_refl _
      exact I1.fpOk hc' (I1.hok.fresh hc')
theorem IZ {K:PySem.W.Frag}{ρ:List Addr}{H:Hp}{hd:Hd}{q q':Addr}{l l':List D}{vs vs':List V}(r:RH K ρ H hd)(hq:H q=some (.tup vs))(rv:RDs K ρ H l vs)(hz:vs.length≤sizeLine)(hq':H q'=some (.tup vs'))(rv':RDs K ρ H l' vs') :
    si K ρ H (Itz K q q') ((l.zip l').map fun p=>.tup [p.1,p.2]) none where
  go:=fun ρ' H' hd' i d ex rh _ hi=>by
    have k:=r.kp ex
    obtain⟨hil,hi2⟩:=List.getElem?_eq_some_iff.mp hi
    have hl:i < l.length:=by simp at hil;omega
    have hl':i < l'.length:=by simp at hil;omega
    have hd:d=.tup [l[i],l'[i]]:=by rw [← hi2];simp
    subst hd
    obtain⟨v,hv,rd⟩:=(rv.mono k).get (i:=i) (d:=l[i]) (by simp [hl])
    obtain⟨v',hv',rd'⟩:=(rv'.mono k).get (i:=i) (d:=l'[i]) (by simp [hl'])
    have sq:SqT K H' q vs:=SqT.of (k.tup q vs hq)
    have sq':SqT K H' q' vs':=SqT.of (k.tup q' vs' hq')
    refine⟨⟨vs,vs',v,v',sq,sq',hv,hv'⟩,fun x H2 y => ?_⟩
    obtain⟨q2,v2,v3,rfl,hn,rfl,y,y'⟩:=y
    have e1:=y vs sq
    have e2:=y' vs' sq'
    rw [hv] at e1
    rw [hv'] at e2
    cases e1
    cases e2
    have sm:=cu (o:=HO.tup [v,v']) hn
    refine⟨sm,?_⟩
    simp only [RD]
    exact⟨q2,_,rfl,bh,RDs.cons (rd.mono (Kp.same sm)) (RDs.cons (rd'.mono (Kp.same sm)) RDs.nil)⟩
  stop:=fun ρ' H' hd' ex rh _=>⟨vs,vs',SqT.of ((r.kp ex).tup q vs hq),SqT.of ((r.kp ex).tup q' vs' hq'),by rw [← rv.length,← rv'.length];simp⟩
  sz:=by
    have:=rv.length
    simp;omega
theorem Ja {a b:Expr} {f g:EF} (hg:Gl X "zip") (hm:X.mg "zip" = none) (ha:ME X a f) (hb:ME X b g) (hs:starEach [a,b] X.env=[(false,eval a X.env),(false,eval b X.env)]:=by rfl) (hs2:starEach [b] X.env=[(false,eval b X.env)]:=by rfl):MI X (.Tuple elts tk tp) (.Call (.Name "zip" p) [a,b] [] pos) (FU f g):=by
  refine PI.imp (OE hg hm (cr ha (cr hb eR hs2) (by rw [hs,hs2])) hs hs2) fun σ H R ⟨ρ,σd,hd,rs,pp⟩=>⟨ρ,σd,hd,rs,?_⟩
  unfold FU at pp
  cases e:f σd hd with
  | exc x h1=>rw [e] at pp;exact pp
  | bad=>rw [e] at pp;exact pp
  | ok d hd1 =>
    rw [e] at pp
    simp only [aH] at pp
    intro v H1 ρ1 ex1 rs1 rv
    refine⟨ρ1,σd,hd1,rs1,?_⟩
    cases e2:g σd hd1 with
    | exc x h1=>rw [e2] at pp;exact pp
    | bad=>rw [e2] at pp;exact pp
    | ok d2 hd2 =>
      rw [e2] at pp
      simp only [aH] at pp
      intro v2 H2 ρ2 ex2 rs2 rv2
      cases d<;>try exact pp.elim
      cases d2<;>try exact pp.elim
      rename_i l l'
      simp only at pp
      have rv:=RD.mono (rs1.hp.kp ex2) rv
      simp only [rD,RD] at rv rv2
      obtain⟨q,vs,rfl,hq,rvs⟩:=rv
      obtain⟨q',vs',rfl,hq',rvs'⟩:=rv2
      exact⟨q,q',vs,vs',rfl,SqT.of hq,SqT.of hq',fun hz hz'=>pp _ H2 ρ2 (ex1.trans ex2) rs2 (IZ rs2.hp hq rvs hz hq' rvs')⟩
end
end Fm
set_option Elab.async false
set_option linter.all false
set_option maxRecDepth 100000
namespace Fm
open PySem PySem.Spec L2 PySem.W PyProof.Rows
section
variable {X:Cx} {pos p:Pos}
theorem OG {a b:Expr} {fa fb:EF} (hc:X.calm=true) (hg:Gl X "min") (hm:X.mg "min" = none) (ha:ME X a fa) (hb:ME X b fb) (hs:starEach [a,b] X.env=(false,eval a X.env) :: starEach [b] X.env:=by rfl) (hs2:starEach [b] X.env=(false,eval b X.env) :: starEach [] X.env:=by rfl) (hpl:(backTo pos (starEach [b] X.env)).any (fun x=>x.1)=false:=by rfl):ME X (.Call (.Name "min" p) [a,b] [] pos) (IW fa fb):=by
  refine PE.imp (ii (FF hc) hg hm (by decide +kernel) (cr ha (cr hb eR hs2) hs) (he:=hs) (hpl:=hpl)) fun σ H Q ⟨ρ,σd,hd,rs,pp⟩=>⟨ρ,σd,hd,rs,?_⟩
  unfold IW at pp
  refine (bR.bind (R:=rD X.K) pp).imp fun v H1 ⟨ρ1,d,hd1,e1,rs1,rv,p1⟩ => ?_
  refine⟨ρ1,σd,hd1,rs1,(bR.bind (R:=rD X.K) p1).imp fun w H2 ⟨ρ2,k,hd2,e2,rs2,rw',p2⟩ => ?_⟩
  cases d<;>try exact p2.elim
  cases k<;>try exact p2.elim
  simp only [rD,RD] at rv rw'
  subst rv rw'
  exact⟨_,_,rfl,p2.here rs2 (by simp only [rD,RD])⟩
end
section
variable {prog:Program} {w:World} {A:Around} {E:Value→Shared→Prop} {s:Shared}
end
section
variable {X:Cx} {pos p:Pos}
end
end Fm
set_option Elab.async false
set_option linter.all false
set_option maxRecDepth 100000
namespace Fm
open PySem PySem.Spec L2
open AutoSeq1 (wpAny_loadPart')
open PyProof.Rows (Call_)
section
variable {X:Cx} {pos p tp:Pos} {elts:List Expr} {tk:Nat}
end
section
variable {X:Cx} {pos:Pos} {tg:Expr}
end
end Fm
set_option linter.all false
namespace Fm
end Fm
set_option Elab.async false
set_option linter.all false
set_option maxRecDepth 100000
namespace Fm
open PySem PySem.Spec L2
open PyProof.Rows (Call_)
section
variable {X:Cx} {pos p p2 pos2:Pos}
end
end Fm
set_option linter.all false
namespace Fm
end Fm
set_option linter.all false
namespace Fm
noncomputable section
open Classical
@[simp] def Rc (nl:Nat) (caps:List Nat) (a:EF) (tg:GF) (cs:List TF) (e:EF):LF:=fun σ h=>match a σ h with
  | .ok (.ref n) h=>match h[n]? with
    | some (.lst l)=>kw (fun h=>h[n]? = some (.lst l)) tg cs e (Qi l) (iS nl caps σ) h
    | _=>.bad
  | .ok _ _=>.bad
  | .exc x h=>.exc x h
  | .bad=>.bad
end
@[simp] def AA (x:EF) (L:LF):EF:=fun σ h=>(x σ h).bind fun p h=>match p with
  | .ref n=>match h[n]? with
    | some (.lst _)=>(L σ h).bind fun ds h=>match h[n]? with
      | some (.lst l)=>if l.length + ds.length≤SZ then .ok .non (h.set n (.lst (l++ds))) else .bad
      | _=>.bad
    | _=>.bad
  | _=>.bad
end Fm
set_option Elab.async false
set_option linter.all false
set_option maxRecDepth 100000
namespace Fm
open PySem PySem.Spec L2
section
variable {X:Cx} {pos:Pos} {scope:Scope} {own capn:List Str} {caps:List Nat}
end
section
variable {X:Cx}
theorem LJ {o e:Expr} {fo:EF} {L:LF} {apos cpos:Pos} (ho:ME X o fo) (he:MF X e L) (hbase:attributeBase o "extend" X.env (eval o X.env)=eval o X.env:=by rfl)
    (hfew:((backTo cpos (starEach [e] X.env)).all (fun x => !x.1) && (backToKw cpos (keywordEach [] X.env)).all (fun x=>x.1.isSome)
      && decide (([e] : List Expr).length + ([] : List Keyword).length + (if ([] : List Keyword).isEmpty then 0 else 1) < 30))=true:=by rfl)
    (hline:(apos.endLine == cpos.line)=true:=by rfl) (hs:starEach [e] X.env=(false,eval e X.env) :: starEach [] X.env:=by rfl) :
    ME X (.Call (.Attribute o "extend" apos) [e] [] cpos) (AA fo L):=by
  refine PE.imp (M8 PySem.F.plainAttrs_list PySem.F.slot_list_extend PySem.F.type_list_extend FH ho (cr he eR hs) hbase hfew hline hs) fun σ H Q ⟨ρ,σd,hd,rs,pp⟩=>⟨ρ,σd,hd,rs,?_⟩
  unfold AA at pp
  refine (bR.bind (R:=rD X.K) pp).imp fun v H1 ⟨ρ1,d,hd1,e1,rs1,rv,p1⟩ => ?_
  cases d<;>try exact p1.elim
  rename_i n
  simp only [rD,RD] at rv
  obtain⟨a,ha,rfl⟩:=rv
  simp only at p1
  cases c1:hd1[n]? with
  | none=>rw [c1] at p1;exact p1.elim
  | some cell1 =>
    rw [c1] at p1
    cases cell1 with
    | dct l=>exact p1.elim
    | lst l1 =>
      obtain⟨vs,hv,_⟩:=rs1.hp.cel n _ a c1 ha
      simp only at p1
      refine⟨.inl ⟨rfl,vs,SqL.of hv⟩,ρ1,σd,hd1,rs1,?_⟩
      cases c2:L σd hd1 with
      | exc z h7=>rw [c2] at p1;exact p1.elim
      | bad=>rw [c2] at p1;exact p1.elim
      | ok ds hd2 =>
        rw [c2] at p1
        simp only [aH] at p1
        intro q ws H2 ρ2 e2 rs2 hq0 hq hn rws
        cases c:hd2[n]? with
        | none=>rw [c] at p1;exact p1.elim
        | some cell =>
          rw [c] at p1
          cases cell with
          | dct l=>exact p1.elim
          | lst l =>
            simp only at p1
            split at p1
            · rename_i hz
              have ha2:=e2.get ha
              obtain⟨vs2,hv2,rvs2⟩:=rs2.hp.cel n _ a c ha2
              refine⟨a,q,vs2,ws,rfl,rfl,hv2,hq,?_,?_⟩
              · rw [← rvs2.length,← rws.length];exact Nat.le_trans hz (by rw [sizeLine_eq];decide)
              · have hn:n < hd2.length:=(List.getElem?_eq_some_iff.mp c).1
                have rh:=rs2.hp.write ha2 hn (RDs.append rvs2 rws)
                have ex:Ext ρ2 H2 ρ2 (upd H2 a (.lst (vs2++ws))):=Ext.write (List.mem_of_getElem? ha2)
                exact (p1.ext e2).at ex (rs2.ext ex rh) (by simp only [rD,RD])
            · exact p1.elim
end
end Fm
set_option Elab.async false
set_option linter.all false
set_option maxRecDepth 100000
namespace L2
open PySem PySem.Spec PyProof.Rows PySem.W PySem.Builtin PySem.Builtin.ObjectAttr PySem.Builtin.Getset_descriptor
structure sE (K:PySem.W.Frag) (D:Addr):Prop where
  ga:PySem.W.findIn K (.ref D) "__getattribute__" = some (some (.builtin "BaseException.__getattribute__"))
  gt:PySem.W.findIn K (.ref D) "__getattr__" = some none
  cl:PySem.W.findIn K (.ref D) "__class__" = some (some (.builtin "object.__class__"))
  be:PySem.W.subIn K (.ref D) (.type "BaseException")=some true
  ob:PySem.W.mroIn K D (.type "object")=some true
  is:(PySem.W.clsIn K D).isSome=true
section
variable {prog:Program} {w:World} {A:Around} {E:Value→Shared→Prop} {K:PySem.W.Frag} {D:Addr} {h:Heap} {g:Array GenState} {d:Drawn} {t:Nat} {os:OsState} {a:Addr} {o:Obj} {vs:Array Value}
theorem rW.type {M:Model}(I:rW h a D o):PySem.W.Looks M h (typeOf (.ref a)) (.ref D):=I.cls ▸ (PySem.W.Looks.ld I.at_).andThen .now
theorem OH {R:Result→Shared→Prop} {tp:Value} (X:K.In h) (I:rW h a D o) (hm:PySem.W.mroIn K D (.type "object")=some true) (hq:R (.ok (.ret (.ref D))) ⟨h,g,d,t,os⟩) :
    codeAny (model prog w) A (.call (.builtin "getset_descriptor.__get__") ⟨[.builtin "object.__class__",.ref a,tp],[]⟩) R ⟨h,g,d,t,os⟩:=by
  have hT5:(⟨h,g,d,t,os⟩ : Shared).TypeIs (.builtin "object.__class__") "getset_descriptor" := F.typeOf_object_class
  have L0:=I.type (M:=model prog w)
  have L1:=PySem.W.looks_mroIn (M:=model prog w) X hm
  refine codeAny_call_builtin F.slot_gs_get.plain F.entry_gs_get (F.slot_gs_get.check _ _ _ _ _ _ _ _ hT5 (F.args_gs_get _ _ _) ?_)
  unfold Builtin.«getset_descriptor.__get__» descrGet
  rw [PySem.W.dga_obj]
  refine wpAny_bind (wpAny_pure ?_);unfold descrGetter descrCheckInstance descrNameAndClass isInstance
  simp only [KF.owner_class]
  repeat (first|with_reducible refine L0.at ?_|with_reducible refine L1.at ?_|lk)
  refine⟨Code.quiet_builtin _ (by decide +kernel),codeAny_builtin F.entry_object_class ?_⟩
  unfold Builtin.«object.__class__» shownTypeOf
  repeat (first|with_reducible refine L0.at ?_|lk)
  exact hq
theorem Jb {tk:Tok}{Q:Fin→Shared→Prop}(Z:sE K D)(X:K.In h)(I:rW h a D o)(hq:Q (.done (.ret (.ref D))) ⟨h,g,d,t,os⟩) :
    wpAny (model prog w) A (Builtin.«object.__getattribute__» ⟨[.ref a,.str "__class__" tk],[]⟩) Q E ⟨h,g,d,t,os⟩:=by
  have L0:=I.type (M:=model prog w)
  have L1:=PySem.W.looks_findIn (M:=model prog w) X Z.cl
  have hT5:(⟨h,g,d,t,os⟩ : Shared).TypeIs (.builtin "object.__class__") "getset_descriptor" := F.typeOf_object_class
  have f5:=F.typeOf_object_class
  have f6:=F.slot_gs_get.lookup
  have f7:=F.slot_gs_set.lookup
  repeat (any_goals (first|assumption|with_reducible refine L0.at ?_|with_reducible refine L1.at ?_|wp_step))
  refine OH X I Z.ob ?_
  repeat (any_goals (first|assumption|wp_step))
theorem Jc {M:Model}{nameV:Value}{Q:Unit→Shared→Prop}(Z:sE K D)(X:K.In h)(I:rW h a D o)(hq:Q () ⟨h,g,d,t,os⟩) :
    wpAny M A (checkBuiltinCall "BaseException.__getattribute__" ⟨[.ref a,nameV],[]⟩) Q E ⟨h,g,d,t,os⟩:=by
  have hk:builtinKind "BaseException.__getattribute__" = some .slot:=by decide +kernel
  have hsplit:splitId "BaseException.__getattribute__" = some ("BaseException", "__getattribute__"):=by decide +kernel
  have ha:=F.args_bexc_ga (.ref a) nameV
  have L0:=I.type (M:=M)
  have L1:=PySem.W.looks_subIn (M:=M) X Z.be
  simp only [checkBuiltinCall,hk,hsplit]
  refine wpAny_bind ?_
  unfold isInstance
  repeat (first|with_reducible refine L0.at ?_|with_reducible refine L1.at ?_|wp_step)
  exact hq
theorem LK {tk:Tok}{R:Result→Shared→Prop}(Z:sE K D)(X:K.In h)(I:rW h a D o)(hq:R (.ok (.ret (.ref D))) ⟨h,g,d,t,os⟩) :
    codeAny (model prog w) A (.call (.builtin "BaseException.__getattribute__") ⟨[.ref a,.str "__class__" tk],[]⟩) R ⟨h,g,d,t,os⟩ :=
  codeAny_call_builtin F.attr_ValueError.ga.plain F.entry_bexc_ga (Jc Z X I (Jb Z X I hq))
theorem Qj {tk:Tok}{fill expr:Bool}{Q:Value→Shared→Prop}(Z:sE K D)(X:K.In h)(I:rW h a D o)(hq:Q (.ref D) ⟨h,g,d,t,os⟩) :
    wpAny (model prog w) A (getAttrBy (.ref a) (.str "__class__" tk) fill expr) Q E ⟨h,g,d,t,os⟩:=by
  have f3:=F.attr_ValueError.ga.bind (.ref a)
  have hx0:(expr && onTheHeap (Value.builtin "BaseException.__getattribute__"))=false:=by cases expr<;>rfl
  have hx2:(Value.builtin "BaseException.__getattribute__" == Value.builtin "object.__getattribute__")=false:=by decide +kernel
  have hx1:(onTheHeap (Value.ref D) && Value.builtin "BaseException.__getattribute__" == Value.builtin "object.__getattribute__")=false:=by rw [hx2];rfl
  have L0:=I.type (M:=model prog w)
  have L1:=PySem.W.looks_findIn (M:=model prog w) X Z.ga
  have L2:=PySem.W.looks_findIn (M:=model prog w) X Z.gt
  repeat (any_goals (first|assumption|with_reducible refine L0.at ?_|with_reducible refine L1.at ?_|with_reducible refine L2.at ?_|wp_step))
  refine LK Z X I ?_
  repeat (any_goals (first|assumption|wp_step))
theorem LM {Q:Option Value→Shared→Prop}(Z:sE K D)(X:K.In h)(I:rW h a D o)(hq:Q (some (.ref D)) ⟨h,g,d,t + 1,os⟩) :
    wpAny (model prog w) A (getAttr? (.ref a) "__class__") Q E ⟨h,g,d,t,os⟩:=by
  unfold getAttr? getAttrBy?
  repeat (any_goals (first|assumption|with_reducible apply Qj Z X I|wp_step))
theorem OI (Z:sE K D):PySem.W.KitX K (.ref a) (.ref D) (fun h=>∃ o,rW h a D o) where
  ty:=fun _ _ _ ⟨o,I⟩=>I.type
  it:=fun _ _ X _=>by
    obtain⟨cd,hc⟩:=Option.isSome_iff_exists.mp Z.is
    unfold PySem.W.clsIn at hc
    split at hc
    · rename_i c' d' cd' sl' ho
      intro A' Q' E' s' k q
      unfold isType loadHead
      exact wpAny_bind (wpAny_loadPart (k _ _ (X _ _ ho)) (wpAny_pure q))
    · cases hc
  ne:=fun h tp dd its n sl X htp=>by
    obtain⟨cd,hc⟩:=Option.isSome_iff_exists.mp Z.is
    refine Bool.eq_false_iff.mpr fun q => ?_
    have e:D=tp:=Value.ref.inj (beq_iff_eq.mp q)
    subst e
    unfold PySem.W.clsIn at hc
    split at hc
    · rename_i c' d' cd' sl' ho
      have z:=(X _ _ ho).symm.trans htp
      cases z
    · cases hc
  ca:=fun {_ _ _ _ _ s} X ⟨o,I⟩ k=>by obtain⟨h,g,d,t,os⟩:=s;exact LM Z X I k
theorem Jd {M:Model} {B:Addr} {Q:Bool→Shared→Prop} (X:K.In h) (I:rW h a D o) (hs:PySem.W.subIn K (.ref D) (.ref B)=some true) (hb:PySem.W.subIn K (.ref B) (.type "BaseException")=some true)
    (hc:(PySem.W.clsIn K B).isSome=true) (ht:PySem.W.typeIn K (.ref B)=some (.type "type")) (hq:Q true ⟨h,g,d,t,os⟩):wpAny M A (excMatches (.ref a) (.ref B)) Q E ⟨h,g,d,t,os⟩:=by
  have L0:=I.type (M:=M)
  have L1:=PySem.W.looks_subIn (M:=M) X hs
  have L2:=PySem.W.looks_subIn (M:=M) X hb
  have L3:=PySem.W.looks_typeIn (M:=M) X ht
  have f:=tc_notTuple
  obtain⟨cd,hcd⟩:=Option.isSome_iff_exists.mp hc
  unfold PySem.W.clsIn at hcd
  split at hcd
  · rename_i c' d' cd' sl' ho
    have hB:=X _ _ ho
    unfold excMatches
    repeat (first|with_reducible refine L0.at ?_|with_reducible refine L1.at ?_|with_reducible refine L2.at ?_|with_reducible refine L3.at ?_|with_reducible refine wpAny_loadPart_at hB ?_|wp_step)
    exact hq
  · cases hcd
end
end L2
set_option Elab.async false
set_option linter.all false
set_option maxRecDepth 100000
namespace L2
open PySem PySem.Spec PyProof.Rows
section
variable {P:Program} {w:World} {H:Hp} {h:Heap} {a:Addr} {o:HO}
theorem d7.obj (x:d7 P w H h a o):∃ ob,h.get? a=some ob:=by
  induction o with
  | lst xs=>obtain⟨_,_,_,_,e⟩:=x;exact⟨_,e⟩
  | tup xs=>obtain⟨_,_,_,ob,e,_⟩:=x;exact⟨_,e⟩
  | dK kvs=>obtain⟨_,_,_,_,o,_,_,e,_⟩:=x;exact⟨_,e⟩
  | dT kvs=>obtain⟨_,_,_,_,o,_,_,e,_⟩:=x;exact⟨_,e⟩
  | set S n=>obtain⟨o,_,_,_,e,_⟩:=x;exact⟨_,e⟩
  | ins C dx fs=>obtain⟨_,_,_,e,_⟩:=x;exact⟨_,e⟩
  | own y=>obtain⟨_,e⟩:=x;exact⟨_,e⟩
  | xd fs=>obtain⟨_,⟨ob,_,_,e,_⟩,_⟩:=x;exact⟨_,e⟩
  | rng lo hi=>obtain⟨_,_,_,e⟩:=x;exact⟨_,e⟩
  | frz ob u ih=>obtain⟨e,_⟩:=x;exact⟨_,e⟩
  | tbl ps=>exact⟨_,x⟩
  | met f y=>exact⟨_,x⟩
  | ext φ => obtain⟨_,⟨ob,e⟩,_⟩:=x;exact⟨_,e⟩
end
structure Cov (X:Cx) (pins:List (Addr × Obj)) (H:Hp) (B:Heap):Prop where
  trk:∀ b u,H b=some u → ∃ o,B.get? b=some o
  old:∀ b o,X.s₀.heap.get? b=some o→b∉frs X.stack→b∉X.ex → ∃ o,B.get? b=some o
  pin:∀ p∈X.pn++pins,∃ o,B.get? p.1=some o
section
variable {X:Cx} {pins:List (Addr × Obj)} {σ:St} {H:Hp} {s:Shared} {B h':Heap}
theorem Inv.flown (I:Inv X pins σ H s)(b1:B.StaysIn s.heap)(b2:B.StaysIn h')(sm:s.heap.UpToSlots h')(c:Cov X pins H B)(t':Nat):Inv X pins σ H { s with heap:=h',toks:=t' }:=by
  have same:∀ b o,(∃ u,B.get? b=some u)→s.heap.get? b=some o→h'.get? b=some o:=fun b o ⟨u,e⟩ q=>by
    have:=b1 b u e
    rw [q] at this;cases this
    exact b2 b _ e
  have nst:∀ b o,X.s₀.heap.get? b=some o→b∉X.fs→b∉frs X.stack:=fun b o e hb hs=>by
    rcases List.mem_cons.mp (I.stkSub b hs) with z|z
    · exact absurd z (Nat.ne_of_lt (Nat.lt_of_lt_of_le (Heap.lt_size e) I.ok.above))
    · exact hb z
  have fsl:∀ b o,b∈X.fs→s.heap.get? b=some o → ∃ sl,h'.get? b=some { o with slots:=sl }:=fun b o hb e=>by
    obtain⟨_,o',ho',nf⟩:=I.funs.mem hb
    rw [e] at ho';cases ho'
    exact sm b o e nf
  have cellK:∀ c v,s.heap.IsCell c v→h'.IsCell c v:=fun c v ⟨o,ho,hd⟩=>by
    obtain⟨sl,q⟩:=sm c o ho (fun vs z=>by rw [hd] at z;cases z)
    exact⟨_,q,hd⟩
  refine⟨I.ok,I.os,I.bare,⟨fun b o e n hb hx => ?_,fun b o e n hb hx => ?_,I.base.free,fun b o e hx => ?_,I.base.tups,I.base.frzs,I.base.tbls⟩,?_,fun x c e => ?_,I.free,I.freeC,fun p hp => ?_,fun b u e => ?_,I.len⟩
  · exact same b o (c.old b o e (nst b o e hb) hx) (I.base.keep b o e n hb hx)
  · obtain⟨sl,e1⟩:=I.base.slot b o e n hb hx
    obtain⟨sl',e2⟩:=fsl b _ hb e1
    exact⟨sl',e2⟩
  · obtain⟨o',e1⟩:=I.base.there b o e hx
    by_cases hb:b∈X.fs
    · obtain⟨sl,e2⟩:=fsl b o' hb e1;exact⟨_,e2⟩
    · exact⟨o',same b o' (c.old b o e (nst b o e hb) hx) e1⟩
  · obtain⟨m,hn,hl⟩:=I.loc
    refine⟨m,sm.ns hn,fun i x v e1 e2 e3 => ?_⟩
    obtain⟨u,r,l⟩:=hl i x v e1 e2 e3
    refine⟨u,r,?_⟩
    rcases l with l|⟨k,c,e,z⟩
    · exact .inl l
    · exact .inr ⟨k,c,e,cellK c _ z⟩
  · obtain⟨v,z⟩:=I.cell x c e
    exact⟨v,cellK c v z⟩
  · obtain⟨e,n,ne,nf,d⟩:=I.pin p hp
    exact⟨same _ _ (c.pin p hp) e,n,ne,nf,d⟩
  · refine (I.hok b u e).stay (fun c' v hc q=>same c' v ?_ q) (fun _ q=>q) fun _ _ q=>q
    rcases hc with z|z
    · rw [z];exact c.trk b u e
    · exact c.trk c' _ z
def XF (X:Cx) (E:Addr→Hp→Prop) (e:Value) (s':Shared):Prop:=∃ pins σ H a C B t,e=.ref a∧Inv X pins σ H s'∧Heap.FlyingW B X.stack a (.ref C) (.ref t) s'.heap∧Cov X pins H B∧E C H
def XAt (X:Cx) (pins:List (Addr × Obj)) (σ:St) (H:Hp) (a C:Addr) (s':Shared):Prop :=
  (∃ s1 h' vs,Inv X pins σ H s1∧Heap.MadeExcOf s1.heap h' a (.ref C) vs∧s' = { s1 with heap:=h' }) ∨
  (∃ B t,Inv X pins σ H s'∧Heap.FlyingW B X.stack a (.ref C) (.ref t) s'.heap∧Cov X pins H B)
def XP (X:Cx) (E:Addr→Hp→Prop) (e:Value) (s':Shared):Prop:=∃ pins σ H a C,e=.ref a∧XAt X pins σ H a C s'∧E C H
def CX1 (P:Program) (w:World):CXT:=fun outer H s E e s'=>∃ a C B t H',e=.ref a∧s'.os=s.os∧AllBare s'.gens∧Un (frs outer) [] H H' s.heap s'.heap∧HOk P w H' s'.heap ∧
  Heap.FlyingW B outer a (.ref C) (.ref t) s'.heap∧(∀ b u,H' b=some u → ∃ o,B.get? b=some o)∧(∀ b o,s.heap.get? b=some o→b∉frs outer → ∃ o,B.get? b=some o)∧E (.ref C) none H'
theorem XF.xp {E:Addr→Hp→Prop}{e:Value}{s':Shared}:XF X E e s'→XP X E e s':=fun ⟨pins,σ,H,a,C,B,t,he,I,fl,c,q⟩=>⟨pins,σ,H,a,C,he,.inr ⟨B,t,I,fl,c⟩,q⟩
theorem Qk {E:XK}{E':Addr→Hp→Prop}{R:Value→Shared→Prop}(h:∀ C H,E (.ref C) none H→E' C H)(hR:∀ e s',XF X E' e s'→R e s'):rS (CX1 X.prog X.w) (X.wish R) E:=by
  rintro pins σ H s e s' I ⟨a,C,B,t,H',he,os,bare,un,hok,fl,trk,old,q⟩
  have I0:=I.unwish
  have I':Inv X pins σ H' s':=I0.call' (ch:=[]) os un hok bare (fun b z=>absurd z (by simp))
  refine hR _ _ ⟨pins,σ,H',a,C,B,t,he,I',fl,⟨trk,fun b o e hb hx => ?_,fun p hp => ?_⟩,h C H' q⟩
  · obtain⟨o',e'⟩:=I0.base.there b o e hx
    exact old b o' e' hb
  · obtain⟨e,n,ne,nf,_⟩:=I0.pin p hp
    exact old p.1 p.2 e fun z=>(List.mem_cons.mp (I0.stkSub p.1 z)).elim ne nf
theorem Je (I:Inv X pins σ H s):Cov X pins H (PySem.W.hideAll s.heap (frs X.stack)) where
  trk:=fun b u e=>by
    obtain⟨o,q⟩:=(I.hok b u e).obj
    refine⟨o,PySem.W.hideAll_get _ q fun z => ?_⟩
    rw [I.stkFree b z] at e;cases e
  old:=fun b o e hb hx=>by
    obtain⟨o',e'⟩:=I.base.there b o e hx
    exact⟨o',PySem.W.hideAll_get _ e' hb⟩
  pin:=fun p hp=>by
    obtain⟨e,n,ne,nf,_⟩:=I.pin p hp
    exact⟨_,PySem.W.hideAll_get _ e fun z=>(List.mem_cons.mp (I.stkSub p.1 z)).elim ne nf⟩
end
theorem mX {P:Program}{w:World}{K:PySem.W.Frag}{mg:Str→Option Value}{base:Heap}{N:List Str}{qual:Str}{scope:Scope}{f:Addr}{cd:Value}{A:Around}{outer:List Env}{s:Shared}{H:Hp}{E:XK}{e:Value}{s':Shared}
    (h:XP (qK (CX1 P w) P w K mg base N qual scope f cd A outer s H E) (fun C H'=>E (.ref C) none H') e s'):(qK (CX1 P w) P w K mg base N qual scope f cd A outer s H E).xe e s':=by
  obtain⟨pins,σ,H',a,C,rfl,hx,q⟩:=h
  have fin:∀ {s1:Shared} {B:Heap} {h':Heap} {t:Addr},Inv (qK (CX1 P w) P w K mg base N qual scope f cd A outer s H E) pins σ H' s1→B.StaysIn s1.heap→s1.heap.UpToSlots h' →
      Cov (qK (CX1 P w) P w K mg base N qual scope f cd A outer s H E) pins H' B→Heap.FlyingW B outer a (.ref C) (.ref t) h'→CX1 P w outer H s E (.ref a) { s1 with heap:=h' }:=by
    intro s1 B h' t I b1 sm c fl
    have J:=I.flown (h':=h') b1 fl.1 sm c s1.toks
    refine⟨a,C,B,t,H',rfl,J.os,J.bare,J.base,J.hok,fl,c.trk,fun b o e hb=>c.old b o e (fun z => ?_) (fun z=>absurd (show b∈([] : List Addr) from z) (by simp)),q⟩
    rcases List.mem_cons.mp (I.stkSub b z) with y|y
    · exact absurd y (Nat.ne_of_lt (Nat.lt_of_lt_of_le (Heap.lt_size e) I.ok.above))
    · exact hb y
  rcases hx with ⟨s1,h1,vs,I,mk,rfl⟩|⟨B,t,I,fl,c⟩
  · have hin:∀ env∈(envOfC qual scope s.heap.objs.size f cd :: outer),∀ b,env.frame=some b→b∈frs (envOfC qual scope s.heap.objs.size f cd :: outer):=fun env he b hb=>List.mem_filterMap.mpr ⟨env,he,hb⟩
    refine wpAny_leaves_madeW (base:=PySem.W.hideAll s1.heap (frs (envOfC qual scope s.heap.objs.size f cd :: outer))) (I.ok.frames) rfl (fun b o q=>PySem.W.of_hideAll _ q) (PySem.W.funFrames_hide I.stack hin) mk fun h' t x1 x2 x3 x4 => ?_
    exact fin (s1:=s1) (h':=h') (t:=t) I (fun b o q=>PySem.W.of_hideAll _ q) ((Heap.UpToSlots.of_keeps mk.keeps).trans x4) (Je I) x1
  · exact wpAny_leaves_onW I.ok.frames rfl fl fun h' x1 x2=>fin I fl.1 x2 c x1
end L2
set_option Elab.async false
set_option linter.all false
set_option maxRecDepth 100000
namespace L2
open PySem PySem.Spec PyProof.Rows
section
variable {X:Cx} {E:Addr→Hp→Prop} {x:Str} {C:Addr} {bm:List Value} {B newId initId:String} {np cpos pos:Pos} {e₀ : Expr} {rest:List Expr} {ta:TA}
def OJ (C:Addr) (E:Addr→Hp→Prop) (ta:TA):TS:=fun _ σ H=>ta σ H fun vs H1=>vs.length≤sizeLine∧E C H1
theorem Jf (O:OwnCls x C bm newId X.mg X.base) (FB:ExcBaseFacts B newId initId bm) (hc:X.calm=true) (hg:Gl X x) (ha:PA (X.wish (XP X E)) (e₀ :: rest) ta) (hdb:(x == ("__debug__" : Str))=false:=by decide)
    (he:starEach (e₀ :: rest) X.env=(false,eval e₀ X.env) :: starEach rest X.env:=by rfl) (hpl:(backTo cpos (starEach rest X.env)).any (·.1)=false:=by rfl) :
    PS (X.wish (XP X E)) (.Raise (some (.Call (.Name x np) (e₀ :: rest) [] cpos)) none pos) (OJ C E ta):=by
  intro pins s σ H D I h
  obtain⟨tl,N,nm,q,bs,hdct,sn,sub,ab,col,dd,k0,k1,k2,k3,k5,mN,hC,hN,hni,T⟩:=O.obj
  have hp2:(backTo cpos (starEach (e₀ :: rest) X.env)).any (·.1)=false:=by
    rw [he];show (false || (backTo cpos (starEach rest X.env)).any (·.1))=false;rw [hpl];rfl
  refine wpAny_Raise_call_subT (C:=C) (nm:=nm) (q:=q) (N:=N) (bs:=bs) (bm:=tl) (hdct:=hdct) (sn:=sn) (sub:=sub) (ab:=ab) (col:=col) (dd:=dd) (k0:=k0) (k1:=k1) (k2:=k2) (k3:=k3) (k5:=k5) (mN:=mN)
    FB (T.hasType FB.hasBase) (I.ok.hd hc) hp2 hni (xO I hg O.bound ⟨rfl,?_⟩ hdb)
  have h2:=ha cpos pins s σ H _ I h
  have he':starEach (e₀ :: rest) (X.wish (XP X E)).env=(false,eval e₀ X.env) :: starEach rest X.env:=he
  rw [he'] at h2 ⊢
  exact Calls.evalArgs_plain (wpAny_mono h2 (fun us s2 ⟨vs,H1,I1,r,q1⟩=>⟨rfl,by rw [← r.length];exact q1.1,I1.bk _ _ hC,hN.keeps I1.bk,T.keeps I1.bk,fun h' e mk=>⟨pins,σ,H1,e,C,rfl,.inl ⟨s2,h',us,I1.unwish,mk,rfl⟩,q1.2⟩⟩) fun _ _ z=>z)
end
section
variable {P:Program} {w:World} {K:PySem.W.Frag} {mg:Str→Option Value} {base:Heap}
end
section
variable {X:Cx} {pins:List (Addr × Obj)} {σ:St} {H:Hp} {s:Shared}
theorem Inv.exc {B:Heap}{a C t:Addr}(I:Inv X pins σ H s)(fl:Heap.FlyingW B X.stack a (.ref C) (.ref t) s.heap)(c:Cov X pins H B):Inv X pins σ (upd H a (rX a C)) s:=by
  obtain⟨oe,vs,hoe,hcl,hdt,_⟩:=fl.first
  have hB:=fl.2.1
  have hn:H a=none:=by
    cases e:H a with
    | none=>rfl
    | some u=>obtain⟨o,q⟩:=c.trk a u e;rw [hB] at q;cases q
  have nfr:a∉frs X.stack:=fun z=>by
    obtain⟨_,o,ho,nf⟩:=I.stack.mem z
    rw [hoe] at ho;cases ho;exact nf vs hdt
  have nold:∀ b o,X.s₀.heap.get? b=some o→b∉X.ex→b≠a:=fun b o e hx z=>by
    subst z
    obtain⟨o',q⟩:=c.old _ o e nfr hx
    rw [hB] at q;cases q
  have keepH:∀ b u,H b=some u→upd H a (rX a C) b=some u:=fun b u e=>by rw [aF (bD e hn)];exact e
  refine⟨I.ok,I.os,I.bare,⟨I.base.keep,I.base.slot,fun b o e n hx => ?_,I.base.there,fun b xs e=>keepH b _ (I.base.tups b xs e),fun b o u e=>keepH b _ (I.base.frzs b o u e),fun b ps e => ?_⟩,I.loc,I.cell,?_,fun x c' e => ?_,fun p hp => ?_,fun b u e => ?_,I.len⟩
  · rw [aF (nold b o e hx)];exact I.base.free b o e n hx
  · obtain⟨m,q⟩:=I.base.tbls b ps e
    exact⟨m,keepH b _ q⟩
  · rw [aF]
    · exact I.free
    · intro z
      obtain⟨m,⟨o,es,ep,ho,hd,_⟩,_⟩:=I.loc
      rw [z,hoe] at ho;cases ho;rw [hdt] at hd;cases hd
  · rw [aF]
    · exact I.freeC x c' e
    · intro z
      obtain⟨v,o,ho,hd⟩:=I.cell x c' e
      rw [z,hoe] at ho;cases ho;rw [hdt] at hd;cases hd
  · obtain⟨e,n,ne,nf,d⟩:=I.pin p hp
    refine⟨e,?_,ne,nf,d⟩
    rw [aF]
    · exact n
    · intro z
      obtain⟨o,q⟩:=c.pin p hp
      rw [z,hB] at q;cases q
  · by_cases hb:b=a
    · subst hb
      rw [bh] at e;cases e
      exact⟨⟨oe,hoe,hcl⟩,⟨oe,hoe⟩,fun h1 h2 ⟨o,ho,hc⟩ k=>⟨o,k o ho,hc⟩⟩
    · rw [aF hb] at e
      exact (I.hok b u e).stay (fun _ _ _ q=>q) (fun b' q=>keepH b' _ q) fun b' xs q=>keepH b' _ q
theorem Inv.goes {M:Model}{A:Around}{E:Value→Shared→Prop}{j:Nat}{n:Str}{pos:Pos}{Q:Unit→Shared→Prop}(I:Inv X pins σ H s)(hN:X.N.Nodup)(hj:X.N[j]? = some n)(hl:X.env.kindOf n=some .local)
    (h:∀ s',Inv X pins (σ.set j none) H s'→Q () s'):wpAny M A (do bindName X.env n .none;unbindBehindTheSuite X.env n pos) Q E s:=by
  obtain⟨m,hn,hlo⟩:=id I.loc
  have hcls:(X.env.scope.kind == .class || (X.env.scope.kind == .module && X.env.locals != X.env.globals))=false:=by rw [I.ok.kind];rfl
  obtain⟨oL,_,_,hoL,_⟩:=id hn
  refine wpAny_nameGoes_keeps hl hn hcls fun h' v hn' hs => ?_
  have old:∀ b o,X.s₀.heap.get? b=some o→b≠X.env.locals:=fun b o e=>Nat.ne_of_lt (Nat.lt_of_lt_of_le (Heap.lt_size e) I.ok.above)
  refine h _ ⟨I.ok,I.os,I.bare,⟨fun b o e n hb hx=>(hs.2 b (old b o e)).trans (I.base.keep b o e n hb hx),fun b o e n hb hx => ?_,I.base.free,fun b o e hx => ?_,I.base.tups,I.base.frzs,I.base.tbls⟩,⟨_,hn',fun i y v' e1 e2 e3 => ?_⟩,fun y c e => ?_,I.free,I.freeC,fun p hp => ?_,fun b u e => ?_,by simpa using I.len⟩
  · obtain⟨sl,e1⟩:=I.base.slot b o e n hb hx
    exact⟨sl,(hs.2 b (old b o e)).trans e1⟩
  · obtain⟨o',e1⟩:=I.base.there b o e hx
    exact⟨o',(hs.2 b (old b o e)).trans e1⟩
  · by_cases hi:i=j
    · subst hi
      by_cases hlt:i < σ.length
      · rw [List.getElem?_set_self hlt] at e2;cases e2
      · rw [List.getElem?_eq_none (by simpa using hlt)] at e2;cases e2
    · rw [List.getElem?_set_ne (Ne.symm hi)] at e2
      obtain⟨u',r',q⟩:=hlo i y v' e1 e2 e3
      refine⟨u',r',?_⟩
      rcases q with ⟨k,e⟩|⟨k,c,e,z⟩
      · refine .inl ⟨k,?_⟩
        have:y≠n:=fun e=>hi (rJ hN e1 (e ▸ hj))
        simp [this,e]
      · exact .inr ⟨k,c,e,z.sameBut hs (I.cne y c e)⟩
  · obtain⟨w',z⟩:=I.cell y c e
    exact⟨w',z.sameBut hs (I.cne y c e)⟩
  · obtain⟨e,n,ne,nf,d⟩:=I.pin p hp
    exact⟨(hs.2 p.1 ne).trans e,n,ne,nf,d⟩
  · refine (I.hok b u e).stay (fun c w' hc q=>(hs.2 c ?_).trans q) (fun _ q=>q) fun _ _ q=>q
    rintro rfl
    rcases hc with z|z
    · rw [← z,I.free] at e;cases e
    · rw [I.free] at z;cases z
abbrev Cx.sui (X:Cx) (a:Addr):Cx:={ X with A:=X.A.mark (some (.ref a)),calm:=false,xe:=fun _ _=>False }
theorem Inv.marked (I:Inv X pins σ H s)(a:Addr):Inv (X.sui a) pins σ H s :=
  ⟨⟨I.ok.mod,I.ok.kind,I.ok.glob,I.ok.blt,I.ok.above,I.ok.inj,I.ok.has,I.ok.cab,(fun z=>by cases z),I.ok.frames,I.ok.stk,I.ok.exf,I.ok.bs,I.ok.bsz,I.ok.noex,I.ok.exfs,I.ok.funs,I.ok.frf⟩,I.os,I.bare,I.base,I.loc,I.cell,I.free,I.freeC,I.pin,I.hok,I.len⟩
theorem Inv.unmark (hh:X.calm=true→X.A.handled=none){a:Addr}(I:Inv (X.sui a) pins σ H s):Inv X pins σ H s :=
  ⟨⟨I.ok.mod,I.ok.kind,I.ok.glob,I.ok.blt,I.ok.above,I.ok.inj,I.ok.has,I.ok.cab,hh,I.ok.frames,I.ok.stk,I.ok.exf,I.ok.bs,I.ok.bsz,I.ok.noex,I.ok.exfs,I.ok.funs,I.ok.frf⟩,I.os,I.bare,I.base,I.loc,I.cell,I.free,I.freeC,I.pin,I.hok,I.len⟩
abbrev Cx.pin (X:Cx) (q:List (Addr × Obj)):Cx:={ X with pn:=q }
theorem Inv.pinq (I:Inv X pins σ H s):Inv (X.pin (X.pn++pins)) [] σ H s :=
  ⟨⟨I.ok.mod,I.ok.kind,I.ok.glob,I.ok.blt,I.ok.above,I.ok.inj,I.ok.has,I.ok.cab,I.ok.hd,I.ok.frames,I.ok.stk,I.ok.exf,I.ok.bs,I.ok.bsz,I.ok.noex,I.ok.exfs,I.ok.funs,I.ok.frf⟩,I.os,I.bare,I.base,I.loc,I.cell,I.free,I.freeC,fun p hp=>I.pin p (by simpa using hp),I.hok,I.len⟩
theorem Inv.unpin {pins':List (Addr × Obj)}(I:Inv (X.pin (X.pn++pins)) pins' σ H s):Inv X pins σ H s :=
  ⟨⟨I.ok.mod,I.ok.kind,I.ok.glob,I.ok.blt,I.ok.above,I.ok.inj,I.ok.has,I.ok.cab,I.ok.hd,I.ok.frames,I.ok.stk,I.ok.exf,I.ok.bs,I.ok.bsz,I.ok.noex,I.ok.exfs,I.ok.funs,I.ok.frf⟩,I.os,I.bare,I.base,I.loc,I.cell,I.free,I.freeC,fun p hp=>I.pin p (List.mem_append_left _ hp),I.hok,I.len⟩
end
section
variable {X:Cx} {body:List Stmt} {x n c:Str} {M:Addr} {i j:Nat} {np cp vp ap hp pos:Pos} {tb:(Addr→Hp→Prop)→TS}
end
end L2
namespace Fm
@[simp] def sF (c:String):SF:=fun σ h=>.exc (.exn c []) σ h
@[simp] def qO (t:TF) (a b:SF):SF:=fun σ h=>match t σ h with | .ok c h'=>if c then a σ h' else b σ h'|_=>.bad
end Fm
set_option Elab.async false
set_option linter.all false
set_option maxRecDepth 100000
namespace Fm
open PySem PySem.Spec L2 PyProof.Rows
section
variable (K:PySem.W.Frag) (mg:Str→Option Value)
def jm (ρ:List Addr) (H:Hp) (o:Out) (E:Addr→Hp→Prop) (En:rL):Prop:=match o with
  | .exc x _ hd=>∃ c l C,x=.exn c l∧mg (Str.ofString c)=some (.ref C) ∧ ∀ H' ρ',Ext ρ H ρ' H'→RH K ρ' H' hd→E C H'
  | .nx σ hd=>bZ K ρ H (.nx σ hd) En
  | .rt d hd=>bZ K ρ H (.rt d hd) En
  | .bk σ hd=>bZ K ρ H (.bk σ hd) En
  | .ct σ hd=>bZ K ρ H (.ct σ hd) En
  | .bad=>False
def AB (E:Addr→Hp→Prop) (f:SF):TS:=fun En σ H=>∃ ρ σd hd,RS K ρ H σd hd σ ∧ jm K mg ρ H (f σd hd) E En
def spX (F:Fn) (np:Nat):Sp:=fun vs H _ E=>∃ ρ hd ds,RH K ρ H hd∧RDs K ρ H ds vs∧ds.length=np ∧
  ∃ c l hd' C,F ds hd=.exc (.exn c l) hd'∧mg (Str.ofString c)=some (.ref C) ∧ ∀ H' ρ',Ext ρ H ρ' H'→RH K ρ' H' hd'→E (.ref C) none H'
end
section
variable {K:PySem.W.Frag} {mg:Str→Option Value} {ρ ρ':List Addr} {H H':Hp} {E:Addr→Hp→Prop} {En:rL}
theorem jm.ext {o:Out}(e:Ext ρ H ρ' H')(p:jm K mg ρ H o E En):jm K mg ρ' H' o E En:=by
  cases o with
  | exc x σ hd=>obtain⟨c,l,C,h1,h2,h3⟩:=p;exact⟨c,l,C,h1,h2,fun H2 ρ2 e2 r=>h3 H2 ρ2 (e.trans e2) r⟩
  | nx σ hd=>exact bZ.ext (o:=.nx σ hd) e p
  | rt d hd=>exact bZ.ext (o:=.rt d hd) e p
  | bk σ hd=>exact bZ.ext (o:=.bk σ hd) e p
  | ct σ hd=>exact bZ.ext (o:=.ct σ hd) e p
  | bad=>exact p
theorem Ext.sm {H2:Hp}(e:Ext ρ H ρ' H')(s:jh H' H2):Ext ρ H ρ' H2:=⟨e.pre,e.new,fun q u h n=>s q u (e.frame q u h n)⟩
end
abbrev Wi:=(Addr→Hp→Prop)→Value→Shared→Prop
def MX (X:Cx) (R:Wi) (s:Stmt) (f:SF):Prop:=∀ E,PS (X.wish (R E)) s (AB X.K X.mg E f)
def MXs (X:Cx) (R:Wi) (s:List Stmt) (f:SF):Prop:=∀ E,PSs (X.wish (R E)) s (AB X.K X.mg E f)
structure Rp (P:Program) (w:World) (K:PySem.W.Frag) (mg:Str→Option Value) (base:Heap) (x:Str) (k np:Nat) (F:Fn):Prop where
  ex:∃ f fd ps,mg x=some (.ref f)∧PySem.W.keepIn K (.ref f)=true∧lZ K fd ps []∧cy P w K mg base (CX1 P w) k f fd ps (spX K mg F np)
section
variable {X:Cx} {R:Wi} {pos p:Pos}
theorem Jg {n:String}{C:Addr}{bm:List Value}{B newId initId:String}{np cpos cp:Pos}{txt:Str}{j}(O:OwnCls (Str.ofString n) C bm newId X.mg X.base)(FB:ExcBaseFacts B newId initId bm)(hc:X.calm=true)(hg:Gl X (Str.ofString n))
    (hdb:(Str.ofString n == ("__debug__" : Str))=false:=by decide):MX X (XP X) (.Raise (some (.Call (.Name (Str.ofString n) np) [.Constant (.str txt) j cp] [] cpos)) none pos) (sF n):=fun E=>by
  refine PS.imp (Jf O FB hc hg (cr HM eR) hdb) fun En σ H ⟨ρ,σd,hd,rs,q⟩ => ?_
  obtain⟨c,l,C',h1,h2,h3⟩:=q
  cases h1
  rw [O.bound] at h2;cases h2
  exact⟨by show 1≤sizeLine;decide,h3 H ρ Ext.refl rs.hp⟩
end
section
variable {P:Program} {w:World} {K:PySem.W.Frag} {mg:Str→Option Value} {base:Heap}
end
end Fm
set_option Elab.async false
set_option linter.all false
set_option maxRecDepth 100000
namespace Fm
open PySem PySem.Spec L2 PyProof.Rows
def ip:V→Value | .ref a=>.ref a | .ty n=>.type n|_=>.none
def Jh:V→Bool | .ref _=>true | .ty _=>true|_=>false
theorem LN {v:V}{u:Value}(h:Jh v=true)(r:bT v u):u=ip v:=by
  cases v<;>first|exact r|cases h
section
variable {X:Cx} {pos p:Pos}
def Re (K:PySem.W.Frag):List V→Hp→VK→Prop:=fun xs H Q=>∃ a C v b,xs=[.ref a,v]∧Jh v=true∧H a=some (rX a C)∧sE K C∧PySem.W.kitOne K (.ref C) (ip v)=some b∧Q (.bl b) H
theorem Ji:ie X (.builtin "isinstance") (Re X.K):=by
  rintro pins s σ H xs us Q I r ⟨a,C,v,b,rfl,hc,ha,Z,e,q⟩
  obtain⟨u,u2,rfl,ru,ru2⟩:=bg.two r
  cases (show u=Value.ref a from ru)
  rw [LN hc ru2]
  have p0:=(I.hok a _ ha).1
  exact PySem.W.kia_one (OI Z) I.kIn p0 e (by intro z;cases z) fun tk=>⟨.bl b,H,I.tok tk,rfl,q⟩
end
end Fm
set_option Elab.async false
set_option linter.all false
set_option maxRecDepth 100000
namespace Fm
open PySem PySem.Spec L2 PyProof.Rows
abbrev Ql:List Value:=[.type "ValueError",.type "Exception",.type "BaseException",.type "object"]
theorem Jj {K:PySem.W.Frag}{h:Heap}{mg:Str→Option Value}{x:Str}{C:Addr}{bm:List Value}{id:String}(X:K.In h)(e:mg x=some (.ref C))(q:PySem.W.excIn K C bm id=true):OwnCls x C bm id mg h:=by
  refine⟨e,?_⟩
  unfold PySem.W.excIn at q;split at q
  · rename_i dd cd sl ho;split at q
    · rename_i C' bm' k0 k1 k2 k3 n k5 hm hs
      simp only [Bool.and_eq_true,beq_iff_eq,Bool.not_eq_true'] at q;obtain⟨⟨⟨⟨⟨rfl,rfl⟩,hdel⟩,ht⟩,hok⟩,hni⟩:=q
      obtain⟨nm,bs,mro,ns,qn,hd,sn,sub,ab,col,del⟩:=cd
      dsimp only at hm hdel hok hni;subst hm hdel
      have hsl:sl = #[k0,k1,k2,k3,some (.builtin n),k5]:=by obtain⟨l⟩:=sl;simp only at hs;rw [hs]
      subst hsl
      exact⟨bm',ns,nm,qn,bs,hd,sn,sub,ab,col,dd,k0,k1,k2,k3,k5,_,X _ _ ho,.of_isNs (PySem.W.isNs_of_in X hok),PySem.W.nsMap_none_of_in X hok hni,PySem.W.tail_of_in X ht⟩
    · cases q
  · cases q
end Fm
namespace Fm
def noX {α : Type}:Res α → Res α
  | .exc _ _=>.bad
  | r=>r
def fPl {α : Type} (f:Sd→Hd→Res α):Sd→Hd→Res α := fun σ h=>noX (f σ h)
def sPl (f:SF):SF:=fun σ h=>match f σ h with | .exc _ _ _=>.bad|o=>o
end Fm
set_option Elab.async false
set_option linter.all false
set_option maxRecDepth 100000
namespace L2
open PySem PySem.Spec PyProof.Rows
theorem Qm {X:Cx}{E:XK}{E':Addr→Hp→Prop}(h:∀ C H,E (.ref C) none H→E' C H)(hR:∀ e s',XF X E' e s'→X.xe e s'):rS (CX1 X.prog X.w) X E:=by
  intro pins σ H s e s' I q
  have:=Qk (X:=X) (R:=X.xe) h hR pins σ H s e s' (I.wish _) q
  exact this
end L2
namespace Fm
open PySem PySem.Spec L2 PyProof.Rows
section
variable (K:PySem.W.Frag) (mg:Str→Option Value)
def XC (ρ:List Addr) (H:Hp) (E:Addr→Hp→Prop) (x:D) (hd:Hd):Prop:=∃ c l C,x=.exn c l∧mg (Str.ofString c)=some (.ref C) ∧ ∀ H' ρ',Ext ρ H ρ' H'→RH K ρ' H' hd→E C H'
def gL {α β : Type} (R:VR α β) (ρ:List Addr) (H:Hp) (σd:Sd) (σ:L2.St) (r:Res α) (E:Addr→Hp→Prop) (Q : β → Hp→Prop):Prop:=match r with
  | .ok a hd'=>∀ b H' ρ',Ext ρ H ρ' H'→RS K ρ' H' σd hd' σ → R ρ' H' a b→Q b H'
  | .exc x hd'=>XC K mg ρ H E x hd'
  | .bad=>False
def Nd {α β : Type} (R:VR α β) (E:Addr→Hp→Prop) (f:Sd→Hd→Res α):L2.St→Hp→(β → Hp→Prop)→Prop:=fun σ H Q=>∃ ρ σd hd,RS K ρ H σd hd σ ∧ gL K mg R ρ H σd σ (f σd hd) E Q
def spY (F:Fn) (np:Nat):Sp:=fun vs H Q E=>∃ ρ hd ds,RH K ρ H hd∧RDs K ρ H ds vs∧ds.length=np∧match F ds hd with
  | .ok d hd'=>∀ v H' ρ',Ext ρ H ρ' H'→RH K ρ' H' hd'→RD K ρ' H' d v→Q v H'
  | .exc x hd'=>XC K mg ρ H (fun C H'=>E (.ref C) none H') x hd'
  | .bad=>False
end
section
variable {K:PySem.W.Frag} {mg:Str→Option Value} {ρ ρ':List Addr} {H H':Hp} {E:Addr→Hp→Prop} {σd:Sd} {σ:L2.St} {hd:Hd} {α β α' β':Type} {R:VR α β} {R':VR α' β'}
theorem XC.ext {x:D}(e:Ext ρ H ρ' H')(p:XC K mg ρ H E x hd):XC K mg ρ' H' E x hd:=by
  obtain⟨c,l,C,h1,h2,h3⟩:=p
  exact⟨c,l,C,h1,h2,fun H2 ρ2 e2 r=>h3 H2 ρ2 (e.trans e2) r⟩
theorem gL.ext {r:Res α}{Q : β → Hp→Prop}(e:Ext ρ H ρ' H')(h:gL K mg R ρ H σd σ r E Q):gL K mg R ρ' H' σd σ r E Q:=by
  cases r with
  | ok a h'=>exact fun b H2 ρ2 e2 s q=>h b H2 ρ2 (e.trans e2) s q
  | exc x h'=>exact XC.ext e h
  | bad=>exact h
theorem gL.imp {r:Res α}{Q Q' : β → Hp→Prop}(h:gL K mg R ρ H σd σ r E Q)(i:∀ b H',Q b H'→Q' b H'):gL K mg R ρ H σd σ r E Q':=by
  cases r with
  | ok a h'=>exact fun b H' ρ' e s q=>i b H' (h b H' ρ' e s q)
  | exc x h'=>exact h
  | bad=>exact h
theorem gL.bind {r:Res α}{k : α → Hd→Res α'}{Q : β'→Hp→Prop}(h:gL K mg R' ρ H σd σ (r.bind k) E Q) :
    gL K mg R ρ H σd σ r E (fun b H'=>∃ ρ' a hd',Ext ρ H ρ' H'∧RS K ρ' H' σd hd' σ ∧ R ρ' H' a b∧gL K mg R' ρ' H' σd σ (k a hd') E Q):=by
  cases r with
  | ok a h'=>exact fun b H' ρ' e s q=>⟨ρ',a,h',e,s,q,gL.ext e h⟩
  | exc x h'=>exact h
  | bad=>exact h
theorem jm.outE {r:Res D}{k:D→Hd→Out}{En:rL}(p:jm K mg ρ H (outE r σd k) E En) :
    gL K mg (rD K) ρ H σd σ r E (fun v H'=>∃ ρ' d hd',Ext ρ H ρ' H'∧RS K ρ' H' σd hd' σ ∧ RD K ρ' H' d v∧jm K mg ρ' H' (k d hd') E En):=by
  cases r with
  | ok d h'=>exact fun b H' ρ' ex rs q=>⟨ρ',d,h',ex,rs,q,jm.ext ex p⟩
  | exc x h'=>exact p
  | bad=>exact p
theorem gL.of_pl {r:Res α}{Q : β → Hp→Prop}(p:gL K mg R ρ H σd σ (noX r) E Q):bR K R ρ H σd σ r Q:=by
  cases r with
  | ok a h'=>exact p
  | exc x h'=>exact p
  | bad=>exact p
end
def NE (X:Cx) (E:Addr→Hp→Prop) (e:Expr) (f:EF):Prop:=PE X e (Nd X.K X.mg (rD X.K) E f)
def NA (X:Cx) (E:Addr→Hp→Prop) (es:List Expr) (f:LF):Prop:=PA X es (Nd X.K X.mg (rDs X.K) E f)
def NS (X:Cx) (E:Addr→Hp→Prop) (s:Stmt) (f:SF):Prop:=PS X s (AB X.K X.mg E f)
def NSs (X:Cx) (E:Addr→Hp→Prop) (s:List Stmt) (f:SF):Prop:=PSs X s (AB X.K X.mg E f)
structure jO (P:Program) (w:World) (K:PySem.W.Frag) (mg:Str→Option Value) (base:Heap) (x:Str) (k np:Nat) (F:Fn):Prop where
  ex:∃ f fd ps,mg x=some (.ref f)∧PySem.W.keepIn K (.ref f)=true∧lZ K fd ps []∧cy P w K mg base (CX1 P w) k f fd ps (spY K mg F np)
section
variable {X:Cx} {E:Addr→Hp→Prop} {pos p:Pos}
theorem MZ {e:Expr}{f:EF}(h:ME X e f):NE X E e (fPl f):=PE.imp h fun σ H Q ⟨ρ,σd,hd,rs,q⟩=>⟨ρ,σd,hd,rs,q.of_pl⟩
theorem sG {es:List Expr}{f:LF}(h:MA X es f):NA X E es (fPl f):=PA.imp h fun σ H Q ⟨ρ,σd,hd,rs,q⟩=>⟨ρ,σd,hd,rs,q.of_pl⟩
theorem jP {x:Str}{k np:Nat}{F:Fn}{e:Expr}{es:List Expr}{r:LF}(hd:jO X.prog X.w X.K X.mg X.base x k np F)(hr:ig k X.A)(hg:Gl X x)(ha:NA X E (e :: es) r)(hR:∀ v s',XF X E v s'→X.xe v s')
    (hnp:∀ ds h,F ds h ≠ .bad→ds.length=np) (hdb:(x == ("__debug__" : Str))=false:=by decide) (he:starEach (e :: es) X.env=(false,eval e X.env) :: starEach es X.env:=by rfl) (hpl:(backTo pos (starEach es X.env)).any (·.1)=false:=by rfl) :
    NE X E (.Call (.Name x p) (e :: es) [] pos) (au F r):=by
  obtain⟨f,fd,ps,h1,h2,h3,h4⟩:=hd.ex
  refine PE.imp (EA (E:=fun v _ H=>∃ C,v=.ref C∧E C H) h4 hr hg h1 h2 h3 .nil (Qm (E':=E) (fun C H ⟨C',e,q⟩=>by cases e;exact q) hR) ha hdb he hpl) fun σ H Q ⟨ρ,σd,hd,rs,pp⟩=>⟨ρ,σd,hd,rs,(gL.bind (R:=rDs X.K) pp).imp fun vs H1 ⟨ρ1,ds,hd1,e1,rs1,rv,p1⟩ => ?_⟩
  rw [List.append_nil]
  refine⟨ρ1,hd1,ds,rs1.hp,rv,?_,?_⟩
  · refine hnp ds hd1 fun z => ?_
    rw [z] at p1;exact p1
  · cases c:F ds hd1 with
    | bad=>rw [c] at p1;exact p1
    | exc z h' =>
      rw [c] at p1
      obtain⟨cn,l,C,q1,q2,q3⟩:=p1
      exact⟨cn,l,C,q1,q2,fun H2 ρ2 e2 r2=>⟨C,rfl,q3 H2 ρ2 e2 r2⟩⟩
    | ok d hd2 =>
      rw [c] at p1
      exact fun v H' ρ' ex rh rd=>p1 v H' ρ' ex (rs1.ext ex rh) rd
theorem jQ {np n:Nat}{b:SF}:∀ ds h,bP np n b ds h ≠ .bad→ds.length=np:=by
  intro ds h e
  unfold bP at e
  split at e
  · assumption
  · exact absurd rfl e
theorem Jk {s:Stmt}{f:SF}(h:MS X s f):NS X E s (sPl f):=PS.imp h fun En σ H ⟨ρ,σd,hd,rs,q⟩=>⟨ρ,σd,hd,rs,by
  unfold sPl at q
  cases e:f σd hd<;>rw [e] at q<;>exact q⟩
theorem ET:NSs X E [] bB:=PSs.imp xP fun En σ H ⟨ρ,σd,hd,rs,p⟩=>p σ H ρ Ext.refl rs
theorem gg {st:Stmt}{a:SF}(h:NS X E st a):NSs X E [st] a:=xQ h
theorem kP {st:Stmt}{rest:List Stmt}{a b:SF}(h1:NS X E st a)(h2:NSs X E rest b):NSs X E (st :: rest) (aC a b):=by
  refine PSs.imp (Af h1 h2) fun En σ H ⟨ρ,σd,hd,rs,q⟩=>⟨ρ,σd,hd,rs,?_⟩
  unfold aC at q
  cases e:a σd hd with
  | nx σ1 h1=>rw [e] at q;exact fun σ' H' ρ' ex rs'=>⟨ρ',σ1,h1,rs',jm.ext ex q⟩
  | rt d h1=>rw [e] at q;exact q
  | bk σ1 h1=>rw [e] at q;exact q
  | ct σ1 h1=>rw [e] at q;exact q
  | exc x σ1 h1=>rw [e] at q;exact q
  | bad=>rw [e] at q;exact q
theorem Jl {c:Expr}{a b:List Stmt}{t:TF}{fa fb:SF}(hc:MT X c t)(ha:NSs X E a fa)(hb:NSs X E b fb):NS X E (.If c a b pos) (qO t fa fb):=by
  refine PS.imp (M0 hc ha hb) fun En σ H ⟨ρ,σd,hd,rs,q⟩=>⟨ρ,σd,hd,rs,?_⟩
  unfold qO at q
  cases e:t σd hd with
  | exc x h'=>rw [e] at q;exact q
  | bad=>rw [e] at q;exact q
  | ok c h' =>
    rw [e] at q
    intro b H' ρ' ex rs' hb
    cases hb
    cases c with
    | true=>rw [if_pos rfl];exact⟨ρ',σd,h',rs',jm.ext ex q⟩
    | false=>rw [if_neg Bool.false_ne_true];exact⟨ρ',σd,h',rs',jm.ext ex q⟩
theorem Jm {i:Nat}{x:Str}{e:Expr}{f:EF}{pos':Pos}(hN:X.N.Nodup)(hi:X.N[i]? = some x)(hx:Loc X.env.scope x)(he:NE X E e f)(hs:swapsWith e (some (.Name x pos')) pos.line X.env=pure false:=by rfl)
    (hf:X.fn x=true∨X.env.scope.names.lookup x=some .local:=by first|exact .inl rfl|exact .inr rfl|assumption):NS X E (.Assign [.Name x pos'] e pos) (aE (gN i) f):=by
  refine PS.imp (Cf hN hi hx he hs hf) fun En σ H ⟨ρ,σd,hd,rs,p⟩=>⟨ρ,σd,hd,rs,(jm.outE p).imp fun v H1 ⟨ρ1,d,hd1,e1,rs1,rv,p1⟩ => ?_⟩
  exact p1 _ H1 ρ1 Ext.refl ⟨rs1.hp,rs1.st.set i rv⟩
theorem nN {e:Expr}{f:EF}(h:NE X E e f)(hs:swapsWith e none pos.line X.env=pure false:=by rfl):NS X E (.Expr e pos) (gq f):=by
  refine PS.imp (Ey h hs) fun En σ H ⟨ρ,σd,hd,rs,p⟩=>⟨ρ,σd,hd,rs,(jm.outE p).imp fun v H1 ⟨ρ1,d,hd1,e1,rs1,rv,p1⟩ => ?_⟩
  exact p1 σ H1 ρ1 Ext.refl rs1
end
end Fm
set_option Elab.async false
set_option linter.all false
set_option maxRecDepth 100000
namespace L2
open PySem PySem.Spec PyProof.Rows
section
variable {X:Cx} {E:Addr→Hp→Prop} {e:Value} {s':Shared} {R:Value→Shared→Prop}
theorem Cov.unwish {pins:List (Addr × Obj)}{H:Hp}{B:Heap}(c:Cov (X.wish R) pins H B):Cov X pins H B:=⟨c.trk,c.old,c.pin⟩
theorem XF.unwish (h:XF (X.wish R) E e s'):XF X E e s':=by
  obtain⟨pins,σ,H,a,C,B,t,he,I,fl,c,q⟩:=h
  exact⟨pins,σ,H,a,C,B,t,he,I.unwish,fl,c.unwish,q⟩
theorem PS.xe {st:Stmt}{t:TS}(hx:∀ e s',R e s'→X.xe e s')(h:PS (X.wish R) st t):PS X st t:=fun pins s σ H D I hw =>
  wpAny_mono (h pins s σ H D (I.wish _) hw) (fun _ _ q=>q.unwish) hx
end
end L2
namespace Fm
open PySem PySem.Spec L2 PyProof.Rows
section
variable {X:Cx} {E:Addr→Hp→Prop} {pos p:Pos}
theorem AC {n:String}{C:Addr}{bm:List Value}{B newId initId:String}{np cpos cp:Pos}{txt:Str}{j}(O:OwnCls (Str.ofString n) C bm newId X.mg X.base)(FB:ExcBaseFacts B newId initId bm)(hc:X.calm=true)(hg:Gl X (Str.ofString n))(hx:∀ e s',XP X E e s'→X.xe e s')
    (hdb:(Str.ofString n == ("__debug__" : Str))=false:=by decide):NS X E (.Raise (some (.Call (.Name (Str.ofString n) np) [.Constant (.str txt) j cp] [] cpos)) none pos) (sF n):=PS.xe hx (Jg O FB hc hg hdb E)
end
section
variable {P:Program} {w:World} {K:PySem.W.Frag} {mg:Str→Option Value} {base:Heap}
def AD (K:PySem.W.Frag) (mg:Str→Option Value) (ρ:List Addr) (H:Hp) (r:Res D) (E:XK) (Q:VK):Prop:=match r with
  | .ok d hd'=>∀ v H' ρ',Ext ρ H ρ' H'→RH K ρ' H' hd'→RD K ρ' H' d v→Q v H'
  | .exc x hd'=>XC K mg ρ H (fun C H'=>E (.ref C) none H') x hd'
  | .bad=>False
theorem AD.letGo {ρ:List Addr}{H:Hp}{hd:Hd}{r:Res D}{E:XK}{Q:VK}(rh:RH K ρ H hd)(p:AD K mg ρ H (letGo hd r) E Q):AD K mg ρ H r E Q:=by
  cases r with
  | exc x h'=>exact p
  | bad=>exact p
  | ok d h' =>
    have q:nJ K ρ H (Fm.letGo hd (.ok d h')) Q:=by
      simp only [Fm.letGo] at p ⊢
      split at p<;>rename_i c
      · rw [if_pos c];exact p
      · rw [if_neg c];exact p
    exact nJ.letGo rh q
theorem sH {x:Str}{st:Stmt}{f:Addr}{fd:FuncData}{N ps:List Str}{k:Nat}{b:SF}(F:Fun K x x st f fd)(S:aT N ps (ao st))
    (body:∀ (cdv:Value) (A:Around) (outer:List Env) (s:Shared) (H:Hp) (E:XK),ig k (A.deeper (envOfC x (ao st) s.heap.objs.size f cdv)) →
      NSs (qK (CX1 P w) P w K mg base N x (ao st) f cdv A outer s H E) (fun C H'=>E (.ref C) none H') (aK st) b) :
    cy P w K mg base (CX1 P w) (k + 1) f fd ps (spY K mg (bP ps.length N.length b) ps.length):=by
  obtain⟨oc,od,kV,doc,pm,an,cdv,ct,osl,rfl,lk,hcd⟩:=F.ex
  refine M6 lk hcd S (fun vs H Q E ⟨ρ,hd,ds,rh,rd,hl,p⟩=>by rw [← rd.length];exact hl) fun A outer s H vs Q E hr ⟨ρ,hd,ds,rh,rd,hl,p⟩=>⟨_,body cdv A outer s H E hr,ρ,_,hd,⟨rh,wS rd⟩,?_⟩
  have p0:AD K mg ρ H (bP ps.length N.length b ds hd) E Q:=p
  unfold bP at p0
  rw [if_pos hl] at p0
  have p1:=AD.letGo rh p0
  unfold runB at p1
  cases e2:b (ds.map some++List.replicate (N.length - ds.length) none) hd with
  | nx σ1 h1=>rw [e2] at p1;exact fun σ' H' ρ' ex rs'=>p1 .non H' ρ' ex rs'.hp (by simp only [RD])
  | rt d h1=>rw [e2] at p1;exact p1
  | bk _ _=>rw [e2] at p1;exact p1.elim
  | ct _ _=>rw [e2] at p1;exact p1.elim
  | bad=>rw [e2] at p1;exact p1.elim
  | exc y σ1 h1=>rw [e2] at p1;exact p1
theorem jO.mk' {x:Str}{f:Addr}{fd:FuncData}{ps:List Str}{k np:Nat}{F:Fn}(hm:mg x=some (.ref f))(hk:PySem.W.keepIn K (.ref f)=true)(hb:lZ K fd ps [])(h:cy P w K mg base (CX1 P w) k f fd ps (spY K mg F np)):jO P w K mg base x k np F:=⟨f,fd,ps,hm,hk,hb,h⟩
end
end Fm
set_option Elab.async false
set_option linter.all false
set_option maxRecDepth 100000
namespace Fm
open PySem PySem.Spec L2 PyProof.Rows
section
variable {X:Cx} {pos p:Pos}
end
end Fm
namespace Fm
def AE (n i:Nat) (cs:List String) (b:SF):SF:=fun σ h=>match b σ h with
  | .nx σ' h'=>.nx σ' h'
  | .exc (.exn c []) _ h'=>if c∈cs then .nx ((List.replicate n none).set i (some (.exn c []))) h' else .bad
  | _=>.bad
def isX (tb:List (String × Bool)):D→Option Bool
  | .exn c _=>tb.lookup c
  | _=>none
def fK (tb:List (String × Bool)) (a:EF):EF:=fun σ h=>(a σ h).bind fun x h=>match isX tb x with|some b=>.ok (.bl b) h|none=>.bad
end Fm
set_option Elab.async false
set_option linter.all false
set_option maxRecDepth 100000
namespace L2
open PySem PySem.Spec PyProof.Rows
def Qn (K:PySem.W.Frag) (M:Addr) (i L:Nat) (tb:(Addr→Hp→Prop)→TS):TS:=fun D σ H=>∃ E:Addr→Hp→Prop,tb E { nx:=D.nx,rt:=fun _ _=>False } σ H ∧
  ∀ C H' a σ',E C H'→H' a=none → σ'.length=L → σ'[i]? = some (some (.ref a))→PySem.W.subIn K (.ref C) (.ref M)=some true∧D.nx σ' (upd H' a (rX a C))
section
variable {X:Cx} {body:List Stmt} {x n c:Str} {M:Addr} {i j:Nat} {np cp vp ap hp pos:Pos} {tb:(Addr→Hp→Prop)→TS}
theorem FX (hb:∀ q E,PSs ((X.pin q).wish (XF (X.pin q) E)) body (tb E))(hxe:X.xe=fun _ _=>False)(hstk:X.stack=X.env :: X.outer)(hfr:X.env.frame=some X.env.locals)(hm:X.mg x=some (.ref M))(hg:Gl X x)
    (hbe:PySem.W.subIn X.K (.ref M) (.type "BaseException")=some true) (his:(PySem.W.clsIn X.K M).isSome=true) (hty:PySem.W.typeIn X.K (.ref M)=some (.type "type")) (hN:X.N.Nodup) (hij:i≠j) (hj:X.N[j]? = some n) (hjl:X.env.scope.names.lookup n=some .local)
    (hi:X.N[i]? = some c) (hil:X.env.scope.names.lookup c=some .local) (hdb:(x == ("__debug__" : Str))=false:=by decide) (hd1:(n == ("__debug__" : Str))=false:=by decide) (hd2:(n == ("__classdict__" : Str))=false:=by decide)
    (hs:swapsWith (.Name n vp) (some (.Name c cp)) ap.line X.env=pure false:=by rfl) :
    PS X (.Try body [.ExceptHandler (some (.Name x np)) (some n) [.Assign [.Name c cp] (.Name n vp) ap] hp] [] [] pos) (Qn X.K M i X.N.length tb):=by
  rintro pins s σ H D I ⟨E,h1,h2⟩
  refine wpAny_Try_except (wpAny_mono (hb (X.pn++pins) E [] s σ H _ ((I.pinq).wish _) h1) (fun f s1 q => ?_) (fun e s1 q => ?_))
  · cases f with
    | next=>obtain⟨σ1,H1,J,q⟩:=q;exact xP pins s1 σ1 H1 D J.unwish.unpin q
    | brk=>obtain⟨_,_,_,q⟩:=q;exact q.elim
    | cont=>obtain⟨_,_,_,q⟩:=q;exact q.elim
    | ret u=>obtain⟨_,_,_,_,_,q⟩:=q;exact q.elim
  · obtain⟨pins',σ',H',a,C,B,t,rfl,J,fl,cv,q⟩:=q
    have hf:X.A.frames=some (X.env :: X.outer):=by rw [← hstk];exact I.ok.frames
    have fl':Heap.FlyingW B (X.env :: X.outer) a (.ref C) (.ref t) s1.heap:=by rw [← hstk];exact fl
    have hn:H' a=none:=by
      cases e:H' a with
      | none=>rfl
      | some u=>obtain⟨o,z⟩:=cv.trk a u e;rw [fl.2.1] at z;cases z
    refine wpAny_looks_onW hf hfr fl' fun h4 hl4 sm4=>wpAny_landsW hl4 fun h5 fl5 sm5 => ?_
    have J5:=J.flown (h':=h5) fl.1 fl5.1 (sm4.trans sm5) cv s1.toks
    obtain⟨oe,vs,hoe,hcl,hdt,_⟩:=fl5.first
    have hw:∀ σ'',σ''.length=X.N.length → σ''[i]? = some (some (.ref a))→PySem.W.subIn X.K (.ref C) (.ref M)=some true∧D.nx σ'' (upd H' a (rX a C)):=fun σ'' e1 e2=>h2 C H' a σ'' q hn e1 e2
    have hls : σ'.length=X.N.length:=J.len
    have hit:i < X.N.length:=(List.getElem?_eq_some_iff.mp hi).1
    have hsub:PySem.W.subIn X.K (.ref C) (.ref M)=some true:=(hw (σ'.set i (some (.ref a))) (by simpa using hls) (by rw [List.getElem?_set_self (by omega)])).1
    refine wpAny_handleBy_cons (codeAny_handlers_test (Calls.Name_function_global J.ok.kind hg (Calls.loadGlobal_global (by rw [J.ok.glob];exact J5.mod.glob.keeps J5.bk) hm ?_) hdb)) (by intro q;cases q)
    refine Jd J5.kIn ⟨hoe,hcl⟩ hsub hbe his hty (codeAny_handlers_suite_as ?_)
    refine lands_againW fl5 fun h6 fl6 sm6 => ?_
    have J6:=J5.flown (h':=h6) fl5.1 fl6.1 sm6 cv s1.toks
    have J7:=J6.exc (by rw [show (X.pin (X.pn++pins)).stack=X.env :: X.outer from hstk];exact fl6) cv
    refine rK (X:=X.pin (X.pn++pins)) J7 hN hj (.inl hjl) (v:=.ref a) rfl (fun s8 J8 => ?_) (.inr hjl)
    have ps:PSs ((X.pin (X.pn++pins)).sui a) [.Assign [.Name c cp] (.Name n vp) ap] (NN (Py j) (HQ i)):=xQ (Cf hN hi (.inl hil) (HK hj (.inl hjl) hd1 hd2) hs (.inr hil))
    refine wpAny_mono (ps pins' s8 _ _ { nx:=fun σ9 H9 => σ9=(σ'.set j (some (.ref a))).set i (some (.ref a))∧H9=upd H' a (rX a C),rt:=fun _ _=>False } (J8.marked a) ⟨.ref a,by rw [List.getElem?_set_self (by rw [J.len];exact (List.getElem?_eq_some_iff.mp hj).1)],rfl,rfl⟩) (fun f s9 q => ?_) (fun _ _ z=>z.elim)
    cases f with
    | brk=>obtain⟨_,_,_,q⟩:=q;exact q.elim
    | cont=>obtain⟨_,_,_,q⟩:=q;exact q.elim
    | ret u=>obtain⟨_,_,_,_,_,q⟩:=q;exact q.elim
    | next =>
      obtain⟨σ9,H9,J9,rfl,rfl⟩:=q
      refine Inv.goes (X:=X.pin (X.pn++pins)) (J9.unmark I.ok.hd) hN hj hjl fun s10 J10=>⟨_,_,J10.unpin,(hw _ ?_ ?_).2⟩
      · simpa using hls
      · rw [List.getElem?_set_ne (Ne.symm hij),List.getElem?_set_self (by simp only [List.length_set];omega)]
end
end L2
namespace Fm
open PySem PySem.Spec L2 PyProof.Rows
def gX (K:PySem.W.Frag) (f:Addr→Bool→Prop) (tb:List (String × Bool)):Prop:=∀ c b,(c,b)∈tb → ∃ C,PySem.W.nsIn K mainGlobals (Str.ofString c)=some (some (.ref C))∧sE K C∧f C b
theorem i0 {K:PySem.W.Frag}{f:Addr→Bool→Prop}:gX K f []:=fun _ _ h=>absurd h (List.not_mem_nil)
theorem cC {K:PySem.W.Frag}{f:Addr→Bool→Prop}{c:String}{b:Bool}{tb:List (String × Bool)}{C:Addr}(n:PySem.W.nsIn K mainGlobals (Str.ofString c)=some (some (.ref C)))(Z:sE K C)(k:f C b)(r:gX K f tb):gX K f ((c,b) :: tb):=fun c' b' h=>by
  rcases List.mem_cons.mp h with e|e
  · cases e;exact⟨C,n,Z,k⟩
  · exact r c' b' e
theorem sI {c:String}{b:Bool}:∀ {tb:List (String × Bool)},tb.lookup c=some b→(c,b)∈tb
  | [],h=>by cases h
  | (c',b') :: r,h=>by
    rw [List.lookup_cons] at h
    cases e:c == c' with
    | true =>
      rw [e] at h
      have:=eq_of_beq e
      subst this
      cases h
      exact List.mem_cons_self
    | false=>rw [e] at h;exact List.mem_cons_of_mem _ (sI h)
def FY (K:PySem.W.Frag) (mg:Str→Option Value) (M:Addr) (cs:List String):Prop:=∀ c∈cs,∃ C,mg (Str.ofString c)=some (.ref C)∧PySem.W.nsIn K mainGlobals (Str.ofString c)=some (some (.ref C))∧PySem.W.subIn K (.ref C) (.ref M)=some true
theorem OK {K:PySem.W.Frag}{mg:Str→Option Value}{M:Addr}:FY K mg M []:=fun _ h=>absurd h (List.not_mem_nil)
theorem EU {K:PySem.W.Frag}{mg:Str→Option Value}{M C:Addr}{c:String}{cs:List String}(g:mg (Str.ofString c)=some (.ref C))(n:PySem.W.nsIn K mainGlobals (Str.ofString c)=some (some (.ref C)))(s:PySem.W.subIn K (.ref C) (.ref M)=some true)(r:FY K mg M cs):FY K mg M (c :: cs):=fun c' h=>by
  rcases List.mem_cons.mp h with e|e
  · subst e;exact⟨C,g,n,s⟩
  · exact r c' e
section
variable {X:Cx} {pos p:Pos}
theorem OL {i j L:Nat}{c n x:Str}{M:Addr}{tb:List Stmt}{bt:SF}{cs:List String}{np cp vp ap hp:Pos}(hL:X.N.length=L)(hxe:X.xe=fun _ _=>False)(hb:∀ q,MXs (X.pin q) (XF (X.pin q)) tb bt)(hstk:X.stack=X.env :: X.outer)
    (hfr:X.env.frame=some X.env.locals) (hm:X.mg x=some (.ref M)) (hg:Gl X x) (hbe:PySem.W.subIn X.K (.ref M) (.type "BaseException")=some true) (his:(PySem.W.clsIn X.K M).isSome=true)
    (hty:PySem.W.typeIn X.K (.ref M)=some (.type "type")) (hN:X.N.Nodup) (hij:i≠j) (hj:X.N[j]? = some n) (hjl:X.env.scope.names.lookup n=some .local) (hi:X.N[i]? = some c) (hil:X.env.scope.names.lookup c=some .local)
    (hcs:FY X.K X.mg M cs)
    (hdb:(x == ("__debug__" : Str))=false:=by decide) (hd1:(n == ("__debug__" : Str))=false:=by decide) (hd2:(n == ("__classdict__" : Str))=false:=by decide)
    (hs:swapsWith (.Name n vp) (some (.Name c cp)) ap.line X.env=pure false:=by rfl) :
    MS X (.Try tb [.ExceptHandler (some (.Name x np)) (some n) [.Assign [.Name c cp] (.Name n vp) ap] hp] [] [] pos) (AE L i cs bt):=by
  refine PS.imp (FX (tb:=fun E=>AB X.K X.mg E bt) (fun q E=>hb q E) hxe hstk hfr hm hg hbe his hty hN hij hj hjl hi hil hdb hd1 hd2 hs) fun En σ H ⟨ρ,σd,hd,rs,pp⟩ => ?_
  unfold AE at pp
  cases e:bt σd hd with
  | nx σ1 h1=>rw [e] at pp;exact⟨fun _ _=>False,⟨ρ,σd,hd,rs,by rw [e];exact pp⟩,fun _ _ _ _ z=>z.elim⟩
  | rt _ _=>rw [e] at pp;exact pp.elim
  | bk _ _=>rw [e] at pp;exact pp.elim
  | ct _ _=>rw [e] at pp;exact pp.elim
  | bad=>rw [e] at pp;exact pp.elim
  | exc y σ1 h1 =>
    rw [e] at pp
    cases y with
    | exn cn l =>
      cases l with
      | cons _ _=>exact pp.elim
      | nil =>
        simp only at pp
        split at pp
        · rename_i hcn
          obtain⟨C,m1,m2,m3⟩:=hcs cn hcn
          refine⟨fun C' H'=>C'=C ∧ ∃ ρ',Ext ρ H ρ' H'∧RH X.K ρ' H' h1,⟨ρ,σd,hd,rs,by rw [e];exact⟨cn,[],C,rfl,m1,fun H' ρ' ex r=>⟨rfl,ρ',ex,r⟩⟩⟩,?_⟩
          rintro C' H' a σ' ⟨rfl,ρ',ex,r⟩ hn hl hi'
          refine⟨m3,pp σ' _ ρ' (ex.sm (cu hn)) ⟨r.same (cu hn),?_,fun k d hk => ?_⟩⟩
          · rw [List.length_set,List.length_replicate,hl,hL]
          · by_cases hki:k=i
            · subst hki
              have hlt:k < L:=by rw [← hL];exact (List.getElem?_eq_some_iff.mp hi).1
              simp only [slot,List.getElem?_set_self (show k < (List.replicate L (none:Option D)).length by rw [List.length_replicate];exact hlt)] at hk
              cases hk
              exact⟨.ref a,hi',by simp only [RD];exact⟨trivial,a,C',rfl,bh,m2⟩⟩
            · exfalso
              simp only [slot,List.getElem?_set_ne (Ne.symm hki)] at hk
              by_cases hlt:k < L
              · rw [List.getElem?_replicate_of_lt hlt] at hk;cases hk
              · rw [List.getElem?_eq_none (by rw [List.length_replicate];omega)] at hk;cases hk
        · exact pp.elim
    | _=>exact pp.elim
theorem gh {tb:List (String × Bool)} {a:Expr} {fa:EF} {n:Str} {p2:Pos} {v:V} (hc:Jh v=true) (hg:Gl X "isinstance") (hm:X.mg "isinstance" = none) (hv:PE X (.Name n p2) (tC v))
    (htb:gX X.K (fun C b=>PySem.W.kitOne X.K (.ref C) (ip v)=some b) tb) (ha:ME X a fa)
    (hs:starEach [a,.Name n p2] X.env=(false,eval a X.env) :: starEach [.Name n p2] X.env:=by rfl) (hs2:starEach [.Name n p2] X.env=(false,eval (.Name n p2) X.env) :: starEach [] X.env:=by rfl) :
    ME X (.Call (.Name "isinstance" p) [a,.Name n p2] [] pos) (fK tb fa):=by
  refine PE.imp (ii Ji hg hm (by decide +kernel) (cr ha (cr hv eR hs2) hs) (he:=hs)) fun σ H Q ⟨ρ,σd,hd,rs,pp⟩=>⟨ρ,σd,hd,rs,(bR.bind (R:=rD X.K) pp).imp fun v1 H1 ⟨ρ1,d,hd1,e1,rs1,rv,p1⟩ => ?_⟩
  cases d<;>try exact p1.elim
  rename_i c l
  simp only [isX] at p1
  cases e:tb.lookup c with
  | none=>rw [e] at p1;exact p1.elim
  | some b =>
    rw [e] at p1
    simp only [rD,RD] at rv
    obtain⟨rfl,q,C,rfl,hq,hn⟩:=rv
    obtain⟨C',n',Z,k⟩:=htb c b (sI e)
    rw [hn] at n'
    cases n'
    exact⟨q,C,v,b,rfl,hc,hq,Z,k,p1.here rs1 (by simp only [rD,RD])⟩
end
end Fm
set_option linter.all false
namespace Fm
end Fm
namespace Fm
noncomputable def inR (h:Hd) (x y:D):Option Bool:=match gp h y with
  | some l=>match qM l with
    | some rs=>match qM [x] with
      | some [r]=>if ∀ z∈rs,z.length=r.length then some (decide (r∈rs)) else none
      | _=>none
    | none=>none
  | none=>none
noncomputable def AF:O2:=fun x y h=>match inR h x y with|some b=>.ok (.bl b) h|none=>.bad
noncomputable def lK:O2:=fun x y h=>match inR h x y with|some b=>.ok (.bl (!b)) h|none=>.bad
end Fm
set_option Elab.async false
set_option linter.all false
set_option maxRecDepth 100000
namespace Fm
open PySem PySem.Spec L2
section
variable {X:Cx}
theorem AG:∀ r:List Int,gn (r.map D.int)=0
  | []=>rfl
  | x :: r=>by rw [List.map_cons,gn,AG r];rfl
theorem AH:∀ {a b:List Int},a.length=b.length→fN (a.map D.int) (b.map D.int)=some (decide (a=b))
  | [],[],_=>rfl
  | [],_ :: _,h=>by cases h
  | _ :: _,[],h=>by cases h
  | x :: a,y :: b,h=>by
    have ih:=AH (a:=a) (b:=b) (Nat.succ.inj h)
    simp only [List.map_cons,fN,ih,peq]
    by_cases e:x=y
    · subst e;by_cases e2:a=b<;>simp [e2]
    · simp [e]
theorem yi {K:PySem.W.Frag}{ρ:List Addr}{H:Hp}:∀ r:List Int,RDs K ρ H (r.map D.int) (r.map V.int)
  | []=>rfl
  | x :: r=>⟨_,_,rfl,rfl,yi r⟩
end
end Fm
set_option Elab.async false
set_option linter.all false
set_option maxRecDepth 100000
namespace Fm
open PySem PySem.Spec L2
section
variable {X:Cx}
def Jn (K:PySem.W.Frag) (neg:Bool):R2:=fun x y H Q=>∃ (l q:Addr) (ws:List V) (rs:List (List Int)) (r:List Int),y=.ref l∧x=.ref q∧SqL K H l ws∧cV H ws rs∧H q=some (.tup (r.map V.int))∧(∀ z∈rs,z.length=r.length)∧Q (.bl (if neg then !decide (r∈rs) else decide (r∈rs))) H
theorem EV (hu:X.A.units + 24 < cLine){pins:List (Addr × Obj)}{σ:St}{H:Hp}{s:Shared}{l q:Addr}{ws:List V}{rs:List (List Int)}{r:List Int}(I:Inv X pins σ H s)(sq:SqL X.K H l ws)(hr:cV H ws rs)(hq:H q=some (.tup (r.map V.int)))(hlen:∀ z∈rs,z.length=r.length) :
    ∃ (its:List Value) (ef:Value→Bool),s.heap.IsList l its.toArray∧(∀ y,y∈its.toArray→SeqAt.EqAt X.A.in1 s y (.ref q) (ef y))∧its.toArray.any ef=decide (r∈rs):=by
  obtain⟨its,rel,pl,_⟩:=I.list sq
  have lw:ws.length=rs.length:=hr.length
  have li:its.length=rs.length:=by rw [← lw];exact rel.length.symm
  have at':∀ (i:Nat) (hi:i < its.length),∃ a,its[i]=.ref a∧H a=some (.tup ((rs.getD i []).map V.int)):=fun i hi=>by
    have hi2:i < ws.length:=by omega
    obtain⟨a,ea,ha⟩:=hr.get (i:=i) (v:=ws[i]) (by simp [hi2])
    obtain⟨w,hw,rw'⟩:=rel.get (i:=i) (x:=ws[i]) (by simp [hi2])
    rw [ea] at rw'
    rw [List.getElem?_eq_getElem hi] at hw
    exact⟨a,by rw [Option.some.inj hw];exact rw',ha⟩
  have gd:∀ i,i < rs.length→rs.getD i []∈rs:=fun i hi=>by rw [List.getD_eq_getElem?_getD,List.getElem?_eq_getElem hi];exact List.getElem_mem hi
  have inj:∀ {a b:List Int},a.map V.int=b.map V.int→a=b:=fun {a b} h=>by
    have:=congrArg (List.map fun v=>match v with|V.int i=>i|_=>0) h
    rw [List.map_map,List.map_map] at this
    exact (List.map_id' a).symm.trans (this.trans (List.map_id' b))
  classical
  refine⟨its,fun y=>decide (∃ p,y=Value.ref p∧H p=some (.tup (r.map V.int))),pl.isList,?_,?_⟩
  · intro y hy
    obtain⟨i,hi,rfl⟩:=List.getElem_of_mem (by simpa using hy:y∈its)
    obtain⟨a,ea,ha⟩:=at' i hi
    have ev:decide (∃ p,its[i] = Value.ref p∧H p=some (.tup (r.map V.int)))=decide (rs.getD i [] = r):=by
      congr 1
      apply propext
      constructor
      · rintro⟨p,ep,hp⟩
        rw [ea] at ep
        cases ep
        rw [ha] at hp
        injection hp with hp
        injection hp with hp
        exact inj hp
      · intro z
        exact⟨a,ea,by rw [ha,z]⟩
    show SeqAt.EqAt X.A.in1 s its[i] (.ref q) (decide (∃ p,its[i] = Value.ref p∧H p=some (.tup (r.map V.int))))
    rw [ev,ea]
    have pe:peq (gx (rs.getD i [])) (gx r)=some (decide (rs.getD i [] = r)):=by
      have hl':=hlen _ (gd i (by omega))
      simp only [gx,peq,AH hl',Option.map_some,List.length_map,hl']
      simp
    exact Im (K:=X.K) (ρ:=[]) I.hok (d:=gx (rs.getD i [])) (k:=gx r) ⟨a,_,rfl,ha,yi _⟩ ⟨q,_,rfl,hq,yi _⟩ rfl rfl pe (by
      have:dep (gx (rs.getD i []))=1:=by show dep (.tup _)=1;rw [dep,AG]
      rw [this]
      show X.A.in1.units + 1 < cLine
      have:X.A.in1.units≤X.A.units + 1:=by first|exact Nat.le_refl _|decide
      omega)
  · apply Bool.eq_iff_iff.mpr
    rw [Array.any_eq_true',decide_eq_true_eq]
    constructor
    · rintro⟨y,hy,e⟩
      obtain⟨i,hi,rfl⟩:=List.getElem_of_mem (by simpa using hy:y∈its)
      obtain⟨a,ea,ha⟩:=at' i hi
      obtain⟨p,ep,hp⟩:=of_decide_eq_true e
      rw [ea] at ep
      cases ep
      rw [ha] at hp
      injection hp with hp
      injection hp with hp
      rw [← inj hp]
      exact gd i (by omega)
    · intro hm
      obtain⟨i,hi,e⟩:=List.getElem_of_mem hm
      have hi':i < its.length:=by omega
      obtain⟨a,ea,ha⟩:=at' i hi'
      refine⟨its[i],by simp,decide_eq_true ⟨a,ea,?_⟩⟩
      rw [ha,List.getD_eq_getElem?_getD,List.getElem?_eq_getElem hi,e];rfl
theorem Jo (hu:X.A.units + 24 < cLine):OpR X (compareOp .In) (Jn X.K false):=by
  intro pins s σ H x y v u Q I rx ry h
  obtain⟨l,q,ws,rs,r,rfl,rfl,sq,hr,hq,hlen,hQ⟩:=h
  cases rx
  cases ry
  obtain⟨its,ef,hl,he,ha⟩:=EV hu I sq hr hq hlen
  refine SeqAt.in_listAt ef hl he ?_
  rw [ha]
  exact xR I hQ rfl
theorem FZ (hu:X.A.units + 24 < cLine):OpR X (compareOp .NotIn) (Jn X.K true):=by
  intro pins s σ H x y v u Q I rx ry h
  obtain⟨l,q,ws,rs,r,rfl,rfl,sq,hr,hq,hlen,hQ⟩:=h
  cases rx
  cases ry
  obtain⟨its,ef,hl,he,ha⟩:=EV hu I sq hr hq hlen
  refine SeqAt.notIn_listAt ef hl he ?_
  rw [ha]
  exact xR I hQ rfl
theorem AI {K:PySem.W.Frag}{neg:Bool}{ρ:List Addr}{H:Hp}{σd:Sd}{hd:Hd}{σ:St}{d k:D}{v w:V}{Q:VK}{b:Bool}(rs:RS K ρ H σd hd σ)(rv:RD K ρ H d v)(rw':RD K ρ H k w)(e:inR hd d k=some b)
    (q:Q (.bl (if neg then !b else b)) H):Jn K neg v w H Q:=by
  unfold inR at e
  cases c:gp hd k with
  | none=>rw [c] at e;cases e
  | some l =>
    rw [c] at e
    simp only at e
    cases ci:qM l with
    | none=>rw [ci] at e;cases e
    | some R =>
      rw [ci] at e
      simp only at e
      split at e
      · rename_i r ck
        split at e
        · rename_i hz
          cases e
          obtain⟨p,vs,rfl,sq,rvs⟩:=rj rs.hp rw' c
          have hk:=sw (K:=K) (ρ := ρ) (H:=H) (l:=[d]) (vs:=[v]) ⟨v,[],rfl,rv,rfl⟩ ck
          obtain⟨q',rfl,hq⟩:=hk.get (i:=0) (v:=v) rfl
          exact⟨p,q',vs,R,r,rfl,rfl,sq,sw rvs ci,hq,hz,q⟩
        · cases e
      · cases e
theorem Jp {K:PySem.W.Frag}:Og K AF (Jn K false):=by
  intro ρ H σd hd σ d k v w Q rs rv rw' p
  unfold AF at p
  cases e:inR hd d k with
  | none=>rw [e] at p;exact p.elim
  | some b=>rw [e] at p;exact AI rs rv rw' e (p.here rs (by simp only [rD,RD];rfl))
theorem F3 {K:PySem.W.Frag}:Og K lK (Jn K true):=by
  intro ρ H σd hd σ d k v w Q rs rv rw' p
  unfold lK at p
  cases e:inR hd d k with
  | none=>rw [e] at p;exact p.elim
  | some b=>rw [e] at p;exact AI rs rv rw' e (p.here rs (by simp only [rD,RD];rfl))
end
end Fm
set_option linter.all false
namespace Fm
end Fm
set_option Elab.async false
set_option linter.all false
set_option maxRecDepth 100000
namespace Fm
open PySem PySem.Spec L2 PySem.W PyProof.Rows
section
variable {prog:Program} {w:World} {A:Around} {E:Value→Shared→Prop} {s:Shared}
end
section
variable {X:Cx} {pos p:Pos}
end
end Fm
set_option linter.all false
namespace Fm
noncomputable section
open Classical
end
end Fm
set_option Elab.async false
set_option linter.all false
set_option maxRecDepth 100000
namespace Fm
open PySem PySem.Spec L2
open PyProof.Rows (Call_)
section
variable {prog:Program} {w:World} {A:Around} {E:Value→Shared→Prop} {s:Shared}
end
section
variable {La Lb:Bool} {prog:Program} {w:World} {A:Around} {E:Value→Shared→Prop} {s:Shared} {z TI TO i1 i2 l1 l2:Addr} {k:Nat} {xs ys:Array Value} {a b:Value}
end
section
variable {La Lb:Bool} {prog:Program} {w:World} {A:Around} {E:Value→Shared→Prop} {s:Shared}
end
section
variable {X:Cx} {pos p tp:Pos} {elts:List Expr} {tk:Nat}
end
section
variable {X:Cx} {pos:Pos} {tg:Expr}
end
end Fm
set_option Elab.async false
set_option linter.all false
set_option maxRecDepth 100000
namespace Fm
open PySem PySem.Spec L2
section
variable {X:Cx}
end
end Fm
set_option Elab.async false
set_option linter.all false
namespace Fm
open PySem PyProof.Rows
mutual
def gy:D→PyData
  | .bl b=>.bool b
  | .int i=>.int i
  | .tup l=>.tuple (kQ l)
  | _=>.none
def kQ:List D→List PyData
  | []=>[]
  | d :: l=>gy d :: kQ l
end
mutual
def okR:D→Bool
  | .non=>true
  | .bl _=>true
  | .int i=>decide (i.natAbs < 1000000000)
  | .tup l=>oQ l
  | _=>false
def oQ:List D→Bool
  | []=>true
  | d :: l=>okR d && oQ l
end
mutual
def kR:D→Nat
  | .tup l=>ky l
  | _=>30
def ky:List D→Nat
  | []=>0
  | d :: l=>kR d + 1 + ky l
end
def Jq (d:D):List Nat:=(gy d).shown.cps.toList
@[simp] def AJ (a:EF):EF:=fun σ h=>(a σ h).bind fun x h=>match x with
  | .tup l=>if okR (.tup l)=true∧dep (.tup l)≤20∧kR (.tup l)≤1000000 then .ok (.str (Jq (.tup l))) h else .bad
  | _=>.bad
end Fm
set_option Elab.async false
set_option linter.all false
set_option maxRecDepth 100000
namespace Fm
open PySem PySem.Spec L2 PySem.W PyProof.Rows
theorem EW {n k:Nat}(hk:0 < k)(h:n < 10 ^ k):(toString n:String).length≤k:=by
  rw [Nat.toString_eq_ofList_toDigits,String.length_ofList]
  exact (Nat.length_toDigits_le_iff (by decide) hk).mpr h
theorem LO (i:Int)(h:i.natAbs < 10 ^ 12):(PyData.int i).shown.length≤13:=by
  rw [PyData.shown.eq_3,PySem.ofString_length]
  cases i with
  | ofNat m =>
    have:(toString (Int.ofNat m):String)=toString m:=rfl
    rw [this]
    exact Nat.le_succ_of_le (EW (by decide) h)
  | negSucc m =>
    have:(toString (Int.negSucc m):String) = "-" ++ toString (m + 1):=rfl
    rw [this,String.length_append]
    have:=EW (n:=m + 1) (k:=12) (by decide) h
    have e:("-" : String).length=1:=rfl
    omega
theorem OM {n:Nat}(h:n < 1000000000):n.log2 < 30:=by
  by_cases c:n=0
  · subst c;decide
  · rw [Nat.log2_lt c];exact Nat.lt_trans h (by decide)
mutual
theorem Ng:∀ (d:D),okR d=true→(gy d).showable=true∧(gy d).hasDict=false∧(gy d).canLay0=true∧PyData.intsShort 13 (gy d)=true∧(gy d).depth≤dep d∧(gy d).weight≤kR d
  | .non,_=>by simp [gy,PyData.showable,PyData.hasDict,PyData.canLay0,PyData.intsShort,PyData.depth,PyData.weight,kR,dep]
  | .bl b,_=>by simp [gy,PyData.showable,PyData.hasDict,PyData.canLay0,PyData.intsShort,PyData.depth,PyData.weight,kR,dep]
  | .int i,h=>by
    simp only [okR,decide_eq_true_eq] at h
    have l:=OM h
    have s:=LO i (Nat.lt_trans h (by decide))
    refine⟨?_,by simp [gy,PyData.hasDict],by simp [gy,PyData.canLay0],by simp only [gy,PyData.intsShort];exact decide_eq_true s,by simp [gy,PyData.depth],?_⟩
    · simp only [gy,PyData.showable];exact decide_eq_true (by omega)
    · simp only [gy,PyData.weight,kR]
      split<;>omega
  | .tup l,h=>by
    simp only [okR] at h
    obtain⟨a,b,c,d,e,f⟩:=Jr l h
    simp only [gy,PyData.showable,PyData.hasDict,PyData.canLay0,PyData.intsShort,PyData.depth,PyData.weight,kR,dep]
    exact⟨a,b,c,d,by omega,f⟩
  | .str _,h=>by simp [okR] at h
  | .ref _,h=>by simp [okR] at h
  | .lit _,h=>by simp [okR] at h
  | .exn _ _,h=>by simp [okR] at h
theorem Jr:∀ (l:List D),oQ l=true→PyData.showableAll (kQ l)=true∧PyData.hasDictAll (kQ l)=false∧PyData.canLayAll0 (kQ l)=true∧PyData.intsShortAll 13 (kQ l)=true∧PyData.depthAll (kQ l)≤gn l∧PyData.weightAll (kQ l)≤ky l
  | [],_=>by simp [kQ,PyData.showableAll,PyData.hasDictAll,PyData.canLayAll0,PyData.intsShortAll,PyData.depthAll,PyData.weightAll]
  | x :: l,h=>by
    simp only [oQ,Bool.and_eq_true] at h
    obtain⟨a,b,c,d,e,f⟩:=Ng x h.1
    obtain⟨a',b',c',d',e',f'⟩:=Jr l h.2
    simp only [kQ,PyData.showableAll,PyData.hasDictAll,PyData.canLayAll0,PyData.intsShortAll,PyData.depthAll,PyData.weightAll,ky,gn,a,b,c,d,a',b',c',d']
    refine⟨rfl,rfl,rfl,rfl,?_,by omega⟩
    exact Nat.max_le.mpr ⟨Nat.le_trans e (Nat.le_max_left _ _),Nat.le_trans e' (Nat.le_max_right _ _)⟩
end
section
variable {P:Program} {w:World} {K:PySem.W.Frag} {ρ:List Addr} {H:Hp} {h h':Heap}
mutual
theorem AK (hok:HOk P w H h)(kk:∀ b o u,H b=some u→h.get? b=some o→h'.get? b=some o):∀ {d:D} {v:V} {u:Value},RD K ρ H d v→bT v u→okR d=true → ∃ as,Reads h' u (gy d) as
  | .non,v,u,r,q,_=>by
    simp only [RD] at r;subst r
    cases (show u=Value.none from q)
    exact⟨_,Reads.none⟩
  | .bl b,v,u,r,q,_=>by
    simp only [RD] at r;subst r
    cases (show u=Value.bool b from q)
    exact⟨_,Reads.bool b⟩
  | .int i,v,u,r,q,_=>by
    simp only [RD] at r;subst r
    obtain⟨t,rfl⟩:=q
    exact⟨_,Reads.int i t⟩
  | .tup l,v,u,r,q,o=>by
    simp only [RD] at r
    obtain⟨p,vs,rfl,hp,rs⟩:=r
    cases (show u=Value.ref p from q)
    obtain⟨z,its,rv,ob,ho,hc,n,hd⟩:=hok p _ hp
    simp only [okR] at o
    obtain⟨as,ra⟩:=wZ hok kk rs rv o
    simp only [gy]
    exact⟨as,Reads.tuple (kk p ob _ hp ho) hc hd (by simpa using ra)⟩
  | .str _,_,_,_,_,o=>by simp [okR] at o
  | .ref _,_,_,_,_,o=>by simp [okR] at o
  | .lit _,_,_,_,_,o=>by simp [okR] at o
  | .exn _ _,_,_,_,_,o=>by simp [okR] at o
theorem wZ (hok:HOk P w H h)(kk:∀ b o u,H b=some u→h.get? b=some o→h'.get? b=some o):∀ {l:List D} {vs:List V} {us:List Value},RDs K ρ H l vs→bg vs us→oQ l=true → ∃ as,ReadsAll h' us (kQ l) as
  | [],vs,us,r,q,_=>by
    simp only [RDs] at r;subst r
    cases q
    exact⟨_,ReadsAll.nil⟩
  | x :: l,vs,us,r,q,o=>by
    simp only [RDs] at r
    obtain⟨v,rr,rfl,r1,r2⟩:=r
    cases q with
    | cons q1 q2 =>
      simp only [oQ,Bool.and_eq_true] at o
      obtain⟨as,a⟩:=AK hok kk r1 q1 o.1
      obtain⟨bs,b⟩:=wZ hok kk r2 q2 o.2
      exact⟨_,ReadsAll.cons a b⟩
end
end
section
variable {X:Cx} {pos p:Pos}
def Qo (K:PySem.W.Frag):List V→Hp→VK→Prop:=fun xs H Q=>∃ (ρ:List Addr) (l:List D) (v:V),xs=[v]∧RD K ρ H (.tup l) v∧okR (.tup l)=true∧dep (.tup l)≤20∧kR (.tup l)≤1000000∧Q (.str (gy (.tup l)).shown) H
theorem F4 (hgd:X.A.guards=some []) (hu:X.A.units + 64 < cLine):ie X (.builtin "repr") (Qo X.K):=by
  intro pins s σ H xs us Q I r h
  obtain⟨ρ,l,v,rfl,rd,ok,dp,ct,q⟩:=h
  obtain⟨u,rfl,ru⟩:=bg.one r
  obtain⟨m,hm,_⟩:=id I.loc
  have N0:News (Att.noObjs s.heap) X.env.locals s.heap (Att.ledger s.heap X.env.locals X.env.locals):=fun ⟨b,o⟩ hb=>by
    obtain⟨n1,n2,e⟩:=Att.mem_ledger.mp hb
    exact⟨e,n1,Att.noObjs_get _ _⟩
  have inN:∀ b o,b≠X.env.locals→s.heap.get? b=some o→(b,o)∈Att.ledger s.heap X.env.locals X.env.locals:=fun b o hb e=>Att.mem_ledger.mpr ⟨hb,hb,e⟩
  have nL:∀ b u,H b=some u→b≠X.env.locals:=fun b u e z=>by rw [z,I.free] at e;cases e
  have via:ReadsVia (Att.noObjs s.heap) (Att.ledger s.heap X.env.locals X.env.locals) u (gy (.tup l)):=fun h' _ hn=>AK I.hok (fun b o u' hb e=>hn (b,o) (inN b o (nL b u' hb) e)) rd ru ok
  obtain⟨p1,p2,p3,p4,p5,p6⟩:=Ng _ ok
  have lay:(gy (.tup l)).layable0=true:=by
    unfold PyData.layable0
    rw [p3]
    simp only [Bool.true_and,Bool.and_eq_true,decide_eq_true_eq]
    exact⟨by omega,by omega⟩
  have disp:PyProof.Rows.isDisplay (gy (.tup l))=true:=by simp only [gy,PyProof.Rows.isDisplay]
  refine repr_via via (Att.fr_all hm) N0 p1 p2 disp hgd (by omega) (fun h' tu tk F' N' => ?_) (PyData.shown_fits_of_layable0 (B:=13) (by decide) (by decide) lay p4)
  have keep:∀ b o,b≠X.env.locals→s.heap.get? b=some o→h'.get? b=some o:=fun b o hb e=>(N' (b,o) (inN b o hb e)).1
  refine⟨.str (gy (.tup l)).shown,H,?_,⟨tu,rfl⟩,q⟩
  suffices I2:L2.Inv X pins σ H { s with heap:=h',gens:=s.gens,drawn:=s.drawn,toks:=tk } from I2
  refine I.step (g':=s.gens) (d':=s.drawn) (t':=tk) (ch:=[]) (fun _ z=>nomatch z) (fun b o hb _ _ e _=>keep b o hb e) (fun b o hb _ _ e _=>⟨o.slots,keep b o hb e⟩) (fun b o _ e n=>n) (fun b o _ e => ?_)
    (fun b ys e=>e) (fun b o u e=>e) (fun b ps e=>⟨#[],by rw [e];simp⟩) (fun m' hm'=>by rw [Iz hm' hm];exact F'.ns) (fun b u e => ?_) I.bare
  · by_cases hb:b=X.env.locals
    · obtain⟨o',_,_,ho',_⟩:=F'.ns
      rw [hb];exact⟨o',ho'⟩
    · exact⟨o,keep b o hb e⟩
  · refine (I.hok b u e).stay (fun c v hc z => ?_) (fun c z=>z) fun c ys z=>z
    rcases hc with w|w
    · subst w;exact keep c v (nL c _ e) z
    · exact keep c v (nL c _ w) z
theorem EX {a:Expr} {fa:EF} (hgd:X.A.guards=some []) (hu:X.A.units + 64 < cLine) (hg:Gl X "repr") (hm:X.mg "repr" = none) (ha:ME X a fa) (hs:starEach [a] X.env=(false,eval a X.env) :: starEach [] X.env:=by rfl):ME X (.Call (.Name "repr" p) [a] [] pos) (AJ fa):=by
  refine PE.imp (ii (F4 hgd hu) hg hm (by decide +kernel) (cr ha eR hs) (he:=hs)) fun σ H Q ⟨ρ,σd,hd,rs,pp⟩=>⟨ρ,σd,hd,rs,(bR.bind (R:=rD X.K) pp).imp fun v H1 ⟨ρ1,d,hd1,e1,rs1,rv,p1⟩ => ?_⟩
  cases d<;>try exact p1.elim
  rename_i l
  simp only at p1
  split at p1
  · rename_i hz
    refine⟨ρ1,l,v,rfl,rv,hz.1,hz.2.1,hz.2.2,p1.here rs1 ?_⟩
    simp only [rD,RD,Jq,toS]
  · exact p1.elim
end
end Fm
namespace Fm
theorem F5 {h h':Hd}{d:D}(e:h'.length≤h.length):letGo h (.ok d h')=.ok d h':=by
  simp only [letGo];split
  · rw [List.take_of_length_le e]
  · rfl
@[simp] theorem aS {h:Hd} {d:D}:letGo h (.ok d h)=.ok d h:=F5 (Nat.le_refl _)
theorem w4 {h h':Hd}{d:D}(e:pure? d=false):letGo h (.ok d h')=.ok d h':=by
  simp [letGo,e]
@[simp] theorem ft {h h':Hd} {n:Nat}:letGo h (.ok (.ref n) h')=.ok (.ref n) h':=w4 rfl
theorem dg {h g:Hd}{d:D}(e:pure? d=true):letGo h (.ok d (h++g))=.ok d h:=by
  have:Ig h (h++g):=fun n c hn hc=>.inl (by rwa [List.getElem?_append_left hn] at hc)
  simp [letGo,e,this]
structure Web where
  ties:List (List (Nat × Int))
  bars:List Int
  stays:List (Option Int)
def bS:Option Int→D
  | none=>.non
  | some i=>.int i
def mY (p:Nat × Int):D:=.tup [.int p.1,.int p.2]
def iq (r:List (Nat × Int)):D:=.tup (r.map mY)
def af (l:List Int):D:=.tup (l.map .int)
def Web.enc (w:Web):D:=.tup [.tup (w.ties.map iq),.tup (w.bars.map .int),.tup (w.stays.map bS)]
structure Web.Ok (w:Web) (n:Nat):Prop where
  t:w.ties.length=n
  b:w.bars.length=n
  s:w.stays.length=n
  lt:∀ r∈w.ties,∀ p∈r,p.1 < n
  sz:n≤1000
structure bU (w:Web) (n:Nat) (s:List Int):Prop where
  len:s.length=n
  op:∀ x∈s,x=0∨x=1
  st:∀ (i:Nat) (x:Int),w.stays[i]? = some (some x)→s[i]? = some x
theorem d8 {l:List D}{i:Nat}{d:D}(e:l[i]? = some d):atI l (i:Int)=some d:=by
  have:=(List.getElem?_eq_some_iff.mp e).1
  simp [atI,ixN,this]
  simpa [List.getElem?_eq_getElem this] using e
@[simp] theorem Qp (x:D) (l:List D):atI (x :: l) 0=some x:=d8 (i:=0) rfl
theorem cw {g:Option Nat}{all:List D}{tg:GF}{cs:List TF}{e:EF}{h:Hd}(I:Sd→Prop)(p:D→Bool)(f:D→D)(hh:kJ g all h) :
    ∀ {xs:List D} {σ:Sd},(∀ x∈xs,∀ σ,I σ → ∃ σ',tg x σ = some σ'∧I σ'∧kK cs σ' h=.ok (p x) h∧(p x=true→e σ' h=.ok (f x) h))→I σ →
      cX g all tg cs e xs σ h=.ok ((xs.filter p).map f) h
  | [],_,_,_=>by simp [cX,hh]
  | x :: xs,σ,st,i=>by
    obtain⟨σ',h1,h2,h3,h4⟩:=st x (by simp) σ i
    have ih:=cw I p f hh (xs:=xs) (σ := σ') (fun y hy=>st y (by simp [hy])) h2
    cases hp:p x with
    | true=>simp [cX,hh,h1,h3,hp,h4 hp,ih]
    | false=>simp [cX,hh,h1,h3,hp,ih]
theorem oR {g:Option Nat}{all:List D}{tg:GF}{b:SF}{rest:List D}(P:Nat→Sd→Hd→Prop)(hh:∀ i σ h,P i σ h→kJ g all h) :
    ∀ {xs:List D} {k:Nat} {σ:Sd} {h:Hd},(∀ (i:Nat) x σ h,xs[i]? = some x→P (k + i) σ h → ∃ σ',tg x σ = some σ' ∧ ∃ σ'' h'',b σ' h=.nx σ'' h''∧P (k + i + 1) σ'' h'')→P k σ h →
      ∃ σ' h',fO g all tg b (xs++rest) σ h=fO g all tg b rest σ' h'∧P (k + xs.length) σ' h'
  | [],k,σ,h,_,p=>⟨σ,h,rfl,by simpa using p⟩
  | x :: xs,k,σ,h,st,p=>by
    obtain⟨σ',h1,σ2,h2,h3,h4⟩:=st 0 x σ h (by simp) (by simpa using p)
    have st':∀ (i:Nat) y σ h,xs[i]? = some y→P (k + 1 + i) σ h → ∃ σ',tg y σ = some σ' ∧ ∃ σ'' h'',b σ' h=.nx σ'' h''∧P (k + 1 + i + 1) σ'' h'':=fun i y σ h e q=>by
      have e1:k + 1 + i=k + (i + 1):=by omega
      rw [e1] at q ⊢
      exact st (i + 1) y σ h (by simpa using e) q
    obtain⟨σ3,h5,h6,h7⟩:=oR P hh st' (by simpa using h4)
    refine⟨σ3,h5,?_,?_⟩
    · rw [← h6,List.cons_append,fO,if_pos (hh _ _ _ p),h1]
      simp only [h3]
    · have e1:k + (x :: xs).length=k + 1 + xs.length:=by simp;omega
      rw [e1];exact h7
theorem cD {g:Option Nat}{all:List D}{tg:GF}{b:SF}(P:Nat→Sd→Hd→Prop)(hh:∀ i σ h,P i σ h→kJ g all h)
    {xs:List D} {k:Nat} {σ:Sd} {h:Hd} (st:∀ (i:Nat) x σ h,xs[i]? = some x→P (k + i) σ h → ∃ σ',tg x σ = some σ' ∧ ∃ σ'' h'',b σ' h=.nx σ'' h''∧P (k + i + 1) σ'' h'') (p:P k σ h) :
      ∃ σ' h',fO g all tg b xs σ h=.nx σ' h'∧P (k + xs.length) σ' h':=by
  obtain⟨σ',h',q,z⟩:=oR (rest:=[]) P hh st p
  rw [List.append_nil] at q
  exact⟨σ',h',q.trans (by unfold fO;exact if_pos (hh _ _ _ z)),z⟩
theorem mZ {g:Option Nat}{all:List D}{tg:GF}{e:EF}(P:Nat→Sd→Hd→Prop)(V:Nat→D→Prop)(hh:∀ i σ h,P i σ h→kJ g all h) :
    ∀ {xs:List D} {k:Nat} {σ:Sd} {h:Hd},(∀ (i:Nat) x σ h,xs[i]? = some x→P (k + i) σ h → ∃ σ',tg x σ = some σ' ∧ ∃ d h'',e σ' h=.ok d h''∧V (k + i) d∧P (k + i + 1) σ' h'')→P k σ h →
      ∃ ds h',cX g all tg [] e xs σ h=.ok ds h'∧ds.length=xs.length∧(∀ (i:Nat) d,ds[i]? = some d→V (k + i) d) ∧ ∃ σ',P (k + xs.length) σ' h'
  | [],k,σ,h,_,p=>⟨[],h,by simp [cX,hh _ _ _ p],rfl,by simp,σ,by simpa using p⟩
  | x :: xs,k,σ,h,st,p=>by
    obtain⟨σ',h1,d,h2,h3,hv,h4⟩:=st 0 x σ h (by simp) (by simpa using p)
    have st':∀ (i:Nat) y σ h,xs[i]? = some y→P (k + 1 + i) σ h → ∃ σ',tg y σ = some σ' ∧ ∃ d h'',e σ' h=.ok d h''∧V (k + 1 + i) d∧P (k + 1 + i + 1) σ' h'':=fun i y σ h e q=>by
      have e1:k + 1 + i=k + (i + 1):=by omega
      rw [e1] at q ⊢
      exact st (i + 1) y σ h (by simpa using e) q
    obtain⟨ds,h5,h6,hl,hvs,σ3,h7⟩:=mZ P V hh st' (by simpa using h4)
    refine⟨d :: ds,h5,?_,by simp [hl],fun i d' hd => ?_,σ3,?_⟩
    · simp [cX,hh _ _ _ p,h1,kK,h3,h6]
    · cases i with
      | zero=>simp at hd;subst hd;simpa using hv
      | succ i =>
        have:=hvs i d' (by simpa using hd)
        rwa [show k + 1 + i=k + (i + 1) by omega] at this
    · have e1:k + (x :: xs).length=k + 1 + xs.length:=by simp;omega
      rw [e1];exact h7
theorem sJ {α : Type}{n:Nat}{ds:List α}{f:Nat → α}(hl:ds.length=n)(h:∀ (i:Nat) d,ds[i]? = some d→d=f i):ds=(List.range n).map f:=by
  apply List.ext_getElem?
  intro i
  by_cases hi:i < n
  · have:ds[i]? = some (ds[i]'(by omega)):=by simp [hl,hi]
    rw [this,h i _ this]
    simp [hi]
  · simp [hi,hl]
theorem iM {t:TF}{b:SF}:∀ {n:Nat} {σ:Sd} {h:Hd} {r:Out},eS t b n σ h=r→r ≠ .bad → ∀ {m:Nat},n≤m→eS t b m σ h=r
  | 0,σ,h,r,e,hr,m,_=>by simp only [eS] at e;exact absurd e.symm hr
  | n + 1,σ,h,r,e,hr,m,hm=>by
    cases m with
    | zero=>omega
    | succ m =>
      simp only [eS] at e ⊢
      cases c:t σ h with
      | bad=>rw [c] at e;exact e
      | exc x h1=>rw [c] at e;exact e
      | ok cb h1 =>
        rw [c] at e
        cases cb with
        | false=>exact e
        | true =>
          simp only at e ⊢
          cases c2:b σ h1 with
          | nx σ2 h2=>rw [c2] at e;exact iM e hr (by omega)
          | ct σ2 h2=>rw [c2] at e;exact iM e hr (by omega)
          | bk σ2 h2=>rw [c2] at e;exact e
          | rt d h2=>rw [c2] at e;exact e
          | exc x σ2 h2=>rw [c2] at e;exact e
          | bad=>rw [c2] at e;exact e
theorem F6 {t:TF}{b:SF}{n:Nat}{σ:Sd}{h:Hd}{r:Out}(e:eS t b n σ h=r)(hr:r ≠ .bad):sd t b σ h=r:=by
  have ex:∃ n,eS t b n σ h ≠ .bad:=⟨n,by rw [e];exact hr⟩
  have hf:Lv t b σ h=Classical.choose ex:=by simp [Lv,ex]
  have h2:=Classical.choose_spec ex
  unfold sd
  rw [hf]
  by_cases hle:n≤Classical.choose ex
  · exact iM e hr hle
  · have:=iM (n:=Classical.choose ex) rfl h2 (m:=n) (by omega)
    rw [← this,e]
end Fm
set_option linter.all false
namespace Fm
theorem aw {F:Fn}{r:LF}{σ:Sd}{h h1 h':Hd}{ds:List D}{d:D}(a:r σ h=.ok ds h1)(b:F ds h1=.ok d h'):au F r σ h=.ok d h':=by
  show Res.bind _ _=_;rw [a];exact b
theorem ag {a:EF}{r:LF}{σ:Sd}{h h1 h2:Hd}{d:D}{ds:List D}(p:a σ h=.ok d h1)(q:r σ h1=.ok ds h2):ad a r σ h=.ok (d :: ds) h2:=by
  show Res.bind _ _=_;rw [p,aH,q];rfl
theorem am {g:O2}{a b:EF}{σ:Sd}{h h1 h2 h3:Hd}{x y z:D}(p:a σ h=.ok x h1)(q:b σ h1=.ok y h2)(r:g x y h2=.ok z h3):aj g a b σ h=.ok z h3:=by
  show Res.bind _ _=_;rw [p,aH,q];exact r
theorem eU {r:LF}{σ:Sd}{h h':Hd}{xs:List D}(p:r σ h=.ok xs h')(q:xs.length≤SZ:=by exact of_decide_eq_true rfl):cS r σ h=.ok (.tup xs) h':=by
  show Res.bind _ _=_;rw [p];exact if_pos q
theorem gB {r:LF}{σ:Sd}{h h':Hd}{xs:List D}(p:r σ h=.ok xs h')(q:xs.length≤SZ:=by exact of_decide_eq_true rfl):aM r σ h=.ok (.ref h'.length) (h'++[.lst xs]):=by
  show Res.bind _ _=_;rw [p];exact if_pos q
theorem EY {a:LF}{b:EF}{σ:Sd}{h h1 h2:Hd}{l:List D}{i:Int}{d:D}(p:a σ h=.ok l h1)(q:b σ h1=.ok (.int i) h2)(r:atI l i=some d):fIx a b σ h=.ok d h2:=by
  show Res.bind _ _=_;rw [p,aH,q];simp only [aH,r]
theorem aZ {a b:EF}{σ:Sd}{h h1 h2:Hd}{x:D}{l:List D}{i:Int}{d:D}(p:a σ h=.ok x h1)(q:b σ h1=.ok (.int i) h2)(s:l8 h2 x=some l)(r:atI l i=some d):fAt a b σ h=.ok d h2:=by
  show aj _ _ _ _ _=_;exact am p q (by simp only [oAt,s,r])
theorem aQ {h:Hd}{n:Nat}{l:List D}(p:h[n]? = some (.lst l)):l8 h (.ref n)=some l:=by simp only [l8,p]
theorem aD {i:Nat}{e:EF}{σ:Sd}{h h':Hd}{d:D}(p:e σ h=.ok d h'):aE (gN i) e σ h=.nx (σ.set i (some d)) h':=by
  show outE _ _ _=_;rw [p];rfl
theorem bp {e:EF}{σ:Sd}{h h':Hd}{d:D}(p:e σ h=.ok d h'):bo e σ h=.rt d h':=by
  show outE _ _ _=_;rw [p];rfl
theorem ee {e:EF}{σ:Sd}{h h':Hd}{d:D}(p:e σ h=.ok d h'):gq e σ h=.nx σ h':=by
  show outE _ _ _=_;rw [p];rfl
theorem kF {t:TF}{a b:SF}{σ:Sd}{h h1:Hd}(p:t σ h=.ok true h1):sIf t a b σ h=a σ h1:=by
  unfold sIf;rw [p];rfl
theorem dA {t:TF}{a b:SF}{σ:Sd}{h h1:Hd}(p:t σ h=.ok false h1):sIf t a b σ h=b σ h1:=by
  unfold sIf;rw [p];rfl
theorem aJ {a:EF}{σ:Sd}{h h':Hd}{b:Bool}(p:a σ h=.ok (.bl b) h'):tE a σ h=.ok b h':=by
  show asB _=_;rw [p];rfl
theorem bV {t:TF}{σ:Sd}{h h':Hd}{b:Bool}(p:t σ h=.ok b h'):cK t σ h=.ok (!b) h':=by
  show Res.bind _ _=_;rw [p];rfl
theorem jR {t u:TF}{σ:Sd}{h h1 h':Hd}{b:Bool}(p:t σ h=.ok true h1)(q:u σ h1=.ok b h'):iR t u σ h=.ok b h':=by
  show Res.bind _ _=_;rw [p];exact q
theorem nO {t u:TF}{σ:Sd}{h h1:Hd}(p:t σ h=.ok false h1):iR t u σ h=.ok false h1:=by
  show Res.bind _ _=_;rw [p];rfl
theorem jn {t u:TF}{σ:Sd}{h h1 h':Hd}{b:Bool}(p:t σ h=.ok false h1)(q:u σ h1=.ok b h'):tOr t u σ h=.ok b h':=by
  show Res.bind _ _=_;rw [p];exact q
theorem CB {t u:TF}{σ:Sd}{h h1:Hd}(p:t σ h=.ok true h1):tOr t u σ h=.ok true h1:=by
  show Res.bind _ _=_;rw [p];rfl
theorem EZ {i j:Int}{h:Hd}:oEq (.int i) (.int j) h=.ok (.bl (decide (i=j))) h:=rfl
theorem eg {a:LF}{σ:Sd}{h h1:Hd}{l:List D}(p:a σ h=.ok l h1):cY a σ h=.ok (.int l.length) h1:=by
  show Res.bind _ _=_;rw [p];rfl
theorem cM {a:EF}{σ:Sd}{h h1:Hd}{x:D}{l:List D}(p:a σ h=.ok x h1)(s:l8 h1 x=some l):lOf a σ h=.ok l h1:=by
  show Res.bind _ _=_;rw [p];simp only [aH,s]
theorem yj {x i e:EF}{σ:Sd}{h h1 h2 h3:Hd}{d:D}{n k:Nat}{j:Int}{l:List D}(p:e σ h=.ok d h1)(q:x σ h1=.ok (.ref n) h2)(r:i σ h2=.ok (.int j) h3)(s:h3[n]? = some (.lst l))(t:ixN l.length j=some k):qN x i e σ h=.nx σ (h3.set n (.lst (l.set k d))):=by
  simp only [qN,p,q,r,outE,s,t]
theorem nc {x e:EF}{σ:Sd}{h h1 h2:Hd}{d:D}{n:Nat}{l l0:List D}(p:x σ h=.ok (.ref n) h1)(q:h1[n]? = some (.lst l0))(r:e σ h1=.ok d h2)(s:h2[n]? = some (.lst l))(t:l.length < SZ):mP x e σ h=.ok .non (h2.set n (.lst (l++[d]))):=by
  simp only [mP,p,aH,q,r,Oc,s,if_pos t]
theorem du {i j:Int}{h:Hd}(p:0 < j):cI (.int i) (.int j) h=.ok (.int (i % j)) h:=by
  simp only [cI,oIc,decide_eq_true p,if_true]
theorem ir {i j:Int}{h:Hd}(p:0 < j)(q:j < 2 ^ 250):gQ (.int i) (.int j) h=.ok (.int (i / j)) h:=by
  simp only [gQ,oIc,decide_eq_true p,decide_eq_true q,Bool.and_self,if_true]
theorem ng {i j:Int}{h:Hd}(e:i=j):oEq (.int i) (.int j) h=.ok (.bl true) h:=by rw [EZ,decide_eq_true e]
theorem kS {i j:Int}{h:Hd}(e : ¬ i=j):oEq (.int i) (.int j) h=.ok (.bl false) h:=by rw [EZ,decide_eq_false e]
theorem ON {i j:Int}{h:Hd}(e : ¬ i < j):oLt (.int i) (.int j) h=.ok (.bl false) h:=by show Res.ok (D.bl (decide (i < j))) h=_;rw [decide_eq_false e]
theorem OO {i j:Int}{h:Hd}(e:i < j):oLt (.int i) (.int j) h=.ok (.bl true) h:=by show Res.ok (D.bl (decide (i < j))) h=_;rw [decide_eq_true e]
theorem Js {i j:Int}{h:Hd}(p:(sml i || sml j)=true):cz (.int i) (.int j) h=.ok (.int (i * j)) h:=by
  show (if (sml i || sml j)=true then _ else _)=_
  exact if_pos p
theorem nP {i j:Int}{h:Hd}(p:sml i=true):cz (.int i) (.int j) h=.ok (.int (i * j)) h:=Js (by rw [p];rfl)
theorem LQ {i j:Int}{h:Hd}(p:sml j=true):cz (.int i) (.int j) h=.ok (.int (i * j)) h:=Js (by rw [p,Bool.or_true])
theorem ma {t:TF}{σ:Sd}{h h':Hd}{b:Bool}(p:t σ h=.ok b h'):fT t σ h=.ok (.bl b) h':=by
  show Res.bind _ _=_;rw [p];rfl
theorem cE {r:LF}{σ:Sd}{h0 h g:Hd}{xs:List D}{A:Nat}(hA:A=h0.length)(p:r σ h=.ok xs (h0++g))(q:xs.length≤SZ):aM r σ h=.ok (.ref (A + g.length)) (h0++(g++[.lst xs])):=by
  rw [gB p q,hA,List.length_append,List.append_assoc]
theorem rk {h0 g:Hd}{A:Nat}(hA:A=h0.length)(k:Nat)(c:dk):(h0++g).set (A + k) c=h0++g.set k c:=by
  subst hA
  rw [List.set_append_right _ _ (by omega)]
  congr 2;omega
theorem bQ {h0 g:Hd}{A:Nat}(hA:A=h0.length)(k:Nat):(h0++g)[A + k]? = g[k]? := by
  subst hA
  rw [List.getElem?_append_right (by omega),Nat.add_sub_cancel_left]
theorem cx {h0:Hd}{j:Nat}{c:dk}(g:Hd)(e:h0[j]? = some c):(h0++g)[j]? = some c:=(List.getElem?_append_left (List.getElem?_eq_some_iff.mp e).1).trans e
theorem c9 {a:EF}{σ:Sd}{h h1:Hd}{n:Nat}(p:a σ h=.ok (.int n) h1)(hn:n≤1000):bL a σ h=.ok ((List.range n).map (fun k:Nat=>D.int k),none) h1:=by
  show Res.bind _ _=_
  rw [p]
  exact if_pos ⟨Int.le_trans (by decide) (Int.natCast_nonneg n),Int.le_trans (Int.ofNat_le.mpr hn) (by decide)⟩
theorem eV {it:IF}{tg:GF}{b:SF}{σ:Sd}{h h1:Hd}{l:List D}{g:Option Nat}{o:Out}(p:it σ h=.ok (l,g) h1)(q:fO g l tg b l σ h1=o):fm it tg b σ h=o:=by
  unfold fm;rw [p];exact q
theorem cF {nl:Nat}{caps:List Nat}{it:IF}{tg:GF}{cs:List TF}{e:EF}{σ:Sd}{h h1 h2:Hd}{l ds:List D}{g:Option Nat}(p:it σ h=.ok (l,g) h1)(q:cX g l tg cs e l (iS nl caps σ) h1=.ok ds h2):bJ nl caps it tg cs e σ h=.ok ds h2:=by
  show Res.bind _ _=_;rw [p];exact q
theorem OP {la:LF}{b:EF}{σ:Sd}{h h1 h2:Hd}{l:List D}{n:Int}(p:la σ h=.ok l h1)(q:b σ h1=.ok (.int n) h2)(r:0≤n∧n≤1000∧l.length * n.toNat≤1000):sD la b σ h=.ok (List.replicate n.toNat l).flatten h2:=by
  simp only [sD,p,aH,q,if_pos r]
theorem OQ {k:Int}{n:Nat}{h:Hd}{l:List (Int × D)}(p:h[n]? = some (.dct l)):FS (.int k) (.ref n) h=.ok (.bl (sB l k).isSome) h:=by simp only [FS,p]
theorem E1 {x i e:EF}{σ:Sd}{h h1 h2 h3:Hd}{d:D}{n:Nat}{j:Int}{l:List (Int × D)}(p:e σ h=.ok d h1)(q:x σ h1=.ok (.ref n) h2)(r:i σ h2=.ok (.int j) h3)(s:h3[n]? = some (.dct l))(t:l.length < SZ):sC x i e σ h=.nx σ (h3.set n (.dct (Cy l j d))):=by
  simp only [sC,p,q,r,outE,s,if_pos t]
theorem CC {a:EF}{σ:Sd}{h h1:Hd}{n:Nat}{l:List D}(p:a σ h=.ok (.ref n) h1)(q:h1[n]? = some (.lst l)):ed .list a σ h=.ok (.bl true) h1:=by
  simp only [ed,p,aH,Ak,q];rfl
theorem dG {a:EF}{σ:Sd}{h h1:Hd}{n:Nat}{l:List D}(p:a σ h=.ok (.ref n) h1)(q:h1[n]? = some (.lst l)):ek a σ h=.ok (l,some n) h1:=by
  simp only [ek,p,aH,q]
theorem OR {a b:EF}{σ:Sd}{h h1 h2:Hd}{i j:Int}(p:a σ h=.ok (.int i) h1)(q:b σ h1=.ok (.int j) h2):uC a b σ h=.ok (.int (if j > i then j else i)) h2:=by
  simp only [uC,p,aH,q]
theorem CF {a:LF}{σ:Sd}{h h1:Hd}{l:List D}{is:List Int}(p:a σ h=.ok l h1)(q:gJ l=some is):r6 a σ h=.ok (.int is.sum) h1:=by
  simp only [r6,p,aH,q]
theorem jS {a:LF}{σ:Sd}{h h1:Hd}{l:List D}(p:a σ h=.ok l h1):eP a σ h=.ok (.tup l) h1:=by
  show Res.bind _ _=_;rw [p];rfl
theorem Jt {i j:Int}{h:Hd}(e:j < i):oGt (.int i) (.int j) h=.ok (.bl true) h:=by show Res.ok (D.bl (decide (j < i))) h=_;rw [decide_eq_true e]
theorem Ju {i j:Int}{h:Hd}(e : ¬ j < i):oGt (.int i) (.int j) h=.ok (.bl false) h:=by show Res.ok (D.bl (decide (j < i))) h=_;rw [decide_eq_false e]
theorem fG {h:Hd}{A:Nat}(hA:A=h.length)(c:dk):(h++[c])[A]? = some c:=by rw [hA];exact List.getElem?_concat_length
theorem lL {h:Hd}{A:Nat}(hA:A=h.length)(c d:dk):(h++[c]).set A d=h++[d]:=by
  have:=rk (g:=[c]) hA 0 d
  rwa [Nat.add_zero] at this
theorem fk {r:LF}{σ:Sd}{h h':Hd}{xs:List D}{A:Nat}(hA:A=h'.length)(p:r σ h=.ok xs h')(q:xs.length≤SZ):aM r σ h=.ok (.ref A) (h'++[.lst xs]):=by rw [hA];exact gB p q
theorem jT {l:List Int}{i:Nat}(h:i < l.length):atI (l.map D.int) (i:Int)=some (.int (l.getD i 0)):=d8 (by rw [List.getElem?_map,List.getElem?_eq_getElem h,List.getD_eq_getElem?_getD,List.getElem?_eq_getElem h];rfl)
theorem Jv {t:TF}{a b:EF}{σ:Sd}{h h1:Hd}(p:t σ h=.ok true h1):fIf t a b σ h=a σ h1:=by
  show Res.bind _ _=_;rw [p];rfl
theorem Jw {t:TF}{a b:EF}{σ:Sd}{h h1:Hd}(p:t σ h=.ok false h1):fIf t a b σ h=b σ h1:=by
  show Res.bind _ _=_;rw [p];rfl
theorem aI {a b:SF}{σ σ':Sd}{h h':Hd}(e:a σ h=.nx σ' h'):aC a b σ h=b σ' h':=by simp only [aC,e]
theorem qu {a b:SF}{σ:Sd}{h h':Hd}{d:D}(e:a σ h=.rt d h'):aC a b σ h=.rt d h':=by simp only [aC,e]
theorem cG {np n:Nat}{b:SF}{ds:List D}{σ:Sd}{h h':Hd}{d:D}(hl:ds.length=np)(st:(ds.map some++List.replicate (n - ds.length) none:Sd) = σ)(e:b σ h=.rt d h'):bP np n b ds h=letGo h (.ok d h'):=by
  unfold bP runB;rw [if_pos hl,st,e]
theorem Jx {np n:Nat}{b:SF}{ds:List D}{σ σ':Sd}{h h':Hd}(hl:ds.length=np)(st:(ds.map some++List.replicate (n - ds.length) none:Sd) = σ)(e:b σ h=.nx σ' h'):bP np n b ds h=letGo h (.ok .non h'):=by
  unfold bP runB;rw [if_pos hl,st,e]
theorem oS {t:TF}{σ:Sd}{h:Hd}{b:Bool}(p:t σ h=.ok b h):kK [t] σ h=.ok b h:=by
  simp only [kK,p,aH];cases b<;>rfl
theorem Jy {a:EF}{σ:Sd}{h h1:Hd}{l:List D}(p:a σ h=.ok (.tup l) h1):ek a σ h=.ok (l,none) h1:=by
  show Res.bind _ _=_;rw [p];rfl
theorem Jz {a:LF}{σ:Sd}{h h1:Hd}{l:List D}{bs:List Bool}(p:a σ h=.ok l h1)(q:kI l=some bs):Cn a σ h=.ok (.bl (bs.all id)) h1:=by
  simp only [Cn,p,aH,q]
theorem nh (a b:Int)(h:Hd):oNe (.int a) (.int b) h=.ok (.bl (!decide (a=b))) h:=rfl
theorem bI {a b:EF}{σ:Sd}{h h1 h2:Hd}{d e:D}(p:a σ h=.ok d h1)(q:b σ h1=.ok e h2):ad a (ad b ak) σ h=.ok [d,e] h2:=ag p (ag q rfl)
theorem i3 {n m:Nat}(h:n≤30)(q:30≤m:=by decide):n≤m:=Nat.le_trans h q
end Fm
set_option linter.all false
namespace Fm
noncomputable def cH:Fn:=bP 1 1 (bo (fT (iR (tE (ed .int (aa 0))) (cK (tE (ed .bool (aa 0)))))))
noncomputable def br:Fn:=bP 3 3 (bo (fT (iR (tE (au cH (ad (aa 0) ak))) (tE (rZ oLe oLe (aa 1) (aa 0) (aa 2))))))
noncomputable def bu:Fn:=bP 1 1 (bo (au br (ad (aa 0) (ad (fC (.int 0)) (ad (fC (.int 1)) ak)))))
noncomputable def dv:Fn:=bP 1 1 (bo (cY (lOf (fAt (aa 0) (fC (.int 0))))))
noncomputable def jo:Fn:=bP 2 2 (bo (fAt (fAt (aa 0) (fC (.int 0))) (aa 1)))
noncomputable def jp:Fn:=bP 2 2 (bo (fAt (fAt (aa 0) (fC (.int 1))) (aa 1)))
noncomputable def fu:Fn:=bP 2 2 (bo (fAt (fAt (aa 0) (fC (.int 2))) (aa 1)))
noncomputable abbrev nQ:SF:=(aC (sIf (cK (tE (au bu (ad (aa 3) ak)))) (bo (fC (.bl false))) bB)
    (aC (aE (gN 4) (au fu (ad (aa 0) (ad (aa 2) ak))))
    (sIf (iR (tE (aj iF (aa 4) (fC .non))) (tE (aj oNe (aa 3) (aa 4)))) (bo (fC (.bl false))) bB)))
noncomputable def d5:Fn:=bP 2 5 (aC (sIf (tOr (cK (tE (ed .tuple (aa 1)))) (tE (aj oNe (cY (lOf (aa 1))) (au dv (ad (aa 0) ak))))) (bo (fC (.bl false))) bB)
    (aC (fm (Ie (aa 1)) (gT [2,3]) nQ)
    (bo (fC (.bl true)))))
noncomputable def cQ:Fn:=bP 2 2 (sIf (cK (tE (au d5 (ad (aa 0) (ad (aa 1) ak))))) jL bB)
noncomputable def hJ:Fn:=bP 3 3 (bo (aj cz (fC (.int 2)) (r6 (bJ 2 [1] (ek (au jo (ad (aa 0) (ad (aa 2) ak)))) (gT [0,1]) [(tE (aj oEq (fAt (aa 2) (aa 0)) (fC (.int 1))))] (aa 1)))))
theorem nR (i:Int)(h:Hd):cH [.int i] h=.ok (.bl true) h:=(cG (d:=.bl true) (h':=h) rfl rfl rfl).trans aS
theorem iu (i a b:Int)(h:Hd):br [.int i,.int a,.int b] h=.ok (.bl (decide (a≤i) && decide (i≤b))) h:=by
  have ch:rZ oLe oLe (aa 1) (aa 0) (aa 2) [some (.int i),some (.int a),some (.int b)] h=.ok (.bl (decide (a≤i) && decide (i≤b))) h:=by
    show (match D.bl (decide (a≤i)) with | .bl true=>Res.ok (D.bl (decide (i≤b))) h | .bl false=>.ok (.bl false) h|_=>.bad)=_
    cases decide (a≤i)<;>rfl
  have t:iR (tE (au cH (ad (aa 0) ak))) (tE (rZ oLe oLe (aa 1) (aa 0) (aa 2))) [some (.int i),some (.int a),some (.int b)] h=.ok (decide (a≤i) && decide (i≤b)) h:=jR (aJ (aw (ag rfl rfl) (nR i h))) (aJ ch)
  exact (cG rfl rfl (bp (ma t))).trans aS
theorem cW (i:Int)(h:Hd):bu [.int i] h=.ok (.bl (decide (0≤i) && decide (i≤1))) h:=by
  exact (cG rfl rfl (bp (aw (ag rfl (bI rfl rfl)) (iu i 0 1 h)))).trans aS
theorem iN (w:Web)(h:Hd):dv [w.enc] h=.ok (.int w.ties.length) h:=by
  have:=(cG (np:=1) (n:=1) (b:=bo (cY (lOf (fAt (aa 0) (fC (.int 0)))))) (ds:=[w.enc]) (h:=h) rfl rfl (bp (eg (cM (aZ rfl rfl rfl rfl) rfl)))).trans aS
  rwa [List.length_map] at this
theorem AL (w:Web)(h:Hd){p:Nat}{r:List (Nat × Int)}(e:w.ties[p]? = some r):jo [w.enc,.int p] h=.ok (iq r) h:=by
  have q:atI (w.ties.map iq) (p:Int)=some (iq r):=d8 (by simp [e])
  exact (cG rfl rfl (bp (aZ (aZ rfl rfl rfl rfl) rfl rfl q))).trans aS
theorem CH (w:Web)(h:Hd){p:Nat}{r:Int}(e:w.bars[p]? = some r):jp [w.enc,.int p] h=.ok (.int r) h:=by
  have q:atI (w.bars.map .int) (p:Int)=some (.int r):=d8 (by simp [e])
  exact (cG rfl rfl (bp (aZ (aZ rfl rfl rfl rfl) rfl rfl q))).trans aS
theorem fv (w:Web)(h:Hd){p:Nat}{r:Option Int}(e:w.stays[p]? = some r):fu [w.enc,.int p] h=.ok (bS r) h:=by
  have q:atI (w.stays.map bS) (p:Int)=some (bS r):=d8 (by simp [e])
  exact (cG rfl rfl (bp (aZ (aZ rfl rfl rfl rfl) rfl rfl q))).trans aS
theorem lN {w:Web}{n:Nat}{s:List Int}(W:w.Ok n)(F:bU w n s)(h:Hd):d5 [w.enc,af s] h=.ok (.bl true) h:=by
  obtain⟨σ',h',h1,h2,a,b,c,h3⟩:=cD (P:=fun _ σ h'=>h'=h ∧ ∃ a b c,σ = [some w.enc,some (af s),a,b,c]) (g:=none) (k:=0)
      (all:=((List.range (s.map D.int).length).zip (s.map D.int)).map fun p=>D.tup [.int (p.1:Nat),p.2]) (fun _ _ _ _=>trivial)
      (xs:=((List.range (s.map D.int).length).zip (s.map D.int)).map fun p=>D.tup [.int (p.1:Nat),p.2]) (tg:=gT [2,3]) (σ:=[some w.enc,some (af s),none,none,none]) (h:=h)
      (b:=nQ) (by
      rintro i x σ h0 hx ⟨rfl,a,b,c,rfl⟩
      have hi:i < s.length:=by
        have:=(List.getElem?_eq_some_iff.mp hx).1
        simpa using this
      have hx':x=.tup [.int (i:Nat),.int s[i]]:=by simpa [hi,List.getElem?_eq_getElem] using hx.symm
      subst hx'
      have hs:w.stays[i]? = some (w.stays[i]'(by rw [W.s,← F.len];exact hi)):=List.getElem?_eq_getElem _
      generalize w.stays[i]'(by rw [W.s,← F.len];exact hi)=st at hs
      have op:bu [.int s[i]] h0=.ok (.bl true) h0:=by
        rw [cW];rcases F.op _ (List.getElem_mem hi) with e|e<;>rw [e]<;>rfl
      have s1:sIf (cK (tE (au bu (ad (aa 3) ak)))) (bo (fC (.bl false))) bB [some w.enc,some (af s),some (.int i),some (.int s[i]),c] h0=.nx [some w.enc,some (af s),some (.int i),some (.int s[i]),c] h0:=dA (bV (aJ (aw (ag rfl rfl) op)))
      have sv:=fv w h0 hs
      cases st with
      | none=>exact⟨_,rfl,_,h0,(aI s1).trans ((aI (aD (aw (bI rfl rfl) sv))).trans (dA (nO (aJ (am rfl rfl rfl))))),rfl,_,_,_,rfl⟩
      | some y =>
        have hy:s[i] = y:=by have:=F.st i y hs;rw [List.getElem?_eq_getElem hi] at this;exact Option.some.inj this
        exact⟨_,rfl,_,h0,(aI s1).trans ((aI (aD (aw (bI rfl rfl) sv))).trans (dA (jR (aJ (am rfl rfl rfl)) (aJ (am rfl rfl (by rw [show bS (some y)=D.int y from rfl,nh,decide_eq_true hy];rfl)))))),rfl,_,_,_,rfl⟩) ⟨rfl,_,_,_,rfl⟩
  rw [h2,h3] at h1
  have s1:sIf (tOr (cK (tE (ed .tuple (aa 1)))) (tE (aj oNe (cY (lOf (aa 1))) (au dv (ad (aa 0) ak))))) (bo (fC (.bl false))) bB [some w.enc,some (af s),none,none,none] h=.nx [some w.enc,some (af s),none,none,none] h :=
    dA (jn (bV (b:=true) (aJ rfl)) (aJ (am (eg (cM rfl rfl)) (aw (ag rfl rfl) (iN w h)) (by rw [nh,List.length_map,F.len,W.t,decide_eq_true rfl];rfl))))
  exact (cG rfl rfl ((aI s1).trans ((aI (eV rfl h1)).trans (bp rfl)))).trans aS
theorem AM {w:Web}{n:Nat}{s:List Int}(W:w.Ok n)(F:bU w n s)(h:Hd):cQ [w.enc,af s] h=.ok .non h:=by
  exact (Jx rfl rfl (dA (bV (aJ (aw (bI rfl rfl) (lN W F h)))))).trans aS
theorem oT (l:List Int):gJ (l.map .int)=some l:=by
  induction l with
  | nil=>rfl
  | cons x xs ih=>simp [gJ,ih]
theorem OS {s:List Int}{i:Nat}(h:i < s.length):atI (s.map .int) (i:Int)=some (.int s[i]):=d8 (by simp [h])
def gY (r:List (Nat × Int)) (s:List Int):List Int:=(r.filter fun p=>decide (s.getD p.1 0=1)).map (·.2)
def bW (r:List (Nat × Int)) (s:List Int):Int:=(gY r s).sum
theorem JA {r:List (Nat × Int)}{s:List Int}(hr:∀ q∈r,q.1 < s.length)(h:Hd):cX none (r.map mY) (gT [0,1]) [(tE (aj oEq (fAt (aa 2) (aa 0)) (fC (.int 1))))] (aa 1) (r.map mY) [none,none,some (af s)] h=.ok ((gY r s).map D.int) h:=by
  have key:cX none (r.map mY) (gT [0,1]) [(tE (aj oEq (fAt (aa 2) (aa 0)) (fC (.int 1))))] (aa 1) (r.map mY) [none,none,some (af s)] h
      = .ok (((r.map mY).filter fun d=>match d with | .tup [.int i,_]=>decide (s.getD i.toNat 0=1)|_=>false).map fun d=>match d with | .tup [_,x]=>x|_=>.non) h:=by
    refine cw (g:=none) (I:=fun σ=>∃ a b,σ = [a,b,some (af s)]) _ _ trivial ?_ ⟨_,_,rfl⟩
    rintro x hx σ ⟨a,b,rfl⟩
    obtain⟨⟨q,wt⟩,hq,rfl⟩:=List.mem_map.mp hx
    exact⟨_,rfl,⟨_,_,rfl⟩,oS (aJ (am (aZ rfl rfl rfl (jT (hr _ hq))) rfl EZ)),fun _=>rfl⟩
  rw [key,gY,List.filter_map,List.map_map,List.map_map]
  rfl
theorem CJ {w:Web}{n:Nat}{s:List Int}(W:w.Ok n)(hs:s.length=n){p:Nat}{r:List (Nat × Int)}(e:w.ties[p]? = some r)(h:Hd) :
    hJ [w.enc,af s,.int p] h=.ok (.int (2 * bW r s)) h:=by
  have hr:∀ q∈r,q.1 < s.length:=fun q hq=>by rw [hs];exact W.lt r (List.mem_of_getElem? e) q hq
  exact (cG rfl rfl (bp (am rfl (CF (cF (Jy (aw (bI rfl rfl) (AL w h e))) (JA hr h)) (oT _)) (nP (by decide))))).trans aS
theorem LR {x:Int}(h:x=0∨x=1):sml x=true:=by rcases h with e|e<;>subst e<;>decide
end Fm
set_option linter.all false
namespace Fm
noncomputable def fR:Fn:=bP 3 6 (aC (aE (gN 3) (au fu (ad (aa 0) (ad (aa 2) ak))))
    (aC (sIf (tE (aj iF (aa 3) (fC .non))) (bo (aa 3)) bB)
    (aC (aE (gN 4) (au hJ (ad (aa 0) (ad (aa 1) (ad (aa 2) ak)))))
    (aC (aE (gN 5) (au jp (ad (aa 0) (ad (aa 2) ak))))
    (aC (sIf (tE (aj oEq (aa 4) (aa 5))) (bo (fAt (aa 1) (aa 2))) bB)
    (bo (fIf (tE (aj oGt (aa 4) (aa 5))) (fC (.int 1)) (fC (.int 0)))))))))
noncomputable def cR:Fn:=bP 2 2 (bo (eP (bJ 1 [0,1] (bL (au dv (ad (aa 0) ak))) (gN 0) [] (au fR (ad (aa 1) (ad (aa 2) (ad (aa 0) ak)))))))
noncomputable abbrev sK:SF:=(aC (gq (mP (aa 2) (aa 3)))
    (aE (gN 3) (au cR (ad (aa 0) (ad (aa 3) ak)))))
noncomputable def iO:Fn:=bP 2 5 (aC (gq (au cQ (ad (aa 0) (ad (aa 1) ak))))
    (aC (aE (gN 2) (aM (ad (aa 1) (ad (au cR (ad (aa 0) (ad (aa 1) ak))) ak))))
    (aC (aE (gN 3) (au cR (ad (aa 0) (ad (fAt (aa 2) (fC (.int 1))) ak))))
    (aC (sd (tE (aj oNe (aa 3) (fAt (aa 2) (fC (.int (-2)))))) sK)
    (aC (aE (gN 4) (fIf (tE (aj oEq (fAt (aa 2) (fC (.int (-1)))) (fAt (aa 2) (fC (.int (-2)))))) (fC (.str [114,101,115,116])) (fC (.str [112,97,105,114]))))
    (bo (cS (ad (aj nF (cY (lOf (aa 2))) (fC (.int 2))) (ad (aa 4) (ad (aa 2) ak))))))))))
def cJ (w:Web) (s:List Int) (p:Nat):Int:=match w.stays.getD p none with
  | some x=>x
  | none=>if 2 * bW (w.ties.getD p []) s=w.bars.getD p 0 then s.getD p 0 else if w.bars.getD p 0 < 2 * bW (w.ties.getD p []) s then 1 else 0
def bM (w:Web) (n:Nat) (s:List Int):List Int:=(List.range n).map (cJ w s)
theorem CK {w:Web}{n:Nat}{s:List Int}(W:w.Ok n)(F:bU w n s){p:Nat}(hp:p < n)(h:Hd):fR [w.enc,af s,.int p] h=.ok (.int (cJ w s p)) h:=by
  have ht:p < w.ties.length:=by rw [W.t];exact hp
  have hb:p < w.bars.length:=by rw [W.b];exact hp
  have hst:p < w.stays.length:=by rw [W.s];exact hp
  have hs:p < s.length:=by rw [F.len];exact hp
  have et:w.ties[p]? = some w.ties[p]:=by simp [ht]
  have eb:w.bars[p]? = some w.bars[p]:=by simp [hb]
  have es:w.stays[p]? = some w.stays[p]:=by simp [hst]
  have pull:=CJ W F.len et h
  have gt:w.ties.getD p [] = w.ties[p]:=by simp [List.getD,ht]
  have gb:w.bars.getD p 0=w.bars[p]:=by simp [List.getD,hb]
  have gs:w.stays.getD p none=w.stays[p]:=by simp [List.getD,hst]
  have gi:s.getD p 0=s[p]:=by simp [List.getD,hs]
  have ai:=OS hs
  cases c:w.stays[p] with
  | some x =>
    rw [c] at es
    have nx:cJ w s p=x:=by unfold cJ;rw [gs,c]
    rw [nx]
    exact (cG rfl rfl ((aI (aD (aw (bI rfl rfl) (fv w h es)))).trans (qu ((kF (aJ (am rfl rfl rfl))).trans (bp rfl))))).trans aS
  | none =>
    rw [c] at es
    have sv:=fv w h es
    have bv:=CH w h eb
    simp only [cJ,gs,c,gt,gb,gi]
    have s1:aE (gN 3) (au fu (ad (aa 0) (ad (aa 2) ak))) [some w.enc,some (af s),some (.int p),none,none,none] h=.nx [some w.enc,some (af s),some (.int p),some .non,none,none] h:=aD (aw (bI rfl rfl) sv)
    have s2:sIf (tE (aj iF (aa 3) (fC .non))) (bo (aa 3)) bB [some w.enc,some (af s),some (.int p),some .non,none,none] h=.nx [some w.enc,some (af s),some (.int p),some .non,none,none] h:=dA (aJ (am rfl rfl rfl))
    generalize 2 * bW w.ties[p] s=P at pull
    have s3:aE (gN 4) (au hJ (ad (aa 0) (ad (aa 1) (ad (aa 2) ak)))) [some w.enc,some (af s),some (.int p),some .non,none,none] h=.nx [some w.enc,some (af s),some (.int p),some .non,some (.int P),none] h:=aD (aw (ag rfl (bI rfl rfl)) pull)
    have s4:aE (gN 5) (au jp (ad (aa 0) (ad (aa 2) ak))) [some w.enc,some (af s),some (.int p),some .non,some (.int P),none] h=.nx [some w.enc,some (af s),some (.int p),some .non,some (.int P),some (.int w.bars[p])] h:=aD (aw (bI rfl rfl) bv)
    have go:∀ {v:Int},aC (sIf (tE (aj oEq (aa 4) (aa 5))) (bo (fAt (aa 1) (aa 2))) bB) (bo (fIf (tE (aj oGt (aa 4) (aa 5))) (fC (.int 1)) (fC (.int 0)))) [some w.enc,some (af s),some (.int p),some .non,some (.int P),some (.int w.bars[p])] h=.rt (.int v) h→fR [w.enc,af s,.int p] h=.ok (.int v) h:=fun e=>(cG rfl rfl ((aI s1).trans ((aI s2).trans ((aI s3).trans ((aI s4).trans e))))).trans aS
    by_cases e1:P=w.bars[p]
    · rw [if_pos e1];exact go (qu ((kF (aJ (am rfl rfl (ng e1)))).trans (bp (aZ rfl rfl rfl ai))))
    · rw [if_neg e1]
      by_cases e2:w.bars[p] < P
      · rw [if_pos e2];exact go ((aI (dA (aJ (am rfl rfl (kS e1))))).trans (bp ((Jv (aJ (am rfl rfl (Jt e2)))).trans rfl)))
      · rw [if_neg e2];exact go ((aI (dA (aJ (am rfl rfl (kS e1))))).trans (bp ((Jw (aJ (am rfl rfl (Ju e2)))).trans rfl)))
theorem jU {w:Web}{n:Nat}{s:List Int}(W:w.Ok n)(F:bU w n s)(h:Hd):cR [w.enc,af s] h=.ok (af (bM w n s)) h:=by
  have key:cX none ((List.range n).map fun k:Nat=>D.int k) (gN 0) [] (au fR (ad (aa 1) (ad (aa 2) (ad (aa 0) ak)))) ((List.range n).map fun k:Nat=>D.int k) [none,some w.enc,some (af s)] h
      = .ok (((((List.range n).map fun k:Nat=>D.int k).filter fun _=>true)).map fun d=>match d with | .int i=>.int (cJ w s i.toNat)|_=>.non) h:=by
    refine cw (g:=none) (I:=fun σ=>∃ a,σ = [a,some w.enc,some (af s)]) _ _ trivial ?_ ⟨_,rfl⟩
    rintro x hx σ ⟨a,rfl⟩
    obtain⟨i,hi,rfl⟩:=List.mem_map.mp hx
    have hi:=List.mem_range.mp hi
    exact⟨_,rfl,⟨_,rfl⟩,by simp,fun _=>aw (ag rfl (bI rfl rfl)) (CK W F hi h)⟩
  have k2:((((List.range n).map fun k:Nat=>D.int k).filter fun _=>true)).map (fun d=>match d with | .int i=>D.int (cJ w s i.toNat)|_=>.non)=(bM w n s).map D.int:=by
    rw [List.filter_eq_self.mpr (by simp),List.map_map,bM,List.map_map];rfl
  rw [k2] at key
  have mq:dv [w.enc] h=.ok (.int n) h:=W.t ▸ iN w h
  exact (cG rfl rfl (bp (jS (cF (c9 (aw (ag rfl rfl) mq) W.sz) key)))).trans aS
def cN (w:Web):Prop:=∀ x∈w.stays,x=none∨x=some 0∨x=some 1
theorem AN {w:Web}{n:Nat}{s:List Int}(F:bU w n s)(i:Nat):s.getD i 0=0∨s.getD i 0=1:=by
  by_cases hi:i < s.length
  · rw [List.getD,List.getElem?_eq_getElem hi];exact F.op _ (List.getElem_mem hi)
  · rw [List.getD,List.getElem?_eq_none (by omega)];exact .inl rfl
theorem sL {w:Web}{n:Nat}{s:List Int}(F:bU w n s)(S:cN w)(p:Nat):cJ w s p=0∨cJ w s p=1:=by
  unfold cJ
  cases c:w.stays.getD p none with
  | some x =>
    have:some x∈w.stays:=by
      rw [List.getD] at c
      cases e:w.stays[p]? with
      | none=>rw [e] at c;cases c
      | some y=>rw [e] at c;simp at c;subst c;exact List.mem_of_getElem? e
    have:=S _ this
    simp at this
    exact this
  | none =>
    simp only
    split
    · exact AN F p
    · split<;>simp
theorem oU {w:Web}{n:Nat}{s:List Int}(W:w.Ok n)(S:cN w)(F:bU w n s):bU w n (bM w n s) where
  len:=by simp [bM]
  op:=fun x hx=>by
    obtain⟨p,hp,rfl⟩:=List.mem_map.mp hx
    exact sL F S p
  st:=fun i x e=>by
    have hi:i < n:=by rw [← W.s];exact (List.getElem?_eq_some_iff.mp e).1
    have:w.stays.getD i none=some x:=by simp [List.getD,e]
    have hn:cJ w s i=x:=by unfold cJ;rw [this]
    simp [bM,hi,hn]
def hist (w:Web) (n:Nat) (s:List Int):Nat→List Int
  | 0=>s
  | k + 1=>bM w n (hist w n s k)
theorem bK {w:Web}{n:Nat}{s:List Int}(W:w.Ok n)(S:cN w)(F:bU w n s):∀ k,bU w n (hist w n s k)
  | 0=>F
  | k + 1=>oU W S (bK W S F k)
def ce (w:Web) (n:Nat) (s:List Int) (m:Nat):List (List Int):=(List.range m).map (hist w n s)
theorem CL {w:Web}{n:Nat}{s:List Int}(m:Nat):ce w n s (m + 1)=ce w n s m++[hist w n s m]:=by simp [ce,List.range_succ]
theorem lO {w:Web}{n:Nat}{s:List Int}(m:Nat):(ce w n s m).length=m:=by simp [ce]
theorem JB {w:Web}{n:Nat}{s:List Int}{m i:Nat}(h:i < m):atI ((ce w n s m).map af) (i:Int)=some (af (hist w n s i)):=d8 (by simp [ce,h])
end Fm
set_option linter.all false
namespace Fm
noncomputable def kT:Fn:=bP 2 4 (aC (sIf (tOr (cK (tE (ed .tuple (aa 1)))) (tE (aj oNe (cY (lOf (aa 1))) (fC (.int 3))))) (bo (fC (.bl false))) bB)
    (aC (aE (gN 2) (fAt (aa 1) (fC (.int 0))))
    (aC (aE (gN 3) (fAt (aa 1) (fC (.int 1))))
    (aC (sIf (tOr (cK (tE (au br (ad (aa 2) (ad (fC (.int 0)) (ad (aj nF (aa 0) (fC (.int 1))) ak)))))) (cK (tE (au br (ad (aa 3) (ad (fC (.int 0)) (ad (aj nF (aa 0) (fC (.int 1))) ak))))))) (bo (fC (.bl false))) bB)
    (bo (fT (iR (tE (aj oNe (aa 2) (aa 3))) (tE (au br (ad (fAt (aa 1) (fC (.int 2))) (ad (fC (.int 1)) (ad (fC (.int 400)) ak))))))))))))
noncomputable abbrev dP:SF:=(aC (sIf (cK (tE (au kT (ad (aa 0) (ad (aa 3) ak))))) jL bB)
    (aC (aE (gN 4) (fAt (aa 3) (fC (.int 0))))
    (aC (aE (gN 5) (fAt (aa 3) (fC (.int 1))))
    (aC (sIf (tE (aj FS (aa 5) (fAt (aa 2) (aa 4)))) jL bB)
    (aC (sC (fAt (aa 2) (aa 4)) (aa 5) (fAt (aa 3) (fC (.int 2))))
    (sC (fAt (aa 2) (aa 5)) (aa 4) (fAt (aa 3) (fC (.int 2)))))))))
noncomputable def dH:Fn:=bP 2 6 (aC (sIf (cK (tE (ed .list (aa 1)))) jL bB)
    (aC (aE (gN 2) (aM (bJ 1 [] (bL (aa 0)) (gN 0) [] wW)))
    (aC (fm (ek (aa 1)) (gN 3) dP)
    (bo (aa 2)))))
noncomputable def eh:Fn:=bP 2 2 (aC (sIf (tE (aj nG (aa 1) (fC .non))) jL bB)
    (aC (sIf (tOr (cK (tE (ed .list (aa 1)))) (tE (aj oNe (cY (lOf (aa 1))) (cY (lOf (aa 0)))))) jL bB)
    (aC (sIf (cK (tE (Cn (bJ 1 [] (ek (aa 1)) (gN 0) [] (au cH (ad (aa 0) ak)))))) jL bB)
    (bo (eP (lOf (aa 1)))))))
noncomputable def dI:Fn:=bP 2 2 (aC (sIf (tE (aj nG (aa 1) (fC .non))) (bo (eP (bJ 1 [] (bL (aa 0)) (gN 0) [] (fC .non)))) bB)
    (aC (sIf (tOr (cK (tE (ed .list (aa 1)))) (tE (aj oNe (cY (lOf (aa 1))) (aa 0)))) jL bB)
    (aC (sIf (cK (tE (Cn (bJ 1 [] (ek (aa 1)) (gN 0) [] (fT (tOr (tE (aj nG (aa 0) (fC .non))) (tE (au bu (ad (aa 0) ak))))))))) jL bB)
    (bo (eP (lOf (aa 1)))))))
noncomputable def gr:Fn:=bP 4 6 (aC (sIf (cK (tE (au br (ad (aa 0) (ad (fC (.int 1)) (ad (fC (.int 30)) ak)))))) jL bB)
    (aC (aE (gN 4) (au dH (ad (aa 0) (ad (aa 1) ak))))
    (aC (aE (gN 5) (eP (bJ 1 [] (ek (aa 4)) (gN 0) [] (eP (mW (aa 0))))))
    (bo (cS (ad (aa 5) (ad (au eh (ad (aa 4) (ad (aa 2) ak))) (ad (au dI (ad (aa 0) (ad (aa 3) ak))) ak))))))))
noncomputable def w5:Fn:=bP 2 4 (aC (aE (gN 2) (fC (.int 0)))
    (aC (sIf (tE (aj oLt (aa 1) (cY (lOf (aa 0))))) (aE (gN 2) (fAt (aa 0) (aa 1))) bB)
    (aC (aE (gN 3) (fT (tOr (tE (aj oEq (cY (lOf (aa 0))) (fC (.int 0)))) (tE (aj oEq (aj cI (fAt (aa 0) (fC (.int 0))) (fC (.int 2))) (fC (.int 1)))))))
    (aC (sIf (tE (aa 3)) (aE (gN 2) (aj dM (aj cI (aa 2) (fC (.int 2147483647))) (aj cz (fC (.int 1000003)) (aa 1)))) bB)
    (bo (aM (ad (aa 2) (ad (fC (.int 0)) (ad (aa 3) ak)))))))))
noncomputable def dw:Fn:=bP 2 4 (aC (qN (aa 0) (fC (.int 1)) (aj dM (fAt (aa 0) (fC (.int 1))) (fC (.int 1))))
    (aC (sIf (tE (fAt (aa 0) (fC (.int 2)))) (aC (aE (gN 2) (aj cI (aj cz (aj dM (aj dM (fAt (aa 0) (fC (.int 0))) (aj cz (fC (.int 7919)) (fAt (aa 0) (fC (.int 1))))) (fC (.int 1))) (fC (.int 48271))) (fC (.int 2147483647))))
    (aC (aE (gN 2) (aj cI (aj cz (aa 2) (aj dM (aj cI (aa 2) (fC (.int 65521))) (fAt (aa 0) (fC (.int 1))))) (fC (.int 2147483629))))
    (bo (aj cI (aj cI (aj dM (aj cz (aa 2) (aa 2)) (aj cz (fC (.int 69621)) (aa 2))) (fC (.int 2147483563))) (aa 1))))) bB)
    (aC (aE (gN 3) (aj cI (fAt (aa 0) (fC (.int 0))) (aa 1)))
    (aC (qN (aa 0) (fC (.int 0)) (aj gQ (fAt (aa 0) (fC (.int 0))) (aa 1)))
    (bo (aa 3))))))
noncomputable def LS:Fn:=bP 3 3 (aC (sIf (tE (aj oEq (aa 0) (fC (.int 0)))) (bo (aa 2)) bB)
    (aC (sIf (tE (aj oEq (aa 0) (fC (.int 1)))) (bo (aj nF (aa 1) (fC (.int 60)))) bB)
    (aC (sIf (tE (aj oEq (aa 0) (fC (.int 2)))) (bo (aj nF (aj dM (aa 2) (aj cI (aa 1) (fC (.int 5)))) (fC (.int 2)))) bB)
    (aC (sIf (tE (aj oEq (aa 0) (fC (.int 3)))) (bo (aj cz (fC (.int 2)) (aj cI (aa 1) (aj dM (aa 2) (fC (.int 1)))))) bB)
    (bo (aj cz (aj dM (aj Q8 (fC (.int 10)) (fC (.int 59))) (aa 1)) (fIx (ad (fC (.int 1)) (ad (fC (.int (-1))) ak)) (aj cI (aa 1) (fC (.int 2))))))))))
noncomputable abbrev AO:SF:=(sIf (tE (aj oEq (au dw (ad (aa 9) (ad (aa 3) ak))) (fC (.int 0)))) (aC (aE (gN 11) (aj dM (fC (.int 1)) (au dw (ad (aa 9) (ad (fIx (ad (fC (.int 3)) (ad (fC (.int 400)) ak)) (au dw (ad (aa 9) (ad (fC (.int 2)) ak)))) ak)))))
    (aC (gq (Rb (aa 4) (au dw (ad (aa 9) (ad (aj dM (cY (lOf (aa 4))) (fC (.int 1))) ak))) (fIx (ad (cS (ad (aa 8) (ad (aa 10) (ad (aa 11) ak)))) (ad (cS (ad (aa 10) (ad (aa 8) (ad (aa 11) ak)))) ak)) (aj cI (aa 11) (fC (.int 2))))))
    (aC (qN (aa 7) (aa 8) (aj dM (fAt (aa 7) (aa 8)) (aa 11)))
    (qN (aa 7) (aa 10) (aj dM (fAt (aa 7) (aa 10)) (aa 11)))))) bB)
noncomputable abbrev AQ:SF:=(aC (aE (gN 9) (au w5 (ad (aa 0) (ad (aj dM (fC (.int 1)) (aa 8)) ak))))
    (aC (gq (mP (aa 6) (fIx (ad (fC .non) (ad (fC .non) (ad (fC .non) (ad (fC (.int 0)) (ad (fC (.int 1)) ak))))) (au dw (ad (aa 9) (ad (fC (.int 5)) ak))))))
    (aC (gq (mP (aa 5) (cS (ad (au dw (ad (aa 9) (ad (fC (.int 5)) ak))) (ad (au dw (ad (aa 9) (ad (fC (.int 200)) ak))) ak)))))
    (fm (bL (aa 8)) (gN 10) AO))))
noncomputable def CM:Fn:=bP 1 12 (aC (aE (gN 1) (au w5 (ad (aa 0) (ad (fC (.int 0)) ak))))
    (aC (gq (au dw (ad (aa 1) (ad (fC (.int 2)) ak))))
    (aC (aE (gN 2) (aj dM (fC (.int 1)) (au dw (ad (aa 1) (ad (fIx (ad (fC (.int 6)) (ad (fC (.int 12)) (ad (fC (.int 30)) ak))) (au dw (ad (aa 1) (ad (fC (.int 3)) ak)))) ak)))))
    (aC (aE (gN 3) (fIx (ad (fC (.int 1)) (ad (fC (.int 2)) (ad (fC (.int 5)) ak))) (au dw (ad (aa 1) (ad (fC (.int 3)) ak)))))
    (aC (aE (gN 4) (aM ak))
    (aC (aE (gN 5) (aM ak))
    (aC (aE (gN 6) (aM ak))
    (aC (aE (gN 7) (aM (sD (ad (fC (.int 0)) ak) (aa 2))))
    (aC (fm (bL (aa 2)) (gN 8) AQ)
    (aC (aE (gN 5) (aM (bJ 1 [7,5] (bL (aa 2)) (gN 0) [] (au LS (ad (fAt (fAt (aa 2) (aa 0)) (fC (.int 0))) (ad (fAt (fAt (aa 2) (aa 0)) (fC (.int 1))) (ad (fAt (aa 1) (aa 0)) ak)))))))
    (bo (cS (ad (aa 2) (ad (aa 4) (ad (aa 5) (ad (aa 6) (ad (aa 7) ak)))))))))))))))))
end Fm
set_option linter.all false
namespace Fm
theorem aG {a b:SF}{σ σ':Sd}{h h':Hd}(e:a σ h=.nx σ' h'):aC a b σ h=b σ' h':=by simp [aC,e]
theorem rl {x:Int}(h0:0≤x)(h1:x < 4611686018427387904):sml x=true:=by
  simp only [sml,Bool.and_eq_true,decide_eq_true_eq];omega
theorem jV {α : Type}{f : α → D}{l:List α}{i:Nat}(h:i < l.length):atI (l.map f) (i:Int)=some (f l[i]):=d8 (by simp [h])
end Fm
set_option linter.all false
namespace Fm
theorem dQ {n i:Nat}{x:D}(hx:((List.range n).map fun k:Nat=>D.int k)[i]? = some x):i < n∧x=.int (i:Nat):=by
  have hi:i < n:=by
    have:=(List.getElem?_eq_some_iff.mp hx).1
    simpa using this
  exact⟨hi,by simpa [hi,List.getElem?_eq_getElem] using hx.symm⟩
theorem Qq {α : Type}(f : α → D)(l:List α){x:Int}(h0:0≤x)(h:x < l.length):∃ v∈l,atI (l.map f) x=some (f v):=by
  have h3:x.toNat < l.length:=by omega
  refine⟨l[x.toNat],List.getElem_mem h3,?_⟩
  have:=jV (f:=f) h3
  rwa [show ((x.toNat:Nat):Int)=x by omega] at this
structure Tie where
  a:Nat
  b:Nat
  w:Int
def dh (t:Tie):D:=.tup [.int t.a,.int t.b,.int t.w]
def far (i:Nat) (t:Tie):Option Nat:=if t.a=i then some t.b else if t.b=i then some t.a else none
def wOf (i:Nat) (t:Tie):Int:=if t.a=i∨t.b=i then t.w else 0
def Nh (T:List Tie) (i:Nat):Int:=(T.map (wOf i)).sum
def Qr (one other:Nat) (t:Tie):Prop:=(t.a < one∧t.b < one)∨(t.a=one∧t.b < other)∨(t.b=one∧t.a < other)
def i4 (s t:Tie):Prop:=¬ (s.a=t.a∧s.b=t.b) ∧ ¬ (s.a=t.b∧s.b=t.a)
structure TOk (n one other:Nat) (T:List Tie):Prop where
  ne:∀ t∈T,t.a≠t.b
  lt:∀ t∈T,t.a < n∧t.b < n
  wt:∀ t∈T,1≤t.w∧t.w≤400
  be:∀ t∈T,Qr one other t
  un:T.Pairwise i4
  len:T.length≤30 * one + other
theorem i4.symm {s t:Tie}(h:i4 s t):i4 t s:=⟨fun z=>h.1 ⟨z.1.symm,z.2.symm⟩,fun z=>h.2 ⟨z.2.symm,z.1.symm⟩⟩
theorem TOk.skip {n one other:Nat}{T:List Tie}(o:TOk n one other T):TOk n one (other + 1) T :=
  ⟨o.ne,o.lt,o.wt,fun t ht=>by
    rcases o.be t ht with h|h|h
    · exact .inl h
    · exact .inr (.inl ⟨h.1,Nat.lt_succ_of_lt h.2⟩)
    · exact .inr (.inr ⟨h.1,Nat.lt_succ_of_lt h.2⟩),o.un,Nat.le_succ_of_le o.len⟩
theorem TOk.step {n one:Nat}{T:List Tie}(o:TOk n one one T)(h:one < n)(hn:n≤30):TOk n (one + 1) 0 T :=
  ⟨o.ne,o.lt,o.wt,fun t ht=>by
    rcases o.be t ht with h|h|h
    · exact .inl ⟨Nat.lt_succ_of_lt h.1,Nat.lt_succ_of_lt h.2⟩
    · exact .inl ⟨Nat.lt_succ_of_le (Nat.le_of_eq h.1),Nat.lt_succ_of_lt h.2⟩
    · exact .inl ⟨Nat.lt_succ_of_lt h.2,Nat.lt_succ_of_le (Nat.le_of_eq h.1)⟩,o.un,Nat.le_trans o.len (Nat.add_le_add_left (Nat.le_trans (Nat.le_of_lt h) hn) _)⟩
theorem rn {α : Type}{x y : α}{l:List α}{k:Nat}(h:y∈l.take k++[x]++l.drop k):y=x∨y∈l:=by
  simp only [List.append_assoc,List.mem_append,List.mem_singleton] at h
  rcases h with h|h|h
  · exact .inr (List.mem_of_mem_take h)
  · exact .inl h
  · exact .inr (List.mem_of_mem_drop h)
theorem JC {α : Type}{R : α → α → Prop}(sym:∀ a b,R a b→R b a){x : α}{l:List α}(k:Nat)(h:l.Pairwise R)(hx:∀ y∈l,R x y):(l.take k++[x]++l.drop k).Pairwise R:=by
  have hl:(l.take k++l.drop k).Pairwise R:=by rw [List.take_append_drop];exact h
  rw [List.pairwise_append] at hl
  obtain⟨h1,h2,h3⟩:=hl
  rw [List.append_assoc,List.pairwise_append]
  refine⟨h1,?_,fun a ha b hb => ?_⟩
  · rw [List.singleton_append,List.pairwise_cons]
    exact⟨fun y hy=>hx y (List.mem_of_mem_drop hy),h2⟩
  · rcases List.mem_append.mp hb with hb|hb
    · simp at hb;subst hb;exact sym _ _ (hx a (List.mem_of_mem_take ha))
    · exact h3 a ha b hb
theorem TOk.put {n one other:Nat}{T:List Tie}(o:TOk n one other T)(h1:one < n)(h2:other < one){w:Int}(w1:1≤w)(w2:w≤400){t:Tie}(ht:t=⟨one,other,w⟩ ∨t=⟨other,one,w⟩)(k:Nat):TOk n one (other + 1) (T.take k++[t]++T.drop k) where
  ne:=fun s hs=>by
    rcases rn hs with rfl|hs
    · rcases ht with e|e<;>subst e
      · exact Nat.ne_of_gt h2
      · exact Nat.ne_of_lt h2
    · exact o.ne s hs
  lt:=fun s hs=>by
    rcases rn hs with rfl|hs
    · rcases ht with e|e<;>subst e
      · exact⟨h1,Nat.lt_trans h2 h1⟩
      · exact⟨Nat.lt_trans h2 h1,h1⟩
    · exact o.lt s hs
  wt:=fun s hs=>by
    rcases rn hs with rfl|hs
    · rcases ht with e|e<;>subst e<;>exact⟨w1,w2⟩
    · exact o.wt s hs
  be:=fun s hs=>by
    rcases rn hs with rfl|hs
    · rcases ht with e|e<;>subst e
      · exact .inr (.inl ⟨rfl,Nat.lt_succ_self _⟩)
      · exact .inr (.inr ⟨rfl,Nat.lt_succ_self _⟩)
    · exact o.skip.be s hs
  un:=JC (fun _ _=>i4.symm) k o.un fun s hs=>by
    have hb:=o.be s hs
    rcases ht with e|e<;>subst e<;>rcases hb with hb|hb|hb
    · exact⟨fun z=>Nat.ne_of_gt hb.1 z.1,fun z=>Nat.ne_of_gt hb.2 z.1⟩
    · exact⟨fun z=>Nat.ne_of_gt hb.2 z.2,fun z=>Nat.ne_of_gt (Nat.lt_trans hb.2 h2) z.1⟩
    · exact⟨fun z=>Nat.ne_of_gt (Nat.lt_trans hb.2 h2) z.1,fun z=>Nat.ne_of_gt hb.2 z.2⟩
    · exact⟨fun z=>Nat.ne_of_gt hb.2 z.2,fun z=>Nat.ne_of_gt hb.1 z.2⟩
    · exact⟨fun z=>Nat.ne_of_gt (Nat.lt_trans hb.2 h2) z.2,fun z=>Nat.ne_of_gt hb.2 z.1⟩
    · exact⟨fun z=>Nat.ne_of_gt hb.2 z.1,fun z=>Nat.ne_of_gt (Nat.lt_trans hb.2 h2) z.2⟩
  len:=by
    have e:(T.take k).length + (T.drop k).length=T.length:=by rw [← List.length_append,List.take_append_drop]
    rw [List.length_append,List.length_append,List.length_singleton,Nat.add_right_comm,e]
    exact Nat.succ_le_succ o.len
end Fm
set_option linter.all false
namespace Fm
def Rf (p:Int × Int):D:=.tup [.int p.1,.int p.2]
structure PH (n i:Nat) (T:List Tie) (bs:List (Int × Int)) (ss:List (Option Int)) (h:Hd):Prop where
  ti:h[1]? = some (.lst (T.map dh))
  ba:h[2]? = some (.lst (bs.map Rf))
  st:h[3]? = some (.lst (ss.map bS))
  to:h[4]? = some (.lst (((List.range n).map (Nh T)).map .int))
  len:h.length=5 + i
  lb:bs.length=i
  ls:ss.length=i
  os:∀ x∈ss,x=none∨x=some 0∨x=some 1
theorem OT {g:Hd}{k:Nat}{c:dk}(cc:dk)(h:g[k]? = some c):(g.set k cc)[k]? = some cc:=List.getElem?_set_self (List.getElem?_eq_some_iff.mp h).1
theorem yk {j n:Nat}(h:j < n):ixN n (j:Int)=some j:=by simp [ixN,h]
noncomputable abbrev XP (lit:D) (hd:Option D) (n thin one:Nat) (a b:Option D):Sd:=[some lit,hd,some (.int n),some (.int thin),some (.ref 1),some (.ref 2),some (.ref 3),some (.ref 4),some (.int one),some (.ref (5 + one)),a,b]
abbrev SC (c t:Int) (b:Bool):dk:=.lst [.int c,.int t,.bl b]
inductive PI (lit:D) (hd:Option D) (n thin one:Nat) (bs:List (Int × Int)) (ss:List (Option Int)) (m:Bool):Nat→Sd→Hd→Prop
  | mk {i:Nat} {h:Hd} {T:List Tie} {a b:Option D} {c t:Int} (P:PH n (one + 1) T bs ss h) (O:TOk n one i T) (hs:h[5 + one]? = some (SC c t m)):PI lit hd n thin one bs ss m i (XP lit hd n thin one a b) h
theorem few {l one n i:Nat}(h:l≤30 * one + i)(h1:one < n)(hn:n≤30)(hi:i < one):l < 1000:=by omega
end Fm
set_option linter.all false
namespace Fm
noncomputable abbrev XQ (lit:D) (hd:Option D) (n thin:Nat) (a b c d:Option D):Sd:=[some lit,hd,some (.int n),some (.int thin),some (.ref 1),some (.ref 2),some (.ref 3),some (.ref 4),a,b,c,d]
theorem QP {u:Option Int}(h:u∈[none,none,none,some 0,some 1]):u=none∨u=some 0∨u=some 1:=by
  simp at h;exact h
inductive PO (ns:List Int) (hd:Option D) (n thin:Nat):Nat→Sd→Hd→Prop
  | mk {i:Nat} {h:Hd} {a b c d:Option D} {T:List Tie} {bs:List (Int × Int)} {ss:List (Option Int)} (P:PH n i T bs ss h) (O:TOk n i 0 T):PO ns hd n thin i (XQ (.lit (ns.map .int)) hd n thin a b c d) h
structure Rg (ns:List Int) (n:Nat) (T:List Tie) (bs:List Int) (ss:List (Option Int)) (h:Hd):Prop where
  run:CM [.lit (ns.map .int)] []=.ok (.tup [.int n,.ref 1,.ref (5 + n),.ref 3,.ref 4]) h
  n1:1≤n
  n30:n≤30
  ok:TOk n n 0 T
  ti:h[1]? = some (.lst (T.map dh))
  ba:h[5 + n]? = some (.lst (bs.map .int))
  st:h[3]? = some (.lst (ss.map bS))
  to:h[4]? = some (.lst (((List.range n).map (Nh T)).map .int))
  len:h.length=6 + n
  lb:bs.length=n
  ls:ss.length=n
  os:∀ x∈ss,x=none∨x=some 0∨x=some 1
end Fm
set_option linter.all false
namespace Fm
theorem fS {α : Type}{f : α → D}:∀ {l:List α},(∀ x∈l,pure? (f x)=true)→ij (l.map f)=true
  | [],_=>rfl
  | x :: l,h=>by
    simp only [List.map_cons,ij,Bool.and_eq_true]
    exact⟨h x (by simp),fS fun y hy=>h y (by simp [hy])⟩
theorem AR (w:Web):pure? w.enc=true:=by
  have h1:∀ r:List (Nat × Int),pure? (iq r)=true:=fun r=>by
    unfold iq
    simp only [pure?]
    exact fS fun p _=>rfl
  have h2:ij (w.ties.map iq)=true:=fS fun r _=>h1 r
  have h3:ij (w.bars.map D.int)=true:=fS fun r _=>rfl
  have h4:ij (w.stays.map bS)=true:=fS fun r _=>by cases r<;>rfl
  unfold Web.enc
  simp only [pure?,ij,h2,h3,h4]
  rfl
def sM (p:Nat × Int):List Int:=[(p.1:Int),p.2]
def uD (x:Nat × Int):List (Nat × Int)→List (Nat × Int)
  | []=>[x]
  | y :: r=>if cP (sM x) (sM y)=true then x :: y :: r else y :: uD x r
def fw:List (Nat × Int)→List (Nat × Int)
  | []=>[]
  | x :: r=>uD x (fw r)
theorem AS (x:Nat × Int):∀ r,(uD x r).map sM=yf (sM x) (r.map sM)
  | []=>rfl
  | y :: r=>by
    simp only [uD,yf,List.map_cons]
    split
    · rfl
    · simp [AS x r]
theorem w6:∀ r,(fw r).map sM=dr (r.map sM)
  | []=>rfl
  | x :: r=>by simp only [fw,dr,List.map_cons,AS,w6 r]
theorem AT {x p:Nat × Int}:∀ {r},p∈uD x r ↔ p=x∨p∈r
  | []=>by simp [uD]
  | y :: r=>by
    simp only [uD]
    split
    · simp
    · simp only [List.mem_cons,AT (r:=r)]
      constructor
      · rintro (h|h|h)
        · exact .inr (.inl h)
        · exact .inl h
        · exact .inr (.inr h)
      · rintro (h|h|h)
        · exact .inr (.inl h)
        · exact .inl h
        · exact .inr (.inr h)
theorem lP {p:Nat × Int}:∀ {r},p∈fw r ↔ p∈r
  | []=>by simp [fw]
  | x :: r=>by simp only [fw,AT,lP (r:=r),List.mem_cons]
theorem AU (f:Nat × Int→Int)(x:Nat × Int):∀ r,((uD x r).map f).sum=f x + (r.map f).sum
  | []=>by simp [uD]
  | y :: r=>by
    simp only [uD]
    split
    · simp
    · simp [AU f x r];omega
theorem oV (f:Nat × Int→Int):∀ r,((fw r).map f).sum=(r.map f).sum
  | []=>rfl
  | x :: r=>by simp [fw,AU,oV f r]
def nbs (T:List Tie) (i:Nat):List (Nat × Int):=T.filterMap fun t=>(far i t).map fun j=>(j,t.w)
def qP (p:Nat × Int):Int × D:=((p.1:Int),.int p.2)
theorem AV (T:List Tie)(t:Tie)(i:Nat):nbs (T++[t]) i=nbs T i++(match far i t with|some j=>[(j,t.w)] | none=>[]):=by
  unfold nbs
  rw [List.filterMap_append]
  congr 1
  cases e:far i t<;>simp [e]
theorem F7 {l:List (Nat × Int)}{k:Nat}(h:∀ p∈l,p.1≠k):sB (l.map qP) k=none:=by
  unfold sB
  rw [List.find?_eq_none.mpr]
  · rfl
  · intro x hx
    obtain⟨p,hp,rfl⟩:=List.mem_map.mp hx
    have hne:=h p hp
    have : ¬ ((p.1:Int)=(k:Int)):=fun z=>hne (by omega)
    show ¬ (decide ((p.1:Int)=(k:Int))=true)
    rw [decide_eq_true_eq]
    exact this
theorem AW {l:List (Nat × Int)}{k:Nat}{v:Int}(h:∀ p∈l,p.1≠k):Cy (l.map qP) k (.int v)=(l++[(k,v)]).map qP:=by
  unfold Cy
  rw [if_neg]
  · simp [qP]
  · simp only [List.any_eq_true,List.mem_map,decide_eq_true_eq]
    rintro⟨x,⟨p,hp,rfl⟩,e⟩
    have hne:=h p hp
    have e:(p.1:Int)=(k:Int):=e
    exact hne (by omega)
theorem AX {i j:Nat}{t:Tie}(h:far i t=some j):(t.a=i∧t.b=j)∨(t.b=i∧t.a=j):=by
  unfold far at h
  by_cases a:t.a=i
  · rw [if_pos a] at h;exact .inl ⟨a,Option.some.inj h⟩
  · rw [if_neg a] at h
    by_cases b:t.b=i
    · rw [if_pos b] at h;exact .inr ⟨b,Option.some.inj h⟩
    · rw [if_neg b] at h;cases h
theorem CN {T:List Tie}{t:Tie}{i j:Nat}(hf:far i t=some j)(un:∀ s∈T,i4 s t):∀ p∈nbs T i,p.1≠j:=fun p hp e=>by
  obtain⟨s,hs,q⟩:=List.mem_filterMap.mp hp
  obtain⟨k,hk,rfl⟩:=Option.map_eq_some_iff.mp q
  have u:=un s hs
  rw [show k=j from e] at hk
  rcases AX hf with ⟨a1,a2⟩|⟨a1,a2⟩<;>rcases AX hk with ⟨b1,b2⟩|⟨b1,b2⟩
  · exact u.1 ⟨b1.trans a1.symm,b2.trans a2.symm⟩
  · exact u.2 ⟨b2.trans a2.symm,b1.trans a1.symm⟩
  · exact u.2 ⟨b1.trans a1.symm,b2.trans a2.symm⟩
  · exact u.1 ⟨b2.trans a2.symm,b1.trans a1.symm⟩
theorem F8 {n:Nat}{t:Tie}(h1:t.a≠t.b)(h2:t.a < n)(h3:t.b < n)(h4:1≤t.w∧t.w≤400)(h:Hd):kT [.int n,dh t] h=.ok (.bl true) h:=by
  have e1:(t.a:Int)≤n - 1:=Int.le_sub_one_of_lt (Int.ofNat_lt.mpr h2)
  have e2:(t.b:Int)≤n - 1:=Int.le_sub_one_of_lt (Int.ofNat_lt.mpr h3)
  have e3 : ¬ (t.a:Int)=t.b:=fun z=>h1 (Int.ofNat.inj z)
  have bt:∀ {i a b:Int},a≤i→i≤b→br [.int i,.int a,.int b] h=.ok (.bl true) h:=fun x y=>by rw [iu,decide_eq_true x,decide_eq_true y];rfl
  have s1:sIf (tOr (cK (tE (ed .tuple (aa 1)))) (tE (aj oNe (cY (lOf (aa 1))) (fC (.int 3))))) (bo (fC (.bl false))) bB [some (.int n),some (dh t),none,none] h=.nx [some (.int n),some (dh t),none,none] h:=dA (jn (bV (b:=true) (aJ rfl)) (aJ (am (eg (cM rfl rfl)) rfl rfl)))
  have s4:sIf (tOr (cK (tE (au br (ad (aa 2) (ad (fC (.int 0)) (ad (aj nF (aa 0) (fC (.int 1))) ak)))))) (cK (tE (au br (ad (aa 3) (ad (fC (.int 0)) (ad (aj nF (aa 0) (fC (.int 1))) ak))))))) (bo (fC (.bl false))) bB [some (.int n),some (dh t),some (.int t.a),some (.int t.b)] h=.nx [some (.int n),some (dh t),some (.int t.a),some (.int t.b)] h:=dA (jn (bV (b:=true) (aJ (aw (ag rfl (ag rfl (ag (am rfl rfl rfl) rfl))) (bt (Int.natCast_nonneg _) e1)))) (bV (b:=true) (aJ (aw (ag rfl (ag rfl (ag (am rfl rfl rfl) rfl))) (bt (Int.natCast_nonneg _) e2)))))
  have s5:bo (fT (iR (tE (aj oNe (aa 2) (aa 3))) (tE (au br (ad (fAt (aa 1) (fC (.int 2))) (ad (fC (.int 1)) (ad (fC (.int 400)) ak))))))) [some (.int n),some (dh t),some (.int t.a),some (.int t.b)] h=.rt (.bl true) h:=bp (ma (jR (aJ (am rfl rfl (by rw [nh,decide_eq_false e3];rfl))) (aJ (aw (ag (aZ rfl rfl rfl rfl) (ag rfl (ag rfl rfl))) (bt h4.1 h4.2)))))
  exact (cG rfl rfl ((aI s1).trans ((aI (aD (aZ rfl rfl rfl rfl))).trans ((aI (aD (aZ rfl rfl rfl rfl))).trans ((aI s4).trans s5))))).trans aS
structure NH (n A:Nat) (h0:Hd) (T:List Tie) (h:Hd):Prop where
  pre:∃ g,h=h0++g∧g.length=n + 1
  dc:∀ j,j < n→h[A + j]? = some (.dct ((nbs T j).map qP))
  rf:h[A + n]? = some (.lst ((List.range n).map fun i=>.ref (A + i)))
theorem NH.put {n A:Nat}{h0:Hd}{T:List Tie}{h:Hd}(hA:A=h0.length)(N:NH n A h0 T h){j:Nat}(hj:j < n)(c:dk):(∃ g,h.set (A + j) c=h0++g∧g.length=n + 1)∧(h.set (A + j) c)[A + j]? = some c∧(∀ k,k≠j→(h.set (A + j) c)[A + k]? = h[A + k]?):=by
  obtain⟨g,e,l⟩:=N.pre
  have lt:=(List.getElem?_eq_some_iff.mp (N.dc j hj)).1
  exact⟨⟨g.set j c,by rw [e,rk hA],by rw [List.length_set];exact l⟩,List.getElem?_set_self lt,fun k hk=>List.getElem?_set_ne fun z=>hk (Nat.add_left_cancel z).symm⟩
def SNx (a b:SF):Prop:=∀ {σ h σ' h'},a σ h=.nx σ' h'→b σ h=.nx σ' h'
theorem SNx.refl {a:SF}:SNx a a:=fun e=>e
theorem JD {n i j:Nat}{T:List Tie}(hn:n≤30)(O:TOk n n 0 T):((nbs (T.take i) j).map qP).length < SZ:=by
  rw [List.length_map]
  exact Nat.lt_of_le_of_lt (Nat.le_trans (List.length_filterMap_le _ _) (Nat.le_trans (List.length_take_le' _ _) (Nat.le_trans O.len (Nat.add_le_add_right (Nat.mul_le_mul_left 30 hn) 0)))) (by decide)
noncomputable abbrev XN (n tk A:Nat) (a b c:Option D):Sd:=[some (.int n),some (.ref tk),some (.ref (A + n)),a,b,c]
theorem LT {n A tk i:Nat}(hn:n≤30){T:List Tie}(O:TOk n n 0 T){h h0:Hd}(hA:A=h.length)(N:NH n A h (T.take i) h0){t:Tie}(mt:t∈T)(un:∀ s∈T.take i,i4 s t)(tk1:T.take (i + 1)=T.take i++[t])(b c:Option D) :
    ∃ h6,dP (XN n tk A (some (dh t)) b c) h0=.nx (XN n tk A (some (dh t)) (some (.int t.a)) (some (.int t.b))) h6∧NH n A h (T.take (i + 1)) h6:=by
  have tne:=O.ne t mt
  have tlt:=O.lt t mt
  have fa:far t.a t=some t.b:=if_pos rfl
  have fb:far t.b t=some t.a:=(if_neg tne).trans (if_pos rfl)
  have na:=CN fa un
  have nb:=CN fb un
  have rat:∀ j:Nat,j < n→atI ((List.range n).map fun i=>D.ref (A + i)) (j:Int)=some (.ref (A + j)):=fun j hj=>d8 (by rw [List.getElem?_map,List.getElem?_range hj];rfl)
  have ra:=rat t.a tlt.1
  have rb:=rat t.b tlt.2
  have da:=N.dc t.a tlt.1
  obtain⟨p1,p2,p3⟩:=N.put hA tlt.1 (.dct ((nbs (T.take i) t.a++[(t.b,t.w)]).map qP))
  obtain⟨h5,hh5⟩ : ∃ h5,h5=h0.set (A + t.a) (.dct ((nbs (T.take i) t.a++[(t.b,t.w)]).map qP)):=⟨_,rfl⟩
  rw [← hh5] at p1 p2 p3
  have rf5:h5[A + n]? = some (.lst ((List.range n).map fun i=>.ref (A + i))):=(p3 n (Nat.ne_of_gt tlt.1)).trans N.rf
  have db:h5[A + t.b]? = some (.dct ((nbs (T.take i) t.b).map qP)):=(p3 t.b (Ne.symm tne)).trans (N.dc t.b tlt.2)
  obtain⟨h6,hh6⟩ : ∃ h6,h6=h5.set (A + t.b) (.dct ((nbs (T.take i) t.b++[(t.a,t.w)]).map qP)):=⟨_,rfl⟩
  have s4:sIf (tE (aj FS (aa 5) (fAt (aa 2) (aa 4)))) jL bB (XN n tk A (some (dh t)) (some (.int t.a)) (some (.int t.b))) h0=.nx (XN n tk A (some (dh t)) (some (.int t.a)) (some (.int t.b))) h0:=by
    refine dA (aJ (am rfl (aZ rfl rfl (aQ N.rf) ra) ?_))
    rw [OQ da,F7 na];rfl
  have s5:sC (fAt (aa 2) (aa 4)) (aa 5) (fAt (aa 3) (fC (.int 2))) (XN n tk A (some (dh t)) (some (.int t.a)) (some (.int t.b))) h0=.nx (XN n tk A (some (dh t)) (some (.int t.a)) (some (.int t.b))) h5:=by
    rw [hh5,← AW na]
    exact E1 (aZ rfl rfl rfl rfl) (aZ rfl rfl (aQ N.rf) ra) rfl da (JD hn O)
  have s6:sC (fAt (aa 2) (aa 5)) (aa 4) (fAt (aa 3) (fC (.int 2))) (XN n tk A (some (dh t)) (some (.int t.a)) (some (.int t.b))) h5=.nx (XN n tk A (some (dh t)) (some (.int t.a)) (some (.int t.b))) h6:=by
    rw [hh6,← AW nb]
    exact E1 (aZ rfl rfl rfl rfl) (aZ rfl rfl (aQ rf5) rb) rfl db (JD hn O)
  refine⟨h6,(aG (dA (bV (aJ (aw (ag rfl (ag rfl rfl)) (F8 tne tlt.1 tlt.2 (O.wt t mt) h0)))))).trans ((aG (aD (aZ rfl rfl rfl rfl))).trans ((aG (aD (aZ rfl rfl rfl rfl))).trans ((aG s4).trans ((aG s5).trans s6)))),?_,fun j hj => ?_,?_⟩
  · obtain⟨g,e,l⟩:=p1
    exact⟨_,by rw [hh6,e,rk hA],by rw [List.length_set];exact l⟩
  · rw [tk1,AV]
    by_cases e1:t.b=j
    · subst e1
      rw [hh6,OT _ db,fb]
    · rw [hh6,List.getElem?_set_ne (fun z=>e1 (Nat.add_left_cancel z))]
      by_cases e2:t.a=j
      · subst e2
        rw [p2,fa]
      · have:far j t=none:=(if_neg e2).trans (if_neg e1)
        rw [p3 j (Ne.symm e2),this,N.dc j hj]
        simp only [List.append_nil]
  · rw [hh6];exact (List.getElem?_set_ne (fun z=>Nat.ne_of_lt tlt.2 (Nat.add_left_cancel z))).trans rf5
theorem F9 {n:Nat}{h:Hd}{A:Nat}(hA:A=h.length):∃ h1 g,cX none ((List.range n).map fun k:Nat=>D.int k) (gN 0) [] wW ((List.range n).map fun k:Nat=>D.int k) [none] h=.ok ((List.range n).map fun i=>.ref (A + i)) h1∧h1=h++g∧g.length=n ∧ ∀ j,j < n→h1[A + j]? = some (.dct []):=by
  obtain⟨ds,h1,k1,l1,v1,σ1,-,g,hg,lg,g1⟩:=mZ (g:=none) (all:=(List.range n).map fun k:Nat=>D.int k) (tg:=gN 0) (xs:=(List.range n).map fun k:Nat=>D.int k) (k:=0)
    (e:=wW) (σ:=[none]) (h:=h)
    (P:=fun i σ h'=>(∃ a,σ = [a]) ∧ ∃ g,h'=h++g∧g.length=i ∧ ∀ j,j < i→h'[A + j]? = some (.dct [])) (V:=fun i d=>d=.ref (A + i)) (fun _ _ _ _=>trivial) (by
      rintro i x σ h0 hx ⟨⟨a,rfl⟩,g,e0,lg,e1⟩
      obtain⟨hi,rfl⟩:=dQ hx
      rw [Nat.zero_add] at lg e1 ⊢
      have hl:h0.length=A + i:=by rw [e0,List.length_append,lg,hA]
      refine⟨_,rfl,.ref h0.length,h0++[.dct []],rfl,by rw [hl],⟨_,rfl⟩,g++[.dct []],by rw [e0,List.append_assoc],by rw [List.length_append,lg];rfl,fun j hj => ?_⟩
      by_cases hji:j < i
      · exact cx _ (e1 j hji)
      · rw [Nat.le_antisymm (Nat.le_of_lt_succ hj) (Nat.not_lt.mp hji),← hl];exact List.getElem?_concat_length) ⟨⟨_,rfl⟩,[],(List.append_nil _).symm,rfl,fun j hj=>absurd hj (Nat.not_lt_zero _)⟩
  rw [List.length_map,List.length_range] at l1
  rw [Nat.zero_add,List.length_map,List.length_range] at lg g1
  have e1:ds=(List.range n).map fun i=>.ref (A + i):=sJ l1 fun i d hd=>by have:=v1 i d hd;rwa [Nat.zero_add] at this
  exact⟨h1,g,by rw [k1,e1],hg,lg,g1⟩
inductive NI (n A tk:Nat) (h:Hd) (T:List Tie):Nat→Sd→Hd→Prop
  | mk {i:Nat} {h':Hd} {a b c:Option D} (N:NH n A h (T.take i) h'):NI n A tk h T i (XN n tk A a b c) h'
theorem OU {n:Nat}(hn1:1≤n)(hn:n≤30){T:List Tie}(O:TOk n n 0 T){B:SF}(hB:SNx dP B){rest:List D}{h:Hd}{tk:Nat}(ht:h[tk]? = some (.lst (T.map dh++rest))) :
    ∃ h2 h3 a3 b3 c3,aE (gN 2) (aM (bJ 1 [] (bL (aa 0)) (gN 0) [] wW)) [some (.int n),some (.ref tk),none,none,none,none] h=.nx [some (.int n),some (.ref tk),some (.ref (h.length + n)),none,none,none] h2∧h2[tk]? = some (.lst (T.map dh++rest)) ∧
      fO (some tk) (T.map dh++rest) (gN 3) B (T.map dh++rest) [some (.int n),some (.ref tk),some (.ref (h.length + n)),none,none,none] h2=fO (some tk) (T.map dh++rest) (gN 3) B rest [some (.int n),some (.ref tk),some (.ref (h.length + n)),a3,b3,c3] h3 ∧
      h3[tk]? = some (.lst (T.map dh++rest))∧NH n h.length h T h3:=by
  obtain⟨A,hA⟩ : ∃ A,A=h.length:=⟨_,rfl⟩
  obtain⟨h1,g,k1,hg,lg,g1⟩:=F9 (n:=n) hA
  obtain⟨h2,hh2⟩ : ∃ h2,h2=h1++[.lst ((List.range n).map fun i=>.ref (A + i))]:=⟨_,rfl⟩
  have l1':h1.length=A + n:=by rw [hg,List.length_append,lg,hA]
  have N0:NH n A h [] h2:=⟨⟨g++[.lst ((List.range n).map fun i=>.ref (A + i))],by rw [hh2,hg,List.append_assoc],by rw [List.length_append,lg];rfl⟩,fun j hj=>by rw [hh2];exact cx _ (g1 j hj),by rw [hh2,← l1'];exact List.getElem?_concat_length⟩
  obtain⟨_,h3,k3,@⟨_,a3,b3,c3,N3⟩⟩:=oR (rest:=rest) (P:=NI n A tk h T) (g:=some tk) (k:=0)
      (all:=T.map dh++rest) (fun _ _ h' q=>by
        obtain⟨N⟩:=q
        obtain⟨g,e,_⟩:=N.pre
        show h'[tk]? = _
        rw [e];exact cx _ ht)
      (xs:=T.map dh) (tg:=gN 3) (σ:=XN n tk A none none none) (h:=h2) (b:=B) (by
      intro i x σ h0 hx z
      rw [Nat.zero_add] at z ⊢
      obtain @⟨_,a,b,c,N⟩:=z
      have hiT:i < T.length:=by have:=(List.getElem?_eq_some_iff.mp hx).1;rwa [List.length_map] at this
      rw [List.getElem?_map,List.getElem?_eq_getElem hiT] at hx
      cases hx
      have mt:T[i]∈T:=List.getElem_mem hiT
      have un:∀ s∈T.take i,i4 s T[i]:=fun s hs=>by
        obtain⟨k,hk,rfl⟩:=List.getElem_of_mem hs
        rw [List.length_take] at hk
        rw [List.getElem_take]
        exact List.pairwise_iff_getElem.mp O.un k i _ hiT (Nat.lt_of_lt_of_le hk (Nat.min_le_left _ _))
      obtain⟨h6,q6,N6⟩:=LT (tk:=tk) hn O hA N mt un (List.take_succ_eq_append_getElem hiT) b c
      exact⟨_,rfl,_,h6,hB q6,.mk N6⟩) (.mk N0)
  rw [Nat.zero_add,List.length_map,List.take_length] at N3
  have s2:aE (gN 2) (aM (bJ 1 [] (bL (aa 0)) (gN 0) [] wW)) [some (.int n),some (.ref tk),none,none,none,none] h=.nx [some (.int n),some (.ref tk),some (.ref (A + n)),none,none,none] h2:=by
    rw [hh2,← l1']
    exact aD (gB (cF (c9 rfl (Nat.le_trans hn (by decide))) k1) (by rw [List.length_map,List.length_range];exact Nat.le_trans hn (by decide)))
  have t2:h2[tk]? = some (.lst (T.map dh++rest)):=by rw [hh2,hg];exact cx _ (cx _ ht)
  obtain⟨g3,e3,_⟩:=N3.pre
  refine⟨h2,h3,a3,b3,c3,by rw [← hA];exact s2,t2,by rw [← hA];exact k3,?_,by rw [← hA];exact N3⟩
  rw [e3];exact cx _ ht
theorem uE {n:Nat}(hn1:1≤n)(hn:n≤30){T:List Tie}(O:TOk n n 0 T){h:Hd}{tk:Nat}(ht:h[tk]? = some (.lst (T.map dh))) :
    ∃ h',dH [.int n,.ref tk] h=.ok (.ref (h.length + n)) h'∧NH n h.length h T h':=by
  obtain⟨h2,h3,a3,b3,c3,s2,t2,k3,t3,N3⟩:=OU hn1 hn O (B:=dP) SNx.refl (rest:=[]) (h:=h) (tk:=tk) (by rw [List.append_nil];exact ht)
  rw [List.append_nil] at t2 t3 k3
  refine⟨h3,?_,N3⟩
  have s1:sIf (cK (tE (ed .list (aa 1)))) jL bB [some (.int n),some (.ref tk),none,none,none,none] h=.nx [some (.int n),some (.ref tk),none,none,none,none] h:=dA (bV (aJ (CC rfl ht)))
  have s3:fm (ek (aa 1)) (gN 3) dP [some (.int n),some (.ref tk),some (.ref (h.length + n)),none,none,none] h2=.nx [some (.int n),some (.ref tk),some (.ref (h.length + n)),a3,b3,c3] h3:=by
    have e:fO (some tk) (T.map dh) (gN 3) dP [] [some (.int n),some (.ref tk),some (.ref (h.length + n)),a3,b3,c3] h3=.nx [some (.int n),some (.ref tk),some (.ref (h.length + n)),a3,b3,c3] h3:=by
      unfold fO
      exact if_pos t3
    rw [e] at k3
    exact eV (dG rfl t2) k3
  have st:([D.int n,D.ref tk].map some++List.replicate (6 - [D.int n,D.ref tk].length) none:Sd)=[some (.int n),some (.ref tk),none,none,none,none]:=rfl
  unfold dH bP runB
  rw [if_pos (show [D.int n,D.ref tk].length=2 from rfl),st,aG s1,aG s2,aG s3]
  simp [letGo,pure?]
end Fm
set_option linter.all false
namespace Fm
theorem Qs (a b:Int)(h:Hd):oNe (.int a) (.int b) h=.ok (.bl (!decide (a=b))) h:=rfl
theorem JE {l:List Nat}{n:Nat}(nd:l.Nodup)(h:∀ x∈l,x < n):l.length≤n:=by
  induction n generalizing l with
  | zero=>match l,h with
    | [],_=>exact Nat.le_refl _
    | x :: _,h=>exact absurd (h x List.mem_cons_self) (Nat.not_lt_zero _)
  | succ n ih =>
    by_cases m:n∈l
    · have:=ih (nd.erase n) fun x hx=>by
        have z:=(List.Nodup.mem_erase_iff nd).mp hx
        exact Nat.lt_of_le_of_ne (Nat.le_of_lt_succ (h x z.2)) z.1
      rw [List.length_erase_of_mem m] at this
      exact Nat.le_add_of_sub_le this
    · exact Nat.le_succ_of_le (ih nd fun x hx=>Nat.lt_of_le_of_ne (Nat.le_of_lt_succ (h x hx)) fun z=>m (z ▸ hx))
def dy (n:Nat) (T:List Tie) (bs:List Int) (ss:List (Option Int)):Web:=⟨(List.range n).map fun i=>fw (nbs T i),bs,ss⟩
theorem nS:∀ l:List (Nat × Int),fF (l.map qP)=some (l.map sM)
  | []=>rfl
  | p :: l=>by
    have ih:=nS l
    simp only [List.map_cons]
    show (fF (l.map qP)).map _=_
    rw [ih]
    rfl
theorem JF {T:List Tie}(un:T.Pairwise i4)(i:Nat):((nbs T i).map (·.1)).Nodup:=by
  unfold nbs
  induction T with
  | nil=>simp
  | cons t T ih =>
    obtain⟨h1,h2⟩:=List.pairwise_cons.mp un
    have ih:=ih h2
    cases e:far i t with
    | none=>simp only [List.filterMap_cons,e,Option.map_none];exact ih
    | some j =>
      simp only [List.filterMap_cons,e,Option.map_some,List.map_cons,List.nodup_cons]
      refine⟨fun z => ?_,ih⟩
      obtain⟨p,hp,hpj⟩:=List.mem_map.mp z
      exact CN (T:=T) e (fun s hs=>(h1 s hs).symm) p hp hpj
theorem LU {l:List (Nat × Int)}(nd:(l.map (·.1)).Nodup):(l.map sM).Nodup:=by
  rw [List.nodup_iff_pairwise_ne,List.pairwise_map] at nd ⊢
  exact nd.imp fun {a b} h e=>h (by have:=(List.cons.inj e).1;omega)
theorem w8 {α : Type}{l:List α}:kI (l.map fun _=>D.bl true)=some (l.map fun _=>true):=by
  induction l with
  | nil=>rfl
  | cons x l ih=>simp [kI,ih]
theorem ym {n:Nat}{h:Hd}{nk bk:Nat}{l:List D}{bs:List Int}(hn:h[nk]? = some (.lst l))(hl:l.length=n)(hb:h[bk]? = some (.lst (bs.map .int)))(lb:bs.length=n):eh [.ref nk,.ref bk] h=.ok (.tup (bs.map .int)) h:=by
  have c:cX (some bk) (bs.map D.int) (gN 0) [] (au cH (ad (aa 0) ak)) (bs.map D.int) [none] h=.ok ((bs.map D.int).map fun _=>D.bl true) h:=by
    have:=cw (g:=some bk) (all:=bs.map D.int) (tg:=gN 0) (cs:=[]) (e:=au cH (ad (aa 0) ak)) (h:=h) (I:=fun σ=>∃ a,σ = [a]) (fun _=>true) (fun _=>.bl true) hb (xs:=bs.map D.int) (σ:=[none]) (by
      rintro x hx σ ⟨a,rfl⟩
      obtain⟨i,_,rfl⟩:=List.mem_map.mp hx
      exact⟨_,rfl,⟨_,rfl⟩,rfl,fun _=>aw (ag rfl rfl) (nR _ _)⟩) ⟨_,rfl⟩
    rw [this,List.filter_eq_self.mpr (by simp)]
  have al:((bs.map D.int).map fun _=>true).all id=true:=by simp
  have lg:=dg (h:=h) (g:=[]) (d:=.tup (bs.map D.int)) (by simp only [pure?];exact fS fun _ _=>rfl)
  rw [List.append_nil] at lg
  have s1:sIf (tE (aj nG (aa 1) (fC .non))) jL bB [some (.ref nk),some (.ref bk)] h=.nx [some (.ref nk),some (.ref bk)] h:=dA (aJ (am rfl rfl rfl))
  have s2:sIf (tOr (cK (tE (ed .list (aa 1)))) (tE (aj oNe (cY (lOf (aa 1))) (cY (lOf (aa 0)))))) jL bB [some (.ref nk),some (.ref bk)] h=.nx [some (.ref nk),some (.ref bk)] h:=by
    exact dA (jn (bV (b:=true) (aJ (CC rfl hb))) (aJ (am (eg (cM rfl (aQ hb))) (eg (cM rfl (aQ hn))) (by rw [Qs,List.length_map,lb,hl,decide_eq_true rfl];rfl))))
  have s3:sIf (cK (tE (Cn (bJ 1 [] (ek (aa 1)) (gN 0) [] (au cH (ad (aa 0) ak)))))) jL bB [some (.ref nk),some (.ref bk)] h=.nx [some (.ref nk),some (.ref bk)] h:=by
    exact dA (bV (b:=true) (aJ ((Jz (cF (dG rfl hb) c) w8).trans (by rw [al]))))
  have s4:bo (eP (lOf (aa 1))) [some (.ref nk),some (.ref bk)] h=.rt (.tup (bs.map .int)) h:=bp (jS (cM rfl (aQ hb)))
  have st:([D.ref nk,D.ref bk].map some++List.replicate (2 - [D.ref nk,D.ref bk].length) none:Sd)=[some (.ref nk),some (.ref bk)]:=rfl
  unfold eh bP runB
  rw [if_pos (show [D.ref nk,D.ref bk].length=2 from rfl),st,aG s1,aG s2,aG s3,s4]
  exact lg
theorem uF {n:Nat}{h:Hd}{sk:Nat}{ss:List (Option Int)}(hs:h[sk]? = some (.lst (ss.map bS)))(ls:ss.length=n)(os:∀ x∈ss,x=none∨x=some 0∨x=some 1):dI [.int n,.ref sk] h=.ok (.tup (ss.map bS)) h:=by
  have c:cX (some sk) (ss.map bS) (gN 0) [] (fT (tOr (tE (aj nG (aa 0) (fC .non))) (tE (au bu (ad (aa 0) ak))))) (ss.map bS) [none] h=.ok ((ss.map bS).map fun _=>D.bl true) h:=by
    have:=cw (g:=some sk) (all:=ss.map bS) (tg:=gN 0) (cs:=[]) (e:=fT (tOr (tE (aj nG (aa 0) (fC .non))) (tE (au bu (ad (aa 0) ak))))) (h:=h) (I:=fun σ=>∃ a,σ = [a]) (fun _=>true) (fun _=>.bl true) hs (xs:=ss.map bS) (σ:=[none]) (by
      rintro x hx σ ⟨a,rfl⟩
      obtain⟨i,hi,rfl⟩:=List.mem_map.mp hx
      refine⟨_,rfl,⟨_,rfl⟩,rfl,fun _ => ?_⟩
      rcases os i hi with e|e|e<;>subst e
      · exact ma (CB (aJ (am rfl rfl rfl)))
      · exact ma (jn (aJ (am rfl rfl rfl)) (aJ (aw (ag rfl rfl) (cW 0 h))))
      · exact ma (jn (aJ (am rfl rfl rfl)) (aJ (aw (ag rfl rfl) (cW 1 h))))) ⟨_,rfl⟩
    rw [this,List.filter_eq_self.mpr (by simp)]
  have lg:=dg (h:=h) (g:=[]) (d:=.tup (ss.map bS)) (by simp only [pure?];exact fS fun x _=>by cases x<;>rfl)
  rw [List.append_nil] at lg
  have s1:sIf (tE (aj nG (aa 1) (fC .non))) (bo (eP (bJ 1 [] (bL (aa 0)) (gN 0) [] (fC .non)))) bB [some (.int n),some (.ref sk)] h=.nx [some (.int n),some (.ref sk)] h:=dA (aJ (am rfl rfl rfl))
  have s2:sIf (tOr (cK (tE (ed .list (aa 1)))) (tE (aj oNe (cY (lOf (aa 1))) (aa 0)))) jL bB [some (.int n),some (.ref sk)] h=.nx [some (.int n),some (.ref sk)] h:=by
    exact dA (jn (bV (b:=true) (aJ (CC rfl hs))) (aJ (am (eg (cM rfl (aQ hs))) rfl (by rw [Qs,List.length_map,ls,decide_eq_true rfl];rfl))))
  have s3:sIf (cK (tE (Cn (bJ 1 [] (ek (aa 1)) (gN 0) [] (fT (tOr (tE (aj nG (aa 0) (fC .non))) (tE (au bu (ad (aa 0) ak))))))))) jL bB [some (.int n),some (.ref sk)] h=.nx [some (.int n),some (.ref sk)] h:=by
    have al:((ss.map bS).map fun _=>true).all id=true:=by simp
    exact dA (bV (b:=true) (aJ ((Jz (cF (dG rfl hs) c) w8).trans (by rw [al]))))
  have s4:bo (eP (lOf (aa 1))) [some (.int n),some (.ref sk)] h=.rt (.tup (ss.map bS)) h:=bp (jS (cM rfl (aQ hs)))
  have st:([D.int n,D.ref sk].map some++List.replicate (2 - [D.int n,D.ref sk].length) none:Sd)=[some (.int n),some (.ref sk)]:=rfl
  unfold dI bP runB
  rw [if_pos (show [D.int n,D.ref sk].length=2 from rfl),st,aG s1,aG s2,aG s3,s4]
  exact lg
theorem LV {n A:Nat}(hn:n≤30){T:List Tie}(O:TOk n n 0 T){h h1:Hd}(N:NH n A h T h1) :
    cX (some (A + n)) ((List.range n).map fun i=>.ref (A + i)) (gN 0) [] (eP (mW (aa 0))) ((List.range n).map fun i=>.ref (A + i)) [none] h1=.ok (((List.range n).map fun i=>fw (nbs T i)).map iq) h1:=by
  have:=cw (g:=some (A + n)) (all:=(List.range n).map fun i=>.ref (A + i)) (tg:=gN 0) (cs:=[]) (e:=eP (mW (aa 0))) (h:=h1) (I:=fun σ=>∃ a,σ = [a]) (fun _=>true)
    (fun d=>match d with | .ref k=>iq (fw (nbs T (k - A)))|_=>.non) N.rf (xs:=(List.range n).map fun i=>.ref (A + i)) (σ:=[none]) (by
      rintro x hx σ ⟨a,rfl⟩
      obtain⟨i,hi,rfl⟩:=List.mem_map.mp hx
      have hi:=List.mem_range.mp hi
      refine⟨_,rfl,⟨_,rfl⟩,rfl,fun _ => ?_⟩
      have nd:=JF O.un i
      have l64:((nbs T i).map sM).length < 64:=by
        have lt:∀ p∈nbs T i,p.1 < n:=fun p hp=>by
          unfold nbs at hp
          obtain⟨t,ht',q⟩:=List.mem_filterMap.mp hp
          have:=O.lt t ht'
          unfold far at q
          by_cases a1:t.a=i
          · rw [if_pos a1] at q;simp at q;subst q;exact this.2
          · rw [if_neg a1] at q
            by_cases a2:t.b=i
            · rw [if_pos a2] at q;simp at q;subst q;exact this.1
            · rw [if_neg a2] at q;cases q
        have:=JE nd (n:=n) (fun x hx=>by
          obtain⟨p,hp,rfl⟩:=List.mem_map.mp hx
          exact lt p hp)
        simp at this ⊢
        omega
      have e:((dr ((nbs T i).map sM)).map gx)=(fw (nbs T i)).map mY:=by rw [← w6,List.map_map];rfl
      simp only [List.set_cons_zero,eP,mW,aa,slot,List.getElem?_cons_zero,aH,N.dc i hi,nS,if_pos (And.intro l64 (LU nd)),e,iq,Nat.add_sub_cancel_left]) ⟨_,rfl⟩
  rw [this,List.filter_eq_self.mpr (by simp),List.map_map,List.map_map]
  congr 1
  apply List.map_congr_left
  intro i _
  simp
theorem Ga {n:Nat}(hn1:1≤n)(hn:n≤30){T:List Tie}(O:TOk n n 0 T){bs:List Int}{ss:List (Option Int)}(lb:bs.length=n)(ls:ss.length=n)(os:∀ x∈ss,x=none∨x=some 0∨x=some 1){h:Hd}{tk bk sk:Nat}
    (ht:h[tk]? = some (.lst (T.map dh))) (hb:h[bk]? = some (.lst (bs.map .int))) (hs:h[sk]? = some (.lst (ss.map bS))):gr [.int n,.ref tk,.ref bk,.ref sk] h=.ok (dy n T bs ss).enc h:=by
  obtain⟨h1,r1,N⟩:=uE hn1 hn O ht
  obtain⟨A,hA⟩ : ∃ A,A=h.length:=⟨_,rfl⟩
  rw [← hA] at r1 N
  obtain⟨g,hg,lg⟩:=N.pre
  have old:∀ {k:Nat} {c:dk},h[k]? = some c→h1[k]? = some c:=fun {k c} e=>by rw [hg,List.getElem?_append_left (List.getElem?_eq_some_iff.mp e).1];exact e
  have comp:=LV hn O N
  have bt:=ym (n:=n) (l:=(List.range n).map fun i=>.ref (A + i)) N.rf (by simp) (old hb) lb
  have stt:=uF (n:=n) (old hs) ls os
  have i1:(1:Int)≤n:=Int.ofNat_le.mpr hn1
  have i2:(n:Int)≤30:=Int.ofNat_le.mpr hn
  have rf:=N.rf
  have s1:sIf (cK (tE (au br (ad (aa 0) (ad (fC (.int 1)) (ad (fC (.int 30)) ak)))))) jL bB [some (.int n),some (.ref tk),some (.ref bk),some (.ref sk),none,none] h=.nx [some (.int n),some (.ref tk),some (.ref bk),some (.ref sk),none,none] h:=dA (bV (b:=true) (aJ (aw (ag rfl (ag rfl (ag rfl rfl))) (by rw [iu,decide_eq_true i1,decide_eq_true i2];rfl))))
  have s2:aE (gN 4) (au dH (ad (aa 0) (ad (aa 1) ak))) [some (.int n),some (.ref tk),some (.ref bk),some (.ref sk),none,none] h=.nx [some (.int n),some (.ref tk),some (.ref bk),some (.ref sk),some (.ref (A + n)),none] h1:=aD (aw (ag rfl (ag rfl rfl)) r1)
  have s3:aE (gN 5) (eP (bJ 1 [] (ek (aa 4)) (gN 0) [] (eP (mW (aa 0))))) [some (.int n),some (.ref tk),some (.ref bk),some (.ref sk),some (.ref (A + n)),none] h1=.nx [some (.int n),some (.ref tk),some (.ref bk),some (.ref sk),some (.ref (A + n)),some (.tup (((List.range n).map fun i=>fw (nbs T i)).map iq))] h1:=by
    exact aD (jS (cF (dG rfl rf) comp))
  have s4:bo (cS (ad (aa 5) (ad (au eh (ad (aa 4) (ad (aa 2) ak))) (ad (au dI (ad (aa 0) (ad (aa 3) ak))) ak)))) [some (.int n),some (.ref tk),some (.ref bk),some (.ref sk),some (.ref (A + n)),some (.tup (((List.range n).map fun i=>fw (nbs T i)).map iq))] h1=.rt (dy n T bs ss).enc h1:=by
    exact bp (eU (ag rfl (ag (aw (ag rfl (ag rfl rfl)) bt) (ag (aw (ag rfl (ag rfl rfl)) stt) rfl))) (by exact of_decide_eq_true rfl))
  have st:([D.int n,D.ref tk,D.ref bk,D.ref sk].map some++List.replicate (6 - [D.int n,D.ref tk,D.ref bk,D.ref sk].length) none:Sd)=[some (.int n),some (.ref tk),some (.ref bk),some (.ref sk),none,none]:=rfl
  unfold gr bP runB
  rw [if_pos (show [D.int n,D.ref tk,D.ref bk,D.ref sk].length=4 from rfl),st,aG s1,aG s2,aG s3,s4]
  show letGo h (.ok _ h1)=_
  rw [hg]
  exact dg (AR _)
end Fm
set_option linter.all false
namespace Fm
theorem nj (s:List Int):∀ r:List (Nat × Int),bW r s=(r.map fun p=>if s.getD p.1 0=1 then p.2 else 0).sum
  | []=>rfl
  | p :: r=>by
    have ih:=nj s r
    simp only [bW,gY,List.filter_cons,List.map_cons,List.sum_cons] at ih ⊢
    by_cases e:s.getD p.1 0=1
    · simp only [e,decide_true,if_true,List.map_cons,List.sum_cons];rw [ih]
    · simp only [e,decide_false,if_false,Bool.false_eq_true];rw [ih];omega
theorem AY (s:List Int)(r:List (Nat × Int)):bW (fw r) s=bW r s:=by rw [nj,nj,oV]
theorem CO {n:Nat}{T:List Tie}(lt:∀ t∈T,t.a < n∧t.b < n){i:Nat}:∀ p∈nbs T i,p.1 < n:=fun p hp=>by
  unfold nbs at hp
  obtain⟨t,ht',q⟩:=List.mem_filterMap.mp hp
  have:=lt t ht'
  unfold far at q
  by_cases a1:t.a=i
  · rw [if_pos a1] at q;simp at q;subst q;exact this.2
  · rw [if_neg a1] at q
    by_cases a2:t.b=i
    · rw [if_pos a2] at q;simp at q;subst q;exact this.1
    · rw [if_neg a2] at q;cases q
theorem JG {n:Nat}(hn:n≤30){T:List Tie}(O:TOk n n 0 T){bs:List Int}{ss:List (Option Int)}(lb:bs.length=n)(ls:ss.length=n):(dy n T bs ss).Ok n:=by
  refine⟨by simp [dy],lb,ls,fun r hr p hp => ?_,by omega⟩
  obtain⟨i,_,rfl⟩:=List.mem_map.mp hr
  exact CO O.lt p (lP.mp hp)
structure Rq (n:Nat) (T:List Tie) (bs:List Int) (ss:List (Option Int)) (tk bk sk:Nat) (h:Hd):Prop where
  ti:h[tk]? = some (.lst (T.map dh))
  ba:h[bk]? = some (.lst (bs.map .int))
  st:h[sk]? = some (.lst (ss.map bS))
theorem CP {n:Nat}{T:List Tie}{bs:List Int}{ss:List (Option Int)}{s:List Int}{one:Nat}(h1:one < n):cJ (dy n T bs ss) s one=match ss.getD one none with
    | some x=>x
    | none=>if 2 * bW (nbs T one) s=bs.getD one 0 then s.getD one 0 else if bs.getD one 0 < 2 * bW (nbs T one) s then 1 else 0:=by
  have e:((dy n T bs ss).ties.getD one [])=fw (nbs T one):=by simp [dy,List.getD,h1]
  unfold cJ
  rw [e,AY]
  rfl
theorem jq {α : Type}{f : α → D}(h:∀ x,peq (f x) (f x)=some true):∀ l:List α,fN (l.map f) (l.map f)=some true
  | []=>rfl
  | x :: l=>by simp [fN,h x,jq h l]
theorem jr {α : Type}{f : α → D}{k:Nat}(h:∀ x,dep (f x)≤k):∀ l:List α,gn (l.map f)≤k
  | []=>Nat.zero_le _
  | x :: l=>by simp only [List.map_cons,gn];exact Nat.max_le.mpr ⟨h x,jr h l⟩
theorem LW (w:Web):peq w.enc w.enc=some true∧dep w.enc≤20:=by
  have p1:∀ p:Nat × Int,peq (mY p) (mY p)=some true:=fun p=>by simp [mY,peq,fN]
  have p2:∀ r:List (Nat × Int),peq (iq r) (iq r)=some true:=fun r=>by simp [iq,peq,jq p1 r]
  have p3:∀ x:Option Int,peq (bS x) (bS x)=some true:=fun x=>by cases x<;>simp [bS,peq]
  have p4:∀ x:Int,peq (.int x) (.int x)=some true:=fun x=>by simp [peq]
  have d1:∀ p:Nat × Int,dep (mY p)≤1:=fun p=>by simp [mY,dep,gn]
  have d2:∀ r:List (Nat × Int),dep (iq r)≤2:=fun r=>by have:=jr d1 r;simp [iq,dep];omega
  have d3:∀ x:Option Int,dep (bS x)≤0:=fun x=>by cases x<;>simp [bS,dep]
  have d4:∀ x:Int,dep (.int x)≤0:=fun x=>by simp [dep]
  have e1:=jr d2 w.ties
  have e2:=jr d4 w.bars
  have e3:=jr d3 w.stays
  constructor
  · simp [Web.enc,peq,fN,jq p2 w.ties,jq p4 w.bars,jq p3 w.stays]
  · simp only [Web.enc,dep,gn];omega
structure Rr (n:Nat) (ss:List (Option Int)) (s:List Int):Prop where
  len:s.length=n
  op:∀ x∈s,x=0∨x=1
  st:∀ (i:Nat) x,ss[i]? = some (some x)→s[i]? = some x
end Fm
set_option linter.all false
namespace Fm
def LeS (a b:List Int):Prop:=∀ i:Nat,a.getD i 0≤b.getD i 0
theorem LeS.refl (a:List Int):LeS a a:=fun _=>Int.le_refl _
def sN (a:List Int):Prop:=∀ i:Nat,a.getD i 0=0∨a.getD i 0=1
theorem LeS.eq {a b:List Int}(l:a.length=b.length)(x:LeS a b)(y:LeS b a):a=b:=by
  apply List.ext_getElem l
  intro i h1 h2
  have x1:=x i
  have y1:=y i
  simp only [List.getD,List.getElem?_eq_getElem h1,List.getElem?_eq_getElem h2,Option.getD_some] at x1 y1
  omega
theorem fx (p:Nat × Int)(r:List (Nat × Int))(s:List Int):bW (p :: r) s=(if s.getD p.1 0=1 then p.2 else 0) + bW r s:=by
  unfold bW gY
  by_cases e:s.getD p.1 0=1
  · rw [List.filter_cons,if_pos (by simp only [decide_eq_true_eq];exact e),if_pos e];rfl
  · rw [List.filter_cons,if_neg (by simp only [decide_eq_true_eq];exact e),if_neg e];omega
theorem qv {a b:List Int}(B:sN b)(l:LeS a b):∀ {r:List (Nat × Int)},(∀ p∈r,0≤p.2)→bW r a≤bW r b
  | [],_=>Int.le_refl _
  | p :: r,h=>by
    have ih:=qv B l (r:=r) fun q hq=>h q (by simp [hq])
    have h0:=h p (by simp)
    have l0:=l p.1
    have b0:=B p.1
    rw [fx,fx]
    by_cases e:a.getD p.1 0=1
    · have e2:b.getD p.1 0=1:=by omega
      rw [if_pos e,if_pos e2];omega
    · rw [if_neg e]
      by_cases e2:b.getD p.1 0=1
      · rw [if_pos e2];omega
      · rw [if_neg e2];omega
theorem LX {P1 P2 c1 c2 x y:Int}(hp:P1≤P2)(hb:c2≤c1)(l:x≤y)(b1:x=0∨x=1)(b2:y=0∨y=1):(if 2 * P1=c1 then x else if c1 < 2 * P1 then 1 else 0)≤(if 2 * P2=c2 then y else if c2 < 2 * P2 then (1:Int) else 0):=by
  have y0:0≤y:=by rcases b2 with rfl|rfl<;>decide
  have x1:x≤1:=by rcases b1 with rfl|rfl<;>decide
  have q:2 * P1≤2 * P2:=Int.mul_le_mul_of_nonneg_left hp (by decide)
  generalize 2 * P1=A at q
  generalize 2 * P2=B at q
  by_cases e1:A=c1
  · rw [if_pos e1]
    by_cases e2:B=c2
    · rw [if_pos e2];exact l
    · rw [if_neg e2,if_pos (Int.lt_iff_le_and_ne.mpr ⟨Int.le_trans hb (e1 ▸ q),Ne.symm e2⟩)];exact x1
  · rw [if_neg e1]
    by_cases e3:c1 < A
    · have e4:c2 < B:=Int.lt_of_le_of_lt hb (Int.lt_of_lt_of_le e3 q)
      rw [if_pos e3,if_neg (Int.ne_of_gt e4),if_pos e4];exact Int.le_refl _
    · rw [if_neg e3]
      by_cases e2:B=c2
      · rw [if_pos e2];exact y0
      · rw [if_neg e2]
        split
        · decide
        · exact Int.le_refl _
theorem CQ {w1 w2:Web}{a b:List Int}{p:Nat}(hp:bW (w1.ties.getD p []) a≤bW (w2.ties.getD p []) b)(hb:w2.bars.getD p 0≤w1.bars.getD p 0)(B1:sN a)(B2:sN b)(le:LeS a b)
    (st:(w1.stays.getD p none=none∧w2.stays.getD p none=none)∨w1.stays.getD p none=some 0∨w2.stays.getD p none=some 1) (n1:cJ w1 a p=0∨cJ w1 a p=1) (n2:cJ w2 b p=0∨cJ w2 b p=1):cJ w1 a p≤cJ w2 b p:=by
  rcases st with ⟨s1,s2⟩|s|s
  · have b1:=B1 p
    have b2:=B2 p
    have l:=le p
    unfold cJ
    rw [s1,s2]
    generalize bW (w1.ties.getD p []) a=P1 at *
    generalize bW (w2.ties.getD p []) b=P2 at *
    generalize w1.bars.getD p 0=c1 at *
    generalize w2.bars.getD p 0=c2 at *
    generalize a.getD p 0=x at *
    generalize b.getD p 0=y at *
    exact LX hp hb l b1 b2
  · have:cJ w1 a p=0:=by unfold cJ;rw [s]
    omega
  · have:cJ w2 b p=1:=by unfold cJ;rw [s]
    omega
theorem w9 (w:Web)(n:Nat)(s:List Int)(i:Nat):(bM w n s).getD i 0=if i < n then cJ w s i else 0:=by
  unfold bM
  by_cases h:i < n<;>simp [List.getD,h]
theorem bU.bits {w:Web}{n:Nat}{s:List Int}(F:bU w n s):sN s:=fun i=>AN F i
structure nn (w1 w2:Web) (n:Nat):Prop where
  go:∀ a b,bU w1 n a→bU w2 n b→LeS a b→LeS (bM w1 n a) (bM w2 n b)
theorem LY {w1 w2:Web}{n:Nat}(S1:cN w1)(S2:cN w2)(hp:∀ p,p < n → ∀ a b,sN a→sN b→LeS a b→bW (w1.ties.getD p []) a≤bW (w2.ties.getD p []) b)(hb:∀ p,p < n→w2.bars.getD p 0≤w1.bars.getD p 0)
    (st:∀ p,p < n→(w1.stays.getD p none=none∧w2.stays.getD p none=none)∨w1.stays.getD p none=some 0∨w2.stays.getD p none=some 1):nn w1 w2 n :=
  ⟨fun a b Fa Fb le i=>by
    rw [w9,w9]
    by_cases h:i < n
    · rw [if_pos h,if_pos h]
      exact CQ (hp i h a b Fa.bits Fb.bits le) (hb i h) Fa.bits Fb.bits le (st i h) (sL Fa S1 i) (sL Fb S2 i)
    · rw [if_neg h,if_neg h];exact Int.le_refl _⟩
theorem fU {w1 w2:Web}{n:Nat}(W1:w1.Ok n)(W2:w2.Ok n)(S1:cN w1)(S2:cN w2)(M:nn w1 w2 n){a b:List Int}(Fa:bU w1 n a)(Fb:bU w2 n b)(le:LeS a b):∀ k,LeS (hist w1 n a k) (hist w2 n b k)
  | 0=>le
  | k + 1=>M.go _ _ (bK W1 S1 Fa k) (bK W2 S2 Fb k) (fU W1 W2 S1 S2 M Fa Fb le k)
end Fm
set_option linter.all false
namespace Fm
def S2 (R:Nat→List (Nat × Int)) (f s:Nat→Int):Nat→Int
  | 0=>0
  | k + 1=>S2 R f s k + ((R k).map fun p=>p.2 * f p.1 * s k).sum
def kG (g:Nat→Int):Nat→Int
  | 0=>0
  | n + 1=>kG g n + g n
theorem Gb (g:Nat→Int)(n:Nat):((List.range n).map g).sum=kG g n:=by
  induction n with
  | zero=>rfl
  | succ n ih=>rw [List.range_succ,List.map_append,List.sum_append,ih];simp [kG]
end Fm
set_option linter.all false
namespace Fm
theorem xa:∀ (a b:List Int),a.length=b.length→fN (a.map .int) (b.map .int)=some (decide (a=b))
  | [],[],_=>by simp [fN]
  | x :: a,y :: b,h=>by
    have ih:=xa a b (by simpa using h)
    simp only [List.map_cons,fN,peq,ih]
    by_cases e:x=y<;>by_cases e2:a=b<;>simp [e,e2]
  | [],_ :: _,h=>by simp at h
  | _ :: _,[],h=>by simp at h
theorem Gc (l:List Int):gn (l.map .int)=0:=by
  induction l with
  | nil=>rfl
  | cons x l ih=>simp [gn,dep,ih]
theorem E2 (l:List Int):dep (af l)=1:=by simp [af,dep,Gc]
theorem E3 {a b:List Int}(h:a.length=b.length):peq (af a) (af b)=some (decide (a=b)):=by
  simp only [af,peq,xa a b h,Option.map_some,List.length_map,h]
  simp
theorem E4 {a b:List Int}(h:a.length=b.length)(hd:Hd):eqG hd (af a) (af b)=some (decide (a=b)):=by
  have e1:∀ l,gp hd (af l)=none:=fun l=>rfl
  simp only [eqG,e1,E2,E3 h]
  rfl
theorem yn {a b:List Int}(h:a.length=b.length)(hd:Hd):oNe (af a) (af b) hd=.ok (.bl (!decide (a=b))) hd:=by
  unfold oNe;rw [E4 h]
theorem yo {a b:List Int}(h:a.length=b.length)(hd:Hd):oEq (af a) (af b) hd=.ok (.bl (decide (a=b))) hd:=by
  unfold oEq;rw [E4 h]
theorem Qt {k n:Nat}(h1:1≤k)(h2:k≤n) : ¬ 0 ≤ -(k:Int) ∧ -(n:Int) ≤ -(k:Int)∧(-(k:Int) + (n:Int)).toNat=n - k:=by omega
theorem E5 {l:List D}{k:Nat}(h1:1≤k)(h2:k≤l.length):atI l (-(k:Int))=l[l.length - k]? := by
  have q:=Qt h1 h2
  unfold atI ixN
  rw [if_neg q.1,if_pos q.2.1,q.2.2];rfl
theorem kU {w:Web}{n:Nat}{s:List Int}(k j:Nat)(h1:1≤j):atI ((ce w n s (k + j)).map af) (-(j:Int))=some (af (hist w n s k)):=by
  rw [E5 h1 (by rw [List.length_map,lO];exact Nat.le_add_left j k),List.length_map,lO,Nat.add_sub_cancel,List.getElem?_map,ce,List.getElem?_map,List.getElem?_range (Nat.lt_add_of_pos_right h1)];rfl
theorem oW {a b:SF}{σ σ':Sd}{h h':Hd}(e:a σ h=.nx σ' h'):aC a b σ h=b σ' h':=by simp [aC,e]
theorem JH {w:Web}{n:Nat}{s:List Int}(W:w.Ok n)(S:cN w)(F:bU w n s){t:Nat}(ht:hist w n s (t + 2)=hist w n s t)(hm:∀ k,k < t→hist w n s (k + 2)≠hist w n s k)(hz:t≤900000)(h:Hd) :
    iO [w.enc,af s] h=.ok (.tup [.int t,.str (if hist w n s (t + 1)=hist w n s t then [114,101,115,116] else [112,97,105,114]),.ref h.length]) (h++[.lst ((ce w n s (t + 2)).map af)]):=by
  have L:∀ k,(hist w n s k).length=n:=fun k=>(bK W S F k).len
  have loop:∀ j k,k + j=t→eS (tE (aj oNe (aa 3) (fAt (aa 2) (fC (.int (-2)))))) sK (j + 1) [some w.enc,some (af s),some (.ref h.length),some (af (hist w n s (k + 2))),none] (h++[.lst ((ce w n s (k + 2)).map af)])
      = .nx [some w.enc,some (af s),some (.ref h.length),some (af (hist w n s (t + 2))),none] (h++[.lst ((ce w n s (t + 2)).map af)]):=by
    intro j
    induction j with
    | zero =>
      intro k hk
      have:k=t:=hk
      subst this
      have b':atI ((ce w n s (k + 2)).map af) (-2)=some (af (hist w n s k)):=kU k 2 (by decide)
      have test:tE (aj oNe (aa 3) (fAt (aa 2) (fC (.int (-2))))) [some w.enc,some (af s),some (.ref h.length),some (af (hist w n s (k + 2))),none] (h++[.lst ((ce w n s (k + 2)).map af)])=.ok false (h++[.lst ((ce w n s (k + 2)).map af)]):=by
        rw [ht]
        exact aJ (am rfl (aZ rfl rfl (aQ List.getElem?_concat_length) b') (by rw [yn rfl,decide_eq_true rfl];rfl))
      simp only [eS,test]
    | succ j ih =>
      intro k hk
      have b':atI ((ce w n s (k + 2)).map af) (-2)=some (af (hist w n s k)):=kU k 2 (by decide)
      have test:tE (aj oNe (aa 3) (fAt (aa 2) (fC (.int (-2))))) [some w.enc,some (af s),some (.ref h.length),some (af (hist w n s (k + 2))),none] (h++[.lst ((ce w n s (k + 2)).map af)])=.ok true (h++[.lst ((ce w n s (k + 2)).map af)]):=by
        exact aJ (am rfl (aZ rfl rfl (aQ List.getElem?_concat_length) b') (by rw [yn ((L (k + 2)).trans (L k).symm),decide_eq_false (hm k (hk ▸ Nat.lt_add_of_pos_right (Nat.succ_pos j)))];rfl))
      have lz:((ce w n s (k + 2)).map af).length < SZ:=by rw [List.length_map,lO];exact Nat.lt_of_le_of_lt (Nat.add_le_add_right (Nat.le_trans (hk ▸ Nat.le_add_right k (j + 1)) hz) 2) (by decide)
      have tk:=jU W (bK W S F (k + 2)) (h++[.lst ((ce w n s (k + 3)).map af)])
      have body:sK [some w.enc,some (af s),some (.ref h.length),some (af (hist w n s (k + 2))),none] (h++[.lst ((ce w n s (k + 2)).map af)])=.nx [some w.enc,some (af s),some (.ref h.length),some (af (hist w n s (k + 3))),none] (h++[.lst ((ce w n s (k + 3)).map af)]):=by
        have st1:gq (mP (aa 2) (aa 3)) [some w.enc,some (af s),some (.ref h.length),some (af (hist w n s (k + 2))),none] (h++[.lst ((ce w n s (k + 2)).map af)])=.nx [some w.enc,some (af s),some (.ref h.length),some (af (hist w n s (k + 2))),none] (h++[.lst ((ce w n s (k + 3)).map af)]):=by
          rw [show ce w n s (k + 3)=ce w n s (k + 2)++[hist w n s (k + 2)] from CL (k + 2),List.map_append]
          exact (ee (nc rfl List.getElem?_concat_length rfl List.getElem?_concat_length lz)).trans (by rw [lL rfl];rfl)
        exact (oW st1).trans (aD (aw (bI rfl rfl) tk))
      rw [eS,test]
      simp only [body]
      exact ih (k + 1) (by rw [Nat.add_right_comm];exact hk)
  have wl:=F6 (loop t 0 (Nat.zero_add t)) (by simp)
  have t0:=jU W F h
  have t1:=jU W (bK W S F 1) (h++[.lst ((ce w n s 2).map af)])
  have e1 : [af s,af (bM w n s)] = (ce w n s 2).map af:=by simp [ce,List.range_succ,hist]
  have a1:atI ((ce w n s 2).map af) 1=some (af (hist w n s 1)):=JB (w:=w) (n:=n) (s:=s) (m:=2) (i:=1) (by decide)
  have b1':atI ((ce w n s (t + 2)).map af) (-1)=some (af (hist w n s (t + 1))):=kU (t + 1) 1 (by decide)
  have b2':atI ((ce w n s (t + 2)).map af) (-2)=some (af (hist w n s t)):=kU t 2 (by decide)
  have ln:(ce w n s (t + 2)).length=t + 2:=lO _
  have eqw:=yo (a:=hist w n s (t + 1)) (b:=hist w n s t) ((L (t + 1)).trans (L t).symm) (h++[.lst ((ce w n s (t + 2)).map af)])
  simp only [hist] at t1
  simp only [hist] at a1
  have hh1:hist w n s (0 + 2)=bM w n (bM w n s):=rfl
  rw [hh1,show 0 + 2=2 from rfl] at wl
  have s1:aE (gN 2) (aM (ad (aa 1) (ad (au cR (ad (aa 0) (ad (aa 1) ak))) ak))) [some w.enc,some (af s),none,none,none] h
      = .nx [some w.enc,some (af s),some (.ref h.length),none,none] (h++[.lst ((ce w n s 2).map af)]):=by
    rw [← e1];exact aD (gB (ag rfl (ag (aw (bI rfl rfl) t0) rfl)))
  have s2:aE (gN 3) (au cR (ad (aa 0) (ad (fAt (aa 2) (fC (.int 1))) ak))) [some w.enc,some (af s),some (.ref h.length),none,none] (h++[.lst ((ce w n s 2).map af)])
      = .nx [some w.enc,some (af s),some (.ref h.length),some (af (bM w n (bM w n s))),none] (h++[.lst ((ce w n s 2).map af)]):=by
    exact aD (aw (ag rfl (ag (aZ rfl rfl (aQ List.getElem?_concat_length) a1) rfl)) t1)
  have s3:aE (gN 4) (fIf (tE (aj oEq (fAt (aa 2) (fC (.int (-1)))) (fAt (aa 2) (fC (.int (-2)))))) (fC (.str [114,101,115,116])) (fC (.str [112,97,105,114]))) [some w.enc,some (af s),some (.ref h.length),some (af (hist w n s (t + 2))),none] (h++[.lst ((ce w n s (t + 2)).map af)])
      = .nx [some w.enc,some (af s),some (.ref h.length),some (af (hist w n s (t + 2))),some (.str (if hist w n s (t + 1)=hist w n s t then [114,101,115,116] else [112,97,105,114]))] (h++[.lst ((ce w n s (t + 2)).map af)]):=by
    by_cases q:hist w n s (t + 1)=hist w n s t
    · rw [if_pos q];rw [decide_eq_true q] at eqw
      exact aD ((Jv (aJ (am (aZ rfl rfl (aQ List.getElem?_concat_length) b1') (aZ rfl rfl (aQ List.getElem?_concat_length) b2') eqw))).trans rfl)
    · rw [if_neg q];rw [decide_eq_false q] at eqw
      exact aD ((Jw (aJ (am (aZ rfl rfl (aQ List.getElem?_concat_length) b1') (aZ rfl rfl (aQ List.getElem?_concat_length) b2') eqw))).trans rfl)
  have ck:gq (au cQ (ad (aa 0) (ad (aa 1) ak))) [some w.enc,some (af s),none,none,none] h=.nx [some w.enc,some (af s),none,none,none] h:=ee (aw (bI rfl rfl) (AM W F h))
  have st:([w.enc,af s].map some++List.replicate (5 - [w.enc,af s].length) none:Sd)=[some w.enc,some (af s),none,none,none]:=rfl
  unfold iO bP runB
  rw [if_pos (show [w.enc,af s].length=2 from rfl),st,oW ck,oW s1,oW s2,oW wl,oW s3]
  have z:((t:Int) + 2) - 2=t:=by omega
  simp [ln,SZ,z,letGo,pure?,ij]
end Fm
set_option linter.all false
namespace Fm
noncomputable def fy:Fn:=bP 2 2 (aC (gq (au cQ (ad (aa 0) (ad (aa 1) ak))))
    (bo (aj oEq (au cR (ad (aa 0) (ad (aa 1) ak))) (aa 1))))
noncomputable def iw:Fn:=bP 2 2 (bo (fAt (fAt (au iO (ad (aa 0) (ad (aa 1) ak))) (fC (.int 2))) (fC (.int (-1)))))
end Fm
set_option linter.all false
namespace Fm
theorem xb (l:List Int):pure? (af l)=true:=by
  unfold af;simp only [pure?]
  induction l with
  | nil=>rfl
  | cons x l ih=>simp [ij,pure?,ih]
def fV (ss:List (Option Int)):List Int:=ss.map fun u=>if u=some 1 then 1 else 0
def gC (ss:List (Option Int)):List Int:=ss.map fun u=>if u=some 0 then 0 else 1
theorem oX {w:Web}{n:Nat}(W:w.Ok n)(S:cN w):bU w n (fV w.stays):=by
  refine⟨by simp [fV,W.s],fun x hx => ?_,fun i x hx => ?_⟩
  · obtain⟨u,_,rfl⟩:=List.mem_map.mp hx
    split<;>simp
  · have:=S _ (List.mem_of_getElem? hx)
    simp at this
    rcases this with e|e<;>subst e<;>simp [fV,hx]
theorem oY {w:Web}{n:Nat}(W:w.Ok n)(S:cN w):bU w n (gC w.stays):=by
  refine⟨by simp [gC,W.s],fun x hx => ?_,fun i x hx => ?_⟩
  · obtain⟨u,_,rfl⟩:=List.mem_map.mp hx
    split<;>simp
  · have:=S _ (List.mem_of_getElem? hx)
    simp at this
    rcases this with e|e<;>subst e<;>simp [gC,hx]
theorem AZ {w:Web}{n:Nat}{s:List Int}(F:bU w n s):LeS (fV w.stays) s:=fun i=>by
  have b:=F.bits i
  cases e:w.stays[i]? with
  | none =>
    have z:(fV w.stays).getD i 0=0:=by simp [fV,List.getD,e]
    omega
  | some u =>
    by_cases c:u=some 1
    · subst c
      have:=F.st i 1 e
      simp [fV,List.getD,e,this]
    · simp only [fV,List.getD,List.getElem?_map,e,Option.map_some,Option.getD_some,if_neg c] at b ⊢;omega
theorem A0 {w:Web}{n:Nat}{s:List Int}(W:w.Ok n)(F:bU w n s):LeS s (gC w.stays):=fun i=>by
  have b:=F.bits i
  cases e:w.stays[i]? with
  | none =>
    have l:w.stays.length≤i:=List.getElem?_eq_none_iff.mp e
    have l2:s.length≤i:=by rw [F.len,← W.s];exact l
    simp [gC,List.getD,e,List.getElem?_eq_none l2]
  | some u =>
    by_cases c:u=some 0
    · subst c
      have:=F.st i 0 e
      simp [gC,List.getD,e,this]
    · simp only [gC,List.getD,List.getElem?_map,e,Option.map_some,Option.getD_some,if_neg c] at b ⊢;omega
def nt (s:List Int):Nat→Int
  | 0=>0
  | n + 1=>nt s n + s.getD n 0
theorem nT {s:List Int}(B:sN s):∀ n,0≤nt s n∧nt s n≤n
  | 0=>by simp [nt]
  | n + 1=>by have:=nT B n;have:=B n;rw [nt];omega
theorem E6 {a b:List Int}(l:LeS a b):∀ n,nt a n≤nt b n
  | 0=>Int.le_refl _
  | n + 1=>by have:=E6 l n;have:=l n;rw [nt,nt];omega
theorem ol1 {A B x y:Int}(h:A≤B)(l:x≤y)(ne:x≠y):A + x + 1≤B + y:=by omega
theorem ol2 {A B x y:Int}(h:A + 1≤B)(l:x≤y):A + x + 1≤B + y:=by omega
theorem yp {a b:List Int}(l:LeS a b):∀ {n:Nat},(∃ p,p < n∧a.getD p 0≠b.getD p 0)→nt a n + 1≤nt b n
  | 0,h=>by obtain⟨p,hp,_⟩:=h;exact absurd hp (Nat.not_lt_zero _)
  | n + 1,h=>by
    obtain⟨p,hp,ne⟩:=h
    have l0:=l n
    rw [nt,nt]
    by_cases e:p=n
    · subst e
      exact ol1 (E6 l p) l0 ne
    · exact ol2 (yp l (n:=n) ⟨p,Nat.lt_of_le_of_ne (Nat.le_of_lt_succ hp) e,ne⟩) l0
theorem Ni {a b:List Int}{n:Nat}(ha:a.length=n)(hb:b.length=n)(h:a≠b):∃ p,p < n∧a.getD p 0≠b.getD p 0:=by
  by_cases c:∃ p,p < n∧a.getD p 0≠b.getD p 0
  · exact c
  · exfalso
    apply h
    apply List.ext_getElem (by omega)
    intro i h1 h2
    by_cases e:a.getD i 0=b.getD i 0
    · simpa [List.getD,h1,h2] using e
    · exact absurd ⟨i,by omega,e⟩ c
section
variable {w:Web} {n:Nat} {s:List Int}
theorem xc (W:w.Ok n)(S:cN w)(M:nn w w n)(F:bU w n s)(r:LeS s (bM w n s)):∀ k,LeS (hist w n s k) (hist w n s (k + 1))
  | 0=>r
  | k + 1=>M.go _ _ (bK W S F k) (bK W S F (k + 1)) (xc W S M F r k)
theorem xf (W:w.Ok n)(S:cN w)(M:nn w w n)(F:bU w n s)(r:LeS (bM w n s) s):∀ k,LeS (hist w n s (k + 1)) (hist w n s k)
  | 0=>r
  | k + 1=>M.go _ _ (bK W S F (k + 1)) (bK W S F k) (xf W S M F r k)
theorem jt {t:Nat}(h:hist w n s (t + 1)=hist w n s t):∀ k,t≤k→hist w n s k=hist w n s t
  | 0,hk=>by rw [Nat.le_zero.mp hk]
  | k + 1,hk=>by
    by_cases e:t=k + 1
    · subst e;rfl
    · rw [hist,jt h k (Nat.le_of_lt_succ (Nat.lt_of_le_of_ne hk e))];exact h
theorem sO (W:w.Ok n)(S:cN w)(M:nn w w n)(F:bU w n s)(r:LeS s (bM w n s)):∃ t,t≤n∧hist w n s (t + 1)=hist w n s t:=by
  by_cases c:∃ t,t≤n∧hist w n s (t + 1)=hist w n s t
  · exact c
  · exfalso
    have up:∀ k:Nat,k≤n + 1→(k:Int)≤nt (hist w n s k) n:=fun k=>by
      induction k with
      | zero=>intro _;have:=nT F.bits n;simp [hist];omega
      | succ k ih =>
        intro hk
        have i1:=ih (by omega)
        have ne:hist w n s k≠hist w n s (k + 1):=fun z=>c ⟨k,by omega,z.symm⟩
        have:=yp (xc W S M F r k) (Ni (bK W S F k).len (bK W S F (k + 1)).len ne)
        omega
    have:=up (n + 1) (Nat.le_refl _)
    have:=nT (bK W S F (n + 1)).bits n
    omega
theorem sP (W:w.Ok n)(S:cN w)(M:nn w w n)(F:bU w n s)(r:LeS (bM w n s) s):∃ t,t≤n∧hist w n s (t + 1)=hist w n s t:=by
  by_cases c:∃ t,t≤n∧hist w n s (t + 1)=hist w n s t
  · exact c
  · exfalso
    have dn:∀ k:Nat,k≤n + 1→nt (hist w n s k) n + k≤n:=fun k=>by
      induction k with
      | zero=>intro _;have:=nT F.bits n;simp [hist];omega
      | succ k ih =>
        intro hk
        have i1:=ih (by omega)
        have ne:hist w n s (k + 1)≠hist w n s k:=fun z=>c ⟨k,by omega,z⟩
        have:=yp (xf W S M F r k) (Ni (bK W S F (k + 1)).len (bK W S F k).len ne)
        omega
    have:=dn (n + 1) (Nat.le_refl _)
    have:=nT (bK W S F (n + 1)).bits n
    omega
theorem lt2 (a t:Nat):t≤a + 2 * t∧t≤a + 2 * t + 1:=by omega
theorem Rh {t:Nat}(h:hist w n s (t + 1)=hist w n s t):∃ t0,t0≤t∧hist w n s (t0 + 2)=hist w n s t0∧(∀ k,k < t0→hist w n s (k + 2)≠hist w n s k)∧hist w n s t0=hist w n s t∧hist w n s (t0 + 1)=hist w n s t:=by
  have ex:∃ k,hist w n s (k + 2)=hist w n s k:=⟨t,by rw [jt h (t + 2) (Nat.le_add_right t 2)]⟩
  have mn:∃ k,hist w n s (k + 2)=hist w n s k ∧ ∀ j,j < k→hist w n s (j + 2)≠hist w n s j:=by
    obtain⟨k,hk⟩:=ex
    induction k using Nat.strongRecOn with
    | _ k ih =>
      by_cases c:∃ j,j < k∧hist w n s (j + 2)=hist w n s j
      · obtain⟨j,hj,e⟩:=c
        exact ih j hj e
      · exact⟨k,hk,fun j hj e=>c ⟨j,hj,e⟩⟩
  obtain⟨t0,e0,m0⟩:=mn
  have le:t0≤t:=by
    by_cases z:t0≤t
    · exact z
    · exact absurd (by rw [jt h (t + 2) (Nat.le_add_right t 2)]) (m0 t (Nat.not_le.mp z))
  have per:∀ m,hist w n s (t0 + 2 * m)=hist w n s t0∧hist w n s (t0 + 2 * m + 1)=hist w n s (t0 + 1):=fun m=>by
    induction m with
    | zero=>exact⟨rfl,rfl⟩
    | succ m ih =>
      have e1:t0 + 2 * (m + 1)=(t0 + 2 * m + 1) + 1:=rfl
      have a:hist w n s (t0 + 2 * (m + 1))=hist w n s t0:=by
        rw [e1,hist,ih.2,← e0];rfl
      refine⟨a,?_⟩
      rw [hist,a];rfl
  refine⟨t0,le,e0,m0,?_,?_⟩
  · rw [← (per t).1];exact jt h _ (lt2 t0 t).1
  · rw [← (per t).2];exact jt h _ (lt2 t0 t).2
theorem Ge (W:w.Ok n)(S:cN w)(F:bU w n s){t:Nat}(h:hist w n s (t + 1)=hist w n s t)(hz:t≤900000)(g:Hd) :
    ∃ (t0:Nat) (L:List D),iO [w.enc,af s] g=.ok (.tup [.int t0,.str [114,101,115,116],.ref g.length]) (g++[.lst L])∧atI L (-1)=some (af (hist w n s t)):=by
  obtain⟨t0,le,e0,m0,a1,a2⟩:=Rh h
  have q:=JH W S F e0 m0 (Nat.le_trans le hz) g
  have e1:hist w n s (t0 + 1)=hist w n s t0:=by rw [a1,a2]
  refine⟨t0,(ce w n s (t0 + 2)).map af,?_,?_⟩
  · rw [q,if_pos e1]
  · rw [← a2];exact kU (t0 + 1) 1 (by decide)
theorem xg (W:w.Ok n)(S:cN w)(F:bU w n s){t:Nat}(h:hist w n s (t + 1)=hist w n s t)(hz:t≤900000)(g:Hd):iw [w.enc,af s] g=.ok (af (hist w n s t)) g:=by
  obtain⟨t0,L,q,a⟩:=Ge W S F h hz g
  have i2:atI [D.int t0,.str [114,101,115,116],.ref g.length] 2=some (.ref g.length):=rfl
  have gl:(g++[dk.lst L])[g.length]? = some (.lst L):=by simp
  have e:bo (fAt (fAt (au iO (ad (aa 0) (ad (aa 1) ak))) (fC (.int 2))) (fC (.int (-1)))) [some w.enc,some (af s)] g=.rt (af (hist w n s t)) (g++[.lst L]):=by
    exact bp (aZ (aZ (aw (bI rfl rfl) q) rfl rfl i2) rfl (aQ gl) a)
  exact (cG rfl rfl e).trans (dg (xb _))
end
end Fm
set_option linter.all false
namespace Fm
section
variable {w:Web} {n:Nat} {s:List Int}
theorem A1 (W:w.Ok n)(S:cN w)(M:nn w w n):∃ t,t≤n∧hist w n (fV w.stays) (t + 1)=hist w n (fV w.stays) t:=by
  have F:=oX W S
  exact sO W S M F (AZ (oU W S F))
theorem A2 (W:w.Ok n)(S:cN w)(M:nn w w n):∃ t,t≤n∧hist w n (gC w.stays) (t + 1)=hist w n (gC w.stays) t:=by
  have F:=oY W S
  exact sP W S M F (A0 W (oU W S F))
theorem jW (W:w.Ok n)(F:bU w n s)(h:Hd):fy [w.enc,af s] h=.ok (.bl (decide (bM w n s=s))) h:=by
  have l:(bM w n s).length=s.length:=by rw [F.len];simp [bM]
  have q:=yo l h
  exact (cG rfl rfl ((aI (ee (aw (bI rfl rfl) (AM W F h)))).trans (bp (am (aw (bI rfl rfl) (jU W F h)) rfl q)))).trans aS
end
def lW (a b:List Int):List Int:=(a.zip b).map fun p=>if p.2 > p.1 then p.2 else p.1
def lX (a b:List Int):List Int:=(a.zip b).map fun p=>if p.2 < p.1 then p.2 else p.1
theorem A3 {g:Int→Int→Int}{E:EF}(hE:∀ (x y:Int) (h:Hd),E [some (.int x),some (.int y)] h=.ok (.int (g x y)) h)(a b:List Int)(u v:Option D)(h:Hd):cX none (((a.map D.int).zip (b.map D.int)).map fun p=>D.tup [p.1,p.2]) (gT [0,1]) [] E (((a.map D.int).zip (b.map D.int)).map fun p=>D.tup [p.1,p.2]) [u,v] h=.ok (((a.zip b).map fun p=>g p.1 p.2).map .int) h:=by
  have e:((a.map D.int).zip (b.map D.int)).map (fun p=>D.tup [p.1,p.2])=(a.zip b).map fun p=>D.tup [.int p.1,.int p.2]:=by
    rw [List.zip_map,List.map_map];rfl
  rw [e]
  have:=cw (g:=none) (all:=(a.zip b).map fun p=>D.tup [.int p.1,.int p.2]) (tg:=gT [0,1]) (cs:=[]) (e:=E) (h:=h) (I:=fun σ=>∃ a b,σ = [a,b]) (fun _=>true) (fun d=>match d with | .tup [.int x,.int y]=>.int (g x y)|_=>.non) trivial
    (xs:=(a.zip b).map fun p=>D.tup [.int p.1,.int p.2]) (σ:=[u,v]) (by
      rintro x hx σ ⟨c,d,rfl⟩
      obtain⟨p,hp,rfl⟩:=List.mem_map.mp hx
      exact⟨_,rfl,⟨_,_,rfl⟩,rfl,fun _=>hE _ _ _⟩) ⟨_,_,rfl⟩
  rw [this,List.filter_eq_self.mpr (by simp),List.map_map,List.map_map]
  rfl
theorem JI {g:Int→Int→Int}{a b:List Int}{n:Nat}(la:a.length=n)(lb:b.length=n){i:Nat}(hi:i < n):((a.zip b).map fun p=>g p.1 p.2)[i]? = some (g (a.getD i 0) (b.getD i 0)):=by
  have h1:i < a.length:=la ▸ hi
  have h2:i < b.length:=lb ▸ hi
  have hz:i < (a.zip b).length:=by rw [List.length_zip];exact Nat.lt_min.mpr ⟨h1,h2⟩
  rw [List.getElem?_map,List.getElem?_eq_getElem hz]
  simp [List.getD,h1,h2]
section
variable {w:Web} {n:Nat} {a b:List Int}
theorem sQ (la:a.length=n)(lb:b.length=n)(i:Nat):(lW a b).getD i 0=if b.getD i 0 > a.getD i 0 then b.getD i 0 else a.getD i 0:=by
  by_cases hi:i < n
  · rw [List.getD,lW,JI (g:=fun x y=>if y > x then y else x) la lb hi];rfl
  · have : ¬ i < (lW a b).length:=by simp [lW];omega
    simp [List.getD,List.getElem?_eq_none (show a.length≤i by omega),List.getElem?_eq_none (show b.length≤i by omega),List.getElem?_eq_none (show (lW a b).length≤i by omega)]
theorem sR (la:a.length=n)(lb:b.length=n)(i:Nat):(lX a b).getD i 0=if b.getD i 0 < a.getD i 0 then b.getD i 0 else a.getD i 0:=by
  by_cases hi:i < n
  · rw [List.getD,lX,JI (g:=fun x y=>if y < x then y else x) la lb hi];rfl
  · have : ¬ i < (lX a b).length:=by simp [lX];omega
    simp [List.getD,List.getElem?_eq_none (show a.length≤i by omega),List.getElem?_eq_none (show b.length≤i by omega),List.getElem?_eq_none (show (lX a b).length≤i by omega)]
theorem E7 (W:w.Ok n){c:List Int}(lc:c.length=n)(B:sN c)(st:∀ (i:Nat) (x:Int),w.stays[i]? = some (some x)→c.getD i 0=x):bU w n c:=by
  refine⟨lc,fun x hx => ?_,fun i x e => ?_⟩
  · obtain⟨i,hi⟩:=List.mem_iff_getElem?.mp hx
    have:=B i
    simpa [List.getD,hi] using this
  · have hi:i < c.length:=by rw [lc,← W.s];exact (List.getElem?_eq_some_iff.mp e).1
    have:=st i x e
    simp only [List.getD,List.getElem?_eq_getElem hi,Option.getD_some] at this
    rw [List.getElem?_eq_getElem hi,this]
theorem yq (F:bU w n a){i:Nat}{x:Int}(e:w.stays[i]? = some (some x)):a.getD i 0=x:=by
  have:=F.st i x e
  simp [List.getD,this]
theorem A4 (W:w.Ok n)(Fa:bU w n a)(Fb:bU w n b):bU w n (lW a b):=by
  refine E7 W (by simp [lW];have:=Fa.len;have:=Fb.len;omega) (fun i => ?_) fun i x e => ?_
  · rw [sQ Fa.len Fb.len]
    have:=Fa.bits i;have:=Fb.bits i
    split<;>assumption
  · rw [sQ Fa.len Fb.len,yq Fa e,yq Fb e];simp
theorem A5 (W:w.Ok n)(Fa:bU w n a)(Fb:bU w n b):bU w n (lX a b):=by
  refine E7 W (by simp [lX];have:=Fa.len;have:=Fb.len;omega) (fun i => ?_) fun i x e => ?_
  · rw [sR Fa.len Fb.len]
    have:=Fa.bits i;have:=Fb.bits i
    split<;>assumption
  · rw [sR Fa.len Fb.len,yq Fa e,yq Fb e];simp
theorem JJ (Fa:bU w n a)(Fb:bU w n b):LeS a (lW a b)∧LeS b (lW a b):=⟨fun i=>by rw [sQ Fa.len Fb.len];split<;>omega,fun i=>by rw [sQ Fa.len Fb.len];split<;>omega⟩
theorem JK (Fa:bU w n a)(Fb:bU w n b):LeS (lX a b) a∧LeS (lX a b) b:=⟨fun i=>by rw [sR Fa.len Fb.len];split<;>omega,fun i=>by rw [sR Fa.len Fb.len];split<;>omega⟩
theorem E8 {c:List Int}(Fa:bU w n a)(Fb:bU w n b)(h1:LeS a c)(h2:LeS b c):LeS (lW a b) c:=fun i=>by
  rw [sQ Fa.len Fb.len]
  have:=h1 i;have:=h2 i
  split<;>omega
theorem E9 {c:List Int}(Fa:bU w n a)(Fb:bU w n b)(h1:LeS c a)(h2:LeS c b):LeS c (lX a b):=fun i=>by
  rw [sR Fa.len Fb.len]
  have:=h1 i;have:=h2 i
  split<;>omega
theorem Gf (W:w.Ok n)(S:cN w)(M:nn w w n)(Fa:bU w n a)(Fb:bU w n b)(ra:bM w n a=a)(rb:bM w n b=b):∃ t,t≤n∧hist w n (lW a b) (t + 1)=hist w n (lW a b) t:=by
  have Fm:=A4 W Fa Fb
  have l:=JJ Fa Fb
  refine sO W S M Fm (E8 Fa Fb ?_ ?_)
  · have:=M.go _ _ Fa Fm l.1;rwa [ra] at this
  · have:=M.go _ _ Fb Fm l.2;rwa [rb] at this
theorem Gg (W:w.Ok n)(S:cN w)(M:nn w w n)(Fa:bU w n a)(Fb:bU w n b)(ra:bM w n a=a)(rb:bM w n b=b):∃ t,t≤n∧hist w n (lX a b) (t + 1)=hist w n (lX a b) t:=by
  have Fm:=A5 W Fa Fb
  have l:=JK Fa Fb
  refine sP W S M Fm (E9 Fa Fb ?_ ?_)
  · have:=M.go _ _ Fm Fa l.1;rwa [ra] at this
  · have:=M.go _ _ Fm Fb l.2;rwa [rb] at this
end
end Fm
set_option linter.all false
namespace Fm
noncomputable def bw:Fn:=bP 2 2 (aC (sIf (tE (aj oLt (aa 1) (cY (lOf (aa 0))))) (bo (fAt (aa 0) (aa 1))) bB)
    (bo (aj dM (aj cz (aj cz (fC (.int 71)) (aa 1)) (aa 1)) (aj cz (fC (.int 7)) (aa 1)))))
noncomputable abbrev sS:SF:=(sIf (tE (aj oEq (aj cI (aa 1) (fC (.int 2))) (fC (.int 1)))) (aC (aE (gN 5) (aj cI (aj dM (aj dM (aj dM (aj cz (aa 5) (aa 5)) (aj cz (fC (.int 69621)) (aa 5))) (aj cz (fC (.int 11)) (aa 6))) (fC (.int 5))) (fC (.int 2147483549))))
    (gq (mP (aa 4) (aj cI (aj gQ (aa 5) (fC (.int 7))) (aa 3))))) (aC (gq (mP (aa 4) (aj cI (aa 5) (aa 3))))
    (aE (gN 5) (aj gQ (aa 5) (aa 3)))))
noncomputable def dm:Fn:=bP 4 7 (aC (aE (gN 4) (aM ak))
    (aC (aE (gN 5) (aa 0))
    (aC (sIf (tE (aj oEq (aj cI (aa 1) (fC (.int 2))) (fC (.int 1)))) (aE (gN 5) (aj cI (aj cz (aj cI (aa 0) (fC (.int 2147483629))) (fC (.int 48271))) (fC (.int 2147483647)))) bB)
    (aC (fm (bL (aa 2)) (gN 6) sS)
    (bo (aa 4))))))
noncomputable abbrev iy:SF:=(qN (aa 9) (aa 6) (fIx (ad (aj nF (fAt (aa 10) (aa 6)) (fC (.int 1000))) (ad (aj nF (aj dM (fAt (aa 9) (aa 6)) (aj cI (fAt (aa 10) (aa 6)) (fC (.int 7)))) (fC (.int 3))) ak)) (aj cI (aj gQ (aa 2) (fC (.int 256))) (fC (.int 2)))))
noncomputable abbrev nu:SF:=(aC (aE (gN 8) (uC (fC (.int 0)) (aj nF (fAt (aa 5) (aj dM (aj cz (aa 6) (aa 3)) (aa 7))) (fC (.int 402)))))
    (aC (sIf (tE (aj oEq (aj cI (aj gQ (aa 2) (fC (.int 64))) (fC (.int 2))) (fC (.int 1)))) (aE (gN 8) (fIx (ad (fC (.int 0)) (ad (fC (.int 0)) (ad (fC (.int 1)) (ad (fC (.int 1)) (ad (fC (.int 2)) (ad (fC (.int 3)) (ad (fC (.int 1)) ak))))))) (aj cI (fAt (aa 5) (aj dM (aj cz (aa 6) (aa 3)) (aa 7))) (fC (.int 7))))) bB)
    (aC (qN (fAt (aa 4) (aa 6)) (aa 7) (aa 8))
    (qN (fAt (aa 4) (aa 7)) (aa 6) (aa 8)))))
noncomputable abbrev jX:SF:=(fm (bL (aa 6)) (gN 7) nu)
noncomputable def hU:Fn:=bP 2 12 (aC (aE (gN 2) (au bw (ad (aa 0) (ad (fC (.int 0)) ak))))
    (aC (aE (gN 3) (aj dM (fC (.int 1)) (aj cI (aj gQ (aa 2) (fC (.int 2))) (aa 1))))
    (aC (aE (gN 4) (aM (bJ 1 [3] (bL (aa 3)) (gN 0) [] (aM (sD (ad (fC (.int 0)) ak) (aa 1))))))
    (aC (aE (gN 5) (au dm (ad (au bw (ad (aa 0) (ad (fC (.int 1)) ak))) (ad (aa 2) (ad (aj cz (aa 3) (aa 3)) (ad (fC (.int 803)) ak))))))
    (aC (fm (bL (aa 3)) (gN 6) jX)
    (aC (aE (gN 9) (aM (bJ 1 [] (ek (aa 4)) (gN 0) [] (r6 (lOf (aa 0))))))
    (aC (sIf (tE (aj oEq (aj cI (aj gQ (aa 2) (fC (.int 128))) (fC (.int 2))) (fC (.int 1)))) (aC (aE (gN 10) (au dm (ad (au bw (ad (aa 0) (ad (fC (.int 2)) ak))) (ad (aa 2) (ad (aa 3) (ad (fC (.int 2001)) ak))))))
    (fm (bL (aa 3)) (gN 6) iy)) bB)
    (aC (aE (gN 11) (aM (sD (ad (fC .non) ak) (aa 3))))
    (aC (sIf (tE (aj oEq (aj cI (aj gQ (aa 2) (fC (.int 512))) (fC (.int 2))) (fC (.int 1)))) (aC (aE (gN 5) (au dm (ad (au bw (ad (aa 0) (ad (fC (.int 3)) ak))) (ad (aa 2) (ad (aa 3) (ad (fC (.int 7)) ak))))))
    (aE (gN 11) (aM (bJ 1 [] (ek (aa 5)) (gN 0) [] (fIx (ad (fC (.int 0)) (ad (fC (.int 1)) (ad (fC .non) (ad (fC .non) (ad (fC .non) (ad (fC .non) (ad (fC .non) ak))))))) (aa 0)))))) bB)
    (bo (cS (ad (aa 4) (ad (aa 9) (ad (aa 11) ak))))))))))))))
noncomputable abbrev sT:SF:=(sIf (tE (aj oGt (fAt (fAt (fAt (aa 0) (fC (.int 0))) (aa 2)) (aa 3)) (fC (.int 0)))) (gq (mP (aa 1) (cS (ad (aa 3) (ad (aa 2) (ad (fAt (fAt (fAt (aa 0) (fC (.int 0))) (aa 2)) (aa 3)) ak)))))) bB)
noncomputable abbrev nv:SF:=(fm (bL (aa 2)) (gN 3) sT)
noncomputable def fz:Fn:=bP 1 4 (aC (aE (gN 1) (aM ak))
    (aC (fm (bL (cY (lOf (fAt (aa 0) (fC (.int 1)))))) (gN 2) nv)
    (bo (aa 1))))
noncomputable abbrev oZ:SF:=(aC (aE (gN 7) (aj cz (fC (.int 2)) (r6 (bJ 1 [1,2,6] (bL (cY (lOf (aa 3)))) (gN 0) [] (aj cz (fAt (fAt (aa 2) (aa 3)) (aa 0)) (fAt (aa 1) (aa 0)))))))
    (aC (aE (gN 8) (fAt (aa 1) (aa 6)))
    (aC (sIf (tE (aj oGt (aa 7) (fAt (aa 3) (aa 6)))) (aE (gN 8) (fC (.int 1))) bB)
    (aC (sIf (tE (aj oLt (aa 7) (fAt (aa 3) (aa 6)))) (aE (gN 8) (fC (.int 0))) bB)
    (aC (sIf (tE (aj iF (fAt (aa 4) (aa 6)) (fC .non))) (aE (gN 8) (fAt (aa 4) (aa 6))) bB)
    (gq (mP (aa 5) (aa 8))))))))
noncomputable def eZ:Fn:=bP 2 9 (aC (aE (gT [2,3,4]) (aa 0))
    (aC (aE (gN 5) (aM ak))
    (aC (fm (bL (cY (lOf (aa 3)))) (gN 6) oZ)
    (bo (eP (lOf (aa 5)))))))
noncomputable def ju:Fn:=bP 1 1 (bo (au gr (ad (cY (lOf (fAt (aa 0) (fC (.int 1))))) (ad (au fz (ad (aa 0) ak)) (ad (aM (lOf (fAt (aa 0) (fC (.int 1))))) (ad (aM (lOf (fAt (aa 0) (fC (.int 2))))) ak))))))
noncomputable def bC:Fn:=bP 2 2 (bo (aj oEq (aM (bJ 1 [0,1] (bL (cY (lOf (aa 0)))) (gN 0) [(tE (aj oGt (fAt (aa 1) (aa 0)) (fAt (aa 2) (aa 0))))] (aa 0))) (aM ak)))
end Fm
set_option linter.all false
namespace Fm
theorem Qu {t:TF}{a b:SF}{σ:Sd}{h h':Hd}(e:t σ h=.ok true h'):sIf t a b σ h=a σ h':=by simp [sIf,e]
theorem LZ {t:TF}{a b:SF}{σ:Sd}{h h':Hd}(e:t σ h=.ok false h'):sIf t a b σ h=b σ h':=by simp [sIf,e]
theorem yc1 (ns:List Int)(k:Nat)(e:k < ns.length)(h:Hd):bw [.lit (ns.map .int),.int k] h=.ok (.int ns[k]) h:=by
  have pk:=jV (f:=D.int) e
  simp [bw,bP,runB,e,pk]
theorem Gh {x y:Int}(e:(sml x || sml y)=true)(h:Hd):cz (.int x) (.int y) h=.ok (.int (x * y)) h:=by
  simp only [cz,oIc,e,if_true]
theorem yc2 (ns:List Int)(K:Int)(e : ¬ K < (ns.length:Int))(s3:sml K=true)(h:Hd):bw [.lit (ns.map .int),.int K] h=.ok (.int (71 * K * K + 7 * K)) h:=by
  have m1:∀ h,cz (.int 71) (.int K) h=.ok (.int (71 * K)) h:=fun h=>Gh (by rw [s3,Bool.or_true]) h
  have m2:∀ h,cz (.int (71 * K)) (.int K) h=.ok (.int (71 * K * K)) h:=fun h=>Gh (by rw [s3,Bool.or_true]) h
  have m3:∀ h,cz (.int 7) (.int K) h=.ok (.int (7 * K)) h:=fun h=>Gh (by rw [s3,Bool.or_true]) h
  generalize 71 * K=a at m1 m2 ⊢
  generalize a * K=b at m2 ⊢
  generalize 7 * K=c at m3 ⊢
  simp [-cz,bw,bP,runB,e,m1,m2,m3]
theorem A6 (ns:List Int)(k:Nat)(hk:k≤63):∃ v,∀ h,bw [.lit (ns.map .int),.int k] h=.ok (.int v) h:=by
  by_cases e:k < ns.length
  · exact⟨_,yc1 ns k e⟩
  · exact⟨_,yc2 ns k (by omega) (rl (by omega) (by omega))⟩
theorem OV (c way base:Int)(m:Nat)(hm:m≤1000)(b0:0 < base)(b1:base < 2 ^ 250)(h:Hd):∃ l:List Int,dm [.int c,.int way,.int m,.int base] h=.ok (.ref h.length) (h++[.lst (l.map .int)])∧l.length=m ∧ ∀ x∈l,0≤x∧x < base:=by
  obtain⟨A,hA⟩ : ∃ A,A=h.length:=⟨_,rfl⟩
  obtain⟨z0,hz0⟩ : ∃ z0:Int,z0=if way % 2=1 then c % 2147483629 * 48271 % 2147483647 else c:=⟨_,rfl⟩
  have zb:way % 2=1→0≤z0∧z0 < 4611686018427387904:=fun e=>by
    rw [hz0,if_pos e]
    exact⟨Int.emod_nonneg _ (by decide),Int.lt_trans (Int.emod_lt_of_pos _ (by decide)) (by decide)⟩
  obtain⟨σ',h',k1,l,z,y,k2,k3,k4,k5,k6⟩:=cD (P:=fun i σ h'=>∃ (l:List Int) (z:Int) (y:Option D),σ = [some (.int c),some (.int way),some (.int m),some (.int base),some (.ref A),some (.int z),y]∧h'=h++[.lst (l.map .int)]∧l.length=i∧(∀ x∈l,0≤x∧x < base)∧(way % 2=1→0≤z∧z < 4611686018427387904)) (g:=none) (k:=0)
      (all:=(List.range m).map fun k:Nat=>D.int k) (fun _ _ _ _=>trivial)
      (xs:=(List.range m).map fun k:Nat=>D.int k) (tg:=gN 6) (σ:=[some (.int c),some (.int way),some (.int m),some (.int base),some (.ref A),some (.int z0),none]) (h:=h++[.lst []]) (b:=sS) (by
      rintro i x σ h0 hx ⟨l,z,y,rfl,hh0,ll,bl,bz⟩
      obtain⟨hi,rfl⟩:=dQ hx
      rw [Nat.zero_add] at ll ⊢
      have gA:h0[A]? = some (.lst (l.map .int)):=by rw [hh0];exact fG hA _
      have lz:(l.map D.int).length < SZ:=by rw [List.length_map,ll];exact Nat.lt_trans hi (Nat.lt_of_le_of_lt hm (by decide))
      have st:∀ v:Int,h0.set A (.lst (l.map .int++[.int v]))=h++[.lst ((l++[v]).map .int)]:=fun v=>by rw [hh0,lL hA,List.map_append];rfl
      have nb:∀ q:Int,(0≤q % base∧q % base < base):=fun q=>⟨Int.emod_nonneg q (Int.ne_of_gt b0),Int.emod_lt_of_pos q b0⟩
      by_cases e:way % 2=1
      · have bz':=bz e
        have sz:sml z=true:=rl bz'.1 bz'.2
        have s9:sml 69621=true:=by decide
        have s11:sml 11=true:=by decide
        obtain⟨z',hz'⟩ : ∃ z',z'=(z * z + 69621 * z + 11 * i + 5) % 2147483549:=⟨_,rfl⟩
        have c1:0≤z':=by rw [hz'];exact Int.emod_nonneg _ (by decide)
        have c2:z' < 2147483549:=by rw [hz'];exact Int.emod_lt_of_pos _ (by decide)
        refine⟨_,rfl,[some (.int c),some (.int way),some (.int m),some (.int base),some (.ref A),some (.int z'),some (.int i)],_,?_,l++[z' / 7 % base],z',_,rfl,rfl,by simp [ll],fun x hx => ?_,fun _=>⟨c1,Int.lt_trans c2 (by decide)⟩⟩
        · rw [← st]
          have t1:aE (gN 5) (aj cI (aj dM (aj dM (aj dM (aj cz (aa 5) (aa 5)) (aj cz (fC (.int 69621)) (aa 5))) (aj cz (fC (.int 11)) (aa 6))) (fC (.int 5))) (fC (.int 2147483549))) [some (.int c),some (.int way),some (.int m),some (.int base),some (.ref A),some (.int z),some (.int i)] h0=.nx [some (.int c),some (.int way),some (.int m),some (.int base),some (.ref A),some (.int z'),some (.int i)] h0:=by
            rw [hz'];exact aD (am (am (am (am (am rfl rfl (nP sz)) (am rfl rfl (nP s9)) rfl) (am rfl rfl (nP s11)) rfl) rfl rfl) rfl (du (by decide)))
          have tt:tE (aj oEq (aj cI (aa 1) (fC (.int 2))) (fC (.int 1))) [some (.int c),some (.int way),some (.int m),some (.int base),some (.ref A),some (.int z),some (.int i)] h0=.ok true h0:=aJ (am (am rfl rfl (du (by decide))) rfl (ng e))
          show sIf _ _ _ [some (.int c),some (.int way),some (.int m),some (.int base),some (.ref A),some (.int z),some (.int i)] h0=_
          rw [Qu tt,aG t1]
          exact ee (nc rfl gA (am (am rfl rfl (ir (by decide) (by decide))) rfl (du b0)) gA lz)
        · rcases List.mem_append.mp hx with hx|hx
          · exact bl x hx
          · simp at hx;subst hx;exact nb _
      · refine⟨_,rfl,[some (.int c),some (.int way),some (.int m),some (.int base),some (.ref A),some (.int (z / base)),some (.int i)],_,?_,l++[z % base],z / base,_,rfl,rfl,by simp [ll],fun x hx => ?_,fun q=>absurd q e⟩
        · rw [← st]
          have tt:tE (aj oEq (aj cI (aa 1) (fC (.int 2))) (fC (.int 1))) [some (.int c),some (.int way),some (.int m),some (.int base),some (.ref A),some (.int z),some (.int i)] h0=.ok false h0:=aJ (am (am rfl rfl (du (by decide))) rfl (kS e))
          show sIf _ _ _ [some (.int c),some (.int way),some (.int m),some (.int base),some (.ref A),some (.int z),some (.int i)] h0=_
          rw [LZ tt]
          exact (aG (ee (nc rfl gA (am rfl rfl (du b0)) gA lz))).trans (aD (am rfl rfl (ir b0 b1)))
        · rcases List.mem_append.mp hx with hx|hx
          · exact bl x hx
          · simp at hx;subst hx;exact nb _) ⟨[],z0,none,rfl,rfl,rfl,by simp,zb⟩
  have e0:0 + ((List.range m).map fun k:Nat=>D.int k).length=m:=by simp
  rw [e0] at k4
  refine⟨l,?_,k4,k5⟩
  have s1:aE (gN 4) (aM ak) [some (.int c),some (.int way),some (.int m),some (.int base),none,none,none] h=.nx [some (.int c),some (.int way),some (.int m),some (.int base),some (.ref A),none,none] (h++[.lst []]):=aD (fk hA rfl (Nat.zero_le _))
  have s2:aE (gN 5) (aa 0) [some (.int c),some (.int way),some (.int m),some (.int base),some (.ref A),none,none] (h++[.lst []])=.nx [some (.int c),some (.int way),some (.int m),some (.int base),some (.ref A),some (.int c),none] (h++[.lst []]):=rfl
  have s3:sIf (tE (aj oEq (aj cI (aa 1) (fC (.int 2))) (fC (.int 1)))) (aE (gN 5) (aj cI (aj cz (aj cI (aa 0) (fC (.int 2147483629))) (fC (.int 48271))) (fC (.int 2147483647)))) bB [some (.int c),some (.int way),some (.int m),some (.int base),some (.ref A),some (.int c),none] (h++[.lst []])=.nx [some (.int c),some (.int way),some (.int m),some (.int base),some (.ref A),some (.int z0),none] (h++[.lst []]):=by
    have s48:sml 48271=true:=by decide
    rw [hz0]
    by_cases e:way % 2=1
    · rw [if_pos e];exact (kF (aJ (am (am rfl rfl (du (by decide))) rfl (ng e)))).trans (aD (am (am (am rfl rfl (du (by decide))) rfl (LQ s48)) rfl (du (by decide))))
    · rw [if_neg e];exact dA (aJ (am (am rfl rfl (du (by decide))) rfl (kS e)))
  have s4:fm (bL (aa 2)) (gN 6) sS [some (.int c),some (.int way),some (.int m),some (.int base),some (.ref A),some (.int z0),none] (h++[.lst []])=.nx [some (.int c),some (.int way),some (.int m),some (.int base),some (.ref A),some (.int z),y] (h++[.lst (l.map .int)]):=by
    rw [k2,k3] at k1
    exact eV (c9 rfl hm) k1
  have s5:bo (aa 4) [some (.int c),some (.int way),some (.int m),some (.int base),some (.ref A),some (.int z),y] (h++[.lst (l.map .int)])=.rt (.ref A) (h++[.lst (l.map .int)]):=bp rfl
  have st:([D.int c,D.int way,D.int m,D.int base].map some++List.replicate (7 - [D.int c,D.int way,D.int m,D.int base].length) none:Sd)=[some (.int c),some (.int way),some (.int m),some (.int base),none,none,none]:=rfl
  unfold dm bP runB
  rw [if_pos (by rfl),st,aG s1,aG s2,aG s3,aG s4,s5,← hA]
  exact ft
end Fm
set_option linter.all false
namespace Fm
def gu (M:Nat→Nat→Int) (n i:Nat):List Int:=(List.range n).map (M i)
def o0 (M:Nat→Nat→Int) (a b:Nat) (v:Int):Nat→Nat→Int:=fun i j=>if i=a∧j=b then v else M i j
structure iz (A n:Nat) (M:Nat→Nat→Int) (h:Hd):Prop where
  ro:∀ i,i < n→h[A + i]? = some (.lst ((gu M n i).map .int))
  ti:h[A + n]? = some (.lst ((List.range n).map fun i=>.ref (A + i)))
structure MOk (M:Nat→Nat→Int):Prop where
  sym:∀ i j,M i j=M j i
  bd:∀ i j,0≤M i j∧M i j≤400
  no:∀ i,M i i=0
theorem JL (M:Nat→Nat→Int)(n a b:Nat)(v:Int)(i:Nat):gu (o0 M a b v) n i=if i=a then (gu M n a).set b v else gu M n i:=by
  by_cases e:i=a
  · subst e
    rw [if_pos rfl]
    apply List.ext_getElem?
    intro j
    by_cases hj:j < n
    · by_cases ej:j=b
      · subst ej
        rw [List.getElem?_set_self (by simp [gu,hj])]
        simp [gu,o0,hj]
      · rw [List.getElem?_set_ne (by omega)]
        simp [gu,o0,hj,ej]
    · rw [List.getElem?_eq_none (by simp [gu];omega),List.getElem?_eq_none (by simp [gu];omega)]
  · rw [if_neg e]
    apply List.map_congr_left
    intro j _
    simp [o0,e]
theorem iz.put {A n:Nat}{M:Nat→Nat→Int}{h:Hd}(m:iz A n M h){a b:Nat}(ha:a < n)(v:Int):iz A n (o0 M a b v) (h.set (A + a) (.lst (((gu M n a).map .int).set b (.int v)))) where
  ro:=fun i hi=>by
    rw [JL]
    by_cases e:i=a
    · subst e
      rw [if_pos rfl,List.getElem?_set_self (List.getElem?_eq_some_iff.mp (m.ro i hi)).1,List.map_set]
    · rw [if_neg e,List.getElem?_set_ne (fun z=>e (Nat.add_left_cancel z).symm)];exact m.ro i hi
  ti:=by rw [List.getElem?_set_ne (fun z=>Nat.ne_of_lt ha (Nat.add_left_cancel z))];exact m.ti
theorem iz.more {A n:Nat}{M:Nat→Nat→Int}{h:Hd}(m:iz A n M h)(g:Hd):iz A n M (h++g):=by
  have k:∀ {i:Nat} {x:dk},h[i]? = some x→(h++g)[i]? = some x:=fun {i x} e=>by
    rw [List.getElem?_append_left (List.getElem?_eq_some_iff.mp e).1];exact e
  exact⟨fun i hi=>k (m.ro i hi),k m.ti⟩
theorem iz.set {A n:Nat}{M:Nat→Nat→Int}{h:Hd}(m:iz A n M h){k:Nat}(hk:A + n < k)(c:dk):iz A n M (h.set k c) :=
  ⟨fun i hi=>by rw [List.getElem?_set_ne (by omega)];exact m.ro i hi,by rw [List.getElem?_set_ne (by omega)];exact m.ti⟩
theorem MOk.put {M:Nat→Nat→Int}(o:MOk M){a b:Nat}(ne:a≠b){v:Int}(h0:0≤v)(h1:v≤400):MOk (o0 (o0 M a b v) b a v) where
  sym:=fun i j=>by
    simp only [o0]
    by_cases q:i=b∧j=a
    · rw [if_pos q]
      by_cases r:j=b∧i=a
      · rw [if_pos r]
      · rw [if_neg r,if_pos ⟨q.2,q.1⟩]
    · rw [if_neg q]
      by_cases p:i=a∧j=b
      · rw [if_pos p,if_pos ⟨p.2,p.1⟩]
      · rw [if_neg p,if_neg fun z=>p ⟨z.2,z.1⟩,if_neg fun z=>q ⟨z.2,z.1⟩];exact o.sym i j
  bd:=fun i j=>by
    simp only [o0]
    split
    · exact⟨h0,h1⟩
    · split
      · exact⟨h0,h1⟩
      · exact o.bd i j
  no:=fun i=>by
    simp only [o0]
    rw [if_neg fun z=>ne (z.2.symm.trans z.1),if_neg fun z=>ne (z.1.symm.trans z.2)]
    exact o.no i
theorem Ri {t:Int}(h:0≤t∧t < 803):0≤(if t - 402 > 0 then t - 402 else 0)∧(if t - 402 > 0 then t - 402 else 0)≤400:=by split<;>omega
theorem JM {M:Nat→Nat→Int}{n i j:Nat}(hj:j < n):atI ((gu M n i).map D.int) (j:Int)=some (.int (M i j)):=by
  rw [jV (by simp [gu,hj])];simp [gu]
theorem Fc {A n i:Nat}(hi:i < n):atI ((List.range n).map fun i=>D.ref (A + i)) (i:Int)=some (.ref (A + i)):=by
  refine d8 ?_
  simp [hi]
theorem Nj {x0 x1 x2 x4 x5:Option D}{r:Sd}{N O:Int}(e:(sml O || sml N)=true)(h:Hd):aj cz (aa 6) (aa 3) (x0 :: x1 :: x2 :: some (.int N) :: x4 :: x5 :: some (.int O) :: r) h=.ok (.int (O * N)) h:=by
  rw [show aj cz (aa 6) (aa 3) (x0 :: x1 :: x2 :: some (.int N) :: x4 :: x5 :: some (.int O) :: r) h=cz (.int O) (.int N) h from rfl]
  exact Gh e h
theorem q1 {tk n one i:Nat}{S0 p1:D}{way t q:Int}{td:List D}{c b:Option D}{h0:Hd}{E:EF}(pr:E [some S0,some p1,some (.int way),some (.int n),c,some (.ref tk),some (.int one),some (.int i),b,none,none,none] h0=.ok (.int q) h0)(t1:h0[tk]? = some (.lst td))(at1:atI td (q + i)=some (.int t)):aE (gN 8) (uC (fC (.int 0)) (aj nF (fAt (aa 5) (aj dM E (aa 7))) (fC (.int 402)))) [some S0,some p1,some (.int way),some (.int n),c,some (.ref tk),some (.int one),some (.int i),b,none,none,none] h0=.nx [some S0,some p1,some (.int way),some (.int n),c,some (.ref tk),some (.int one),some (.int i),some (.int (if t - 402 > 0 then t - 402 else 0)),none,none,none] h0:=by
  exact aD (OR rfl (am (aZ rfl (am pr rfl rfl) (aQ t1) at1) rfl rfl))
theorem q2 {tk n one i:Nat}{S0 p1:D}{way t y q v0:Int}{td:List D}{c:Option D}{h0:Hd}{E:EF}(pr:E [some S0,some p1,some (.int way),some (.int n),c,some (.ref tk),some (.int one),some (.int i),some (.int v0),none,none,none] h0=.ok (.int q) h0)(t1:h0[tk]? = some (.lst td))(at1:atI td (q + i)=some (.int t))(e:way / 64 % 2=1)(py:atI [D.int 0,.int 0,.int 1,.int 1,.int 2,.int 3,.int 1] (t % 7)=some (.int y)):sIf (tE (aj oEq (aj cI (aj gQ (aa 2) (fC (.int 64))) (fC (.int 2))) (fC (.int 1)))) (aE (gN 8) (fIx (ad (fC (.int 0)) (ad (fC (.int 0)) (ad (fC (.int 1)) (ad (fC (.int 1)) (ad (fC (.int 2)) (ad (fC (.int 3)) (ad (fC (.int 1)) ak))))))) (aj cI (fAt (aa 5) (aj dM E (aa 7))) (fC (.int 7))))) bB [some S0,some p1,some (.int way),some (.int n),c,some (.ref tk),some (.int one),some (.int i),some (.int v0),none,none,none] h0=.nx [some S0,some p1,some (.int way),some (.int n),c,some (.ref tk),some (.int one),some (.int i),some (.int y),none,none,none] h0:=by
  exact (kF (aJ (am (am (am rfl rfl (ir (by decide) (by decide))) rfl (du (by decide))) rfl (ng e)))).trans (aD (EY (ag rfl (ag rfl (ag rfl (ag rfl (ag rfl (bI rfl rfl)))))) (am (aZ rfl (am pr rfl rfl) (aQ t1) at1) rfl (du (by decide))) py))
theorem q3 {tk n one i:Nat}{S0 p1:D}{way v0:Int}{c:Option D}{h0:Hd}{B:SF}(e : ¬ way / 64 % 2=1):sIf (tE (aj oEq (aj cI (aj gQ (aa 2) (fC (.int 64))) (fC (.int 2))) (fC (.int 1)))) B bB [some S0,some p1,some (.int way),some (.int n),c,some (.ref tk),some (.int one),some (.int i),some (.int v0),none,none,none] h0=.nx [some S0,some p1,some (.int way),some (.int n),c,some (.ref tk),some (.int one),some (.int i),some (.int v0),none,none,none] h0:=by
  exact dA (aJ (am (am (am rfl rfl (ir (by decide) (by decide))) rfl (du (by decide))) rfl (kS e)))
theorem L4 {A n one tk:Nat}{way:Int}{td:List Int}(h1:one < n)(hn:n≤30)(tl:td.length=n * n)(tb:∀ x∈td,0≤x∧x < 803)(hA:A + n < tk){M:Nat→Nat→Int}(O:MOk M){h:Hd}(m:iz A n M h)(ht:h[tk]? = some (.lst (td.map .int))){S0 p1:D}{a b:Option D}{L:Nat}(hL:h.length=L) :
    ∃ M' h' a' b',fO none ((List.range one).map fun k:Nat=>D.int k) (gN 7) nu ((List.range one).map fun k:Nat=>D.int k) [some S0,some p1,some (.int way),some (.int n),some (.ref (A + n)),some (.ref tk),some (.int one),a,b,none,none,none] h
      = .nx [some S0,some p1,some (.int way),some (.int n),some (.ref (A + n)),some (.ref tk),some (.int one),a',b',none,none,none] h'∧MOk M'∧iz A n M' h'∧h'[tk]? = some (.lst (td.map .int))∧h'.length=L:=by
  obtain⟨σ',h',k1,M',a',b',k2,k3,k4,k5,k6⟩:=cD (P:=fun i σ h'=>∃ (M':Nat→Nat→Int) (a b:Option D),σ = [some S0,some p1,some (.int way),some (.int n),some (.ref (A + n)),some (.ref tk),some (.int one),a,b,none,none,none]∧MOk M'∧iz A n M' h'∧h'[tk]? = some (.lst (td.map .int))∧h'.length=L) (g:=none) (k:=0)
      (all:=(List.range one).map fun k:Nat=>D.int k) (fun _ _ _ _=>trivial)
      (xs:=(List.range one).map fun k:Nat=>D.int k) (tg:=gN 7) (σ:=[some S0,some p1,some (.int way),some (.int n),some (.ref (A + n)),some (.ref tk),some (.int one),a,b,none,none,none]) (h:=h) (b:=nu) (by
      rintro i x σ h0 hx ⟨M1,a,b,rfl,O1,m1,t1,l1⟩
      obtain⟨hi,rfl⟩:=dQ hx
      have hin:i < n:=Nat.lt_trans hi h1
      have lt:one * n + i < td.length:=by
        rw [tl]
        exact Nat.lt_of_lt_of_le (Nat.add_lt_add_left hin _) (by rw [← Nat.succ_mul];exact Nat.mul_le_mul_right n h1)
      have at1:atI (td.map D.int) ((one:Int) * n + i)=some (.int td[one * n + i]):=by
        have:=jV (f:=D.int) lt
        rw [show (one:Int) * n + i=((one * n + i:Nat):Int) by rw [Int.natCast_add,Int.natCast_mul]]
        exact this
      have tb1:=tb _ (List.getElem_mem lt)
      generalize td[one * n + i] = t at at1 tb1
      have sn:sml (n:Int)=true:=rl (Int.natCast_nonneg n) (Int.lt_of_le_of_lt (Int.ofNat_le.mpr hn) (by decide))
      obtain⟨v0,hv0⟩ : ∃ v0:Int,v0=if t - 402 > 0 then t - 402 else 0:=⟨_,rfl⟩
      have v0b:0≤v0∧v0≤400:=by rw [hv0];exact Ri tb1
      have s1:aE (gN 8) (uC (fC (.int 0)) (aj nF (fAt (aa 5) (aj dM (aj cz (aa 6) (aa 3)) (aa 7))) (fC (.int 402)))) [some S0,some p1,some (.int way),some (.int n),some (.ref (A + n)),some (.ref tk),some (.int one),some (.int i),b,none,none,none] h0=.nx [some S0,some p1,some (.int way),some (.int n),some (.ref (A + n)),some (.ref tk),some (.int one),some (.int i),some (.int v0),none,none,none] h0:=by
        rw [hv0];exact q1 (E:=aj cz (aa 6) (aa 3)) (Nj (by rw [sn,Bool.or_true]) h0) t1 at1
      obtain⟨v,vb,s2⟩ : ∃ v:Int,(0≤v∧v≤400)∧sIf (tE (aj oEq (aj cI (aj gQ (aa 2) (fC (.int 64))) (fC (.int 2))) (fC (.int 1)))) (aE (gN 8) (fIx (ad (fC (.int 0)) (ad (fC (.int 0)) (ad (fC (.int 1)) (ad (fC (.int 1)) (ad (fC (.int 2)) (ad (fC (.int 3)) (ad (fC (.int 1)) ak))))))) (aj cI (fAt (aa 5) (aj dM (aj cz (aa 6) (aa 3)) (aa 7))) (fC (.int 7))))) bB [some S0,some p1,some (.int way),some (.int n),some (.ref (A + n)),some (.ref tk),some (.int one),some (.int i),some (.int v0),none,none,none] h0=.nx [some S0,some p1,some (.int way),some (.int n),some (.ref (A + n)),some (.ref tk),some (.int one),some (.int i),some (.int v),none,none,none] h0:=by
        by_cases e:way / 64 % 2=1
        · obtain⟨y,hy,py⟩:=Qq D.int [0,0,1,1,2,3,1] (x:=t % 7) (Int.emod_nonneg t (by decide)) (Int.emod_lt_of_pos t (by decide))
          simp only [List.map_cons,List.map_nil] at py
          refine⟨y,by simp at hy;rcases hy with rfl|rfl|rfl|rfl|rfl<;>decide,?_⟩
          exact q2 (E:=aj cz (aa 6) (aa 3)) (Nj (by rw [sn,Bool.or_true]) h0) t1 at1 e py
        · refine⟨v0,v0b,?_⟩
          exact q3 e
      have lr:∀ (M:Nat→Nat→Int) (i:Nat),(gu M n i).length=n:=fun M i=>by simp [gu]
      have ne:one≠i:=Nat.ne_of_gt hi
      have m2:=m1.put (b:=i) h1 v
      have m3:=m2.put (b:=one) hin v
      have ro1:=m1.ro one h1
      have ro2:=m2.ro i hin
      have a1:=Fc (A:=A) h1
      have a2:=Fc (A:=A) hin
      have s3:qN (fAt (aa 4) (aa 6)) (aa 7) (aa 8) [some S0,some p1,some (.int way),some (.int n),some (.ref (A + n)),some (.ref tk),some (.int one),some (.int i),some (.int v),none,none,none] h0=.nx [some S0,some p1,some (.int way),some (.int n),some (.ref (A + n)),some (.ref tk),some (.int one),some (.int i),some (.int v),none,none,none] (h0.set (A + one) (.lst (((gu M1 n one).map .int).set i (.int v)))):=by
        exact yj rfl (aZ rfl rfl (aQ m1.ti) a1) rfl ro1 (yk (by rw [List.length_map,lr];exact hin))
      have s4:qN (fAt (aa 4) (aa 7)) (aa 6) (aa 8) [some S0,some p1,some (.int way),some (.int n),some (.ref (A + n)),some (.ref tk),some (.int one),some (.int i),some (.int v),none,none,none] (h0.set (A + one) (.lst (((gu M1 n one).map .int).set i (.int v))))=.nx [some S0,some p1,some (.int way),some (.int n),some (.ref (A + n)),some (.ref tk),some (.int one),some (.int i),some (.int v),none,none,none] ((h0.set (A + one) (.lst (((gu M1 n one).map .int).set i (.int v)))).set (A + i) (.lst (((gu (o0 M1 one i v) n i).map .int).set one (.int v)))):=by
        exact yj rfl (aZ rfl rfl (aQ m2.ti) a2) rfl ro2 (yk (by rw [List.length_map,lr];exact h1))
      refine⟨_,rfl,[some S0,some p1,some (.int way),some (.int n),some (.ref (A + n)),some (.ref tk),some (.int one),some (.int i),some (.int v),none,none,none],_,?_,o0 (o0 M1 one i v) i one v,_,_,rfl,O1.put ne vb.1 vb.2,m3,?_,by simp [l1]⟩
      · show aC _ _ [some S0,some p1,some (.int way),some (.int n),some (.ref (A + n)),some (.ref tk),some (.int one),some (.int i),b,none,none,none] h0=_
        rw [aG s1,aG s2,aG s3,s4]
      · exact (List.getElem?_set_ne (Nat.ne_of_lt (Nat.lt_trans (Nat.add_lt_add_left hin A) hA))).trans ((List.getElem?_set_ne (Nat.ne_of_lt (Nat.lt_trans (Nat.add_lt_add_left h1 A) hA))).trans t1)) ⟨M,a,b,rfl,O,m,ht,hL⟩
  exact⟨M',h',a',b',by rw [k1,k2],k3,k4,k5,k6⟩
theorem L5 {A n tk:Nat}{way:Int}{td:List Int}(hn:n≤30)(tl:td.length=n * n)(tb:∀ x∈td,0≤x∧x < 803)(hA:A + n < tk){M:Nat→Nat→Int}(O:MOk M){h:Hd}(m:iz A n M h)(ht:h[tk]? = some (.lst (td.map .int))){S0 p1:D}{L:Nat}(hL:h.length=L) :
    ∃ M' h' c a b,fO none ((List.range n).map fun k:Nat=>D.int k) (gN 6) jX ((List.range n).map fun k:Nat=>D.int k) [some S0,some p1,some (.int way),some (.int n),some (.ref (A + n)),some (.ref tk),none,none,none,none,none,none] h
      = .nx [some S0,some p1,some (.int way),some (.int n),some (.ref (A + n)),some (.ref tk),c,a,b,none,none,none] h'∧MOk M'∧iz A n M' h'∧h'.length=L:=by
  obtain⟨σ',h',k1,M',c',a',b',k2,k3,k4,k5,k6⟩:=cD (P:=fun i σ h'=>∃ (M':Nat→Nat→Int) (c a b:Option D),σ = [some S0,some p1,some (.int way),some (.int n),some (.ref (A + n)),some (.ref tk),c,a,b,none,none,none]∧MOk M'∧iz A n M' h'∧h'[tk]? = some (.lst (td.map .int))∧h'.length=L) (g:=none) (k:=0)
      (all:=(List.range n).map fun k:Nat=>D.int k) (fun _ _ _ _=>trivial)
      (xs:=(List.range n).map fun k:Nat=>D.int k) (tg:=gN 6) (σ:=[some S0,some p1,some (.int way),some (.int n),some (.ref (A + n)),some (.ref tk),none,none,none,none,none,none]) (h:=h) (b:=jX) (by
      rintro i x σ h0 hx ⟨M1,c,a,b,rfl,O1,m1,t1,l1⟩
      obtain⟨hi,rfl⟩:=dQ hx
      obtain⟨M2,h2,a2,b2,q,O2,m2,t2,l2⟩:=L4 hi hn tl tb hA O1 m1 t1 (S0:=S0) (p1:=p1) (way:=way) (a:=a) (b:=b) l1
      refine⟨_,rfl,_,h2,?_,M2,some (.int i),a2,b2,rfl,O2,m2,t2,l2⟩
      show fm _ _ _ [some S0,some p1,some (.int way),some (.int n),some (.ref (A + n)),some (.ref tk),some (.int i),a,b,none,none,none] h0=_
      exact eV (c9 rfl (Nat.le_trans (Nat.le_of_lt hi) (i3 hn))) q) ⟨M,none,none,none,rfl,O,m,ht,hL⟩
  exact⟨M',h',c',a',b',by rw [k1,k2],k3,k4,k6⟩
end Fm
set_option linter.all false
namespace Fm
structure Mdl (ns:List Int) (n:Nat) (M:Nat→Nat→Int) (bs:List Int) (ss:List (Option Int)) (bk sk:Nat) (h:Hd):Prop where
  run:hU [.lit (ns.map .int),.int 7] []=.ok (.tup [.ref (0 + n),.ref bk,.ref sk]) h
  n1:1≤n
  n30:n≤30
  n7:n≤7
  mt:iz 0 n M h
  mo:MOk M
  ba:h[bk]? = some (.lst (bs.map .int))
  st:h[sk]? = some (.lst (ss.map bS))
  lb:bs.length=n
  ls:ss.length=n
  os:∀ x∈ss,x=none∨x=some 0∨x=some 1
  bb:∀ x∈bs,-20000≤x∧x≤20000
theorem A7 {way d:Int}{σ:Sd}{h:Hd}{i:Nat}(hi : σ[i]? = some (some (.int way)))(d0:0 < d)(d1:d < 2 ^ 250):tE (aj oEq (aj cI (aj gQ (aa i) (fC (.int d))) (fC (.int 2))) (fC (.int 1))) σ h=.ok (decide (way / d % 2=1)) h:=by
  have v:aa i σ h=.ok (.int way) h:=by simp only [aa,slot,hi]
  exact aJ (am (am (am v rfl (ir d0 d1)) rfl (du (by decide))) rfl EZ)
theorem OW (x:Int):x % 2=0∨x % 2=1:=Int.emod_two_eq x
theorem lv1 {x:Int}(h:0≤x∧x < 2001) : -20000≤x - 1000∧x - 1000≤20000:=by omega
theorem lv2 {x y:Int}(h:0≤x∧x≤12000) : -20000≤x + y % 7 - 3∧x + y % 7 - 3≤20000:=by omega
theorem lv3 {x:Int}(h:0≤x∧x≤12000) : -20000≤x∧x≤20000:=by omega
theorem JN {A n lk tk:Nat}{way:Int}{stp:List Int}(hn:n≤30)(sl:stp.length=n)(ne:lk≠tk){h:Hd}{bs:List Int}(lb:bs.length=n)(sb:∀ x∈stp,0≤x∧x < 2001)(bb:∀ x∈bs,0≤x∧x≤12000)(hl:h[lk]? = some (.lst (bs.map .int)))(ht:h[tk]? = some (.lst (stp.map .int))){S0 p1 q4 q5:D}{a b c:Option D} :
    ∃ (bs':List Int) (c':Option D),fO none ((List.range n).map fun k:Nat=>D.int k) (gN 6) iy ((List.range n).map fun k:Nat=>D.int k) [some S0,some p1,some (.int way),some (.int n),some q4,some q5,c,a,b,some (.ref lk),some (.ref tk),none] h
      = .nx [some S0,some p1,some (.int way),some (.int n),some q4,some q5,c',a,b,some (.ref lk),some (.ref tk),none] (h.set lk (.lst (bs'.map .int)))∧bs'.length=n ∧ ∀ x∈bs',-20000≤x∧x≤20000:=by
  have hlt:lk < h.length:=(List.getElem?_eq_some_iff.mp hl).1
  obtain⟨σ',h',k1,bs',c',k2,k3,k4,k5⟩:=cD (P:=fun i σ h'=>∃ (bs':List Int) (c':Option D),σ = [some S0,some p1,some (.int way),some (.int n),some q4,some q5,c',a,b,some (.ref lk),some (.ref tk),none]∧h'=h.set lk (.lst (bs'.map .int))∧bs'.length=n ∧ ∀ (j:Nat) x,bs'[j]? = some x→(-20000≤x∧x≤20000)∧(i≤j→0≤x∧x≤12000)) (g:=none) (k:=0)
      (all:=(List.range n).map fun k:Nat=>D.int k) (fun _ _ _ _=>trivial)
      (xs:=(List.range n).map fun k:Nat=>D.int k) (tg:=gN 6) (σ:=[some S0,some p1,some (.int way),some (.int n),some q4,some q5,c,a,b,some (.ref lk),some (.ref tk),none]) (h:=h) (b:=iy) (by
      rintro i x σ h0 hx ⟨b1,c1,rfl,hh0,l1,bd1⟩
      rw [Nat.zero_add] at bd1 ⊢
      obtain⟨hi,rfl⟩:=dQ hx
      have g1:h0[lk]? = some (.lst (b1.map .int)):=by rw [hh0,List.getElem?_set_self hlt]
      have g2:h0[tk]? = some (.lst (stp.map .int)):=by rw [hh0,List.getElem?_set_ne ne];exact ht
      have hi1:i < b1.length:=l1 ▸ hi
      have a1:atI (b1.map D.int) (i:Int)=some (.int b1[i]):=jV hi1
      have a2:atI (stp.map D.int) (i:Int)=some (.int stp[i]):=jV (sl ▸ hi)
      have bx1:=(bd1 i b1[i] (by simp [hi1])).2 (Nat.le_refl _)
      have bx2:=sb stp[i] (List.getElem_mem _)
      generalize b1[i] = x1 at a1 bx1
      generalize stp[i] = x2 at a2 bx2
      have e2:=OW (way / 256)
      have ix:ixN (b1.map D.int).length (i:Int)=some i:=yk (by rw [List.length_map];exact hi1)
      obtain⟨y,hy,s1⟩ : ∃ y:Int,(-20000≤y∧y≤20000)∧iy [some S0,some p1,some (.int way),some (.int n),some q4,some q5,some (.int i),a,b,some (.ref lk),some (.ref tk),none] h0=.nx [some S0,some p1,some (.int way),some (.int n),some q4,some q5,some (.int i),a,b,some (.ref lk),some (.ref tk),none] (h0.set lk (.lst ((b1.map .int).set i (.int y)))):=by
        rcases e2 with e|e
        · exact⟨x2 - 1000,lv1 bx2,(yj (EY (ag (am (aZ rfl rfl (aQ g2) a2) rfl rfl) (ag (am (am (aZ rfl rfl (aQ g1) a1) (am (aZ rfl rfl (aQ g2) a2) rfl (du (by decide))) rfl) rfl rfl) rfl)) (am (am rfl rfl (ir (by decide) (by decide))) rfl (du (by decide))) (by rw [e];rfl)) rfl rfl g1 ix)⟩
        · exact⟨x1 + x2 % 7 - 3,lv2 bx1,(yj (EY (ag (am (aZ rfl rfl (aQ g2) a2) rfl rfl) (ag (am (am (aZ rfl rfl (aQ g1) a1) (am (aZ rfl rfl (aQ g2) a2) rfl (du (by decide))) rfl) rfl rfl) rfl)) (am (am rfl rfl (ir (by decide) (by decide))) rfl (du (by decide))) (by rw [e];rfl)) rfl rfl g1 ix)⟩
      refine⟨_,rfl,_,_,s1,b1.set i y,some (.int i),rfl,?_,by simp [l1],fun j z hz => ?_⟩
      · rw [hh0,List.set_set,List.map_set]
      · by_cases e:i=j
        · subst e
          rw [List.getElem?_set_self hi1] at hz
          cases hz
          exact⟨hy,fun q=>absurd q (Nat.not_succ_le_self _)⟩
        · rw [List.getElem?_set_ne e] at hz
          have q:=bd1 j z hz
          exact⟨q.1,fun le=>q.2 (Nat.le_of_succ_le le)⟩) ⟨bs,c,rfl,by
        apply List.ext_getElem?
        intro j
        by_cases e:lk=j
        · subst e;rw [List.getElem?_set_self hlt];exact hl
        · rw [List.getElem?_set_ne e],lb,fun j z hz=>by
          have q:=bb z (List.mem_of_getElem? hz)
          exact⟨lv3 q,fun _=>q⟩⟩
  exact⟨bs',c',by rw [k1,k2,k3],k4,fun z hz=>by
    obtain⟨j,hj⟩:=List.getElem?_of_mem hz
    exact (k5 j z hj).1⟩
theorem Fd (v:D):∀ n,(List.replicate n [v]).flatten=List.replicate n v
  | 0=>rfl
  | n + 1=>by rw [List.replicate_succ,List.replicate_succ,List.flatten_cons,Fd v n];rfl
theorem Gi {l:List Int}(hb:∀ x∈l,0≤x∧x < 7){h:Hd}{k:Nat}(hk:h[k]? = some (.lst (l.map .int)))(a:Option D):∃ ss:List (Option Int),cX (some k) (l.map .int) (gN 0) [] (fIx (ad (fC (.int 0)) (ad (fC (.int 1)) (ad (fC .non) (ad (fC .non) (ad (fC .non) (ad (fC .non) (ad (fC .non) ak))))))) (aa 0)) (l.map .int) [a] h=.ok (ss.map bS) h∧ss.length=l.length ∧ ∀ x∈ss,x=none∨x=some 0∨x=some 1:=by
  have:=cw (g:=some k) (all:=l.map .int) (tg:=gN 0) (cs:=[]) (e:=fIx (ad (fC (.int 0)) (ad (fC (.int 1)) (ad (fC .non) (ad (fC .non) (ad (fC .non) (ad (fC .non) (ad (fC .non) ak))))))) (aa 0)) (h:=h) (I:=fun σ=>∃ a,σ = [a]) (fun _=>true) (fun d=>match d with | .int x=>bS (if x=0 then some 0 else if x=1 then some 1 else none)|_=>.non) hk
    (xs:=l.map .int) (σ:=[a]) (by
      rintro x hx σ ⟨c,rfl⟩
      obtain⟨u,hu,rfl⟩:=List.mem_map.mp hx
      have b:=hb u hu
      refine⟨_,rfl,⟨_,rfl⟩,rfl,fun _ => ?_⟩
      obtain⟨u,rfl⟩:=Int.eq_ofNat_of_zero_le b.1
      match u,Int.ofNat_lt.mp b.2 with
      | 0,_|1,_|2,_|3,_|4,_|5,_|6,_=>rfl
      | k + 7,z=>exact absurd z (Nat.not_lt.mpr (Nat.le_add_left 7 k))) ⟨_,rfl⟩
  refine⟨l.map fun x=>if x=0 then some 0 else if x=1 then some 1 else none,?_,by simp,fun x hx => ?_⟩
  · rw [this,List.filter_eq_self.mpr (by simp),List.map_map,List.map_map];rfl
  · obtain⟨u,_,rfl⟩:=List.mem_map.mp hx
    split
    · exact .inr (.inl rfl)
    · split
      · exact .inr (.inr rfl)
      · exact .inl rfl
theorem Qv {x0 x1 x2:Option D}{r:Sd}{N:Int}(e:(sml N || sml N)=true)(h:Hd):aj cz (aa 3) (aa 3) (x0 :: x1 :: x2 :: some (.int N) :: r) h=.ok (.int (N * N)) h:=by
  rw [show aj cz (aa 3) (aa 3) (x0 :: x1 :: x2 :: some (.int N) :: r) h=cz (.int N) (.int N) h from rfl]
  exact Gh e h
theorem OX {S0:D}{x1 x3 x4:D}{way c1 q:Int}{k:Nat}{E:EF}{h3 h4:Hd}(hc1:bw [S0,.int 1] h3=.ok (.int c1) h3)(pr:E [some S0,some x1,some (.int way),some x3,some x4,none,none,none,none,none,none,none] h3=.ok (.int q) h3)(q4:dm [.int c1,.int way,.int q,.int 803] h3=.ok (.ref k) h4) :
    aE (gN 5) (au dm (ad (au bw (ad (aa 0) (ad (fC (.int 1)) ak))) (ad (aa 2) (ad E (ad (fC (.int 803)) ak))))) [some S0,some x1,some (.int way),some x3,some x4,none,none,none,none,none,none,none] h3=.nx [some S0,some x1,some (.int way),some x3,some x4,some (.ref k),none,none,none,none,none,none] h4:=by
  exact aD (aw (ag (aw (bI rfl rfl) hc1) (ag rfl (ag pr (ag rfl rfl)))) q4)
theorem Nk {n:Nat}(hn:n≤30){v:D}{σ:Sd}{h:Hd}{b:EF}(hb:b σ h=.ok (.int n) h):aM (sD (ad (fC v) ak) b) σ h=.ok (.ref h.length) (h++[.lst (List.replicate n v)]) :=
  gB (by rw [OP (l:=[v]) rfl hb ⟨Int.natCast_nonneg n,Int.le_trans (Int.ofNat_le.mpr hn) (by decide),by rw [Int.toNat_natCast];exact Nat.le_trans (Nat.le_of_eq (Nat.one_mul n)) (i3 hn)⟩,Int.toNat_natCast,Fd]) (by rw [List.length_replicate];exact i3 hn)
theorem OY (way:Int):∃ n:Nat,(n:Int)=1 + way / 2 % 7∧1≤n∧n≤30∧n≤7:=by
  have h0:=Int.emod_nonneg (way / 2) (show (7:Int)≠0 by decide)
  have h1:=Int.emod_lt_of_pos (way / 2) (show (0:Int) < 7 by decide)
  generalize way / 2 % 7=x at h0 h1
  obtain⟨k,rfl⟩:=Int.eq_ofNat_of_zero_le h0
  have h2:k < 7:=Int.ofNat_lt.mp h1
  exact⟨1 + k,rfl,Nat.le_add_right 1 k,by omega,by omega⟩
theorem Nl:∀ l:List Int,(∀ y∈l,0≤y∧y≤400)→0≤l.sum∧l.sum≤400 * l.length
  | [],_=>⟨Int.le_refl _,Int.le_refl _⟩
  | y :: l,h=>by
    have a:=h y List.mem_cons_self
    have b:=Nl l fun z hz=>h z (List.mem_cons_of_mem _ hz)
    rw [List.sum_cons,List.length_cons]
    omega
theorem Rj {n:Nat}{x:Int}(hn:n≤30)(h:0≤x∧x≤400 * n):0≤x∧x≤12000:=⟨h.1,Int.le_trans h.2 (Int.mul_le_mul_of_nonneg_left (Int.ofNat_le.mpr hn) (by decide))⟩
noncomputable abbrev XM (S0:D) (way:Int) (n:Nat) (a5 a6 a7 a8 a9 a10 a11:Option D):Sd:=[some S0,some (.int 7),some (.int way),some (.int n),some (.ref (0 + n)),a5,a6,a7,a8,a9,a10,a11]
theorem JO (ns:List Int):∃ n M bs ss bk sk h,Mdl ns n M bs ss bk sk h:=by
  obtain⟨way,hway⟩:=A6 ns 0 (by decide)
  obtain⟨c1,hc1⟩:=A6 ns 1 (by decide)
  obtain⟨c2,hc2⟩:=A6 ns 2 (by decide)
  obtain⟨c3,hc3⟩:=A6 ns 3 (by decide)
  obtain⟨S0,hS0⟩ : ∃ S0:D,S0=.lit (ns.map .int):=⟨_,rfl⟩
  have hway:∀ h,bw [S0,.int 0] h=.ok (.int way) h:=by rw [hS0];exact hway
  have hc1:∀ h,bw [S0,.int 1] h=.ok (.int c1) h:=by rw [hS0];exact hc1
  have hc2:∀ h,bw [S0,.int 2] h=.ok (.int c2) h:=by rw [hS0];exact hc2
  have hc3:∀ h,bw [S0,.int 3] h=.ok (.int c3) h:=by rw [hS0];exact hc3
  obtain⟨n,hn,n1,n30,n7⟩:=OY way
  have e0:aE (gN 2) (au bw (ad (aa 0) (ad (fC (.int 0)) ak))) [some S0,some (.int 7),none,none,none,none,none,none,none,none,none,none] []=.nx [some S0,some (.int 7),some (.int way),none,none,none,none,none,none,none,none,none] []:=aD (aw (bI rfl rfl) (hway _))
  have e1:aE (gN 3) (aj dM (fC (.int 1)) (aj cI (aj gQ (aa 2) (fC (.int 2))) (aa 1))) [some S0,some (.int 7),some (.int way),none,none,none,none,none,none,none,none,none] []=.nx [some S0,some (.int 7),some (.int way),some (.int n),none,none,none,none,none,none,none,none] []:=by rw [hn];exact aD (am rfl (am (am rfl rfl (ir (by decide) (by decide))) rfl (du (by decide))) rfl)
  obtain⟨ds,h2,k2,l2,v2,σ2,q2,hh2,g2⟩:=mZ (g:=none) (all:=(List.range n).map fun k:Nat=>D.int k) (tg:=gN 0) (xs:=(List.range n).map fun k:Nat=>D.int k) (k:=0)
    (e:=aM (sD (ad (fC (.int 0)) ak) (aa 1))) (σ:=[none,some (.int n)]) (h:=[])
    (P:=fun i σ h=>(∃ a,σ = [a,some (.int n)])∧h.length=i ∧ ∀ j,j < i→h[j]? = some (.lst ((List.replicate n 0).map .int))) (V:=fun i d=>d=.ref i) (fun _ _ _ _=>trivial) (by
      rintro i x σ h0 hx ⟨⟨a,rfl⟩,hl,e1⟩
      obtain⟨hi,rfl⟩:=dQ hx
      rw [Nat.zero_add] at hl e1 ⊢
      refine⟨_,rfl,.ref h0.length,h0++[.lst ((List.replicate n 0).map .int)],?_,by rw [hl],⟨_,rfl⟩,by simp [hl],fun j hj => ?_⟩
      · rw [List.map_replicate];exact Nk n30 rfl
      · by_cases hji:j < i
        · exact cx _ (e1 j hji)
        · have:j=i:=Nat.le_antisymm (Nat.le_of_lt_succ hj) (Nat.not_lt.mp hji)
          subst this
          rw [← hl];exact List.getElem?_concat_length) ⟨⟨_,rfl⟩,rfl,fun j hj=>absurd hj (Nat.not_lt_zero _)⟩
  simp at l2 hh2 g2
  have e2':ds=(List.range n).map fun i=>.ref (0 + i):=sJ l2 fun i d hd=>by simpa using v2 i d hd
  subst e2'
  obtain⟨h3,hh3⟩ : ∃ h3,h3=h2++[dk.lst ((List.range n).map fun i=>.ref (0 + i))]:=⟨_,rfl⟩
  have l3:h3.length=n + 1:=by rw [hh3];simp [hh2]
  have e2:aE (gN 4) (aM (bJ 1 [3] (bL (aa 3)) (gN 0) [] (aM (sD (ad (fC (.int 0)) ak) (aa 1))))) [some S0,some (.int 7),some (.int way),some (.int n),none,none,none,none,none,none,none,none] []=.nx (XM S0 way n none none none none none none none) h3:=by
    rw [hh3]
    show _=Out.nx [some S0,some (.int 7),some (.int way),some (.int n),some (.ref (0 + n)),none,none,none,none,none,none,none] _
    rw [show D.ref (0 + n)=.ref h2.length by rw [hh2,Nat.zero_add]]
    exact aD (gB (cF (c9 rfl (i3 n30)) k2) (by rw [List.length_map,List.length_range];exact (i3 n30)))
  have m3:iz 0 n (fun _ _=>0) h3:=by
    refine⟨fun i hi => ?_,?_⟩
    · rw [hh3,Nat.zero_add,cx _ (g2 i hi)]
      congr 2
      simp only [gu,List.map_map]
      apply List.ext_getElem?
      intro j
      by_cases hj:j < n<;>simp [hj]
    · rw [hh3,Nat.zero_add,← hh2];exact List.getElem?_concat_length
  have O3:MOk (fun _ _=>0):=⟨fun _ _=>rfl,fun _ _=>⟨Int.le_refl _,by decide⟩,fun _=>rfl⟩
  obtain⟨td,q4,tl,tb⟩:=OV c1 way 803 (n * n) (Nat.le_trans (Nat.mul_le_mul n30 n30) (by decide)) (by decide) (by decide) h3
  obtain⟨h4,hh4⟩ : ∃ h4,h4=h3++[dk.lst (td.map .int)]:=⟨_,rfl⟩
  rw [← hh4,l3] at q4
  have sn:sml (n:Int)=true:=rl (Int.natCast_nonneg n) (Int.lt_of_le_of_lt (Int.ofNat_le.mpr n30) (by decide))
  have e3:aE (gN 5) (au dm (ad (au bw (ad (aa 0) (ad (fC (.int 1)) ak))) (ad (aa 2) (ad (aj cz (aa 3) (aa 3)) (ad (fC (.int 803)) ak))))) (XM S0 way n none none none none none none none) h3=.nx (XM S0 way n (some (.ref (n + 1))) none none none none none none) h4:=by
    have q4':dm [.int c1,.int way,.int ((n:Int) * n),.int 803] h3=.ok (.ref (n + 1)) h4:=by rw [← Int.natCast_mul];exact q4
    exact OX (E:=aj cz (aa 3) (aa 3)) (hc1 h3) (Qv (by rw [sn,Bool.or_self]) h3) q4'
  have m4:iz 0 n (fun _ _=>0) h4:=by rw [hh4];exact m3.more _
  have t4:h4[n + 1]? = some (.lst (td.map .int)):=by rw [hh4,← l3];exact List.getElem?_concat_length
  obtain⟨M,h5,x6,x7,x8,q5,O5,m5,l5⟩:=L5 (A:=0) (tk:=n + 1) (way:=way) n30 tl tb (by omega) O3 m4 t4 (S0:=S0) (p1:=.int 7) (L:=n + 2) (by rw [hh4];simp [l3])
  have e4:fm (bL (aa 3)) (gN 6) jX (XM S0 way n (some (.ref (n + 1))) none none none none none none) h4=.nx (XM S0 way n (some (.ref (n + 1))) x6 x7 x8 none none none) h5:=eV (c9 rfl (i3 n30)) q5
  have cs:cX (some (0 + n)) ((List.range n).map fun i=>.ref (0 + i)) (gN 0) [] (r6 (lOf (aa 0))) ((List.range n).map fun i=>.ref (0 + i)) [none] h5=.ok (((List.range n).map fun i=>(gu M n i).sum).map D.int) h5:=by
    have:=cw (g:=some (0 + n)) (all:=(List.range n).map fun i=>.ref (0 + i)) (tg:=gN 0) (cs:=[]) (e:=r6 (lOf (aa 0))) (h:=h5) (I:=fun σ=>∃ a,σ = [a]) (fun _=>true) (fun d=>match d with | .ref k=>.int (gu M n k).sum|_=>.non) m5.ti (xs:=(List.range n).map fun i=>.ref (0 + i)) (σ:=[none]) (by
      rintro x hx σ ⟨a,rfl⟩
      obtain⟨i,hi,rfl⟩:=List.mem_map.mp hx
      have hi:=List.mem_range.mp hi
      have r:=m5.ro i hi
      simp only [Nat.zero_add] at r ⊢
      refine⟨_,rfl,⟨_,rfl⟩,rfl,fun _ => ?_⟩
      exact CF (cM rfl (aQ r)) (oT _)) ⟨_,rfl⟩
    rw [this,List.filter_eq_self.mpr (by simp),List.map_map,List.map_map]
    refine congrArg (fun l=>Res.ok l h5) ?_
    apply List.map_congr_left
    intro i _
    simp
  obtain⟨bs0,hbs0⟩ : ∃ bs0,bs0=(List.range n).map fun i=>(gu M n i).sum:=⟨_,rfl⟩
  rw [← hbs0] at cs
  have lb0:bs0.length=n:=by rw [hbs0];simp
  have bb0:∀ x∈bs0,0≤x∧x≤12000:=fun x hx=>by
    rw [hbs0] at hx
    obtain⟨i,_,rfl⟩:=List.mem_map.mp hx
    have:=Nl (gu M n i) fun y hy=>by
      obtain⟨j,_,rfl⟩:=List.mem_map.mp hy
      exact O5.bd i j
    have ll:(gu M n i).length=n:=by simp [gu]
    rw [ll] at this
    exact Rj n30 this
  obtain⟨h6,hh6⟩ : ∃ h6,h6=h5++[dk.lst (bs0.map .int)]:=⟨_,rfl⟩
  have l6:h6.length=n + 3:=by rw [hh6];simp [l5]
  have e5:aE (gN 9) (aM (bJ 1 [] (ek (aa 4)) (gN 0) [] (r6 (lOf (aa 0))))) (XM S0 way n (some (.ref (n + 1))) x6 x7 x8 none none none) h5=.nx (XM S0 way n (some (.ref (n + 1))) x6 x7 x8 (some (.ref (n + 2))) none none) h6:=by
    rw [hh6,← l5]
    exact aD (gB (cF (dG rfl m5.ti) cs) (by rw [List.length_map,lb0];exact (i3 n30)))
  have m6:iz 0 n M h6:=by rw [hh6];exact m5.more _
  have b6:h6[n + 2]? = some (.lst (bs0.map .int)):=by rw [hh6,← l5];exact List.getElem?_concat_length
  have e6:∃ (bs:List Int) (x6' x10:Option D) (h7:Hd),sIf (tE (aj oEq (aj cI (aj gQ (aa 2) (fC (.int 128))) (fC (.int 2))) (fC (.int 1)))) (aC (aE (gN 10) (au dm (ad (au bw (ad (aa 0) (ad (fC (.int 2)) ak))) (ad (aa 2) (ad (aa 3) (ad (fC (.int 2001)) ak))))))
    (fm (bL (aa 3)) (gN 6) iy)) bB (XM S0 way n (some (.ref (n + 1))) x6 x7 x8 (some (.ref (n + 2))) none none) h6=.nx (XM S0 way n (some (.ref (n + 1))) x6' x7 x8 (some (.ref (n + 2))) x10 none) h7∧iz 0 n M h7∧h7[n + 2]? = some (.lst (bs.map .int))∧bs.length=n∧n + 3≤h7.length ∧ ∀ x∈bs,-20000≤x∧x≤20000:=by
    have bt:=A7 (way:=way) (d:=128) (σ:=(XM S0 way n (some (.ref (n + 1))) x6 x7 x8 (some (.ref (n + 2))) none none)) (h:=h6) (i:=2) rfl (by decide) (by decide)
    by_cases e:way / 128 % 2=1
    · rw [decide_eq_true e] at bt
      obtain⟨stp,q7,sl,sb⟩:=OV c2 way 2001 n (i3 n30) (by decide) (by decide) h6
      rw [l6] at q7
      have t1:aE (gN 10) (au dm (ad (au bw (ad (aa 0) (ad (fC (.int 2)) ak))) (ad (aa 2) (ad (aa 3) (ad (fC (.int 2001)) ak))))) (XM S0 way n (some (.ref (n + 1))) x6 x7 x8 (some (.ref (n + 2))) none none) h6=.nx (XM S0 way n (some (.ref (n + 1))) x6 x7 x8 (some (.ref (n + 2))) (some (.ref (n + 3))) none) (h6++[.lst (stp.map .int)]):=by
        exact aD (aw (ag (aw (bI rfl rfl) (hc2 _)) (ag rfl (bI rfl rfl))) q7)
      obtain⟨bs',c',q8,lb',bb'⟩:=JN (A:=0) (lk:=n + 2) (tk:=n + 3) (way:=way) n30 sl (Nat.ne_of_lt (Nat.lt_succ_self _)) (h:=h6++[.lst (stp.map .int)]) lb0 sb bb0 (cx _ b6) (by rw [← l6];exact List.getElem?_concat_length) (S0:=S0) (p1:=.int 7) (q4:=.ref (0 + n)) (q5:=.ref (n + 1)) (a:=x7) (b:=x8) (c:=x6)
      refine⟨bs',c',some (.ref (n + 3)),_,?_,(m6.more [.lst (stp.map .int)]).set (k:=n + 2) (by omega) (.lst (bs'.map .int)),?_,lb',by simp [l6],bb'⟩
      · exact (kF bt).trans ((aG t1).trans (eV (c9 rfl (i3 n30)) q8))
      · rw [List.getElem?_set_self (by simp [l6])]
    · rw [decide_eq_false e] at bt
      exact⟨bs0,x6,none,h6,by rw [LZ bt];rfl,m6,b6,lb0,Nat.le_of_eq l6.symm,fun x hx=>lv3 (bb0 x hx)⟩
  obtain⟨bs,x6',x10,h7,e6,m7,b7,lb7,l7,bb7⟩:=e6
  obtain⟨h8,hh8⟩ : ∃ h8,h8=h7++[dk.lst ((List.replicate n (none:Option Int)).map bS)]:=⟨_,rfl⟩
  have e7:aE (gN 11) (aM (sD (ad (fC .non) ak) (aa 3))) (XM S0 way n (some (.ref (n + 1))) x6' x7 x8 (some (.ref (n + 2))) x10 none) h7=.nx (XM S0 way n (some (.ref (n + 1))) x6' x7 x8 (some (.ref (n + 2))) x10 (some (.ref h7.length))) h8:=by
    rw [hh8,List.map_replicate]
    exact aD (Nk n30 rfl)
  have m8:iz 0 n M h8:=by rw [hh8];exact m7.more _
  have b8:h8[n + 2]? = some (.lst (bs.map .int)):=by rw [hh8];exact cx _ b7
  have s8:h8[h7.length]? = some (.lst ((List.replicate n (none:Option Int)).map bS)):=by rw [hh8];simp
  have e8:∃ (ss:List (Option Int)) (x5:D) (sk:Nat) (h9:Hd),sIf (tE (aj oEq (aj cI (aj gQ (aa 2) (fC (.int 512))) (fC (.int 2))) (fC (.int 1)))) (aC (aE (gN 5) (au dm (ad (au bw (ad (aa 0) (ad (fC (.int 3)) ak))) (ad (aa 2) (ad (aa 3) (ad (fC (.int 7)) ak))))))
    (aE (gN 11) (aM (bJ 1 [] (ek (aa 5)) (gN 0) [] (fIx (ad (fC (.int 0)) (ad (fC (.int 1)) (ad (fC .non) (ad (fC .non) (ad (fC .non) (ad (fC .non) (ad (fC .non) ak))))))) (aa 0)))))) bB (XM S0 way n (some (.ref (n + 1))) x6' x7 x8 (some (.ref (n + 2))) x10 (some (.ref h7.length))) h8=.nx (XM S0 way n (some x5) x6' x7 x8 (some (.ref (n + 2))) x10 (some (.ref sk))) h9∧iz 0 n M h9∧h9[n + 2]? = some (.lst (bs.map .int))∧h9[sk]? = some (.lst (ss.map bS))∧ss.length=n ∧ ∀ x∈ss,x=none∨x=some 0∨x=some 1:=by
    have bt:=A7 (way:=way) (d:=512) (σ:=(XM S0 way n (some (.ref (n + 1))) x6' x7 x8 (some (.ref (n + 2))) x10 (some (.ref h7.length)))) (h:=h8) (i:=2) rfl (by decide) (by decide)
    by_cases e:way / 512 % 2=1
    · rw [decide_eq_true e] at bt
      obtain⟨tl3,q9,sl,sb⟩:=OV c3 way 7 n (i3 n30) (by decide) (by decide) h8
      obtain⟨hA,hhA⟩ : ∃ hA,hA=h8++[dk.lst (tl3.map .int)]:=⟨_,rfl⟩
      rw [← hhA] at q9
      have g9:hA[h8.length]? = some (.lst (tl3.map .int)):=by rw [hhA];simp
      obtain⟨ss,cq,lss,oss⟩:=Gi sb g9 none
      have t1:aE (gN 5) (au dm (ad (au bw (ad (aa 0) (ad (fC (.int 3)) ak))) (ad (aa 2) (ad (aa 3) (ad (fC (.int 7)) ak))))) (XM S0 way n (some (.ref (n + 1))) x6' x7 x8 (some (.ref (n + 2))) x10 (some (.ref h7.length))) h8=.nx (XM S0 way n (some (.ref h8.length)) x6' x7 x8 (some (.ref (n + 2))) x10 (some (.ref h7.length))) hA:=by
        exact aD (aw (ag (aw (bI rfl rfl) (hc3 _)) (ag rfl (bI rfl rfl))) q9)
      have t2:aE (gN 11) (aM (bJ 1 [] (ek (aa 5)) (gN 0) [] (fIx (ad (fC (.int 0)) (ad (fC (.int 1)) (ad (fC .non) (ad (fC .non) (ad (fC .non) (ad (fC .non) (ad (fC .non) ak))))))) (aa 0)))) (XM S0 way n (some (.ref h8.length)) x6' x7 x8 (some (.ref (n + 2))) x10 (some (.ref h7.length))) hA=.nx (XM S0 way n (some (.ref h8.length)) x6' x7 x8 (some (.ref (n + 2))) x10 (some (.ref hA.length))) (hA++[.lst (ss.map bS)]):=by
        exact aD (gB (cF (dG rfl g9) cq) (by rw [List.length_map,lss,sl];exact (i3 n30)))
      refine⟨ss,.ref h8.length,hA.length,hA++[.lst (ss.map bS)],?_,by rw [hhA];exact (m8.more _).more _,?_,by simp,lss.trans sl,oss⟩
      · exact (kF bt).trans ((aG t1).trans t2)
      · exact cx _ (by rw [hhA];exact cx _ b8)
    · rw [decide_eq_false e] at bt
      exact⟨List.replicate n none,.ref (n + 1),h7.length,h8,by rw [LZ bt];rfl,m8,b8,s8,by simp,fun x hx=>.inl (List.eq_of_mem_replicate hx)⟩
  obtain⟨ss,x5,sk,h9,e8,m9,b9,s9,ls9,os9⟩:=e8
  have e9:bo (cS (ad (aa 4) (ad (aa 9) (ad (aa 11) ak)))) (XM S0 way n (some x5) x6' x7 x8 (some (.ref (n + 2))) x10 (some (.ref sk))) h9=.rt (.tup [.ref (0 + n),.ref (n + 2),.ref sk]) h9:=bp (eU (ag rfl (bI rfl rfl)))
  refine⟨n,M,bs,ss,n + 2,sk,h9,?_,n1,n30,n7,m9,O5,b9,s9,lb7,ls9,os9,bb7⟩
  have st:([S0,D.int 7].map some++List.replicate (12 - [S0,D.int 7].length) none:Sd)=[some S0,some (.int 7),none,none,none,none,none,none,none,none,none,none]:=rfl
  rw [← hS0]
  unfold hU bP runB
  rw [if_pos (by rfl),st,aG e0,aG e1,aG e2,aG e3,aG e4,aG e5,aG e6,aG e7,aG e8,e9]
  exact w4 rfl
end Fm
set_option linter.all false
namespace Fm
def lY (one other i j:Nat):Prop:=(i < one∧j < one)∨(i=one∧j < other)∨(j=one∧i < other)
instance (one other i j:Nat):Decidable (lY one other i j):=by unfold lY;infer_instance
def gM (M:Nat→Nat→Int) (s:List Int) (one other i j:Nat):Int:=if lY one other i j∧s.getD j 0=1 then M i j else 0
structure LP (n:Nat) (M:Nat→Nat→Int) (one other:Nat) (T:List Tie):Prop where
  ok:TOk n one other T
  pl:∀ i,i < n → ∀ s,bW (nbs T i) s=kG (gM M s one other i) n
theorem pa1 (a b c:Int):a + (b + c)=a + b + c:=(Int.add_assoc a b c).symm
theorem CS (r r':List (Nat × Int))(s:List Int):bW (r++r') s=bW r s + bW r' s:=by
  induction r with
  | nil=>simp [bW,gY]
  | cons p r ih=>rw [List.cons_append,fx,fx,ih];exact pa1 _ _ _
theorem sr1 (S x y:Int):S + 0 + x=S + y + (x - y):=by omega
theorem yr {f g:Nat→Int}{p:Nat}(h:∀ j,j≠p→f j=g j):∀ n,kG f n=kG g n + if p < n then f p - g p else 0
  | 0=>by simp [kG]
  | n + 1=>by
    rw [kG,kG,yr h n]
    by_cases e:n=p
    · subst e
      rw [if_neg (Nat.lt_irrefl _),if_pos (Nat.lt_succ_self _)];exact sr1 _ _ _
    · rw [h n e]
      by_cases l:p < n
      · rw [if_pos l,if_pos (Nat.lt_succ_of_lt l)];exact Int.add_right_comm _ _ _
      · rw [if_neg l,if_neg fun z=>(Nat.lt_succ_iff_lt_or_eq.mp z).elim l fun z=>e z.symm,Int.add_zero,Int.add_zero]
theorem jY {f g:Nat→Int}:∀ n,(∀ j,j < n→f j=g j)→kG f n=kG g n
  | 0,_=>rfl
  | n + 1,h=>by rw [kG,kG,jY n fun j hj=>h j (by omega),h n (by omega)]
theorem Gj {one other i j:Nat}:lY one (other + 1) i j ↔ lY one other i j∨(i=one∧j=other)∨(j=one∧i=other):=by
  constructor
  · rintro (h|⟨a,b⟩|⟨a,b⟩)
    · exact .inl (.inl h)
    · exact (Nat.lt_succ_iff_lt_or_eq.mp b).elim (fun b=>.inl (.inr (.inl ⟨a,b⟩))) fun b=>.inr (.inl ⟨a,b⟩)
    · exact (Nat.lt_succ_iff_lt_or_eq.mp b).elim (fun b=>.inl (.inr (.inr ⟨a,b⟩))) fun b=>.inr (.inr ⟨a,b⟩)
  · rintro ((h|⟨a,b⟩|⟨a,b⟩)|⟨a,b⟩|⟨a,b⟩)
    · exact .inl h
    · exact .inr (.inl ⟨a,Nat.lt_succ_of_lt b⟩)
    · exact .inr (.inr ⟨a,Nat.lt_succ_of_lt b⟩)
    · exact .inr (.inl ⟨a,b ▸ Nat.lt_succ_self _⟩)
    · exact .inr (.inr ⟨a,b ▸ Nat.lt_succ_self _⟩)
theorem o3 {one other i j:Nat}(h1 : ¬ (i=one∧j=other))(h2 : ¬ (j=one∧i=other)):lY one (other + 1) i j ↔ lY one other i j :=
  Gj.trans ⟨fun z=>z.elim id fun z=>z.elim (fun z=>absurd z h1) fun z=>absurd z h2,.inl⟩
theorem Fe {one other:Nat}(ho:other < one) : ¬ lY one other one other ∧ ¬ lY one other other one:=by
  refine⟨?_,?_⟩
  · rintro (h|h|h)
    · exact Nat.lt_irrefl _ h.1
    · exact Nat.lt_irrefl _ h.2
    · exact Nat.lt_irrefl _ (h.1 ▸ ho)
  · rintro (h|h|h)
    · exact Nat.lt_irrefl _ h.2
    · exact Nat.lt_irrefl _ (h.1 ▸ ho)
    · exact Nat.lt_irrefl _ h.2
theorem Gk {one i j:Nat}(e : ¬ (i=one∧j=one)):lY one one i j ↔ lY (one + 1) 0 i j:=by
  constructor
  · rintro (h|h|h)
    · exact .inl ⟨Nat.lt_succ_of_lt h.1,Nat.lt_succ_of_lt h.2⟩
    · exact .inl ⟨h.1 ▸ Nat.lt_succ_self _,Nat.lt_succ_of_lt h.2⟩
    · exact .inl ⟨Nat.lt_succ_of_lt h.2,h.1 ▸ Nat.lt_succ_self _⟩
  · rintro (⟨a,b⟩|h|h)
    · rcases Nat.lt_succ_iff_lt_or_eq.mp a with a|a<;>rcases Nat.lt_succ_iff_lt_or_eq.mp b with b|b
      · exact .inl ⟨a,b⟩
      · exact .inr (.inr ⟨b,a⟩)
      · exact .inr (.inl ⟨a,b⟩)
      · exact absurd ⟨a,b⟩ e
    · exact absurd h.2 (Nat.not_lt_zero _)
    · exact absurd h.2 (Nat.not_lt_zero _)
theorem xh {n:Nat}{M:Nat→Nat→Int}(O:MOk M){one other:Nat}(ho:other < one)(hn:one < n)(i:Nat)(s:List Int) :
    kG (gM M s one (other + 1) i) n=kG (gM M s one other i) n + (if i=one then (if s.getD other 0=1 then M one other else 0) else if i=other then (if s.getD one 0=1 then M one other else 0) else 0):=by
  by_cases e1:i=one
  · subst e1
    rw [if_pos rfl,yr (p:=other) (g:=gM M s i other i) (fun j hj => ?_),if_pos (Nat.lt_trans ho hn)]
    · have p1:lY i (other + 1) i other:=.inr (.inl ⟨rfl,Nat.lt_succ_self _⟩)
      have p2:=(Fe ho).1
      simp only [gM,p1,p2,true_and,false_and,if_false,Int.sub_zero]
    · have:=o3 (one:=i) (i:=i) (fun z=>hj z.2) fun z=>Nat.ne_of_gt ho z.2
      simp only [gM,this]
  · rw [if_neg e1]
    by_cases e2:i=other
    · subst e2
      rw [if_pos rfl,yr (p:=one) (g:=gM M s one i i) (fun j hj => ?_),if_pos hn]
      · have p1:lY one (i + 1) i one:=.inr (.inr ⟨rfl,Nat.lt_succ_self _⟩)
        have p2:=(Fe ho).2
        simp only [gM,p1,p2,true_and,false_and,if_false,O.sym i one,Int.sub_zero]
      · have:=o3 (i:=i) (other:=i) (fun z=>e1 z.1) fun z=>hj z.1
        simp only [gM,this]
    · rw [if_neg e2,jY n (g:=gM M s one other i) fun j _ => ?_]
      · exact (Int.add_zero _).symm
      · have:=o3 (i:=i) (j:=j) (fun z=>e1 z.1) fun z=>e2 z.2
        simp only [gM,this]
theorem LP.skip {n:Nat}{M:Nat→Nat→Int}(O:MOk M){one other:Nat}{T:List Tie}(L:LP n M one other T)(ho:other < one)(hn:one < n)(z:M one other=0):LP n M one (other + 1) T :=
  ⟨L.ok.skip,fun i hi s=>by
    rw [L.pl i hi s,xh O ho hn i s,z]
    split<;>(try split)<;>(try split)<;>omega⟩
theorem LP.put {n:Nat}{M:Nat→Nat→Int}(O:MOk M){one other:Nat}{T:List Tie}(L:LP n M one other T)(ho:other < one)(hn:one < n)(z:0 < M one other):LP n M one (other + 1) (T++[⟨other,one,M one other⟩]):=by
  have b:=O.bd one other
  refine⟨?_,fun i hi s => ?_⟩
  · have:=L.ok.put hn ho (w:=M one other) z b.2 (t:=⟨other,one,M one other⟩) (.inr rfl) T.length
    simpa using this
  · rw [AV,CS,L.pl i hi s,xh O ho hn i s]
    congr 1
    by_cases e1:i=one
    · have f:far i ⟨other,one,M one other⟩ = some other:=by
        unfold far;rw [if_neg (fun z:other=i=>Nat.ne_of_lt ho (z.trans e1)),if_pos e1.symm]
      rw [f,if_pos e1]
      simp only
      rw [fx]
      simp [bW,gY]
    · rw [if_neg e1]
      by_cases e2:i=other
      · have f:far i ⟨other,one,M one other⟩ = some one:=by unfold far;rw [if_pos e2.symm]
        rw [f,if_pos e2]
        simp only
        rw [fx]
        simp [bW,gY]
      · have f:far i ⟨other,one,M one other⟩ = none:=by
          unfold far;rw [if_neg (fun z:other=i=>e2 z.symm),if_neg (fun z:one=i=>e1 z.symm)]
        rw [f,if_neg e2]
        simp [bW,gY]
theorem LP.step {n:Nat}{M:Nat→Nat→Int}(O:MOk M){one:Nat}{T:List Tie}(L:LP n M one one T)(h:one < n)(hn:n≤30):LP n M (one + 1) 0 T :=
  ⟨L.ok.step h hn,fun i hi s=>by
    rw [L.pl i hi s]
    refine jY n fun j _ => ?_
    unfold gM
    by_cases e:i=one∧j=one
    · rw [e.1,e.2,O.no one];split<;>split<;>rfl
    · have:=Gk e
      simp only [this]⟩
structure Md (Z n:Nat) (M:Nat→Nat→Int) (bs:List Int) (ss:List (Option Int)) (bk sk:Nat) (h:Hd):Prop where
  n1:1≤n
  n30:n≤30
  mt:iz Z n M h
  mo:MOk M
  ba:h[bk]? = some (.lst (bs.map .int))
  st:h[sk]? = some (.lst (ss.map bS))
  lb:bs.length=n
  ls:ss.length=n
  os:∀ x∈ss,x=none∨x=some 0∨x=some 1
theorem Md.more {Z n:Nat}{M:Nat→Nat→Int}{bs:List Int}{ss:List (Option Int)}{bk sk:Nat}{h:Hd}(m:Md Z n M bs ss bk sk h)(g:Hd):Md Z n M bs ss bk sk (h++g):=by
  have k:∀ {i:Nat} {x:dk},h[i]? = some x→(h++g)[i]? = some x:=fun {i x} e=>by
    rw [List.getElem?_append_left (List.getElem?_eq_some_iff.mp e).1];exact e
  exact⟨m.n1,m.n30,m.mt.more g,m.mo,k m.ba,k m.st,m.lb,m.ls,m.os⟩
theorem JP {Z n:Nat}{M:Nat→Nat→Int}{bs:List Int}{ss:List (Option Int)}{bk sk:Nat}{h:Hd}(m:Md Z n M bs ss bk sk h) :
    ∃ T,fz [.tup [.ref (Z + n),.ref bk,.ref sk]] h=.ok (.ref h.length) (h++[.lst (T.map dh)])∧LP n M n 0 T:=by
  have n30:=m.n30
  obtain⟨td,htd⟩ : ∃ td:D,td=.tup [.ref (Z + n),.ref bk,.ref sk]:=⟨_,rfl⟩
  obtain⟨A,hA⟩ : ∃ A,A=h.length:=⟨_,rfl⟩
  have t0:∀ g,fAt (aa 0) (fC (.int 0)) (some td :: g)=fun h=>.ok (.ref (Z + n)) h:=fun g=>by
    funext h;rw [htd]
    exact aZ rfl rfl rfl rfl
  obtain⟨σ',h',k1,T,a,b,k2,k3,k4⟩:=cD (P:=fun i σ h'=>∃ (T:List Tie) (a b:Option D),σ = [some td,some (.ref A),a,b]∧h'=h++[.lst (T.map dh)]∧LP n M i 0 T) (g:=none) (k:=0)
      (all:=(List.range n).map fun k:Nat=>D.int k) (fun _ _ _ _=>trivial)
      (xs:=(List.range n).map fun k:Nat=>D.int k) (tg:=gN 2) (σ:=[some td,some (.ref A),none,none]) (h:=h++[.lst []]) (b:=nv) (by
      rintro i x σ h0 hx ⟨T,a,b,rfl,hh0,L⟩
      obtain⟨hi,rfl⟩:=dQ hx
      rw [Nat.zero_add] at L ⊢
      obtain⟨σ2,h2,j1,T2,b2,j2,j3,j4⟩:=cD (P:=fun j σ h'=>∃ (T:List Tie) (b:Option D),σ = [some td,some (.ref A),some (.int i),b]∧h'=h++[.lst (T.map dh)]∧LP n M i j T) (g:=none) (k:=0)
          (all:=(List.range i).map fun k:Nat=>D.int k) (fun _ _ _ _=>trivial)
          (xs:=(List.range i).map fun k:Nat=>D.int k) (tg:=gN 3) (σ:=[some td,some (.ref A),some (.int i),b]) (h:=h0) (b:=sT) (by
          rintro j x σ h1 hx ⟨T1,b1,rfl,hh1,L1⟩
          obtain⟨hj,rfl⟩:=dQ hx
          rw [Nat.zero_add] at L1 ⊢
          have m1:Md Z n M bs ss bk sk h1:=by rw [hh1];exact m.more _
          have a1:=Fc (A:=Z) hi
          have r1:=m1.mt.ro i hi
          have v1:=JM (M:=M) (n:=n) (i:=i) (j:=j) (Nat.lt_trans hj hi)
          have ti1:=m1.mt.ti
          have cellE:fAt (fAt (fAt (aa 0) (fC (.int 0))) (aa 2)) (aa 3) [some td,some (.ref A),some (.int i),some (.int j)] h1=.ok (.int (M i j)) h1:=by
            have e0:=congrFun (t0 [some (.ref A),some (.int i),some (.int j)]) h1
            exact aZ (aZ e0 rfl (aQ ti1) a1) rfl (aQ r1) v1
          have gA:h1[A]? = some (.lst (T1.map dh)):=by rw [hh1];exact fG hA _
          have tz:(T1.map dh).length < SZ:=by rw [List.length_map];exact Nat.lt_trans (few L1.ok.len hi n30 hj) (by decide)
          have tt:tE (aj oGt (fAt (fAt (fAt (aa 0) (fC (.int 0))) (aa 2)) (aa 3)) (fC (.int 0))) [some td,some (.ref A),some (.int i),some (.int j)] h1=.ok (decide (0 < M i j)) h1:=by
            exact aJ (am cellE rfl rfl)
          by_cases c:0 < M i j
          · refine⟨_,rfl,[some td,some (.ref A),some (.int i),some (.int j)],h++[.lst ((T1++[(⟨j,i,M i j⟩ : Tie)]).map dh)],?_,T1++[(⟨j,i,M i j⟩ : Tie)],_,rfl,rfl,L1.put m.mo hj hi c⟩
            rw [decide_eq_true c] at tt
            show sIf _ _ _ [some td,some (.ref A),some (.int i),some (.int j)] h1=_
            rw [Qu tt]
            have st:h1.set A (.lst (T1.map dh++[.tup [.int j,.int i,.int (M i j)]]))=h++[.lst ((T1++[(⟨j,i,M i j⟩ : Tie)]).map dh)]:=by rw [hh1,lL hA,List.map_append];rfl
            rw [← st]
            exact ee (nc rfl gA (eU (ag rfl (ag rfl (ag cellE rfl)))) gA tz)
          · have z:M i j=0:=Int.le_antisymm (Int.not_lt.mp c) (m.mo.bd i j).1
            refine⟨_,rfl,[some td,some (.ref A),some (.int i),some (.int j)],h1,?_,T1,_,rfl,hh1,L1.skip m.mo hj hi z⟩
            rw [decide_eq_false c] at tt
            show sIf _ _ _ [some td,some (.ref A),some (.int i),some (.int j)] h1=_
            rw [LZ tt];rfl) ⟨T,b,rfl,hh0,L⟩
      have e0:0 + ((List.range i).map fun k:Nat=>D.int k).length=i:=by simp
      rw [e0] at j4
      refine⟨_,rfl,[some td,some (.ref A),some (.int i),b2],h2,?_,T2,_,_,rfl,j3,j4.step m.mo hi n30⟩
      show fm _ _ _ [some td,some (.ref A),some (.int i),b] h0=_
      exact (eV (c9 rfl (Nat.le_trans (Nat.le_of_lt hi) (i3 n30))) j1).trans (by rw [j2])) ⟨[],none,none,rfl,rfl,⟨⟨by simp,by simp,by simp,by simp,List.Pairwise.nil,by simp⟩,fun i hi s=>by
        have:∀ k,kG (gM M s 0 0 i) k=0:=fun k=>by
          induction k with
          | zero=>rfl
          | succ k ih =>
            rw [kG,ih]
            have : ¬ lY 0 0 i k:=by unfold lY;omega
            simp [gM,this]
        rw [this];rfl⟩⟩
  have e0:0 + ((List.range n).map fun k:Nat=>D.int k).length=n:=by simp
  rw [e0] at k4
  refine⟨T,?_,k4⟩
  have s1:aE (gN 1) (aM ak) [some td,none,none,none] h=.nx [some td,some (.ref A),none,none] (h++[.lst []]):=aD (fk hA rfl (Nat.zero_le _))
  have b1:=(m.more [.lst []]).ba
  have ln:cY (lOf (fAt (aa 0) (fC (.int 1)))) [some td,some (.ref A),none,none] (h++[.lst []])=.ok (.int n) (h++[.lst []]):=by
    rw [htd]
    exact (eg (cM (aZ rfl rfl rfl rfl) (aQ b1))).trans (by rw [List.length_map,m.lb])
  have s2:fm (bL (cY (lOf (fAt (aa 0) (fC (.int 1)))))) (gN 2) nv [some td,some (.ref A),none,none] (h++[.lst []])=.nx [some td,some (.ref A),a,b] (h++[.lst (T.map dh)]):=by
    rw [k2,k3] at k1
    exact eV (c9 ln (i3 n30)) k1
  have s3:bo (aa 1) [some td,some (.ref A),a,b] (h++[.lst (T.map dh)])=.rt (.ref A) (h++[.lst (T.map dh)]):=bp rfl
  have st:([td].map some++List.replicate (4 - [td].length) none:Sd)=[some td,none,none,none]:=rfl
  rw [← htd]
  unfold fz bP runB
  rw [if_pos (by rfl),st,aG s1,aG s2,s3,← hA]
  exact ft
end Fm
set_option linter.all false
namespace Fm
section
variable {Z n:Nat} {M:Nat→Nat→Int} {bs:List Int} {ss:List (Option Int)} {bk sk:Nat} {h:Hd}
noncomputable abbrev XT (td:D) (s:List Int) (Z n bk sk:Nat) (a5 a6 a7 a8:Option D):Sd:=[some td,some (af s),some (.ref (Z + n)),some (.ref bk),some (.ref sk),a5,a6,a7,a8]
theorem JQ {T:List Tie}(L:LP n M n 0 T){s:List Int}(B:sN s){i:Nat}(hi:i < n):kG (fun j=>M i j * s.getD j 0) n=bW (nbs T i) s:=by
  rw [L.pl i hi s]
  refine jY n fun j hj => ?_
  have p:lY n 0 i j:=.inl ⟨hi,hj⟩
  rcases B j with e|e
  · simp only [gM,e];simp
  · simp only [gM,p,e];simp
theorem L6 (m:Md Z n M bs ss bk sk h){T:List Tie}(q:fz [.tup [.ref (Z + n),.ref bk,.ref sk]] h=.ok (.ref h.length) (h++[.lst (T.map dh)]))(L:LP n M n 0 T) :
    ju [.tup [.ref (Z + n),.ref bk,.ref sk]] h=.ok (dy n T bs ss).enc h:=by
  have n30:=m.n30
  obtain⟨td,htd⟩ : ∃ td:D,td=.tup [.ref (Z + n),.ref bk,.ref sk]:=⟨_,rfl⟩
  have f1:∀ g,fAt (aa 0) (fC (.int 1)) [some td] g=.ok (.ref bk) g:=fun g=>by
    rw [htd];exact (aZ rfl rfl rfl rfl)
  have f2:∀ g,fAt (aa 0) (fC (.int 2)) [some td] g=.ok (.ref sk) g:=fun g=>by
    rw [htd];exact (aZ rfl rfl rfl rfl)
  obtain⟨h1,hh1⟩ : ∃ h1,h1=h++[dk.lst (T.map dh)]:=⟨_,rfl⟩
  have m1:Md Z n M bs ss bk sk h1:=by rw [hh1];exact m.more _
  obtain⟨h2,hh2⟩ : ∃ h2,h2=h1++[dk.lst (bs.map .int)]:=⟨_,rfl⟩
  have m2:Md Z n M bs ss bk sk h2:=by rw [hh2];exact m1.more _
  obtain⟨h3,hh3⟩ : ∃ h3,h3=h2++[dk.lst (ss.map bS)]:=⟨_,rfl⟩
  have old1:∀ {k:Nat} {x:dk},h1[k]? = some x→h3[k]? = some x:=fun {k x} e=>by
    have z:=(List.getElem?_eq_some_iff.mp e).1
    rw [hh3,hh2,List.append_assoc,List.getElem?_append_left z];exact e
  have g1:h3[h.length]? = some (.lst (T.map dh)):=old1 (by rw [hh1];simp)
  have g2:h3[h1.length]? = some (.lst (bs.map .int)):=by rw [hh3,hh2];exact cx _ List.getElem?_concat_length
  have g3:h3[h2.length]? = some (.lst (ss.map bS)):=by rw [hh3];simp
  have wq:=Ga m.n1 n30 L.ok m.lb m.ls m.os g1 g2 g3
  have lb:(bs.map D.int).length≤SZ:=by rw [List.length_map,m.lb];exact (i3 n30)
  have ls:(ss.map bS).length≤SZ:=by rw [List.length_map,m.ls];exact (i3 n30)
  have ba:=m.ba
  have ba1:=m1.ba
  have st2:=m2.st
  rw [← htd,← hh1] at q
  have r:au gr (ad (cY (lOf (fAt (aa 0) (fC (.int 1))))) (ad (au fz (ad (aa 0) ak)) (ad (aM (lOf (fAt (aa 0) (fC (.int 1))))) (ad (aM (lOf (fAt (aa 0) (fC (.int 2))))) ak)))) [some td] h=.ok (dy n T bs ss).enc h3:=by
    have e1:aM (lOf (fAt (aa 0) (fC (.int 1)))) [some td] h1=.ok (.ref h1.length) h2:=by rw [hh2];exact gB (cM (f1 _) (aQ ba1)) lb
    have e2:aM (lOf (fAt (aa 0) (fC (.int 2)))) [some td] h2=.ok (.ref h2.length) h3:=by rw [hh3];exact gB (cM (f2 _) (aQ st2)) ls
    have e3:cY (lOf (fAt (aa 0) (fC (.int 1)))) [some td] h=.ok (.int n) h:=by
      have:=eg (cM (f1 h) (aQ ba))
      rwa [List.length_map,m.lb] at this
    exact aw (ag e3 (ag (aw (ag rfl rfl) q) (ag e1 (ag e2 rfl)))) wq
  have fin:letGo h (.ok (dy n T bs ss).enc h3)=.ok (dy n T bs ss).enc h:=by
    rw [hh3,hh2,hh1,List.append_assoc,List.append_assoc];exact dg (AR _)
  rw [← htd]
  unfold ju bP runB
  rw [if_pos (by rfl)]
  show letGo h (match outE (au gr _ [some td] h) _ _ with | .nx _ h=>_ | .rt d h=>_ | .exc x _ h=>_|_=>_)=_
  rw [r]
  exact fin
theorem Rk {x y:Int}(e:y=0∨y=1)(h:Hd):cz (.int x) (.int y) h=.ok (.int (x * y)) h:=Gh (by rw [LR e,Bool.or_true]) h
theorem CT (m:Md Z n M bs ss bk sk h){s:List Int}(ls:s.length=n)(B:sN s){i:Nat}(hi:i < n)(a:Option D) :
    cX none ((List.range n).map fun k:Nat=>D.int k) (gN 0) [] (aj cz (fAt (fAt (aa 2) (aa 3)) (aa 0)) (fAt (aa 1) (aa 0))) ((List.range n).map fun k:Nat=>D.int k) [a,some (af s),some (.ref (Z + n)),some (.int i)] h=.ok (((List.range n).map fun j=>M i j * s.getD j 0).map .int) h:=by
  have:=cw (g:=none) (all:=(List.range n).map fun k:Nat=>D.int k) (tg:=gN 0) (cs:=[]) (e:=aj cz (fAt (fAt (aa 2) (aa 3)) (aa 0)) (fAt (aa 1) (aa 0))) (h:=h) (I:=fun σ=>∃ a,σ = [a,some (af s),some (.ref (Z + n)),some (.int i)]) (fun _=>true) (fun d=>match d with | .int j=>.int (M i j.toNat * s.getD j.toNat 0)|_=>.non) trivial
    (xs:=(List.range n).map fun k:Nat=>D.int k) (σ:=[a,some (af s),some (.ref (Z + n)),some (.int i)]) (by
      rintro x hx σ ⟨c,rfl⟩
      obtain⟨j,hj,rfl⟩:=List.mem_map.mp hx
      have hj:=List.mem_range.mp hj
      refine⟨_,rfl,⟨_,rfl⟩,rfl,fun _ => ?_⟩
      have a1:=Fc (A:=Z) hi
      have r1:=m.mt.ro i hi
      have v1:=JM (M:=M) (n:=n) (i:=i) hj
      have ti1:=m.mt.ti
      have v2:=jT (l:=s) (i:=j) (ls ▸ hj)
      have e1:fAt (fAt (aa 2) (aa 3)) (aa 0) [some (.int (j:Nat)),some (af s),some (.ref (Z + n)),some (.int i)] h=.ok (.int (M i j)) h:=by
        exact aZ (aZ rfl rfl (aQ ti1) a1) rfl (aQ r1) v1
      have e2:fAt (aa 1) (aa 0) [some (.int (j:Nat)),some (af s),some (.ref (Z + n)),some (.int i)] h=.ok (.int (s.getD j 0)) h:=by
        exact aZ rfl rfl rfl v2
      show aj cz (fAt (fAt (aa 2) (aa 3)) (aa 0)) (fAt (aa 1) (aa 0)) [some (.int (j:Nat)),some (af s),some (.ref (Z + n)),some (.int i)] h=_
      exact am e1 e2 (Rk (B j) h)) ⟨_,rfl⟩
  rw [this,List.filter_eq_self.mpr (by simp),List.map_map,List.map_map]
  rfl
theorem OZ (m:Md Z n M bs ss bk sk h){T:List Tie}(L:LP n M n 0 T){s:List Int}(ls:s.length=n)(B:sN s) :
    eZ [.tup [.ref (Z + n),.ref bk,.ref sk],af s] h=.ok (af (bM (dy n T bs ss) n s)) h:=by
  have n30:=m.n30
  obtain⟨w,hw⟩ : ∃ w,w=dy n T bs ss:=⟨_,rfl⟩
  obtain⟨td,htd⟩ : ∃ td:D,td=.tup [.ref (Z + n),.ref bk,.ref sk]:=⟨_,rfl⟩
  obtain⟨A,hA⟩ : ∃ A,A=h.length:=⟨_,rfl⟩
  obtain⟨σ',h',k1,x6,x7,x8,k2,k3⟩:=cD (P:=fun i σ h'=>∃ (a b c:Option D),σ = (XT td s Z n bk sk (some (.ref A)) a b c)∧h'=h++[.lst (((List.range i).map (cJ w s)).map .int)]) (g:=none) (k:=0)
      (all:=(List.range n).map fun k:Nat=>D.int k) (fun _ _ _ _=>trivial)
      (xs:=(List.range n).map fun k:Nat=>D.int k) (tg:=gN 6) (σ:=(XT td s Z n bk sk (some (.ref A)) none none none)) (h:=h++[.lst []]) (b:=oZ) (by
      rintro i x σ h0 hx ⟨a,b,c,rfl,hh0⟩
      obtain⟨hi,rfl⟩:=dQ hx
      rw [Nat.zero_add] at hh0 ⊢
      have m0:Md Z n M bs ss bk sk h0:=by rw [hh0];exact m.more _
      have fc:=CT m0 ls B hi none
      have v2:=jT (l:=s) (i:=i) (ls ▸ hi)
      have l3:i < ss.length:=by rw [m.ls];exact hi
      have v3:=jT (l:=bs) (i:=i) (m.lb ▸ hi)
      have v4:atI (ss.map bS) (i:Int)=some (bS (ss.getD i none)):=by rw [jV l3];simp [List.getD,l3]
      have ba:=m0.ba
      have st:=m0.st
      have nx:=CP (T:=T) (bs:=bs) (ss:=ss) (s:=s) hi
      rw [← hw] at nx
      obtain⟨P,hP⟩ : ∃ P,P=bW (nbs T i) s:=⟨_,rfl⟩
      have fe:=JQ L B hi
      rw [← hP] at fe nx
      have sm:gJ (((List.range n).map fun j=>M i j * s.getD j 0).map .int)=some ((List.range n).map fun j=>M i j * s.getD j 0):=oT _
      have su:((List.range n).map fun j=>M i j * s.getD j 0).sum=P:=by rw [Gb];exact fe
      generalize (List.range n).map (fun j=>M i j * s.getD j 0)=FL at fc sm su
      have s1:aE (gN 7) (aj cz (fC (.int 2)) (r6 (bJ 1 [1,2,6] (bL (cY (lOf (aa 3)))) (gN 0) [] (aj cz (fAt (fAt (aa 2) (aa 3)) (aa 0)) (fAt (aa 1) (aa 0)))))) (XT td s Z n bk sk (some (.ref A)) (some (.int i)) b c) h0=.nx (XT td s Z n bk sk (some (.ref A)) (some (.int i)) (some (.int (2 * P))) c) h0:=by
        have ss2:r6 (bJ 1 [1,2,6] (bL (cY (lOf (aa 3)))) (gN 0) [] (aj cz (fAt (fAt (aa 2) (aa 3)) (aa 0)) (fAt (aa 1) (aa 0)))) (XT td s Z n bk sk (some (.ref A)) (some (.int i)) b c) h0=.ok (.int P) h0:=by
          rw [← su]
          have ln:=eg (cM (a:=aa 3) (σ:=(XT td s Z n bk sk (some (.ref A)) (some (.int i)) b c)) rfl (aQ ba))
          rw [List.length_map,m.lb] at ln
          exact CF (cF (c9 ln (i3 n30)) fc) sm
        exact aD (am rfl ss2 (nP (by decide)))
      generalize ss.getD i none=u at v4 nx
      generalize bs.getD i 0=bb at v3 nx
      generalize s.getD i 0=x at v2 nx
      generalize 2 * P=F at s1 nx
      obtain⟨y1,hy1⟩ : ∃ y1:Int,y1=if bb < F then 1 else x:=⟨_,rfl⟩
      obtain⟨y2,hy2⟩ : ∃ y2:Int,y2=if F < bb then 0 else y1:=⟨_,rfl⟩
      obtain⟨y3,hy3⟩ : ∃ y3:Int,y3=u.getD y2:=⟨_,rfl⟩
      have ny:cJ w s i=y3:=by
        rw [nx,hy3]
        cases u with
        | some z=>rfl
        | none =>
          simp only [Option.getD_none]
          rw [hy2,hy1]
          split<;>split<;>(try split)<;>omega
      have s2:aE (gN 8) (fAt (aa 1) (aa 6)) (XT td s Z n bk sk (some (.ref A)) (some (.int i)) (some (.int F)) c) h0=.nx (XT td s Z n bk sk (some (.ref A)) (some (.int i)) (some (.int F)) (some (.int x))) h0:=aD (aZ rfl rfl rfl v2)
      have s3:sIf (tE (aj oGt (aa 7) (fAt (aa 3) (aa 6)))) (aE (gN 8) (fC (.int 1))) bB (XT td s Z n bk sk (some (.ref A)) (some (.int i)) (some (.int F)) (some (.int x))) h0=.nx (XT td s Z n bk sk (some (.ref A)) (some (.int i)) (some (.int F)) (some (.int y1))) h0:=by
        rw [hy1]
        by_cases e:bb < F
        · rw [if_pos e];exact (kF (aJ (am rfl (aZ rfl rfl (aQ ba) v3) (Jt e)))).trans (aD rfl)
        · rw [if_neg e];exact dA (aJ (am rfl (aZ rfl rfl (aQ ba) v3) (Ju e)))
      have s4:sIf (tE (aj oLt (aa 7) (fAt (aa 3) (aa 6)))) (aE (gN 8) (fC (.int 0))) bB (XT td s Z n bk sk (some (.ref A)) (some (.int i)) (some (.int F)) (some (.int y1))) h0=.nx (XT td s Z n bk sk (some (.ref A)) (some (.int i)) (some (.int F)) (some (.int y2))) h0:=by
        rw [hy2]
        by_cases e:F < bb
        · rw [if_pos e];exact (kF (aJ (am rfl (aZ rfl rfl (aQ ba) v3) (OO e)))).trans (aD rfl)
        · rw [if_neg e];exact dA (aJ (am rfl (aZ rfl rfl (aQ ba) v3) (ON e)))
      have s5:sIf (tE (aj iF (fAt (aa 4) (aa 6)) (fC .non))) (aE (gN 8) (fAt (aa 4) (aa 6))) bB (XT td s Z n bk sk (some (.ref A)) (some (.int i)) (some (.int F)) (some (.int y2))) h0=.nx (XT td s Z n bk sk (some (.ref A)) (some (.int i)) (some (.int F)) (some (.int y3))) h0:=by
        rw [hy3]
        cases u with
        | none=>exact dA (aJ (am (aZ rfl rfl (aQ st) v4) rfl rfl))
        | some z=>exact (kF (aJ (am (aZ rfl rfl (aQ st) v4) rfl rfl))).trans (aD (aZ rfl rfl (aQ st) v4))
      have gA:h0[A]? = some (.lst (((List.range i).map (cJ w s)).map .int)):=by rw [hh0];exact fG hA _
      have lz:(((List.range i).map (cJ w s)).map D.int).length < SZ:=by rw [List.length_map,List.length_map,List.length_range];exact Nat.lt_trans hi (Nat.lt_of_le_of_lt n30 (by decide))
      have st6:h0.set A (.lst (((List.range i).map (cJ w s)).map .int++[.int y3]))=h++[.lst (((List.range (i + 1)).map (cJ w s)).map .int)]:=by
        rw [hh0,lL hA,List.range_succ,← ny,List.map_append,List.map_append];rfl
      have s6:gq (mP (aa 5) (aa 8)) (XT td s Z n bk sk (some (.ref A)) (some (.int i)) (some (.int F)) (some (.int y3))) h0=.nx (XT td s Z n bk sk (some (.ref A)) (some (.int i)) (some (.int F)) (some (.int y3))) (h++[.lst (((List.range (i + 1)).map (cJ w s)).map .int)]):=by
        rw [← st6]
        exact ee (nc rfl gA rfl gA lz)
      refine⟨_,rfl,(XT td s Z n bk sk (some (.ref A)) (some (.int i)) (some (.int F)) (some (.int y3))),_,?_,_,_,_,rfl,rfl⟩
      show aC _ _ (XT td s Z n bk sk (some (.ref A)) (some (.int i)) b c) h0=_
      rw [aG s1,aG s2,aG s3,aG s4,aG s5,s6]) ⟨none,none,none,rfl,by simp⟩
  have e0:0 + ((List.range n).map fun k:Nat=>D.int k).length=n:=by simp
  rw [e0] at k3
  have b1:=(m.more [.lst []]).ba
  have s1:aE (gT [2,3,4]) (aa 0) [some td,some (af s),none,none,none,none,none,none,none] h=.nx (XT td s Z n bk sk none none none none) h:=by rw [htd];rfl
  have s2:aE (gN 5) (aM ak) (XT td s Z n bk sk none none none none) h=.nx (XT td s Z n bk sk (some (.ref A)) none none none) (h++[.lst []]):=aD (fk hA rfl (Nat.zero_le _))
  have s3:fm (bL (cY (lOf (aa 3)))) (gN 6) oZ (XT td s Z n bk sk (some (.ref A)) none none none) (h++[.lst []])=.nx (XT td s Z n bk sk (some (.ref A)) x6 x7 x8) (h++[.lst ((bM w n s).map .int)]):=by
    rw [k2,k3] at k1
    have ln:cY (lOf (aa 3)) (XT td s Z n bk sk (some (.ref A)) none none none) (h++[.lst []])=.ok (.int n) (h++[.lst []]):=by
      exact (eg (cM rfl (aQ b1))).trans (by rw [List.length_map,m.lb])
    exact eV (c9 ln (i3 n30)) k1
  have s4:bo (eP (lOf (aa 5))) (XT td s Z n bk sk (some (.ref A)) x6 x7 x8) (h++[.lst ((bM w n s).map .int)])=.rt (af (bM w n s)) (h++[.lst ((bM w n s).map .int)]):=by
    exact bp (jS (cM rfl (aQ (fG hA _))))
  have st:([td,af s].map some++List.replicate (9 - [td,af s].length) none:Sd)=[some td,some (af s),none,none,none,none,none,none,none]:=rfl
  rw [← htd,← hw]
  unfold eZ bP runB
  rw [if_pos (by rfl),st,aG s1,aG s2,aG s3,s4]
  exact dg (xb _)
end
end Fm
set_option linter.all false
namespace Fm
theorem L7 {T:List Tie}{i:Nat}{p:Nat × Int}:p∈nbs T i ↔ ∃ t∈T,far i t=some p.1∧t.w=p.2:=by
  unfold nbs
  rw [List.mem_filterMap]
  constructor
  · rintro⟨t,ht,q⟩
    cases e:far i t with
    | none=>rw [e] at q;cases q
    | some j=>rw [e] at q;simp at q;subst q;exact⟨t,ht,e,rfl⟩
  · rintro⟨t,ht,q1,q2⟩
    exact⟨t,ht,by rw [q1,q2];rfl⟩
theorem Gm:∀ r:List (Nat × Int),(fw r).length=r.length:=fun r=>by
  have:=oV (fun _=>1) r
  have q:∀ l:List (Nat × Int),(l.map fun _=>(1:Int)).sum=l.length:=fun l=>by
    induction l with
    | nil=>rfl
    | cons x l ih=>simp only [List.map_cons,List.sum_cons,ih,List.length_cons];omega
  rw [q,q] at this
  omega
theorem L8 {n:Nat}{T:List Tie}(lt:∀ t∈T,t.a < n∧t.b < n)(un:T.Pairwise i4)(i:Nat):(nbs T i).length≤n:=by
  have:=JE (JF un i) (n:=n) fun x hx=>by
    obtain⟨p,hp,rfl⟩:=List.mem_map.mp hx
    exact CO lt p hp
  simpa using this
end Fm
set_option linter.all false
namespace Fm
noncomputable abbrev iP:SF:=(sIf (tE (aj nG (aa 2) (fC .non))) (gq (AA (aa 3) (ad (aj eQ (aa 4) (cS (ad (fC (.int 0)) ak))) (ad (aj eQ (aa 4) (cS (ad (fC (.int 1)) ak))) ak)))) (gq (mP (aa 3) (aj eQ (aa 4) (cS (ad (aa 2) ak))))))
noncomputable abbrev qw:SF:=(aC (aE (gN 3) (aM ak))
    (aC (fm (ek (aa 1)) (gN 4) iP)
    (aE (gN 1) (aa 3))))
noncomputable def iA:Fn:=bP 1 5 (aC (aE (gN 1) (aM (ad (cS ak) ak)))
    (aC (fm (ek (fAt (aa 0) (fC (.int 2)))) (gN 2) qw)
    (bo (aa 1))))
noncomputable def jv:Fn:=bP 1 2 (aC (sIf (tE (aj nG (aa 0) (fC .non))) (bo (aM ak)) bB)
    (aC (aE (gN 1) (aM (ad (fK [("NoStand",true),("NoRest",false)] (aa 0)) (ad (fK [("NoStand",false),("NoRest",true)] (aa 0)) (ad (fK [("NoStand",false),("NoRest",false)] (aa 0)) ak)))))
    (aC (aE (gN 1) (aM (gK (aa 1) (aM (ad (fK [("NoStand",false),("NoRest",false)] (aa 0)) (ad (fK [("NoStand",false),("NoRest",false)] (aa 0)) (ad (fK [("NoStand",false),("NoRest",false)] (aa 0)) ak)))))))
    (aC (aE (gN 1) (aM (gK (aa 1) (aM (ad (fK [("NoStand",false),("NoRest",false)] (aa 0)) (ad (fK [("NoStand",false),("NoRest",false)] (aa 0)) (ad (fK [("NoStand",false),("NoRest",false)] (aa 0)) ak)))))))
    (bo (aM (gK (aa 1) (aM (ad (fK [("NoStand",true),("NoRest",true)] (aa 0)) ak)))))))))
noncomputable def nU:Fn:=bP 1 1 (bo (aM (gK (aM (bJ 1 [0] (bL (fC (.int 9))) (gN 0) [] (aj oEq (aa 0) (aa 1)))) (aM (ad (fC (.bl true)) ak)))))
noncomputable def cg:Fn:=bP 2 2 (qO (cK (tE (au d5 (ad (aa 0) (ad (aa 1) ak))))) (sF "NoStand") bB)
noncomputable def sU:Fn:=bP 2 2 (aC (gq (au cg (fPl (ad (aa 0) (ad (aa 1) ak)))))
    (sPl (bo (aj oEq (au cR (ad (aa 0) (ad (aa 1) ak))) (aa 1)))))
noncomputable def bN:Fn:=bP 3 3 (aC (gq (au cg (fPl (ad (aa 0) (ad (aa 1) ak)))))
    (aC (gq (au cg (fPl (ad (aa 0) (ad (aa 2) ak)))))
    (qO (tOr (cK (tE (au fy (ad (aa 0) (ad (aa 1) ak))))) (cK (tE (au fy (ad (aa 0) (ad (aa 2) ak)))))) (sF "NoRest") bB)))
noncomputable def eo:Fn:=bP 3 3 (aC (gq (au bN (fPl (ad (aa 0) (ad (aa 1) (ad (aa 2) ak))))))
    (sPl (bo (au iw (ad (aa 0) (ad (eP (bJ 2 [] (FU (aa 1) (aa 2)) (gT [0,1]) [] (uC (aa 0) (aa 1)))) ak))))))
noncomputable def jZ:Fn:=bP 3 3 (aC (gq (au bN (fPl (ad (aa 0) (ad (aa 1) (ad (aa 2) ak))))))
    (sPl (bo (au iw (ad (aa 0) (ad (eP (bJ 2 [] (FU (aa 1) (aa 2)) (gT [0,1]) [] (IW (aa 0) (aa 1)))) ak))))))
noncomputable def cZ:Fn:=bP 4 7 (aC (aE (gN 4) (fC .non))
    (aC (aE (gN 5) (fC .non))
    (aC (AE 7 4 ["NoStand", "NoRest"] (qO (tE (aj oEq (aa 1) (fC (.int 0)))) (aE (gN 5) (au eo (fPl (ad (aa 0) (ad (aa 2) (ad (aa 3) ak)))))) (aE (gN 5) (au jZ (fPl (ad (aa 0) (ad (aa 2) (ad (aa 3) ak))))))))
    (aC (sIf (tE (aj nG (aa 4) (fC .non))) (bo (aM (ad (aa 5) ak))) bB)
    (bo (au jv (ad (aa 4) ak)))))))
noncomputable def er:Fn:=bP 5 8 (aC (sIf (tOr (tE (aj oNe (cY (lOf (aa 0))) (fC (.int 1)))) (tOr (cK (tE (ed .tuple (fAt (aa 0) (fC (.int 0)))))) (tE (aj lK (fAt (aa 0) (fC (.int 0))) (aa 1))))) (bo (fC (.bl false))) bB)
    (aC (aE (gN 5) (fAt (aa 0) (fC (.int 0))))
    (aC (sIf (tE (aj oEq (aa 4) (fC (.int 0)))) (aC (aE (gN 6) (aM (bJ 1 [2,3] (ek (aa 1)) (gN 0) [(iR (tE (au bC (ad (aa 1) (ad (aa 0) ak)))) (tE (au bC (ad (aa 2) (ad (aa 0) ak)))))] (aa 0))))
    (bo (fT (iR (tE (aj AF (aa 5) (aa 6))) (tE (aj oEq (aM (bJ 1 [5] (ek (aa 6)) (gN 0) [(cK (tE (au bC (ad (aa 1) (ad (aa 0) ak)))))] (aa 0))) (aM ak))))))) bB)
    (aC (aE (gN 7) (aM (bJ 1 [2,3] (ek (aa 1)) (gN 0) [(iR (tE (au bC (ad (aa 0) (ad (aa 1) ak)))) (tE (au bC (ad (aa 0) (ad (aa 2) ak)))))] (aa 0))))
    (bo (fT (iR (tE (aj AF (aa 5) (aa 7))) (tE (aj oEq (aM (bJ 1 [5] (ek (aa 7)) (gN 0) [(cK (tE (au bC (ad (aa 0) (ad (aa 1) ak)))))] (aa 0))) (aM ak))))))))))
noncomputable abbrev md:SF:=(sIf (tE (aj iF (fAt (fAt (aa 0) (fC (.int 2))) (aa 4)) (fC .non))) (gq (mP (aa 3) (aj eQ (aj eQ (cT (aa 1) pNo (pAt (aa 4))) (cS (ad (aj nF (fC (.int 1)) (fAt (aa 1) (aa 4))) ak))) (cT (aa 1) (pAt (aj dM (aa 4) (fC (.int 1)))) pNo)))) bB)
noncomputable def eu:Fn:=bP 3 5 (aC (aE (gN 3) (aM (ad (aj dM (aa 1) (cS (ad (fC (.int 0)) ak))) (ad (cT (aa 1) pNo (pAt (fC (.int (-1))))) (ad (aM (lOf (aa 1))) (ad (fC .non) (ad (fC (.int 7)) ak)))))))
    (aC (aE (gN 3) (aM (gK (aa 3) (aM (ad (aj eQ (cT (aa 1) pNo (pAt (fC (.int (-1))))) (cS (ad (fC (.int 2)) ak))) (ad (aj eQ (cT (aa 1) pNo (pAt (fC (.int (-1))))) (cS (ad (fC (.bl true)) ak))) (ad (aj eQ (cT (aa 1) pNo (pAt (fC (.int (-1))))) (cS (ad (fC .non) ak))) ak)))))))
    (aC (fm (bL (cY (lOf (aa 1)))) (gN 4) md)
    (bo (fAt (aa 3) (aj cI (aa 2) (cY (lOf (aa 3)))))))))
noncomputable abbrev JR:SF:=(aE (gN 1) (au hU (ad (aa 0) (ad (fC (.int 7)) ak))))
noncomputable abbrev JS:SF:=(aE (gN 2) (au ju (ad (aa 1) ak)))
noncomputable abbrev JT:SF:=(aE (gN 3) (AJ (aa 2)))
noncomputable abbrev JV:SF:=(aE (gN 4) (au iA (ad (aa 1) ak)))
noncomputable abbrev JW:SF:=(aE (gN 5) (aM (bJ 1 [1] (ek (aa 4)) (gN 0) [(tE (aj oEq (au eZ (ad (aa 1) (ad (aa 0) ak))) (aa 0)))] (aa 0))))
noncomputable abbrev JX:SF:=(aE (gN 6) (aM (bJ 1 [1] (ek (aa 4)) (gN 0) [(tE (aj oNe (au eZ (ad (aa 1) (ad (aa 0) ak))) (aa 0)))] (aa 0))))
noncomputable abbrev CU:SF:=(sIf (tE (aj oNe (au cZ (ad (aa 2) (ad (aa 12) (ad (aa 15) (ad (aa 16) ak))))) (au nU (ad (aa 17) ak)))) (bo (fC (.bl false))) bB)
noncomputable abbrev CV:SF:=(aC (sIf (cK (tE (au er (ad (au cZ (ad (aa 2) (ad (aa 12) (ad (aa 9) (ad (aa 10) ak))))) (ad (aa 5) (ad (aa 9) (ad (aa 10) (ad (aa 12) ak)))))))) (bo (fC (.bl false))) bB)
    (aC (sIf (tE (aj oNe (au cZ (ad (aa 2) (ad (aa 12) (ad (fIx (ad (fAt (aa 5) (fC (.int 0))) (ad (fAt (aa 5) (fC (.int (-1)))) ak)) (aa 12)) (ad (aa 9) ak))))) (aM (ad (aa 9) ak)))) (bo (fC (.bl false))) bB)
    (aC (aE (gN 13) (aM (ad (cS (ad (aa 11) (ad (aa 9) (ad (fC (.int 0)) ak)))) (ad (cS (ad (aa 9) (ad (aa 11) (ad (fC (.int 0)) ak)))) ak))))
    (aC (sIf (tE (aj oNe (aa 6) (aM ak))) (aC (aE (gN 14) (fAt (aa 6) (aj cI (aj gQ (aa 8) (fC (.int 5))) (cY (lOf (aa 6))))))
    (aE (gN 13) (aM (gK (aa 13) (aM (ad (cS (ad (aa 9) (ad (aa 14) (ad (fC (.int 1)) ak)))) (ad (cS (ad (aa 14) (ad (aa 9) (ad (fC (.int 1)) ak)))) (ad (cS (ad (aa 14) (ad (aa 11) (ad (fC (.int 0)) ak)))) (ad (cS (ad (aa 11) (ad (aa 14) (ad (fC (.int 0)) ak)))) ak))))))))) bB)
    (fm (ek (aa 13)) (gT [15,16,17]) CU)))))
noncomputable abbrev CW:SF:=(aC (aE (gN 8) (au bw (ad (aa 0) (ad (aa 7) ak))))
    (aC (aE (gN 9) (fAt (aa 5) (aj cI (aa 8) (cY (lOf (aa 5))))))
    (aC (aE (gN 10) (fAt (aa 5) (aj cI (aj gQ (aa 8) (fC (.int 97))) (cY (lOf (aa 5))))))
    (aC (aE (gN 11) (au eu (ad (aa 1) (ad (aa 9) (ad (aj gQ (aa 8) (fC (.int 7))) ak)))))
    (fm (Ob (ad (fC (.int 0)) (ad (fC (.int 1)) ak))) (gN 12) CV)))))
noncomputable abbrev JY:SF:=(fm (xX (fC (.int 4)) (fC (.int 9))) (gN 7) CW)
noncomputable abbrev JZ:SF:=(bo (aj oEq (AJ (aa 2)) (aa 3)))
noncomputable def Ff:Fn:=bP 1 18 (aC JR (aC JS (aC JT (aC JV (aC JW (aC JX (aC JY JZ)))))))
end Fm
set_option linter.all false
namespace Fm
theorem o4 {n np:Nat}{b:SF}{ds:List D}{h h':Hd}{σ σ':Sd}{x:D}(hl:ds.length=np)(st:(ds.map some++List.replicate (n - ds.length) none:Sd) = σ)(e:b σ h=.exc x σ' h'):bP np n b ds h=.exc x h':=by
  unfold bP runB
  rw [if_pos hl,st,e]
  rfl
theorem rq {a b:SF}{σ σ':Sd}{h h':Hd}{x:D}(e:a σ h=.exc x σ' h'):aC a b σ h=.exc x σ' h':=by simp only [aC,e]
theorem yt {t:TF}{a b:SF}{σ:Sd}{h h':Hd}(e:t σ h=.ok false h'):qO t a b σ h=b σ h':=by unfold qO;rw [e];rfl
theorem Fg {t:TF}{c:String}{b:SF}{σ:Sd}{h h':Hd}(e:t σ h=.ok true h'):qO t (sF c) b σ h=.exc (.exn c []) σ h':=by unfold qO;rw [e];rfl
theorem jw {F:Fn}{r:LF}{σ:Sd}{h h1 h':Hd}{ds:List D}{x:D}(a:r σ h=.ok ds h1)(b:F ds h1=.exc x h'):au F r σ h=.exc x h':=by
  show Res.bind _ _=_;rw [a];exact b
theorem rA {e:EF}{σ:Sd}{h h':Hd}{x:D}(p:e σ h=.exc x h'):gq e σ h=.exc x σ h':=by show outE _ _ _=_;rw [p];rfl
theorem Ma {g:Option Nat}{all:List D}{tg:GF}{b:SF}{x:D}{xs:List D}{σ σ':Sd}{h h':Hd}{d:D}(hh:kJ g all h)(t:tg x σ = some σ')(e:b σ' h=.rt d h'):fO g all tg b (x :: xs) σ h=.rt d h':=by
  rw [fO,if_pos hh,t];simp only [e]
theorem Mb {g:Option Nat}{all:List D}{tg:GF}{b:SF}{x:D}{xs:List D}{σ σ' σ'':Sd}{h h':Hd}(hh:kJ g all h)(t:tg x σ = some σ')(e:b σ' h=.nx σ'' h'):fO g all tg b (x :: xs) σ h=fO g all tg b xs σ'' h':=by
  rw [fO,if_pos hh,t];simp only [e]
theorem Nm {t:TF}{a b:SF}{σ:Sd}{h h':Hd}(e:t σ h=.ok true h'):qO t a b σ h=a σ h':=by unfold qO;rw [e];rfl
def Gn (d:D) (h:Hd):Prop:=bu [d] h=.ok (.bl false) h
def ds8:List D:=[.int 2,.int (-1),.bl true,.bl false,.non,.str [49],.int (10 ^ 59),.tup [.int 0]]
theorem Fh {d:D}{h:Hd}(e:cH [d] h=.ok (.bl false) h):Gn d h :=
  (cG rfl rfl (bp (aw (ag rfl (bI rfl rfl)) ((cG rfl rfl (bp (ma (nO (aJ (aw (ag rfl rfl) e)))))).trans aS)))).trans aS
theorem Fi (b:Bool)(h:Hd):Gn (.bl b) h:=Fh ((cG rfl rfl (bp (ma (jR (aJ rfl) (bV (b:=true) (aJ rfl)))))).trans aS)
theorem yu {d:D}{h:Hd}(e:ed .int (aa 0) [some d] h=.ok (.bl false) h):Gn d h:=Fh ((cG rfl rfl (bp (ma (nO (aJ e))))).trans aS)
theorem Qw {d:D}(hd:d∈ds8)(h:Hd):Gn d h:=by
  rcases hd with _|⟨_,_|⟨_,_|⟨_,_|⟨_,_|⟨_,_|⟨_,_|⟨_,_|⟨_,hd⟩⟩⟩⟩⟩⟩⟩⟩
  · exact cW 2 h
  · exact cW (-1) h
  · exact Fi _ h
  · exact Fi _ h
  · exact yu rfl
  · exact yu rfl
  · exact (cW _ h).trans (by rw [decide_eq_false (show ¬ (10:Int) ^ 59≤1 by decide),Bool.and_false])
  · exact yu rfl
  · cases hd
theorem Nn {v:Int}(hv:v=0∨v=1)(h:Hd):bu [.int v] h=.ok (.bl true) h:=by
  rw [cW];rcases hv with rfl|rfl<;>rfl
def J0 (w:Web) (i:Nat) (x:D):Prop:=∃ v:Int,x=.int v∧(v=0∨v=1)∧(w.stays[i]? = some none∨w.stays[i]? = some (some v))
def Bad (w:Web) (i:Nat) (x:D) (h:Hd):Prop:=Gn x h ∨ ∃ v z:Int,x=.int v∧(v=0∨v=1)∧w.stays[i]? = some (some z)∧v≠z
theorem Mc {w:Web}{T x:D}{i:Nat}(g:J0 w i x)(c:Option D)(h:Hd):∃ c',nQ [some w.enc,some T,some (.int i),some x,c] h=.nx [some w.enc,some T,some (.int i),some x,c'] h:=by
  obtain⟨v,rfl,hv,hs⟩:=g
  have s1:sIf (cK (tE (au bu (ad (aa 3) ak)))) (bo (fC (.bl false))) bB [some w.enc,some T,some (.int i),some (.int v),c] h=.nx [some w.enc,some T,some (.int i),some (.int v),c] h:=dA (bV (aJ (aw (ag rfl rfl) (Nn hv h))))
  rcases hs with hs|hs
  · exact⟨_,(aI s1).trans ((aI (aD (aw (ag rfl (ag rfl rfl)) (fv w h hs)))).trans (dA (nO (aJ (am rfl rfl rfl)))))⟩
  · exact⟨_,(aI s1).trans ((aI (aD (aw (ag rfl (ag rfl rfl)) (fv w h hs)))).trans (dA (jR (aJ (am rfl rfl rfl)) (aJ (am rfl rfl (by rw [show bS (some v)=D.int v from rfl,nh,decide_eq_true rfl];rfl))))))⟩
theorem Go {w:Web}{T x:D}{i:Nat}{h:Hd}(b:Bad w i x h)(c:Option D):nQ [some w.enc,some T,some (.int i),some x,c] h=.rt (.bl false) h:=by
  rcases b with no|⟨v,z,rfl,hv,hs,ne⟩
  · exact qu ((kF (bV (aJ (aw (ag rfl rfl) no)))).trans (bp rfl))
  · have s1:sIf (cK (tE (au bu (ad (aa 3) ak)))) (bo (fC (.bl false))) bB [some w.enc,some T,some (.int i),some (.int v),c] h=.nx [some w.enc,some T,some (.int i),some (.int v),c] h:=dA (bV (aJ (aw (ag rfl rfl) (Nn hv h))))
    exact (aI s1).trans ((aI (aD (aw (ag rfl (ag rfl rfl)) (fv w h hs)))).trans ((kF (jR (aJ (am rfl rfl rfl)) (aJ (am rfl rfl (by rw [show bS (some z)=D.int z from rfl,nh,decide_eq_false ne];rfl))))).trans (bp rfl)))
theorem xi {w:Web}{T:D}{h:Hd}(all:List D):∀ (M:List D) (k:Nat) (a b c:Option D),(∀ i x,M[i]? = some x→J0 w (k + i) x∨Bad w (k + i) x h)→(∃ i x,M[i]? = some x∧Bad w (k + i) x h) →
    fO none all (gT [2,3]) nQ (((List.range' k M.length).zip M).map fun p=>D.tup [.int (p.1:Nat),p.2]) [some w.enc,some T,a,b,c] h=.rt (.bl false) h
  | [],k,a,b,c,_,⟨i,x,e,_⟩=>by cases i<;>cases e
  | x :: M,k,a,b,c,al,⟨i,y,e,bd⟩=>by
    rw [List.length_cons,List.range'_succ,List.zip_cons_cons,List.map_cons]
    by_cases bx:Bad w k x h
    · exact Ma (by trivial) rfl (Go bx c)
    · have g:J0 w k x:=((al 0 x rfl).resolve_right bx)
      obtain⟨c',q⟩:=Mc (T:=T) g c h
      refine (Mb (by trivial) rfl q).trans (xi all M (k + 1) _ _ _ (fun i x e => ?_) ?_)
      · have:=al (i + 1) x e
        rwa [← Nat.add_assoc,Nat.add_right_comm] at this
      · cases i with
        | zero=>cases e;exact absurd bd bx
        | succ i=>exact⟨i,y,e,by rwa [← Nat.add_assoc,Nat.add_right_comm] at bd⟩
theorem Me {w:Web}{n:Nat}(W:w.Ok n){L:List D}(hl:L.length=n){h:Hd}(al:∀ i x,L[i]? = some x→J0 w i x∨Bad w i x h)(ex:∃ i x,L[i]? = some x∧Bad w i x h):d5 [w.enc,.tup L] h=.ok (.bl false) h:=by
  have lp:=xi (T:=.tup L) (((List.range L.length).zip L).map fun p=>D.tup [.int (p.1:Nat),p.2]) L 0 none none none (fun i x e=>by rw [Nat.zero_add];exact al i x e) (by obtain⟨i,x,e,b⟩:=ex;exact⟨i,x,e,by rw [Nat.zero_add];exact b⟩)
  rw [← List.range_eq_range'] at lp
  have s1:sIf (tOr (cK (tE (ed .tuple (aa 1)))) (tE (aj oNe (cY (lOf (aa 1))) (au dv (ad (aa 0) ak))))) (bo (fC (.bl false))) bB [some w.enc,some (.tup L),none,none,none] h=.nx [some w.enc,some (.tup L),none,none,none] h :=
    dA (jn (bV (b:=true) (aJ rfl)) (aJ (am (eg (cM rfl rfl)) (aw (ag rfl rfl) (iN w h)) (by rw [nh,hl,W.t,decide_eq_true rfl];rfl))))
  exact (cG rfl rfl ((aI s1).trans (qu (eV rfl lp)))).trans aS
theorem o5 {w:Web}{d:D}{h:Hd}(e:Ak h .tuple d=some false):d5 [w.enc,d] h=.ok (.bl false) h:=by
  have q:ed .tuple (aa 1) [some w.enc,some d,none,none,none] h=.ok (.bl false) h:=by
    show Res.bind (.ok d h) _=_
    simp only [aH,e]
  exact (cG rfl rfl (qu ((kF (CB (bV (aJ q)))).trans (bp rfl)))).trans aS
theorem xj {w:Web}{n:Nat}(W:w.Ok n){l:List D}(hl:l.length≠n)(h:Hd):d5 [w.enc,.tup l] h=.ok (.bl false) h:=by
  have s1:sIf (tOr (cK (tE (ed .tuple (aa 1)))) (tE (aj oNe (cY (lOf (aa 1))) (au dv (ad (aa 0) ak))))) (bo (fC (.bl false))) bB [some w.enc,some (.tup l),none,none,none] h=.rt (.bl false) h :=
    (kF (jn (bV (b:=true) (aJ rfl)) (aJ (am (eg (cM rfl rfl)) (aw (ag rfl rfl) (iN w h)) (by rw [nh,W.t,decide_eq_false (show ¬ (l.length:Int)=(n:Int) from fun z=>hl (Int.ofNat.inj z))];rfl))))).trans (bp rfl)
  exact (cG rfl rfl (qu s1)).trans aS
abbrev NSx:D:=.exn "NoStand" []
theorem jx {w:Web}{d:D}{h:Hd}(e:d5 [w.enc,d] h=.ok (.bl true) h):cg [w.enc,d] h=.ok .non h :=
  (Jx rfl rfl (yt (bV (aJ (aw (ag rfl (ag rfl rfl)) e))))).trans aS
theorem xk {w:Web}{d:D}{h:Hd}(e:d5 [w.enc,d] h=.ok (.bl false) h):cg [w.enc,d] h=.exc NSx h :=
  o4 rfl rfl (Fg (bV (aJ (aw (ag rfl (ag rfl rfl)) e))))
theorem J1 (l:List D){p:Nat}(hp:p < l.length):cut l none (some (p:Int))=l.take p:=by
  unfold cut
  show List.take (sIx l.length l.length (some (p:Int)) - 0) (l.drop 0)=_
  have e:sIx l.length l.length (some (p:Int))=p:=by
    show (if (p:Int) < 0 then ((p:Int) + (l.length:Nat)).toNat else min ((p:Int)).toNat l.length)=p
    rw [if_neg (Int.not_lt.mpr (Int.natCast_nonneg p))]
    exact Nat.min_eq_left (Nat.le_of_lt hp)
  rw [e];rfl
theorem J2 (l:List D){p:Nat}(hp:p < l.length):cut l (some ((p:Int) + 1)) none=l.drop (p + 1):=by
  have e:sIx l.length 0 (some ((p:Int) + 1))=p + 1:=by
    show (if ((p:Int) + 1) < 0 then ((p:Int) + 1 + (l.length:Nat)).toNat else min ((p:Int) + 1).toNat l.length)=p + 1
    rw [if_neg (show ¬ ((p:Int) + 1 < 0) by omega)]
    exact Nat.min_eq_left hp
  unfold cut
  rw [e]
  exact List.take_of_length_le (by rw [List.length_drop];exact Nat.le_refl _)
theorem CY {a:EF}{hi:EF}{σ:Sd}{h:Hd}{l:List D}{p:Nat}(v:a σ h=.ok (.tup l) h)(w:hi σ h=.ok (.int p) h)(hp:p < l.length):cT a pNo (pAt hi) σ h=.ok (.tup (l.take p)) h:=by
  have c:=J1 l hp
  have e:sIx l.length l.length (some (p:Int))=p:=by
    show (if (p:Int) < 0 then ((p:Int) + (l.length:Nat)).toNat else min ((p:Int)).toNat l.length)=p
    rw [if_neg (Int.not_lt.mpr (Int.natCast_nonneg p))]
    exact Nat.min_eq_left (Nat.le_of_lt hp)
  simp only [cT,v,aH,pNo,pAt,w,c,e]
  rw [if_neg (fun z=>Nat.ne_of_lt hp z.2)]
theorem CZ {a:EF}{lo:EF}{σ:Sd}{h:Hd}{l:List D}{p:Nat}(v:a σ h=.ok (.tup l) h)(w:lo σ h=.ok (.int ((p:Int) + 1)) h)(hp:p < l.length):cT a (pAt lo) pNo σ h=.ok (.tup (l.drop (p + 1))) h:=by
  have c:=J2 l hp
  have e:sIx l.length 0 (some ((p:Int) + 1))=p + 1:=by
    show (if ((p:Int) + 1) < 0 then ((p:Int) + 1 + (l.length:Nat)).toNat else min ((p:Int) + 1).toNat l.length)=p + 1
    rw [if_neg (show ¬ ((p:Int) + 1 < 0) by omega)]
    exact Nat.min_eq_left hp
  simp only [cT,v,aH,pNo,pAt,w,c,e]
  rw [if_neg (fun z=>absurd z.1 (Nat.succ_ne_zero p))]
theorem J3 {w:Web}{n:Nat}(W:w.Ok n){s:List Int}(F:bU w n s){p:Nat}(hp:p < n){d:D}{h:Hd}(b:Bad w p d h):d5 [w.enc,.tup ((s.map D.int).take p++[d]++(s.map D.int).drop (p + 1))] h=.ok (.bl false) h:=by
  have hl:(s.map D.int).length=n:=by rw [List.length_map,F.len]
  have lt:((s.map D.int).take p).length=p:=by rw [List.length_take,hl];exact Nat.min_eq_left (Nat.le_of_lt hp)
  have good:∀ i x,(s.map D.int)[i]? = some x→J0 w i x:=fun i x e=>by
    have hi:i < s.length:=by rw [← List.length_map (f:=D.int)];exact (List.getElem?_eq_some_iff.mp e).1
    rw [List.getElem?_map,List.getElem?_eq_getElem hi] at e
    cases e
    have h2:i < w.stays.length:=by rw [W.s,← F.len];exact hi
    refine⟨s[i],rfl,F.op _ (List.getElem_mem hi),?_⟩
    rw [List.getElem?_eq_getElem h2]
    cases c:w.stays[i] with
    | none=>exact .inl rfl
    | some z =>
      have:=F.st i z (by rw [List.getElem?_eq_getElem h2,c])
      rw [List.getElem?_eq_getElem hi] at this
      cases this
      exact .inr rfl
  refine Me W ?_ (fun i x e => ?_) ⟨p,d,?_,b⟩
  · rw [List.length_append,List.length_append,lt,List.length_drop,hl]
    show p + 1 + (n - (p + 1))=n
    exact Nat.add_sub_of_le hp
  · rw [List.append_assoc] at e
    by_cases i1:i < p
    · rw [List.getElem?_append_left (by rw [lt];exact i1),List.getElem?_take_of_lt i1] at e
      exact .inl (good i x e)
    · rw [List.getElem?_append_right (by rw [lt];exact Nat.not_lt.mp i1),lt] at e
      by_cases i2:i=p
      · rw [i2,Nat.sub_self] at e
        cases e
        rw [i2];exact .inr b
      · obtain⟨k,rfl⟩:=Nat.exists_eq_add_of_lt (Nat.lt_of_le_of_ne (Nat.not_lt.mp i1) (Ne.symm i2))
        rw [show p + k + 1 - p=k + 1 by omega] at e
        have e:((s.map D.int).drop (p + 1))[k]? = some x:=e
        rw [List.getElem?_drop] at e
        exact .inl (good _ x (by rw [show p + k + 1=p + 1 + k by omega];exact e))
  · rw [List.append_assoc,List.getElem?_append_right (by rw [lt];exact Nat.le_refl _),lt,Nat.sub_self];rfl
theorem rC {xs ys:List D}{h:Hd}(p:xs.length + ys.length≤SZ):eQ (.tup xs) (.tup ys) h=.ok (.tup (xs++ys)) h:=by simp only [eQ,if_pos p]
theorem lQ {a b:EF}{σ:Sd}{h h1 h2:Hd}{n m:Nat}{l k:List D}(p:a σ h=.ok (.ref n) h1)(q:b σ h1=.ok (.ref m) h2)(r:h2[n]? = some (.lst l))(s:h2[m]? = some (.lst k))(t:l.length + k.length≤SZ):gK a b σ h=.ok (l++k) h2:=by
  simp only [gK,p,aH,q,r,s,if_pos t]
theorem Mf {l:List D}{n:Nat}(hl:l.length=n)(n1:1≤n):cut l none (some (-1))=l.take (n - 1)∧sIx l.length l.length (some (-1))≠l.length:=by
  have e:sIx n n (some (-1))=n - 1:=by
    show (if (-1:Int) < 0 then ((-1:Int) + (n:Nat)).toNat else min (-1:Int).toNat n)=n - 1
    rw [if_pos (by decide)];omega
  have ne:n - 1≠n:=Nat.ne_of_lt (Nat.sub_lt n1 Nat.one_pos)
  rw [hl,e]
  refine⟨?_,ne⟩
  unfold cut
  rw [hl,e]
  rfl
theorem iB {α : Type}{f:Sd→Hd→Res α}{σ:Sd}{h h':Hd}{x : α}(p:f σ h=.ok x h'):fPl f σ h=.ok x h':=by unfold fPl;rw [p];rfl
theorem No {f:SF}{σ:Sd}{h h':Hd}{d:D}(p:f σ h=.rt d h'):sPl f σ h=.rt d h':=by unfold sPl;rw [p]
theorem Fj {i:Nat}{e:EF}{σ:Sd}{h h':Hd}{x:D}(p:e σ h=.exc x h'):aE (gN i) e σ h=.exc x σ h':=by show outE _ _ _=_;rw [p];rfl
theorem O0 {n i:Nat}{cs:List String}{b:SF}{σ σ':Sd}{h h':Hd}(p:b σ h=.nx σ' h'):AE n i cs b σ h=.nx σ' h':=by unfold AE;rw [p]
theorem O4 {n i:Nat}{cs:List String}{b:SF}{σ σ':Sd}{h h':Hd}{c:String}(p:b σ h=.exc (.exn c []) σ' h')(q:c∈cs):AE n i cs b σ h=.nx ((List.replicate n none).set i (some (.exn c []))) h':=by unfold AE;rw [p];exact if_pos q
theorem O6 {tb:List (String × Bool)}{a:EF}{σ:Sd}{h h1:Hd}{c:String}{l:List D}{b:Bool}(p:a σ h=.ok (.exn c l) h1)(q:tb.lookup c=some b):fK tb a σ h=.ok (.bl b) h1:=by
  unfold fK;rw [p,aH];simp only [isX,q]
end Fm
set_option linter.all false
namespace Fm
theorem O7 {x:EF}{L:LF}{σ:Sd}{h h1 h2:Hd}{n:Nat}{l l0 ds:List D}(p:x σ h=.ok (.ref n) h1)(q:h1[n]? = some (.lst l0))(r:L σ h1=.ok ds h2)(s:h2[n]? = some (.lst l))(t:l.length + ds.length≤SZ):AA x L σ h=.ok .non (h2.set n (.lst (l++ds))):=by
  simp only [AA,p,aH,q,r,s,if_pos t]
def Mg (o:Option Int) (s:List Int):List (List Int):=match o with|none=>[s++[0],s++[1]] | some v=>[s++[v]]
def gP (E:List (List Int)) (o:Option Int):List (List Int):=E.flatMap (Mg o)
def j0 (ss:List (Option Int)):List (List Int):=ss.foldl gP [[]]
theorem nV {ss:List (Option Int)}{k:Nat}{o:Option Int}(h:ss[k]? = some o):j0 (ss.take (k + 1))=gP (j0 (ss.take k)) o:=by
  unfold j0
  rw [List.take_succ,h,List.foldl_append];rfl
theorem A8 (E:List (List Int))(o:Option Int):(gP E o).length≤2 * E.length:=by
  unfold gP
  induction E with
  | nil=>exact Nat.le_refl _
  | cons s E ih =>
    rw [List.flatMap_cons,List.length_append,List.length_cons]
    have:(Mg o s).length≤2:=by
      cases o with
      | none=>exact Nat.le_refl 2
      | some v=>exact Nat.le_succ 1
    omega
theorem yv (ss:List (Option Int)):∀ k,k≤ss.length→(j0 (ss.take k)).length≤2 ^ k
  | 0,_=>by rw [List.take_zero];exact Nat.le_refl _
  | k + 1,hk=>by
    rw [nV (List.getElem?_eq_getElem (show k < ss.length by omega)),Nat.pow_succ]
    have:=A8 (j0 (ss.take k)) (ss[k]'(by omega))
    have:=yv ss k (by omega)
    omega
structure InK (ss:List (Option Int)) (k:Nat) (s:List Int):Prop where
  len:s.length=k
  op:∀ x∈s,x=0∨x=1
  st:∀ (i:Nat) x,i < k→ss[i]? = some (some x)→s[i]? = some x
theorem rE {ss:List (Option Int)}(os:∀ x∈ss,x=none∨x=some 0∨x=some 1):∀ k,k≤ss.length → ∀ s,s∈j0 (ss.take k) ↔ InK ss k s
  | 0,_,s=>by
    rw [List.take_zero]
    constructor
    · intro h
      have h:s=[]:=List.mem_singleton.mp h
      subst h
      exact⟨rfl,(fun x hx=>absurd hx List.not_mem_nil),fun i x hi=>absurd hi (Nat.not_lt_zero i)⟩
    · intro h
      rw [List.eq_nil_of_length_eq_zero h.len];exact List.mem_singleton.mpr rfl
  | k + 1,hk,s=>by
    have hk':k < ss.length:=hk
    have e:ss[k]? = some ss[k]:=List.getElem?_eq_getElem hk'
    have ok:=os _ (List.getElem_mem hk')
    obtain⟨o,ho⟩ : ∃ o,o=ss[k]:=⟨_,rfl⟩
    rw [← ho] at e ok
    rw [nV e]
    unfold gP
    rw [List.mem_flatMap]
    have ih:=rE os k (Nat.le_of_lt hk')
    constructor
    · rintro⟨t,ht,hs⟩
      have T:=(ih t).mp ht
      have:∃ v,s=t++[v]∧(v=0∨v=1)∧(∀ x,o=some x→v=x):=by
        cases o with
        | none =>
          rcases List.mem_cons.mp hs with z|z
          · exact⟨0,z,.inl rfl,fun x q=>by cases q⟩
          · exact⟨1,List.mem_singleton.mp z,.inr rfl,fun x q=>by cases q⟩
        | some v=>exact⟨v,List.mem_singleton.mp hs,by simpa using ok,fun x q=>by cases q;rfl⟩
      obtain⟨v,rfl,vb,vo⟩:=this
      refine⟨by rw [List.length_append,T.len];rfl,fun x hx => ?_,fun i x hi q => ?_⟩
      · rcases List.mem_append.mp hx with z|z
        · exact T.op x z
        · rw [List.mem_singleton.mp z];exact vb
      · by_cases hik:i < k
        · rw [List.getElem?_append_left (by rw [T.len];exact hik)];exact T.st i x hik q
        · have:i=k:=by omega
          subst this
          rw [e] at q
          rw [List.getElem?_append_right (by rw [T.len];exact Nat.le_refl _),T.len,Nat.sub_self,vo x (Option.some.inj q)];rfl
    · intro S
      have ls:k < s.length:=by rw [S.len];exact Nat.lt_succ_self k
      have dec:s=s.take k++[s[k]]:=by
        conv=>lhs;rw [← List.take_append_drop k s]
        rw [List.drop_eq_getElem_cons ls,List.drop_of_length_le (by rw [S.len];exact Nat.le_refl _)]
      refine⟨s.take k,(ih _).mpr ⟨by rw [List.length_take];omega,fun x hx=>S.op x (List.mem_of_mem_take hx),fun i x hi q=>by rw [List.getElem?_take_of_lt hi];exact S.st i x (Nat.lt_succ_of_lt hi) q⟩,?_⟩
      have vb:=S.op _ (List.getElem_mem ls)
      obtain⟨t,ht⟩ : ∃ t,t=s.take k:=⟨_,rfl⟩
      obtain⟨v,hv⟩ : ∃ v,v=s[k]:=⟨_,rfl⟩
      have sv:=fun x q=>S.st k x (Nat.lt_succ_self k) q
      rw [List.getElem?_eq_getElem ls] at sv
      rw [← hv] at vb sv
      rw [← ht,← hv] at dec
      rw [← ht,dec]
      cases o with
      | none =>
        rcases vb with z|z
        · rw [z];exact List.mem_cons_self
        · rw [z];exact List.mem_cons_of_mem _ List.mem_cons_self
      | some w =>
        rw [Option.some.inj (sv w e)];exact List.mem_cons_self
theorem J4 {a b:List Int}{x y:Int}{k:Nat}(la:a.length=k)(lb:b.length=k)(h:LeS (b++[y]) (a++[x])):LeS b a∧y≤x:=by
  have at_:∀ (c:List Int) (z:Int) (i:Nat),c.length=k→(c++[z]).getD i 0=if i < k then c.getD i 0 else if i=k then z else 0:=fun c z i lc=>by
    rw [List.getD_eq_getElem?_getD,List.getD_eq_getElem?_getD]
    by_cases h1:i < k
    · rw [List.getElem?_append_left (by rw [lc];exact h1),if_pos h1]
    · rw [List.getElem?_append_right (by rw [lc];exact Nat.not_lt.mp h1),if_neg h1,lc]
      by_cases h2:i=k
      · subst h2;rw [Nat.sub_self,if_pos rfl];rfl
      · rw [if_neg h2,List.getElem?_eq_none (by show 1≤i - k;omega)];rfl
  constructor
  · intro i
    have:=h i
    rw [at_ b y i lb,at_ a x i la] at this
    by_cases h1:i < k
    · rw [if_pos h1,if_pos h1] at this;exact this
    · rw [List.getD_eq_getElem?_getD,List.getElem?_eq_none (by omega),List.getD_eq_getElem?_getD,List.getElem?_eq_none (by omega)];exact Int.le_refl _
  · have:=h k
    rw [at_ b y k lb,at_ a x k la,if_neg (Nat.lt_irrefl k),if_pos rfl,if_neg (Nat.lt_irrefl k),if_pos rfl] at this
    exact this
theorem A9 {ss:List (Option Int)}(os:∀ x∈ss,x=none∨x=some 0∨x=some 1):∀ k,k≤ss.length→(j0 (ss.take k)).Pairwise fun a b=>¬ LeS b a
  | 0,_=>by rw [List.take_zero];exact List.pairwise_singleton _ _
  | k + 1,hk=>by
    have hk':k < ss.length:=hk
    rw [nV (List.getElem?_eq_getElem hk')]
    unfold gP
    rw [List.pairwise_flatMap]
    have lk:∀ s∈j0 (ss.take k),s.length=k:=fun s hs=>((rE os k (Nat.le_of_lt hk') s).mp hs).len
    refine⟨fun a ha => ?_,?_⟩
    · cases ss[k] with
      | none =>
        refine List.pairwise_cons.mpr ⟨fun b hb => ?_,List.pairwise_singleton _ _⟩
        rw [List.mem_singleton.mp hb]
        intro z
        have:=(J4 (lk a ha) (lk a ha) z).2
        omega
      | some v=>exact List.pairwise_singleton _ _
    · refine List.Pairwise.imp_of_mem ?_ (A9 os k (Nat.le_of_lt hk'))
      intro a b ha hb nl x hx y hy z
      have ex:∀ (c t:List Int),t∈Mg ss[k] c → ∃ v,t=c++[v]:=fun c t ht=>by
        cases q:ss[k] with
        | none =>
          rw [q] at ht
          rcases List.mem_cons.mp ht with z|z
          · exact⟨0,z⟩
          · exact⟨1,List.mem_singleton.mp z⟩
        | some v=>rw [q] at ht;exact⟨v,List.mem_singleton.mp ht⟩
      obtain⟨u,rfl⟩:=ex a x hx
      obtain⟨v,rfl⟩:=ex b y hy
      exact nl (J4 (lk a ha) (lk b hb) z).1
theorem yw (s:List Int)(v:Int)(ls:s.length≤30)(h:Hd):eQ (af s) (.tup [.int v]) h=.ok (af (s++[v])) h:=by
  have:=rC (xs:=s.map D.int) (ys:=[.int v]) (h:=h) (by rw [List.length_map];exact Nat.le_trans (Nat.add_le_add_right ls 1) (by decide))
  unfold af
  rw [List.map_append];exact this
theorem Ka {td:D}{k A:Nat}{E:List (List Int)}{o:Option Int}(lE:E.length≤128)(ls:∀ s∈E,s.length≤30){h:Hd}(hk:h[k]? = some (.lst (E.map af)))(hA:A=h.length)(c:Option D) :
    ∃ c',fO (some k) (E.map af) (gN 4) iP (E.map af) [some td,some (.ref k),some (bS o),some (.ref A),c] (h++[.lst []])=.nx [some td,some (.ref k),some (bS o),some (.ref A),c'] (h++[.lst ((gP E o).map af)]):=by
  obtain⟨σ',h',q,c',e1,e2⟩:=cD (P:=fun i σ h'=>∃ c,σ = [some td,some (.ref k),some (bS o),some (.ref A),c]∧h'=h++[.lst ((gP (E.take i) o).map af)]) (g:=some k) (k:=0) (all:=E.map af) (fun i σ h' ⟨_,_,e⟩=>by show h'[k]? = _;rw [e];exact cx _ hk)
    (xs:=E.map af) (tg:=gN 4) (σ:=[some td,some (.ref k),some (bS o),some (.ref A),c]) (h:=h++[.lst []]) (b:=iP) (by
      rintro i x σ h0 hx ⟨c,rfl,rfl⟩
      rw [Nat.zero_add]
      have hx':E[i]?.map af=some x:=by rw [← List.getElem?_map];exact hx
      obtain⟨s,hs,rfl⟩:=Option.map_eq_some_iff.mp hx'
      have l30:=ls s (List.mem_of_getElem? hs)
      have gA:=fG hA (.lst ((gP (E.take i) o).map af))
      have tk:E.take (i + 1)=E.take i++[s]:=by rw [List.take_succ,hs];rfl
      have st:gP (E.take (i + 1)) o=gP (E.take i) o++Mg o s:=by rw [tk];unfold gP;rw [List.flatMap_append];simp only [List.flatMap_cons,List.flatMap_nil,List.append_nil]
      have lz:((gP (E.take i) o).map af).length≤256:=by
        rw [List.length_map]
        have:=A8 (E.take i) o
        have:(E.take i).length≤E.length:=List.length_take_le' _ _
        omega
      refine⟨_,rfl,[some td,some (.ref k),some (bS o),some (.ref A),some (af s)],h++[.lst ((gP (E.take (i + 1)) o).map af)],?_,_,rfl,rfl⟩
      rw [st,List.map_append]
      cases o with
      | none =>
        refine (kF (aJ (am rfl rfl rfl))).trans ((ee (O7 rfl gA (bI (am rfl (eU (ag rfl rfl)) (yw s 0 l30 _)) (am rfl (eU (ag rfl rfl)) (yw s 1 l30 _))) gA (Nat.le_trans (Nat.add_le_add_right lz 2) (by decide)))).trans ?_)
        rw [lL hA];rfl
      | some v =>
        refine (dA (aJ (am rfl rfl rfl))).trans ((ee (nc rfl gA (am rfl (eU (ag rfl rfl)) (yw s v l30 _)) gA (Nat.lt_of_le_of_lt lz (by decide)))).trans ?_)
        rw [lL hA];rfl) ⟨_,rfl,by rw [List.take_zero];rfl⟩
  have l0:0 + (E.map af).length=E.length:=by rw [List.length_map,Nat.zero_add]
  rw [l0,List.take_length] at e2
  rw [e1,e2] at q
  exact⟨c',q⟩
theorem Gp {Z n:Nat}{M:Nat→Nat→Int}{bs:List Int}{ss:List (Option Int)}{bk sk:Nat}{h:Hd}(m:Md Z n M bs ss bk sk h)(n7:n≤7){td:D}(htd:td=.tup [.ref (Z + n),.ref bk,.ref sk]) :
    ∃ k g,iA [td] h=.ok (.ref k) (h++g)∧(h++g)[k]? = some (.lst ((j0 ss).map af)):=by
  obtain⟨A,hA⟩ : ∃ A,A=h.length:=⟨_,rfl⟩
  obtain⟨σ',h',q,k,g,a,b,c,e1,e2,e3⟩:=cD (P:=fun i σ h'=>∃ (k:Nat) (g:Hd) (a b c:Option D),σ = [some td,some (.ref k),a,b,c]∧h'=h++g∧h'[k]? = some (.lst ((j0 (ss.take i)).map af))) (g:=some sk) (k:=0) (all:=ss.map bS) (fun i σ h' ⟨_,_,_,_,_,_,e,_⟩=>by show h'[sk]? = _;rw [e];exact cx _ m.st)
    (xs:=ss.map bS) (tg:=gN 2) (σ:=[some td,some (.ref A),none,none,none]) (h:=h++[.lst [.tup []]]) (b:=qw) (by
      rintro i x σ h0 hx ⟨k,g,a,b,c,rfl,rfl,hk⟩
      rw [Nat.zero_add] at hk ⊢
      have hx':ss[i]?.map bS=some x:=by rw [← List.getElem?_map];exact hx
      obtain⟨o,ho,rfl⟩:=Option.map_eq_some_iff.mp hx'
      have hi:i < ss.length:=(List.getElem?_eq_some_iff.mp ho).1
      have hi7:i≤6:=by have:=m.ls;omega
      have lE:(j0 (ss.take i)).length≤128:=by
        have h1:=yv ss i (Nat.le_of_lt hi)
        have h2:2 ^ i≤2 ^ 6:=Nat.pow_le_pow_right (by decide) hi7
        omega
      have l30:∀ s∈j0 (ss.take i),s.length≤30:=fun s hs=>by rw [((rE m.os i (Nat.le_of_lt hi) s).mp hs).len];omega
      obtain⟨c',lp⟩:=Ka (td:=td) (A:=(h++g).length) (o:=o) lE l30 hk rfl c
      have s1:aE (gN 3) (aM ak) [some td,some (.ref k),some (bS o),b,c] (h++g)=.nx [some td,some (.ref k),some (bS o),some (.ref (h++g).length),c] (h++g++[.lst []]):=aD (gB (xs:=[]) rfl (Nat.zero_le _))
      have s2:fm (ek (aa 1)) (gN 4) iP [some td,some (.ref k),some (bS o),some (.ref (h++g).length),c] (h++g++[.lst []])=.nx [some td,some (.ref k),some (bS o),some (.ref (h++g).length),c'] (h++g++[.lst ((gP (j0 (ss.take i)) o).map af)]):=eV (dG rfl (cx _ hk)) lp
      refine⟨_,rfl,_,_,(aI s1).trans ((aI s2).trans (aD rfl)),(h++g).length,g++[.lst ((gP (j0 (ss.take i)) o).map af)],_,_,_,rfl,by rw [List.append_assoc],?_⟩
      rw [nV ho];exact List.getElem?_concat_length) ⟨A,[.lst [.tup []]],none,none,none,rfl,rfl,by rw [List.take_zero];exact fG hA _⟩
  have l0:0 + (ss.map bS).length=ss.length:=by rw [List.length_map,Nat.zero_add]
  rw [l0,List.take_length] at e3
  rw [e1,e2] at q
  rw [e2] at e3
  refine⟨k,g,?_,e3⟩
  have a2:fAt (aa 0) (fC (.int 2)) [some td,some (.ref A),none,none,none] (h++[.lst [.tup []]])=.ok (.ref sk) (h++[.lst [.tup []]]):=by rw [htd];exact aZ rfl rfl rfl rfl
  exact (cG rfl rfl ((aI (aD (fk hA (ag (eU (xs:=[]) rfl (Nat.zero_le _)) rfl) (by exact of_decide_eq_true rfl)))).trans ((aI (eV (dG a2 (cx _ m.st)) q)).trans (bp rfl)))).trans ft
end Fm
set_option linter.all false
namespace Fm
def leB (a b:List Int):Bool:=(a.zip b).all fun p=>decide (p.1≤p.2)
theorem Fk {n:Nat}{a b:List Int}(la:a.length=n)(lb:b.length=n):leB a b=true ↔ ∀ i,i < n→a.getD i 0≤b.getD i 0:=by
  unfold leB
  rw [List.all_eq_true]
  constructor
  · intro q i hi
    have h1:i < a.length:=by omega
    have h2:i < b.length:=by omega
    have:=q (a[i],b[i]) (List.mem_iff_getElem?.mpr ⟨i,by rw [List.getElem?_zip_eq_some];exact⟨List.getElem?_eq_getElem h1,List.getElem?_eq_getElem h2⟩⟩)
    rw [List.getD_eq_getElem?_getD,List.getD_eq_getElem?_getD,List.getElem?_eq_getElem h1,List.getElem?_eq_getElem h2]
    exact of_decide_eq_true this
  · intro q x hx
    obtain⟨i,hi⟩:=List.mem_iff_getElem?.mp hx
    obtain⟨h1,h2⟩:=List.getElem?_zip_eq_some.mp hi
    have:=q i (by rw [← la];exact (List.getElem?_eq_some_iff.mp h1).1)
    rw [List.getD_eq_getElem?_getD,List.getD_eq_getElem?_getD,h1,h2] at this
    exact decide_eq_true this
theorem i5 {n:Nat}{a b:List Int}(la:a.length=n)(lb:b.length=n):leB a b=true ↔ LeS a b:=by
  rw [Fk la lb]
  constructor
  · intro q i
    by_cases hi:i < n
    · exact q i hi
    · rw [List.getD_eq_getElem?_getD,List.getElem?_eq_none (by omega),List.getD_eq_getElem?_getD,List.getElem?_eq_none (by omega)];exact Int.le_refl _
  · intro q i _;exact q i
theorem rF {l:List D}(hd:gn l≤20):eqL l [] = some l.isEmpty:=by
  unfold eqL
  rw [if_pos hd]
  cases l with
  | nil=>rfl
  | cons x l=>exact if_neg (Nat.succ_ne_zero _)
theorem Ba:∀ (l:List Int),gn (l.map D.int)≤20
  | []=>Nat.zero_le _
  | x :: l=>by
    rw [List.map_cons,gn]
    exact Nat.max_le.mpr ⟨Nat.zero_le _,Ba l⟩
theorem o7:∀ (ss:List (List Int)),gn (ss.map af)≤20
  | []=>Nat.zero_le _
  | x :: l=>by
    simp only [List.map_cons,gn,E2]
    exact Nat.max_le.mpr ⟨by decide,o7 l⟩
theorem yx {h:Hd}{a c:Nat}{l k:List D}{b:Bool}(h1:h[a]? = some (.lst l))(h2:h[c]? = some (.lst k))(e:eqL l k=some b):oEq (.ref a) (.ref c) h=.ok (.bl b) h:=by
  simp only [oEq,eqG,gp,h1,h2,e]
theorem yy {h:Hd}{a c:Nat}{l k:List D}{b:Bool}(h1:h[a]? = some (.lst l))(h2:h[c]? = some (.lst k))(e:eqL l k=some b):oNe (.ref a) (.ref c) h=.ok (.bl (!b)) h:=by
  simp only [oNe,eqG,gp,h1,h2,e]
theorem jy {n:Nat}(hn:n≤30){a b:List Int}(la:a.length=n)(lb:b.length=n)(h:Hd):bC [af a,af b] h=.ok (.bl (leB a b)) h:=by
  obtain⟨A,hA⟩ : ∃ A,A=h.length:=⟨_,rfl⟩
  have lz:(a.map D.int).length=n:=by rw [List.length_map,la]
  obtain⟨q,hq⟩ : ∃ q:Nat→Bool,q=fun i=>decide (b.getD i 0 < a.getD i 0):=⟨_,rfl⟩
  obtain⟨xs,hxs⟩ : ∃ xs:List D,xs=((List.range n).filter q).map fun k:Nat=>D.int k:=⟨_,rfl⟩
  have cp:cX none ((List.range n).map fun k:Nat=>D.int k) (gN 0) [(tE (aj oGt (fAt (aa 1) (aa 0)) (fAt (aa 2) (aa 0))))] (aa 0) ((List.range n).map fun k:Nat=>D.int k) [none,some (af a),some (af b)] h=.ok xs h:=by
    have:=cw (g:=none) (all:=(List.range n).map fun k:Nat=>D.int k) (tg:=gN 0) (cs:=[(tE (aj oGt (fAt (aa 1) (aa 0)) (fAt (aa 2) (aa 0))))]) (e:=aa 0) (h:=h) (I:=fun σ=>∃ x,σ = [x,some (af a),some (af b)]) (fun d=>match d with | .int i=>q i.toNat|_=>false) (fun d=>d) trivial (xs:=(List.range n).map fun k:Nat=>D.int k) (σ:=[none,some (af a),some (af b)]) (by
      rintro x hx σ ⟨u,rfl⟩
      obtain⟨i,hi,rfl⟩:=List.mem_map.mp hx
      have hi:=List.mem_range.mp hi
      refine⟨_,rfl,⟨_,rfl⟩,oS ?_,fun _=>rfl⟩
      show _=Res.ok (q i) h
      rw [hq]
      exact aJ (am (aZ rfl rfl rfl (jT (by rw [la];exact hi))) (aZ rfl rfl rfl (jT (by rw [lb];exact hi))) rfl)) ⟨_,rfl⟩
    rw [this,List.map_id',List.filter_map,hxs]
    rfl
  have ds:gn xs≤20:=by
    have:=Ba (((List.range n).filter q).map fun k:Nat=>(k:Int))
    rw [List.map_map] at this
    rw [hxs];exact this
  have lx:xs.length≤SZ:=by
    rw [hxs,List.length_map]
    exact Nat.le_trans (List.length_filter_le _ _) (by rw [List.length_range];exact i3 hn)
  have eqq:xs.isEmpty=leB a b:=by
    apply Bool.eq_iff_iff.mpr
    rw [Fk la lb,List.isEmpty_iff,hxs,List.map_eq_nil_iff,List.filter_eq_nil_iff]
    constructor
    · intro z i hi
      have:=z i (List.mem_range.mpr hi)
      rw [hq] at this
      exact Int.not_lt.mp fun c=>this (decide_eq_true c)
    · intro z i hi c
      rw [hq] at c
      exact absurd (z i (List.mem_range.mp hi)) (Int.not_le.mpr (of_decide_eq_true c))
  have e1:aM (bJ 1 [0,1] (bL (cY (lOf (aa 0)))) (gN 0) [(tE (aj oGt (fAt (aa 1) (aa 0)) (fAt (aa 2) (aa 0))))] (aa 0)) [some (af a),some (af b)] h=.ok (.ref A) (h++[.lst xs]):=fk hA (cF (c9 (eg (cM rfl rfl)) (by rw [lz];exact i3 hn)) (by rw [lz];exact cp)) lx
  have e2:aM ak [some (af a),some (af b)] (h++[.lst xs])=.ok (.ref (A + 1)) (h++[.lst xs,.lst []]):=cE (g:=[.lst xs]) (xs:=[]) hA rfl (Nat.zero_le _)
  have e3:=yx (h:=h++[.lst xs,.lst []]) (a:=A) (c:=A + 1) (bQ hA 0) (bQ hA 1) (rF ds)
  rw [eqq] at e3
  exact (cG rfl rfl (bp (am e1 e2 e3))).trans (dg rfl)
def Mh:D→List Int
  | .tup l=>l.map fun d=>match d with | .int i=>i|_=>0
  | _=>[]
theorem Fl (s:List Int):Mh (af s)=s:=by
  show (s.map D.int).map _=s
  rw [List.map_map];exact List.map_id' s
theorem hV {E:List (List Int)}{k:Nat}{t:TF}{cp:Sd}{h:Hd}(p:List Int→Bool)(hk:h[k]? = some (.lst (E.map af)))(ht:∀ s∈E,t (some (af s) :: cp) h=.ok (p s) h)(a:Option D):cX (some k) (E.map af) (gN 0) [t] (aa 0) (E.map af) (a :: cp) h=.ok ((E.filter p).map af) h:=by
  have:=cw (g:=some k) (all:=E.map af) (tg:=gN 0) (cs:=[t]) (e:=aa 0) (h:=h) (I:=fun σ=>∃ x,σ = x :: cp) (fun d=>p (Mh d)) (fun d=>d) hk (xs:=E.map af) (σ:=a :: cp) (by
    rintro x hx σ ⟨u,rfl⟩
    obtain⟨s,hs,rfl⟩:=List.mem_map.mp hx
    refine⟨_,rfl,⟨_,rfl⟩,oS ?_,fun _=>rfl⟩
    rw [Fl];exact ht s hs) ⟨_,rfl⟩
  rw [this,List.map_id',List.filter_map]
  have e:((fun d=>p (Mh d)) ∘ af)=p:=funext fun s=>by show p (Mh (af s))=p s;rw [Fl]
  rw [e]
section
variable {w:Web} {n:Nat} {a b:List Int}
structure eW (w:Web) (n:Nat) (a:List Int):Prop where
  fit:bU w n a
  rest:bM w n a=a
theorem eW.hist (R:eW w n a):∀ k,hist w n a k=a
  | 0=>rfl
  | k + 1=>by rw [Fm.hist,R.hist k];exact R.rest
structure Fo (w:Web) (n:Nat) (a b U:List Int):Prop where
  r:eW w n U
  ab:LeS a U∧LeS b U
  le:∀ c,eW w n c→LeS a c→LeS b c→LeS U c
structure Fp (w:Web) (n:Nat) (a b U:List Int):Prop where
  r:eW w n U
  ab:LeS U a∧LeS U b
  le:∀ c,eW w n c→LeS c a→LeS c b→LeS c U
theorem Kb (W:w.Ok n)(A:eW w n a)(B:eW w n b)(h:Hd):bN [w.enc,af a,af b] h=.ok .non h:=by
  have r1:=jW W A.fit h
  have r2:=jW W B.fit h
  rw [decide_eq_true A.rest] at r1
  rw [decide_eq_true B.rest] at r2
  exact (Jx rfl rfl ((aI (ee (aw (iB (bI rfl rfl)) (jx (lN W A.fit h))))).trans ((aI (ee (aw (iB (bI rfl rfl)) (jx (lN W B.fit h))))).trans (yt (jn (bV (b:=true) (aJ (aw (bI rfl rfl) r1))) (bV (b:=true) (aJ (aw (bI rfl rfl) r2)))))))).trans aS
theorem Mi (W:w.Ok n)(hn:n≤30)(S:cN w)(M:nn w w n)(A:eW w n a)(B:eW w n b):∃ U,Fo w n a b U ∧ ∀ h,eo [w.enc,af a,af b] h=.ok (af U) h:=by
  obtain⟨t,ht,e⟩:=Gf W S M A.fit B.fit A.rest B.rest
  have Fm:=A4 W A.fit B.fit
  have l:=JJ A.fit B.fit
  have up:∀ c,eW w n c→LeS c (lW a b) → ∀ k,LeS c (hist w n (lW a b) k):=fun c C le k=>by
    have:=fU W W S S M C.fit Fm le k
    rwa [C.hist] at this
  refine⟨hist w n (lW a b) t,⟨⟨bK W S Fm t,e⟩,⟨up a A l.1 t,up b B l.2 t⟩,fun c C h1 h2 => ?_⟩,fun h => ?_⟩
  · have:=fU W W S S M Fm C.fit (E8 A.fit B.fit h1 h2) t
    rwa [C.hist] at this
  · have c:=A3 (g:=fun x y=>if y > x then y else x) (E:=uC (aa 0) (aa 1)) (fun _ _ _=>rfl) a b none none h
    have q:=xg W S Fm e (Nat.le_trans ht (Nat.le_trans hn (by decide))) h
    have tl:eP (bJ 2 [] (FU (aa 1) (aa 2)) (gT [0,1]) [] (uC (aa 0) (aa 1))) [some w.enc,some (af a),some (af b)] h=.ok (af (lW a b)) h:=jS (cF rfl c)
    exact (cG (σ:=[some w.enc,some (af a),some (af b)]) rfl rfl ((aI (ee (aw (iB (ag rfl (bI rfl rfl))) (Kb W A B h)))).trans (No (bp (aw (ag rfl (ag tl rfl)) q))))).trans aS
theorem Mj (W:w.Ok n)(hn:n≤30)(S:cN w)(M:nn w w n)(A:eW w n a)(B:eW w n b):∃ U,Fp w n a b U ∧ ∀ h,jZ [w.enc,af a,af b] h=.ok (af U) h:=by
  obtain⟨t,ht,e⟩:=Gg W S M A.fit B.fit A.rest B.rest
  have Fm:=A5 W A.fit B.fit
  have l:=JK A.fit B.fit
  have up:∀ c,eW w n c→LeS (lX a b) c → ∀ k,LeS (hist w n (lX a b) k) c:=fun c C le k=>by
    have:=fU W W S S M Fm C.fit le k
    rwa [C.hist] at this
  refine⟨hist w n (lX a b) t,⟨⟨bK W S Fm t,e⟩,⟨up a A l.1 t,up b B l.2 t⟩,fun c C h1 h2 => ?_⟩,fun h => ?_⟩
  · have:=fU W W S S M C.fit Fm (E9 A.fit B.fit h1 h2) t
    rwa [C.hist] at this
  · have c:=A3 (g:=fun x y=>if y < x then y else x) (E:=IW (aa 0) (aa 1)) (fun _ _ _=>rfl) a b none none h
    have q:=xg W S Fm e (Nat.le_trans ht (Nat.le_trans hn (by decide))) h
    have tl:eP (bJ 2 [] (FU (aa 1) (aa 2)) (gT [0,1]) [] (IW (aa 0) (aa 1))) [some w.enc,some (af a),some (af b)] h=.ok (af (lX a b)) h:=jS (cF rfl c)
    exact (cG (σ:=[some w.enc,some (af a),some (af b)]) rfl rfl ((aI (ee (aw (iB (ag rfl (bI rfl rfl))) (Kb W A B h)))).trans (No (bp (aw (ag rfl (ag tl rfl)) q))))).trans aS
abbrev NRx:D:=.exn "NoRest" []
theorem Ml {d1 d2:D}{h:Hd}(f:d5 [w.enc,d1] h=.ok (.bl false) h):bN [w.enc,d1,d2] h=.exc NSx h :=
  o4 rfl rfl (rq (rA (jw (iB (bI rfl rfl)) (xk f))))
theorem Mm {d1 d2:D}{h:Hd}(g:d5 [w.enc,d1] h=.ok (.bl true) h)(f:d5 [w.enc,d2] h=.ok (.bl false) h):bN [w.enc,d1,d2] h=.exc NSx h :=
  o4 rfl rfl ((aI (ee (aw (iB (bI rfl rfl)) (jx g)))).trans (rq (rA (jw (iB (bI rfl rfl)) (xk f)))))
theorem Kc (W:w.Ok n)(A:bU w n a)(B:bU w n b)(ne:bM w n a≠a∨bM w n b≠b)(h:Hd):bN [w.enc,af a,af b] h=.exc NRx h:=by
  have r1:=jW W A h
  have r2:=jW W B h
  have t:tOr (cK (tE (au fy (ad (aa 0) (ad (aa 1) ak))))) (cK (tE (au fy (ad (aa 0) (ad (aa 2) ak))))) [some w.enc,some (af a),some (af b)] h=.ok true h:=by
    by_cases ra:bM w n a=a
    · rw [decide_eq_true ra] at r1
      rw [decide_eq_false (ne.resolve_left fun z=>z ra)] at r2
      exact jn (bV (b:=true) (aJ (aw (bI rfl rfl) r1))) (bV (b:=false) (aJ (aw (bI rfl rfl) r2)))
    · rw [decide_eq_false ra] at r1
      exact CB (bV (b:=false) (aJ (aw (bI rfl rfl) r1)))
  exact o4 rfl rfl ((aI (ee (aw (iB (bI rfl rfl)) (jx (lN W A h))))).trans ((aI (ee (aw (iB (bI rfl rfl)) (jx (lN W B h))))).trans (Fg t)))
end
noncomputable def Kd (v:Int):Fn:=if v=0 then eo else jZ
noncomputable abbrev ASK:SF:=qO (tE (aj oEq (aa 1) (fC (.int 0)))) (aE (gN 5) (au eo (fPl (ad (aa 0) (ad (aa 2) (ad (aa 3) ak)))))) (aE (gN 5) (au jZ (fPl (ad (aa 0) (ad (aa 2) (ad (aa 3) ak))))))
theorem Bb {x d1 d2 U:D}{v:Int}(hv:v=0∨v=1){h:Hd}(q:Kd v [x,d1,d2] h=.ok U h):cZ [x,.int v,d1,d2] h=.ok (.ref h.length) (h++[.lst [U]]):=by
  have t:ASK [some x,some (.int v),some d1,some d2,some .non,some .non,none] h=.nx [some x,some (.int v),some d1,some d2,some .non,some U,none] h:=by
    rcases hv with rfl|rfl
    · exact (Nm (aJ (am rfl rfl (ng rfl)))).trans (aD (aw (iB (ag rfl (bI rfl rfl))) q))
    · exact (yt (aJ (am rfl rfl (kS (by decide))))).trans (aD (aw (iB (ag rfl (bI rfl rfl))) q))
  exact (cG (σ:=[some x,some (.int v),some d1,some d2,none,none,none]) rfl rfl ((aI (aD (d:=.non) rfl)).trans ((aI (aD (d:=.non) rfl)).trans ((aI (O0 t)).trans (qu ((kF (aJ (am (x:=.non) rfl rfl rfl))).trans (bp (gB (ag rfl rfl))))))))).trans ft
def BL (j:Int):List D:=((List.range 9).map fun k:Nat=>D.bl (decide ((k:Int)=j)))++[.bl true]
theorem Ke {c:String} {j:Int} (e:(c = "NoStand" ∧ j=0)∨(c = "NoRest" ∧ j=1)) (h:Hd):∃ k g,jv [.exn c []] h=.ok (.ref k) (h++g)∧(h++g)[k]? = some (.lst (BL j)):=by
  obtain⟨A,hA⟩ : ∃ A,A=h.length:=⟨_,rfl⟩
  obtain⟨x,hx⟩ : ∃ x:D,x=.exn c []:=⟨_,rfl⟩
  obtain⟨b1,hb1⟩ : ∃ b1,b1=decide ((0:Int)=j):=⟨_,rfl⟩
  obtain⟨b2,hb2⟩ : ∃ b2,b2=decide ((1:Int)=j):=⟨_,rfl⟩
  have l1 : [("NoStand",true),("NoRest",false)].lookup c=some b1:=by rw [hb1];rcases e with ⟨rfl,rfl⟩|⟨rfl,rfl⟩<;>decide
  have l2 : [("NoStand",false),("NoRest",true)].lookup c=some b2:=by rw [hb2];rcases e with ⟨rfl,rfl⟩|⟨rfl,rfl⟩<;>decide
  have l3 : [("NoStand",false),("NoRest",false)].lookup c=some false:=by rcases e with ⟨rfl,rfl⟩|⟨rfl,rfl⟩<;>decide
  have l4 : [("NoStand",true),("NoRest",true)].lookup c=some true:=by rcases e with ⟨rfl,rfl⟩|⟨rfl,rfl⟩<;>decide
  have iX:∀ {tb:List (String × Bool)} {b:Bool} (y:Option D) (g:Hd),tb.lookup c=some b→fK tb (aa 0) [some x,y] g=.ok (.bl b) g:=fun y g q=>O6 (c:=c) (l:=[]) (by rw [hx];rfl) q
  have bl:BL j=[.bl b1,.bl b2,.bl false]++[.bl false,.bl false,.bl false]++[.bl false,.bl false,.bl false]++[.bl true]:=by rw [hb1,hb2];rcases e with ⟨rfl,rfl⟩|⟨rfl,rfl⟩<;>rfl
  have s0:sIf (tE (aj nG (aa 0) (fC .non))) (bo (aM ak)) bB [some x,none] h=.nx [some x,none] h:=dA (aJ (am (x:=x) rfl rfl (by rw [hx];rfl)))
  obtain⟨C0,hC0⟩ : ∃ C0:dk,C0=.lst [.bl b1,.bl b2,.bl false]:=⟨_,rfl⟩
  obtain⟨C1,hC1⟩ : ∃ C1:dk,C1=.lst [.bl false,.bl false,.bl false]:=⟨_,rfl⟩
  obtain⟨C2,hC2⟩ : ∃ C2:dk,C2=.lst ([.bl b1,.bl b2,.bl false]++[.bl false,.bl false,.bl false]):=⟨_,rfl⟩
  obtain⟨C4,hC4⟩ : ∃ C4:dk,C4=.lst ([.bl b1,.bl b2,.bl false]++[.bl false,.bl false,.bl false]++[.bl false,.bl false,.bl false]):=⟨_,rfl⟩
  obtain⟨C5,hC5⟩ : ∃ C5:dk,C5=.lst [.bl true]:=⟨_,rfl⟩
  have s1:aE (gN 1) (aM (ad (fK [("NoStand",true),("NoRest",false)] (aa 0)) (ad (fK [("NoStand",false),("NoRest",true)] (aa 0)) (ad (fK [("NoStand",false),("NoRest",false)] (aa 0)) ak)))) [some x,none] h=.nx [some x,some (.ref A)] (h++[C0]):=by
    rw [hC0];exact aD (fk hA (ag (iX _ _ l1) (bI (iX _ _ l2) (iX _ _ l3))) (by exact of_decide_eq_true rfl))
  have n3:∀ (k:Nat) (g:Hd),aM (ad (fK [("NoStand",false),("NoRest",false)] (aa 0)) (ad (fK [("NoStand",false),("NoRest",false)] (aa 0)) (ad (fK [("NoStand",false),("NoRest",false)] (aa 0)) ak))) [some x,some (.ref k)] (h++g)=.ok (.ref (A + g.length)) (h++(g++[C1])):=fun k g=>by
    rw [hC1];exact cE hA (ag (iX _ _ l3) (bI (iX _ _ l3) (iX _ _ l3))) (by exact of_decide_eq_true rfl)
  have s2:aE (gN 1) (aM (gK (aa 1) (aM (ad (fK [("NoStand",false),("NoRest",false)] (aa 0)) (ad (fK [("NoStand",false),("NoRest",false)] (aa 0)) (ad (fK [("NoStand",false),("NoRest",false)] (aa 0)) ak)))))) [some x,some (.ref A)] (h++[C0])=.nx [some x,some (.ref (A + 2))] (h++[C0,C1,C2]):=by
    rw [hC2]
    exact aD (cE (g:=[C0,C1]) hA (lQ rfl (n3 A [C0]) (by rw [hC0];exact bQ hA 0) (by rw [hC1];exact bQ hA 1) (by exact of_decide_eq_true rfl)) (by exact of_decide_eq_true rfl))
  have s3:aE (gN 1) (aM (gK (aa 1) (aM (ad (fK [("NoStand",false),("NoRest",false)] (aa 0)) (ad (fK [("NoStand",false),("NoRest",false)] (aa 0)) (ad (fK [("NoStand",false),("NoRest",false)] (aa 0)) ak)))))) [some x,some (.ref (A + 2))] (h++[C0,C1,C2])=.nx [some x,some (.ref (A + 4))] (h++[C0,C1,C2,C1,C4]):=by
    rw [hC4]
    exact aD (cE (g:=[C0,C1,C2,C1]) hA (lQ rfl (n3 (A + 2) [C0,C1,C2]) (by rw [hC2];exact bQ hA 2) (by rw [hC1];exact bQ hA 3) (by exact of_decide_eq_true rfl)) (by exact of_decide_eq_true rfl))
  have n1:aM (ad (fK [("NoStand",true),("NoRest",true)] (aa 0)) ak) [some x,some (.ref (A + 4))] (h++[C0,C1,C2,C1,C4])=.ok (.ref (A + 5)) (h++[C0,C1,C2,C1,C4,C5]):=by
    rw [hC5];exact cE (g:=[C0,C1,C2,C1,C4]) hA (ag (iX _ _ l4) rfl) (by exact of_decide_eq_true rfl)
  have s4:bo (aM (gK (aa 1) (aM (ad (fK [("NoStand",true),("NoRest",true)] (aa 0)) ak)))) [some x,some (.ref (A + 4))] (h++[C0,C1,C2,C1,C4])=.rt (.ref (A + 6)) (h++[C0,C1,C2,C1,C4,C5,.lst (BL j)]):=by
    rw [bl]
    exact bp (cE (g:=[C0,C1,C2,C1,C4,C5]) hA (lQ rfl n1 (by rw [hC4];exact bQ hA 4) (by rw [hC5];exact bQ hA 5) (by exact of_decide_eq_true rfl)) (by exact of_decide_eq_true rfl))
  refine⟨A + 6,[C0,C1,C2,C1,C4,C5,.lst (BL j)],?_,bQ hA 6⟩
  rw [← hx]
  exact (cG (σ:=[some x,none]) rfl rfl ((aI s0).trans ((aI s1).trans ((aI s2).trans ((aI s3).trans s4))))).trans ft
theorem sV {x d1 d2:D} {v:Int} (hv:v=0∨v=1) {c:String} {j:Int} (e:(c = "NoStand" ∧ j=0)∨(c = "NoRest" ∧ j=1)) {h:Hd} (q:bN [x,d1,d2] h=.exc (.exn c []) h):∃ k g,cZ [x,.int v,d1,d2] h=.ok (.ref k) (h++g)∧(h++g)[k]? = some (.lst (BL j)):=by
  obtain⟨k,g,r1,r2⟩:=Ke e h
  refine⟨k,g,?_,r2⟩
  have t:ASK [some x,some (.int v),some d1,some d2,some .non,some .non,none] h=.exc (.exn c []) [some x,some (.int v),some d1,some d2,some .non,some .non,none] h:=by
    have j1:eo [x,d1,d2] h=.exc (.exn c []) h:=o4 rfl rfl (rq (rA (jw (iB (ag rfl (bI rfl rfl))) q)))
    have j2:jZ [x,d1,d2] h=.exc (.exn c []) h:=o4 rfl rfl (rq (rA (jw (iB (ag rfl (bI rfl rfl))) q)))
    rcases hv with rfl|rfl
    · exact (Nm (aJ (am rfl rfl (ng rfl)))).trans (Fj (jw (iB (ag rfl (bI rfl rfl))) j1))
    · exact (yt (aJ (am rfl rfl (kS (by decide))))).trans (Fj (jw (iB (ag rfl (bI rfl rfl))) j2))
  have mc:c∈["NoStand", "NoRest"]:=by rcases e with ⟨rfl,_⟩|⟨rfl,_⟩<;>decide
  have s3:AE 7 4 ["NoStand", "NoRest"] ASK [some x,some (.int v),some d1,some d2,some .non,some .non,none] h=.nx [none,none,none,none,some (.exn c []),none,none] h:=O4 t mc
  exact (cG (σ:=[some x,some (.int v),some d1,some d2,none,none,none]) rfl rfl ((aI (aD (d:=.non) rfl)).trans ((aI (aD (d:=.non) rfl)).trans ((aI s3).trans ((aI (dA (aJ (am (x:=.exn c []) rfl rfl rfl)))).trans (bp (aw (ag rfl rfl) r1))))))).trans ft
theorem O8 (j:Int)(h:Hd):∃ k g,nU [.int j] h=.ok (.ref k) (h++g)∧(h++g)[k]? = some (.lst (BL j)):=by
  obtain⟨A,hA⟩ : ∃ A,A=h.length:=⟨_,rfl⟩
  obtain⟨L9,hL9⟩ : ∃ L9:List D,L9=(List.range 9).map fun k:Nat=>D.bl (decide ((k:Int)=j)):=⟨_,rfl⟩
  have l9:L9.length=9:=by rw [hL9,List.length_map,List.length_range]
  have cp:cX none ((List.range 9).map fun k:Nat=>D.int k) (gN 0) [] (aj oEq (aa 0) (aa 1)) ((List.range 9).map fun k:Nat=>D.int k) [none,some (.int j)] h=.ok L9 h:=by
    have:=cw (g:=none) (all:=(List.range 9).map fun k:Nat=>D.int k) (tg:=gN 0) (cs:=[]) (e:=aj oEq (aa 0) (aa 1)) (h:=h) (I:=fun σ=>∃ x,σ = [x,some (.int j)]) (fun _=>true) (fun d=>match d with | .int i=>.bl (decide (i=j))|_=>.non) trivial (xs:=(List.range 9).map fun k:Nat=>D.int k) (σ:=[none,some (.int j)]) (by
      rintro x hx σ ⟨u,rfl⟩
      obtain⟨i,hi,rfl⟩:=List.mem_map.mp hx
      exact⟨_,rfl,⟨_,rfl⟩,rfl,fun _=>rfl⟩) ⟨_,rfl⟩
    rw [this,List.filter_eq_self.mpr (fun _ _=>rfl),List.map_map,hL9];rfl
  have e1:aM (bJ 1 [0] (bL (fC (.int 9))) (gN 0) [] (aj oEq (aa 0) (aa 1))) [some (.int j)] h=.ok (.ref A) (h++[.lst L9]):=fk hA (cF (c9 (n:=9) rfl (by decide)) cp) (by rw [l9];decide)
  have e2:aM (ad (fC (.bl true)) ak) [some (.int j)] (h++[.lst L9])=.ok (.ref (A + 1)) (h++[.lst L9,.lst [.bl true]]):=cE (g:=[.lst L9]) hA (ag rfl rfl) (by exact of_decide_eq_true rfl)
  have e3:gK (aM (bJ 1 [0] (bL (fC (.int 9))) (gN 0) [] (aj oEq (aa 0) (aa 1)))) (aM (ad (fC (.bl true)) ak)) [some (.int j)] h=.ok (L9++[.bl true]) (h++[.lst L9,.lst [.bl true]]):=lQ e1 e2 (bQ hA 0) (bQ hA 1) (by rw [l9];decide)
  refine⟨A + 2,[.lst L9,.lst [.bl true],.lst (L9++[.bl true])],?_,(bQ hA 2).trans (by rw [hL9];rfl)⟩
  exact (cG rfl rfl (bp (cE (g:=[.lst L9,.lst [.bl true]]) hA e3 (by rw [List.length_append,l9];decide)))).trans ft
theorem O9 {j:Int}(hj:j=0∨j=1):eqL (BL j) (BL j)=some true:=by
  rcases hj with rfl|rfl<;>simp [BL,eqL,fN,peq,gn,dep,List.range,List.range.loop]
end Fm
set_option linter.all false
namespace Fm
theorem C3 {h:Hd}{K:Nat}{R:List (List Int)}{n:Nat}{U:List Int}(hK:h[K]? = some (.lst (R.map af)))(lR:∀ s∈R,s.length=n)(lU:U.length=n):inR h (af U) (.ref K)=some (decide (U∈R)):=by
  have r1:qM (R.map af)=some R:=qp R
  have r2:qM [af U] = some [U]:=qp [U]
  have c:∀ z∈R,z.length=U.length:=fun z hz=>by rw [lR z hz,lU]
  simp only [inR,gp,hK,r1,r2,if_pos c]
theorem Mn {e:EF}{σ:Sd}{h:Hd}{U:List Int}(q:e σ h=.ok (af U) h):ed .tuple e σ h=.ok (.bl true) h:=by
  simp only [ed,q,aH];rfl
section
variable {w:Web} {n:Nat} {a b U:List Int} {h:Hd} {k K:Nat} {R:List (List Int)}
theorem Kf (hn:n≤30)(hR:∀ s,s∈R ↔ eW w n s)(lz:R.length≤SZ)(hK:h[K]? = some (.lst (R.map af)))(hk:h[k]? = some (.lst [af U]))(A:eW w n a)(B:eW w n b){v:Int}(hv:(v=0∧Fo w n a b U)∨(v=1∧Fp w n a b U)):er [.ref k,.ref K,af a,af b,.int v] h=.ok (.bl true) h:=by
  obtain⟨P,hP⟩ : ∃ P,P=h.length:=⟨_,rfl⟩
  have lR:∀ s∈R,s.length=n:=fun s hs=>((hR s).mp hs).fit.len
  have rU:eW w n U:=by rcases hv with ⟨_,J⟩|⟨_,J⟩<;>exact J.r
  have mU:U∈R:=(hR U).mpr rU
  have la:=A.fit.len
  have lb:=B.fit.len
  have lU:=rU.fit.len
  have a0:∀ (y z u:Option D),fAt (aa 0) (fC (.int 0)) [some (.ref k),some (.ref K),some (af a),some (af b),some (.int v),y,z,u] h=.ok (af U) h:=fun y z u=>aZ rfl rfl (aQ hk) rfl
  have ni:lK (af U) (.ref K) h=.ok (.bl false) h:=by
    simp only [lK,C3 hK lR lU,decide_eq_true mU];rfl
  have s1:sIf (tOr (tE (aj oNe (cY (lOf (aa 0))) (fC (.int 1)))) (tOr (cK (tE (ed .tuple (fAt (aa 0) (fC (.int 0)))))) (tE (aj lK (fAt (aa 0) (fC (.int 0))) (aa 1))))) (bo (fC (.bl false))) bB [some (.ref k),some (.ref K),some (af a),some (af b),some (.int v),none,none,none] h=.nx [some (.ref k),some (.ref K),some (af a),some (af b),some (.int v),none,none,none] h :=
    dA (jn (aJ (am (eg (cM rfl (aQ hk))) rfl rfl)) (jn (bV (b:=true) (aJ (Mn (a0 _ _ _)))) (aJ (am (a0 _ _ _) rfl ni))))
  have s2:aE (gN 5) (fAt (aa 0) (fC (.int 0))) [some (.ref k),some (.ref K),some (af a),some (af b),some (.int v),none,none,none] h=.nx [some (.ref k),some (.ref K),some (af a),some (af b),some (.int v),some (af U),none,none] h:=aD (a0 _ _ _)
  have both:∀ {t u:TF} {σ:Sd} {x y:Bool},t σ h=.ok x h→u σ h=.ok y h→iR t u σ h=.ok (x && y) h:=fun {t u σ x y} p q=>by
    cases x with
    | true=>rw [Bool.true_and];exact jR p q
    | false=>rw [Bool.false_and];exact nO p
  rcases hv with ⟨rfl,J⟩|⟨rfl,J⟩
  · obtain⟨E,hE⟩ : ∃ E,E=R.filter fun s=>leB a s && leB b s:=⟨_,rfl⟩
    have lE:∀ s∈E,s.length=n:=fun s hs=>by rw [hE] at hs;exact lR s (List.mem_filter.mp hs).1
    have mE:U∈E:=by
      rw [hE];exact List.mem_filter.mpr ⟨mU,by rw [Bool.and_eq_true];exact⟨(i5 la lU).mpr J.ab.1,(i5 lb lU).mpr J.ab.2⟩⟩
    have c1:=hV (cp:=[some (af a),some (af b)]) (t:=iR (tE (au bC (ad (aa 1) (ad (aa 0) ak)))) (tE (au bC (ad (aa 2) (ad (aa 0) ak))))) (fun s=>leB a s && leB b s) hK (fun s hs=>both (aJ (aw (bI rfl rfl) (jy hn la (lR s hs) h))) (aJ (aw (bI rfl rfl) (jy hn lb (lR s hs) h)))) none
    rw [← hE] at c1
    have zE:(E.map af).length≤SZ:=by rw [List.length_map,hE];exact Nat.le_trans (List.length_filter_le _ _) lz
    have s3:aE (gN 6) (aM (bJ 1 [2,3] (ek (aa 1)) (gN 0) [(iR (tE (au bC (ad (aa 1) (ad (aa 0) ak)))) (tE (au bC (ad (aa 2) (ad (aa 0) ak)))))] (aa 0))) [some (.ref k),some (.ref K),some (af a),some (af b),some (.int 0),some (af U),none,none] h=.nx [some (.ref k),some (.ref K),some (af a),some (af b),some (.int 0),some (af U),some (.ref P),none] (h++[.lst (E.map af)]):=aD (fk hP (cF (dG rfl hK) c1) zE)
    have gE:(h++[.lst (E.map af)])[P]? = some (.lst (E.map af)):=fG hP _
    have i1:AF (af U) (.ref P) (h++[.lst (E.map af)])=.ok (.bl true) (h++[.lst (E.map af)]):=by simp only [AF,C3 gE lE lU,decide_eq_true mE]
    have c2:=hV (cp:=[some (af U)]) (t:=cK (tE (au bC (ad (aa 1) (ad (aa 0) ak))))) (fun s => !leB U s) gE (fun s hs=>bV (aJ (aw (bI rfl rfl) (jy hn lU (lE s hs) _)))) none
    have em:E.filter (fun s => !leB U s)=[]:=by
      rw [List.filter_eq_nil_iff]
      intro s hs
      rw [hE] at hs
      obtain⟨h1,h2⟩:=List.mem_filter.mp hs
      rw [Bool.and_eq_true] at h2
      have R1:=(hR s).mp h1
      rw [(i5 lU (lR s h1)).mpr (J.le s R1 ((i5 la (lR s h1)).mp h2.1) ((i5 lb (lR s h1)).mp h2.2))];decide
    rw [em] at c2
    have e1:aM (bJ 1 [5] (ek (aa 6)) (gN 0) [(cK (tE (au bC (ad (aa 1) (ad (aa 0) ak)))))] (aa 0)) [some (.ref k),some (.ref K),some (af a),some (af b),some (.int 0),some (af U),some (.ref P),none] (h++[.lst (E.map af)])=.ok (.ref (P + 1)) (h++[.lst (E.map af),.lst []]):=cE (g:=[.lst (E.map af)]) (xs:=[]) hP (cF (dG rfl gE) c2) (Nat.zero_le _)
    have e2:aM ak [some (.ref k),some (.ref K),some (af a),some (af b),some (.int 0),some (af U),some (.ref P),none] (h++[.lst (E.map af),.lst []])=.ok (.ref (P + 2)) (h++[.lst (E.map af),.lst [],.lst []]):=cE (g:=[.lst (E.map af),.lst []]) (xs:=[]) hP rfl (Nat.zero_le _)
    have e3:oEq (.ref (P + 1)) (.ref (P + 2)) (h++[.lst (E.map af),.lst [],.lst []])=.ok (.bl true) (h++[.lst (E.map af),.lst [],.lst []]):=yx (bQ hP 1) (bQ hP 2) (rF (l:=[]) (Nat.zero_le _))
    exact (cG (σ:=[some (.ref k),some (.ref K),some (af a),some (af b),some (.int 0),none,none,none]) rfl rfl ((aI s1).trans ((aI s2).trans (qu ((kF (aJ (am rfl rfl (ng rfl)))).trans ((aI s3).trans (bp (ma (jR (aJ (am rfl rfl i1)) (aJ (am e1 e2 e3)))))))))) ).trans (dg rfl)
  · obtain⟨E,hE⟩ : ∃ E,E=R.filter fun s=>leB s a && leB s b:=⟨_,rfl⟩
    have lE:∀ s∈E,s.length=n:=fun s hs=>by rw [hE] at hs;exact lR s (List.mem_filter.mp hs).1
    have mE:U∈E:=by
      rw [hE];exact List.mem_filter.mpr ⟨mU,by rw [Bool.and_eq_true];exact⟨(i5 lU la).mpr J.ab.1,(i5 lU lb).mpr J.ab.2⟩⟩
    have c1:=hV (cp:=[some (af a),some (af b)]) (t:=iR (tE (au bC (ad (aa 0) (ad (aa 1) ak)))) (tE (au bC (ad (aa 0) (ad (aa 2) ak))))) (fun s=>leB s a && leB s b) hK (fun s hs=>both (aJ (aw (bI rfl rfl) (jy hn (lR s hs) la h))) (aJ (aw (bI rfl rfl) (jy hn (lR s hs) lb h)))) none
    rw [← hE] at c1
    have zE:(E.map af).length≤SZ:=by rw [List.length_map,hE];exact Nat.le_trans (List.length_filter_le _ _) lz
    have s3:aE (gN 7) (aM (bJ 1 [2,3] (ek (aa 1)) (gN 0) [(iR (tE (au bC (ad (aa 0) (ad (aa 1) ak)))) (tE (au bC (ad (aa 0) (ad (aa 2) ak)))))] (aa 0))) [some (.ref k),some (.ref K),some (af a),some (af b),some (.int 1),some (af U),none,none] h=.nx [some (.ref k),some (.ref K),some (af a),some (af b),some (.int 1),some (af U),none,some (.ref P)] (h++[.lst (E.map af)]):=aD (fk hP (cF (dG rfl hK) c1) zE)
    have gE:(h++[.lst (E.map af)])[P]? = some (.lst (E.map af)):=fG hP _
    have i1:AF (af U) (.ref P) (h++[.lst (E.map af)])=.ok (.bl true) (h++[.lst (E.map af)]):=by simp only [AF,C3 gE lE lU,decide_eq_true mE]
    have c2:=hV (cp:=[some (af U)]) (t:=cK (tE (au bC (ad (aa 0) (ad (aa 1) ak))))) (fun s => !leB s U) gE (fun s hs=>bV (aJ (aw (bI rfl rfl) (jy hn (lE s hs) lU _)))) none
    have em:E.filter (fun s => !leB s U)=[]:=by
      rw [List.filter_eq_nil_iff]
      intro s hs
      rw [hE] at hs
      obtain⟨h1,h2⟩:=List.mem_filter.mp hs
      rw [Bool.and_eq_true] at h2
      have R1:=(hR s).mp h1
      rw [(i5 (lR s h1) lU).mpr (J.le s R1 ((i5 (lR s h1) la).mp h2.1) ((i5 (lR s h1) lb).mp h2.2))];decide
    rw [em] at c2
    have e1:aM (bJ 1 [5] (ek (aa 7)) (gN 0) [(cK (tE (au bC (ad (aa 0) (ad (aa 1) ak)))))] (aa 0)) [some (.ref k),some (.ref K),some (af a),some (af b),some (.int 1),some (af U),none,some (.ref P)] (h++[.lst (E.map af)])=.ok (.ref (P + 1)) (h++[.lst (E.map af),.lst []]):=cE (g:=[.lst (E.map af)]) (xs:=[]) hP (cF (dG rfl gE) c2) (Nat.zero_le _)
    have e2:aM ak [some (.ref k),some (.ref K),some (af a),some (af b),some (.int 1),some (af U),none,some (.ref P)] (h++[.lst (E.map af),.lst []])=.ok (.ref (P + 2)) (h++[.lst (E.map af),.lst [],.lst []]):=cE (g:=[.lst (E.map af),.lst []]) (xs:=[]) hP rfl (Nat.zero_le _)
    have e3:oEq (.ref (P + 1)) (.ref (P + 2)) (h++[.lst (E.map af),.lst [],.lst []])=.ok (.bl true) (h++[.lst (E.map af),.lst [],.lst []]):=yx (bQ hP 1) (bQ hP 2) (rF (l:=[]) (Nat.zero_le _))
    exact (cG (σ:=[some (.ref k),some (.ref K),some (af a),some (af b),some (.int 1),none,none,none]) rfl rfl ((aI s1).trans ((aI s2).trans ((aI (dA (aJ (am rfl rfl (kS (by decide)))))).trans ((aI s3).trans (bp (ma (jR (aJ (am rfl rfl i1)) (aJ (am e1 e2 e3)))))))))).trans (dg rfl)
end
theorem Fq (x:Int){m:Nat}(hm:1≤m):∃ q:Nat,x % m=q∧q < m:=⟨(x % m).toNat,by have:=Int.emod_nonneg x (show (m:Int)≠0 by omega);omega,by have:=Int.emod_lt_of_pos x (show (0:Int) < m by omega);omega⟩
theorem Mo {α : Type}(f : α → D)(d : α){l:List α}{i:Nat}(h:i < l.length):atI (l.map f) (i:Int)=some (f (l.getD i d)):=d8 (by rw [List.getElem?_map,List.getElem?_eq_getElem h,List.getD_eq_getElem?_getD,List.getElem?_eq_getElem h];rfl)
def Nf (w:Web) (h:Hd) (d:D):Prop:=(∀ g,d5 [w.enc,d] g=.ok (.bl false) g) ∨ ∃ k l,d=.ref k∧h[k]? = some (.lst l)
theorem Nf.fits {w:Web}{h:Hd}{d:D}(f:Nf w h d):d5 [w.enc,d] h=.ok (.bl false) h:=by
  rcases f with f|⟨k,l,rfl,e⟩
  · exact f h
  · exact o5 (by simp only [Ak,e];rfl)
theorem Nf.more {w:Web}{h:Hd}{d:D}(f:Nf w h d)(g:Hd):Nf w (h++g) d:=f.imp id fun ⟨k,l,e,q⟩=>⟨k,l,e,cx _ q⟩
theorem Gq {h g:Hd}{d:D}:∃ g',letGo h (.ok d (h++g))=.ok d (h++g')∧(g'=g∨pure? d=true):=by
  unfold letGo
  simp only
  split
  · rename_i z
    exact⟨[],by rw [List.take_left,List.append_nil],.inr z.1⟩
  · exact⟨g,rfl,.inl rfl⟩
theorem Mp {xs ys:List D}{h:Hd}(q:0 < xs.length)(p:xs.length + ys.length≤SZ):dM (.tup xs) (.tup ys) h=.ok (.tup (xs++ys)) h:=by
  cases xs with
  | nil=>cases q
  | cons x xs=>exact if_pos p
def yz (s:List Int) (p:Nat) (d:D):D:=.tup ((s.map D.int).take p++[d]++(s.map D.int).drop (p + 1))
theorem Mq {a i j e:EF}{σ:Sd}{h h':Hd}{n p:Nat}{s:List Int}{d:D}(ls:s.length=n)(hn:n≤30)(hp:p < n)(v:∀ h,a σ h=.ok (af s) h)(vi:∀ h,i σ h=.ok (.int p) h)(vj:∀ h,j σ h=.ok (.int ((p:Int) + 1)) h)(ve:e σ h=.ok d h') :
    aj eQ (aj eQ (cT a pNo (pAt i)) (cS (ad e ak))) (cT a (pAt j) pNo) σ h=.ok (yz s p d) h':=by
  have hl:(s.map D.int).length=n:=by rw [List.length_map,ls]
  have z1:((s.map D.int).take p).length + 1≤SZ:=Nat.le_trans (Nat.succ_le_succ (Nat.le_trans (List.length_take_le' _ _) (Nat.le_trans (Nat.le_of_eq hl) hn))) (by decide)
  have z2:((s.map D.int).take p++[d]).length + ((s.map D.int).drop (p + 1)).length≤SZ:=by
    rw [List.length_append,List.length_drop,hl]
    exact Nat.le_trans (Nat.add_le_add (Nat.succ_le_succ (Nat.le_trans (List.length_take_le' _ _) (Nat.le_trans (Nat.le_of_eq hl) hn))) (Nat.le_trans (Nat.sub_le _ _) hn)) (by decide)
  exact am (am (CY (v h) (vi h) (by rw [hl];exact hp)) (eU (ag ve rfl)) (rC z1)) (CZ (v h') (vj h') (by rw [hl];exact hp)) (rC z2)
section
variable {w:Web} {n:Nat} {s:List Int}
theorem rG (W:w.Ok n)(F:bU w n s){p:Nat}(hp:p < n){d:D}(b:∀ h,Bad w p d h)(h:Hd):Nf w h (yz s p d):=.inl fun g=>J3 W F hp (b g)
theorem Bc {l:List D}{n:Nat}(hl:l.length=n):cut l none (some (-1))=l.take (n - 1):=by
  have e:sIx n n (some (-1))=n - 1:=by
    show (if (-1:Int) < 0 then ((-1:Int) + (n:Nat)).toNat else min (-1:Int).toNat n)=n - 1
    rw [if_pos (by decide)];omega
  unfold cut
  rw [hl,e];rfl
noncomputable abbrev XS (td:D) (s:List Int) (c:Int) (a b:Option D):Sd:=[some td,some (af s),some (.int c),a,b]
theorem Bd (W:w.Ok n)(F:bU w n s)(n1:1≤n)(hn:n≤30){td x y:D}{sk:Nat}(htd:td=.tup [x,y,.ref sk]){h:Hd}(hs:h[sk]? = some (.lst (w.stays.map bS)))(c:Int) :
    ∃ d g,eu [td,af s,.int c] h=.ok d (h++g)∧Nf w (h++g) d:=by
  obtain⟨A,hA⟩ : ∃ A,A=h.length:=⟨_,rfl⟩
  have ls:=F.len
  have hl:(s.map D.int).length=n:=by rw [List.length_map,ls]
  have z30:(s.map D.int).length≤SZ:=by rw [hl];exact i3 hn
  have lM:=Mf hl n1
  have ln:∀ (σ:Sd) (g:Hd),aa 1 σ g=.ok (af s) g→cY (lOf (aa 1)) σ g=.ok (.int n) g:=fun σ g v=>(eg (cM v rfl)).trans (by rw [hl])
  obtain⟨l5,hl5⟩ : ∃ l5:List D,l5=[.tup (s.map D.int++[.int 0]),.tup (cut (s.map D.int) none (some (-1))),.ref A,.non,.int 7]:=⟨_,rfl⟩
  obtain⟨l3,hl3⟩ : ∃ l3:List D,l3=[yz s (n - 1) (.int 2),yz s (n - 1) (.bl true),yz s (n - 1) .non]:=⟨_,rfl⟩
  obtain⟨G,hG⟩ : ∃ G:List dk,G=[.lst (s.map .int),.lst l5,.lst l3]:=⟨_,rfl⟩
  have sl:∀ (a b:Option D) (g:Hd),cT (aa 1) pNo (pAt (fC (.int (-1)))) (XS td s c a b) g=.ok (.tup (cut (s.map D.int) none (some (-1)))) g:=fun a b g=>by
    show (if _ then _ else _)=_
    exact if_neg fun z=>lM.2 z.2
  have ben:∀ (d:D) (a b:Option D) (g:Hd),aj eQ (cT (aa 1) pNo (pAt (fC (.int (-1))))) (cS (ad (fC d) ak)) (XS td s c a b) g=.ok (yz s (n - 1) d) g:=fun d a b g=>by
    have e:yz s (n - 1) d=.tup (cut (s.map D.int) none (some (-1))++[d]):=by
      unfold yz
      rw [Bc hl,List.drop_of_length_le (by rw [hl];omega),List.append_nil]
    rw [e]
    exact am (sl a b g) (eU (ag rfl rfl)) (rC (Nat.le_trans (Nat.succ_le_succ (by rw [Bc hl];exact Nat.le_trans (List.length_take_le' _ _) (Nat.le_trans (Nat.le_of_eq hl) hn))) (by decide)))
  have nf8:∀ d∈l5++l3,Nf w (h++G) d:=by
    intro d hd
    rcases List.mem_append.mp hd with hd|hd
    · rw [hl5] at hd
      simp only [List.mem_cons,List.not_mem_nil,or_false] at hd
      rcases hd with rfl|rfl|rfl|rfl|rfl
      · exact .inl fun g=>xj W (by rw [List.length_append,hl];exact Nat.succ_ne_self n) g
      · exact .inl fun g=>xj W (by rw [lM.1,List.length_take,hl];omega) g
      · exact .inr ⟨_,_,rfl,by rw [hG];exact bQ hA 0⟩
      · exact .inl fun g=>o5 rfl
      · exact .inl fun g=>o5 rfl
    · have pn:n - 1 < n:=Nat.sub_lt n1 Nat.one_pos
      have no:∀ d∈[D.int 2,.bl true,.non],∀ h,Gn d h:=fun d hd h=>Qw (by
        simp only [List.mem_cons,List.not_mem_nil,or_false] at hd
        rcases hd with rfl|rfl|rfl<;>simp [ds8]) h
      rw [hl3] at hd
      simp only [List.mem_cons,List.not_mem_nil,or_false] at hd
      rcases hd with rfl|rfl|rfl
      · exact rG W F pn (fun h=>.inl (no _ (by simp) h)) _
      · exact rG W F pn (fun h=>.inl (no _ (by simp) h)) _
      · exact rG W F pn (fun h=>.inl (no _ (by simp) h)) _
  have s1:aE (gN 3) (aM (ad (aj dM (aa 1) (cS (ad (fC (.int 0)) ak))) (ad (cT (aa 1) pNo (pAt (fC (.int (-1))))) (ad (aM (lOf (aa 1))) (ad (fC .non) (ad (fC (.int 7)) ak)))))) (XS td s c none none) h=.nx (XS td s c (some (.ref (A + 1))) none) (h++[.lst (s.map .int),.lst l5]):=by
    have f1:aM (lOf (aa 1)) (XS td s c none none) h=.ok (.ref A) (h++[.lst (s.map .int)]):=fk hA (cM rfl rfl) z30
    have f2:aj dM (aa 1) (cS (ad (fC (.int 0)) ak)) (XS td s c none none) h=.ok (.tup (s.map D.int++[.int 0])) h:=am rfl (eU (ag rfl rfl)) (Mp (by rw [hl];exact n1) (by rw [hl];exact Nat.le_trans (Nat.succ_le_succ hn) (by decide)))
    rw [hl5]
    exact aD (cE (g:=[.lst (s.map .int)]) hA (ag f2 (ag (sl _ _ _) (ag f1 (bI rfl rfl)))) (by exact of_decide_eq_true rfl))
  have s2:aE (gN 3) (aM (gK (aa 3) (aM (ad (aj eQ (cT (aa 1) pNo (pAt (fC (.int (-1))))) (cS (ad (fC (.int 2)) ak))) (ad (aj eQ (cT (aa 1) pNo (pAt (fC (.int (-1))))) (cS (ad (fC (.bl true)) ak))) (ad (aj eQ (cT (aa 1) pNo (pAt (fC (.int (-1))))) (cS (ad (fC .non) ak))) ak)))))) (XS td s c (some (.ref (A + 1))) none) (h++[.lst (s.map .int),.lst l5])=.nx (XS td s c (some (.ref (A + 3))) none) (h++(G++[.lst (l5++l3)])):=by
    have f1:aM (ad (aj eQ (cT (aa 1) pNo (pAt (fC (.int (-1))))) (cS (ad (fC (.int 2)) ak))) (ad (aj eQ (cT (aa 1) pNo (pAt (fC (.int (-1))))) (cS (ad (fC (.bl true)) ak))) (ad (aj eQ (cT (aa 1) pNo (pAt (fC (.int (-1))))) (cS (ad (fC .non) ak))) ak))) (XS td s c (some (.ref (A + 1))) none) (h++[.lst (s.map .int),.lst l5])=.ok (.ref (A + 2)) (h++G):=by
      rw [hG,hl3];exact cE (g:=[.lst (s.map .int),.lst l5]) hA (ag (ben _ _ _ _) (bI (ben _ _ _ _) (ben _ _ _ _))) (by exact of_decide_eq_true rfl)
    have gl:A + 3=A + G.length:=by rw [hG];rfl
    have z:l5.length + l3.length≤SZ:=by rw [hl5,hl3];exact of_decide_eq_true rfl
    rw [gl]
    exact aD (cE (g:=G) hA (lQ rfl f1 (by rw [hG];exact bQ hA 1) (by rw [hG];exact bQ hA 2) z) (by rw [List.length_append];exact z))
  obtain⟨σ3,h3,k3,Ls,y3,e3,q3,nf3,m1,m2⟩:=cD (P:=fun i σ h'=>∃ (Ls:List D) (y:Option D),σ = XS td s c (some (.ref (A + 3))) y∧h'=h++(G++[.lst Ls])∧(∀ d∈Ls,Nf w (h++G) d)∧1≤Ls.length∧Ls.length≤8 + i)
    (g:=none) (k:=0) (all:=(List.range n).map fun k:Nat=>D.int k) (fun _ _ _ _=>trivial) (xs:=(List.range n).map fun k:Nat=>D.int k) (tg:=gN 4) (b:=md) (σ:=XS td s c (some (.ref (A + 3))) none) (h:=h++(G++[.lst (l5++l3)])) (by
      rintro i x σ h0 hx ⟨Ls,y,rfl,rfl,nf,ll,lu⟩
      obtain⟨hi,rfl⟩:=dQ hx
      rw [Nat.zero_add] at lu
      have hi2:i < w.stays.length:=W.s ▸ hi
      have g2:(h++(G++[.lst Ls]))[A + 3]? = some (.lst Ls):=by rw [hG];exact bQ hA 3
      have st:fAt (fAt (aa 0) (fC (.int 2))) (aa 4) (XS td s c (some (.ref (A + 3))) (some (.int (i:Nat)))) (h++(G++[.lst Ls]))=.ok (bS (w.stays.getD i none)) (h++(G++[.lst Ls])):=aZ (aZ (x:=td) rfl rfl (by rw [htd];rfl) rfl) rfl (aQ (cx _ hs)) (Mo bS none hi2)
      cases e:w.stays[i] with
      | none =>
        have e':w.stays.getD i none=none:=by rw [List.getD_eq_getElem?_getD,List.getElem?_eq_getElem hi2,e];rfl
        rw [e'] at st
        exact⟨_,rfl,_,_,dA (aJ (am st rfl rfl)),_,_,rfl,rfl,nf,ll,by omega⟩
      | some z =>
        have e':w.stays.getD i none=some z:=by rw [List.getD_eq_getElem?_getD,List.getElem?_eq_getElem hi2,e];rfl
        rw [e'] at st
        have hz:w.stays[i]? = some (some z):=by rw [List.getElem?_eq_getElem hi2,e]
        have sz:=F.st i z hz
        have zb:=F.op z (List.mem_of_getElem? sz)
        have gz:s.getD i 0=z:=by rw [List.getD_eq_getElem?_getD,sz];rfl
        have ve:aj nF (fC (.int 1)) (fAt (aa 1) (aa 4)) (XS td s c (some (.ref (A + 3))) (some (.int (i:Nat)))) (h++(G++[.lst Ls]))=.ok (.int (1 - z)) (h++(G++[.lst Ls])):=by
          rw [← gz];exact am rfl (aZ rfl rfl rfl (jT (by rw [ls];exact hi))) rfl
        refine⟨_,rfl,XS td s c (some (.ref (A + 3))) (some (.int (i:Nat))),h++(G++[.lst (Ls++[yz s i (.int (1 - z))])]),(kF (aJ (am st rfl rfl))).trans ((ee (nc rfl g2 (Mq ls hn hi (fun _=>rfl) (fun _=>rfl) (fun _=>rfl) ve) g2 (Nat.lt_of_le_of_lt lu (Nat.lt_of_le_of_lt (Nat.add_le_add_left (Nat.le_trans (Nat.le_of_lt hi) hn) 8) (by decide))))).trans ?_),_,_,rfl,rfl,fun d hd => ?_,by rw [List.length_append];exact Nat.le_trans ll (Nat.le_add_right _ _),by rw [List.length_append,Nat.zero_add];exact Nat.succ_le_succ lu⟩
        · rw [hG]
          show Out.nx _ ((h++[dk.lst (s.map .int),.lst l5,.lst l3,.lst Ls]).set (A + 3) _)=_
          rw [rk hA 3];rfl
        · rcases List.mem_append.mp hd with hd|hd
          · exact nf d hd
          · rw [List.mem_singleton.mp hd]
            exact rG W F hi (fun h=>.inr ⟨1 - z,z,rfl,by omega,hz,by omega⟩) _) ⟨l5++l3,none,rfl,rfl,nf8,by rw [hl5,hl3];exact of_decide_eq_true rfl,by rw [hl5,hl3];exact of_decide_eq_true rfl⟩
  rw [e3,q3] at k3
  have g3:(h++(G++[.lst Ls]))[A + 3]? = some (.lst Ls):=by rw [hG];exact bQ hA 3
  obtain⟨q,hq,qn⟩:=Fq c m1
  have s4:bo (fAt (aa 3) (aj cI (aa 2) (cY (lOf (aa 3))))) (XS td s c (some (.ref (A + 3))) y3) (h++(G++[.lst Ls]))=.rt Ls[q] (h++(G++[.lst Ls])) :=
    bp (aZ rfl (am rfl (eg (cM rfl (aQ g3))) (du (Int.natCast_pos.mpr m1))) (aQ g3) (by rw [hq];exact d8 (List.getElem?_eq_getElem qn)))
  have run:=cG (np:=3) (n:=5) (ds:=[td,af s,.int c]) (h:=h) rfl rfl ((aI s1).trans ((aI s2).trans ((aI (eV (c9 (ln _ _ rfl) (i3 hn)) k3)).trans s4)))
  obtain⟨g',lg,c'⟩:=Gq (h:=h) (g:=G++[.lst Ls]) (d:=Ls[q])
  refine⟨Ls[q],g',run.trans lg,?_⟩
  have N:=nf3 _ (List.getElem_mem qn)
  rcases c' with rfl|pd
  · rw [← List.append_assoc];exact N.more _
  · rcases N with N|⟨k,l,e,_⟩
    · exact .inl N
    · rw [e] at pd;cases pd
end
end Fm
set_option linter.all false
namespace Fm
theorem kW {α : Type}{f : α → D}:∀ {l:List α},(∀ x∈l,okR (f x)=true)→oQ (l.map f)=true
  | [],_=>rfl
  | x :: l,h=>by
    have a:=h x (by simp)
    have b:=kW (f:=f) (l:=l) fun y hy=>h y (by simp [hy])
    simp only [List.map_cons,oQ,a,b,Bool.and_self]
theorem jz {α : Type}{f : α → D}{k:Nat}:∀ {l:List α},(∀ x∈l,kR (f x)≤k)→ky (l.map f)≤(k + 1) * l.length
  | [],_=>by simp [ky]
  | x :: l,h=>by
    have a:=h x (by simp)
    have b:=jz (l:=l) fun y hy=>h y (by simp [hy])
    simp only [List.map_cons,ky,List.length_cons,Nat.mul_succ]
    omega
theorem Kg {n:Nat}(hn:n≤30){T:List Tie}(O:TOk n n 0 T){bs:List Int}{ss:List (Option Int)}(lb:bs.length=n)(ls:ss.length=n)(os:∀ x∈ss,x=none∨x=some 0∨x=some 1)(bb:∀ x∈bs,-20000≤x∧x≤20000) :
    okR (dy n T bs ss).enc=true∧kR (dy n T bs ss).enc≤1000000:=by
  have pr:∀ i,i < n → ∀ p∈fw (nbs T i),p.1 < 30∧1≤p.2∧p.2≤400:=fun i _ p hp=>by
    have hp:=lP.mp hp
    have l:=CO O.lt p hp
    obtain⟨t,ht,_,q⟩:=L7.mp hp
    have w:=O.wt t ht
    rw [q] at w
    exact⟨by omega,w⟩
  have r1:oQ ((dy n T bs ss).ties.map iq)=true:=kW fun r hr=>by
    obtain⟨i,hi,rfl⟩:=List.mem_map.mp hr
    have hi:=List.mem_range.mp hi
    simp only [iq,okR]
    refine kW fun p hp => ?_
    obtain⟨a,b,c⟩:=pr i hi p hp
    simp only [mY,okR,oQ,Bool.and_true,Bool.and_eq_true,decide_eq_true_eq]
    exact⟨by omega,by omega⟩
  have r2:oQ (bs.map D.int)=true:=kW fun x hx=>by
    have:=bb x hx
    simp only [okR,decide_eq_true_eq]
    omega
  have r3:oQ (ss.map bS)=true:=kW fun x hx=>by
    rcases os x hx with e|e|e<;>subst e<;>decide
  have c1:ky ((dy n T bs ss).ties.map iq)≤(1890 + 1) * (dy n T bs ss).ties.length:=jz fun r hr=>by
    obtain⟨i,hi,rfl⟩:=List.mem_map.mp hr
    have c:=jz (f:=mY) (k:=62) (l:=fw (nbs T i)) fun p _=>by simp [mY,kR,ky]
    have l:=L8 O.lt O.un i
    rw [Gm] at c
    simp only [iq,kR]
    omega
  have c2:ky (bs.map D.int)≤(30 + 1) * bs.length:=jz fun x _=>by simp [kR]
  have c3:ky (ss.map bS)≤(30 + 1) * ss.length:=jz fun x _=>by cases x<;>simp [bS,kR]
  have lt:(dy n T bs ss).ties.length=n:=by simp [dy]
  rw [lt] at c1
  constructor
  · show okR (.tup [.tup ((dy n T bs ss).ties.map iq),.tup (bs.map .int),.tup (ss.map bS)])=true
    simp only [okR,oQ,r1,r2,r3,Bool.and_self]
  · show kR (.tup [.tup ((dy n T bs ss).ties.map iq),.tup (bs.map .int),.tup (ss.map bS)])≤1000000
    simp only [kR,ky]
    omega
theorem C7 {n:Nat}{T:List Tie}(O:TOk n n 0 T){bs:List Int}{ss:List (Option Int)}(os:∀ x∈ss,x=none∨x=some 0∨x=some 1):nn (dy n T bs ss) (dy n T bs ss) n:=by
  refine LY os os (fun p hp a b _ B l=>qv B l fun q hq => ?_) (fun _ _=>Int.le_refl _) fun p _ => ?_
  · have e:(dy n T bs ss).ties.getD p [] = fw (nbs T p):=by simp [dy,List.getD,hp]
    rw [e] at hq
    have hq:=lP.mp hq
    unfold nbs at hq
    obtain⟨t,ht',z⟩:=List.mem_filterMap.mp hq
    have:=O.wt t ht'
    cases e:far p t with
    | none=>rw [e] at z;cases z
    | some j=>rw [e] at z;simp at z;subst z;simp only;omega
  · show (ss.getD p none=none∧ss.getD p none=none)∨ss.getD p none=some 0∨ss.getD p none=some 1
    by_cases h:p < ss.length
    · have:=os _ (List.getElem_mem h)
      rw [show ss.getD p none=ss[p] by simp [List.getD,h]]
      rcases this with e|e|e
      · exact .inl ⟨e,e⟩
      · exact .inr (.inl e)
      · exact .inr (.inr e)
    · left;simp [List.getD,List.getElem?_eq_none (show ss.length≤p by omega)]
theorem Mr (a:List Int):eqL [af a] [af a] = some true:=by
  have h:=E3 (a:=a) (b:=a) rfl
  rw [decide_eq_true rfl] at h
  unfold eqL
  rw [if_pos (show gn [af a]≤20 from o7 [a]),if_pos rfl]
  simp only [fN,h];rfl
noncomputable abbrev X24 (S0 td:D) (w:Web) (K:D) (k1 k2 k3:Nat) (a7 a8 a9 a10 a11 a12 a13 a14 a15 a16 a17:Option D):Sd:=[some S0,some td,some w.enc,some K,some (.ref k1),some (.ref k2),some (.ref k3),a7,a8,a9,a10,a11,a12,a13,a14,a15,a16,a17]
structure C24 (w:Web) (n:Nat) (k2 k3:Nat) (R O:List (List Int)) (lo hi:List Int) (h:Hd):Prop where
  W:w.Ok n
  n1:1≤n
  hn:n≤30
  S:cN w
  M:nn w w n
  hR:∀ s,s∈R ↔ eW w n s
  hO:∀ s∈O,bU w n s∧bM w n s≠s
  zR:R.length≤SZ
  g2:h[k2]? = some (.lst (R.map af))
  g3:h[k3]? = some (.lst (O.map af))
  lo0:atI (R.map af) 0=some (af lo)
  hi0:atI (R.map af) (-1)=some (af hi)
  loR:eW w n lo
  hiR:eW w n hi
  lo_le:∀ s,eW w n s→LeS lo s
  hi_ge:∀ s,eW w n s→LeS s hi
theorem C24.more {w:Web}{n k2 k3:Nat}{R O:List (List Int)}{lo hi:List Int}{h:Hd}(c:C24 w n k2 k3 R O lo hi h)(g:Hd):C24 w n k2 k3 R O lo hi (h++g) :=
  ⟨c.W,c.n1,c.hn,c.S,c.M,c.hR,c.hO,c.zR,cx _ c.g2,cx _ c.g3,c.lo0,c.hi0,c.loR,c.hiR,c.lo_le,c.hi_ge⟩
theorem C8 {w:Web}{n k2 k3:Nat}{R O:List (List Int)}{lo hi:List Int}{h:Hd}(c:C24 w n k2 k3 R O lo hi h){a b:List Int}(A:eW w n a)(B:eW w n b){v:Int}(hv:v=0∨v=1):∃ U,(∀ h,Kd v [w.enc,af a,af b] h=.ok (af U) h)∧((v=0∧Fo w n a b U)∨(v=1∧Fp w n a b U)):=by
  rcases hv with rfl|rfl
  · obtain⟨U,J,q⟩:=Mi c.W c.hn c.S c.M A B
    exact⟨U,fun h=>by rw [show Kd 0=eo from if_pos rfl];exact q h,.inl ⟨rfl,J⟩⟩
  · obtain⟨U,J,q⟩:=Mj c.W c.hn c.S c.M A B
    exact⟨U,fun h=>by rw [show Kd 1=jZ from if_neg (by decide)];exact q h,.inr ⟨rfl,J⟩⟩
theorem Kh {w:Web}{n k2 k3:Nat}{R O:List (List Int)}{lo hi:List Int}{h:Hd}(c:C24 w n k2 k3 R O lo hi h){a:List Int}(A:eW w n a){v:Int}(hv:v=0∨v=1):∃ r,atI [af lo,af hi] v=some (af r) ∧ ∀ h,Kd v [w.enc,af r,af a] h=.ok (af a) h:=by
  rcases hv with rfl|rfl
  · obtain⟨U,q,J⟩:=C8 c c.loR A (v:=0) (.inl rfl)
    have J:Fo w n lo a U:=by
      rcases J with ⟨_,J⟩|⟨z,_⟩
      · exact J
      · exact absurd z (by decide)
    have e:U=a:=LeS.eq (by rw [J.r.fit.len,A.fit.len]) (J.le a A (c.lo_le a A) (LeS.refl a)) J.ab.2
    rw [e] at q
    exact⟨lo,rfl,q⟩
  · obtain⟨U,q,J⟩:=C8 c c.hiR A (v:=1) (.inr rfl)
    have J:Fp w n hi a U:=by
      rcases J with ⟨z,_⟩|⟨_,J⟩
      · exact absurd z (by decide)
      · exact J
    have e:U=a:=LeS.eq (by rw [J.r.fit.len,A.fit.len]) J.ab.2 (J.le a A (c.hi_ge a A) (LeS.refl a))
    rw [e] at q
    exact⟨hi,rfl,q⟩
def e3 (x:D × D × Int):D:=.tup [x.1,x.2.1,.int x.2.2]
def Tq (w:Web) (v:Int) (h:Hd) (x:D × D × Int):Prop:=(x.2.2=0∨x.2.2=1) ∧ ∀ g,∃ k g',cZ [w.enc,.int v,x.1,x.2.1] (h++g)=.ok (.ref k) (h++g++g')∧(h++g++g')[k]? = some (.lst (BL x.2.2))
theorem Tq.more {w:Web}{v:Int}{h:Hd}{x:D × D × Int}(q:Tq w v h x)(g:Hd):Tq w v (h++g) x:=⟨q.1,fun g1=>by
  have:=q.2 (g++g1)
  rwa [← List.append_assoc] at this⟩
section
variable {S0 td K:D} {w:Web} {k1 k2 k3:Nat} {a7 a8 a9 a10 a11:Option D} {v:Int}
theorem xl {h:Hd}{kt:Nat}{TL:List (D × D × Int)}(hk:h[kt]? = some (.lst (TL.map e3)))(q:∀ x∈TL,Tq w v h x)(a14 a b c:Option D):∃ a' b' c' g,fm (ek (aa 13)) (gT [15,16,17]) CU (X24 S0 td w K k1 k2 k3 a7 a8 a9 a10 a11 (some (.int v)) (some (.ref kt)) a14 a b c) h=.nx (X24 S0 td w K k1 k2 k3 a7 a8 a9 a10 a11 (some (.int v)) (some (.ref kt)) a14 a' b' c') (h++g):=by
  obtain⟨σ',h',r,a',b',c',g,e1,e2⟩:=cD (P:=fun _ σ h'=>∃ a b c g,σ = X24 S0 td w K k1 k2 k3 a7 a8 a9 a10 a11 (some (.int v)) (some (.ref kt)) a14 a b c∧h'=h++g) (g:=some kt) (k:=0) (all:=TL.map e3) (fun i σ h' ⟨_,_,_,_,_,e⟩=>by show h'[kt]? = _;rw [e];exact cx _ hk)
    (xs:=TL.map e3) (tg:=gT [15,16,17]) (σ:=X24 S0 td w K k1 k2 k3 a7 a8 a9 a10 a11 (some (.int v)) (some (.ref kt)) a14 a b c) (h:=h) (b:=CU) (by
      rintro i x σ h0 hx ⟨a,b,c,g,rfl,rfl⟩
      obtain⟨y,hy,rfl⟩:=List.mem_map.mp (List.mem_of_getElem? hx)
      obtain⟨hj,qy⟩:=q y hy
      obtain⟨k,g',r1,r2⟩:=qy g
      obtain⟨d1,d2,j⟩:=y
      obtain⟨k',g'',s1,s2⟩:=O8 j (h++g++g')
      have ne:=yy (cx g'' r2) s2 (O9 hj)
      exact⟨X24 S0 td w K k1 k2 k3 a7 a8 a9 a10 a11 (some (.int v)) (some (.ref kt)) a14 (some d1) (some d2) (some (.int j)),rfl,X24 S0 td w K k1 k2 k3 a7 a8 a9 a10 a11 (some (.int v)) (some (.ref kt)) a14 (some d1) (some d2) (some (.int j)),h++g++g'++g'',dA (aJ (am (aw (ag rfl (ag rfl (bI rfl rfl))) r1) (aw (ag rfl rfl) s1) ne)),_,_,_,g++(g'++g''),rfl,by rw [List.append_assoc,List.append_assoc]⟩) ⟨_,_,_,[],rfl,by rw [List.append_nil]⟩
  rw [e1,e2] at r
  exact⟨a',b',c',g,eV (dG rfl hk) r⟩
theorem Ki {E:List (List Int)}{e i:EF}{σ:Sd}{h:Hd}{k:Nat}{c:Int}(l1:1≤E.length)(hk:h[k]? = some (.lst (E.map af)))(ve:e σ h=.ok (.ref k) h)(vi:i σ h=.ok (.int c) h):∃ s∈E,fAt e (aj cI i (cY (lOf e))) σ h=.ok (af s) h:=by
  have l1':1≤(E.map af).length:=by rw [List.length_map];exact l1
  obtain⟨q,hq,qn⟩:=Fq c l1'
  have qn':q < E.length:=by rw [← List.length_map (f:=af)];exact qn
  exact⟨E[q],List.getElem_mem qn',aZ ve (am vi (eg (cM ve (aQ hk))) (du (Int.natCast_pos.mpr l1'))) (aQ hk) (by rw [hq];exact d8 (by rw [List.getElem?_map,List.getElem?_eq_getElem qn'];rfl))⟩
variable {n:Nat} {R O:List (List Int)} {lo hi a b:List Int}
theorem Pa {h:Hd}(C:C24 w n k2 k3 R O lo hi h)(A:eW w n a)(B:eW w n b){d:D}(N:Nf w h d)(hv:v=0∨v=1)(i:Option D)(c:Int)(b13 b14 b15 b16 b17:Option D) :
    ∃ c13 c14 c15 c16 c17 g,CV (X24 S0 td w K k1 k2 k3 i (some (.int c)) (some (af a)) (some (af b)) (some d) (some (.int v)) b13 b14 b15 b16 b17) h=.nx (X24 S0 td w K k1 k2 k3 i (some (.int c)) (some (af a)) (some (af b)) (some d) (some (.int v)) c13 c14 c15 c16 c17) (h++g):=by
  obtain⟨P,hP⟩ : ∃ P,P=h.length:=⟨_,rfl⟩
  obtain⟨U,qU,JU⟩:=C8 C A B hv
  obtain⟨r,ra,qr⟩:=Kh C A hv
  have q1:=Bb hv (qU h)
  rw [← hP] at q1
  have C1:=C.more [.lst [af U]]
  have b1:=Kf C.hn C.hR C.zR C1.g2 (fG hP _) A B JU
  have s1:sIf (cK (tE (au er (ad (au cZ (ad (aa 2) (ad (aa 12) (ad (aa 9) (ad (aa 10) ak))))) (ad (aa 5) (ad (aa 9) (ad (aa 10) (ad (aa 12) ak)))))))) (bo (fC (.bl false))) bB (X24 S0 td w K k1 k2 k3 i (some (.int c)) (some (af a)) (some (af b)) (some d) (some (.int v)) b13 b14 b15 b16 b17) h=.nx (X24 S0 td w K k1 k2 k3 i (some (.int c)) (some (af a)) (some (af b)) (some d) (some (.int v)) b13 b14 b15 b16 b17) (h++[.lst [af U]]) :=
    dA (bV (b:=true) (aJ (aw (ag (aw (ag rfl (ag rfl (bI rfl rfl))) q1) (ag rfl (ag rfl (bI rfl rfl)))) b1)))
  have q2:cZ [w.enc,.int v,af r,af a] (h++[.lst [af U]])=.ok (.ref (P + 1)) (h++[.lst [af U],.lst [af a]]):=by
    have:=Bb hv (qr (h++[.lst [af U]]))
    rw [List.length_append,← hP,List.append_assoc] at this
    exact this
  have ix:fIx (ad (fAt (aa 5) (fC (.int 0))) (ad (fAt (aa 5) (fC (.int (-1)))) ak)) (aa 12) (X24 S0 td w K k1 k2 k3 i (some (.int c)) (some (af a)) (some (af b)) (some d) (some (.int v)) b13 b14 b15 b16 b17) (h++[.lst [af U]])=.ok (af r) (h++[.lst [af U]]):=EY (bI (aZ rfl rfl (aQ C1.g2) C.lo0) (aZ rfl rfl (aQ C1.g2) C.hi0)) rfl ra
  have n2:aM (ad (aa 9) ak) (X24 S0 td w K k1 k2 k3 i (some (.int c)) (some (af a)) (some (af b)) (some d) (some (.int v)) b13 b14 b15 b16 b17) (h++[.lst [af U],.lst [af a]])=.ok (.ref (P + 2)) (h++[.lst [af U],.lst [af a],.lst [af a]]):=cE (g:=[.lst [af U],.lst [af a]]) hP (ag rfl rfl) (by exact of_decide_eq_true rfl)
  have o2:oNe (.ref (P + 1)) (.ref (P + 2)) (h++[.lst [af U],.lst [af a],.lst [af a]])=.ok (.bl false) (h++[.lst [af U],.lst [af a],.lst [af a]]):=yy (b:=true) (bQ hP 1) (bQ hP 2) (Mr a)
  have s2:sIf (tE (aj oNe (au cZ (ad (aa 2) (ad (aa 12) (ad (fIx (ad (fAt (aa 5) (fC (.int 0))) (ad (fAt (aa 5) (fC (.int (-1)))) ak)) (aa 12)) (ad (aa 9) ak))))) (aM (ad (aa 9) ak)))) (bo (fC (.bl false))) bB (X24 S0 td w K k1 k2 k3 i (some (.int c)) (some (af a)) (some (af b)) (some d) (some (.int v)) b13 b14 b15 b16 b17) (h++[.lst [af U]])=.nx (X24 S0 td w K k1 k2 k3 i (some (.int c)) (some (af a)) (some (af b)) (some d) (some (.int v)) b13 b14 b15 b16 b17) (h++[.lst [af U],.lst [af a],.lst [af a]]) :=
    dA (aJ (am (aw (ag rfl (ag rfl (bI ix rfl))) q2) n2 o2))
  obtain⟨T2,hT2⟩ : ∃ T2:List (D × D × Int),T2=[(d,af a,0),(af a,d,0)]:=⟨_,rfl⟩
  obtain⟨G,hG⟩ : ∃ G:List dk,G=[.lst [af U],.lst [af a],.lst [af a],.lst (T2.map e3)]:=⟨_,rfl⟩
  have s3:aE (gN 13) (aM (ad (cS (ad (aa 11) (ad (aa 9) (ad (fC (.int 0)) ak)))) (ad (cS (ad (aa 9) (ad (aa 11) (ad (fC (.int 0)) ak)))) ak))) (X24 S0 td w K k1 k2 k3 i (some (.int c)) (some (af a)) (some (af b)) (some d) (some (.int v)) b13 b14 b15 b16 b17) (h++[.lst [af U],.lst [af a],.lst [af a]])=.nx (X24 S0 td w K k1 k2 k3 i (some (.int c)) (some (af a)) (some (af b)) (some d) (some (.int v)) (some (.ref (P + 3))) b14 b15 b16 b17) (h++G):=by
    rw [hG,hT2]
    exact aD (cE (g:=[.lst [af U],.lst [af a],.lst [af a]]) hP (bI (eU (ag rfl (bI rfl rfl))) (eU (ag rfl (bI rfl rfl)))) (by exact of_decide_eq_true rfl))
  have no1:∀ {s:List Int},bU w n s→Tq w v h (d,af s,0):=fun {s} F=>⟨.inl rfl,fun g=>sV hv (.inl ⟨rfl,rfl⟩) (Ml (N.more g).fits)⟩
  have no2:∀ {s:List Int},bU w n s→Tq w v h (af s,d,0):=fun {s} F=>⟨.inl rfl,fun g=>sV hv (.inl ⟨rfl,rfl⟩) (Mm (lN C.W F _) (N.more g).fits)⟩
  have nr:∀ {s t:List Int},bU w n s→bU w n t→(bM w n s≠s∨bM w n t≠t)→Tq w v h (af s,af t,1):=fun {s t} F1 F2 ne=>⟨.inr rfl,fun g=>sV hv (.inr ⟨rfl,rfl⟩) (Kc C.W F1 F2 ne _)⟩
  have m2:∀ x∈T2,Tq w v h x:=fun x hx=>by
    rw [hT2] at hx
    simp only [List.mem_cons,List.not_mem_nil,or_false] at hx
    rcases hx with rfl|rfl
    · exact no1 A.fit
    · exact no2 A.fit
  have CG:=C.more G
  have nw:aM ak (X24 S0 td w K k1 k2 k3 i (some (.int c)) (some (af a)) (some (af b)) (some d) (some (.int v)) (some (.ref (P + 3))) b14 b15 b16 b17) (h++G)=.ok (.ref (P + G.length)) (h++(G++[.lst []])):=cE (g:=G) (xs:=[]) hP rfl (Nat.zero_le _)
  have C6:=C.more (G++[.lst []])
  have g6:(h++(G++[.lst []]))[P + G.length]? = some (.lst []):=by rw [bQ hP];exact List.getElem?_concat_length
  have o6:=yy C6.g3 g6 (rF (o7 O))
  have gT2:(h++(G++[.lst []]))[P + 3]? = some (.lst (T2.map e3)):=by rw [hG];exact bQ hP 3
  have t4:=aJ (am (a:=aa 6) (b:=aM ak) (σ:=X24 S0 td w K k1 k2 k3 i (some (.int c)) (some (af a)) (some (af b)) (some d) (some (.int v)) (some (.ref (P + 3))) b14 b15 b16 b17) (h:=h++G) rfl nw o6)
  cases hO:(O.map af).isEmpty with
  | true =>
    rw [hO] at t4
    obtain⟨a',b',c',g,lp⟩:=xl (S0:=S0) (td:=td) (K:=K) (k1:=k1) (k2:=k2) (k3:=k3) (a7:=i) (a8:=some (.int c)) (a9:=some (af a)) (a10:=some (af b)) (a11:=some d) gT2 (fun x hx=>(m2 x hx).more _) b14 b15 b16 b17
    exact⟨_,_,_,_,_,G++[.lst []]++g,(aI s1).trans ((aI s2).trans ((aI s3).trans ((aI (dA t4)).trans (lp.trans (by rw [List.append_assoc])))))⟩
  | false =>
    rw [hO] at t4
    have l1:1≤O.length:=by
      cases O with
      | nil=>cases hO
      | cons x O=>exact Nat.succ_le_succ (Nat.zero_le _)
    obtain⟨mv,hm,qm⟩:=Ki (E:=O) (e:=aa 6) (i:=aj gQ (aa 8) (fC (.int 5))) (σ:=X24 S0 td w K k1 k2 k3 i (some (.int c)) (some (af a)) (some (af b)) (some d) (some (.int v)) (some (.ref (P + 3))) b14 b15 b16 b17) (c:=c / 5) l1 C6.g3 rfl (am rfl rfl (ir (by decide) (by decide)))
    obtain⟨Fm,rm⟩:=C.hO mv hm
    obtain⟨T4,hT4⟩ : ∃ T4:List (D × D × Int),T4=[(af a,af mv,1),(af mv,af a,1),(af mv,d,0),(d,af mv,0)]:=⟨_,rfl⟩
    obtain⟨G6,hG6⟩ : ∃ G6:List dk,G6=G++[.lst []]:=⟨_,rfl⟩
    rw [← hG6] at t4 qm gT2
    have l5:G6.length=5:=by rw [hG6,hG];rfl
    have n4:aM (ad (cS (ad (aa 9) (ad (aa 14) (ad (fC (.int 1)) ak)))) (ad (cS (ad (aa 14) (ad (aa 9) (ad (fC (.int 1)) ak)))) (ad (cS (ad (aa 14) (ad (aa 11) (ad (fC (.int 0)) ak)))) (ad (cS (ad (aa 11) (ad (aa 14) (ad (fC (.int 0)) ak)))) ak)))) (X24 S0 td w K k1 k2 k3 i (some (.int c)) (some (af a)) (some (af b)) (some d) (some (.int v)) (some (.ref (P + 3))) (some (af mv)) b15 b16 b17) (h++G6)=.ok (.ref (P + G6.length)) (h++(G6++[.lst (T4.map e3)])):=by
      rw [hT4]
      exact cE (g:=G6) hP (ag (eU (ag rfl (bI rfl rfl))) (ag (eU (ag rfl (bI rfl rfl))) (bI (eU (ag rfl (bI rfl rfl))) (eU (ag rfl (bI rfl rfl)))))) (by exact of_decide_eq_true rfl)
    obtain⟨G7,hG7⟩ : ∃ G7:List dk,G7=G6++[.lst (T4.map e3)]:=⟨_,rfl⟩
    rw [← hG7] at n4
    have z6:(T2.map e3).length + (T4.map e3).length≤SZ:=by rw [hT2,hT4];exact of_decide_eq_true rfl
    have g7a:(h++G7)[P + 3]? = some (.lst (T2.map e3)):=by rw [hG7,← List.append_assoc];exact cx _ gT2
    have g7b:(h++G7)[P + G6.length]? = some (.lst (T4.map e3)):=by rw [hG7,bQ hP];exact List.getElem?_concat_length
    have s5:aE (gN 13) (aM (gK (aa 13) (aM (ad (cS (ad (aa 9) (ad (aa 14) (ad (fC (.int 1)) ak)))) (ad (cS (ad (aa 14) (ad (aa 9) (ad (fC (.int 1)) ak)))) (ad (cS (ad (aa 14) (ad (aa 11) (ad (fC (.int 0)) ak)))) (ad (cS (ad (aa 11) (ad (aa 14) (ad (fC (.int 0)) ak)))) ak))))))) (X24 S0 td w K k1 k2 k3 i (some (.int c)) (some (af a)) (some (af b)) (some d) (some (.int v)) (some (.ref (P + 3))) (some (af mv)) b15 b16 b17) (h++G6)=.nx (X24 S0 td w K k1 k2 k3 i (some (.int c)) (some (af a)) (some (af b)) (some d) (some (.int v)) (some (.ref (P + G7.length))) (some (af mv)) b15 b16 b17) (h++(G7++[.lst ((T2++T4).map e3)])):=by
      rw [List.map_append]
      exact aD (cE (g:=G7) hP (lQ rfl n4 g7a g7b z6) (by rw [List.length_append];exact z6))
    have g8:(h++(G7++[.lst ((T2++T4).map e3)]))[P + G7.length]? = some (.lst ((T2++T4).map e3)):=by rw [bQ hP];exact List.getElem?_concat_length
    have m4:∀ x∈T2++T4,Tq w v h x:=fun x hx=>by
      rcases List.mem_append.mp hx with hx|hx
      · exact m2 x hx
      · rw [hT4] at hx
        simp only [List.mem_cons,List.not_mem_nil,or_false] at hx
        rcases hx with rfl|rfl|rfl|rfl
        · exact nr A.fit Fm (.inr rm)
        · exact nr Fm A.fit (.inl rm)
        · exact no2 Fm
        · exact no1 Fm
    obtain⟨a',b',c',g,lp⟩:=xl (S0:=S0) (td:=td) (K:=K) (k1:=k1) (k2:=k2) (k3:=k3) (a7:=i) (a8:=some (.int c)) (a9:=some (af a)) (a10:=some (af b)) (a11:=some d) g8 (fun x hx=>(m4 x hx).more _) (some (af mv)) b15 b16 b17
    exact⟨_,_,_,_,_,G7++[.lst ((T2++T4).map e3)]++g,(aI s1).trans ((aI s2).trans ((aI s3).trans ((aI ((kF t4).trans ((aI (aD qm)).trans s5))).trans (lp.trans (by rw [List.append_assoc])))))⟩
end
end Fm
set_option linter.all false
namespace Fm
theorem Ms (x:List Nat)(h:Hd):oEq (.str x) (.str x) h=.ok (.bl true) h:=by
  have:eqG h (.str x) (.str x)=some true:=by
    show (if dep (.str x)≤20 then peq (.str x) (.str x) else none)=some true
    rw [if_pos (by exact Nat.zero_le _)]
    simp [peq]
  simp only [oEq,this]
theorem Mt {w:Web}{n:Nat}{ss:List (Option Int)}(W:w.Ok n)(wst:w.stays=ss)(ls:ss.length=n)(os:∀ x∈ss,x=none∨x=some 0∨x=some 1)(s:List Int):s∈j0 ss ↔ bU w n s:=by
  have:=rE os n (Nat.le_of_eq ls.symm) s
  rw [List.take_of_length_le (Nat.le_of_eq ls)] at this
  rw [this]
  constructor
  · intro k
    exact⟨k.len,k.op,fun i x e=>k.st i x (by rw [wst] at e;rw [← ls];exact (List.getElem?_eq_some_iff.mp e).1) (by rw [← wst];exact e)⟩
  · intro F
    exact⟨F.len,F.op,fun i x _ e=>F.st i x (by rw [wst];exact e)⟩
section
variable {S0 td K:D} {w:Web} {n k1 k2 k3:Nat} {R O:List (List Int)} {lo hi:List Int}
theorem Pb (ns:List Int)(hS0:S0=.lit (ns.map .int)){x y:D}{sk:Nat}(htd:td=.tup [x,y,.ref sk]){h:Hd}(C:C24 w n k2 k3 R O lo hi h)(hs:h[sk]? = some (.lst (w.stays.map bS))){i:Nat}(hi:i≤63)(a8 a9 a10 a11 a12 a13 a14 a15 a16 a17:Option D) :
    ∃ b8 b9 b10 b11 b12 b13 b14 b15 b16 b17 g,CW (X24 S0 td w K k1 k2 k3 (some (.int (i:Nat))) a8 a9 a10 a11 a12 a13 a14 a15 a16 a17) h=.nx (X24 S0 td w K k1 k2 k3 (some (.int (i:Nat))) b8 b9 b10 b11 b12 b13 b14 b15 b16 b17) (h++g):=by
  obtain⟨c,hc⟩:=A6 ns i hi
  rw [← hS0] at hc
  have l1:1≤R.length:=by
    have:=(C.hR lo).mpr C.loR
    cases R with
    | nil=>cases this
    | cons r R=>exact Nat.succ_le_succ (Nat.zero_le _)
  obtain⟨a,ha,qa⟩:=Ki (E:=R) (e:=aa 5) (i:=aa 8) (σ:=X24 S0 td w K k1 k2 k3 (some (.int (i:Nat))) (some (.int c)) a9 a10 a11 a12 a13 a14 a15 a16 a17) (c:=c) l1 C.g2 rfl rfl
  obtain⟨b,hb,qb⟩:=Ki (E:=R) (e:=aa 5) (i:=aj gQ (aa 8) (fC (.int 97))) (σ:=X24 S0 td w K k1 k2 k3 (some (.int (i:Nat))) (some (.int c)) (some (af a)) a10 a11 a12 a13 a14 a15 a16 a17) (c:=c / 97) l1 C.g2 rfl (am rfl rfl (ir (by decide) (by decide)))
  have A:=(C.hR a).mp ha
  have B:=(C.hR b).mp hb
  obtain⟨d,g,qd,N⟩:=Bd C.W A.fit C.n1 C.hn htd hs (c / 7)
  have CG:=C.more g
  obtain⟨σ',h',r,e12,e13,e14,e15,e16,e17,g',x1,x2⟩:=cD (P:=fun _ σ h'=>∃ b12 b13 b14 b15 b16 b17 g',σ = X24 S0 td w K k1 k2 k3 (some (.int (i:Nat))) (some (.int c)) (some (af a)) (some (af b)) (some d) b12 b13 b14 b15 b16 b17∧h'=h++g++g') (g:=none) (k:=0) (all:=[.int 0,.int 1]) (fun _ _ _ _=>trivial)
    (xs:=[.int 0,.int 1]) (tg:=gN 12) (σ:=X24 S0 td w K k1 k2 k3 (some (.int (i:Nat))) (some (.int c)) (some (af a)) (some (af b)) (some d) a12 a13 a14 a15 a16 a17) (h:=h++g) (b:=CV) (by
      rintro j x σ h0 hx ⟨b12,b13,b14,b15,b16,b17,g',rfl,rfl⟩
      obtain⟨v,hv,rfl⟩ : ∃ v:Int,(v=0∨v=1)∧x=.int v:=by
        have:=List.mem_of_getElem? hx
        rcases List.mem_cons.mp this with z|z
        · exact⟨0,.inl rfl,z⟩
        · exact⟨1,.inr rfl,List.mem_singleton.mp z⟩
      obtain⟨c13,c14,c15,c16,c17,g'',q⟩:=Pa (S0:=S0) (td:=td) (K:=K) (k1:=k1) (v:=v) (CG.more g') A B (N.more g') hv (some (.int (i:Nat))) c b13 b14 b15 b16 b17
      exact⟨_,rfl,_,_,q,_,_,_,_,_,_,g'++g'',rfl,by rw [List.append_assoc (h++g)]⟩) ⟨_,_,_,_,_,_,[],rfl,by rw [List.append_nil]⟩
  rw [x1,x2] at r
  have s1:aE (gN 8) (au bw (ad (aa 0) (ad (aa 7) ak))) (X24 S0 td w K k1 k2 k3 (some (.int (i:Nat))) a8 a9 a10 a11 a12 a13 a14 a15 a16 a17) h=.nx (X24 S0 td w K k1 k2 k3 (some (.int (i:Nat))) (some (.int c)) a9 a10 a11 a12 a13 a14 a15 a16 a17) h:=aD (aw (bI rfl rfl) (hc h))
  have s4:aE (gN 11) (au eu (ad (aa 1) (ad (aa 9) (ad (aj gQ (aa 8) (fC (.int 7))) ak)))) (X24 S0 td w K k1 k2 k3 (some (.int (i:Nat))) (some (.int c)) (some (af a)) (some (af b)) a11 a12 a13 a14 a15 a16 a17) h=.nx (X24 S0 td w K k1 k2 k3 (some (.int (i:Nat))) (some (.int c)) (some (af a)) (some (af b)) (some d) a12 a13 a14 a15 a16 a17) (h++g):=aD (aw (ag rfl (bI rfl (am rfl rfl (ir (by decide) (by decide))))) qd)
  exact⟨_,_,_,_,_,_,_,_,_,_,g++g',(aI s1).trans ((aI (aD qa)).trans ((aI (aD qb)).trans ((aI s4).trans ((eV (l:=[.int 0,.int 1]) (g:=none) rfl r).trans (by rw [List.append_assoc])))))⟩
end
theorem Pc (ns:List Int)(hns:ns.length≤63):∃ h,Ff [.lit (ns.map .int)] []=.ok (.bl true) h:=by
  obtain⟨n,M,bs,ss,bk,sk,h1,P⟩:=JO ns
  have n30:=P.n30
  have m:Md 0 n M bs ss bk sk h1:=⟨P.n1,P.n30,P.mt,P.mo,P.ba,P.st,P.lb,P.ls,P.os⟩
  obtain⟨td,htd⟩ : ∃ td:D,td=.tup [.ref (0 + n),.ref bk,.ref sk]:=⟨_,rfl⟩
  obtain⟨S0,hS0⟩ : ∃ S0:D,S0=.lit (ns.map .int):=⟨_,rfl⟩
  obtain⟨T,ql,LL⟩:=JP m
  have mq:=L6 m ql LL
  obtain⟨w,hw⟩ : ∃ w,w=dy n T bs ss:=⟨_,rfl⟩
  rw [← htd,← hw] at mq
  have W:w.Ok n:=by rw [hw];exact JG n30 LL.ok P.lb P.ls
  have S:cN w:=by rw [hw];exact P.os
  have MM:nn w w n:=by rw [hw];exact C7 LL.ok P.os
  have wst:w.stays=ss:=by rw [hw];rfl
  have run:=P.run
  rw [← htd,← hS0] at run
  obtain⟨rok,rct⟩:=Kg n30 LL.ok P.lb P.ls P.os P.bb
  rw [← hw] at rok rct
  have rdp:=(LW w).2
  obtain⟨kx,hkx⟩ : ∃ kx,kx=Jq w.enc:=⟨_,rfl⟩
  have rp:∀ (σ:Sd) (h:Hd) (x0 x1:Option D),AJ (aa 2) (x0 :: x1 :: some w.enc :: σ) h=.ok (.str kx) h:=fun σ h x0 x1=>by
    have v:aa 2 (x0 :: x1 :: some w.enc :: σ) h=.ok w.enc h:=rfl
    obtain⟨l,hl⟩ : ∃ l,w.enc=.tup l:=⟨_,rfl⟩
    unfold AJ
    rw [v,hkx]
    simp only [aH]
    rw [hl] at rok rct rdp ⊢
    simp only [if_pos (show okR (.tup l)=true∧dep (.tup l)≤20∧kR (.tup l)≤1000000 from ⟨rok,rdp,rct⟩)]
  have e0:JR [some S0,none,none,none,none,none,none,none,none,none,none,none,none,none,none,none,none,none] []=.nx [some S0,some td,none,none,none,none,none,none,none,none,none,none,none,none,none,none,none,none] h1:=aD (aw (bI rfl rfl) run)
  have e1:JS [some S0,some td,none,none,none,none,none,none,none,none,none,none,none,none,none,none,none,none] h1=.nx [some S0,some td,some w.enc,none,none,none,none,none,none,none,none,none,none,none,none,none,none,none] h1:=aD (aw (ag rfl rfl) mq)
  have e2:JT [some S0,some td,some w.enc,none,none,none,none,none,none,none,none,none,none,none,none,none,none,none] h1=.nx [some S0,some td,some w.enc,some (.str kx),none,none,none,none,none,none,none,none,none,none,none,none,none,none] h1:=aD (rp _ _ _ _)
  obtain⟨k1,g1,qs,gs⟩:=Gp m P.n7 htd
  obtain⟨h2,hh2⟩ : ∃ h2,h2=h1++g1:=⟨_,rfl⟩
  rw [← hh2] at qs gs
  have m2:Md 0 n M bs ss bk sk h2:=by rw [hh2];exact m.more _
  have e3:JV [some S0,some td,some w.enc,some (.str kx),none,none,none,none,none,none,none,none,none,none,none,none,none,none] h1=.nx [some S0,some td,some w.enc,some (.str kx),some (.ref k1),none,none,none,none,none,none,none,none,none,none,none,none,none] h2:=aD (aw (ag rfl rfl) qs)
  have fit:=Mt W wst P.ls P.os
  have tl:∀ s,bU w n s→(bM w n s).length=s.length:=fun s F=>by rw [F.len];simp [bM]
  have tq:∀ {h:Hd} (s:List Int),Md 0 n M bs ss bk sk h→bU w n s→eZ [td,af s] h=.ok (af (bM w n s)) h:=fun {h} s m F=>by
    have:=OZ m LL F.len F.bits
    rw [← htd,← hw] at this
    exact this
  have zA:(j0 ss).length≤128:=by
    have h1:=yv ss n (Nat.le_of_eq P.ls.symm)
    rw [List.take_of_length_le (Nat.le_of_eq P.ls)] at h1
    have h2:2 ^ n≤2 ^ 7:=Nat.pow_le_pow_right (by decide) P.n7
    omega
  obtain⟨R,hR⟩ : ∃ R,R=(j0 ss).filter fun s=>decide (bM w n s=s):=⟨_,rfl⟩
  obtain⟨O,hO⟩ : ∃ O,O=(j0 ss).filter fun s => !decide (bM w n s=s):=⟨_,rfl⟩
  have zR:R.length≤SZ:=by rw [hR];exact Nat.le_trans (List.length_filter_le _ _) (Nat.le_trans zA (by decide))
  have zO:O.length≤SZ:=by rw [hO];exact Nat.le_trans (List.length_filter_le _ _) (Nat.le_trans zA (by decide))
  have mR:∀ s,s∈R ↔ eW w n s:=fun s=>by
    rw [hR,List.mem_filter,fit s,decide_eq_true_eq]
    exact⟨fun z=>⟨z.1,z.2⟩,fun z=>⟨z.fit,z.rest⟩⟩
  have mO:∀ s∈O,bU w n s∧bM w n s≠s:=fun s hs=>by
    rw [hO] at hs
    obtain⟨z1,z2⟩:=List.mem_filter.mp hs
    refine⟨(fit s).mp z1,fun z => ?_⟩
    rw [decide_eq_true z] at z2
    cases z2
  obtain⟨k2,hk2⟩ : ∃ k2,k2=h2.length:=⟨_,rfl⟩
  obtain⟨h3,hh3⟩ : ∃ h3,h3=h2++[dk.lst (R.map af)]:=⟨_,rfl⟩
  have e4:JW [some S0,some td,some w.enc,some (.str kx),some (.ref k1),none,none,none,none,none,none,none,none,none,none,none,none,none] h2=.nx [some S0,some td,some w.enc,some (.str kx),some (.ref k1),some (.ref k2),none,none,none,none,none,none,none,none,none,none,none,none] h3:=by
    have c:=hV (cp:=[some td]) (t:=tE (aj oEq (au eZ (ad (aa 1) (ad (aa 0) ak))) (aa 0))) (fun s=>decide (bM w n s=s)) gs (fun s hs=>aJ (am (aw (bI rfl rfl) (tq s m2 ((fit s).mp hs))) rfl (yo (tl s ((fit s).mp hs)) h2))) none
    rw [← hR] at c
    rw [hh3]
    exact aD (fk hk2 (cF (dG rfl gs) c) (by rw [List.length_map];exact zR))
  have m3:Md 0 n M bs ss bk sk h3:=by rw [hh3];exact m2.more _
  have gs3:h3[k1]? = some (.lst ((j0 ss).map af)):=by rw [hh3];exact cx _ gs
  obtain⟨k3,hk3⟩ : ∃ k3,k3=h3.length:=⟨_,rfl⟩
  obtain⟨h4,hh4⟩ : ∃ h4,h4=h3++[dk.lst (O.map af)]:=⟨_,rfl⟩
  have e5:JX [some S0,some td,some w.enc,some (.str kx),some (.ref k1),some (.ref k2),none,none,none,none,none,none,none,none,none,none,none,none] h3=.nx (X24 S0 td w (.str kx) k1 k2 k3 none none none none none none none none none none none) h4:=by
    have c:=hV (cp:=[some td]) (t:=tE (aj oNe (au eZ (ad (aa 1) (ad (aa 0) ak))) (aa 0))) (fun s => !decide (bM w n s=s)) gs3 (fun s hs=>aJ (am (aw (bI rfl rfl) (tq s m3 ((fit s).mp hs))) rfl (yn (tl s ((fit s).mp hs)) h3))) none
    rw [← hO] at c
    rw [hh4]
    exact aD (fk hk3 (cF (dG rfl gs3) c) (by rw [List.length_map];exact zO))
  have m4:Md 0 n M bs ss bk sk h4:=by rw [hh4];exact m3.more _
  have pw:R.Pairwise fun a b=>¬ LeS b a:=by
    have:=A9 P.os n (Nat.le_of_eq P.ls.symm)
    rw [List.take_of_length_le (Nat.le_of_eq P.ls)] at this
    rw [hR];exact this.filter _
  obtain⟨t0,_,s0⟩:=A1 W S MM
  obtain⟨t1,_,s1⟩:=A2 W S MM
  have L0:eW w n (hist w n (fV w.stays) t0):=⟨bK W S (oX W S) t0,s0⟩
  have G0:eW w n (hist w n (gC w.stays) t1):=⟨bK W S (oY W S) t1,s1⟩
  have lo_le:∀ s,eW w n s→LeS (hist w n (fV w.stays) t0) s:=fun s r=>by
    have:=fU W W S S MM (oX W S) r.fit (AZ r.fit) t0
    rwa [r.hist] at this
  have hi_ge:∀ s,eW w n s→LeS s (hist w n (gC w.stays) t1):=fun s r=>by
    have:=fU W W S S MM r.fit (oY W S) (A0 W r.fit) t1
    rwa [r.hist] at this
  obtain⟨lo,hlo⟩ : ∃ lo,lo=hist w n (fV w.stays) t0:=⟨_,rfl⟩
  obtain⟨hi,hhi⟩ : ∃ hi,hi=hist w n (gC w.stays) t1:=⟨_,rfl⟩
  rw [← hlo] at L0 lo_le
  rw [← hhi] at G0 hi_ge
  have lo0:atI (R.map af) 0=some (af lo):=by
    have ml:=(mR lo).mpr L0
    cases hc:R with
    | nil=>rw [hc] at ml;cases ml
    | cons r R' =>
      have:lo=r:=by
        rw [hc] at ml pw
        rcases List.mem_cons.mp ml with z|z
        · exact z
        · exact absurd (lo_le r ((mR r).mp (by rw [hc];exact List.mem_cons_self))) ((List.pairwise_cons.mp pw).1 lo z)
      rw [this];exact Qp _ _
  have hi0:atI (R.map af) (-1)=some (af hi):=by
    have mh:=(mR hi).mpr G0
    have ne:R≠[]:=fun z=>by rw [z] at mh;cases mh
    obtain⟨R',z,hc⟩ : ∃ R' z,R=R'++[z]:=⟨R.dropLast,R.getLast ne,(List.dropLast_concat_getLast ne).symm⟩
    have:hi=z:=by
      rw [hc] at mh pw
      rcases List.mem_append.mp mh with y|y
      · exact absurd (hi_ge z ((mR z).mp (by rw [hc];exact List.mem_append_right _ List.mem_cons_self))) ((List.pairwise_append.mp pw).2.2 hi y z List.mem_cons_self)
      · exact List.mem_singleton.mp y
    rw [this,hc]
    have:=E5 (l:=(R'++[z]).map af) (k:=1) (Nat.le_refl 1) (by rw [List.length_map,List.length_append];exact Nat.le_add_left _ _)
    refine this.trans ?_
    rw [List.length_map,List.length_append,List.getElem?_map]
    show ((R'++[z])[R'.length + 1 - 1]?).map af=_
    rw [Nat.add_sub_cancel,List.getElem?_concat_length];rfl
  have C:C24 w n k2 k3 R O lo hi h4:=⟨W,P.n1,n30,S,MM,mR,mO,zR,by rw [hh4,hh3];exact cx _ (fG hk2 _),by rw [hh4];exact fG hk3 _,lo0,hi0,L0,G0,lo_le,hi_ge⟩
  have hs4:h4[sk]? = some (.lst (w.stays.map bS)):=by rw [wst];exact m4.st
  obtain⟨σ6,h6,q6,x7,x8,x9,x10,x11,x12,x13,x14,x15,x16,x17,g6,y1,y2⟩:=cD (P:=fun _ σ h'=>∃ a7 a8 a9 a10 a11 a12 a13 a14 a15 a16 a17 g,σ = X24 S0 td w (.str kx) k1 k2 k3 a7 a8 a9 a10 a11 a12 a13 a14 a15 a16 a17∧h'=h4++g) (g:=none) (k:=0)
    (all:=(List.range 5).map fun k:Nat=>D.int (4 + k)) (fun _ _ _ _=>trivial) (xs:=(List.range 5).map fun k:Nat=>D.int (4 + k)) (tg:=gN 7) (σ:=X24 S0 td w (.str kx) k1 k2 k3 none none none none none none none none none none none) (h:=h4) (b:=CW) (by
      rintro i x σ h0 hx ⟨a7,a8,a9,a10,a11,a12,a13,a14,a15,a16,a17,g,rfl,rfl⟩
      obtain⟨j,hj,rfl⟩:=List.mem_map.mp (List.mem_of_getElem? hx)
      have hj:=List.mem_range.mp hj
      obtain⟨b8,b9,b10,b11,b12,b13,b14,b15,b16,b17,g',q⟩:=Pb (K:=.str kx) (k1:=k1) ns hS0 htd (C.more g) (cx _ hs4) (i:=4 + j) (by omega) a8 a9 a10 a11 a12 a13 a14 a15 a16 a17
      have ej:((4 + j:Nat):Int)=4 + (j:Int):=Int.natCast_add 4 j
      rw [ej] at q
      exact⟨_,rfl,_,_,q,_,_,_,_,_,_,_,_,_,_,_,g++g',rfl,by rw [List.append_assoc]⟩) ⟨_,_,_,_,_,_,_,_,_,_,_,[],rfl,by rw [List.append_nil]⟩
  rw [y1,y2] at q6
  have e6:JY (X24 S0 td w (.str kx) k1 k2 k3 none none none none none none none none none none none) h4=.nx (X24 S0 td w (.str kx) k1 k2 k3 x7 x8 x9 x10 x11 x12 x13 x14 x15 x16 x17) (h4++g6):=eV (g:=none) rfl q6
  have e7:JZ (X24 S0 td w (.str kx) k1 k2 k3 x7 x8 x9 x10 x11 x12 x13 x14 x15 x16 x17) (h4++g6)=.rt (.bl true) (h4++g6):=bp (am (rp _ _ _ _) rfl (Ms kx _))
  rw [← hS0]
  exact⟨[],(cG (σ:=[some S0,none,none,none,none,none,none,none,none,none,none,none,none,none,none,none,none,none]) rfl rfl ((aI e0).trans ((aI e1).trans ((aI e2).trans ((aI e3).trans ((aI e4).trans ((aI e5).trans ((aI e6).trans e7)))))))).trans (dg (h:=[]) (g:=h4++g6) rfl)⟩
end Fm
set_option Elab.async false
set_option linter.all false
set_option maxRecDepth 100000
set_option maxHeartbeats 4000000
namespace Fm
open PySem PySem.Spec L2
section
abbrev d6 (i : Nat) : Stmt := PySem.Challenge.pw_followmost_k24_joined_and_met.main.body.getD i (.Pass ⟨0, 0, 0, 0⟩)
abbrev fW:Stmt:=d6 12
abbrev ez:Stmt:=d6 13
abbrev eA:Stmt:=d6 14
abbrev jA:Stmt:=d6 24
abbrev eB:Stmt:=d6 23
abbrev fA:Stmt:=d6 25
abbrev eC:Stmt:=d6 26
abbrev jB:Stmt:=d6 18
abbrev hW:Stmt:=d6 19
abbrev hX:Stmt:=d6 20
abbrev jC:Stmt:=d6 21
abbrev hZ:Stmt:=d6 22
abbrev o8:Stmt:=d6 28
abbrev dj:Stmt:=d6 29
abbrev ia:Stmt:=d6 30
abbrev ib:Stmt:=d6 31
abbrev ic:Stmt:=d6 32
abbrev lS:Stmt:=d6 34
abbrev fX:Stmt:=d6 36
abbrev dR:Stmt:=d6 40
abbrev jD:Stmt:=d6 41
abbrev jE:Stmt:=d6 38
abbrev xm:Stmt:=d6 39
abbrev fB:Stmt:=d6 43
abbrev fY:Stmt:=d6 44
abbrev eD:Stmt:=d6 45
abbrev eE:Stmt:=d6 46
abbrev fD:Stmt:=d6 47
abbrev fE:Stmt:=d6 49
abbrev eF:Stmt:=d6 50
abbrev dS:Stmt:=d6 51
abbrev eG:Stmt:=d6 52
abbrev fZ:Stmt:=d6 53
abbrev eI:Stmt:=d6 54
abbrev c0:Stmt:=d6 55
abbrev c5:Stmt:=d6 56
abbrev nW:Stmt:=d6 57
variable {P:Program} {w:World} {K:PySem.W.Frag} {mg:Str→Option Value} {base:Heap} {f:Addr} {fd:FuncData}
theorem Be:aT ["thing"] ["thing"] (ao fW):=⟨rfl,rfl,rfl,by decide +kernel,rfl,by decide +kernel,by decide +kernel⟩
theorem Bf (F:Fun K "is_whole" "is_whole" fW f fd) (ay:mg "isinstance" = none) (Dm:mg "bool" = none) (Kl:mg "int" = none):cy P w K mg base CX0 1 f fd ["thing"] (spF K cH 1):=by
  refine cB F Be fun cdv A outer s H E hr => ?_
  have hu:=dF hr
  exact (av (aV (MB.me (sg (kr (iI (t:=.int) rfl ay rfl Kl (by decide +kernel) (mv 0))) (oM (Oe (kr (iI (t:=.bool) rfl ay rfl Dm (by decide +kernel) (mv 0)))))))))
theorem uG:aT ["thing", "least", "most"] ["thing", "least", "most"] (ao ez):=⟨rfl,rfl,rfl,by decide +kernel,rfl,by decide +kernel,by decide +kernel⟩
theorem uH (F:Fun K "is_between" "is_between" ez f fd) (iD:Def P w K mg base "is_whole" 1 1 cH):cy P w K mg base CX0 2 f fd ["thing", "least", "most"] (spF K br 3):=by
  refine cB F uG fun cdv A outer s H E hr => ?_
  have hu:=dF hr
  exact (av (aV (MB.me (sg (kr (aA iD (hr.mono (by decide)) rfl (ae (mv 0) aq) aB)) (oM (kr (Ij M4 M4 Ao Ao (mv 1) (mv 0) (mv 2))))))))
theorem uI:aT ["thing"] ["thing"] (ao eA):=⟨rfl,rfl,rfl,by decide +kernel,rfl,by decide +kernel,by decide +kernel⟩
theorem uJ (F:Fun K "is_opinion" "is_opinion" eA f fd) (cO:Def P w K mg base "is_between" 2 3 br):cy P w K mg base CX0 3 f fd ["thing"] (spF K bu 1):=by
  refine cB F uI fun cdv A outer s H E hr => ?_
  have hu:=dF hr
  exact (av (aV (aA cO (hr.mono (by decide)) rfl (ae (mv 0) (ae ar (ae ar aq))) aB)))
theorem o9:aT ["many", "thing", "one", "other"] ["many", "thing"] (ao jA):=⟨rfl,rfl,rfl,by decide +kernel,rfl,by decide +kernel,by decide +kernel⟩
theorem Gr (F:Fun K "is_tie" "is_tie" jA f fd) (bO:mg "len" = none) (ay:mg "isinstance" = none) (bA:mg "tuple" = none) {i6:Tok} (i7:mg "MOST_WEIGHT" = some (.int 400 i6)) (cO:Def P w K mg base "is_between" 2 3 br):cy P w K mg base CX0 3 f fd ["many", "thing"] (spF K kT 2):=by
  refine cB F o9 fun cdv A outer s H E hr => ?_
  have hu:=dF hr
  exact (ah (cm (MW.mt (qh (dq (cL (iI (t:=.tuple) rfl ay rfl bA (by decide +kernel) (mv 1)))) (iU (bE (gw hu) ku (dE rfl bO (dB (mv 1))) ar (bf _)) (.inr rfl)))) (av (aV kq)) bn)
    (ah (aP (i:=2) o9.nd rfl (by first|exact .inl rfl|exact .inr rfl) (aY (mv 1) ar (fun _ _=>rfl)))
    (ah (aP (i:=3) o9.nd rfl (by first|exact .inl rfl|exact .inr rfl) (aY (mv 1) ar (fun _ _=>rfl)))
    (ah (cm (MW.mt (qh (dq (cL (aA cO (hr.mono (by decide)) rfl (ae (mv 2) (ae ar (ae (aX mM Co (mv 0) ar) aq))) aB))) (iU (dq (cL (aA cO (hr.mono (by decide)) rfl (ae (mv 3) (ae ar (ae (aX mM Co (mv 0) ar) aq))) aB))) (.inr rfl)))) (av (aV kq)) bn)
    (av (aV (MB.me (sg (kr (ik (gw hu) ku (mv 2) (mv 3) (bf _))) (oM (kr (aA cO (hr.mono (by decide)) rfl (ae (aY (mv 1) ar (fun _ _=>rfl)) (ae ar (ae (An rfl i7) aq))) aB)))))))))))
theorem ff:aT ["many", "ties", "near", "tie", "one", "other"] ["many", "ties"] (ao eB):=⟨rfl,rfl,rfl,by decide +kernel,rfl,by decide +kernel,by decide +kernel⟩
theorem uK (F:Fun K "neighbours" "neighbours" eB f fd) (bc:mg "range" = none) (ay:mg "isinstance" = none) (eX:mg "list" = none) (tj:Def P w K mg base "is_tie" 3 2 kT):cy P w K mg base CX0 4 f fd ["many", "ties"] (spF K dH 2):=by
  refine cB F ff fun cdv A outer s H E hr => ?_
  have hu:=dF hr
  exact (ah (cm (dq (cL (iI (t:=.list) rfl ay rfl eX (by decide +kernel) (mv 1)))) (av iW) bn)
    (ah (iH (i:=2) ff.nd rfl (by first|exact .inl rfl|exact .inr rfl) (own:=["person"]) (capn:=[]) (caps:=[]) rfl (cf.mk' rfl (by decide +kernel) (by decide +kernel) (by repeat' (first|exact aW.nil|refine aW.cons (by first|exact (fun _=>.inl rfl)|exact (fun _=>.inr rfl)|(intro z;cases z;done)) ?_)) bH.nil) (cU rfl bc (mv 0))
      (fun cl C s H ex=>⟨(aL (i:=0) (show ((["person"] : List Str)++([] : List Str)).Nodup by decide +kernel) rfl (by first|exact .inl rfl|exact .inr rfl)),el,LG⟩))
    (ah (fq PassesOwn.never rfl (eT (mv 1)) (aL (i:=3) ff.nd rfl (by first|exact .inl rfl|exact .inr rfl)) (ah (cm (dq (cL (aA tj (hr.mono (by decide)) rfl (ae (mv 0) (ae (mv 3) aq)) aB))) (av iW) bn)
    (ah (aP (i:=4) ff.nd rfl (by first|exact .inl rfl|exact .inr rfl) (aY (mv 3) ar (fun _ _=>rfl)))
    (ah (aP (i:=5) ff.nd rfl (by first|exact .inl rfl|exact .inr rfl) (aY (mv 3) ar (fun _ _=>rfl)))
    (ah (cm (bE (Oz (Nat.lt_of_le_of_lt (Nat.add_le_add_left (by decide) _) hu)) OA (mv 5) (aY (mv 2) (mv 4) (fun _ _=>rfl)) rfl) (av iW) bn)
    (ah (EQ (Nat.lt_of_le_of_lt (Nat.add_le_add_left (by decide) _) hu) (aY (mv 3) ar (fun _ _=>rfl)) (aY (mv 2) (mv 4) (fun _ _=>rfl)) (mv 5))
    (av (EQ (Nat.lt_of_le_of_lt (Nat.add_le_add_left (by decide) _) hu) (aY (mv 3) ar (fun _ _=>rfl)) (aY (mv 2) (mv 5) (fun _ _=>rfl)) (mv 4)))))))))
    (av (aV (mv 2))))))
theorem yA:aT ["near", "bars"] ["near", "bars"] (ao fA):=⟨rfl,rfl,rfl,by decide +kernel,rfl,by decide +kernel,by decide +kernel⟩
theorem yB (F:Fun K "bars_told" "bars_told" fA f fd) (bA:mg "tuple" = none) (xn:mg "all" = none) (bO:mg "len" = none) (ay:mg "isinstance" = none) (eX:mg "list" = none) (iD:Def P w K mg base "is_whole" 1 1 cH):cy P w K mg base CX0 2 f fd ["near", "bars"] (spF K eh 2):=by
  refine cB F yA fun cdv A outer s H E hr => ?_
  have hu:=dF hr
  exact (ah (cm (bE oG oJ (mv 1) df (bf _)) (av iW) bn)
    (ah (cm (MW.mt (qh (dq (cL (iI (t:=.list) rfl ay rfl eX (by decide +kernel) (mv 1)))) (iU (bE (gw hu) ku (dE rfl bO (dB (mv 1))) (dE rfl bO (dB (mv 0))) (bf _)) (.inr rfl)))) (av iW) bn)
    (ah (cm (dq (cL (IS rfl rfl xn (iV (en (own:=["bar"]) (capn:=[]) (caps:=[]) rfl (cf.mk' rfl (by decide +kernel) (by decide +kernel) (by repeat' (first|exact aW.nil|refine aW.cons (by first|exact (fun _=>.inl rfl)|exact (fun _=>.inr rfl)|(intro z;cases z;done)) ?_)) bH.nil) (eT (mv 1))
      (fun cl C s H ex=>⟨(aL (i:=0) (show ((["bar"] : List Str)++([] : List Str)).Nodup by decide +kernel) rfl (by first|exact .inl rfl|exact .inr rfl)),el,(aA iD (hr.mono (by decide)) rfl (ae (mv 0) aq) aB)⟩)))))) (av iW) bn)
    (av (aV (gR rfl bA (dB (mv 1))))))))
theorem uL:aT ["many", "stays"] ["many", "stays"] (ao eC):=⟨rfl,rfl,rfl,by decide +kernel,rfl,by decide +kernel,by decide +kernel⟩
theorem uM (F:Fun K "stays_told" "stays_told" eC f fd) (bA:mg "tuple" = none) (xn:mg "all" = none) (bO:mg "len" = none) (ay:mg "isinstance" = none) (eX:mg "list" = none) (bc:mg "range" = none) (fH:Def P w K mg base "is_opinion" 3 1 bu):cy P w K mg base CX0 4 f fd ["many", "stays"] (spF K dI 2):=by
  refine cB F uL fun cdv A outer s H E hr => ?_
  have hu:=dF hr
  exact (ah (cm (bE oG oJ (mv 1) df (bf _)) (av (aV (gR rfl bA (iV (en (own:=["person"]) (capn:=[]) (caps:=[]) rfl (cf.mk' rfl (by decide +kernel) (by decide +kernel) (by repeat' (first|exact aW.nil|refine aW.cons (by first|exact (fun _=>.inl rfl)|exact (fun _=>.inr rfl)|(intro z;cases z;done)) ?_)) bH.nil) (cU rfl bc (mv 0))
      (fun cl C s H ex=>⟨(aL (i:=0) (show ((["person"] : List Str)++([] : List Str)).Nodup by decide +kernel) rfl (by first|exact .inl rfl|exact .inr rfl)),el,df⟩)))))) bn)
    (ah (cm (MW.mt (qh (dq (cL (iI (t:=.list) rfl ay rfl eX (by decide +kernel) (mv 1)))) (iU (bE (gw hu) ku (dE rfl bO (dB (mv 1))) (mv 0) (bf _)) (.inr rfl)))) (av iW) bn)
    (ah (cm (dq (cL (IS rfl rfl xn (iV (en (own:=["stay"]) (capn:=[]) (caps:=[]) rfl (cf.mk' rfl (by decide +kernel) (by decide +kernel) (by repeat' (first|exact aW.nil|refine aW.cons (by first|exact (fun _=>.inl rfl)|exact (fun _=>.inr rfl)|(intro z;cases z;done)) ?_)) bH.nil) (eT (mv 1))
      (fun cl C s H ex=>⟨(aL (i:=0) (show ((["stay"] : List Str)++([] : List Str)).Nodup by decide +kernel) rfl (by first|exact .inl rfl|exact .inr rfl)),el,(MB.me (P8 (kr (ik oG oJ (mv 0) df (bf _))) (oM (kr (aA fH (hr.mono (by decide)) rfl (ae (mv 0) aq) aB)))))⟩)))))) (av iW) bn)
    (av (aV (gR rfl bA (dB (mv 1))))))))
theorem pb:aT ["many", "ties", "bars", "stays", "near", "rows"] ["many", "ties", "bars", "stays"] (ao jB):=⟨rfl,rfl,rfl,by decide +kernel,rfl,by decide +kernel,by decide +kernel⟩
theorem Gs (F:Fun K "web_of" "web_of" jB f fd) (bA:mg "tuple" = none) (tm:mg "sorted" = none) {i8:Tok} (i9:mg "MOST_PEOPLE" = some (.int 30 i8)) (j6:Def P w K mg base "stays_told" 4 2 dI) (kZ:Def P w K mg base "bars_told" 2 2 eh) (j7:Def P w K mg base "neighbours" 4 2 dH) (cO:Def P w K mg base "is_between" 2 3 br):cy P w K mg base CX0 5 f fd ["many", "ties", "bars", "stays"] (spF K gr 4):=by
  refine cB F pb fun cdv A outer s H E hr => ?_
  have hu:=dF hr
  exact (ah (cm (dq (cL (aA cO (hr.mono (by decide)) rfl (ae (mv 0) (ae ar (ae (An rfl i9) aq))) aB))) (av iW) bn)
    (ah (aP (i:=4) pb.nd rfl (by first|exact .inl rfl|exact .inr rfl) (aA j7 (hr.mono (by decide)) rfl (ae (mv 0) (ae (mv 1) aq)) aB))
    (ah (aP (i:=5) pb.nd rfl (by first|exact .inl rfl|exact .inr rfl) (gR rfl bA (iV (en (own:=["row"]) (capn:=[]) (caps:=[]) rfl (cf.mk' rfl (by decide +kernel) (by decide +kernel) (by repeat' (first|exact aW.nil|refine aW.cons (by first|exact (fun _=>.inl rfl)|exact (fun _=>.inr rfl)|(intro z;cases z;done)) ?_)) bH.nil) (eT (mv 4))
      (fun cl C s H ex=>⟨(aL (i:=0) (show ((["row"] : List Str)++([] : List Str)).Nodup by decide +kernel) rfl (by first|exact .inl rfl|exact .inr rfl)),el,(gR rfl bA (iV (IP rfl rfl tm (mv 0))))⟩)))))
    (av (aV (dD (ae (mv 5) (ae (aA kZ (hr.mono (by decide)) rfl (ae (mv 4) (ae (mv 2) aq)) aB) (ae (aA j6 (hr.mono (by decide)) rfl (ae (mv 0) (ae (mv 3) aq)) aB) aq)))))))))
theorem C9:aT ["web"] ["web"] (ao hW):=⟨rfl,rfl,rfl,by decide +kernel,rfl,by decide +kernel,by decide +kernel⟩
theorem Da (F:Fun K "many_of" "many_of" hW f fd) (bO:mg "len" = none):cy P w K mg base CX0 1 f fd ["web"] (spF K dv 1):=by
  refine cB F C9 fun cdv A outer s H E hr => ?_
  have hu:=dF hr
  exact (av (aV (dE rfl bO (dB (aY (mv 0) ar (fun _ _=>rfl))))))
theorem Db:aT ["web", "person"] ["web", "person"] (ao hX):=⟨rfl,rfl,rfl,by decide +kernel,rfl,by decide +kernel,by decide +kernel⟩
theorem Dc (F:Fun K "ties_of" "ties_of" hX f fd):cy P w K mg base CX0 1 f fd ["web", "person"] (spF K jo 2):=by
  refine cB F Db fun cdv A outer s H E hr => ?_
  have hu:=dF hr
  exact (av (aV (aY (aY (mv 0) ar (fun _ _=>rfl)) (mv 1) (fun _ _=>rfl))))
theorem Gu:aT ["web", "person"] ["web", "person"] (ao jC):=⟨rfl,rfl,rfl,by decide +kernel,rfl,by decide +kernel,by decide +kernel⟩
theorem Gv (F:Fun K "bar_of" "bar_of" jC f fd):cy P w K mg base CX0 1 f fd ["web", "person"] (spF K jp 2):=by
  refine cB F Gu fun cdv A outer s H E hr => ?_
  have hu:=dF hr
  exact (av (aV (aY (aY (mv 0) ar (fun _ _=>rfl)) (mv 1) (fun _ _=>rfl))))
theorem Dd:aT ["web", "person"] ["web", "person"] (ao hZ):=⟨rfl,rfl,rfl,by decide +kernel,rfl,by decide +kernel,by decide +kernel⟩
theorem De (F:Fun K "stay_of" "stay_of" hZ f fd):cy P w K mg base CX0 1 f fd ["web", "person"] (spF K fu 2):=by
  refine cB F Dd fun cdv A outer s H E hr => ?_
  have hu:=dF hr
  exact (av (aV (aY (aY (mv 0) ar (fun _ _=>rfl)) (mv 1) (fun _ _=>rfl))))
theorem rH:aT ["web", "thing", "person", "opinion", "stay"] ["web", "thing"] (ao o8):=⟨rfl,rfl,rfl,by decide +kernel,rfl,by decide +kernel,by decide +kernel⟩
theorem Mu (F:Fun K "fits" "fits" o8 f fd) (k7:mg "enumerate" = none) (bO:mg "len" = none) (ay:mg "isinstance" = none) (bA:mg "tuple" = none) (jF:Def P w K mg base "stay_of" 1 2 fu) (fH:Def P w K mg base "is_opinion" 3 1 bu) (jG:Def P w K mg base "many_of" 1 1 dv):cy P w K mg base CX0 4 f fd ["web", "thing"] (spF K d5 2):=by
  refine cB F rH fun cdv A outer s H E hr => ?_
  have hu:=dF hr
  exact (ah (cm (MW.mt (qh (dq (cL (iI (t:=.tuple) rfl ay rfl bA (by decide +kernel) (mv 1)))) (iU (bE (gw hu) ku (dE rfl bO (dB (mv 1))) (aA jG (hr.mono (by decide)) rfl (ae (mv 0) aq) aB) (bf _)) (.inr rfl)))) (av (aV kq)) bn)
    (ah (fq PassesOwn.never rfl (LE rfl k7 (mv 1)) (oN rfl (c8 (aL (i:=2) rH.nd rfl (by first|exact .inl rfl|exact .inr rfl)) (c8 (aL (i:=3) rH.nd rfl (by first|exact .inl rfl|exact .inr rfl)) lH))) (ah (cm (dq (cL (aA fH (hr.mono (by decide)) rfl (ae (mv 3) aq) aB))) (av (aV kq)) bn)
    (ah (aP (i:=4) rH.nd rfl (by first|exact .inl rfl|exact .inr rfl) (aA jF (hr.mono (by decide)) rfl (ae (mv 0) (ae (mv 2) aq)) aB))
    (av (cm (MW.mt (Cp (bE re lG (mv 4) df (bf _)) (iU (bE (gw hu) ku (mv 3) (mv 4) (bf _)) (.inl rfl)))) (av (aV kq)) bn)))))
    (av (aV kq))))
theorem kX:aT ["web", "thing"] ["web", "thing"] (ao dj):=⟨rfl,rfl,rfl,by decide +kernel,rfl,by decide +kernel,by decide +kernel⟩
theorem sW (F:Fun K "check_stand" "check_stand" dj f fd) (tw:Def P w K mg base "fits" 4 2 d5):cy P w K mg base CX0 5 f fd ["web", "thing"] (spF K cQ 2):=by
  refine cB F kX fun cdv A outer s H E hr => ?_
  have hu:=dF hr
  exact (av (cm (dq (cL (aA tw (hr.mono (by decide)) rfl (ae (mv 0) (ae (mv 1) aq)) aB))) (av iW) bn))
theorem Df:aT ["web", "stand", "person"] ["web", "stand", "person"] (ao ia):=⟨rfl,rfl,rfl,by decide +kernel,rfl,by decide +kernel,by decide +kernel⟩
theorem Dg (F:Fun K "pull_at" "pull_at" ia f fd) (nX:mg "sum" = none) (ph:Def P w K mg base "ties_of" 1 2 jo):cy P w K mg base CX0 2 f fd ["web", "stand", "person"] (spF K hJ 3):=by
  refine cB F Df fun cdv A outer s H E hr => ?_
  have hu:=dF hr
  exact (av (aV (aX fM fP ar (Cr rfl rfl nX (iV (en (own:=["other", "weight"]) (capn:=["stand"]) (caps:=[1]) rfl (cf.mk' rfl (by decide +kernel) (by decide +kernel) (by repeat' (first|exact aW.nil|refine aW.cons (by first|exact (fun _=>.inl rfl)|exact (fun _=>.inr rfl)|(intro z;cases z;done)) ?_)) (bH.cons rfl rfl bH.nil)) (eT (aA ph (hr.mono (by decide)) rfl (ae (mv 0) (ae (mv 2) aq)) aB))
      (fun cl C s H ex=>⟨(oN rfl (c8 (aL (i:=0) (show ((["other", "weight"] : List Str)++(["stand"] : List Str)).Nodup by decide +kernel) rfl (by first|exact .inl rfl|exact .inr rfl)) (c8 (aL (i:=1) (show ((["other", "weight"] : List Str)++(["stand"] : List Str)).Nodup by decide +kernel) rfl (by first|exact .inl rfl|exact .inr rfl)) lH))),(iG (bE (dZ hu) fL (aY (mv 2) (mv 0) (fun _ _=>rfl)) ar (bf _))),(mv 1)⟩)))))))
theorem j5:aT ["web", "stand", "person", "stay", "strength", "bar"] ["web", "stand", "person"] (ao ib):=⟨rfl,rfl,rfl,by decide +kernel,rfl,by decide +kernel,by decide +kernel⟩
theorem Dh (F:Fun K "next_at" "next_at" ib f fd) (tD:Def P w K mg base "bar_of" 1 2 jp) (pi:Def P w K mg base "pull_at" 2 3 hJ) (jF:Def P w K mg base "stay_of" 1 2 fu):cy P w K mg base CX0 3 f fd ["web", "stand", "person"] (spF K fR 3):=by
  refine cB F j5 fun cdv A outer s H E hr => ?_
  have hu:=dF hr
  exact (ah (aP (i:=3) j5.nd rfl (by first|exact .inl rfl|exact .inr rfl) (aA jF (hr.mono (by decide)) rfl (ae (mv 0) (ae (mv 2) aq)) aB))
    (ah (cm (bE re lG (mv 3) df (bf _)) (av (aV (mv 3))) bn)
    (ah (aP (i:=4) j5.nd rfl (by first|exact .inl rfl|exact .inr rfl) (aA pi (hr.mono (by decide)) rfl (ae (mv 0) (ae (mv 1) (ae (mv 2) aq))) aB))
    (ah (aP (i:=5) j5.nd rfl (by first|exact .inl rfl|exact .inr rfl) (aA tD (hr.mono (by decide)) rfl (ae (mv 0) (ae (mv 2) aq)) aB))
    (ah (cm (bE (dZ hu) fL (mv 4) (mv 5) (bf _)) (av (aV (aY (mv 1) (mv 2) (fun _ _=>rfl)))) bn)
    (av (aV (Na (bE Ez Ao (mv 4) (mv 5) (bf _)) ar ar))))))))
theorem Di:aT ["web", "stand"] ["web", "stand"] (ao ic):=⟨rfl,rfl,rfl,by decide +kernel,rfl,by decide +kernel,by decide +kernel⟩
theorem Dj (F:Fun K "turn_at" "turn_at" ic f fd) (bA:mg "tuple" = none) (bc:mg "range" = none) (jG:Def P w K mg base "many_of" 1 1 dv) (pj:Def P w K mg base "next_at" 3 3 fR):cy P w K mg base CX0 4 f fd ["web", "stand"] (spF K cR 2):=by
  refine cB F Di fun cdv A outer s H E hr => ?_
  have hu:=dF hr
  exact (av (aV (gR rfl bA (iV (en (own:=["person"]) (capn:=["web", "stand"]) (caps:=[0,1]) rfl (cf.mk' rfl (by decide +kernel) (by decide +kernel) (by repeat' (first|exact aW.nil|refine aW.cons (by first|exact (fun _=>.inl rfl)|exact (fun _=>.inr rfl)|(intro z;cases z;done)) ?_)) (bH.cons rfl rfl (bH.cons rfl rfl bH.nil))) (cU rfl bc (aA jG (hr.mono (by decide)) rfl (ae (mv 0) aq) aB))
      (fun cl C s H ex=>⟨(aL (i:=0) (show ((["person"] : List Str)++(["web", "stand"] : List Str)).Nodup by decide +kernel) rfl (by first|exact .inl rfl|exact .inr rfl)),el,(aA pj (hr.mono (by decide)) rfl (ae (mv 1) (ae (mv 2) (ae (mv 0) aq))) aB)⟩))))))
theorem kY:aT ["web", "stand", "stands", "later", "word"] ["web", "stand"] (ao lS):=⟨rfl,rfl,rfl,by decide +kernel,rfl,by decide +kernel,by decide +kernel⟩
theorem Kj (F:Fun K "ended" "ended" lS f fd) (bO:mg "len" = none) (eL:Def P w K mg base "turn_at" 4 2 cR) (fg:Def P w K mg base "check_stand" 5 2 cQ):cy P w K mg base CX0 6 f fd ["web", "stand"] (spF K iO 2):=by
  refine cB F kY fun cdv A outer s H E hr => ?_
  have hu:=dF hr
  exact (ah (ge (aA fg (hr.mono (by decide)) rfl (ae (mv 0) (ae (mv 1) aq)) aB))
    (ah (aP (i:=2) kY.nd rfl (by first|exact .inl rfl|exact .inr rfl) (bG (bY (ae (mv 1) (ae (aA eL (hr.mono (by decide)) rfl (ae (mv 0) (ae (mv 1) aq)) aB) aq)) (fun _ _ _ _ z=>by rw [(ax (ax bi)) _ _ _ _ z];decide))))
    (ah (aP (i:=3) kY.nd rfl (by first|exact .inl rfl|exact .inr rfl) (aA eL (hr.mono (by decide)) rfl (ae (mv 0) (ae (aY (mv 2) ar (fun _ _=>rfl)) aq)) aB))
    (ah (Ip PassesOwn.never (bE (gw hu) ku (mv 3) (aY (mv 2) gU (fun _ _=>rfl)) (bf _)) (ah (ge (mS (mv 2) (mv 3)))
    (av (aP (i:=3) kY.nd rfl (by first|exact .inl rfl|exact .inr rfl) (aA eL (hr.mono (by decide)) rfl (ae (mv 0) (ae (mv 3) aq)) aB)))))
    (ah (aP (i:=4) kY.nd rfl (by first|exact .inl rfl|exact .inr rfl) (Na (bE (dZ hu) fL (aY (mv 2) gU (fun _ _=>rfl)) (aY (mv 2) gU (fun _ _=>rfl)) (bf _)) (Ih [114,101,115,116] rfl) (Ih [112,97,105,114] rfl)))
    (av (aV (dD (ae (aX mM Co (dE rfl bO (dB (mv 2))) ar) (ae (mv 4) (ae (mv 2) aq)))))))))))
theorem sX:aT ["web", "stand"] ["web", "stand"] (ao fX):=⟨rfl,rfl,rfl,by decide +kernel,rfl,by decide +kernel,by decide +kernel⟩
theorem Dk (F:Fun K "is_rest" "is_rest" fX f fd) (eL:Def P w K mg base "turn_at" 4 2 cR) (fg:Def P w K mg base "check_stand" 5 2 cQ):cy P w K mg base CX0 6 f fd ["web", "stand"] (spF K fy 2):=by
  refine cB F sX fun cdv A outer s H E hr => ?_
  have hu:=dF hr
  exact (ah (ge (aA fg (hr.mono (by decide)) rfl (ae (mv 0) (ae (mv 1) aq)) aB))
    (av (aV (ik (dZ hu) fL (aA eL (hr.mono (by decide)) rfl (ae (mv 0) (ae (mv 1) aq)) aB) (mv 1) (bf _)))))
theorem sY:aT ["web", "one", "other"] ["web", "one", "other"] (ao dR):=⟨rfl,rfl,rfl,by decide +kernel,rfl,by decide +kernel,by decide +kernel⟩
theorem Gw:aT ["web", "stand"] ["web", "stand"] (ao jD):=⟨rfl,rfl,rfl,by decide +kernel,rfl,by decide +kernel,by decide +kernel⟩
theorem Gx (F:Fun K "end_of" "end_of" jD f fd) (yH:Def P w K mg base "ended" 6 2 iO):cy P w K mg base CX0 7 f fd ["web", "stand"] (spF K iw 2):=by
  refine cB F Gw fun cdv A outer s H E hr => ?_
  have hu:=dF hr
  exact (av (aV (aY (aY (aA yH (hr.mono (by decide)) rfl (ae (mv 0) (ae (mv 1) aq)) aB) ar (fun _ _=>rfl)) gU (fun _ _=>rfl))))
theorem Gy:aT ["web", "one", "other"] ["web", "one", "other"] (ao jE):=⟨rfl,rfl,rfl,by decide +kernel,rfl,by decide +kernel,by decide +kernel⟩
theorem Pd:aT ["web", "one", "other"] ["web", "one", "other"] (ao xm):=⟨rfl,rfl,rfl,by decide +kernel,rfl,by decide +kernel,by decide +kernel⟩
theorem yC:aT ["_law_script", "_law_k"] ["_law_script", "_law_k"] (ao fB):=⟨rfl,rfl,rfl,by decide +kernel,rfl,by decide +kernel,by decide +kernel⟩
theorem yD (F:Fun K "_law_cell" "_law_cell" fB f fd) (bO:mg "len" = none):cy P w K mg base CX0 1 f fd ["_law_script", "_law_k"] (spF K bw 2):=by
  refine cB F yC fun cdv A outer s H E hr => ?_
  have hu:=dF hr
  exact (ah (cm (bE M3 Ao (mv 1) (dE rfl bO (dB (mv 0))) (bf _)) (av (aV (aY (mv 0) (mv 1) (fun _ _=>rfl)))) bn)
    (av (aV (aX gf iY (aX fM fP (aX fM fP ar (mv 1)) (mv 1)) (aX fM fP ar (mv 1))))))
theorem ei:aT ["_law_cell_here", "_law_way", "_law_many", "_law_base", "_law_found", "_law_number", "_law_k"] ["_law_cell_here", "_law_way", "_law_many", "_law_base"] (ao fY):=⟨rfl,rfl,rfl,by decide +kernel,rfl,by decide +kernel,by decide +kernel⟩
theorem Bg (F:Fun K "_law_row" "_law_row" fY f fd) (bc:mg "range" = none):cy P w K mg base CX0 1 f fd ["_law_cell_here", "_law_way", "_law_many", "_law_base"] (spF K dm 4):=by
  refine cB F ei fun cdv A outer s H E hr => ?_
  have hu:=dF hr
  exact (ah (aP (i:=4) ei.nd rfl (by first|exact .inl rfl|exact .inr rfl) (bG (bY aq (fun _ _ _ _ z=>by rw [bi _ _ _ _ z];decide))))
    (ah (aP (i:=5) ei.nd rfl (by first|exact .inl rfl|exact .inr rfl) (mv 0))
    (ah (cm (bE (dZ hu) fL (aX dX dY (mv 1) ar) ar (bf _)) (av (aP (i:=5) ei.nd rfl (by first|exact .inl rfl|exact .inr rfl) (aX dX dY (aX fM fP (aX dX dY (mv 0) ar) ar) ar))) bn)
    (ah (fq PassesOwn.never rfl (cU rfl bc (mv 2)) (aL (i:=6) ei.nd rfl (by first|exact .inl rfl|exact .inr rfl)) (av (cm (bE (dZ hu) fL (aX dX dY (mv 1) ar) ar (bf _)) (ah (aP (i:=5) ei.nd rfl (by first|exact .inl rfl|exact .inr rfl) (aX dX dY (aX gf iY (aX gf iY (aX gf iY (aX fM fP (mv 5) (mv 5)) (aX fM fP ar (mv 5))) (aX fM fP ar (mv 6))) ar) ar))
    (av (ge (mS (mv 4) (aX dX dY (aX eY iT (mv 5) ar) (mv 3)))))) (ah (ge (mS (mv 4) (aX dX dY (mv 5) (mv 3))))
    (av (aP (i:=5) ei.nd rfl (by first|exact .inl rfl|exact .inr rfl) (aX eY iT (mv 5) (mv 3))))))))
    (av (aV (mv 4)))))))
theorem bq:aT ["_law_script", "_law_most", "_law_way", "_law_many", "_law_tied", "_law_told", "_law_one", "_law_other", "_law_heavy", "_law_levels", "_law_steps", "_law_holders"] ["_law_script", "_law_most"] (ao eD):=⟨rfl,rfl,rfl,by decide +kernel,rfl,by decide +kernel,by decide +kernel⟩
theorem uN (F:Fun K "_law_model" "_law_model" eD f fd) (bc:mg "range" = none) (nX:mg "sum" = none) (xo:mg "max" = none) (iE:Def P w K mg base "_law_row" 1 4 dm) (dC:Def P w K mg base "_law_cell" 1 2 bw):cy P w K mg base CX0 2 f fd ["_law_script", "_law_most"] (spF K hU 2):=by
  refine cB F bq fun cdv A outer s H E hr => ?_
  have hu:=dF hr
  exact (ah (aP (i:=2) bq.nd rfl (by first|exact .inl rfl|exact .inr rfl) (aA dC (hr.mono (by decide)) rfl (ae (mv 0) (ae ar aq)) aB))
    (ah (aP (i:=3) bq.nd rfl (by first|exact .inl rfl|exact .inr rfl) (aX gf iY ar (aX dX dY (aX eY iT (mv 2) ar) (mv 1))))
    (ah (iH (i:=4) bq.nd rfl (by first|exact .inl rfl|exact .inr rfl) (own:=["_law_one"]) (capn:=["_law_many"]) (caps:=[3]) rfl (cf.mk' rfl (by decide +kernel) (by decide +kernel) (by repeat' (first|exact aW.nil|refine aW.cons (by first|exact (fun _=>.inl rfl)|exact (fun _=>.inr rfl)|(intro z;cases z;done)) ?_)) (bH.cons rfl rfl bH.nil)) (cU rfl bc (mv 3))
      (fun cl C s H ex=>⟨(aL (i:=0) (show ((["_law_one"] : List Str)++(["_law_many"] : List Str)).Nodup by decide +kernel) rfl (by first|exact .inl rfl|exact .inr rfl)),el,(bG (IT (bY (ae ar aq) (fun _ _ _ _ z=>by rw [(ax bi) _ _ _ _ z];decide)) (mv 1)))⟩))
    (ah (aP (i:=5) bq.nd rfl (by first|exact .inl rfl|exact .inr rfl) (aA iE (hr.mono (by decide)) rfl (ae (aA dC (hr.mono (by decide)) rfl (ae (mv 0) (ae ar aq)) aB) (ae (mv 2) (ae (aX fM fP (mv 3) (mv 3)) (ae ar aq)))) aB))
    (ah (fq PassesOwn.never rfl (cU rfl bc (mv 3)) (aL (i:=6) bq.nd rfl (by first|exact .inl rfl|exact .inr rfl)) (av (fq PassesOwn.never rfl (cU rfl bc (mv 6)) (aL (i:=7) bq.nd rfl (by first|exact .inl rfl|exact .inr rfl)) (ah (aP (i:=8) bq.nd rfl (by first|exact .inl rfl|exact .inr rfl) (IU rfl rfl xo ar (aX mM Co (aY (mv 5) (aX gf iY (aX fM fP (mv 6) (mv 3)) (mv 7)) (fun _ _=>rfl)) ar)))
    (ah (cm (bE (dZ hu) fL (aX dX dY (aX eY iT (mv 2) ar) ar) ar (bf _)) (av (aP (i:=8) bq.nd rfl (by first|exact .inl rfl|exact .inr rfl) (EJ (bY (ae ar (ae ar (ae ar (ae ar (ae ar (ae ar (ae ar aq))))))) (fun _ _ _ _ z=>by rw [(ax (ax (ax (ax (ax (ax (ax bi))))))) _ _ _ _ z];decide)) (aX dX dY (aY (mv 5) (aX gf iY (aX fM fP (mv 6) (mv 3)) (mv 7)) (fun _ _=>rfl)) ar) (fun _ _=>rfl)))) bn)
    (ah (Cs (mv 8) (aY (mv 4) (mv 6) (fun _ _=>rfl)) (mv 7))
    (av (Cs (mv 8) (aY (mv 4) (mv 7) (fun _ _=>rfl)) (mv 6)))))))))
    (ah (iH (i:=9) bq.nd rfl (by first|exact .inl rfl|exact .inr rfl) (own:=["_law_row_here"]) (capn:=[]) (caps:=[]) rfl (cf.mk' rfl (by decide +kernel) (by decide +kernel) (by repeat' (first|exact aW.nil|refine aW.cons (by first|exact (fun _=>.inl rfl)|exact (fun _=>.inr rfl)|(intro z;cases z;done)) ?_)) bH.nil) (eT (mv 4))
      (fun cl C s H ex=>⟨(aL (i:=0) (show ((["_law_row_here"] : List Str)++([] : List Str)).Nodup by decide +kernel) rfl (by first|exact .inl rfl|exact .inr rfl)),el,(Cr rfl rfl nX (dB (mv 0)))⟩))
    (ah (cm (bE (dZ hu) fL (aX dX dY (aX eY iT (mv 2) ar) ar) ar (bf _)) (ah (aP (i:=10) bq.nd rfl (by first|exact .inl rfl|exact .inr rfl) (aA iE (hr.mono (by decide)) rfl (ae (aA dC (hr.mono (by decide)) rfl (ae (mv 0) (ae ar aq)) aB) (ae (mv 2) (ae (mv 3) (ae ar aq)))) aB))
    (av (fq PassesOwn.never rfl (cU rfl bc (mv 3)) (aL (i:=6) bq.nd rfl (by first|exact .inl rfl|exact .inr rfl)) (av (Cs (EJ (bY (ae (aX mM Co (aY (mv 10) (mv 6) (fun _ _=>rfl)) ar) (ae (aX mM Co (aX gf iY (aY (mv 9) (mv 6) (fun _ _=>rfl)) (aX dX dY (aY (mv 10) (mv 6) (fun _ _=>rfl)) ar)) ar) aq)) (fun _ _ _ _ z=>by rw [(ax (ax bi)) _ _ _ _ z];decide)) (aX dX dY (aX eY iT (mv 2) ar) ar) (fun _ _=>rfl)) (mv 9) (mv 6)))))) bn)
    (ah (aP (i:=11) bq.nd rfl (by first|exact .inl rfl|exact .inr rfl) (bG (IT (bY (ae df aq) (fun _ _ _ _ z=>by rw [(ax bi) _ _ _ _ z];decide)) (mv 3))))
    (ah (cm (bE (dZ hu) fL (aX dX dY (aX eY iT (mv 2) ar) ar) ar (bf _)) (ah (aP (i:=5) bq.nd rfl (by first|exact .inl rfl|exact .inr rfl) (aA iE (hr.mono (by decide)) rfl (ae (aA dC (hr.mono (by decide)) rfl (ae (mv 0) (ae ar aq)) aB) (ae (mv 2) (ae (mv 3) (ae ar aq)))) aB))
    (av (iH (i:=11) bq.nd rfl (by first|exact .inl rfl|exact .inr rfl) (own:=["_law_number"]) (capn:=[]) (caps:=[]) rfl (cf.mk' rfl (by decide +kernel) (by decide +kernel) (by repeat' (first|exact aW.nil|refine aW.cons (by first|exact (fun _=>.inl rfl)|exact (fun _=>.inr rfl)|(intro z;cases z;done)) ?_)) bH.nil) (eT (mv 5))
      (fun cl C s H ex=>⟨(aL (i:=0) (show ((["_law_number"] : List Str)++([] : List Str)).Nodup by decide +kernel) rfl (by first|exact .inl rfl|exact .inr rfl)),el,(EJ (bY (ae ar (ae ar (ae df (ae df (ae df (ae df (ae df aq))))))) (fun _ _ _ _ z=>by rw [(ax (ax (ax (ax (ax (ax (ax bi))))))) _ _ _ _ z];decide)) (mv 0) (fun _ _=>rfl))⟩)))) bn)
    (av (aV (dD (ae (mv 4) (ae (mv 9) (ae (mv 11) aq)))))))))))))))
theorem gj:aT ["_law_model_here", "_law_found", "_law_one", "_law_other"] ["_law_model_here"] (ao eE):=⟨rfl,rfl,rfl,by decide +kernel,rfl,by decide +kernel,by decide +kernel⟩
theorem uO (F:Fun K "_law_lines" "_law_lines" eE f fd) (bc:mg "range" = none) (bO:mg "len" = none):cy P w K mg base CX0 1 f fd ["_law_model_here"] (spF K fz 1):=by
  refine cB F gj fun cdv A outer s H E hr => ?_
  have hu:=dF hr
  exact (ah (aP (i:=1) gj.nd rfl (by first|exact .inl rfl|exact .inr rfl) (bG (bY aq (fun _ _ _ _ z=>by rw [bi _ _ _ _ z];decide))))
    (ah (fq PassesOwn.never rfl (cU rfl bc (dE rfl bO (dB (aY (mv 0) ar (fun _ _=>rfl))))) (aL (i:=2) gj.nd rfl (by first|exact .inl rfl|exact .inr rfl)) (av (fq PassesOwn.never rfl (cU rfl bc (mv 2)) (aL (i:=3) gj.nd rfl (by first|exact .inl rfl|exact .inr rfl)) (av (cm (bE Ez Ao (aY (aY (aY (mv 0) ar (fun _ _=>rfl)) (mv 2) (fun _ _=>rfl)) (mv 3) (fun _ _=>rfl)) ar (bf _)) (av (ge (mS (mv 1) (dD (ae (mv 3) (ae (mv 2) (ae (aY (aY (aY (mv 0) ar (fun _ _=>rfl)) (mv 2) (fun _ _=>rfl)) (mv 3) (fun _ _=>rfl)) aq))))))) bn)))))
    (av (aV (mv 1)))))
theorem cj:aT ["_law_model_here", "_law_stand", "_law_tied", "_law_levels", "_law_holders", "_law_found", "_law_one", "_law_force", "_law_held"] ["_law_model_here", "_law_stand"] (ao fD):=⟨rfl,rfl,rfl,by decide +kernel,rfl,by decide +kernel,by decide +kernel⟩
theorem yE (F:Fun K "_law_turn" "_law_turn" fD f fd) (bA:mg "tuple" = none) (bc:mg "range" = none) (bO:mg "len" = none) (nX:mg "sum" = none):cy P w K mg base CX0 1 f fd ["_law_model_here", "_law_stand"] (spF K eZ 2):=by
  refine cB F cj fun cdv A outer s H E hr => ?_
  have hu:=dF hr
  exact (ah (Oj (mv 0) (oN rfl (c8 (aL (i:=2) cj.nd rfl (by first|exact .inl rfl|exact .inr rfl)) (c8 (aL (i:=3) cj.nd rfl (by first|exact .inl rfl|exact .inr rfl)) (c8 (aL (i:=4) cj.nd rfl (by first|exact .inl rfl|exact .inr rfl)) lH)))))
    (ah (aP (i:=5) cj.nd rfl (by first|exact .inl rfl|exact .inr rfl) (bG (bY aq (fun _ _ _ _ z=>by rw [bi _ _ _ _ z];decide))))
    (ah (fq PassesOwn.never rfl (cU rfl bc (dE rfl bO (dB (mv 3)))) (aL (i:=6) cj.nd rfl (by first|exact .inl rfl|exact .inr rfl)) (ah (aP (i:=7) cj.nd rfl (by first|exact .inl rfl|exact .inr rfl) (aX fM fP ar (Cr rfl rfl nX (iV (en (own:=["_law_other"]) (capn:=["_law_stand", "_law_tied", "_law_one"]) (caps:=[1,2,6]) rfl (cf.mk' rfl (by decide +kernel) (by decide +kernel) (by repeat' (first|exact aW.nil|refine aW.cons (by first|exact (fun _=>.inl rfl)|exact (fun _=>.inr rfl)|(intro z;cases z;done)) ?_)) (bH.cons rfl rfl (bH.cons rfl rfl (bH.cons rfl rfl bH.nil)))) (cU rfl bc (dE rfl bO (dB (mv 3))))
      (fun cl C s H ex=>⟨(aL (i:=0) (show ((["_law_other"] : List Str)++(["_law_stand", "_law_tied", "_law_one"] : List Str)).Nodup by decide +kernel) rfl (by first|exact .inl rfl|exact .inr rfl)),el,(aX fM fP (aY (aY (mv 2) (mv 3) (fun _ _=>rfl)) (mv 0) (fun _ _=>rfl)) (aY (mv 1) (mv 0) (fun _ _=>rfl)))⟩))))))
    (ah (aP (i:=8) cj.nd rfl (by first|exact .inl rfl|exact .inr rfl) (aY (mv 1) (mv 6) (fun _ _=>rfl)))
    (ah (cm (bE Ez Ao (mv 7) (aY (mv 3) (mv 6) (fun _ _=>rfl)) (bf _)) (av (aP (i:=8) cj.nd rfl (by first|exact .inl rfl|exact .inr rfl) ar)) bn)
    (ah (cm (bE M3 Ao (mv 7) (aY (mv 3) (mv 6) (fun _ _=>rfl)) (bf _)) (av (aP (i:=8) cj.nd rfl (by first|exact .inl rfl|exact .inr rfl) ar)) bn)
    (ah (cm (bE re lG (aY (mv 4) (mv 6) (fun _ _=>rfl)) df (bf _)) (av (aP (i:=8) cj.nd rfl (by first|exact .inl rfl|exact .inr rfl) (aY (mv 4) (mv 6) (fun _ _=>rfl)))) bn)
    (av (ge (mS (mv 5) (mv 8))))))))))
    (av (aV (gR rfl bA (dB (mv 5))))))))
theorem yF:aT ["_law_model_here"] ["_law_model_here"] (ao fE):=⟨rfl,rfl,rfl,by decide +kernel,rfl,by decide +kernel,by decide +kernel⟩
theorem yG (F:Fun K "_law_made" "_law_made" fE f fd) (eX:mg "list" = none) (bO:mg "len" = none) (tF:Def P w K mg base "web_of" 5 4 gr) (j8:Def P w K mg base "_law_lines" 1 1 fz):cy P w K mg base CX0 6 f fd ["_law_model_here"] (spF K ju 1):=by
  refine cB F yF fun cdv A outer s H E hr => ?_
  have hu:=dF hr
  exact (av (aV (aA tF (hr.mono (by decide)) rfl (ae (dE rfl bO (dB (aY (mv 0) ar (fun _ _=>rfl)))) (ae (aA j8 (hr.mono (by decide)) rfl (ae (mv 0) aq) aB) (ae (bG (yd rfl eX (dB (aY (mv 0) ar (fun _ _=>rfl))))) (ae (bG (yd rfl eX (dB (aY (mv 0) ar (fun _ _=>rfl))))) aq)))) aB)))
theorem uP:aT ["_law_one", "_law_other"] ["_law_one", "_law_other"] (ao eF):=⟨rfl,rfl,rfl,by decide +kernel,rfl,by decide +kernel,by decide +kernel⟩
theorem uQ (F:Fun K "_law_below" "_law_below" eF f fd) (bc:mg "range" = none) (bO:mg "len" = none):cy P w K mg base CX0 1 f fd ["_law_one", "_law_other"] (spF K bC 2):=by
  refine cB F uP fun cdv A outer s H E hr => ?_
  have hu:=dF hr
  exact (av (aV (ik (dZ hu) fL (bG (en (own:=["_law_k"]) (capn:=["_law_one", "_law_other"]) (caps:=[0,1]) rfl (cf.mk' rfl (by decide +kernel) (by decide +kernel) (by repeat' (first|exact aW.nil|refine aW.cons (by first|exact (fun _=>.inl rfl)|exact (fun _=>.inr rfl)|(intro z;cases z;done)) ?_)) (bH.cons rfl rfl (bH.cons rfl rfl bH.nil))) (cU rfl bc (dE rfl bO (dB (mv 0))))
      (fun cl C s H ex=>⟨(aL (i:=0) (show ((["_law_k"] : List Str)++(["_law_one", "_law_other"] : List Str)).Nodup by decide +kernel) rfl (by first|exact .inl rfl|exact .inr rfl)),(iG (bE Ez Ao (aY (mv 1) (mv 0) (fun _ _=>rfl)) (aY (mv 2) (mv 0) (fun _ _=>rfl)) (bf _))),(mv 0)⟩))) (bG (bY aq (fun _ _ _ _ z=>by rw [bi _ _ _ _ z];decide))) (bf _))))
theorem dz:aT ["_law_model_here", "_law_found", "_law_holder", "_law_longer", "_law_stand"] ["_law_model_here"] (ao dS):=⟨rfl,rfl,rfl,by decide +kernel,rfl,by decide +kernel,by decide +kernel⟩
theorem sZ (F:Fun K "_law_stands" "_law_stands" dS f fd):cy P w K mg base CX0 1 f fd ["_law_model_here"] (spF K iA 1):=by
  refine cB F dz fun cdv A outer s H E hr => ?_
  have hu:=dF hr
  exact (ah (aP (i:=1) dz.nd rfl (by first|exact .inl rfl|exact .inr rfl) (bG (bY (ae (dD aq) aq) (fun _ _ _ _ z=>by rw [(ax bi) _ _ _ _ z];decide))))
    (ah (fq PassesOwn.never rfl (eT (aY (mv 0) ar (fun _ _=>rfl))) (aL (i:=2) dz.nd rfl (by first|exact .inl rfl|exact .inr rfl)) (ah (aP (i:=3) dz.nd rfl (by first|exact .inl rfl|exact .inr rfl) (bG (bY aq (fun _ _ _ _ z=>by rw [bi _ _ _ _ z];decide))))
    (ah (fq PassesOwn.never rfl (eT (mv 1)) (aL (i:=4) dz.nd rfl (by first|exact .inl rfl|exact .inr rfl)) (av (cm (bE oG oJ (mv 2) df (bf _)) (av (ge (LJ (mv 3) (bY (ae (aX iK iL (mv 4) (dD (ae ar aq))) (ae (aX iK iL (mv 4) (dD (ae ar aq))) aq)) (fun _ _ _ _ z=>by rw [(ax (ax bi)) _ _ _ _ z];decide))))) (av (ge (mS (mv 3) (aX iK iL (mv 4) (dD (ae (mv 2) aq)))))))))
    (av (aP (i:=1) dz.nd rfl (by first|exact .inl rfl|exact .inr rfl) (mv 3))))))
    (av (aV (mv 1)))))
theorem gk:aT ["_law_error", "_law_some"] ["_law_error"] (ao eG):=⟨rfl,rfl,rfl,by decide +kernel,rfl,by decide +kernel,by decide +kernel⟩
theorem uR (F:Fun K "_law_class" "_law_class" eG f fd) (ay:mg "isinstance" = none) (j9:mg "ValueError" = none) {eM:Addr} (pv:mg "TooLong" = some (.ref eM)) {eN:Addr} (px:mg "NoOrder" = some (.ref eN)) {gZ:Addr} (yI:mg "NoWeb" = some (.ref gZ)) {fI:Addr} (tG:mg "NoText" = some (.ref fI)) {g0:Addr} (yJ:mg "NoRow" = some (.ref g0)) {dL:Addr} (nz:mg "NoPeople" = some (.ref dL)) {eO:Addr} (pz:mg "TooMuch" = some (.ref eO)) {bj:Addr} (k8:mg "NoRest" = some (.ref bj)) {aR:Addr} (jH:mg "NoStand" = some (.ref aR)) (ka:gX K (fun C b=>PySem.W.kitOne K (.ref C) (ip (.ty "ValueError"))=some b) [("NoStand",true),("NoRest",true)]) (pA:gX K (fun C b=>PySem.W.kitOne K (.ref C) (ip (.ref eM))=some b) [("NoStand",false),("NoRest",false)]) (pB:gX K (fun C b=>PySem.W.kitOne K (.ref C) (ip (.ref eN))=some b) [("NoStand",false),("NoRest",false)]) (yK:gX K (fun C b=>PySem.W.kitOne K (.ref C) (ip (.ref gZ))=some b) [("NoStand",false),("NoRest",false)]) (tH:gX K (fun C b=>PySem.W.kitOne K (.ref C) (ip (.ref fI))=some b) [("NoStand",false),("NoRest",false)]) (yL:gX K (fun C b=>PySem.W.kitOne K (.ref C) (ip (.ref g0))=some b) [("NoStand",false),("NoRest",false)]) (nA:gX K (fun C b=>PySem.W.kitOne K (.ref C) (ip (.ref dL))=some b) [("NoStand",false),("NoRest",false)]) (pC:gX K (fun C b=>PySem.W.kitOne K (.ref C) (ip (.ref eO))=some b) [("NoStand",false),("NoRest",false)]) (tI:gX K (fun C b=>PySem.W.kitOne K (.ref C) (ip (.ref bj))=some b) [("NoStand",false),("NoRest",true)]) (pD:gX K (fun C b=>PySem.W.kitOne K (.ref C) (ip (.ref aR))=some b) [("NoStand",true),("NoRest",false)]):cy P w K mg base CX0 1 f fd ["_law_error"] (spF K jv 1):=by
  refine cB F gk fun cdv A outer s H E hr => ?_
  have hu:=dF hr
  exact (ah (cm (bE oG oJ (mv 0) df (bf _)) (av (aV (bG (bY aq (fun _ _ _ _ z=>by rw [bi _ _ _ _ z];decide))))) bn)
    (ah (aP (i:=1) gk.nd rfl (by first|exact .inl rfl|exact .inr rfl) (bG (bY (ae (gh (tb:=[("NoStand",true),("NoRest",false)]) (v:=.ref aR) rfl rfl ay (gc (v:=.ref aR) rfl jH rfl (by decide)) pD (mv 0)) (ae (gh (tb:=[("NoStand",false),("NoRest",true)]) (v:=.ref bj) rfl rfl ay (gc (v:=.ref bj) rfl k8 rfl (by decide)) tI (mv 0)) (ae (gh (tb:=[("NoStand",false),("NoRest",false)]) (v:=.ref eO) rfl rfl ay (gc (v:=.ref eO) rfl pz rfl (by decide)) pC (mv 0)) aq))) (fun _ _ _ _ z=>by rw [(ax (ax (ax bi))) _ _ _ _ z];decide))))
    (ah (aP (i:=1) gk.nd rfl (by first|exact .inl rfl|exact .inr rfl) (bG (lJ (mv 1) (bG (bY (ae (gh (tb:=[("NoStand",false),("NoRest",false)]) (v:=.ref dL) rfl rfl ay (gc (v:=.ref dL) rfl nz rfl (by decide)) nA (mv 0)) (ae (gh (tb:=[("NoStand",false),("NoRest",false)]) (v:=.ref g0) rfl rfl ay (gc (v:=.ref g0) rfl yJ rfl (by decide)) yL (mv 0)) (ae (gh (tb:=[("NoStand",false),("NoRest",false)]) (v:=.ref fI) rfl rfl ay (gc (v:=.ref fI) rfl tG rfl (by decide)) tH (mv 0)) aq))) (fun _ _ _ _ z=>by rw [(ax (ax (ax bi))) _ _ _ _ z];decide))))))
    (ah (aP (i:=1) gk.nd rfl (by first|exact .inl rfl|exact .inr rfl) (bG (lJ (mv 1) (bG (bY (ae (gh (tb:=[("NoStand",false),("NoRest",false)]) (v:=.ref gZ) rfl rfl ay (gc (v:=.ref gZ) rfl yI rfl (by decide)) yK (mv 0)) (ae (gh (tb:=[("NoStand",false),("NoRest",false)]) (v:=.ref eN) rfl rfl ay (gc (v:=.ref eN) rfl px rfl (by decide)) pB (mv 0)) (ae (gh (tb:=[("NoStand",false),("NoRest",false)]) (v:=.ref eM) rfl rfl ay (gc (v:=.ref eM) rfl pv rfl (by decide)) pA (mv 0)) aq))) (fun _ _ _ _ z=>by rw [(ax (ax (ax bi))) _ _ _ _ z];decide))))))
    (av (aV (bG (lJ (mv 1) (bG (bY (ae (gh (tb:=[("NoStand",true),("NoRest",true)]) (v:=.ty "ValueError") rfl rfl ay (Ex (v:=.ty "ValueError") (u:=.type "ValueError") rfl j9 (by decide +kernel) rfl) ka (mv 0)) aq) (fun _ _ _ _ z=>by rw [(ax bi) _ _ _ _ z];decide)))))))))))
theorem Bh:aT ["_law_k"] ["_law_k"] (ao fZ):=⟨rfl,rfl,rfl,by decide +kernel,rfl,by decide +kernel,by decide +kernel⟩
theorem Bi (F:Fun K "_law_due" "_law_due" fZ f fd) (bc:mg "range" = none):cy P w K mg base CX0 1 f fd ["_law_k"] (spF K nU 1):=by
  refine cB F Bh fun cdv A outer s H E hr => ?_
  have hu:=dF hr
  exact (av (aV (bG (lJ (bG (en (own:=["_law_j"]) (capn:=["_law_k"]) (caps:=[0]) rfl (cf.mk' rfl (by decide +kernel) (by decide +kernel) (by repeat' (first|exact aW.nil|refine aW.cons (by first|exact (fun _=>.inl rfl)|exact (fun _=>.inr rfl)|(intro z;cases z;done)) ?_)) (bH.cons rfl rfl bH.nil)) (cU rfl bc ar)
      (fun cl C s H ex=>⟨(aL (i:=0) (show ((["_law_j"] : List Str)++(["_law_k"] : List Str)).Nodup by decide +kernel) rfl (by first|exact .inl rfl|exact .inr rfl)),el,(ik (dZ hu) fL (mv 0) (mv 1) (bf _))⟩))) (bG (bY (ae kq aq) (fun _ _ _ _ z=>by rw [(ax bi) _ _ _ _ z];decide)))))))
theorem dU:aT ["_law_web", "_law_way", "_law_one", "_law_other", "_law_caught", "_law_found", "_law_error"] ["_law_web", "_law_way", "_law_one", "_law_other"] (ao eI):=⟨rfl,rfl,rfl,by decide +kernel,rfl,by decide +kernel,by decide +kernel⟩
theorem qQ (F0:Fun K "check_stand" "check_stand" dj f fd) (tw:Def P w K mg base "fits" 4 2 d5) {aR:Addr} (pE:PyProof.Rows.OwnCls (Str.ofString "NoStand") aR Ql "ValueError.__new__" mg base):cy P w K mg base (CX1 P w) 5 f fd ["web", "thing"] (spY K mg cg 2):=by
  refine sH F0 kX fun cdv A outer s H E hr => ?_
  have hu:=dF hr
  exact (gg (Jl (dq (cL (aA tw (hr.mono (by decide)) rfl (ae (mv 0) (ae (mv 1) aq)) aB))) (gg (AC (n := "NoStand") pE F.excBase_ValueError rfl rfl (fun e s' h=>mX h))) ET))
theorem Bj (F0:Fun K "is_rest" "is_rest" fX f fd) (eL:Def P w K mg base "turn_at" 4 2 cR) (gm:jO P w K mg base "check_stand" 5 2 cg):cy P w K mg base (CX1 P w) 6 f fd ["web", "stand"] (spY K mg sU 2):=by
  refine sH F0 sX fun cdv A outer s H E hr => ?_
  have hu:=dF hr
  exact (kP (nN (jP gm (hr.mono (by decide)) rfl (sG (ae (mv 0) (ae (mv 1) aq))) (fun v s' h=>mX h.xp) jQ))
    (gg (Jk (aV (ik (dZ hu) fL (aA eL (hr.mono (by decide)) rfl (ae (mv 0) (ae (mv 1) aq)) aB) (mv 1) (bf _))))))
theorem qR (F0:Fun K "check_rests" "check_rests" dR f fd) (lT:Def P w K mg base "is_rest" 6 2 fy) (gm:jO P w K mg base "check_stand" 5 2 cg) {bj:Addr} (tJ:PyProof.Rows.OwnCls (Str.ofString "NoRest") bj Ql "ValueError.__new__" mg base):cy P w K mg base (CX1 P w) 7 f fd ["web", "one", "other"] (spY K mg bN 3):=by
  refine sH F0 sY fun cdv A outer s H E hr => ?_
  have hu:=dF hr
  exact (kP (nN (jP gm (hr.mono (by decide)) rfl (sG (ae (mv 0) (ae (mv 1) aq))) (fun v s' h=>mX h.xp) jQ))
    (kP (nN (jP gm (hr.mono (by decide)) rfl (sG (ae (mv 0) (ae (mv 2) aq))) (fun v s' h=>mX h.xp) jQ))
    (gg (Jl (MW.mt (qh (dq (cL (aA lT (hr.mono (by decide)) rfl (ae (mv 0) (ae (mv 1) aq)) aB))) (iU (dq (cL (aA lT (hr.mono (by decide)) rfl (ae (mv 0) (ae (mv 2) aq)) aB))) (.inr rfl)))) (gg (AC (n := "NoRest") tJ F.excBase_ValueError rfl rfl (fun e s' h=>mX h))) ET))))
theorem Dl (F0:Fun K "joined" "joined" jE f fd) (bA:mg "tuple" = none) (xq:mg "zip" = none) (xo:mg "max" = none) (lf:Def P w K mg base "end_of" 7 2 iw) (ja:jO P w K mg base "check_rests" 7 3 bN):cy P w K mg base (CX1 P w) 8 f fd ["web", "one", "other"] (spY K mg eo 3):=by
  refine sH F0 Gy fun cdv A outer s H E hr => ?_
  have hu:=dF hr
  exact (kP (nN (jP ja (hr.mono (by decide)) rfl (sG (ae (mv 0) (ae (mv 1) (ae (mv 2) aq)))) (fun v s' h=>mX h.xp) jQ))
    (gg (Jk (aV (aA lf (hr.mono (by decide)) rfl (ae (mv 0) (ae (gR rfl bA (iV (en (own:=["low", "high"]) (capn:=[]) (caps:=[]) rfl (cf.mk' rfl (by decide +kernel) (by decide +kernel) (by repeat' (first|exact aW.nil|refine aW.cons (by first|exact (fun _=>.inl rfl)|exact (fun _=>.inr rfl)|(intro z;cases z;done)) ?_)) bH.nil) (Ja rfl xq (mv 1) (mv 2))
      (fun cl C s H ex=>⟨(oN rfl (c8 (aL (i:=0) (show ((["low", "high"] : List Str)++([] : List Str)).Nodup by decide +kernel) rfl (by first|exact .inl rfl|exact .inr rfl)) (c8 (aL (i:=1) (show ((["low", "high"] : List Str)++([] : List Str)).Nodup by decide +kernel) rfl (by first|exact .inl rfl|exact .inr rfl)) lH))),el,(IU rfl rfl xo (mv 0) (mv 1))⟩)))) aq)) aB)))))
theorem Mv (F0:Fun K "met" "met" xm f fd) (bA:mg "tuple" = none) (xq:mg "zip" = none) (Km:mg "min" = none) (lf:Def P w K mg base "end_of" 7 2 iw) (ja:jO P w K mg base "check_rests" 7 3 bN):cy P w K mg base (CX1 P w) 8 f fd ["web", "one", "other"] (spY K mg jZ 3):=by
  refine sH F0 Pd fun cdv A outer s H E hr => ?_
  have hu:=dF hr
  exact (kP (nN (jP ja (hr.mono (by decide)) rfl (sG (ae (mv 0) (ae (mv 1) (ae (mv 2) aq)))) (fun v s' h=>mX h.xp) jQ))
    (gg (Jk (aV (aA lf (hr.mono (by decide)) rfl (ae (mv 0) (ae (gR rfl bA (iV (en (own:=["low", "high"]) (capn:=[]) (caps:=[]) rfl (cf.mk' rfl (by decide +kernel) (by decide +kernel) (by repeat' (first|exact aW.nil|refine aW.cons (by first|exact (fun _=>.inl rfl)|exact (fun _=>.inr rfl)|(intro z;cases z;done)) ?_)) bH.nil) (Ja rfl xq (mv 1) (mv 2))
      (fun cl C s H ex=>⟨(oN rfl (c8 (aL (i:=0) (show ((["low", "high"] : List Str)++([] : List Str)).Nodup by decide +kernel) rfl (by first|exact .inl rfl|exact .inr rfl)) (c8 (aL (i:=1) (show ((["low", "high"] : List Str)++([] : List Str)).Nodup by decide +kernel) rfl (by first|exact .inl rfl|exact .inr rfl)) lH))),el,(OG rfl rfl Km (mv 0) (mv 1))⟩)))) aq)) aB)))))
theorem uS (F:Fun K "_law_asked" "_law_asked" eI f fd) {bX:Addr} (lh:mg "MostError" = some (.ref bX)) (h_be:PySem.W.subIn K (.ref bX) (.type "BaseException")=some true) (h_is:(PySem.W.clsIn K bX).isSome=true) (h_ty:PySem.W.typeIn K (.ref bX)=some (.type "type")) (h_cs:FY K mg bX ["NoStand", "NoRest"]) (Kn:jO P w K mg base "joined" 8 3 eo) (Qx:jO P w K mg base "met" 8 3 jZ) (kb:Def P w K mg base "_law_class" 1 1 jv):cy P w K mg base CX0 9 f fd ["_law_web", "_law_way", "_law_one", "_law_other"] (spF K cZ 4):=by
  refine cB F dU fun cdv A outer s H E hr => ?_
  have hu:=dF hr
  exact (ah (aP (i:=4) dU.nd rfl (by first|exact .inl rfl|exact .inr rfl) df)
    (ah (aP (i:=5) dU.nd rfl (by first|exact .inl rfl|exact .inr rfl) df)
    (ah (OL (i:=4) (j:=6) (cs:=["NoStand", "NoRest"]) rfl rfl (fun q E=>(gg (Jl (bE (dZ hu) fL (mv 1) ar (bf _)) (gg (Jm (i:=5) dU.nd rfl (by first|exact .inl rfl|exact .inr rfl) (jP Kn (hr.mono (by decide)) rfl (sG (ae (mv 0) (ae (mv 2) (ae (mv 3) aq)))) (fun v s' h=>h.unwish) jQ))) (gg (Jm (i:=5) dU.nd rfl (by first|exact .inl rfl|exact .inr rfl) (jP Qx (hr.mono (by decide)) rfl (sG (ae (mv 0) (ae (mv 2) (ae (mv 3) aq)))) (fun v s' h=>h.unwish) jQ)))))) rfl rfl lh rfl h_be h_is h_ty dU.nd (by decide) rfl rfl rfl rfl h_cs)
    (ah (cm (bE oG oJ (mv 4) df (bf _)) (av (aV (bG (bY (ae (mv 5) aq) (fun _ _ _ _ z=>by rw [(ax bi) _ _ _ _ z];decide))))) bn)
    (av (aV (aA kb (hr.mono (by decide)) rfl (ae (mv 4) aq) aB)))))))
theorem eJ:aT ["_law_found", "_law_some", "_law_one", "_law_other", "_law_way", "_law_told", "_law_above", "_law_under"] ["_law_found", "_law_some", "_law_one", "_law_other", "_law_way"] (ao c0):=⟨rfl,rfl,rfl,by decide +kernel,rfl,by decide +kernel,by decide +kernel⟩
theorem pc (F:Fun K "_law_is_bound" "_law_is_bound" c0 f fd) (ay:mg "isinstance" = none) (bA:mg "tuple" = none) (bO:mg "len" = none) (de:Def P w K mg base "_law_below" 1 2 bC):cy P w K mg base CX0 2 f fd ["_law_found", "_law_some", "_law_one", "_law_other", "_law_way"] (spF K er 5):=by
  refine cB F eJ fun cdv A outer s H E hr => ?_
  have hu:=dF hr
  exact (ah (cm (MW.mt (qh (bE (gw hu) ku (dE rfl bO (dB (mv 0))) ar (bf _)) (qh (dq (cL (iI (t:=.tuple) rfl ay rfl bA (by decide +kernel) (aY (mv 0) ar (fun _ _=>rfl))))) (iU (bE (FZ hu) F3 (aY (mv 0) ar (fun _ _=>rfl)) (mv 1) rfl) (.inr rfl))))) (av (aV kq)) bn)
    (ah (aP (i:=5) eJ.nd rfl (by first|exact .inl rfl|exact .inr rfl) (aY (mv 0) ar (fun _ _=>rfl)))
    (ah (cm (bE (dZ hu) fL (mv 4) ar (bf _)) (ah (iH (i:=6) eJ.nd rfl (by first|exact .inl rfl|exact .inr rfl) (own:=["_law_stand"]) (capn:=["_law_one", "_law_other"]) (caps:=[2,3]) rfl (cf.mk' rfl (by decide +kernel) (by decide +kernel) (by repeat' (first|exact aW.nil|refine aW.cons (by first|exact (fun _=>.inl rfl)|exact (fun _=>.inr rfl)|(intro z;cases z;done)) ?_)) (bH.cons rfl rfl (bH.cons rfl rfl bH.nil))) (eT (mv 1))
      (fun cl C s H ex=>⟨(aL (i:=0) (show ((["_law_stand"] : List Str)++(["_law_one", "_law_other"] : List Str)).Nodup by decide +kernel) rfl (by first|exact .inl rfl|exact .inr rfl)),(iG (MW.mt (Cp (cL (aA de (hr.mono (by decide)) rfl (ae (mv 1) (ae (mv 0) aq)) aB)) (iU (cL (aA de (hr.mono (by decide)) rfl (ae (mv 2) (ae (mv 0) aq)) aB)) (.inl rfl))))),(mv 0)⟩))
    (av (aV (MB.me (sg (kr (ik (Jo hu) Jp (mv 5) (mv 6) rfl)) (oM (kr (ik (dZ hu) fL (bG (en (own:=["_law_stand"]) (capn:=["_law_told"]) (caps:=[5]) rfl (cf.mk' rfl (by decide +kernel) (by decide +kernel) (by repeat' (first|exact aW.nil|refine aW.cons (by first|exact (fun _=>.inl rfl)|exact (fun _=>.inr rfl)|(intro z;cases z;done)) ?_)) (bH.cons rfl rfl bH.nil)) (eT (mv 6))
      (fun cl C s H ex=>⟨(aL (i:=0) (show ((["_law_stand"] : List Str)++(["_law_told"] : List Str)).Nodup by decide +kernel) rfl (by first|exact .inl rfl|exact .inr rfl)),(iG (dq (cL (aA de (hr.mono (by decide)) rfl (ae (mv 1) (ae (mv 0) aq)) aB)))),(mv 0)⟩))) (bG (bY aq (fun _ _ _ _ z=>by rw [bi _ _ _ _ z];decide))) (bf _))))))))) bn)
    (ah (iH (i:=7) eJ.nd rfl (by first|exact .inl rfl|exact .inr rfl) (own:=["_law_stand"]) (capn:=["_law_one", "_law_other"]) (caps:=[2,3]) rfl (cf.mk' rfl (by decide +kernel) (by decide +kernel) (by repeat' (first|exact aW.nil|refine aW.cons (by first|exact (fun _=>.inl rfl)|exact (fun _=>.inr rfl)|(intro z;cases z;done)) ?_)) (bH.cons rfl rfl (bH.cons rfl rfl bH.nil))) (eT (mv 1))
      (fun cl C s H ex=>⟨(aL (i:=0) (show ((["_law_stand"] : List Str)++(["_law_one", "_law_other"] : List Str)).Nodup by decide +kernel) rfl (by first|exact .inl rfl|exact .inr rfl)),(iG (MW.mt (Cp (cL (aA de (hr.mono (by decide)) rfl (ae (mv 0) (ae (mv 1) aq)) aB)) (iU (cL (aA de (hr.mono (by decide)) rfl (ae (mv 0) (ae (mv 2) aq)) aB)) (.inl rfl))))),(mv 0)⟩))
    (av (aV (MB.me (sg (kr (ik (Jo hu) Jp (mv 5) (mv 7) rfl)) (oM (kr (ik (dZ hu) fL (bG (en (own:=["_law_stand"]) (capn:=["_law_told"]) (caps:=[5]) rfl (cf.mk' rfl (by decide +kernel) (by decide +kernel) (by repeat' (first|exact aW.nil|refine aW.cons (by first|exact (fun _=>.inl rfl)|exact (fun _=>.inr rfl)|(intro z;cases z;done)) ?_)) (bH.cons rfl rfl bH.nil)) (eT (mv 7))
      (fun cl C s H ex=>⟨(aL (i:=0) (show ((["_law_stand"] : List Str)++(["_law_told"] : List Str)).Nodup by decide +kernel) rfl (by first|exact .inl rfl|exact .inr rfl)),(iG (dq (cL (aA de (hr.mono (by decide)) rfl (ae (mv 0) (ae (mv 1) aq)) aB)))),(mv 0)⟩))) (bG (bY aq (fun _ _ _ _ z=>by rw [bi _ _ _ _ z];decide))) (bf _))))))))))))
theorem eK:aT ["_law_model_here", "_law_stand", "_law_cell_here", "_law_some", "_law_one"] ["_law_model_here", "_law_stand", "_law_cell_here"] (ao c5):=⟨rfl,rfl,rfl,by decide +kernel,rfl,by decide +kernel,by decide +kernel⟩
theorem pf (F:Fun K "_law_no_stand" "_law_no_stand" c5 f fd) (bO:mg "len" = none) (bc:mg "range" = none) (eX:mg "list" = none):cy P w K mg base CX0 1 f fd ["_law_model_here", "_law_stand", "_law_cell_here"] (spF K eu 3):=by
  refine cB F eK fun cdv A outer s H E hr => ?_
  have hu:=dF hr
  exact (ah (aP (i:=3) eK.nd rfl (by first|exact .inl rfl|exact .inr rfl) (bG (bY (ae (aX gf iY (mv 1) (dD (ae ar aq))) (ae (jj (mv 1) wT (wU gU)) (ae (bG (yd rfl eX (dB (mv 1)))) (ae df (ae ar aq))))) (fun _ _ _ _ z=>by rw [(ax (ax (ax (ax (ax bi))))) _ _ _ _ z];decide))))
    (ah (aP (i:=3) eK.nd rfl (by first|exact .inl rfl|exact .inr rfl) (bG (lJ (mv 3) (bG (bY (ae (aX iK iL (jj (mv 1) wT (wU gU)) (dD (ae ar aq))) (ae (aX iK iL (jj (mv 1) wT (wU gU)) (dD (ae kq aq))) (ae (aX iK iL (jj (mv 1) wT (wU gU)) (dD (ae df aq))) aq))) (fun _ _ _ _ z=>by rw [(ax (ax (ax bi))) _ _ _ _ z];decide))))))
    (ah (fq PassesOwn.never rfl (cU rfl bc (dE rfl bO (dB (mv 1)))) (aL (i:=4) eK.nd rfl (by first|exact .inl rfl|exact .inr rfl)) (av (cm (bE re lG (aY (aY (mv 0) ar (fun _ _=>rfl)) (mv 4) (fun _ _=>rfl)) df (bf _)) (av (ge (mS (mv 3) (aX iK iL (aX iK iL (jj (mv 1) wT (wU (mv 4))) (dD (ae (aX mM Co ar (aY (mv 1) (mv 4) (fun _ _=>rfl))) aq))) (jj (mv 1) (wU (aX gf iY (mv 4) ar)) wT))))) bn)))
    (av (aV (aY (mv 3) (aX dX dY (mv 2) (dE rfl bO (dB (mv 3)))) (fun _ _=>rfl)))))))
theorem dJ:aT ["_law_script", "_law_model_here", "_law_web", "_law_kept", "_law_stands_here", "_law_some", "_law_others", "_law_k", "_law_cell_here", "_law_one", "_law_other", "_law_bad", "_law_way", "_law_told", "_law_moving", "_law_first", "_law_second", "_law_due_here"] ["_law_script"] (ao nW):=⟨rfl,rfl,rfl,by decide +kernel,rfl,by decide +kernel,by decide +kernel⟩
theorem Pe (F:Fun K "law" "law" nW f fd) (yM:mg "repr" = none) (bc:mg "range" = none) (bO:mg "len" = none) (fJ:Def P w K mg base "_law_asked" 9 4 cZ) (nB:Def P w K mg base "_law_due" 1 1 nU) (gD:Def P w K mg base "_law_is_bound" 2 5 er) (gF:Def P w K mg base "_law_no_stand" 1 3 eu) (dC:Def P w K mg base "_law_cell" 1 2 bw) (iQ:Def P w K mg base "_law_turn" 1 2 eZ) (jb:Def P w K mg base "_law_stands" 1 1 iA) (lm:Def P w K mg base "_law_made" 6 1 ju) (kc:Def P w K mg base "_law_model" 2 2 hU):cy P w K mg base CX0 10 f fd ["_law_script"] (spF K Ff 1):=by
  refine cB F dJ fun cdv A outer s H E hr => ?_
  have hu:=dF hr
  exact (ah (aP (i:=1) dJ.nd rfl (by first|exact .inl rfl|exact .inr rfl) (aA kc (hr.mono (by decide)) rfl (ae (mv 0) (ae ar aq)) aB))
    (ah (aP (i:=2) dJ.nd rfl (by first|exact .inl rfl|exact .inr rfl) (aA lm (hr.mono (by decide)) rfl (ae (mv 1) aq) aB))
    (ah (aP (i:=3) dJ.nd rfl (by first|exact .inl rfl|exact .inr rfl) (EX hr.gd hr.units rfl yM (mv 2)))
    (ah (aP (i:=4) dJ.nd rfl (by first|exact .inl rfl|exact .inr rfl) (aA jb (hr.mono (by decide)) rfl (ae (mv 1) aq) aB))
    (ah (iH (i:=5) dJ.nd rfl (by first|exact .inl rfl|exact .inr rfl) (own:=["_law_stand"]) (capn:=["_law_model_here"]) (caps:=[1]) rfl (cf.mk' rfl (by decide +kernel) (by decide +kernel) (by repeat' (first|exact aW.nil|refine aW.cons (by first|exact (fun _=>.inl rfl)|exact (fun _=>.inr rfl)|(intro z;cases z;done)) ?_)) (bH.cons rfl rfl bH.nil)) (eT (mv 4))
      (fun cl C s H ex=>⟨(aL (i:=0) (show ((["_law_stand"] : List Str)++(["_law_model_here"] : List Str)).Nodup by decide +kernel) rfl (by first|exact .inl rfl|exact .inr rfl)),(iG (bE (dZ hu) fL (aA iQ (hr.mono (by decide)) rfl (ae (mv 1) (ae (mv 0) aq)) aB) (mv 0) (bf _))),(mv 0)⟩))
    (ah (iH (i:=6) dJ.nd rfl (by first|exact .inl rfl|exact .inr rfl) (own:=["_law_stand"]) (capn:=["_law_model_here"]) (caps:=[1]) rfl (cf.mk' rfl (by decide +kernel) (by decide +kernel) (by repeat' (first|exact aW.nil|refine aW.cons (by first|exact (fun _=>.inl rfl)|exact (fun _=>.inr rfl)|(intro z;cases z;done)) ?_)) (bH.cons rfl rfl bH.nil)) (eT (mv 4))
      (fun cl C s H ex=>⟨(aL (i:=0) (show ((["_law_stand"] : List Str)++(["_law_model_here"] : List Str)).Nodup by decide +kernel) rfl (by first|exact .inl rfl|exact .inr rfl)),(iG (bE (gw hu) ku (aA iQ (hr.mono (by decide)) rfl (ae (mv 1) (ae (mv 0) aq)) aB) (mv 0) (bf _))),(mv 0)⟩))
    (ah (fq PassesOwn.never rfl (FM rfl bc ar ar) (aL (i:=7) dJ.nd rfl (by first|exact .inl rfl|exact .inr rfl)) (ah (aP (i:=8) dJ.nd rfl (by first|exact .inl rfl|exact .inr rfl) (aA dC (hr.mono (by decide)) rfl (ae (mv 0) (ae (mv 7) aq)) aB))
    (ah (aP (i:=9) dJ.nd rfl (by first|exact .inl rfl|exact .inr rfl) (aY (mv 5) (aX dX dY (mv 8) (dE rfl bO (dB (mv 5)))) (fun _ _=>rfl)))
    (ah (aP (i:=10) dJ.nd rfl (by first|exact .inl rfl|exact .inr rfl) (aY (mv 5) (aX dX dY (aX eY iT (mv 8) ar) (dE rfl bO (dB (mv 5)))) (fun _ _=>rfl)))
    (ah (aP (i:=11) dJ.nd rfl (by first|exact .inl rfl|exact .inr rfl) (aA gF (hr.mono (by decide)) rfl (ae (mv 1) (ae (mv 9) (ae (aX eY iT (mv 8) ar) aq))) aB))
    (av (fq PassesOwn.never rfl (On (bY (ae ar (ae ar aq)) (fun _ _ _ _ z=>by rw [(ax (ax bi)) _ _ _ _ z];decide))) (aL (i:=12) dJ.nd rfl (by first|exact .inl rfl|exact .inr rfl)) (ah (cm (dq (cL (aA gD (hr.mono (by decide)) rfl (ae (aA fJ (hr.mono (by decide)) rfl (ae (mv 2) (ae (mv 12) (ae (mv 9) (ae (mv 10) aq)))) aB) (ae (mv 5) (ae (mv 9) (ae (mv 10) (ae (mv 12) aq))))) aB))) (av (aV kq)) bn)
    (ah (cm (bE (gw hu) ku (aA fJ (hr.mono (by decide)) rfl (ae (mv 2) (ae (mv 12) (ae (EJ (bY (ae (aY (mv 5) ar (fun _ _=>rfl)) (ae (aY (mv 5) gU (fun _ _=>rfl)) aq)) (fun _ _ _ _ z=>by rw [(ax (ax bi)) _ _ _ _ z];decide)) (mv 12) (fun _ _=>rfl)) (ae (mv 9) aq)))) aB) (bG (bY (ae (mv 9) aq) (fun _ _ _ _ z=>by rw [(ax bi) _ _ _ _ z];decide))) (bf _)) (av (aV kq)) bn)
    (ah (aP (i:=13) dJ.nd rfl (by first|exact .inl rfl|exact .inr rfl) (bG (bY (ae (dD (ae (mv 11) (ae (mv 9) (ae ar aq)))) (ae (dD (ae (mv 9) (ae (mv 11) (ae ar aq)))) aq)) (fun _ _ _ _ z=>by rw [(ax (ax bi)) _ _ _ _ z];decide))))
    (ah (cm (bE (gw hu) ku (mv 6) (bG (bY aq (fun _ _ _ _ z=>by rw [bi _ _ _ _ z];decide))) (bf _)) (ah (aP (i:=14) dJ.nd rfl (by first|exact .inl rfl|exact .inr rfl) (aY (mv 6) (aX dX dY (aX eY iT (mv 8) ar) (dE rfl bO (dB (mv 6)))) (fun _ _=>rfl)))
    (av (aP (i:=13) dJ.nd rfl (by first|exact .inl rfl|exact .inr rfl) (bG (lJ (mv 13) (bG (bY (ae (dD (ae (mv 9) (ae (mv 14) (ae ar aq)))) (ae (dD (ae (mv 14) (ae (mv 9) (ae ar aq)))) (ae (dD (ae (mv 14) (ae (mv 11) (ae ar aq)))) (ae (dD (ae (mv 11) (ae (mv 14) (ae ar aq)))) aq)))) (fun _ _ _ _ z=>by rw [(ax (ax (ax (ax bi)))) _ _ _ _ z];decide)))))))) bn)
    (av (fq PassesOwn.never rfl (eT (mv 13)) (oN rfl (c8 (aL (i:=15) dJ.nd rfl (by first|exact .inl rfl|exact .inr rfl)) (c8 (aL (i:=16) dJ.nd rfl (by first|exact .inl rfl|exact .inr rfl)) (c8 (aL (i:=17) dJ.nd rfl (by first|exact .inl rfl|exact .inr rfl)) lH)))) (av (cm (bE (gw hu) ku (aA fJ (hr.mono (by decide)) rfl (ae (mv 2) (ae (mv 12) (ae (mv 15) (ae (mv 16) aq)))) aB) (aA nB (hr.mono (by decide)) rfl (ae (mv 17) aq) aB) (bf _)) (av (aV kq)) bn)))))))))))))))
    (av (aV (ik (dZ hu) fL (EX hr.gd hr.units rfl yM (mv 2)) (mv 3) (bf _)))))))))))
end
theorem gv {α : Type}(us:List α)(hl:us.length=1):∃ x0,us=[x0]:=match us,hl with | [x0],_=>⟨x0,rfl⟩
theorem cA {α : Type}(us:List α)(hl:us.length=2):∃ x0 x1,us=[x0,x1]:=match us,hl with | [x0,x1],_=>⟨x0,x1,rfl⟩
theorem iC {α : Type}(us:List α)(hl:us.length=3):∃ x0 x1 x2,us=[x0,x1,x2]:=match us,hl with | [x0,x1,x2],_=>⟨x0,x1,x2,rfl⟩
theorem tf {α : Type}(us:List α)(hl:us.length=4):∃ x0 x1 x2 x3,us=[x0,x1,x2,x3]:=match us,hl with | [x0,x1,x2,x3],_=>⟨x0,x1,x2,x3,rfl⟩
theorem Kk {α : Type}(us:List α)(hl:us.length=5):∃ x0 x1 x2 x3 x4,us=[x0,x1,x2,x3,x4]:=match us,hl with | [x0,x1,x2,x3,x4],_=>⟨x0,x1,x2,x3,x4,rfl⟩
theorem Pf {l:PySem.W.OpenLaw} {w:World} {K:PySem.W.Frag} {h:Heap} {mg:Str→Option Value} {fa nC ke kf tK kg lq kh tL pF pG tM pH Dn jc pI pJ pK yN pL jd tN tO Ko ly nD ki kj lA lB kl je km nE kn gG gH Kq bX aR bj eM eN gZ fI g0 dL eO:Addr} (X:K.In h) (G:h.Ns mainGlobals mg) (hfa:mg "law" = some (.ref fa))
    {Bk Bl:Option Addr} {Bm:Array (Option Value)} {Bn Bo Bp Bq qx Br:Value}
    (Do:PySem.W.nsIn K mainGlobals "is_whole" = some (some (.ref nC))) (Dp:K.lookup nC=some ⟨Bn,Bk,.func (PySem.W.fnOf "is_whole" "is_whole" (aU fW) (aK fW) (ao fW) .none Bo Bp Bq Bl qx Br),Bm⟩) (iD:PySem.W.codeIn K qx "is_whole" = true) (tP:PySem.W.keepIn K (.ref nC)=true)
    {uT uU:Option Addr} {uV:Array (Option Value)} {uW uX uY uZ mf u0:Value}
    (yO:PySem.W.nsIn K mainGlobals "is_between" = some (some (.ref ke))) (yP:K.lookup ke=some ⟨uW,uT,.func (PySem.W.fnOf "is_between" "is_between" (aU ez) (aK ez) (ao ez) .none uX uY uZ uU mf u0),uV⟩) (cO:PySem.W.codeIn K mf "is_between" = true) (nY:PySem.W.keepIn K (.ref ke)=true)
    {u3 u4:Option Addr} {u5:Array (Option Value)} {u6 u7 va vc mi vd:Value}
    (yQ:PySem.W.nsIn K mainGlobals "is_opinion" = some (some (.ref kf))) (yR:K.lookup kf=some ⟨u6,u3,.func (PySem.W.fnOf "is_opinion" "is_opinion" (aU eA) (aK eA) (ao eA) .none u7 va vc u4 mi vd),u5⟩) (fH:PySem.W.codeIn K mi "is_opinion" = true) (nZ:PySem.W.keepIn K (.ref kf)=true)
    {Gz GA:Option Addr} {GB:Array (Option Value)} {GC GD GE GG xr GH:Value}
    (Kr:PySem.W.nsIn K mainGlobals "is_tie" = some (some (.ref tK))) (Ks:K.lookup tK=some ⟨GC,Gz,.func (PySem.W.fnOf "is_tie" "is_tie" (aU jA) (aK jA) (ao jA) .none GD GE GG GA xr GH),GB⟩) (tj:PySem.W.codeIn K xr "is_tie" = true) (Bs:PySem.W.keepIn K (.ref tK)=true)
    {vf vg:Option Addr} {vh:Array (Option Value)} {vk vm vn vq mj vt:Value}
    (yS:PySem.W.nsIn K mainGlobals "neighbours" = some (some (.ref kg))) (yT:K.lookup kg=some ⟨vk,vf,.func (PySem.W.fnOf "neighbours" "neighbours" (aU eB) (aK eB) (ao eB) .none vm vn vq vg mj vt),vh⟩) (j7:PySem.W.codeIn K mj "neighbours" = true) (n5:PySem.W.keepIn K (.ref kg)=true)
    {yU yV:Option Addr} {yW:Array (Option Value)} {yX yY yZ y4 n6 y6:Value}
    (Bt:PySem.W.nsIn K mainGlobals "bars_told" = some (some (.ref lq))) (Bu:K.lookup lq=some ⟨yX,yU,.func (PySem.W.fnOf "bars_told" "bars_told" (aU fA) (aK fA) (ao fA) .none yY yZ y4 yV n6 y6),yW⟩) (kZ:PySem.W.codeIn K n6 "bars_told" = true) (qz:PySem.W.keepIn K (.ref lq)=true)
    {vv vw:Option Addr} {vx:Array (Option Value)} {vy vz vA vB mm vC:Value}
    (y7:PySem.W.nsIn K mainGlobals "stays_told" = some (some (.ref kh))) (y8:K.lookup kh=some ⟨vy,vv,.func (PySem.W.fnOf "stays_told" "stays_told" (aU eC) (aK eC) (ao eC) .none vz vA vB vw mm vC),vx⟩) (j6:PySem.W.codeIn K mm "stays_told" = true) (n8:PySem.W.keepIn K (.ref kh)=true)
    {GI GJ:Option Addr} {GK:Array (Option Value)} {GL GM GN GO xt GP:Value}
    (Kt:PySem.W.nsIn K mainGlobals "web_of" = some (some (.ref tL))) (Ku:K.lookup tL=some ⟨GL,GI,.func (PySem.W.fnOf "web_of" "web_of" (aU jB) (aK jB) (ao jB) .none GM GN GO GJ xt GP),GK⟩) (tF:PySem.W.codeIn K xt "web_of" = true) (Bv:PySem.W.keepIn K (.ref tL)=true)
    {Dq Dr:Option Addr} {Ds:Array (Option Value)} {Dt Du Dv Dw tQ Dx:Value}
    (GQ:PySem.W.nsIn K mainGlobals "many_of" = some (some (.ref pF))) (GR:K.lookup pF=some ⟨Dt,Dq,.func (PySem.W.fnOf "many_of" "many_of" (aU hW) (aK hW) (ao hW) .none Du Dv Dw Dr tQ Dx),Ds⟩) (jG:PySem.W.codeIn K tQ "many_of" = true) (xu:PySem.W.keepIn K (.ref pF)=true)
    {Dy Dz:Option Addr} {DA:Array (Option Value)} {DB DC DD DE tR DF:Value}
    (GS:PySem.W.nsIn K mainGlobals "ties_of" = some (some (.ref pG))) (GT:K.lookup pG=some ⟨DB,Dy,.func (PySem.W.fnOf "ties_of" "ties_of" (aU hX) (aK hX) (ao hX) .none DC DD DE Dz tR DF),DA⟩) (ph:PySem.W.codeIn K tR "ties_of" = true) (xv:PySem.W.keepIn K (.ref pG)=true)
    {GU GV:Option Addr} {GW:Array (Option Value)} {GX GY GZ G1 xw G2:Value}
    (Kv:PySem.W.nsIn K mainGlobals "bar_of" = some (some (.ref tM))) (Kw:K.lookup tM=some ⟨GX,GU,.func (PySem.W.fnOf "bar_of" "bar_of" (aU jC) (aK jC) (ao jC) .none GY GZ G1 GV xw G2),GW⟩) (tD:PySem.W.codeIn K xw "bar_of" = true) (Bw:PySem.W.keepIn K (.ref tM)=true)
    {DG DH:Option Addr} {DI:Array (Option Value)} {DJ DK DL DM tS DN:Value}
    (G3:PySem.W.nsIn K mainGlobals "stay_of" = some (some (.ref pH))) (G4:K.lookup pH=some ⟨DJ,DG,.func (PySem.W.fnOf "stay_of" "stay_of" (aU hZ) (aK hZ) (ao hZ) .none DK DL DM DH tS DN),DI⟩) (jF:PySem.W.codeIn K tS "stay_of" = true) (xx:PySem.W.keepIn K (.ref pH)=true)
    {Mw Mx:Option Addr} {My:Array (Option Value)} {Mz MC MD MH Fs MJ:Value}
    (Pg:PySem.W.nsIn K mainGlobals "fits" = some (some (.ref Dn))) (Ph:K.lookup Dn=some ⟨Mz,Mw,.func (PySem.W.fnOf "fits" "fits" (aU o8) (aK o8) (ao o8) .none MC MD MH Mx Fs MJ),My⟩) (tw:PySem.W.codeIn K Fs "fits" = true) (Kx:PySem.W.keepIn K (.ref Dn)=true)
    {tT tU:Option Addr} {tV:Array (Option Value)} {tW tX tY tZ lC t5:Value}
    (mr:PySem.W.nsIn K mainGlobals "check_stand" = some (some (.ref jc))) (vD:K.lookup jc=some ⟨tW,tT,.func (PySem.W.fnOf "check_stand" "check_stand" (aU dj) (aK dj) (ao dj) .none tX tY tZ tU lC t5),tV⟩) (fg:PySem.W.codeIn K lC "check_stand" = true) (jf:PySem.W.keepIn K (.ref jc)=true)
    {DO DP:Option Addr} {DQ:Array (Option Value)} {DR DS DT DU t6 DV:Value}
    (G5:PySem.W.nsIn K mainGlobals "pull_at" = some (some (.ref pI))) (G8:K.lookup pI=some ⟨DR,DO,.func (PySem.W.fnOf "pull_at" "pull_at" (aU ia) (aK ia) (ao ia) .none DS DT DU DP t6 DV),DQ⟩) (pi:PySem.W.codeIn K t6 "pull_at" = true) (xy:PySem.W.keepIn K (.ref pI)=true)
    {DW DX:Option Addr} {DY:Array (Option Value)} {DZ D0 D1 D2 t7 D3:Value}
    (G9:PySem.W.nsIn K mainGlobals "next_at" = some (some (.ref pJ))) (Ha:K.lookup pJ=some ⟨DZ,DW,.func (PySem.W.fnOf "next_at" "next_at" (aU ib) (aK ib) (ao ib) .none D0 D1 D2 DX t7 D3),DY⟩) (pj:PySem.W.codeIn K t7 "next_at" = true) (xz:PySem.W.keepIn K (.ref pJ)=true)
    {D4 D5:Option Addr} {D6:Array (Option Value)} {D7 D8 D9 Ea t8 Eb:Value}
    (Hb:PySem.W.nsIn K mainGlobals "turn_at" = some (some (.ref pK))) (Hc:K.lookup pK=some ⟨D7,D4,.func (PySem.W.fnOf "turn_at" "turn_at" (aU ic) (aK ic) (ao ic) .none D8 D9 Ea D5 t8 Eb),D6⟩) (eL:PySem.W.codeIn K t8 "turn_at" = true) (xA:PySem.W.keepIn K (.ref pK)=true)
    {Ky Kz:Option Addr} {KA:Array (Option Value)} {KC KD KG KH Bx KI:Value}
    (MK:PySem.W.nsIn K mainGlobals "ended" = some (some (.ref yN))) (ML:K.lookup yN=some ⟨KC,Ky,.func (PySem.W.fnOf "ended" "ended" (aU lS) (aK lS) (ao lS) .none KD KG KH Kz Bx KI),KA⟩) (yH:PySem.W.codeIn K Bx "ended" = true) (Ft:PySem.W.keepIn K (.ref yN)=true)
    {Ec Ed:Option Addr} {Ee:Array (Option Value)} {Ef Eg Eh Ei t9 Ej:Value}
    (xB:PySem.W.nsIn K mainGlobals "is_rest" = some (some (.ref pL))) (He:K.lookup pL=some ⟨Ef,Ec,.func (PySem.W.fnOf "is_rest" "is_rest" (aU fX) (aK fX) (ao fX) .none Eg Eh Ei Ed t9 Ej),Ee⟩) (lT:PySem.W.codeIn K t9 "is_rest" = true) (pM:PySem.W.keepIn K (.ref pL)=true)
    {ua ub:Option Addr} {uc:Array (Option Value)} {ud ue uf ug lD uh:Value}
    (vE:PySem.W.nsIn K mainGlobals "check_rests" = some (some (.ref jd))) (vF:K.lookup jd=some ⟨ud,ua,.func (PySem.W.fnOf "check_rests" "check_rests" (aU dR) (aK dR) (ao dR) .none ue uf ug ub lD uh),uc⟩) (vG:PySem.W.codeIn K lD "check_rests" = true) (mw:PySem.W.keepIn K (.ref jd)=true)
    {Hf Hg:Option Addr} {Hh:Array (Option Value)} {Hi Hj Hk Hl xC Hm:Value}
    (KJ:PySem.W.nsIn K mainGlobals "end_of" = some (some (.ref tN))) (KK:K.lookup tN=some ⟨Hi,Hf,.func (PySem.W.fnOf "end_of" "end_of" (aU jD) (aK jD) (ao jD) .none Hj Hk Hl Hg xC Hm),Hh⟩) (lf:PySem.W.codeIn K xC "end_of" = true) (By:PySem.W.keepIn K (.ref tN)=true)
    {Hn Ho:Option Addr} {Hq:Array (Option Value)} {Hr Hs Ht Hu xD Hv:Value}
    (KL:PySem.W.nsIn K mainGlobals "joined" = some (some (.ref tO))) (KM:K.lookup tO=some ⟨Hr,Hn,.func (PySem.W.fnOf "joined" "joined" (aU jE) (aK jE) (ao jE) .none Hs Ht Hu Ho xD Hv),Hq⟩) (KN:PySem.W.codeIn K xD "joined" = true) (Bz:PySem.W.keepIn K (.ref tO)=true)
    {Pi Pj:Option Addr} {Pk:Array (Option Value)} {Pl Pm Pn Po KO Pp:Value}
    (Qy:PySem.W.nsIn K mainGlobals "met" = some (some (.ref Ko))) (Qz:K.lookup Ko=some ⟨Pl,Pi,.func (PySem.W.fnOf "met" "met" (aU xm) (aK xm) (ao xm) .none Pm Pn Po Pj KO Pp),Pk⟩) (QA:PySem.W.codeIn K KO "met" = true) (Np:PySem.W.keepIn K (.ref Ko)=true)
    {y9 za:Option Addr} {zc:Array (Option Value)} {zd ze zf zg n9 zh:Value}
    (BA:PySem.W.nsIn K mainGlobals "_law_cell" = some (some (.ref ly))) (BB:K.lookup ly=some ⟨zd,y9,.func (PySem.W.fnOf "_law_cell" "_law_cell" (aU fB) (aK fB) (ao fB) .none ze zf zg za n9 zh),zc⟩) (dC:PySem.W.codeIn K n9 "_law_cell" = true) (qA:PySem.W.keepIn K (.ref ly)=true)
    {BC BD:Option Addr} {BE:Array (Option Value)} {BF BG BH BI qB BJ:Value}
    (Ek:PySem.W.nsIn K mainGlobals "_law_row" = some (some (.ref nD))) (El:K.lookup nD=some ⟨BF,BC,.func (PySem.W.fnOf "_law_row" "_law_row" (aU fY) (aK fY) (ao fY) .none BG BH BI BD qB BJ),BE⟩) (iE:PySem.W.codeIn K qB "_law_row" = true) (ui:PySem.W.keepIn K (.ref nD)=true)
    {vH vI:Option Addr} {vJ:Array (Option Value)} {vK vL vM vN mx vO:Value}
    (zi:PySem.W.nsIn K mainGlobals "_law_model" = some (some (.ref ki))) (zj:K.lookup ki=some ⟨vK,vH,.func (PySem.W.fnOf "_law_model" "_law_model" (aU eD) (aK eD) (ao eD) .none vL vM vN vI mx vO),vJ⟩) (kc:PySem.W.codeIn K mx "_law_model" = true) (og:PySem.W.keepIn K (.ref ki)=true)
    {vP vQ:Option Addr} {vR:Array (Option Value)} {vS vT vU vV my vW:Value}
    (zk:PySem.W.nsIn K mainGlobals "_law_lines" = some (some (.ref kj))) (zm:K.lookup kj=some ⟨vS,vP,.func (PySem.W.fnOf "_law_lines" "_law_lines" (aU eE) (aK eE) (ao eE) .none vT vU vV vQ my vW),vR⟩) (j8:PySem.W.codeIn K my "_law_lines" = true) (oh:PySem.W.keepIn K (.ref kj)=true)
    {zn zo:Option Addr} {zp:Array (Option Value)} {zq zr zt zu oj zv:Value}
    (BK:PySem.W.nsIn K mainGlobals "_law_turn" = some (some (.ref lA))) (BM:K.lookup lA=some ⟨zq,zn,.func (PySem.W.fnOf "_law_turn" "_law_turn" (aU fD) (aK fD) (ao fD) .none zr zt zu zo oj zv),zp⟩) (iQ:PySem.W.codeIn K oj "_law_turn" = true) (qC:PySem.W.keepIn K (.ref lA)=true)
    {zw zx:Option Addr} {zy:Array (Option Value)} {zz zB zC zD om zF:Value}
    (BN:PySem.W.nsIn K mainGlobals "_law_made" = some (some (.ref lB))) (BO:K.lookup lB=some ⟨zz,zw,.func (PySem.W.fnOf "_law_made" "_law_made" (aU fE) (aK fE) (ao fE) .none zB zC zD zx om zF),zy⟩) (lm:PySem.W.codeIn K om "_law_made" = true) (qD:PySem.W.keepIn K (.ref lB)=true)
    {vX vY:Option Addr} {vZ:Array (Option Value)} {v5 v6 v7 wa mz wb:Value}
    (zG:PySem.W.nsIn K mainGlobals "_law_below" = some (some (.ref kl))) (zH:K.lookup kl=some ⟨v5,vX,.func (PySem.W.fnOf "_law_below" "_law_below" (aU eF) (aK eF) (ao eF) .none v6 v7 wa vY mz wb),vZ⟩) (de:PySem.W.codeIn K mz "_law_below" = true) (oo:PySem.W.keepIn K (.ref kl)=true)
    {uj uk:Option Addr} {ul:Array (Option Value)} {um uo uq ur lF ut:Value}
    (wc:PySem.W.nsIn K mainGlobals "_law_stands" = some (some (.ref je))) (wd:K.lookup je=some ⟨um,uj,.func (PySem.W.fnOf "_law_stands" "_law_stands" (aU dS) (aK dS) (ao dS) .none uo uq ur uk lF ut),ul⟩) (jb:PySem.W.codeIn K lF "_law_stands" = true) (mB:PySem.W.keepIn K (.ref je)=true)
    {we wf:Option Addr} {wg:Array (Option Value)} {wj wm wn wo mC wp:Value}
    (zI:PySem.W.nsIn K mainGlobals "_law_class" = some (some (.ref km))) (zJ:K.lookup km=some ⟨wj,we,.func (PySem.W.fnOf "_law_class" "_law_class" (aU eG) (aK eG) (ao eG) .none wm wn wo wf mC wp),wg⟩) (kb:PySem.W.codeIn K mC "_law_class" = true) (oq:PySem.W.keepIn K (.ref km)=true)
    {BP BQ:Option Addr} {BR:Array (Option Value)} {BS BT BU BV qE BW:Value}
    (Em:PySem.W.nsIn K mainGlobals "_law_due" = some (some (.ref nE))) (Eo:K.lookup nE=some ⟨BS,BP,.func (PySem.W.fnOf "_law_due" "_law_due" (aU fZ) (aK fZ) (ao fZ) .none BT BU BV BQ qE BW),BR⟩) (nB:PySem.W.codeIn K qE "_law_due" = true) (uv:PySem.W.keepIn K (.ref nE)=true)
    {wr wu:Option Addr} {wv:Array (Option Value)} {ww wx wy wz mD wA:Value}
    (zK:PySem.W.nsIn K mainGlobals "_law_asked" = some (some (.ref kn))) (zL:K.lookup kn=some ⟨ww,wr,.func (PySem.W.fnOf "_law_asked" "_law_asked" (aU eI) (aK eI) (ao eI) .none wx wy wz wu mD wA),wv⟩) (fJ:PySem.W.codeIn K mD "_law_asked" = true) (ot:PySem.W.keepIn K (.ref kn)=true)
    {pN pO:Option Addr} {pP:Array (Option Value)} {pQ pR pS pT jI pU:Value}
    (qS:PySem.W.nsIn K mainGlobals "_law_is_bound" = some (some (.ref gG))) (qT:K.lookup gG=some ⟨pQ,pN,.func (PySem.W.fnOf "_law_is_bound" "_law_is_bound" (aU c0) (aK c0) (ao c0) .none pR pS pT pO jI pU),pP⟩) (gD:PySem.W.codeIn K jI "_law_is_bound" = true) (kz:PySem.W.keepIn K (.ref gG)=true)
    {pV pW:Option Addr} {pX:Array (Option Value)} {pY pZ p7 p8 jJ p9:Value}
    (qV:PySem.W.nsIn K mainGlobals "_law_no_stand" = some (some (.ref gH))) (qW:K.lookup gH=some ⟨pY,pV,.func (PySem.W.fnOf "_law_no_stand" "_law_no_stand" (aU c5) (aK c5) (ao c5) .none pZ p7 p8 pW jJ p9),pX⟩) (gF:PySem.W.codeIn K jJ "_law_no_stand" = true) (kA:PySem.W.keepIn K (.ref gH)=true)
    {Pq KP:Option Addr} {Pr:Array (Option Value)} {Ps KQ KR KS Ep KU:Value}
    (QB:PySem.W.nsIn K mainGlobals "law" = some (some (.ref Kq))) (QC:K.lookup Kq=some ⟨Ps,Pq,.func (PySem.W.fnOf "law" "law" (aU nW) (aK nW) (ao nW) .none KQ KR KS KP Ep KU),Pr⟩) (QD:PySem.W.codeIn K Ep "law" = true) (QE:PySem.W.keepIn K (.ref Kq)=true)
    (zM:PySem.W.nsIn K mainGlobals "isinstance" = some none)
    (Pt:PySem.W.nsIn K mainGlobals "bool" = some none)
    (QF:PySem.W.nsIn K mainGlobals "int" = some none)
    (QG:PySem.W.nsIn K mainGlobals "len" = some none)
    (MN:PySem.W.nsIn K mainGlobals "tuple" = some none)
    (MP:PySem.W.nsIn K mainGlobals "range" = some none)
    (Pu:PySem.W.nsIn K mainGlobals "list" = some none)
    (QH:PySem.W.nsIn K mainGlobals "all" = some none)
    (KW:PySem.W.nsIn K mainGlobals "sorted" = some none)
    (BX:PySem.W.nsIn K mainGlobals "enumerate" = some none)
    (QI:PySem.W.nsIn K mainGlobals "sum" = some none)
    (QJ:PySem.W.nsIn K mainGlobals "zip" = some none)
    (QK:PySem.W.nsIn K mainGlobals "max" = some none)
    (QL:PySem.W.nsIn K mainGlobals "min" = some none)
    (zN:PySem.W.nsIn K mainGlobals "ValueError" = some none)
    (Pv:PySem.W.nsIn K mainGlobals "repr" = some none)
    {i6:Tok} (wB:PySem.W.nsIn K mainGlobals "MOST_WEIGHT" = some (some (.int 400 i6)))
    {i8:Tok} (wC:PySem.W.nsIn K mainGlobals "MOST_PEOPLE" = some (some (.int 30 i8)))
    {cd_M cd_A_NoStand cd_A_NoRest:ClassData}
    (BY:PySem.W.nsIn K mainGlobals "MostError" = some (some (.ref bX)))
    (c6:PySem.W.nsIn K mainGlobals "NoStand" = some (some (.ref aR)))
    (dN:PySem.W.nsIn K mainGlobals "NoRest" = some (some (.ref bj)))
    (Hw:PySem.W.nsIn K mainGlobals "TooLong" = some (some (.ref eM)))
    (Hx:PySem.W.nsIn K mainGlobals "NoOrder" = some (some (.ref eN)))
    (MR:PySem.W.nsIn K mainGlobals "NoWeb" = some (some (.ref gZ)))
    (KY:PySem.W.nsIn K mainGlobals "NoText" = some (some (.ref fI)))
    (MU:PySem.W.nsIn K mainGlobals "NoRow" = some (some (.ref g0)))
    (Er:PySem.W.nsIn K mainGlobals "NoPeople" = some (some (.ref dL)))
    (Hy:PySem.W.nsIn K mainGlobals "TooMuch" = some (some (.ref eO)))
    (w_be:PySem.W.subIn K (.ref bX) (.type "BaseException")=some true)
    (w_is:PySem.W.clsIn K bX=some cd_M)
    (w_ty:PySem.W.typeIn K (.ref bX)=some (.type "type"))
    (w_own_NoStand:PySem.W.excIn K aR [.type "ValueError",.type "Exception",.type "BaseException",.type "object"] "ValueError.__new__" = true)
    (w_sub_NoStand:PySem.W.subIn K (.ref aR) (.ref bX)=some true)
    (w_z1_NoStand:PySem.W.findIn K (.ref aR) "__getattribute__" = some (some (.builtin "BaseException.__getattribute__")))
    (w_z2_NoStand:PySem.W.findIn K (.ref aR) "__getattr__" = some none)
    (w_z3_NoStand:PySem.W.findIn K (.ref aR) "__class__" = some (some (.builtin "object.__class__")))
    (w_z4_NoStand:PySem.W.subIn K (.ref aR) (.type "BaseException")=some true)
    (w_z5_NoStand:PySem.W.mroIn K aR (.type "object")=some true)
    (w_z6_NoStand:PySem.W.clsIn K aR=some cd_A_NoStand)
    (w_kA_NoStand_ValueError:PySem.W.kitOne K (.ref aR) (.type "ValueError")=some true)
    (w_kA_NoStand_TooLong:PySem.W.kitOne K (.ref aR) (.ref eM)=some false)
    (w_kA_NoStand_NoOrder:PySem.W.kitOne K (.ref aR) (.ref eN)=some false)
    (w_kA_NoStand_NoWeb:PySem.W.kitOne K (.ref aR) (.ref gZ)=some false)
    (w_kA_NoStand_NoText:PySem.W.kitOne K (.ref aR) (.ref fI)=some false)
    (w_kA_NoStand_NoRow:PySem.W.kitOne K (.ref aR) (.ref g0)=some false)
    (w_kA_NoStand_NoPeople:PySem.W.kitOne K (.ref aR) (.ref dL)=some false)
    (w_kA_NoStand_TooMuch:PySem.W.kitOne K (.ref aR) (.ref eO)=some false)
    (w_kA_NoStand_NoRest:PySem.W.kitOne K (.ref aR) (.ref bj)=some false)
    (w_kA_NoStand_NoStand:PySem.W.kitOne K (.ref aR) (.ref aR)=some true)
    (w_own_NoRest:PySem.W.excIn K bj [.type "ValueError",.type "Exception",.type "BaseException",.type "object"] "ValueError.__new__" = true)
    (w_sub_NoRest:PySem.W.subIn K (.ref bj) (.ref bX)=some true)
    (w_z1_NoRest:PySem.W.findIn K (.ref bj) "__getattribute__" = some (some (.builtin "BaseException.__getattribute__")))
    (w_z2_NoRest:PySem.W.findIn K (.ref bj) "__getattr__" = some none)
    (w_z3_NoRest:PySem.W.findIn K (.ref bj) "__class__" = some (some (.builtin "object.__class__")))
    (w_z4_NoRest:PySem.W.subIn K (.ref bj) (.type "BaseException")=some true)
    (w_z5_NoRest:PySem.W.mroIn K bj (.type "object")=some true)
    (w_z6_NoRest:PySem.W.clsIn K bj=some cd_A_NoRest)
    (w_kA_NoRest_ValueError:PySem.W.kitOne K (.ref bj) (.type "ValueError")=some true)
    (w_kA_NoRest_TooLong:PySem.W.kitOne K (.ref bj) (.ref eM)=some false)
    (w_kA_NoRest_NoOrder:PySem.W.kitOne K (.ref bj) (.ref eN)=some false)
    (w_kA_NoRest_NoWeb:PySem.W.kitOne K (.ref bj) (.ref gZ)=some false)
    (w_kA_NoRest_NoText:PySem.W.kitOne K (.ref bj) (.ref fI)=some false)
    (w_kA_NoRest_NoRow:PySem.W.kitOne K (.ref bj) (.ref g0)=some false)
    (w_kA_NoRest_NoPeople:PySem.W.kitOne K (.ref bj) (.ref dL)=some false)
    (w_kA_NoRest_TooMuch:PySem.W.kitOne K (.ref bj) (.ref eO)=some false)
    (w_kA_NoRest_NoRest:PySem.W.kitOne K (.ref bj) (.ref bj)=some true)
    (w_kA_NoRest_NoStand:PySem.W.kitOne K (.ref bj) (.ref aR)=some false)
    : ∃ fd:FuncData,(∀ (s:Shared) (v:Value),BindsTo s fd ⟨[v],[]⟩ [("_law_script",v)]) ∧ ∀ base:Heap,K.In base→base.Ns mainGlobals mg→cy l.prog w K mg base CX0 10 fa fd ["_law_script"] (spF K Ff 1):=by
  have e:=hfa.symm.trans (PySem.W.mg_of X G QB)
  cases e
  have ay:=PySem.W.mg_none_of X G zM
  have Dm:=PySem.W.mg_none_of X G Pt
  have Kl:=PySem.W.mg_none_of X G QF
  have bO:=PySem.W.mg_none_of X G QG
  have bA:=PySem.W.mg_none_of X G MN
  have bc:=PySem.W.mg_none_of X G MP
  have eX:=PySem.W.mg_none_of X G Pu
  have xn:=PySem.W.mg_none_of X G QH
  have tm:=PySem.W.mg_none_of X G KW
  have k7:=PySem.W.mg_none_of X G BX
  have nX:=PySem.W.mg_none_of X G QI
  have xq:=PySem.W.mg_none_of X G QJ
  have xo:=PySem.W.mg_none_of X G QK
  have Km:=PySem.W.mg_none_of X G QL
  have j9:=PySem.W.mg_none_of X G zN
  have yM:=PySem.W.mg_none_of X G Pv
  have i7:=PySem.W.mg_of X G wB
  have i9:=PySem.W.mg_of X G wC
  have lh:=PySem.W.mg_of X G BY
  have jH:=PySem.W.mg_of X G c6
  have k8:=PySem.W.mg_of X G dN
  have pv:=PySem.W.mg_of X G Hw
  have px:=PySem.W.mg_of X G Hx
  have yI:=PySem.W.mg_of X G MR
  have tG:=PySem.W.mg_of X G KY
  have yJ:=PySem.W.mg_of X G MU
  have nz:=PySem.W.mg_of X G Er
  have pz:=PySem.W.mg_of X G Hy
  have uw:=bF (st:=fW) Dp iD tP
  have Es:=uw.binds (ps:=["thing"]) fun _ _ _ _ _ _ us hl=>by obtain⟨_,rfl⟩:=gv us hl;rfl
  have ou:=bF (st:=ez) yP cO nY
  have zP:=ou.binds (ps:=["thing", "least", "most"]) fun _ _ _ _ _ _ us hl=>by obtain⟨_,_,_,rfl⟩:=iC us hl;rfl
  have ow:=bF (st:=eA) yR fH nZ
  have zQ:=ow.binds (ps:=["thing"]) fun _ _ _ _ _ _ us hl=>by obtain⟨_,rfl⟩:=gv us hl;rfl
  have BZ:=bF (st:=jA) Ks tj Bs
  have KZ:=BZ.binds (ps:=["many", "thing"]) fun _ _ _ _ _ _ us hl=>by obtain⟨_,_,rfl⟩:=cA us hl;rfl
  have ox:=bF (st:=eB) yT j7 n5
  have zS:=ox.binds (ps:=["many", "ties"]) fun _ _ _ _ _ _ us hl=>by obtain⟨_,_,rfl⟩:=cA us hl;rfl
  have qF:=bF (st:=fA) Bu kZ qz
  have B0:=qF.binds (ps:=["near", "bars"]) fun _ _ _ _ _ _ us hl=>by obtain⟨_,_,rfl⟩:=cA us hl;rfl
  have oy:=bF (st:=eC) y8 j6 n8
  have zT:=oy.binds (ps:=["many", "stays"]) fun _ _ _ _ _ _ us hl=>by obtain⟨_,_,rfl⟩:=cA us hl;rfl
  have B3:=bF (st:=jB) Ku tF Bv
  have K0:=B3.binds (ps:=["many", "ties", "bars", "stays"]) fun _ _ _ _ _ _ us hl=>by obtain⟨_,_,_,_,rfl⟩:=tf us hl;rfl
  have xE:=bF (st:=hW) GR jG xu
  have Hz:=xE.binds (ps:=["web"]) fun _ _ _ _ _ _ us hl=>by obtain⟨_,rfl⟩:=gv us hl;rfl
  have xF:=bF (st:=hX) GT ph xv
  have HA:=xF.binds (ps:=["web", "person"]) fun _ _ _ _ _ _ us hl=>by obtain⟨_,_,rfl⟩:=cA us hl;rfl
  have B4:=bF (st:=jC) Kw tD Bw
  have K1:=B4.binds (ps:=["web", "person"]) fun _ _ _ _ _ _ us hl=>by obtain⟨_,_,rfl⟩:=cA us hl;rfl
  have xG:=bF (st:=hZ) G4 jF xx
  have HB:=xG.binds (ps:=["web", "person"]) fun _ _ _ _ _ _ us hl=>by obtain⟨_,_,rfl⟩:=cA us hl;rfl
  have K2:=bF (st:=o8) Ph tw Kx
  have Pw:=K2.binds (ps:=["web", "thing"]) fun _ _ _ _ _ _ us hl=>by obtain⟨_,_,rfl⟩:=cA us hl;rfl
  have jg:=bF (st:=dj) vD fg jf
  have mF:=jg.binds (ps:=["web", "thing"]) fun _ _ _ _ _ _ us hl=>by obtain⟨_,_,rfl⟩:=cA us hl;rfl
  have xH:=bF (st:=ia) G8 pi xy
  have HC:=xH.binds (ps:=["web", "stand", "person"]) fun _ _ _ _ _ _ us hl=>by obtain⟨_,_,_,rfl⟩:=iC us hl;rfl
  have xI:=bF (st:=ib) Ha pj xz
  have HD:=xI.binds (ps:=["web", "stand", "person"]) fun _ _ _ _ _ _ us hl=>by obtain⟨_,_,_,rfl⟩:=iC us hl;rfl
  have xJ:=bF (st:=ic) Hc eL xA
  have HE:=xJ.binds (ps:=["web", "stand"]) fun _ _ _ _ _ _ us hl=>by obtain⟨_,_,rfl⟩:=cA us hl;rfl
  have Fu:=bF (st:=lS) ML yH Ft
  have MV:=Fu.binds (ps:=["web", "stand"]) fun _ _ _ _ _ _ us hl=>by obtain⟨_,_,rfl⟩:=cA us hl;rfl
  have qc:=bF (st:=fX) He lT pM
  have xK:=qc.binds (ps:=["web", "stand"]) fun _ _ _ _ _ _ us hl=>by obtain⟨_,_,rfl⟩:=cA us hl;rfl
  have mG:=bF (st:=dR) vF vG mw
  have wD:=mG.binds (ps:=["web", "one", "other"]) fun _ _ _ _ _ _ us hl=>by obtain⟨_,_,_,rfl⟩:=iC us hl;rfl
  have B5:=bF (st:=jD) KK lf By
  have K3:=B5.binds (ps:=["web", "stand"]) fun _ _ _ _ _ _ us hl=>by obtain⟨_,_,rfl⟩:=cA us hl;rfl
  have B6:=bF (st:=jE) KM KN Bz
  have K4:=B6.binds (ps:=["web", "one", "other"]) fun _ _ _ _ _ _ us hl=>by obtain⟨_,_,_,rfl⟩:=iC us hl;rfl
  have Nq:=bF (st:=xm) Qz QA Np
  have QM:=Nq.binds (ps:=["web", "one", "other"]) fun _ _ _ _ _ _ us hl=>by obtain⟨_,_,_,rfl⟩:=iC us hl;rfl
  have qG:=bF (st:=fB) BB dC qA
  have B7:=qG.binds (ps:=["_law_script", "_law_k"]) fun _ _ _ _ _ _ us hl=>by obtain⟨_,_,rfl⟩:=cA us hl;rfl
  have ux:=bF (st:=fY) El iE ui
  have Et:=ux.binds (ps:=["_law_cell_here", "_law_way", "_law_many", "_law_base"]) fun _ _ _ _ _ _ us hl=>by obtain⟨_,_,_,_,rfl⟩:=tf us hl;rfl
  have oz:=bF (st:=eD) zj kc og
  have zU:=oz.binds (ps:=["_law_script", "_law_most"]) fun _ _ _ _ _ _ us hl=>by obtain⟨_,_,rfl⟩:=cA us hl;rfl
  have oA:=bF (st:=eE) zm j8 oh
  have zV:=oA.binds (ps:=["_law_model_here"]) fun _ _ _ _ _ _ us hl=>by obtain⟨_,rfl⟩:=gv us hl;rfl
  have qH:=bF (st:=fD) BM iQ qC
  have B8:=qH.binds (ps:=["_law_model_here", "_law_stand"]) fun _ _ _ _ _ _ us hl=>by obtain⟨_,_,rfl⟩:=cA us hl;rfl
  have qI:=bF (st:=fE) BO lm qD
  have B9:=qI.binds (ps:=["_law_model_here"]) fun _ _ _ _ _ _ us hl=>by obtain⟨_,rfl⟩:=gv us hl;rfl
  have oC:=bF (st:=eF) zH de oo
  have zW:=oC.binds (ps:=["_law_one", "_law_other"]) fun _ _ _ _ _ _ us hl=>by obtain⟨_,_,rfl⟩:=cA us hl;rfl
  have mH:=bF (st:=dS) wd jb mB
  have wE:=mH.binds (ps:=["_law_model_here"]) fun _ _ _ _ _ _ us hl=>by obtain⟨_,rfl⟩:=gv us hl;rfl
  have oD:=bF (st:=eG) zJ kb oq
  have zX:=oD.binds (ps:=["_law_error"]) fun _ _ _ _ _ _ us hl=>by obtain⟨_,rfl⟩:=gv us hl;rfl
  have uy:=bF (st:=fZ) Eo nB uv
  have Eu:=uy.binds (ps:=["_law_k"]) fun _ _ _ _ _ _ us hl=>by obtain⟨_,rfl⟩:=gv us hl;rfl
  have oE:=bF (st:=eI) zL fJ ot
  have zY:=oE.binds (ps:=["_law_web", "_law_way", "_law_one", "_law_other"]) fun _ _ _ _ _ _ us hl=>by obtain⟨_,_,_,_,rfl⟩:=tf us hl;rfl
  have kB:=bF (st:=c0) qT gD kz
  have qX:=kB.binds (ps:=["_law_found", "_law_some", "_law_one", "_law_other", "_law_way"]) fun _ _ _ _ _ _ us hl=>by obtain⟨_,_,_,_,_,rfl⟩:=Kk us hl;rfl
  have kC:=bF (st:=c5) qW gF kA
  have qY:=kC.binds (ps:=["_law_model_here", "_law_stand", "_law_cell_here"]) fun _ _ _ _ _ _ us hl=>by obtain⟨_,_,_,rfl⟩:=iC us hl;rfl
  have QN:=bF (st:=nW) QC QD QE
  refine⟨PySem.W.fnOf "law" "law" (aU nW) (aK nW) (ao nW) .none KQ KR KS KP Ep KU,fun s v=>.of_eq rfl,fun base KB _ => ?_⟩
  have pE:=Jj (mg:=mg) KB jH w_own_NoStand
  have dW:sE K aR:=⟨w_z1_NoStand,w_z2_NoStand,w_z3_NoStand,w_z4_NoStand,w_z5_NoStand,by rw [w_z6_NoStand];rfl⟩
  have tJ:=Jj (mg:=mg) KB k8 w_own_NoRest
  have fj:sE K bj:=⟨w_z1_NoRest,w_z2_NoRest,w_z3_NoRest,w_z4_NoRest,w_z5_NoRest,by rw [w_z6_NoRest];rfl⟩
  have ka:gX K (fun C b=>PySem.W.kitOne K (.ref C) (ip (.ty "ValueError"))=some b) [("NoStand",true),("NoRest",true)]:=(cC c6 dW w_kA_NoStand_ValueError (cC dN fj w_kA_NoRest_ValueError i0))
  have pA:gX K (fun C b=>PySem.W.kitOne K (.ref C) (ip (.ref eM))=some b) [("NoStand",false),("NoRest",false)]:=(cC c6 dW w_kA_NoStand_TooLong (cC dN fj w_kA_NoRest_TooLong i0))
  have pB:gX K (fun C b=>PySem.W.kitOne K (.ref C) (ip (.ref eN))=some b) [("NoStand",false),("NoRest",false)]:=(cC c6 dW w_kA_NoStand_NoOrder (cC dN fj w_kA_NoRest_NoOrder i0))
  have yK:gX K (fun C b=>PySem.W.kitOne K (.ref C) (ip (.ref gZ))=some b) [("NoStand",false),("NoRest",false)]:=(cC c6 dW w_kA_NoStand_NoWeb (cC dN fj w_kA_NoRest_NoWeb i0))
  have tH:gX K (fun C b=>PySem.W.kitOne K (.ref C) (ip (.ref fI))=some b) [("NoStand",false),("NoRest",false)]:=(cC c6 dW w_kA_NoStand_NoText (cC dN fj w_kA_NoRest_NoText i0))
  have yL:gX K (fun C b=>PySem.W.kitOne K (.ref C) (ip (.ref g0))=some b) [("NoStand",false),("NoRest",false)]:=(cC c6 dW w_kA_NoStand_NoRow (cC dN fj w_kA_NoRest_NoRow i0))
  have nA:gX K (fun C b=>PySem.W.kitOne K (.ref C) (ip (.ref dL))=some b) [("NoStand",false),("NoRest",false)]:=(cC c6 dW w_kA_NoStand_NoPeople (cC dN fj w_kA_NoRest_NoPeople i0))
  have pC:gX K (fun C b=>PySem.W.kitOne K (.ref C) (ip (.ref eO))=some b) [("NoStand",false),("NoRest",false)]:=(cC c6 dW w_kA_NoStand_TooMuch (cC dN fj w_kA_NoRest_TooMuch i0))
  have tI:gX K (fun C b=>PySem.W.kitOne K (.ref C) (ip (.ref bj))=some b) [("NoStand",false),("NoRest",true)]:=(cC c6 dW w_kA_NoStand_NoRest (cC dN fj w_kA_NoRest_NoRest i0))
  have pD:gX K (fun C b=>PySem.W.kitOne K (.ref C) (ip (.ref aR))=some b) [("NoStand",true),("NoRest",false)]:=(cC c6 dW w_kA_NoStand_NoStand (cC dN fj w_kA_NoRest_NoStand i0))
  have h_cs:FY K mg bX ["NoStand", "NoRest"]:=(EU jH c6 w_sub_NoStand (EU k8 dN w_sub_NoRest OK))
  have uz:Def l.prog w K mg base "is_whole" 1 1 cH:=Def.mk' (PySem.W.mg_of X G Do) tP Es (Bf (P:=l.prog) (w:=w) (base:=base) uw ay Dm Kl)
  have ko:Def l.prog w K mg base "is_between" 2 3 br:=Def.mk' (PySem.W.mg_of X G yO) nY zP (uH (P:=l.prog) (w:=w) (base:=base) ou uz)
  have oF:Def l.prog w K mg base "is_opinion" 3 1 bu:=Def.mk' (PySem.W.mg_of X G yQ) nZ zQ (uJ (P:=l.prog) (w:=w) (base:=base) ow ko)
  have K5:Def l.prog w K mg base "is_tie" 3 2 kT:=Def.mk' (PySem.W.mg_of X G Kr) Bs KZ (Gr (P:=l.prog) (w:=w) (base:=base) BZ bO ay bA i7 ko)
  have zZ:Def l.prog w K mg base "neighbours" 4 2 dH:=Def.mk' (PySem.W.mg_of X G yS) n5 zS (uK (P:=l.prog) (w:=w) (base:=base) ox bc ay eX K5)
  have Ca:Def l.prog w K mg base "bars_told" 2 2 eh:=Def.mk' (PySem.W.mg_of X G Bt) qz B0 (yB (P:=l.prog) (w:=w) (base:=base) qF bA xn bO ay eX uz)
  have z7:Def l.prog w K mg base "stays_told" 4 2 dI:=Def.mk' (PySem.W.mg_of X G y7) n8 zT (uM (P:=l.prog) (w:=w) (base:=base) oy bA xn bO ay eX bc oF)
  have K6:Def l.prog w K mg base "web_of" 5 4 gr:=Def.mk' (PySem.W.mg_of X G Kt) Bv K0 (Gs (P:=l.prog) (w:=w) (base:=base) B3 bA tm i9 z7 Ca zZ ko)
  have xL:Def l.prog w K mg base "many_of" 1 1 dv:=Def.mk' (PySem.W.mg_of X G GQ) xu Hz (Da (P:=l.prog) (w:=w) (base:=base) xE bO)
  have HF:Def l.prog w K mg base "ties_of" 1 2 jo:=Def.mk' (PySem.W.mg_of X G GS) xv HA (Dc (P:=l.prog) (w:=w) (base:=base) xF)
  have K7:Def l.prog w K mg base "bar_of" 1 2 jp:=Def.mk' (PySem.W.mg_of X G Kv) Bw K1 (Gv (P:=l.prog) (w:=w) (base:=base) B4)
  have xM:Def l.prog w K mg base "stay_of" 1 2 fu:=Def.mk' (PySem.W.mg_of X G G3) xx HB (De (P:=l.prog) (w:=w) (base:=base) xG)
  have K8:Def l.prog w K mg base "fits" 4 2 d5:=Def.mk' (PySem.W.mg_of X G Pg) Kx Pw (Mu (P:=l.prog) (w:=w) (base:=base) K2 k7 bO ay bA xM oF xL)
  have mI:Def l.prog w K mg base "check_stand" 5 2 cQ:=Def.mk' (PySem.W.mg_of X G mr) jf mF (sW (P:=l.prog) (w:=w) (base:=base) jg K8)
  have HG:Def l.prog w K mg base "pull_at" 2 3 hJ:=Def.mk' (PySem.W.mg_of X G G5) xy HC (Dg (P:=l.prog) (w:=w) (base:=base) xH nX HF)
  have HH:Def l.prog w K mg base "next_at" 3 3 fR:=Def.mk' (PySem.W.mg_of X G G9) xz HD (Dh (P:=l.prog) (w:=w) (base:=base) xI K7 HG xM)
  have qe:Def l.prog w K mg base "turn_at" 4 2 cR:=Def.mk' (PySem.W.mg_of X G Hb) xA HE (Dj (P:=l.prog) (w:=w) (base:=base) xJ bA bc xL HH)
  have MY:Def l.prog w K mg base "ended" 6 2 iO:=Def.mk' (PySem.W.mg_of X G MK) Ft MV (Kj (P:=l.prog) (w:=w) (base:=base) Fu bO qe mI)
  have HI:Def l.prog w K mg base "is_rest" 6 2 fy:=Def.mk' (PySem.W.mg_of X G xB) pM xK (Dk (P:=l.prog) (w:=w) (base:=base) qc qe mI)
  have Cb:Def l.prog w K mg base "end_of" 7 2 iw:=Def.mk' (PySem.W.mg_of X G KJ) By K3 (Gx (P:=l.prog) (w:=w) (base:=base) B5 MY)
  have qJ:Def l.prog w K mg base "_law_cell" 1 2 bw:=Def.mk' (PySem.W.mg_of X G BA) qA B7 (yD (P:=l.prog) (w:=w) (base:=base) qG bO)
  have Ev:Def l.prog w K mg base "_law_row" 1 4 dm:=Def.mk' (PySem.W.mg_of X G Ek) ui Et (Bg (P:=l.prog) (w:=w) (base:=base) ux bc)
  have z8:Def l.prog w K mg base "_law_model" 2 2 hU:=Def.mk' (PySem.W.mg_of X G zi) og zU (uN (P:=l.prog) (w:=w) (base:=base) oz bc nX xo Ev qJ)
  have z9:Def l.prog w K mg base "_law_lines" 1 1 fz:=Def.mk' (PySem.W.mg_of X G zk) oh zV (uO (P:=l.prog) (w:=w) (base:=base) oA bc bO)
  have Cc:Def l.prog w K mg base "_law_turn" 1 2 eZ:=Def.mk' (PySem.W.mg_of X G BK) qC B8 (yE (P:=l.prog) (w:=w) (base:=base) qH bA bc bO nX)
  have Cd:Def l.prog w K mg base "_law_made" 6 1 ju:=Def.mk' (PySem.W.mg_of X G BN) qD B9 (yG (P:=l.prog) (w:=w) (base:=base) qI eX bO K6 z9)
  have Aa:Def l.prog w K mg base "_law_below" 1 2 bC:=Def.mk' (PySem.W.mg_of X G zG) oo zW (uQ (P:=l.prog) (w:=w) (base:=base) oC bc bO)
  have wF:Def l.prog w K mg base "_law_stands" 1 1 iA:=Def.mk' (PySem.W.mg_of X G wc) mB wE (sZ (P:=l.prog) (w:=w) (base:=base) mH)
  have Ab:Def l.prog w K mg base "_law_class" 1 1 jv:=Def.mk' (PySem.W.mg_of X G zI) oq zX (uR (P:=l.prog) (w:=w) (base:=base) oD ay j9 pv px yI tG yJ nz pz k8 jH ka pA pB yK tH yL nA pC tI pD)
  have Ew:Def l.prog w K mg base "_law_due" 1 1 nU:=Def.mk' (PySem.W.mg_of X G Em) uv Eu (Bi (P:=l.prog) (w:=w) (base:=base) uy bc)
  have mJ:jO l.prog w K mg base "check_stand" 5 2 cg:=jO.mk' (PySem.W.mg_of X G mr) jf mF (qQ (P:=l.prog) (w:=w) (base:=base) jg K8 pE)
  have Px:jO l.prog w K mg base "is_rest" 6 2 sU:=jO.mk' (PySem.W.mg_of X G xB) pM xK (Bj (P:=l.prog) (w:=w) (base:=base) qc qe mJ)
  have mK:jO l.prog w K mg base "check_rests" 7 3 bN:=jO.mk' (PySem.W.mg_of X G vE) mw wD (qR (P:=l.prog) (w:=w) (base:=base) mG HI mJ tJ)
  have K9:jO l.prog w K mg base "joined" 8 3 eo:=jO.mk' (PySem.W.mg_of X G KL) Bz K4 (Dl (P:=l.prog) (w:=w) (base:=base) B6 bA xq xo Cb mK)
  have QO:jO l.prog w K mg base "met" 8 3 jZ:=jO.mk' (PySem.W.mg_of X G Qy) Np QM (Mv (P:=l.prog) (w:=w) (base:=base) Nq bA xq Km Cb mK)
  have Ac:Def l.prog w K mg base "_law_asked" 9 4 cZ:=Def.mk' (PySem.W.mg_of X G zK) ot zY (uS (P:=l.prog) (w:=w) (base:=base) oE lh w_be (by rw [w_is];rfl) w_ty h_cs K9 QO Ab)
  have qZ:Def l.prog w K mg base "_law_is_bound" 2 5 er:=Def.mk' (PySem.W.mg_of X G qS) kz qX (pc (P:=l.prog) (w:=w) (base:=base) kB ay bA bO Aa)
  have rc:Def l.prog w K mg base "_law_no_stand" 1 3 eu:=Def.mk' (PySem.W.mg_of X G qV) kA qY (pf (P:=l.prog) (w:=w) (base:=base) kC bO bc eX)
  exact Pe (P:=l.prog) (w:=w) (base:=base) QN yM bc bO Ac Ew qZ rc qJ Cc wF Cd z8
end Fm
set_option Elab.async false
set_option linter.all false
set_option maxRecDepth 100000
def PySem.W.Fast.tw90343872475197607 : Type := PySem.Params
theorem PySem.W.Fast.te90343872475197607 : PySem.Params = PySem.W.Fast.tw90343872475197607 := rfl
open PySem PySem.W PyProof.Rows
set_option maxRecDepth 100000 in
set_option maxHeartbeats 0 in
theorem PySem.Challenge.cw_followmost_k24_joined_and_met_holds : PySem.Challenge.rw_followmost_k24_joined_and_met.Holds := by
  w_on;o_law;k_head;(case hw=>w_witness2)
  k_fill
  refine Fm.Qd (l := PySem.Challenge.rw_followmost_k24_joined_and_met) (F := Fm.Ff) (k := 10) (x := "_law_script") rfl rfl ⟨rfl, by decide, by decide, rfl⟩ (fun w h Y => PySem.W.kIn_of Y) ?F Fm.Pc
  case F =>
    intro w mg fa h KX G hmg
    refine' Fm.Pf KX G hmg ?_ ?_ ?_ ?_ ?_ ?_ ?_ ?_ ?_ ?_ ?_ ?_ ?_ ?_ ?_ ?_ ?_ ?_ ?_ ?_ ?_ ?_ ?_ ?_ ?_ ?_ ?_ ?_ ?_ ?_ ?_ ?_ ?_ ?_ ?_ ?_ ?_ ?_ ?_ ?_ ?_ ?_ ?_ ?_ ?_ ?_ ?_ ?_ ?_ ?_ ?_ ?_ ?_ ?_ ?_ ?_ ?_ ?_ ?_ ?_ ?_ ?_ ?_ ?_ ?_ ?_ ?_ ?_ ?_ ?_ ?_ ?_ ?_ ?_ ?_ ?_ ?_ ?_ ?_ ?_ ?_ ?_ ?_ ?_ ?_ ?_ ?_ ?_ ?_ ?_ ?_ ?_ ?_ ?_ ?_ ?_ ?_ ?_ ?_ ?_ ?_ ?_ ?_ ?_ ?_ ?_ ?_ ?_ ?_ ?_ ?_ ?_ ?_ ?_ ?_ ?_ ?_ ?_ ?_ ?_ ?_ ?_ ?_ ?_ ?_ ?_ ?_ ?_ ?_ ?_ ?_ ?_ ?_ ?_ ?_ ?_ ?_ ?_ ?_ ?_ ?_ ?_ ?_ ?_ ?_ ?_ ?_ ?_ ?_ ?_ ?_ ?_ ?_ ?_ ?_ ?_ ?_ ?_ ?_ ?_ ?_ ?_ ?_ ?_ ?_ ?_ ?_ ?_ ?_ ?_ ?_ ?_ ?_ ?_ ?_ ?_ ?_ ?_ ?_ ?_ ?_ ?_ ?_ ?_ ?_ ?_ ?_ ?_ ?_ ?_ ?_ ?_ ?_ ?_ ?_ ?_ ?_ ?_ ?_ ?_ ?_ ?_ ?_ ?_ ?_ ?_ ?_ ?_ ?_ ?_ ?_ ?_ ?_ ?_ ?_
    all_goals try first|k_is|k_exc|kit_is
