import PyProof.Rows.All
import Wide.All
import OpenK.AllK
import Wide.FinOn
import Lean
import PyProof.EqAt
import PyProof.EqKinds
import PyProof.TupleCall
import PyProof.NeKinds
import PyProof.IsInstanceH
import PyProof.IsiNone
import PyProof.EnumMake
import PyProof.Draws
import PyProof.ZipIter
import PyProof.ListRange
import KE.RegKIsAll
import PyProof.ExcAttrAll.ValueError
import PyProof.NsDelKeeps
import PyProof.Rows.StrJoin2
import PySem.Challenge.RW_followmost_k50_stands_written
set_option Elab.async false
set_option linter.all false
set_option maxRecDepth 100000
namespace L2
open PySem PySem.Spec PyProof.Rows
abbrev Key:=Sum Int Str
def pI:Key→Value→Bool
  | .inl k,v=>Value.isInt k v
  | .inr x,v=>Value.isStrOf x v
def E8 (w:World):Key→Int
  | .inl k=>hashInt k
  | .inr x=>hashStr w x
theorem bV:∀ {k:Key} {v:Value},pI k v=true→(∃ i t,k=Sum.inl i∧v=Value.int i t)∨(∃ x t,k=Sum.inr x∧v=Value.str x t)
  | .inl i,v,h=>by
    obtain⟨t,e⟩:=Value.isInt_shape (k:=i) (v:=v) h
    exact .inl ⟨i,t,rfl,e⟩
  | .inr x,v,h=>by
    obtain⟨t,e⟩:=Value.isStrOf_shape (x:=x) (v:=v) h
    exact .inr ⟨x,t,rfl,e⟩
theorem xy (i:Int)(t:Tok):pI (.inl i) (.int i t)=true:=by simp [pI,Value.isInt]
theorem xz (x:Str)(t:Tok):pI (.inr x) (.str x t)=true:=by simp [pI,Value.isStrOf]
theorem Cv (a b:Int):decide ((Sum.inl a:Key)=Sum.inl b)=(a == b):=by
  by_cases e:a=b
  · subst e;simp
  · have h : ¬ (Sum.inl a:Key)=Sum.inl b:=fun q=>e (Sum.inl.inj q)
    rw [decide_eq_false h]
    exact (beq_eq_false_iff_ne.mpr e).symm
theorem Cw (a b:Str):decide ((Sum.inr a:Key)=Sum.inr b)=decide (a=b):=by
  by_cases e:a=b
  · subst e;simp
  · have h : ¬ (Sum.inr a:Key)=Sum.inr b:=fun q=>e (Sum.inr.inj q)
    rw [decide_eq_false h,decide_eq_false e]
theorem Cy (a:Int)(b:Str):decide ((Sum.inl a:Key)=Sum.inr b)=false:=decide_eq_false (fun q=>nomatch q)
theorem Cz (a:Str)(b:Int):decide ((Sum.inr a:Key)=Sum.inl b)=false:=decide_eq_false (fun q=>nomatch q)
def b6 (prog:Program) (w:World):PySem.KeyKind prog w Key where
  is:=pI
  hash:=E8 w
  inj:=fun v a b ha hb=>by
    rcases bV ha with ⟨i,t,rfl,rfl⟩|⟨x,t,rfl,rfl⟩
    · rcases bV hb with ⟨j,u,rfl,e⟩|⟨y,u,rfl,e⟩
      · injection e with e1 _;rw [e1]
      · exact nomatch e
    · rcases bV hb with ⟨j,u,rfl,e⟩|⟨y,u,rfl,e⟩
      · exact nomatch e
      · injection e with e1 _;rw [e1]
  byValue:=fun k v h=>by
    rcases bV h with ⟨i,t,rfl,rfl⟩|⟨x,t,rfl,rfl⟩<;>rfl
  pyHash:=fun hv h=>by
    rcases bV hv with ⟨i,t,rfl,rfl⟩|⟨x,t,rfl,rfl⟩
    · exact wpAny_pyHash_int h
    · exact wpAny_pyHash_str h
  eqBool:=fun hu hv h=>by
    rcases bV hu with ⟨i,t,rfl,rfl⟩|⟨x,t,rfl,rfl⟩
    · rcases bV hv with ⟨j,u,rfl,rfl⟩|⟨y,u,rfl,rfl⟩
      · rw [Cv] at h;exact wpAny_eqBool_int h
      · rw [Cy] at h;exact SeqAt.EqAt.int_str i t y u _ _ _ _ h
    · rcases bV hv with ⟨j,u,rfl,rfl⟩|⟨y,u,rfl,rfl⟩
      · rw [Cz] at h;exact SeqAt.EqAt.str_int x t j u _ _ _ _ h
      · rw [Cw] at h;exact wpAny_eqBool_str h
  «strs» := fun k x t v h=>by
    rcases bV h with ⟨i,u,rfl,e⟩|⟨y,u,rfl,e⟩
    · exact nomatch e
    · injection e with e1 _
      subst e1
      cases v<;>rfl
theorem tK (prog:Program)(w:World)(i:Int)(t:Tok):(b6 prog w).is (.inl i) (.int i t)=true:=xy i t
theorem tL (prog:Program)(w:World)(x:Str)(t:Tok):(b6 prog w).is (.inr x) (.str x t)=true:=xz x t
end L2
namespace L2
open PySem PySem.Spec PyProof.Rows
inductive V where
  | non|bl (b:Bool)|int (i:Int)|str (x:Str)|byt (b:Array UInt8)|flt (b:UInt64)|ref (a:Addr)|ty (n:String)
  deriving DecidableEq
def bf:V→Value→Prop
  | .non,u=>u=Value.none
  | .bl b,u=>u=Value.bool b
  | .int i,u=>∃ t,u=Value.int i t
  | .str x,u=>∃ t,u=Value.str x t
  | .byt b,u=>∃ t,u=Value.bytes b t
  | .flt b,u=>∃ t,u=Value.float b t
  | .ref a,u=>u=Value.ref a
  | .ty n,u=>u=Value.type n
abbrev aL:List V→List Value→Prop:=Paired bf
theorem aL.length {xs:List V}{us:List Value}(r:aL xs us):xs.length=us.length:=Paired.length r
theorem aL.get:∀ {xs:List V} {us:List Value} {i:Nat} {x:V},aL xs us→xs[i]? = some x → ∃ u,us[i]? = some u∧bf x u
  | _,_,_,_,.nil,e=>by simp at e
  | _,_,0,_,.cons r _,e=>by simp at e;subst e;exact⟨_,rfl,r⟩
  | _,_,i + 1,x,.cons _ t,e=>by
    obtain⟨u,h1,h2⟩:=aL.get (i:=i) (x:=x) t (by simpa using e)
    exact⟨u,by simpa using h1,h2⟩
theorem aL.set {x:V}{u:Value}(r:bf x u):∀ {xs:List V} {us:List Value} (i:Nat),aL xs us→aL (xs.set i x) (us.set i u)
  | _,_,_,.nil=>.nil
  | _,_,0,.cons _ t=>.cons r t
  | _,_,i + 1,.cons q t=>.cons q (aL.set r i t)
theorem aL.append:∀ {xs ys:List V} {us ws:List Value},aL xs us→aL ys ws→aL (xs++ys) (us++ws)
  | _,_,_,_,.nil,s=>s
  | _,_,_,_,.cons r t,s=>.cons r (aL.append t s)
theorem aL.take:∀ {xs:List V} {us:List Value} (n:Nat),aL xs us→aL (xs.take n) (us.take n)
  | _,_,0,_=>.nil
  | _,_,_ + 1,.nil=>.nil
  | _,_,n + 1,.cons r t=>.cons r (aL.take n t)
theorem aL.drop:∀ {xs:List V} {us:List Value} (n:Nat),aL xs us→aL (xs.drop n) (us.drop n)
  | _,_,0,r=>r
  | _,_,_ + 1,.nil=>.nil
  | _,_,n + 1,.cons _ t=>aL.drop n t
def xA:Option V→Option Value→Prop
  | some v,some u=>bf v u
  | none,none=>True
  | _,_=>False
def KV {κ : Type}:List (κ × V)→List (κ × Value)→Prop:=Paired fun (p : κ × V) (q : κ × Value)=>p.1=q.1∧bf p.2 q.2
def kV:Key→V
  | .inl i=>.int i
  | .inr x=>.str x
inductive HO where
    | lst (xs:List V)
    | tup (xs:List V)
    | dK (kvs:List (Key × V))|dT (kvs:List (List Key × V))
    | set (S:Int→Bool) (n:Nat)
    | ins (C dx:Addr) (fs:List (Str × V))
    | own (x:Addr)
    | xd (fs:List (Str × V))
    | met (f x:Addr)
    | rng (lo hi:Int)
    | frz (o:Obj) (u:HO)
    | tbl (ps:Array Value)
    | ext (φ : Heap→Prop)
abbrev Hp:=Addr→Option HO
def upd (H:Hp) (a:Addr) (o:HO):Hp:=fun b=>if b=a then some o else H b
theorem aV {H:Hp}{a:Addr}{o:HO}:upd H a o a=some o:=by unfold upd;rw [if_pos rfl]
theorem az {H:Hp}{a b:Addr}{o:HO}(h:b≠a):upd H a o b=H b:=by unfold upd;rw [if_neg h]
theorem Ce {H:Hp}{a b:Addr}{o u:HO}(h:H a=some o)(h':H b=some u)(d:o≠u):a≠b:=by
  intro e;subst e;rw [h] at h';exact d (Option.some.inj h')
theorem bg {H:Hp}{a b:Addr}{o:HO}(h:H a=some o)(h':H b=none):a≠b:=by
  intro e;subst e;rw [h] at h';cases h'
section
variable (P:Program) (w:World)
def cB (H:Hp) (h:Heap) (a:Addr):HO→Prop
  | .lst xs=>xs.length≤sizeLine ∧ ∃ (its:List Value) (n:Nat),aL xs its∧h.get? a=some { cls:=.type "list",data:=.seq its.toArray n }
  | .tup xs=>xs.length≤sizeLine ∧ ∃ its:List Value,aL xs its∧IsTup h a its.toArray
  | .dK kvs=>kvs.length≤sizeLine∧(a == sysModules)=false ∧ ∃ vs,KV kvs vs∧h.DictOf (b6 P w) a vs
  | .dT kvs=>kvs.length≤sizeLine∧(a == sysModules)=false ∧ ∃ xs:List (List Key × Addr × Value),
      Paired (fun (p:List Key × V) (q:List Key × Addr × Value)=>p.1=q.1∧H q.2.1=some (.tup (p.1.map kV))∧bf p.2 q.2.2) kvs xs ∧
      ∃ o es ep,h.get? a=some o∧o.ExactDict∧o.data=.dict es ep∧es.toList=xs.map (entryOfKey (tupleKind (b6 P w)))∧(xs.map (·.1)).Nodup
  | .set S n=>h.SetOf (intKind P w) a S n
  | .ins C dx fs=>H dx=some (.own a)∧fs.length≤1000∧dx≠a∧h.get? a=some (PySem.W.instObj C dx) ∧
      ∃ mA,h.Ns1 dx mA∧(∀ f,xA (fs.lookup f) (mA f))∧PySem.Within mA (fs.map (·.1))
  | .own _=>∃ o,h.get? a=some o
  | .xd fs=>∃ mA,h.Ns1 a mA ∧ ∀ f,xA (fs.lookup f) (mA f)
  | .rng lo hi=>∃ t u v,h.get? a=some { cls:=.type "range",data:=.fields #[.int lo t,.int hi u,.int 1 v] }
  | .frz o u=>h.get? a=some o∧cB H h a u
  | .tbl ps=>h.get? a=some { cls:=.none,data:=.fields ps }
  | .met f x=>h.get? a=some (PySem.W.methodObj (.ref f) (.ref x))
  | .ext φ => φ h∧(∃ o,h.get? a=some o) ∧ ∀ h1 h2:Heap,φ h1→(∀ o,h1.get? a=some o→h2.get? a=some o) → φ h2
def HOk (H:Hp) (h:Heap):Prop:=∀ a o,H a=some o→cB P w H h a o
end
section
variable {P:Program} {w:World} {H H':Hp} {h h':Heap} {a:Addr} {o:HO}
theorem cB.lt (x:cB P w H h a o):a < h.objs.size:=by
  cases o with
  | lst xs=>obtain⟨_,_,_,_,e⟩:=x;exact Heap.lt_size e
  | tup xs=>obtain⟨_,_,_,p⟩:=x;exact p.lt
  | dK kvs=>obtain⟨_,_,_,_,o,_,_,e,_⟩:=x;exact Heap.lt_size e
  | dT kvs=>obtain⟨_,_,_,_,o,_,_,e,_⟩:=x;exact Heap.lt_size e
  | set S n=>obtain⟨o,_,_,_,e,_⟩:=x;exact Heap.lt_size e
  | ins C dx fs=>obtain⟨_,_,_,e,_⟩:=x;exact Heap.lt_size e
  | own y=>obtain⟨_,e⟩:=x;exact Heap.lt_size e
  | xd fs=>obtain⟨_,⟨_,_,_,e,_⟩,_⟩:=x;exact Heap.lt_size e
  | rng lo hi=>obtain⟨_,_,_,e⟩:=x;exact Heap.lt_size e
  | frz ob u=>obtain⟨e,_⟩:=x;exact Heap.lt_size e
  | tbl ps=>exact Heap.lt_size (show h.get? a=some _ from x)
  | met f y=>exact Heap.lt_size (show h.get? a=some _ from x)
  | ext φ => obtain⟨_,⟨_,e⟩,_⟩:=x;exact Heap.lt_size e
theorem Paired.mapP {α β : Type}{F G : α → β → Prop}:∀ {l₁ : List α} {l₂ : List β},Paired F l₁ l₂ → (∀ a b,F a b→G a b)→Paired G l₁ l₂
  | _,_,.nil,_=>.nil
  | _,_,.cons r t,f=>.cons (f _ _ r) (Paired.mapP t f)
theorem cB.stay (x:cB P w H h a o)(k:∀ b u,(b=a∨H b=some (.own a))→h.get? b=some u→h'.get? b=some u)
    (ho:∀ b,H b=some (.own a)→H' b=some (.own a)) (ht:∀ b xs,H b=some (.tup xs)→H' b=some (.tup xs)):cB P w H' h' a o:=by
  induction o with
  | lst xs=>obtain⟨z,its,n,r,e⟩:=x;exact⟨z,its,n,r,k _ _ (.inl rfl) e⟩
  | tup xs=>obtain⟨z,its,r,ob,e,c⟩:=x;exact⟨z,its,r,ob,k _ _ (.inl rfl) e,c⟩
  | dK kvs=>obtain⟨z,y,vs,r,ob,es,ep,e,c⟩:=x;exact⟨z,y,vs,r,ob,es,ep,k _ _ (.inl rfl) e,c⟩
  | dT kvs =>
    obtain⟨z,y,xs,r,ob,es,ep,e,c⟩:=x
    exact⟨z,y,xs,Paired.mapP r fun p q z=>⟨z.1,ht _ _ z.2.1,z.2.2⟩,ob,es,ep,k _ _ (.inl rfl) e,c⟩
  | set S n=>obtain⟨ob,es,ep,t,e,c⟩:=x;exact⟨ob,es,ep,t,k _ _ (.inl rfl) e,c⟩
  | ins C dx fs =>
    obtain⟨d,z,ne,e,mA,⟨od,es,ep,e2,c⟩,r⟩:=x
    exact⟨ho _ d,z,ne,k _ _ (.inl rfl) e,mA,⟨od,es,ep,k _ _ (.inr d) e2,c⟩,r⟩
  | own y=>obtain⟨ob,e⟩:=x;exact⟨ob,k _ _ (.inl rfl) e⟩
  | xd fs=>obtain⟨mA,⟨od,es,ep,e,c⟩,r⟩:=x;exact⟨mA,⟨od,es,ep,k _ _ (.inl rfl) e,c⟩,r⟩
  | rng lo hi=>obtain⟨t,u,v,e⟩:=x;exact⟨t,u,v,k _ _ (.inl rfl) e⟩
  | frz ob u ih=>obtain⟨e,q⟩:=x;exact⟨k _ _ (.inl rfl) e,ih q⟩
  | tbl ps =>
    have e:h.get? a=some { cls:=.none,data:=.fields ps }:=x
    show h'.get? a=some { cls:=.none,data:=.fields ps }
    exact k a _ (.inl rfl) e
  | met f y =>
    have e:h.get? a=some (PySem.W.methodObj (.ref f) (.ref y)):=x
    show h'.get? a=some (PySem.W.methodObj (.ref f) (.ref y))
    exact k a _ (.inl rfl) e
  | ext φ => obtain⟨p,⟨o,e⟩,st⟩:=x;exact⟨st _ _ p fun o q=>k _ _ (.inl rfl) q,⟨o,k _ _ (.inl rfl) e⟩,st⟩
theorem HOk.lt (x:HOk P w H h)(e:H a=some o):a < h.objs.size:=(x a o e).lt
theorem HOk.fresh (x:HOk P w H h)(e:h.objs.size≤a):H a=none:=by
  cases q:H a with
  | none=>rfl
  | some u=>exact absurd (Nat.lt_of_lt_of_le (x.lt q) e) (Nat.lt_irrefl _)
theorem HOk.kept (x:HOk P w H h)(k:∀ b u,h.get? b=some u→h'.get? b=some u):HOk P w H h':=fun a o e =>
  (x a o e).stay (fun b u _ q=>k b u q) (fun _ q=>q) fun _ _ q=>q
theorem HOk.laid (x:HOk P w H h)(k:∀ b u,h.get? b=some u→h'.get? b=some u)(hp:h.objs.size≤a)(new:cB P w (upd H a o) h' a o):HOk P w (upd H a o) h':=fun b u e=>by
  have hn:=x.fresh hp
  by_cases hb:b=a
  · subst hb;rw [aV] at e;cases e;exact new
  · rw [az hb] at e
    exact (x b u e).stay (fun c v _ q=>k c v q) (fun c q=>by rw [az (bg q hn)];exact q) fun c xs q=>by rw [az (bg q hn)];exact q
end
def Rd (H:Hp) (a:Addr) (u:HO):Prop:=H a=some u ∨ ∃ o,H a=some (.frz o u)
theorem Rd.ok {P:Program}{w:World}{H:Hp}{h:Heap}{a:Addr}{u:HO}(r:Rd H a u)(x:HOk P w H h):cB P w H h a u:=by
  rcases r with r|⟨o,r⟩
  · exact x a u r
  · obtain⟨_,q⟩:=x a _ r
    exact q
def Mut:Option HO→Prop
  | some (.lst _)=>True
  | some (.dK _)=>True
  | some (.dT _)=>True
  | some (.set _ _)=>True
  | some (.ins _ _ _)=>True
  | some (.ext _)=>True
  | _=>False
section
variable {P:Program} {w:World} {H:Hp} {h h':Heap} {x e:Addr} {o':HO}
theorem HOk.write (ok:HOk P w H h)(mu:Mut (H x))(he:e=x∨H e=some (.own x))(k:∀ b u,b≠e→h.get? b=some u→h'.get? b=some u)(heo:∃ u,h'.get? e=some u)
    (new:cB P w (upd H x o') h' x o'):HOk P w (upd H x o') h':=fun b u q=>by
  have nown:∀ c y,H c=some (.own y)→c≠x:=fun c y r z=>by subst z;rw [r] at mu;exact mu
  have ntup:∀ c xs,H c=some (.tup xs)→c≠x:=fun c xs r z=>by subst z;rw [r] at mu;exact mu
  by_cases hb:b=x
  · subst hb;rw [aV] at q;cases q;exact new
  · rw [az hb] at q
    by_cases hbe:b=e
    · have q':H b=some (.own x):=by
        rcases he with z|z
        · exact absurd (hbe.trans z) hb
        · rw [hbe];exact z
      rw [q] at q';cases q'
      obtain⟨v,hv⟩:=heo
      exact⟨v,by rw [hbe];exact hv⟩
    · refine (ok b u q).stay (fun c v hc r=>k c v ?_ r) (fun c r=>by rw [az (nown c b r)];exact r) fun c xs r=>by rw [az (ntup c xs r)];exact r
      rcases hc with rfl|hc
      · exact hbe
      · rintro rfl
        rcases he with z|z
        · exact nown c b hc z
        · rw [hc] at z;cases z;exact hb rfl
end
structure Un (fs ex:List Addr) (H H':Hp) (h h':Heap):Prop where
  keep:∀ b o,h.get? b=some o→H b=none→b∉fs→b∉ex→h'.get? b=some o
  slot:∀ b o,h.get? b=some o→H b=none→b∈fs→b∉ex → ∃ sl,h'.get? b=some { o with slots:=sl }
  free:∀ b o,h.get? b=some o→H b=none→b∉ex→H' b=none
  there:∀ b o,h.get? b=some o→b∉ex → ∃ o',h'.get? b=some o'
  tups:∀ b xs,H b=some (.tup xs)→H' b=some (.tup xs)
  frzs:∀ b o u,H b=some (.frz o u)→H' b=some (.frz o u)
  tbls:∀ b ps,H b=some (.tbl ps) → ∃ more,H' b=some (.tbl (ps++more))
section
variable {fs fs' ex ex':List Addr} {H H1 H2:Hp} {h h1 h2 h':Heap} {a x e:Addr} {o:HO}
theorem Un.any (u:Un fs ex H H1 h h1){b:Addr}{ob:Obj}(q:h.get? b=some ob)(n:H b=none)(hx:b∉ex):∃ sl,h1.get? b=some { ob with slots:=sl }:=by
  by_cases hb:b∈fs
  · exact u.slot b ob q n hb hx
  · exact⟨ob.slots,u.keep b ob q n hb hx⟩
theorem Un.kept (k:∀ b u,h.get? b=some u→h'.get? b=some u):Un fs ex H H h h' :=
  ⟨fun b ob q _ _ _=>k b ob q,fun b ob q _ _ _=>⟨ob.slots,k b ob q⟩,fun _ _ _ n _=>n,fun b ob q _=>⟨ob,k b ob q⟩,fun _ _ q=>q,fun _ _ _ q=>q,fun _ ps q=>⟨#[],by rw [q];simp⟩⟩
theorem Un.refl:Un fs ex H H h h:=Un.kept fun _ _ q=>q
theorem Un.laid (k:∀ b u,h.get? b=some u→h'.get? b=some u)(hp:h.objs.size≤a)(hn:H a=none):Un fs ex H (upd H a o) h h' where
  keep:=fun b u q _ _ _=>k b u q
  slot:=fun b u q _ _ _=>⟨u.slots,k b u q⟩
  free:=fun b u q n _=>by rw [az (Nat.ne_of_lt (Nat.lt_of_lt_of_le (Heap.lt_size q) hp))];exact n
  there:=fun b u q _=>⟨u,k b u q⟩
  tups:=fun b xs q=>by rw [az (bg q hn)];exact q
  frzs:=fun b u xs q=>by rw [az (bg q hn)];exact q
  tbls:=fun b ps q=>⟨#[],by rw [az (bg q hn),q];simp⟩
theorem Un.write (mu:Mut (H x))(he:e=x∨H e=some (.own x))(k:∀ b u,b≠e→h.get? b=some u→h'.get? b=some u)(heo:∃ u,h'.get? e=some u):Un fs ex H (upd H x o) h h':=by
  have hx:∀ b,H b=none→b≠x:=fun b n z=>by subst z;rw [n] at mu;exact mu
  have hb:∀ b,H b=none→b≠e:=fun b n z=>by
    subst z
    rcases he with r|r
    · exact hx b n r
    · rw [n] at r;cases r
  have hm:∀ b u,H b=some u → ¬ Mut (some u)→b≠x:=fun b u q nm z=>by subst z;rw [q] at mu;exact nm mu
  refine⟨fun b u q n _ _=>k b u (hb b n) q,fun b u q n _ _=>⟨u.slots,k b u (hb b n) q⟩,fun b u q n _=>by rw [az (hx b n)];exact n,fun b u q _ => ?_,
    fun b xs q=>by rw [az (hm b _ q fun z=>z)];exact q,fun b u xs q=>by rw [az (hm b _ q fun z=>z)];exact q,fun b ps q=>⟨#[],by rw [az (hm b _ q fun z=>z),q];simp⟩⟩
  by_cases hbe:b=e
  · subst hbe;exact heo
  · exact⟨u,k b u hbe q⟩
end
def trk (h:Heap) (H:Hp):List Addr:=(List.range h.objs.size).filter fun a=>(H a).isSome
def qm (h:Heap) (H:Hp):Heap:=PySem.W.hideAll h (trk h H)
theorem xB (h:Heap)(H:Hp):(qm h H).objs.size=h.objs.size:=PySem.W.hideAll_size _ _
theorem yW {h:Heap}{H:Hp}{b:Addr}{o:Obj}(e:h.get? b=some o)(n:H b=none):(qm h H).get? b=some o :=
  PySem.W.hideAll_get _ e fun hm=>by
    have q:(H b).isSome=true:=(List.mem_filter.mp hm).2
    rw [n] at q;simp at q
theorem AT {h:Heap}{H:Hp}{b:Addr}{o:Obj}(e:(qm h H).get? b=some o):h.get? b=some o∧H b=none:=by
  have e':h.get? b=some o:=PySem.W.of_hideAll (trk h H) e
  refine⟨e',?_⟩
  cases q:H b with
  | none=>rfl
  | some x =>
    have hm:b∈trk h H:=List.mem_filter.mpr ⟨List.mem_range.mpr (Heap.lt_size e'),by simp [q]⟩
    have z:(qm h H).get? b=none:=PySem.W.hideAll_none (trk h H) hm
    rw [z] at e;cases e
def AU (g h:Heap) (L:Addr):List (Addr × Obj):=(List.range h.objs.size).filterMap fun a=>if a=L∨(g.get? a).isSome=true then none else (h.get? a).map fun o=>(a,o)
def rest (g h:Heap) (L d:Addr):List (Addr × Obj):=(AU g h L).filter fun p=>decide (p.1≠d)
end L2
namespace L2
open PySem PySem.Spec PyProof.Rows
structure Mod (K:PySem.W.Frag) (mg:Str→Option Value) (base:Heap):Prop where
  kin:K.In base
  glob:base.Ns mainGlobals mg
  blt:∃ mb,base.Ns builtinsNs mb ∧ ∀ x:Str,x ≠ "__name__" → mb x=bootBuiltins x
  nolimit:base.NoLimit
structure Cx where
  prog:Program
  w:World
  K:PySem.W.Frag
  mg:Str→Option Value
  base:Heap
  A:Around
  N:List Str
  s₀ : Shared
  H₀ : Hp
  env:Env
  outer:List Env
  stack:List Env
  ex:List Addr
  fn:Str→Bool
  calm:Bool
  pn:List (Addr × Obj)
  xe:Value→Shared→Prop
def frs (l:List Env):List Addr:=l.filterMap (·.frame)
abbrev Cx.fs (X:Cx):List Addr:=frs X.outer
def Vis (sc:Scope) (x:Str):Prop:=sc.names.lookup x=some .local ∨sc.names.lookup x=some .cell∨sc.names.lookup x=some .free
def Loc (sc:Scope) (x:Str):Prop:=sc.names.lookup x=some .local ∨sc.names.lookup x=some .cell
def E9 (env:Env) (h:Heap) (m:Str→Option Value) (x:Str) (u:Value):Prop :=
  (env.kindOf x=some .local∧m x=some u)∨((env.kindOf x=some .cell∨env.kindOf x=some .free) ∧ ∃ c,env.cells.lookup x=some c∧h.IsCell c (some u))
structure Cx.Ok (X:Cx):Prop where
  mod:Mod X.K X.mg X.base
  kind:X.env.scope.kind=.function
  glob:X.env.globals=mainGlobals
  blt:X.env.builtins=builtinsNs
  above:X.s₀.heap.objs.size≤X.env.locals
  inj:∀ x y c,X.env.cells.lookup x=some c→X.env.cells.lookup y=some c→x=y
  has:∀ x,(X.env.kindOf x=some .cell∨X.env.kindOf x=some .free) → ∃ c,X.env.cells.lookup x=some c
  cab:∀ x c,X.fn x=true→X.env.cells.lookup x=some c→X.s₀.heap.objs.size≤c
  hd:X.calm=true→X.A.handled=none
  frames:X.A.frames=some X.stack
  stk:X.stack=X.outer∨(X.stack=X.env :: X.outer∧X.env.frame=some X.env.locals)
  exf:∀ b∈X.ex,b≠X.env.locals ∧ ∀ x c,X.env.cells.lookup x=some c→c≠b
  bs:∀ b o,X.base.get? b=some o→X.s₀.heap.get? b=some o∧X.H₀ b=none
  bsz:X.base.objs.size≤X.s₀.heap.objs.size
  noex:∀ b o,X.base.get? b=some o→b∉X.ex
  exfs:∀ b∈X.ex,b∉X.fs
  funs:X.s₀.heap.FunFrames X.base X.outer
  frf:∀ b∈X.fs,X.H₀ b=none
structure Inv (X:Cx) (pins:List (Addr × Obj)) (σ:List (Option V)) (H:Hp) (s:Shared):Prop where
  ok:X.Ok
  os:s.os=X.s₀.os
  bare:AllBare s.gens
  base:Un X.fs X.ex X.H₀ H X.s₀.heap s.heap
  loc:∃ m,s.heap.Ns X.env.locals m ∧ ∀ (i:Nat) (x:Str) (v:V),X.N[i]? = some x → σ[i]? = some (some v)→Vis X.env.scope x → ∃ u,bf v u∧E9 X.env s.heap m x u
  cell:∀ x c,X.env.cells.lookup x=some c → ∃ v,s.heap.IsCell c v
  free:H X.env.locals=none
  freeC:∀ x c,X.env.cells.lookup x=some c→H c=none
  pin:∀ p∈X.pn++pins,s.heap.get? p.1=some p.2∧H p.1=none∧p.1≠X.env.locals∧p.1∉X.fs ∧ ∀ v,p.2.data ≠ .cell v
  hok:HOk X.prog X.w H s.heap
  len : σ.length=X.N.length
section
variable {X:Cx} {pins:List (Addr × Obj)} {σ:List (Option V)} {H H':Hp} {s:Shared} {h':Heap}
theorem Cx.Ok.nofr (ok:X.Ok){b:Addr}{o:Obj}(e:X.base.get? b=some o):b∉X.fs:=fun hb=>by
  have:=(ok.funs.mem hb).1
  rw [e] at this;cases this
theorem Inv.bs (I:Inv X pins σ H s):∀ b o,X.base.get? b=some o→s.heap.get? b=some o∧H b=none:=fun b o e =>
  ⟨I.base.keep b o (I.ok.bs b o e).1 (I.ok.bs b o e).2 (I.ok.nofr e) (I.ok.noex b o e),I.base.free b o (I.ok.bs b o e).1 (I.ok.bs b o e).2 (I.ok.noex b o e)⟩
theorem Inv.bk (I:Inv X pins σ H s):∀ b o,X.base.get? b=some o→s.heap.get? b=some o:=fun b o e=>(I.bs b o e).1
theorem Inv.mod (I:Inv X pins σ H s):Mod X.K X.mg X.base:=I.ok.mod
theorem Inv.kIn (I:Inv X pins σ H s):X.K.In s.heap:=I.ok.mod.kin.keeps I.bk
theorem Inv.lt (I:Inv X pins σ H s):X.env.locals < s.heap.objs.size:=let ⟨_,hn,_⟩:=I.loc;hn.lt
theorem Inv.sz (I:Inv X pins σ H s):X.s₀.heap.objs.size≤s.heap.objs.size:=Nat.le_trans I.ok.above (Nat.le_of_lt I.lt)
theorem Inv.nofs (I:Inv X pins σ H s){a:Addr}(h:s.heap.objs.size≤a):a∉X.fs:=fun hb=>by
  obtain⟨_,o,ho,_⟩:=I.ok.funs.mem hb
  exact absurd (Nat.lt_of_lt_of_le (Heap.lt_size ho) (Nat.le_trans I.sz h)) (Nat.lt_irrefl _)
theorem Inv.cne (I:Inv X pins σ H s):∀ x c,X.env.cells.lookup x=some c→c≠X.env.locals:=fun x c e z=>by
  obtain⟨v,o,ho,hd⟩:=I.cell x c e
  obtain⟨m,⟨o',es,ep,ho',hd',_⟩,_⟩:=I.loc
  rw [z,ho'] at ho;cases ho;rw [hd'] at hd;cases hd
theorem Inv.funs (I:Inv X pins σ H s):s.heap.FunFrames X.base X.outer:=by
  have all:∀ (l:List Env),(∀ b∈frs l,b∈X.fs)→X.s₀.heap.FunFrames X.base l→s.heap.FunFrames X.base l:=by
    intro l
    induction l with
    | nil=>intro _ _;trivial
    | cons env r ih =>
      intro hs hl
      obtain⟨hk,⟨L,o,hf,hn,ho,hd⟩,hr⟩:=hl
      have hL:L∈X.fs:=hs L (by unfold frs;rw [List.filterMap_cons,hf];exact List.mem_cons_self)
      obtain⟨sl,e⟩:=I.base.slot L o ho (I.ok.frf L hL) hL fun z=>I.ok.exfs L z hL
      exact⟨hk,⟨L,_,hf,hn,e,hd⟩,ih (fun b hb=>hs b (by unfold frs;rw [List.filterMap_cons,hf];exact List.mem_cons_of_mem _ hb)) hr⟩
  exact all X.outer (fun _ hb=>hb) I.ok.funs
theorem Inv.stack (I:Inv X pins σ H s):s.heap.FunFrames X.base X.stack:=by
  rcases I.ok.stk with e|⟨e,hf⟩
  · rw [e];exact I.funs
  · rw [e]
    obtain⟨m,hn,_⟩:=I.loc
    refine .cons (by rw [I.ok.kind];decide) hf hn ?_ I.funs
    exact Heap.get?_none_of_le (Nat.le_trans I.ok.bsz I.ok.above)
theorem Inv.stkSub (I:Inv X pins σ H s):∀ b∈frs X.stack,b∈X.env.locals :: X.fs:=fun b hb=>by
  rcases I.ok.stk with e|⟨e,hf⟩
  · rw [e] at hb;exact List.mem_cons_of_mem _ hb
  · rw [e] at hb
    unfold frs at hb
    rw [List.filterMap_cons,hf] at hb
    exact hb
theorem Inv.stkFree (I:Inv X pins σ H s):∀ b∈frs X.stack,H b=none:=fun b hb=>by
  rcases List.mem_cons.mp (I.stkSub b hb) with e|hb
  · rw [e];exact I.free
  · obtain⟨_,o,ho,_⟩:=I.ok.funs.mem hb
    exact I.base.free b o ho (I.ok.frf b hb) fun z=>I.ok.exfs b z hb
theorem Inv.step {g':Array GenState}{t':Nat}{d':Drawn}{ch:List Addr}(I:Inv X pins σ H s)
    (hch:∀ b∈ch,(b∈X.ex∨X.s₀.heap.objs.size≤b)∧b≠X.env.locals∧(∀ x c,X.env.cells.lookup x=some c→c≠b) ∧ ∀ p∈X.pn++pins,p.1≠b)
    (keep:∀ b o,b≠X.env.locals→b∉X.fs→b∉ch→s.heap.get? b=some o→H b=none→h'.get? b=some o)
    (slot:∀ b o,b≠X.env.locals→b∈X.fs→b∉ch→s.heap.get? b=some o→H b=none → ∃ sl,h'.get? b=some { o with slots:=sl }) (free:∀ b o,b∉ch→s.heap.get? b=some o→H b=none→H' b=none)
    (there:∀ b o,b∉ch→s.heap.get? b=some o → ∃ o',h'.get? b=some o')
    (tups:∀ b xs,H b=some (.tup xs)→H' b=some (.tup xs)) (frzs:∀ b o u,H b=some (.frz o u)→H' b=some (.frz o u)) (tbls:∀ b ps,H b=some (.tbl ps) → ∃ more,H' b=some (.tbl (ps++more)))
    (ns:∀ m,s.heap.Ns X.env.locals m→h'.Ns X.env.locals m) (hok:HOk X.prog X.w H' h') (hg:AllBare g') :
    Inv X pins σ H' { s with heap:=h',gens:=g',drawn:=d',toks:=t' }:=by
  have neL:∀ b o,X.s₀.heap.get? b=some o→b≠X.env.locals:=fun b o e=>Nat.ne_of_lt (Nat.lt_of_lt_of_le (Heap.lt_size e) I.ok.above)
  have neC:∀ b o,X.s₀.heap.get? b=some o→b∉X.ex→b∉ch:=fun b o e hx hb=>by
    rcases (hch b hb).1 with z|z
    · exact hx z
    · exact absurd (Nat.lt_of_lt_of_le (Heap.lt_size e) z) (Nat.lt_irrefl _)
  have cellK:∀ x c,X.env.cells.lookup x=some c → ∀ v,s.heap.IsCell c v→h'.IsCell c v:=fun x c e v ⟨o,ho,hd⟩=>by
    have nch:c∉ch:=fun z=>(hch c z).2.2.1 x c e rfl
    by_cases hc:c∈X.fs
    · obtain⟨sl,q⟩:=slot c o (I.cne x c e) hc nch ho (I.freeC x c e)
      exact⟨_,q,hd⟩
    · exact⟨o,keep c o (I.cne x c e) hc nch ho (I.freeC x c e),hd⟩
  refine⟨I.ok,I.os,hg,⟨fun b o e n hb hx => ?_,fun b o e n hb hx => ?_,fun b o e n hx => ?_,fun b o e hx => ?_,fun b xs e=>tups b xs (I.base.tups b xs e),fun b o xs e=>frzs b o xs (I.base.frzs b o xs e),fun b ps e => ?_⟩,?_,fun x c e => ?_,?_,fun x c e => ?_,fun p hp => ?_,hok,I.len⟩
  · exact keep b o (neL b o e) hb (neC b o e hx) (I.base.keep b o e n hb hx) (I.base.free b o e n hx)
  · obtain⟨sl,e1⟩:=I.base.slot b o e n hb hx
    obtain⟨sl',e2⟩:=slot b _ (neL b o e) hb (neC b o e hx) e1 (I.base.free b o e n hx)
    exact⟨sl',e2⟩
  · obtain⟨o',e1⟩:=I.base.there b o e hx
    exact free b o' (neC b o e hx) e1 (I.base.free b o e n hx)
  · obtain⟨o',e1⟩:=I.base.there b o e hx
    exact there b o' (neC b o e hx) e1
  · obtain⟨m1,e1⟩:=I.base.tbls b ps e
    obtain⟨m2,e2⟩:=tbls b _ e1
    exact⟨m1++m2,by rw [e2,Array.append_assoc]⟩
  · obtain⟨m,hn,hl⟩:=I.loc
    refine⟨m,ns m hn,fun i x v e1 e2 e3 => ?_⟩
    obtain⟨u,r,l⟩:=hl i x v e1 e2 e3
    refine⟨u,r,?_⟩
    rcases l with l|⟨k,c,e,z⟩
    · exact .inl l
    · exact .inr ⟨k,c,e,cellK x c e _ z⟩
  · obtain⟨v,z⟩:=I.cell x c e
    exact⟨v,cellK x c e v z⟩
  · obtain⟨m,⟨o,_,_,ho,_⟩,_⟩:=I.loc
    exact free _ o (fun z=>(hch _ z).2.1 rfl) ho I.free
  · obtain⟨v,o,ho,hd⟩:=I.cell x c e
    exact free c o (fun z=>(hch c z).2.2.1 x c e rfl) ho (I.freeC x c e)
  · obtain⟨e,n,ne,nf,d⟩:=I.pin p hp
    have nch:p.1∉ch:=fun z=>(hch p.1 z).2.2.2 p hp rfl
    exact⟨keep p.1 p.2 ne nf nch e n,free p.1 p.2 nch e n,ne,nf,d⟩
theorem Inv.un {t':Nat}(I:Inv X pins σ H s)(u:Un X.fs [] H H' s.heap h')(hok:HOk X.prog X.w H' h'):Inv X pins σ H' { s with heap:=h',toks:=t' }:=by
  obtain⟨m,⟨o,es,ep,ho,r⟩,_⟩:=id I.loc
  obtain⟨sl,hL⟩:=u.any ho I.free (by simp)
  exact I.step (g':=s.gens) (d':=s.drawn) (ch:=[]) (fun _ z=>nomatch z) (fun b o _ hb _ e n=>u.keep b o e n hb (by simp)) (fun b o _ hb _ e n=>u.slot b o e n hb (by simp)) (fun b o _ e n=>u.free b o e n (by simp)) (fun b o _ e=>u.there b o e (by simp)) u.tups u.frzs u.tbls (fun m' hm=>by
    obtain⟨o',es',ep',ho',r'⟩:=hm
    rw [ho] at ho';cases ho'
    exact⟨_,es',ep',hL,r'⟩) hok I.bare
theorem Inv.call {g':Array GenState}{t':Nat}{d':Drawn}{ch:List Addr}(I:Inv X pins σ H s)(u:Un (frs X.stack) ch H H' s.heap h')(hok:HOk X.prog X.w H' h')(hg:AllBare g')
    (hch:∀ b∈ch,(b∈X.ex∨X.s₀.heap.objs.size≤b)∧b≠X.env.locals∧(∀ x c,X.env.cells.lookup x=some c→c≠b) ∧ ∀ p∈X.pn++pins,p.1≠b) :
    Inv X pins σ H' { s with heap:=h',gens:=g',drawn:=d',toks:=t' }:=by
  obtain⟨m,⟨o,es,ep,ho,r⟩,_⟩:=id I.loc
  obtain⟨sl,hL⟩:=u.any ho I.free fun z=>(hch _ z).2.1 rfl
  exact I.step (ch:=ch) hch (fun b o hL hb hc e n=>u.keep b o e n (fun z=>(List.mem_cons.mp (I.stkSub b z)).elim hL hb) hc) (fun b o _ _ hc e n=>u.any e n hc) (fun b o hc e n=>u.free b o e n hc) (fun b o hc e=>u.there b o e hc) u.tups u.frzs u.tbls (fun m' hm=>by
    obtain⟨o',es',ep',ho',r'⟩:=hm
    rw [ho] at ho';cases ho'
    exact⟨_,es',ep',hL,r'⟩) hok hg
theorem Inv.turned {t':Nat}{it:Addr}(I:Inv X pins σ H s)(k:∀ b o,b≠it→s.heap.get? b=some o→h'.get? b=some o)(hn:H it=none)(hL:it≠X.env.locals)
    (h1:it∈X.ex∨X.s₀.heap.objs.size≤it) (h2:∀ x c,X.env.cells.lookup x=some c→c≠it) (h3:∀ p∈X.pn++pins,p.1≠it):Inv X pins σ H { s with heap:=h',toks:=t' }:=by
  have nit:∀ b u,H b=some u→b≠it:=fun b u e z=>by rw [z,hn] at e;cases e
  refine I.step (g':=s.gens) (d':=s.drawn) (ch:=[it]) (fun b hb => ?_) (fun b o _ _ hc e _=>k b o (fun z=>hc (by simp [z])) e) (fun b o _ _ hc e _=>⟨o.slots,k b o (fun z=>hc (by simp [z])) e⟩) (fun _ _ _ _ n=>n)
    (fun b o hc e=>⟨o,k b o (fun z=>hc (by simp [z])) e⟩) (fun _ _ e=>e) (fun _ _ _ e=>e) (fun b ps e=>⟨#[],by rw [e];simp⟩) (fun m hm => ?_) (fun b u e => ?_) I.bare
  · have e:b=it:=by simpa using hb
    subst e
    exact⟨h1,hL,h2,h3⟩
  · obtain⟨o,es,ep,ho,r⟩:=hm
    exact⟨o,es,ep,k _ o (Ne.symm hL) ho,r⟩
  · refine (I.hok b u e).stay (fun c v hc q=>k c v ?_ q) (fun _ q=>q) fun _ _ q=>q
    rcases hc with z|z
    · rw [z];exact nit b u e
    · exact nit c _ z
theorem Inv.tok (I:Inv X pins σ H s)(t:Nat):Inv X pins σ H { s with toks:=t }:=I.un (h':=s.heap) (t':=t) Un.refl I.hok
theorem Inv.kept {t':Nat}(I:Inv X pins σ H s)(k:∀ b u,s.heap.get? b=some u→h'.get? b=some u):Inv X pins σ H { s with heap:=h',toks:=t' }:=I.un (Un.kept k) (I.hok.kept k)
theorem Inv.laid {a:Addr}{o:HO}{t':Nat}(I:Inv X pins σ H s)(k:∀ b u,s.heap.get? b=some u→h'.get? b=some u)(hp:s.heap.objs.size≤a)(new:cB X.prog X.w (upd H a o) h' a o) :
    Inv X pins σ (upd H a o) { s with heap:=h',toks:=t' }:=I.un (Un.laid k hp (I.hok.fresh hp)) (I.hok.laid k hp new)
theorem Inv.write {x e:Addr}{o:HO}{t':Nat}(I:Inv X pins σ H s)(mu:Mut (H x))(he:e=x∨H e=some (.own x))(k:∀ b u,b≠e→s.heap.get? b=some u→h'.get? b=some u)(heo:∃ u,h'.get? e=some u)
    (new:cB X.prog X.w (upd H x o) h' x o):Inv X pins σ (upd H x o) { s with heap:=h',toks:=t' }:=I.un (Un.write mu he k heo) (I.hok.write mu he k heo new)
theorem Inv.pins_of {pins':List (Addr × Obj)}(I:Inv X pins σ H s)(h:∀ p∈pins',s.heap.get? p.1=some p.2∧H p.1=none∧p.1≠X.env.locals∧p.1∉X.fs ∧ ∀ v,p.2.data ≠ .cell v):Inv X pins' σ H s :=
  ⟨I.ok,I.os,I.bare,I.base,I.loc,I.cell,I.free,I.freeC,fun p hp=>(List.mem_append.mp hp).elim (fun z=>I.pin p (List.mem_append_left _ z)) (h p),I.hok,I.len⟩
theorem lG {N:List Str}(hN:N.Nodup){i j:Nat}{x:Str}(a:N[i]? = some x)(b:N[j]? = some x):i=j:=by
  obtain⟨h1,e1⟩:=List.getElem?_eq_some_iff.mp a
  obtain⟨h2,e2⟩:=List.getElem?_eq_some_iff.mp b
  exact (List.getElem_inj hN).mp (e1.trans e2.symm)
theorem pJ {M:Model}{A:Around}{E:Value→Shared→Prop}{i:Nat}{x:Str}{v:V}{u:Value}{Q:Unit→Shared→Prop}(I:Inv X pins σ H s)(hN:X.N.Nodup)(hi:X.N[i]? = some x)(hx:Loc X.env.scope x)(r:bf v u)
    (h:∀ s',Inv X pins (σ.set i (some v)) H s'→(∃ a,Heap.SameBut a s.heap s'.heap∧(a=X.env.locals∨X.env.cells.lookup x=some a))→Q () s') (hf:X.fn x=true∨X.env.scope.names.lookup x=some .local:=by first|exact .inl rfl|exact .inr rfl|assumption):wpAny M A (storeName X.env x u) Q E s:=by
  obtain⟨m,hn,hl⟩:=id I.loc
  have hcls:(X.env.scope.kind == .class || (X.env.scope.kind == .module && X.env.locals != X.env.globals))=false:=by rw [I.ok.kind];rfl
  have hiσ:i < σ.length:=by rw [I.len];exact (List.getElem?_eq_some_iff.mp hi).1
  have cne:=I.cne
  have tracked:∀ {a:Addr} {h':Heap},(∃ o,s.heap.get? a=some o∧H a=none)→Heap.SameBut a s.heap h'→HOk X.prog X.w H h':=fun {a h'} ha hs b ob e=>by
    obtain⟨_,_,hfree⟩:=ha
    refine (I.hok b ob e).stay (fun c w' hc q=>(hs.2 c ?_).trans q) (fun _ q=>q) fun _ _ q=>q
    rintro rfl
    rcases hc with rfl|hc
    · rw [hfree] at e;cases e
    · rw [hfree] at hc;cases hc
  rcases hx with hk|hk
  · refine wpAny_storeName_local hk hn (fun h' hn' hs => ?_) hcls
    obtain⟨oL,_,_,hoL,_⟩:=id hn
    refine h _ ⟨I.ok,I.os,I.bare,⟨fun b o e n hb hx => ?_,fun b o e n hb hx => ?_,I.base.free,fun b o e hx => ?_,I.base.tups,I.base.frzs,I.base.tbls⟩,⟨_,hn',fun j y v' e1 e2 e3 => ?_⟩,fun y c e => ?_,I.free,I.freeC,fun p hp => ?_,tracked ⟨oL,hoL,I.free⟩ hs,by simpa using I.len⟩ ⟨_,hs,.inl rfl⟩
    · exact (hs.2 b (Nat.ne_of_lt (Nat.lt_of_lt_of_le (Heap.lt_size e) I.ok.above))).trans (I.base.keep b o e n hb hx)
    · obtain⟨sl,e1⟩:=I.base.slot b o e n hb hx
      exact⟨sl,(hs.2 b (Nat.ne_of_lt (Nat.lt_of_lt_of_le (Heap.lt_size e) I.ok.above))).trans e1⟩
    · obtain⟨o',e1⟩:=I.base.there b o e hx
      exact⟨o',(hs.2 b (Nat.ne_of_lt (Nat.lt_of_lt_of_le (Heap.lt_size e) I.ok.above))).trans e1⟩
    · by_cases hj:j=i
      · subst hj
        rw [hi] at e1;cases e1
        rw [List.getElem?_set_self hiσ] at e2
        cases e2
        exact⟨u,r,.inl ⟨hk,by simp⟩⟩
      · rw [List.getElem?_set_ne (Ne.symm hj)] at e2
        obtain⟨u',r',q⟩:=hl j y v' e1 e2 e3
        refine⟨u',r',?_⟩
        rcases q with ⟨k,e⟩|⟨k,c,e,z⟩
        · refine .inl ⟨k,?_⟩
          have:y≠x:=fun e=>hj (lG hN e1 (e ▸ hi))
          simp [this,e]
        · exact .inr ⟨k,c,e,z.sameBut hs (cne y c e)⟩
    · obtain⟨w',z⟩:=I.cell y c e
      exact⟨w',z.sameBut hs (cne y c e)⟩
    · obtain⟨e,n,ne,nf,d⟩:=I.pin p hp
      exact⟨(hs.2 p.1 ne).trans e,n,ne,nf,d⟩
  · have hfn:X.fn x=true:=by
      rcases hf with z|z
      · exact z
      · rw [z] at hk;cases hk
    obtain⟨c,hc⟩:=I.ok.has x (.inl hk)
    obtain⟨w',z⟩:=I.cell x c hc
    refine wpAny_storeName_cell I.ok.kind hk hc z (fun h' hc' hs => ?_)
    obtain⟨oc,hoc,hocd⟩:=id z
    refine h { s with heap:=h' } ⟨I.ok,I.os,I.bare,⟨fun b o e n hb hx => ?_,fun b o e n hb hx => ?_,I.base.free,fun b o e hx => ?_,I.base.tups,I.base.frzs,I.base.tbls⟩,⟨m,hn.sameBut hs (Ne.symm (cne x c hc)),fun j y v' e1 e2 e3 => ?_⟩,fun y c' e => ?_,I.free,I.freeC,fun p hp => ?_,tracked ⟨oc,hoc,I.freeC x c hc⟩ hs,by simpa using I.len⟩ ⟨c,hs,.inr hc⟩
    · exact (hs.2 b (Nat.ne_of_lt (Nat.lt_of_lt_of_le (Heap.lt_size e) (I.ok.cab x c hfn hc)))).trans (I.base.keep b o e n hb hx)
    · obtain⟨sl,e1⟩:=I.base.slot b o e n hb hx
      exact⟨sl,(hs.2 b (Nat.ne_of_lt (Nat.lt_of_lt_of_le (Heap.lt_size e) (I.ok.cab x c hfn hc)))).trans e1⟩
    · obtain⟨o',e1⟩:=I.base.there b o e hx
      exact⟨o',(hs.2 b (Nat.ne_of_lt (Nat.lt_of_lt_of_le (Heap.lt_size e) (I.ok.cab x c hfn hc)))).trans e1⟩
    · by_cases hj:j=i
      · subst hj
        rw [hi] at e1;cases e1
        rw [List.getElem?_set_self hiσ] at e2
        cases e2
        exact⟨u,r,.inr ⟨.inl hk,c,hc,hc'⟩⟩
      · rw [List.getElem?_set_ne (Ne.symm hj)] at e2
        obtain⟨u',r',q⟩:=hl j y v' e1 e2 e3
        refine⟨u',r',?_⟩
        rcases q with q|⟨k,c',e,z'⟩
        · exact .inl q
        · refine .inr ⟨k,c',e,z'.sameBut hs ?_⟩
          rintro rfl
          exact hj (lG hN e1 (I.ok.inj _ _ _ e hc ▸ hi))
    · by_cases hcc:c'=c
      · subst hcc;exact⟨_,hc'⟩
      · obtain⟨w2,z2⟩:=I.cell y c' e
        exact⟨w2,z2.sameBut hs hcc⟩
    · obtain⟨e,n,ne,nf,d⟩:=I.pin p hp
      refine⟨(hs.2 p.1 ?_).trans e,n,ne,nf,d⟩
      intro q
      rw [q,hoc] at e
      have q':oc=p.2:=Option.some.inj e
      exact d w' (by rw [← q'];exact hocd)
theorem lH {M:Model}{A:Around}{E:Value→Shared→Prop}{i:Nat}{x:Str}{v:V}{u:Value}{Q:Unit→Shared→Prop}(I:Inv X pins σ H s)(hN:X.N.Nodup)(hi:X.N[i]? = some x)(hx:Loc X.env.scope x)(r:bf v u)
    (h:∀ s',Inv X pins (σ.set i (some v)) H s'→Q () s') (hf:X.fn x=true∨X.env.scope.names.lookup x=some .local:=by first|exact .inl rfl|exact .inr rfl|assumption):wpAny M A (storeName X.env x u) Q E s :=
  pJ I hN hi hx r (fun s' I' _=>h s' I') hf
theorem Inv.call' {s':Shared}{ch:List Addr}(I:Inv X pins σ H s)(ho:s'.os=s.os)(u:Un (frs X.stack) ch H H' s.heap s'.heap)(hok:HOk X.prog X.w H' s'.heap)(hg:AllBare s'.gens)
    (hch:∀ b∈ch,(b∈X.ex∨X.s₀.heap.objs.size≤b)∧b≠X.env.locals∧(∀ x c,X.env.cells.lookup x=some c→c≠b) ∧ ∀ p∈X.pn++pins,p.1≠b):Inv X pins σ H' s':=by
  obtain⟨h',g',d',t',o'⟩:=s'
  have e:o'=s.os:=ho
  subst e
  exact I.call (g':=g') (t':=t') (d':=d') u hok hg hch
end
abbrev XK:=Value→Option Addr→Hp→Prop
abbrev St:=List (Option V)
abbrev VK:=V→Hp→Prop
abbrev TE:=St→Hp→VK→Prop
abbrev TT:=St→Hp→(Bool→Hp→Prop)→Prop
abbrev TA:=St→Hp→(List V→Hp→Prop)→Prop
structure lI where
  nx:St→Hp→Prop
  rt:VK
  bk:St→Hp→Prop:=fun _ _=>False
  ct:St→Hp→Prop:=fun _ _=>False
abbrev TS:=lI→St→Hp→Prop
def EP (X:Cx) (pins:List (Addr × Obj)) (σ:St) (Q:VK) (u:Value) (s':Shared):Prop:=∃ v H',Inv X pins σ H' s'∧bf v u∧Q v H'
def TP (X:Cx) (pins:List (Addr × Obj)) (σ:St) (Q:Bool→Hp→Prop) (b:Bool) (s':Shared):Prop:=∃ H',Inv X pins σ H' s'∧Q b H'
def AP (X:Cx) (pins:List (Addr × Obj)) (σ:St) (Q:List V→Hp→Prop) (us:List Value) (s':Shared):Prop:=∃ vs H',Inv X pins σ H' s'∧aL vs us∧Q vs H'
def SP (X:Cx) (pins:List (Addr × Obj)) (D:lI) (f:Flow) (s':Shared):Prop :=
  match f with
  | .next=>∃ σ' H',Inv X pins σ' H' s'∧D.nx σ' H'
  | .brk=>∃ σ' H',Inv X pins σ' H' s'∧D.bk σ' H'
  | .cont=>∃ σ' H',Inv X pins σ' H' s'∧D.ct σ' H'
  | .ret u=>∃ v σ' H',Inv X pins σ' H' s'∧bf v u∧D.rt v H'
def PE (X:Cx) (e:Expr) (t:TE):Prop :=
  ∀ (pins:List (Addr × Obj)) (s:Shared) (σ:St) (H:Hp) (Q:VK),Inv X pins σ H s→t σ H Q→wpAny (model X.prog X.w) X.A (eval e X.env) (EP X pins σ Q) X.xe s
def PT (X:Cx) (e:Expr) (t:TT):Prop :=
  ∀ (pins:List (Addr × Obj)) (s:Shared) (σ:St) (H:Hp) (Q:Bool→Hp→Prop),Inv X pins σ H s→t σ H Q→wpAny (model X.prog X.w) X.A (isTrue e X.env (eval e X.env)) (TP X pins σ Q) X.xe s
def PW (X:Cx) (e:Expr) (t:TT):Prop :=
  ∀ (whole:Sem Value) (pins:List (Addr × Obj)) (s:Shared) (σ:St) (H:Hp) (Q:Bool→Hp→Prop),Inv X pins σ H s→t σ H Q→wpAny (model X.prog X.w) X.A (isTrue e X.env whole) (TP X pins σ Q) X.xe s
theorem PW.pt {X:Cx}{e:Expr}{t:TT}(h:PW X e t):PT X e t:=h _
def PA (X:Cx) (es:List Expr) (t:TA):Prop :=
  ∀ (pos:Pos) (pins:List (Addr × Obj)) (s:Shared) (σ:St) (H:Hp) (Q:List V→Hp→Prop),Inv X pins σ H s→t σ H Q→wpAny (model X.prog X.w) X.A (spliced (backTo pos (starEach es X.env))) (AP X pins σ Q) X.xe s
def PS (X:Cx) (st:Stmt) (t:TS):Prop :=
  ∀ (pins:List (Addr × Obj)) (s:Shared) (σ:St) (H:Hp) (D:lI),Inv X pins σ H s→t D σ H→wpAny (model X.prog X.w) X.A (exec st X.env) (SP X pins D) X.xe s
def PSs (X:Cx) (st:List Stmt) (t:TS):Prop :=
  ∀ (pins:List (Addr × Obj)) (s:Shared) (σ:St) (H:Hp) (D:lI),Inv X pins σ H s→t D σ H→wpAny (model X.prog X.w) X.A (execs st X.env) (SP X pins D) X.xe s
theorem thn {α : Type}{t:Sem α}{Q Q' : α → Shared→Prop}{M:Model}{A:Around}{E:Value→Shared→Prop}{s:Shared}(h:wpAny M A t Q E s)(hQ:∀ a s,Q a s→Q' a s):wpAny M A t Q' E s:=wpAny_mono h hQ fun _ _ x=>x
end L2
namespace L2
open PySem PySem.Spec PyProof.Rows
section
variable {X:Cx}
def Fa (i:Nat):TE:=fun σ H Q=>∃ v,σ[i]? = some (some v)∧Q v H
def tC (v:V):TE:=fun _ H Q=>Q v H
theorem CA {i:Nat} {x:Str} {pos:Pos} (hN:X.N[i]? = some x) (hv:Vis X.env.scope x) (hd:(x == ("__debug__" : Str))=false:=by decide) (hcd:(x == ("__classdict__" : Str))=false:=by decide):PE X (.Name x pos) (Fa i):=by
  intro pins s σ H Q I h
  obtain⟨v,e,h⟩:=h
  obtain⟨m,hn,hl⟩:=I.loc
  obtain⟨u,r,l⟩:=hl i x v hN e hv
  have fin:EP X pins σ Q u s:=⟨v,H,I,r,h⟩
  rcases l with ⟨hk,hm⟩|⟨hk,c,hc,hcell⟩
  · exact wpAny_Name (wpAny_loadName_local I.ok.kind hk hn hm fin) hd
  · rcases hk with hk|hk
    · exact wpAny_Name (wpAny_loadName_cell I.ok.kind hk hc hcell fin) hd
    · exact wpAny_Name (wpAny_loadName_free I.ok.kind hk hc hcell fin hcd) hd
theorem yX {i j pos}:PE X (.Constant (.int i) j pos) (tC (.int i)):=fun _ _ _ H _ I h=>wpAny_Constant_int ⟨.int i,H,I.tok _,⟨_,rfl⟩,h⟩
theorem Ec {b j pos}:PE X (.Constant (.bool b) j pos) (tC (.bl b)):=fun _ _ _ H _ I h=>Constant_bool ⟨.bl b,H,I,rfl,h⟩
theorem CB {j pos}:PE X (.Constant .none j pos) (tC .non):=fun _ _ _ H _ I h=>Constant_none ⟨.non,H,I,rfl,h⟩
theorem vg {x j pos}:PE X (.Constant (.str x) j pos) (tC (.str x)):=fun _ _ _ H _ I h=>Calls.Constant_str ⟨.str x,H,I.tok _,⟨_,rfl⟩,h⟩
def Gl (X:Cx) (x:Str):Prop:=X.env.kindOf x=some .globalImplicit
theorem lm {E:Value→Shared→Prop}{pins:List (Addr × Obj)}{s:Shared}{σ:St}{H:Hp}{x:Str}{u:Value}{pos:Pos}{Q:Value→Shared→Prop}(I:Inv X pins σ H s)(hg:Gl X x)(hm:X.mg x=some u)(h:Q u s)
    (hd:(x == ("__debug__" : Str))=false:=by decide):wpAny (model X.prog X.w) X.A (eval (.Name x pos) X.env) Q E s :=
  Calls.Name_function_global I.ok.kind hg (Calls.loadGlobal_global (by rw [I.ok.glob];exact I.mod.glob.keeps I.bk) hm h) hd
theorem lJ {E:Value→Shared→Prop}{pins:List (Addr × Obj)}{s:Shared}{σ:St}{H:Hp}{x:Str}{u:Value}{pos:Pos}{Q:Value→Shared→Prop}(I:Inv X pins σ H s)(hg:Gl X x)(hm:X.mg x=none)(hv:bootBuiltins x=some u)(h:Q u s)
    (hn:x ≠ "__name__" := by decide) (hd:(x == ("__debug__" : Str))=false:=by decide):wpAny (model X.prog X.w) X.A (eval (.Name x pos) X.env) Q E s:=by
  obtain⟨mb,h1,h2⟩:=I.mod.blt
  exact Calls.Name_function_global I.ok.kind hg (Calls.loadGlobal_builtin (by rw [I.ok.glob];exact I.mod.glob.keeps I.bk) hm (by rw [I.ok.blt];exact h1.keeps I.bk) ((h2 x hn).trans hv) h) hd
theorem qo {x:Str} {v:V} {u:Value} {pos:Pos} (hg:Gl X x) (hm:X.mg x=some u) (r:bf v u) (hd:(x == ("__debug__" : Str))=false:=by decide):PE X (.Name x pos) (tC v) :=
  fun _ _ _ H _ I h=>lm I hg hm ⟨v,H,I,r,h⟩ hd
theorem wL {x:Str} {v:V} {u:Value} {pos:Pos} (hg:Gl X x) (hm:X.mg x=none) (hv:bootBuiltins x=some u) (r:bf v u) (hn:x ≠ "__name__" := by decide) (hd:(x == ("__debug__" : Str))=false:=by decide):PE X (.Name x pos) (tC v) :=
  fun _ _ _ H _ I h=>lJ I hg hm hv ⟨v,H,I,r,h⟩ hn hd
variable {a b:Expr} {ta tb:TE} {pos:Pos}
def tB (t:TE):TT:=fun σ H Q=>t σ H fun x H1=>∃ c,x=.bl c∧Q c H1
theorem CC {e:Expr}{t:TE}(h:PE X e t)(he:∀ whole,isTrue e X.env whole=(do let v ← whole;standAt e.pos;holding [v] (truthy v)):=by intro _;rfl):PT X e (tB t):=by
  intro pins s σ H Q I hw
  refine isTrue_plain (thn (h pins s σ H _ I hw) fun v s1 ⟨x,H1,I1,r1,q1⟩ => ?_) (he _)
  obtain⟨d,rfl,q⟩:=q1
  cases r1
  exact wpAny_truthy_bool ⟨H1,I1,q⟩
variable {tA tB':TT} {rest:List Expr}
def gO (t u:TT):TT:=fun σ H Q=>t σ H fun c H1=>if c=true then u σ H1 Q else Q false H1
def tOr (t u:TT):TT:=fun σ H Q=>t σ H fun c H1=>if c=true then Q true H1 else u σ H1 Q
def bD (t:TT):TT:=fun σ H Q=>t σ H fun c H1=>Q (!c) H1
theorem AV (ha:PT X a tA):PW X (.BoolOp .And [a] pos) tA:=by
  intro wh pins s σ H Q I h
  refine isTrue_and (thn (ha pins s σ H Q I h) fun c s1 e => ?_)
  cases c with
  | true=>exact isTrue_and_nil e
  | false=>exact e
theorem CF (ha:PT X a tA):PW X (.BoolOp .Or [a] pos) tA:=by
  intro wh pins s σ H Q I h
  refine isTrue_or (thn (ha pins s σ H Q I h) fun c s1 e => ?_)
  cases c with
  | false=>exact isTrue_or_nil e
  | true=>exact e
theorem CG (ha:PT X a tA)(hb:PW X (.BoolOp .And (b :: rest) pos) tB'):PW X (.BoolOp .And (a :: b :: rest) pos) (gO tA tB'):=by
  intro wh pins s σ H Q I h
  refine isTrue_and (thn (ha pins s σ H _ I h) fun c s1 ⟨H1,I1,q1⟩ => ?_)
  cases c with
  | true=>exact hb wh pins s1 σ H1 Q I1 q1
  | false=>exact⟨H1,I1,q1⟩
theorem Ed (ha:PT X a tA)(hb:PW X (.BoolOp .Or (b :: rest) pos) tB'):PW X (.BoolOp .Or (a :: b :: rest) pos) (tOr tA tB'):=by
  intro wh pins s σ H Q I h
  refine isTrue_or (thn (ha pins s σ H _ I h) fun c s1 ⟨H1,I1,q1⟩ => ?_)
  cases c with
  | true=>exact⟨H1,I1,q1⟩
  | false=>exact hb wh pins s1 σ H1 Q I1 q1
theorem CH (ha:PT X a tA):PT X (.UnaryOp .Not a pos) (bD tA):=by
  intro pins s σ H Q I h
  exact isTrue_not (ha pins s σ H (fun c H1=>Q (!c) H1) I h)
def Ee (ta tb:TE):TE:=fun σ H Q=>ta σ H fun x H1=>∃ c,x=.bl c∧if c=true then tb σ H1 Q else Q (.bl false) H1
def Fb (ta tb:TE):TE:=fun σ H Q=>ta σ H fun x H1=>∃ c,x=.bl c∧if c=true then Q (.bl true) H1 else tb σ H1 Q
def Ef (ta:TE):TE:=fun σ H Q=>ta σ H fun x H1=>∃ c,x=.bl c∧Q (.bl (!c)) H1
theorem CJ {op}{t:TE}(h:PE X a t):PE X (.BoolOp op [a] pos) t:=fun pins s σ H Q I hw=>BoolOp_one (h pins s σ H Q I hw)
theorem CK (ha:PE X a ta)(hb:PE X (.BoolOp .And (b :: rest) pos) tb):PE X (.BoolOp .And (a :: b :: rest) pos) (Ee ta tb):=by
  intro pins s σ H Q I h
  refine BoolOp_and (thn (ha pins s σ H _ I h) fun v s1 ⟨x,H1,I1,r1,q1⟩ => ?_)
  obtain⟨c,rfl,q1⟩:=q1
  cases r1
  refine wpAny_truthy_bool ?_
  cases c with
  | true=>exact hb pins s1 σ H1 Q I1 q1
  | false=>exact⟨.bl false,H1,I1,rfl,q1⟩
theorem Eg (ha:PE X a ta)(hb:PE X (.BoolOp .Or (b :: rest) pos) tb):PE X (.BoolOp .Or (a :: b :: rest) pos) (Fb ta tb):=by
  intro pins s σ H Q I h
  refine BoolOp_or (thn (ha pins s σ H _ I h) fun v s1 ⟨x,H1,I1,r1,q1⟩ => ?_)
  obtain⟨c,rfl,q1⟩:=q1
  cases r1
  refine wpAny_truthy_bool ?_
  cases c with
  | false=>exact hb pins s1 σ H1 Q I1 q1
  | true=>exact⟨.bl true,H1,I1,rfl,q1⟩
theorem CL (ha:PE X a ta):PE X (.UnaryOp .Not a pos) (Ef ta):=by
  intro pins s σ H Q I h
  refine UnaryOp_ (thn (ha pins s σ H _ I h) fun v s1 ⟨x,H1,I1,r1,q1⟩ => ?_)
  obtain⟨c,rfl,q1⟩:=q1
  cases r1
  exact not_of (wpAny_truthy_bool ⟨.bl (!c),H1,I1,rfl,q1⟩)
end
end L2
namespace L2
open PySem PySem.Spec PyProof.Rows
def SqL (K:PySem.W.Frag) (H:Hp) (a:Addr) (xs:List V):Prop :=
  Rd H a (.lst xs) ∨
    ∃ (o:Obj) (its:Array Value) (n:Nat),K.lookup a=some o∧o.cls=.type "list" ∧ o.dict=none∧o.data=.seq its n∧its.size≤sizeLine∧aL xs its.toList
def SqT (K:PySem.W.Frag) (H:Hp) (a:Addr) (xs:List V):Prop :=
  Rd H a (.tup xs) ∨
    ∃ (o:Obj) (its:Array Value) (n:Nat),K.lookup a=some o∧o.cls=.type "tuple" ∧ o.data=.seq its n∧its.size≤sizeLine∧aL xs its.toList
def Fc:Value→Option V
  | .none=>some .non
  | .bool b=>some (.bl b)
  | .int i _=>some (.int i)
  | .str x _=>some (.str x)
  | .bytes b _=>some (.byt b)
  | .float b _=>some (.flt b)
  | .ref a=>some (.ref a)
  | .type n=>some (.ty n)
  | _=>none
theorem bf.abs {x:V}{u:Value}(r:bf x u):Fc u=some x:=by
  cases x with
  | non=>cases r;rfl
  | bl _=>cases r;rfl
  | int _=>obtain⟨t,rfl⟩:=r;rfl
  | str _=>obtain⟨t,rfl⟩:=r;rfl
  | byt _=>obtain⟨t,rfl⟩:=r;rfl
  | flt _=>obtain⟨t,rfl⟩:=r;rfl
  | ref _=>cases r;rfl
  | ty _=>cases r;rfl
theorem bf.inj {x y:V}{u:Value}(r:bf x u)(q:bf y u):x=y:=Option.some.inj (r.abs.symm.trans q.abs)
theorem aL.inj:∀ {xs ys:List V} {us:List Value},aL xs us→aL ys us→xs=ys
  | _,_,_,.nil,.nil=>rfl
  | _,_,_,.cons r t,.cons r' t'=>by rw [r.inj r',aL.inj t t']
section
variable {X:Cx} {pins:List (Addr × Obj)} {σ:St} {H:Hp} {s:Shared} {a:Addr} {xs ys:List V}
theorem SqL.of {K:PySem.W.Frag}(h:H a=some (.lst xs)):SqL K H a xs:=.inl (.inl h)
theorem SqT.of {K:PySem.W.Frag}(h:H a=some (.tup xs)):SqT K H a xs:=.inl (.inl h)
theorem Inv.list (I:Inv X pins σ H s)(h:SqL X.K H a xs):∃ its:List Value,aL xs its∧PlainL s.heap a its.toArray∧xs.length≤sizeLine:=by
  rcases h with h|⟨o,its,n,hk,hc,hd,hs,hz,r⟩
  · obtain⟨z,its,n,r,e⟩:=h.ok I.hok
    exact⟨its,r,⟨_,n,e,rfl,rfl,rfl⟩,z⟩
  · refine⟨its.toList,r,⟨o,n,I.kIn a o hk,hc,hd,by simpa using hs⟩,?_⟩
    have e:=r.length
    simp only [Array.length_toList] at e
    omega
theorem Inv.tuple (I:Inv X pins σ H s)(h:SqT X.K H a xs):∃ its:List Value,aL xs its∧IsTup s.heap a its.toArray∧xs.length≤sizeLine:=by
  rcases h with h|⟨o,its,n,hk,hc,hs,hz,r⟩
  · obtain⟨z,its,r,p⟩:=h.ok I.hok
    exact⟨its,r,p,z⟩
  · refine⟨its.toList,r,⟨o,I.kIn a o hk,hc,n,by simpa using hs⟩,?_⟩
    have e:=r.length
    simp only [Array.length_toList] at e
    omega
theorem Inv.list_inj (I:Inv X pins σ H s)(h:SqL X.K H a xs)(h':SqL X.K H a ys):xs=ys:=by
  obtain⟨its,r,⟨o,n,e,_,_,d⟩,_⟩:=I.list h
  obtain⟨its',r',⟨o',n',e',_,_,d'⟩,_⟩:=I.list h'
  rw [e] at e';cases e'
  rw [d] at d'
  injection d' with d1 _
  have:its=its':=by simpa using congrArg Array.toList d1
  subst this
  exact r.inj r'
theorem Inv.tuple_inj (I:Inv X pins σ H s)(h:SqT X.K H a xs)(h':SqT X.K H a ys):xs=ys:=by
  obtain⟨its,r,⟨o,e,_,n,d⟩,_⟩:=I.tuple h
  obtain⟨its',r',⟨o',e',_,n',d'⟩,_⟩:=I.tuple h'
  rw [e] at e';cases e'
  rw [d] at d'
  injection d' with d1 _
  have:its=its':=by simpa using congrArg Array.toList d1
  subst this
  exact r.inj r'
end
abbrev Cx.wish (X:Cx) (E:Value→Shared→Prop):Cx:={ X with xe:=E }
abbrev Cx.nox (X:Cx):Cx:=X.wish fun _ _=>False
theorem Cx.Ok.wish {X:Cx}(ok:X.Ok)(E:Value→Shared→Prop):(X.wish E).Ok :=
  ⟨ok.mod,ok.kind,ok.glob,ok.blt,ok.above,ok.inj,ok.has,ok.cab,ok.hd,ok.frames,ok.stk,ok.exf,ok.bs,ok.bsz,ok.noex,ok.exfs,ok.funs,ok.frf⟩
theorem Cx.Ok.unwish {X:Cx}{E:Value→Shared→Prop}(ok:(X.wish E).Ok):X.Ok :=
  ⟨ok.mod,ok.kind,ok.glob,ok.blt,ok.above,ok.inj,ok.has,ok.cab,ok.hd,ok.frames,ok.stk,ok.exf,ok.bs,ok.bsz,ok.noex,ok.exfs,ok.funs,ok.frf⟩
section
variable {X:Cx} {pins:List (Addr × Obj)} {σ:St} {H:Hp} {s:Shared} {E:Value→Shared→Prop}
theorem Inv.wish (I:Inv X pins σ H s)(E:Value→Shared→Prop):Inv (X.wish E) pins σ H s:=⟨I.ok.wish E,I.os,I.bare,I.base,I.loc,I.cell,I.free,I.freeC,I.pin,I.hok,I.len⟩
theorem Inv.unwish (I:Inv (X.wish E) pins σ H s):Inv X pins σ H s:=⟨I.ok.unwish,I.os,I.bare,I.base,I.loc,I.cell,I.free,I.freeC,I.pin,I.hok,I.len⟩
theorem SP.unwish {D:lI}{f:Flow}{s':Shared}(h:SP (X.wish E) pins D f s'):SP X pins D f s':=by
  cases f with
  | next=>obtain⟨σ',H',I,q⟩:=h;exact⟨σ',H',I.unwish,q⟩
  | brk=>obtain⟨σ',H',I,q⟩:=h;exact⟨σ',H',I.unwish,q⟩
  | cont=>obtain⟨σ',H',I,q⟩:=h;exact⟨σ',H',I.unwish,q⟩
  | ret u=>obtain⟨v,σ',H',I,r,q⟩:=h;exact⟨v,σ',H',I.unwish,r,q⟩
theorem PSs.nox {st:List Stmt}{t:TS}(h:PSs X.nox st t):PSs X st t:=fun pins s σ H D I hw =>
  wpAny_mono (h pins s σ H D (I.wish _) hw) (fun _ _ q=>q.unwish) fun _ _ z=>False.elim z
end
section
variable {X:Cx} {st:Stmt} {rest:List Stmt} {t u:TS} {e:Expr} {te:TE} {pos:Pos}
def Eh:TS:=fun D σ H=>D.nx σ H
def Fd (t u:TS):TS:=fun D σ H=>t { D with nx:=u D } σ H
theorem qp:PSs X [] Eh:=fun _ _ σ H _ I h=>wpAny_execs_nil ⟨σ,H,I,h⟩
theorem tM (h1:PS X st t)(h2:PSs X rest u):PSs X (st :: rest) (Fd t u):=by
  intro pins s σ H D I h
  refine wpAny_execs_cons (thn (h1 pins s σ H { D with nx:=u D } I h) fun f s1 q => ?_)
  cases f with
  | next =>
    obtain⟨σ',H',I',q⟩:=q
    exact h2 pins s1 σ' H' D I' q
  | ret v=>exact q
  | brk=>exact q
  | cont=>exact q
theorem qq (h1:PS X st t):PSs X [st] t:=by
  intro pins s σ H D I h
  refine wpAny_execs_cons (thn (h1 pins s σ H D I h) fun f s1 q => ?_)
  cases f with
  | next=>exact wpAny_execs_nil q
  | ret v=>exact q
  | brk=>exact q
  | cont=>exact q
theorem Inv.quiet {pins:List (Addr × Obj)}{σ:St}{H:Hp}{s:Shared}(I:Inv X pins σ H s):interactive X.env=false:=by simp [interactive,I.ok.kind]
def Ei (te:TE):TS:=fun D σ H=>te σ H fun _ H1=>D.nx σ H1
theorem wM (he:PE X e te)(hs:swapsWith e none pos.line X.env=pure false:=by rfl):PS X (.Expr e pos) (Ei te):=by
  intro pins s σ H D I h
  exact wpAny_Expr_any (thn (he pins s σ H _ I h) fun v s1 ⟨x,H1,I1,r1,q1⟩=>⟨σ,H1,I1,q1⟩) I.quiet hs
def Fe (te:TE):TS:=fun D σ H=>te σ H D.rt
theorem CM (he:PE X e te):PS X (.Return (some e) pos) (Fe te):=by
  intro pins s σ H D I h
  exact wpAny_Return_some (thn (he pins s σ H _ I h) fun v s1 ⟨x,H1,I1,r1,q1⟩=>⟨x,σ,H1,I1,r1,q1⟩)
def Ff (c:TT) (t u:TS):TS:=fun D σ H=>c σ H fun b H1=>if b=true then t D σ H1 else u D σ H1
theorem Cf {c:Expr}{a b:List Stmt}{tc:TT}(hc:PT X c tc)(ha:PSs X a t)(hb:PSs X b u):PS X (.If c a b pos) (Ff tc t u):=by
  intro pins s σ H D I h
  refine wpAny_If (thn (hc pins s σ H _ I h) fun d s1 ⟨H1,I1,q1⟩ => ?_)
  cases d with
  | true=>exact ha pins s1 σ H1 D I1 q1
  | false=>exact hb pins s1 σ H1 D I1 q1
def CN:TS:=fun _ _ _=>False
theorem yY:PS X st CN:=fun _ _ _ _ _ _ h=>h.elim
end
abbrev TG:=V→St→Hp→(St→Hp→Prop)→Prop
abbrev TGs:=List V→St→Hp→(St→Hp→Prop)→Prop
def PG (X:Cx) (target:Expr) (t:TG):Prop :=
  ∀ (pins:List (Addr × Obj)) (s:Shared) (σ:St) (H:Hp) (v:V) (u:Value) (Q:St→Hp→Prop),Inv X pins σ H s→bf v u→t v σ H Q →
    wpAny (model X.prog X.w) X.A (assign target X.env u) (fun _ s'=>∃ σ' H',Inv X pins σ' H' s'∧Q σ' H') X.xe s
def PGs (X:Cx) (ts:List Expr) (t:TGs):Prop :=
  ∀ (pins:List (Addr × Obj)) (s:Shared) (σ:St) (H:Hp) (vs:List V) (us:List Value) (Q:St→Hp→Prop),Inv X pins σ H s→aL vs us→t vs σ H Q →
    wpAny (model X.prog X.w) X.A (assignInOrder ((assignEach ts X.env).map (·.2)) us) (fun _ s'=>∃ σ' H',Inv X pins σ' H' s'∧Q σ' H') X.xe s
abbrev CO:=V→V→V→Hp→(Hp→Prop)→Prop
def CP (X:Cx) (t:CO):Prop :=
  ∀ (pins:List (Addr × Obj)) (s:Shared) (σ:St) (H:Hp) (o i v:V) (ov iv u:Value) (Q:Hp→Prop),Inv X pins σ H s→bf o ov→bf i iv→bf v u→t o i v H Q →
    wpAny (model X.prog X.w) X.A (setItem ov iv u) (fun _ s'=>∃ H',Inv X pins σ H' s'∧Q H') X.xe s
section
variable {X:Cx} {pos:Pos}
def yZ (i:Nat):TG:=fun v σ H Q=>Q (σ.set i (some v)) H
theorem AW {i:Nat}{x:Str}(hN:X.N.Nodup)(hi:X.N[i]? = some x)(hx:Loc X.env.scope x)(hf:X.fn x=true∨X.env.scope.names.lookup x=some .local:=by first|exact .inl rfl|exact .inr rfl|assumption):PG X (.Name x pos) (yZ i):=by
  intro pins s σ H v u Q I r h
  exact wpAny_assign_Name (lH I hN hi hx r (fun s' I'=>⟨_,H,I',h⟩) hf)
def Fg:TGs:=fun vs σ H Q=>vs=[]∧Q σ H
def Ej (t:TG) (u:TGs):TGs:=fun vs σ H Q=>∃ v r,vs=v :: r∧t v σ H fun σ' H'=>u r σ' H' Q
theorem AX:PGs X [] Fg:=by
  intro pins s σ H vs us Q I r h
  obtain⟨e,h⟩:=h
  subst e
  cases r
  exact assignInOrder_nil ⟨σ,H,I,h⟩
theorem y0 {e:Expr}{es:List Expr}{t:TG}{u:TGs}(h1:PG X e t)(h2:PGs X es u)
    (hs:(assignEach (e :: es) X.env).map (·.2)=assign e X.env :: (assignEach es X.env).map (·.2):=by rfl):PGs X (e :: es) (Ej t u):=by
  intro pins s σ H vs us Q I r h
  obtain⟨v,vr,e1,h⟩:=h
  subst e1
  cases r with
  | cons r rr =>
    rw [hs]
    refine assignInOrder_cons (thn (h1 pins s σ H _ _ _ I r h) fun _ s1 ⟨σ1,H1,I1,q1⟩ => ?_)
    exact h2 pins s1 σ1 H1 _ _ Q I1 rr q1
def Fh (K:PySem.W.Frag) (n:Nat) (t:TGs):TG:=fun v σ H Q=>∃ a xs,v=.ref a∧SqT K H a xs∧xs.length=n∧t xs σ H Q
theorem CQ {es:List Expr}{k:Nat}{t:TGs}{n:Nat}(hc:X.calm=true)(h:PGs X es t)
    (hn:(assignEach es X.env).length=n:=by rfl) (hst:(assignEach es X.env).findIdx? (·.1)=none:=by rfl):PG X (.Tuple es k pos) (Fh X.K n t):=by
  intro pins s σ H v u Q I r hw
  obtain⟨a,xs,e1,hq,hl,hw⟩:=hw
  subst e1
  cases r
  obtain⟨its,rv,ht,hz⟩:=I.tuple hq
  refine assign_Tuple_tuple (I.ok.hd hc) ht (by simp [hn,← hl,rv.length]) hst fun h' hx => ?_
  have I1:Inv X pins σ H { s with heap:=h' }:=I.kept (t':=s.toks) fun b o e=>hx b o (Nat.ne_of_lt (Heap.lt_size e)) e
  exact h pins _ σ H xs _ Q I1 (by simpa using rv) hw
def Fi (to ti:TE) (t:CO):TG:=fun v σ H Q=>to σ H fun o H1=>ti σ H1 fun i H2=>t o i v H2 fun H3=>Q σ H3
theorem y3 {o i:Expr}{to ti:TE}{t:CO}(ho:PE X o to)(hi:PE X i ti)(hs:CP X t)
    (ha:∀ v,assign (.Subscript o i pos) X.env v=(do
      let ov ← holding [v] (eval o X.env)
      let iv ← holding [v,ov] (eval i X.env)
      standAt pos
      holding [v,ov,iv] (setItem ov iv v)
      release [v,ov,iv] []):=by intro _;rfl):PG X (.Subscript o i pos) (Fi to ti t):=by
  intro pins s σ H v u Q I r h
  rw [ha]
  refine wpAny_bind (wpAny_holding (thn (ho pins s σ H _ I h) fun ov s1 ⟨x,H1,I1,r1,q1⟩ => ?_))
  refine wpAny_bind (wpAny_holding (thn (hi pins s1 σ H1 _ I1 q1) fun iv s2 ⟨y,H2,I2,r2,q2⟩ => ?_))
  refine wpAny_bind (wpAny_standAt (wpAny_bind (wpAny_holding (thn (hs pins s2 σ H2 x y v ov iv u _ I2 r1 r2 r q2) fun _ s3 ⟨H3,I3,q3⟩ => ?_))))
  exact wpAny_release ⟨σ,H3,I3,q3⟩
def CS (te:TE) (g:TG):TS:=fun D σ H=>te σ H fun x H1=>g x σ H1 D.nx
theorem vh {tg e:Expr}{te:TE}{g:TG}(he:PE X e te)(hg:PG X tg g)(hs:swapsWithSole [tg] e pos.line X.env=pure false:=by rfl)(hw:swappedStores [tg] e X.env=pure none:=by rfl)
    (h1:(assignEach [tg] X.env).map (·.2)=[assign tg X.env]:=by rfl):PS X (.Assign [tg] e pos) (CS te g):=by
  intro pins s σ H D I h
  refine wpAny_Assign_stores (thn (he pins s σ H _ I h) fun v s1 ⟨x,H1,I1,r1,q1⟩ => ?_) hs hw
  rw [h1]
  exact thn (hg pins s1 σ H1 x v _ I1 r1 q1) fun _ s2 q=>q
theorem y4 {i:Nat}{x:Str}{e:Expr}{te:TE}{pos':Pos}(hN:X.N.Nodup)(hi:X.N[i]? = some x)(hx:Loc X.env.scope x)(he:PE X e te)(hs:swapsWith e (some (.Name x pos')) pos.line X.env=pure false:=by rfl)(hf:X.fn x=true∨X.env.scope.names.lookup x=some .local:=by first|exact .inl rfl|exact .inr rfl|assumption) :
    PS X (.Assign [.Name x pos'] e pos) (CS te (yZ i)):=by
  intro pins s σ H D I h
  refine wpAny_Assign_Name (thn (he pins s σ H _ I h) fun v s1 ⟨y,H1,I1,r1,q1⟩ => ?_) hs
  exact lH I1 hN hi hx r1 (fun s2 I2=>⟨_,H1,I2,q1⟩) hf
end
section
variable {X:Cx} {pos:Pos}
end
structure It where
  go:Nat→Hp→Prop
  yld:Nat→Hp→V→Hp→Prop
  stop:Nat→Hp→Prop
def nv (X:Cx) (pins:List (Addr × Obj)) (H:Hp) (b:Addr):Prop :=
  H b=none∧b≠X.env.locals∧b∉X.fs∧(b∈X.ex∨X.s₀.heap.objs.size≤b)∧(∀ x c,X.env.cells.lookup x=some c→c≠b) ∧ ∀ p∈X.pn++pins,p.1≠b
theorem Inv.fpOk {X:Cx}{pins:List (Addr × Obj)}{σ:St}{H H':Hp}{s:Shared}{b:Addr}(I:Inv X pins σ H s)(hb:s.heap.objs.size≤b)(hn:H' b=none):nv X pins H' b:=by
  refine⟨hn,Nat.ne_of_gt (Nat.lt_of_lt_of_le I.lt hb),I.nofs hb,.inr (Nat.le_trans I.sz hb),fun x c e z => ?_,fun p hp z => ?_⟩
  · obtain⟨v,q⟩:=I.cell x c e
    exact absurd (Nat.lt_of_lt_of_le q.lt (by rw [z];exact hb)) (Nat.lt_irrefl _)
  · exact absurd (Nat.lt_of_lt_of_le (Heap.lt_size (I.pin p hp).1) (by rw [z];exact hb)) (Nat.lt_irrefl _)
structure vj (P:Program) (w:World) (K:PySem.W.Frag) (tg:Expr) (J:It) (fp:List Addr) (it:Addr) (tn:Nat→Heap→Prop):Prop where
  mem:it∈fp
  obj:∀ i h,tn i h → ∀ b∈fp,∃ o,h.get? b=some o ∧ ∀ v,o.data ≠ .cell v
  keep:∀ i h h',tn i h→(∀ b∈fp,∀ o,h.get? b=some o→h'.get? b=some o)→tn i h'
  item:∀ (X:Cx),X.prog=P→X.w=w→X.K=K→X.calm=true → ∀ (i:Nat) (pins:List (Addr × Obj)) (s:Shared) (σ:St) (H:Hp) (E:Value→Shared→Prop),Inv X pins σ H s→(∀ b∈fp,nv X pins H b)→tn i s.heap→J.go i H →
    wpAny (model P w) X.A (pyNext (.ref it)) (fun r s1=>∃ u,r=some u ∧
      wpAny (model P w) X.A (letOwnedTupleGo tg (.ref it) u) (fun _ s2=>∃ x H',Inv X pins σ H' s2∧bf x u∧J.yld i H x H'∧tn (i + 1) s2.heap ∧ ∀ b∈fp,H' b=none) E s1) E s
  done:∀ (X:Cx),X.prog=P→X.w=w→X.K=K→X.calm=true → ∀ (i:Nat) (pins:List (Addr × Obj)) (s:Shared) (σ:St) (H:Hp) (E:Value→Shared→Prop),Inv X pins σ H s→(∀ b∈fp,nv X pins H b)→tn i s.heap→J.stop i H →
    wpAny (model P w) X.A (pyNext (.ref it)) (fun r s1=>r=none∧Inv X pins σ H s1) E s
  self:∀ (A:Around) (i:Nat) (s:Shared) (Q:Value→Shared→Prop) (E:Value→Shared→Prop),tn i s.heap→Q (.ref it) s→wpAny (model P w) A (pyIter (.ref it)) Q E s
abbrev TI:=St→Hp→(It→Hp→Prop)→Prop
def PIE (X:Cx) (pins:List (Addr × Obj)) (σ:St) (tg:Expr) (R:It→Hp→Prop) (itv:Value) (s2:Shared):Prop :=
  ∃ (it:Addr) (fp:List Addr) (tn:Nat→Heap→Prop) (J:It) (H':Hp),itv=.ref it∧Inv X pins σ H' s2∧vj X.prog X.w X.K tg J fp it tn∧tn 0 s2.heap∧(∀ b∈fp,nv X pins H' b)∧R J H'
def PI (X:Cx) (tg iter:Expr) (wi:TI):Prop :=
  ∀ (pins:List (Addr × Obj)) (s:Shared) (σ:St) (H:Hp) (R:It→Hp→Prop),Inv X pins σ H s→wi σ H R →
    wpAny (model X.prog X.w) X.A (eval iter X.env) (fun v s1=>wpAny (model X.prog X.w) X.A (pyIter v) (PIE X pins σ tg R) X.xe s1) X.xe s
theorem wN {M:Model}{A:Around}{E:Value→Shared→Prop}{s:Shared}{tg:Expr}{it:Addr}{u:Value}{o:Obj}{n:String}{vs:Array Value}{Q:Unit→Shared→Prop}(ho:s.heap.get? it=some o)(hc:o.cls=.type n)(hd:o.data=.fields vs)
    (hn : ["enumerate", "zip", "dict_itemiterator", "dict_reverseitemiterator", "odict_iterator", "itertools.zip_longest", "itertools.pairwise"].contains n=false) (hQ:Q () s):wpAny M A (letOwnedTupleGo tg (.ref it) u) Q E s:=by
  unfold letOwnedTupleGo
  cases tg<;>first
    | exact wpAny_pure hQ
    | (cases u<;>first
        | exact wpAny_pure hQ
        | (refine wpAny_bind (wpAny_load ho ?_)
           rw [hc,hd]
           show wpAny M A (if (["enumerate", "zip", "dict_itemiterator", "dict_reverseitemiterator", "odict_iterator", "itertools.zip_longest", "itertools.pairwise"].contains n && vs[0]? == some (rawInt _))=true then _ else _) Q E s
           rw [if_neg (by intro h;rw [hn,Bool.false_and] at h;cases h)]
           exact wpAny_pure hQ))
def Itl (K:PySem.W.Frag) (a:Addr):It :=
  ⟨fun i H=>∃ xs x,SqL K H a xs∧xs[i]? = some x,fun i H x H'=>H'=H ∧ ∀ xs,SqL K H a xs→xs[i]? = some x,fun i H=>∃ xs,SqL K H a xs∧xs.length≤i⟩
def Itt (K:PySem.W.Frag) (a:Addr):It :=
  ⟨fun i H=>∃ xs x,SqT K H a xs∧xs[i]? = some x,fun i H x H'=>H'=H ∧ ∀ xs,SqT K H a xs→xs[i]? = some x,fun i H=>∃ xs,SqT K H a xs∧xs.length≤i⟩
def Itr (lo:Int) (n:Nat):It:=⟨fun i _=>i < n,fun i H x H'=>H'=H∧x=.int (lo + i),fun i _=>n≤i⟩
theorem xC {P:Program}{w:World}{K:PySem.W.Frag}{tg:Expr}(a it:Addr):vj P w K tg (Itl K a) [it] it (fun i h=>h.IsListIter it a i) where
  mem:=by simp
  obj:=fun i h st b hb=>by
    have e:b=it:=by simpa using hb
    subst e
    obtain⟨o,e,c,d⟩:=st
    exact⟨o,e,fun v z=>by rw [d] at z;cases z⟩
  keep:=fun i h h' st k=>st.at fun o e=>k it (by simp) o e
  item:=by
    intro X hP hw hK hc i pins s σ H E I hf st hg
    subst hP hw hK
    obtain⟨xs,x,hq,hx⟩:=hg
    obtain⟨its,rv,p,hz⟩:=I.list hq
    obtain⟨u,hu,ru⟩:=rv.get hx
    obtain⟨f0,f1,f2,f3,f4,f5⟩:=hf it (by simp)
    refine wpAny_pyNext_list_item st p.isList (x:=u) (by simpa using hu) fun h' st' sb => ?_
    have I1:Inv X pins σ H { s with heap:=h' }:=I.turned (t':=s.toks) (fun b o hb e=>(sb.2 b hb).trans e) f0 f1 f3 f4 f5
    obtain⟨o,e,c,d⟩:=id st'
    exact⟨u,rfl,wN (s:={ s with heap:=h' }) e c d (by decide) ⟨x,H,I1,ru,⟨rfl,fun ys hy=>by rw [I.list_inj hy hq];exact hx⟩,st',fun b hb=>(hf b hb).1⟩⟩
  done:=by
    intro X hP hw hK hc i pins s σ H E I hf st hg
    subst hP hw hK
    obtain⟨xs,hq,hx⟩:=hg
    obtain⟨its,rv,p,hz⟩:=I.list hq
    obtain⟨f0,f1,f2,f3,f4,f5⟩:=hf it (by simp)
    have hl:=rv.length
    exact wpAny_pyNext_list_end (I.ok.hd hc) st p.isList (by simp;omega) fun h' eb=>⟨rfl,I.turned (t':=s.toks) (fun b o hb e=>eb b o hb e) f0 f1 f3 f4 f5⟩
  self:=fun _ _ _ _ _ st h=>wpAny_pyIter_listiter st h
theorem vk {P:Program}{w:World}{K:PySem.W.Frag}{tg:Expr}(a it:Addr):vj P w K tg (Itt K a) [it] it (fun i h=>h.IsTupleIter it a i) where
  mem:=by simp
  obj:=fun i h st b hb=>by
    have e:b=it:=by simpa using hb
    subst e
    obtain⟨o,e,c,d⟩:=st
    exact⟨o,e,fun v z=>by rw [d] at z;cases z⟩
  keep:=fun i h h' st k=>st.at fun o e=>k it (by simp) o e
  item:=by
    intro X hP hw hK hc i pins s σ H E I hf st hg
    subst hP hw hK
    obtain⟨xs,x,hq,hx⟩:=hg
    obtain⟨its,rv,p,hz⟩:=I.tuple hq
    obtain⟨u,hu,ru⟩:=rv.get hx
    obtain⟨f0,f1,f2,f3,f4,f5⟩:=hf it (by simp)
    refine wpAny_pyNext_tuple_item st (show s.heap.IsTuple a its.toArray from p) (x:=u) (by simpa using hu) fun h' st' sb => ?_
    have I1:Inv X pins σ H { s with heap:=h' }:=I.turned (t':=s.toks) (fun b o hb e=>(sb.2 b hb).trans e) f0 f1 f3 f4 f5
    obtain⟨o,e,c,d⟩:=id st'
    exact⟨u,rfl,wN (s:={ s with heap:=h' }) e c d (by decide) ⟨x,H,I1,ru,⟨rfl,fun ys hy=>by rw [I.tuple_inj hy hq];exact hx⟩,st',fun b hb=>(hf b hb).1⟩⟩
  done:=by
    intro X hP hw hK hc i pins s σ H E I hf st hg
    subst hP hw hK
    obtain⟨xs,hq,hx⟩:=hg
    obtain⟨its,rv,p,hz⟩:=I.tuple hq
    obtain⟨f0,f1,f2,f3,f4,f5⟩:=hf it (by simp)
    have hl:=rv.length
    exact wpAny_pyNext_tuple_end (I.ok.hd hc) st (show s.heap.IsTuple a its.toArray from p) (by simp;omega) fun h' eb=>⟨rfl,I.turned (t':=s.toks) (fun b o hb e=>eb b o hb e) f0 f1 f3 f4 f5⟩
  self:=fun _ _ _ _ _ st h=>wpAny_pyIter_tupleiter st h
theorem vm {P:Program}{w:World}{K:PySem.W.Frag}{tg:Expr}(it:Addr)(lo:Int)(n:Nat):vj P w K tg (Itr lo n) [it] it (fun i h=>IsRangeIter h it (lo + (i:Nat) * 1) ((n:Int) - (i:Nat)) 1) where
  mem:=by simp
  obj:=fun i h st b hb=>by
    have e:b=it:=by simpa using hb
    subst e
    exact⟨_,st,fun v z=>by
      have z':Data.fields _=Data.cell v:=z
      cases z'⟩
  keep:=fun i h h' st k=>k it (by simp) _ st
  item:=by
    intro X hP hw hK hc i pins s σ H E I hf st hg
    subst hP hw hK
    obtain⟨f0,f1,f2,f3,f4,f5⟩:=hf it (by simp)
    have W:=Walks.range (prog:=X.prog) (w:=X.w) (I.ok.hd hc) it lo 1 n
    refine W.item i s _ _ hg st fun v h' tk hv st' kk => ?_
    obtain⟨t,rfl⟩:=hv
    have I1:Inv X pins σ H { s with heap:=h',toks:=tk }:=I.turned (fun b o hb e=>kk b o (by simpa using hb) e) f0 f1 f3 f4 f5
    refine⟨_,rfl,wN (s:={ s with heap:=h',toks:=tk }) (n := "range_iterator") st' rfl rfl (by decide) ⟨.int (lo + i),H,I1,⟨t,?_⟩,⟨rfl,rfl⟩,st',fun b hb=>(hf b hb).1⟩⟩
    rw [Int.mul_one]
  done:=by
    intro X hP hw hK hc i pins s σ H E I hf st hg
    subst hP hw hK
    obtain⟨f0,f1,f2,f3,f4,f5⟩:=hf it (by simp)
    exact wpAny_pyNext_range_end (I.ok.hd hc) st (by have:n≤i:=hg;omega) fun h' eb=>⟨rfl,I.turned (t':=s.toks) (fun b o hb e=>eb b o hb e) f0 f1 f3 f4 f5⟩
  self:=fun _ _ _ _ _ st h=>wpAny_pyIter_rangeiter st h
end L2
namespace L2
open PySem PySem.Spec PyProof.Rows
section
variable {X:Cx} {tg:Expr}
theorem y6 {pins:List (Addr × Obj)}{σ:St}{H:Hp}{s:Shared}{R:It→Hp→Prop}{E:Value→Shared→Prop}{lo hi:Int}{t u v:Tok}{tk:Nat}(I:Inv X pins σ H s)(h1 : -(2 ^ 62)≤lo)(h2:lo < 2 ^ 62)(h3 : -(2 ^ 62)≤hi)(h4:hi < 2 ^ 62)
    (q:R (Itr lo (hi - lo).toNat) H):wpAny (model X.prog X.w) X.A (pyIter (.ref s.heap.objs.size)) (PIE X pins σ tg R) E { s with heap:=s.heap.push { cls:=.type "range",data:=.fields #[.int lo t,.int hi u,.int 1 v] },toks:=tk }:=by
  refine wpAny_pyIter_range (IsRange.new ..) (small_one h1 h2 h3 h4) ?_
  have I1:Inv X pins σ H { s with heap:=s.heap.push { cls:=.type "range",data:=.fields #[.int lo t,.int hi u,.int 1 v] },toks:=tk }:=I.kept fun b o e=>Heap.get?_push_of_some _ e
  refine⟨(s.heap.push { cls:=.type "range",data:=.fields #[.int lo t,.int hi u,.int 1 v] }).objs.size,[(s.heap.push { cls:=.type "range",data:=.fields #[.int lo t,.int hi u,.int 1 v] }).objs.size],_,_,H,rfl,
    I1.kept (t':=tk) fun b o e=>Heap.get?_push_of_some _ e,vm _ lo (hi - lo).toNat,?_,fun b hb => ?_,q⟩
  · have e1:lo + ((0:Nat):Int) * 1=lo:=by simp
    have e2:(((hi - lo).toNat:Nat):Int) - ((0:Nat):Int)=Builtin.Range.rangeSize lo hi 1:=by rw [rangeSize_one];split<;>omega
    show IsRangeIter _ _ (lo + ((0:Nat):Int) * 1) ((((hi - lo).toNat:Nat):Int) - ((0:Nat):Int)) 1
    rw [e1,e2]
    exact Heap.get?_push_size _ rfl
  · have e:b=(s.heap.push { cls:=.type "range",data:=.fields #[.int lo t,.int hi u,.int 1 v] }).objs.size:=by simpa using hb
    subst e
    exact I1.fpOk (Nat.le_refl _) (I1.hok.fresh (Nat.le_refl _))
def Ek (ta:TA):TI:=fun σ H R=>ta σ H fun vs H1=>∃ j:Int,vs=[.int j] ∧ -(2 ^ 62)≤j∧j < 2 ^ 62∧R (Itr 0 j.toNat) H1
theorem xD {a:Expr} {ta:TA} {p pos:Pos} (hg:Gl X "range") (hm:X.mg "range" = none) (ha:PA X [a] ta) (hs:starEach [a] X.env=[(false,eval a X.env)]:=by rfl):PI X tg (.Call (.Name "range" p) [a] [] pos) (Ek ta):=by
  intro pins s σ H R I h
  refine Call_ (lJ I hg hm boot_range (PyProof.Rows.callWith_type1 (thn (ha pos pins s σ H _ I h) fun us s1 ⟨vs,H1,I1,r1,q1⟩ => ?_) hs rfl))
  obtain⟨j,e,q1,q2,q⟩:=q1
  subst e
  cases r1 with
  | cons r rr =>
    cases rr
    obtain⟨t,rfl⟩:=r
    exact call_range_1 (y6 I1 (by omega) (by omega) q1 q2 (by simpa using q))
def Fj (wi:TI) (g:TG) (tb:TS):TS:=fun D σ H=>wi σ H fun J H1=>∃ W:Nat→Nat→St→Hp→Prop,(∃ m,W 0 m σ H1) ∧ ∀ i m σ H,W i m σ H →
  (J.stop i H∧D.nx σ H)∨(J.go i H ∧ ∃ N:St→Hp→Prop,(∀ σ' H',N σ' H' → ∃ m',m' < m∧W (i + 1) m' σ' H') ∧ ∀ x H',J.yld i H x H'→g x σ H' fun σ2 H2=>tb { D with nx:=N,ct:=N,bk:=D.nx } σ2 H2)
def lK (fp:List Addr) (h:Heap):List (Addr × Obj):=fp.filterMap fun b=>(h.get? b).map fun o=>(b,o)
theorem fU {fp:List Addr}{h:Heap}{b:Addr}{o:Obj}(hb:b∈fp)(e:h.get? b=some o):(b,o)∈lK fp h:=List.mem_filterMap.mpr ⟨b,hb,by rw [e];rfl⟩
theorem xE {fp:List Addr}{h:Heap}{p:Addr × Obj}(hp:p∈lK fp h):p.1∈fp∧h.get? p.1=some p.2:=by
  obtain⟨b,hb,e⟩:=List.mem_filterMap.mp hp
  cases q:h.get? b with
  | none=>rw [q] at e;cases e
  | some o =>
    rw [q] at e
    have e':(b,o)=p:=Option.some.inj e
    subst e'
    exact⟨hb,q⟩
theorem Inv.pinned {pins:List (Addr × Obj)}{σ:St}{H:Hp}{s:Shared}{fp:List Addr}(I:Inv X pins σ H s)(hf:∀ b∈fp,nv X pins H b)(ho:∀ b∈fp,∃ o,s.heap.get? b=some o ∧ ∀ v,o.data ≠ .cell v):Inv X (pins++lK fp s.heap) σ H s :=
  I.pins_of fun p hp=>(List.mem_append.mp hp).elim (fun z=>I.pin p (List.mem_append_right _ z)) fun z=>by
    obtain⟨hb,e⟩:=xE z
    obtain⟨f0,f1,f2,_⟩:=hf p.1 hb
    obtain⟨o,e',d⟩:=ho p.1 hb
    rw [e] at e';cases e'
    exact⟨e,f0,f1,f2,d⟩
theorem Inv.unpinned {pins pl:List (Addr × Obj)}{σ:St}{H:Hp}{s:Shared}(I:Inv X (pins++pl) σ H s):Inv X pins σ H s:=I.pins_of fun p hp=>I.pin p (List.mem_append_right _ (List.mem_append_left _ hp))
theorem CT {iter:Expr}{body:List Stmt}{wi:TI}{g:TG}{tb:TS}{pos:Pos}(hp:PassesOwn (model X.prog X.w) X.A X.env X.xe)(hc:X.calm=true)(hi:PI X tg iter wi)(hg:PG X tg g)(hb:PSs X body tb)
    (hs:∀ x,foldedSetIterable iter X.env x=pure x:=by intro _;rfl):PS X (.For tg iter body [] pos) (Fj wi g tb):=by
  intro pins s σ H D I h
  refine wpAny_For (thn (hi pins s σ H _ I h) fun v s1 h1=>thn h1 fun itv s2 h2 => ?_) hs
  obtain⟨it,fp,tn,J,H2,e,I2,T,st2,f2,W,⟨m0,w0⟩,turn⟩:=h2
  subst e
  have stat:∀ {H':Hp},(∀ b∈fp,H' b=none) → ∀ b∈fp,nv X pins H' b:=fun hn b hb=>⟨hn b hb,(f2 b hb).2⟩
  refine codeAny_forLoop_any (fun n s'=>∃ i σ' H',Inv X pins σ' H' s'∧tn i s'.heap∧(∀ b∈fp,H' b=none)∧W i n σ' H') ?_ m0 ⟨0,σ,H2,I2,st2,fun b hb=>(f2 b hb).1,w0⟩
  rintro n s3 ⟨i,σ3,H3,I3,st3,fr3,w3⟩
  rcases turn i n σ3 H3 w3 with ⟨stop,qn⟩|⟨go,N,hN,step⟩
  · refine wpAny_passesOwn hp (thn (T.done X rfl rfl rfl hc i pins s3 σ3 H3 X.xe I3 (stat fr3) st3 stop) fun r s4 ⟨hr,I4⟩ => ?_)
    subst hr
    exact wpAny_execs_nil ⟨σ3,H3,I4,qn⟩
  · refine wpAny_passesOwn hp (thn (T.item X rfl rfl rfl hc i pins s3 σ3 H3 X.xe I3 (stat fr3) st3 go) fun r s4 ⟨u,hr,h4⟩ => ?_)
    subst hr
    refine wpAny_passesOwn hp (thn h4 fun _ s5 ⟨x,H5,I5,r5,y5,st5,fr5⟩ => ?_)
    have I5':=I5.pinned (stat fr5) (T.obj _ _ st5)
    refine wpAny_passesOwn hp (thn (hg _ s5 σ3 H5 x u _ I5' r5 (step x H5 y5)) fun _ s6 ⟨σ6,H6,I6,q6⟩ => ?_)
    refine wpAny_passesOwn hp (thn (hb _ s6 σ6 H6 _ I6 q6) fun f s7 q7 => ?_)
    have again:∀ {σ7:St} {H7:Hp},Inv X (pins++lK fp s5.heap) σ7 H7 s7→N σ7 H7 → ∃ m,m < n ∧ ∃ i σ' H',Inv X pins σ' H' s7∧tn i s7.heap∧(∀ b∈fp,H' b=none)∧W i m σ' H':=fun {σ7 H7} I7 n7=>by
      obtain⟨m',hm,w7⟩:=hN σ7 H7 n7
      refine⟨m',hm,i + 1,σ7,H7,I7.unpinned,T.keep _ _ _ st5 fun b hb o e=>(I7.pin (b,o) (List.mem_append_right _ (List.mem_append_right _ (fU hb e)))).1,fun b hb => ?_,w7⟩
      obtain⟨o,e,d⟩:=T.obj _ _ st5 b hb
      exact (I7.pin (b,o) (List.mem_append_right _ (List.mem_append_right _ (fU hb e)))).2.1
    cases f with
    | next=>obtain⟨σ7,H7,I7,n7⟩:=q7;exact again I7 n7
    | cont=>obtain⟨σ7,H7,I7,n7⟩:=q7;exact again I7 n7
    | brk=>obtain⟨σ7,H7,I7,q7⟩:=q7;exact⟨σ7,H7,I7.unpinned,q7⟩
    | ret v=>obtain⟨x7,σ7,H7,I7,r7,q7⟩:=q7;exact⟨x7,σ7,H7,I7.unpinned,r7,q7⟩
end
end L2
namespace L2
open PySem PySem.Spec PyProof.Rows
abbrev R2:=V→V→Hp→VK→Prop
def OpR (X:Cx) (f:Value→Value→Sem Value) (r:R2):Prop :=
  ∀ (pins:List (Addr × Obj)) (s:Shared) (σ:St) (H:Hp) (x y:V) (v u:Value) (Q:VK),Inv X pins σ H s→bf x v→bf y u→r x y H Q →
    wpAny (model X.prog X.w) X.A (f v u) (EP X pins σ Q) X.xe s
def UnR (X:Cx) (f:Value→Sem Value) (r:V→Hp→VK→Prop):Prop :=
  ∀ (pins:List (Addr × Obj)) (s:Shared) (σ:St) (H:Hp) (x:V) (v:Value) (Q:VK),Inv X pins σ H s→bf x v→r x H Q →
    wpAny (model X.prog X.w) X.A (f v) (EP X pins σ Q) X.xe s
def d9 (X:Cx) (f:Value) (r:List V→Hp→VK→Prop):Prop :=
  ∀ (pins:List (Addr × Obj)) (s:Shared) (σ:St) (H:Hp) (xs:List V) (us:List Value) (Q:VK),Inv X pins σ H s→aL xs us→r xs H Q →
    wpAny (model X.prog X.w) X.A (call f us) (EP X pins σ Q) X.xe s
def tOp (r:R2) (ta tb:TE):TE:=fun σ H Q=>ta σ H fun x H1=>tb σ H1 fun y H2=>r x y H2 Q
def tUn (r:V→Hp→VK→Prop) (ta:TE):TE:=fun σ H Q=>ta σ H fun x H1=>r x H1 Q
def rI (C:Int→Int→Prop) (g:Int→Int→V):R2:=fun x y H Q=>∃ i j,x=.int i∧y=.int j∧C i j∧Q (g i j) H
def rI0 (g:Int→Int→V):R2:=fun x y H Q=>∃ i j,x=.int i∧y=.int j∧Q (g i j) H
def rU (g:Int→V):V→Hp→VK→Prop:=fun x H Q=>∃ i,x=.int i∧Q (g i) H
section
variable {X:Cx} {a b c:Expr} {ta tb tc:TE} {pos:Pos}
theorem CU (ha:PE X a ta)(hb:PE X b tb){pins:List (Addr × Obj)}{s:Shared}{σ:St}{H:Hp}{R:V→V→Hp→Prop}(I:Inv X pins σ H s)
    (h:ta σ H fun x H1=>tb σ H1 fun y H2=>R x y H2) {Q:Value→Shared→Prop} {f:Value→Value→Sem Value}
    (hf:∀ v u s2 x y H2,Inv X pins σ H2 s2→bf x v→bf y u→R x y H2→wpAny (model X.prog X.w) X.A (f v u) Q X.xe s2) :
    wpAny (model X.prog X.w) X.A (eval a X.env) (fun v s₁ => wpAny (model X.prog X.w) X.A (eval b X.env) (fun u s₂ => wpAny (model X.prog X.w) X.A (f v u) Q X.xe s₂) X.xe s₁) X.xe s:=by
  refine thn (ha pins s σ H _ I h) fun v s1 ⟨x,H1,I1,r1,q1⟩ => ?_
  refine thn (hb pins s1 σ H1 _ I1 q1) fun u s2 ⟨y,H2,I2,r2,q2⟩ => ?_
  exact hf v u s2 x y H2 I2 r1 r2 q2
theorem Cg {op:Operator}{r:R2}(ho:OpR X (binaryOp op) r)(ha:PE X a ta)(hb:PE X b tb):PE X (.BinOp a op b pos) (tOp r ta tb):=by
  intro pins s σ H Q I h
  exact wpAny_BinOp (CU ha hb I h fun v u s2 x y H2 I2 rx ry q=>ho pins s2 σ H2 x y v u Q I2 rx ry q)
theorem El {op:UnaryOp}{r:V→Hp→VK→Prop}(ho:UnR X (unaryOp op) r)(ha:PE X a ta):PE X (.UnaryOp op a pos) (tUn r ta):=by
  intro pins s σ H Q I h
  exact UnaryOp_ (thn (ha pins s σ H _ I h) fun v s1 ⟨x,H1,I1,r1,q1⟩=>ho pins s1 σ H1 x v Q I1 r1 q1)
theorem opI {f:Value→Value→Sem Value}{C:Int→Int→Prop}{g:Int→Int→Int}
    (rule:∀ (i j:Int) (t u:Tok) (s:Shared) (Q:Value→Shared→Prop) (E:Value→Shared→Prop),C i j→Q (.int (g i j) s.toks) { s with toks:=s.toks + 1 } → wpAny (model X.prog X.w) X.A (f (.int i t) (.int j u)) Q E s) :
    OpR X f (rI C fun i j=>.int (g i j)):=by
  intro pins s σ H x y v u Q I rx ry h
  obtain⟨i,j,rfl,rfl,hc,q⟩:=h
  obtain⟨t,rfl⟩:=rx
  obtain⟨t',rfl⟩:=ry
  exact rule i j t t' s _ _ hc ⟨.int (g i j),H,I.tok _,⟨_,rfl⟩,q⟩
theorem Em {f:Value→Value→Sem Value}{g:Int→Int→Int}
    (rule:∀ (i j:Int) (t u:Tok) (s:Shared) (Q:Value→Shared→Prop) (E:Value→Shared→Prop),Q (.int (g i j) s.toks) { s with toks:=s.toks + 1 } → wpAny (model X.prog X.w) X.A (f (.int i t) (.int j u)) Q E s) :
    OpR X f (rI0 fun i j=>.int (g i j)):=by
  intro pins s σ H x y v u Q I rx ry h
  obtain⟨i,j,rfl,rfl,q⟩:=h
  obtain⟨t,rfl⟩:=rx
  obtain⟨t',rfl⟩:=ry
  exact rule i j t t' s _ _ ⟨.int (g i j),H,I.tok _,⟨_,rfl⟩,q⟩
theorem CV {f:Value→Value→Sem Value}{g:Int→Int→Bool}
    (rule:∀ (i j:Int) (t u:Tok) (s:Shared) (Q:Value→Shared→Prop) (E:Value→Shared→Prop),Q (.bool (g i j)) s→wpAny (model X.prog X.w) X.A (f (.int i t) (.int j u)) Q E s) :
    OpR X f (rI0 fun i j=>.bl (g i j)):=by
  intro pins s σ H x y v u Q I rx ry h
  obtain⟨i,j,rfl,rfl,q⟩:=h
  obtain⟨t,rfl⟩:=rx
  obtain⟨t',rfl⟩:=ry
  exact rule i j t t' s _ _ ⟨.bl (g i j),H,I,rfl,q⟩
def Eo (i j:Int):Prop:=0≤j∧j≤1000000∧i.natAbs < 2 ^ 64
def AY (i j:Int):Prop:=(-(2 ^ 64) < i∧i < 2 ^ 64)∨(-(2 ^ 64) < j∧j < 2 ^ 64)
theorem AY.ok {i j:Int}(h:AY i j):IntMulOk i j:=by
  rcases h with ⟨h1,h2⟩|⟨h1,h2⟩
  · exact .of_left (intBits_le_64 h1 h2)
  · exact .of_right (intBits_le_64 h1 h2)
theorem CW:OpR X (binaryOp .Add) (rI0 fun i j=>.int (i + j)):=Em fun _ _ _ _ _ _ _ q=>add_int q
theorem qt:OpR X (binaryOp .Sub) (rI0 fun i j=>.int (i - j)):=Em fun _ _ _ _ _ _ _ q=>sub_int q
theorem gP:OpR X (binaryOp .Mult) (rI AY fun i j=>.int (i * j)):=opI fun _ _ _ _ _ _ _ hc q=>mul_int q hc.ok
theorem dX:OpR X (binaryOp .Mod) (rI (fun _ j=>0 < j) fun i j=>.int (i % j)):=opI fun i j _ _ _ _ _ hc q=>by
  have h1:(0:Int) < j:=hc
  exact mod_int' (by omega) (by rw [Int.fmod_eq_emod_of_nonneg i (by omega)];exact q)
theorem y7:OpR X (binaryOp .Pow) (rI Eo fun i j=>.int (i ^ j.toNat)):=opI fun _ _ _ _ _ _ _ hc q=>pow_int_small hc.1 hc.2.1 hc.2.2 q
theorem unI {f:Value→Sem Value}{g:Int→Int}
    (rule:∀ (i:Int) (t:Tok) (s:Shared) (Q:Value→Shared→Prop) (E:Value→Shared→Prop),Q (.int (g i) s.toks) { s with toks:=s.toks + 1 } → wpAny (model X.prog X.w) X.A (f (.int i t)) Q E s) :
    UnR X f (rU fun i=>.int (g i)):=by
  intro pins s σ H x v Q I rx h
  obtain⟨i,rfl,q⟩:=h
  obtain⟨t,rfl⟩:=rx
  exact rule i t s _ _ ⟨.int (g i),H,I.tok _,⟨_,rfl⟩,q⟩
theorem CY:UnR X (unaryOp .USub) (rU fun i=>.int (-i)):=unI fun _ _ _ _ _ q=>neg_int q
end
section
variable {X:Cx} {a b c:Expr} {ta tb tc:TE} {pos:Pos}
theorem vn {pins:List (Addr × Obj)}{σ:St}{H:Hp}{s:Shared}{Q:VK}{k k':Bool}(I:Inv X pins σ H s)(q:Q (.bl k) H)(e:k=k'):EP X pins σ Q (.bool k') s:=by
  subst e
  exact⟨.bl k,H,I,rfl,q⟩
theorem Ep:OpR X (compareOp .Lt) (rI0 fun i j=>.bl (decide (i < j))):=CV fun _ _ _ _ _ _ _ q=>lt_int q
theorem Ch:OpR X (compareOp .LtE) (rI0 fun i j=>.bl (decide (i≤j))):=CV fun _ _ _ _ _ _ _ q=>le_int q
theorem y8:OpR X (compareOp .Gt) (rI0 fun i j=>.bl (decide (j < i))):=CV fun _ _ _ _ _ _ _ q=>gt_int q
theorem qu:OpR X (compareOp .Is) (fun x y H Q=>y=.non∧Q (.bl (decide (x=.non))) H):=by
  intro pins s σ H x y v u Q I rx ry h
  obtain⟨rfl,q⟩:=h
  cases ry
  refine is_none_gen (vn I q ?_)
  cases x<;>first
    | (cases rx;rfl)
    | (obtain⟨t,rfl⟩:=rx;rfl)
theorem qv:OpR X (compareOp .IsNot) (fun x y H Q=>y=.non∧Q (.bl (!decide (x=.non))) H):=by
  intro pins s σ H x y v u Q I rx ry h
  obtain⟨rfl,q⟩:=h
  cases ry
  refine isnot_none_gen (vn I q ?_)
  cases x<;>first
    | (cases rx;rfl)
    | (obtain⟨t,rfl⟩:=rx;rfl)
theorem qw:OpR X (compareOp .NotIn) (fun x y H Q=>∃ i j,x=.str i∧y=.str j∧Q (.bl (!(!(Builtin.Str.occurrences j i 0 j.length 1).isEmpty))) H):=by
  intro pins s σ H x y v u Q I rx ry h
  obtain⟨i,j,rfl,rfl,q⟩:=h
  obtain⟨t,rfl⟩:=rx
  obtain⟨t',rfl⟩:=ry
  exact notIn_str (vn I q rfl)
theorem OpR.or {f:Value→Value→Sem Value}{r r':R2}(h:OpR X f r)(h':OpR X f r'):OpR X f (fun x y H Q=>r x y H Q∨r' x y H Q):=by
  intro pins s σ H x y v u Q I rx ry q
  rcases q with q|q
  · exact h pins s σ H x y v u Q I rx ry q
  · exact h' pins s σ H x y v u Q I rx ry q
theorem aZ (b:Expr){op:CmpOp}(h:op ≠ .In:=by decide)(h2:op ≠ .NotIn:=by decide):behindInMarks op b=false:=by
  have e1:(op == CmpOp.In)=false:=by cases op<;>first|rfl|exact absurd rfl h
  have e2:(op == CmpOp.NotIn)=false:=by cases op<;>first|rfl|exact absurd rfl h2
  cases b<;>simp [behindInMarks,e1,e2]
theorem AZ {op:CmpOp}{r:R2}(ho:OpR X (compareOp op) r)(ha:PE X a ta)(hb:PE X b tb)(hm:behindInMarks op b=false):PE X (.Compare a [op] [b] pos) (tOp r ta tb):=by
  intro pins s σ H Q I h
  exact wpAny_Compare1 (CU ha hb I h fun v u s2 x y H2 I2 rx ry q=>ho pins s2 σ H2 x y v u Q I2 rx ry q) hm
def Er (t:TE):TT:=fun σ H Q=>t σ H fun x H'=>∃ k,x=.bl k∧Q k H'
theorem A0 {op:CmpOp}{r:R2}(ho:OpR X (compareOp op) r)(ha:PE X a ta)(hb:PE X b tb)(hm:behindInMarks op b=false):PT X (.Compare a [op] [b] pos) (Er (tOp r ta tb)):=by
  intro pins s σ H Q I h
  refine wpAny_isTrue_Compare1 (thn (ha pins s σ H _ I h) fun v s1 ⟨x,H1,I1,r1,q1⟩=>thn (hb pins s1 σ H1 _ I1 q1) fun u s2 ⟨y,H2,I2,r2,q2⟩ =>
    thn (ho pins s2 σ H2 x y v u _ I2 r1 r2 q2) fun c s3 ⟨z,H3,I3,r3,k,e,q3⟩ => ?_) hm
  subst e
  cases r3
  exact wpAny_truthy_bool ⟨H3,I3,q3⟩
def y9 (r r':R2) (ta tb tc:TE):TE:=fun σ H Q=>ta σ H fun x H1=>tb σ H1 fun y H2=>r x y H2 fun z H3=>∃ k,z=.bl k ∧
  (if k=true then tc σ H3 fun w' H4=>r' y w' H4 Q else Q (.bl false) H3)
theorem za {op op':CmpOp}{r r':R2}(ho:OpR X (compareOp op) r)(ho':OpR X (compareOp op') r')(ha:PE X a ta)(hb:PE X b tb)(hc:PE X c tc)
    (hm:lastMarks [op,op'] [b,c] = false:=by with_unfolding_all rfl):PE X (.Compare a [op,op'] [b,c] pos) (y9 r r' ta tb tc):=by
  intro pins s σ H Q I h
  refine Compare_chain (thn (ha pins s σ H _ I h) fun v s1 ⟨x,H1,I1,r1,q1⟩=>chain_link (thn (hb pins s1 σ H1 _ I1 q1) fun u s2 ⟨y,H2,I2,r2,q2⟩ =>
    thn (ho pins s2 σ H2 x y v u _ I2 r1 r2 q2) fun d s3 ⟨z,H3,I3,r3,k,e,q3⟩ => ?_)) hm
  subst e
  cases r3
  refine wpAny_truthy_bool ?_
  cases k with
  | false=>exact ite_ff ⟨.bl false,H3,I3,rfl,q3⟩
  | true=>exact ite_tt (chain_last (thn (hc pins s3 σ H3 _ I3 q3) fun w' s4 ⟨z',H4,I4,r4,q4⟩=>ho' pins s4 σ H4 y z' u w' Q I4 r2 r4 q4))
theorem jX:(sizeLine:Nat) < 2 ^ 63:=by rw [sizeLine_eq];decide
theorem vq:OpR X (binaryOp .Add) (fun x y H Q=>∃ i j,x=.str i∧y=.str j∧i.length + j.length≤sizeLine∧Q (.str (i++j)) H):=by
  intro pins s σ H x y v u Q I rx ry h
  obtain⟨i,j,rfl,rfl,hz,q⟩:=h
  obtain⟨t,rfl⟩:=rx
  obtain⟨t',rfl⟩:=ry
  exact add_str (fun t' tk=>⟨.str (i++j),H,I.tok _,⟨_,rfl⟩,q⟩) hz
theorem lL {x:V}{us:List Value}(r:aL [x] us):∃ u,us=[u]∧bf x u:=by
  cases r with
  | cons r1 r2=>cases r2;exact⟨_,rfl,r1⟩
theorem xF:d9 X (.type "int") (fun xs H Q=>(∃ i,xs=[.int i]∧Q (.int i) H) ∨ ∃ k,xs=[.bl k]∧Q (.int (if k then 1 else 0)) H):=by
  intro pins s σ H xs us Q I r h
  rcases h with ⟨i,rfl,q⟩|⟨k,rfl,q⟩
  · obtain⟨u,rfl,t,rfl⟩:=lL r
    exact call_int_int ⟨.int i,H,I,⟨_,rfl⟩,q⟩
  · obtain⟨u,rfl,r1⟩:=lL r
    cases r1
    exact call_int_bool ⟨.int (if k then 1 else 0),H,I.tok _,⟨_,rfl⟩,q⟩
theorem qx:d9 X (.type "str") (fun xs H Q=>∃ i,xs=[.int i]∧i.natAbs.log2 < 1920∧Q (.str (toString i)) H):=by
  intro pins s σ H xs us Q I r h
  obtain⟨i,rfl,hz,q⟩:=h
  obtain⟨u,rfl,t,rfl⟩:=lL r
  exact PySem.P.str_of_int hz ⟨.str _,H,I.tok _,⟨_,rfl⟩,q⟩
end
end L2
namespace L2
open PySem PySem.Spec PyProof.Rows
structure FD (h:Heap) (x dx C:Addr) (mA:Str→Option Value):Prop where
  obj:h.get? x=some (PySem.W.instObj C dx)
  ns:h.Ns1 dx mA
  ne:dx≠x
section
variable {prog:Program} {w:World} {A:Around} {E:Value→Shared→Prop} {s:Shared} {K:PySem.W.Frag} {x dx C f:Addr} {mA:Str→Option Value} {name:Str} {v:Value}
end
section
variable {P:Program} {w:World} {H H':Hp} {h h':Heap} {a C dx:Addr} {fs fs':List (Str × V)}
end
structure Cls (K:PySem.W.Frag) (C:Addr):Prop where
  pg:PySem.W.plainGet K C Str.empty=true
  hd:PySem.W.hasDictIn K C=true
  po:PySem.W.plainOver K C=true
  sa:PySem.W.findIn K (.ref C) "__setattr__" = some (some (.builtin "object.__setattr__"))
structure Con (K:PySem.W.Frag) (C:Addr) (f:Str) (v:V) (u:Value):Prop where
  at_:PySem.W.findIn K (.ref C) f=some (some u)
  rel:bf v u
  get:PySem.W.specialIn K u "__get__" = some none
  cp:PySem.W.copiedNames.contains f=false
structure FE (K:PySem.W.Frag) (C:Addr) (m:Str) (f:Addr):Prop where
  at_:PySem.W.findIn K (.ref C) m=some (some (.ref f))
  fn:PySem.W.isFn K (.ref f)=true
  kp:PySem.W.keepIn K (.ref f)=true
section
variable {X:Cx} {pins:List (Addr × Obj)} {σ:St} {H:Hp} {s:Shared} {a C dx:Addr} {fs:List (Str × V)} {f:Str} {v:V} {A:Around} {E:Value→Shared→Prop}
end
section
variable {X:Cx} {o e value:Expr} {f:Str} {pos pos' tpos:Pos} {ta tv:TE}
end
section
variable {X:Cx} {pins:List (Addr × Obj)} {σ:St} {H:Hp} {s:Shared} {A:Around} {E:Value→Shared→Prop} {Q:Value→Shared→Prop} {c:Value} {b:Bool}
inductive lM (K:PySem.W.Frag) (H:Hp):V→Value→Prop where
  | non:lM K H .non (.type "NoneType")
  | bl (x:Bool):lM K H (.bl x) (.type "bool")
  | int (i:Int):lM K H (.int i) (.type "int")
  | str (x:Str):lM K H (.str x) (.type "str")
  | flt (x:UInt64):lM K H (.flt x) (.type "float")
  | lst {a:Addr} {xs:List V} (e:H a=some (.lst xs)):lM K H (.ref a) (.type "list")
  | frz {a:Addr} {o:Obj} {xs:List V} (e:H a=some (.frz o (.lst xs))):lM K H (.ref a) (.type "list")
  | tup {a:Addr} {xs:List V} (e:H a=some (.tup xs)):lM K H (.ref a) (.type "tuple")
  | dK {a:Addr} {kvs:List (Key × V)} (e:H a=some (.dK kvs)):lM K H (.ref a) (.type "dict")
  | dT {a:Addr} {kvs:List (List Key × V)} (e:H a=some (.dT kvs)):lM K H (.ref a) (.type "dict")
  | ins {a C dx:Addr} {fs:List (Str × V)} (e:H a=some (.ins C dx fs)) (cl:Cls K C) (ha:PySem.W.findIn K (.ref C) "__class__" = some (some (.builtin "object.__class__")))
      (hn:PySem.W.specialIn K (.builtin "object.__class__") "__get__" = some (some (.builtin "getset_descriptor.__get__"))) (htk:PySem.W.takesIn K (.builtin "object.__class__")=some true)
      (hm:PySem.W.mroIn K C (.type "object")=some true):lM K H (.ref a) (.ref C)
end
end L2
namespace L2
open PySem PySem.Spec PyProof.Rows
structure eC (k:Nat) (A:Around):Prop where
  hd:A.handled=none
  dp:A.depth + 3 * k + 5 < recursionLimit
  un:A.units + 16 * k + 200 < cLine
  gd:A.guards=some []
theorem eC.mono {j k:Nat}{A:Around}(r:eC k A)(h:j≤k):eC j A:=⟨r.hd,by have:=r.dp;omega,by have:=r.un;omega,r.gd⟩
theorem eC.deeper {k:Nat}{A:Around}(r:eC (k + 1) A)(env:Env):eC k (A.deeper env) :=
  ⟨r.hd,by have:=r.dp;show A.depth + 1 + 3 * k + 5 < _;omega,by have:=r.un;show A.units + 3 + 16 * k + 200 < _;omega,r.gd⟩
theorem eC.depth {k:Nat}{A:Around}(r:eC k A):A.depth < recursionLimit:=by have:=r.dp;omega
def Fk:TA:=fun _ H Q=>Q [] H
def Es (ta:TE) (tr:TA):TA:=fun σ H Q=>ta σ H fun x H1=>tr σ H1 fun xs H2=>Q (x :: xs) H2
section
variable {X:Cx} {e:Expr} {es:List Expr} {te:TE} {t:TA} {pos:Pos}
theorem df:PA X [] Fk:=fun _ _ _ _ H Q I h=>Calls.spliced_nil ⟨[],H,I,.nil,h⟩
theorem bE (ha:PE X e te)(hr:PA X es t)(hs:starEach (e :: es) X.env=(false,eval e X.env) :: starEach es X.env:=by rfl):PA X (e :: es) (Es te t):=by
  intro pos pins s σ H Q I h
  rw [hs]
  show wpAny _ _ (spliced ((false,eval e X.env) :: backTo pos (starEach es X.env))) _ _ s
  refine Calls.spliced_cons (thn (ha pins s σ H _ I h) fun u s1 ⟨x,H1,I1,r1,q1⟩ => ?_)
  exact thn (hr pos pins s1 σ H1 _ I1 q1) fun us s2 ⟨xs,H2,I2,r2,q2⟩=>⟨x :: xs,H2,I2,.cons r1 r2,q2⟩
def Fl (t:TA):TE:=fun σ H Q=>t σ H fun xs H1=>xs.length≤sizeLine ∧ ∀ p,H1 p=none→Q (.ref p) (upd H1 p (.tup xs))
def Fo (t:TA):TE:=fun σ H Q=>t σ H fun xs H1=>xs.length≤sizeLine ∧ ∀ p,H1 p=none→Q (.ref p) (upd H1 p (.lst xs))
theorem zb {x1}(h:PA X es t):PE X (.Tuple es x1 pos) (Fl t):=by
  intro pins s σ H Q I hq
  refine wpAny_Tuple_spliced (thn (h pos pins s σ H _ I hq) fun us s1 ⟨xs,H1,I1,r,z,q⟩=>⟨by rw [← r.length];exact z,?_⟩)
  have hf:H1 s1.heap.objs.size=none:=I1.hok.fresh (Nat.le_refl _)
  refine⟨.ref s1.heap.objs.size,upd H1 s1.heap.objs.size (.tup xs),I1.laid (t':=s1.toks) (fun b u e=>Heap.get?_push_of_some _ e) (Nat.le_refl _) ?_,rfl,q _ hf⟩
  exact⟨z,us,r,⟨_,Heap.get?_push_size _ rfl,rfl,_,rfl⟩⟩
theorem CZ (h:PA X es t):PE X (.List es pos) (Fo t):=by
  intro pins s σ H Q I hq
  refine wpAny_List_spliced (thn (h pos pins s σ H _ I hq) fun us s1 ⟨xs,H1,I1,r,z,q⟩=>⟨by rw [← r.length];exact z,?_⟩)
  have hf:H1 s1.heap.objs.size=none:=I1.hok.fresh (Nat.le_refl _)
  refine⟨.ref s1.heap.objs.size,upd H1 s1.heap.objs.size (.lst xs),I1.laid (t':=s1.toks) (fun b u e=>Heap.get?_push_of_some _ e) (Nat.le_refl _) ?_,rfl,q _ hf⟩
  exact⟨z,us,0,r,Heap.get?_push_size _ rfl⟩
end
abbrev Sp:=List V→Hp→VK→XK→Prop
abbrev CXT:=List Env→Hp→Shared→XK→Value→Shared→Prop
structure A1 (P:Program) (w:World) (K:PySem.W.Frag) (mg:Str→Option Value) (base:Heap) (A:Around) (outer:List Env) (s:Shared) (H:Hp):Prop where
  frames:A.frames=some outer
  mod:Mod K mg base
  bs:∀ b o,base.get? b=some o→s.heap.get? b=some o∧H b=none
  bsz:base.objs.size≤s.heap.objs.size
  funs:s.heap.FunFrames base outer
  frf:∀ b∈frs outer,H b=none
  hok:HOk P w H s.heap
  bare:AllBare s.gens
def CE (outer:List Env) (P:Program) (w:World) (H:Hp) (s:Shared) (Q:VK) (u:Value) (s':Shared):Prop :=
  ∃ v H',s'.os=s.os∧AllBare s'.gens∧Un (frs outer) [] H H' s.heap s'.heap∧HOk P w H' s'.heap∧bf v u∧Q v H'
def CR (CX:CXT) (outer:List Env) (P:Program) (w:World) (H:Hp) (s:Shared) (Q:VK) (E:XK) (r:Result) (s':Shared):Prop :=
  match r with
  | .ok (.ret u)=>CE outer P w H s Q u s'
  | .ok _=>False
  | .error e=>CX outer H s E e s'
structure b5 (P:Program) (w:World) (K:PySem.W.Frag) (mg:Str→Option Value) (base:Heap) (CX:CXT) (k:Nat) (f:Addr) (fd:FuncData) (ps:List Str) (sp:Sp):Prop where
  len:∀ vs H Q E,sp vs H Q E→vs.length=ps.length
  run:∀ (A:Around) (outer:List Env) (s:Shared) (H:Hp) (args:Args) (us:List Value) (vs:List V) (Q:VK) (E:XK),eC k A→A1 P w K mg base A outer s H→BindsTo s fd args (ps.zip us)→aL vs us→sp vs H Q E →
    codeAny (model P w) A (.call (.ref f) args) (CR CX outer P w H s Q E) s
section
variable {X:Cx} {pins:List (Addr × Obj)} {σ:St} {H:Hp} {s s':Shared}
theorem Inv.env0 (I:Inv X pins σ H s):A1 X.prog X.w X.K X.mg X.base X.A X.stack s H :=
  ⟨I.ok.frames,I.ok.mod,I.bs,Nat.le_trans I.ok.bsz I.sz,I.stack,I.stkFree,I.hok,I.bare⟩
theorem Inv.after {Q:VK}{u:Value}(I:Inv X pins σ H s)(h:CE X.stack X.prog X.w H s Q u s'):EP X pins σ Q u s':=by
  obtain⟨v,H',os,bare,un,hok,r,q⟩:=h
  obtain⟨hh,g,d,t,os'⟩:=s'
  obtain rfl:os'=s.os:=os
  exact⟨v,H',I.call (h':=hh) (g':=g) (d':=d) (t':=t) (ch:=[]) un hok bare (fun b z=>absurd z (by simp)),r,q⟩
end
def Et (sp:Sp) (dvs:List V) (E:XK) (t:TA):TE:=fun σ H Q=>t σ H fun vs H1=>sp (vs++dvs) H1 Q E
def gy (K:PySem.W.Frag) (fd:FuncData) (ps:List Str) (ds:List Value):Prop :=
  ∀ (s:Shared) (us:List Value),K.In s.heap→(us++ds).length=ps.length→BindsTo s fd ⟨us,[]⟩ (ps.zip (us++ds))
theorem gy.all {K:PySem.W.Frag}{fd:FuncData}{ps:List Str}(h:∀ us:List Value,us.length=ps.length→bindArgs fd ⟨us,[]⟩ = pure (ps.zip us)):gy K fd ps []:=fun s us _ hl=>by
  rw [List.append_nil] at hl ⊢
  exact .of_eq (h us hl)
def lN (CX:CXT) (X:Cx) (E:XK):Prop:=∀ (pins:List (Addr × Obj)) (σ:St) (H:Hp) (s:Shared) (e:Value) (s':Shared),Inv X pins σ H s→CX X.stack H s E e s'→X.xe e s'
section
variable {X:Cx} {CX:CXT} {k:Nat} {f C:Addr} {fd:FuncData} {ps:List Str} {sp:Sp} {dvs:List V} {ds:List Value} {E:XK} {x m:Str} {p pos apos:Pos} {e o:Expr} {es:List Expr} {ta:TE} {t:TA}
theorem C0 {pins:List (Addr × Obj)}{σ:St}{H:Hp}{s:Shared}{Q:VK}{us:List Value}{vs:List V}(F:b5 X.prog X.w X.K X.mg X.base CX k f fd ps sp)(hr:eC k X.A)(hb:gy X.K fd ps ds)(hd:aL dvs ds)(hx:lN CX X E)
    (I:Inv X pins σ H s) (r:aL vs us) (h:sp (vs++dvs) H Q E):wpAny (model X.prog X.w) X.A (call (.ref f) us) (EP X pins σ Q) X.xe s:=by
  have r2:aL (vs++dvs) (us++ds):=r.append hd
  have hl:(us++ds).length=ps.length:=by rw [← r2.length];exact F.len _ _ _ _ h
  refine wpAny_call (codeAny_mono (F.run X.A X.stack s H ⟨us,[]⟩ (us++ds) (vs++dvs) Q E hr I.env0 (hb s us I.kIn hl) r2 h) fun r s' hq => ?_)
  cases r with
  | error e=>exact hx pins σ H s e s' I hq
  | ok fl =>
    cases fl with
    | ret u=>exact I.after hq
    | next=>exact False.elim hq
    | brk=>exact False.elim hq
    | cont=>exact False.elim hq
theorem wO (F:b5 X.prog X.w X.K X.mg X.base CX k f fd ps sp)(hr:eC k X.A)(hg:Gl X x)(hm:X.mg x=some (.ref f))(hk:PySem.W.keepIn X.K (.ref f)=true)(hb:gy X.K fd ps ds)(hd:aL dvs ds)(hx:lN CX X E)
    (ha:PA X (e :: es) t) (hdb:(x == ("__debug__" : Str))=false:=by decide) (he:starEach (e :: es) X.env=(false,eval e X.env) :: starEach es X.env:=by rfl) (hpl:(backTo pos (starEach es X.env)).any (·.1)=false:=by rfl) :
    PE X (.Call (.Name x p) (e :: es) [] pos) (Et sp dvs E t):=by
  intro pins s σ H Q I h
  refine wpAny_Call_Name_kw (lm I hg hm ?_ hdb)
  refine PySem.W.callWith_K (h₀ := X.base) I.ok.mod.kin hk (thn (ha pos pins s σ H _ I h) fun us s1 ⟨vs,H1,I1,r,q⟩=>⟨I1.kIn,?_⟩) he hpl
  exact C0 F hr hb hd hx I1 r q
structure Mk (K:PySem.W.Frag) (C f:Addr):Prop where
  makes:PySem.W.makesIn K C=true
  init:PySem.W.findIn K (.ref C) "__init__" = some (some (.ref f))
  fn:PySem.W.isFn K (.ref f)=true
  kp:PySem.W.keepIn K (.ref C)=true
end
section
variable {X:Cx} {CX:CXT} {k:Nat} {f C:Addr} {fd:FuncData} {ps ks:List Str} {sp:Sp} {E:XK} {x m:Str} {p pos apos kpos:Pos} {e o:Expr} {es:List Expr} {kws:List Keyword} {te ta:TE} {t tk:TA} {nm:Option Str}
structure Fp (K:PySem.W.Frag) (fd:FuncData) (ps ks:List Str) (g:List Value→List Value→List Value) (gV:List V→List V→List V):Prop where
  to:∀ (s:Shared) (us ws:List Value),K.In s.heap→(g us ws).length=ps.length→BindsTo s fd ⟨us,ks.zip ws⟩ (ps.zip (g us ws))
  rel:∀ {vs:List V} {us:List Value} {zs:List V} {ws:List Value},aL vs us→aL zs ws→aL (gV vs zs) (g us ws)
variable {g:List Value→List Value→List Value} {gV:List V→List V→List V}
end
structure a4 (N P:List Str) (sc:Scope):Prop where
  kind:sc.kind=.function
  co:sc.isCoroutine=false
  gen:sc.isGenerator=false
  nd:N.Nodup
  pre:N.take P.length=P
  par:∀ x∈P,sc.names.lookup x=some .local ∨sc.names.lookup x=some .cell
  nofree:∀ y∈sc.names,y.2 ≠ .free
theorem pK {kindOf:Str→Option NameKind}{x:Str}:∀ {binds:List (Str × Value)} {m:Str→Option Value},(∀ v,(x,v)∉binds)→bindL kindOf binds m x=m x
  | [],_,_=>rfl
  | (n,v) :: r,m,h=>by
    unfold bindL
    rw [pK fun w hw=>h w (List.mem_cons_of_mem _ hw)]
    split
    · have:x≠n:=by rintro rfl;exact h v List.mem_cons_self
      simp [this]
    · rfl
theorem pL {kindOf:Str→Option NameKind}{x:Str}:∀ {binds:List (Str × Value)} {m:Str→Option Value},(∀ v,(x,v)∉binds)→bindC kindOf binds m x=m x
  | [],_,_=>rfl
  | (n,v) :: r,m,h=>by
    unfold bindC
    rw [pL fun w hw=>h w (List.mem_cons_of_mem _ hw)]
    split
    · rfl
    · have:x≠n:=by rintro rfl;exact h v List.mem_cons_self
      simp [this]
theorem pM {kindOf:Str→Option NameKind}{x:Str}{v:Value}:∀ {P:List Str} {vs:List Value} {i:Nat} {m:Str→Option Value},P.Nodup→P[i]? = some x→vs[i]? = some v→kindOf x=some .local →
    bindL kindOf (P.zip vs) m x=some v
  | [],_,_,_,_,h,_,_=>by simp at h
  | _ :: _,[],_,_,_,_,h,_=>by simp at h
  | p :: P,w :: vs,0,m,nd,h1,h2,hk=>by
    simp at h1 h2;subst h1;subst h2
    show bindL kindOf ((p,w) :: P.zip vs) m p=_
    unfold bindL
    rw [pK fun v hv=>(List.nodup_cons.mp nd).1 (List.of_mem_zip hv).1,if_pos hk]
    simp
  | p :: P,w :: vs,i + 1,m,nd,h1,h2,hk=>by
    show bindL kindOf ((p,w) :: P.zip vs) m x=_
    unfold bindL
    exact pM (i:=i) (List.nodup_cons.mp nd).2 (by simpa using h1) (by simpa using h2) hk
theorem pN {kindOf:Str→Option NameKind}{x:Str}{v:Value}:∀ {P:List Str} {vs:List Value} {i:Nat} {m:Str→Option Value},P.Nodup→P[i]? = some x→vs[i]? = some v→kindOf x≠some .local →
    bindC kindOf (P.zip vs) m x=some v
  | [],_,_,_,_,h,_,_=>by simp at h
  | _ :: _,[],_,_,_,_,h,_=>by simp at h
  | p :: P,w :: vs,0,m,nd,h1,h2,hk=>by
    simp at h1 h2;subst h1;subst h2
    show bindC kindOf ((p,w) :: P.zip vs) m p=_
    unfold bindC
    rw [pL fun v hv=>(List.nodup_cons.mp nd).1 (List.of_mem_zip hv).1,if_neg hk]
    simp
  | p :: P,w :: vs,i + 1,m,nd,h1,h2,hk=>by
    show bindC kindOf ((p,w) :: P.zip vs) m x=_
    unfold bindC
    exact pN (i:=i) (List.nodup_cons.mp nd).2 (by simpa using h1) (by simpa using h2) hk
def gQ (N:List Str) (vs:List V):St:=vs.map some++List.replicate (N.length - vs.length) none
def kP (CX:CXT) (P:Program) (w:World) (K:PySem.W.Frag) (mg:Str→Option Value) (base:Heap) (N:List Str) (qual:Str) (scope:Scope) (f:Addr) (cd:Value) (A:Around) (outer:List Env) (s:Shared) (H:Hp) (E:XK):Cx where
  prog:=P
  w:=w
  K:=K
  mg:=mg
  base:=base
  A:=A.deeper (envOfC qual scope s.heap.objs.size f cd)
  N:=N
  s₀ := s
  H₀ := H
  env:=envOfC qual scope s.heap.objs.size f cd
  outer:=outer
  stack:=envOfC qual scope s.heap.objs.size f cd :: outer
  ex:=[]
  calm:=true
  fn:=fun _=>true
  pn:=[]
  xe:=fun e s'=>wpAny (model P w) (A.deeper (envOfC qual scope s.heap.objs.size f cd)) (leaving (envOfC qual scope s.heap.objs.size f cd) e) (fun _ s''=>CX outer H s E e s'') (fun e' s''=>CX outer H s E e' s'') s'
theorem tN {sc:Scope}{n:Nat}{x:Str}(h:sc.names.lookup x=some .cell):∃ c,(cellsFrom n sc.names []).lookup x=some c:=by
  have q:=PySem.W.cellsFrom_some sc.names n [] (.inl h)
  exact Option.isSome_iff_exists.mp q
theorem xG {CX:CXT}{P:Program}{w:World}{K:PySem.W.Frag}{mg:Str→Option Value}{base:Heap}{N ps:List Str}{qual:Str}{scope:Scope}{f:Addr}{cd:Value}{A:Around}{outer:List Env}{s s1:Shared}{H:Hp}{E:XK}{us:List Value}{vs:List V}
    (S:a4 N ps scope) (hd:A.handled=none) (e0:A1 P w K mg base A outer s H) (hl:vs.length=ps.length) (r:aL vs us)
    (x:InCallC s s.heap.objs.size (bindL (envOfC qual scope s.heap.objs.size f cd).kindOf (ps.zip us) fun _=>none) (cellsFrom (s.heap.objs.size + 1) scope.names []) (bindC (envOfC qual scope s.heap.objs.size f cd).kindOf (ps.zip us) fun _=>none) s1) :
    Inv (kP CX P w K mg base N qual scope f cd A outer s H E) [] (gQ N vs) H s1:=by
  have hpl:ps.length≤N.length:=by have:=congrArg List.length S.pre;rw [List.length_take] at this;omega
  obtain⟨h1,tk,rfl,hk⟩:=x.done
  have noA:∀ b:Addr,b∉(kP CX P w K mg base N qual scope f cd A outer s H E).ex:=fun b z=>absurd (show b∈([] : List Addr) from z) (by simp)
  refine⟨⟨e0.mod,S.kind,rfl,rfl,Nat.le_refl _,fun y z c h1 h2 => ?_,fun y hy => ?_,fun y c _ h => ?_,fun _=>hd,Around.frames_deeper e0.frames,.inr ⟨rfl,rfl⟩,fun b z=>absurd z (noA b),e0.bs,e0.bsz,fun b _ _=>noA b,fun b z=>absurd z (noA b),e0.funs,e0.frf⟩,
    rfl,e0.bare,Un.kept hk,⟨_,x.toInCall.ns,fun i y v h1 h2 h3 => ?_⟩,fun y c h=>⟨_,x.cell y c h⟩,e0.hok.fresh (Nat.le_refl _),fun y c h => ?_,fun p hp=>absurd (show p∈([] : List (Addr × Obj)) from hp) (by simp),e0.hok.kept hk,?_⟩
  · exact name_of_addr x.apart (PySem.mem_of_lookup h1) (PySem.mem_of_lookup h2)
  · have hy:scope.names.lookup y=some .cell∨scope.names.lookup y=some .free:=hy
    rcases hy with hy|hy
    · exact tN hy
    · exact absurd rfl (S.nofree _ (PySem.mem_of_lookup hy))
  · exact Nat.le_of_lt (x.above y c (PySem.mem_of_lookup h))
  · have hi:i < vs.length:=by
      unfold gQ at h2
      by_cases hi:i < vs.length
      · exact hi
      · rw [List.getElem?_append_right (by simpa using hi)] at h2
        rw [List.getElem?_replicate] at h2
        split at h2<;>cases h2
    have ha:vs[i]? = some v:=by
      unfold gQ at h2
      rw [List.getElem?_append_left (by simpa using hi),List.getElem?_map] at h2
      cases e:vs[i]? with
      | none=>rw [e] at h2;cases h2
      | some a=>rw [e] at h2;cases h2;rfl
    obtain⟨u,hu,rv⟩:=r.get ha
    have hp:ps[i]? = some y:=by
      rw [← S.pre,List.getElem?_take_of_lt (by omega)];exact h1
    have ndP:ps.Nodup:=by rw [← S.pre];exact S.nd.sublist (List.take_sublist _ _)
    refine⟨u,rv,?_⟩
    rcases S.par y (List.mem_of_getElem? hp) with k|k
    · exact .inl ⟨k,pM ndP hp hu k⟩
    · obtain⟨c,e⟩:=tN (n:=s.heap.objs.size + 1) k
      refine .inr ⟨.inl k,c,e,?_⟩
      have q:=x.cell y c e
      rw [pN ndP hp hu (by show scope.names.lookup y≠_;rw [k];decide)] at q
      exact q
  · exact e0.hok.fresh (Nat.le_of_lt (x.above y c (PySem.mem_of_lookup h)))
  · unfold gQ
    show _=N.length
    rw [List.length_append,List.length_map,List.length_replicate]
    omega
theorem Ci {CX:CXT}{P:Program}{w:World}{K:PySem.W.Frag}{mg:Str→Option Value}{base:Heap}{k:Nat}{f:Addr}{name qual:Str}{params:Arguments}{body:List Stmt}{scope:Scope}{dV kV doc pm cdv ct oc:Value}{an od:Option Addr}
    {osl:Array (Option Value)} {N ps:List Str} {sp:Sp} (lk:K.lookup f=some ⟨oc,od,.func (PySem.W.fnOf name qual params body scope dV kV doc pm an cdv ct),osl⟩) (hcd:PySem.W.codeIn K cdv qual=true) (S:a4 N ps scope)
    (len:∀ vs H Q E,sp vs H Q E→vs.length=ps.length)
    (hbody:∀ (A:Around) (outer:List Env) (s:Shared) (H:Hp) (vs:List V) (Q:VK) (E:XK),eC k (A.deeper (envOfC qual scope s.heap.objs.size f cdv))→sp vs H Q E →
      ∃ t,PSs (kP CX P w K mg base N qual scope f cdv A outer s H E) body t∧t { nx:=fun _ H'=>Q .non H',rt:=Q } (gQ N vs) H) :
    b5 P w K mg base CX (k + 1) f (PySem.W.fnOf name qual params body scope dV kV doc pm an cdv ct) ps sp:=by
  refine⟨len,fun A outer s H args us vs Q E hr e0 hb r hsp => ?_⟩
  have hl:=len _ _ _ _ hsp
  have KX:K.In s.heap:=e0.mod.kin.keeps fun b o e=>(e0.bs b o e).1
  have lim:s.heap.NoLimit:=e0.mod.nolimit.keeps fun b o e=>(e0.bs b o e).1
  have hkind:∀ y∈ps.zip us,scope.names.lookup y.1=some .local ∨(scope.names.lookup y.1=some .cell∧((cellsFrom (s.heap.objs.size + 1) scope.names []).lookup y.1).isSome=true):=fun ⟨n,v⟩ hy=>by
    rcases S.par n (List.of_mem_zip hy).1 with q|q
    · exact .inl q
    · exact .inr ⟨q,PySem.W.cellsFrom_some _ _ _ (.inl q)⟩
  refine codeAny_call_function hr.depth (KX _ _ lk) rfl S.co S.gen rfl (PySem.W.codeRec_of KX hcd) (hb _ _ _ _ ?_)
  refine wpAny_newFunctionEnv_cells S.kind hkind fun env he s1 x => ?_
  subst he
  refine⟨lim.keeps x.toInCall.keep,codeAny_func ?_⟩
  obtain⟨t,ht,hq⟩:=hbody A outer s H vs Q E (hr.deeper _) hsp
  have I:Inv (kP CX P w K mg base N qual scope f cdv A outer s H E) [] (gQ N vs) H s1:=xG S hr.hd e0 hl r x
  refine wpAny_mono (ht [] s1 (gQ N vs) H _ I hq) (fun fl s' hs => ?_) fun e s' hs=>hs
  have fin:∀ {σ':St} {H':Hp} {v:V} {u:Value},Inv (kP CX P w K mg base N qual scope f cdv A outer s H E) [] σ' H' s'→bf v u→Q v H'→CE outer P w H s Q u s' :=
    fun {σ' H' v u} J rv q=>⟨v,H',J.os,J.bare,J.base,J.hok,rv,q⟩
  cases fl with
  | ret u =>
    obtain⟨v,σ',H',J,rv,q⟩:=hs
    exact fin J rv q
  | next =>
    obtain⟨σ',H',J,q⟩:=hs
    exact fin (v:=V.non) (u:=Value.none) J rfl q
  | brk =>
    obtain⟨_,_,_,q⟩:=hs
    exact False.elim q
  | cont =>
    obtain⟨_,_,_,q⟩:=hs
    exact False.elim q
end L2
namespace L2
open PySem PySem.Spec PyProof.Rows
section
variable {X:Cx} {x:Str} {p pos:Pos} {e:Expr} {es:List Expr} {t:TA} {id T:String} {r:List V→Hp→VK→Prop}
def tCB (r:List V→Hp→VK→Prop) (t:TA):TE:=fun σ H Q=>t σ H fun vs H1=>r vs H1 Q
theorem gR (hc:d9 X (.builtin id) r) (hg:Gl X x) (hm:X.mg x=none) (hv:bootBuiltins x=some (.builtin id)) (ha:PA X (e :: es) t) (hn:x ≠ "__name__" := by decide) (hdb:(x == ("__debug__" : Str))=false:=by decide)
    (he:starEach (e :: es) X.env=(false,eval e X.env) :: starEach es X.env:=by rfl) (hpl:(backTo pos (starEach es X.env)).any (·.1)=false:=by rfl):PE X (.Call (.Name x p) (e :: es) [] pos) (tCB r t):=by
  intro pins s σ H Q I h
  refine wpAny_Call_Name_kw (lJ I hg hm hv ?_ hn hdb)
  exact PyProof.Rows.callWith_builtin1 (thn (ha pos pins s σ H _ I h) fun us s1 ⟨vs,H1,I1,r1,q1⟩=>hc pins s1 σ H1 vs us Q I1 r1 q1) he hpl
theorem pO (hc:d9 X (.type T) r) (hg:Gl X x) (hm:X.mg x=none) (hv:bootBuiltins x=some (.type T)) (ha:PA X (e :: es) t) (hn:x ≠ "__name__" := by decide) (hdb:(x == ("__debug__" : Str))=false:=by decide)
    (he:starEach (e :: es) X.env=(false,eval e X.env) :: starEach es X.env:=by rfl) (hpl:(backTo pos (starEach es X.env)).any (·.1)=false:=by rfl):PE X (.Call (.Name x p) (e :: es) [] pos) (tCB r t):=by
  intro pins s σ H Q I h
  refine wpAny_Call_Name_kw (lJ I hg hm hv ?_ hn hdb)
  exact PyProof.Rows.callWith_type1 (thn (ha pos pins s σ H _ I h) fun us s1 ⟨vs,H1,I1,r1,q1⟩=>hc pins s1 σ H1 vs us Q I1 r1 q1) he hpl
end
end L2
namespace HT
open PySem PyProof.Rows
def bJ:List Int→List Int→Bool
  | [],[]=>false
  | [],_ :: _=>true
  | _ :: _,[]=>false
  | x :: xs,y :: ys=>if x=y then bJ xs ys else decide (x < y)
section
open PySem.SeqAt
open PySem.AutoSeq1 (wpAny_loadPart')
open PySem.MeetsSeq PySem.MeetsSeq2 PySem.MeetsSeq3
end
section
variable {prog:Program} {w:World} {A:Around} {E:Value→Shared→Prop} {s:Shared}
theorem cat_tup {t b:Addr}{vs ws:List Value}{Q:Value→Shared→Prop}(ht:IsTup s.heap t vs.toArray)(hb:IsTup s.heap b ws.toArray)(hv:vs≠[])
    (h1:ws=[]→Q (.ref t) s) (h2:ws≠[]→Q (.ref s.heap.objs.size) { s with heap:=s.heap.push { cls:=.type "tuple",data:=.seq (vs++ws).toArray } })
    (hsz:vs.length + ws.length≤sizeLine):wpAny (model prog w) A (binaryOp .Add (.ref t) (.ref b)) Q E s:=by
  obtain⟨⟨cls,dd,data,sl⟩,ho,hc,n,hd⟩:=id ht
  obtain⟨⟨cls2,dd2,data2,sl2⟩,ho2,hc2,n2,hd2⟩:=id hb
  simp only at hc hd hc2 hd2
  subst hc hd hc2 hd2
  have e:vs.toArray++ws.toArray=(vs++ws).toArray:=by simp
  by_cases hw:ws=[]
  · exact concat_meets ⟨_,ho,rfl⟩ ⟨_,ho2,rfl⟩ noFill_tuple_add seq_tuple_add PySem.F.slot_tuple_add PySem.F.entry_tuple_add (PySem.F.args_tuple_add_2 _ _)
      (tuple_addW1 t b vs.toArray ws.toArray n n2 dd dd2 sl sl2 (by simpa using hv) (by simp [hw])) ⟨ho,ho2,h1 hw⟩
  · refine concat_meets ⟨_,ho,rfl⟩ ⟨_,ho2,rfl⟩ noFill_tuple_add seq_tuple_add PySem.F.slot_tuple_add PySem.F.entry_tuple_add (PySem.F.args_tuple_add_2 _ _)
      (tuple_addW2 t b vs.toArray ws.toArray n n2 dd dd2 sl sl2 (by simpa using hv) (by simpa using hw) (by rw [List.size_toArray,List.size_toArray];exact hsz)) ⟨ho,ho2,?_⟩
    rw [e]
    exact h2 hw
def sIx (n d:Nat):Option Int→Nat
  | none=>d
  | some v=>if v < 0 then (v + (n:Int)).toNat else min v.toNat n
end
end HT
namespace L2
open PySem PySem.Spec PyProof.Rows
abbrev TO:=St→Hp→(Option Int→Hp→Prop)→Prop
def PO (X:Cx) (e:Option Expr) (t:TO):Prop :=
  ∀ (pins:List (Addr × Obj)) (s:Shared) (σ:St) (H:Hp) (Q:Option Int→Hp→Prop),Inv X pins σ H s→t σ H Q →
    wpAny (model X.prog X.w) X.A (evalPart e X.env) (fun u s'=>∃ o H',Inv X pins σ H' s'∧IsPart u o∧Q o H') X.xe s
def A2:TO:=fun _ H Q=>Q none H
def Eu (t:TE):TO:=fun σ H Q=>t σ H fun x H1=>∃ i,x=.int i∧Q (some i) H1
theorem vv {ns:List Int}:∀ {us:List Value},aL (ns.map V.int) us→IntsAre us ns:=by
  induction ns with
  | nil=>intro us r;rw [List.map_nil] at r;cases r;exact .nil
  | cons n ns ih =>
    intro us r
    rw [List.map_cons] at r
    cases r with
    | cons r1 r2 =>
      obtain⟨t,e⟩:=r1
      subst e
      exact .cons n t (ih r2)
section
variable {X:Cx} {e:Expr} {te:TE} {lo hi:Option Expr} {tl th:TO} {pos p2:Pos}
theorem A3:PO X none A2:=by
  intro pins s σ H Q I h
  rw [evalPart_none]
  exact wpAny_pure ⟨none,H,I,.none,h⟩
theorem A4 (h:PE X e te):PO X (some e) (Eu te):=by
  intro pins s σ H Q I hw
  rw [evalPart_some]
  refine thn (h pins s σ H _ I hw) fun u s1 ⟨x,H1,I1,r1,q1⟩ => ?_
  obtain⟨i,rfl,q⟩:=q1
  obtain⟨t,rfl⟩:=r1
  exact⟨some i,H1,I1,.int i t,q⟩
def SlR (X:Cx) (r:V→Option Int→Option Int→Hp→VK→Prop):Prop :=
  ∀ (pins:List (Addr × Obj)) (s:Shared) (σ:St) (H:Hp) (x:V) (v vl vu:Value) (lo hi:Option Int) (sl:Addr) (Q:VK),Inv X pins σ H s→bf x v→s.heap.IsSliceOf sl vl vu .none→IsPart vl lo→IsPart vu hi→r x lo hi H Q →
    ∃ T id,typeLookup (.type T) "__getitem__" = pure (some (.builtin id))∧s.TypeIs v T∧wpAny (model X.prog X.w) X.A (getItem v (.ref sl)) (EP X pins σ Q) X.xe s
def tSl (r:V→Option Int→Option Int→Hp→VK→Prop) (te:TE) (tl th:TO):TE:=fun σ H Q=>te σ H fun x H1=>tl σ H1 fun l H2=>th σ H2 fun u H3=>r x l u H3 Q
theorem zc {r:V→Option Int→Option Int→Hp→VK→Prop}(hr:SlR X r)(he:PE X e te)(hl:PO X lo tl)(hu:PO X hi th):PE X (.Subscript e (.Slice lo hi none p2) pos) (tSl r te tl th):=by
  intro pins s σ H Q I h
  refine Subscript_ (thn (he pins s σ H _ I h) fun v s1 ⟨x,H1,I1,r1,q1⟩ => ?_)
  refine wpAny_Slice (thn (hl pins s1 σ H1 _ I1 q1) fun vl s2 ⟨l,H2,I2,pl,q2⟩=>thn (hu pins s2 σ H2 _ I2 q2) fun vu s3 ⟨u,H3,I3,pu,q3⟩ => ?_)
  rw [evalPart_none]
  refine wpAny_pure ?_
  have I4:Inv X pins σ H3 { s3 with heap:=s3.heap.push { cls:=.type "slice",data:=.fields #[vl,vu,.none] } }:=I3.kept (t':=s3.toks) fun b ob q=>Heap.get?_push_of_some _ q
  obtain⟨T,id,hT,ht,hg⟩:=hr pins { s3 with heap:=s3.heap.push { cls:=.type "slice",data:=.fields #[vl,vu,.none] } } σ H3 x v vl vu l u s3.heap.objs.size Q I4 r1 (Heap.IsSliceOf.new ..) pl pu q3
  show wpAny (model X.prog X.w) X.A (subscriptTail e (.Slice lo hi none p2) v (.ref s3.heap.objs.size)) (EP X pins σ Q) X.xe { s3 with heap:=s3.heap.push { cls:=.type "slice",data:=.fields #[vl,vu,.none] } }
  exact tail_any (ops:=[.ref s3.heap.objs.size,v]) ht hT hg (by with_unfolding_all rfl)
def zd (K:PySem.W.Frag):R2:=fun x y H Q=>∃ a b xs ys,x=.ref a∧y=.ref b∧SqT K H a xs∧SqT K H b ys∧xs≠[]∧xs.length + ys.length≤sizeLine ∧
  (ys=[]→Q (.ref a) H)∧(ys≠[] → ∀ p,H p=none→Q (.ref p) (upd H p (.tup (xs++ys))))
theorem aL.nil_iff {xs:List V}{us:List Value}(r:aL xs us):us=[] ↔ xs=[]:=by
  cases r with
  | nil=>simp
  | cons _ _=>simp
theorem A5:OpR X (binaryOp .Add) (zd X.K):=by
  intro pins s σ H x y v u Q I rx ry h
  obtain⟨a,b,xs,ys,rfl,rfl,ha,hb,hx,hz,q1,q2⟩:=h
  cases rx
  cases ry
  obtain⟨its,r1,p1,_⟩:=I.tuple ha
  obtain⟨its2,r2,p2,_⟩:=I.tuple hb
  refine HT.cat_tup p1 p2 (fun z=>hx (r1.nil_iff.mp z)) (fun z=>⟨.ref a,H,I,rfl,q1 (r2.nil_iff.mp z)⟩) (fun z => ?_) (by rw [← r1.length,← r2.length];exact hz)
  refine⟨.ref s.heap.objs.size,_,I.laid (t':=s.toks) (o:=.tup (xs++ys)) (fun b ob q=>Heap.get?_push_of_some _ q) (Nat.le_refl _) ?_,rfl,q2 (fun w=>z (r2.nil_iff.mpr w)) _ (I.hok.fresh (Nat.le_refl _))⟩
  exact⟨by rw [List.length_append];exact hz,_,r1.append r2,IsTup.new _ _⟩
end
end L2
namespace L2
open PySem PySem.Spec PyProof.Rows
def ixN (n:Nat) (i:Int):Option Nat:=if 0≤i then (if i < n then some i.toNat else none) else if -(n:Int)≤i then some (i + n).toNat else none
def atI {α : Type} (xs:List α) (i:Int):Option α := (ixN xs.length i).bind fun j=>xs[j]?
theorem wP {n:Nat}{i:Int}{j:Nat}(h:ixN n i=some j):seqIndex? i n=some j∧j < n ∧ -(n:Int)≤i∧i < n:=by
  unfold ixN at h
  by_cases h0:0≤i
  · rw [if_pos h0] at h
    by_cases h1:i < n
    · rw [if_pos h1] at h
      have e:i.toNat=j:=Option.some.inj h
      exact⟨by rw [seqIndex_of h0 h1,e],by omega,by omega,h1⟩
    · rw [if_neg h1] at h;cases h
  · rw [if_neg h0] at h
    by_cases h1 : -(n:Int)≤i
    · rw [if_pos h1] at h
      have e:(i + n).toNat=j:=Option.some.inj h
      exact⟨by rw [seqIndex_neg (by omega) h1,e],by omega,h1,by omega⟩
    · rw [if_neg h1] at h;cases h
theorem qy {α : Type}{xs:List α}{i:Int}{v : α}(h:atI xs i=some v):∃ j,seqIndex? i xs.length=some j∧xs[j]? = some v∧j < xs.length ∧ -(xs.length:Int)≤i∧i < xs.length:=by
  unfold atI at h
  cases e:ixN xs.length i with
  | none=>rw [e] at h;cases h
  | some j =>
    rw [e] at h
    obtain⟨h1,h2,h3,h4⟩:=wP e
    exact⟨j,h1,h,h2,h3,h4⟩
theorem ee {α : Type}{xs:List α}{j:Nat}{v : α}(h:xs[j]? = some v):atI xs (j:Int)=some v:=by
  have hj:j < xs.length:=(List.getElem?_eq_some_iff.mp h).1
  have e:ixN xs.length (j:Int)=some j:=by
    unfold ixN
    rw [if_pos (by omega),if_pos (by omega)];simp
  unfold atI;rw [e];exact h
def lq (b:Expr):Prop:=∀ o i,subscripted b false o i=operate [o,i] (getItem o i)
def IxR (X:Cx) (r:R2):Prop :=
  ∀ (value slice:Expr) (pins:List (Addr × Obj)) (s:Shared) (σ:St) (H:Hp) (x y:V) (v u:Value) (Q:VK),Inv X pins σ H s→bf x v→bf y u→r x y H Q →
    subscripted slice false v u=operate [v,u] (getItem v u)→wpAny (model X.prog X.w) X.A (subscriptTail value slice v u) (EP X pins σ Q) X.xe s
def MtR (X:Cx) (id:String) (r:V→List V→Hp→VK→Prop):Prop :=
  ∀ (pins:List (Addr × Obj)) (s:Shared) (σ:St) (H:Hp) (x:V) (xs:List V) (v:Value) (us:List Value) (Q:VK),Inv X pins σ H s→bf x v→aL xs us→r x xs H Q →
    wpAny (model X.prog X.w) X.A (call (.builtin id) (v :: us)) (EP X pins σ Q) X.xe s
section
variable {X:Cx} {a b:Expr} {ta tb:TE} {pos:Pos}
theorem IxR.or {r r':R2}(h:IxR X r)(h':IxR X r'):IxR X (fun x y H Q=>r x y H Q∨r' x y H Q):=by
  intro value slice pins s σ H x y v u Q I rx ry q hs
  rcases q with q|q
  · exact h value slice pins s σ H x y v u Q I rx ry q hs
  · exact h' value slice pins s σ H x y v u Q I rx ry q hs
theorem ze {r:R2}(hr:IxR X r)(ha:PE X a ta)(hb:PE X b tb)(hs:lq b):PE X (.Subscript a b pos) (tOp r ta tb):=by
  intro pins s σ H Q I h
  exact Subscript_ (CU ha hb I h fun v u s2 x y H2 I2 rx ry q=>hr a b pins s2 σ H2 x y v u Q I2 rx ry q (hs _ _))
def Ev (K:PySem.W.Frag):R2:=fun x y H Q=>∃ p xs i v,x=.ref p∧y=.int i∧SqL K H p xs∧atI xs i=some v∧Q v H
def Ew (K:PySem.W.Frag):R2:=fun x y H Q=>∃ p xs i v,x=.ref p∧y=.int i∧SqT K H p xs∧atI xs i=some v∧Q v H
def Ex:R2:=fun x y H Q=>∃ z i c,x=.str z∧y=.int i∧z.length≤sizeLine∧atI z.cps.toList i=some c∧Q (.str ⟨#[c]⟩) H
theorem wQ:IxR X (Ev X.K):=by
  intro value slice pins s σ H x y v u Q I rx ry h hs
  obtain⟨p,xs,i,z,rfl,rfl,hq,he,q⟩:=h
  cases rx
  obtain⟨t,rfl⟩:=ry
  obtain⟨its,r,pl,hz⟩:=I.list hq
  obtain⟨j,h1,h2,h3,h4,h5⟩:=qy he
  obtain⟨w,ew,rw'⟩:=r.get h2
  have hl:=r.length
  have hn:=jX
  have fin:EP X pins σ Q w s:=⟨z,H,I,rw',q⟩
  by_cases h0:0≤i
  · have hj:i.toNat=j:=by
      rw [seqIndex_of h0 h5] at h1
      exact Option.some.inj h1
    exact item_listR pl.isList h0 (by omega) (by rw [hj];simpa using ew) fin hs
  · have hj:(i + (its.toArray.size:Int)).toNat=j:=by
      rw [seqIndex_neg (by omega) h4] at h1
      rw [List.size_toArray,← hl]
      exact Option.some.inj h1
    exact subscriptTail_builtinR (x:=w) pl.isList.typeIs slot_list_getitem.lookup
      (wpAny_getItem_list_neg (Q:=fun r s'=>r=w∧EP X pins σ Q r s') pl.isList (by omega) (by rw [List.size_toArray]<;>omega) (by omega) (by rw [hj];simpa using ew) ⟨rfl,fin⟩) hs
theorem C1:IxR X (Ew X.K):=by
  intro value slice pins s σ H x y v u Q I rx ry h hs
  obtain⟨p,xs,i,z,rfl,rfl,hq,he,q⟩:=h
  cases rx
  obtain⟨t,rfl⟩:=ry
  obtain⟨its,r,pl,hz⟩:=I.tuple hq
  obtain⟨j,h1,h2,h3,h4,h5⟩:=qy he
  obtain⟨w,ew,rw'⟩:=r.get h2
  have hl:=r.length
  have hn:=jX
  have fin:EP X pins σ Q w s:=⟨z,H,I,rw',q⟩
  exact subscriptTail_builtinR (x:=w) pl.typeIs slot_tuple_getitem.lookup
    (getItem_tuple (j:=j) (Q:=fun r s'=>r=w∧EP X pins σ Q r s') pl (by omega) (by omega) (by rw [List.size_toArray,← hl];exact h1) (by simpa using ew) ⟨rfl,fin⟩) hs
theorem zf:IxR X Ex:=by
  intro value slice pins s σ H x y v u Q I rx ry h hs
  obtain⟨z,i,c,rfl,rfl,hz,he,q⟩:=h
  obtain⟨t,rfl⟩:=rx
  obtain⟨t',rfl⟩:=ry
  obtain⟨j,h1,h2,h3,h4,h5⟩:=qy he
  have hl:z.cps.toList.length=z.length:=by simp [Str.length]
  rw [hl] at h1 h4 h5
  have hn:=jX
  exact tail_any (typeIs_str s z t) slot_str_getitem.lookup (getItem_str (c:=c) (by
    have e1:decide (i < -(2 ^ 63:Int))=false:=decide_eq_false (by omega)
    have e2:decide (i ≥ 2 ^ 63)=false:=decide_eq_false (by omega)
    rw [e1,e2,Bool.or_false]) (by rw [h1];simpa using h2) ⟨.str ⟨#[c]⟩,H,I.tok _,⟨_,rfl⟩,q⟩) hs
def rIx (K:PySem.W.Frag):R2:=fun x y H Q=>Ev K x y H Q∨Ew K x y H Q∨Ex x y H Q
theorem C2:IxR X (rIx X.K):=wQ.or (C1.or zf)
theorem vw (its:List Value) (n j:Nat) (u:Value):Obj.mapSeq (·.setIfInBounds j u) { cls:=.type "list",data:=.seq its.toArray n } = { cls:=.type "list",data:=.seq (its.set j u).toArray n }:=by
  simp [Obj.mapSeq]
theorem Inv.lst {pins:List (Addr × Obj)}{σ:St}{H:Hp}{s:Shared}{p:Addr}{xs:List V}(I:Inv X pins σ H s)(h:H p=some (.lst xs)) :
    ∃ (its:List Value) (n:Nat),aL xs its∧s.heap.get? p=some { cls:=.type "list",data:=.seq its.toArray n } ∧ xs.length≤sizeLine:=by
  obtain⟨z,its,n,r,e⟩:=I.hok p _ h
  exact⟨its,n,r,e,z⟩
theorem Inv.lstUpd {pins:List (Addr × Obj)}{σ:St}{H:Hp}{s:Shared}{p:Addr}{xs ys:List V}{its its':List Value}{n n':Nat}{f:Obj→Obj}(I:Inv X pins σ H s)(h:H p=some (.lst xs))
    (ho:s.heap.get? p=some { cls:=.type "list",data:=.seq its.toArray n }) (hf:f { cls:=.type "list",data:=.seq its.toArray n } = { cls:=.type "list",data:=.seq its'.toArray n' }) (r:aL ys its') (hz:ys.length≤sizeLine) (t:Nat) :
    Inv X pins σ (upd H p (.lst ys)) { s with heap:=s.heap.update p f,toks:=t }:=by
  have e:(s.heap.update p f).get? p=some { cls:=.type "list",data:=.seq its'.toArray n' }:=by
    rw [Heap.get?_update_self f ho (by rw [hf]<;>rfl),hf]
  refine I.write (x:=p) (e:=p) (by rw [h];trivial) (.inl rfl) (fun b u hb q=>(Heap.get?_update_other _ _ (Ne.symm hb)).trans q) ⟨_,e⟩ ?_
  exact⟨hz,its',n',r,e⟩
def Ey:V→V→V→Hp→(Hp→Prop)→Prop:=fun o i v H Q=>∃ p xs k j,o=.ref p∧i=.int k∧H p=some (.lst xs)∧ixN xs.length k=some j∧Q (upd H p (.lst (xs.set j v)))
theorem zg:CP X Ey:=by
  intro pins s σ H o i v ov iv u Q I ro ri rv h
  obtain⟨p,xs,k,j,rfl,rfl,hp,hj,q⟩:=h
  cases ro
  obtain⟨t,rfl⟩:=ri
  obtain⟨its,n,r,ho,hz⟩:=I.lst hp
  obtain⟨h1,h2,h3,h4⟩:=wP hj
  have hl:=r.length
  have hn:=jX
  have I':Inv X pins σ (upd H p (.lst (xs.set j v))) { s with heap:=s.heap.update p (Obj.mapSeq (·.setIfInBounds j u)) } :=
    I.lstUpd hp ho (vw its n j u) (r.set rv j) (by rw [List.length_set];exact hz) s.toks
  by_cases h0:0≤k
  · have hk:k.toNat=j:=by
      rw [seqIndex_of h0 h4] at h1
      exact Option.some.inj h1
    exact PySem.W.ki_setAt ho h0 (by omega) (by rw [List.size_toArray,← hl];exact h4) (by rw [hk];exact⟨_,I',q⟩)
  · have hk:(k + (its.toArray.size:Int)).toNat=j:=by
      rw [seqIndex_neg (by omega) h3] at h1
      rw [List.size_toArray,← hl]
      exact Option.some.inj h1
    exact PySem.W.ki_setBack ho (by omega) (by rw [List.size_toArray,← hl];exact h3) (by omega) (by rw [hk];exact⟨_,I',q⟩)
def iG:V→Bool
  | .non=>true
  | .bl _=>true
  | .int _=>true
  | .str _=>true
  | _=>false
def eqV:V→V→Bool
  | .non,.non=>true
  | .bl a,.bl b=>a == b
  | .bl a,.int b=>(if a then 1 else 0) == b
  | .int a,.bl b=>a == (if b then 1 else 0)
  | .int a,.int b=>a == b
  | .str a,.str b=>a == b
  | _,_=>false
theorem C3 {A:Around}{s:Shared}{y x:V}{u v:Value}(ry:bf y u)(rx:bf x v)(fy:iG y=true)(fx:iG x=true):SeqAt.EqAt A s u v (eqV y x):=by
  cases y with
  | non =>
    cases ry
    cases x with
    | non=>cases rx;exact SeqAt.EqAt.same _
    | bl b=>cases rx;exact SeqAt.EqAt.none_bool b
    | int b=>obtain⟨t,rfl⟩:=rx;exact SeqAt.EqAt.none_int b t
    | str b=>obtain⟨t,rfl⟩:=rx;exact SeqAt.EqAt.none_str b t
    | _=>exact absurd (show false=true from fx) Bool.false_ne_true
  | bl a =>
    cases ry
    cases x with
    | non=>cases rx;exact SeqAt.EqAt.bool_none a
    | bl b=>cases rx;exact SeqAt.EqAt.bool_bool a b
    | int b=>obtain⟨t,rfl⟩:=rx;exact SeqAt.EqAt.bool_int a b t
    | str b=>obtain⟨t,rfl⟩:=rx;exact SeqAt.EqAt.bool_str a b t
    | _=>exact absurd (show false=true from fx) Bool.false_ne_true
  | int a =>
    obtain⟨t',rfl⟩:=ry
    cases x with
    | non=>cases rx;exact SeqAt.EqAt.int_none a t'
    | bl b=>cases rx;exact SeqAt.EqAt.int_bool a t' b
    | int b=>obtain⟨t,rfl⟩:=rx;exact SeqAt.EqAt.int_int a t' b t
    | str b=>obtain⟨t,rfl⟩:=rx;exact SeqAt.EqAt.int_str a t' b t
    | _=>exact absurd (show false=true from fx) Bool.false_ne_true
  | str a =>
    obtain⟨t',rfl⟩:=ry
    cases x with
    | non=>cases rx;exact SeqAt.EqAt.str_none a t'
    | bl b=>cases rx;exact SeqAt.EqAt.str_bool a t' b
    | int b=>obtain⟨t,rfl⟩:=rx;exact SeqAt.EqAt.str_int a t' b t
    | str b=>obtain⟨t,rfl⟩:=rx;exact SeqAt.EqAt.str_str a t' b t
    | _=>exact absurd (show false=true from fx) Bool.false_ne_true
  | _=>exact absurd (show false=true from fy) Bool.false_ne_true
def eqU (x:V) (u:Value):Bool:=match u with
  | .none=>eqV .non x
  | .bool b=>eqV (.bl b) x
  | .int i _=>eqV (.int i) x
  | .str z _=>eqV (.str z) x
  | _=>false
theorem zh {x y:V}{u:Value}(r:bf y u)(f:iG y=true):eqU x u=eqV y x:=by
  cases y with
  | non=>cases r;rfl
  | bl b=>cases r;rfl
  | int i=>obtain⟨t,rfl⟩:=r;rfl
  | str z=>obtain⟨t,rfl⟩:=r;rfl
  | _=>exact absurd (show false=true from f) Bool.false_ne_true
theorem qz {x:V}:∀ {xs:List V} {us:List Value},aL xs us→xs.all iG=true→us.any (eqU x)=xs.any fun y=>eqV y x
  | _,_,.nil,_=>rfl
  | y :: xs,u :: us,.cons r t,f=>by
    rw [List.all_cons,Bool.and_eq_true] at f
    rw [List.any_cons,List.any_cons,zh r f.1,qz t f.2]
theorem lO {A:Around}{s:Shared}{x:V}{v:Value}(rx:bf x v)(fx:iG x=true):∀ {xs:List V} {us:List Value},aL xs us→xs.all iG=true → ∀ u∈us,SeqAt.EqAt A s u v (eqU x u)
  | _,_,.nil,_=>fun u hu=>by cases hu
  | y :: xs,u :: us,.cons r t,f=>fun u' hu=>by
    rw [List.all_cons,Bool.and_eq_true] at f
    rcases List.mem_cons.mp hu with rfl|hu
    · rw [zh r f.1];exact C3 r rx f.1 fx
    · exact lO rx fx t f.2 u' hu
def inV (x:V) (xs:List V):Bool:=xs.any fun y=>eqV y x
def rIn (K:PySem.W.Frag) (neg:Bool):R2:=fun x y H Q=>∃ p xs,y=.ref p∧(SqL K H p xs∨SqT K H p xs)∧iG x=true∧xs.all iG=true∧Q (.bl (if neg then !inV x xs else inV x xs)) H
theorem pP:OpR X (compareOp .In) (rIn X.K false):=by
  intro pins s σ H x y v u Q I rx ry h
  obtain⟨p,xs,rfl,hq,fx,fs,q⟩:=h
  cases ry
  rcases hq with hq|hq
  · obtain⟨its,r,pl,hz⟩:=I.list hq
    refine SeqAt.in_listAt (eqU x) pl.isList (fun w hw=>lO rx fx r fs w (by simpa using hw)) ⟨.bl _,H,I,rfl,?_⟩
    rw [show its.toArray.any (eqU x)=its.any (eqU x) by simp,qz r fs]
    exact q
  · obtain⟨its,r,pl,hz⟩:=I.tuple hq
    refine SeqAt.in_tupleAt (eqU x) pl (fun w hw=>lO rx fx r fs w (by simpa using hw)) ⟨.bl _,H,I,rfl,?_⟩
    rw [show its.toArray.any (eqU x)=its.any (eqU x) by simp,qz r fs]
    exact q
theorem qA:d9 X (.builtin "len") (fun xs H Q=>∃ p ys,xs=[.ref p]∧(SqL X.K H p ys∨SqT X.K H p ys)∧Q (.int ys.length) H):=by
  intro pins s σ H xs us Q I r h
  obtain⟨p,ys,rfl,hq,q⟩:=h
  obtain⟨u,rfl,rx⟩:=lL r
  cases rx
  have hn:=jX
  rcases hq with hq|hq
  · obtain⟨its,r',pl,hz⟩:=I.list hq
    have hlen:=r'.length
    exact Calls.call_len_list pl.isList (by simp only [List.size_toArray]<;>omega) ⟨.int ys.length,H,I.tok _,⟨s.toks + 1,by rw [List.size_toArray,hlen]⟩,q⟩
  · obtain⟨its,r',pl,hz⟩:=I.tuple hq
    have hlen:=r'.length
    exact len_tuple pl (by simp only [List.size_toArray]<;>omega) ⟨.int ys.length,H,I.tok _,⟨s.toks + 1,by rw [List.size_toArray,hlen]⟩,q⟩
theorem qB:d9 X (.builtin "len") (fun xs H Q=>∃ z,xs=[.str z]∧z.length≤sizeLine∧Q (.int z.length) H):=by
  intro pins s σ H xs us Q I r h
  obtain⟨z,rfl,hz,q⟩:=h
  obtain⟨u,rfl,t,rfl⟩:=lL r
  have hn:=jX
  exact len_str (by omega) ⟨.int z.length,H,I.tok _,⟨_,rfl⟩,q⟩
theorem qC:d9 X (.type "list") (fun xs H Q=>∃ p ys,xs=[.ref p]∧(SqL X.K H p ys∨SqT X.K H p ys) ∧ ∀ l,H l=none→Q (.ref l) (upd H l (.lst ys))):=by
  intro pins s σ H xs us Q I r h
  obtain⟨p,ys,rfl,hq,q⟩:=h
  obtain⟨u,rfl,rx⟩:=lL r
  cases rx
  have fin:∀ (its:List Value),aL ys its→ys.length≤sizeLine → ∀ (h':Heap) (c':Nat),(∀ b o',s.heap.get? b=some o'→h'.get? b=some o') →
      h'.get? s.heap.objs.size=some { cls:=.type "list",dict:=none,data:=.seq its.toArray c',slots := #[] } → EP X pins σ Q (.ref s.heap.objs.size) { s with heap:=h' }:=fun its r' hz h' c' kp e =>
    ⟨.ref s.heap.objs.size,_,I.laid (t':=s.toks) kp (Nat.le_refl _) (show cB X.prog X.w _ h' _ (.lst ys) from ⟨hz,its,c',r',e⟩),rfl,q _ (I.hok.fresh (Nat.le_refl _))⟩
  rcases hq with hq|hq
  · obtain⟨its,r',pl,hz⟩:=I.list hq
    have hlen:=r'.length
    obtain⟨o,ho,hc,n,hd⟩:=pl.isList
    exact call_list_seq p (.inl rfl) ho hc hd (fun h' c' kp e=>fin its r' hz h' c' kp e) (by simp only [List.size_toArray]<;>omega)
  · obtain⟨its,r',pl,hz⟩:=I.tuple hq
    have hlen:=r'.length
    obtain⟨o,ho,hc,n,hd⟩:=pl
    exact call_list_seq p (.inr rfl) ho hc hd (fun h' c' kp e=>fin its r' hz h' c' kp e) (by simp only [List.size_toArray]<;>omega)
theorem nw:d9 X (.type "tuple") (fun xs H Q=>∃ p ys,xs=[.ref p]∧((SqL X.K H p ys ∧ ∀ l,H l=none→Q (.ref l) (upd H l (.tup ys)))∨(SqT X.K H p ys∧Q (.ref p) H))):=by
  intro pins s σ H xs us Q I r h
  obtain⟨p,ys,rfl,h⟩:=h
  obtain⟨u,rfl,rx⟩:=lL r
  cases rx
  rcases h with ⟨hq,q⟩|⟨hq,q⟩
  · obtain⟨its,r',pl,hz⟩:=I.list hq
    have hlen:=r'.length
    refine call_tuple_list pl.isList (fun h' kp => ?_) (by simp only [List.size_toArray]<;>omega)
    have I1:Inv X pins σ H { s with heap:=h' }:=I.kept (t':=s.toks) kp
    have I2:Inv X pins σ (upd H h'.objs.size (.tup ys)) { s with heap:=h'.push { cls:=.type "tuple",data:=.seq its.toArray } } :=
      I1.laid (t':=s.toks) (fun b o e=>Heap.get?_push_of_some _ e) (Nat.le_refl _) (show cB X.prog X.w _ _ _ (.tup ys) from ⟨hz,its,r',IsTup.new _ _⟩)
    exact⟨.ref h'.objs.size,_,I2,rfl,q _ (I1.hok.fresh (Nat.le_refl _))⟩
  · obtain⟨its,r',pl,hz⟩:=I.tuple hq
    exact call_tuple_same pl ⟨.ref p,H,I,rfl,q⟩
def tyV (K:PySem.W.Frag) (T:String) (x:V) (H:Hp):Prop:=match x with
  | .str _=>T = "str"
  | .int _=>T = "int"
  | .ref p=>(T = "list" ∧ ∃ xs,SqL K H p xs)∨(T = "tuple" ∧ ∃ o,K.lookup p=some o∧o.cls=.type "tuple" ∧ o.dict=none) ∨
      (T = "dict" ∧ ((∃ kvs,H p=some (.dK kvs)) ∨ ∃ kvs,H p=some (.dT kvs)))∨(T = "set" ∧ ∃ S n,H p=some (.set S n))
  | _=>False
theorem C4 {pins:List (Addr × Obj)}{σ:St}{H:Hp}{s:Shared}{T:String}{x:V}{v:Value}(I:Inv X pins σ H s)(r:bf x v)(ty:tyV X.K T x H) :
    s.TypeIs v T ∧ ∀ a,v=.ref a → ∃ ob,s.heap.get? a=some ob∧ob.dict=none:=by
  cases x with
  | str z =>
    obtain⟨t,rfl⟩:=r
    cases (show T = "str" from ty)
    exact⟨typeIs_str s z t,fun _ e=>nomatch e⟩
  | int i =>
    obtain⟨t,rfl⟩:=r
    cases (show T = "int" from ty)
    exact⟨typeIs_int s i t,fun _ e=>nomatch e⟩
  | ref p =>
    cases r
    rcases ty with ⟨rfl,xs,hq⟩|⟨rfl,o,hk,hc,hd⟩|⟨rfl,hk⟩|⟨rfl,S,n,hk⟩
    · obtain⟨its,_,pl,_⟩:=I.list hq
      refine⟨pl.isList.typeIs,fun a e => ?_⟩
      cases e
      obtain⟨o,n,e,c,hd,_⟩:=pl
      exact⟨o,e,hd⟩
    · refine⟨⟨o,I.kIn p o hk,hc⟩,fun a e => ?_⟩
      cases e
      exact⟨o,I.kIn _ o hk,hd⟩
    · have z:∃ o,s.heap.get? p=some o∧o.ExactDict:=by
        rcases hk with ⟨kvs,hk⟩|⟨kvs,hk⟩
        · obtain⟨_,_,_,_,o,_,_,e,ex,_⟩:=I.hok p _ hk
          exact⟨o,e,ex⟩
        · obtain⟨_,_,_,_,o,_,_,e,ex,_⟩:=I.hok p _ hk
          exact⟨o,e,ex⟩
      obtain⟨o,e,ex⟩:=z
      refine⟨⟨o,e,ex.1⟩,fun a e2 => ?_⟩
      cases e2
      exact⟨o,e,ex.2.1⟩
    · obtain⟨o,_,_,_,e,ex,_⟩:=I.hok p _ hk
      refine⟨⟨o,e,ex.1⟩,fun a e2 => ?_⟩
      cases e2
      exact⟨o,e,ex.2.1⟩
  | _=>exact False.elim ty
def tBM (K:PySem.W.Frag) (T:String) (r:V→List V→Hp→VK→Prop) (to:TE) (t:TA):TE:=fun σ H Q=>to σ H fun x H1=>tyV K T x H1∧t σ H1 fun xs H2=>r x xs H2 Q
variable {o e:Expr} {es:List Expr} {to:TE} {t:TA} {name:Str} {apos cpos:Pos} {T id:String} {r:V→List V→Hp→VK→Prop}
theorem zi (pa:PlainAttrs T) (slot:Slot T name id) (hty:typeOf (.builtin id)=pure (.type "method_descriptor")) (hm:MtR X id r) (ho:PE X o to) (ha:PA X (e :: es) t)
    (hbase:attributeBase o name X.env (eval o X.env)=eval o X.env:=by rfl)
    (hfew:((backTo cpos (starEach (e :: es) X.env)).all (fun x => !x.1) && (backToKw cpos (keywordEach [] X.env)).all (fun x=>x.1.isSome)
      && decide ((e :: es).length + ([] : List Keyword).length + (if ([] : List Keyword).isEmpty then 0 else 1) < 30))=true:=by rfl)
    (hline:(apos.endLine == cpos.line)=true:=by rfl) (hs:starEach (e :: es) X.env=(false,eval e X.env) :: starEach es X.env:=by rfl) (hplain:(backTo cpos (starEach es X.env)).any (·.1)=false:=by rfl) :
    PE X (.Call (.Attribute o name apos) (e :: es) [] cpos) (tBM X.K T r to t):=by
  intro pins s σ H Q I h
  refine wpAny_Call_method_late hbase hfew hline rfl (thn (ho pins s σ H _ I h) fun v s1 ⟨x,H1,I1,r1,ty,q1⟩ => ?_)
  obtain⟨h1,h2⟩:=C4 I1 r1 ty
  refine⟨T,id,pa,slot,hty,h1,h2,?_⟩
  have hA:=ha cpos pins s1 σ H1 _ I1 q1
  rw [hs] at hA ⊢
  refine Calls.callWith_builtin (by show (false || (backTo cpos (starEach es X.env)).any (·.1))=false;rw [hplain]<;>rfl) (Calls.evalArgs_plain ?_)
  exact thn hA fun us s2 ⟨vs,H2,I2,r2,q2⟩=>hm pins s2 σ H2 x vs v us Q I2 r1 r2 q2
end
end L2
namespace L2
open PySem PySem.Spec PyProof.Rows
def MtM (X:Cx) (id:String) (r:V→List V→Hp→VK→Prop):Prop :=
  ∀ (pins:List (Addr × Obj)) (s:Shared) (σ:St) (H:Hp) (x:V) (xs:List V) (v:Value) (us:List Value) (Q:VK),Inv X pins σ H s→bf x v→aL xs us→r x xs H Q →
    wpAny (model X.prog X.w) X.A (call (.builtin id) (v :: us)) (EP X pins σ Q) X.xe s
theorem aL.one:∀ {x:V} {us:List Value},aL [x] us → ∃ u,us=[u]∧bf x u
  | _,_,.cons r .nil=>⟨_,rfl,r⟩
theorem aL.two:∀ {x y:V} {us:List Value},aL [x,y] us → ∃ u v,us=[u,v]∧bf x u∧bf y v
  | _,_,_,.cons r (.cons q .nil)=>⟨_,_,rfl,r,q⟩
theorem aL.rep {xs:List V}{us:List Value}(h:aL xs us):∀ k:Nat,aL (List.replicate k xs).flatten (List.replicate k us).flatten
  | 0=>.nil
  | k + 1=>by
    rw [List.replicate_succ,List.replicate_succ,List.flatten_cons,List.flatten_cons]
    exact aL.append h (aL.rep h k)
theorem pQ (its:List Value):∀ (k:Nat) (acc:List Value),
    List.foldl (fun x1 x2=>x1++x2) acc.toArray (List.replicate k its.toArray)=(acc++(List.replicate k its).flatten).toArray
  | 0,acc=>by simp
  | k + 1,acc=>by
    have e:acc.toArray++its.toArray=(acc++its).toArray:=by simp
    have e2:(acc++its)++(List.replicate k its).flatten=acc++(List.replicate (k + 1) its).flatten:=by
      rw [List.replicate_succ,List.flatten_cons,List.append_assoc]
    rw [← e2,← pQ its k (acc++its),← e,List.replicate_succ,List.foldl_cons]
section
variable {X:Cx} {pins:List (Addr × Obj)} {σ:St} {H:Hp} {s:Shared} {l b:Addr} {xs ys zs:List V}
theorem Inv.lset {its its':List Value}{n:Nat}{f:Array Value→Array Value}{t':Nat}(I:Inv X pins σ H s)(hH:H l=some (.lst xs))
    (e:s.heap.get? l=some { cls:=.type "list",data:=.seq its.toArray n }) (hf:f its.toArray=its'.toArray) (hv:aL ys its') (hz:ys.length≤sizeLine) :
    Inv X pins σ (upd H l (.lst ys)) { s with heap:=s.heap.update l (Obj.mapSeq f),toks:=t' }:=by
  have q:=PySem.IsL.update e f
  rw [hf] at q
  refine I.write (x:=l) (e:=l) (by rw [hH];exact trivial) (.inl rfl) (fun b' u hb hu=>(Heap.get?_update_other s.heap (Obj.mapSeq f) (Ne.symm hb)).trans hu) ⟨_,q⟩ ?_
  exact⟨hz,its',_,hv,q⟩
theorem Inv.lnew {its:List Value}{t':Nat}(I:Inv X pins σ H s)(hv:aL ys its)(hz:ys.length≤sizeLine) :
    Inv X pins σ (upd H s.heap.objs.size (.lst ys)) { s with heap:=s.heap.push { cls:=.type "list",data:=.seq its.toArray },toks:=t' } :=
  I.laid (fun _ _ q=>Heap.get?_push_of_some _ q) (Nat.le_refl _) ⟨hz,its,0,hv,Heap.get?_push_size _ rfl⟩
theorem Inv.fresh (I:Inv X pins σ H s):H s.heap.objs.size=none:=I.hok.fresh (Nat.le_refl _)
theorem Inv.lstM (I:Inv X pins σ H s) (hH:H l=some (.lst xs)):xs.length≤sizeLine ∧ ∃ (its:List Value) (n:Nat),aL xs its∧xs.length=its.length∧s.heap.get? l=some { cls:=.type "list",data:=.seq its.toArray n }:=by
  obtain⟨z,its,n,r,e⟩:=I.hok l _ hH
  exact⟨z,its,n,r,r.length,e⟩
theorem zj {n:Nat}(h:n≤sizeLine):Builtin.List.listTooLong n=false:=by
  unfold Builtin.List.listTooLong
  exact decide_eq_false (by omega)
end
section
variable {X:Cx}
def A6:V→List V→Hp→VK→Prop:=fun x vs H Q=>∃ l xs y,x=.ref l∧vs=[y]∧H l=some (.lst xs)∧xs.length < sizeLine∧Q .non (upd H l (.lst (xs++[y])))
theorem pR:MtM X "list.append" A6:=by
  intro pins s σ H x vs v us Q I rx rv h
  obtain⟨l,xs,y,rfl,rfl,hH,hz,q⟩:=h
  cases rx
  obtain⟨u,rfl,ru⟩:=rv.one
  obtain⟨z,its,n,r,hl,e⟩:=I.lstM hH
  refine call_meets F.slot_list_append ⟨_,e,rfl⟩ F.entry_list_append (F.args_list_append_2 _ _) (PySem.list_append l its.toArray n u (by rw [List.size_toArray];omega)) ⟨e,?_⟩
  refine⟨.non,_,I.lset (its':=its++[u]) hH e (by simp) (r.append (.cons ru .nil)) ?_,rfl,q⟩
  rw [List.length_append,List.length_singleton]
  omega
def Fq:R2:=fun x y H Q=>∃ l k xs,x=.ref l∧y=.int k∧H l=some (.lst xs) ∧ -(2 ^ 63)≤k∧k < 2 ^ 63∧xs.length * k.toNat≤sizeLine ∧
  ∀ p,H p=none→Q (.ref p) (upd H p (.lst (List.replicate k.toNat xs).flatten))
theorem A7 {α : Type}(xs:List α)(k:Nat):(List.replicate k xs).flatten.length=k * xs.length:=by
  induction k with
  | zero=>simp
  | succ k ih=>rw [List.replicate_succ,List.flatten_cons,List.length_append,ih,Nat.succ_mul,Nat.add_comm]
theorem C5:OpR X (binaryOp .Mult) Fq:=by
  intro pins s σ H x y v u Q I rx ry h
  obtain⟨l,k,xs,rfl,rfl,hH,h1,h2,hz,q⟩:=h
  cases rx
  obtain⟨t,rfl⟩:=ry
  obtain⟨z,its,n,r,hl,e⟩:=I.lstM hH
  have hlen:its.toArray.size * k.toNat≤sizeLine:=by rw [List.size_toArray,← hl];exact hz
  have hcap : ¬ its.toArray.size * k.toNat > (2 ^ 63 - 1) / 8:=by
    have:(sizeLine:Nat)≤(2 ^ 63 - 1) / 8:=by decide
    omega
  have hfit : ¬ (!Builtin.List.listFitsIndex k)=true:=by
    rw [fitsIndex_both h1 h2]
    exact Bool.false_ne_true
  have hlong : ¬ Builtin.List.listTooLong (its.toArray.size * k.toNat)=true:=by
    rw [zj hlen]
    exact Bool.false_ne_true
  have hnew:List.foldl (fun x1 x2=>x1++x2) #[] (List.replicate (if its.toArray.isEmpty=true then 0 else k.toNat) its.toArray)=(List.replicate k.toNat its).flatten.toArray:=by
    have f0:∀ m:Nat,List.foldl (fun x1 x2=>x1++x2) #[] (List.replicate m its.toArray)=(List.replicate m its).flatten.toArray:=fun m=>by
      have:=pQ its m []
      rw [List.nil_append] at this
      exact this
    rw [f0]
    cases its with
    | nil=>simp
    | cons a r'=>rw [if_neg (by simp)]
  refine wpAny_binaryOp_repeat_ref (T := "list") (U := "int") (by decide) ⟨_,e,rfl⟩ (fun s'=>typeIs_int s' k t) noFill_list_mul F.fills_int_mul F.slot_int_rmul repeat_list F.slot_int_index.lookup
    (call_meets F.slot_int_rmul (typeIs_int s k t) F.entry_int_rmul (F.args_int_rmul_2 _ _) (int___rmul___int_list k t l its.toArray n)
      ⟨e,rfl,⟨_,e,rfl⟩,call_meets F.slot_list_mul ⟨_,e,rfl⟩ F.entry_list_mul (F.args_list_mul_2 _ _) (AutoListH.list___mul___list_int_3 l its.toArray n k t hfit hcap hlong) ⟨e,?_⟩⟩)
  rw [hnew]
  exact⟨.ref _,_,I.lnew (t':=s.toks) (r.rep k.toNat) (by rw [A7,Nat.mul_comm];exact hz),rfl,q _ I.fresh⟩
end
section
variable {prog:Program} {w:World} {A:Around} {E:Value→Shared→Prop} {s:Shared}
end
section
variable {X:Cx}
end
end L2
namespace Att
open PySem PySem.W PySem.Calls PyProof.Rows
theorem kQ {P:Params}{h:Heap}:∀ (ns:List Int) (vs:List Value),WellAll P h vs (ns.map WData.int)→IntsAre vs ns:=by
  intro ns
  induction ns with
  | nil =>
    intro vs w
    rw [List.map_nil] at w
    cases w
    exact .nil
  | cons n ns ih =>
    intro vs w
    rw [List.map_cons] at w
    cases w with
    | cons a b =>
      cases a
      exact .cons _ _ (ih _ b)
theorem xH {l:OpenLaw}{n:Nat}(hn:l.most=some n){P:Params}{h:Heap}{args:List WData}{vals:List Value}
    (hpre:l.row.toRowW.claim.pre args=true) (hwl:WellAll P h vals args) :
    ∃ a vs ns,vals=[Value.ref a]∧args=[WData.list (ns.map WData.int)]∧h.get? a=some { cls:=.type "list",data:=.seq vs.toArray } ∧ IntsAre vs ns∧ns.length≤n:=by
  have hsh:WShape.hasAll [] args [.list .int] = true:=(pre_splitW hpre).1
  have hc:l.pre.holds [] { args:=args } = true:=(pre_splitW hpre).2
  obtain⟨d,r,rfl,h1,h2⟩:=hasAllW_cons hsh
  obtain rfl:=hasAllW_nil h2
  obtain⟨xs,rfl,h3⟩:=hasW_list h1
  obtain⟨ns,rfl⟩:=items_int h3
  have hlen:ns.length≤n:=by
    unfold OpenLaw.pre at hc
    have h4:(WTm.not (.lt (.lit (.int (n:Int))) (.len (.arg 0)))).holds [] { args:=[.list (ns.map .int)] } = true:=by
      have h4:=(holds_andW hc).1
      rw [hn] at h4
      exact h4
    have h5:=condW_of h4 (w_not (w_lt w_lit (w_len_list (w_arg rfl))))
    rw [List.length_map] at h5
    refine Nat.le_of_not_lt fun q => ?_
    have q':(n:Int) < ((ns.length:Nat):Int):=by omega
    first
      | (rw [decide_eq_true q'] at h5;exact absurd h5 (by decide))
      | (simp at h5;omega)
  cases hwl with
  | cons w1 w2 =>
    cases w2
    cases w1 with
    | list ho hall=>exact⟨_,_,ns,rfl,rfl,ho,kQ ns _ hall,hlen⟩
theorem xI (l:OpenLaw)(args:List WData):l.row.toRowW.claim.post args (.bool true) args=true :=
  postW_of (r:=l.row.toRowW) (X:=(true == true))
    (show WShape.has [] (.bool true) .bool=true by first|rfl|decide|simp [WShape.has,WShape.arms,WShape.armsAll])
    (show (WTm.eq .res (.lit (.bool true))).value [] { args:=args,res:=some (.bool true),after:=args } = some (.bool (true == true)) from w_eq_bool (w_res rfl) w_lit) rfl
theorem attach_call {l:OpenLaw}{n:Nat}{q:Program}{loose:List Str}{XP:(Str→Option Value)→Heap→Prop}{YP:World→Heap→Prop}{d:DefRec}
    (hn:l.most=some n) (hdf:d.params.defaults=[])
    (call:∀ (w:World) (s₀ s₁ : Shared) (mg mb:Str→Option Value) (fa:Addr) (o:Obj) (pm cd doc:Value) (a:Addr) (vs:List Value) (ns:List Int),
      Ground q loose [] XP w s₀ mg mb s₁.heap→YP w s₁.heap →
      s₁.heap.get? fa=some o→o.data=.func (docDef d.name d.params d.body d.scope pm cd doc)→s₁.heap.CodeRec cd d.name→mg d.name=some (.ref fa) →
      s₁.heap.get? a=some { cls:=.type "list",data:=.seq vs.toArray } → IntsAre vs ns→ns.length≤n→s₁.gens = #[] →
      codeAny (model l.prog w) callerA (.call (.ref fa) ⟨[.ref a],[]⟩) (fun r s'=>r=.ok (.ret (.bool true))∧OldK s₁.heap s'.heap∧s'.os=s₁.os∧AllBare s'.gens) s₁) :
    WalkO q loose XP YP l.row.toRowW d [] (fun f vs=>PySem.call f vs):=by
  intro w s₀ s₁ mg mb G Y fa o pm cd doc dV kV ho hd hcd hD hmg hg args vals as hpre hlay hrd hwl hlo
  obtain rfl:dV=.none:=Dflts.none hD hdf
  obtain rfl:kV=.none:=Dflts.noKw hD
  obtain⟨a,vs,ns,rfl,rfl,hobj,hints,hlen⟩:=xH hn hpre hwl
  refine enter_call (codeAny_mono (call w s₀ s₁ mg mb fa o pm cd doc a vs ns G Y ho (fd_plain hd) hcd hmg hobj hints hlen hg) fun r s' hq => ?_)
  obtain⟨rfl,h2,h3,h4⟩:=hq
  exact⟨.inl ⟨.bool true,.bool true,[],rfl,fun _=>rfl,.bool true,xI l _,fun _=>⟨List.Pairwise.nil,fun _ hm=>(nomatch hm)⟩⟩,h2,h3,h4⟩
section
variable {prog:Program} {w:World} {A:Around} {E:Value→Shared→Prop} {s:Shared} {K:Frag}
def noObjs (h:Heap):Heap:={ h with objs := #[] }
theorem noObjs_get (h:Heap)(b:Addr):(noObjs h).get? b=none:=by
  cases e:(noObjs h).get? b with
  | none=>rfl
  | some o=>exact absurd (Heap.lt_size e) (Nat.not_lt_zero _)
def ledger (h:Heap) (L d:Addr):List (Addr × Obj):=(List.range h.objs.size).filterMap fun a=>if a=L∨a=d then none else (h.get? a).map fun o=>(a,o)
theorem mem_ledger {h:Heap}{L d a:Addr}{o:Obj}:(a,o)∈ledger h L d ↔ a≠L∧a≠d∧h.get? a=some o:=by
  unfold ledger
  rw [List.mem_filterMap]
  constructor
  · rintro⟨b,_,e⟩
    split at e
    · cases e
    · rename_i hb
      obtain⟨o',ho,e'⟩:=Option.map_eq_some_iff.mp e
      cases e'
      exact⟨fun q=>hb (.inl q),fun q=>hb (.inr q),ho⟩
  · rintro⟨n1,n2,ho⟩
    refine⟨a,List.mem_range.mpr (Heap.lt_size ho),?_⟩
    rw [if_neg (show ¬ (a=L∨a=d) from fun q=>q.elim n1 n2),ho]<;>rfl
theorem fr_all {h:Heap}{L:Addr}{m:Str→Option Value}(n:h.Ns L m):Fr (noObjs h) L h m :=
  ⟨n,fun b o e=>(by rw [noObjs_get] at e;cases e),Nat.zero_le _⟩
end
end Att
namespace L2
open PySem PySem.Spec PyProof.Rows
theorem pS:∀ {vs:List Value} {ns:List Int},IntsAre vs ns→aL (ns.map V.int) vs
  | _,_,.nil=>.nil
  | _,_,.cons n t h=>.cons ⟨t,rfl⟩ (pS h)
def C6 (H:Hp):Prop:=∀ b,H b=none ∨ ∃ o xs,H b=some (.frz o (.lst xs))
theorem zk {P:Program}{w:World}{K:PySem.W.Frag}{mg mb:Str→Option Value}{CX:CXT}{k:Nat}{fa a:Addr}{fd:FuncData}{x:Str}{sp:Sp}{s₁ : Shared}{vs:List Value}{ns:List Int}
    (KX:K.In s₁.heap) (hns:s₁.heap.Ns mainGlobals mg) (hb:s₁.heap.Ns builtinsNs mb) (hbb:∀ x:Str,x ≠ "__name__" → mb x=bootBuiltins x) (hlim:s₁.heap.NoLimit) (hg:s₁.gens = #[])
    (ha:s₁.heap.get? a=some { cls:=.type "list",data:=.seq vs.toArray }) (hi:IntsAre vs ns) (hl:ns.length≤sizeLine) (hr:eC k callerA)
    (F:∀ base:Heap,K.In base→base.Ns mainGlobals mg→b5 P w K mg base CX k fa fd [x] sp) (hbind:∀ (s:Shared) (u:Value),BindsTo s fd ⟨[u],[]⟩ [(x,u)])
    (hsp:∀ H:Hp,C6 H→SqL K H a (ns.map V.int)→sp [.ref a] H (fun v _=>v=.bl true) fun _ _ _=>False)
    (hCX:∀ H e s',CX [] H s₁ (fun _ _ _=>False) e s'→False) :
    codeAny (model P w) callerA (.call (.ref fa) ⟨[.ref a],[]⟩) (fun r s'=>r=.ok (.ret (.bool true))∧OldK s₁.heap s'.heap∧s'.os=s₁.os∧AllBare s'.gens) s₁ := by
  have rv:=pS hi
  have lenV:=hi.length
  have core:∀ H:Hp,C6 H→SqL K H a (ns.map V.int)→HOk P w H s₁.heap→(∀ b,H b≠none→b=a)→(H a≠none→K.lookup a=none) →
      codeAny (model P w) callerA (.call (.ref fa) ⟨[.ref a],[]⟩) (fun r s'=>r=.ok (.ret (.bool true))∧OldK s₁.heap s'.heap∧s'.os=s₁.os∧AllBare s'.gens) s₁ := by
    intro H hO hS hok hA hK
    have base_of:∀ {b:Addr} {o:Obj},s₁.heap.get? b=some o→H b=none→(qm s₁.heap H).get? b=some o:=fun e n=>yW e n
    have noA:∀ {b:Addr} {o:Obj} {es:Array DictEntry} {ep:Nat},s₁.heap.get? b=some o→o.data=.dict es ep→H b=none:=fun {b o es ep} e d=>by
      cases q:H b with
      | none=>rfl
      | some u =>
        have e':b=a:=hA b (by rw [q];simp)
        subst e'
        rw [ha] at e;cases e
        have d':Data.seq vs.toArray _=Data.dict es ep:=d
        cases d'
    have nsK:∀ {b:Addr} {m:Str→Option Value},s₁.heap.Ns b m→(qm s₁.heap H).Ns b m:=fun {b m} ⟨o,es,ep,e,d,r⟩=>⟨o,es,ep,base_of e (noA e d),d,r⟩
    have hKb:K.In (qm s₁.heap H):=fun b o e=>base_of (KX b o e) (by
      cases q:H b with
      | none=>rfl
      | some u =>
        have e':b=a:=hA b (by rw [q];simp)
        subst e'
        rw [hK (by rw [q];simp)] at e;cases e)
    have hM:Mod K mg (qm s₁.heap H):=⟨hKb,nsK hns,⟨mb,nsK hb,hbb⟩,let ⟨mc,h1,h2⟩:=hlim;⟨mc,nsK h1,h2⟩⟩
    have e0:A1 P w K mg (qm s₁.heap H) callerA [] s₁ H:=⟨rfl,hM,fun b o e=>AT e,Nat.le_of_eq (xB _ _),trivial,fun b hb=>absurd (show b∈([] : List Addr) from hb) (by simp),hok,.of_eq hg⟩
    refine codeAny_mono ((F _ hKb (nsK hns)).run callerA [] s₁ H ⟨[.ref a],[]⟩ [.ref a] [.ref a] _ _ hr e0 (hbind s₁ (.ref a)) (.cons rfl .nil) (hsp H hO hS)) fun r s' h => ?_
    cases r with
    | error e=>exact (hCX H e s' h).elim
    | ok fl =>
      cases fl with
      | next=>exact False.elim h
      | brk=>exact False.elim h
      | cont=>exact False.elim h
      | ret u =>
        obtain⟨v,H',os,bare,un,hok',r',q⟩:=h
        have q':v=.bl true:=q
        subst q'
        obtain rfl:u=Value.bool true:=r'
        refine⟨rfl,OldK.of_keep fun b o e => ?_,os,bare⟩
        cases q:H b with
        | none=>exact un.keep b o e q (by intro z;exact absurd (show b∈([] : List Addr) from z) (by simp)) (by simp)
        | some u =>
          rcases hO b with z|⟨ob,xs,z⟩
          · rw [q] at z;cases z
          · have z2:=un.frzs b ob _ z
            obtain⟨e1,_⟩:=hok b _ z
            obtain⟨e2,_⟩:=hok' b _ z2
            rw [e] at e1;cases e1
            exact e2
  cases hk:K.lookup a with
  | some o =>
    have e:=KX a o hk
    rw [ha] at e
    cases e
    refine core (fun _=>none) (fun _=>.inl rfl) (.inr ⟨_,vs.toArray,_,hk,rfl,rfl,rfl,by rw [List.size_toArray,lenV];exact hl,by simpa using rv⟩) (fun b u z=>by have z':(none:Option HO)=some u:=z;cases z') (fun b z=>absurd rfl z) fun z=>absurd rfl z
  | none =>
    refine core (fun b=>if b=a then some (.frz { cls:=.type "list",data:=.seq vs.toArray } (.lst (ns.map V.int))) else none) (fun b => ?_) (.inl (.inr ⟨{ cls:=.type "list",data:=.seq vs.toArray },if_pos rfl⟩)) (fun b u z => ?_) (fun b z => ?_) fun _=>hk
    · by_cases hb:b=a
      · exact .inr ⟨_,_,if_pos hb⟩
      · exact .inl (if_neg hb)
    · by_cases hb:b=a
      · have z':=(if_pos hb).symm.trans z
        cases z'
        subst hb
        exact⟨ha,by rw [List.length_map];exact hl,vs,_,rv,ha⟩
      · have z':=(if_neg hb).symm.trans z
        cases z'
    · by_cases hb:b=a
      · exact hb
      · exact absurd (if_neg hb) z
end L2
namespace L2
open PySem PySem.Spec PyProof.Rows
theorem A8 {l:PySem.W.OpenLaw}{n k:Nat}{q:Program}{loose:List Str}{XP:(Str→Option Value)→Heap→Prop}{YP:World→Heap→Prop}{d:DefRec}{K:Params→PySem.W.Frag}{CX:World→CXT}{sp:World→Sp}{x:Str}
    (hn:l.most=some n) (hn2:n≤sizeLine) (hdf:d.params.defaults=[]) (hr:eC k callerA)
    (hY:∀ (w:World) (h:Heap),YP w h→(K w.params).In h)
    (F:∀ (w:World) (mg:Str→Option Value) (fa:Addr) (h:Heap),(K w.params).In h→h.Ns mainGlobals mg→mg d.name=some (.ref fa) →
      ∃ fd:FuncData,(∀ (s:Shared) (u:Value),BindsTo s fd ⟨[u],[]⟩ [(x,u)]) ∧
        ∀ base:Heap,(K w.params).In base→base.Ns mainGlobals mg→b5 l.prog w (K w.params) mg base (CX w) k fa fd [x] (sp w))
    (hsp:∀ (w:World) (H:Hp) (a:Addr) (ns:List Int),ns.length≤n→C6 H→SqL (K w.params) H a (ns.map V.int)→sp w [.ref a] H (fun v _=>v=.bl true) fun _ _ _=>False)
    (hCX:∀ (w:World) (H:Hp) (s:Shared) (e:Value) (s':Shared),CX w [] H s (fun _ _ _=>False) e s'→False) :
    PySem.W.WalkO q loose XP YP l.row.toRowW d [] (fun f vs=>PySem.call f vs):=by
  refine Att.attach_call hn hdf fun w s₀ s₁ mg mb fa o pm cd doc a vs ns G Y ho hd hcd hmg hobj hints hlen hg => ?_
  have KX:=hY w _ Y
  obtain⟨fd,hb,hF⟩:=F w mg fa _ KX G.T.g hmg
  exact zk KX G.T.g G.T.b G.T.builtins G.T.nolimit hg hobj hints (Nat.le_trans hlen hn2) hr hF hb (fun H hO hS=>hsp w H a ns hlen hO hS) fun H e s'=>hCX w H s₁ e s'
end L2
namespace L2
open PySem PySem.Spec PyProof.Rows
def a5 (s:Stmt):Arguments:=match s with
  | .FunctionDef _ a _ _ _ _ _ _ _ _=>a
  | _=>{ posonlyargs:=[],args:=[],vararg:=none,kwonlyargs:=[],kw_defaults:=[],kwarg:=none,defaults:=[] }
def aX (s:Stmt):List Stmt:=match s with
  | .FunctionDef _ _ b _ _ _ _ _ _ _=>b
  | _=>[]
def ak (s:Stmt):Scope:=match s with
  | .FunctionDef _ _ _ _ _ _ sc _ _ _=>sc
  | _=>{ kind:=.function,names:=[],isGenerator:=false,isCoroutine:=false }
abbrev CX0:CXT:=fun _ _ _ _ _ _=>False
abbrev E0:XK:=fun _ _ _=>False
theorem Ez {X:Cx}:lN CX0 X E0:=fun _ _ _ _ _ _ _ h=>h.elim
structure Fun (K:PySem.W.Frag) (x qual:Str) (st:Stmt) (f:Addr) (fd:FuncData):Prop where
  ex:∃ (oc:Value) (od:Option Addr) (kV doc pm:Value) (an:Option Addr) (cdv ct:Value) (osl:Array (Option Value)),
    fd=PySem.W.fnOf x qual (a5 st) (aX st) (ak st) .none kV doc pm an cdv ct∧K.lookup f=some ⟨oc,od,.func fd,osl⟩ ∧ PySem.W.codeIn K cdv qual=true
  kp:PySem.W.keepIn K (.ref f)=true
section
variable {P:Program} {w:World} {K:PySem.W.Frag} {mg:Str→Option Value} {base:Heap}
theorem Fun.ok {x qual:Str}{st:Stmt}{f:Addr}{fd:FuncData}{N ps:List Str}{k:Nat}{sp:Sp}(F:Fun K x qual st f fd)(S:a4 N ps (ak st))(len:∀ vs H Q E,sp vs H Q E→vs.length=ps.length)
    (hbody:∀ (cdv:Value) (A:Around) (outer:List Env) (s:Shared) (H:Hp) (vs:List V) (Q:VK) (E:XK),eC k (A.deeper (envOfC qual (ak st) s.heap.objs.size f cdv))→sp vs H Q E →
      ∃ t,PSs (kP CX0 P w K mg base N qual (ak st) f cdv A outer s H E).nox (aX st) t∧t { nx:=fun _ H'=>Q .non H',rt:=Q } (gQ N vs) H):b5 P w K mg base CX0 (k + 1) f fd ps sp:=by
  obtain⟨oc,od,kV,doc,pm,an,cdv,ct,osl,rfl,lk,hcd⟩:=F.ex
  refine Ci lk hcd S len fun A outer s H vs Q E hr hsp => ?_
  obtain⟨t,h,q⟩:=hbody cdv A outer s H vs Q E hr hsp
  exact⟨t,h.nox,q⟩
theorem Fun.binds {x qual:Str}{st:Stmt}{f:Addr}{fd:FuncData}{ps:List Str}(F:Fun K x qual st f fd)
    (h:∀ (kV doc pm:Value) (an:Option Addr) (cdv ct:Value) (us:List Value),us.length=ps.length→bindArgs (PySem.W.fnOf x qual (a5 st) (aX st) (ak st) .none kV doc pm an cdv ct) ⟨us,[]⟩ = pure (ps.zip us)):gy K fd ps []:=by
  obtain⟨oc,od,kV,doc,pm,an,cdv,ct,osl,rfl,lk,hcd⟩:=F.ex
  exact .all (h kV doc pm an cdv ct)
theorem bN {x qual:Str}{st:Stmt}{f:Addr}{oc:Value}{od an:Option Addr}{osl:Array (Option Value)}{kV doc pm cdv ct:Value}(l:K.lookup f=some ⟨oc,od,.func (PySem.W.fnOf x qual (a5 st) (aX st) (ak st) .none kV doc pm an cdv ct),osl⟩)
    (c:PySem.W.codeIn K cdv qual=true) (k:PySem.W.keepIn K (.ref f)=true):Fun K x qual st f (PySem.W.fnOf x qual (a5 st) (aX st) (ak st) .none kV doc pm an cdv ct):=⟨⟨oc,od,kV,doc,pm,an,cdv,ct,osl,rfl,l,c⟩,k⟩
end
section
variable {X:Cx}
end
def eR (H H':Hp):Prop:=∀ b o,H b=some o→H' b=some o
theorem eR.refl (H:Hp):eR H H:=fun _ _ h=>h
end L2
set_option linter.all false
namespace L2
open PySem PySem.Spec
structure lP (h:Heap) (a D:Addr) (o:Obj):Prop where
  at_:h.get? a=some o
  cls:o.cls=.ref D
def jc (a C:Addr):HO:=.ext fun h=>∃ o,lP h a C o
end L2
namespace Fm
inductive D where
  | non|bl (b:Bool)|int (i:Int)|str (x:List Nat)|tup (l:List D)|ref (n:Nat)|lit (l:List D)|exn (c:String) (l:List D)
deriving Inhabited
inductive eS where
  | lst (l:List D)|dct (l:List (Int × D))
abbrev Hd:=List eS
inductive Res (α : Type) where
  | ok (a : α) (h:Hd)|exc (x:D) (h:Hd)|bad
def Res.bind {α β : Type} (r:Res α) (f : α → Hd→Res β):Res β := match r with
  | .ok a h=>f a h | .exc x h=>.exc x h | .bad=>.bad
@[simp] theorem aI {α β : Type} (a : α) (h:Hd) (f : α → Hd→Res β):(Res.ok a h).bind f=f a h:=rfl
@[simp] theorem tO {α β : Type} (f : α → Hd→Res β):(Res.bad:Res α).bind f=.bad:=rfl
abbrev Sd:=List (Option D)
abbrev EF:=Sd→Hd→Res D
abbrev TF:=Sd→Hd→Res Bool
abbrev LF:=Sd→Hd→Res (List D)
inductive Out where
  | nx (σ:Sd) (h:Hd)|rt (d:D) (h:Hd)|bk (σ:Sd) (h:Hd)|ct (σ:Sd) (h:Hd)|exc (x:D) (σ:Sd) (h:Hd)|bad
abbrev SF:=Sd→Hd→Out
abbrev Fn:=List D→Hd→Res D
abbrev SZ:Nat:=1000000
@[simp] def slot (σ:Sd) (i:Nat):Option D:=match σ[i]? with|some (some d)=>some d|_=>none
@[simp] def aa (i:Nat):EF:=fun σ h=>match slot σ i with|some d=>.ok d h|none=>.bad
@[simp] def fC (d:D):EF:=fun _ h=>.ok d h
abbrev O2:=D→D→Hd→Res D
@[simp] def aq (g:O2) (a b:EF):EF:=fun σ h=>(a σ h).bind fun x h=>(b σ h).bind fun y h=>g x y h
@[simp] def oI (g:Int→Int→Int):O2:=fun x y h=>match x,y with | .int i,.int j=>.ok (.int (g i j)) h|_,_=>.bad
@[simp] def oB (g:Int→Int→Bool):O2:=fun x y h=>match x,y with | .int i,.int j=>.ok (.bl (g i j)) h|_,_=>.bad
@[simp] def oIc (c:Int→Int→Bool) (g:Int→Int→Int):O2:=fun x y h=>match x,y with | .int i,.int j=>if c i j then .ok (.int (g i j)) h else .bad|_,_=>.bad
def sml (i:Int):Bool:=decide (-18446744073709551616 < i) && decide (i < 18446744073709551616)
@[simp] def cF:O2:=fun x y h=>match x,y with
  | .int i,.int j=>.ok (.int (i + j)) h
  | .tup (x :: xs),.tup ys=>if (x :: xs).length + ys.length≤SZ then .ok (.tup (x :: xs++ys)) h else .bad
  | _,_=>.bad
@[simp] def xJ:O2:=fun x y h=>(oI (· - ·)) x y h
@[simp] def gJ:O2:=fun x y h=>(oIc (fun i j=>sml i || sml j) (· * ·)) x y h
@[simp] def eg:O2:=fun x y h=>(oIc (fun _ j=>decide (0 < j)) (· % ·)) x y h
@[simp] def zl:O2:=fun x y h=>(oIc (fun _ j=>decide (0 < j) && decide (j < 2 ^ 250)) (· / ·)) x y h
@[simp] def zm:O2:=fun x y h=>(oIc (fun i j=>decide (0≤j) && decide (j≤1000000) && sml i) (fun i j=>i ^ j.toNat)) x y h
@[simp] def oLt:O2:=fun x y h=>(oB fun i j=>decide (i < j)) x y h
@[simp] def oLe:O2:=fun x y h=>(oB fun i j=>decide (i≤j)) x y h
@[simp] def oGt:O2:=fun x y h=>(oB fun i j=>decide (j < i)) x y h
@[simp] def FF:D→Hd→Res D:=fun x h=>match x with | .int i=>.ok (.int (-i)) h|_=>.bad
@[simp] def lQ:D→Bool | .non=>true|_=>false
@[simp] def kR:O2:=fun x y h=>if lQ y then .ok (.bl (lQ x)) h else .bad
@[simp] def ei:O2:=fun x y h=>if lQ y then .ok (.bl (!lQ x)) h else .bad
@[simp] def b2i (b:Bool):Int:=if b then 1 else 0
mutual
def peq:D→D→Option Bool
  | .int i,k=>match k with | .int j=>some (decide (i=j)) | .bl c=>some (decide (i=b2i c)) | .non=>some false | .tup _=>some false|_=>none
  | .bl c,k=>match k with | .int j=>some (decide (b2i c=j)) | .bl d=>some (decide (c=d))|_=>none
  | .str x,k=>match k with | .str y=>some (decide (x=y))|_=>none
  | .non,k=>match k with | .non=>some true | .int _=>some false | .tup _=>some false|_=>none
  | .tup xs,k=>match k with | .tup ys=>(fB xs ys).map fun b=>b && decide (xs.length=ys.length) | .non=>some false | .int _=>some false|_=>none
  | .ref _,_=>none
  | .lit _,_=>none
  | .exn _ _,_=>none
def fB:List D→List D→Option Bool
  | x :: xs,y :: ys=>match peq x y,fB xs ys with
    | some a,some b=>some (a && b)
    | _,_=>none
  | _,_=>some true
end
mutual
def dep:D→Nat
  | .tup l=>lR l + 1
  | _=>0
def lR:List D→Nat
  | []=>0
  | x :: xs=>max (dep x) (lR xs)
end
def eqL (xs ys:List D):Option Bool:=if lR xs≤20 then (if xs.length=ys.length then fB xs ys else some false) else none
@[simp] def jd (h:Hd):D→Option (List D)
  | .ref n=>match h[n]? with|some (.lst l)=>some l|_=>none
  | .lit l=>some l
  | _=>none
@[simp] def eqG (h:Hd) (x y:D):Option Bool:=match jd h x,jd h y with
  | some xs,some ys=>eqL xs ys
  | none,none=>if dep x≤20 then peq x y else none
  | _,_=>none
@[simp] def oEq:O2:=fun x y h=>match eqG h x y with|some b=>.ok (.bl b) h|none=>.bad
@[simp] def oNe:O2:=fun x y h=>match eqG h x y with|some b=>.ok (.bl (!b)) h|none=>.bad
@[simp] def dR:D→Bool
  | .non=>true | .bl _=>true | .int _=>true | .str _=>true|_=>false
@[simp] def eqF:D→D→Bool
  | .non,k=>match k with | .non=>true|_=>false
  | .bl a,k=>match k with | .bl b=>a == b | .int b=>b2i a == b|_=>false
  | .int a,k=>match k with | .bl b=>a == b2i b | .int b=>a == b|_=>false
  | .str a,k=>match k with | .str b=>a == b|_=>false
  | .tup _,_=>false
  | .ref _,_=>false
  | .lit _,_=>false
  | .exn _ _,_=>false
@[simp] def asB (r:Res D):Res Bool:=r.bind fun x h=>match x with | .bl b=>.ok b h|_=>.bad
@[simp] def tE (a:EF):TF:=fun σ h=>asB (a σ h)
@[simp] def bD (t:TF):TF:=fun σ h=>(t σ h).bind fun b h=>.ok (!b) h
@[simp] def gO (t u:TF):TF:=fun σ h=>(t σ h).bind fun b h=>if b then u σ h else .ok false h
@[simp] def tOr (t u:TF):TF:=fun σ h=>(t σ h).bind fun b h=>if b then .ok true h else u σ h
@[simp] def fT (t:TF):EF:=fun σ h=>(t σ h).bind fun b h=>.ok (.bl b) h
@[simp] def lS (g k:O2) (a b c:EF):EF:=fun σ h=>(a σ h).bind fun x h=>(b σ h).bind fun y h=>(g x y h).bind fun z h=>match z with
  | .bl true=>(c σ h).bind fun w h=>k y w h
  | .bl false=>.ok (.bl false) h
  | _=>.bad
@[simp] def ax:LF:=fun _ h=>.ok [] h
@[simp] def ae (a:EF) (r:LF):LF:=fun σ h=>(a σ h).bind fun x h=>(r σ h).bind fun xs h=>.ok (x :: xs) h
@[simp] def eZ (r:LF):EF:=fun σ h=>(r σ h).bind fun xs h=>if xs.length≤SZ then .ok (.tup xs) h else .bad
@[simp] def cZ (r:LF):EF:=fun σ h=>(r σ h).bind fun xs h=>if xs.length≤SZ then .ok (.ref h.length) (h++[.lst xs]) else .bad
@[simp] def gz (h:Hd):D→Option (List D)
  | .tup l=>some l
  | .lit l=>some l
  | .ref n=>match h[n]? with|some (.lst l)=>some l|_=>none
  | _=>none
@[simp] def lOf (a:EF):LF:=fun σ h=>(a σ h).bind fun x h=>match gz h x with|some l=>.ok l h|none=>.bad
@[simp] def inL (h:Hd) (x y:D):Option Bool:=match gz h y with
  | some l=>if dR x && l.all dR then some (l.any fun z=>eqF z x) else none
  | none=>none
@[simp] def oIn:O2:=fun x y h=>match inL h x y with|some b=>.ok (.bl b) h|none=>.bad
def ixN (n:Nat) (i:Int):Option Nat:=if 0≤i then (if i < n then some i.toNat else none) else if -(n:Int)≤i then some (i + n).toNat else none
def atI (xs:List D) (i:Int):Option D:=(ixN xs.length i).bind fun j=>xs[j]?
@[simp] def fIx (a:LF) (b:EF):EF:=fun σ h=>(a σ h).bind fun l h=>(b σ h).bind fun y h=>match y with
  | .int i=>match atI l i with|some d=>.ok d h|none=>.bad
  | _=>.bad
@[simp] def oAt:O2:=fun x y h=>match gz h x,y with
  | some l,.int i=>match atI l i with|some d=>.ok d h|none=>.bad
  | _,_=>.bad
@[simp] def fAt (a b:EF):EF:=fun σ h=>aq oAt a b σ h
@[simp] def cV (a:LF):EF:=fun σ h=>(a σ h).bind fun l h=>.ok (.int l.length) h
def Cj:List D→Option (List Int)
  | []=>some []
  | .int i :: r=>(Cj r).map (i :: ·)
  | _=>none
def fD:List D→Option (List Bool)
  | []=>some []
  | .bl b :: r=>(fD r).map (b :: ·)
  | _=>none
@[simp] def lU (a:LF):EF:=fun σ h=>(a σ h).bind fun l h=>match fD l with|some bs=>.ok (.bl (bs.all id)) h|none=>.bad
@[simp] def cU (a:LF):EF:=fun σ h=>(a σ h).bind fun l h=>.ok (.tup l) h
@[simp] def C7 (a:EF):EF:=fun σ h=>(a σ h).bind fun x h=>match x with | .int i=>.ok (.int i) h | .bl b=>.ok (.int (b2i b)) h|_=>.bad
inductive Ty where|int|bool|tuple|list|str
deriving DecidableEq
@[simp] def lV (h:Hd) (t:Ty):D→Option Bool
  | .non=>some false
  | .bl _=>some (t == .bool || t == .int)
  | .int _=>some (t == .int)
  | .str _=>some (t == .str)
  | .tup _=>some (t == .tuple)
  | .lit _=>some (t == .list)
  | .ref n=>match h[n]? with|some (.lst _)=>some (t == .list)|some (.dct _)=>some false|none=>none
  | .exn _ _=>none
@[simp] def cC (t:Ty) (a:EF):EF:=fun σ h=>(a σ h).bind fun x h=>match lV h t x with|some b=>.ok (.bl b) h|none=>.bad
def sIx (n d:Nat):Option Int→Nat
  | none=>d
  | some i=>if i < 0 then (i + n).toNat else min i.toNat n
def cut (l:List D) (lo hi:Option Int):List D:=(l.drop (sIx l.length 0 lo)).take (sIx l.length l.length hi - sIx l.length 0 lo)
abbrev OF:=Sd→Hd→Res (Option Int)
@[simp] def pNo:OF:=fun _ h=>.ok none h
@[simp] def pAt (a:EF):OF:=fun σ h=>(a σ h).bind fun x h=>match x with | .int i=>.ok (some i) h|_=>.bad
def bJ:List Int→List Int→Bool
  | [],[]=>false
  | [],_ :: _=>true
  | _ :: _,[]=>false
  | x :: xs,y :: ys=>if x=y then bJ xs ys else decide (x < y)
def Fs:List D→Option (List (List Int))
  | []=>some []
  | .tup l :: r=>match Cj l,Fs r with|some a,some b=>some (a :: b)|_,_=>none
  | _=>none
@[simp] def am (F:Fn) (r:LF):EF:=fun σ h=>(r σ h).bind fun xs h=>F xs h
abbrev IF:=Sd→Hd→Res (List D × Option Nat)
@[simp] def cW (a:EF):IF:=fun σ h=>(a σ h).bind fun x h=>match x with
  | .int n=>if -1000000≤n∧n≤1000000 then .ok ((List.range n.toNat).map (fun k:Nat=>.int k),none) h else .bad
  | _=>.bad
@[simp] def gK (a:EF):IF:=fun σ h=>(a σ h).bind fun x h=>match x with
  | .tup l=>.ok (l,none) h
  | .lit l=>.ok (l,none) h
  | .ref n=>match h[n]? with|some (.lst l)=>.ok (l,some n) h|_=>.bad
  | _=>.bad
@[simp] def zn (a:EF):IF:=fun σ h=>(a σ h).bind fun x h=>match x with
  | .tup l=>.ok ((List.range l.length).zip l |>.map fun p=>.tup [.int (p.1:Nat),p.2],none) h
  | _=>.bad
noncomputable section
open Classical
def gS (g:Option Nat) (all:List D) (h:Hd):Prop:=match g with|none=>True|some n=>h[n]? = some (.lst all)
abbrev GF:=D→Sd→Option Sd
@[simp] def gN (i:Nat):GF:=fun d σ=>some (σ.set i (some d))
@[simp] def gT (l:List Nat):GF:=fun d σ=>match d with
  | .tup xs=>if xs.length=l.length then some ((l.zip xs).foldl (fun σ p => σ.set p.1 (some p.2)) σ) else none
  | _=>none
@[simp] def aE (a b:SF):SF:=fun σ h=>match a σ h with | .nx σ h=>b σ h|r=>r
@[simp] def a7:SF:=fun σ h=>.nx σ h
@[simp] def outE (r:Res D) (σ:Sd) (k:D→Hd→Out):Out:=match r with | .ok d h=>k d h | .exc x h=>.exc x σ h | .bad=>.bad
@[simp] def aG (g:GF) (a:EF):SF:=fun σ h=>outE (a σ h) σ fun d h=>match g d σ with|some σ=>.nx σ h|none=>.bad
@[simp] def bc (a:EF):SF:=fun σ h=>outE (a σ h) σ fun d h=>.rt d h
@[simp] def iD (a:EF):SF:=fun σ h=>outE (a σ h) σ fun _ h=>.nx σ h
@[simp] def sIf (t:TF) (a b:SF):SF:=fun σ h=>match t σ h with | .ok c h=>if c then a σ h else b σ h | .exc x h=>.exc x σ h | .bad=>.bad
def fE:SF:=fun _ _=>.bad
@[simp] def lW (x i e:EF):SF:=fun σ h=>outE (e σ h) σ fun d h=>outE (x σ h) σ fun p h=>outE (i σ h) σ fun j h=>match p,j with
  | .ref n,.int j=>match h[n]? with
    | some (.lst l)=>match ixN l.length j with
      | some k=>.nx σ (h.set n (.lst (l.set k d)))
      | none=>.bad
    | _=>.bad
  | _,_=>.bad
@[simp] def C8:O2:=fun p d h=>match p with
  | .ref n=>match h[n]? with
    | some (.lst l)=>if l.length < SZ then .ok .non (h.set n (.lst (l++[d]))) else .bad
    | _=>.bad
  | _=>.bad
@[simp] def ny (x e:EF):EF:=fun σ h=>(x σ h).bind fun p h=>match p with
  | .ref n=>match h[n]? with
    | some (.lst _)=>(e σ h).bind fun d h=>C8 (.ref n) d h
    | _=>.bad
  | _=>.bad
def dY (g:Option Nat) (all:List D) (tg:GF) (b:SF):List D→SF
  | [],σ,h=>if gS g all h then .nx σ h else .bad
  | x :: xs,σ,h=>if gS g all h then match tg x σ with
      | some σ=>match b σ h with
        | .nx σ h=>dY g all tg b xs σ h
        | .ct σ h=>dY g all tg b xs σ h
        | .bk σ h=>.nx σ h
        | r=>r
      | none=>.bad
    else .bad
@[simp] def jY (it:IF) (tg:GF) (b:SF):SF:=fun σ h=>match it σ h with
  | .ok (l,g) h=>dY g l tg b l σ h
  | .exc x h=>.exc x σ h
  | .bad=>.bad
@[simp] def gU:List TF→TF
  | [],_,h=>.ok true h
  | t :: r,σ,h=>(t σ h).bind fun b h=>if b then gU r σ h else .ok false h
def b7 (g:Option Nat) (all:List D) (tg:GF) (cs:List TF) (e:EF):List D→Sd→Hd→Res (List D)
  | [],_,h=>if gS g all h then .ok [] h else .bad
  | x :: xs,σ,h=>if gS g all h then match tg x σ with
      | some σ=>(gU cs σ h).bind fun b h=>if b then (e σ h).bind fun d h=>(b7 g all tg cs e xs σ h).bind fun ds h=>.ok (d :: ds) h
        else b7 g all tg cs e xs σ h
      | none=>.bad
    else .bad
@[simp] def fV (nl:Nat) (caps:List Nat) (σ:Sd):Sd:=List.replicate nl none++caps.map fun i=>slot σ i
@[simp] def bA (nl:Nat) (caps:List Nat) (it:IF) (tg:GF) (cs:List TF) (e:EF):LF:=fun σ h=>(it σ h).bind fun p h =>
  b7 p.2 p.1 tg cs e p.1 (fV nl caps σ) h
mutual
def pure? : D→Bool
  | .ref _=>false
  | .tup l=>eT l
  | .lit l=>eT l
  | .exn _ l=>eT l
  | _=>true
def eT:List D→Bool
  | []=>true
  | x :: xs=>pure? x && eT xs
end
def gW:eS→Bool
  | .lst l=>eT l
  | .dct l=>l.all fun p=>pure? p.2
def wR (h h':Hd):Prop:=∀ n c,n < h.length→h'[n]? = some c→h[n]? = some c∨gW c=true
def letGo (h:Hd) (r:Res D):Res D:=match r with
  | .ok d h'=>if pure? d=true∧wR h h' then .ok d (h'.take h.length) else .ok d h'
  | r=>r
def runB (n:Nat) (b:SF):Fn:=fun ds h=>match b (ds.map some++List.replicate (n - ds.length) none) h with
  | .nx _ h=>.ok .non h
  | .rt d h=>.ok d h
  | .exc x _ h=>.exc x h
  | _=>.bad
def bz (np n:Nat) (b:SF):Fn:=fun ds h=>if ds.length=np then letGo h (runB n b ds h) else .bad
end
end Fm
set_option Elab.async false
set_option linter.all false
set_option maxRecDepth 100000
namespace Fm
open PySem PySem.Spec L2
def toS (x:List Nat):Str:=⟨x.toArray⟩
def ku (K:PySem.W.Frag) (H:Hp) (a:Addr) (xs:List V):Prop :=
  (∃ o,H a=some (.frz o (.lst xs))) ∨
    ∃ (o:Obj) (its:Array Value) (n:Nat),K.lookup a=some o∧o.cls=.type "list" ∧ o.dict=none∧o.data=.seq its n∧its.size≤sizeLine∧aL xs its.toList
section
variable (K:PySem.W.Frag) (ρ:List Addr) (H:Hp)
mutual
def RD:D→V→Prop
  | .non,v=>v=.non
  | .bl b,v=>v=.bl b
  | .int i,v=>v=.int i
  | .str x,v=>v=.str (toS x)
  | .tup l,v=>∃ p vs,v=.ref p∧H p=some (.tup vs)∧RDs l vs
  | .lit l,v=>∃ p vs,v=.ref p∧ku K H p vs∧RDs l vs
  | .ref n,v=>∃ a,ρ[n]? = some a∧v=.ref a
  | .exn c l,v=>l=[] ∧ ∃ a C,v=.ref a∧H a=some (jc a C)∧PySem.W.nsIn K mainGlobals (Str.ofString c)=some (some (.ref C))
def RDs:List D→List V→Prop
  | [],vs=>vs=[]
  | d :: ds,vs=>∃ v r,vs=v :: r∧RD d v∧RDs ds r
end
def RC:eS→Addr→Prop
  | .lst l,a=>∃ vs,H a=some (.lst vs)∧RDs K ρ H l vs
  | .dct l,a=>∃ kvs,H a=some (.dK kvs)∧kvs.map (·.1)=l.map (fun p=>(Sum.inl p.1:Key))∧RDs K ρ H (l.map (·.2)) (kvs.map (·.2))
structure RH (hd:Hd):Prop where
  len : ρ.length=hd.length
  nd : ρ.Nodup
  cel:∀ (n:Nat) c a,hd[n]? = some c → ρ[n]? = some a→RC K ρ H c a
structure RSt (σd:Sd) (σ:St):Prop where
  len : σd.length = σ.length
  at':∀ i d,slot σd i=some d → ∃ v,σ[i]? = some (some v)∧RD K ρ H d v
structure RS (σd:Sd) (hd:Hd) (σ:St):Prop where
  hp:RH K ρ H hd
  st:RSt K ρ H σd σ
end
structure Ext (ρ:List Addr) (H:Hp) (ρ':List Addr) (H':Hp):Prop where
  pre:∃ t,ρ' = ρ ++ t
  new:∀ a ∈ ρ',a ∈ ρ ∨H a=none
  frame:∀ p o,H p=some o→p ∉ ρ → H' p=some o
section
variable {K:PySem.W.Frag} {ρ ρ' ρ'':List Addr} {H H' H'':Hp} {hd hd':Hd} {σd σd':Sd} {σ σ':St}
theorem Ext.refl:Ext ρ H ρ H:=⟨⟨[],by simp⟩,fun _ h=>.inl h,fun _ _ h _=>h⟩
theorem Ext.out (e:Ext ρ H ρ' H'){p:Addr}{o:HO}(h:H p=some o)(n:p ∉ ρ):p ∉ ρ':=fun z=>by
  rcases e.new p z with q|q
  · exact n q
  · rw [h] at q;cases q
theorem Ext.trans (a:Ext ρ H ρ' H')(b:Ext ρ' H' ρ'' H''):Ext ρ H ρ'' H'' where
  pre:=by
    obtain⟨t,rfl⟩:=a.pre
    obtain⟨u,rfl⟩:=b.pre
    exact⟨t++u,by simp⟩
  new:=fun x hx=>by
    rcases b.new x hx with q|q
    · exact a.new x q
    · cases e:H x with
      | none=>exact .inr rfl
      | some o =>
        by_cases hn:x ∈ ρ
        · exact .inl hn
        · rw [a.frame x o e hn] at q;cases q
  frame:=fun p o h n=>b.frame p o (a.frame p o h n) (a.out h n)
theorem Ext.same (s:eR H H'):Ext ρ H ρ H':=⟨⟨[],by simp⟩,fun _ h=>.inl h,fun p o h _=>s p o h⟩
theorem Ext.get (e:Ext ρ H ρ' H'){n:Nat}{a:Addr}(h : ρ[n]? = some a) : ρ'[n]? = some a:=by
  obtain⟨t,rfl⟩:=e.pre
  rw [List.getElem?_append_left (List.getElem?_eq_some_iff.mp h).1]
  exact h
theorem RH.mut (r:RH K ρ H hd){a:Addr}(h:a ∈ ρ):(∃ vs,H a=some (.lst vs)) ∨ ∃ kvs,H a=some (.dK kvs):=by
  obtain⟨n,hn⟩:=List.getElem?_of_mem h
  have hl:=(List.getElem?_eq_some_iff.mp hn).1
  have hc:hd[n]? = some (hd[n]'(by rw [← r.len];exact hl)):=by simp
  have q:=r.cel n _ a hc hn
  cases e:hd[n]'(by rw [← r.len];exact hl) with
  | lst l=>rw [e] at q;obtain⟨vs,h1,_⟩:=q;exact .inl ⟨vs,h1⟩
  | dct l=>rw [e] at q;obtain⟨vs,h1,_⟩:=q;exact .inr ⟨vs,h1⟩
theorem RH.noTup (r:RH K ρ H hd){a:Addr}{vs:List V}(h:H a=some (.tup vs)):a ∉ ρ:=fun z=>by
  rcases r.mut z with ⟨_,q⟩|⟨_,q⟩<;>(rw [h] at q;cases q)
theorem RH.noFrz (r:RH K ρ H hd){a:Addr}{o:Obj}{u:HO}(h:H a=some (.frz o u)):a ∉ ρ:=fun z=>by
  rcases r.mut z with ⟨_,q⟩|⟨_,q⟩<;>(rw [h] at q;cases q)
theorem RH.noExt (r:RH K ρ H hd){a:Addr}{φ : Heap→Prop}(h:H a=some (.ext φ)):a ∉ ρ:=fun z=>by
  rcases r.mut z with ⟨_,q⟩|⟨_,q⟩<;>(rw [h] at q;cases q)
structure Kp (ρ:List Addr) (H:Hp) (ρ':List Addr) (H':Hp):Prop where
  get:∀ (n:Nat) a,ρ[n]? = some a → ρ'[n]? = some a
  tup:∀ a vs,H a=some (.tup vs)→H' a=some (.tup vs)
  frz:∀ a o u,H a=some (.frz o u)→H' a=some (.frz o u)
  ext:∀ a φ,H a=some (.ext φ)→H' a=some (.ext φ)
theorem RH.kp (r:RH K ρ H hd)(e:Ext ρ H ρ' H'):Kp ρ H ρ' H' :=
  ⟨fun _ _ h=>e.get h,fun _ _ h=>e.frame _ _ h (r.noTup h),fun _ _ _ h=>e.frame _ _ h (r.noFrz h),fun _ _ h=>e.frame _ _ h (r.noExt h)⟩
theorem Kp.same (s:eR H H'):Kp ρ H ρ H':=⟨fun _ _ h=>h,fun _ _ h=>s _ _ h,fun _ _ _ h=>s _ _ h,fun _ _ h=>s _ _ h⟩
theorem ku.mono {a:Addr}{xs:List V}(k:Kp ρ H ρ' H')(h:ku K H a xs):ku K H' a xs:=by
  rcases h with ⟨o,h⟩|h
  · exact .inl ⟨o,k.frz _ _ _ h⟩
  · exact .inr h
mutual
theorem RD.mono (k:Kp ρ H ρ' H'):∀ {d:D} {v:V},RD K ρ H d v→RD K ρ' H' d v
  | .non,_,h=>by simp only [RD] at h ⊢;exact h
  | .bl _,_,h=>by simp only [RD] at h ⊢;exact h
  | .int _,_,h=>by simp only [RD] at h ⊢;exact h
  | .str _,_,h=>by simp only [RD] at h ⊢;exact h
  | .tup l,_,h=>by
    simp only [RD] at h ⊢
    obtain⟨p,vs,e,h1,h2⟩:=h
    exact⟨p,vs,e,k.tup _ _ h1,RDs.mono k h2⟩
  | .lit l,_,h=>by
    simp only [RD] at h ⊢
    obtain⟨p,vs,e,h1,h2⟩:=h
    exact⟨p,vs,e,h1.mono k,RDs.mono k h2⟩
  | .ref n,_,h=>by
    simp only [RD] at h ⊢
    obtain⟨a,h1,h2⟩:=h
    exact⟨a,k.get _ _ h1,h2⟩
  | .exn _ _,_,h=>by
    simp only [RD] at h ⊢
    obtain⟨e0,a,C,e,h1,h2⟩:=h
    exact⟨e0,a,C,e,k.ext _ _ h1,h2⟩
theorem RDs.mono (k:Kp ρ H ρ' H'):∀ {l:List D} {vs:List V},RDs K ρ H l vs→RDs K ρ' H' l vs
  | [],_,h=>by simp only [RDs] at h ⊢;exact h
  | d :: ds,_,h=>by
    simp only [RDs] at h ⊢
    obtain⟨v,r,e,h1,h2⟩:=h
    exact⟨v,r,e,RD.mono k h1,RDs.mono k h2⟩
end
theorem RDs.nil:RDs K ρ H [] []:=by simp only [RDs]
theorem RDs.cons {d:D}{v:V}{ds:List D}{vs:List V}(h:RD K ρ H d v)(t:RDs K ρ H ds vs):RDs K ρ H (d :: ds) (v :: vs):=by
  simp only [RDs];exact⟨v,vs,rfl,h,t⟩
theorem RDs.length:∀ {l:List D} {vs:List V},RDs K ρ H l vs→l.length=vs.length
  | [],_,h=>by simp only [RDs] at h;subst h;rfl
  | d :: ds,_,h=>by
    simp only [RDs] at h
    obtain⟨v,r,e,h1,h2⟩:=h
    subst e
    simp [RDs.length h2]
theorem RDs.get:∀ {l:List D} {vs:List V} {i:Nat} {d:D},RDs K ρ H l vs→l[i]? = some d → ∃ v,vs[i]? = some v∧RD K ρ H d v
  | [],_,i,_,_,e=>by simp at e
  | d :: ds,_,0,_,h,e=>by
    simp only [RDs] at h
    obtain⟨v,r,e',h1,h2⟩:=h
    subst e'
    simp at e
    subst e
    exact⟨v,rfl,h1⟩
  | d :: ds,_,i + 1,x,h,e=>by
    simp only [RDs] at h
    obtain⟨v,r,e',h1,h2⟩:=h
    subst e'
    obtain⟨w,hw,q⟩:=RDs.get (i:=i) (d:=x) h2 (by simpa using e)
    exact⟨w,by simpa using hw,q⟩
theorem RDs.set {d:D}{v:V}(h:RD K ρ H d v):∀ {l:List D} {vs:List V} (i:Nat),RDs K ρ H l vs→RDs K ρ H (l.set i d) (vs.set i v)
  | [],_,_,q=>by simp only [RDs] at q;subst q;exact RDs.nil
  | x :: xs,_,i,q=>by
    simp only [RDs] at q
    obtain⟨w,r,e,h1,h2⟩:=q
    subst e
    cases i with
    | zero=>exact RDs.cons h h2
    | succ i=>exact RDs.cons h1 (RDs.set h i h2)
theorem RDs.append:∀ {l l':List D} {vs vs':List V},RDs K ρ H l vs→RDs K ρ H l' vs'→RDs K ρ H (l++l') (vs++vs')
  | [],_,_,_,h,q=>by simp only [RDs] at h;subst h;exact q
  | d :: ds,_,_,_,h,q=>by
    simp only [RDs] at h
    obtain⟨v,r,e,h1,h2⟩:=h
    subst e
    exact RDs.cons h1 (RDs.append h2 q)
theorem RDs.take:∀ {l:List D} {vs:List V} (n:Nat),RDs K ρ H l vs→RDs K ρ H (l.take n) (vs.take n)
  | _,_,0,_=>by simp;exact RDs.nil
  | [],_,n + 1,h=>by simp only [RDs] at h;subst h;exact RDs.nil
  | d :: ds,_,n + 1,h=>by
    simp only [RDs] at h
    obtain⟨v,r,e,h1,h2⟩:=h
    subst e
    exact RDs.cons h1 (RDs.take n h2)
theorem RDs.drop:∀ {l:List D} {vs:List V} (n:Nat),RDs K ρ H l vs→RDs K ρ H (l.drop n) (vs.drop n)
  | _,_,0,h=>by simpa using h
  | [],_,n + 1,h=>by simp only [RDs] at h;subst h;exact RDs.nil
  | d :: ds,_,n + 1,h=>by
    simp only [RDs] at h
    obtain⟨v,r,e,h1,h2⟩:=h
    subst e
    simpa using RDs.drop n h2
theorem RC.mono {c:eS}{a:Addr}(k:Kp ρ H ρ' H')(e:H' a=H a)(h:RC K ρ H c a):RC K ρ' H' c a:=by
  cases c with
  | lst l=>obtain⟨vs,h1,h2⟩:=h;exact⟨vs,e.trans h1,h2.mono k⟩
  | dct l=>obtain⟨vs,h1,h2,h3⟩:=h;exact⟨vs,e.trans h1,h2,h3.mono k⟩
theorem RH.same (r:RH K ρ H hd)(s:eR H H'):RH K ρ H' hd :=
  ⟨r.len,r.nd,fun n c a h1 h2=>(r.cel n c a h1 h2).mono (Kp.same s) (by
    rcases r.mut (List.mem_of_getElem? h2) with ⟨_,q⟩|⟨_,q⟩<;>rw [q,s _ _ q])⟩
theorem RSt.mono (k:Kp ρ H ρ' H')(r:RSt K ρ H σd σ):RSt K ρ' H' σd σ :=
  ⟨r.len,fun i d h=>let ⟨v,h1,h2⟩:=r.at' i d h;⟨v,h1,h2.mono k⟩⟩
theorem RS.same (r:RS K ρ H σd hd σ)(s:eR H H'):RS K ρ H' σd hd σ:=⟨r.hp.same s,r.st.mono (Kp.same s)⟩
theorem bO {p:Addr}{o:HO}(h:H p=none):eR H (upd H p o):=fun b u e=>by
  rw [az (bg e h)];exact e
theorem RH.alloc (r:RH K ρ H hd){p:Addr}{l:List D}{vs:List V}(hp:H p=some (.lst vs))(hn:p ∉ ρ)(h:RDs K ρ H l vs):RH K (ρ ++ [p]) H (hd++[.lst l]):=by
  have k:Kp ρ H (ρ ++ [p]) H:=⟨fun n a e=>by rw [List.getElem?_append_left (List.getElem?_eq_some_iff.mp e).1];exact e,fun _ _ h=>h,fun _ _ _ h=>h,fun _ _ h=>h⟩
  refine⟨by simp [r.len],?_,fun n c a h1 h2 => ?_⟩
  · rw [List.nodup_append]
    exact⟨r.nd,by simp,fun a ha b hb=>by simp at hb;subst hb;intro e;subst e;exact hn ha⟩
  · by_cases hlt:n < hd.length
    · rw [List.getElem?_append_left hlt] at h1
      rw [List.getElem?_append_left (by rw [r.len];exact hlt)] at h2
      exact (r.cel n c a h1 h2).mono k rfl
    · have e1:n=hd.length:=by
        have:=(List.getElem?_eq_some_iff.mp h1).1
        simp at this
        omega
      subst e1
      simp at h1
      subst h1
      rw [← r.len] at h2
      simp at h2
      subst h2
      exact⟨vs,hp,h.mono k⟩
theorem lX {α : Type}:∀ {l:List α},l.Nodup → ∀ {i j:Nat} {x : α},l[i]? = some x→l[j]? = some x→i=j
  | [],_,i,_,_,e,_=>by simp at e
  | a :: l,nd,0,0,_,_,_=>rfl
  | a :: l,nd,0,j + 1,x,e,e'=>by
    simp at e e'
    subst e
    exact absurd (List.mem_of_getElem? e') (List.nodup_cons.mp nd).1
  | a :: l,nd,i + 1,0,x,e,e'=>by
    simp at e e'
    subst e'
    exact absurd (List.mem_of_getElem? e) (List.nodup_cons.mp nd).1
  | a :: l,nd,i + 1,j + 1,x,e,e'=>by
    simp at e e'
    rw [lX (List.nodup_cons.mp nd).2 e e']
theorem RH.write (r:RH K ρ H hd){n:Nat}{p:Addr}{l:List D}{vs:List V}(hp : ρ[n]? = some p)(hn:n < hd.length)(h:RDs K ρ H l vs):RH K ρ (upd H p (.lst vs)) (hd.set n (.lst l)):=by
  have k:Kp ρ H ρ (upd H p (.lst vs)):=by
    have hm:=List.mem_of_getElem? hp
    refine⟨fun _ _ h=>h,fun a us e => ?_,fun a o u e => ?_,fun a φ e => ?_⟩
    · rw [az (fun z=>r.noTup e (by rw [z];exact hm))];exact e
    · rw [az (fun z=>r.noFrz e (by rw [z];exact hm))];exact e
    · rw [az (fun z=>r.noExt e (by rw [z];exact hm))];exact e
  refine⟨by simp [r.len],r.nd,fun m c a h1 h2 => ?_⟩
  by_cases e:n=m
  · subst e
    rw [List.getElem?_set_self hn] at h1
    cases h1
    rw [hp] at h2
    cases h2
    exact⟨vs,aV,h.mono k⟩
  · rw [List.getElem?_set_ne e] at h1
    have ne:a≠p:=fun z=>by
      subst z
      exact e (lX r.nd hp h2)
    exact (r.cel m c a h1 h2).mono k (az ne)
theorem Ext.write {p:Addr}{o:HO}(hp:p ∈ ρ):Ext ρ H ρ (upd H p o) :=
  ⟨⟨[],by simp⟩,fun _ h=>.inl h,fun q u e n=>by rw [az (fun z=>n (by rw [z];exact hp))];exact e⟩
theorem Ext.alloc {p:Addr}(h:H p=none){o:HO}:Ext ρ H (ρ ++ [p]) (upd H p o) :=
  ⟨⟨[p],rfl⟩,fun a ha=>by
    rcases List.mem_append.mp ha with q|q
    · exact .inl q
    · simp at q;subst q;exact .inr h,fun q u e _=>bO h q u e⟩
theorem RS.ext (r:RS K ρ H σd hd σ)(e:Ext ρ H ρ' H')(h:RH K ρ' H' hd'):RS K ρ' H' σd hd' σ:=⟨h,r.st.mono (r.hp.kp e)⟩
end
end Fm
set_option Elab.async false
set_option linter.all false
set_option maxRecDepth 100000
namespace Fm
open PySem PySem.Spec L2
abbrev VR (α β : Type):=List Addr→Hp → α → β → Prop
section
variable (K:PySem.W.Frag)
def bh {α β : Type} (R:VR α β) (ρ:List Addr) (H:Hp) (σd:Sd) (σ:St) (r:Res α) (Q : β → Hp→Prop):Prop:=match r with
  | .ok a hd'=>∀ b H' ρ',Ext ρ H ρ' H'→RS K ρ' H' σd hd' σ → R ρ' H' a b→Q b H'
  | _=>False
def gX {α β : Type} (R:VR α β) (f:Sd→Hd→Res α):St→Hp→(β → Hp→Prop)→Prop:=fun σ H Q =>
  ∃ ρ σd hd,RS K ρ H σd hd σ ∧ bh K R ρ H σd σ (f σd hd) Q
abbrev rD:VR D V:=fun ρ H d v=>RD K ρ H d v
abbrev rDs:VR (List D) (List V):=fun ρ H d v=>RDs K ρ H d v
abbrev rB:VR Bool Bool:=fun _ _ a b=>a=b
abbrev rO:VR (Option Int) (Option Int):=fun _ _ a b=>a=b
def rQ:VR (List D) V:=fun ρ H l v=>∃ p vs,v=.ref p∧(SqL K H p vs∨H p=some (.tup vs))∧RDs K ρ H l vs
def wS (ρ:List Addr) (H:Hp) (σd:Sd) (σ:St) (r:Res (List D)) (Q:VK):Prop:=match r with
  | .ok l hd'=>∀ q vs H' ρ',Ext ρ H ρ' H'→RS K ρ' H' σd hd' σ → H q=none→H' q=some (.lst vs)→q ∉ ρ'→RDs K ρ' H' l vs→Q (.ref q) H'
  | _=>False
def EA (f:LF):TE:=fun σ H Q=>∃ ρ σd hd,RS K ρ H σd hd σ ∧ wS K ρ H σd σ (f σd hd) Q
def bv (ρ:List Addr) (H:Hp) (o:Out) (E:lI):Prop:=match o with
  | .nx σd hd=>∀ σ H' ρ',Ext ρ H ρ' H'→RS K ρ' H' σd hd σ → E.nx σ H'
  | .bk σd hd=>∀ σ H' ρ',Ext ρ H ρ' H'→RS K ρ' H' σd hd σ → E.bk σ H'
  | .ct σd hd=>∀ σ H' ρ',Ext ρ H ρ' H'→RS K ρ' H' σd hd σ → E.ct σ H'
  | .rt d hd=>∀ v H' ρ',Ext ρ H ρ' H'→RH K ρ' H' hd→RD K ρ' H' d v→E.rt v H'
  | _=>False
def zo (f:SF):TS:=fun E σ H=>∃ ρ σd hd,RS K ρ H σd hd σ ∧ bv K ρ H (f σd hd) E
end
def ME (X:Cx) (e:Expr) (f:EF):Prop:=PE X e (gX X.K (rD X.K) f)
def MQ (X:Cx) (e:Expr) (f:LF):Prop:=PE X e (gX X.K (rQ X.K) f)
def MF (X:Cx) (e:Expr) (f:LF):Prop:=PE X e (EA X.K f)
def MT (X:Cx) (e:Expr) (f:TF):Prop:=PT X e (gX X.K rB f)
def MW (X:Cx) (e:Expr) (f:TF):Prop:=PW X e (gX X.K rB f)
def MA (X:Cx) (es:List Expr) (f:LF):Prop:=PA X es (gX X.K (rDs X.K) f)
def MS (X:Cx) (s:Stmt) (f:SF):Prop:=PS X s (zo X.K f)
def MSs (X:Cx) (s:List Stmt) (f:SF):Prop:=PSs X s (zo X.K f)
section
variable {X:Cx}
theorem PE.imp {e:Expr}{t u:TE}(h:PE X e t)(i:∀ σ H Q,u σ H Q→t σ H Q):PE X e u:=fun pins s σ H Q I q=>h pins s σ H Q I (i σ H Q q)
theorem PT.imp {e:Expr}{t u:TT}(h:PT X e t)(i:∀ σ H Q,u σ H Q→t σ H Q):PT X e u:=fun pins s σ H Q I q=>h pins s σ H Q I (i σ H Q q)
theorem PW.imp {e:Expr}{t u:TT}(h:PW X e t)(i:∀ σ H Q,u σ H Q→t σ H Q):PW X e u:=fun w pins s σ H Q I q=>h w pins s σ H Q I (i σ H Q q)
theorem PA.imp {e:List Expr}{t u:TA}(h:PA X e t)(i:∀ σ H Q,u σ H Q→t σ H Q):PA X e u:=fun p pins s σ H Q I q=>h p pins s σ H Q I (i σ H Q q)
theorem PS.imp {e:Stmt}{t u:TS}(h:PS X e t)(i:∀ D σ H,u D σ H→t D σ H):PS X e u:=fun pins s σ H D I q=>h pins s σ H D I (i D σ H q)
theorem PSs.imp {e:List Stmt}{t u:TS}(h:PSs X e t)(i:∀ D σ H,u D σ H→t D σ H):PSs X e u:=fun pins s σ H D I q=>h pins s σ H D I (i D σ H q)
end
section
variable {K:PySem.W.Frag} {ρ ρ':List Addr} {H H':Hp} {hd hd':Hd} {σd:Sd} {σ:St} {α β α' β':Type} {R:VR α β} {R':VR α' β'}
theorem bh.here {a : α}{b : β}{Q : β → Hp→Prop}(h:bh K R ρ H σd σ (.ok a hd) Q)(r:RS K ρ H σd hd σ)(q:R ρ H a b):Q b H:=h b H ρ Ext.refl r q
theorem bh.at {a : α}{b : β}{Q : β → Hp→Prop}(h:bh K R ρ H σd σ (.ok a hd) Q)(e:Ext ρ H ρ' H')(r:RS K ρ' H' σd hd σ)(q:R ρ' H' a b):Q b H':=h b H' ρ' e r q
theorem bh.imp {r:Res α}{Q Q' : β → Hp→Prop}(h:bh K R ρ H σd σ r Q)(i:∀ b H',Q b H'→Q' b H'):bh K R ρ H σd σ r Q':=by
  cases r with
  | ok a h'=>exact fun b H' ρ' e s q=>i b H' (h b H' ρ' e s q)
  | exc x h'=>exact h
  | bad=>exact h
theorem bh.ext {r:Res α}{Q : β → Hp→Prop}(e:Ext ρ H ρ' H')(h:bh K R ρ H σd σ r Q):bh K R ρ' H' σd σ r Q:=by
  cases r with
  | ok a h'=>exact fun b H'' ρ'' e' s q=>h b H'' ρ'' (e.trans e') s q
  | exc x h'=>exact h
  | bad=>exact h
theorem bh.bind {r:Res α}{k : α → Hd→Res α'}{Q : β'→Hp→Prop}(h:bh K R' ρ H σd σ (r.bind k) Q) :
    bh K R ρ H σd σ r (fun b H'=>∃ ρ' a hd',Ext ρ H ρ' H'∧RS K ρ' H' σd hd' σ ∧ R ρ' H' a b∧bh K R' ρ' H' σd σ (k a hd') Q):=by
  cases r with
  | ok a h'=>exact fun b H' ρ' e s q=>⟨ρ',a,h',e,s,q,bh.ext e h⟩
  | exc x h'=>exact h
  | bad=>exact h
theorem bv.ext {o:Out}{E:lI}(e:Ext ρ H ρ' H')(h:bv K ρ H o E):bv K ρ' H' o E:=by
  cases o with
  | nx σ h'=>exact fun σ' H'' ρ'' e' s=>h σ' H'' ρ'' (e.trans e') s
  | bk σ h'=>exact fun σ' H'' ρ'' e' s=>h σ' H'' ρ'' (e.trans e') s
  | ct σ h'=>exact fun σ' H'' ρ'' e' s=>h σ' H'' ρ'' (e.trans e') s
  | rt d h'=>exact fun v H'' ρ'' e' s q=>h v H'' ρ'' (e.trans e') s q
  | exc x σ h'=>exact h
  | bad=>exact h
end
section
variable {X:Cx} {pos:Pos}
theorem C9 {i:Nat} {x:Str} (hN:X.N[i]? = some x) (hv:Vis X.env.scope x) (hd:(x == ("__debug__" : Str))=false:=by decide) (hcd:(x == ("__classdict__" : Str))=false:=by decide):ME X (.Name x pos) (aa i):=by
  refine PE.imp (CA hN hv hd hcd) fun σ H Q ⟨ρ,σd,hd,r,h⟩ => ?_
  unfold aa at h
  cases e:slot σd i with
  | none=>rw [e] at h;exact h.elim
  | some d =>
    rw [e] at h
    obtain⟨v,h1,h2⟩:=r.st.at' i d e
    exact⟨v,h1,h.here r h2⟩
theorem lY {K:PySem.W.Frag}{d:D}{v:V}(hv:∀ ρ H,RD K ρ H d v):∀ σ H Q,gX K (rD K) (fC d) σ H Q→tC v σ H Q:=fun _ H _ ⟨ρ,_,_,r,h⟩=>h.here r (hv ρ H)
theorem aj {i:Int}{j}:ME X (.Constant (.int i) j pos) (fC (.int i)):=PE.imp yX (lY fun _ _=>by simp only [RD])
theorem gY {b j}:ME X (.Constant (.bool b) j pos) (fC (.bl b)):=PE.imp Ec (lY fun _ _=>by simp only [RD])
theorem cX {j}:ME X (.Constant .none j pos) (fC .non):=PE.imp CB (lY fun _ _=>by simp only [RD])
theorem cH {x:Str}{j}(l:List Nat)(h:x=toS l):ME X (.Constant (.str x) j pos) (fC (.str l)):=PE.imp vg (lY fun _ _=>by simp only [RD];rw [h])
theorem tP {x:Str} {i:Int} {t:Tok} (hg:Gl X x) (hm:X.mg x=some (.int i t)) (hd:(x == ("__debug__" : Str))=false:=by decide):ME X (.Name x pos) (fC (.int i)) :=
  PE.imp (qo (v:=.int i) hg hm ⟨t,rfl⟩ hd) (lY fun _ _=>by simp only [RD])
theorem me2 {a b:Expr}{fa fb:EF}{r:R2}{g:O2}{e:Expr}(h:PE X e (tOp r (gX X.K (rD X.K) fa) (gX X.K (rD X.K) fb)))
    (hg:∀ ρ H σd hd σ d k v w Q,RS X.K ρ H σd hd σ → RD X.K ρ H d v→RD X.K ρ H k w→bh X.K (rD X.K) ρ H σd σ (g d k hd) Q→r v w H Q):ME X e (aq g fa fb):=by
  refine PE.imp h fun σ H Q ⟨ρ,σd,hd,rs,p⟩ => ?_
  refine⟨ρ,σd,hd,rs,(bh.bind (R:=rD X.K) p).imp fun v H1 ⟨ρ1,d,hd1,e1,rs1,rv,p1⟩ => ?_⟩
  refine⟨ρ1,σd,hd1,rs1,(bh.bind (R:=rD X.K) p1).imp fun w H2 ⟨ρ2,k,hd2,e2,rs2,rw',p2⟩ => ?_⟩
  exact hg ρ2 H2 σd hd2 σ d k v w Q rs2 (rv.mono (rs1.hp.kp e2)) rw' p2
def Og (K:PySem.W.Frag) (g:O2) (r:R2):Prop:=∀ ρ H σd hd σ d k v w Q,RS K ρ H σd hd σ → RD K ρ H d v→RD K ρ H k w→bh K (rD K) ρ H σd σ (g d k hd) Q→r v w H Q
theorem a8 {a b:Expr}{fa fb:EF}{op:Operator}{r:R2}{g:O2}(ho:OpR X (binaryOp op) r)(hg:Og X.K g r)(ha:ME X a fa)(hb:ME X b fb):ME X (.BinOp a op b pos) (aq g fa fb) :=
  me2 (a:=a) (b:=b) (Cg ho ha hb) hg
theorem fW {a b:Expr}{fa fb:EF}{op:CmpOp}{r:R2}{g:O2}(ho:OpR X (compareOp op) r)(hg:Og X.K g r)(ha:ME X a fa)(hb:ME X b fb)(hm:behindInMarks op b=false):ME X (.Compare a [op] [b] pos) (aq g fa fb) :=
  me2 (a:=a) (b:=b) (AZ ho ha hb hm) hg
theorem A9 {K:PySem.W.Frag}{g:Int→Int→Int}:Og K (oI g) (rI0 fun i j=>.int (g i j)):=by
  intro ρ H σd hd σ d k v w Q rs rv rw' p
  cases d<;>cases k<;>first|exact p.elim|skip
  simp only [RD] at rv rw'
  exact⟨_,_,rv,rw',p.here rs (by simp only [rD,RD])⟩
theorem xK {K:PySem.W.Frag}{g:Int→Int→Bool}:Og K (oB g) (rI0 fun i j=>.bl (g i j)):=by
  intro ρ H σd hd σ d k v w Q rs rv rw' p
  cases d<;>cases k<;>first|exact p.elim|skip
  simp only [RD] at rv rw'
  exact⟨_,_,rv,rw',p.here rs (by simp only [rD,RD])⟩
theorem wT {K:PySem.W.Frag}{c:Int→Int→Bool}{C:Int→Int→Prop}{g:Int→Int→Int}(hc:∀ i j,c i j=true→C i j):Og K (oIc c g) (rI C fun i j=>.int (g i j)):=by
  intro ρ H σd hd σ d k v w Q rs rv rw' p
  cases d<;>cases k<;>first|exact p.elim|skip
  rename_i i j
  simp only [RD] at rv rw'
  cases e:c i j with
  | false=>simp only [oIc,e] at p;exact p.elim
  | true =>
    simp only [oIc,e,if_true] at p
    exact⟨i,j,rv,rw',hc i j e,p.here rs (by simp only [rD,RD])⟩
theorem qD {i:Int}(h:sml i=true) : -(2 ^ 64) < i∧i < 2 ^ 64:=by
  simp only [sml,Bool.and_eq_true,decide_eq_true_eq] at h;exact h
theorem gZ {K:PySem.W.Frag}:Og K gJ (rI AY fun i j=>.int (i * j)):=wT fun i j h=>by
  rcases (Bool.or_eq_true _ _).mp h with q|q
  · exact .inl (qD q)
  · exact .inr (qD q)
theorem dZ {K:PySem.W.Frag}:Og K eg (rI (fun _ j=>0 < j) fun i j=>.int (i % j)):=wT fun i j h=>of_decide_eq_true h
def EB (_ j:Int):Prop:=0 < j∧j < 2 ^ 250
theorem zp:OpR X (binaryOp .FloorDiv) (rI EB fun i j=>.int (i / j)):=opI fun i j _ _ _ _ _ hc q=>by
  have h0:j≠0:=by have:=hc.1;omega
  refine PyProof.Rows.floordiv_int h0 (by rw [Int.fdiv_eq_ediv_of_nonneg _ (Int.le_of_lt hc.1)];exact q) (.inl (PyProof.noPylong_of_log2 ?_))
  have h2:j.natAbs < 2 ^ 250:=by have:=hc.2;have:=hc.1;omega
  have h3:j.natAbs≠0:=by omega
  have:=(Nat.log2_lt h3).mpr h2
  omega
theorem Da {K:PySem.W.Frag}:Og K zl (rI EB fun i j=>.int (i / j)):=wT fun i j h=>by
  simp only [Bool.and_eq_true,decide_eq_true_eq] at h;exact h
theorem zq {K:PySem.W.Frag}:Og K zm (rI Eo fun i j=>.int (i ^ j.toNat)):=wT fun i j h=>by
  simp only [Bool.and_eq_true,decide_eq_true_eq] at h
  have:=qD h.2
  exact⟨h.1.1,h.1.2,by omega⟩
theorem qE {K:PySem.W.Frag}{ρ:List Addr}{H:Hp}{d:D}{v:V}(h:RD K ρ H d v):lQ d=decide (v=.non):=by
  cases d<;>simp only [RD] at h
  · subst h;rfl
  · subst h;rfl
  · subst h;rfl
  · subst h;rfl
  · obtain⟨p,vs,rfl,_⟩:=h;rfl
  · obtain⟨p,vs,rfl⟩:=h;rfl
  · obtain⟨p,vs,rfl,_⟩:=h;rfl
  · obtain⟨_,p,vs,rfl,_⟩:=h;rfl
theorem qF {K:PySem.W.Frag}:Og K kR (fun x y H Q=>y=.non∧Q (.bl (decide (x=.non))) H):=by
  intro ρ H σd hd σ d k v w Q rs rv rw' p
  unfold kR at p
  cases e:lQ k with
  | false=>rw [e] at p;exact p.elim
  | true =>
    rw [e,if_pos rfl] at p
    refine⟨of_decide_eq_true ((qE rw').symm.trans e),?_⟩
    rw [← qE rv]
    exact p.here rs (by simp only [rD,RD])
theorem jZ {K:PySem.W.Frag}:Og K ei (fun x y H Q=>y=.non∧Q (.bl (!decide (x=.non))) H):=by
  intro ρ H σd hd σ d k v w Q rs rv rw' p
  unfold ei at p
  cases e:lQ k with
  | false=>rw [e] at p;exact p.elim
  | true =>
    rw [e,if_pos rfl] at p
    refine⟨of_decide_eq_true ((qE rw').symm.trans e),?_⟩
    rw [← qE rv]
    exact p.here rs (by simp only [rD,RD])
theorem j0 {K:PySem.W.Frag}{ρ:List Addr}{H:Hp}{σd:Sd}{σ:St}{r:Res D}{Q:Bool→Hp→Prop}(h:bh K rB ρ H σd σ (asB r) Q):bh K (rD K) ρ H σd σ r (fun x H'=>∃ c,x=.bl c∧Q c H'):=by
  refine (bh.bind (R:=rD K) h).imp fun v H1 ⟨ρ1,d,hd1,e1,rs1,rv,p1⟩ => ?_
  cases d<;>first|exact p1.elim|skip
  simp only [rD,RD] at rv
  exact⟨_,rv,p1.here rs1 rfl⟩
theorem bF {e:Expr}{f:EF}(h:ME X e f)(he:∀ whole,isTrue e X.env whole=(do let v ← whole;standAt e.pos;holding [v] (truthy v)):=by intro _;rfl):MT X e (tE f) :=
  PT.imp (CC h he) fun σ H Q ⟨ρ,σd,hd,rs,p⟩=>⟨ρ,σd,hd,rs,j0 p⟩
theorem bi {a b:Expr}{fa fb:EF}{op:CmpOp}{r:R2}{g:O2}(ho:OpR X (compareOp op) r)(hg:Og X.K g r)(ha:ME X a fa)(hb:ME X b fb)(hm:behindInMarks op b=false):MT X (.Compare a [op] [b] pos) (tE (aq g fa fb)):=by
  refine PT.imp (A0 ho ha hb hm) fun σ H Q ⟨ρ,σd,hd,rs,p⟩ => ?_
  have p:=j0 p
  refine⟨ρ,σd,hd,rs,(bh.bind (R:=rD X.K) p).imp fun v H1 ⟨ρ1,d,hd1,e1,rs1,rv,p1⟩ => ?_⟩
  refine⟨ρ1,σd,hd1,rs1,(bh.bind (R:=rD X.K) p1).imp fun w H2 ⟨ρ2,k,hd2,e2,rs2,rw',p2⟩ => ?_⟩
  exact hg ρ2 H2 σd hd2 σ d k v w _ rs2 (rv.mono (rs1.hp.kp e2)) rw' p2
theorem b8 {a:Expr}{t:TF}(h:MT X a t):MT X (.UnaryOp .Not a pos) (bD t):=by
  refine PT.imp (CH h) fun σ H Q ⟨ρ,σd,hd,rs,p⟩=>⟨ρ,σd,hd,rs,(bh.bind (R:=rB) p).imp fun c H1 ⟨ρ1,d,hd1,e1,rs1,rv,p1⟩ => ?_⟩
  cases rv
  exact p1.here rs1 rfl
theorem d5 {op a}{t:TF}(h:MT X a t)(ho:op=BoolOp.And∨op=BoolOp.Or):MW X (.BoolOp op [a] pos) t:=by
  rcases ho with rfl|rfl
  · exact AV h
  · exact CF h
theorem zr {a b:Expr}{rest:List Expr}{t u:TF}(ha:MT X a t)(hb:MW X (.BoolOp .And (b :: rest) pos) u):MW X (.BoolOp .And (a :: b :: rest) pos) (gO t u):=by
  refine PW.imp (CG ha hb) fun σ H Q ⟨ρ,σd,hd,rs,p⟩=>⟨ρ,σd,hd,rs,(bh.bind (R:=rB) p).imp fun c H1 ⟨ρ1,d,hd1,e1,rs1,rv,p1⟩ => ?_⟩
  cases rv
  cases c with
  | true=>simp only [if_true] at p1 ⊢;exact⟨ρ1,σd,hd1,rs1,p1⟩
  | false=>simp only [Bool.false_eq_true,if_false] at p1 ⊢;exact p1.here rs1 rfl
theorem iH {a b:Expr}{rest:List Expr}{t u:TF}(ha:MT X a t)(hb:MW X (.BoolOp .Or (b :: rest) pos) u):MW X (.BoolOp .Or (a :: b :: rest) pos) (tOr t u):=by
  refine PW.imp (Ed ha hb) fun σ H Q ⟨ρ,σd,hd,rs,p⟩=>⟨ρ,σd,hd,rs,(bh.bind (R:=rB) p).imp fun c H1 ⟨ρ1,d,hd1,e1,rs1,rv,p1⟩ => ?_⟩
  cases rv
  cases c with
  | true=>simp only [if_true] at p1 ⊢;exact p1.here rs1 rfl
  | false=>simp only [Bool.false_eq_true,if_false] at p1 ⊢;exact⟨ρ1,σd,hd1,rs1,p1⟩
theorem MW.mt {e:Expr}{t:TF}(h:MW X e t):MT X e t:=h.pt
theorem Ba {K:PySem.W.Frag}{t:TF}{σ:St}{H:Hp}{Q:VK}(h:gX K (rD K) (fT t) σ H Q):gX K rB t σ H (fun b H'=>Q (.bl b) H'):=by
  obtain⟨ρ,σd,hd,rs,p⟩:=h
  refine⟨ρ,σd,hd,rs,(bh.bind (R:=rB) p).imp fun c H1 ⟨ρ1,d,hd1,e1,rs1,rv,p1⟩ => ?_⟩
  cases rv
  exact p1.here rs1 (by simp only [rD,RD])
def MB (X:Cx) (e:Expr) (t:TF):Prop:=PE X e (fun σ H Q=>gX X.K rB t σ H fun b H'=>Q (.bl b) H')
theorem MB.me {e:Expr}{t:TF}(h:MB X e t):ME X e (fT t):=PE.imp h fun _ _ _ q=>Ba q
theorem gC {e:Expr}{f:EF}(h:ME X e f):MB X e (tE f):=by
  refine PE.imp h fun σ H Q ⟨ρ,σd,hd,rs,p⟩=>⟨ρ,σd,hd,rs,(j0 p).imp ?_⟩
  rintro v H1 ⟨c,rfl,q⟩
  exact q
theorem j2 {op a}{t:TF}(h:MB X a t):MB X (.BoolOp op [a] pos) t:=CJ h
theorem qG {a b:Expr}{rest:List Expr}{t u:TF}(ha:MB X a t)(hb:MB X (.BoolOp .And (b :: rest) pos) u):MB X (.BoolOp .And (a :: b :: rest) pos) (gO t u):=by
  refine PE.imp (CK ha hb) fun σ H Q ⟨ρ,σd,hd,rs,p⟩=>⟨ρ,σd,hd,rs,(bh.bind (R:=rB) p).imp fun c H1 ⟨ρ1,d,hd1,e1,rs1,rv,p1⟩=>⟨c,rfl,?_⟩⟩
  cases rv
  cases c with
  | true=>simp only [if_true] at p1 ⊢;exact⟨ρ1,σd,hd1,rs1,p1⟩
  | false=>simp only [Bool.false_eq_true,if_false] at p1 ⊢;exact p1.here rs1 rfl
theorem Ck {a b:Expr}{rest:List Expr}{t u:TF}(ha:MB X a t)(hb:MB X (.BoolOp .Or (b :: rest) pos) u):MB X (.BoolOp .Or (a :: b :: rest) pos) (tOr t u):=by
  refine PE.imp (Eg ha hb) fun σ H Q ⟨ρ,σd,hd,rs,p⟩=>⟨ρ,σd,hd,rs,(bh.bind (R:=rB) p).imp fun c H1 ⟨ρ1,d,hd1,e1,rs1,rv,p1⟩=>⟨c,rfl,?_⟩⟩
  cases rv
  cases c with
  | true=>simp only [if_true] at p1 ⊢;exact p1.here rs1 rfl
  | false=>simp only [Bool.false_eq_true,if_false] at p1 ⊢;exact⟨ρ1,σd,hd1,rs1,p1⟩
theorem Db {a:Expr}{t:TF}(h:MB X a t):MB X (.UnaryOp .Not a pos) (bD t):=by
  refine PE.imp (CL h) fun σ H Q ⟨ρ,σd,hd,rs,p⟩=>⟨ρ,σd,hd,rs,(bh.bind (R:=rB) p).imp fun c H1 ⟨ρ1,d,hd1,e1,rs1,rv,p1⟩=>⟨c,rfl,?_⟩⟩
  cases rv
  exact p1.here rs1 rfl
end
end Fm
set_option Elab.async false
set_option linter.all false
set_option maxRecDepth 100000
namespace Fm
open PySem PySem.Spec L2
section
variable {X:Cx} {pos:Pos}
theorem vx {K:PySem.W.Frag}{ρ:List Addr}{H:Hp}{σd:Sd}{hd:Hd}{σ:St}{r r':R2}{g k:O2}{fa fb fc:EF}{Q:VK}(hg:Og K g r)(hk:Og K k r')(rs:RS K ρ H σd hd σ)
    (p:bh K (rD K) ρ H σd σ (lS g k fa fb fc σd hd) Q):y9 r r' (gX K (rD K) fa) (gX K (rD K) fb) (gX K (rD K) fc) σ H Q:=by
  refine⟨ρ,σd,hd,rs,(bh.bind (R:=rD K) p).imp fun v H1 ⟨ρ1,d,hd1,e1,rs1,rv,p1⟩ => ?_⟩
  refine⟨ρ1,σd,hd1,rs1,(bh.bind (R:=rD K) p1).imp fun w H2 ⟨ρ2,d2,hd2,e2,rs2,rw2,p2⟩ => ?_⟩
  refine hg ρ2 H2 σd hd2 σ d d2 v w _ rs2 (rv.mono (rs1.hp.kp e2)) rw2 ((bh.bind (R:=rD K) p2).imp fun z H3 ⟨ρ3,d3,hd3,e3,rs3,rz,p3⟩ => ?_)
  cases d3<;>first|exact p3.elim|skip
  rename_i b
  simp only [rD,RD] at rz
  refine⟨b,rz,?_⟩
  cases b with
  | false =>
    rw [if_neg Bool.false_ne_true]
    exact p3.here rs3 (by simp only [rD,RD])
  | true =>
    rw [if_pos rfl]
    refine⟨ρ3,σd,hd3,rs3,(bh.bind (R:=rD K) p3).imp fun u H4 ⟨ρ4,d4,hd4,e4,rs4,ru,p4⟩ => ?_⟩
    exact hk ρ4 H4 σd hd4 σ d2 d4 w u Q rs4 ((rw2.mono (rs2.hp.kp e3)).mono (rs3.hp.kp e4)) ru p4
theorem zt {a b c:Expr}{fa fb fc:EF}{op op':CmpOp}{r r':R2}{g k:O2}(ho:OpR X (compareOp op) r)(ho':OpR X (compareOp op') r')(hg:Og X.K g r)(hk:Og X.K k r')(ha:ME X a fa)(hb:ME X b fb)(hc:ME X c fc)
    (hm:lastMarks [op,op'] [b,c] = false:=by with_unfolding_all rfl):ME X (.Compare a [op,op'] [b,c] pos) (lS g k fa fb fc) :=
  PE.imp (za ho ho' ha hb hc hm) fun _ _ _ ⟨_,_,_,rs,p⟩=>vx hg hk rs p
theorem aw:MA X [] ax:=PA.imp df fun _ _ _ ⟨_,_,_,rs,p⟩=>p.here rs RDs.nil
theorem af {e:Expr}{es:List Expr}{f:EF}{r:LF}(he:ME X e f)(hr:MA X es r)(hs:starEach (e :: es) X.env=(false,eval e X.env) :: starEach es X.env:=by rfl):MA X (e :: es) (ae f r):=by
  refine PA.imp (bE he hr hs) fun σ H Q ⟨ρ,σd,hd,rs,p⟩ => ?_
  refine⟨ρ,σd,hd,rs,(bh.bind (R:=rD X.K) p).imp fun v H1 ⟨ρ1,d,hd1,e1,rs1,rv,p1⟩ => ?_⟩
  refine⟨ρ1,σd,hd1,rs1,(bh.bind (R:=rDs X.K) p1).imp fun vs H2 ⟨ρ2,ds,hd2,e2,rs2,rvs,p2⟩ => ?_⟩
  exact p2.here rs2 (RDs.cons (rv.mono (rs1.hp.kp e2)) rvs)
theorem qH {n:Nat}(h:n≤SZ):n≤sizeLine:=Nat.le_trans h (by show 1000000≤2 ^ 24;decide)
theorem eD {es:List Expr}{k}{r:LF}(h:MA X es r):ME X (.Tuple es k pos) (eZ r):=by
  refine PE.imp (zb h) fun σ H Q ⟨ρ,σd,hd,rs,p⟩ => ?_
  refine⟨ρ,σd,hd,rs,(bh.bind (R:=rDs X.K) p).imp fun vs H1 ⟨ρ1,ds,hd1,e1,rs1,rvs,p1⟩ => ?_⟩
  by_cases hz:ds.length≤SZ
  · rw [if_pos hz] at p1
    refine⟨by rw [← rvs.length];exact qH hz,fun q hq => ?_⟩
    have sm:=bO (o:=HO.tup vs) hq
    exact p1.at (Ext.same sm) (rs1.same sm) (by simp only [rD,RD];exact⟨q,vs,rfl,aV,rvs.mono (Kp.same sm)⟩)
  · rw [if_neg hz] at p1;exact p1.elim
theorem Ext.fresh {ρ ρ':List Addr}{H H':Hp}{q:Addr}(e:Ext ρ H ρ' H')(h:H' q=none)(n:q ∉ ρ'):H q=none:=by
  cases z:H q with
  | none=>rfl
  | some o =>
    by_cases hq:q ∈ ρ
    · obtain⟨t,rfl⟩:=e.pre
      exact absurd (List.mem_append_left t hq) n
    · rw [e.frame q o z hq] at h;cases h
theorem RH.free {K:PySem.W.Frag}{ρ:List Addr}{H:Hp}{hd:Hd}(r:RH K ρ H hd){q:Addr}(h:H q=none):q ∉ ρ:=fun z=>by
  rcases r.mut z with ⟨_,e⟩|⟨_,e⟩<;>(rw [h] at e;cases e)
theorem wS.mk {K:PySem.W.Frag}{ρ ρ1:List Addr}{H H1:Hp}{hd1:Hd}{σd:Sd}{σ:St}{l:List D}{vs:List V}{Q:VK}(p:wS K ρ H σd σ (.ok l hd1) Q)(e1:Ext ρ H ρ1 H1)(rs1:RS K ρ1 H1 σd hd1 σ)(r:RDs K ρ1 H1 l vs) :
    ∀ q,H1 q=none→Q (.ref q) (upd H1 q (.lst vs)):=fun q hq=>by
  have sm:=bO (o:=HO.lst vs) hq
  have nq:=rs1.hp.free hq
  exact p q vs _ ρ1 (e1.trans (Ext.same sm)) (rs1.same sm) (e1.fresh hq nq) aV nq (r.mono (Kp.same sm))
theorem cY {es:List Expr}{r:LF}(h:MA X es r)(hz:∀ σd hd ds hd',r σd hd=.ok ds hd'→ds.length≤SZ):MF X (.List es pos) r:=by
  refine PE.imp (CZ h) fun σ H Q ⟨ρ,σd,hd,rs,p⟩ => ?_
  refine⟨ρ,σd,hd,rs,?_⟩
  cases e:r σd hd with
  | exc x h'=>rw [e] at p;exact p
  | bad=>rw [e] at p;exact p
  | ok ds hd1 =>
    rw [e] at p
    intro vs H1 ρ1 e1 rs1 rvs
    exact⟨by rw [← RDs.length rvs];exact qH (hz _ _ _ _ e),p.mk e1 rs1 rvs⟩
theorem aD {f:EF}{r:LF}{n:Nat}(h:∀ σd hd ds hd',r σd hd=.ok ds hd'→ds.length=n):∀ σd hd ds hd',ae f r σd hd=.ok ds hd'→ds.length=n + 1:=by
  intro σd hd ds hd' e
  simp only [ae] at e
  cases e1:f σd hd with
  | exc x h'=>rw [e1] at e;cases e
  | bad=>rw [e1] at e;cases e
  | ok d h1 =>
    rw [e1] at e
    simp only [aI] at e
    cases e2:r σd h1 with
    | exc x h'=>rw [e2] at e;cases e
    | bad=>rw [e2] at e;cases e
    | ok ds2 h2 =>
      rw [e2] at e
      simp only [aI] at e
      cases e
      simp [h _ _ _ _ e2]
theorem bC:∀ σd hd ds hd',ax σd hd=.ok ds hd'→ds.length=0:=by
  intro σd hd ds hd' e
  simp only [ax] at e
  cases e
  rfl
theorem eE {e:Expr}{r:LF}(h:MF X e r):ME X e (cZ r):=by
  refine PE.imp h fun σ H Q ⟨ρ,σd,hd,rs,p⟩=>⟨ρ,σd,hd,rs,?_⟩
  unfold cZ at p
  cases e:r σd hd with
  | exc x h'=>rw [e] at p;exact p
  | bad=>rw [e] at p;exact p
  | ok ds hd1 =>
    rw [e] at p
    simp only [aI] at p
    intro q vs H1 ρ1 e1 rs1 hq0 hq hn rvs
    by_cases hz:ds.length≤SZ
    · rw [if_pos hz] at p
      have rh:=rs1.hp.alloc hq hn rvs
      have ex:Ext ρ H (ρ1++[q]) H1:=⟨by obtain⟨t,rfl⟩:=e1.pre;exact⟨t++[q],by simp⟩,fun a ha=>by
        rcases List.mem_append.mp ha with z|z
        · exact e1.new a z
        · simp at z;subst z;exact .inr hq0,e1.frame⟩
      refine p.at ex (rs.ext ex rh) ?_
      simp only [rD,RD]
      refine⟨q,?_,rfl⟩
      rw [← rs1.hp.len]
      simp
    · rw [if_neg hz] at p;exact p.elim
theorem dh {e:Expr}{r:LF}(h:MF X e r):MQ X e r:=by
  refine PE.imp h fun σ H Q ⟨ρ,σd,hd,rs,p⟩=>⟨ρ,σd,hd,rs,?_⟩
  cases e:r σd hd with
  | exc x h'=>rw [e] at p;exact p
  | bad=>rw [e] at p;exact p
  | ok ds hd1 =>
    rw [e] at p
    intro q vs H1 ρ1 e1 rs1 hq0 hq hn rvs
    exact p (.ref q) H1 ρ1 e1 rs1 ⟨q,vs,rfl,.inl (SqL.of hq),rvs⟩
theorem ku.sq {K:PySem.W.Frag}{H:Hp}{a:Addr}{xs:List V}(h:ku K H a xs):SqL K H a xs:=by
  rcases h with ⟨o,h⟩|h
  · exact .inl (.inr ⟨o,h⟩)
  · exact .inr h
theorem qI {K:PySem.W.Frag}{ρ:List Addr}{H:Hp}{hd:Hd}{d:D}{v:V}{l:List D}(r:RH K ρ H hd)(h:RD K ρ H d v)(e:gz hd d=some l):∃ p vs,v=.ref p∧(SqL K H p vs∨H p=some (.tup vs))∧RDs K ρ H l vs:=by
  cases d<;>simp only [gz] at e<;>try (cases e;done)
  · cases e
    simp only [RD] at h
    obtain⟨p,vs,e1,e2,e3⟩:=h
    exact⟨p,vs,e1,.inr e2,e3⟩
  · rename_i n
    simp only [RD] at h
    obtain⟨a,e1,e2⟩:=h
    cases c:hd[n]? with
    | none=>rw [c] at e;cases e
    | some x =>
      rw [c] at e
      cases x with
      | dct l=>cases e
      | lst l' =>
        cases e
        obtain⟨vs,q1,q2⟩:=r.cel n _ a c e1
        exact⟨a,vs,e2,.inl (SqL.of q1),q2⟩
  · cases e
    simp only [RD] at h
    obtain⟨p,vs,e1,e2,e3⟩:=h
    exact⟨p,vs,e1,.inl e2.sq,e3⟩
theorem dS {e:Expr}{f:EF}(h:ME X e f):MQ X e (lOf f):=by
  refine PE.imp h fun σ H Q ⟨ρ,σd,hd,rs,p⟩=>⟨ρ,σd,hd,rs,(bh.bind (R:=rD X.K) p).imp fun v H1 ⟨ρ1,d,hd1,e1,rs1,rv,p1⟩ => ?_⟩
  cases e:gz hd1 d with
  | none=>rw [e] at p1;exact p1.elim
  | some l=>rw [e] at p1;exact p1.here rs1 (qI rs1.hp rv e)
theorem wU {K:PySem.W.Frag}{ρ:List Addr}{H:Hp}{l:List D}{vs:List V}{i:Int}{d:D}(r:RDs K ρ H l vs)(e:atI l i=some d):∃ v,L2.atI vs i=some v∧RD K ρ H d v:=by
  unfold atI at e
  unfold L2.atI
  have hl:=r.length
  have hx:ixN l.length i=L2.ixN vs.length i:=by rw [hl];rfl
  rw [hx] at e
  cases c:L2.ixN vs.length i with
  | none=>rw [c] at e;cases e
  | some j =>
    rw [c] at e
    simp only [Option.bind_some] at e ⊢
    exact r.get e
theorem bK {a b:Expr}{fa fb:EF}(ha:ME X a fa)(hb:ME X b fb)(hs:lq b):ME X (.Subscript a b pos) (fAt fa fb):=by
  refine me2 (a:=a) (b:=b) (g:=oAt) (ze C2 ha hb hs) fun ρ H σd hd σ d k v w Q rs rv rw' p => ?_
  unfold oAt at p
  cases e:gz hd d with
  | none=>rw [e] at p;exact p.elim
  | some l =>
    rw [e] at p
    cases k<;>first|exact p.elim|skip
    rename_i i
    simp only at p
    cases e2:atI l i with
    | none=>rw [e2] at p;exact p.elim
    | some x =>
      rw [e2] at p
      simp only [RD] at rw'
      obtain⟨q,vs,hv,sq,rvs⟩:=qI rs.hp rv e
      obtain⟨u,hu,ru⟩:=wU rvs e2
      rcases sq with sq|sq
      · exact .inl ⟨q,vs,i,u,hv,rw',sq,hu,p.here rs ru⟩
      · exact .inr (.inl ⟨q,vs,i,u,hv,rw',SqT.of sq,hu,p.here rs ru⟩)
theorem je {a b:Expr}{la:LF}{fb:EF}(ha:MF X a la)(hb:ME X b fb)(hs:lq b):ME X (.Subscript a b pos) (fIx la fb):=by
  refine PE.imp (ze wQ ha hb hs) fun σ H Q ⟨ρ,σd,hd,rs,p⟩=>⟨ρ,σd,hd,rs,?_⟩
  unfold fIx at p
  cases e:la σd hd with
  | exc x h'=>rw [e] at p;exact p
  | bad=>rw [e] at p;exact p
  | ok l hd1 =>
    rw [e] at p
    simp only [aI] at p
    intro q vs H1 ρ1 e1 rs1 hq0 hq hn rvs
    refine⟨ρ1,σd,hd1,rs1,(bh.bind (R:=rD X.K) (p.ext e1)).imp fun w H2 ⟨ρ2,k,hd2,e2,rs2,rw',p2⟩ => ?_⟩
    cases k<;>first|exact p2.elim|skip
    rename_i i
    simp only at p2
    cases e3:atI l i with
    | none=>rw [e3] at p2;exact p2.elim
    | some x =>
      rw [e3] at p2
      simp only [rD,RD] at rw'
      obtain⟨u,hu,ru⟩:=wU (rvs.mono (rs1.hp.kp e2)) e3
      exact⟨q,vs,i,u,rfl,rw',SqL.of (e2.frame q _ hq hn),hu,p2.here rs2 ru⟩
end
end Fm
set_option Elab.async false
set_option linter.all false
set_option maxRecDepth 100000
namespace Fm
open PySem PySem.Spec L2
section
variable {X:Cx} {pos:Pos}
def B1 (X:Cx) (r:List V→Hp→VK→Prop) (x:Str) (p pos:Pos) (a:Expr):Prop:=∀ t,PA X [a] t→PE X (.Call (.Name x p) [a] [] pos) (tCB r t)
theorem zu {x:Str} {p:Pos} {a:Expr} {id:String} {r:List V→Hp→VK→Prop} (hc:d9 X (.builtin id) r) (hg:Gl X x) (hm:X.mg x=none) (hv:bootBuiltins x=some (.builtin id)) (hn:x ≠ "__name__" := by decide) (hdb:(x == ("__debug__" : Str))=false:=by decide)
    (he:starEach [a] X.env=(false,eval a X.env) :: starEach [] X.env:=by rfl):B1 X r x p pos a:=fun _ ha=>gR hc hg hm hv ha hn hdb he
theorem wV {x:Str} {p:Pos} {a:Expr} {T:String} {r:List V→Hp→VK→Prop} (hc:d9 X (.type T) r) (hg:Gl X x) (hm:X.mg x=none) (hv:bootBuiltins x=some (.type T)) (hn:x ≠ "__name__" := by decide) (hdb:(x == ("__debug__" : Str))=false:=by decide)
    (he:starEach [a] X.env=(false,eval a X.env) :: starEach [] X.env:=by rfl):B1 X r x p pos a:=fun _ ha=>pO hc hg hm hv ha hn hdb he
theorem vy {x:Str}{p:Pos}{a:Expr}{la:LF}{r:List V→Hp→VK→Prop}{g:List D→Hd→Res D}(hb:B1 X r x p pos a)(ha:MQ X a la)
    (hg:∀ ρ H σd hd σ l q vs Q,RS X.K ρ H σd hd σ → (SqL X.K H q vs∨H q=some (.tup vs))→RDs X.K ρ H l vs→bh X.K (rD X.K) ρ H σd σ (g l hd) Q→r [.ref q] H Q)
    (hs:starEach [a] X.env=(false,eval a X.env) :: starEach [] X.env:=by rfl):ME X (.Call (.Name x p) [a] [] pos) (fun σ h=>(la σ h).bind fun l h=>g l h):=by
  refine PE.imp (hb _ (bE ha df hs)) fun σ H Q ⟨ρ,σd,hd,rs,pp⟩=>⟨ρ,σd,hd,rs,(bh.bind (R:=rQ X.K) pp).imp fun v H1 ⟨ρ1,l,hd1,e1,rs1,⟨q,vs,hv,sq,rvs⟩,p1⟩ => ?_⟩
  subst hv
  exact hg ρ1 H1 σd hd1 σ l q vs Q rs1 sq rvs p1
theorem wW {x:Str}{p:Pos}{a:Expr}{fa:EF}{r:List V→Hp→VK→Prop}{g:D→Hd→Res D}(hb:B1 X r x p pos a)(ha:ME X a fa)
    (hg:∀ ρ H σd hd σ d v Q,RS X.K ρ H σd hd σ → RD X.K ρ H d v→bh X.K (rD X.K) ρ H σd σ (g d hd) Q→r [v] H Q)
    (hs:starEach [a] X.env=(false,eval a X.env) :: starEach [] X.env:=by rfl):ME X (.Call (.Name x p) [a] [] pos) (fun σ h=>(fa σ h).bind fun x h=>g x h):=by
  refine PE.imp (hb _ (bE ha df hs)) fun σ H Q ⟨ρ,σd,hd,rs,pp⟩=>⟨ρ,σd,hd,rs,(bh.bind (R:=rD X.K) pp).imp fun v H1 ⟨ρ1,d,hd1,e1,rs1,rv,p1⟩ => ?_⟩
  exact hg ρ1 H1 σd hd1 σ d v Q rs1 rv p1
theorem dy {p:Pos} {a:Expr} {la:LF} (hg:Gl X "len") (hm:X.mg "len" = none) (ha:MQ X a la) (hs:starEach [a] X.env=(false,eval a X.env) :: starEach [] X.env:=by rfl):ME X (.Call (.Name "len" p) [a] [] pos) (cV la) :=
  vy (g:=fun l h=>.ok (.int l.length) h) (zu qA hg hm PySem.boot_len (he:=hs)) ha (fun ρ H σd hd σ l q vs Q rs sq rvs p=>⟨q,vs,rfl,sq.imp id SqT.of,by rw [← rvs.length];exact p.here rs (by simp only [rD,RD])⟩) hs
theorem ej {p:Pos} {a:Expr} {la:LF} (hg:Gl X "tuple") (hm:X.mg "tuple" = none) (ha:MQ X a la) (hs:starEach [a] X.env=(false,eval a X.env) :: starEach [] X.env:=by rfl):ME X (.Call (.Name "tuple" p) [a] [] pos) (cU la):=by
  refine vy (g:=fun l h=>.ok (.tup l) h) (wV nw hg hm (by decide +kernel) (he:=hs)) ha (fun ρ H σd hd σ l q vs Q rs sq rvs p=>⟨q,vs,rfl,?_⟩) hs
  rcases sq with sq|sq
  · refine .inl ⟨sq,fun q' hq => ?_⟩
    have sm:=bO (o:=HO.tup vs) hq
    exact p.at (Ext.same sm) (rs.same sm) (by simp only [rD,RD];exact⟨q',vs,rfl,aV,rvs.mono (Kp.same sm)⟩)
  · exact .inr ⟨SqT.of sq,p.here rs (by simp only [rD,RD];exact⟨q,vs,rfl,sq,rvs⟩)⟩
theorem Bb {p:Pos} {a:Expr} {fa:EF} (hg:Gl X "int") (hm:X.mg "int" = none) (ha:ME X a fa) (hs:starEach [a] X.env=(false,eval a X.env) :: starEach [] X.env:=by rfl):ME X (.Call (.Name "int" p) [a] [] pos) (C7 fa):=by
  refine wW (g:=fun x h=>match x with | .int i=>.ok (.int i) h | .bl b=>.ok (.int (b2i b)) h|_=>.bad) (wV xF hg hm (by decide +kernel) (he:=hs)) ha (fun ρ H σd hd σ d v Q rs rv p => ?_) hs
  cases d<;>first|exact p.elim|skip
  · simp only [RD] at rv;subst rv
    exact .inr ⟨_,rfl,p.here rs (by simp only [rD,RD];rfl)⟩
  · simp only [RD] at rv;subst rv
    exact .inl ⟨_,rfl,p.here rs (by simp only [rD,RD])⟩
end
end Fm
set_option Elab.async false
set_option linter.all false
set_option maxRecDepth 100000
namespace Fm
open PySem PySem.Spec L2
section
variable {K:PySem.W.Frag} {ρ:List Addr} {H:Hp}
mutual
theorem tQ:∀ {d k:D} {v:V} {b:Bool},RD K ρ H d v→RD K ρ H k v→peq d k=some b→b=true
  | .int i,k,v,b,h1,h2,e=>by
    simp only [RD] at h1;subst h1
    cases k<;>simp only [RD] at h2<;>try (cases h2;done)
    all_goals first
      | (cases h2;simp only [peq] at e;simpa using e.symm)
      | (obtain⟨_,_,z,_⟩:=h2;cases z;done)
      | (obtain⟨_,_,z⟩:=h2;cases z;done)
      | (obtain⟨_,_,_,z,_⟩:=h2;cases z;done)
  | .bl i,k,v,b,h1,h2,e=>by
    simp only [RD] at h1;subst h1
    cases k<;>simp only [RD] at h2<;>try (cases h2;done)
    all_goals first
      | (cases h2;simp only [peq] at e;simpa using e.symm)
      | (obtain⟨_,_,z,_⟩:=h2;cases z;done)
      | (obtain⟨_,_,z⟩:=h2;cases z;done)
      | (obtain⟨_,_,_,z,_⟩:=h2;cases z;done)
  | .str x,k,v,b,h1,h2,e=>by
    simp only [RD] at h1;subst h1
    cases k<;>simp only [RD] at h2<;>try (cases h2;done)
    all_goals first
      | (simp only [peq] at e;simp only [toS,V.str.injEq,PySem.Str.mk.injEq] at h2;have h3:=congrArg Array.toList h2;simp at h3;subst h3;simpa using e.symm)
      | (obtain⟨_,_,z,_⟩:=h2;cases z;done)
      | (obtain⟨_,_,z⟩:=h2;cases z;done)
      | (obtain⟨_,_,_,z,_⟩:=h2;cases z;done)
  | .non,k,v,b,h1,h2,e=>by
    simp only [RD] at h1;subst h1
    cases k<;>simp only [RD] at h2<;>try (cases h2;done)
    all_goals first
      | (simp only [peq] at e;simpa using e.symm)
      | (obtain⟨_,_,z,_⟩:=h2;cases z;done)
      | (obtain⟨_,_,z⟩:=h2;cases z;done)
      | (obtain⟨_,_,_,z,_⟩:=h2;cases z;done)
  | .tup xs,k,v,b,h1,h2,e=>by
    simp only [RD] at h1
    obtain⟨p,vs,rfl,hp,r1⟩:=h1
    cases k<;>simp only [peq] at e<;>try (cases e;done)
    · simp only [RD] at h2;cases h2
    · simp only [RD] at h2;cases h2
    · rename_i ys
      simp only [RD] at h2
      obtain⟨p',vs',z,hp',r2⟩:=h2
      cases z
      rw [hp] at hp';cases hp'
      cases c:fB xs ys with
      | none=>rw [c] at e;cases e
      | some b' =>
        rw [c] at e
        simp only [Option.map_some,Option.some.injEq] at e
        have:=pT r1 r2 c
        subst this
        rw [← e,r1.length,r2.length]
        simp
  | .ref n,k,v,b,h1,h2,e=>by cases k<;>simp only [peq] at e<;>cases e
  | .lit l,k,v,b,h1,h2,e=>by cases k<;>simp only [peq] at e<;>cases e
  | .exn c l,k,v,b,h1,h2,e=>by simp only [peq] at e<;>cases e
theorem pT:∀ {xs ys:List D} {vs:List V} {b:Bool},RDs K ρ H xs vs→RDs K ρ H ys vs→fB xs ys=some b→b=true
  | [],_,_,_,_,_,e=>by simp only [fB] at e;cases e;rfl
  | x :: xs,[],_,_,_,_,e=>by simp only [fB] at e;cases e;rfl
  | x :: xs,y :: ys,_,b,h1,h2,e=>by
    simp only [RDs] at h1 h2
    obtain⟨v,r,rfl,a1,a2⟩:=h1
    obtain⟨v',r',z,b1,b2⟩:=h2
    cases z
    simp only [fB] at e
    cases c:peq x y with
    | none=>rw [c] at e;cases e
    | some p =>
      cases c2:fB xs ys with
      | none=>rw [c,c2] at e;cases e
      | some q =>
        rw [c,c2] at e
        simp only [Option.some.injEq] at e
        rw [← e,tQ a1 b1 c,pT a2 b2 c2];rfl
end
end
section
variable {K:PySem.W.Frag} {ρ:List Addr} {H:Hp} {P:Program} {w:World} {s:Shared}
theorem fX (hok:HOk P w H s.heap){p:Addr}{vs:List V}(h:H p=some (.tup vs)):∃ its:List Value,aL vs its∧s.heap.IsTuple p its.toArray:=by
  obtain⟨z,its,r,t⟩:=hok p _ h
  exact⟨its,r,t⟩
mutual
theorem Dc (hok:HOk P w H s.heap):∀ {d k:D} {v v':V} {u u':Value} {b:Bool} {A:Around},RD K ρ H d v→RD K ρ H k v'→bf v u→bf v' u'→peq d k=some b→A.units + dep d < cLine→SeqAt.EqAt A s u u' b
  | .int i,k,v,v',u,u',b,A,h1,h2,r1,r2,e,hu=>by
    simp only [RD] at h1;subst h1
    obtain⟨t,rfl⟩:=r1
    cases k<;>simp only [peq] at e<;>try (cases e;done)
    all_goals cases e
    · simp only [RD] at h2;subst h2;cases r2;exact SeqAt.EqAt.int_none i t
    · simp only [RD] at h2;subst h2;cases r2;exact SeqAt.EqAt.int_bool i t _
    · simp only [RD] at h2;subst h2;obtain⟨t',rfl⟩:=r2;exact SeqAt.EqAt.int_int i t _ t'
    · simp only [RD] at h2;obtain⟨p,vs,rfl,hp,_⟩:=h2;cases r2
      obtain⟨its,_,il⟩:=fX hok hp
      exact SeqAt.EqAt.int_tuple i t il (Nat.lt_of_le_of_lt (Nat.le_add_right _ _) hu)
  | .bl i,k,v,v',u,u',b,A,h1,h2,r1,r2,e,hu=>by
    simp only [RD] at h1;subst h1
    cases r1
    cases k<;>simp only [peq] at e<;>try (cases e;done)
    all_goals cases e
    · simp only [RD] at h2;subst h2;cases r2;exact SeqAt.EqAt.bool_bool i _
    · simp only [RD] at h2;subst h2;obtain⟨t',rfl⟩:=r2;exact SeqAt.EqAt.bool_int i _ t'
  | .str x,k,v,v',u,u',b,A,h1,h2,r1,r2,e,hu=>by
    simp only [RD] at h1;subst h1
    obtain⟨t,rfl⟩:=r1
    cases k<;>simp only [peq] at e<;>try (cases e;done)
    all_goals cases e
    rename_i y
    simp only [RD] at h2;subst h2;obtain⟨t',rfl⟩:=r2
    have:decide (x=y)=(toS x == toS y):=by
      by_cases z:x=y
      · subst z;simp
      · have : ¬ toS x=toS y:=fun q=>z (by have:=congrArg (fun (s:Str)=>s.cps.toList) q;simpa [toS] using this)
        simp [z,this]
    rw [this]
    exact SeqAt.EqAt.str_str _ t _ t'
  | .non,k,v,v',u,u',b,A,h1,h2,r1,r2,e,hu=>by
    simp only [RD] at h1;subst h1
    cases r1
    cases k<;>simp only [peq] at e<;>try (cases e;done)
    all_goals cases e
    · simp only [RD] at h2;subst h2;cases r2;exact SeqAt.EqAt.same _
    · simp only [RD] at h2;subst h2;obtain⟨t',rfl⟩:=r2;exact SeqAt.EqAt.none_int _ t'
    · simp only [RD] at h2;obtain⟨p,vs,rfl,hp,_⟩:=h2;cases r2
      obtain⟨its,_,il⟩:=fX hok hp
      exact SeqAt.EqAt.none_tuple il (Nat.lt_of_le_of_lt (Nat.le_add_right _ _) hu)
  | .tup xs,k,v,v',u,u',b,A,h1,h2,r1,r2,e,hu=>by
    have h1':=h1
    simp only [RD] at h1
    obtain⟨p,vs,rfl,hp,q1⟩:=h1
    cases r1
    obtain⟨its,rv,il⟩:=fX hok hp
    have hu0:A.units < cLine:=Nat.lt_of_le_of_lt (Nat.le_add_right _ _) hu
    cases k<;>simp only [peq] at e<;>try (cases e;done)
    · cases e;simp only [RD] at h2;subst h2;cases r2;exact SeqAt.EqAt.tuple_none il hu0
    · cases e;simp only [RD] at h2;subst h2;obtain⟨t',rfl⟩:=r2;exact SeqAt.EqAt.tuple_int _ t' il hu0
    · rename_i ys
      have h2':=h2
      simp only [RD] at h2
      obtain⟨p',vs',rfl,hp',q2⟩:=h2
      cases r2
      by_cases hpp:p=p'
      · subst hpp
        have:b=true:=tQ h1' h2' (by simp only [peq];exact e)
        subst this
        exact SeqAt.EqAt.same _
      · obtain⟨its',rv',il'⟩:=fX hok hp'
        cases c:fB xs ys with
        | none=>rw [c] at e;cases e
        | some b' =>
          rw [c] at e
          simp only [Option.map_some,Option.some.injEq] at e
          obtain⟨f,hf,ha⟩:=lu hok (A:=A.in1) q1 q2 rv rv' c (by simp only [dep] at hu;show A.units + 1 + lR xs < cLine;omega)
          have:=SeqAt.RcAt.tuples (s:=s) (A:=A) (e:=f) il il' hu0 (fun j h1 h2=>by simpa using hf j (by simpa using h1) (by simpa using h2))
          rw [← e,← ha,q1.length,q2.length,rv.length,rv'.length]
          refine SeqAt.EqAt.of_refs hpp ?_
          rw [show (decide (its.length=its'.length))=(its.length == its'.length) from rfl]
          simpa using this
  | .ref n,k,v,v',u,u',b,A,h1,h2,r1,r2,e,hu=>by cases k<;>simp only [peq] at e<;>cases e
  | .lit l,k,v,v',u,u',b,A,h1,h2,r1,r2,e,hu=>by cases k<;>simp only [peq] at e<;>cases e
  | .exn c l,k,v,v',u,u',b,A,h1,h2,r1,r2,e,hu=>by simp only [peq] at e<;>cases e
theorem lu (hok:HOk P w H s.heap):∀ {xs ys:List D} {vs vs':List V} {us us':List Value} {b:Bool} {A:Around},RDs K ρ H xs vs→RDs K ρ H ys vs'→aL vs us→aL vs' us'→fB xs ys=some b→A.units + lR xs < cLine →
    ∃ f:Nat→Bool,(∀ j (h1:j < us.length) (h2:j < us'.length),SeqAt.EqAt A s us[j] us'[j] (f j))∧(List.range (min us.length us'.length)).all f=b
  | [],ys,vs,vs',us,us',b,A,h1,h2,r1,r2,e,hu=>by
    simp only [RDs] at h1;subst h1;cases r1
    simp only [fB] at e;cases e
    exact⟨fun _=>true,fun j h1=>by simp at h1,by simp⟩
  | x :: xs,[],vs,vs',us,us',b,A,h1,h2,r1,r2,e,hu=>by
    simp only [RDs] at h2;subst h2;cases r2
    simp only [fB] at e;cases e
    exact⟨fun _=>true,fun j h1 h2=>by simp at h2,by simp⟩
  | x :: xs,y :: ys,vs,vs',us,us',b,A,h1,h2,r1,r2,e,hu=>by
    simp only [RDs] at h1 h2
    obtain⟨v,r,rfl,a1,a2⟩:=h1
    obtain⟨v',r',rfl,b1,b2⟩:=h2
    cases r1 with
    | cons p1 p2 =>
      cases r2 with
      | cons s1 s2 =>
        simp only [fB] at e
        cases c:peq x y with
        | none=>rw [c] at e;cases e
        | some p =>
          cases c2:fB xs ys with
          | none=>rw [c,c2] at e;cases e
          | some q =>
            rw [c,c2] at e
            simp only [Option.some.injEq] at e
            simp only [lR] at hu
            have g1:=Dc hok (A:=A) a1 b1 p1 s1 c (by omega)
            obtain⟨f,hf,ha⟩:=lu hok (A:=A) a2 b2 p2 s2 c2 (by omega)
            refine⟨fun j=>match j with|0=>p|j + 1=>f j,fun j h1 h2 => ?_,?_⟩
            · cases j with
              | zero=>exact g1
              | succ j=>exact hf j (by simpa using h1) (by simpa using h2)
            · rw [← e,← ha,List.length_cons,List.length_cons,Nat.succ_min_succ,List.range_succ_eq_map,List.all_cons,List.all_map]
              rfl
end
theorem Dd (hok:HOk P w H s.heap){d k:D}{v v':V}{u u':Value}{b:Bool}{A:Around}(h1:RD K ρ H d v)(h2:RD K ρ H k v')(r1:bf v u)(r2:bf v' u')(e:peq d k=some b)(hu:A.units + dep d < cLine) :
    SeqAt.RcAt A s u u' b∧SeqAt.RcNeAt A s u u' (!b):=by
  have hu0:A.units < cLine:=Nat.lt_of_le_of_lt (Nat.le_add_right _ _) hu
  cases d<;>simp only [RD] at h1
  · subst h1;cases r1
    cases k<;>simp only [peq] at e<;>try (cases e;done)
    all_goals cases e
    · simp only [RD] at h2;subst h2;cases r2;exact⟨SeqAt.RcAt.none_none,SeqAt.RcNeAt.none_none⟩
    · simp only [RD] at h2;subst h2;obtain⟨t',rfl⟩:=r2;exact⟨SeqAt.RcAt.none_int _ t',SeqAt.RcNeAt.none_int _ t'⟩
    · simp only [RD] at h2;obtain⟨p,vs,rfl,hp,_⟩:=h2;cases r2
      obtain⟨its,_,il⟩:=fX hok hp
      exact⟨SeqAt.RcAt.none_tuple il hu0,SeqAt.RcNeAt.none_tuple il hu0⟩
  · subst h1;cases r1
    cases k<;>simp only [peq] at e<;>try (cases e;done)
    all_goals cases e
    · simp only [RD] at h2;subst h2;cases r2;exact⟨SeqAt.RcAt.bool_bool _ _,SeqAt.RcNeAt.bool_bool _ _⟩
    · simp only [RD] at h2;subst h2;obtain⟨t',rfl⟩:=r2;exact⟨SeqAt.RcAt.bool_int _ _ t',SeqAt.RcNeAt.bool_int _ _ t'⟩
  · subst h1;obtain⟨t,rfl⟩:=r1
    cases k<;>simp only [peq] at e<;>try (cases e;done)
    all_goals cases e
    · simp only [RD] at h2;subst h2;cases r2;exact⟨SeqAt.RcAt.int_none _ t,SeqAt.RcNeAt.int_none _ t⟩
    · simp only [RD] at h2;subst h2;cases r2;exact⟨SeqAt.RcAt.int_bool _ t _,SeqAt.RcNeAt.int_bool _ t _⟩
    · simp only [RD] at h2;subst h2;obtain⟨t',rfl⟩:=r2;exact⟨SeqAt.RcAt.int_int _ t _ t',SeqAt.RcNeAt.int_int _ t _ t'⟩
    · simp only [RD] at h2;obtain⟨p,vs,rfl,hp,_⟩:=h2;cases r2
      obtain⟨its,_,il⟩:=fX hok hp
      exact⟨SeqAt.RcAt.int_tuple _ t il hu0,SeqAt.RcNeAt.int_tuple _ t il hu0⟩
  · subst h1;obtain⟨t,rfl⟩:=r1
    cases k<;>simp only [peq] at e<;>try (cases e;done)
    all_goals cases e
    rename_i x y
    simp only [RD] at h2;subst h2;obtain⟨t',rfl⟩:=r2
    have:decide (x=y)=(toS x == toS y):=by
      by_cases z:x=y
      · subst z;simp
      · have : ¬ toS x=toS y:=fun q=>z (by have:=congrArg (fun (s:Str)=>s.cps.toList) q;simpa [toS] using this)
        simp [z,this]
    rw [this]
    exact⟨SeqAt.RcAt.str_str _ t _ t',SeqAt.RcNeAt.str_str _ t _ t'⟩
  · rename_i xs
    obtain⟨p,vs,rfl,hp,q1⟩:=h1
    cases r1
    obtain⟨its,rv,il⟩:=fX hok hp
    cases k<;>simp only [peq] at e<;>try (cases e;done)
    · cases e;simp only [RD] at h2;subst h2;cases r2;exact⟨SeqAt.RcAt.tuple_none il hu0,SeqAt.RcNeAt.tuple_none il hu0⟩
    · cases e;simp only [RD] at h2;subst h2;obtain⟨t',rfl⟩:=r2;exact⟨SeqAt.RcAt.tuple_int _ t' il hu0,SeqAt.RcNeAt.tuple_int _ t' il hu0⟩
    · rename_i ys
      simp only [RD] at h2
      obtain⟨p',vs',rfl,hp',q2⟩:=h2
      cases r2
      obtain⟨its',rv',il'⟩:=fX hok hp'
      cases c:fB xs ys with
      | none=>rw [c] at e;cases e
      | some b' =>
        rw [c] at e
        simp only [Option.map_some,Option.some.injEq] at e
        obtain⟨f,hf,ha⟩:=lu hok (A:=A.in1) q1 q2 rv rv' c (by simp only [dep] at hu;show A.units + 1 + lR xs < cLine;omega)
        have g1:=SeqAt.RcAt.tuples (s:=s) (A:=A) (e:=f) il il' hu0 (fun j h1 h2=>by simpa using hf j (by simpa using h1) (by simpa using h2))
        have g2:=SeqAt.RcNeAt.tuples (s:=s) (A:=A) (e:=f) il il' hu0 (fun j h1 h2=>by simpa using hf j (by simpa using h1) (by simpa using h2))
        rw [← e,← ha,q1.length,q2.length,rv.length,rv'.length,show (decide (its.length=its'.length))=(its.length == its'.length) from rfl]
        exact⟨by simpa using g1,by simpa using g2⟩
  · cases k<;>simp only [peq] at e<;>cases e
  · cases k<;>simp only [peq] at e<;>cases e
  · simp only [peq] at e<;>cases e
end
section
variable {X:Cx}
theorem wX {K:PySem.W.Frag}{ρ:List Addr}{H:Hp}{hd:Hd}{d:D}{v:V}{l:List D}(r:RH K ρ H hd)(h:RD K ρ H d v)(e:jd hd d=some l):∃ p vs,v=.ref p∧SqL K H p vs∧RDs K ρ H l vs:=by
  cases d<;>simp only [jd] at e<;>try (cases e;done)
  · rename_i n
    simp only [RD] at h
    obtain⟨a,e1,e2⟩:=h
    cases c:hd[n]? with
    | none=>rw [c] at e;cases e
    | some x =>
      rw [c] at e
      cases x with
      | dct l=>cases e
      | lst l' =>
        cases e
        obtain⟨vs,q1,q2⟩:=r.cel n _ a c e1
        exact⟨a,vs,e2,SqL.of q1,q2⟩
  · cases e
    simp only [RD] at h
    obtain⟨p,vs,e1,e2,e3⟩:=h
    exact⟨p,vs,e1,e2.sq,e3⟩
theorem zv {pins:List (Addr × Obj)}{σ:St}{H:Hp}{s:Shared}{ρ:List Addr}{hd:Hd}{d k:D}{v v':V}{u u':Value}{b:Bool}(hu:X.A.units + 24 < cLine)(I:Inv X pins σ H s)(r:RH X.K ρ H hd)(h1:RD X.K ρ H d v)(h2:RD X.K ρ H k v')
    (r1:bf v u) (r2:bf v' u') (e:eqG hd d k=some b):SeqAt.RcAt X.A s u u' b∧SeqAt.RcNeAt X.A s u u' (!b):=by
  have hu0:X.A.units < cLine:=by omega
  simp only [eqG] at e
  cases c1:jd hd d with
  | none =>
    cases c2:jd hd k with
    | some l=>rw [c1,c2] at e;cases e
    | none =>
      rw [c1,c2] at e
      simp only at e
      split at e
      · rename_i hd20
        exact Dd I.hok h1 h2 r1 r2 e (by omega)
      · cases e
  | some xs =>
    cases c2:jd hd k with
    | none=>rw [c1,c2] at e;cases e
    | some ys =>
      rw [c1,c2] at e
      simp only [eqL] at e
      obtain⟨p,vs,rfl,s1,q1⟩:=wX r h1 c1
      obtain⟨p',vs',rfl,s2,q2⟩:=wX r h2 c2
      cases r1;cases r2
      obtain⟨its,rv,pl,_⟩:=I.list s1
      obtain⟨its',rv',pl',_⟩:=I.list s2
      have il:s.heap.IsList p its.toArray:=pl.isList
      have il':s.heap.IsList p' its'.toArray:=pl'.isList
      have l1:xs.length=its.length:=q1.length.trans rv.length
      have l2:ys.length=its'.length:=q2.length.trans rv'.length
      split at e
      · rename_i hd20
        split at e
        · rename_i hl
          obtain⟨f,hf,ha⟩:=lu I.hok (A:=X.A.in1) q1 q2 rv rv' e (by show X.A.units + 1 + lR xs < cLine;omega)
          have hs:its.toArray.size=its'.toArray.size:=by simp;omega
          have g1:=SeqAt.RcAt.lists (s:=s) (A:=X.A) (e:=f) il il' hs hu0 (fun j h1 h2=>by simpa using hf j (by simpa using h1) (by simpa using h2))
          have g2:=SeqAt.RcNeAt.lists (s:=s) (A:=X.A) (e:=f) il il' hs hu0 (fun j h1 h2=>by simpa using hf j (by simpa using h1) (by simpa using h2))
          have hm:min its.length its'.length=its.length:=by omega
          rw [hm] at ha
          rw [← ha]
          exact⟨by simpa using g1,by simpa using g2⟩
        · rename_i hl
          cases e
          have hs:(its.toArray.size != its'.toArray.size)=true:=by simp;omega
          exact⟨SeqAt.RcAt.lists_lengths il il' hs hu0,SeqAt.RcNeAt.lists_lengths il il' hs hu0⟩
      · cases e
def Bc (K:PySem.W.Frag) (f:Bool→Bool):R2:=fun x y H Q=>∃ ρ hd d k b,RH K ρ H hd∧RD K ρ H d x∧RD K ρ H k y∧eqG hd d k=some b∧Q (.bl (f b)) H
theorem dH (hu:X.A.units + 24 < cLine):OpR X (compareOp .Eq) (Bc X.K id):=by
  intro pins s σ H x y v u Q I rx ry h
  obtain⟨ρ,hd,d,k,b,r,h1,h2,e,q⟩:=h
  exact (zv hu I r h1 h2 rx ry e).1 _ _ _ _ ⟨.bl b,H,I,rfl,q⟩
theorem d6 (hu:X.A.units + 24 < cLine):OpR X (compareOp .NotEq) (Bc X.K not):=by
  intro pins s σ H x y v u Q I rx ry h
  obtain⟨ρ,hd,d,k,b,r,h1,h2,e,q⟩:=h
  exact (zv hu I r h1 h2 rx ry e).2 _ _ _ _ ⟨.bl (!b),H,I,rfl,q⟩
theorem fF {K:PySem.W.Frag}:Og K oEq (Bc K id):=by
  intro ρ H σd hd σ d k v w Q rs rv rw' p
  unfold oEq at p
  cases e:eqG hd d k with
  | none=>rw [e] at p;exact p.elim
  | some b=>rw [e] at p;exact⟨ρ,hd,d,k,b,rs.hp,rv,rw',e,p.here rs (by simp only [rD,RD];rfl)⟩
theorem gD {K:PySem.W.Frag}:Og K oNe (Bc K not):=by
  intro ρ H σd hd σ d k v w Q rs rv rw' p
  unfold oNe at p
  cases e:eqG hd d k with
  | none=>rw [e] at p;exact p.elim
  | some b=>rw [e] at p;exact⟨ρ,hd,d,k,b,rs.hp,rv,rw',e,p.here rs (by simp only [rD,RD])⟩
end
end Fm
set_option Elab.async false
set_option linter.all false
set_option maxRecDepth 100000
namespace Fm
open PySem PySem.Spec L2
section
variable {K:PySem.W.Frag} {ρ ρ':List Addr} {H H':Hp} {hd hd':Hd} {σd:Sd} {σ:St}
theorem bv.outE {r:Res D}{k:D→Hd→Out}{En:lI}(p:bv K ρ H (outE r σd k) En) :
    bh K (rD K) ρ H σd σ r (fun v H'=>∃ ρ' d hd',Ext ρ H ρ' H'∧RS K ρ' H' σd hd' σ ∧ RD K ρ' H' d v∧bv K ρ' H' (k d hd') En):=by
  cases r with
  | ok d h'=>exact fun b H' ρ' ex rs q=>⟨ρ',d,h',ex,rs,q,bv.ext ex p⟩
  | exc x h'=>exact p
  | bad=>exact p
theorem RSt.set (r:RSt K ρ H σd σ){d:D}{v:V}(i:Nat)(h:RD K ρ H d v):RSt K ρ H (σd.set i (some d)) (σ.set i (some v)):=by
  refine⟨by simp [r.len],fun j x e => ?_⟩
  by_cases hj:i=j
  · subst hj
    by_cases hl:i < σd.length
    · simp only [slot,List.getElem?_set_self hl] at e
      cases e
      exact⟨v,by rw [List.getElem?_set_self (by rw [← r.len];exact hl)],h⟩
    · simp only [slot] at e
      rw [List.getElem?_eq_none (by simp;omega)] at e
      cases e
  · simp only [slot,List.getElem?_set_ne hj] at e
    rw [List.getElem?_set_ne hj]
    exact r.at' j x (by simpa only [slot] using e)
def EC (K:PySem.W.Frag) (g:GF):TG:=fun v σ H Q=>∃ ρ σd hd d σd',RS K ρ H σd hd σ ∧ RD K ρ H d v∧g d σd=some σd' ∧ ∀ σ',RS K ρ H σd' hd σ'→Q σ' H
def De (σ:Sd) (l:List Nat) (xs:List D):Sd:=(l.zip xs).foldl (fun σ p => σ.set p.1 (some p.2)) σ
def Df (K:PySem.W.Frag) (l:List Nat):TGs:=fun vs σ H Q=>∃ ρ σd hd ds,RS K ρ H σd hd σ ∧ RDs K ρ H ds vs∧ds.length=l.length ∧ ∀ σ',RS K ρ H (De σd l ds) hd σ'→Q σ' H
end
def MG (X:Cx) (tg:Expr) (g:GF):Prop:=PG X tg (EC X.K g)
def MGs (X:Cx) (ts:List Expr) (l:List Nat):Prop:=PGs X ts (Df X.K l)
section
variable {X:Cx} {pos:Pos}
theorem PG.imp {tg:Expr}{t u:TG}(h:PG X tg t)(i:∀ v σ H Q,u v σ H Q→t v σ H Q):PG X tg u:=fun pins s σ H v w Q I r q=>h pins s σ H v w Q I r (i v σ H Q q)
theorem PGs.imp {tg:List Expr}{t u:TGs}(h:PGs X tg t)(i:∀ v σ H Q,u v σ H Q→t v σ H Q):PGs X tg u:=fun pins s σ H v w Q I r q=>h pins s σ H v w Q I r (i v σ H Q q)
theorem a6 {i:Nat}{x:Str}(hN:X.N.Nodup)(hi:X.N[i]? = some x)(hx:Loc X.env.scope x)(hf:X.fn x=true∨X.env.scope.names.lookup x=some .local:=by first|exact .inl rfl|exact .inr rfl|assumption):MG X (.Name x pos) (gN i):=by
  refine PG.imp (AW hN hi hx hf) fun v σ H Q ⟨ρ,σd,hd,d,σd',rs,rv,e,q⟩ => ?_
  simp only [gN,Option.some.injEq] at e
  subst e
  exact q _ ⟨rs.hp,rs.st.set i rv⟩
theorem wY:MGs X [] []:=by
  refine PGs.imp AX fun vs σ H Q ⟨ρ,σd,hd,ds,rs,rv,e,q⟩ => ?_
  have:ds=[]:=by simpa using e
  subst this
  simp only [RDs] at rv
  exact⟨rv,q σ rs⟩
theorem eF {e:Expr}{es:List Expr}{i:Nat}{l:List Nat}(h1:MG X e (gN i))(h2:MGs X es l)
    (hs:(assignEach (e :: es) X.env).map (·.2)=assign e X.env :: (assignEach es X.env).map (·.2):=by rfl):MGs X (e :: es) (i :: l):=by
  refine PGs.imp (y0 h1 h2 hs) fun vs σ H Q ⟨ρ,σd,hd,ds,rs,rv,e,q⟩ => ?_
  cases ds with
  | nil=>simp at e
  | cons d ds =>
    simp only [RDs] at rv
    obtain⟨v,r,rfl,h1,h2⟩:=rv
    refine⟨v,r,rfl,ρ,σd,hd,d,_,rs,h1,rfl,fun σ' rs' => ?_⟩
    exact⟨ρ,_,hd,ds,rs',h2,by simpa using e,fun σ2 rs2=>q σ2 rs2⟩
theorem zw {es:List Expr}{k:Nat}{l:List Nat}(hc:X.calm=true)(h:MGs X es l)
    (hn:(assignEach es X.env).length=l.length:=by rfl) (hst:(assignEach es X.env).findIdx? (·.1)=none:=by rfl):MG X (.Tuple es k pos) (gT l):=by
  refine PG.imp (CQ hc h hn hst) fun v σ H Q ⟨ρ,σd,hd,d,σd',rs,rv,e,q⟩ => ?_
  cases d<;>simp only [gT] at e<;>try (cases e;done)
  rename_i xs
  split at e
  · rename_i hl
    cases e
    simp only [RD] at rv
    obtain⟨p,vs,rfl,hp,r⟩:=rv
    exact⟨p,vs,rfl,SqT.of hp,by rw [← r.length];exact hl,ρ,σd,hd,xs,rs,r,hl,q⟩
  · cases e
theorem aK:MSs X [] a7:=PSs.imp qp fun En σ H ⟨ρ,σd,hd,rs,p⟩=>p σ H ρ Ext.refl rs
theorem ai {st:Stmt}{rest:List Stmt}{a b:SF}(h1:MS X st a)(h2:MSs X rest b):MSs X (st :: rest) (aE a b):=by
  refine PSs.imp (tM h1 h2) fun En σ H ⟨ρ,σd,hd,rs,p⟩=>⟨ρ,σd,hd,rs,?_⟩
  unfold aE at p
  cases e:a σd hd with
  | nx σ1 h1=>rw [e] at p;exact fun σ' H' ρ' ex rs'=>⟨ρ',σ1,h1,rs',bv.ext ex p⟩
  | rt d h1=>rw [e] at p;exact p
  | bk σ1 h1=>rw [e] at p;exact p
  | ct σ1 h1=>rw [e] at p;exact p
  | exc x σ1 h1=>rw [e] at p;exact p
  | bad=>rw [e] at p;exact p
theorem ar {st:Stmt}{a:SF}(h:MS X st a):MSs X [st] a:=qq h
theorem eG {st:Stmt}:MS X st fE:=PS.imp yY fun En σ H ⟨ρ,σd,hd,rs,p⟩=>p.elim
theorem aO {e:Expr}{f:EF}(h:ME X e f):MS X (.Return (some e) pos) (bc f):=by
  refine PS.imp (CM h) fun En σ H ⟨ρ,σd,hd,rs,p⟩=>⟨ρ,σd,hd,rs,(bv.outE p).imp fun v H1 ⟨ρ1,d,hd1,e1,rs1,rv,p1⟩ => ?_⟩
  exact p1 v H1 ρ1 Ext.refl rs1.hp rv
theorem iw {e:Expr}{f:EF}(h:ME X e f)(hs:swapsWith e none pos.line X.env=pure false:=by rfl):MS X (.Expr e pos) (iD f):=by
  refine PS.imp (wM h hs) fun En σ H ⟨ρ,σd,hd,rs,p⟩=>⟨ρ,σd,hd,rs,(bv.outE p).imp fun v H1 ⟨ρ1,d,hd1,e1,rs1,rv,p1⟩ => ?_⟩
  exact p1 σ H1 ρ1 Ext.refl rs1
theorem bq {c:Expr}{a b:List Stmt}{t:TF}{fa fb:SF}(hc:MT X c t)(ha:MSs X a fa)(hb:MSs X b fb):MS X (.If c a b pos) (sIf t fa fb):=by
  refine PS.imp (Cf hc ha hb) fun En σ H ⟨ρ,σd,hd,rs,p⟩=>⟨ρ,σd,hd,rs,?_⟩
  unfold sIf at p
  cases e:t σd hd with
  | ok c h1 =>
    rw [e] at p
    intro b H' ρ' ex rs' q
    cases q
    cases c with
    | true=>simp only [if_true] at p ⊢;exact⟨ρ',σd,h1,rs',bv.ext ex p⟩
    | false=>simp only [Bool.false_eq_true,if_false] at p ⊢;exact⟨ρ',σd,h1,rs',bv.ext ex p⟩
  | exc x h1=>rw [e] at p;exact p
  | bad=>rw [e] at p;exact p
theorem aM {i:Nat}{x:Str}{e:Expr}{f:EF}{pos':Pos}(hN:X.N.Nodup)(hi:X.N[i]? = some x)(hx:Loc X.env.scope x)(he:ME X e f)(hs:swapsWith e (some (.Name x pos')) pos.line X.env=pure false:=by rfl)(hf:X.fn x=true∨X.env.scope.names.lookup x=some .local:=by first|exact .inl rfl|exact .inr rfl|assumption) :
    MS X (.Assign [.Name x pos'] e pos) (aG (gN i) f):=by
  refine PS.imp (y4 hN hi hx he hs hf) fun En σ H ⟨ρ,σd,hd,rs,p⟩=>⟨ρ,σd,hd,rs,(bv.outE p).imp fun v H1 ⟨ρ1,d,hd1,e1,rs1,rv,p1⟩ => ?_⟩
  exact p1 _ H1 ρ1 Ext.refl ⟨rs1.hp,rs1.st.set i rv⟩
theorem Dg {tg e:Expr}{f:EF}{g:GF}(he:ME X e f)(hg:MG X tg g)(hs:swapsWithSole [tg] e pos.line X.env=pure false:=by rfl)(hw:swappedStores [tg] e X.env=pure none:=by rfl)
    (h1:(assignEach [tg] X.env).map (·.2)=[assign tg X.env]:=by rfl):MS X (.Assign [tg] e pos) (aG g f):=by
  refine PS.imp (vh he hg hs hw h1) fun En σ H ⟨ρ,σd,hd,rs,p⟩=>⟨ρ,σd,hd,rs,(bv.outE p).imp fun v H1 ⟨ρ1,d,hd1,e1,rs1,rv,p1⟩ => ?_⟩
  cases c:g d σd with
  | none=>rw [c] at p1;exact p1.elim
  | some σ1=>rw [c] at p1;exact⟨ρ1,σd,hd1,d,σ1,rs1,rv,c,fun σ' rs'=>p1 σ' H1 ρ1 Ext.refl rs'⟩
theorem Dh:Fm.ixN=L2.ixN:=rfl
theorem qJ {o i e:Expr}{fo fi fe:EF}{p2:Pos}(he:ME X e fe)(ho:ME X o fo)(hi:ME X i fi)(hs:swapsWithSole [.Subscript o i p2] e pos.line X.env=pure false:=by rfl)(hw:swappedStores [.Subscript o i p2] e X.env=pure none:=by rfl)
    (h1:(assignEach [.Subscript o i p2] X.env).map (·.2)=[assign (.Subscript o i p2) X.env]:=by rfl) (ha:∀ v,assign (.Subscript o i p2) X.env v=(do
      let ov ← holding [v] (eval o X.env)
      let iv ← holding [v,ov] (eval i X.env)
      standAt p2
      holding [v,ov,iv] (setItem ov iv v)
      release [v,ov,iv] []):=by intro _;rfl):MS X (.Assign [.Subscript o i p2] e pos) (lW fo fi fe):=by
  refine PS.imp (vh he (y3 ho hi zg ha) hs hw h1) fun En σ H ⟨ρ,σd,hd,rs,p⟩=>⟨ρ,σd,hd,rs,(bv.outE p).imp fun v H1 ⟨ρ1,d,hd1,e1,rs1,rv,p1⟩ => ?_⟩
  refine⟨ρ1,σd,hd1,rs1,(bv.outE p1).imp fun vo H2 ⟨ρ2,dO,hd2,e2,rs2,ro,p2⟩ => ?_⟩
  refine⟨ρ2,σd,hd2,rs2,(bv.outE p2).imp fun vi H3 ⟨ρ3,di,hd3,e3,rs3,ri,p3⟩ => ?_⟩
  have rv3:=(rv.mono (rs1.hp.kp e2)).mono (rs2.hp.kp e3)
  have ro3:=ro.mono (rs2.hp.kp e3)
  cases dO with
  | ref n =>
    cases di with
    | int j =>
      simp only at p3
      cases c:hd3[n]? with
      | none=>rw [c] at p3;exact p3.elim
      | some cell =>
        rw [c] at p3
        cases cell with
        | dct l=>exact p3.elim
        | lst l =>
          simp only at p3
          cases c2:ixN l.length j with
          | none=>rw [c2] at p3;exact p3.elim
          | some k =>
            rw [c2] at p3
            simp only [RD] at ro3 ri
            obtain⟨a,ha,rfl⟩:=ro3
            obtain⟨vs,hv,rvs⟩:=rs3.hp.cel n _ a c ha
            refine⟨a,vs,j,k,rfl,ri,hv,by rw [← rvs.length,← Dh];exact c2,?_⟩
            have hn:n < hd3.length:=(List.getElem?_eq_some_iff.mp c).1
            have rh:=rs3.hp.write ha hn (RDs.set rv3 k rvs)
            have ex:Ext ρ3 H3 ρ3 (upd H3 a (.lst (vs.set k v))):=Ext.write (List.mem_of_getElem? ha)
            exact p3 σ _ ρ3 ex (rs3.ext ex rh)
    | _=>exact p3.elim
  | _=>exact p3.elim
end
section
variable (K:PySem.W.Frag)
structure lZ (ρ0:List Addr) (H0:Hp) (J:It) (l:List D) (g:Option Nat):Prop where
  go:∀ ρ H hd (i:Nat) d,Ext ρ0 H0 ρ H→RH K ρ H hd→gS g l hd→l[i]? = some d→J.go i H ∧ ∀ x H',J.yld i H x H'→eR H H'∧RD K ρ H' d x
  stop:∀ ρ H hd,Ext ρ0 H0 ρ H→RH K ρ H hd→gS g l hd→J.stop l.length H
  sz:l.length≤sizeLine
def ED (ρ:List Addr) (H:Hp) (σd:Sd) (σ:St) (r:Res (List D × Option Nat)) (R:It→Hp→Prop):Prop:=match r with
  | .ok p hd'=>∀ J H' ρ',Ext ρ H ρ' H'→RS K ρ' H' σd hd' σ → lZ K ρ' H' J p.1 p.2→R J H'
  | _=>False
def EE (f:IF):TI:=fun σ H R=>∃ ρ σd hd,RS K ρ H σd hd σ ∧ ED K ρ H σd σ (f σd hd) R
end
def MI (X:Cx) (tg e:Expr) (f:IF):Prop:=PI X tg e (EE X.K f)
section
variable {X:Cx} {pos:Pos} {tg:Expr}
theorem PI.imp {e:Expr}{t u:TI}(h:PI X tg e t)(i:∀ σ H R,u σ H R→t σ H R):PI X tg e u:=fun pins s σ H R I q=>h pins s σ H R I (i σ H R q)
theorem j3 {iter:Expr}{body:List Stmt}{f:IF}{g:GF}{b:SF}(hp:PassesOwn (model X.prog X.w) X.A X.env X.xe)(hc:X.calm=true)(hi:MI X tg iter f)(hg:MG X tg g)(hb:MSs X body b)
    (hs:∀ x,foldedSetIterable iter X.env x=pure x:=by intro _;rfl):MS X (.For tg iter body [] pos) (jY f g b):=by
  refine PS.imp (CT hp hc hi hg hb hs) fun En σ H ⟨ρ,σd,hd,rs,p⟩=>⟨ρ,σd,hd,rs,?_⟩
  unfold jY at p
  cases e:f σd hd with
  | exc x h'=>rw [e] at p;exact p
  | bad=>rw [e] at p;exact p
  | ok q hd1 =>
    rw [e] at p
    obtain⟨l,gd⟩:=q
    intro J H1 ρ1 ex1 rs1 wk
    simp only at p wk
    refine⟨fun i m σ' H'=>∃ ρ' σd' hd',Ext ρ1 H1 ρ' H'∧RS X.K ρ' H' σd' hd' σ'∧i≤l.length∧m=l.length - i∧bv X.K ρ' H' (dY gd l g b (l.drop i) σd' hd') En,
      ⟨l.length,ρ1,σd,hd1,Ext.refl,rs1,Nat.zero_le _,by simp,by simpa using bv.ext ex1 p⟩,?_⟩
    rintro i m σ' H' ⟨ρ',σd',hd',ex,rs',hil,rfl,pp⟩
    by_cases hlt:i < l.length
    · have hdi:l[i]? = some l[i]:=by simp [hlt]
      rw [List.drop_eq_getElem_cons hlt] at pp
      unfold dY at pp
      by_cases hh:gS gd l hd'
      · rw [if_pos hh] at pp
        obtain⟨go,yl⟩:=wk.go ρ' H' hd' i _ ex rs'.hp hh hdi
        refine .inr ⟨go,fun σ2 H2=>∃ ρ2 σd2 hd2,Ext ρ1 H1 ρ2 H2∧RS X.K ρ2 H2 σd2 hd2 σ2∧bv X.K ρ2 H2 (dY gd l g b (l.drop (i + 1)) σd2 hd2) En,
          fun σ2 H2 ⟨ρ2,σd2,hd2,a1,a2,a3⟩=>⟨l.length - (i + 1),by omega,ρ2,σd2,hd2,a1,a2,hlt,rfl,a3⟩,fun x H2 y => ?_⟩
        obtain⟨sm,rx⟩:=yl x H2 y
        cases c:g l[i] σd' with
        | none=>rw [c] at pp;exact pp.elim
        | some σd2 =>
          rw [c] at pp
          simp only at pp
          refine⟨ρ',σd',hd',l[i],σd2,rs'.same sm,rx,c,fun σ2 rs2=>⟨ρ',σd2,hd',rs2,?_⟩⟩
          have e12:Ext ρ' H' ρ' H2:=Ext.same sm
          cases c2:b σd2 hd' with
          | nx σ3 h3=>rw [c2] at pp;exact fun σ4 H4 ρ4 ex4 rs4=>⟨ρ4,σ3,h3,ex.trans (e12.trans ex4),rs4,bv.ext (e12.trans ex4) pp⟩
          | ct σ3 h3=>rw [c2] at pp;exact fun σ4 H4 ρ4 ex4 rs4=>⟨ρ4,σ3,h3,ex.trans (e12.trans ex4),rs4,bv.ext (e12.trans ex4) pp⟩
          | bk σ3 h3=>rw [c2] at pp;exact fun σ4 H4 ρ4 ex4 rs4=>pp σ4 H4 ρ4 (e12.trans ex4) rs4
          | rt d h3=>rw [c2] at pp;exact fun v H4 ρ4 ex4 rs4 rv=>pp v H4 ρ4 (e12.trans ex4) rs4 rv
          | exc x σ3 h3=>rw [c2] at pp;exact pp
          | bad=>rw [c2] at pp;exact pp
      · rw [if_neg hh] at pp;exact pp.elim
    · have e0:i=l.length:=by omega
      subst e0
      rw [List.drop_length] at pp
      unfold dY at pp
      by_cases hh:gS gd l hd'
      · rw [if_pos hh] at pp
        exact .inl ⟨wk.stop ρ' H' hd' ex rs'.hp hh,pp σ' H' ρ' Ext.refl rs'⟩
      · rw [if_neg hh] at pp;exact pp.elim
theorem zx {K:PySem.W.Frag}{ρ:List Addr}{H:Hp}{hd:Hd}{q:Addr}{l:List D}{vs:List V}(r:RH K ρ H hd)(hq:H q=some (.tup vs))(rv:RDs K ρ H l vs)(hz:vs.length≤sizeLine):lZ K ρ H (Itt K q) l none where
  go:=fun ρ' H' hd' i d ex rh _ hi=>by
    have k:=r.kp ex
    obtain⟨v,hv,rd⟩:=(rv.mono k).get hi
    have sq:SqT K H' q vs:=SqT.of (k.tup q vs hq)
    refine⟨⟨vs,v,sq,hv⟩,fun x H2 y => ?_⟩
    obtain⟨rfl,y⟩:=y
    have:=y vs sq
    rw [hv] at this
    cases this
    exact⟨eR.refl _,rd⟩
  stop:=fun ρ' H' hd' ex rh _=>⟨vs,SqT.of ((r.kp ex).tup q vs hq),by rw [rv.length];exact Nat.le_refl _⟩
  sz:=by rw [rv.length];exact hz
theorem zy {K:PySem.W.Frag}{ρ:List Addr}{H:Hp}{hd:Hd}{q:Addr}{l:List D}{vs:List V}(r:RH K ρ H hd)(hq:ku K H q vs)(rv:RDs K ρ H l vs)(hz:vs.length≤sizeLine):lZ K ρ H (Itl K q) l none where
  go:=fun ρ' H' hd' i d ex rh _ hi=>by
    have k:=r.kp ex
    obtain⟨v,hv,rd⟩:=(rv.mono k).get hi
    have sq:SqL K H' q vs:=(hq.mono k).sq
    refine⟨⟨vs,v,sq,hv⟩,fun x H2 y => ?_⟩
    obtain⟨rfl,y⟩:=y
    have:=y vs sq
    rw [hv] at this
    cases this
    exact⟨eR.refl _,rd⟩
  stop:=fun ρ' H' hd' ex rh _=>⟨vs,(hq.mono (r.kp ex)).sq,by rw [rv.length];exact Nat.le_refl _⟩
  sz:=by rw [rv.length];exact hz
theorem zz {K:PySem.W.Frag}{ρ:List Addr}{H:Hp}{n:Nat}{q:Addr}{l:List D}(hq : ρ[n]? = some q)(hz:l.length≤sizeLine):lZ K ρ H (Itl K q) l (some n) where
  sz:=hz
  go:=fun ρ' H' hd' i d ex rh hl hi=>by
    obtain⟨vs,e,rv⟩:=rh.cel n _ q hl (ex.get hq)
    obtain⟨v,hv,rd⟩:=rv.get hi
    have sq:SqL K H' q vs:=SqL.of e
    refine⟨⟨vs,v,sq,hv⟩,fun x H2 y => ?_⟩
    obtain⟨rfl,y⟩:=y
    have:=y vs sq
    rw [hv] at this
    cases this
    exact⟨eR.refl _,rd⟩
  stop:=fun ρ' H' hd' ex rh hl=>by
    obtain⟨vs,e,rv⟩:=rh.cel n _ q hl (ex.get hq)
    exact⟨vs,SqL.of e,by rw [rv.length];exact Nat.le_refl _⟩
theorem Di {l:Expr}{tl:TE}(hl:PE X l tl):PI X tg l (fun σ H R=>tl σ H fun x H1=>(∃ a xs,x=.ref a∧SqL X.K H1 a xs∧(xs.length≤sizeLine→R (Itl X.K a) H1)) ∨ ∃ a xs,x=.ref a∧SqT X.K H1 a xs∧(xs.length≤sizeLine→R (Itt X.K a) H1)):=by
  intro pins s σ H R I h
  refine thn (hl pins s σ H _ I h) fun v s1 ⟨x,H1,I1,r1,q1⟩ => ?_
  rcases q1 with ⟨a,xs,e,hq,q⟩|⟨a,xs,e,hq,q⟩
  · subst e
    cases r1
    obtain⟨its,rv,p,hz⟩:=I1.list hq
    refine wpAny_pyIter_list p.isList ?_
    refine⟨s1.heap.objs.size,[s1.heap.objs.size],_,_,H1,rfl,I1.kept (t':=s1.toks) fun b o e=>Heap.get?_push_of_some _ e,xC a _,⟨_,Heap.get?_push_size _ rfl,rfl,rfl⟩,fun b hb => ?_,q hz⟩
    have e:b=s1.heap.objs.size:=by simpa using hb
    subst e
    exact I1.fpOk (Nat.le_refl _) (I1.hok.fresh (Nat.le_refl _))
  · subst e
    cases r1
    obtain⟨its,rv,p,hz⟩:=I1.tuple hq
    refine wpAny_pyIter_tuple (show s1.heap.IsTuple a its.toArray from p) ?_
    refine⟨s1.heap.objs.size,[s1.heap.objs.size],_,_,H1,rfl,I1.kept (t':=s1.toks) fun b o e=>Heap.get?_push_of_some _ e,vk a _,⟨_,Heap.get?_push_size _ rfl,rfl,rfl⟩,fun b hb => ?_,q hz⟩
    have e:b=s1.heap.objs.size:=by simpa using hb
    subst e
    exact I1.fpOk (Nat.le_refl _) (I1.hok.fresh (Nat.le_refl _))
theorem g5 {e:Expr}{f:EF}(h:ME X e f):MI X tg e (gK f):=by
  refine PI.imp (Di h) fun σ H R ⟨ρ,σd,hd,rs,p⟩=>⟨ρ,σd,hd,rs,?_⟩
  unfold gK at p
  cases e:f σd hd with
  | exc x h1=>rw [e] at p;exact p
  | bad=>rw [e] at p;exact p
  | ok d hd1 =>
    rw [e] at p
    simp only [aI] at p
    intro v H1 ρ1 ex1 rs1 rv
    cases d<;>try exact p.elim
    · rename_i l
      simp only [rD,RD] at rv
      obtain⟨q,vs,rfl,hq,rvs⟩:=rv
      exact .inr ⟨q,vs,rfl,SqT.of hq,fun hz=>p _ H1 ρ1 ex1 rs1 (zx rs1.hp hq rvs hz)⟩
    · rename_i n
      simp only [rD,RD] at rv
      obtain⟨a,ha,rfl⟩:=rv
      cases c:hd1[n]? with
      | none=>simp only [c] at p;exact p.elim
      | some cell =>
        cases cell with
        | dct l=>simp only [c] at p;exact p.elim
        | lst l =>
          simp only [c] at p
          obtain⟨vs,hv,rvs⟩:=rs1.hp.cel n _ a c ha
          exact .inl ⟨a,vs,rfl,SqL.of hv,fun hz=>p _ H1 ρ1 ex1 rs1 (zz ha (by rw [rvs.length];exact hz))⟩
    · rename_i l
      simp only [rD,RD] at rv
      obtain⟨q,vs,rfl,hq,rvs⟩:=rv
      exact .inl ⟨q,vs,rfl,hq.sq,fun hz=>p _ H1 ρ1 ex1 rs1 (zy rs1.hp hq rvs hz)⟩
theorem vA {K:PySem.W.Frag}{ρ:List Addr}{H:Hp}(lo:Int)(n:Nat)(hz:n≤2000000):lZ K ρ H (Itr lo n) ((List.range n).map fun k:Nat=>.int (lo + k)) none where
  go:=fun ρ' H' hd' i d ex rh _ hi=>by
    have hin:i < n:=by
      have:=(List.getElem?_eq_some_iff.mp hi).1
      simpa using this
    refine⟨hin,fun x H2 y => ?_⟩
    obtain⟨rfl,rfl⟩:=y
    have e:d=.int (lo + i):=by simpa [hin] using hi.symm
    subst e
    exact⟨eR.refl _,by simp only [RD]⟩
  stop:=fun ρ' H' hd' ex rh _=>by
    show n≤_
    simp
  sz:=by
    have:(2000000:Nat)≤sizeLine:=by rw [sizeLine_eq];decide
    simp;omega
theorem eI {a:Expr} {f:EF} {p:Pos} (hg:Gl X "range") (hm:X.mg "range" = none) (ha:ME X a f) (hs:starEach [a] X.env=[(false,eval a X.env)]:=by rfl):MI X tg (.Call (.Name "range" p) [a] [] pos) (cW f):=by
  refine PI.imp (xD hg hm (bE ha df hs) hs) fun σ H R ⟨ρ,σd,hd,rs,pp⟩=>⟨ρ,σd,hd,rs,?_⟩
  unfold cW at pp
  cases e:f σd hd with
  | exc x h1=>rw [e] at pp;exact pp
  | bad=>rw [e] at pp;exact pp
  | ok d hd1 =>
    rw [e] at pp
    simp only [aI] at pp
    intro v H1 ρ1 ex1 rs1 rv
    cases d<;>try exact pp.elim
    rename_i n
    simp only at pp
    simp only [rD,RD] at rv
    subst rv
    split at pp
    · rename_i hb
      refine⟨n,rfl,by omega,by omega,pp _ H1 ρ1 ex1 rs1 ?_⟩
      have:=vA (K:=X.K) (ρ := ρ1) (H:=H1) 0 n.toNat (by omega)
      simpa using this
    · exact pp.elim
end
end Fm
set_option linter.all false
namespace Fm
noncomputable section
open Classical
def g7 (G:Hd→Prop) (tg:GF) (cs:List TF) (e:EF):List D→Sd→Hd→Res (List D)
  | [],_,h=>if G h then .ok [] h else .bad
  | x :: xs,σ,h=>if G h then match tg x σ with
      | some σ=>(gU cs σ h).bind fun b h=>if b then (e σ h).bind fun d h=>(g7 G tg cs e xs σ h).bind fun ds h=>.ok (d :: ds) h
        else g7 G tg cs e xs σ h
      | none=>.bad
    else .bad
end
theorem qK {g:Option Nat}{all:List D}{tg:GF}{cs:List TF}{e:EF}:∀ (xs:List D) (σ:Sd) (h:Hd),b7 g all tg cs e xs σ h=g7 (gS g all) tg cs e xs σ h
  | [],_,h=>by unfold b7 g7;rfl
  | x :: xs,σ,h=>by
    unfold b7 g7
    by_cases hh:gS g all h
    · rw [if_pos hh,if_pos hh]
      cases tg x σ with
      | none=>rfl
      | some σ'=>simp only [qK xs]
    · rw [if_neg hh,if_neg hh]
end Fm
set_option Elab.async false
set_option linter.all false
set_option maxRecDepth 100000
namespace Fm
open PySem PySem.Spec L2
section
variable {prog:Program} {w:World} {A:Around} {R:Result→Shared→Prop} {s:Shared}
theorem qL {elt target iter:Expr}{ifs:List Expr}{scope:Scope}{pos:Pos}{it acc:Value}{env:Env}{E:Value→Shared→Prop}(hE:∀ e s,¬ E e s)(I:Nat→Shared→Prop)
    (turn:∀ n s,I n s→wpAny (model prog w) A (pyNext it) (fun r s₁ => match r with
      | none=>R (.ok .next) s₁
      | some v=>wpAny (model prog w) A (letOwnedTupleGo target it v) (fun _ s₁ => wpAny (model prog w) A (assign target env v) (fun _ s₂ =>
          wpAny (model prog w) A (forIn ifs true fun c r=>if r=true then do let ok ← isTrue c env (eval c env);pure (ForInStep.yield ok) else pure (ForInStep.yield r)) (fun ok s₃ =>
            if ok=true then wpAny (model prog w) A (eval elt env) (fun x s₄ =>
              wpAny (model prog w) A (call (.builtin "list.append") [acc,x]) (fun _ s₅ => ∃ m,m < n∧I m s₅) E s₄) E s₃
            else ∃ m,m < n∧I m s₃) E s₂) E s₁) E s₁) E s)
    (n:Nat) (h:I n s) :
    codeAny (model prog w) A (.compLoop (.ListComp elt [⟨target,iter,ifs,0⟩] scope pos) 0 it acc env) R s:=by
  refine codeAny_loop rfl I (fun n s hI => ?_) n h
  show wpAny _ A ((compTurn (.ListComp elt [⟨target,iter,ifs,0⟩] scope pos) 0 it acc env).onRaise (fun x=>do noteFrame x env;theTreesLotGoes x)) _ _ s
  refine wpAny_noted ?_
  rw [compTurn_list]
  have no:∀ {α : Type} {t:Sem α} {Q Q' : α → Shared→Prop} {E':Value→Shared→Prop} {s:Shared},wpAny (model prog w) A t Q E s→(∀ a s,Q a s→Q' a s)→wpAny (model prog w) A t Q' E' s:=fun h hq=>wpAny_mono h hq fun e s z=>(hE e s z).elim
  refine wpAny_bind (wpAny_standAt (wpAny_bind (no (turn n s hI) fun r s₁ h₁ => ?_)))
  cases r with
  | none=>exact wpAny_pure h₁
  | some v =>
    refine wpAny_bind (no h₁ fun _ s₁ h₁ => ?_)
    refine wpAny_bind (no h₁ fun _ s₂ h₂ => wpAny_bind (no h₂ fun ok s₃ h₃ => ?_))
    cases ok with
    | false=>exact wpAny_pure ⟨rfl,h₃⟩
    | true =>
      exact wpAny_bind (wpAny_bind (no h₃ fun x s₄ h₄ => wpAny_bind (no h₄ fun _ s₅ h₅ => wpAny_pure (wpAny_pure ⟨rfl,h₅⟩))))
end
theorem iY {env:Env}:∀ (l:List (Str × NameKind)) (cs:List (Str × Addr)),(∀ y∈l,y.2=.free → ∃ c,env.cells.lookup y.1=some c) →
    ∃ cl,(forIn l cs fun (x:Str × NameKind) (r:List (Str × Addr))=>if (x.2 == .free)=true then do let a ← cellOf env x.1;pure (ForInStep.yield ((x.1,a) :: r)) else pure (ForInStep.yield r))=(pure cl:Sem _) ∧
      (∀ x c,cl.lookup x=some c→cs.lookup x=some c∨env.cells.lookup x=some c)∧(∀ y∈l,y.2=.free → ∃ c,cl.lookup y.1=some c) ∧ ∀ x c,cs.lookup x=some c → ∃ c',cl.lookup x=some c'
  | [],cs,_=>⟨cs,by simp,fun x c h=>.inl h,fun y hy=>by simp at hy,fun x c h=>⟨c,h⟩⟩
  | (n,k) :: l,cs,hf=>by
    by_cases hk:k=.free
    · subst hk
      obtain⟨c,hc⟩:=hf (n,.free) (by simp) rfl
      obtain⟨cl,h1,h2,h3,h4⟩:=iY l ((n,c) :: cs) fun y hy=>hf y (by simp [hy])
      refine⟨cl,?_,fun x d h => ?_,fun y hy hyf => ?_,fun x d h => ?_⟩
      · rw [List.forIn_cons]
        simp only [beq_self_eq_true,if_true,cellOf,hc]
        exact h1
      · rcases h2 x d h with q|q
        · rw [List.lookup_cons] at q
          cases e:x == n with
          | true =>
            rw [e] at q
            have:x=n:=by simpa using e
            subst this
            cases q
            exact .inr hc
          | false=>rw [e] at q;exact .inl q
        · exact .inr q
      · rcases List.mem_cons.mp hy with e|e
        · subst e
          exact h4 n c (by simp [List.lookup_cons])
        · exact h3 y e hyf
      · by_cases e:x=n
        · subst e
          exact h4 x c (by simp [List.lookup_cons])
        · exact h4 x d (by rw [List.lookup_cons,beq_eq_false_iff_ne.mpr e];exact h)
    · obtain⟨cl,h1,h2,h3,h4⟩:=iY l cs fun y hy=>hf y (by simp [hy])
      refine⟨cl,?_,h2,fun y hy hyf => ?_,h4⟩
      · rw [List.forIn_cons]
        have:(k == NameKind.free)=false:=by simpa using hk
        simp only [this,Bool.false_eq_true,if_false]
        exact h1
      · rcases List.mem_cons.mp hy with e|e
        · subst e;exact absurd hyf hk
        · exact h3 y e hyf
theorem l3 {scope:Scope}{env:Env}(hf:∀ y∈scope.names,y.2=.free → ∃ c,env.cells.lookup y.1=some c) :
    ∃ cl,closureFor scope env=pure cl∧(∀ x c,cl.lookup x=some c→env.cells.lookup x=some c) ∧ ∀ y∈scope.names,y.2=.free → ∃ c,cl.lookup y.1=some c:=by
  obtain⟨cl,h1,h2,h3,_⟩:=iY scope.names [] hf
  refine⟨cl,?_,fun x c h=>(h2 x c h).elim (fun z=>by simp at z) id,h3⟩
  unfold closureFor
  have e:(forIn scope.names ([] : List (Str × Addr)) fun (x:Str × NameKind) (r:List (Str × Addr))=>if (x.2 == .free)=true then do let a ← cellOf env x.1;pure (ForInStep.yield ((x.1,a) :: r)) else pure (ForInStep.yield r))=(pure cl:Sem _):=h1
  exact (congrArg (fun t:Sem (List (Str × Addr))=>t >>= fun r=>pure r) e).trans rfl
def cxC (X:Cx) (N:List Str) (scope:Scope) (cl:List (Str × Addr)) (C:Addr) (s:Shared) (H:Hp) (ex:List Addr):Cx where
  prog:=X.prog
  w:=X.w
  K:=X.K
  mg:=X.mg
  base:=X.base
  A:=X.A
  N:=N
  s₀ := s
  H₀ := H
  env:=compEnvC scope cl C X.env
  outer:=X.stack
  stack:=X.stack
  ex:=ex
  fn:=fun _=>false
  calm:=X.calm
  pn:=[]
  xe:=fun _ _=>False
def MTs (X:Cx) (ifs:List Expr) (cs:List TF):Prop :=
  ∀ (pins:List (Addr × Obj)) (s:Shared) (σ:St) (H:Hp) (Q:Bool→Hp→Prop),Inv X pins σ H s→gX X.K rB (gU cs) σ H Q →
    wpAny (model X.prog X.w) X.A (forIn ifs true fun c r=>if r=true then do let ok ← isTrue c X.env (eval c X.env);pure (ForInStep.yield ok) else pure (ForInStep.yield r)) (TP X pins σ Q) X.xe s
theorem cK {X:Cx}:MTs X [] []:=fun pins s σ H Q I ⟨ρ,σd,hd,rs,p⟩=>wpAny_tests_nil ⟨H,I,p.here rs rfl⟩
theorem qM {X:Cx}{c:Expr}{t:TF}(h:MT X c t):MTs X [c] [t]:=fun pins s σ H Q I ⟨ρ,σd,hd,rs,p⟩=>wpAny_tests_one (h pins s σ H Q I ⟨ρ,σd,hd,rs,by
  have e:gU [t] σd hd=t σd hd:=by
    simp only [gU]
    cases c:t σd hd with
    | ok b h'=>cases b<;>simp
    | exc x h'=>rfl
    | bad=>rfl
  rw [e] at p
  exact p⟩)
theorem g8 {env:Env}{x:Str}:∀ {names:List (Str × NameKind)} {k:NameKind},(names.map fun (n,k)=>if (k == NameKind.free && env.scope.kind == .function && env.kindOf n == some .cell) then (n,NameKind.cell) else (n,k)).lookup x=some k →
    ∃ k0,names.lookup x=some k0∧(k=k0∨(k0=.free∧k=.cell))
  | [],_,h=>by simp at h
  | (n,k') :: r,k,h=>by
    have ih := @g8 env x r k
    have h':List.lookup x ((if (k' == NameKind.free && env.scope.kind == .function && env.kindOf n == some .cell)=true then (n,NameKind.cell) else (n,k')) :: _)=some k:=h
    cases hx:x == n with
    | true =>
      refine⟨k',by simp [List.lookup_cons,hx],?_⟩
      by_cases hc:(k' == NameKind.free && env.scope.kind == .function && env.kindOf n == some .cell)=true
      · rw [if_pos hc] at h'
        simp only [List.lookup_cons,hx,Option.some.injEq] at h'
        simp only [Bool.and_eq_true,beq_iff_eq] at hc
        exact .inr ⟨hc.1.1,h'.symm⟩
      · rw [if_neg hc] at h'
        simp only [List.lookup_cons,hx,Option.some.injEq] at h'
        exact .inl h'.symm
    | false =>
      have:List.lookup x ((n,k') :: r)=List.lookup x r:=by simp [List.lookup_cons,hx]
      rw [this]
      refine ih ?_
      by_cases hc:(k' == NameKind.free && env.scope.kind == .function && env.kindOf n == some .cell)=true
      · rw [if_pos hc] at h';simpa only [List.lookup_cons,hx] using h'
      · rw [if_neg hc] at h';simpa only [List.lookup_cons,hx] using h'
theorem eJ {x:Str}{k:NameKind}:∀ {l:List (Str × NameKind)},l.lookup x=some k→(x,k)∈l
  | [],h=>by simp at h
  | (n,k') :: r,h=>by
    rw [List.lookup_cons] at h
    cases e:x == n with
    | true =>
      rw [e] at h
      have:x=n:=by simpa using e
      subst this
      cases h
      exact List.mem_cons_self
    | false=>rw [e] at h;exact List.mem_cons_of_mem _ (eJ h)
structure bG (X:Cx) (scope:Scope) (own capn:List Str) (caps:List Nat):Prop where
  kind:scope.kind=.function
  cell:∀ y∈scope.names,y.2 ≠ .cell
  names:∀ y∈scope.names,y.2=.local→scope.names.lookup y.1=some .local
  free:∀ y∈scope.names,y.2=.free→X.env.kindOf y.1=some .cell∨X.env.kindOf y.1=some .free
  cap:∀ (j:Nat) x,capn[j]? = some x → ∃ i,caps[j]? = some i∧X.N[i]? = some x∧scope.names.lookup x=some .free
  len:capn.length=caps.length
section
variable {X:Cx} {pins:List (Addr × Obj)} {σ:St} {H1:Hp} {s2:Shared} {scope:Scope} {own capn:List Str} {caps:List Nat} {cl:List (Str × Addr)} {C:Addr} {ex:List Addr}
def stC (own:List Str) (caps:List Nat) (σ:St):St:=List.replicate own.length none++caps.map fun i=>(σ[i]?).join
theorem Dj (I:Inv X pins σ H1 s2)(S:bG X scope own capn caps)(hC:s2.heap.objs.size≤C)(hcl1:∀ x c,cl.lookup x=some c→X.env.cells.lookup x=some c)(hcl2:∀ y∈scope.names,y.2=.free → ∃ c,cl.lookup y.1=some c)
    (hf:∀ b∈ex,nv X pins H1 b) (hlt:∀ b∈ex,b < s2.heap.objs.size):(cxC X (own++capn) scope cl C s2 H1 ex).Ok where
  mod:=I.ok.mod
  kind:=S.kind
  glob:=I.ok.glob
  blt:=I.ok.blt
  above:=hC
  inj:=fun x y c h1 h2=>I.ok.inj x y c (hcl1 x c h1) (hcl1 y c h2)
  has:=fun x hx=>by
    have key:∀ k,(relabel scope X.env).names.lookup x=some k→k=.cell∨k=.free → ∃ c,cl.lookup x=some c:=fun k h hk=>by
      obtain⟨k0,h0,q⟩:=g8 h
      have hm:=eJ h0
      have:k0=.free:=by
        rcases q with q|q
        · subst q
          rcases hk with e|e
          · exact absurd e (S.cell _ hm)
          · exact e
        · exact q.1
      exact hcl2 _ hm this
    rcases hx with h|h
    · exact key _ h (.inl rfl)
    · exact key _ h (.inr rfl)
  cab:=fun x c h=>by cases h
  hd:=I.ok.hd
  frames:=I.ok.frames
  stk:=.inl rfl
  exf:=fun b hb=>by
    obtain⟨f0,f1,f2,f3,f4,f5⟩:=hf b hb
    exact⟨fun z=>absurd (Nat.lt_of_lt_of_le (hlt b hb) hC) (by rw [z];exact Nat.lt_irrefl _),fun x c e=>f4 x c (hcl1 x c e)⟩
  bs:=I.bs
  bsz:=Nat.le_trans I.ok.bsz I.sz
  noex:=fun b o e hb=>by
    obtain⟨f0,f1,f2,f3,f4,f5⟩:=hf b hb
    rcases f3 with z|z
    · exact I.ok.noex b o e z
    · exact absurd (Nat.lt_of_lt_of_le (Heap.lt_size (I.ok.bs b o e).1) z) (Nat.lt_irrefl _)
  exfs:=fun b hb hs=>by
    obtain⟨f0,f1,f2,f3,f4,f5⟩:=hf b hb
    rcases List.mem_cons.mp (I.stkSub b hs) with z|z
    · exact f1 z
    · exact f2 z
  funs:=I.stack
  frf:=I.stkFree
theorem jf {env:Env}{x:Str}:∀ {names:List (Str × NameKind)},names.lookup x=some .free →
    (names.map fun (n,k)=>if (k == NameKind.free && env.scope.kind == .function && env.kindOf n == some .cell) then (n,NameKind.cell) else (n,k)).lookup x=some .cell ∨
    (names.map fun (n,k)=>if (k == NameKind.free && env.scope.kind == .function && env.kindOf n == some .cell) then (n,NameKind.cell) else (n,k)).lookup x=some .free
  | [],h=>by simp at h
  | (n,k') :: r,h=>by
    have ih := @jf env x r
    show List.lookup x ((if (k' == NameKind.free && env.scope.kind == .function && env.kindOf n == some .cell)=true then (n,NameKind.cell) else (n,k')) :: _)=_∨List.lookup x ((if (k' == NameKind.free && env.scope.kind == .function && env.kindOf n == some .cell)=true then (n,NameKind.cell) else (n,k')) :: _)=_
    cases hx:x == n with
    | true =>
      simp only [List.lookup_cons,hx,Option.some.injEq] at h
      subst h
      by_cases hc:(NameKind.free == NameKind.free && env.scope.kind == .function && env.kindOf n == some .cell)=true
      · rw [if_pos hc];exact .inl (by simp only [List.lookup_cons,hx])
      · rw [if_neg hc];exact .inr (by simp only [List.lookup_cons,hx])
    | false =>
      simp only [List.lookup_cons,hx] at h
      by_cases hc:(k' == NameKind.free && env.scope.kind == .function && env.kindOf n == some .cell)=true
      · rw [if_pos hc];simp only [List.lookup_cons,hx];exact ih h
      · rw [if_neg hc];simp only [List.lookup_cons,hx];exact ih h
theorem Bd {i:Nat}{v:V}(h:(stC own caps σ)[i]? = some (some v)):∃ j k,i=own.length + j∧caps[j]? = some k ∧ σ[k]? = some (some v):=by
  unfold stC at h
  by_cases hi:i < own.length
  · rw [List.getElem?_append_left (by simpa using hi)] at h
    simp [hi] at h
  · rw [List.getElem?_append_right (by simpa using Nat.le_of_not_lt hi)] at h
    simp only [List.length_replicate,List.getElem?_map] at h
    cases c:caps[i - own.length]? with
    | none=>rw [c] at h;cases h
    | some k =>
      rw [c] at h
      simp only [Option.map_some,Option.some.injEq] at h
      refine⟨i - own.length,k,by omega,c,?_⟩
      cases e : σ[k]? with
      | none=>rw [e] at h;cases h
      | some o=>rw [e] at h;simp only [Option.join_some] at h;rw [h]
theorem xL (I:Inv X pins σ H1 s2)(S:bG X scope own capn caps)(hC:s2.heap.objs.size < C)(hcl1:∀ x c,cl.lookup x=some c→X.env.cells.lookup x=some c)(hcl2:∀ y∈scope.names,y.2=.free → ∃ c,cl.lookup y.1=some c)
    (hf:∀ b∈ex,nv X pins H1 b) (hlt:∀ b∈ex,b < s2.heap.objs.size) {h1:Heap} {m:Str→Option Value} {tk:Nat} (hn:h1.Ns C m) (hk:∀ b o,s2.heap.get? b=some o→h1.get? b=some o)
    (hD:h1.get? s2.heap.objs.size=some { cls:=.type "list",data:=.seq #[] }) :
    Inv (cxC X (own++capn) scope cl C s2 H1 ex) [] (stC own caps σ) (upd H1 s2.heap.objs.size (.lst [])) { s2 with heap:=h1,toks:=tk } where
  ok:=Dj I S (Nat.le_of_lt hC) hcl1 hcl2 hf hlt
  os:=rfl
  bare:=I.bare
  base:=Un.laid hk (Nat.le_refl _) (I.hok.fresh (Nat.le_refl _))
  loc:=by
    refine⟨m,hn,fun i x v e1 e2 e3 => ?_⟩
    obtain⟨j,k,rfl,hj,hk'⟩:=Bd e2
    have e1':capn[j]? = some x:=by
      have:(own++capn)[own.length + j]? = some x:=e1
      rw [List.getElem?_append_right (by omega)] at this
      simpa using this
    obtain⟨k2,q1,q2,q3⟩:=S.cap j x e1'
    rw [hj] at q1;cases q1
    have hm:=eJ q3
    have kd:=S.free _ hm rfl
    obtain⟨m0,hn0,hl⟩:=I.loc
    obtain⟨u,r,lk⟩:=hl k x v q2 hk' (.inr kd)
    refine⟨u,r,.inr ⟨jf q3,?_⟩⟩
    rcases lk with ⟨z,_⟩|⟨_,c,hc,o,ho,hd⟩
    · rcases kd with e|e<;>(rw [z] at e;cases e)
    · obtain⟨c',hc'⟩:=hcl2 _ hm rfl
      have:=hcl1 _ _ hc'
      rw [hc] at this
      cases this
      exact⟨c,hc',o,hk c o ho,hd⟩
  cell:=fun x c e=>by
    obtain⟨v,o,ho,hd⟩:=I.cell x c (hcl1 x c e)
    exact⟨v,o,hk c o ho,hd⟩
  free:=by
    show upd H1 _ _ C=none
    rw [az (Nat.ne_of_gt hC)]
    exact I.hok.fresh (Nat.le_of_lt hC)
  freeC:=fun x c e=>by
    obtain⟨v,o,ho,hd⟩:=I.cell x c (hcl1 x c e)
    rw [az (Nat.ne_of_lt (Heap.lt_size ho))]
    exact I.freeC x c (hcl1 x c e)
  pin:=fun p hp=>absurd (show p∈([] : List (Addr × Obj)) from hp) (by simp)
  hok:=I.hok.laid hk (Nat.le_refl _) ⟨Nat.zero_le _,[],0,.nil,hD⟩
  len:=by
    show (stC own caps σ).length=(own++capn).length
    simp [stC,S.len]
end
theorem RS.other {K:PySem.W.Frag}{ρ:List Addr}{H:Hp}{σd:Sd}{hd:Hd}{σ:St}{d:Addr}{ys zs:List V}(r:RS K ρ H σd hd σ)(h:H d=some (.lst ys))(n:d ∉ ρ):RS K ρ (upd H d (.lst zs)) σd hd σ ∧ Kp ρ H ρ (upd H d (.lst zs)):=by
  have k:Kp ρ H ρ (upd H d (.lst zs)):=⟨fun _ _ h=>h,fun a us e=>by
    rw [az (fun z=>by rw [z,h] at e;cases e)];exact e,fun a o u e=>by
    rw [az (fun z=>by rw [z,h] at e;cases e)];exact e,fun a φ e=>by
    rw [az (fun z=>by rw [z,h] at e;cases e)];exact e⟩
  refine⟨⟨⟨r.hp.len,r.hp.nd,fun m c a h1 h2=>(r.hp.cel m c a h1 h2).mono k (az fun z=>n (by rw [← z];exact List.mem_of_getElem? h2))⟩,r.st.mono k⟩,k⟩
theorem Ext.other {ρ ρ':List Addr}{H H':Hp}{d:Addr}{o:HO}(e:Ext ρ H ρ' H')(h:H d=none):Ext ρ H ρ' (upd H' d o) :=
  ⟨e.pre,e.new,fun p u hp n=>by rw [az (bg hp h)];exact e.frame p u hp n⟩
theorem tR {nl:Nat}{caps:List Nat}{σd:Sd}{i:Nat}{d:D}(h:slot (fV nl caps σd) i=some d):∃ j k,i=nl + j∧caps[j]? = some k∧slot σd k=some d:=by
  unfold fV at h
  simp only [slot] at h
  by_cases hi:i < nl
  · rw [List.getElem?_append_left (by simpa using hi)] at h
    simp [hi] at h
  · rw [List.getElem?_append_right (by simpa using Nat.le_of_not_lt hi)] at h
    simp only [List.length_replicate,List.getElem?_map] at h
    cases c:caps[i - nl]? with
    | none=>rw [c] at h;cases h
    | some k =>
      rw [c] at h
      simp only [Option.map_some] at h
      refine⟨i - nl,k,by omega,c,?_⟩
      simp only [slot]
      revert h
      cases e : σd[k]? with
      | none=>simp
      | some o=>cases o<;>simp
structure Cl (K:PySem.W.Frag) (ρ0:List Addr) (H0:Hp) (J:It) (l:List D) (G:Hd→Prop):Prop where
  go:∀ ρ H hd (i:Nat) d,Ext ρ0 H0 ρ H→RH K ρ H hd→G hd→l[i]? = some d→J.go i H ∧ ∀ x H',J.yld i H x H'→eR H H'∧RD K ρ H' d x
  stop:∀ ρ H hd,Ext ρ0 H0 ρ H→RH K ρ H hd→G hd→J.stop l.length H
  sz:l.length≤sizeLine
theorem lZ.g {K:PySem.W.Frag}{ρ:List Addr}{H:Hp}{J:It}{l:List D}{g:Option Nat}(w:lZ K ρ H J l g):Cl K ρ H J l (gS g l):=⟨w.go,w.stop,w.sz⟩
structure CD where
  i:Nat
  ys:List V
  acc:List D
  rest:List D
  ρ:List Addr
  σd:Sd
  hd:Hd
  H:Hp
  σ:St
structure CI (X:Cx) (own capn:List Str) (scope:Scope) (cl:List (Str × Addr)) (s2:Shared) (C:Addr) (H1:Hp) (ρ1:List Addr) (fp:List Addr) (tn:Nat→Heap→Prop) (G:Hd→Prop) (g:GF) (cs:List TF) (e:EF) (l:List D) (hdF:Hd) (ds:List D) (d:CD) (s':Shared):Prop where
  le:d.i≤l.length
  inv:Inv (cxC X (own++capn) scope cl C s2 H1 fp) [] d.σ d.H s'
  st:tn d.i s'.heap
  fr:∀ b∈fp,d.H b=none
  at':d.H s2.heap.objs.size=some (.lst d.ys)
  out:s2.heap.objs.size∉d.ρ
  yl:d.ys.length≤d.i
  ex:Ext ρ1 H1 d.ρ d.H
  rs:RS X.K d.ρ d.H d.σd d.hd d.σ
  ac:RDs X.K d.ρ d.H d.acc d.ys
  run:g7 G g cs e (l.drop d.i) d.σd d.hd=.ok d.rest hdF
  eq:d.acc++d.rest=ds
section
variable {X:Cx} {pins:List (Addr × Obj)} {σ:St} {H1:Hp} {s2:Shared} {scope:Scope} {own capn:List Str} {caps:List Nat} {cl:List (Str × Addr)}
theorem vB {ρ1:List Addr}{σd:Sd}{hd1:Hd}(S:bG X scope own capn caps)(r:RS X.K ρ1 H1 σd hd1 σ){d:Addr}(hd:H1 d=none):RS X.K ρ1 (upd H1 d (.lst [])) (fV own.length caps σd) hd1 (stC own caps σ):=by
  have sm:=bO (o:=HO.lst []) hd
  refine⟨r.hp.same sm,⟨by simp [stC,fV],fun i x e => ?_⟩⟩
  obtain⟨j,k,rfl,hj,hs⟩:=tR e
  obtain⟨v,h1,h2⟩:=r.st.at' k x hs
  refine⟨v,?_,h2.mono (Kp.same sm)⟩
  unfold stC
  rw [List.getElem?_append_right (by simp)]
  simp [hj,h1]
theorem pU {elt tg iter:Expr}{ifs:List Expr}{pos:Pos}{it:Addr}{fp:List Addr}{tn:Nat→Heap→Prop}{J:It}{l:List D}{G:Hd→Prop}{g:GF}{cs:List TF}{e:EF}{ρ1:List Addr}{σd:Sd}{hd1 hdF:Hd}{ds:List D}{E:Value→Shared→Prop}{RR:Value→Addr→Result→Shared→Prop}
    (hc:X.calm=true) (S:bG X scope own capn caps) (hin:∀ cl C s H ex,MG (cxC X (own++capn) scope cl C s H ex) tg g∧MTs (cxC X (own++capn) scope cl C s H ex) ifs cs∧ME (cxC X (own++capn) scope cl C s H ex) elt e)
    (I1:Inv X pins σ H1 s2) (T:vj X.prog X.w X.K tg J fp it tn) (st0:tn 0 s2.heap) (hf:∀ b∈fp,nv X pins H1 b) (rs1:RS X.K ρ1 H1 σd hd1 σ) (wk:Cl X.K ρ1 H1 J l G)
    (hcl1:∀ x c,cl.lookup x=some c→X.env.cells.lookup x=some c) (hcl2:∀ y∈scope.names,y.2=.free → ∃ c,cl.lookup y.1=some c)
    (run:g7 G g cs e l (fV own.length caps σd) hd1=.ok ds hdF)
    (hRR:∀ C s' m H' ρ' vs,s2.heap.objs.size < C→s'.heap.Ns C m→Inv X pins σ H' s'→H' C=none→Ext ρ1 H1 ρ' H'→RH X.K ρ' H' hdF→H1 s2.heap.objs.size=none→H' s2.heap.objs.size=some (.lst vs)→s2.heap.objs.size ∉ ρ'→RDs X.K ρ' H' ds vs →
      RR (.ref s2.heap.objs.size) C (.ok .next) s') :
    wpAny (model X.prog X.w) X.A (newList []) (fun acc s₃ => wpAny (model X.prog X.w) X.A (newFunctionEnv scope X.env.globals cl [] X.env.qual none .none (some X.env)) (fun cenv s₄ =>
      codeAny (model X.prog X.w) X.A (.compStart (.ListComp elt [⟨tg,iter,ifs,0⟩] scope pos) 0 (.ref it) acc { cenv with scope:=relabel scope X.env }) (RR acc cenv.locals) s₄) E s₃) E s2:=by
  refine wpAny_newObj_type (wpAny_newFunctionEnv S.cell (by intro y hy;simp at hy) (fun h₁ hns₁ hsb₁ => ?_) S.kind)
  dsimp only at hns₁ hsb₁ ⊢
  generalize hH2:s2.heap.push { cls:=.type "list",dict:=none,data:=.seq ([] : List Value).toArray } = H2 at hns₁ hsb₁ ⊢
  have hC:H2.objs.size=s2.heap.objs.size + 1:=by rw [← hH2,Heap.size_push]
  have hDC:s2.heap.objs.size≠H2.objs.size:=by rw [hC];exact Nat.ne_of_lt (Nat.lt_succ_self _)
  have old:∀ b o,s2.heap.get? b=some o→h₁.get? b=some o:=fun b o e=>hsb₁.extBut b o (by rw [hC];exact Nat.ne_of_lt (Nat.lt_succ_of_lt (Heap.lt_size e))) (Heap.get?_push_of_some _ (hH2 ▸ Heap.get?_push_of_some _ e))
  have hacc:h₁.get? s2.heap.objs.size=some { cls:=.type "list",data:=.seq #[] }:=hsb₁.extBut _ _ hDC (Heap.get?_push_of_some _ (hH2 ▸ Heap.get?_push_size _ rfl))
  have hlt:∀ b∈fp,b < s2.heap.objs.size:=fun b hb=>by
    obtain⟨o,ho,_⟩:=T.obj 0 _ st0 b hb
    exact Heap.lt_size ho
  have hCl:s2.heap.objs.size < H2.objs.size:=by rw [hC];exact Nat.lt_succ_self _
  have hD0:H1 s2.heap.objs.size=none:=I1.hok.fresh (Nat.le_refl _)
  have st1:tn 0 h₁ := T.keep 0 _ _ st0 fun b hb o e=>old b o e
  have hn1:s2.heap.objs.size ∉ ρ1:=rs1.hp.free hD0
  obtain⟨hG,hT,hE⟩:=hin cl H2.objs.size s2 H1 fp
  have I':=xL (tk:=s2.toks + ([] : List (Str × Value)).length) I1 S hCl hcl1 hcl2 hf hlt hns₁ old hacc
  have fpC:∀ {pins':List (Addr × Obj)} {H':Hp},(∀ b∈fp,H' b=none) → ∀ b∈fp,nv (cxC X (own++capn) scope cl H2.objs.size s2 H1 fp) [] H' b:=fun {pins' H'} hn b hb=>by
    obtain⟨f0,f1,f2,f3,f4,f5⟩:=hf b hb
    have lt:=hlt b hb
    refine⟨hn b hb,fun z=>absurd lt (by rw [show b=H2.objs.size from z,hC];exact Nat.not_lt.mpr (Nat.le_succ _)),fun z => ?_,.inl hb,fun x c e=>f4 x c (hcl1 x c e),fun p hp=>absurd (show p∈([] : List (Addr × Obj)) from hp) (by simp)⟩
    rcases List.mem_cons.mp (I1.stkSub b z) with q|q
    · exact f1 q
    · exact f2 q
  have loop:∀ s₃ : Shared,s₃ = { s2 with heap:=h₁,toks:=s2.toks + ([] : List (Str × Value)).length } →
      codeAny (model X.prog X.w) X.A (.compLoop (.ListComp elt [⟨tg,iter,ifs,0⟩] scope pos) 0 (.ref it) (.ref s2.heap.objs.size) (compEnvC scope cl H2.objs.size X.env)) (RR (.ref s2.heap.objs.size) H2.objs.size) s₃ := by
    rintro s₃ rfl
    refine qL (E:=fun _ _=>False) (fun _ _ z=>z) (fun n s'=>∃ d:CD,n=l.length - d.i∧CI X own capn scope cl s2 H2.objs.size H1 ρ1 fp tn G g cs e l hdF ds d s') ?_ l.length
      ⟨⟨0,[],[],ds,ρ1,_,hd1,_,_⟩,by simp,Nat.zero_le _,I',st1,fun b hb => ?_,aV,hn1,Nat.le_refl _,Ext.same (bO hD0),vB S rs1 hD0,RDs.nil,by simpa using run,rfl⟩
    · rintro n s' ⟨⟨i,ys,acc,rest,ρ',σd',hd',H',σ'⟩,rfl,ci⟩
      have hil:i≤l.length:=ci.le
      have I':Inv (cxC X (own++capn) scope cl H2.objs.size s2 H1 fp) [] σ' H' s':=ci.inv
      have stn:tn i s'.heap:=ci.st
      have hfp:∀ b∈fp,H' b=none:=ci.fr
      have hDy:H' s2.heap.objs.size=some (.lst ys):=ci.at'
      have hnD:s2.heap.objs.size ∉ ρ':=ci.out
      have hyl:ys.length≤i:=ci.yl
      have ex:Ext ρ1 H1 ρ' H':=ci.ex
      have rs':RS X.K ρ' H' σd' hd' σ':=ci.rs
      have racc:RDs X.K ρ' H' acc ys:=ci.ac
      have hrun:g7 G g cs e (l.drop i) σd' hd'=.ok rest hdF:=ci.run
      have hds:acc++rest=ds:=ci.eq
      by_cases hlt':i < l.length
      · have hdi:l[i]? = some l[i]:=by simp [hlt']
        rw [List.drop_eq_getElem_cons hlt'] at hrun
        unfold g7 at hrun
        by_cases hh:G hd'
        · rw [if_pos hh] at hrun
          obtain⟨go,yl⟩:=wk.go ρ' H' hd' i _ ex rs'.hp hh hdi
          cases c:g l[i] σd' with
          | none=>rw [c] at hrun;cases hrun
          | some σd2 =>
            rw [c] at hrun
            simp only at hrun
            refine thn (T.item (cxC X (own++capn) scope cl H2.objs.size s2 H1 fp) rfl rfl rfl hc i [] s' σ' H' (fun _ _=>False) I' (fpC (pins':=[]) hfp) stn go) fun r s₁ ⟨u,hr,h4⟩ => ?_
            subst hr
            refine thn h4 fun _ s5 ⟨x,H5,I5,r5,y5,st5,fr5⟩ => ?_
            obtain⟨sm,rx⟩:=yl x H5 y5
            have I5':=I5.pinned (fpC (pins':=[]) fr5) (T.obj _ _ st5)
            have rs5:=rs'.same sm
            have hDy5:=sm _ _ hDy
            refine thn (hG _ s5 σ' H5 x u (fun σ6 H6=>H6=H5∧RS X.K ρ' H5 σd2 hd' σ6) I5' r5 ⟨ρ',σd',hd',l[i],σd2,rs5,rx,c,fun σ6 rs6=>⟨rfl,rs6⟩⟩) fun _ s6 ⟨σ6,H6,I6,hH6,rs6⟩ => ?_
            subst hH6
            cases c2:gU cs σd2 hd' with
            | exc z h7=>rw [c2] at hrun;cases hrun
            | bad=>rw [c2] at hrun;cases hrun
            | ok b hd7 =>
              rw [c2] at hrun
              simp only [aI] at hrun
              refine thn (hT _ s6 σ6 H6 (fun b' H7=>b'=b ∧ ∃ ρ7,Ext ρ' H6 ρ7 H7∧RS X.K ρ7 H7 σd2 hd7 σ6) I6 ⟨ρ',σd2,hd',rs6,by
                rw [c2]
                exact fun b' H7 ρ7 ex7 rs7 q=>⟨q.symm,ρ7,ex7,rs7⟩⟩) fun b' s7 ⟨H7,I7,hb',ρ7,ex7,rs7⟩ => ?_
              subst hb'
              have stay:∀ {σ8:St} {H8:Hp} {s8:Shared},Inv (cxC X (own++capn) scope cl H2.objs.size s2 H1 fp) ([]++lK fp s5.heap) σ8 H8 s8→tn (i + 1) s8.heap ∧ ∀ b∈fp,H8 b=none:=fun {σ8 H8 s8} I8 =>
                ⟨T.keep _ _ _ st5 fun b hb o e=>(I8.pin (b,o) (List.mem_append_right _ (List.mem_append_right _ (fU hb e)))).1,fun b hb=>by
                  obtain⟨o,e,d⟩:=T.obj _ _ st5 b hb
                  exact (I8.pin (b,o) (List.mem_append_right _ (List.mem_append_right _ (fU hb e)))).2.1⟩
              have ex5:Ext ρ' H' ρ7 H7:=(Ext.same sm).trans ex7
              have hDy7:H7 s2.heap.objs.size=some (.lst ys):=ex5.frame _ _ hDy hnD
              have hnD7:=ex5.out hDy hnD
              have racc7:=racc.mono (rs'.hp.kp ex5)
              cases b' with
              | false =>
                simp only [Bool.false_eq_true,if_false] at hrun ⊢
                obtain⟨st8,f8⟩:=stay I7
                exact⟨l.length - (i + 1),by omega,⟨i + 1,ys,acc,rest,ρ7,σd2,hd7,H7,σ6⟩,rfl,hlt',I7.unpinned,st8,f8,hDy7,hnD7,Nat.le_succ_of_le hyl,ex.trans ex5,rs7,racc7,hrun,hds⟩
              | true =>
                simp only [if_true] at hrun ⊢
                cases c3:e σd2 hd7 with
                | exc z h7=>rw [c3] at hrun;cases hrun
                | bad=>rw [c3] at hrun;cases hrun
                | ok d hd8 =>
                  rw [c3] at hrun
                  simp only [aI] at hrun
                  cases c4:g7 G g cs e (l.drop (i + 1)) σd2 hd8 with
                  | exc z h7=>rw [c4] at hrun;cases hrun
                  | bad=>rw [c4] at hrun;cases hrun
                  | ok rest' hd9 =>
                    rw [c4] at hrun
                    simp only [aI,Res.ok.injEq] at hrun
                    obtain⟨hrest,hF⟩:=hrun
                    subst hrest hF
                    refine thn (hE _ s7 σ6 H7 (fun v H8=>∃ ρ8,Ext ρ7 H7 ρ8 H8∧RS X.K ρ8 H8 σd2 hd8 σ6∧RD X.K ρ8 H8 d v) I7 ⟨ρ7,σd2,hd7,rs7,by
                      rw [c3]
                      exact fun v H8 ρ8 ex8 rs8 q=>⟨ρ8,ex8,rs8,q⟩⟩) fun u8 s8 ⟨v8,H8,I8,r8,ρ8,ex8,rs8,rd8⟩ => ?_
                    have hDy8:H8 s2.heap.objs.size=some (.lst ys):=ex8.frame _ _ hDy7 hnD7
                    have hnD8:=ex8.out hDy7 hnD7
                    refine thn (pR _ s8 σ6 H8 (.ref s2.heap.objs.size) [v8] (.ref s2.heap.objs.size) [u8] (fun _ H9=>H9=upd H8 s2.heap.objs.size (.lst (ys++[v8]))) I8 rfl (.cons r8 .nil) ⟨_,ys,v8,rfl,rfl,hDy8,by have:=wk.sz;omega,rfl⟩) fun u9 s9 ⟨v9,H9,I9,r9,q9⟩ => ?_
                    subst q9
                    obtain⟨st9,f9⟩:=stay I9
                    obtain⟨rs9,k9⟩:=rs8.other (zs:=ys++[v8]) hDy8 hnD8
                    exact⟨l.length - (i + 1),by omega,⟨i + 1,ys++[v8],acc++[d],rest',ρ8,σd2,hd8,_,σ6⟩,rfl,hlt',I9.unpinned,st9,f9,aV,hnD8,by simp;exact hyl,(ex.trans (ex5.trans ex8)).other hD0,rs9,
                      ((racc7.mono (rs7.hp.kp ex8)).mono k9).append (RDs.cons (rd8.mono k9) RDs.nil),c4,by rw [← hds];simp⟩
        · rw [if_neg hh] at hrun;cases hrun
      · have e0:i=l.length:=by omega
        subst e0
        rw [List.drop_length] at hrun
        unfold g7 at hrun
        by_cases hh:G hd'
        · rw [if_pos hh] at hrun
          simp only [Res.ok.injEq] at hrun
          obtain⟨hrest,hF⟩:=hrun
          subst hrest hF
          rw [List.append_nil] at hds
          subst hds
          refine thn (T.done (cxC X (own++capn) scope cl H2.objs.size s2 H1 fp) rfl rfl rfl hc _ [] s' σ' H' (fun _ _=>False) I' (fpC (pins':=[]) hfp) stn (wk.stop ρ' H' hd' ex rs'.hp hh)) fun r s₁ ⟨hr,I4⟩ => ?_
          subst hr
          obtain⟨m,hm,_⟩:=I4.loc
          refine hRR H2.objs.size s₁ m H' ρ' ys hCl hm ?_ I4.free ex rs'.hp hD0 hDy hnD racc
          exact I1.call' I4.os I4.base I4.hok I4.bare fun b hb=>by
            obtain⟨f0,f1,f2,f3,f4,f5⟩:=hf b hb
            exact⟨f3,f1,f4,f5⟩
        · rw [if_neg hh] at hrun;cases hrun
    · show upd H1 _ _ b=none
      rw [az (Nat.ne_of_lt (hlt b hb))]
      exact (hf b hb).1
  exact codeAny_compStart_list (loop _ rfl) (T.self _ 0 _ _ _ st1 (loop _ rfl))
end
section
variable {X:Cx} {pos:Pos} {scope:Scope} {own capn:List Str} {caps:List Nat}
theorem cj {elt tg iter:Expr}{ifs:List Expr}{f:IF}{g:GF}{cs:List TF}{e:EF}(hc:X.calm=true)(S:bG X scope own capn caps)(hi:MI X tg iter f)
    (hin:∀ cl C s H ex,MG (cxC X (own++capn) scope cl C s H ex) tg g∧MTs (cxC X (own++capn) scope cl C s H ex) ifs cs∧ME (cxC X (own++capn) scope cl C s H ex) elt e)
    (hs:∀ x,foldedSetIterable iter X.env x=pure x:=by intro _;rfl):MF X (.ListComp elt [⟨tg,iter,ifs,0⟩] scope pos) (bA own.length caps f g cs e):=by
  intro pins s σ H Q I ⟨ρ,σd,hd,rs,p⟩
  rw [eval_ListComp]
  unfold bA at p
  cases c:f σd hd with
  | exc z h7=>rw [c] at p;exact p.elim
  | bad=>rw [c] at p;exact p.elim
  | ok q hd1 =>
    obtain⟨l,gd⟩:=q
    rw [c] at p
    simp only [aI] at p
    obtain⟨cl,h1,hcl1,hcl2⟩:=l3 (scope:=scope) (env:=X.env) fun y hy hyf=>I.ok.has y.1 (S.free y hy hyf)
    refine wpAny_comprehension_free (use:=none) rfl hs h1 S.kind S.names (thn (hi pins s σ H (fun J H1=>∃ ρ1,Ext ρ H ρ1 H1∧RS X.K ρ1 H1 σd hd1 σ ∧ lZ X.K ρ1 H1 J l gd) I ⟨ρ,σd,hd,rs,by
      rw [c]
      exact fun J H' ρ' ex rs' wk=>⟨ρ',ex,rs',wk⟩⟩) fun v s1 h1=>thn h1 fun itv s2 h2 => ?_)
    obtain⟨it,fp,tn,J,H1,rfl,I1,T,st0,hf,ρ1,ex1,rs1,wk⟩:=h2
    cases c2:b7 gd l g cs e l (fV own.length caps σd) hd1 with
    | exc z h7=>rw [c2] at p;exact p.elim
    | bad=>rw [c2] at p;exact p.elim
    | ok ds hdF =>
      rw [c2] at p
      refine pU (RR:=fun acc C=>compPost (model X.prog X.w) X.A X.xe none (EP X pins σ Q) acc C) hc S hin I1 T st0 hf rs1 wk.g hcl1 hcl2 ((qK _ _ _).symm.trans c2) fun C s' m H' ρ' vs hC hn I' hCn ex rh hD0 hD hnD rds => ?_
      refine⟨m,hn,fun h' sb=>⟨.ref s2.heap.objs.size,H',?_,rfl,?_⟩⟩
      · refine I'.turned (it:=C) (t':=s'.toks) (fun b o hb e=>(sb.2 b hb).trans e) hCn ?_ (.inr (Nat.le_of_lt (Nat.lt_of_le_of_lt I1.sz hC))) (fun x c e z => ?_) fun q hq z => ?_
        · exact Nat.ne_of_gt (Nat.lt_trans I1.lt hC)
        · obtain⟨v,o,ho,hd⟩:=I1.cell x c e
          exact absurd (Nat.lt_trans (Heap.lt_size ho) hC) (by rw [z];exact Nat.lt_irrefl _)
        · exact absurd (Nat.lt_trans (Heap.lt_size (I1.pin q hq).1) hC) (by rw [z];exact Nat.lt_irrefl _)
      · exact p _ vs H' ρ' (ex1.trans ex) (rs.ext (ex1.trans ex) rh) (ex1.fresh hD0 (rs1.hp.free hD0)) hD hnD rds
theorem Be {i:Nat}{x:Str}{pos':Pos}{elt tg iter:Expr}{ifs:List Expr}{f:IF}{g:GF}{cs:List TF}{e:EF}{cpos:Pos}(hN:X.N.Nodup)(hi':X.N[i]? = some x)(hx:Loc X.env.scope x)(hc:X.calm=true)(S:bG X scope own capn caps)(hi:MI X tg iter f)
    (hin:∀ cl C s H ex,MG (cxC X (own++capn) scope cl C s H ex) tg g∧MTs (cxC X (own++capn) scope cl C s H ex) ifs cs∧ME (cxC X (own++capn) scope cl C s H ex) elt e)
    (hsw:swapsWith (.ListComp elt [⟨tg,iter,ifs,0⟩] scope cpos) (some (.Name x pos')) pos.line X.env=pure true:=by rfl)
    (hs:∀ x,foldedSetIterable iter X.env x=pure x:=by intro _;rfl) (hf':X.fn x=true∨X.env.scope.names.lookup x=some .local:=by first|exact .inl rfl|exact .inr rfl|assumption) :
    MS X (.Assign [.Name x pos'] (.ListComp elt [⟨tg,iter,ifs,0⟩] scope cpos) pos) (aG (gN i) (cZ (bA own.length caps f g cs e))):=by
  intro pins s σ H En I ⟨ρ,σd,hd,rs,p⟩
  rw [exec_Assign_Name_used _ _ _ _ hsw]
  refine wpAny_bind (wpAny_standAt ?_)
  show wpAny _ _ ((comprehension _ scope X.env _ (newList []) _ _ _ >>= fun _=>pure ()) >>= fun _=>pure Flow.next) _ _ _
  have p1:=bv.outE (σ := σ) p
  unfold cZ bA at p1
  cases c:f σd hd with
  | exc z h7=>rw [c] at p1;exact p1.elim
  | bad=>rw [c] at p1;exact p1.elim
  | ok q hd1 =>
    obtain⟨l,gd⟩:=q
    rw [c] at p1
    simp only [aI] at p1
    obtain⟨cl,h1,hcl1,hcl2⟩:=l3 (scope:=scope) (env:=X.env) fun y hy hyf=>I.ok.has y.1 (S.free y hy hyf)
    refine wpAny_bind (wpAny_bind (wpAny_comprehension_free (Q:=fun _ s'=>wpAny (model X.prog X.w) X.A (pure ()) (fun _ s'=>wpAny (model X.prog X.w) X.A (pure Flow.next) (SP X pins En) X.xe s') X.xe s') (use:=some (assign (.Name x pos') X.env)) rfl hs h1 S.kind S.names (thn (hi pins s σ H (fun J H1=>∃ ρ1,Ext ρ H ρ1 H1∧RS X.K ρ1 H1 σd hd1 σ ∧ lZ X.K ρ1 H1 J l gd) I ⟨ρ,σd,hd,rs,by
      rw [c]
      exact fun J H' ρ' ex rs' wk=>⟨ρ',ex,rs',wk⟩⟩) fun v s1 h1=>thn h1 fun itv s2 h2 => ?_)))
    obtain⟨it,fp,tn,J,H1,rfl,I1,T,st0,hf,ρ1,ex1,rs1,wk⟩:=h2
    cases c2:b7 gd l g cs e l (fV own.length caps σd) hd1 with
    | exc z h7=>rw [c2] at p1;exact p1.elim
    | bad=>rw [c2] at p1;exact p1.elim
    | ok ds hdF =>
      rw [c2] at p1
      simp only [aI] at p1
      by_cases hz:ds.length≤SZ
      · rw [if_pos hz] at p1
        refine pU (RR:=fun acc C=>compPost (model X.prog X.w) X.A X.xe (some (assign (.Name x pos') X.env)) _ acc C) hc S hin I1 T st0 hf rs1 wk.g hcl1 hcl2 ((qK _ _ _).symm.trans c2) fun C s' m H' ρ' vs hC hn I' hCn ex rh hD0 hD hnD rds => ?_
        refine wpAny_assign_Name (pJ I' hN hi' hx (v:=.ref s2.heap.objs.size) rfl (fun s'' I'' hsb => ?_) hf')
        have hCl:C≠X.env.locals:=Nat.ne_of_gt (Nat.lt_trans I1.lt hC)
        have hCc:∀ y c,X.env.cells.lookup y=some c→c≠C:=fun y c e z=>by
          obtain⟨v,o,ho,hd⟩:=I1.cell y c e
          exact absurd (Nat.lt_trans (Heap.lt_size ho) hC) (by rw [z];exact Nat.lt_irrefl _)
        refine⟨m,?_,fun h' sb=>wpAny_pure (wpAny_pure ?_)⟩
        · obtain⟨a,sa,ha⟩:=hsb
          refine hn.sameBut sa ?_
          rcases ha with z|z
          · rw [z];exact hCl
          · exact Ne.symm (hCc _ _ z)
        · have I3:Inv X pins (σ.set i (some (.ref s2.heap.objs.size))) H' { s'' with heap:=h' }:=I''.turned (it:=C) (t':=s''.toks) (fun b o hb e=>(sb.2 b hb).trans e) hCn hCl (.inr (Nat.le_of_lt (Nat.lt_of_le_of_lt I1.sz hC))) hCc fun q hq z =>
            absurd (Nat.lt_trans (Heap.lt_size (I1.pin q hq).1) hC) (by rw [z];exact Nat.lt_irrefl _)
          have ex':Ext ρ H ρ' H':=ex1.trans ex
          have rh':=rh.alloc hD hnD rds
          have hH0:H s2.heap.objs.size=none:=ex1.fresh hD0 (rs1.hp.free hD0)
          have exA:Ext ρ H (ρ'++[s2.heap.objs.size]) H':=⟨by obtain⟨t,rfl⟩:=ex'.pre;exact⟨t++[s2.heap.objs.size],by simp⟩,fun a ha=>by
            rcases List.mem_append.mp ha with z|z
            · exact ex'.new a z
            · simp at z;subst z;exact .inr hH0,ex'.frame⟩
          obtain⟨ρ2,d2,hd2,e2,rs2,rd2,pn⟩:=p1 (.ref s2.heap.objs.size) H' (ρ'++[s2.heap.objs.size]) exA (rs.ext exA rh') (by
            simp only [rD,RD]
            refine⟨s2.heap.objs.size,?_,rfl⟩
            rw [← rh.len]
            simp)
          exact⟨_,H',I3,pn _ H' ρ2 Ext.refl ⟨rs2.hp,rs2.st.set i rd2⟩⟩
      · rw [if_neg hz] at p1;exact p1.elim
end
end Fm
set_option Elab.async false
set_option linter.all false
set_option maxRecDepth 100000
namespace Fm
open PySem PySem.Spec L2 PyProof.Rows
mutual
def rfs (k:Nat):D→Prop
  | .ref n=>n < k
  | .tup l=>gL k l
  | .lit l=>gL k l
  | .exn _ l=>gL k l
  | _=>True
def gL (k:Nat):List D→Prop
  | []=>True
  | x :: xs=>rfs k x∧gL k xs
end
section
variable {K:PySem.W.Frag} {ρ ρ' t:List Addr} {H H':Hp} {hd hd':Hd}
mutual
theorem RD.rfs:∀ {d:D} {v:V},RD K ρ H d v→Fm.rfs ρ.length d
  | .non,_,_=>by simp only [Fm.rfs]
  | .bl _,_,_=>by simp only [Fm.rfs]
  | .int _,_,_=>by simp only [Fm.rfs]
  | .str _,_,_=>by simp only [Fm.rfs]
  | .tup l,_,h=>by
    simp only [RD] at h;obtain⟨p,vs,_,_,h2⟩:=h
    simp only [Fm.rfs];exact RDs.rfs h2
  | .lit l,_,h=>by
    simp only [RD] at h;obtain⟨p,vs,_,_,h2⟩:=h
    simp only [Fm.rfs];exact RDs.rfs h2
  | .ref n,_,h=>by
    simp only [RD] at h;obtain⟨a,h1,_⟩:=h
    simp only [Fm.rfs];exact (List.getElem?_eq_some_iff.mp h1).1
  | .exn _ _,_,h=>by simp only [RD] at h;obtain⟨rfl,_⟩:=h;simp only [Fm.rfs,Fm.gL]
theorem RDs.rfs:∀ {l:List D} {vs:List V},RDs K ρ H l vs→Fm.gL ρ.length l
  | [],_,_=>by simp only [Fm.gL]
  | d :: ds,_,h=>by
    simp only [RDs] at h;obtain⟨v,r,_,h1,h2⟩:=h
    simp only [Fm.gL];exact⟨RD.rfs h1,RDs.rfs h2⟩
end
mutual
theorem RD.cut:∀ {d:D} {v:V},RD K (ρ ++ t) H d v→Fm.rfs ρ.length d→RD K ρ H d v
  | .non,_,h,_=>by simp only [RD] at h ⊢;exact h
  | .bl _,_,h,_=>by simp only [RD] at h ⊢;exact h
  | .int _,_,h,_=>by simp only [RD] at h ⊢;exact h
  | .str _,_,h,_=>by simp only [RD] at h ⊢;exact h
  | .tup l,_,h,q=>by
    simp only [RD] at h ⊢;simp only [Fm.rfs] at q
    obtain⟨p,vs,e,h1,h2⟩:=h
    exact⟨p,vs,e,h1,RDs.cut h2 q⟩
  | .lit l,_,h,q=>by
    simp only [RD] at h ⊢;simp only [Fm.rfs] at q
    obtain⟨p,vs,e,h1,h2⟩:=h
    exact⟨p,vs,e,h1,RDs.cut h2 q⟩
  | .ref n,_,h,q=>by
    simp only [RD] at h ⊢;simp only [Fm.rfs] at q
    obtain⟨a,h1,h2⟩:=h
    exact⟨a,by rwa [List.getElem?_append_left q] at h1,h2⟩
  | .exn _ _,_,h,_=>by simp only [RD] at h ⊢;exact h
theorem RDs.cut:∀ {l:List D} {vs:List V},RDs K (ρ ++ t) H l vs→Fm.gL ρ.length l→RDs K ρ H l vs
  | [],_,h,_=>by simp only [RDs] at h ⊢;exact h
  | d :: ds,_,h,q=>by
    simp only [RDs] at h ⊢;simp only [Fm.gL] at q
    obtain⟨v,r,e,h1,h2⟩:=h
    exact⟨v,r,e,RD.cut h1 q.1,RDs.cut h2 q.2⟩
end
mutual
theorem l4 {k:Nat}:∀ {d:D},pure? d=true→Fm.rfs k d
  | .non,_=>by simp only [Fm.rfs]
  | .bl _,_=>by simp only [Fm.rfs]
  | .int _,_=>by simp only [Fm.rfs]
  | .str _,_=>by simp only [Fm.rfs]
  | .tup l,h=>by simp only [pure?] at h;simp only [Fm.rfs];exact fG h
  | .lit l,h=>by simp only [pure?] at h;simp only [Fm.rfs];exact fG h
  | .exn _ l,h=>by simp only [pure?] at h;simp only [Fm.rfs];exact fG h
  | .ref _,h=>by simp only [pure?] at h;cases h
theorem fG {k:Nat}:∀ {l:List D},eT l=true→Fm.gL k l
  | [],_=>by simp only [Fm.gL]
  | x :: xs,h=>by
    simp only [eT,Bool.and_eq_true] at h
    simp only [Fm.gL];exact⟨l4 h.1,fG h.2⟩
end
def zA (k:Nat):eS→Prop
  | .lst l=>Fm.gL k l
  | .dct l=>Fm.gL k (l.map (·.2))
theorem RC.rfs {c:eS}{a:Addr}(h:RC K ρ H c a):zA ρ.length c:=by
  cases c with
  | lst l=>obtain⟨vs,_,h2⟩:=h;exact h2.rfs
  | dct l=>obtain⟨vs,_,_,h2⟩:=h;exact h2.rfs
theorem RC.cut {c:eS}{a:Addr}(h:RC K (ρ ++ t) H c a)(q:zA ρ.length c):RC K ρ H c a:=by
  cases c with
  | lst l=>obtain⟨vs,h1,h2⟩:=h;exact⟨vs,h1,h2.cut q⟩
  | dct l=>obtain⟨vs,h1,h2,h3⟩:=h;exact⟨vs,h1,h2,h3.cut q⟩
theorem qN {k:Nat}{c:eS}(h:gW c=true):zA k c:=by
  cases c with
  | lst l=>exact fG h
  | dct l =>
    have:∀ l:List (Int × D),(l.all fun p=>pure? p.2)=true→Fm.gL k (l.map (·.2)):=by
      intro l
      induction l with
      | nil=>intro _;simp only [List.map_nil,Fm.gL]
      | cons x l ih=>intro h;simp only [List.all_cons,Bool.and_eq_true] at h;simp only [List.map_cons,Fm.gL];exact⟨l4 h.1,ih h.2⟩
    exact this l h
theorem RH.back (r:RH K ρ H hd)(r':RH K (ρ ++ t) H' hd')(o:wR hd hd'):RH K ρ H' (hd'.take hd.length):=by
  have hl:(ρ ++ t).length=hd'.length:=r'.len
  refine⟨by rw [List.length_take,← hl,List.length_append,← r.len];omega,(List.nodup_append.mp r'.nd).1,fun n c a h1 h2 => ?_⟩
  have hn:n < hd.length:=by rw [← r.len];exact (List.getElem?_eq_some_iff.mp h2).1
  rw [List.getElem?_take_of_lt hn] at h1
  have q:=r'.cel n c a h1 (by rw [List.getElem?_append_left (by rw [r.len];exact hn)];exact h2)
  refine q.cut ?_
  rcases o n c hn h1 with z|z
  · exact (r.cel n c a z h2).rfs
  · exact qN z
def jg (K:PySem.W.Frag) (ρ:List Addr) (H:Hp) (r:Res D) (Q:VK):Prop:=match r with
  | .ok d hd'=>∀ v H' ρ',Ext ρ H ρ' H'→RH K ρ' H' hd'→RD K ρ' H' d v→Q v H'
  | _=>False
def spF (K:PySem.W.Frag) (F:Fn) (np:Nat):Sp:=fun vs H Q _=>∃ ρ hd ds,RH K ρ H hd∧RDs K ρ H ds vs∧ds.length=np∧jg K ρ H (F ds hd) Q
theorem Ext.short (e:Ext ρ H (ρ ++ t) H'):Ext ρ H ρ H':=⟨⟨[],by simp⟩,fun _ h=>.inl h,e.frame⟩
theorem jg.letGo {r:Res D}{Q:VK}(rh:RH K ρ H hd)(p:jg K ρ H (letGo hd r) Q):jg K ρ H r Q:=by
  cases r with
  | exc x h'=>exact p
  | bad=>exact p
  | ok d h' =>
    intro v H' ρ' ex rh' rd
    simp only [Fm.letGo] at p
    split at p
    · rename_i hc
      obtain⟨t,rfl⟩:=ex.pre
      exact p v H' ρ ex.short (rh.back rh' hc.2) (rd.cut (l4 hc.1))
    · exact p v H' ρ' ex rh' rd
theorem jg.runB {n:Nat}{b:SF}{ds:List D}{Q:VK}(p:jg K ρ H (runB n b ds hd) Q):bv K ρ H (b (ds.map some++List.replicate (n - ds.length) none) hd) { nx:=fun _ H'=>Q .non H',rt:=Q }:=by
  unfold Fm.runB at p
  cases e:b (ds.map some++List.replicate (n - ds.length) none) hd with
  | nx σ h'=>rw [e] at p;exact fun σ' H' ρ' ex rs=>p .non H' ρ' ex rs.hp (by simp only [RD])
  | rt d h'=>rw [e] at p;exact p
  | bk σ h'=>rw [e] at p;exact p.elim
  | ct σ h'=>rw [e] at p;exact p.elim
  | exc x σ h'=>rw [e] at p;exact p.elim
  | bad=>rw [e] at p;exact p.elim
theorem pV {N:List Str}{ds:List D}{vs:List V}(r:RDs K ρ H ds vs):RSt K ρ H (ds.map some++List.replicate (N.length - ds.length) none) (L2.gQ N vs):=by
  have hl:=r.length
  refine⟨by simp [L2.gQ,hl],fun i d e => ?_⟩
  simp only [slot] at e
  by_cases hi:i < ds.length
  · rw [List.getElem?_append_left (by simpa using hi)] at e
    simp only [List.getElem?_map,List.getElem?_eq_getElem hi,Option.map_some] at e
    cases e
    obtain⟨v,hv,q⟩:=r.get (i:=i) (d:=ds[i]) (by simp [hi])
    refine⟨v,?_,q⟩
    unfold L2.gQ
    rw [List.getElem?_append_left (by simp;omega)]
    simp [hv]
  · rw [List.getElem?_append_right (by simpa using Nat.le_of_not_lt hi)] at e
    simp only [List.getElem?_replicate] at e
    by_cases hq:i - (List.map some ds).length < N.length - ds.length
    · simp only [hq,if_true] at e;cases e
    · simp only [hq,if_false] at e;cases e
end
structure Def (P:Program) (w:World) (K:PySem.W.Frag) (mg:Str→Option Value) (base:Heap) (x:Str) (k np:Nat) (F:Fn):Prop where
  ex:∃ f fd ps,mg x=some (.ref f)∧PySem.W.keepIn K (.ref f)=true∧gy K fd ps []∧b5 P w K mg base CX0 k f fd ps (spF K F np)
section
variable {P:Program} {w:World} {K:PySem.W.Frag} {mg:Str→Option Value} {base:Heap}
theorem cI {x:Str}{st:Stmt}{f:Addr}{fd:FuncData}{N ps:List Str}{k:Nat}{b:SF}(F:Fun K x x st f fd)(S:a4 N ps (ak st))
    (body:∀ (cdv:Value) (A:Around) (outer:List Env) (s:Shared) (H:Hp) (E:XK),eC k (A.deeper (envOfC x (ak st) s.heap.objs.size f cdv))→MSs (kP CX0 P w K mg base N x (ak st) f cdv A outer s H E).nox (aX st) b) :
    b5 P w K mg base CX0 (k + 1) f fd ps (spF K (bz ps.length N.length b) ps.length):=by
  refine F.ok S (fun vs H Q E ⟨ρ,hd,ds,rh,rd,hl,p⟩=>by rw [← rd.length];exact hl) fun cdv A outer s H vs Q E hr ⟨ρ,hd,ds,rh,rd,hl,p⟩=>⟨_,body cdv A outer s H E hr,ρ,_,hd,⟨rh,pV rd⟩,?_⟩
  simp only [bz,hl,if_true] at p
  exact (jg.letGo rh p).runB
theorem Def.mk' {x:Str}{f:Addr}{fd:FuncData}{ps:List Str}{k np:Nat}{F:Fn}(hm:mg x=some (.ref f))(hk:PySem.W.keepIn K (.ref f)=true)(hb:gy K fd ps [])(h:b5 P w K mg base CX0 k f fd ps (spF K F np)):Def P w K mg base x k np F:=⟨f,fd,ps,hm,hk,hb,h⟩
end
section
variable {X:Cx} {pos p:Pos}
theorem aA {x:Str}{k np:Nat}{F:Fn}{e:Expr}{es:List Expr}{r:LF}(hd:Def X.prog X.w X.K X.mg X.base x k np F)(hr:eC k X.A)(hg:Gl X x)(ha:MA X (e :: es) r)(hnp:∀ ds h d h',F ds h=.ok d h'→ds.length=np)
    (hdb:(x == ("__debug__" : Str))=false:=by decide) (he:starEach (e :: es) X.env=(false,eval e X.env) :: starEach es X.env:=by rfl) (hpl:(backTo pos (starEach es X.env)).any (·.1)=false:=by rfl) :
    ME X (.Call (.Name x p) (e :: es) [] pos) (am F r):=by
  obtain⟨f,fd,ps,h1,h2,h3,h4⟩:=hd.ex
  refine PE.imp (wO h4 hr hg h1 h2 h3 .nil Ez ha hdb he hpl) fun σ H Q ⟨ρ,σd,hd,rs,pp⟩=>⟨ρ,σd,hd,rs,(bh.bind (R:=rDs X.K) pp).imp fun vs H1 ⟨ρ1,ds,hd1,e1,rs1,rv,p1⟩ => ?_⟩
  rw [List.append_nil]
  cases c:F ds hd1 with
  | exc z h'=>rw [c] at p1;exact p1.elim
  | bad=>rw [c] at p1;exact p1.elim
  | ok d hd2 =>
    rw [c] at p1
    refine⟨ρ1,hd1,ds,rs1.hp,rv,hnp _ _ _ _ c,?_⟩
    rw [c]
    exact fun v H' ρ' ex rh rd=>p1 v H' ρ' ex (rs1.ext ex rh) rd
theorem aB {np n:Nat}{b:SF}:∀ ds h d h',bz np n b ds h=.ok d h'→ds.length=np:=by
  intro ds h d h' e
  unfold bz at e
  split at e
  · assumption
  · cases e
end
theorem EG {l:PySem.W.OpenLaw}{q:Program}{loose:List Str}{XP:(Str→Option Value)→Heap→Prop}{YP:World→Heap→Prop}{d:DefRec}{K:Params→PySem.W.Frag}{F:Fn}{k:Nat}{x:Str}(hn:l.most=some 63)(hdf:d.params.defaults=[])(hr:eC k callerA)
    (hY:∀ (w:World) (h:Heap),YP w h→(K w.params).In h)
    (hF:∀ (w:World) (mg:Str→Option Value) (fa:Addr) (h:Heap),(K w.params).In h→h.Ns mainGlobals mg→mg d.name=some (.ref fa) →
      ∃ fd:FuncData,(∀ (s:Shared) (u:Value),BindsTo s fd ⟨[u],[]⟩ [(x,u)]) ∧ ∀ base:Heap,(K w.params).In base→base.Ns mainGlobals mg→b5 l.prog w (K w.params) mg base CX0 k fa fd [x] (spF (K w.params) F 1))
    (law:∀ ns:List Int,ns.length≤63 → ∃ h,F [.lit (ns.map .int)] []=.ok (.bl true) h) :
    PySem.W.WalkO q loose XP YP l.row.toRowW d [] (fun f vs=>PySem.call f vs):=by
  refine L2.A8 (n:=63) (k:=k) (x:=x) (CX:=fun _=>CX0) (sp:=fun w=>spF (K w.params) F 1) hn (by decide) hdf hr hY hF (fun w H a ns hl hO hS => ?_) fun _ _ _ _ _ z=>z
  obtain⟨h,e⟩:=law ns hl
  have hL:ku (K w.params) H a (ns.map V.int):=by
    rcases hS with (z|⟨o,z⟩)|z
    · rcases hO a with y|⟨o,xs,y⟩<;>(rw [z] at y;cases y)
    · exact .inl ⟨o,z⟩
    · exact .inr z
  have hI:RDs (K w.params) [] H (ns.map D.int) (ns.map V.int):=by
    clear hl hS e hL law
    induction ns with
    | nil=>exact RDs.nil
    | cons n ns ih=>exact RDs.cons (by simp only [RD]) ih
  refine⟨[],[],[.lit (ns.map .int)],⟨rfl,List.nodup_nil,fun n c a h1=>by simp at h1⟩,RDs.cons (by simp only [RD];exact⟨a,_,rfl,hL,hI⟩) RDs.nil,rfl,?_⟩
  rw [e]
  intro v H' ρ' ex rh rd
  simpa only [RD] using rd
end Fm
set_option Elab.async false
set_option linter.all false
set_option maxRecDepth 100000
namespace Fm
open PySem PySem.Spec L2
open PyProof.Rows (Subscript_ tail_any)
def tyS:Ty→String
  | .int => "int" | .bool => "bool" | .tuple => "tuple" | .list => "list" | .str => "str"
theorem ek (t:Ty):typeOf (.type (tyS t))=pure (.type "type"):=by
  cases t
  · exact F.isi_meta_int
  · exact F.isi_meta_bool
  · exact F.isi_meta_tuple
  · exact F.isi_meta_list
  · exact F.isi_meta_str
theorem Bf (t:Ty):isSubtype (.type "NoneType") (.type (tyS t))=pure false:=by cases t<;>(rw [isSubtype_type];kernel_rfl)
theorem Dk {t:Ty} (h:t ≠ .int):isSubtype (.type "int") (.type (tyS t))=pure false:=by cases t<;>first|exact absurd rfl h|(rw [isSubtype_type];kernel_rfl)
theorem Bg {t:Ty} (h:t ≠ .int) (h2:t ≠ .bool):isSubtype (.type "bool") (.type (tyS t))=pure false:=by cases t<;>first|exact absurd rfl h|exact absurd rfl h2|(rw [isSubtype_type];kernel_rfl)
theorem Dl {t:Ty} (h:t ≠ .str):isSubtype (.type "str") (.type (tyS t))=pure false:=by cases t<;>first|exact absurd rfl h|(rw [isSubtype_type];kernel_rfl)
theorem zB {t:Ty} (h:t ≠ .tuple):isSubtype (.type "tuple") (.type (tyS t))=pure false:=by cases t<;>first|exact absurd rfl h|(rw [isSubtype_type];kernel_rfl)
theorem wZ {t:Ty} (h:t ≠ .list):isSubtype (.type "list") (.type (tyS t))=pure false:=by cases t<;>first|exact absurd rfl h|(rw [isSubtype_type];kernel_rfl)
theorem Bh (t:Ty):isSubtype (.type "dict") (.type (tyS t))=pure false:=by cases t<;>(rw [isSubtype_type];kernel_rfl)
theorem ix (t:Ty):isSubtype (.type (tyS t)) (.type (tyS t))=pure true:=by cases t<;>(rw [isSubtype_type];kernel_rfl)
theorem tS:isSubtype (.type "bool") (.type (tyS .int))=pure true:=by rw [isSubtype_type];kernel_rfl
theorem kw {n:String}{t:Ty}(h:n≠tyS t):(Value.type n == Value.type (tyS t))=false:=by
  rw [beq_eq_false_iff_ne];intro e;cases e;exact h rfl
theorem vC {a b:Ty}(h:a≠b):(a == b)=false:=by cases a<;>cases b<;>first|rfl|exact absurd rfl h
section
variable {X:Cx} {pos p:Pos}
theorem Dm {pins:List (Addr × Obj)}{σ:St}{H:Hp}{s:Shared}{ρ:List Addr}{hd:Hd}{d:D}{v:V}{u:Value}{t:Ty}{b:Bool}{Q:Value→Shared→Prop}{E:Value→Shared→Prop}(I:Inv X pins σ H s)(rh:RH X.K ρ H hd)(rd:RD X.K ρ H d v)(r:bf v u)(e:lV hd t d=some b)
    (q:∀ s',Inv X pins σ H s'→Q (.bool b) s'):wpAny (model X.prog X.w) X.A (call (.builtin "isinstance") [u,.type (tyS t)]) Q E s:=by
  have q0:=q s I
  have q1:=q { s with toks:=s.toks + 1 } (I.tok _)
  have yes:∀ {n:String},s.TypeIs u n→isSubtype (.type n) (.type (tyS t))=pure true→Q (.bool true) s→wpAny (model X.prog X.w) X.A (call (.builtin "isinstance") [u,.type (tyS t)]) Q E s:=fun h1 h2 h3=>call_isinstance (isinstance_true (ek t) h2) ⟨h1,h3⟩
  cases d<;>simp only [RD] at rd<;>simp only [lV] at e
  · subst rd;cases r;cases e
    exact call_isinstance (isinstance_false_none (by cases t<;>exact kw (by decide)) (ek t) (Bf t)) q1
  · subst rd;cases r
    by_cases h1:t=.int
    · subst h1;cases e;exact yes (n := "bool") rfl tS q0
    · by_cases h2:t=.bool
      · subst h2;cases e;exact yes (n := "bool") rfl (ix .bool) q0
      · rw [vC h1,vC h2] at e;cases e
        exact call_isinstance (isinstance_false_bool (by cases t<;>first|exact absurd rfl h1|exact absurd rfl h2|exact kw (by decide)) (ek t) (Bg h1 h2)) q1
  · subst rd;obtain⟨tk,rfl⟩:=r
    by_cases h1:t=.int
    · subst h1;cases e;exact yes (n := "int") rfl (ix .int) q0
    · rw [vC h1] at e;cases e
      exact call_isinstance (isinstance_false_int (by cases t<;>first|exact absurd rfl h1|exact kw (by decide)) (ek t) (Dk h1)) q1
  · subst rd;obtain⟨tk,rfl⟩:=r
    by_cases h1:t=.str
    · subst h1;cases e;exact yes (n := "str") rfl (ix .str) q0
    · rw [vC h1] at e;cases e
      exact call_isinstance (isinstance_false_str (by cases t<;>first|exact absurd rfl h1|exact kw (by decide)) (ek t) (Dl h1)) q1
  · obtain⟨a,vs,rfl,ha,_⟩:=rd
    cases r
    obtain⟨its,_,o,ho,hc,_⟩:=fX I.hok ha
    by_cases h1:t=.tuple
    · subst h1;cases e;exact yes (n := "tuple") ⟨o,ho,hc⟩ (ix .tuple) q0
    · rw [vC h1] at e;cases e
      exact call_isinstance (isinstance_false_tuple (by cases t<;>first|exact absurd rfl h1|exact kw (by decide)) (ek t) (zB h1)) ⟨⟨o,ho,hc⟩,q1⟩
  · rename_i n
    obtain⟨a,ha,rfl⟩:=rd
    cases r
    cases c:hd[n]? with
    | none=>rw [c] at e;cases e
    | some cell =>
      rw [c] at e
      cases cell with
      | lst l =>
        obtain⟨vs,hv,_⟩:=rh.cel n _ a c ha
        obtain⟨z,its,k,_,ho⟩:=I.hok a _ hv
        by_cases h1:t=.list
        · subst h1;cases e;exact yes (n := "list") ⟨_,ho,rfl⟩ (ix .list) q0
        · simp only [vC h1] at e;cases e
          exact call_isinstance (isinstance_false_list (by cases t<;>first|exact absurd rfl h1|exact kw (by decide)) (ek t) (wZ h1)) ⟨⟨_,ho,rfl⟩,q1⟩
      | dct l =>
        obtain⟨vs,hv,_,_⟩:=rh.cel n _ a c ha
        obtain⟨_,_,_,_,o,_,_,ho,ex,_⟩:=I.hok a _ hv
        cases e
        exact call_isinstance (isinstance_false_dict (by cases t<;>exact kw (by decide)) (ek t) (Bh t)) ⟨⟨o,ho,ex.1⟩,q1⟩
  · obtain⟨a,vs,rfl,ha,_⟩:=rd
    cases r
    obtain⟨its,_,pl,_⟩:=I.list ha.sq
    obtain⟨o,ho,hc,_⟩:=pl.isList
    by_cases h1:t=.list
    · subst h1;cases e;exact yes (n := "list") ⟨o,ho,hc⟩ (ix .list) q0
    · simp only [vC h1] at e;cases e
      exact call_isinstance (isinstance_false_list (by cases t<;>first|exact absurd rfl h1|exact kw (by decide)) (ek t) (wZ h1)) ⟨⟨o,ho,hc⟩,q1⟩
  · cases e
def Ft (K:PySem.W.Frag) (t:Ty):List V→Hp→VK→Prop:=fun xs H Q=>∃ ρ hd d v b,xs=[v,.ty (tyS t)]∧RH K ρ H hd∧RD K ρ H d v∧lV hd t d=some b∧Q (.bl b) H
theorem zC (t:Ty):d9 X (.builtin "isinstance") (Ft X.K t):=by
  intro pins s σ H xs us Q I r h
  obtain⟨ρ,hd,d,v,b,rfl,rh,rd,e,q⟩:=h
  obtain⟨u,u2,rfl,ru,ru2⟩:=aL.two r
  cases (show u2=Value.type (tyS t) from ru2)
  exact Dm I rh rd ru e fun s' I'=>⟨.bl b,H,I',rfl,q⟩
theorem dN {t:Ty} {a:Expr} {fa:EF} {p2:Pos} {n:Str} (hg:Gl X "isinstance") (hm:X.mg "isinstance" = none) (hg2:Gl X n) (hm2:X.mg n=none) (hv:bootBuiltins n=some (.type (tyS t))) (ha:ME X a fa)
    (hs:starEach [a,.Name n p2] X.env=(false,eval a X.env) :: starEach [.Name n p2] X.env:=by rfl) (hs2:starEach [.Name n p2] X.env=(false,eval (.Name n p2) X.env) :: starEach [] X.env:=by rfl) (hn:n ≠ "__name__" := by decide) (hd:(n == ("__debug__" : Str))=false:=by decide) :
    ME X (.Call (.Name "isinstance" p) [a,.Name n p2] [] pos) (cC t fa):=by
  refine PE.imp (gR (zC t) hg hm (by decide +kernel) (bE ha (bE (wL (v:=.ty (tyS t)) hg2 hm2 hv rfl hn hd) df hs2) hs) (he:=hs)) fun σ H Q ⟨ρ,σd,hd,rs,pp⟩=>⟨ρ,σd,hd,rs,(bh.bind (R:=rD X.K) pp).imp fun v H1 ⟨ρ1,d,hd1,e1,rs1,rv,p1⟩ => ?_⟩
  cases c:lV hd1 t d with
  | none=>simp only [c] at p1;exact p1.elim
  | some b=>simp only [c] at p1;exact⟨ρ1,hd1,d,v,b,rfl,rs1.hp,rv,c,p1.here rs1 (by simp only [rD,RD])⟩
theorem bH:OpR X (binaryOp .Add) (fun x y H Q=>rI0 (fun i j=>.int (i + j)) x y H Q∨zd X.K x y H Q):=CW.or A5
theorem ck {K:PySem.W.Frag}:Og K cF (fun x y H Q=>rI0 (fun i j=>.int (i + j)) x y H Q∨zd K x y H Q):=by
  intro ρ H σd hd σ d k v w Q rs rv rw' pp
  cases d<;>try exact pp.elim
  · cases k<;>try exact pp.elim
    simp only [RD] at rv rw'
    exact .inl ⟨_,_,rv,rw',pp.here rs (by simp only [rD,RD])⟩
  · rename_i l
    cases l with
    | nil=>exact pp.elim
    | cons x xs =>
      cases k<;>try exact pp.elim
      rename_i ys
      simp only [cF] at pp
      split at pp
      · rename_i hz
        simp only [RD] at rv rw'
        obtain⟨a,vs,rfl,ha,rvs⟩:=rv
        obtain⟨b,ws,rfl,hb,rws⟩:=rw'
        refine .inr ⟨a,b,vs,ws,rfl,rfl,SqT.of ha,SqT.of hb,?_,?_,fun z => ?_,fun _ q hq => ?_⟩
        · intro z;subst z;have:=rvs.length;simp at this
        · rw [← rvs.length,← rws.length];exact qH hz
        · subst z
          have hy:ys=[]:=by have:=rws.length;simpa using this
          subst hy
          exact pp.here rs (by simp only [rD,RD];exact⟨a,vs,rfl,ha,by simpa using rvs⟩)
        · have sm:=bO (o:=HO.tup (vs++ws)) hq
          exact pp.at (Ext.same sm) (rs.same sm) (by simp only [rD,RD];exact⟨q,_,rfl,aV,(RDs.append rvs rws).mono (Kp.same sm)⟩)
      · exact pp.elim
theorem qO {a:Expr} {la:LF} (hg:Gl X "list") (hm:X.mg "list" = none) (ha:MQ X a la) (hs:starEach [a] X.env=(false,eval a X.env) :: starEach [] X.env:=by rfl):MF X (.Call (.Name "list" p) [a] [] pos) la:=by
  refine PE.imp (pO qC hg hm (by decide +kernel) (bE ha df hs) (he:=hs)) fun σ H Q ⟨ρ,σd,hd,rs,pp⟩=>⟨ρ,σd,hd,rs,?_⟩
  cases e:la σd hd with
  | exc x h'=>rw [e] at pp;exact pp
  | bad=>rw [e] at pp;exact pp
  | ok l hd1 =>
    rw [e] at pp
    intro v H1 ρ1 e1 rs1 ⟨q,vs,hv,sq,rvs⟩
    subst hv
    exact⟨q,vs,rfl,sq.imp id SqT.of,pp.mk e1 rs1 rvs⟩
def MO (X:Cx) (e:Option Expr) (f:OF):Prop:=PO X e (gX X.K rO f)
theorem kx:MO X none pNo:=fun pins s σ H Q I ⟨ρ,σd,hd,rs,pp⟩=>A3 pins s σ H Q I (pp.here rs rfl)
theorem ky {e:Expr}{f:EF}(h:ME X e f):MO X (some e) (pAt f):=fun pins s σ H Q I ⟨ρ,σd,hd,rs,pp⟩=>A4 h pins s σ H Q I ⟨ρ,σd,hd,rs,(bh.bind (R:=rD X.K) pp).imp fun v H1 ⟨ρ1,d,hd1,e1,rs1,rv,p1⟩=>by
  cases d<;>try exact p1.elim
  simp only [rD,RD] at rv
  exact⟨_,rv,p1.here rs1 rfl⟩⟩
theorem vD {o e:Expr} {fo fe:EF} {apos cpos:Pos} (ho:ME X o fo) (he:ME X e fe) (hbase:attributeBase o "append" X.env (eval o X.env)=eval o X.env:=by rfl)
    (hfew:((backTo cpos (starEach [e] X.env)).all (fun x => !x.1) && (backToKw cpos (keywordEach [] X.env)).all (fun x=>x.1.isSome)
      && decide (([e] : List Expr).length + ([] : List Keyword).length + (if ([] : List Keyword).isEmpty then 0 else 1) < 30))=true:=by rfl)
    (hline:(apos.endLine == cpos.line)=true:=by rfl) (hs:starEach [e] X.env=(false,eval e X.env) :: starEach [] X.env:=by rfl) :
    ME X (.Call (.Attribute o "append" apos) [e] [] cpos) (ny fo fe):=by
  refine PE.imp (zi PySem.F.plainAttrs_list PySem.F.slot_list_append PySem.F.type_list_append pR ho (bE he df hs) hbase hfew hline hs) fun σ H Q ⟨ρ,σd,hd,rs,pp⟩=>⟨ρ,σd,hd,rs,?_⟩
  unfold ny at pp
  refine (bh.bind (R:=rD X.K) pp).imp fun v H1 ⟨ρ1,d,hd1,e1,rs1,rv,p1⟩ => ?_
  cases d<;>try exact p1.elim
  rename_i n
  simp only [rD,RD] at rv
  obtain⟨a,ha,rfl⟩:=rv
  simp only at p1
  cases c1:hd1[n]? with
  | none=>rw [c1] at p1;exact p1.elim
  | some cell1 =>
    rw [c1] at p1
    cases cell1 with
    | dct l=>exact p1.elim
    | lst l1 =>
      obtain⟨vs,hv,_⟩:=rs1.hp.cel n _ a c1 ha
      simp only at p1
      refine⟨.inl ⟨rfl,vs,SqL.of hv⟩,ρ1,σd,hd1,rs1,(bh.bind (R:=rD X.K) p1).imp fun w H2 ⟨ρ2,k,hd2,e2,rs2,rw',p2⟩ => ?_⟩
      simp only [C8] at p2
      cases c:hd2[n]? with
      | none=>rw [c] at p2;exact p2.elim
      | some cell =>
        rw [c] at p2
        cases cell with
        | dct l=>exact p2.elim
        | lst l =>
          simp only at p2
          split at p2
          · rename_i hz
            have ha2:=e2.get ha
            obtain⟨vs2,hv2,rvs2⟩:=rs2.hp.cel n _ a c ha2
            refine⟨a,vs2,w,rfl,rfl,hv2,?_,?_⟩
            · rw [← rvs2.length];exact Nat.lt_of_lt_of_le hz (by rw [sizeLine_eq];decide)
            · have hn:n < hd2.length:=(List.getElem?_eq_some_iff.mp c).1
              have rh:=rs2.hp.write ha2 hn (RDs.append rvs2 (RDs.cons rw' RDs.nil))
              have ex:Ext ρ2 H2 ρ2 (upd H2 a (.lst (vs2++[w]))):=Ext.write (List.mem_of_getElem? ha2)
              exact p2.at ex (rs2.ext ex rh) (by simp only [rD,RD])
          · exact p2.elim
end
end Fm
set_option Elab.async false
set_option linter.all false
set_option maxRecDepth 100000
namespace Fm
open PySem PySem.Spec L2
open AutoSeq1 (wpAny_loadPart')
open PyProof.Rows (Call_)
theorem Bi {a b:String}(h:Value.type a=Value.type b)(n:a≠b):False:=by injection h with h;exact n h
theorem g9 (l:Addr)(items:Array Value)(n:Nat)(dct:Option Addr)(sl:Array (Option Value)) :
    Meets (Builtin.«enumerate.__new__» ⟨[.type "enumerate",.ref l],[]⟩) (fun _ R s=>s.heap.get? l=some { cls:=.type "tuple",dict:=dct,data:=.seq items n,slots:=sl } ∧
      R (.ok (.ret (.ref (s.heap.push { cls:=.type "tuple_iterator",data:=.fields #[.ref l,.int 0 0] }).objs.size)))
        { s with heap:=(s.heap.push { cls:=.type "tuple_iterator",data:=.fields #[.ref l,.int 0 0] }).push { cls:=.type "enumerate",data:=.fields #[.none,.bool false,.ref s.heap.objs.size,rawInt 0,.none,.none] } }) :=
  .of_wp fun prog w A R s h=>by
    obtain⟨hp,g,d,tk,os⟩:=s;obtain⟨hl,h⟩:=h
    have hsub:=sub_enumerate
    have hL:Heap.IsTuple (Shared.heap ⟨hp,g,d,tk,os⟩) l items:=⟨_,hl,rfl,n,rfl⟩
    wp_walk using wpAny_loadPart' hl
    refine wpAny_stack_any fun st=>wpAny_pure ?_
    split
    · rename_i c _ _ _ _ _
      cases (c == Value.type "enumerate")
      · wp_walk using wpAny_loadPart' hl,wpAny_pyIter_tuple hL
        exact⟨_,rfl,h⟩
      · wp_walk using wpAny_loadPart' hl,wpAny_pyIter_tuple hL
        exact⟨_,rfl,h⟩
    · wp_walk using wpAny_loadPart' hl,wpAny_pyIter_tuple hL
      exact⟨_,rfl,h⟩
section
variable {prog:Program} {w:World} {A:Around} {E:Value→Shared→Prop} {s:Shared}
theorem hJ {l:Addr}{items:Array Value}{Q:Value→Shared→Prop}(hL:s.heap.IsTuple l items)
    (h:∀ h',IsEnum h' (s.heap.objs.size + 1) s.heap.objs.size 0 .none→h'.IsTupleIter s.heap.objs.size l 0→h'.objs.size=s.heap.objs.size + 2 →
      (∀ b o,s.heap.get? b=some o→h'.get? b=some o)→Q (.ref (s.heap.objs.size + 1)) { s with heap:=h' }) :
    wpAny (model prog w) A (call (.type "enumerate") [.ref l]) Q E s:=by
  obtain⟨⟨c,dct,dt,sl⟩,hl,hc,n,hd⟩:=hL
  replace hc:c=.type "tuple" := hc
  replace hd:dt=.seq items n:=hd
  subst hc hd
  refine callType_new F.called_enumerate (by decide) (F.typeCall_enumerate_1 _) (F.newCall_enumerate_1 _) (fun obj=>F.args_object_init_2 obj _) F.entry_enumerate_new
    (g9 l items n dct sl) ⟨hl,?_⟩
  have hz:(s.heap.push { cls:=.type "tuple_iterator",data:=.fields #[.ref l,.int 0 0] }).objs.size=s.heap.objs.size + 1:=Heap.size_push ..
  show _∧_
  rw [hz]
  have he:IsEnum ((s.heap.push { cls:=.type "tuple_iterator",data:=.fields #[.ref l,.int 0 0] }).push
      { cls:=.type "enumerate",data:=.fields #[.none,.bool false,.ref s.heap.objs.size,rawInt 0,.none,.none] }) (s.heap.objs.size + 1) s.heap.objs.size 0 .none:=by
    have:=Heap.get?_push_size (s.heap.push { cls:=.type "tuple_iterator",data:=.fields #[.ref l,.int 0 0] })
      (o:={ cls:=.type "enumerate",data:=.fields #[.none,.bool false,.ref s.heap.objs.size,rawInt 0,.none,.none] }) rfl
    rw [hz] at this;exact this
  refine⟨⟨_,he,rfl⟩,h _ he ⟨_,Heap.get?_push_of_some _ (Heap.get?_push_size _ rfl),rfl,rfl⟩ (by rw [Heap.size_push,hz]) fun b o x=>Heap.get?_push_of_some _ (Heap.get?_push_of_some _ x)⟩
theorem jh {it l:Addr}{i:Nat}{items:Array Value}{x:Value}{Q:Value→Shared→Prop}(hit:s.heap.IsTupleIter it l i)
    (hl:s.heap.IsTuple l items) (hx:items[i]? = some x)
    (hQ:∀ h',h'.IsTupleIter it l (i + 1)→Heap.SameBut it s.heap h'→Q x { s with heap:=h' }) :
    wpAny (model prog w) A (Builtin.SmallTypes.nextOf (.ref it)) Q E s:=by
  obtain⟨o,ho,hc,hd⟩:=id hit
  obtain⟨ol,hol,_,nl,hdl⟩:=hl
  unfold Builtin.SmallTypes.nextOf
  refine wpAny_bind (wpAny_callSpecial?_slot (name:=Str.ofString "__next__") hit.typeIs F.slot_tuple_iterator_next
    (wpAny_call_entry F.slot_tuple_iterator_next hit.typeIs F.entry_tuple_iterator_next ?_ (F.args_tuple_iterator_next_1 _)))
  show wpAny _ _ (field (.ref it) 0 >>= _) _ _ s
  refine wpAny_bind (wpAny_field ho hd (x:=.ref l) rfl ?_)
  show wpAny _ _ (if (Value.ref l == Value.none)=true then _ else _) _ _ s
  rw [if_neg (show ¬ ((Value.ref l == Value.none)=true) from Bool.false_ne_true)]
  show wpAny _ _ (field (.ref it) 1 >>= _) _ _ s
  refine wpAny_bind (wpAny_field ho hd (x:=.int i 0) rfl ?_)
  show wpAny _ _ (seqItems? (.ref l) >>= _) _ _ s
  refine wpAny_bind (wpAny_seqItems hol hdl ?_)
  simp only [Int.toNat_natCast,hx]
  refine wpAny_bind (wpAny_setField ho hd (by simp) (wpAny_pure ⟨x,rfl,wpAny_pure (hQ _ ?_ (Heap.SameBut.update ..))⟩))
  exact⟨_,Heap.get?_update_self _ ho (Obj.isFreed_of_fields (Obj.data_mapFields hd _)),(Obj.cls_mapFields ..).trans hc,by
    rw [Obj.data_mapFields hd];simp [rawInt]⟩
theorem j4 {it l:Addr}{i:Nat}{items:Array Value}{Q:Value→Shared→Prop}(hh:A.handled=none)
    (hit:s.heap.IsTupleIter it l i) (hl:s.heap.IsTuple l items) (hx:items[i]? = none)
    (hE:∀ h' e,Heap.ExtBut it s.heap h'→(∃ o,h'.get? e=some o∧o.cls=.type "StopIteration")→E (.ref e) { s with heap:=h' }) :
    wpAny (model prog w) A (Builtin.SmallTypes.nextOf (.ref it)) Q E s:=by
  obtain⟨o,ho,hc,hd⟩:=id hit
  obtain⟨ol,hol,_,nl,hdl⟩:=hl
  unfold Builtin.SmallTypes.nextOf
  refine wpAny_bind (wpAny_callSpecial?_slot (name:=Str.ofString "__next__") hit.typeIs F.slot_tuple_iterator_next
    (wpAny_call_entry F.slot_tuple_iterator_next hit.typeIs F.entry_tuple_iterator_next ?_ (F.args_tuple_iterator_next_1 _)))
  show wpAny _ _ (field (.ref it) 0 >>= _) _ _ s
  refine wpAny_bind (wpAny_field ho hd (x:=.ref l) rfl ?_)
  show wpAny _ _ (if (Value.ref l == Value.none)=true then _ else _) _ _ s
  rw [if_neg (show ¬ ((Value.ref l == Value.none)=true) from Bool.false_ne_true)]
  show wpAny _ _ (field (.ref it) 1 >>= _) _ _ s
  refine wpAny_bind (wpAny_field ho hd (x:=.int i 0) rfl ?_)
  show wpAny _ _ (seqItems? (.ref l) >>= _) _ _ s
  refine wpAny_bind (wpAny_seqItems hol hdl ?_)
  simp only [Int.toNat_natCast,hx]
  refine wpAny_bind (wpAny_rule (wpAny_bind (wpAny_setField ho hd (by simp) ?_)))
  show wpAny _ _ (newExc (.type "StopIteration") [] >>= _) _ _ _
  refine wpAny_bind ?_
  simp only [newExc,newTuple]
  refine wpAny_bind (wpAny_newObj_type ?_ (by size_fits))
  refine wpAny_bind (m:=firstArgMember _ _) (wpAny_of_eq (a:=Value.none) (by first|rfl|(simp only [firstArgMember];rfl)) ?_)
  refine wpAny_newObj_type ?_ (by size_fits)
  simp only [raiseNew]
  refine wpAny_bind (wpAny_handled ?_)
  first|rw [show A.in1.handled=none from hh] | rw [hh]
  refine wpAny_bind (wpAny_pure (wpAny_throw ?_))
  exact hE _ _ (((Heap.SameBut.update ..).extBut.push _).push _) ⟨_,Heap.get?_push_size _ rfl,rfl⟩
end
theorem kz {prog:Program}{w:World}{A:Around}(hh:A.handled=none)(it l:Addr)(hne:l≠it)(items:Array Value) :
    Draws prog w A it [it,l] items.size (fun i v=>items[i]? = some v) (fun i h=>h.IsTupleIter it l i∧h.IsTuple l items) where
  live:=fun _ _ st=>let ⟨o,ho,_⟩:=st.1;⟨o,ho⟩
  frame:=fun _ _ _ st hk=>⟨st.1.at fun o e=>hk it (by simp) o e,let ⟨o,ho,r⟩:=st.2;⟨o,hk l (by simp) o ho,r⟩⟩
  item:=fun i s Q E hi st hQ=>by
    have hx:items[i]? = some items[i]:=by simp [hi]
    refine jh st.1 st.2 hx fun h' hit' hs' => ?_
    refine hQ _ h' s.toks hx ⟨hit',?_⟩ hs'
    obtain⟨o,ho,r⟩:=st.2
    exact⟨o,(hs'.2 l hne).trans ho,r⟩
  done:=fun s Q E st hE=>j4 hh st.1 st.2 (by simp) hE
def Ite (K:PySem.W.Frag) (a:Addr):It :=
  ⟨fun i H=>∃ xs x,SqT K H a xs∧xs[i]? = some x,fun i H x H'=>∃ q v,x=.ref q∧H q=none∧H'=upd H q (.tup [.int (i:Nat),v]) ∧ ∀ xs,SqT K H a xs→xs[i]? = some v,fun i H=>∃ xs,SqT K H a xs∧xs.length=i⟩
theorem xM {P:Program}{w:World}{K:PySem.W.Frag}{elts:List Expr}{k:Nat}{pos:Pos}(e it a:Addr):vj P w K (.Tuple elts k pos) (Ite K a) [e,it] e (fun i h=>(∃ old,IsEnum h e it (i:Nat) old)∧h.IsTupleIter it a i) where
  mem:=by simp
  obj:=fun i h st b hb=>by
    obtain⟨⟨old,he⟩,o,ho,hc,hd⟩:=st
    rcases List.mem_cons.mp hb with rfl|hb
    · exact⟨_,he,fun v z=>by
        have z':Data.fields _=Data.cell v:=z
        cases z'⟩
    · have:b=it:=by simpa using hb
      subst this
      exact⟨o,ho,fun v z=>by rw [hd] at z;cases z⟩
  keep:=fun i h h' st kk=>by
    obtain⟨⟨old,he⟩,st⟩:=st
    exact⟨⟨old,kk e (by simp) _ he⟩,st.at fun o x=>kk it (by simp) o x⟩
  item:=by
    intro X hP hw hK hc i pins s σ H E I hf st hg
    subst hP hw hK
    obtain⟨⟨old,he⟩,hit⟩:=st
    obtain⟨xs,x,hq,hx⟩:=hg
    obtain⟨its,rv,p,hz⟩:=I.tuple hq
    have ht:s.heap.IsTuple a its.toArray:=p
    obtain⟨oi,hoi,hci,hdi⟩:=id hit
    obtain⟨oa,hoa,hca,na,hda⟩:=id ht
    have hei:e≠it:=fun z=>by
      subst z
      have he':s.heap.get? e=_:=he
      rw [hoi] at he';cases he';exact Bi hci (by decide)
    have hea:e≠a:=fun z=>by
      subst z
      have he':s.heap.get? e=_:=he
      rw [hoa] at he';cases he';exact Bi hca (by decide)
    have hai:a≠it:=fun z=>by
      subst z
      rw [hoi] at hoa;cases hoa;rw [hci] at hca;exact Bi hca (by decide)
    obtain⟨e0,e1,e2,e3,e4,e5⟩:=hf e (by simp)
    obtain⟨f0,f1,f2,f3,f4,f5⟩:=hf it (by simp)
    have hlt:i < its.toArray.size:=by
      have:=(List.getElem?_eq_some_iff.mp hx).1
      have hl:=rv.length
      simp;omega
    refine wpAny_pyNext_enum_itemD (kz (prog:=X.prog) (w:=X.w) (A:=X.A.in1) (I.ok.hd hc) it a hai its.toArray) he ⟨hit,ht⟩ hlt hei (by simp;exact⟨hei,hea⟩) fun y h' tk hy heo hst' htup hsz hk => ?_
    refine⟨_,rfl,wpAny_letOwnedTupleGo_enum heo fun h2 he2 hs2 => ?_⟩
    replace hs2:Heap.SameBut e h' h2:=hs2
    obtain⟨u,hu,ru⟩:=rv.get hx
    have hyu:y=u:=by
      have:its.toArray[i]? = some u:=by simpa using hu
      rw [hy] at this;exact Option.some.inj this
    subst hyu
    have elt:e < s.heap.objs.size:=Heap.lt_size he
    have ilt:it < s.heap.objs.size:=Heap.lt_size hoi
    have hN:H s.heap.objs.size=none:=I.hok.fresh (Nat.le_refl _)
    have keep:∀ b o,b≠e→b≠it→s.heap.get? b=some o→h2.get? b=some o:=fun b o b1 b2 q=>(hs2.2 b b1).trans (hk b o b1 b2 q)
    have htup2:h2.get? s.heap.objs.size=some { cls:=.type "tuple",data:=.seq #[.int i tk,y] }:=(hs2.2 _ (Nat.ne_of_gt elt)).trans htup
    have nch:∀ b,b∉([e,it] : List Addr)→b≠e∧b≠it:=fun b hb=>by simpa using hb
    refine⟨.ref s.heap.objs.size,upd H s.heap.objs.size (.tup [.int (i:Nat),x]),?_,rfl,⟨_,x,rfl,hN,rfl,fun ys hys=>by rw [I.tuple_inj hys hq];exact hx⟩,⟨⟨_,by simpa using he2⟩,hst'.1.extBut hs2.extBut (Ne.symm hei)⟩,fun b hb => ?_⟩
    · suffices I2:L2.Inv X pins σ (upd H s.heap.objs.size (.tup [.int (i:Nat),x])) { s with heap:=h2,gens:=s.gens,drawn:=s.drawn,toks:=tk + 1 } from I2
      refine I.step (g':=s.gens) (d':=s.drawn) (t':=tk + 1) (ch:=[e,it]) (fun b hb => ?_) (fun b o _ _ hb q _=>keep b o (nch b hb).1 (nch b hb).2 q) (fun b o _ _ hb q _=>⟨o.slots,keep b o (nch b hb).1 (nch b hb).2 q⟩) (fun b o _ q n => ?_) (fun b o hb q=>⟨o,keep b o (nch b hb).1 (nch b hb).2 q⟩)
        (fun b ys q => ?_) (fun b o u q => ?_) (fun b ps q=>⟨#[],?_⟩) (fun m hm => ?_) (fun b u q => ?_) I.bare
      · rcases List.mem_cons.mp hb with rfl|hb
        · exact⟨e3,e1,e4,e5⟩
        · have:b=it:=by simpa using hb
          subst this
          exact⟨f3,f1,f4,f5⟩
      · rw [az (Nat.ne_of_lt (Heap.lt_size q))];exact n
      · rw [az (bg q hN)];exact q
      · rw [az (bg q hN)];exact q
      · rw [az (bg q hN),q];simp
      · obtain⟨o,es,ep,ho,r⟩:=hm
        exact⟨o,es,ep,keep _ o (Ne.symm e1) (Ne.symm f1) ho,r⟩
      · by_cases hb:b=s.heap.objs.size
        · subst hb
          rw [aV] at q
          cases q
          exact⟨by show 2≤sizeLine;rw [sizeLine_eq];decide,[.int i tk,y],.cons ⟨tk,rfl⟩ (.cons ru .nil),_,htup2,rfl,_,rfl⟩
        · rw [az hb] at q
          have ne1:∀ c v,H c=some v→c≠e:=fun c v z w=>by rw [w,e0] at z;cases z
          have ne2:∀ c v,H c=some v→c≠it:=fun c v z w=>by rw [w,f0] at z;cases z
          refine (I.hok b u q).stay (fun c v hc' z => ?_) (fun c z=>by rw [az (bg z hN)];exact z) fun c ys z=>by rw [az (bg z hN)];exact z
          rcases hc' with w|w
          · subst w;exact keep c v (ne1 c _ q) (ne2 c _ q) z
          · exact keep c v (ne1 c _ w) (ne2 c _ w) z
    · have:b≠s.heap.objs.size:=by
        rcases List.mem_cons.mp hb with rfl|hb
        · exact Nat.ne_of_lt elt
        · have:b=it:=by simpa using hb
          subst this
          exact Nat.ne_of_lt ilt
      rw [az this]
      exact (hf b hb).1
  done:=by
    intro X hP hw hK hc i pins s σ H E I hf st hg
    subst hP hw hK
    obtain⟨⟨old,he⟩,hit⟩:=st
    obtain⟨xs,hq,hx⟩:=hg
    obtain⟨its,rv,p,hz⟩:=I.tuple hq
    have ht:s.heap.IsTuple a its.toArray:=p
    obtain⟨oi,hoi,hci,hdi⟩:=id hit
    obtain⟨oa,hoa,hca,na,hda⟩:=id ht
    have hai:a≠it:=fun z=>by
      subst z
      rw [hoi] at hoa;cases hoa;rw [hci] at hca;exact Bi hca (by decide)
    obtain⟨f0,f1,f2,f3,f4,f5⟩:=hf it (by simp)
    have hsz:its.toArray.size=i:=by have:=rv.length;simp;omega
    refine wpAny_pyNext_enum_endD (kz (prog:=X.prog) (w:=X.w) (A:=X.A.in1) (I.ok.hd hc) it a hai its.toArray) he ⟨by rw [hsz];exact hit,ht⟩ fun h' hx'=>⟨rfl,I.turned (t':=s.toks) (fun b o hb e=>hx' b o hb e) f0 f1 f3 f4 f5⟩
  self:=fun _ _ _ _ _ st h=>by
    obtain⟨⟨old,he⟩,_⟩:=st
    exact wpAny_pyIter_enum he h
section
variable {X:Cx} {pos p tp:Pos} {elts:List Expr} {tk:Nat}
def iEn (K:PySem.W.Frag) (ta:TE):TI:=fun σ H R=>ta σ H fun x H1=>∃ a xs,x=.ref a∧SqT K H1 a xs∧(xs.length≤sizeLine→R (Ite K a) H1)
theorem Bj {a:Expr} {ta:TE} (hg:Gl X "enumerate") (hm:X.mg "enumerate" = none) (ha:PE X a ta) (hs:starEach [a] X.env=[(false,eval a X.env)]:=by rfl):PI X (.Tuple elts tk tp) (.Call (.Name "enumerate" p) [a] [] pos) (iEn X.K ta):=by
  intro pins s σ H R I h
  have hpa:=bE ha df hs
  refine Call_ (lJ I hg hm PyProof.Rows.boot_enumerate (PyProof.Rows.callWith_type1 (thn (hpa pos pins s σ H (fun vs H1=>∃ a xs,vs=[.ref a]∧SqT X.K H1 a xs∧(xs.length≤sizeLine→R (Ite X.K a) H1)) I ?_) fun us s1 ⟨vs,H1,I1,r1,q1⟩ => ?_) hs rfl))
  · show ta σ H fun x H1=>_
    have key:∀ (x:V) (H1:Hp),(∃ a xs,x=.ref a∧SqT X.K H1 a xs∧(xs.length≤sizeLine→R (Ite X.K a) H1))=(∃ a xs,[x] = [.ref a]∧SqT X.K H1 a xs∧(xs.length≤sizeLine→R (Ite X.K a) H1)):=fun x H1=>by simp
    have h':ta σ H fun x H1=>∃ a xs,x=.ref a∧SqT X.K H1 a xs∧(xs.length≤sizeLine→R (Ite X.K a) H1):=h
    simp only [key] at h'
    exact h'
  · obtain⟨a,xs,e,hq,q⟩:=q1
    subst e
    obtain⟨u,rfl,ru⟩:=aL.one r1
    cases (show u=Value.ref a from ru)
    obtain⟨its,rv,pt,hz⟩:=I1.tuple hq
    refine hJ (show s1.heap.IsTuple a its.toArray from pt) fun h' he hit hsz hk => ?_
    refine wpAny_pyIter_enum (s:={ s1 with heap:=h' }) he ?_
    have I2:Inv X pins σ H1 { s1 with heap:=h' }:=I1.kept (t':=s1.toks) hk
    refine⟨s1.heap.objs.size + 1,[s1.heap.objs.size + 1,s1.heap.objs.size],_,_,H1,rfl,I2,xM (s1.heap.objs.size + 1) s1.heap.objs.size a,⟨⟨_,by simpa using he⟩,hit⟩,fun b hb => ?_,q hz⟩
    have hb':s1.heap.objs.size≤b:=by
      rcases List.mem_cons.mp hb with e|hb
      · rw [e];exact Nat.le_succ _
      · have:b=s1.heap.objs.size:=by simpa using hb
        rw [this];exact Nat.le_refl _
    exact I1.fpOk hb' (I1.hok.fresh hb')
theorem xN {K:PySem.W.Frag}{ρ:List Addr}{H:Hp}{hd:Hd}{q:Addr}{l:List D}{vs:List V}(r:RH K ρ H hd)(hq:H q=some (.tup vs))(rv:RDs K ρ H l vs)(hz:vs.length≤sizeLine) :
    lZ K ρ H (Ite K q) ((List.range l.length).zip l |>.map fun p=>.tup [.int (p.1:Nat),p.2]) none where
  go:=fun ρ' H' hd' i d ex rh _ hi=>by
    have k:=r.kp ex
    obtain⟨hil,hi2⟩:=List.getElem?_eq_some_iff.mp hi
    have hl:i < l.length:=by simpa using hil
    have hd:d=.tup [.int (i:Nat),l[i]]:=by rw [← hi2];simp
    subst hd
    obtain⟨v,hv,rd⟩:=(rv.mono k).get (i:=i) (d:=l[i]) (by simp [hl])
    have sq:SqT K H' q vs:=SqT.of (k.tup q vs hq)
    refine⟨⟨vs,v,sq,hv⟩,fun x H2 y => ?_⟩
    obtain⟨q2,v2,rfl,hn,rfl,y⟩:=y
    have:=y vs sq
    rw [hv] at this
    cases this
    have sm:=bO (o:=HO.tup [.int (i:Nat),v]) hn
    refine⟨sm,?_⟩
    simp only [RD]
    exact⟨q2,_,rfl,aV,RDs.cons (by simp only [RD]) (RDs.cons (rd.mono (Kp.same sm)) RDs.nil)⟩
  stop:=fun ρ' H' hd' ex rh _=>⟨vs,SqT.of ((r.kp ex).tup q vs hq),by rw [← rv.length];simp⟩
  sz:=by
    have:=rv.length
    simp;omega
theorem Bk {a:Expr} {f:EF} (hg:Gl X "enumerate") (hm:X.mg "enumerate" = none) (ha:ME X a f) (hs:starEach [a] X.env=[(false,eval a X.env)]:=by rfl):MI X (.Tuple elts tk tp) (.Call (.Name "enumerate" p) [a] [] pos) (zn f):=by
  refine PI.imp (Bj hg hm ha hs) fun σ H R ⟨ρ,σd,hd,rs,pp⟩=>⟨ρ,σd,hd,rs,?_⟩
  unfold zn at pp
  cases e:f σd hd with
  | exc x h1=>rw [e] at pp;exact pp
  | bad=>rw [e] at pp;exact pp
  | ok d hd1 =>
    rw [e] at pp
    simp only [aI] at pp
    intro v H1 ρ1 ex1 rs1 rv
    cases d<;>try exact pp.elim
    rename_i l
    simp only [rD,RD] at rv
    obtain⟨q,vs,rfl,hq,rvs⟩:=rv
    exact⟨q,vs,rfl,SqT.of hq,fun hz=>pp _ H1 ρ1 ex1 rs1 (xN rs1.hp hq rvs hz)⟩
end
end Fm
set_option Elab.async false
set_option linter.all false
set_option maxRecDepth 100000
namespace Fm
open PySem PySem.Spec L2 PySem.W PyProof.Rows
section
variable {prog:Program} {w:World} {A:Around} {E:Value→Shared→Prop} {s:Shared}
theorem vE {a:Addr} {vs:List Value} {n:Nat} {P:PySem.Fin→Shared→Prop} (ho:s.heap.get? a=some (seqObj "list" vs.toArray n)) (h2:vs.length < 2)
    (h:P (.done (.ret .none)) { s with heap:=sortedHeap s.heap a vs vs.toArray }):wpAny (model prog w) A (Builtin.«list.sort» ⟨[.ref a],[]⟩) P E s:=by
  rw [list_sort_plain]
  have ha:a < s.heap.objs.size:=Heap.lt_size ho
  refine wpAny_bind (listItems_at ho rfl ?_)
  refine wpAny_bind (listUpdate_at ho rfl ?_)
  obtain⟨e1,ho1⟩ : ∃ e1,(s.heap.update a (Obj.mapSeq fun _ => #[])).get? a=some (seqObj "list" #[] e1):=⟨_,get?_update_seq ho (fun _ => #[])⟩
  refine wpAny_bind (seqEpoch_at ho1 rfl ?_)
  refine wpAny_bind (wpAny_newTuple ?_)
  refine wpAny_bind (wpAny_newList ?_)
  refine wpAny_holding ?_
  have ho6:(((s.heap.update a (Obj.mapSeq fun _ => #[])).push (seqObj "tuple" vs.toArray 0)).push (seqObj "list" #[] 0)).get? a=some (seqObj "list" #[] e1):=by
    rw [Heap.get?_push_ne _ _ _ (by rw [size_push',Heap.size_update];exact Nat.ne_of_lt (Nat.lt_succ_of_lt ha)),Heap.get?_push_ne _ _ _ (by rw [Heap.size_update];exact Nat.ne_of_lt ha)]
    exact ho1
  show wpAny (model prog w) A _ P E { s with heap:=((s.heap.update a (Obj.mapSeq fun _ => #[])).push (seqObj "tuple" vs.toArray 0)).push (seqObj "list" #[] 0) }
  dsimp only
  have hsz:vs.toArray.size=vs.length:=by simp
  have h2':vs.toArray.size < 2:=by rw [hsz];exact h2
  rw [if_pos h2',if_pos h2']
  refine wpAny_bind (wpAny_pure ?_)
  rw [StateT.run_pure]
  refine wpAny_bind (wpAny_pure ?_)
  dsimp only
  refine wpAny_bind (seqEpoch_at ho6 rfl ?_)
  refine wpAny_bind (listUpdate_at ho6 rfl ?_ (hsz2:=by rw [Array.size_map];show (pairsOf vs).size≤_;rw [pairsOf_size,sizeLine_eq];omega))
  simp only [bne_self_eq_false,Bool.false_eq_true,if_false]
  have e:(arrOf (SortSt.mk' general' (vs.toArray.zip vs.toArray) #[] 7 none)).map (·.2)=vs.toArray:=by
    show (vs.toArray.zip vs.toArray).map (·.2)=vs.toArray
    apply Array.ext
    · simp
    · intro i h1 h2
      simp
  refine wpAny_pure ?_
  have h':=h
  unfold sortedHeap at h'
  rw [e]
  exact h'
theorem Dn {Q:Bool→Shared→Prop}:∀ (ns ms:List Int) {xs ys:List Value} (i:Nat),IntsAre xs ns→IntsAre ys ms→Q (Fm.bJ ns ms) s→KatLex prog w A true (decide (xs.length < ys.length)) Q (xs.zip ys) i s:=by
  intro ns
  induction ns with
  | nil =>
    intro ms xs ys i hx hy h
    cases hx
    cases ms with
    | nil=>cases hy;exact h
    | cons m ms =>
      cases hy
      have h':Q true s:=h
      exact h'
  | cons n ns ih =>
    intro ms xs ys i hx hy h
    cases hx with
    | cons _ t r =>
      cases ms with
      | nil =>
        cases hy
        have h':Q false s:=h
        exact h'
      | cons m ms =>
        cases hy with
        | cons _ t' r' =>
          rename_i xs ys
          refine kat_cons (SeqAt.EqAt.int_int n t m t' prog w _ _ ?_)
          by_cases e:n=m
          · subst e
            rw [show (n == n)=true by simp]
            refine kat_yes ?_
            have h':Q (Fm.bJ ns ms) s:=by simpa [Fm.bJ] using h
            have:=ih ms (i + 1) r r' h'
            have e2:decide ((Value.int n t :: xs).length < (Value.int n t' :: ys).length)=decide (xs.length < ys.length):=by simp
            rw [e2]
            exact this
          · rw [show (n == m)=false by simpa using e]
            refine kat_no ?_
            have h':Q (decide (n < m)) s:=by simpa [Fm.bJ,e] using h
            cases i with
            | zero=>exact oneLt_int h'
            | succ i =>
              have:(true && (i + 1 == 0))=false:=by simp
              rw [this]
              exact kat_one _ _ (lt_int (by first|exact⟨_,rfl,h'⟩|exact h'))
end
theorem Do {h:Heap}{a:Addr}{m m':Str→Option Value}(x:h.Ns a m)(y:h.Ns a m'):m=m':=by
  obtain⟨o,es,ep,ho,hd,_,r⟩:=x
  obtain⟨o',es',ep',ho',hd',_,r'⟩:=y
  rw [ho] at ho';cases ho'
  rw [hd] at hd';cases hd'
  funext z
  rw [← r z,← r' z]
inductive b4 (H:Hp):List V→List (List Int)→Prop
  | nil:b4 H [] []
  | cons {a:Addr} {r:List Int} {vs:List V} {rs:List (List Int)}:H a=some (.tup (r.map V.int))→b4 H vs rs→b4 H (.ref a :: vs) (r :: rs)
theorem b4.get {H:Hp}:∀ {vs:List V} {rs:List (List Int)} {i:Nat} {v:V},b4 H vs rs→vs[i]? = some v → ∃ a,v=.ref a∧H a=some (.tup ((rs.getD i []).map V.int))
  | _,_,_,_,.nil,e=>by simp at e
  | _,_,0,_,.cons h t,e=>by simp at e;subst e;exact⟨_,rfl,h⟩
  | _,_,i + 1,v,.cons h t,e=>by
    obtain⟨a,h1,h2⟩:=b4.get (i:=i) (v:=v) t (by simpa using e)
    exact⟨a,h1,by simpa using h2⟩
theorem b4.length {H:Hp}:∀ {vs:List V} {rs:List (List Int)},b4 H vs rs→vs.length=rs.length
  | _,_,.nil=>rfl
  | _,_,.cons _ t=>by simp [b4.length t]
section
variable {X:Cx} {pos p:Pos}
theorem qP {i:Int}{u:Value}(r:bf (.int i) u):∃ t,u=.int i t:=r
end
end Fm
set_option Elab.async false
set_option linter.all false
set_option maxRecDepth 100000
namespace Fm
open PySem PySem.Spec L2
section
variable {X:Cx}
theorem mv (i:Nat) {x:Str} {pos:Pos} (hN:X.N[i]? = some x:=by rfl) (hv:Vis X.env.scope x:=by first|exact Or.inl rfl|exact Or.inr (Or.inl rfl)|exact Or.inr (Or.inr rfl)) (hd:(x == ("__debug__" : Str))=false:=by decide)
    (hcd:(x == ("__classdict__" : Str))=false:=by decide):ME X (.Name x pos) (aa i):=C9 hN hv hd hcd
end
theorem d7 {k:Nat}{A:Around}(r:eC k A):A.units + 24 < cLine:=by have:=r.un;omega
def aQ (X:Cx):List (Str × NameKind)→Prop
  | []=>True
  | y :: r=>(y.2=.free→X.env.kindOf y.1=some .cell∨X.env.kindOf y.1=some .free)∧aQ X r
def bU (X:Cx) (scope:Scope):List Str→List Nat→Prop
  | [],[]=>True
  | x :: xs,i :: is=>(X.N[i]? = some x∧scope.names.lookup x=some .free)∧bU X scope xs is
  | _,_=>False
theorem aQ.get {X:Cx}:∀ {l:List (Str × NameKind)},aQ X l → ∀ y∈l,y.2=.free→X.env.kindOf y.1=some .cell∨X.env.kindOf y.1=some .free
  | [],_,y,hy=>by simp at hy
  | z :: r,h,y,hy=>by
    rcases List.mem_cons.mp hy with rfl|hy
    · exact h.1
    · exact aQ.get h.2 y hy
theorem bU.get {X:Cx}{scope:Scope}:∀ {capn:List Str} {caps:List Nat},bU X scope capn caps→(∀ (j:Nat) x,capn[j]? = some x → ∃ i,caps[j]? = some i∧X.N[i]? = some x∧scope.names.lookup x=some .free)∧capn.length=caps.length
  | [],[],_=>⟨fun j x e=>by simp at e,rfl⟩
  | x :: xs,i :: is,h=>by
    obtain⟨h1,h2⟩:=bU.get h.2
    refine⟨fun j y e => ?_,by simp [h2]⟩
    cases j with
    | zero=>simp at e;subst e;exact⟨i,rfl,h.1⟩
    | succ j=>exact h1 j y (by simpa using e)
  | [],_ :: _,h=>h.elim
  | _ :: _,[],h=>h.elim
theorem aQ.nil {X:Cx}:aQ X []:=trivial
theorem aQ.cons {X:Cx}{y:Str × NameKind}{r:List (Str × NameKind)}(h:y.2=.free→X.env.kindOf y.1=some .cell∨X.env.kindOf y.1=some .free)(t:aQ X r):aQ X (y :: r):=⟨h,t⟩
theorem bU.nil {X:Cx}{scope:Scope}:bU X scope [] []:=trivial
theorem bU.cons {X:Cx}{scope:Scope}{x:Str}{xs:List Str}{i:Nat}{is:List Nat}(h1:X.N[i]? = some x)(h2:scope.names.lookup x=some .free)(t:bU X scope xs is):bU X scope (x :: xs) (i :: is):=⟨⟨h1,h2⟩,t⟩
theorem bG.mk' {X:Cx}{scope:Scope}{own capn:List Str}{caps:List Nat}(k:scope.kind=.function)(c:∀ y∈scope.names,y.2 ≠ .cell)(n:∀ y∈scope.names,y.2=.local→scope.names.lookup y.1=some .local)(f:aQ X scope.names)(cp:bU X scope capn caps):bG X scope own capn caps :=
  ⟨k,c,n,f.get,cp.get.1,cp.get.2⟩
end Fm
set_option Elab.async false
set_option linter.all false
set_option maxRecDepth 100000
namespace Fm
open PySem PySem.Spec L2
section
variable {K:PySem.W.Frag} {ρ:List Addr} {H:Hp}
theorem tT {d:D}{v:V}(h:RD K ρ H d v)(f:dR d=true):iG v=true:=by
  cases d<;>simp only [RD] at h<;>first|(subst h;rfl)|(simp [dR] at f)
theorem eqS {x y:List Nat}:(x == y)=(toS x == toS y):=by
  by_cases z:x=y
  · subst z;rw [beq_self_eq_true,beq_self_eq_true]
  · have : ¬ toS x=toS y:=fun q=>z (by have:=congrArg (fun (s:Str)=>s.cps.toList) q;simpa [toS] using this)
    rw [beq_eq_false_iff_ne.mpr z,beq_eq_false_iff_ne.mpr this]
theorem Bl {d k:D}{v w:V}(h:RD K ρ H d v)(g:RD K ρ H k w)(f:dR d=true)(f2:dR k=true):eqF d k=eqV v w:=by
  cases d with
  | non=>simp only [RD] at h;subst h;cases k<;>simp only [RD] at g<;>first|(subst g;rfl)|(simp [dR] at f2)
  | bl a=>simp only [RD] at h;subst h;cases k<;>simp only [RD] at g<;>first|(subst g;rfl)|(simp [dR] at f2)
  | int a=>simp only [RD] at h;subst h;cases k<;>simp only [RD] at g<;>first|(subst g;rfl)|(simp [dR] at f2)
  | str a=>simp only [RD] at h;subst h;cases k<;>simp only [RD] at g<;>first|(subst g;rfl)|(subst g;exact eqS)|(simp [dR] at f2)
  | tup l=>simp [dR] at f
  | ref n=>simp [dR] at f
  | lit l=>simp [dR] at f
  | exn c l=>simp [dR] at f
theorem pW:∀ {l:List D} {vs:List V},RDs K ρ H l vs→l.all dR=true→vs.all iG=true
  | [],_,h,_=>by simp only [RDs] at h;subst h;rfl
  | d :: l,_,h,f=>by
    simp only [RDs] at h
    obtain⟨v,r,rfl,h1,h2⟩:=h
    simp only [List.all_cons,Bool.and_eq_true] at f ⊢
    exact⟨tT h1 f.1,pW h2 f.2⟩
theorem w4 {k:D}{w:V}(g:RD K ρ H k w)(fk:dR k=true):∀ {l:List D} {vs:List V},RDs K ρ H l vs→l.all dR=true→(l.any fun z=>eqF z k)=vs.any fun z=>eqV z w
  | [],_,h,_=>by simp only [RDs] at h;subst h;rfl
  | d :: l,_,h,f=>by
    simp only [RDs] at h
    obtain⟨v,r,rfl,h1,h2⟩:=h
    simp only [List.all_cons,Bool.and_eq_true] at f
    rw [List.any_cons,List.any_cons,Bl h1 g f.1 fk,w4 g fk h2 f.2]
end
section
variable {X:Cx} {pos:Pos}
theorem Bm {K:PySem.W.Frag}{neg:Bool}{ρ:List Addr}{H:Hp}{σd:Sd}{hd:Hd}{σ:St}{d k:D}{v w:V}{Q:VK}{b:Bool}(rs:RS K ρ H σd hd σ)(rv:RD K ρ H d v)(rw':RD K ρ H k w)(e:inL hd d k=some b)
    (q:Q (.bl (if neg then !b else b)) H):rIn K neg v w H Q:=by
  simp only [inL] at e
  cases c:gz hd k with
  | none=>rw [c] at e;cases e
  | some l =>
    rw [c] at e
    simp only at e
    split at e
    · rename_i hf
      cases e
      rw [Bool.and_eq_true] at hf
      obtain⟨p,vs,rfl,sq,rvs⟩:=qI rs.hp rw' c
      refine⟨p,vs,rfl,sq.imp id SqT.of,tT rv hf.1,pW rvs hf.2,?_⟩
      unfold inV
      rw [← w4 rv hf.1 rvs hf.2]
      exact q
    · cases e
theorem Cm {K:PySem.W.Frag}:Og K oIn (rIn K false):=by
  intro ρ H σd hd σ d k v w Q rs rv rw' p
  unfold oIn at p
  cases e:inL hd d k with
  | none=>rw [e] at p;exact p.elim
  | some b=>rw [e] at p;exact Bm rs rv rw' e (p.here rs (by simp only [rD,RD];rfl))
theorem Bn {i:Int}{j:Nat}{p2:Pos}:ME X (.UnaryOp .USub (.Constant (.int i) j p2) pos) (fC (.int (-i))) :=
  PE.imp (El CY yX) fun σ H Q ⟨ρ,σd,hd,rs,p⟩=>⟨i,rfl,p.here rs (by simp only [rD,RD])⟩
end
end Fm
set_option Elab.async false
set_option linter.all false
set_option maxRecDepth 100000
namespace Fm
open PySem PySem.Spec L2 PySem.W PyProof.Rows
theorem Dp {l r:Nat}(h:l < r):l≤(l + r) / 2∧(l + r) / 2 < r:=by omega
section
variable {cmp:Nat→Nat→(Bool→Shared→Prop)→Shared→Prop} {n:Nat} {s:Shared} {lt:Nat→Nat→Bool}
structure Ord (lt:Nat→Nat→Bool) (n:Nat):Prop where
  asy:∀ i j,i < n→j < n→lt i j=true→lt j i=false
  tr:∀ i j k,i < n→j < n→k < n→lt i j=true→lt j k=true→lt i k=true
  tot:∀ i j,i < n→j < n→i≠j→lt i j=false→lt j i=true
structure Gd (n:Nat) (p:Array Nat):Prop where
  sz:p.size=n
  pm:p.Perm (List.toArray (List.range n))
theorem Gd.below (g:Gd n p){i:Nat}(hi:i < n):p.getD i 0 < n:=by
  have h1:i < p.size:=by rw [g.sz];exact hi
  have e:p.getD i 0=p[i]:=by simp [Array.getD,h1]
  rw [e]
  have m:p[i]∈p.toList:=by simp
  have:=(Array.perm_iff_toList_perm.mp g.pm).mem_iff.mp m
  simpa using this
theorem Gd.ne (g:Gd n p){i j:Nat}(hi:i < n)(hj:j < n)(h:i≠j):p.getD i 0≠p.getD j 0:=by
  have h1:i < p.size:=by rw [g.sz];exact hi
  have h2:j < p.size:=by rw [g.sz];exact hj
  have e:p.getD i 0=p[i]:=by simp [Array.getD,h1]
  have e':p.getD j 0=p[j]:=by simp [Array.getD,h2]
  rw [e,e']
  have nd:p.toList.Nodup:=(Array.perm_iff_toList_perm.mp g.pm).nodup_iff.mpr (by simpa using List.nodup_range)
  intro z
  have:=(List.getElem_inj (xs:=p.toList) nd (i:=i) (j:=j) (h₀ := by simpa using h1) (h₁ := by simpa using h2)).mp (by simpa using z)
  exact h this
def Srt (lt:Nat→Nat→Bool) (p:Array Nat) (m:Nat):Prop:=∀ i j,i < j→j < m→lt (p.getD i 0) (p.getD j 0)=true
def Dsc (lt:Nat→Nat→Bool) (p:Array Nat) (m:Nat):Prop:=∀ i j,i < j→j < m→lt (p.getD j 0) (p.getD i 0)=true
theorem eK:Gd n (List.toArray (List.range n)):=⟨by simp,Array.Perm.refl _⟩
theorem Srt.next {p:Array Nat}{m:Nat}(O:Ord lt n)(g:Gd n p)(h:Srt lt p m)(h1:1≤m)(hm:m < n)(c:lt (p.getD (m - 1) 0) (p.getD m 0)=true):Srt lt p (m + 1):=by
  intro i j hij hj
  by_cases e:j < m
  · exact h i j hij e
  · have:j=m:=by omega
    subst this
    by_cases e2:i=j - 1
    · subst e2;exact c
    · exact O.tr _ _ _ (g.below (by omega)) (g.below (by omega)) (g.below hm) (h i (j - 1) (by omega) (by omega)) c
theorem Dsc.next {p:Array Nat}{m:Nat}(O:Ord lt n)(g:Gd n p)(h:Dsc lt p m)(h1:1≤m)(hm:m < n)(c:lt (p.getD m 0) (p.getD (m - 1) 0)=true):Dsc lt p (m + 1):=by
  intro i j hij hj
  by_cases e:j < m
  · exact h i j hij e
  · have:j=m:=by omega
    subst this
    by_cases e2:i=j - 1
    · subst e2;exact c
    · exact O.tr _ _ _ (g.below hm) (g.below (by omega)) (g.below (by omega)) c (h i (j - 1) (by omega) (by omega))
variable (O:Ord lt n) (hc:∀ i j,i < n→j < n → ∀ C:Bool→Shared→Prop,C (lt i j) s→cmp i j C s)
include O hc
theorem iZ {p:Array Nat}(g:Gd n p){Q:Nat→Shared→Prop}(q:∀ m,1≤m→m≤n→Srt lt p m→(m < n→lt (p.getD m 0) (p.getD (m - 1) 0)=true)→Q m s) :
    ∀ (f m:Nat),1≤m→m + f=n→Srt lt p m→(kas_asc p f m).kasWp cmp Q s
  | 0,m,h1,e,h=>q m h1 (by omega) h fun z=>by omega
  | f + 1,m,h1,e,h=>by
    refine hc _ _ (g.below (by omega)) (g.below (by omega)) _ ?_
    cases c:lt (p.getD m 0) (p.getD (m - 1) 0) with
    | true=>((try dsimp only);(try rw [if_pos rfl]));exact q m h1 (by omega) h fun _=>c
    | false =>
      ((try dsimp only);(try rw [if_neg Bool.false_ne_true]))
      have c':=O.tot _ _ (g.below (by omega)) (g.below (by omega)) (g.ne (i:=m) (j:=m - 1) (by omega) (by omega) (by omega)) c
      exact iZ g q f (m + 1) (by omega) (by omega) (h.next O g h1 (by omega) c')
theorem kA {p:Array Nat}(g:Gd n p){Q:Array Nat × Nat × Nat→Shared→Prop}(q:∀ m,1≤m→m≤n→Dsc lt p m→Q (p,m,0) s) :
    ∀ (f m:Nat),1≤m→m + f=n→Dsc lt p m→(kas_desc f p m 0).kasWp cmp Q s
  | 0,m,h1,e,h=>q m h1 (by omega) h
  | f + 1,m,h1,e,h=>by
    refine hc _ _ (g.below (by omega)) (g.below (by omega)) _ ?_
    cases c:lt (p.getD m 0) (p.getD (m - 1) 0) with
    | true =>
      ((try dsimp only);(try rw [if_pos rfl]));(try rw [if_neg (by omega)])
      exact kA g q f (m + 1) (by omega) (by omega) (h.next O g h1 (by omega) c)
    | false =>
      ((try dsimp only);(try rw [if_neg Bool.false_ne_true]))
      have c':=O.tot _ _ (g.below (by omega)) (g.below (by omega)) (g.ne (i:=m) (j:=m - 1) (by omega) (by omega) (by omega)) c
      refine hc _ _ (g.below (by omega)) (g.below (by omega)) _ ?_
      rw [c'];((try dsimp only);(try rw [if_pos rfl]))
      exact q m h1 (by omega) h
omit hc in
theorem Dq {p:Array Nat}(g:Gd n p){m:Nat}(hm:m≤n)(h:Dsc lt p m):Gd n (kas_rev p 0 m)∧Srt lt (kas_rev p 0 m) m:=by
  have at':∀ k,k < m→(kas_rev p 0 m).getD k 0=p.getD (m - 1 - k) 0:=fun k hk=>by
    have e:=getElem?_mirror_all (xs:=p) (i:=0) (j:=m) (by rw [g.sz];exact hm) k
    rw [if_pos ⟨Nat.zero_le _,hk⟩] at e
    unfold kas_rev
    rw [Array.getD_eq_getD_getElem?,Array.getD_eq_getD_getElem?,e,Nat.zero_add]
  refine⟨⟨by unfold kas_rev;rw [mirror_size,g.sz],(mirror_perm _ _ _ _).trans g.pm⟩,fun i j hij hj => ?_⟩
  rw [at' i (by omega),at' j hj]
  exact h _ _ (by omega) (by omega)
theorem qQ (h2:2≤n){Q:Nat × Array Nat→Shared→Prop}(q:∀ m p,Gd n p→1≤m→m≤n→Srt lt p m→Q (m,p) s):(kas_count n (List.toArray (List.range n))).kasWp cmp Q s:=by
  unfold kas_count
  rw [KasT.kasWp_bind]
  refine iZ O hc eK (fun m h1 hm hs hd => ?_) (n - 1) 1 (Nat.le_refl _) (by omega) (fun i j hij hj=>by omega)
  by_cases e:m=n
  · subst e
    rw [if_pos (by simp)]
    exact q m _ eK h1 (Nat.le_refl _) hs
  · rw [if_neg (by simpa using e)]
    by_cases e1:m > 1
    · rw [if_pos e1]
      refine hc _ _ (eK.below (by omega)) (eK.below (by omega)) _ ?_
      have:=hs 0 (m - 1) (by omega) (by omega)
      rw [this];((try dsimp only);(try rw [if_pos rfl]))
      exact q m _ eK h1 hm hs
    · rw [if_neg e1]
      have:m=1:=by omega
      subst this
      have c:=hd (by omega)
      unfold kas_descPart
      rw [KasT.kasWp_bind]
      refine kA O hc eK (fun m h1 hm hs => ?_) (n - 2) 2 (by omega) (by omega) (fun i j hij hj => ?_)
      · rw [if_neg (by simp)]
        unfold kas_tail3
        rw [KasT.kasWp_bind]
        obtain⟨g',s'⟩:=Dq O eK hm hs
        exact iZ O hc g' (fun m' h1' hm' hs' _=>q m' _ g' h1' hm' hs') (n - m) m h1 (by omega) s'
      · have hi:i=0:=by omega
        have hj:j=1:=by omega
        subst hi hj
        exact c
theorem fY {p:Array Nat}(g:Gd n p){k:Nat}(hk:k < n)(hs:Srt lt p k){Q:Nat→Shared→Prop}(q:∀ l,l≤k→(∀ i,i < l→lt (p.getD i 0) (p.getD k 0)=true)→(∀ i,l≤i→i < k→lt (p.getD k 0) (p.getD i 0)=true)→Q l s) :
    ∀ (f l r:Nat),r - l≤f→l≤r→r≤k→(∀ i,i < l→lt (p.getD i 0) (p.getD k 0)=true)→(∀ i,r≤i→i < k→lt (p.getD k 0) (p.getD i 0)=true)→(kas_place p k f l r).kasWp cmp Q s
  | 0,l,r,hf,hl,hr,a,b=>q l (Nat.le_trans hl hr) a fun i h1 h2=>b i (Nat.le_trans (Nat.le_of_sub_eq_zero (Nat.le_zero.mp hf)) h1) h2
  | f + 1,l,r,hf,hl,hr,a,b=>by
    unfold kas_place
    by_cases e:l ≥ r
    · rw [if_pos e]
      exact q l (Nat.le_trans hl hr) a fun i h1 h2=>b i (Nat.le_trans e h1) h2
    · rw [if_neg e]
      have lr:l < r:=Nat.not_le.mp e
      have hh:=Dp lr
      generalize (l + r) / 2=M at hh
      have hm:M < k:=Nat.lt_of_lt_of_le hh.2 hr
      have hMn:M < n:=Nat.lt_trans hm hk
      refine hc _ _ (g.below hk) (g.below hMn) _ ?_
      cases c:lt (p.getD k 0) (p.getD M 0) with
      | true =>
        ((try dsimp only);(try rw [if_pos rfl]))
        refine fY g hk hs q f l M (Nat.le_of_lt_succ (Nat.lt_of_lt_of_le (Nat.sub_lt_sub_right hh.1 hh.2) hf)) hh.1 (Nat.le_of_lt hm) a fun i h1 h2 => ?_
        by_cases z:i=M
        · subst z;exact c
        · exact O.tr _ _ _ (g.below hk) (g.below hMn) (g.below (Nat.lt_trans h2 hk)) c (hs _ i (Nat.lt_of_le_of_ne h1 (Ne.symm z)) h2)
      | false =>
        ((try dsimp only);(try rw [if_neg Bool.false_ne_true]))
        have c':=O.tot _ _ (g.below hk) (g.below hMn) (g.ne (i:=k) (j:=M) hk hMn (Nat.ne_of_gt hm)) c
        refine fY g hk hs q f (M + 1) r (Nat.le_of_lt_succ (Nat.lt_of_lt_of_le (Nat.sub_lt_sub_left lr (Nat.lt_succ_of_le hh.1)) hf)) hh.2 hr (fun i h1 => ?_) b
        by_cases z:i=M
        · subst z;exact c'
        · have hi:i < M:=Nat.lt_of_le_of_ne (Nat.le_of_lt_succ h1) z
          exact O.tr _ _ _ (g.below (Nat.lt_trans hi hMn)) (g.below hMn) (g.below hk) (hs i _ hi hm) c'
theorem l5 {Q:Array Nat→Shared→Prop}(q:∀ p,Gd n p→Srt lt p n→Q p s):∀ (f:Nat) (p:Array Nat) (k:Nat),Gd n p→k + f=n→Srt lt p k→(kas_bin f p k).kasWp cmp Q s
  | 0,p,k,g,e,h=>by
    have:k=n:=e
    subst this
    exact q p g h
  | f + 1,p,k,g,e,h=>by
    unfold kas_bin
    rw [KasT.kasWp_bind]
    have hk:k < n:=e ▸ Nat.lt_add_of_pos_right (Nat.succ_pos f)
    refine fY O hc g hk h (fun l hl a b => ?_) k 0 k (Nat.le_refl _) (Nat.zero_le _) (Nat.le_refl _) (fun i z=>absurd z (Nat.not_lt_zero _)) (fun i z z'=>absurd z' (Nat.not_lt.mpr z))
    have hks:k < p.size:=by rw [g.sz];exact hk
    have at':∀ i,(bubble p k (k - l)).getD i 0=if i=l then p.getD k 0 else if l < i∧i≤k then p.getD (i - 1) 0 else p.getD i 0:=fun i=>by
      have:=getElem?_bubble hks (k - l) (Nat.sub_le _ _) i
      rw [Nat.sub_sub_self hl] at this
      simp only [Array.getD_eq_getD_getElem?]
      rw [this]
      by_cases c1:i=l
      · rw [if_pos c1,if_pos c1]
      · rw [if_neg c1,if_neg c1]
        by_cases c2:l < i∧i≤k
        · rw [if_pos c2,if_pos c2]
        · rw [if_neg c2,if_neg c2]
    refine l5 q f _ (k + 1) ⟨by rw [bubble_size,g.sz],(bubble_perm _ _ _).trans g.pm⟩ (by rw [Nat.add_right_comm];exact e) fun i j hij hj => ?_
    have jk:j≤k:=Nat.le_of_lt_succ hj
    have j1:j - 1 < k:=Nat.sub_one_lt_of_le (Nat.zero_lt_of_lt hij) jk
    rw [at' i,at' j]
    by_cases c1:i=l
    · have lj:l < j:=c1 ▸ hij
      rw [if_pos c1,if_neg (Nat.ne_of_gt lj),if_pos ⟨lj,jk⟩]
      exact b _ (Nat.le_sub_one_of_lt lj) j1
    · rw [if_neg c1]
      by_cases c2:l < i∧i≤k
      · have lj:l < j:=Nat.lt_trans c2.1 hij
        rw [if_pos c2,if_neg (Nat.ne_of_gt lj),if_pos ⟨lj,jk⟩]
        exact h _ _ (Nat.sub_lt_sub_right (Nat.zero_lt_of_lt c2.1) hij) j1
      · rw [if_neg c2]
        have il:i < l:=Nat.lt_of_le_of_ne (Nat.not_lt.mp fun z=>c2 ⟨z,Nat.le_trans (Nat.le_of_lt hij) jk⟩) c1
        by_cases c3:j=l
        · rw [if_pos c3];exact a _ il
        · rw [if_neg c3]
          by_cases c4:l < j∧j≤k
          · rw [if_pos c4]
            exact h _ _ (Nat.lt_of_lt_of_le il (Nat.le_sub_one_of_lt c4.1)) j1
          · rw [if_neg c4]
            have jl:j < l:=Nat.lt_of_le_of_ne (Nat.not_lt.mp fun z=>c4 ⟨z,jk⟩) c3
            exact h _ _ hij (Nat.lt_of_lt_of_le jl hl)
theorem tU (h2:2≤n){Q:Array Nat→Shared→Prop}(q:∀ p,Gd n p→Srt lt p n→Q p s):(kas_sort n).kasWp cmp Q s:=by
  unfold kas_sort
  rw [KasT.kasWp_bind]
  refine qQ O hc h2 fun m p g h1 hm hs => ?_
  by_cases e:m < n
  · rw [if_pos e]
    have:max m 1=m:=by omega
    show KasT.kasWp cmp (kas_bin (n - max m 1) p (max m 1)) Q s
    rw [this]
    exact l5 O hc q (n - m) p m g (by omega) hs
  · rw [if_neg e]
    have:m=n:=by omega
    subst this
    exact q p g hs
end
end Fm
set_option linter.all false
namespace Fm
def qR (x:List Int):List (List Int)→List (List Int)
  | []=>[x]
  | y :: r=>if bJ x y=true then x :: y :: r else y :: qR x r
def b9:List (List Int)→List (List Int)
  | []=>[]
  | x :: r=>qR x (b9 r)
def qS (r:List Int):D:=.tup (r.map .int)
theorem jj:∀ a,bJ a a=false
  | []=>rfl
  | x :: a=>by simp [bJ,jj a]
theorem eU:∀ {a b c},bJ a b=true→bJ b c=true→bJ a c=true
  | [],[],_,h,_=>by simp [bJ] at h
  | [],_ :: _,[],_,h=>by simp [bJ] at h
  | [],_ :: _,_ :: _,_,_=>rfl
  | _ :: _,[],_,h,_=>by simp [bJ] at h
  | _ :: _,_ :: _,[],_,h=>by simp [bJ] at h
  | x :: a,y :: b,z :: c,h,h'=>by
    simp only [bJ] at h h' ⊢
    by_cases e:x=y
    · subst e
      rw [if_pos rfl] at h
      by_cases e2:x=z
      · subst e2
        rw [if_pos rfl] at h' ⊢
        exact eU h h'
      · rw [if_neg e2] at h' ⊢;exact h'
    · rw [if_neg e] at h
      by_cases e2:y=z
      · subst e2
        rw [if_neg e];exact h
      · rw [if_neg e2] at h'
        simp at h h'
        rw [if_neg (by omega)]
        simp;omega
theorem j5:∀ {a b},a≠b→bJ a b=false→bJ b a=true
  | [],[],h,_=>absurd rfl h
  | [],_ :: _,_,h=>by simp [bJ] at h
  | _ :: _,[],_,_=>rfl
  | x :: a,y :: b,h,h'=>by
    simp only [bJ] at h' ⊢
    by_cases e:x=y
    · subst e
      rw [if_pos rfl] at h' ⊢
      exact j5 (fun z=>h (by rw [z])) h'
    · rw [if_neg e] at h'
      rw [if_neg (Ne.symm e)]
      simp at h' ⊢;omega
theorem kB {a b:List Int}(h:bJ a b=true):bJ b a=false:=by
  cases c:bJ b a with
  | false=>rfl
  | true=>have:=eU h c;rw [jj] at this;cases this
theorem j6 (x:List Int):∀ r,(qR x r).Perm (x :: r)
  | []=>.refl _
  | y :: r=>by
    simp only [qR]
    split
    · exact .refl _
    · exact ((j6 x r).cons y).trans (.swap x y r)
theorem e8:∀ r,(b9 r).Perm r
  | []=>.refl _
  | x :: r=>(j6 x _).trans ((e8 r).cons x)
theorem l6 {x:List Int}:∀ {r:List (List Int)},x∉r→r.Pairwise (fun a b=>bJ a b=true)→(qR x r).Pairwise (fun a b=>bJ a b=true)
  | [],_,_=>by simp [qR]
  | y :: r,hx,h=>by
    simp only [qR]
    have hy : ¬ x=y:=fun z=>hx (by simp [z])
    have hr:x∉r:=fun z=>hx (by simp [z])
    obtain⟨h1,h2⟩:=List.pairwise_cons.mp h
    split
    · rename_i c
      refine List.pairwise_cons.mpr ⟨fun b hb => ?_,h⟩
      rcases List.mem_cons.mp hb with rfl|hb
      · exact c
      · exact eU c (h1 b hb)
    · rename_i c
      have c':=j5 hy (by simpa using c)
      refine List.pairwise_cons.mpr ⟨fun b hb => ?_,l6 hr h2⟩
      rcases List.mem_cons.mp ((j6 x r).mem_iff.mp hb) with rfl|hb
      · exact c'
      · exact h1 b hb
theorem hU:∀ {r:List (List Int)},r.Nodup→(b9 r).Pairwise (fun a b=>bJ a b=true)
  | [],_=>.nil
  | x :: r,h=>by
    obtain⟨h1,h2⟩:=List.nodup_cons.mp h
    exact l6 (fun z=>h1 ((e8 r).mem_iff.mp z)) (hU h2)
theorem xO {a b:List (List Int)}(p:a.Perm b)(ha:a.Pairwise (fun a b=>bJ a b=true))(hb:b.Pairwise (fun a b=>bJ a b=true)):a=b :=
  List.Perm.eq_of_pairwise (fun x y _ _ h h'=>by have:=kB h;rw [h'] at this;cases this) ha hb p
end Fm
set_option Elab.async false
set_option linter.all false
set_option maxRecDepth 100000
namespace Fm
open PySem PySem.Spec L2 PySem.W PyProof.Rows
section
variable {X:Cx} {pos p:Pos}
theorem b4.rds {K:PySem.W.Frag}{ρ:List Addr}{H:Hp}:∀ {vs:List V} {rs:List (List Int)},b4 H vs rs→RDs K ρ H (rs.map qS) vs
  | _,_,.nil=>RDs.nil
  | _,_,.cons (a:=a) (r:=r) h t=>by
    refine RDs.cons ?_ (b4.rds t)
    unfold qS
    simp only [RD]
    refine⟨a,_,rfl,h,?_⟩
    clear h
    induction r with
    | nil=>exact RDs.nil
    | cons x r ih=>exact RDs.cons (by simp only [RD]) ih
theorem b4.pick {H:Hp}{vs:List V}{rs:List (List Int)}(h:b4 H vs rs):∀ (l:List Nat),(∀ i∈l,i < vs.length)→b4 H (l.map fun i=>vs.getD i .non) (l.map fun i=>rs.getD i [])
  | [],_=>.nil
  | i :: l,hl=>by
    have hi:i < vs.length:=hl i (by simp)
    obtain⟨a,e,ha⟩:=h.get (i:=i) (v:=vs[i]) (by simp [hi])
    have t:=b4.pick h l fun j hj=>hl j (by simp [hj])
    have:vs.getD i .non=.ref a:=by simp [List.getD,hi,e]
    simp only [List.map_cons,this]
    exact .cons ha t
theorem aL.pick {vs:List V}{us:List Value}(h:aL vs us):∀ (l:List Nat),(∀ i∈l,i < vs.length)→aL (l.map fun i=>vs.getD i .non) (l.map fun i=>us.getD i Value.none)
  | [],_=>.nil
  | i :: l,hl=>by
    have hi:i < vs.length:=hl i (by simp)
    obtain⟨u,e,ru⟩:=h.get (i:=i) (x:=vs[i]) (by simp [hi])
    have t:=aL.pick h l fun j hj=>hl j (by simp [hj])
    simp only [List.map_cons]
    refine .cons ?_ t
    simp [List.getD,hi,e]
    exact ru
end
end Fm
set_option Elab.async false
set_option linter.all false
set_option maxRecDepth 100000
namespace Fm
open PySem PySem.Spec L2 PySem.W PyProof.Rows
section
variable {X:Cx} {pos p:Pos}
theorem RDs.rep {K:PySem.W.Frag}{ρ:List Addr}{H:Hp}{l:List D}{vs:List V}(r:RDs K ρ H l vs):∀ k,RDs K ρ H (List.replicate k l).flatten (List.replicate k vs).flatten
  | 0=>RDs.nil
  | k + 1=>by
    rw [List.replicate_succ,List.replicate_succ,List.flatten_cons,List.flatten_cons]
    exact RDs.append r (RDs.rep r k)
end
end Fm
set_option linter.all false
namespace Fm
@[simp] def iI:EF:=fun _ h=>.ok (.ref h.length) (h++[.dct []])
def l7 (l:List (Int × D)) (k:Int):Option D:=(l.find? fun p=>decide (p.1=k)).map (·.2)
def vF (l:List (Int × D)) (k:Int) (v:D):List (Int × D):=if (l.any fun p=>decide (p.1=k))=true then l.map (fun p=>if p.1=k then (p.1,v) else p) else l++[(k,v)]
@[simp] def xP:O2:=fun x y h=>match x,y with
  | .int k,.ref n=>match h[n]? with|some (.dct l)=>.ok (.bl (l7 l k).isSome) h|_=>.bad
  | _,_=>.bad
@[simp] def l8 (x i e:EF):SF:=fun σ h=>outE (e σ h) σ fun d h=>outE (x σ h) σ fun p h=>outE (i σ h) σ fun j h=>match p,j with
  | .ref n,.int k=>match h[n]? with
    | some (.dct l)=>if l.length < SZ then .nx σ (h.set n (.dct (vF l k d))) else .bad
    | _=>.bad
  | _,_=>.bad
def dz:List (Int × D)→Option (List (List Int))
  | []=>some []
  | (k,.int v) :: r=>(dz r).map fun l=>[k,v] :: l
  | _=>none
@[simp] def i0 (a:EF):LF:=fun σ h=>(a σ h).bind fun x h=>match x with
  | .ref n=>match h[n]? with
    | some (.dct l)=>match dz l with
      | some r=>if r.length < 64∧r.Nodup then .ok ((b9 r).map qS) h else .bad
      | none=>.bad
    | _=>.bad
  | _=>.bad
end Fm
set_option Elab.async false
set_option linter.all false
set_option maxRecDepth 100000
namespace L2
open PySem PySem.Spec PyProof.Rows
section
variable {κ : Type} [DecidableEq κ]
def gM (kvs:List (κ × V)) (k : κ):Option V:=(kvs.find? fun kv=>decide (kv.1=k)).map (·.2)
def i3 (kvs:List (κ × V)) (k : κ) (v:V):List (κ × V) :=
  if (kvs.any fun kv=>decide (kv.1=k))=true then kvs.map (fun kv=>if kv.1=k then (kv.1,v) else kv) else kvs++[(k,v)]
theorem l9 {p : κ × V}{r:List (κ × V)}{k : κ}(e:p.1=k):gM (p :: r) k=some p.2:=by simp [gM,List.find?_cons,e]
theorem jm {p : κ × V}{r:List (κ × V)}{k : κ}(e : ¬ p.1=k):gM (p :: r) k=gM r k:=by simp [gM,List.find?_cons,e]
theorem tV (k : κ):∀ kvs:List (κ × V),(kvs.any fun kv=>decide (kv.1=k))=(gM kvs k).isSome
  | []=>rfl
  | p :: r=>by
    rw [List.any_cons]
    by_cases e:p.1=k
    · simp only [l9 e,decide_eq_true e,Bool.true_or,Option.isSome_some]
    · rw [jm e,decide_eq_false e,Bool.false_or];exact tV k r
theorem kC (kvs:List (κ × V))(k : κ)(v:V):(i3 kvs k v).length≤kvs.length + 1:=by
  unfold i3
  split
  · rw [List.length_map];omega
  · rw [List.length_append,List.length_cons,List.length_nil];omega
theorem xA.isSome_eq {o:Option V}{u:Option Value}(r:xA o u):o.isSome=u.isSome:=by
  cases o with
  | none=>cases u with
    | none=>rfl
    | some _=>exact (show False from r).elim
  | some _=>cases u with
    | none=>exact (show False from r).elim
    | some _=>rfl
theorem KV.val {kvs:List (κ × V)}{vs:List (κ × Value)}(r:KV kvs vs)(k : κ):xA (gM kvs k) (valueAt vs k):=by
  unfold KV at r
  induction r with
  | nil=>exact True.intro
  | @cons p q ps qs h t ih =>
    obtain⟨h1,h2⟩:=h
    by_cases e:p.1=k
    · have e':q.1=k:=h1.symm.trans e
      have b:valueAt (q :: qs) k=some q.2:=by simp [valueAt,List.find?_cons,e']
      rw [l9 e,b];exact h2
    · have e' : ¬ q.1=k:=fun z=>e (h1.trans z)
      have b:valueAt (q :: qs) k=valueAt qs k:=by simp [valueAt,List.find?_cons,e']
      rw [jm e,b];exact ih
theorem KV.any {kvs:List (κ × V)}{vs:List (κ × Value)}(r:KV kvs vs)(k : κ):(kvs.any fun kv=>decide (kv.1=k))=vs.any fun kv=>decide (kv.1=k):=by
  unfold KV at r
  induction r with
  | nil=>rfl
  | cons h t ih=>rw [List.any_cons,List.any_cons,ih,h.1]
theorem KV.repl {kvs:List (κ × V)}{vs:List (κ × Value)}(r:KV kvs vs)(k : κ){y:V}{u:Value}(ry:bf y u) :
    KV (kvs.map fun kv=>if kv.1=k then (kv.1,y) else kv) (vs.map fun kv=>if kv.1=k then (kv.1,u) else kv):=by
  unfold KV at r ⊢
  induction r with
  | nil=>exact .nil
  | @cons p q ps qs h t ih =>
    rw [List.map_cons,List.map_cons]
    refine .cons ?_ ih
    obtain⟨h1,h2⟩:=h
    by_cases e:p.1=k
    · rw [if_pos e,if_pos (h1.symm.trans e)];exact⟨h1,ry⟩
    · rw [if_neg e,if_neg (fun z=>e (h1.trans z))];exact⟨h1,h2⟩
theorem KV.put {kvs:List (κ × V)}{vs:List (κ × Value)}(r:KV kvs vs)(k : κ){y:V}{u:Value}(ry:bf y u):KV (i3 kvs k y) (stored vs k u):=by
  unfold i3 stored
  rw [r.any k]
  by_cases e:(vs.any fun kv=>decide (kv.1=k))=true
  · rw [if_pos e,if_pos e];exact r.repl k ry
  · rw [if_neg e,if_neg e];exact Paired.snoc r ⟨rfl,ry⟩
theorem KV.length {kvs:List (κ × V)}{vs:List (κ × Value)}(r:KV kvs vs):kvs.length=vs.length:=Paired.length r
end
theorem zD {P:Program}{w:World}{k:Key}{u:Value}(r:bf (kV k) u):(b6 P w).is k u=true:=by
  cases k with
  | inl i=>obtain⟨t,e⟩:=(show ∃ t,u=Value.int i t from r);subst e;exact tK P w i t
  | inr x=>obtain⟨t,e⟩:=(show ∃ t,u=Value.str x t from r);subst e;exact tL P w x t
theorem pX {P:Program}{w:World}:∀ {ks:List Key} {us:List Value},aL (ks.map kV) us→ItemsAre (b6 P w) ks us
  | [],_,r=>by rw [List.map_nil] at r;cases r;exact .nil
  | k :: ks,_,r=>by
    rw [List.map_cons] at r
    cases r with
    | cons h t=>exact .cons (zD h) (pX t)
abbrev KT (H:Hp):List (List Key × V)→List (List Key × Addr × Value)→Prop:=Paired fun p q=>p.1=q.1∧H q.2.1=some (.tup (p.1.map kV))∧bf p.2 q.2.2
theorem KT.val {H:Hp}{kvs:List (List Key × V)}{xs:List (List Key × Addr × Value)}(r:KT H kvs xs)(k:List Key):xA (gM kvs k) ((atKey xs k).map (·.2)):=by
  induction r with
  | nil=>exact True.intro
  | @cons p q ps qs h t ih =>
    obtain⟨h1,_,h2⟩:=h
    by_cases e:p.1=k
    · have e':q.1=k:=h1.symm.trans e
      have b:atKey (q :: qs) k=some q.2:=by simp [atKey,List.find?_cons,e']
      rw [l9 e,b];exact h2
    · have e' : ¬ q.1=k:=fun z=>e (h1.trans z)
      have b:atKey (q :: qs) k=atKey qs k:=by simp [atKey,List.find?_cons,e']
      rw [jm e,b];exact ih
theorem KT.repl {H:Hp}{kvs:List (List Key × V)}{xs:List (List Key × Addr × Value)}(r:KT H kvs xs)(k:List Key){y:V}{u:Value}(ry:bf y u) :
    KT H (kvs.map fun kv=>if kv.1=k then (kv.1,y) else kv) (xs.map (putAt k u)):=by
  induction r with
  | nil=>exact .nil
  | @cons p q ps qs h t ih =>
    rw [List.map_cons,List.map_cons]
    refine .cons ?_ ih
    obtain⟨h1,h2,h3⟩:=h
    unfold putAt
    by_cases e:p.1=k
    · rw [if_pos e,if_pos (h1.symm.trans e)];exact⟨h1,h2,ry⟩
    · rw [if_neg e,if_neg (fun z=>e (h1.trans z))];exact⟨h1,h2,h3⟩
theorem KT.put {H:Hp}{kvs:List (List Key × V)}{xs:List (List Key × Addr × Value)}(r:KT H kvs xs)(k:List Key){b:Addr}{y:V}{u:Value}(hb:H b=some (.tup (k.map kV)))(ry:bf y u) :
    KT H (i3 kvs k y) (storedH xs k b u):=by
  have e:(kvs.any fun kv=>decide (kv.1=k))=(atKey xs k).isSome:=by
    rw [tV,(r.val k).isSome_eq,Option.isSome_map]
  unfold i3 storedH
  rw [e]
  by_cases q:(atKey xs k).isSome=true
  · rw [if_pos q,if_pos q];exact r.repl k ry
  · rw [if_neg q,if_neg q];exact Paired.snoc r ⟨rfl,hb,ry⟩
theorem KT.keeps {H H':Hp}{kvs:List (List Key × V)}{xs:List (List Key × Addr × Value)}(r:KT H kvs xs)(ht:∀ b ys,H b=some (.tup ys)→H' b=some (.tup ys)):KT H' kvs xs :=
  Paired.mapP r fun _ _ z=>⟨z.1,ht _ _ z.2.1,z.2.2⟩
section
variable {P:Program} {w:World} {H:Hp} {h:Heap} {a:Addr}
theorem Cn {u:HO}(ok:HOk P w H h)(e:Rd H a u):cB P w H h a u:=e.ok ok
theorem zE {kvs:List (Key × V)}(ok:HOk P w H h)(e:Rd H a (.dK kvs)):kvs.length≤sizeLine∧(a == sysModules)=false ∧ ∃ vs,KV kvs vs∧h.DictOf (b6 P w) a vs :=
  show cB P w H h a (.dK kvs) from Cn ok e
theorem zF {kvs:List (Key × V)}(ok:HOk P w H h)(e:H a=some (.dK kvs)):kvs.length≤sizeLine∧(a == sysModules)=false ∧ ∃ vs,KV kvs vs∧h.DictOf (b6 P w) a vs:=zE ok (.inl e)
theorem vG {ks:List Key}(ok:HOk P w H h)(e:H a=some (.tup (ks.map kV))):(tupleKind (b6 P w)).is h ks a:=by
  obtain⟨_,its,r,o,h1,h2,n,h3⟩:=(show cB P w H h a (.tup (ks.map kV)) from ok a _ e)
  exact⟨o,its.toArray,n,h1,h2,h3,by simpa using pX r⟩
theorem zG {kvs:List (List Key × V)}(ok:HOk P w H h)(e:Rd H a (.dT kvs)):kvs.length≤sizeLine∧(a == sysModules)=false ∧
    ∃ xs,KT H kvs xs∧h.DictOfH (tupleKind (b6 P w)) a xs:=by
  obtain⟨z,y,xs,r,o,es,ep,h1,h2,h3,h4,h5⟩:=(show cB P w H h a (.dT kvs) from Cn ok e)
  refine⟨z,y,xs,r,o,es,ep,h1,h2,h3,h4,fun x hx => ?_,h5⟩
  have all:∀ {l:List (List Key × V)} {m:List (List Key × Addr × Value)},KT H l m → ∀ x∈m,(tupleKind (b6 P w)).is h x.1 x.2.1:=by
    intro l m q
    induction q with
    | nil=>intro x hx;exact nomatch hx
    | @cons p q ps qs hq t ih =>
      intro x hx
      rcases List.mem_cons.mp hx with e|hx
      · subst e
        exact vG ok (by rw [← hq.1];exact hq.2.1)
      · exact ih x hx
  exact all r x hx
theorem EH {kvs:List (List Key × V)}(ok:HOk P w H h)(e:H a=some (.dT kvs)):kvs.length≤sizeLine∧(a == sysModules)=false ∧
    ∃ xs,KT H kvs xs∧h.DictOfH (tupleKind (b6 P w)) a xs:=zG ok (.inl e)
end
def zH (H:Hp) (a:Addr) (y:V) (r:Option V):Prop :=
  (∃ kvs k,Rd H a (.dK kvs)∧y=kV k∧r=gM kvs k) ∨ ∃ kvs k b,Rd H a (.dT kvs)∧y=.ref b∧H b=some (.tup (k.map kV))∧r=gM kvs k
def zI (H:Hp) (a:Addr) (y v:V) (H':Hp):Prop :=
  (∃ kvs k,H a=some (.dK kvs)∧y=kV k∧kvs.length < sizeLine∧H'=upd H a (.dK (i3 kvs k v))) ∨
  ∃ kvs k b,H a=some (.dT kvs)∧y=.ref b∧H b=some (.tup (k.map kV))∧kvs.length < sizeLine∧H'=upd H a (.dT (i3 kvs k v))
theorem zH.k {H:Hp}{a:Addr}{kvs:List (Key × V)}{k:Key}(e:H a=some (.dK kvs)):zH H a (kV k) (gM kvs k):=.inl ⟨kvs,k,.inl e,rfl,rfl⟩
theorem zI.k {H:Hp}{a:Addr}{kvs:List (Key × V)}{k:Key}{v:V}(e:H a=some (.dK kvs))(hl:kvs.length < sizeLine):zI H a (kV k) v (upd H a (.dK (i3 kvs k v))):=.inl ⟨kvs,k,e,rfl,hl,rfl⟩
section
variable {X:Cx} {pins:List (Addr × Obj)} {σ:St} {H:Hp} {s:Shared} {a:Addr} {y v:V} {u r:Value} {o:Option V} {A:Around} {E:Value→Shared→Prop}
theorem Inv.big (I:Inv X pins σ H s):sysModules < s.heap.objs.size:=by
  have h:mainGlobals < s.heap.objs.size:=(I.mod.glob.keeps I.bk).lt
  exact Nat.lt_trans (by decide) h
theorem Fu {Q:Value→Shared→Prop}(hu:A.units + 1 < cLine)(I:Inv X pins σ H s)(g:zH H a y o)(ry:bf y u)(h:∀ s',Inv X pins σ H s'→Q (.bool o.isSome) s') :
    wpAny (model X.prog X.w) A (compareOp .In u (.ref a)) Q E s:=by
  rcases g with ⟨kvs,k,e,ey,l⟩|⟨kvs,k,b,e,ey,eb,l⟩
  · subst ey
    obtain⟨z,hd,vs,rel,dd⟩:=zE I.hok e
    refine wpAny_in_of (zD ry) hd dd.mapOf ?_
    rw [← (rel.val k).isSome_eq,← l]
    exact h _ (I.tok _)
  · subst ey
    cases (show u=Value.ref b from ry)
    obtain⟨z,hd,xs,rel,dd⟩:=zG I.hok e
    refine wpAny_in_heap (tupleKind_room_in1 hu) (vG I.hok eb) hd dd ?_
    have q:=(rel.val k).isSome_eq
    rw [Option.isSome_map] at q
    rw [← q,← l]
    exact h _ (I.tok _)
theorem w5 {h':Heap}{t':Nat}{ob:HO}(I:Inv X pins σ H s)(mu:Mut (H a))(hs:Heap.SameBut a s.heap h')(he:∃ q,h'.get? a=some q)(new:cB X.prog X.w (upd H a ob) h' a ob) :
    Inv X pins σ (upd H a ob) { s with heap:=h',toks:=t' } :=
  I.write (x:=a) (e:=a) mu (.inl rfl) (fun b q hb z=>(hs.2 b hb).trans z) he new
theorem Dr {P:Program}{w:World}{H':Hp}{h':Heap}{kvs:List (Key × V)}{vs:List (Key × Value)}(z:kvs.length≤sizeLine)(hd:(a == sysModules)=false)(rel:KV kvs vs)(dd:h'.DictOf (b6 P w) a vs) :
    cB P w H' h' a (.dK kvs):=⟨z,hd,vs,rel,dd⟩
theorem xQ {H':Hp}{Q:Unit→Shared→Prop}(hu:A.units + 1 < cLine)(I:Inv X pins σ H s)(g:zI H a y v H')(ry:bf y u)(rv:bf v r)(h:∀ s',Inv X pins σ H' s'→Q () s') :
    wpAny (model X.prog X.w) A (setItem (.ref a) u r) Q E s:=by
  rcases g with ⟨kvs,k,e,ey,l,eH⟩|⟨kvs,k,b,e,ey,eb,l,eH⟩
  · subst ey eH
    obtain⟨z,hd,vs,rel,dd⟩:=zF I.hok e
    have hz:vs.length≤sizeLine:=by rw [← rel.length];exact z
    have hl:(i3 kvs k v).length≤sizeLine:=by have:=kC kvs k v;omega
    refine wpAny_setItem_pairs (hsz:=hz) (zD ry) dd fun h' dd' hs=>h _ ?_
    have he:∃ q,h'.get? a=some q:=let ⟨q,_,_,hq,_⟩:=dd';⟨q,hq⟩
    exact w5 I (by rw [e];exact True.intro) hs he (Dr hl hd (rel.put k rv) dd')
  · subst ey eH
    cases (show u=Value.ref b from ry)
    obtain⟨z,hd,xs,rel,dd⟩:=EH I.hok e
    have hz:xs.length≤sizeLine:=by rw [← Paired.length rel];exact z
    have hl:(i3 kvs k v).length≤sizeLine:=by have:=kC kvs k v;omega
    refine wpAny_setItem_heap (hsz:=hz) (tupleKind_room_in1 hu) (vG I.hok eb) dd fun h' dd' hs=>h _ ?_
    obtain⟨q,es,ep,hq,h2,h3,h4,_,h5⟩:=dd'
    refine w5 I (by rw [e];exact True.intro) hs ⟨q,hq⟩ ⟨hl,hd,_,(rel.put k eb rv).keeps fun c ys ec => ?_,q,es,ep,hq,h2,h3,h4,h5⟩
    rw [az (Ce ec e (fun z=>nomatch z))]
    exact ec
end
section
variable {X:Cx} {pins:List (Addr × Obj)} {σ:St} {H:Hp} {s:Shared} {a:Addr} {kvs:List (Key × V)} {k:Key} {u:Value} {A:Around} {E:Value→Shared→Prop}
end
section
variable {X:Cx} {o i e value:Expr} {pos pos' tpos:Pos} {td ty tv:TE}
end
theorem zJ {P:Program} {w:World} {H:Hp} (h:Heap) (hb:sysModules < h.objs.size):cB P w H (h.push { cls:=.type "dict",data:=.dict #[] }) h.objs.size (.dK []) :=
  ⟨Nat.zero_le _,beq_eq_false_iff_ne.mpr (Ne.symm (Nat.ne_of_lt hb)),[],.nil,Heap.DictOf.new h⟩
def Ds:TE:=fun _ H Q=>∀ p,H p=none→Q (.ref p) (upd H p (.dK []))
section
variable {X:Cx} {pos:Pos}
theorem zK:PE X (.Dict [] [] pos) Ds:=fun pins s σ H Q I h =>
  wpAny_Dict_empty ⟨.ref s.heap.objs.size,_,I.laid (a:=s.heap.objs.size) (o:=.dK []) (t':=s.toks) (fun _ _ q=>Heap.get?_push_of_some _ q) (Nat.le_refl _) (zJ s.heap I.big),rfl,h _ (I.hok.fresh (Nat.le_refl _))⟩
end
structure M1 (X:Cx) (o:Expr) (m:Str) (apos:Pos) (e:Expr) (cpos:Pos):Prop where
  base:attributeBase o m X.env (eval o X.env)=eval o X.env
  few:((backTo cpos (starEach [e] X.env)).all (fun x => !x.1) && (backToKw cpos (keywordEach [] X.env)).all (fun x=>x.1.isSome)
    && decide (([e] : List Expr).length + ([] : List Keyword).length + (if ([] : List Keyword).isEmpty then 0 else 1) < 30))=true
  line:(apos.endLine == cpos.line)=true
  trees:backTo cpos (starEach [e] X.env)=[(false,eval e X.env)]
structure M2 (X:Cx) (o:Expr) (m:Str) (apos:Pos) (e f:Expr) (cpos:Pos):Prop where
  base:attributeBase o m X.env (eval o X.env)=eval o X.env
  few:((backTo cpos (starEach [e,f] X.env)).all (fun x => !x.1) && (backToKw cpos (keywordEach [] X.env)).all (fun x=>x.1.isSome)
    && decide (([e,f] : List Expr).length + ([] : List Keyword).length + (if ([] : List Keyword).isEmpty then 0 else 1) < 30))=true
  line:(apos.endLine == cpos.line)=true
  trees:backTo cpos (starEach [e,f] X.env)=[(false,eval e X.env),(false,eval f X.env)]
def IsD (H:Hp) (a:Addr):Prop:=(∃ kvs,Rd H a (.dK kvs)) ∨ ∃ kvs,Rd H a (.dT kvs)
theorem Dt {X:Cx}{pins:List (Addr × Obj)}{σ:St}{H:Hp}{s:Shared}{a:Addr}(I:Inv X pins σ H s)(d:IsD H a) :
    s.TypeIs (.ref a) "dict" ∧ (∀ b,Value.ref a=.ref b → ∃ ob,s.heap.get? b=some ob∧ob.dict=none)∧(a == sysModules)=false:=by
  rcases d with ⟨kvs,e⟩|⟨kvs,e⟩
  · obtain⟨_,hd,vs,_,dd⟩:=zE I.hok e
    refine⟨dd.typeIs,fun b q => ?_,hd⟩
    cases q
    obtain⟨ob,_,_,h1,h2,_⟩:=dd
    exact⟨ob,h1,h2.2.1⟩
  · obtain⟨_,hd,xs,_,dd⟩:=zG I.hok e
    refine⟨dd.typeIs,fun b q => ?_,hd⟩
    cases q
    obtain⟨ob,_,_,h1,h2,_⟩:=dd
    exact⟨ob,h1,h2.2.1⟩
section
variable {X:Cx} {pins:List (Addr × Obj)} {σ:St} {H:Hp} {s:Shared} {a:Addr} {y d:V} {u r:Value} {o:Option V} {A:Around} {E:Value→Shared→Prop}
end
section
variable {X:Cx} {o e f:Expr} {apos cpos:Pos} {td ty tx:TE}
end
section
variable {X:Cx} {pins:List (Addr × Obj)} {σ:St} {H:Hp} {s:Shared} {a:Addr} {kvs:List (Key × V)} {A:Around} {E:Value→Shared→Prop}
end
section
variable {X:Cx} {pins:List (Addr × Obj)} {σ:St} {H:Hp} {s:Shared} {a:Addr} {y:V} {u:Value} {A:Around} {E:Value→Shared→Prop}
end
end L2
set_option Elab.async false
set_option linter.all false
set_option maxRecDepth 100000
namespace Fm
open PySem PySem.Spec L2 PySem.W PyProof.Rows
section
variable {K:PySem.W.Frag} {ρ:List Addr} {H:Hp} {hd:Hd}
theorem RH.allocD (r:RH K ρ H hd){p:Addr}{l:List (Int × D)}(hp:RC K ρ H (.dct l) p)(hn:p ∉ ρ):RH K (ρ ++ [p]) H (hd++[.dct l]):=by
  have k:Kp ρ H (ρ ++ [p]) H:=⟨fun n a e=>by rw [List.getElem?_append_left (List.getElem?_eq_some_iff.mp e).1];exact e,fun _ _ h=>h,fun _ _ _ h=>h,fun _ _ h=>h⟩
  refine⟨by simp [r.len],?_,fun n c a h1 h2 => ?_⟩
  · rw [List.nodup_append]
    exact⟨r.nd,by simp,fun a ha b hb=>by simp at hb;subst hb;intro e;subst e;exact hn ha⟩
  · by_cases hlt:n < hd.length
    · rw [List.getElem?_append_left hlt] at h1
      rw [List.getElem?_append_left (by rw [r.len];exact hlt)] at h2
      exact (r.cel n c a h1 h2).mono k rfl
    · have e1:n=hd.length:=by
        have:=(List.getElem?_eq_some_iff.mp h1).1
        simp at this
        omega
      subst e1
      simp at h1
      subst h1
      rw [← r.len] at h2
      simp at h2
      subst h2
      obtain⟨kvs,q1,q2,q3⟩:=hp
      exact⟨kvs,q1,q2,q3.mono k⟩
theorem RH.writeD (r:RH K ρ H hd){n:Nat}{p:Addr}{l:List (Int × D)}{kvs:List (Key × V)}(hp : ρ[n]? = some p)(hn:n < hd.length)(h1:kvs.map (·.1)=l.map (fun p=>(Sum.inl p.1:Key)))(h2:RDs K ρ H (l.map (·.2)) (kvs.map (·.2))):RH K ρ (upd H p (.dK kvs)) (hd.set n (.dct l)):=by
  have k:Kp ρ H ρ (upd H p (.dK kvs)):=by
    have hm:=List.mem_of_getElem? hp
    refine⟨fun _ _ h=>h,fun a us e => ?_,fun a o u e => ?_,fun a φ e => ?_⟩
    · rw [az (fun z=>r.noTup e (by rw [z];exact hm))];exact e
    · rw [az (fun z=>r.noFrz e (by rw [z];exact hm))];exact e
    · rw [az (fun z=>r.noExt e (by rw [z];exact hm))];exact e
  refine⟨by simp [r.len],r.nd,fun m c a q1 q2 => ?_⟩
  by_cases e:n=m
  · subst e
    rw [List.getElem?_set_self hn] at q1
    cases q1
    rw [hp] at q2
    cases q2
    exact⟨kvs,aV,h1,h2.mono k⟩
  · rw [List.getElem?_set_ne e] at q1
    have ne:a≠p:=fun z=>by
      subst z
      exact e (lX r.nd hp q2)
    exact (r.cel m c a q1 q2).mono k (az ne)
theorem tW (k:Int):∀ {l:List (Int × D)} {kvs:List (Key × V)},kvs.map (·.1)=l.map (fun p=>(Sum.inl p.1:Key))→RDs K ρ H (l.map (·.2)) (kvs.map (·.2)) →
    (l7 l k=none∧gM kvs (Sum.inl k)=none) ∨ ∃ d v,l7 l k=some d∧gM kvs (Sum.inl k)=some v∧RD K ρ H d v
  | [],[],_,_=>.inl ⟨rfl,rfl⟩
  | [],_ :: _,h,_=>by simp at h
  | _ :: _,[],h,_=>by simp at h
  | (j,d) :: l,(kk,v) :: kvs,h1,h2=>by
    simp only [List.map_cons,List.cons.injEq] at h1
    simp only [List.map_cons,RDs] at h2
    obtain⟨v',r',e,q1,q2⟩:=h2
    cases e
    obtain⟨e1,e2⟩:=h1
    subst e1
    by_cases e:j=k
    · subst e
      exact .inr ⟨d,v,by simp [l7],by simp [gM],q1⟩
    · have ih:=tW k e2 q2
      have a1:l7 ((j,d) :: l) k=l7 l k:=by simp [l7,e]
      have a2:gM ((Sum.inl j,v) :: kvs) (Sum.inl k)=gM kvs (Sum.inl k):=jm (fun z=>e (by cases z;rfl))
      rw [a1,a2]
      exact ih
theorem tX (k:Int):∀ {l:List (Int × D)} {kvs:List (Key × V)},kvs.map (·.1)=l.map (fun p=>(Sum.inl p.1:Key))→(kvs.any fun kv=>decide (kv.1=(Sum.inl k:Key)))=l.any fun p=>decide (p.1=k)
  | [],[],_=>rfl
  | [],_ :: _,h=>by simp at h
  | _ :: _,[],h=>by simp at h
  | (j,d) :: l,(kk,v) :: kvs,h1=>by
    simp only [List.map_cons,List.cons.injEq] at h1
    obtain⟨e1,e2⟩:=h1
    subst e1
    simp [tX k e2]
theorem tY (k:Int){d0:D}{v0:V}(hv:RD K ρ H d0 v0):∀ {l:List (Int × D)} {kvs:List (Key × V)},kvs.map (·.1)=l.map (fun p=>(Sum.inl p.1:Key))→RDs K ρ H (l.map (·.2)) (kvs.map (·.2)) →
    (kvs.map fun kv=>if kv.1=(Sum.inl k:Key) then (kv.1,v0) else kv).map (·.1)=(l.map fun p=>if p.1=k then (p.1,d0) else p).map (fun p=>(Sum.inl p.1:Key))∧RDs K ρ H ((l.map fun p=>if p.1=k then (p.1,d0) else p).map (·.2)) ((kvs.map fun kv=>if kv.1=(Sum.inl k:Key) then (kv.1,v0) else kv).map (·.2))
  | [],[],_,_=>⟨rfl,RDs.nil⟩
  | [],_ :: _,h,_=>by simp at h
  | _ :: _,[],h,_=>by simp at h
  | (j,d) :: l,(kk,v) :: kvs,h1,h2=>by
    simp only [List.map_cons,List.cons.injEq] at h1
    simp only [List.map_cons,RDs] at h2
    obtain⟨v',r',e,q1,q2⟩:=h2
    cases e
    obtain⟨e1,e2⟩:=h1
    subst e1
    obtain⟨i1,i2⟩:=tY k hv e2 q2
    by_cases e:j=k
    · subst e
      simp only [List.map_cons,if_true]
      exact⟨by rw [i1],RDs.cons hv i2⟩
    · have e' : ¬ (Sum.inl j:Key)=Sum.inl k:=fun z=>e (by cases z;rfl)
      simp only [List.map_cons,if_neg e,if_neg e']
      exact⟨by rw [i1],RDs.cons q1 i2⟩
theorem zL (k:Int){d0:D}{v0:V}(hv:RD K ρ H d0 v0){l:List (Int × D)}{kvs:List (Key × V)}(h1:kvs.map (·.1)=l.map (fun p=>(Sum.inl p.1:Key)))(h2:RDs K ρ H (l.map (·.2)) (kvs.map (·.2))) :
    (i3 kvs (Sum.inl k) v0).map (·.1)=(vF l k d0).map (fun p=>(Sum.inl p.1:Key))∧RDs K ρ H ((vF l k d0).map (·.2)) ((i3 kvs (Sum.inl k) v0).map (·.2)):=by
  unfold i3 vF
  rw [tX k h1]
  split
  · exact tY k hv h1 h2
  · refine⟨by simp [h1],?_⟩
    rw [List.map_append,List.map_append]
    exact RDs.append h2 (RDs.cons hv RDs.nil)
end
section
variable {X:Cx} {pos p:Pos}
theorem w6:ME X (.Dict [] [] pos) iI:=by
  refine PE.imp zK fun σ H Q ⟨ρ,σd,hd,rs,pp⟩=>fun q hq => ?_
  have sm:=bO (o:=HO.dK []) hq
  have hn:=rs.hp.free hq
  have rh:=(rs.hp.same sm).allocD (p:=q) (l:=[]) ⟨[],aV,rfl,RDs.nil⟩ hn
  have ex:Ext ρ H (ρ ++ [q]) (upd H q (.dK [])):=Ext.alloc hq
  refine bh.at (R:=rD X.K) (a:=.ref hd.length) pp ex (rs.ext ex rh) ?_
  simp only [rD,RD]
  refine⟨q,?_,rfl⟩
  rw [← rs.hp.len]
  simp
def EI (K:PySem.W.Frag):R2:=fun x y H Q=>∃ a o,y=.ref a∧zH H a x o∧Q (.bl o.isSome) H
theorem Du (hu:X.A.units + 1 < cLine):OpR X (compareOp .In) (EI X.K):=by
  intro pins s σ H x y v u Q I rx ry h
  obtain⟨a,o,rfl,g,q⟩:=h
  obtain rfl:u=Value.ref a:=ry
  exact Fu hu I g rx fun s3 I3=>⟨.bl o.isSome,H,I3,rfl,q⟩
theorem Dv {K:PySem.W.Frag}:Og K xP (EI K):=by
  intro ρ H σd hd σ d k v w Q rs rv rw' pp
  cases d<;>try exact pp.elim
  cases k<;>try exact pp.elim
  rename_i i n
  simp only [xP] at pp
  simp only [RD] at rv rw'
  subst rv
  obtain⟨a,ha,rfl⟩:=rw'
  cases c:hd[n]? with
  | none=>rw [c] at pp;exact pp.elim
  | some cell =>
    rw [c] at pp
    cases cell with
    | lst l=>exact pp.elim
    | dct l =>
      simp only at pp
      obtain⟨kvs,q1,q2,q3⟩:=rs.hp.cel n _ a c ha
      refine⟨a,gM kvs (Sum.inl i),rfl,zH.k (k:=Sum.inl i) q1,?_⟩
      have e:(gM kvs (Sum.inl i)).isSome=(l7 l i).isSome:=by
        rcases tW i q2 q3 with ⟨e1,e2⟩|⟨d,v,e1,e2,_⟩<;>rw [e1,e2]<;>rfl
      rw [e]
      exact pp.here rs (by simp only [rD,RD])
def EJ:V→V→V→Hp→(Hp→Prop)→Prop:=fun o i v H Q=>∃ a H',o=.ref a∧zI H a i v H'∧Q H'
theorem zM (hu:X.A.units + 1 < cLine):CP X EJ:=by
  intro pins s σ H o i v ov iv u Q I ro ri rv h
  obtain⟨a,H',rfl,g,q⟩:=h
  obtain rfl:ov=Value.ref a:=ro
  exact xQ hu I g ri rv fun s' I'=>⟨H',I',q⟩
theorem w8 {o i e:Expr}{fo fi fe:EF}{p2:Pos}(hu:X.A.units + 1 < cLine)(he:ME X e fe)(ho:ME X o fo)(hi:ME X i fi)(hs:swapsWithSole [.Subscript o i p2] e pos.line X.env=pure false:=by rfl)(hw:swappedStores [.Subscript o i p2] e X.env=pure none:=by rfl)
    (h1:(assignEach [.Subscript o i p2] X.env).map (·.2)=[assign (.Subscript o i p2) X.env]:=by rfl) (ha:∀ v,assign (.Subscript o i p2) X.env v=(do
      let ov ← holding [v] (eval o X.env)
      let iv ← holding [v,ov] (eval i X.env)
      standAt p2
      holding [v,ov,iv] (setItem ov iv v)
      release [v,ov,iv] []):=by intro _;rfl):MS X (.Assign [.Subscript o i p2] e pos) (l8 fo fi fe):=by
  refine PS.imp (vh he (y3 ho hi (zM hu) ha) hs hw h1) fun En σ H ⟨ρ,σd,hd,rs,p⟩=>⟨ρ,σd,hd,rs,(bv.outE p).imp fun v H1 ⟨ρ1,d,hd1,e1,rs1,rv,p1⟩ => ?_⟩
  refine⟨ρ1,σd,hd1,rs1,(bv.outE p1).imp fun vo H2 ⟨ρ2,dO,hd2,e2,rs2,ro,p2⟩ => ?_⟩
  refine⟨ρ2,σd,hd2,rs2,(bv.outE p2).imp fun vi H3 ⟨ρ3,di,hd3,e3,rs3,ri,p3⟩ => ?_⟩
  have rv3:=(rv.mono (rs1.hp.kp e2)).mono (rs2.hp.kp e3)
  have ro3:=ro.mono (rs2.hp.kp e3)
  cases dO with
  | ref n =>
    cases di with
    | int j =>
      simp only at p3
      cases c:hd3[n]? with
      | none=>rw [c] at p3;exact p3.elim
      | some cell =>
        rw [c] at p3
        cases cell with
        | lst l=>exact p3.elim
        | dct l =>
          simp only at p3
          split at p3
          · rename_i hz
            simp only [RD] at ro3 ri
            subst ri
            obtain⟨a,ha,rfl⟩:=ro3
            obtain⟨kvs,q1,q2,q3⟩:=rs3.hp.cel n _ a c ha
            have hl:kvs.length=l.length:=by have:=congrArg List.length q2;simpa using this
            refine⟨a,_,rfl,zI.k (k:=Sum.inl j) q1 (by rw [hl];exact Nat.lt_of_lt_of_le hz (by rw [sizeLine_eq];decide)),?_⟩
            have hn:n < hd3.length:=(List.getElem?_eq_some_iff.mp c).1
            obtain⟨u1,u2⟩:=zL j rv3 q2 q3
            have rh:=rs3.hp.writeD ha hn u1 u2
            have ex:Ext ρ3 H3 ρ3 (upd H3 a (.dK (i3 kvs (Sum.inl j) v))):=Ext.write (List.mem_of_getElem? ha)
            exact p3 σ _ ρ3 ex (rs3.ext ex rh)
          · exact p3.elim
    | _=>exact p3.elim
  | _=>exact p3.elim
end
end Fm
set_option Elab.async false
set_option linter.all false
set_option maxRecDepth 100000
namespace Fm
open PySem PySem.Spec L2 PySem.W PyProof.Rows
section
variable {X:Cx} {pos p:Pos}
theorem pY {P:Program}{w:World}{H:Hp}{h h':Heap}(hok:HOk P w H h)(hk:∀ b o xs,H b=some (.tup xs)→h.get? b=some o→h'.get? b=some o):∀ {vs:List V} {rs:List (List Int)} {its:List Value},b4 H vs rs→aL vs its→(rs.all fun x => !x.isEmpty)=true →
    ∃ fs,KatTups h' its fs∧fs.length=its.length ∧ ∀ v∈fs,∃ i t,v=Value.int i t
  | _,_,_,.nil,.nil,_=>⟨[],.nil,rfl,fun v hv=>by simp at hv⟩
  | _,_,_,.cons (a:=a) (r:=r) ha t,.cons rv rt,hne=>by
    simp only [List.all_cons,Bool.and_eq_true,Bool.not_eq_true'] at hne
    obtain⟨fs,h1,h2,h3⟩:=pY hok hk t rt hne.2
    obtain⟨z,its0,r0,o,ho,hc,n,hd⟩:=hok a _ ha
    cases r with
    | nil=>simp at hne
    | cons i r =>
      cases r0 with
      | cons q0 qr =>
        rename_i u us
        obtain⟨tk,rfl⟩:=qP q0
        cases rv
        refine⟨.int i tk :: fs,KatTups.cons (hk a o _ ha ho) hc hd (by simp) h1,by simp [h2],fun v hv => ?_⟩
        rcases List.mem_cons.mp hv with rfl|hv
        · exact⟨i,tk,rfl⟩
        · exact h3 v hv
theorem Dw {pins:List (Addr × Obj)}{σ:L2.St}{H:Hp}{s:Shared}{B:Addr}{vs:List V}{rs:List (List Int)}{A:Around}{E:Value→Shared→Prop}{Q:Value→Shared→Prop}(I:Inv X pins σ H s)(hB:H B=some (.lst vs))(h64:vs.length < 64)(rv:b4 H vs rs)(nd:rs.Nodup)(hne:(rs.all fun x => !x.isEmpty)=true)
    (q:∀ vs' s',b4 H vs' (b9 rs)→Inv X pins σ (upd H B (.lst vs')) s'→Q .none s'):wpAny (model X.prog X.w) A (call (.builtin "list.sort") [.ref B]) Q E s:=by
  obtain⟨hz,its,n0,rvs,ho⟩:=I.hok B _ hB
  have hlen:its.length=vs.length:=rvs.length.symm
  obtain⟨m,hm,_⟩:=id I.loc
  have nL:∀ b u,H b=some u→b≠X.env.locals:=fun b u e z=>by rw [z,I.free] at e;cases e
  have BL:=nL B _ hB
  have selfUpd:∀ vs',vs'=vs→upd H B (.lst vs')=H:=fun vs' e=>by
    subst e
    funext b
    by_cases z:b=B
    · subst z;rw [aV,hB]
    · rw [az z]
  have after:∀ (h2:Heap) (its':List Value) (vs':List V) (c t':Nat),b4 H vs' (b9 rs)→aL vs' its'→vs'.length≤sizeLine→h2.get? B=some (PySem.W.listOf its'.toArray c)→(∀ b o,b≠X.env.locals→b≠B→s.heap.get? b=some o→h2.get? b=some o)→h2.Ns X.env.locals m→Inv X pins σ (upd H B (.lst vs')) { s with heap:=h2,toks:=t' }:=fun h2 its' vs' c t' rv' rvs' hz' hB2 keep2 ns2=>by
    have I2:L2.Inv X pins σ (upd H B (.lst vs')) { s with heap:=h2,gens:=s.gens,drawn:=s.drawn,toks:=t' }:=by
      refine I.step (g':=s.gens) (d':=s.drawn) (t':=t') (ch:=[]) (fun _ z=>nomatch z) (fun b o hb _ _ e n=>keep2 b o hb (fun z=>by subst z;rw [hB] at n;cases n) e) (fun b o hb _ _ e n=>⟨o.slots,keep2 b o hb (fun z=>by subst z;rw [hB] at n;cases n) e⟩) (fun b o _ e n=>by rw [az (fun z=>by subst z;rw [hB] at n;cases n)];exact n) (fun b o _ e => ?_)
        (fun b ys e=>by rw [az (fun z=>by subst z;rw [hB] at e;cases e)];exact e) (fun b o u e=>by rw [az (fun z=>by subst z;rw [hB] at e;cases e)];exact e) (fun b ps e=>⟨#[],by rw [az (fun z=>by subst z;rw [hB] at e;cases e),e];simp⟩) (fun m' hm'=>by rw [Do hm' hm];exact ns2) (fun b u e => ?_) I.bare
      · by_cases hb:b=X.env.locals
        · obtain⟨o',_,_,ho',_⟩:=ns2
          rw [hb];exact⟨o',ho'⟩
        · by_cases hb2:b=B
          · subst hb2;exact⟨_,hB2⟩
          · exact⟨o,keep2 b o hb hb2 e⟩
      · by_cases hb:b=B
        · subst hb
          rw [aV] at e
          cases e
          exact⟨hz',its',c,rvs',hB2⟩
        · rw [az hb] at e
          refine (I.hok b u e).stay (fun c v hc z => ?_) (fun c z=>by rw [az (fun y=>by subst y;rw [hB] at z;cases z)];exact z) fun c ys z=>by rw [az (fun y=>by subst y;rw [hB] at z;cases z)];exact z
          rcases hc with w|w
          · subst w;exact keep2 c v (nL c _ e) hb z
          · exact keep2 c v (nL c _ w) (fun y=>by subst y;rw [hB] at w;cases w) z
    exact I2
  by_cases h2:its.length < 2
  · have hs:b9 rs=rs:=by
      have:rs.length < 2:=by rw [← rv.length];omega
      match rs,this with
      | [],_=>rfl
      | [_],_=>rfl
    have ha:B < s.heap.objs.size:=Heap.lt_size ho
    have ho':s.heap.get? B=some (seqObj "list" its.toArray n0):=ho
    refine wpAny_call_entry slot_list_sort ⟨_,ho,rfl⟩ entry_list_sort (vE ho' h2 ⟨_,rfl,?_⟩) (args_list_sort _)
    obtain⟨e1,ho1⟩ : ∃ e1,(s.heap.update B (Obj.mapSeq fun _ => #[])).get? B=some (seqObj "list" #[] e1):=⟨_,get?_update_seq ho' (fun _ => #[])⟩
    have ho6:(((s.heap.update B (Obj.mapSeq fun _ => #[])).push (seqObj "tuple" its.toArray 0)).push (seqObj "list" #[] 0)).get? B=some (seqObj "list" #[] e1):=by
      rw [Heap.get?_push_ne _ _ _ (by rw [size_push',Heap.size_update];exact Nat.ne_of_lt (Nat.lt_succ_of_lt ha)),Heap.get?_push_ne _ _ _ (by rw [Heap.size_update];exact Nat.ne_of_lt ha)]
      exact ho1
    have keepS:∀ b o,b≠B→s.heap.get? b=some o→(sortedHeap s.heap B its its.toArray).get? b=some o:=fun b o hb e=>by
      have hlt:b < s.heap.objs.size:=Heap.lt_size e
      unfold sortedHeap
      rw [Heap.get?_update_ne _ _ _ _ hb,Heap.get?_push_ne _ _ _ (by rw [size_push',Heap.size_update];exact Nat.ne_of_lt (Nat.lt_succ_of_lt hlt)),Heap.get?_push_ne _ _ _ (by rw [Heap.size_update];exact Nat.ne_of_lt hlt),Heap.get?_update_ne _ _ _ _ hb]
      exact e
    have ns2:(sortedHeap s.heap B its its.toArray).Ns X.env.locals m:=by
      obtain⟨o',es,ep,h1,r⟩:=hm
      exact⟨o',es,ep,keepS _ _ (Ne.symm BL) h1,r⟩
    refine q vs _ (by rw [hs];exact rv) (after _ its vs _ s.toks (by rw [hs];exact rv) rvs hz (get?_update_seq ho6 _) (fun b o _ hb e=>keepS b o hb e) ns2)
  · have N0:News (Att.noObjs s.heap) X.env.locals s.heap ((B,PySem.W.listOf its.toArray n0) :: Att.ledger s.heap X.env.locals B):=fun ⟨b,o⟩ hb=>by
      rcases List.mem_cons.mp hb with e|hb
      · cases e
        exact⟨ho,BL,Att.noObjs_get _ _⟩
      · obtain⟨n1,n2,e⟩:=Att.mem_ledger.mp hb
        exact⟨e,n1,Att.noObjs_get _ _⟩
    have hDn:∀ q∈Att.ledger s.heap X.env.locals B,q.1≠B:=fun ⟨b,o⟩ hq=>(Att.mem_ledger.mp hq).2.1
    refine kat_lsort (vs:=its) (Att.fr_all hm) N0 (UpdF.head hDn) (by simp) (by omega) (by omega) fun e1 h' F' N' => ?_
    have inN:∀ b o,b≠X.env.locals→b≠B→s.heap.get? b=some o→(b,o)∈Att.ledger s.heap X.env.locals B:=fun b o hb hb2 e=>Att.mem_ledger.mpr ⟨hb,hb2,e⟩
    have keep':∀ b o,b≠X.env.locals→b≠B→s.heap.get? b=some o→h'.get? b=some o:=fun b o hb hb2 e=>(N' (b,o) (List.mem_cons_of_mem _ (inN b o hb hb2 e))).1
    obtain⟨fs,t1,t2,t3⟩:=pY I.hok (h':=h') (fun b o xs hb e=>keep' b o (nL b _ hb) (fun z=>by subst z;rw [hB] at hb;cases hb) e) rv rvs hne
    refine kat_kind (s:={ s with heap:=h' }) (T:=.type "int") t1 (by omega) (fun v hv => ?_) rfl ?_
    · obtain⟨i,t,rfl⟩:=t3 v hv
      exact Looks.of_pure rfl
    · have hT:(Value.type "int" != Value.type "tuple")=true:=by decide
      rw [hT]
      have hrl:rs.length=its.length:=by rw [← rv.length,hlen]
      have dif:∀ i j,i < its.length→j < its.length→i≠j→rs.getD i []≠rs.getD j []:=fun i j hi hj hij z=>by
        have e1:rs.getD i [] = rs[i]'(by omega):=by simp [List.getD,show i < rs.length by omega]
        have e2:rs.getD j [] = rs[j]'(by omega):=by simp [List.getD,show j < rs.length by omega]
        rw [e1,e2] at z
        exact hij ((List.getElem_inj nd).mp z)
      have O:Ord (fun i j=>Fm.bJ (rs.getD i []) (rs.getD j [])) its.length:=⟨fun i j _ _ h=>kB h,fun i j k _ _ _ h h'=>eU h h',fun i j hi hj hij h=>j5 (dif i j hi hj hij) h⟩
      refine tU O (fun i j hi hj C hC => ?_) (by omega) fun pp g srt => ?_
      · unfold kas_ask
        have at':∀ i,i < its.length → ∃ b,its.getD i Value.none=.ref b ∧ ∃ (o:Obj) (zs:List Value) (n:Nat),h'.get? b=some o∧o.data=.seq zs.toArray n∧IntsAre zs (rs.getD i []):=fun i hi=>by
          have hv:vs[i]? = some (vs[i]'(by omega)):=by simp [show i < vs.length by omega]
          obtain⟨b,e1,e2⟩:=rv.get hv
          obtain⟨u,hu,ru⟩:=rvs.get hv
          rw [e1] at ru
          cases (show u=Value.ref b from ru)
          obtain⟨z,zs,r0,o,ho,hc,n,hd⟩:=I.hok b _ e2
          exact⟨b,by simp [List.getD,hu],o,zs,n,keep' b o (nL b _ e2) (fun z=>by subst z;rw [hB] at e2;cases e2) ho,hd,vv r0⟩
        obtain⟨b1,x1,o1,z1,n1,y1,d1,i1⟩:=at' i hi
        obtain⟨b2,x2,o2,z2,n2,y2,d2,i2⟩:=at' j hj
        rw [x1,x2]
        refine kat_lt (s:={ s with heap:=h' }) y1 d1 y2 d2 ?_
        have:=Dn (prog:=X.prog) (w:=X.w) (A:=A.in1) (s:={ s with heap:=h' }) (Q:=C) (rs.getD i []) (rs.getD j []) 0 i1 i2 hC
        simpa using this
      · have pmL:pp.toList.Perm (List.range its.length):=by simpa using Array.perm_iff_toList_perm.mp g.pm
        have inR:∀ i∈pp.toList,i < vs.length:=fun i hi=>by
          have:=pmL.mem_iff.mp hi
          rw [← hlen];simpa using this
        obtain⟨vs',hvs'⟩ : ∃ vs',vs'=pp.toList.map fun i=>vs.getD i .non:=⟨_,rfl⟩
        obtain⟨its',hits'⟩ : ∃ its',its'=pp.toList.map fun i=>its.getD i Value.none:=⟨_,rfl⟩
        have rv':b4 H vs' (b9 rs):=by
          have e:(pp.toList.map fun i=>rs.getD i [])=b9 rs:=by
            refine xO (?_:List.Perm _ _) ?_ (hU nd)
            · refine ((pmL.map fun i=>rs.getD i []).trans ?_).trans (e8 rs).symm
              have:((List.range its.length).map fun i=>rs.getD i [])=rs:=by
                apply List.ext_getElem?
                intro i
                by_cases hi:i < rs.length
                · have:i < its.length:=by omega
                  simp [List.getD,hi,this]
                · have : ¬ i < its.length:=by omega
                  simp [hi,this]
              rw [this]
            · rw [List.pairwise_map]
              rw [List.pairwise_iff_getElem]
              intro i j hi hj hij
              have s1:=srt i j hij (by rw [← g.sz];simpa using hj)
              have g1:pp.getD i 0=pp.toList[i]:=by simp [Array.getD,show i < pp.size by simpa using hi]
              have g2:pp.getD j 0=pp.toList[j]:=by simp [Array.getD,show j < pp.size by simpa using hj]
              rw [g1,g2] at s1
              exact s1
          have:=rv.pick pp.toList inR
          rw [e,← hvs'] at this
          exact this
        have rvs':aL vs' its':=by rw [hvs',hits'];exact aL.pick rvs pp.toList inR
        have hz':vs'.length≤sizeLine:=by
          have l1:vs'.length=its.length:=by rw [hvs',List.length_map,pmL.length_eq,List.length_range]
          rw [l1,hlen];exact hz
        rw [← hits']
        refine KasFin.intro F' N' (UpdF.head hDn) fun h2 c F2 N2 => ?_
        have hD2:h2.get? B=some (PySem.W.listOf its'.toArray c):=(N2 (B,_) (List.mem_cons_self ..)).1
        have keep2:∀ b o,b≠X.env.locals→b≠B→s.heap.get? b=some o→h2.get? b=some o:=fun b o hb hb2 e=>(N2 (b,o) (List.mem_cons_of_mem _ (inN b o hb hb2 e))).1
        exact q vs' _ rv' (after h2 its' vs' c s.toks rv' rvs' hz' hD2 keep2 F2.ns)
end
end Fm
set_option Elab.async false
set_option linter.all false
set_option maxRecDepth 100000
namespace Fm
open PySem PySem.Spec L2 PySem.W PyProof.Rows
section
variable {X:Cx} {pos p:Pos}
def qT (p d:Addr):Heap→Prop:=fun h=>h.get? p=some { cls:=.type "dict_items",data:=.fields #[.ref d] }
def Dx (td:TE):TE:=fun σ H Q=>td σ H fun x H1=>∃ a kvs,x=.ref a∧H1 a=some (.dK kvs) ∧ ∀ p,H1 p=none→Q (.ref p) (upd H1 p (.ext (qT p a)))
theorem zN {o:Expr} {td:TE} {apos cpos:Pos} (ho:PE X o td) (hbase:attributeBase o "items" X.env (eval o X.env)=eval o X.env:=by rfl) (hline:(apos.endLine == cpos.line)=true:=by rfl) :
    PE X (.Call (.Attribute o "items" apos) [] [] cpos) (Dx td):=by
  intro pins s σ H Q I h
  refine wpAny_Call_method0_late hbase hline (thn (ho pins s σ H _ I h) fun v s1 ⟨x,H1,I1,r1,a,kvs,ex,e,q1⟩ => ?_)
  subst ex
  obtain rfl:v=Value.ref a:=r1
  obtain⟨t1,t2,hs⟩:=Dt I1 (.inl ⟨kvs,.inl e⟩)
  obtain⟨_,hd,vs,_,dd⟩:=zF I1.hok e
  refine⟨"dict", "dict.items",PySem.F.plainAttrs_dict,PySem.F.slot_dict_items,PySem.F.type_dict_items,t1,t2,Calls.callWith_builtin rfl (PySem.evalArgs_none ?_)⟩
  refine call_meetsIn PySem.F.slot_dict_items t1 PySem.F.entry_dict_items (PySem.F.args_dict_items_1 _) (meets_dict_items (b6 X.prog X.w) a hd) ⟨⟨vs,dd⟩,?_⟩
  refine⟨.ref s1.heap.objs.size,_,I1.laid (t':=s1.toks) (o:=.ext (qT s1.heap.objs.size a)) (fun b ob q=>Heap.get?_push_of_some _ q) (Nat.le_refl _) ⟨Heap.get?_push_size _ rfl,⟨_,Heap.get?_push_size _ rfl⟩,fun h1 h2 f k=>k _ f⟩,rfl,q1 _ (I1.hok.fresh (Nat.le_refl _))⟩
theorem zO {pins:List (Addr × Obj)}{σ:L2.St}{H H':Hp}{s:Shared}{h':Heap}{t':Nat}(I:Inv X pins σ H s)(keep:∀ b o,s.heap.get? b=some o→h'.get? b=some o)(sm:eR H H')(fresh:∀ b,b < s.heap.objs.size→H' b=H b)(new:∀ b u,s.heap.objs.size≤b→H' b=some u→cB X.prog X.w H' h' b u ∧ ∀ c,u ≠ .own c):Inv X pins σ H' { s with heap:=h',toks:=t' }:=by
  have I2:L2.Inv X pins σ H' { s with heap:=h',gens:=s.gens,drawn:=s.drawn,toks:=t' }:=by
    refine I.step (g':=s.gens) (d':=s.drawn) (t':=t') (ch:=[]) (fun _ z=>nomatch z) (fun b o _ _ _ e _=>keep b o e) (fun b o _ _ _ e _=>⟨o.slots,keep b o e⟩) (fun b o _ e n=>by rw [fresh b (Heap.lt_size e)];exact n) (fun b o _ e=>⟨o,keep b o e⟩)
      (fun b ys e=>sm _ _ e) (fun b o u e=>sm _ _ e) (fun b ps e=>⟨#[],by rw [sm _ _ e];simp⟩) (fun m hm => ?_) (fun b u e => ?_) I.bare
    · obtain⟨o',es,ep,h1,r⟩:=hm
      exact⟨o',es,ep,keep _ _ h1,r⟩
    · by_cases hb:b < s.heap.objs.size
      · rw [fresh b hb] at e
        refine (I.hok b u e).stay (fun c v hc z=>keep c v z) (fun c z=>sm _ _ z) fun c ys z=>sm _ _ z
      · exact (new b u (Nat.le_of_not_lt hb) e).1
  exact I2
def ov:List Addr→List (List Int)→Hp→Hp
  | a :: as,r :: rs,H=>upd (ov as rs H) a (.tup (r.map V.int))
  | _,_,H=>H
theorem w9 {b:Addr}{H:Hp}:∀ {as:List Addr} {rs:List (List Int)},b∉as→ov as rs H b=H b
  | [],_,_=>rfl
  | a :: as,[],_=>rfl
  | a :: as,r :: rs,h=>by
    have h1:b≠a:=fun z=>h (by simp [z])
    have h2:b∉as:=fun z=>h (by simp [z])
    show upd _ _ _ b=_
    rw [az h1,w9 h2]
theorem zP {H:Hp}:∀ {as:List Addr} {rs:List (List Int)} {j:Nat} {a:Addr} {r:List Int},as.Nodup→as[j]? = some a→rs[j]? = some r→ov as rs H a=some (.tup (r.map V.int))
  | [],_,_,_,_,_,e,_=>by simp at e
  | a :: as,[],_,_,_,_,_,e=>by simp at e
  | a :: as,r :: rs,0,_,_,_,e,e'=>by simp at e e';subst e e';exact aV
  | a :: as,r :: rs,j + 1,b,q,nd,e,e'=>by
    obtain⟨n1,n2⟩:=List.nodup_cons.mp nd
    have e:as[j]? = some b:=by simpa using e
    have hb:b≠a:=fun z=>n1 (by rw [← z];exact List.mem_of_getElem? e)
    show upd _ _ _ b=_
    rw [az hb]
    exact zP n2 e (by simpa using e')
theorem b4.mono {H H':Hp}(k:∀ a xs,H a=some (.tup xs)→H' a=some (.tup xs)):∀ {vs:List V} {rs:List (List Int)},b4 H vs rs→b4 H' vs rs
  | _,_,.nil=>.nil
  | _,_,.cons h t=>.cons (k _ _ h) (b4.mono k t)
theorem xa {H':Hp}:∀ {as:List Addr} {rs:List (List Int)},as.length=rs.length→(∀ (j:Nat) a r,as[j]? = some a→rs[j]? = some r→H' a=some (.tup (r.map V.int)))→b4 H' (as.map V.ref) rs
  | [],[],_,_=>.nil
  | [],_ :: _,h,_=>by simp at h
  | _ :: _,[],h,_=>by simp at h
  | a :: as,r :: rs,h,f=>.cons (f 0 a r rfl rfl) (xa (by simpa using h) fun j b q e e'=>f (j + 1) b q (by simpa using e) (by simpa using e'))
def Dy:List V→Hp→VK→Prop:=fun xs H Q=>∃ (p a:Addr) (ps:List (Int × Int)),xs=[.ref p]∧H p=some (.ext (qT p a))∧H a=some (.dK (ps.map fun q=>((Sum.inl q.1:Key),V.int q.2)))∧ps.length < 64∧(ps.map fun q=>[q.1,q.2]).Nodup ∧
  ∀ H' q vs',eR H H'→H q=none→H' q=some (.lst vs')→b4 H' vs' (b9 (ps.map fun q=>[q.1,q.2]))→Q (.ref q) H'
theorem EK {κ : Type}{kvs:List (κ × V)}{vs:List (κ × Value)}(r:KV kvs vs):∀ {j:Nat} {k : κ} {x:Value} {k' : κ} {v:V},vs[j]? = some (k,x)→kvs[j]? = some (k',v)→k'=k∧bf v x:=by
  induction r with
  | nil=>intro j k x k' v e;simp at e
  | cons h t ih =>
    intro j k x k' v e e'
    cases j with
    | zero=>simp at e e';subst e e';exact h
    | succ j=>exact ih (by simpa using e) (by simpa using e')
theorem vH (hc:X.calm=true):d9 X (.builtin "sorted") Dy:=by
  intro pins s σ H xs us Q I r h
  obtain⟨p,a,ps,rfl,hp,ha,h64,nd,q⟩:=h
  obtain⟨u,rfl,ru⟩:=aL.one r
  cases (show u=Value.ref p from ru)
  obtain⟨rs,hrs⟩ : ∃ rs,rs=ps.map fun q=>[q.1,q.2]:=⟨_,rfl⟩
  rw [← hrs] at nd q
  have view:qT p a s.heap:=(I.hok p _ hp).1
  obtain⟨hz,_,vs,rel,dd⟩:=zF I.hok ha
  have lv:vs.length=ps.length:=by rw [← rel.length];simp
  obtain⟨o,es,ep,d1,d2⟩:=id dd
  have dat:s.heap.DictAt (b6 X.prog X.w) a vs ep:=⟨o,es,d1,d2⟩
  refine Calls.call_function_entry kind_sorted plain_sorted entry_sorted (args_sorted1 _) ?_
  unfold Builtin.«sorted»
  refine wpAny_bind (m:=checkCount "sorted" 1 1 _) (wpAny_pure ?_)
  refine wpAny_bind (kdx_collect (A:=X.A.in1) (knd:=b6 X.prog X.w) (kvs:=vs) (ep:=ep) (I.ok.hd hc) ⟨_,view,rfl,rfl⟩ dat (by rw [lv,sizeLine_eq];omega) fun h' tk as hk hl hG => ?_)
  have ndA:as.Nodup:=hG.rise.imp fun h=>Nat.ne_of_lt h
  have lr:as.length=rs.length:=by rw [hl,lv,hrs];simp
  have newA:∀ b∈as,s.heap.objs.size≤b:=fun b hb=>Nat.le_of_lt (hG.above b hb)
  have sm:eR H (ov as rs H):=fun b u e=>by
    rw [w9]
    · exact e
    · intro z
      exact absurd (I.hok.lt e) (Nat.not_lt.mpr (newA b z))
  have I1:Inv X pins σ (ov as rs H) { s with heap:=h',toks:=tk }:=by
    refine zO I hk sm (fun b hb=>w9 fun z=>absurd hb (Nat.not_lt.mpr (newA b z))) fun b u hb e => ?_
    by_cases hm:b∈as
    · obtain⟨j,hj⟩:=List.getElem?_of_mem hm
      have hjl:j < as.length:=(List.getElem?_eq_some_iff.mp hj).1
      obtain⟨key,k,x,e1,e2,e3⟩:=hG.pairs j b hj
      obtain⟨pq,hpq⟩ : ∃ pq,ps[j]? = some pq:=⟨ps[j]'(by omega),by simp [show j < ps.length by omega]⟩
      have hr:rs[j]? = some [pq.1,pq.2]:=by rw [hrs,List.getElem?_map,hpq];rfl
      rw [zP ndA hj hr] at e
      cases e
      refine⟨?_,fun c z=>by cases z⟩
      obtain⟨hkk,rx⟩:=EK rel e1 (show (ps.map fun q=>((Sum.inl q.1:Key),V.int q.2))[j]? = some (Sum.inl pq.1,V.int pq.2) by rw [List.getElem?_map,hpq];rfl)
      obtain⟨t,rfl⟩:=qP rx
      subst hkk
      have:∃ t',key=Value.int pq.1 t':=Value.isInt_shape e2
      obtain⟨t',rfl⟩:=this
      exact⟨by simp [sizeLine_eq],[_,_],.cons ⟨t',rfl⟩ (.cons ⟨t,rfl⟩ .nil),_,e3,rfl,_,rfl⟩
    · rw [w9 hm] at e
      exact absurd (I.hok.lt e) (Nat.not_lt.mpr hb)
  refine wpAny_bind (wpAny_newList ?_ (by rw [List.length_map,hl,lv,sizeLine_eq];omega))
  have rvA:aL (as.map V.ref) (as.map Value.ref):=by
    clear hl hG ndA lr newA sm I1 q
    induction as with
    | nil=>exact .nil
    | cons a as ih=>exact .cons rfl ih
  have I2:Inv X pins σ (upd (ov as rs H) h'.objs.size (.lst (as.map V.ref))) { s with heap:=h'.push { cls:=.type "list",data:=.seq (as.map Value.ref).toArray },toks:=tk }:=I1.lnew (t':=tk) rvA (by rw [List.length_map,hl,lv,sizeLine_eq];omega)
  have fr:ov as rs H h'.objs.size=none:=I1.hok.fresh (Nat.le_refl _)
  have sm2:eR (ov as rs H) (upd (ov as rs H) h'.objs.size (.lst (as.map V.ref))):=bO fr
  have rowsA:b4 (upd (ov as rs H) h'.objs.size (.lst (as.map V.ref))) (as.map V.ref) rs:=xa lr fun j b r e e'=>sm2 _ _ (zP ndA e e')
  have hne:(rs.all fun x => !x.isEmpty)=true:=by rw [hrs,List.all_map,List.all_eq_true];intro q _;rfl
  refine wpAny_bind (wpAny_holding (Dw (A:=X.A.in1) I2 aV (by rw [List.length_map,hl,lv];exact h64) rowsA nd hne fun vs' s' rv' I3=>wpAny_pure ⟨_,rfl,?_⟩))
  have uu:upd (upd (ov as rs H) h'.objs.size (.lst (as.map V.ref))) h'.objs.size (.lst vs')=upd (ov as rs H) h'.objs.size (.lst vs'):=by
    funext b
    by_cases z:b=h'.objs.size
    · subst z;rw [aV,aV]
    · rw [az z,az z,az z]
  rw [uu] at I3
  refine⟨.ref h'.objs.size,_,I3,rfl,q _ _ vs' (fun b u e=>bO fr _ _ (sm _ _ e)) ?_ aV ?_⟩
  · cases e:H h'.objs.size with
    | none=>rfl
    | some u=>rw [sm _ _ e] at fr;cases fr
  · refine rv'.mono fun b ys e => ?_
    have hb:b≠h'.objs.size:=fun z=>by subst z;rw [aV] at e;cases e
    rw [az hb] at e ⊢
    exact e
theorem kD:∀ {l:List (Int × D)} {r:List (List Int)},dz l=some r → ∃ ps:List (Int × Int),l=ps.map (fun q=>(q.1,D.int q.2))∧r=ps.map fun q=>[q.1,q.2]
  | [],r,e=>by simp only [dz] at e;cases e;exact⟨[],rfl,rfl⟩
  | (k,d) :: l,r,e=>by
    cases d<;>simp only [dz] at e<;>try (cases e;done)
    rename_i v
    cases c:dz l with
    | none=>rw [c] at e;cases e
    | some r' =>
      rw [c] at e
      cases e
      obtain⟨ps,rfl,rfl⟩:=kD c
      exact⟨(k,v) :: ps,rfl,rfl⟩
theorem zQ {K:PySem.W.Frag}{ρ:List Addr}{H:Hp}:∀ {ps:List (Int × Int)} {kvs:List (Key × V)},kvs.map (·.1)=(ps.map fun q=>(q.1,D.int q.2)).map (fun p=>(Sum.inl p.1:Key))→RDs K ρ H ((ps.map fun q=>(q.1,D.int q.2)).map (·.2)) (kvs.map (·.2))→kvs=ps.map fun q=>((Sum.inl q.1:Key),V.int q.2)
  | [],[],_,_=>rfl
  | [],_ :: _,h,_=>by simp at h
  | _ :: _,[],h,_=>by simp at h
  | (j,d) :: ps,(kk,v) :: kvs,h1,h2=>by
    simp only [List.map_cons,List.cons.injEq] at h1
    simp only [List.map_cons,RDs] at h2
    obtain⟨v',r',e,q1,q2⟩:=h2
    cases e
    obtain⟨e1,e2⟩:=h1
    subst e1
    simp only [RD] at q1
    subst q1
    rw [zQ e2 q2]
    rfl
theorem zR {o:Expr} {fo:EF} {apos cpos:Pos} (hc:X.calm=true) (hg:Gl X "sorted") (hm:X.mg "sorted" = none) (ho:ME X o fo)
    (hs:starEach [.Call (.Attribute o "items" apos) [] [] cpos] X.env=(false,eval (.Call (.Attribute o "items" apos) [] [] cpos) X.env) :: starEach [] X.env:=by rfl)
    (hbase:attributeBase o "items" X.env (eval o X.env)=eval o X.env:=by rfl) (hline:(apos.endLine == cpos.line)=true:=by rfl) :
    MF X (.Call (.Name "sorted" p) [.Call (.Attribute o "items" apos) [] [] cpos] [] pos) (i0 fo):=by
  refine PE.imp (gR (vH hc) hg hm (by decide +kernel) (bE (zN ho hbase hline) df hs) (he:=hs)) fun σ H Q ⟨ρ,σd,hd,rs,pp⟩=>⟨ρ,σd,hd,rs,?_⟩
  unfold i0 at pp
  cases e:fo σd hd with
  | exc x h'=>rw [e] at pp;exact pp
  | bad=>rw [e] at pp;exact pp
  | ok d hd1 =>
    rw [e] at pp
    simp only [aI] at pp
    intro v H1 ρ1 e1 rs1 rv
    cases d<;>try exact pp.elim
    rename_i n
    simp only at pp
    simp only [rD,RD] at rv
    obtain⟨a,ha,rfl⟩:=rv
    cases c:hd1[n]? with
    | none=>rw [c] at pp;exact pp.elim
    | some cell =>
      rw [c] at pp
      cases cell with
      | lst l=>exact pp.elim
      | dct l =>
        simp only at pp
        cases c2:dz l with
        | none=>rw [c2] at pp;exact pp.elim
        | some r =>
          rw [c2] at pp
          simp only at pp
          split at pp
          · rename_i hz
            obtain⟨ps,rfl,rfl⟩:=kD c2
            obtain⟨kvs,q1,q2,q3⟩:=rs1.hp.cel n _ a c ha
            have hk:=zQ q2 q3
            subst hk
            refine⟨a,_,rfl,q1,fun q hq=>⟨q,a,ps,rfl,aV,by rw [az (bg q1 hq)];exact q1,by simpa using hz.1,hz.2,fun H' q' vs' sm hq' hl' rv' => ?_⟩⟩
            have sm1:eR H1 H':=fun b u eb=>sm _ _ (bO hq _ _ eb)
            have nq:q'≠q:=fun z=>by subst z;rw [aV] at hq';cases hq'
            rw [az nq] at hq'
            have hn:=rs1.hp.free hq'
            exact pp q' vs' H' ρ1 (e1.trans (Ext.same sm1)) (rs1.same sm1) (e1.fresh hq' hn) hl' hn rv'.rds
          · exact pp.elim
end
end Fm
set_option linter.all false
namespace Fm
@[simp] def vI (la:LF) (b:EF):LF:=fun σ h=>(la σ h).bind fun l h=>(b σ h).bind fun y h=>match y with
  | .int n=>if 0≤n∧n≤1000∧l.length * n.toNat≤1000 then .ok (List.replicate n.toNat l).flatten h else .bad
  | _=>.bad
@[simp] def xR (x i e:EF):EF:=fun σ h=>(x σ h).bind fun p h=>match p with
  | .ref n=>match h[n]? with
    | some (.lst _)=>(i σ h).bind fun j h=>(e σ h).bind fun d h=>match j with
      | .int k=>match h[n]? with
        | some (.lst l)=>if 0≤k∧k≤l.length∧l.length < SZ then .ok .non (h.set n (.lst (l.take k.toNat++[d]++l.drop k.toNat))) else .bad
        | _=>.bad
      | _=>.bad
    | _=>.bad
  | _=>.bad
end Fm
set_option Elab.async false
set_option linter.all false
set_option maxRecDepth 100000
namespace Fm
open PySem PySem.Spec L2 PySem.W PyProof.Rows
section
variable {X:Cx} {pos p:Pos}
theorem pZ {K:PySem.W.Frag}{ρ:List Addr}{H:Hp}:∀ {l:List D} {vs:List V} {bs:List Bool},RDs K ρ H l vs→fD l=some bs→vs=bs.map V.bl
  | [],_,is,r,e=>by simp only [fD] at e;cases e;simp only [RDs] at r;subst r;rfl
  | d :: l,_,is,r,e=>by
    simp only [RDs] at r
    obtain⟨v,vs,rfl,h1,h2⟩:=r
    cases d<;>simp only [fD] at e<;>try (cases e;done)
    rename_i i
    cases c:fD l with
    | none=>rw [c] at e;cases e
    | some js =>
      rw [c] at e
      cases e
      simp only [RD] at h1
      rw [h1,pZ h2 c]
      rfl
theorem zS {bs:List Bool}{its:List Value}(r:aL (bs.map V.bl) its):∀ (i:Nat) (v:Value),its.toArray[i]? = some v→v=.bool (bs.getD i false):=by
  intro i v e
  have e':its[i]? = some v:=by simpa using e
  have hi:i < bs.length:=by
    have:=(List.getElem?_eq_some_iff.mp e').1
    have:=r.length
    simp at this
    omega
  obtain⟨u,hu,ru⟩:=r.get (i:=i) (x:=V.bl bs[i]) (by simp [hi])
  rw [hu] at e'
  cases e'
  rw [show v=Value.bool bs[i] from ru]
  simp [List.getD,hi]
theorem zT (bs:List Bool):(List.range bs.length).all (fun i=>bs.getD i false)=bs.all id:=by
  have:bs=(List.range bs.length).map fun i=>bs.getD i false:=by
    apply List.ext_getElem?
    intro i
    by_cases hi:i < bs.length<;>simp [List.getD,hi]
  conv=>rhs;rw [this]
  rw [List.all_map]
  rfl
theorem xS (hc:X.calm=true):d9 X (.builtin "all") (fun xs H Q=>∃ (p:Addr) (bs:List Bool),xs=[.ref p]∧(SqL X.K H p (bs.map V.bl)∨SqT X.K H p (bs.map V.bl))∧Q (.bl (bs.all id)) H):=by
  intro pins s σ H xs us Q I r q
  obtain⟨p,bs,rfl,sq,q⟩:=q
  obtain⟨u,rfl,ru⟩:=aL.one r
  cases (show u=Value.ref p from ru)
  have hA:(X.A.in1).handled=none:=I.ok.hd hc
  have tr:∀ (its:List Value),aL (bs.map V.bl) its→TruthOf X.prog X.w X.A.in1 (fun i v=>its.toArray[i]? = some v) (fun i=>bs.getD i false):=fun its rv i v s Q E hP hQ=>by
    rw [zS rv i v hP]
    exact wpAny_truthy_bool hQ
  have fin:∀ {it:Obj} {h':Heap} {tk:Nat} {n:Nat},n=bs.length→(∀ b o,b∉[s.heap.objs.size]→(s.heap.push it).get? b=some o→h'.get? b=some o)→EP X pins σ Q (.bool ((List.range n).all fun i=>bs.getD i false)) { s with heap:=h',toks:=tk }:=by
    intro it h' tk n hn hk
    subst hn
    refine⟨.bl (bs.all id),H,I.kept (t':=tk) fun b o e=>hk b o (by simp;exact Nat.ne_of_lt (Heap.lt_size e)) (Heap.get?_push_of_some _ e),by rw [zT];rfl,q⟩
  rcases sq with sq|sq
  · obtain⟨its,rv,pl,hz⟩:=I.list sq
    have il:s.heap.IsList p its.toArray:=pl.isList
    have hlt:p < s.heap.objs.size:=by obtain⟨o,ho,_⟩:=il;exact Heap.lt_size ho
    refine PySem.call_all_walk (PySem.wpAny_pyIter_list il ?_)
    refine⟨s.heap.objs.size,_,[s.heap.objs.size],_,_,_,fun i=>bs.getD i false,rfl,PySem.Walks.list hA s.heap.objs.size p (Nat.ne_of_lt hlt) its.toArray,⟨⟨_,Heap.get?_push_size _ rfl,rfl,rfl⟩,?_⟩,tr its rv,?_⟩
    · obtain⟨o,ho,r⟩:=il;exact⟨o,Heap.get?_push_of_some _ ho,r⟩
    · exact fun h' tk hk=>fin (by simpa using rv.length.symm) hk
  · obtain⟨its,rv,pl,hz⟩:=I.tuple sq
    have il:s.heap.IsTuple p its.toArray:=pl
    have hlt:p < s.heap.objs.size:=by obtain⟨o,ho,_⟩:=il;exact Heap.lt_size ho
    refine PySem.call_all_walk (PySem.wpAny_pyIter_tuple il ?_)
    refine⟨s.heap.objs.size,_,[s.heap.objs.size],_,_,_,fun i=>bs.getD i false,rfl,PySem.Walks.tuple hA s.heap.objs.size p (Nat.ne_of_lt hlt) its.toArray,⟨⟨_,Heap.get?_push_size _ rfl,rfl,rfl⟩,?_⟩,tr its rv,?_⟩
    · obtain⟨o,ho,r⟩:=il;exact⟨o,Heap.get?_push_of_some _ ho,r⟩
    · exact fun h' tk hk=>fin (by simpa using rv.length.symm) hk
theorem qU {a:Expr} {la:LF} (hc:X.calm=true) (hg:Gl X "all") (hm:X.mg "all" = none) (ha:MQ X a la) (hs:starEach [a] X.env=(false,eval a X.env) :: starEach [] X.env:=by rfl):ME X (.Call (.Name "all" p) [a] [] pos) (lU la):=by
  refine vy (g:=fun l h=>match fD l with|some bs=>.ok (.bl (bs.all id)) h|none=>.bad) (zu (xS hc) hg hm (by decide +kernel) (he:=hs)) ha (fun ρ H σd hd σ l q vs Q rs sq rvs p => ?_) hs
  cases c:fD l with
  | none=>simp only [c] at p;exact p.elim
  | some is =>
    simp only [c] at p
    have e:=pZ rvs c
    subst e
    exact⟨q,is,rfl,sq.imp id SqT.of,p.here rs (by simp only [rD,RD])⟩
theorem Dz {a b:Expr}{la:LF}{fb:EF}(ha:MF X a la)(hb:ME X b fb):MF X (.BinOp a .Mult b pos) (vI la fb):=by
  refine PE.imp (Cg C5 ha hb) fun σ H Q ⟨ρ,σd,hd,rs,pp⟩=>⟨ρ,σd,hd,rs,?_⟩
  unfold vI at pp
  cases e:la σd hd with
  | exc x h'=>rw [e] at pp;exact pp
  | bad=>rw [e] at pp;exact pp
  | ok l hd1 =>
    rw [e] at pp
    simp only [aI] at pp
    intro q vs H1 ρ1 e1 rs1 hq0 hq hn rvs
    refine⟨ρ1,σd,hd1,rs1,?_⟩
    cases e2:fb σd hd1 with
    | exc x h'=>rw [e2] at pp;exact pp
    | bad=>rw [e2] at pp;exact pp
    | ok y hd2 =>
      rw [e2] at pp
      simp only [aI] at pp
      intro v H2 ρ2 ex2 rs2 rv
      cases y<;>try exact pp.elim
      rename_i n
      simp only at pp
      split at pp
      · rename_i hz
        simp only [rD,RD] at rv
        subst rv
        have hq2:H2 q=some (.lst vs):=ex2.frame q _ hq hn
        have rvs2:=rvs.mono (rs1.hp.kp ex2)
        refine⟨q,n,vs,rfl,rfl,hq2,by omega,by omega,by rw [← rvs.length,sizeLine_eq];omega,fun p' hp' => ?_⟩
        exact wS.mk pp (e1.trans ex2) rs2 (RDs.rep rvs2 n.toNat) p' hp'
      · exact pp.elim
def Bo:V→List V→Hp→VK→Prop:=fun x vs H Q=>∃ l xs k y,x=.ref l∧vs=[.int k,y]∧H l=some (.lst xs)∧0≤k∧k≤xs.length∧xs.length < sizeLine∧Q .non (upd H l (.lst (xs.take k.toNat++[y]++xs.drop k.toNat)))
theorem xT:MtM X "list.insert" Bo:=by
  intro pins s σ H x vs v us Q I rx rv h
  obtain⟨l,xs,k,y,rfl,rfl,hH,k0,k1,hz,q⟩:=h
  cases rx
  obtain⟨u,w,rfl,ru,rw'⟩:=rv.two
  obtain⟨t,rfl⟩:=qP ru
  obtain⟨z,its,n,r,hl,e⟩:=I.lstM hH
  have hfit : ¬ (!Builtin.List.listFitsIndex k)=true:=by
    rw [fitsIndex_both (by omega) (by rw [sizeLine_eq] at hz;omega)]
    exact Bool.false_ne_true
  refine call_meets F.slot_list_insert ⟨_,e,rfl⟩ F.entry_list_insert (F.args_list_insert_3 _ _ _) (AutoSeq1.list_insert_list_int_val_1 l its.toArray n k t w hfit (by rw [List.size_toArray];omega)) ⟨e,?_⟩
  refine⟨.non,_,I.lset (its':=its.take k.toNat++[w]++its.drop k.toNat) hH e ?_ (((r.take k.toNat).append (.cons rw' .nil)).append (r.drop k.toNat)) ?_,rfl,q⟩
  · have k2 : ¬ k < 0:=by omega
    have k3:min k.toNat its.length=k.toNat:=by omega
    simp only [Obj.mapSeq,List.size_toArray,if_neg k2,k3]
    congr 2
    simp
    exact List.take_of_length_le (by simp)
  · simp;omega
theorem DA {o i e:Expr} {fo fi fe:EF} {apos cpos:Pos} (ho:ME X o fo) (hi:ME X i fi) (he:ME X e fe) (hbase:attributeBase o "insert" X.env (eval o X.env)=eval o X.env:=by rfl)
    (hfew:((backTo cpos (starEach [i,e] X.env)).all (fun x => !x.1) && (backToKw cpos (keywordEach [] X.env)).all (fun x=>x.1.isSome)
      && decide (([i,e] : List Expr).length + ([] : List Keyword).length + (if ([] : List Keyword).isEmpty then 0 else 1) < 30))=true:=by rfl)
    (hline:(apos.endLine == cpos.line)=true:=by rfl) (hs:starEach [i,e] X.env=(false,eval i X.env) :: starEach [e] X.env:=by rfl) (hs2:starEach [e] X.env=(false,eval e X.env) :: starEach [] X.env:=by rfl) (hpl:(backTo cpos (starEach [e] X.env)).any (·.1)=false:=by rfl) :
    ME X (.Call (.Attribute o "insert" apos) [i,e] [] cpos) (xR fo fi fe):=by
  refine PE.imp (zi PySem.F.plainAttrs_list PySem.F.slot_list_insert PySem.F.type_list_insert xT ho (bE hi (bE he df hs2) hs) hbase hfew hline hs hpl) fun σ H Q ⟨ρ,σd,hd,rs,pp⟩=>⟨ρ,σd,hd,rs,?_⟩
  unfold xR at pp
  refine (bh.bind (R:=rD X.K) pp).imp fun v H1 ⟨ρ1,d,hd1,e1,rs1,rv,p1⟩ => ?_
  cases d<;>try exact p1.elim
  rename_i n
  simp only [rD,RD] at rv
  obtain⟨a,ha,rfl⟩:=rv
  simp only at p1
  cases c1:hd1[n]? with
  | none=>rw [c1] at p1;exact p1.elim
  | some cell1 =>
    rw [c1] at p1
    cases cell1 with
    | dct l=>exact p1.elim
    | lst l1 =>
      obtain⟨vs,hv,_⟩:=rs1.hp.cel n _ a c1 ha
      simp only at p1
      refine⟨.inl ⟨rfl,vs,SqL.of hv⟩,ρ1,σd,hd1,rs1,(bh.bind (R:=rD X.K) p1).imp fun vi H2 ⟨ρ2,k,hd2,e2,rs2,ri,p2⟩ => ?_⟩
      refine⟨ρ2,σd,hd2,rs2,(bh.bind (R:=rD X.K) p2).imp fun w H3 ⟨ρ3,dv,hd3,e3,rs3,rw',p3⟩ => ?_⟩
      cases k with
      | int k =>
       simp only [rD,RD] at ri
       subst ri
       simp only at p3
       cases c:hd3[n]? with
       | none=>rw [c] at p3;exact p3.elim
       | some cell =>
         rw [c] at p3
         cases cell with
         | dct l=>exact p3.elim
         | lst l =>
           simp only at p3
           split at p3
           · rename_i hz
             have ha3:=e3.get (e2.get ha)
             obtain⟨vs3,hv3,rvs3⟩:=rs3.hp.cel n _ a c ha3
             refine⟨a,vs3,k,w,rfl,rfl,hv3,hz.1,by rw [← rvs3.length];exact hz.2.1,?_,?_⟩
             · rw [← rvs3.length];exact Nat.lt_of_lt_of_le hz.2.2 (by rw [sizeLine_eq];decide)
             · have hn:n < hd3.length:=(List.getElem?_eq_some_iff.mp c).1
               have rh:=rs3.hp.write ha3 hn (RDs.append (RDs.append (RDs.take k.toNat rvs3) (RDs.cons rw' RDs.nil)) (RDs.drop k.toNat rvs3))
               have ex:Ext ρ3 H3 ρ3 (upd H3 a (.lst (vs3.take k.toNat++[w]++vs3.drop k.toNat))):=Ext.write (List.mem_of_getElem? ha3)
               exact p3.at ex (rs3.ext ex rh) (by simp only [rD,RD])
           · exact p3.elim
      | _=>exact p3.elim
end
end Fm
set_option linter.all false
namespace Fm
noncomputable section
open Classical
end
end Fm
set_option Elab.async false
set_option linter.all false
set_option maxRecDepth 100000
namespace Fm
open PySem PySem.Spec L2
open PyProof.Rows (Call_)
section
variable {prog:Program} {w:World} {A:Around} {E:Value→Shared→Prop} {s:Shared} {z TI TO i1 i2 l1 l2:Addr} {k:Nat} {xs ys:Array Value} {a b:Value}
end
section
variable {prog:Program} {w:World} {A:Around} {E:Value→Shared→Prop} {s:Shared}
end
section
variable {X:Cx} {pos p tp:Pos} {elts:List Expr} {tk:Nat}
end
end Fm
set_option Elab.async false
set_option linter.all false
set_option maxRecDepth 100000
namespace Fm
open PySem PySem.Spec L2 PySem.W PyProof.Rows
section
variable {X:Cx} {pos p:Pos}
end
section
variable {prog:Program} {w:World} {A:Around} {E:Value→Shared→Prop} {s:Shared}
end
section
variable {X:Cx} {pos p:Pos}
end
end Fm
set_option Elab.async false
set_option linter.all false
set_option maxRecDepth 100000
namespace Fm
open PySem PySem.Spec L2
open AutoSeq1 (wpAny_loadPart')
open PyProof.Rows (Call_)
section
variable {X:Cx} {pos p tp:Pos} {elts:List Expr} {tk:Nat}
end
section
variable {X:Cx} {pos:Pos} {tg:Expr}
end
end Fm
set_option linter.all false
namespace Fm
end Fm
set_option Elab.async false
set_option linter.all false
set_option maxRecDepth 100000
namespace Fm
open PySem PySem.Spec L2
open PyProof.Rows (Call_)
section
variable {X:Cx} {pos p p2 pos2:Pos}
end
end Fm
set_option linter.all false
namespace Fm
end Fm
set_option linter.all false
namespace Fm
noncomputable section
open Classical
end
end Fm
set_option Elab.async false
set_option linter.all false
set_option maxRecDepth 100000
namespace Fm
open PySem PySem.Spec L2
section
variable {X:Cx} {pos:Pos} {scope:Scope} {own capn:List Str} {caps:List Nat}
end
section
variable {X:Cx}
end
end Fm
namespace Fm
@[simp] def ma (c:String):SF:=fun σ h=>.exc (.exn c []) σ h
@[simp] def tZ (t:TF) (a b:SF):SF:=fun σ h=>match t σ h with | .ok c h'=>if c then a σ h' else b σ h'|_=>.bad
end Fm
set_option Elab.async false
set_option linter.all false
set_option maxRecDepth 100000
namespace L2
open PySem PySem.Spec PyProof.Rows PySem.W PySem.Builtin PySem.Builtin.ObjectAttr PySem.Builtin.Getset_descriptor
structure md (K:PySem.W.Frag) (D:Addr):Prop where
  ga:PySem.W.findIn K (.ref D) "__getattribute__" = some (some (.builtin "BaseException.__getattribute__"))
  gt:PySem.W.findIn K (.ref D) "__getattr__" = some none
  cl:PySem.W.findIn K (.ref D) "__class__" = some (some (.builtin "object.__class__"))
  be:PySem.W.subIn K (.ref D) (.type "BaseException")=some true
  ob:PySem.W.mroIn K D (.type "object")=some true
  is:(PySem.W.clsIn K D).isSome=true
section
variable {prog:Program} {w:World} {A:Around} {E:Value→Shared→Prop} {K:PySem.W.Frag} {D:Addr} {h:Heap} {g:Array GenState} {d:Drawn} {t:Nat} {os:OsState} {a:Addr} {o:Obj} {vs:Array Value}
theorem lP.type {M:Model}(I:lP h a D o):PySem.W.Looks M h (typeOf (.ref a)) (.ref D):=I.cls ▸ (PySem.W.Looks.ld I.at_).andThen .now
theorem DB {R:Result→Shared→Prop} {tp:Value} (X:K.In h) (I:lP h a D o) (hm:PySem.W.mroIn K D (.type "object")=some true) (hq:R (.ok (.ret (.ref D))) ⟨h,g,d,t,os⟩) :
    codeAny (model prog w) A (.call (.builtin "getset_descriptor.__get__") ⟨[.builtin "object.__class__",.ref a,tp],[]⟩) R ⟨h,g,d,t,os⟩:=by
  have hT5:(⟨h,g,d,t,os⟩ : Shared).TypeIs (.builtin "object.__class__") "getset_descriptor" := F.typeOf_object_class
  have L0:=I.type (M:=model prog w)
  have L1:=PySem.W.looks_mroIn (M:=model prog w) X hm
  refine codeAny_call_builtin F.slot_gs_get.plain F.entry_gs_get (F.slot_gs_get.check _ _ _ _ _ _ _ _ hT5 (F.args_gs_get _ _ _) ?_)
  unfold Builtin.«getset_descriptor.__get__» descrGet
  rw [PySem.W.dga_obj]
  refine wpAny_bind (wpAny_pure ?_);unfold descrGetter descrCheckInstance descrNameAndClass isInstance
  simp only [KF.owner_class]
  repeat (first|with_reducible refine L0.at ?_|with_reducible refine L1.at ?_|lk)
  refine⟨Code.quiet_builtin _ (by decide +kernel),codeAny_builtin F.entry_object_class ?_⟩
  unfold Builtin.«object.__class__» shownTypeOf
  repeat (first|with_reducible refine L0.at ?_|lk)
  exact hq
theorem zU {tk:Tok}{Q:Fin→Shared→Prop}(Z:md K D)(X:K.In h)(I:lP h a D o)(hq:Q (.done (.ret (.ref D))) ⟨h,g,d,t,os⟩) :
    wpAny (model prog w) A (Builtin.«object.__getattribute__» ⟨[.ref a,.str "__class__" tk],[]⟩) Q E ⟨h,g,d,t,os⟩:=by
  have L0:=I.type (M:=model prog w)
  have L1:=PySem.W.looks_findIn (M:=model prog w) X Z.cl
  have hT5:(⟨h,g,d,t,os⟩ : Shared).TypeIs (.builtin "object.__class__") "getset_descriptor" := F.typeOf_object_class
  have f5:=F.typeOf_object_class
  have f6:=F.slot_gs_get.lookup
  have f7:=F.slot_gs_set.lookup
  repeat (any_goals (first|assumption|with_reducible refine L0.at ?_|with_reducible refine L1.at ?_|wp_step))
  refine DB X I Z.ob ?_
  repeat (any_goals (first|assumption|wp_step))
theorem zV {M:Model}{nameV:Value}{Q:Unit→Shared→Prop}(Z:md K D)(X:K.In h)(I:lP h a D o)(hq:Q () ⟨h,g,d,t,os⟩) :
    wpAny M A (checkBuiltinCall "BaseException.__getattribute__" ⟨[.ref a,nameV],[]⟩) Q E ⟨h,g,d,t,os⟩:=by
  have hk:builtinKind "BaseException.__getattribute__" = some .slot:=by decide +kernel
  have hsplit:splitId "BaseException.__getattribute__" = some ("BaseException", "__getattribute__"):=by decide +kernel
  have ha:=F.args_bexc_ga (.ref a) nameV
  have L0:=I.type (M:=M)
  have L1:=PySem.W.looks_subIn (M:=M) X Z.be
  simp only [checkBuiltinCall,hk,hsplit]
  refine wpAny_bind ?_
  unfold isInstance
  repeat (first|with_reducible refine L0.at ?_|with_reducible refine L1.at ?_|wp_step)
  exact hq
theorem Bp {tk:Tok}{R:Result→Shared→Prop}(Z:md K D)(X:K.In h)(I:lP h a D o)(hq:R (.ok (.ret (.ref D))) ⟨h,g,d,t,os⟩) :
    codeAny (model prog w) A (.call (.builtin "BaseException.__getattribute__") ⟨[.ref a,.str "__class__" tk],[]⟩) R ⟨h,g,d,t,os⟩ :=
  codeAny_call_builtin F.attr_ValueError.ga.plain F.entry_bexc_ga (zV Z X I (zU Z X I hq))
theorem EL {tk:Tok}{fill expr:Bool}{Q:Value→Shared→Prop}(Z:md K D)(X:K.In h)(I:lP h a D o)(hq:Q (.ref D) ⟨h,g,d,t,os⟩) :
    wpAny (model prog w) A (getAttrBy (.ref a) (.str "__class__" tk) fill expr) Q E ⟨h,g,d,t,os⟩:=by
  have f3:=F.attr_ValueError.ga.bind (.ref a)
  have hx0:(expr && onTheHeap (Value.builtin "BaseException.__getattribute__"))=false:=by cases expr<;>rfl
  have hx2:(Value.builtin "BaseException.__getattribute__" == Value.builtin "object.__getattribute__")=false:=by decide +kernel
  have hx1:(onTheHeap (Value.ref D) && Value.builtin "BaseException.__getattribute__" == Value.builtin "object.__getattribute__")=false:=by rw [hx2];rfl
  have L0:=I.type (M:=model prog w)
  have L1:=PySem.W.looks_findIn (M:=model prog w) X Z.ga
  have L2:=PySem.W.looks_findIn (M:=model prog w) X Z.gt
  repeat (any_goals (first|assumption|with_reducible refine L0.at ?_|with_reducible refine L1.at ?_|with_reducible refine L2.at ?_|wp_step))
  refine Bp Z X I ?_
  repeat (any_goals (first|assumption|wp_step))
theorem Bq {Q:Option Value→Shared→Prop}(Z:md K D)(X:K.In h)(I:lP h a D o)(hq:Q (some (.ref D)) ⟨h,g,d,t + 1,os⟩) :
    wpAny (model prog w) A (getAttr? (.ref a) "__class__") Q E ⟨h,g,d,t,os⟩:=by
  unfold getAttr? getAttrBy?
  repeat (any_goals (first|assumption|with_reducible apply EL Z X I|wp_step))
theorem zW (Z:md K D):PySem.W.KitX K (.ref a) (.ref D) (fun h=>∃ o,lP h a D o) where
  ty:=fun _ _ _ ⟨o,I⟩=>I.type
  it:=fun _ _ X _=>by
    obtain⟨cd,hc⟩:=Option.isSome_iff_exists.mp Z.is
    unfold PySem.W.clsIn at hc
    split at hc
    · rename_i c' d' cd' sl' ho
      intro A' Q' E' s' k q
      unfold isType loadHead
      exact wpAny_bind (wpAny_loadPart (k _ _ (X _ _ ho)) (wpAny_pure q))
    · cases hc
  ne:=fun h tp dd its n sl X htp=>by
    obtain⟨cd,hc⟩:=Option.isSome_iff_exists.mp Z.is
    refine Bool.eq_false_iff.mpr fun q => ?_
    have e:D=tp:=Value.ref.inj (beq_iff_eq.mp q)
    subst e
    unfold PySem.W.clsIn at hc
    split at hc
    · rename_i c' d' cd' sl' ho
      have z:=(X _ _ ho).symm.trans htp
      cases z
    · cases hc
  ca:=fun {_ _ _ _ _ s} X ⟨o,I⟩ k=>by obtain⟨h,g,d,t,os⟩:=s;exact Bq Z X I k
theorem zX {M:Model} {B:Addr} {Q:Bool→Shared→Prop} (X:K.In h) (I:lP h a D o) (hs:PySem.W.subIn K (.ref D) (.ref B)=some true) (hb:PySem.W.subIn K (.ref B) (.type "BaseException")=some true)
    (hc:(PySem.W.clsIn K B).isSome=true) (ht:PySem.W.typeIn K (.ref B)=some (.type "type")) (hq:Q true ⟨h,g,d,t,os⟩):wpAny M A (excMatches (.ref a) (.ref B)) Q E ⟨h,g,d,t,os⟩:=by
  have L0:=I.type (M:=M)
  have L1:=PySem.W.looks_subIn (M:=M) X hs
  have L2:=PySem.W.looks_subIn (M:=M) X hb
  have L3:=PySem.W.looks_typeIn (M:=M) X ht
  have f:=tc_notTuple
  obtain⟨cd,hcd⟩:=Option.isSome_iff_exists.mp hc
  unfold PySem.W.clsIn at hcd
  split at hcd
  · rename_i c' d' cd' sl' ho
    have hB:=X _ _ ho
    unfold excMatches
    repeat (first|with_reducible refine L0.at ?_|with_reducible refine L1.at ?_|with_reducible refine L2.at ?_|with_reducible refine L3.at ?_|with_reducible refine wpAny_loadPart_at hB ?_|wp_step)
    exact hq
  · cases hcd
end
end L2
set_option Elab.async false
set_option linter.all false
set_option maxRecDepth 100000
namespace L2
open PySem PySem.Spec PyProof.Rows
section
variable {P:Program} {w:World} {H:Hp} {h:Heap} {a:Addr} {o:HO}
theorem cB.obj (x:cB P w H h a o):∃ ob,h.get? a=some ob:=by
  induction o with
  | lst xs=>obtain⟨_,_,_,_,e⟩:=x;exact⟨_,e⟩
  | tup xs=>obtain⟨_,_,_,ob,e,_⟩:=x;exact⟨_,e⟩
  | dK kvs=>obtain⟨_,_,_,_,o,_,_,e,_⟩:=x;exact⟨_,e⟩
  | dT kvs=>obtain⟨_,_,_,_,o,_,_,e,_⟩:=x;exact⟨_,e⟩
  | set S n=>obtain⟨o,_,_,_,e,_⟩:=x;exact⟨_,e⟩
  | ins C dx fs=>obtain⟨_,_,_,e,_⟩:=x;exact⟨_,e⟩
  | own y=>obtain⟨_,e⟩:=x;exact⟨_,e⟩
  | xd fs=>obtain⟨_,⟨ob,_,_,e,_⟩,_⟩:=x;exact⟨_,e⟩
  | rng lo hi=>obtain⟨_,_,_,e⟩:=x;exact⟨_,e⟩
  | frz ob u ih=>obtain⟨e,_⟩:=x;exact⟨_,e⟩
  | tbl ps=>exact⟨_,x⟩
  | met f y=>exact⟨_,x⟩
  | ext φ => obtain⟨_,⟨ob,e⟩,_⟩:=x;exact⟨_,e⟩
end
structure Cov (X:Cx) (pins:List (Addr × Obj)) (H:Hp) (B:Heap):Prop where
  trk:∀ b u,H b=some u → ∃ o,B.get? b=some o
  old:∀ b o,X.s₀.heap.get? b=some o→b∉frs X.stack→b∉X.ex → ∃ o,B.get? b=some o
  pin:∀ p∈X.pn++pins,∃ o,B.get? p.1=some o
section
variable {X:Cx} {pins:List (Addr × Obj)} {σ:St} {H:Hp} {s:Shared} {B h':Heap}
theorem Inv.flown (I:Inv X pins σ H s)(b1:B.StaysIn s.heap)(b2:B.StaysIn h')(sm:s.heap.UpToSlots h')(c:Cov X pins H B)(t':Nat):Inv X pins σ H { s with heap:=h',toks:=t' }:=by
  have same:∀ b o,(∃ u,B.get? b=some u)→s.heap.get? b=some o→h'.get? b=some o:=fun b o ⟨u,e⟩ q=>by
    have:=b1 b u e
    rw [q] at this;cases this
    exact b2 b _ e
  have nst:∀ b o,X.s₀.heap.get? b=some o→b∉X.fs→b∉frs X.stack:=fun b o e hb hs=>by
    rcases List.mem_cons.mp (I.stkSub b hs) with z|z
    · exact absurd z (Nat.ne_of_lt (Nat.lt_of_lt_of_le (Heap.lt_size e) I.ok.above))
    · exact hb z
  have fsl:∀ b o,b∈X.fs→s.heap.get? b=some o → ∃ sl,h'.get? b=some { o with slots:=sl }:=fun b o hb e=>by
    obtain⟨_,o',ho',nf⟩:=I.funs.mem hb
    rw [e] at ho';cases ho'
    exact sm b o e nf
  have cellK:∀ c v,s.heap.IsCell c v→h'.IsCell c v:=fun c v ⟨o,ho,hd⟩=>by
    obtain⟨sl,q⟩:=sm c o ho (fun vs z=>by rw [hd] at z;cases z)
    exact⟨_,q,hd⟩
  refine⟨I.ok,I.os,I.bare,⟨fun b o e n hb hx => ?_,fun b o e n hb hx => ?_,I.base.free,fun b o e hx => ?_,I.base.tups,I.base.frzs,I.base.tbls⟩,?_,fun x c e => ?_,I.free,I.freeC,fun p hp => ?_,fun b u e => ?_,I.len⟩
  · exact same b o (c.old b o e (nst b o e hb) hx) (I.base.keep b o e n hb hx)
  · obtain⟨sl,e1⟩:=I.base.slot b o e n hb hx
    obtain⟨sl',e2⟩:=fsl b _ hb e1
    exact⟨sl',e2⟩
  · obtain⟨o',e1⟩:=I.base.there b o e hx
    by_cases hb:b∈X.fs
    · obtain⟨sl,e2⟩:=fsl b o' hb e1;exact⟨_,e2⟩
    · exact⟨o',same b o' (c.old b o e (nst b o e hb) hx) e1⟩
  · obtain⟨m,hn,hl⟩:=I.loc
    refine⟨m,sm.ns hn,fun i x v e1 e2 e3 => ?_⟩
    obtain⟨u,r,l⟩:=hl i x v e1 e2 e3
    refine⟨u,r,?_⟩
    rcases l with l|⟨k,c,e,z⟩
    · exact .inl l
    · exact .inr ⟨k,c,e,cellK c _ z⟩
  · obtain⟨v,z⟩:=I.cell x c e
    exact⟨v,cellK c v z⟩
  · obtain⟨e,n,ne,nf,d⟩:=I.pin p hp
    exact⟨same _ _ (c.pin p hp) e,n,ne,nf,d⟩
  · refine (I.hok b u e).stay (fun c' v hc q=>same c' v ?_ q) (fun _ q=>q) fun _ _ q=>q
    rcases hc with z|z
    · rw [z];exact c.trk b u e
    · exact c.trk c' _ z
def XF (X:Cx) (E:Addr→Hp→Prop) (e:Value) (s':Shared):Prop:=∃ pins σ H a C B t,e=.ref a∧Inv X pins σ H s'∧Heap.FlyingW B X.stack a (.ref C) (.ref t) s'.heap∧Cov X pins H B∧E C H
def XAt (X:Cx) (pins:List (Addr × Obj)) (σ:St) (H:Hp) (a C:Addr) (s':Shared):Prop :=
  (∃ s1 h' vs,Inv X pins σ H s1∧Heap.MadeExcOf s1.heap h' a (.ref C) vs∧s' = { s1 with heap:=h' }) ∨
  (∃ B t,Inv X pins σ H s'∧Heap.FlyingW B X.stack a (.ref C) (.ref t) s'.heap∧Cov X pins H B)
def XP (X:Cx) (E:Addr→Hp→Prop) (e:Value) (s':Shared):Prop:=∃ pins σ H a C,e=.ref a∧XAt X pins σ H a C s'∧E C H
def CX1 (P:Program) (w:World):CXT:=fun outer H s E e s'=>∃ a C B t H',e=.ref a∧s'.os=s.os∧AllBare s'.gens∧Un (frs outer) [] H H' s.heap s'.heap∧HOk P w H' s'.heap ∧
  Heap.FlyingW B outer a (.ref C) (.ref t) s'.heap∧(∀ b u,H' b=some u → ∃ o,B.get? b=some o)∧(∀ b o,s.heap.get? b=some o→b∉frs outer → ∃ o,B.get? b=some o)∧E (.ref C) none H'
theorem XF.xp {E:Addr→Hp→Prop}{e:Value}{s':Shared}:XF X E e s'→XP X E e s':=fun ⟨pins,σ,H,a,C,B,t,he,I,fl,c,q⟩=>⟨pins,σ,H,a,C,he,.inr ⟨B,t,I,fl,c⟩,q⟩
theorem EM {E:XK}{E':Addr→Hp→Prop}{R:Value→Shared→Prop}(h:∀ C H,E (.ref C) none H→E' C H)(hR:∀ e s',XF X E' e s'→R e s'):lN (CX1 X.prog X.w) (X.wish R) E:=by
  rintro pins σ H s e s' I ⟨a,C,B,t,H',he,os,bare,un,hok,fl,trk,old,q⟩
  have I0:=I.unwish
  have I':Inv X pins σ H' s':=I0.call' (ch:=[]) os un hok bare (fun b z=>absurd z (by simp))
  refine hR _ _ ⟨pins,σ,H',a,C,B,t,he,I',fl,⟨trk,fun b o e hb hx => ?_,fun p hp => ?_⟩,h C H' q⟩
  · obtain⟨o',e'⟩:=I0.base.there b o e hx
    exact old b o' e' hb
  · obtain⟨e,n,ne,nf,_⟩:=I0.pin p hp
    exact old p.1 p.2 e fun z=>(List.mem_cons.mp (I0.stkSub p.1 z)).elim ne nf
theorem zY (I:Inv X pins σ H s):Cov X pins H (PySem.W.hideAll s.heap (frs X.stack)) where
  trk:=fun b u e=>by
    obtain⟨o,q⟩:=(I.hok b u e).obj
    refine⟨o,PySem.W.hideAll_get _ q fun z => ?_⟩
    rw [I.stkFree b z] at e;cases e
  old:=fun b o e hb hx=>by
    obtain⟨o',e'⟩:=I.base.there b o e hx
    exact⟨o',PySem.W.hideAll_get _ e' hb⟩
  pin:=fun p hp=>by
    obtain⟨e,n,ne,nf,_⟩:=I.pin p hp
    exact⟨_,PySem.W.hideAll_get _ e fun z=>(List.mem_cons.mp (I.stkSub p.1 z)).elim ne nf⟩
end
theorem vJ {P:Program}{w:World}{K:PySem.W.Frag}{mg:Str→Option Value}{base:Heap}{N:List Str}{qual:Str}{scope:Scope}{f:Addr}{cd:Value}{A:Around}{outer:List Env}{s:Shared}{H:Hp}{E:XK}{e:Value}{s':Shared}
    (h:XP (kP (CX1 P w) P w K mg base N qual scope f cd A outer s H E) (fun C H'=>E (.ref C) none H') e s'):(kP (CX1 P w) P w K mg base N qual scope f cd A outer s H E).xe e s':=by
  obtain⟨pins,σ,H',a,C,rfl,hx,q⟩:=h
  have fin:∀ {s1:Shared} {B:Heap} {h':Heap} {t:Addr},Inv (kP (CX1 P w) P w K mg base N qual scope f cd A outer s H E) pins σ H' s1→B.StaysIn s1.heap→s1.heap.UpToSlots h' →
      Cov (kP (CX1 P w) P w K mg base N qual scope f cd A outer s H E) pins H' B→Heap.FlyingW B outer a (.ref C) (.ref t) h'→CX1 P w outer H s E (.ref a) { s1 with heap:=h' }:=by
    intro s1 B h' t I b1 sm c fl
    have J:=I.flown (h':=h') b1 fl.1 sm c s1.toks
    refine⟨a,C,B,t,H',rfl,J.os,J.bare,J.base,J.hok,fl,c.trk,fun b o e hb=>c.old b o e (fun z => ?_) (fun z=>absurd (show b∈([] : List Addr) from z) (by simp)),q⟩
    rcases List.mem_cons.mp (I.stkSub b z) with y|y
    · exact absurd y (Nat.ne_of_lt (Nat.lt_of_lt_of_le (Heap.lt_size e) I.ok.above))
    · exact hb y
  rcases hx with ⟨s1,h1,vs,I,mk,rfl⟩|⟨B,t,I,fl,c⟩
  · have hin:∀ env∈(envOfC qual scope s.heap.objs.size f cd :: outer),∀ b,env.frame=some b→b∈frs (envOfC qual scope s.heap.objs.size f cd :: outer):=fun env he b hb=>List.mem_filterMap.mpr ⟨env,he,hb⟩
    refine wpAny_leaves_madeW (base:=PySem.W.hideAll s1.heap (frs (envOfC qual scope s.heap.objs.size f cd :: outer))) (I.ok.frames) rfl (fun b o q=>PySem.W.of_hideAll _ q) (PySem.W.funFrames_hide I.stack hin) mk fun h' t x1 x2 x3 x4 => ?_
    exact fin (s1:=s1) (h':=h') (t:=t) I (fun b o q=>PySem.W.of_hideAll _ q) ((Heap.UpToSlots.of_keeps mk.keeps).trans x4) (zY I) x1
  · exact wpAny_leaves_onW I.ok.frames rfl fl fun h' x1 x2=>fin I fl.1 x2 c x1
end L2
set_option Elab.async false
set_option linter.all false
set_option maxRecDepth 100000
namespace L2
open PySem PySem.Spec PyProof.Rows
section
variable {X:Cx} {E:Addr→Hp→Prop} {x:Str} {C:Addr} {bm:List Value} {B newId initId:String} {np cpos pos:Pos} {e₀ : Expr} {rest:List Expr} {ta:TA}
def DC (C:Addr) (E:Addr→Hp→Prop) (ta:TA):TS:=fun _ σ H=>ta σ H fun vs H1=>vs.length≤sizeLine∧E C H1
theorem zZ (O:OwnCls x C bm newId X.mg X.base) (FB:ExcBaseFacts B newId initId bm) (hc:X.calm=true) (hg:Gl X x) (ha:PA (X.wish (XP X E)) (e₀ :: rest) ta) (hdb:(x == ("__debug__" : Str))=false:=by decide)
    (he:starEach (e₀ :: rest) X.env=(false,eval e₀ X.env) :: starEach rest X.env:=by rfl) (hpl:(backTo cpos (starEach rest X.env)).any (·.1)=false:=by rfl) :
    PS (X.wish (XP X E)) (.Raise (some (.Call (.Name x np) (e₀ :: rest) [] cpos)) none pos) (DC C E ta):=by
  intro pins s σ H D I h
  obtain⟨tl,N,nm,q,bs,hdct,sn,sub,ab,col,dd,k0,k1,k2,k3,k5,mN,hC,hN,hni,T⟩:=O.obj
  have hp2:(backTo cpos (starEach (e₀ :: rest) X.env)).any (·.1)=false:=by
    rw [he];show (false || (backTo cpos (starEach rest X.env)).any (·.1))=false;rw [hpl];rfl
  refine wpAny_Raise_call_subT (C:=C) (nm:=nm) (q:=q) (N:=N) (bs:=bs) (bm:=tl) (hdct:=hdct) (sn:=sn) (sub:=sub) (ab:=ab) (col:=col) (dd:=dd) (k0:=k0) (k1:=k1) (k2:=k2) (k3:=k3) (k5:=k5) (mN:=mN)
    FB (T.hasType FB.hasBase) (I.ok.hd hc) hp2 hni (lm I hg O.bound ⟨rfl,?_⟩ hdb)
  have h2:=ha cpos pins s σ H _ I h
  have he':starEach (e₀ :: rest) (X.wish (XP X E)).env=(false,eval e₀ X.env) :: starEach rest X.env:=he
  rw [he'] at h2 ⊢
  exact Calls.evalArgs_plain (wpAny_mono h2 (fun us s2 ⟨vs,H1,I1,r,q1⟩=>⟨rfl,by rw [← r.length];exact q1.1,I1.bk _ _ hC,hN.keeps I1.bk,T.keeps I1.bk,fun h' e mk=>⟨pins,σ,H1,e,C,rfl,.inl ⟨s2,h',us,I1.unwish,mk,rfl⟩,q1.2⟩⟩) fun _ _ z=>z)
end
section
variable {P:Program} {w:World} {K:PySem.W.Frag} {mg:Str→Option Value} {base:Heap}
end
section
variable {X:Cx} {pins:List (Addr × Obj)} {σ:St} {H:Hp} {s:Shared}
theorem Inv.exc {B:Heap}{a C t:Addr}(I:Inv X pins σ H s)(fl:Heap.FlyingW B X.stack a (.ref C) (.ref t) s.heap)(c:Cov X pins H B):Inv X pins σ (upd H a (jc a C)) s:=by
  obtain⟨oe,vs,hoe,hcl,hdt,_⟩:=fl.first
  have hB:=fl.2.1
  have hn:H a=none:=by
    cases e:H a with
    | none=>rfl
    | some u=>obtain⟨o,q⟩:=c.trk a u e;rw [hB] at q;cases q
  have nfr:a∉frs X.stack:=fun z=>by
    obtain⟨_,o,ho,nf⟩:=I.stack.mem z
    rw [hoe] at ho;cases ho;exact nf vs hdt
  have nold:∀ b o,X.s₀.heap.get? b=some o→b∉X.ex→b≠a:=fun b o e hx z=>by
    subst z
    obtain⟨o',q⟩:=c.old _ o e nfr hx
    rw [hB] at q;cases q
  have keepH:∀ b u,H b=some u→upd H a (jc a C) b=some u:=fun b u e=>by rw [az (bg e hn)];exact e
  refine⟨I.ok,I.os,I.bare,⟨I.base.keep,I.base.slot,fun b o e n hx => ?_,I.base.there,fun b xs e=>keepH b _ (I.base.tups b xs e),fun b o u e=>keepH b _ (I.base.frzs b o u e),fun b ps e => ?_⟩,I.loc,I.cell,?_,fun x c' e => ?_,fun p hp => ?_,fun b u e => ?_,I.len⟩
  · rw [az (nold b o e hx)];exact I.base.free b o e n hx
  · obtain⟨m,q⟩:=I.base.tbls b ps e
    exact⟨m,keepH b _ q⟩
  · rw [az]
    · exact I.free
    · intro z
      obtain⟨m,⟨o,es,ep,ho,hd,_⟩,_⟩:=I.loc
      rw [z,hoe] at ho;cases ho;rw [hdt] at hd;cases hd
  · rw [az]
    · exact I.freeC x c' e
    · intro z
      obtain⟨v,o,ho,hd⟩:=I.cell x c' e
      rw [z,hoe] at ho;cases ho;rw [hdt] at hd;cases hd
  · obtain⟨e,n,ne,nf,d⟩:=I.pin p hp
    refine⟨e,?_,ne,nf,d⟩
    rw [az]
    · exact n
    · intro z
      obtain⟨o,q⟩:=c.pin p hp
      rw [z,hB] at q;cases q
  · by_cases hb:b=a
    · subst hb
      rw [aV] at e;cases e
      exact⟨⟨oe,hoe,hcl⟩,⟨oe,hoe⟩,fun h1 h2 ⟨o,ho,hc⟩ k=>⟨o,k o ho,hc⟩⟩
    · rw [az hb] at e
      exact (I.hok b u e).stay (fun _ _ _ q=>q) (fun b' q=>keepH b' _ q) fun b' xs q=>keepH b' _ q
theorem Inv.goes {M:Model}{A:Around}{E:Value→Shared→Prop}{j:Nat}{n:Str}{pos:Pos}{Q:Unit→Shared→Prop}(I:Inv X pins σ H s)(hN:X.N.Nodup)(hj:X.N[j]? = some n)(hl:X.env.kindOf n=some .local)
    (h:∀ s',Inv X pins (σ.set j none) H s'→Q () s'):wpAny M A (do bindName X.env n .none;unbindBehindTheSuite X.env n pos) Q E s:=by
  obtain⟨m,hn,hlo⟩:=id I.loc
  have hcls:(X.env.scope.kind == .class || (X.env.scope.kind == .module && X.env.locals != X.env.globals))=false:=by rw [I.ok.kind];rfl
  obtain⟨oL,_,_,hoL,_⟩:=id hn
  refine wpAny_nameGoes_keeps hl hn hcls fun h' v hn' hs => ?_
  have old:∀ b o,X.s₀.heap.get? b=some o→b≠X.env.locals:=fun b o e=>Nat.ne_of_lt (Nat.lt_of_lt_of_le (Heap.lt_size e) I.ok.above)
  refine h _ ⟨I.ok,I.os,I.bare,⟨fun b o e n hb hx=>(hs.2 b (old b o e)).trans (I.base.keep b o e n hb hx),fun b o e n hb hx => ?_,I.base.free,fun b o e hx => ?_,I.base.tups,I.base.frzs,I.base.tbls⟩,⟨_,hn',fun i y v' e1 e2 e3 => ?_⟩,fun y c e => ?_,I.free,I.freeC,fun p hp => ?_,fun b u e => ?_,by simpa using I.len⟩
  · obtain⟨sl,e1⟩:=I.base.slot b o e n hb hx
    exact⟨sl,(hs.2 b (old b o e)).trans e1⟩
  · obtain⟨o',e1⟩:=I.base.there b o e hx
    exact⟨o',(hs.2 b (old b o e)).trans e1⟩
  · by_cases hi:i=j
    · subst hi
      by_cases hlt:i < σ.length
      · rw [List.getElem?_set_self hlt] at e2;cases e2
      · rw [List.getElem?_eq_none (by simpa using hlt)] at e2;cases e2
    · rw [List.getElem?_set_ne (Ne.symm hi)] at e2
      obtain⟨u',r',q⟩:=hlo i y v' e1 e2 e3
      refine⟨u',r',?_⟩
      rcases q with ⟨k,e⟩|⟨k,c,e,z⟩
      · refine .inl ⟨k,?_⟩
        have:y≠n:=fun e=>hi (lG hN e1 (e ▸ hj))
        simp [this,e]
      · exact .inr ⟨k,c,e,z.sameBut hs (I.cne y c e)⟩
  · obtain⟨w',z⟩:=I.cell y c e
    exact⟨w',z.sameBut hs (I.cne y c e)⟩
  · obtain⟨e,n,ne,nf,d⟩:=I.pin p hp
    exact⟨(hs.2 p.1 ne).trans e,n,ne,nf,d⟩
  · refine (I.hok b u e).stay (fun c w' hc q=>(hs.2 c ?_).trans q) (fun _ q=>q) fun _ _ q=>q
    rintro rfl
    rcases hc with z|z
    · rw [← z,I.free] at e;cases e
    · rw [I.free] at z;cases z
abbrev Cx.sui (X:Cx) (a:Addr):Cx:={ X with A:=X.A.mark (some (.ref a)),calm:=false,xe:=fun _ _=>False }
theorem Inv.marked (I:Inv X pins σ H s)(a:Addr):Inv (X.sui a) pins σ H s :=
  ⟨⟨I.ok.mod,I.ok.kind,I.ok.glob,I.ok.blt,I.ok.above,I.ok.inj,I.ok.has,I.ok.cab,(fun z=>by cases z),I.ok.frames,I.ok.stk,I.ok.exf,I.ok.bs,I.ok.bsz,I.ok.noex,I.ok.exfs,I.ok.funs,I.ok.frf⟩,I.os,I.bare,I.base,I.loc,I.cell,I.free,I.freeC,I.pin,I.hok,I.len⟩
theorem Inv.unmark (hh:X.calm=true→X.A.handled=none){a:Addr}(I:Inv (X.sui a) pins σ H s):Inv X pins σ H s :=
  ⟨⟨I.ok.mod,I.ok.kind,I.ok.glob,I.ok.blt,I.ok.above,I.ok.inj,I.ok.has,I.ok.cab,hh,I.ok.frames,I.ok.stk,I.ok.exf,I.ok.bs,I.ok.bsz,I.ok.noex,I.ok.exfs,I.ok.funs,I.ok.frf⟩,I.os,I.bare,I.base,I.loc,I.cell,I.free,I.freeC,I.pin,I.hok,I.len⟩
abbrev Cx.pin (X:Cx) (q:List (Addr × Obj)):Cx:={ X with pn:=q }
theorem Inv.pinq (I:Inv X pins σ H s):Inv (X.pin (X.pn++pins)) [] σ H s :=
  ⟨⟨I.ok.mod,I.ok.kind,I.ok.glob,I.ok.blt,I.ok.above,I.ok.inj,I.ok.has,I.ok.cab,I.ok.hd,I.ok.frames,I.ok.stk,I.ok.exf,I.ok.bs,I.ok.bsz,I.ok.noex,I.ok.exfs,I.ok.funs,I.ok.frf⟩,I.os,I.bare,I.base,I.loc,I.cell,I.free,I.freeC,fun p hp=>I.pin p (by simpa using hp),I.hok,I.len⟩
theorem Inv.unpin {pins':List (Addr × Obj)}(I:Inv (X.pin (X.pn++pins)) pins' σ H s):Inv X pins σ H s :=
  ⟨⟨I.ok.mod,I.ok.kind,I.ok.glob,I.ok.blt,I.ok.above,I.ok.inj,I.ok.has,I.ok.cab,I.ok.hd,I.ok.frames,I.ok.stk,I.ok.exf,I.ok.bs,I.ok.bsz,I.ok.noex,I.ok.exfs,I.ok.funs,I.ok.frf⟩,I.os,I.bare,I.base,I.loc,I.cell,I.free,I.freeC,fun p hp=>I.pin p (List.mem_append_left _ hp),I.hok,I.len⟩
end
section
variable {X:Cx} {body:List Stmt} {x n c:Str} {M:Addr} {i j:Nat} {np cp vp ap hp pos:Pos} {tb:(Addr→Hp→Prop)→TS}
end
end L2
set_option Elab.async false
set_option linter.all false
set_option maxRecDepth 100000
namespace Fm
open PySem PySem.Spec L2 PyProof.Rows
section
variable (K:PySem.W.Frag) (mg:Str→Option Value)
def gE (ρ:List Addr) (H:Hp) (o:Out) (E:Addr→Hp→Prop) (En:lI):Prop:=match o with
  | .exc x _ hd=>∃ c l C,x=.exn c l∧mg (Str.ofString c)=some (.ref C) ∧ ∀ H' ρ',Ext ρ H ρ' H'→RH K ρ' H' hd→E C H'
  | .nx σ hd=>bv K ρ H (.nx σ hd) En
  | .rt d hd=>bv K ρ H (.rt d hd) En
  | .bk σ hd=>bv K ρ H (.bk σ hd) En
  | .ct σ hd=>bv K ρ H (.ct σ hd) En
  | .bad=>False
def z0 (E:Addr→Hp→Prop) (f:SF):TS:=fun En σ H=>∃ ρ σd hd,RS K ρ H σd hd σ ∧ gE K mg ρ H (f σd hd) E En
def spX (F:Fn) (np:Nat):Sp:=fun vs H _ E=>∃ ρ hd ds,RH K ρ H hd∧RDs K ρ H ds vs∧ds.length=np ∧
  ∃ c l hd' C,F ds hd=.exc (.exn c l) hd'∧mg (Str.ofString c)=some (.ref C) ∧ ∀ H' ρ',Ext ρ H ρ' H'→RH K ρ' H' hd'→E (.ref C) none H'
end
section
variable {K:PySem.W.Frag} {mg:Str→Option Value} {ρ ρ':List Addr} {H H':Hp} {E:Addr→Hp→Prop} {En:lI}
theorem gE.ext {o:Out}(e:Ext ρ H ρ' H')(p:gE K mg ρ H o E En):gE K mg ρ' H' o E En:=by
  cases o with
  | exc x σ hd=>obtain⟨c,l,C,h1,h2,h3⟩:=p;exact⟨c,l,C,h1,h2,fun H2 ρ2 e2 r=>h3 H2 ρ2 (e.trans e2) r⟩
  | nx σ hd=>exact bv.ext (o:=.nx σ hd) e p
  | rt d hd=>exact bv.ext (o:=.rt d hd) e p
  | bk σ hd=>exact bv.ext (o:=.bk σ hd) e p
  | ct σ hd=>exact bv.ext (o:=.ct σ hd) e p
  | bad=>exact p
theorem Ext.sm {H2:Hp}(e:Ext ρ H ρ' H')(s:eR H' H2):Ext ρ H ρ' H2:=⟨e.pre,e.new,fun q u h n=>s q u (e.frame q u h n)⟩
end
abbrev Wi:=(Addr→Hp→Prop)→Value→Shared→Prop
def MX (X:Cx) (R:Wi) (s:Stmt) (f:SF):Prop:=∀ E,PS (X.wish (R E)) s (z0 X.K X.mg E f)
structure FG (P:Program) (w:World) (K:PySem.W.Frag) (mg:Str→Option Value) (base:Heap) (x:Str) (k np:Nat) (F:Fn):Prop where
  ex:∃ f fd ps,mg x=some (.ref f)∧PySem.W.keepIn K (.ref f)=true∧gy K fd ps []∧b5 P w K mg base (CX1 P w) k f fd ps (spX K mg F np)
section
variable {X:Cx} {R:Wi} {pos p:Pos}
theorem z3 {n:String}{C:Addr}{bm:List Value}{B newId initId:String}{np cpos cp:Pos}{txt:Str}{j}(O:OwnCls (Str.ofString n) C bm newId X.mg X.base)(FB:ExcBaseFacts B newId initId bm)(hc:X.calm=true)(hg:Gl X (Str.ofString n))
    (hdb:(Str.ofString n == ("__debug__" : Str))=false:=by decide):MX X (XP X) (.Raise (some (.Call (.Name (Str.ofString n) np) [.Constant (.str txt) j cp] [] cpos)) none pos) (ma n):=fun E=>by
  refine PS.imp (zZ O FB hc hg (bE vg df) hdb) fun En σ H ⟨ρ,σd,hd,rs,q⟩ => ?_
  obtain⟨c,l,C',h1,h2,h3⟩:=q
  cases h1
  rw [O.bound] at h2;cases h2
  exact⟨by show 1≤sizeLine;decide,h3 H ρ Ext.refl rs.hp⟩
end
section
variable {P:Program} {w:World} {K:PySem.W.Frag} {mg:Str→Option Value} {base:Heap}
end
end Fm
set_option Elab.async false
set_option linter.all false
set_option maxRecDepth 100000
namespace Fm
open PySem PySem.Spec L2 PyProof.Rows
def kS:V→Value | .ref a=>.ref a | .ty n=>.type n|_=>.none
def p5:V→Bool | .ref _=>true | .ty _=>true|_=>false
theorem xb {v:V}{u:Value}(h:p5 v=true)(r:bf v u):u=kS v:=by
  cases v<;>first|exact r|cases h
theorem t7:∀ {vs:List V} {us:List Value},vs.all p5=true→aL vs us→us=vs.map kS
  | [],_,_,.nil=>rfl
  | v :: vs,_,h,.cons r t=>by
    rw [List.all_cons,Bool.and_eq_true] at h
    rw [List.map_cons,← xb h.1 r,← t7 h.2 t]
section
variable {X:Cx} {pos p:Pos}
def Fv (K:PySem.W.Frag):List V→Hp→VK→Prop:=fun xs H Q=>∃ a C v b,xs=[.ref a,v]∧p5 v=true∧H a=some (jc a C)∧md K C∧PySem.W.kitOne K (.ref C) (kS v)=some b∧Q (.bl b) H
theorem z4:d9 X (.builtin "isinstance") (Fv X.K):=by
  rintro pins s σ H xs us Q I r ⟨a,C,v,b,rfl,hc,ha,Z,e,q⟩
  obtain⟨u,u2,rfl,ru,ru2⟩:=aL.two r
  cases (show u=Value.ref a from ru)
  rw [xb hc ru2]
  have p0:=(I.hok a _ ha).1
  exact PySem.W.kia_one (zW Z) I.kIn p0 e (by intro z;cases z) fun tk=>⟨.bl b,H,I.tok tk,rfl,q⟩
def Fw (K:PySem.W.Frag):List V→Hp→VK→Prop:=fun xs H Q=>∃ a C tp vs b,xs=[.ref a,.ref tp]∧vs.all p5=true∧H a=some (jc a C)∧H tp=some (.tup vs)∧md K C∧PySem.W.kitAny K (.ref C) (vs.map kS)=some b∧Q (.bl b) H
theorem z5:d9 X (.builtin "isinstance") (Fw X.K):=by
  rintro pins s σ H xs us Q I r ⟨a,C,tp,vs,b,rfl,hc,ha,ht,Z,e,q⟩
  obtain⟨u,u2,rfl,ru,ru2⟩:=aL.two r
  cases (show u=Value.ref a from ru)
  cases (show u2=Value.ref tp from ru2)
  have p0:=(I.hok a _ ha).1
  obtain⟨_,its,rv,o,ho,hcl,n,hd⟩:=I.hok tp _ ht
  have hit:=t7 hc rv
  subst hit
  obtain⟨cl,dd,dt,sl⟩:=o
  cases hcl
  cases hd
  exact PySem.W.kia_tup (zW Z) I.kIn p0 ho e (by intro z;cases z) fun tk=>⟨.bl b,H,I.tok tk,rfl,q⟩
theorem hV {x:Str} {np:Pos} {a:Addr} {es:List Expr} {vs:List V} (hg:Gl X x) (hm:X.mg x=some (.ref a)) (h:PA X es fun _ H Q=>Q vs H) (hd:(x == ("__debug__" : Str))=false:=by decide)
    (hs:starEach (.Name x np :: es) X.env=(false,eval (.Name x np) X.env) :: starEach es X.env:=by rfl):PA X (.Name x np :: es) fun _ H Q=>Q (.ref a :: vs) H:=bE (qo (v:=.ref a) hg hm rfl hd) h hs
theorem Br:PA X [] fun _ H Q=>Q [] H:=df
end
end Fm
set_option Elab.async false
set_option linter.all false
set_option maxRecDepth 100000
namespace Fm
open PySem PySem.Spec L2 PyProof.Rows
abbrev EN:List Value:=[.type "ValueError",.type "Exception",.type "BaseException",.type "object"]
theorem DD {K:PySem.W.Frag}{h:Heap}{mg:Str→Option Value}{x:Str}{C:Addr}{bm:List Value}{id:String}(X:K.In h)(e:mg x=some (.ref C))(q:PySem.W.excIn K C bm id=true):OwnCls x C bm id mg h:=by
  refine⟨e,?_⟩
  unfold PySem.W.excIn at q;split at q
  · rename_i dd cd sl ho;split at q
    · rename_i C' bm' k0 k1 k2 k3 n k5 hm hs
      simp only [Bool.and_eq_true,beq_iff_eq,Bool.not_eq_true'] at q;obtain⟨⟨⟨⟨⟨rfl,rfl⟩,hdel⟩,ht⟩,hok⟩,hni⟩:=q
      obtain⟨nm,bs,mro,ns,qn,hd,sn,sub,ab,col,del⟩:=cd
      dsimp only at hm hdel hok hni;subst hm hdel
      have hsl:sl = #[k0,k1,k2,k3,some (.builtin n),k5]:=by obtain⟨l⟩:=sl;simp only at hs;rw [hs]
      subst hsl
      exact⟨bm',ns,nm,qn,bs,hd,sn,sub,ab,col,dd,k0,k1,k2,k3,k5,_,X _ _ ho,.of_isNs (PySem.W.isNs_of_in X hok),PySem.W.nsMap_none_of_in X hok hni,PySem.W.tail_of_in X ht⟩
    · cases q
  · cases q
end Fm
namespace Fm
def noX {α : Type}:Res α → Res α
  | .exc _ _=>.bad
  | r=>r
def fPl {α : Type} (f:Sd→Hd→Res α):Sd→Hd→Res α := fun σ h=>noX (f σ h)
def sPl (f:SF):SF:=fun σ h=>match f σ h with | .exc _ _ _=>.bad|o=>o
end Fm
set_option Elab.async false
set_option linter.all false
set_option maxRecDepth 100000
namespace L2
open PySem PySem.Spec PyProof.Rows
theorem EO {X:Cx}{E:XK}{E':Addr→Hp→Prop}(h:∀ C H,E (.ref C) none H→E' C H)(hR:∀ e s',XF X E' e s'→X.xe e s'):lN (CX1 X.prog X.w) X E:=by
  intro pins σ H s e s' I q
  have:=EM (X:=X) (R:=X.xe) h hR pins σ H s e s' (I.wish _) q
  exact this
end L2
namespace Fm
open PySem PySem.Spec L2 PyProof.Rows
section
variable (K:PySem.W.Frag) (mg:Str→Option Value)
def XC (ρ:List Addr) (H:Hp) (E:Addr→Hp→Prop) (x:D) (hd:Hd):Prop:=∃ c l C,x=.exn c l∧mg (Str.ofString c)=some (.ref C) ∧ ∀ H' ρ',Ext ρ H ρ' H'→RH K ρ' H' hd→E C H'
def ea {α β : Type} (R:VR α β) (ρ:List Addr) (H:Hp) (σd:Sd) (σ:L2.St) (r:Res α) (E:Addr→Hp→Prop) (Q : β → Hp→Prop):Prop:=match r with
  | .ok a hd'=>∀ b H' ρ',Ext ρ H ρ' H'→RS K ρ' H' σd hd' σ → R ρ' H' a b→Q b H'
  | .exc x hd'=>XC K mg ρ H E x hd'
  | .bad=>False
def Co {α β : Type} (R:VR α β) (E:Addr→Hp→Prop) (f:Sd→Hd→Res α):L2.St→Hp→(β → Hp→Prop)→Prop:=fun σ H Q=>∃ ρ σd hd,RS K ρ H σd hd σ ∧ ea K mg R ρ H σd σ (f σd hd) E Q
def spY (F:Fn) (np:Nat):Sp:=fun vs H Q E=>∃ ρ hd ds,RH K ρ H hd∧RDs K ρ H ds vs∧ds.length=np∧match F ds hd with
  | .ok d hd'=>∀ v H' ρ',Ext ρ H ρ' H'→RH K ρ' H' hd'→RD K ρ' H' d v→Q v H'
  | .exc x hd'=>XC K mg ρ H (fun C H'=>E (.ref C) none H') x hd'
  | .bad=>False
end
section
variable {K:PySem.W.Frag} {mg:Str→Option Value} {ρ ρ':List Addr} {H H':Hp} {E:Addr→Hp→Prop} {σd:Sd} {σ:L2.St} {hd:Hd} {α β α' β':Type} {R:VR α β} {R':VR α' β'}
theorem XC.ext {x:D}(e:Ext ρ H ρ' H')(p:XC K mg ρ H E x hd):XC K mg ρ' H' E x hd:=by
  obtain⟨c,l,C,h1,h2,h3⟩:=p
  exact⟨c,l,C,h1,h2,fun H2 ρ2 e2 r=>h3 H2 ρ2 (e.trans e2) r⟩
theorem ea.ext {r:Res α}{Q : β → Hp→Prop}(e:Ext ρ H ρ' H')(h:ea K mg R ρ H σd σ r E Q):ea K mg R ρ' H' σd σ r E Q:=by
  cases r with
  | ok a h'=>exact fun b H2 ρ2 e2 s q=>h b H2 ρ2 (e.trans e2) s q
  | exc x h'=>exact XC.ext e h
  | bad=>exact h
theorem ea.imp {r:Res α}{Q Q' : β → Hp→Prop}(h:ea K mg R ρ H σd σ r E Q)(i:∀ b H',Q b H'→Q' b H'):ea K mg R ρ H σd σ r E Q':=by
  cases r with
  | ok a h'=>exact fun b H' ρ' e s q=>i b H' (h b H' ρ' e s q)
  | exc x h'=>exact h
  | bad=>exact h
theorem ea.bind {r:Res α}{k : α → Hd→Res α'}{Q : β'→Hp→Prop}(h:ea K mg R' ρ H σd σ (r.bind k) E Q) :
    ea K mg R ρ H σd σ r E (fun b H'=>∃ ρ' a hd',Ext ρ H ρ' H'∧RS K ρ' H' σd hd' σ ∧ R ρ' H' a b∧ea K mg R' ρ' H' σd σ (k a hd') E Q):=by
  cases r with
  | ok a h'=>exact fun b H' ρ' e s q=>⟨ρ',a,h',e,s,q,ea.ext e h⟩
  | exc x h'=>exact h
  | bad=>exact h
theorem gE.outE {r:Res D}{k:D→Hd→Out}{En:lI}(p:gE K mg ρ H (outE r σd k) E En) :
    ea K mg (rD K) ρ H σd σ r E (fun v H'=>∃ ρ' d hd',Ext ρ H ρ' H'∧RS K ρ' H' σd hd' σ ∧ RD K ρ' H' d v∧gE K mg ρ' H' (k d hd') E En):=by
  cases r with
  | ok d h'=>exact fun b H' ρ' ex rs q=>⟨ρ',d,h',ex,rs,q,gE.ext ex p⟩
  | exc x h'=>exact p
  | bad=>exact p
theorem ea.of_pl {r:Res α}{Q : β → Hp→Prop}(p:ea K mg R ρ H σd σ (noX r) E Q):bh K R ρ H σd σ r Q:=by
  cases r with
  | ok a h'=>exact p
  | exc x h'=>exact p
  | bad=>exact p
end
def NE (X:Cx) (E:Addr→Hp→Prop) (e:Expr) (f:EF):Prop:=PE X e (Co X.K X.mg (rD X.K) E f)
def NA (X:Cx) (E:Addr→Hp→Prop) (es:List Expr) (f:LF):Prop:=PA X es (Co X.K X.mg (rDs X.K) E f)
def NS (X:Cx) (E:Addr→Hp→Prop) (s:Stmt) (f:SF):Prop:=PS X s (z0 X.K X.mg E f)
def NSs (X:Cx) (E:Addr→Hp→Prop) (s:List Stmt) (f:SF):Prop:=PSs X s (z0 X.K X.mg E f)
structure nz (P:Program) (w:World) (K:PySem.W.Frag) (mg:Str→Option Value) (base:Heap) (x:Str) (k np:Nat) (F:Fn):Prop where
  ex:∃ f fd ps,mg x=some (.ref f)∧PySem.W.keepIn K (.ref f)=true∧gy K fd ps []∧b5 P w K mg base (CX1 P w) k f fd ps (spY K mg F np)
section
variable {X:Cx} {E:Addr→Hp→Prop} {pos p:Pos}
theorem Ce {e:Expr}{f:EF}(h:ME X e f):NE X E e (fPl f):=PE.imp h fun σ H Q ⟨ρ,σd,hd,rs,q⟩=>⟨ρ,σd,hd,rs,q.of_pl⟩
theorem EQ {es:List Expr}{f:LF}(h:MA X es f):NA X E es (fPl f):=PA.imp h fun σ H Q ⟨ρ,σd,hd,rs,q⟩=>⟨ρ,σd,hd,rs,q.of_pl⟩
theorem Bs {x:Str}{k np:Nat}{F:Fn}{e:Expr}{es:List Expr}{r:LF}(hd:nz X.prog X.w X.K X.mg X.base x k np F)(hr:eC k X.A)(hg:Gl X x)(ha:NA X E (e :: es) r)(hR:∀ v s',XF X E v s'→X.xe v s')
    (hnp:∀ ds h,F ds h ≠ .bad→ds.length=np) (hdb:(x == ("__debug__" : Str))=false:=by decide) (he:starEach (e :: es) X.env=(false,eval e X.env) :: starEach es X.env:=by rfl) (hpl:(backTo pos (starEach es X.env)).any (·.1)=false:=by rfl) :
    NE X E (.Call (.Name x p) (e :: es) [] pos) (am F r):=by
  obtain⟨f,fd,ps,h1,h2,h3,h4⟩:=hd.ex
  refine PE.imp (wO (E:=fun v _ H=>∃ C,v=.ref C∧E C H) h4 hr hg h1 h2 h3 .nil (EO (E':=E) (fun C H ⟨C',e,q⟩=>by cases e;exact q) hR) ha hdb he hpl) fun σ H Q ⟨ρ,σd,hd,rs,pp⟩=>⟨ρ,σd,hd,rs,(ea.bind (R:=rDs X.K) pp).imp fun vs H1 ⟨ρ1,ds,hd1,e1,rs1,rv,p1⟩ => ?_⟩
  rw [List.append_nil]
  refine⟨ρ1,hd1,ds,rs1.hp,rv,?_,?_⟩
  · refine hnp ds hd1 fun z => ?_
    rw [z] at p1;exact p1
  · cases c:F ds hd1 with
    | bad=>rw [c] at p1;exact p1
    | exc z h' =>
      rw [c] at p1
      obtain⟨cn,l,C,q1,q2,q3⟩:=p1
      exact⟨cn,l,C,q1,q2,fun H2 ρ2 e2 r2=>⟨C,rfl,q3 H2 ρ2 e2 r2⟩⟩
    | ok d hd2 =>
      rw [c] at p1
      exact fun v H' ρ' ex rh rd=>p1 v H' ρ' ex (rs1.ext ex rh) rd
theorem xc {np n:Nat}{b:SF}:∀ ds h,bz np n b ds h ≠ .bad→ds.length=np:=by
  intro ds h e
  unfold bz at e
  split at e
  · assumption
  · exact absurd rfl e
theorem Cp {s:Stmt}{f:SF}(h:MS X s f):NS X E s (sPl f):=PS.imp h fun En σ H ⟨ρ,σd,hd,rs,q⟩=>⟨ρ,σd,hd,rs,by
  unfold sPl at q
  cases e:f σd hd<;>rw [e] at q<;>exact q⟩
theorem xf:NSs X E [] a7:=PSs.imp qp fun En σ H ⟨ρ,σd,hd,rs,p⟩=>p σ H ρ Ext.refl rs
theorem lw {st:Stmt}{a:SF}(h:NS X E st a):NSs X E [st] a:=qq h
theorem mf {st:Stmt}{rest:List Stmt}{a b:SF}(h1:NS X E st a)(h2:NSs X E rest b):NSs X E (st :: rest) (aE a b):=by
  refine PSs.imp (tM h1 h2) fun En σ H ⟨ρ,σd,hd,rs,q⟩=>⟨ρ,σd,hd,rs,?_⟩
  unfold aE at q
  cases e:a σd hd with
  | nx σ1 h1=>rw [e] at q;exact fun σ' H' ρ' ex rs'=>⟨ρ',σ1,h1,rs',gE.ext ex q⟩
  | rt d h1=>rw [e] at q;exact q
  | bk σ1 h1=>rw [e] at q;exact q
  | ct σ1 h1=>rw [e] at q;exact q
  | exc x σ1 h1=>rw [e] at q;exact q
  | bad=>rw [e] at q;exact q
theorem Cq {c:Expr}{a b:List Stmt}{t:TF}{fa fb:SF}(hc:MT X c t)(ha:NSs X E a fa)(hb:NSs X E b fb):NS X E (.If c a b pos) (tZ t fa fb):=by
  refine PS.imp (Cf hc ha hb) fun En σ H ⟨ρ,σd,hd,rs,q⟩=>⟨ρ,σd,hd,rs,?_⟩
  unfold tZ at q
  cases e:t σd hd with
  | exc x h'=>rw [e] at q;exact q
  | bad=>rw [e] at q;exact q
  | ok c h' =>
    rw [e] at q
    intro b H' ρ' ex rs' hb
    cases hb
    cases c with
    | true=>rw [if_pos rfl];exact⟨ρ',σd,h',rs',gE.ext ex q⟩
    | false=>rw [if_neg Bool.false_ne_true];exact⟨ρ',σd,h',rs',gE.ext ex q⟩
theorem Bt {e:Expr}{f:EF}(h:NE X E e f)(hs:swapsWith e none pos.line X.env=pure false:=by rfl):NS X E (.Expr e pos) (iD f):=by
  refine PS.imp (wM h hs) fun En σ H ⟨ρ,σd,hd,rs,p⟩=>⟨ρ,σd,hd,rs,(gE.outE p).imp fun v H1 ⟨ρ1,d,hd1,e1,rs1,rv,p1⟩ => ?_⟩
  exact p1 σ H1 ρ1 Ext.refl rs1
end
end Fm
set_option Elab.async false
set_option linter.all false
set_option maxRecDepth 100000
namespace L2
open PySem PySem.Spec PyProof.Rows
section
variable {X:Cx} {E:Addr→Hp→Prop} {e:Value} {s':Shared} {R:Value→Shared→Prop}
theorem PS.xe {st:Stmt}{t:TS}(hx:∀ e s',R e s'→X.xe e s')(h:PS (X.wish R) st t):PS X st t:=fun pins s σ H D I hw =>
  wpAny_mono (h pins s σ H D (I.wish _) hw) (fun _ _ q=>q.unwish) hx
end
end L2
namespace Fm
open PySem PySem.Spec L2 PyProof.Rows
section
variable {X:Cx} {E:Addr→Hp→Prop} {pos p:Pos}
theorem t8 {n:String}{C:Addr}{bm:List Value}{B newId initId:String}{np cpos cp:Pos}{txt:Str}{j}(O:OwnCls (Str.ofString n) C bm newId X.mg X.base)(FB:ExcBaseFacts B newId initId bm)(hc:X.calm=true)(hg:Gl X (Str.ofString n))(hx:∀ e s',XP X E e s'→X.xe e s')
    (hdb:(Str.ofString n == ("__debug__" : Str))=false:=by decide):NS X E (.Raise (some (.Call (.Name (Str.ofString n) np) [.Constant (.str txt) j cp] [] cpos)) none pos) (ma n):=PS.xe hx (z3 O FB hc hg hdb E)
end
section
variable {P:Program} {w:World} {K:PySem.W.Frag} {mg:Str→Option Value} {base:Heap}
def t9 (K:PySem.W.Frag) (mg:Str→Option Value) (ρ:List Addr) (H:Hp) (r:Res D) (E:XK) (Q:VK):Prop:=match r with
  | .ok d hd'=>∀ v H' ρ',Ext ρ H ρ' H'→RH K ρ' H' hd'→RD K ρ' H' d v→Q v H'
  | .exc x hd'=>XC K mg ρ H (fun C H'=>E (.ref C) none H') x hd'
  | .bad=>False
theorem t9.letGo {ρ:List Addr}{H:Hp}{hd:Hd}{r:Res D}{E:XK}{Q:VK}(rh:RH K ρ H hd)(p:t9 K mg ρ H (letGo hd r) E Q):t9 K mg ρ H r E Q:=by
  cases r with
  | exc x h'=>exact p
  | bad=>exact p
  | ok d h' =>
    have q:jg K ρ H (Fm.letGo hd (.ok d h')) Q:=by
      simp only [Fm.letGo] at p ⊢
      split at p<;>rename_i c
      · rw [if_pos c];exact p
      · rw [if_neg c];exact p
    exact jg.letGo rh q
theorem z6 {x:Str}{st:Stmt}{f:Addr}{fd:FuncData}{N ps:List Str}{k:Nat}{b:SF}(F:Fun K x x st f fd)(S:a4 N ps (ak st))
    (body:∀ (cdv:Value) (A:Around) (outer:List Env) (s:Shared) (H:Hp) (E:XK),eC k (A.deeper (envOfC x (ak st) s.heap.objs.size f cdv)) →
      NSs (kP (CX1 P w) P w K mg base N x (ak st) f cdv A outer s H E) (fun C H'=>E (.ref C) none H') (aX st) b) :
    b5 P w K mg base (CX1 P w) (k + 1) f fd ps (spY K mg (bz ps.length N.length b) ps.length):=by
  obtain⟨oc,od,kV,doc,pm,an,cdv,ct,osl,rfl,lk,hcd⟩:=F.ex
  refine Ci lk hcd S (fun vs H Q E ⟨ρ,hd,ds,rh,rd,hl,p⟩=>by rw [← rd.length];exact hl) fun A outer s H vs Q E hr ⟨ρ,hd,ds,rh,rd,hl,p⟩=>⟨_,body cdv A outer s H E hr,ρ,_,hd,⟨rh,pV rd⟩,?_⟩
  have p0:t9 K mg ρ H (bz ps.length N.length b ds hd) E Q:=p
  unfold bz at p0
  rw [if_pos hl] at p0
  have p1:=t9.letGo rh p0
  unfold runB at p1
  cases e2:b (ds.map some++List.replicate (N.length - ds.length) none) hd with
  | nx σ1 h1=>rw [e2] at p1;exact fun σ' H' ρ' ex rs'=>p1 .non H' ρ' ex rs'.hp (by simp only [RD])
  | rt d h1=>rw [e2] at p1;exact p1
  | bk _ _=>rw [e2] at p1;exact p1.elim
  | ct _ _=>rw [e2] at p1;exact p1.elim
  | bad=>rw [e2] at p1;exact p1.elim
  | exc y σ1 h1=>rw [e2] at p1;exact p1
theorem nz.mk' {x:Str}{f:Addr}{fd:FuncData}{ps:List Str}{k np:Nat}{F:Fn}(hm:mg x=some (.ref f))(hk:PySem.W.keepIn K (.ref f)=true)(hb:gy K fd ps [])(h:b5 P w K mg base (CX1 P w) k f fd ps (spY K mg F np)):nz P w K mg base x k np F:=⟨f,fd,ps,hm,hk,hb,h⟩
end
end Fm
set_option Elab.async false
set_option linter.all false
set_option maxRecDepth 100000
namespace Fm
open PySem PySem.Spec L2 PyProof.Rows
section
variable {X:Cx} {pos p:Pos}
end
end Fm
namespace Fm
def isX (tb:List (String × Bool)):D→Option Bool
  | .exn c _=>tb.lookup c
  | _=>none
def iE (tb:List (String × Bool)) (a:EF):EF:=fun σ h=>(a σ h).bind fun x h=>match isX tb x with|some b=>.ok (.bl b) h|none=>.bad
end Fm
set_option Elab.async false
set_option linter.all false
set_option maxRecDepth 100000
namespace L2
open PySem PySem.Spec PyProof.Rows
section
variable {X:Cx} {body:List Stmt} {x n c:Str} {M:Addr} {i j:Nat} {np cp vp ap hp pos:Pos} {tb:(Addr→Hp→Prop)→TS}
end
end L2
namespace Fm
open PySem PySem.Spec L2 PyProof.Rows
def mh (K:PySem.W.Frag) (f:Addr→Bool→Prop) (tb:List (String × Bool)):Prop:=∀ c b,(c,b)∈tb → ∃ C,PySem.W.nsIn K mainGlobals (Str.ofString c)=some (some (.ref C))∧md K C∧f C b
theorem vK {K:PySem.W.Frag}{f:Addr→Bool→Prop}:mh K f []:=fun _ _ h=>absurd h (List.not_mem_nil)
theorem qV {K:PySem.W.Frag}{f:Addr→Bool→Prop}{c:String}{b:Bool}{tb:List (String × Bool)}{C:Addr}(n:PySem.W.nsIn K mainGlobals (Str.ofString c)=some (some (.ref C)))(Z:md K C)(k:f C b)(r:mh K f tb):mh K f ((c,b) :: tb):=fun c' b' h=>by
  rcases List.mem_cons.mp h with e|e
  · cases e;exact⟨C,n,Z,k⟩
  · exact r c' b' e
theorem i4 {c:String}{b:Bool}:∀ {tb:List (String × Bool)},tb.lookup c=some b→(c,b)∈tb
  | [],h=>by cases h
  | (c',b') :: r,h=>by
    rw [List.lookup_cons] at h
    cases e:c == c' with
    | true =>
      rw [e] at h
      have:=eq_of_beq e
      subst this
      cases h
      exact List.mem_cons_self
    | false=>rw [e] at h;exact List.mem_cons_of_mem _ (i4 h)
def xU (K:PySem.W.Frag) (mg:Str→Option Value) (M:Addr) (cs:List String):Prop:=∀ c∈cs,∃ C,mg (Str.ofString c)=some (.ref C)∧PySem.W.nsIn K mainGlobals (Str.ofString c)=some (some (.ref C))∧PySem.W.subIn K (.ref C) (.ref M)=some true
theorem DE {K:PySem.W.Frag}{mg:Str→Option Value}{M:Addr}:xU K mg M []:=fun _ h=>absurd h (List.not_mem_nil)
theorem Bu {K:PySem.W.Frag}{mg:Str→Option Value}{M C:Addr}{c:String}{cs:List String}(g:mg (Str.ofString c)=some (.ref C))(n:PySem.W.nsIn K mainGlobals (Str.ofString c)=some (some (.ref C)))(s:PySem.W.subIn K (.ref C) (.ref M)=some true)(r:xU K mg M cs):xU K mg M (c :: cs):=fun c' h=>by
  rcases List.mem_cons.mp h with e|e
  · subst e;exact⟨C,g,n,s⟩
  · exact r c' e
section
variable {X:Cx} {pos p:Pos}
theorem xg {tb:List (String × Bool)} {a:Expr} {fa:EF} {n:Str} {p2:Pos} {v:V} (hc:p5 v=true) (hg:Gl X "isinstance") (hm:X.mg "isinstance" = none) (hv:PE X (.Name n p2) (tC v))
    (htb:mh X.K (fun C b=>PySem.W.kitOne X.K (.ref C) (kS v)=some b) tb) (ha:ME X a fa)
    (hs:starEach [a,.Name n p2] X.env=(false,eval a X.env) :: starEach [.Name n p2] X.env:=by rfl) (hs2:starEach [.Name n p2] X.env=(false,eval (.Name n p2) X.env) :: starEach [] X.env:=by rfl) :
    ME X (.Call (.Name "isinstance" p) [a,.Name n p2] [] pos) (iE tb fa):=by
  refine PE.imp (gR z4 hg hm (by decide +kernel) (bE ha (bE hv df hs2) hs) (he:=hs)) fun σ H Q ⟨ρ,σd,hd,rs,pp⟩=>⟨ρ,σd,hd,rs,(bh.bind (R:=rD X.K) pp).imp fun v1 H1 ⟨ρ1,d,hd1,e1,rs1,rv,p1⟩ => ?_⟩
  cases d<;>try exact p1.elim
  rename_i c l
  simp only [isX] at p1
  cases e:tb.lookup c with
  | none=>rw [e] at p1;exact p1.elim
  | some b =>
    rw [e] at p1
    simp only [rD,RD] at rv
    obtain⟨rfl,q,C,rfl,hq,hn⟩:=rv
    obtain⟨C',n',Z,k⟩:=htb c b (i4 e)
    rw [hn] at n'
    cases n'
    exact⟨q,C,v,b,rfl,hc,hq,Z,k,p1.here rs1 (by simp only [rD,RD])⟩
theorem Bv {tb:List (String × Bool)} {a:Expr} {fa:EF} {ns:List Expr} {kt} {p2:Pos} {vs:List V} (hns:PA X ns fun _ H Q=>Q vs H) (hvs:vs.all p5=true) (hlen:vs.length≤sizeLine) (hg:Gl X "isinstance") (hm:X.mg "isinstance" = none)
    (htb:mh X.K (fun C b=>PySem.W.kitAny X.K (.ref C) (vs.map kS)=some b) tb) (ha:ME X a fa)
    (hs:starEach [a,.Tuple ns kt p2] X.env=(false,eval a X.env) :: starEach [.Tuple ns kt p2] X.env:=by rfl) (hs2:starEach [.Tuple ns kt p2] X.env=(false,eval (.Tuple ns kt p2) X.env) :: starEach [] X.env:=by rfl) :
    ME X (.Call (.Name "isinstance" p) [a,.Tuple ns kt p2] [] pos) (iE tb fa):=by
  refine PE.imp (gR z5 hg hm (by decide +kernel) (bE ha (bE (zb hns) df hs2) hs) (he:=hs)) fun σ H Q ⟨ρ,σd,hd,rs,pp⟩=>⟨ρ,σd,hd,rs,(bh.bind (R:=rD X.K) pp).imp fun v1 H1 ⟨ρ1,d,hd1,e1,rs1,rv,p1⟩ => ?_⟩
  refine⟨hlen,fun tp hnt => ?_⟩
  cases d<;>try exact p1.elim
  rename_i c l
  simp only [isX] at p1
  cases e:tb.lookup c with
  | none=>rw [e] at p1;exact p1.elim
  | some b =>
    rw [e] at p1
    simp only [rD,RD] at rv
    obtain⟨rfl,q,C,rfl,hq,hn⟩:=rv
    obtain⟨C',n',Z,k⟩:=htb c b (i4 e)
    rw [hn] at n'
    cases n'
    have hq2:upd H1 tp (.tup vs) q=some (jc q C):=by rw [az (bg hq hnt)];exact hq
    have sm:eR H1 (upd H1 tp (.tup vs)):=bO hnt
    exact⟨q,C,tp,vs,b,rfl,hvs,hq2,aV,Z,k,p1.at (Ext.same sm) (rs1.same sm) (by simp only [rD,RD])⟩
end
end Fm
namespace Fm
def p6 (s:String):List Nat:=s.toList.map Char.toNat
@[simp] def Bw (a:EF):EF:=fun σ h=>(a σ h).bind fun x h=>match x with | .int i=>if -1000000≤i∧i≤1000000 then .ok (.str (p6 (toString i))) h else .bad|_=>.bad
end Fm
set_option Elab.async false
set_option linter.all false
set_option maxRecDepth 100000
namespace Fm
open PySem PySem.Spec L2 PyProof.Rows
section
variable {X:Cx} {pos p:Pos}
theorem Bx {i:Int}(h : -1000000≤i∧i≤1000000):i.natAbs.log2 < 1920:=by
  by_cases z:i.natAbs=0
  · rw [z];decide
  · rw [Nat.log2_lt z]
    exact Nat.lt_of_lt_of_le (show i.natAbs < 2 ^ 20 by omega) (Nat.pow_le_pow_right (by decide) (by decide))
theorem By {a:Expr} {fa:EF} (hg:Gl X "str") (hm:X.mg "str" = none) (ha:ME X a fa) (hs:starEach [a] X.env=(false,eval a X.env) :: starEach [] X.env:=by rfl):ME X (.Call (.Name "str" p) [a] [] pos) (Bw fa):=by
  refine wW (g:=fun x h=>match x with | .int i=>if -1000000≤i∧i≤1000000 then .ok (.str (p6 (toString i))) h else .bad|_=>.bad) (wV qx hg hm (by decide +kernel) (he:=hs)) ha (fun ρ H σd hd σ d v Q rs rv p => ?_) hs
  cases d<;>first|exact p.elim|skip
  rename_i i
  simp only [RD] at rv;subst rv
  simp only at p
  split at p
  · rename_i hz
    exact⟨i,rfl,Bx hz,p.here rs (by simp only [rD,RD];rw [PySem.Str.ofString_eq_toList];rfl)⟩
  · exact p.elim
def spM (C:Addr):Sp:=fun vs H Q _=>∃ a,vs=[.ref a]∧H a=some (jc a C) ∧ ∀ H',eR H H'→Q (.bl true) H'
structure FH (P:Program) (w:World) (K:PySem.W.Frag) (mg:Str→Option Value) (base:Heap) (x:Str) (k:Nat) (C:Addr):Prop where
  ex:∃ f fd ps,mg x=some (.ref f)∧PySem.W.keepIn K (.ref f)=true∧gy K fd ps []∧b5 P w K mg base CX0 k f fd ps (spM C)
end
end Fm
namespace Fm
def jn:List D→Option (List (List Nat))
  | []=>some []
  | .str x :: r=>(jn r).map (x :: ·)
  | _=>none
def ua (a:LF):EF:=fun σ h=>(a σ h).bind fun l h=>match jn l with
  | some ss=>if (ss.map (·.length)).sum≤1000000 then .ok (.str ss.flatten) h else .bad
  | none=>.bad
end Fm
set_option Elab.async false
set_option linter.all false
set_option maxRecDepth 100000
namespace Fm
open PySem PySem.Spec L2 PyProof.Rows
section
variable {X:Cx} {pos p:Pos}
theorem ub {K:PySem.W.Frag}{ρ:List Addr}{H:Hp}:∀ {l:List D} {vs:List V} {ss:List (List Nat)},RDs K ρ H l vs→jn l=some ss→vs=ss.map fun x=>V.str (toS x)
  | [],_,is,r,e=>by simp only [jn] at e;cases e;simp only [RDs] at r;subst r;rfl
  | d :: l,_,is,r,e=>by
    simp only [RDs] at r
    obtain⟨v,vs,rfl,h1,h2⟩:=r
    cases d<;>simp only [jn] at e<;>try (cases e;done)
    rename_i i
    cases c:jn l with
    | none=>rw [c] at e;cases e
    | some js =>
      rw [c] at e
      cases e
      simp only [RD] at h1
      rw [h1,ub h2 c]
      rfl
theorem mi:∀ {ss:List (List Nat)} {us:List Value},aL (ss.map fun x=>V.str (toS x)) us→StrsAre us (ss.map toS)
  | [],_,.nil=>.nil
  | x :: ss,_,.cons r t=>by obtain⟨k,rfl⟩:=r;exact .cons _ _ (mi t)
theorem lx (a b:List Nat):(toS a++toS b:Str)=toS (a++b):=by
  show (⟨a.toArray++b.toArray⟩ : Str)=⟨(a++b).toArray⟩
  rw [List.append_toArray]
theorem uc:∀ ss:List (List Nat),Str.join (toS []) (ss.map toS)=toS ss.flatten
  | []=>rfl
  | [x]=>by rw [List.flatten_cons,List.flatten_nil,List.append_nil];rfl
  | x :: y :: r=>by
    have ih:=uc (y :: r)
    show toS x++toS []++Str.join (toS []) ((y :: r).map toS)=_
    rw [ih,lx,lx,List.append_nil,← List.flatten_cons]
theorem ud (ss:List (List Nat)):Txt.join (toS []) (ss.map toS)=toS ss.flatten:=(StrLaws.glued_eq_join _ _).trans (uc ss)
def ER (K:PySem.W.Frag):V→List V→Hp→VK→Prop:=fun x vs H Q=>∃ (q:Addr) (ss:List (List Nat)),x=.str (toS [])∧vs=[.ref q]∧(SqL K H q (ss.map fun x=>V.str (toS x))∨H q=some (.tup (ss.map fun x=>V.str (toS x))))∧(ss.map (·.length)).sum≤1000000∧Q (.str (toS ss.flatten)) H
theorem Bz:MtR X "str.join" (ER X.K):=by
  intro pins s σ H x vs v us Q I rx rv h
  obtain⟨q,ss,rfl,rfl,sq,hz,hq⟩:=h
  obtain⟨t,rfl⟩:=rx
  obtain⟨u,rfl,ru⟩:=rv.one
  cases (show u=Value.ref q from ru)
  have hb:((ss.map toS).map (·.length)).sum + (ss.map toS).length * (toS []).length≤16777216:=by
    have:((ss.map toS).map (·.length))=ss.map (·.length):=by rw [List.map_map];apply List.map_congr_left;intro a _;simp [toS,Str.length]
    rw [this]
    show _ + _ * 0≤_
    omega
  rcases sq with sq|sq
  · obtain⟨its,r,pl,_⟩:=I.list sq
    exact join_list pl.isList (by rw [List.toList_toArray];exact mi r) hb fun t' k=>⟨.str (toS ss.flatten),H,I.tok k,⟨t',by rw [ud]⟩,hq⟩
  · obtain⟨_,its,r,ht⟩:=I.hok q _ sq
    exact join_tuple ht (by rw [List.toList_toArray];exact mi r) hb fun t' k=>⟨.str (toS ss.flatten),H,I.tok k,⟨t',by rw [ud]⟩,hq⟩
theorem xh {e:Expr} {L:LF} {apos cpos p1:Pos} {j} {x:Str} (hx:x=toS []) (he:MQ X e L) (hbase:attributeBase (.Constant (.str x) j p1) "join" X.env (eval (.Constant (.str x) j p1) X.env)=eval (.Constant (.str x) j p1) X.env:=by rfl)
    (hfew:((backTo cpos (starEach [e] X.env)).all (fun x => !x.1) && (backToKw cpos (keywordEach [] X.env)).all (fun x=>x.1.isSome)
      && decide (([e] : List Expr).length + ([] : List Keyword).length + (if ([] : List Keyword).isEmpty then 0 else 1) < 30))=true:=by rfl)
    (hline:(apos.endLine == cpos.line)=true:=by rfl) (hs:starEach [e] X.env=(false,eval e X.env) :: starEach [] X.env:=by rfl) :
    ME X (.Call (.Attribute (.Constant (.str x) j p1) "join" apos) [e] [] cpos) (ua L):=by
  refine PE.imp (zi PySem.F.plainAttrs_str PySem.F.slot_str_join PySem.F.type_str_join Bz vg (bE he df hs) hbase hfew hline hs) fun σ H Q ⟨ρ,σd,hd,rs,pp⟩=>⟨rfl,ρ,σd,hd,rs,(bh.bind (R:=rQ X.K) pp).imp fun v H1 ⟨ρ1,l,hd1,e1,rs1,⟨q,vs,hv,sq,rvs⟩,p1⟩ => ?_⟩
  subst hv
  cases c:jn l with
  | none=>simp only [c] at p1;exact p1.elim
  | some ss =>
    simp only [c] at p1
    split at p1
    · rename_i hz
      have e:=ub rvs c
      subst e
      exact⟨q,ss,by rw [hx],rfl,sq,hz,p1.here rs1 (by simp only [rD,RD])⟩
    · exact p1.elim
end
end Fm
set_option linter.all false
namespace Fm
def kE (j:Nat) (cs:List String) (b hb:SF):SF:=fun σ h=>match b σ h with
  | .nx σ' h'=>.nx σ' h'
  | .exc (.exn c []) _ h'=>if c∈cs then (match hb (σ.set j (some (.exn c []))) h' with | .nx σ2 h2=>.nx (σ2.set j none) h2|_=>.bad) else .bad
  | _=>.bad
end Fm
set_option Elab.async false
set_option linter.all false
set_option maxRecDepth 100000
namespace L2
open PySem PySem.Spec PyProof.Rows
def XFs (X:Cx) (σ0:St) (E:Addr→Hp→Prop) (e:Value) (s':Shared):Prop:=∃ pins H a C B t,e=.ref a∧Inv X pins σ0 H s'∧Heap.FlyingW B X.stack a (.ref C) (.ref t) s'.heap∧Cov X pins H B∧E C H
def ES (K:PySem.W.Frag) (M:Addr) (i j:Nat) (tc:(Addr→Hp→Prop)→TE) (th:TS):TS:=fun D σ H=>∃ E:Addr→Hp→Prop,tc E σ H (fun v H1=>D.nx (σ.set i (some v)) H1) ∧
  ∀ C H' a,E C H'→H' a=none→PySem.W.subIn K (.ref C) (.ref M)=some true∧th { nx:=fun σ9 H9=>D.nx (σ9.set j none) H9,rt:=fun _ _=>False } (σ.set j (some (.ref a))) (upd H' a (jc a C))
section
variable {X:Cx} {x n c:Str} {M:Addr} {i j:Nat} {np cp vp ap hp pos p:Pos} {σ0:St}
theorem z7 {k:Nat}{f:Addr}{fd:FuncData}{ps:List Str}{sp:Sp}{E:XK}{E':Addr→Hp→Prop}{e:Expr}{es:List Expr}{t:TA}(F:b5 X.prog X.w X.K X.mg X.base (CX1 X.prog X.w) k f fd ps sp)(hr:eC k X.A)(hg:Gl X x)(hm:X.mg x=some (.ref f))(hk:PySem.W.keepIn X.K (.ref f)=true)
    (hb:gy X.K fd ps []) (h:∀ C H,E (.ref C) none H→E' C H) (ha:PA (X.wish (XFs X σ0 E')) (e :: es) t) (hdb:(x == ("__debug__" : Str))=false:=by decide) (he:starEach (e :: es) X.env=(false,eval e X.env) :: starEach es X.env:=by rfl) (hpl:(backTo pos (starEach es X.env)).any (·.1)=false:=by rfl) :
    PE (X.wish (XFs X σ0 E')) (.Call (.Name x p) (e :: es) [] pos) (fun σ H Q => σ = σ0∧t σ H fun vs H1=>sp vs H1 Q E):=by
  rintro pins s σ H Q I ⟨rfl,hw⟩
  refine wpAny_Call_Name_kw (lm (X:=X.wish (XFs X σ E')) I hg hm ?_ hdb)
  refine PySem.W.callWith_K (h₀ := X.base) I.ok.mod.kin hk (thn (ha pos pins s σ H _ I hw) fun us s1 ⟨vs,H1,I1,r,q⟩=>⟨I1.kIn,?_⟩) he hpl
  have hl:(us++([] : List Value)).length=ps.length:=by rw [List.append_nil,← r.length];exact F.len _ _ _ _ q
  have hb':=hb s1 us I1.kIn hl
  rw [List.append_nil] at hb'
  refine wpAny_call (codeAny_mono (F.run X.A X.stack s1 H1 ⟨us,[]⟩ us vs Q E hr (I1.unwish).env0 hb' r q) fun r2 s' hq => ?_)
  cases r2 with
  | error e =>
    obtain⟨a,C,B,t',H',rfl,os,bare,un,hok,fl,trk,old,q'⟩:=hq
    have I0:=I1.unwish
    have I':Inv X pins σ H' s':=I0.call' (ch:=[]) os un hok bare (fun b z=>absurd z (by simp))
    refine⟨pins,H',a,C,B,t',rfl,I',fl,⟨trk,fun b o e hb hx => ?_,fun p hp => ?_⟩,h C H' q'⟩
    · obtain⟨o',e'⟩:=I0.base.there b o e hx
      exact old b o' e' hb
    · obtain⟨e,n,ne,nf,_⟩:=I0.pin p hp
      exact old p.1 p.2 e fun z=>(List.mem_cons.mp (I0.stkSub p.1 z)).elim ne nf
  | ok fl =>
    cases fl with
    | ret u=>exact I1.after hq
    | next=>exact False.elim hq
    | brk=>exact False.elim hq
    | cont=>exact False.elim hq
theorem xV {rhs:Expr}{hs1:Stmt}{hr1:List Stmt}{tc:(Addr→Hp→Prop)→TE}{th:TS}(hc:∀ q σ0 E,PE ((X.pin q).wish (XFs (X.pin q) σ0 E)) rhs (fun σ H Q => σ = σ0∧tc E σ H Q))(hh:∀ q a,PSs ((X.pin q).sui a) (hs1 :: hr1) th)
    (hxe:X.xe=fun _ _=>False) (hstk:X.stack=X.env :: X.outer) (hfr:X.env.frame=some X.env.locals) (hm:X.mg x=some (.ref M)) (hg:Gl X x)
    (hbe:PySem.W.subIn X.K (.ref M) (.type "BaseException")=some true) (his:(PySem.W.clsIn X.K M).isSome=true) (hty:PySem.W.typeIn X.K (.ref M)=some (.type "type")) (hN:X.N.Nodup) (hj:X.N[j]? = some n) (hjl:X.env.scope.names.lookup n=some .local)
    (hi:X.N[i]? = some c) (hil:X.env.scope.names.lookup c=some .local) (hdb:(x == ("__debug__" : Str))=false:=by decide)
    (hs:swapsWith rhs (some (.Name c cp)) ap.line X.env=pure false:=by rfl) :
    PS X (.Try [.Assign [.Name c cp] rhs ap] [.ExceptHandler (some (.Name x np)) (some n) (hs1 :: hr1) hp] [] [] pos) (ES X.K M i j tc th):=by
  rintro pins s σ H D I ⟨E,h1,h2⟩
  have hbody:PSs ((X.pin (X.pn++pins)).wish (XFs (X.pin (X.pn++pins)) σ E)) [.Assign [.Name c cp] rhs ap] (CS (fun σ' H Q => σ' = σ ∧ tc E σ' H Q) (yZ i)):=qq (y4 hN hi (.inl hil) (hc (X.pn++pins) σ E) hs (.inr hil))
  refine wpAny_Try_except (wpAny_mono (hbody [] s σ H { nx:=D.nx,rt:=fun _ _=>False } ((I.pinq).wish _) ⟨rfl,h1⟩) (fun f s1 q => ?_) (fun e s1 q => ?_))
  · cases f with
    | next=>obtain⟨σ1,H1,J,q⟩:=q;exact qp pins s1 σ1 H1 D J.unwish.unpin q
    | brk=>obtain⟨_,_,_,q⟩:=q;exact q.elim
    | cont=>obtain⟨_,_,_,q⟩:=q;exact q.elim
    | ret u=>obtain⟨_,_,_,_,_,q⟩:=q;exact q.elim
  · obtain⟨pins',H',a,C,B,t,rfl,J,fl,cv,q⟩:=q
    have hf:X.A.frames=some (X.env :: X.outer):=by rw [← hstk];exact I.ok.frames
    have fl':Heap.FlyingW B (X.env :: X.outer) a (.ref C) (.ref t) s1.heap:=by rw [← hstk];exact fl
    have hn:H' a=none:=by
      cases e:H' a with
      | none=>rfl
      | some u=>obtain⟨o,z⟩:=cv.trk a u e;rw [fl.2.1] at z;cases z
    refine wpAny_looks_onW hf hfr fl' fun h4 hl4 sm4=>wpAny_landsW hl4 fun h5 fl5 sm5 => ?_
    have J5:=J.flown (h':=h5) fl.1 fl5.1 (sm4.trans sm5) cv s1.toks
    obtain⟨oe,vs,hoe,hcl,hdt,_⟩:=fl5.first
    obtain⟨hsub,hth⟩:=h2 C H' a q hn
    refine wpAny_handleBy_cons (codeAny_handlers_test (Calls.Name_function_global J.ok.kind hg (Calls.loadGlobal_global (by rw [J.ok.glob];exact J5.mod.glob.keeps J5.bk) hm ?_) hdb)) (by intro q;cases q)
    refine zX J5.kIn ⟨hoe,hcl⟩ hsub hbe his hty (codeAny_handlers_suite_as ?_)
    refine lands_againW fl5 fun h6 fl6 sm6 => ?_
    have J6:=J5.flown (h':=h6) fl5.1 fl6.1 sm6 cv s1.toks
    have J7:=J6.exc (by rw [show (X.pin (X.pn++pins)).stack=X.env :: X.outer from hstk];exact fl6) cv
    refine lH (X:=X.pin (X.pn++pins)) J7 hN hj (.inl hjl) (v:=.ref a) rfl (fun s8 J8 => ?_) (.inr hjl)
    refine wpAny_mono (hh (X.pn++pins) a pins' s8 _ _ _ (J8.marked a) hth) (fun f s9 q => ?_) (fun _ _ z => ?_)
    · cases f with
      | brk=>obtain⟨_,_,_,q⟩:=q;exact q.elim
      | cont=>obtain⟨_,_,_,q⟩:=q;exact q.elim
      | ret u=>obtain⟨_,_,_,_,_,q⟩:=q;exact q.elim
      | next =>
        obtain⟨σ9,H9,J9,q9⟩:=q
        exact Inv.goes (X:=X.pin (X.pn++pins)) (J9.unmark I.ok.hd) hN hj hjl fun s10 J10=>⟨_,_,J10.unpin,q9⟩
    · exact z.elim
end
end L2
namespace Fm
open PySem PySem.Spec L2 PyProof.Rows
section
variable {X:Cx} {pos p:Pos}
theorem BA {i j k np:Nat}{c n x f:Str}{M:Addr}{F:Fn}{e:Expr}{es:List Expr}{r:LF}{hs1:Stmt}{hr1:List Stmt}{hbt:SF}{cs:List String}{xp cp fp p1 ap hp:Pos}(hxe:X.xe=fun _ _=>False)
    (hd:nz X.prog X.w X.K X.mg X.base f k np F) (hr:eC k X.A) (hgf:Gl X f) (ha:∀ q R,MA ((X.pin q).wish R) (e :: es) r) (hnp:∀ ds h,F ds h ≠ .bad→ds.length=np)
    (hh:∀ q a,MSs ((X.pin q).sui a) (hs1 :: hr1) hbt) (hstk:X.stack=X.env :: X.outer)
    (hfr:X.env.frame=some X.env.locals) (hm:X.mg x=some (.ref M)) (hg:Gl X x) (hbe:PySem.W.subIn X.K (.ref M) (.type "BaseException")=some true) (his:(PySem.W.clsIn X.K M).isSome=true)
    (hty:PySem.W.typeIn X.K (.ref M)=some (.type "type")) (hN:X.N.Nodup) (hj:X.N[j]? = some n) (hjl:X.env.scope.names.lookup n=some .local) (hi:X.N[i]? = some c) (hil:X.env.scope.names.lookup c=some .local)
    (hcs:xU X.K X.mg M cs) (hdf:(f == ("__debug__" : Str))=false:=by decide) (hdb:(x == ("__debug__" : Str))=false:=by decide)
    (he:starEach (e :: es) X.env=(false,eval e X.env) :: starEach es X.env:=by rfl) (hpl:(backTo p1 (starEach es X.env)).any (·.1)=false:=by rfl)
    (hs:swapsWith (.Call (.Name f fp) (e :: es) [] p1) (some (.Name c cp)) ap.line X.env=pure false:=by rfl) :
    MS X (.Try [.Assign [.Name c cp] (.Call (.Name f fp) (e :: es) [] p1) ap] [.ExceptHandler (some (.Name x xp)) (some n) (hs1 :: hr1) hp] [] [] pos) (kE j cs (aG (gN i) (am F (fPl r))) hbt):=by
  obtain⟨fa,fd,ps,h1,h2,h3,h4⟩:=hd.ex
  refine PS.imp (xV (th:=zo X.K hbt) (tc:=fun E σ H Q=>gX X.K (rDs X.K) r σ H fun vs H1=>spY X.K X.mg F np vs H1 Q (fun v _ H=>∃ C,v=.ref C∧E C H)) (fun q σ0 E=>z7 (X:=X.pin q) (E:=fun v _ H=>∃ C,v=.ref C∧E C H) (E':=E) h4 hr hgf h1 h2 h3 (fun C H ⟨C',e,q⟩=>by cases e;exact q) (ha q _) hdf he hpl) hh hxe hstk hfr hm hg hbe his hty hN hj hjl hi hil hdb hs) fun En σ H ⟨ρ,σd,hd,rs,pp⟩ => ?_
  unfold kE at pp
  cases er:r σd hd with
  | bad =>
    have e:aG (gN i) (am F (fPl r)) σd hd=.bad:=by simp only [aG,am,fPl,er,noX,tO,outE]
    rw [e] at pp;exact pp.elim
  | exc x h1 =>
    have e:aG (gN i) (am F (fPl r)) σd hd=.bad:=by simp only [aG,am,fPl,er,noX,tO,outE]
    rw [e] at pp;exact pp.elim
  | ok ds hd1 =>
    cases ef:F ds hd1 with
    | bad =>
      have e:aG (gN i) (am F (fPl r)) σd hd=.bad:=by simp only [aG,am,fPl,er,noX,aI,ef,outE]
      rw [e] at pp;exact pp.elim
    | ok d hd2 =>
      have e:aG (gN i) (am F (fPl r)) σd hd=.nx (σd.set i (some d)) hd2:=by simp only [aG,am,fPl,er,noX,aI,ef,outE];rfl
      rw [e] at pp
      refine⟨fun _ _=>False,⟨ρ,σd,hd,rs,?_⟩,fun _ _ _ z=>z.elim⟩
      rw [er]
      intro vs H1 ρ1 ex1 rs1 rv
      refine⟨ρ1,hd1,ds,rs1.hp,rv,hnp ds hd1 (by rw [ef];exact fun z=>by cases z),?_⟩
      rw [ef]
      intro v H' ρ' ex rh rd
      exact pp _ H' ρ' (ex1.trans ex) ⟨rh,(rs1.ext ex rh).st.set i rd⟩
    | exc y hd2 =>
      have e:aG (gN i) (am F (fPl r)) σd hd=.exc y σd hd2:=by simp only [aG,am,fPl,er,noX,aI,ef,outE]
      rw [e] at pp
      cases y with
      | exn cn l =>
        cases l with
        | cons _ _=>exact pp.elim
        | nil =>
          simp only at pp
          split at pp
          · rename_i hcn
            obtain⟨C,m1,m2,m3⟩:=hcs cn hcn
            refine⟨fun C' H'=>C'=C ∧ ∃ ρ',Ext ρ H ρ' H'∧RH X.K ρ' H' hd2,⟨ρ,σd,hd,rs,?_⟩,?_⟩
            · rw [er]
              intro vs H1 ρ1 ex1 rs1 rv
              refine⟨ρ1,hd1,ds,rs1.hp,rv,hnp ds hd1 (by rw [ef];exact fun z=>by cases z),?_⟩
              rw [ef]
              exact⟨cn,[],C,rfl,m1,fun H' ρ' ex rh=>⟨C,rfl,rfl,ρ',ex1.trans ex,rh⟩⟩
            · rintro C' H' a ⟨rfl,ρ',ex,rh⟩ hn
              refine⟨m3,ρ',σd.set j (some (.exn cn [])),hd2,?_,?_⟩
              · have rs2:=(rs.ext ex rh).same (bO (o:=jc a C') hn)
                exact⟨rs2.hp,rs2.st.set j (by simp only [RD];exact⟨trivial,a,C',rfl,aV,m2⟩)⟩
              · cases eh:hbt (σd.set j (some (.exn cn []))) hd2 with
                | nx σ2 h2 =>
                  rw [eh] at pp
                  intro σ9 H9 ρ9 ex9 rs9
                  refine pp _ H9 ρ9 ((ex.sm (bO hn)).trans ex9) ⟨rs9.hp,⟨by rw [List.length_set,List.length_set];exact rs9.st.len,fun k d hk => ?_⟩⟩
                  by_cases hkj:k=j
                  · subst hkj
                    exfalso
                    simp only [slot] at hk
                    by_cases hlt:k < σ2.length
                    · rw [List.getElem?_set_self hlt] at hk;cases hk
                    · rw [List.getElem?_eq_none (by rw [List.length_set];omega)] at hk;cases hk
                  · simp only [slot,List.getElem?_set_ne (Ne.symm hkj)] at hk
                    obtain⟨v,hv,rd⟩:=rs9.st.at' k d (by simpa only [slot] using hk)
                    exact⟨v,by rw [List.getElem?_set_ne (Ne.symm hkj)];exact hv,rd⟩
                | rt _ _=>rw [eh] at pp;exact pp.elim
                | bk _ _=>rw [eh] at pp;exact pp.elim
                | ct _ _=>rw [eh] at pp;exact pp.elim
                | exc _ _ _=>rw [eh] at pp;exact pp.elim
                | bad=>rw [eh] at pp;exact pp.elim
          · exact pp.elim
      | _=>exact pp.elim
end
end Fm
set_option linter.all false
namespace Fm
def gF:O2:=fun x y h=>match x,y with
  | .str a,.str b=>if a.length + b.length≤1000000 then .ok (.str (a++b)) h else .bad
  | _,_=>.bad
def DF:O2:=fun x y h=>match x,y with
  | .str a,.int i=>if a.length≤1000000 then (match ixN a.length i with|some j=>(match a[j]? with|some c=>.ok (.str [c]) h|none=>.bad)|none=>.bad) else .bad
  | _,_=>.bad
def qW (a b:EF):EF:=aq DF a b
def kF (a:EF):EF:=fun σ h=>(a σ h).bind fun x h=>match x with
  | .str l=>if l.length≤1000000 then .ok (.int l.length) h else .bad
  | _=>.bad
def iy:O2:=fun x y h=>match x,y with
  | .str [c],.str l=>.ok (.bl (!decide (c∈l))) h
  | _,_=>.bad
def vL (l:List Nat):Option Int→Option Int→Option (List Nat)
  | none,some j=>if 0≤j∧j≤l.length then some (l.take j.toNat) else none
  | some i,none=>if 0≤i∧i≤l.length then some (l.drop i.toNat) else none
  | _,_=>none
def bW (a:EF) (lo hi:OF):EF:=fun σ h=>(a σ h).bind fun x h=>(lo σ h).bind fun i h=>(hi σ h).bind fun j h=>match x with
  | .str l=>if l.length≤1000000 then (match vL l i j with|some y=>.ok (.str y) h|none=>.bad) else .bad
  | _=>.bad
def fH (a:EF):EF:=fun σ h=>(a σ h).bind fun x h=>match x with
  | .str [c]=>if c=48∨c=49 then .ok (.int ((c:Int) - 48)) h else .bad
  | _=>.bad
def iF (a:EF):IF:=fun σ h=>(a σ h).bind fun x h=>match x with
  | .str l=>if l.length≤1000000∧l.all (· < 128)=true then .ok (l.map fun c=>D.str [c],none) h else .bad
  | _=>.bad
end Fm
set_option Elab.async false
set_option linter.all false
set_option maxRecDepth 100000
namespace L2
open PySem PySem.Spec PyProof.Rows
def Its (x:Str):It:=⟨fun i _=>i < x.cps.size,fun i H v H'=>H'=H ∧ ∃ c,x.cps[i]? = some c∧v=.str ⟨#[c]⟩,fun i _=>x.cps.size≤i⟩
theorem z8 {P:Program} {w:World} {K:PySem.W.Frag} {tg:Expr} (it:Addr) (x:Str) (t:Tok):vj P w K tg (Its x) [it] it (fun i h=>h.IsStrIter it "str_ascii_iterator" x t i) where
  mem:=by simp
  obj:=fun i h st b hb=>by
    have e:b=it:=by simpa using hb
    subst e
    obtain⟨o,e,c,d⟩:=st
    exact⟨o,e,fun v z=>by rw [d] at z;cases z⟩
  keep:=fun i h h' st k=>let ⟨o,ho,r⟩:=st;⟨o,k it (by simp) o ho,r⟩
  item:=by
    intro X hP hw hK hc i pins s σ H E I hf st hg
    subst hP hw hK
    obtain⟨f0,f1,f2,f3,f4,f5⟩:=hf it (by simp)
    have hg:i < x.cps.size:=hg
    have hx:x.cps[i]? = some x.cps[i]:=Array.getElem?_eq_getElem hg
    refine wpAny_pyNext_ascii_item st hx fun h' st' sb => ?_
    have I1:Inv X pins σ H { s with heap:=h',toks:=s.toks + 1 }:=I.turned (fun b o hb e=>(sb.2 b hb).trans e) f0 f1 f3 f4 f5
    obtain⟨o,e,c,d⟩:=id st'
    exact⟨_,rfl,wN (s:={ s with heap:=h',toks:=s.toks + 1 }) e c d (by decide) ⟨.str ⟨#[x.cps[i]]⟩,H,I1,⟨_,rfl⟩,⟨rfl,_,hx,rfl⟩,st',fun b hb=>(hf b hb).1⟩⟩
  done:=by
    intro X hP hw hK hc i pins s σ H E I hf st hg
    subst hP hw hK
    obtain⟨f0,f1,f2,f3,f4,f5⟩:=hf it (by simp)
    have hg:x.cps.size≤i:=hg
    exact wpAny_pyNext_ascii_end (I.ok.hd hc) st (Array.getElem?_eq_none hg) fun h' eb=>⟨rfl,I.turned (t':=s.toks) (fun b o hb e=>eb b o hb e) f0 f1 f3 f4 f5⟩
  self:=fun _ _ _ _ _ st h=>wpAny_pyIter_striter_ascii st h
section
variable {X:Cx} {tg:Expr}
theorem DG {l:Expr}{tl:TE}(hl:PE X l tl):PI X tg l (fun σ H R=>tl σ H fun v H1=>∃ x:Str,v=.str x∧x.cps.all (· < 128)=true∧R (Its x) H1):=by
  intro pins s σ H R I h
  refine thn (hl pins s σ H _ I h) fun v s1 ⟨y,H1,I1,r1,q1⟩ => ?_
  obtain⟨x,e,ha,q⟩:=q1
  subst e
  obtain⟨t,rfl⟩:=r1
  refine wpAny_pyIter_ascii ha ?_
  refine⟨s1.heap.objs.size,[s1.heap.objs.size],_,_,H1,rfl,I1.kept (t':=s1.toks) fun b o e=>Heap.get?_push_of_some _ e,z8 _ x t,⟨_,Heap.get?_push_size _ rfl,rfl,rfl⟩,fun b hb => ?_,q⟩
  have e:b=s1.heap.objs.size:=by simpa using hb
  subst e
  exact I1.fpOk (Nat.le_refl _) (I1.hok.fresh (Nat.le_refl _))
end
end L2
namespace Fm
open PySem PySem.Spec L2 PySem.W PyProof.Rows
section
variable {X:Cx} {pos p:Pos} {tg:Expr}
theorem z9:(1000000:Nat)≤sizeLine:=by rw [sizeLine_eq];decide
theorem Aa {K:PySem.W.Frag}{ρ:List Addr}{H:Hp}(l:List Nat)(hz:l.length≤1000000):lZ K ρ H (Its (toS l)) (l.map fun c=>D.str [c]) none where
  go:=fun ρ' H' hd' i d ex rh _ hi=>by
    have hin:i < l.length:=by
      have:=(List.getElem?_eq_some_iff.mp hi).1
      simpa using this
    refine⟨by show i < (l.toArray).size;rw [List.size_toArray];exact hin,fun x H2 y => ?_⟩
    obtain⟨rfl,c,hc,rfl⟩:=y
    have hc:l[i]? = some c:=by
      have:l.toArray[i]? = some c:=hc
      simpa using this
    have e:d=.str [c]:=by
      rw [List.getElem?_map,hc] at hi
      exact (Option.some.inj hi).symm
    subst e
    exact⟨eR.refl _,by simp only [RD];rfl⟩
  stop:=fun ρ' H' hd' ex rh _=>by
    show (l.toArray).size≤_
    simp
  sz:=by
    have:=z9
    simp;omega
theorem j7 {e:Expr}{f:EF}(h:ME X e f):MI X tg e (iF f):=by
  refine PI.imp (DG h) fun σ H R ⟨ρ,σd,hd,rs,p⟩=>⟨ρ,σd,hd,rs,?_⟩
  unfold iF at p
  cases e:f σd hd with
  | exc x h1=>rw [e] at p;exact p
  | bad=>rw [e] at p;exact p
  | ok d hd1 =>
    rw [e] at p
    simp only [aI] at p
    intro v H1 ρ1 ex1 rs1 rv
    cases d<;>try exact p.elim
    rename_i l
    simp only at p
    simp only [rD,RD] at rv
    split at p
    · rename_i hb
      exact⟨toS l,rv,by show (l.toArray).all (· < 128)=true;rw [List.all_toArray];exact hb.2,p _ H1 ρ1 ex1 rs1 (Aa l hb.1)⟩
    · exact p.elim
def ET:R2:=fun x y H Q=>∃ i j:Str,x=.str i∧y=.str j∧i.length + j.length≤sizeLine∧Q (.str (i++j)) H
theorem iz (a:List Nat):(toS a).length=a.length:=by
  show a.toArray.size=_
  rw [List.size_toArray]
theorem BB {K:PySem.W.Frag}:Og K gF ET:=by
  intro ρ H σd hd σ d k v w Q rs rv rw' pp
  cases d<;>try exact pp.elim
  cases k<;>try exact pp.elim
  rename_i a b
  simp only [RD] at rv rw'
  simp only [gF] at pp
  split at pp
  · rename_i hb
    refine⟨toS a,toS b,rv,rw',by rw [iz,iz];exact Nat.le_trans hb z9,?_⟩
    rw [lx]
    exact pp.here rs (by simp only [rD,RD])
  · exact pp.elim
theorem eV {a b:Expr}{fa fb:EF}(ha:ME X a fa)(hb:ME X b fb):ME X (.BinOp a .Add b pos) (aq gF fa fb):=a8 vq BB ha hb
theorem vM {a b:Expr}{fa fb:EF}(ha:ME X a fa)(hb:ME X b fb)(hs:lq b):ME X (.Subscript a b pos) (qW fa fb):=by
  refine me2 (a:=a) (b:=b) (g:=DF) (ze zf ha hb hs) fun ρ H σd hd σ d k v w Q rs rv rw' pp => ?_
  cases d<;>try exact pp.elim
  cases k<;>try exact pp.elim
  rename_i l i
  simp only [RD] at rv rw'
  simp only [DF] at pp
  split at pp
  · rename_i hb
    cases e:ixN l.length i with
    | none=>rw [e] at pp;exact pp.elim
    | some j =>
      rw [e] at pp
      simp only at pp
      cases e2:l[j]? with
      | none=>rw [e2] at pp;exact pp.elim
      | some c =>
        rw [e2] at pp
        refine⟨toS l,i,c,rv,rw',by rw [iz];exact Nat.le_trans hb z9,?_,pp.here rs (by simp only [rD,RD];rfl)⟩
        have hx:L2.ixN (toS l).cps.toList.length i=some j:=by
          have:(toS l).cps.toList=l:=rfl
          rw [this];exact e
        show (L2.ixN (toS l).cps.toList.length i).bind _=_
        rw [hx]
        exact e2
  · exact pp.elim
theorem xi {a:Expr} {fa:EF} (hg:Gl X "len") (hm:X.mg "len" = none) (ha:ME X a fa) (hs:starEach [a] X.env=(false,eval a X.env) :: starEach [] X.env:=by rfl):ME X (.Call (.Name "len" p) [a] [] pos) (kF fa):=by
  refine wW (g:=fun x h=>match x with | .str l=>if l.length≤1000000 then .ok (.int l.length) h else .bad|_=>.bad) (zu qB hg hm PySem.boot_len (he:=hs)) ha (fun ρ H σd hd σ d v Q rs rv pp => ?_) hs
  cases d<;>try exact pp.elim
  rename_i l
  simp only [RD] at rv
  simp only at pp
  split at pp
  · rename_i hb
    refine⟨toS l,by rw [rv],by rw [iz];exact Nat.le_trans hb z9,?_⟩
    rw [iz]
    exact pp.here rs (by simp only [rD,RD])
  · exact pp.elim
theorem DH (l:List Nat)(c:Nat):(!(Builtin.Str.occurrences (toS l) (toS [c]) 0 (toS l).length 1).isEmpty)=decide (c∈l):=StrLaws.found_one (toS l) c
theorem xW {K:PySem.W.Frag}:Og K iy (fun x y H Q=>∃ i j:Str,x=.str i∧y=.str j∧Q (.bl (!(!(Builtin.Str.occurrences j i 0 j.length 1).isEmpty))) H):=by
  intro ρ H σd hd σ d k v w Q rs rv rw' pp
  cases d<;>try exact pp.elim
  rename_i a
  rcases a with _|⟨c,_|⟨c2,r⟩⟩
  · exact pp.elim
  · cases k<;>try exact pp.elim
    rename_i l
    simp only [RD] at rv rw'
    refine⟨toS [c],toS l,rv,rw',?_⟩
    rw [DH]
    exact pp.here rs (by simp only [rD,RD])
  · exact pp.elim
end
end Fm
set_option Elab.async false
set_option linter.all false
set_option maxRecDepth 100000
namespace HT
open PySem PySem.Spec
theorem xX:typeLookup (.type "str") "__int__" = pure none:=by rw [typeLookup_type,builtinLookup_eq_fast];kernel_rfl
theorem ue:typeLookup (.type "str") "__index__" = pure none:=by rw [typeLookup_type,builtinLookup_eq_fast];kernel_rfl
theorem uf:typeLookup (.type "str") "__trunc__" = pure none:=by rw [typeLookup_type,builtinLookup_eq_fast];kernel_rfl
set_option maxHeartbeats 4000000 in
theorem jo (c:Nat) (hc:c=48∨c=49) (u:Tok):Meets (Builtin.«int.__new__» ⟨[.type "int",.str ⟨#[c]⟩ u],[]⟩) (Made.int ((c:Int) - 48)).spec :=
  Meets.of_wp fun prog w A R s hs=>by
    obtain⟨hp,g,d,tk,os⟩:=s
    have f1:=F.conv_sub_int
    have f2:=F.madeHere_int
    have hT:(⟨hp,g,d,tk,os⟩ : Shared).TypeIs (.str ⟨#[c]⟩ u) "str" := rfl
    have f3:=xX
    have f4:=ue
    have f5:=uf
    rcases hc with rfl|rfl
    · repeat (any_goals (first|assumption|wp_step))
      all_goals first|(simp;done)|skip
      have ha:((⟨#[48]⟩ : Str).cps.all fun x=>decide (x < 128))=true:=by simp
      have hw:List.takeWhile (fun x=>x != 0) (⟨#[48]⟩ : Str).cps.toList=[48]:=rfl
      rw [if_pos ha,hw]
      repeat (any_goals (first|assumption|wp_step))
      all_goals first|(simp;done)|skip
      all_goals first|(refine wpAny_fresh ?_;repeat (any_goals (first|assumption|wp_step)))|skip
      all_goals first|exact⟨_,rfl,hs⟩|skip
      all_goals trace_state
    · repeat (any_goals (first|assumption|wp_step))
      all_goals first|(simp;done)|skip
      have ha:((⟨#[49]⟩ : Str).cps.all fun x=>decide (x < 128))=true:=by simp
      have hw:List.takeWhile (fun x=>x != 0) (⟨#[49]⟩ : Str).cps.toList=[49]:=rfl
      rw [if_pos ha,hw]
      repeat (any_goals (first|assumption|wp_step))
      all_goals first|(simp;done)|skip
      all_goals first|(refine wpAny_fresh ?_;repeat (any_goals (first|assumption|wp_step)))|skip
      all_goals first|exact⟨_,rfl,hs⟩|skip
      all_goals trace_state
theorem call_int_fig {prog:Program} {w:World} {A:Around} {E:Value→Shared→Prop} {s:Shared} {c:Nat} (hc:c=48∨c=49) {u:Tok} {Q:Value→Shared→Prop} (h:Q (.int ((c:Int) - 48) s.toks) { s with toks:=s.toks + 1 }):wpAny (model prog w) A (call (.type "int") [.str ⟨#[c]⟩ u]) Q E s :=
  call_int_1 (jo c hc u) (show (Made.int ((c:Int) - 48)).post _ s from ⟨rfl,h⟩)
end HT
namespace L2
open PySem PySem.Spec PyProof.Rows
section
variable {X:Cx}
theorem xY:d9 X (.type "int") (fun xs H Q=>∃ c:Nat,xs=[.str ⟨#[c]⟩]∧(c=48∨c=49)∧Q (.int ((c:Int) - 48)) H):=by
  intro pins s σ H xs us Q I r h
  obtain⟨c,rfl,hc,q⟩:=h
  obtain⟨u,rfl,ru⟩:=aL.one r
  obtain⟨t,rfl⟩:=ru
  exact HT.call_int_fig hc ⟨.int ((c:Int) - 48),H,I.tok _,⟨_,rfl⟩,q⟩
def Fx:V→Option Int→Option Int→Hp→VK→Prop:=fun x lo hi H Q=>∃ (z:Str) (y:List Nat),x=.str z∧z.length≤sizeLine∧Fm.vL z.cps.toList lo hi=some y∧Q (.str ⟨y.toArray⟩) H
theorem Ab {x:Str}{j:Int}(h:0≤j∧j≤x.cps.toList.length):Txt.slice x none (some j)=⟨(x.cps.toList.take j.toNat).toArray⟩:=by
  have:=eq_of_beq (slice_closes_to h)
  rw [this];simp
theorem vN {x:Str}{i:Int}(h:0≤i∧i≤x.cps.toList.length):Txt.slice x (some i) none=⟨(x.cps.toList.drop i.toNat).toArray⟩:=by
  have:=eq_of_beq (slice_closes_from h)
  rw [this]
  congr 2
  exact List.take_of_length_le (by rw [List.length_drop];omega)
theorem DI:SlR X Fx:=by
  intro pins s σ H x v vl vu lo hi sl Q I rx hs pl pu h
  obtain⟨z,y,rfl,hz,hy,q⟩:=h
  obtain⟨t,rfl⟩:=rx
  refine⟨"str",_,slot_str_getitem.lookup,typeIs_str _ _ _,?_⟩
  cases pl with
  | none =>
    cases pu with
    | none=>cases hy
    | int j tj =>
      simp only [Fm.vL] at hy
      split at hy
      · rename_i hb
        cases hy
        have e:=Ab (x:=z) hb
        exact wpAny_getItem_str_slice (l:=none) (u:=some (j,tj)) (st:=none) hs rfl (post_val_or_str ⟨Nat.le_trans (Txt.slice_le z _ _) hz,fun t' k=>⟨.str ⟨(z.cps.toList.take j.toNat).toArray⟩,H,I.tok k,⟨t',by rw [← e];rfl⟩,q⟩⟩)
      · cases hy
  | int i ti =>
    cases pu with
    | int j tj=>cases hy
    | none =>
      simp only [Fm.vL] at hy
      split at hy
      · rename_i hb
        cases hy
        have e:=vN (x:=z) hb
        exact wpAny_getItem_str_slice (l:=some (i,ti)) (u:=none) (st:=none) hs rfl (post_val_or_str ⟨Nat.le_trans (Txt.slice_le z _ _) hz,fun t' k=>⟨.str ⟨(z.cps.toList.drop i.toNat).toArray⟩,H,I.tok k,⟨t',by rw [← e];rfl⟩,q⟩⟩)
      · cases hy
end
end L2
namespace Fm
open PySem PySem.Spec L2 PySem.W PyProof.Rows
section
variable {X:Cx} {pos p:Pos}
theorem ly {a:Expr} {fa:EF} (hg:Gl X "int") (hm:X.mg "int" = none) (ha:ME X a fa) (hs:starEach [a] X.env=(false,eval a X.env) :: starEach [] X.env:=by rfl):ME X (.Call (.Name "int" p) [a] [] pos) (fH fa):=by
  refine wW (g:=fun x h=>match x with | .str [c]=>if c=48∨c=49 then .ok (.int ((c:Int) - 48)) h else .bad|_=>.bad) (wV xY hg hm (by decide +kernel) (he:=hs)) ha (fun ρ H σd hd σ d v Q rs rv pp => ?_) hs
  cases d<;>try exact pp.elim
  rename_i l
  rcases l with _|⟨c,_|⟨c2,r⟩⟩
  · exact pp.elim
  · simp only [RD] at rv
    simp only at pp
    split at pp
    · rename_i hb
      exact⟨c,by rw [rv];rfl,hb,pp.here rs (by simp only [rD,RD])⟩
    · exact pp.elim
  · exact pp.elim
theorem dl {a:Expr}{fa:EF}{lo hi:Option Expr}{fl fh:OF}{p2:Pos}(ha:ME X a fa)(hl:MO X lo fl)(hh:MO X hi fh):ME X (.Subscript a (.Slice lo hi none p2) pos) (bW fa fl fh):=by
  refine PE.imp (zc DI ha hl hh) fun σ H Q ⟨ρ,σd,hd,rs,pp⟩ => ?_
  unfold bW at pp
  refine⟨ρ,σd,hd,rs,(bh.bind (R:=rD X.K) pp).imp fun v H1 ⟨ρ1,d,hd1,e1,rs1,rv,p1⟩ => ?_⟩
  refine⟨ρ1,σd,hd1,rs1,(bh.bind (R:=rO) p1).imp fun o1 H2 ⟨ρ2,o1',hd2,e2,rs2,q2,p2⟩ => ?_⟩
  cases q2
  refine⟨ρ2,σd,hd2,rs2,(bh.bind (R:=rO) p2).imp fun o2 H3 ⟨ρ3,o2',hd3,e3,rs3,q3,p3⟩ => ?_⟩
  cases q3
  have rv3:=(rv.mono (rs1.hp.kp e2)).mono (rs2.hp.kp e3)
  cases d with
  | str l =>
    simp only [RD] at rv3
    simp only at p3
    split at p3
    · rename_i hb
      cases e:vL l o1 o2 with
      | none=>rw [e] at p3;exact p3.elim
      | some y =>
        rw [e] at p3
        exact⟨toS l,y,rv3,by rw [iz];exact Nat.le_trans hb z9,e,p3.here rs3 (by simp only [rD,RD];rfl)⟩
    · exact p3.elim
  | _=>exact p3.elim
end
end Fm
namespace Fm
theorem p7 {h h':Hd}{d:D}(e:h'.length≤h.length):letGo h (.ok d h')=.ok d h':=by
  simp only [letGo];split
  · rw [List.take_of_length_le e]
  · rfl
@[simp] theorem aT {h:Hd} {d:D}:letGo h (.ok d h)=.ok d h:=p7 (Nat.le_refl _)
theorem xZ {h h':Hd}{d:D}(e:pure? d=false):letGo h (.ok d h')=.ok d h':=by
  simp [letGo,e]
@[simp] theorem DJ {h h':Hd} {n:Nat}:letGo h (.ok (.ref n) h')=.ok (.ref n) h':=xZ rfl
theorem eL {h g:Hd}{d:D}(e:pure? d=true):letGo h (.ok d (h++g))=.ok d h:=by
  have:wR h (h++g):=fun n c hn hc=>.inl (by rwa [List.getElem?_append_left hn] at hc)
  simp [letGo,e,this]
theorem x5 {h h' g:Hd}{d:D}(e:pure? d=true)(hl:h'.length=h.length)(ho:wR h (h'++g)):letGo h (.ok d (h'++g))=.ok d h':=by
  simp [letGo,e,ho,← hl]
structure Web where
  ties:List (List (Nat × Int))
  bars:List Int
  stays:List (Option Int)
def bu:Option Int→D
  | none=>.non
  | some i=>.int i
def EU (p:Nat × Int):D:=.tup [.int p.1,.int p.2]
def qX (r:List (Nat × Int)):D:=.tup (r.map EU)
def bb (l:List Int):D:=.tup (l.map .int)
def Web.enc (w:Web):D:=.tup [.tup (w.ties.map qX),.tup (w.bars.map .int),.tup (w.stays.map bu)]
structure Web.Ok (w:Web) (n:Nat):Prop where
  t:w.ties.length=n
  b:w.bars.length=n
  s:w.stays.length=n
  lt:∀ r∈w.ties,∀ p∈r,p.1 < n
  sz:n≤1000
structure x6 (w:Web) (n:Nat) (s:List Int):Prop where
  len:s.length=n
  op:∀ x∈s,x=0∨x=1
  st:∀ (i:Nat) (x:Int),w.stays[i]? = some (some x)→s[i]? = some x
theorem ee {l:List D}{i:Nat}{d:D}(e:l[i]? = some d):atI l (i:Int)=some d:=by
  have:=(List.getElem?_eq_some_iff.mp e).1
  simp [atI,ixN,this]
  simpa [List.getElem?_eq_getElem this] using e
theorem bP {g:Option Nat}{all:List D}{tg:GF}{cs:List TF}{e:EF}{h:Hd}(I:Sd→Prop)(p:D→Bool)(f:D→D)(hh:gS g all h) :
    ∀ {xs:List D} {σ:Sd},(∀ x∈xs,∀ σ,I σ → ∃ σ',tg x σ = some σ'∧I σ'∧gU cs σ' h=.ok (p x) h∧(p x=true→e σ' h=.ok (f x) h))→I σ →
      b7 g all tg cs e xs σ h=.ok ((xs.filter p).map f) h
  | [],_,_,_=>by simp [b7,hh]
  | x :: xs,σ,st,i=>by
    obtain⟨σ',h1,h2,h3,h4⟩:=st x (by simp) σ i
    have ih:=bP I p f hh (xs:=xs) (σ := σ') (fun y hy=>st y (by simp [hy])) h2
    cases hp:p x with
    | true=>simp [b7,hh,h1,h3,hp,h4 hp,ih]
    | false=>simp [b7,hh,h1,h3,hp,ih]
theorem j8 {g:Option Nat}{all:List D}{tg:GF}{b:SF}{rest:List D}(P:Nat→Sd→Hd→Prop)(hh:∀ i σ h,P i σ h→gS g all h) :
    ∀ {xs:List D} {k:Nat} {σ:Sd} {h:Hd},(∀ (i:Nat) x σ h,xs[i]? = some x→P (k + i) σ h → ∃ σ',tg x σ = some σ' ∧ ∃ σ'' h'',b σ' h=.nx σ'' h''∧P (k + i + 1) σ'' h'')→P k σ h →
      ∃ σ' h',dY g all tg b (xs++rest) σ h=dY g all tg b rest σ' h'∧P (k + xs.length) σ' h'
  | [],k,σ,h,_,p=>⟨σ,h,rfl,by simpa using p⟩
  | x :: xs,k,σ,h,st,p=>by
    obtain⟨σ',h1,σ2,h2,h3,h4⟩:=st 0 x σ h (by simp) (by simpa using p)
    have st':∀ (i:Nat) y σ h,xs[i]? = some y→P (k + 1 + i) σ h → ∃ σ',tg y σ = some σ' ∧ ∃ σ'' h'',b σ' h=.nx σ'' h''∧P (k + 1 + i + 1) σ'' h'':=fun i y σ h e q=>by
      have e1:k + 1 + i=k + (i + 1):=by omega
      rw [e1] at q ⊢
      exact st (i + 1) y σ h (by simpa using e) q
    obtain⟨σ3,h5,h6,h7⟩:=j8 P hh st' (by simpa using h4)
    refine⟨σ3,h5,?_,?_⟩
    · rw [← h6,List.cons_append,dY,if_pos (hh _ _ _ p),h1]
      simp only [h3]
    · have e1:k + (x :: xs).length=k + 1 + xs.length:=by simp;omega
      rw [e1];exact h7
theorem fI {g:Option Nat}{all:List D}{tg:GF}{b:SF}(P:Nat→Sd→Hd→Prop)(hh:∀ i σ h,P i σ h→gS g all h)
    {xs:List D} {k:Nat} {σ:Sd} {h:Hd} (st:∀ (i:Nat) x σ h,xs[i]? = some x→P (k + i) σ h → ∃ σ',tg x σ = some σ' ∧ ∃ σ'' h'',b σ' h=.nx σ'' h''∧P (k + i + 1) σ'' h'') (p:P k σ h) :
      ∃ σ' h',dY g all tg b xs σ h=.nx σ' h'∧P (k + xs.length) σ' h':=by
  obtain⟨σ',h',q,z⟩:=j8 (rest:=[]) P hh st p
  rw [List.append_nil] at q
  exact⟨σ',h',q.trans (by unfold dY;exact if_pos (hh _ _ _ z)),z⟩
theorem i5 {g:Option Nat}{all:List D}{tg:GF}{e:EF}(P:Nat→Sd→Hd→Prop)(V:Nat→D→Prop)(hh:∀ i σ h,P i σ h→gS g all h) :
    ∀ {xs:List D} {k:Nat} {σ:Sd} {h:Hd},(∀ (i:Nat) x σ h,xs[i]? = some x→P (k + i) σ h → ∃ σ',tg x σ = some σ' ∧ ∃ d h'',e σ' h=.ok d h''∧V (k + i) d∧P (k + i + 1) σ' h'')→P k σ h →
      ∃ ds h',b7 g all tg [] e xs σ h=.ok ds h'∧ds.length=xs.length∧(∀ (i:Nat) d,ds[i]? = some d→V (k + i) d) ∧ ∃ σ',P (k + xs.length) σ' h'
  | [],k,σ,h,_,p=>⟨[],h,by simp [b7,hh _ _ _ p],rfl,by simp,σ,by simpa using p⟩
  | x :: xs,k,σ,h,st,p=>by
    obtain⟨σ',h1,d,h2,h3,hv,h4⟩:=st 0 x σ h (by simp) (by simpa using p)
    have st':∀ (i:Nat) y σ h,xs[i]? = some y→P (k + 1 + i) σ h → ∃ σ',tg y σ = some σ' ∧ ∃ d h'',e σ' h=.ok d h''∧V (k + 1 + i) d∧P (k + 1 + i + 1) σ' h'':=fun i y σ h e q=>by
      have e1:k + 1 + i=k + (i + 1):=by omega
      rw [e1] at q ⊢
      exact st (i + 1) y σ h (by simpa using e) q
    obtain⟨ds,h5,h6,hl,hvs,σ3,h7⟩:=i5 P V hh st' (by simpa using h4)
    refine⟨d :: ds,h5,?_,by simp [hl],fun i d' hd => ?_,σ3,?_⟩
    · simp [b7,hh _ _ _ p,h1,gU,h3,h6]
    · cases i with
      | zero=>simp at hd;subst hd;simpa using hv
      | succ i =>
        have:=hvs i d' (by simpa using hd)
        rwa [show k + 1 + i=k + (i + 1) by omega] at this
    · have e1:k + (x :: xs).length=k + 1 + xs.length:=by simp;omega
      rw [e1];exact h7
theorem vO {α : Type}{n:Nat}{ds:List α}{f:Nat → α}(hl:ds.length=n)(h:∀ (i:Nat) d,ds[i]? = some d→d=f i):ds=(List.range n).map f:=by
  apply List.ext_getElem?
  intro i
  by_cases hi:i < n
  · have:ds[i]? = some (ds[i]'(by omega)):=by simp [hl,hi]
    rw [this,h i _ this]
    simp [hi]
  · simp [hi,hl]
end Fm
set_option linter.all false
namespace Fm
theorem av {F:Fn}{r:LF}{σ:Sd}{h h1 h':Hd}{ds:List D}{d:D}(a:r σ h=.ok ds h1)(b:F ds h1=.ok d h'):am F r σ h=.ok d h':=by
  show Res.bind _ _=_;rw [a];exact b
theorem ag {a:EF}{r:LF}{σ:Sd}{h h1 h2:Hd}{d:D}{ds:List D}(p:a σ h=.ok d h1)(q:r σ h1=.ok ds h2):ae a r σ h=.ok (d :: ds) h2:=by
  show Res.bind _ _=_;rw [p,aI,q];rfl
theorem ao {g:O2}{a b:EF}{σ:Sd}{h h1 h2 h3:Hd}{x y z:D}(p:a σ h=.ok x h1)(q:b σ h1=.ok y h2)(r:g x y h2=.ok z h3):aq g a b σ h=.ok z h3:=by
  show Res.bind _ _=_;rw [p,aI,q];exact r
theorem d8 {r:LF}{σ:Sd}{h h':Hd}{xs:List D}(p:r σ h=.ok xs h')(q:xs.length≤SZ:=by exact of_decide_eq_true rfl):eZ r σ h=.ok (.tup xs) h':=by
  show Res.bind _ _=_;rw [p];exact if_pos q
theorem mj {r:LF}{σ:Sd}{h h':Hd}{xs:List D}(p:r σ h=.ok xs h')(q:xs.length≤SZ:=by exact of_decide_eq_true rfl):cZ r σ h=.ok (.ref h'.length) (h'++[.lst xs]):=by
  show Res.bind _ _=_;rw [p];exact if_pos q
theorem iJ {a:LF}{b:EF}{σ:Sd}{h h1 h2:Hd}{l:List D}{i:Int}{d:D}(p:a σ h=.ok l h1)(q:b σ h1=.ok (.int i) h2)(r:atI l i=some d):fIx a b σ h=.ok d h2:=by
  show Res.bind _ _=_;rw [p,aI,q];simp only [aI,r]
theorem bL {a b:EF}{σ:Sd}{h h1 h2:Hd}{x:D}{l:List D}{i:Int}{d:D}(p:a σ h=.ok x h1)(q:b σ h1=.ok (.int i) h2)(s:gz h2 x=some l)(r:atI l i=some d):fAt a b σ h=.ok d h2:=by
  show aq _ _ _ _ _=_;exact ao p q (by simp only [oAt,s,r])
theorem bo {h:Hd}{n:Nat}{l:List D}(p:h[n]? = some (.lst l)):gz h (.ref n)=some l:=by simp only [gz,p]
theorem aN {i:Nat}{e:EF}{σ:Sd}{h h':Hd}{d:D}(p:e σ h=.ok d h'):aG (gN i) e σ h=.nx (σ.set i (some d)) h':=by
  show outE _ _ _=_;rw [p];rfl
theorem bn {e:EF}{σ:Sd}{h h':Hd}{d:D}(p:e σ h=.ok d h'):bc e σ h=.rt d h':=by
  show outE _ _ _=_;rw [p];rfl
theorem j9 {e:EF}{σ:Sd}{h h':Hd}{d:D}(p:e σ h=.ok d h'):iD e σ h=.nx σ h':=by
  show outE _ _ _=_;rw [p];rfl
theorem jp {t:TF}{a b:SF}{σ:Sd}{h h1:Hd}(p:t σ h=.ok true h1):sIf t a b σ h=a σ h1:=by
  unfold sIf;rw [p];rfl
theorem bQ {t:TF}{a b:SF}{σ:Sd}{h h1:Hd}(p:t σ h=.ok false h1):sIf t a b σ h=b σ h1:=by
  unfold sIf;rw [p];rfl
theorem aW {a:EF}{σ:Sd}{h h':Hd}{b:Bool}(p:a σ h=.ok (.bl b) h'):tE a σ h=.ok b h':=by
  show asB _=_;rw [p];rfl
theorem bB {t:TF}{σ:Sd}{h h':Hd}{b:Bool}(p:t σ h=.ok b h'):bD t σ h=.ok (!b) h':=by
  show Res.bind _ _=_;rw [p];rfl
theorem i6 {t u:TF}{σ:Sd}{h h1 h':Hd}{b:Bool}(p:t σ h=.ok true h1)(q:u σ h1=.ok b h'):gO t u σ h=.ok b h':=by
  show Res.bind _ _=_;rw [p];exact q
theorem qY {t u:TF}{σ:Sd}{h h1:Hd}(p:t σ h=.ok false h1):gO t u σ h=.ok false h1:=by
  show Res.bind _ _=_;rw [p];rfl
theorem ed {t u:TF}{σ:Sd}{h h1 h':Hd}{b:Bool}(p:t σ h=.ok false h1)(q:u σ h1=.ok b h'):tOr t u σ h=.ok b h':=by
  show Res.bind _ _=_;rw [p];exact q
theorem qZ {t u:TF}{σ:Sd}{h h1:Hd}(p:t σ h=.ok true h1):tOr t u σ h=.ok true h1:=by
  show Res.bind _ _=_;rw [p];rfl
theorem xj {i j:Int}{h:Hd}:oEq (.int i) (.int j) h=.ok (.bl (decide (i=j))) h:=rfl
theorem cb {a:LF}{σ:Sd}{h h1:Hd}{l:List D}(p:a σ h=.ok l h1):cV a σ h=.ok (.int l.length) h1:=by
  show Res.bind _ _=_;rw [p];rfl
theorem bZ {a:EF}{σ:Sd}{h h1:Hd}{x:D}{l:List D}(p:a σ h=.ok x h1)(s:gz h1 x=some l):lOf a σ h=.ok l h1:=by
  show Res.bind _ _=_;rw [p];simp only [aI,s]
theorem q5 {x i e:EF}{σ:Sd}{h h1 h2 h3:Hd}{d:D}{n k:Nat}{j:Int}{l:List D}(p:e σ h=.ok d h1)(q:x σ h1=.ok (.ref n) h2)(r:i σ h2=.ok (.int j) h3)(s:h3[n]? = some (.lst l))(t:ixN l.length j=some k):lW x i e σ h=.nx σ (h3.set n (.lst (l.set k d))):=by
  simp only [lW,p,q,r,outE,s,t]
theorem Ac {x e:EF}{σ:Sd}{h h1 h2:Hd}{d:D}{n:Nat}{l l0:List D}(p:x σ h=.ok (.ref n) h1)(q:h1[n]? = some (.lst l0))(r:e σ h1=.ok d h2)(s:h2[n]? = some (.lst l))(t:l.length < SZ):ny x e σ h=.ok .non (h2.set n (.lst (l++[d]))):=by
  simp only [ny,p,aI,q,r,C8,s,if_pos t]
theorem fZ {i j:Int}{h:Hd}(p:0 < j):eg (.int i) (.int j) h=.ok (.int (i % j)) h:=by
  simp only [eg,oIc,decide_eq_true p,if_true]
theorem DK {i j:Int}{h:Hd}(p:0 < j)(q:j < 2 ^ 250):zl (.int i) (.int j) h=.ok (.int (i / j)) h:=by
  simp only [zl,oIc,decide_eq_true p,decide_eq_true q,Bool.and_self,if_true]
theorem DL {i j:Int}{h:Hd}(e:i=j):oEq (.int i) (.int j) h=.ok (.bl true) h:=by rw [xj,decide_eq_true e]
theorem Ad {i j:Int}{h:Hd}(e : ¬ i=j):oEq (.int i) (.int j) h=.ok (.bl false) h:=by rw [xj,decide_eq_false e]
theorem DM {i j:Int}{h:Hd}(e : ¬ i < j):oLt (.int i) (.int j) h=.ok (.bl false) h:=by show Res.ok (D.bl (decide (i < j))) h=_;rw [decide_eq_false e]
theorem DN {i j:Int}{h:Hd}(e:i < j):oLt (.int i) (.int j) h=.ok (.bl true) h:=by show Res.ok (D.bl (decide (i < j))) h=_;rw [decide_eq_true e]
theorem Ae {i j:Int}{h:Hd}(p:(sml i || sml j)=true):gJ (.int i) (.int j) h=.ok (.int (i * j)) h:=by
  show (if (sml i || sml j)=true then _ else _)=_
  exact if_pos p
theorem jq {i j:Int}{h:Hd}(p:sml i=true):gJ (.int i) (.int j) h=.ok (.int (i * j)) h:=Ae (by rw [p];rfl)
theorem BC {i j:Int}{h:Hd}(p:sml j=true):gJ (.int i) (.int j) h=.ok (.int (i * j)) h:=Ae (by rw [p,Bool.or_true])
theorem kG {t:TF}{σ:Sd}{h h':Hd}{b:Bool}(p:t σ h=.ok b h'):fT t σ h=.ok (.bl b) h':=by
  show Res.bind _ _=_;rw [p];rfl
theorem DO {x i e:EF}{σ:Sd}{h h1 h2 h3:Hd}{d:D}{n:Nat}{j:Int}{l l0:List D}(p:x σ h=.ok (.ref n) h1)(q:h1[n]? = some (.lst l0))(r:i σ h1=.ok (.int j) h2)(u:e σ h2=.ok d h3)(s:h3[n]? = some (.lst l))(t:0≤j∧j≤l.length∧l.length < SZ):xR x i e σ h=.ok .non (h3.set n (.lst (l.take j.toNat++[d]++l.drop j.toNat))):=by
  simp only [xR,p,aI,q,r,u,s,if_pos t]
theorem q8 {r:LF}{σ:Sd}{h0 h g:Hd}{xs:List D}{A:Nat}(hA:A=h0.length)(p:r σ h=.ok xs (h0++g))(q:xs.length≤SZ):cZ r σ h=.ok (.ref (A + g.length)) (h0++(g++[.lst xs])):=by
  rw [mj p q,hA,List.length_append,List.append_assoc]
theorem BD {σ:Sd}{h0 g:Hd}{A:Nat}(hA:A=h0.length):iI σ (h0++g)=.ok (.ref (A + g.length)) (h0++(g++[.dct []])):=by
  show Res.ok (D.ref (h0++g).length) ((h0++g)++[.dct []])=_
  rw [hA,List.length_append,List.append_assoc]
theorem lA {h0 g:Hd}{A:Nat}(hA:A=h0.length)(k:Nat)(c:eS):(h0++g).set (A + k) c=h0++g.set k c:=by
  subst hA
  rw [List.set_append_right _ _ (by omega)]
  congr 2;omega
theorem iA {h0 g:Hd}{A:Nat}(hA:A=h0.length)(k:Nat):(h0++g)[A + k]? = g[k]? := by
  subst hA
  rw [List.getElem?_append_right (by omega),Nat.add_sub_cancel_left]
theorem dj {h0:Hd}{j:Nat}{c:eS}(g:Hd)(e:h0[j]? = some c):(h0++g)[j]? = some c:=(List.getElem?_append_left (List.getElem?_eq_some_iff.mp e).1).trans e
theorem fJ {a:EF}{σ:Sd}{h h1:Hd}{n:Nat}(p:a σ h=.ok (.int n) h1)(hn:n≤1000):cW a σ h=.ok ((List.range n).map (fun k:Nat=>D.int k),none) h1:=by
  show Res.bind _ _=_
  rw [p]
  exact if_pos ⟨Int.le_trans (by decide) (Int.natCast_nonneg n),Int.le_trans (Int.ofNat_le.mpr hn) (by decide)⟩
theorem ka {it:IF}{tg:GF}{b:SF}{σ:Sd}{h h1:Hd}{l:List D}{g:Option Nat}{o:Out}(p:it σ h=.ok (l,g) h1)(q:dY g l tg b l σ h1=o):jY it tg b σ h=o:=by
  unfold jY;rw [p];exact q
theorem cD {nl:Nat}{caps:List Nat}{it:IF}{tg:GF}{cs:List TF}{e:EF}{σ:Sd}{h h1 h2:Hd}{l ds:List D}{g:Option Nat}(p:it σ h=.ok (l,g) h1)(q:b7 g l tg cs e l (fV nl caps σ) h1=.ok ds h2):bA nl caps it tg cs e σ h=.ok ds h2:=by
  show Res.bind _ _=_;rw [p];exact q
theorem DP {la:LF}{b:EF}{σ:Sd}{h h1 h2:Hd}{l:List D}{n:Int}(p:la σ h=.ok l h1)(q:b σ h1=.ok (.int n) h2)(r:0≤n∧n≤1000∧l.length * n.toNat≤1000):vI la b σ h=.ok (List.replicate n.toNat l).flatten h2:=by
  simp only [vI,p,aI,q,if_pos r]
theorem DQ {k:Int}{n:Nat}{h:Hd}{l:List (Int × D)}(p:h[n]? = some (.dct l)):xP (.int k) (.ref n) h=.ok (.bl (l7 l k).isSome) h:=by simp only [xP,p]
theorem xk {x i e:EF}{σ:Sd}{h h1 h2 h3:Hd}{d:D}{n:Nat}{j:Int}{l:List (Int × D)}(p:e σ h=.ok d h1)(q:x σ h1=.ok (.ref n) h2)(r:i σ h2=.ok (.int j) h3)(s:h3[n]? = some (.dct l))(t:l.length < SZ):l8 x i e σ h=.nx σ (h3.set n (.dct (vF l j d))):=by
  simp only [l8,p,q,r,outE,s,if_pos t]
theorem vP {a:EF}{σ:Sd}{h h1:Hd}{n:Nat}{l:List D}(p:a σ h=.ok (.ref n) h1)(q:h1[n]? = some (.lst l)):cC .list a σ h=.ok (.bl true) h1:=by
  simp only [cC,p,aI,lV,q];rfl
theorem lB {a:EF}{σ:Sd}{h h1:Hd}{n:Nat}{l:List D}(p:a σ h=.ok (.ref n) h1)(q:h1[n]? = some (.lst l)):gK a σ h=.ok (l,some n) h1:=by
  simp only [gK,p,aI,q]
theorem jr {a:LF}{σ:Sd}{h h1:Hd}{l:List D}(p:a σ h=.ok l h1):cU a σ h=.ok (.tup l) h1:=by
  show Res.bind _ _=_;rw [p];rfl
theorem rc {h:Hd}{A:Nat}(hA:A=h.length)(c:eS):(h++[c])[A]? = some c:=by rw [hA];exact List.getElem?_concat_length
theorem re {h:Hd}{A:Nat}(hA:A=h.length)(c d:eS):(h++[c]).set A d=h++[d]:=by
  have:=lA (g:=[c]) hA 0 d
  rwa [Nat.add_zero] at this
theorem BE {r:LF}{σ:Sd}{h h':Hd}{xs:List D}{A:Nat}(hA:A=h'.length)(p:r σ h=.ok xs h')(q:xs.length≤SZ):cZ r σ h=.ok (.ref A) (h'++[.lst xs]):=by rw [hA];exact mj p q
theorem BF {l:List Int}{i:Nat}(h:i < l.length):atI (l.map D.int) (i:Int)=some (.int (l.getD i 0)):=ee (by rw [List.getElem?_map,List.getElem?_eq_getElem h,List.getD_eq_getElem?_getD,List.getElem?_eq_getElem h];rfl)
theorem aF {a b:SF}{σ σ':Sd}{h h':Hd}(e:a σ h=.nx σ' h'):aE a b σ h=b σ' h':=by simp only [aE,e]
theorem iK {a b:SF}{σ:Sd}{h h':Hd}{d:D}(e:a σ h=.rt d h'):aE a b σ h=.rt d h':=by simp only [aE,e]
theorem cE {np n:Nat}{b:SF}{ds:List D}{σ:Sd}{h h':Hd}{d:D}(hl:ds.length=np)(st:(ds.map some++List.replicate (n - ds.length) none:Sd) = σ)(e:b σ h=.rt d h'):bz np n b ds h=letGo h (.ok d h'):=by
  unfold bz runB;rw [if_pos hl,st,e]
theorem Cr {np n:Nat}{b:SF}{ds:List D}{σ σ':Sd}{h h':Hd}(hl:ds.length=np)(st:(ds.map some++List.replicate (n - ds.length) none:Sd) = σ)(e:b σ h=.nx σ' h'):bz np n b ds h=letGo h (.ok .non h'):=by
  unfold bz runB;rw [if_pos hl,st,e]
theorem p8 {t:TF}{σ:Sd}{h:Hd}{b:Bool}(p:t σ h=.ok b h):gU [t] σ h=.ok b h:=by
  simp only [gU,p,aI];cases b<;>rfl
theorem ml {a:EF}{σ:Sd}{h h1:Hd}{l:List D}(p:a σ h=.ok (.tup l) h1):gK a σ h=.ok (l,none) h1:=by
  show Res.bind _ _=_;rw [p];rfl
theorem vQ {a:LF}{σ:Sd}{h h1:Hd}{l:List D}{bs:List Bool}(p:a σ h=.ok l h1)(q:fD l=some bs):lU a σ h=.ok (.bl (bs.all id)) h1:=by
  simp only [lU,p,aI,q]
theorem e9 (a b:Int)(h:Hd):oNe (.int a) (.int b) h=.ok (.bl (!decide (a=b))) h:=rfl
theorem cG {a b:EF}{σ:Sd}{h h1 h2:Hd}{d e:D}(p:a σ h=.ok d h1)(q:b σ h1=.ok e h2):ae a (ae b ax) σ h=.ok [d,e] h2:=ag p (ag q rfl)
end Fm
set_option linter.all false
namespace Fm
noncomputable def bR:Fn:=bz 1 1 (bc (fT (gO (tE (cC .int (aa 0))) (bD (tE (cC .bool (aa 0)))))))
noncomputable def aR:Fn:=bz 3 3 (bc (fT (gO (tE (am bR (ae (aa 0) ax))) (tE (lS oLe oLe (aa 1) (aa 0) (aa 2))))))
noncomputable def aS:Fn:=bz 1 1 (bc (am aR (ae (aa 0) (ae (fC (.int 0)) (ae (fC (.int 1)) ax)))))
noncomputable def dm:Fn:=bz 1 1 (bc (cV (lOf (fAt (aa 0) (fC (.int 0))))))
noncomputable def fK:Fn:=bz 2 2 (bc (fAt (fAt (aa 0) (fC (.int 2))) (aa 1)))
noncomputable abbrev jt:SF:=(aE (sIf (bD (tE (am aS (ae (aa 3) ax)))) (bc (fC (.bl false))) a7)
    (aE (aG (gN 4) (am fK (ae (aa 0) (ae (aa 2) ax))))
    (sIf (gO (tE (aq ei (aa 4) (fC .non))) (tE (aq oNe (aa 3) (aa 4)))) (bc (fC (.bl false))) a7)))
noncomputable def dI:Fn:=bz 2 5 (aE (sIf (tOr (bD (tE (cC .tuple (aa 1)))) (tE (aq oNe (cV (lOf (aa 1))) (am dm (ae (aa 0) ax))))) (bc (fC (.bl false))) a7)
    (aE (jY (zn (aa 1)) (gT [2,3]) jt)
    (bc (fC (.bl true)))))
noncomputable def c5:Fn:=bz 2 2 (sIf (bD (tE (am dI (ae (aa 0) (ae (aa 1) ax))))) fE a7)
theorem ju (i:Int)(h:Hd):bR [.int i] h=.ok (.bl true) h:=(cE (d:=.bl true) (h':=h) rfl rfl rfl).trans aT
theorem eM (i a b:Int)(h:Hd):aR [.int i,.int a,.int b] h=.ok (.bl (decide (a≤i) && decide (i≤b))) h:=by
  have ch:lS oLe oLe (aa 1) (aa 0) (aa 2) [some (.int i),some (.int a),some (.int b)] h=.ok (.bl (decide (a≤i) && decide (i≤b))) h:=by
    show (match D.bl (decide (a≤i)) with | .bl true=>Res.ok (D.bl (decide (i≤b))) h | .bl false=>.ok (.bl false) h|_=>.bad)=_
    cases decide (a≤i)<;>rfl
  have t:gO (tE (am bR (ae (aa 0) ax))) (tE (lS oLe oLe (aa 1) (aa 0) (aa 2))) [some (.int i),some (.int a),some (.int b)] h=.ok (decide (a≤i) && decide (i≤b)) h:=i6 (aW (av (ag rfl rfl) (ju i h))) (aW ch)
  exact (cE rfl rfl (bn (kG t))).trans aT
theorem dA (i:Int)(h:Hd):aS [.int i] h=.ok (.bl (decide (0≤i) && decide (i≤1))) h:=by
  exact (cE rfl rfl (bn (av (ag rfl (cG rfl rfl)) (eM i 0 1 h)))).trans aT
theorem hW (w:Web)(h:Hd):dm [w.enc] h=.ok (.int w.ties.length) h:=by
  have:=(cE (np:=1) (n:=1) (b:=bc (cV (lOf (fAt (aa 0) (fC (.int 0)))))) (ds:=[w.enc]) (h:=h) rfl rfl (bn (cb (bZ (bL rfl rfl rfl rfl) rfl)))).trans aT
  rwa [List.length_map] at this
theorem eW (w:Web)(h:Hd){p:Nat}{r:Option Int}(e:w.stays[p]? = some r):fK [w.enc,.int p] h=.ok (bu r) h:=by
  have q:atI (w.stays.map bu) (p:Int)=some (bu r):=ee (by simp [e])
  exact (cE rfl rfl (bn (bL (bL rfl rfl rfl rfl) rfl rfl q))).trans aT
theorem rg {w:Web}{n:Nat}{s:List Int}(W:w.Ok n)(F:x6 w n s)(h:Hd):dI [w.enc,bb s] h=.ok (.bl true) h:=by
  obtain⟨σ',h',h1,h2,a,b,c,h3⟩:=fI (P:=fun _ σ h'=>h'=h ∧ ∃ a b c,σ = [some w.enc,some (bb s),a,b,c]) (g:=none) (k:=0)
      (all:=((List.range (s.map D.int).length).zip (s.map D.int)).map fun p=>D.tup [.int (p.1:Nat),p.2]) (fun _ _ _ _=>trivial)
      (xs:=((List.range (s.map D.int).length).zip (s.map D.int)).map fun p=>D.tup [.int (p.1:Nat),p.2]) (tg:=gT [2,3]) (σ:=[some w.enc,some (bb s),none,none,none]) (h:=h)
      (b:=jt) (by
      rintro i x σ h0 hx ⟨rfl,a,b,c,rfl⟩
      have hi:i < s.length:=by
        have:=(List.getElem?_eq_some_iff.mp hx).1
        simpa using this
      have hx':x=.tup [.int (i:Nat),.int s[i]]:=by simpa [hi,List.getElem?_eq_getElem] using hx.symm
      subst hx'
      have hs:w.stays[i]? = some (w.stays[i]'(by rw [W.s,← F.len];exact hi)):=List.getElem?_eq_getElem _
      generalize w.stays[i]'(by rw [W.s,← F.len];exact hi)=st at hs
      have op:aS [.int s[i]] h0=.ok (.bl true) h0:=by
        rw [dA];rcases F.op _ (List.getElem_mem hi) with e|e<;>rw [e]<;>rfl
      have s1:sIf (bD (tE (am aS (ae (aa 3) ax)))) (bc (fC (.bl false))) a7 [some w.enc,some (bb s),some (.int i),some (.int s[i]),c] h0=.nx [some w.enc,some (bb s),some (.int i),some (.int s[i]),c] h0:=bQ (bB (aW (av (ag rfl rfl) op)))
      have sv:=eW w h0 hs
      cases st with
      | none=>exact⟨_,rfl,_,h0,(aF s1).trans ((aF (aN (av (cG rfl rfl) sv))).trans (bQ (qY (aW (ao rfl rfl rfl))))),rfl,_,_,_,rfl⟩
      | some y =>
        have hy:s[i] = y:=by have:=F.st i y hs;rw [List.getElem?_eq_getElem hi] at this;exact Option.some.inj this
        exact⟨_,rfl,_,h0,(aF s1).trans ((aF (aN (av (cG rfl rfl) sv))).trans (bQ (i6 (aW (ao rfl rfl rfl)) (aW (ao rfl rfl (by rw [show bu (some y)=D.int y from rfl,e9,decide_eq_true hy];rfl)))))),rfl,_,_,_,rfl⟩) ⟨rfl,_,_,_,rfl⟩
  rw [h2,h3] at h1
  have s1:sIf (tOr (bD (tE (cC .tuple (aa 1)))) (tE (aq oNe (cV (lOf (aa 1))) (am dm (ae (aa 0) ax))))) (bc (fC (.bl false))) a7 [some w.enc,some (bb s),none,none,none] h=.nx [some w.enc,some (bb s),none,none,none] h :=
    bQ (ed (bB (b:=true) (aW rfl)) (aW (ao (cb (bZ rfl rfl)) (av (ag rfl rfl) (hW w h)) (by rw [e9,List.length_map,F.len,W.t,decide_eq_true rfl];rfl))))
  exact (cE rfl rfl ((aF s1).trans ((aF (ka rfl h1)).trans (bn rfl)))).trans aT
theorem Af {w:Web}{n:Nat}{s:List Int}(W:w.Ok n)(F:x6 w n s)(h:Hd):c5 [w.enc,bb s] h=.ok .non h:=by
  exact (Cr rfl rfl (bQ (bB (aW (av (cG rfl rfl) (rg W F h)))))).trans aT
end Fm
set_option linter.all false
namespace Fm
end Fm
set_option linter.all false
namespace Fm
noncomputable def hX:Fn:=bz 2 4 (aE (sIf (tOr (bD (tE (cC .tuple (aa 1)))) (tE (aq oNe (cV (lOf (aa 1))) (fC (.int 3))))) (bc (fC (.bl false))) a7)
    (aE (aG (gN 2) (fAt (aa 1) (fC (.int 0))))
    (aE (aG (gN 3) (fAt (aa 1) (fC (.int 1))))
    (aE (sIf (tOr (bD (tE (am aR (ae (aa 2) (ae (fC (.int 0)) (ae (aq xJ (aa 0) (fC (.int 1))) ax)))))) (bD (tE (am aR (ae (aa 3) (ae (fC (.int 0)) (ae (aq xJ (aa 0) (fC (.int 1))) ax))))))) (bc (fC (.bl false))) a7)
    (bc (fT (gO (tE (aq oNe (aa 2) (aa 3))) (tE (am aR (ae (fAt (aa 1) (fC (.int 2))) (ae (fC (.int 1)) (ae (fC (.int 400)) ax))))))))))))
noncomputable abbrev cy:SF:=(aE (sIf (bD (tE (am hX (ae (aa 0) (ae (aa 3) ax))))) fE a7)
    (aE (aG (gN 4) (fAt (aa 3) (fC (.int 0))))
    (aE (aG (gN 5) (fAt (aa 3) (fC (.int 1))))
    (aE (sIf (tE (aq xP (aa 5) (fAt (aa 2) (aa 4)))) fE a7)
    (aE (l8 (fAt (aa 2) (aa 4)) (aa 5) (fAt (aa 3) (fC (.int 2))))
    (l8 (fAt (aa 2) (aa 5)) (aa 4) (fAt (aa 3) (fC (.int 2)))))))))
noncomputable def cm:Fn:=bz 2 6 (aE (sIf (bD (tE (cC .list (aa 1)))) fE a7)
    (aE (aG (gN 2) (cZ (bA 1 [] (cW (aa 0)) (gN 0) [] iI)))
    (aE (jY (gK (aa 1)) (gN 3) cy)
    (bc (aa 2)))))
noncomputable def cJ:Fn:=bz 2 2 (aE (sIf (tE (aq kR (aa 1) (fC .non))) fE a7)
    (aE (sIf (tOr (bD (tE (cC .list (aa 1)))) (tE (aq oNe (cV (lOf (aa 1))) (cV (lOf (aa 0)))))) fE a7)
    (aE (sIf (bD (tE (lU (bA 1 [] (gK (aa 1)) (gN 0) [] (am bR (ae (aa 0) ax)))))) fE a7)
    (bc (cU (lOf (aa 1)))))))
noncomputable def cq:Fn:=bz 2 2 (aE (sIf (tE (aq kR (aa 1) (fC .non))) (bc (cU (bA 1 [] (cW (aa 0)) (gN 0) [] (fC .non)))) a7)
    (aE (sIf (tOr (bD (tE (cC .list (aa 1)))) (tE (aq oNe (cV (lOf (aa 1))) (aa 0)))) fE a7)
    (aE (sIf (bD (tE (lU (bA 1 [] (gK (aa 1)) (gN 0) [] (fT (tOr (tE (aq kR (aa 0) (fC .non))) (tE (am aS (ae (aa 0) ax))))))))) fE a7)
    (bc (cU (lOf (aa 1)))))))
noncomputable def fL:Fn:=bz 4 6 (aE (sIf (bD (tE (am aR (ae (aa 0) (ae (fC (.int 1)) (ae (fC (.int 30)) ax)))))) fE a7)
    (aE (aG (gN 4) (am cm (ae (aa 0) (ae (aa 1) ax))))
    (aE (aG (gN 5) (cU (bA 1 [] (gK (aa 4)) (gN 0) [] (cU (i0 (aa 0))))))
    (bc (eZ (ae (aa 5) (ae (am cJ (ae (aa 4) (ae (aa 2) ax))) (ae (am cq (ae (aa 0) (ae (aa 3) ax))) ax))))))))
noncomputable def bj:Fn:=bz 2 4 (aE (aG (gN 2) (fC (.int 0)))
    (aE (sIf (tE (aq oLt (aa 1) (cV (lOf (aa 0))))) (aG (gN 2) (fAt (aa 0) (aa 1))) a7)
    (aE (aG (gN 3) (fT (tOr (tE (aq oEq (cV (lOf (aa 0))) (fC (.int 0)))) (tE (aq oEq (aq eg (fAt (aa 0) (fC (.int 0))) (fC (.int 2))) (fC (.int 1)))))))
    (aE (sIf (tE (aa 3)) (aG (gN 2) (aq cF (aq eg (aa 2) (fC (.int 2147483647))) (aq gJ (fC (.int 1000003)) (aa 1)))) a7)
    (bc (cZ (ae (aa 2) (ae (fC (.int 0)) (ae (aa 3) ax)))))))))
noncomputable def ay:Fn:=bz 2 4 (aE (lW (aa 0) (fC (.int 1)) (aq cF (fAt (aa 0) (fC (.int 1))) (fC (.int 1))))
    (aE (sIf (tE (fAt (aa 0) (fC (.int 2)))) (aE (aG (gN 2) (aq eg (aq gJ (aq cF (aq cF (fAt (aa 0) (fC (.int 0))) (aq gJ (fC (.int 7919)) (fAt (aa 0) (fC (.int 1))))) (fC (.int 1))) (fC (.int 48271))) (fC (.int 2147483647))))
    (aE (aG (gN 2) (aq eg (aq gJ (aa 2) (aq cF (aq eg (aa 2) (fC (.int 65521))) (fAt (aa 0) (fC (.int 1))))) (fC (.int 2147483629))))
    (bc (aq eg (aq eg (aq cF (aq gJ (aa 2) (aa 2)) (aq gJ (fC (.int 69621)) (aa 2))) (fC (.int 2147483563))) (aa 1))))) a7)
    (aE (aG (gN 3) (aq eg (fAt (aa 0) (fC (.int 0))) (aa 1)))
    (aE (lW (aa 0) (fC (.int 0)) (aq zl (fAt (aa 0) (fC (.int 0))) (aa 1)))
    (bc (aa 3))))))
noncomputable def c9:Fn:=bz 3 3 (aE (sIf (tE (aq oEq (aa 0) (fC (.int 0)))) (bc (aa 2)) a7)
    (aE (sIf (tE (aq oEq (aa 0) (fC (.int 1)))) (bc (aq xJ (aa 1) (fC (.int 60)))) a7)
    (aE (sIf (tE (aq oEq (aa 0) (fC (.int 2)))) (bc (aq xJ (aq cF (aa 2) (aq eg (aa 1) (fC (.int 5)))) (fC (.int 2)))) a7)
    (aE (sIf (tE (aq oEq (aa 0) (fC (.int 3)))) (bc (aq gJ (fC (.int 2)) (aq eg (aa 1) (aq cF (aa 2) (fC (.int 1)))))) a7)
    (bc (aq gJ (aq cF (aq zm (fC (.int 10)) (fC (.int 59))) (aa 1)) (fIx (ae (fC (.int 1)) (ae (fC (.int (-1))) ax)) (aq eg (aa 1) (fC (.int 2))))))))))
noncomputable abbrev eX:SF:=(sIf (tE (aq oEq (am ay (ae (aa 9) (ae (aa 3) ax))) (fC (.int 0)))) (aE (aG (gN 11) (aq cF (fC (.int 1)) (am ay (ae (aa 9) (ae (fIx (ae (fC (.int 3)) (ae (fC (.int 400)) ax)) (am ay (ae (aa 9) (ae (fC (.int 2)) ax)))) ax)))))
    (aE (iD (xR (aa 4) (am ay (ae (aa 9) (ae (aq cF (cV (lOf (aa 4))) (fC (.int 1))) ax))) (fIx (ae (eZ (ae (aa 8) (ae (aa 10) (ae (aa 11) ax)))) (ae (eZ (ae (aa 10) (ae (aa 8) (ae (aa 11) ax)))) ax)) (aq eg (aa 11) (fC (.int 2))))))
    (aE (lW (aa 7) (aa 8) (aq cF (fAt (aa 7) (aa 8)) (aa 11)))
    (lW (aa 7) (aa 10) (aq cF (fAt (aa 7) (aa 10)) (aa 11)))))) a7)
noncomputable abbrev dU:SF:=(aE (aG (gN 9) (am bj (ae (aa 0) (ae (aq cF (fC (.int 1)) (aa 8)) ax))))
    (aE (iD (ny (aa 6) (fIx (ae (fC .non) (ae (fC .non) (ae (fC .non) (ae (fC (.int 0)) (ae (fC (.int 1)) ax))))) (am ay (ae (aa 9) (ae (fC (.int 5)) ax))))))
    (aE (iD (ny (aa 5) (eZ (ae (am ay (ae (aa 9) (ae (fC (.int 5)) ax))) (ae (am ay (ae (aa 9) (ae (fC (.int 200)) ax))) ax)))))
    (jY (cW (aa 8)) (gN 10) eX))))
noncomputable def dk:Fn:=bz 1 12 (aE (aG (gN 1) (am bj (ae (aa 0) (ae (fC (.int 0)) ax))))
    (aE (iD (am ay (ae (aa 1) (ae (fC (.int 2)) ax))))
    (aE (aG (gN 2) (aq cF (fC (.int 1)) (am ay (ae (aa 1) (ae (fIx (ae (fC (.int 6)) (ae (fC (.int 12)) (ae (fC (.int 30)) ax))) (am ay (ae (aa 1) (ae (fC (.int 3)) ax)))) ax)))))
    (aE (aG (gN 3) (fIx (ae (fC (.int 1)) (ae (fC (.int 2)) (ae (fC (.int 5)) ax))) (am ay (ae (aa 1) (ae (fC (.int 3)) ax)))))
    (aE (aG (gN 4) (cZ ax))
    (aE (aG (gN 5) (cZ ax))
    (aE (aG (gN 6) (cZ ax))
    (aE (aG (gN 7) (cZ (vI (ae (fC (.int 0)) ax) (aa 2))))
    (aE (jY (cW (aa 2)) (gN 8) dU)
    (aE (aG (gN 5) (cZ (bA 1 [7,5] (cW (aa 2)) (gN 0) [] (am c9 (ae (fAt (fAt (aa 2) (aa 0)) (fC (.int 0))) (ae (fAt (fAt (aa 2) (aa 0)) (fC (.int 1))) (ae (fAt (aa 1) (aa 0)) ax)))))))
    (bc (eZ (ae (aa 2) (ae (aa 4) (ae (aa 5) (ae (aa 6) (ae (aa 7) ax)))))))))))))))))
noncomputable abbrev i7:SF:=(aE (aG (gN 6) (am ay (ae (aa 3) (ae (fC (.int 2)) ax))))
    (aE (sIf (tE (aq ei (aa 5) (fC .non))) (aG (gN 6) (aa 5)) a7)
    (iD (ny (aa 4) (aa 6)))))
noncomputable def eo:Fn:=bz 3 7 (aE (aG (gN 3) (am bj (ae (aa 0) (ae (aa 1) ax))))
    (aE (aG (gN 4) (cZ ax))
    (aE (jY (gK (aa 2)) (gN 5) i7)
    (bc (cU (lOf (aa 4)))))))
end Fm
set_option linter.all false
namespace Fm
noncomputable def cL:Fn:=bz 1 1 (bc (ua (bA 1 [] (gK (aa 0)) (gN 0) [] (Bw (aa 0)))))
noncomputable def cr:Fn:=bz 2 3 (aE (sIf (tOr (bD (tE (cC .str (aa 1)))) (bD (tE (lU (bA 1 [] (iF (aa 1)) (gN 0) [] (aq oIn (aa 0) (eZ (ae (fC (.str [48])) (ae (fC (.str [49])) ax))))))))) fE a7)
    (aE (aG (gN 2) (cU (bA 1 [] (iF (aa 1)) (gN 0) [] (fH (aa 0)))))
    (aE (iD (am c5 (ae (aa 0) (ae (aa 2) ax))))
    (bc (aa 2)))))
noncomputable def dB:Fn:=bz 2 3 (aE (sIf (tOr (tE (aq oNe (kF (aa 0)) (cV (lOf (aa 1))))) (tE (aq oGt (cV (bA 1 [] (iF (aa 0)) (gN 0) [(tE (aq iy (aa 0) (fC (.str [48,49]))))] (aa 0))) (fC (.int 0))))) (bc (fC .non)) a7)
    (aE (aG (gN 2) (cU (bA 1 [] (iF (aa 0)) (gN 0) [] (fH (aa 0)))))
    (aE (sIf (tE (aq oGt (cV (bA 1 [1,2] (cW (cV (lOf (aa 1)))) (gN 0) [(gO (tE (aq ei (fAt (aa 1) (aa 0)) (fC .non))) (tE (aq oNe (fAt (aa 1) (aa 0)) (fAt (aa 2) (aa 0)))))] (aa 0))) (fC (.int 0)))) (bc (fC .non)) a7)
    (bc (aa 2)))))
noncomputable def ce:Fn:=bz 2 2 (tZ (bD (tE (am dI (ae (aa 0) (ae (aa 1) ax))))) (ma "NoStand") a7)
noncomputable def aJ:Fn:=bz 2 3 (aE (tZ (tOr (bD (tE (cC .str (aa 1)))) (bD (tE (lU (bA 1 [] (iF (aa 1)) (gN 0) [] (aq oIn (aa 0) (eZ (ae (fC (.str [48])) (ae (fC (.str [49])) ax))))))))) (ma "NoStand") a7)
    (aE (sPl (aG (gN 2) (cU (bA 1 [] (iF (aa 1)) (gN 0) [] (fH (aa 0))))))
    (aE (iD (am ce (fPl (ae (aa 0) (ae (aa 2) ax)))))
    (sPl (bc (aa 2))))))
noncomputable def c6:Fn:=bz 2 5 (aE (aG (gN 2) (fC .non))
    (aE (aG (gN 3) (fC (.str [114,101,97,100])))
    (aE (kE 4 ["NoStand"] (aG (gN 2) (am aJ (fPl (ae (aa 0) (ae (aa 1) ax))))) (aE (aG (gN 3) (fC (.str [115,116,97,110,100])))
    (aE (sIf (tE (iE [("NoStand",false)] (aa 4))) (aG (gN 3) (fC (.str [111,116,104,101,114]))) a7)
    (sIf (tOr (bD (tE (iE [("NoStand",true)] (aa 4)))) (bD (tE (iE [("NoStand",true)] (aa 4))))) (aG (gN 3) (fC (.str [111,116,104,101,114]))) a7))))
    (bc (eZ (ae (aa 2) (ae (aa 3) ax)))))))
noncomputable def dn:Fn:=bz 2 5 (aE (aG (gN 2) (am ay (ae (aa 1) (ae (kF (aa 0)) ax))))
    (aE (aG (gN 3) (am ay (ae (aa 1) (ae (fC (.int 5)) ax))))
    (aE (aG (gN 4) (qW (fC (.str [48,49,50,51,32,45,120,57])) (am ay (ae (aa 1) (ae (fC (.int 8)) ax)))))
    (aE (sIf (tE (aq oEq (aa 3) (fC (.int 0)))) (bc (aq gF (aq gF (bW (aa 0) pNo (pAt (aa 2))) (aa 4)) (bW (aa 0) (pAt (aa 2)) pNo))) a7)
    (aE (sIf (tE (aq oEq (aa 3) (fC (.int 1)))) (bc (aq gF (bW (aa 0) pNo (pAt (aa 2))) (bW (aa 0) (pAt (aq cF (aa 2) (fC (.int 1)))) pNo))) a7)
    (aE (sIf (tE (aq oEq (aa 3) (fC (.int 2)))) (bc (aq gF (aq gF (bW (aa 0) pNo (pAt (aa 2))) (aa 4)) (bW (aa 0) (pAt (aq cF (aa 2) (fC (.int 1)))) pNo))) a7)
    (aE (sIf (tE (aq oEq (aa 3) (fC (.int 3)))) (bc (aq gF (aq gF (bW (aa 0) pNo (pAt (aa 2))) (qW (fC (.str [49,48])) (fH (qW (aa 0) (aa 2))))) (bW (aa 0) (pAt (aq cF (aa 2) (fC (.int 1)))) pNo))) a7)
    (bc (aq gF (aa 0) (aa 4))))))))))
noncomputable abbrev Ag:SF:=(aG (gT [1,2,3,4,5]) (am dk (ae (aa 0) ax)))
noncomputable abbrev Ah:SF:=(aG (gN 6) (am fL (ae (aa 1) (ae (cZ (lOf (aa 2))) (ae (cZ (lOf (aa 3))) (ae (cZ (lOf (aa 4))) ax))))))
noncomputable abbrev Ai:SF:=(aG (gN 7) (am eo (ae (aa 0) (ae (fC (.int 41)) (ae (aa 4) ax)))))
noncomputable abbrev Aj:SF:=(aG (gN 8) (ua (bA 1 [] (gK (aa 7)) (gN 0) [] (fIx (ae (fC (.str [48])) (ae (fC (.str [49])) ax)) (aa 0)))))
noncomputable abbrev Ak:SF:=(sIf (tOr (tE (aq oNe (am cL (ae (aa 7) ax)) (aa 8))) (tE (aq oNe (am c6 (ae (aa 6) (ae (aa 8) ax))) (eZ (ae (aa 7) (ae (fC (.str [114,101,97,100])) ax)))))) (bc (fC (.bl false))) a7)
noncomputable abbrev Al:SF:=(sIf (tE (aq oGt (cV (bA 1 [] (gK (am cr (ae (aa 6) (ae (aa 8) ax)))) (gN 0) [(tE (cC .bool (aa 0)))] (aa 0))) (fC (.int 0)))) (bc (fC (.bl false))) a7)
noncomputable abbrev vR:SF:=(aE (aG (gN 10) (am bj (ae (aa 0) (ae (aq cF (fC (.int 42)) (aa 9)) ax))))
    (aE (aG (gN 11) (am dn (ae (aa 8) (ae (aa 10) ax))))
    (aE (aG (gN 12) (am dB (ae (aa 11) (ae (aa 4) ax))))
    (aE (sIf (tE (aq oNe (am c6 (ae (aa 6) (ae (aa 11) ax))) (eZ (ae (aa 12) (ae (fIx (ae (fC (.str [114,101,97,100])) (ae (fC (.str [115,116,97,110,100])) ax)) (C7 (aq kR (aa 12) (fC .non)))) ax))))) (bc (fC (.bl false))) a7)
    (aE (aG (gN 13) (fIx (ae (fC .non) (ae (fC (.int 1)) (ae (fC (.bl true)) (ae (aa 7) (ae (cZ (ae (aa 8) ax)) (ae iI (ae (aq zm (fC (.int 10)) (fC (.int 20))) ax))))))) (am ay (ae (aa 10) (ae (fC (.int 7)) ax)))))
    (sIf (tE (aq oNe (am c6 (ae (aa 6) (ae (aa 13) ax))) (eZ (ae (fC .non) (ae (fC (.str [115,116,97,110,100])) ax))))) (bc (fC (.bl false))) a7))))))
noncomputable abbrev Am:SF:=(jY (cW (fC (.int 10))) (gN 9) vR)
noncomputable abbrev An:SF:=(bc (fT (gO (tE (aq oEq (am cL (ae (aa 7) ax)) (aa 8))) (tE (aq oEq (am cr (ae (aa 6) (ae (aa 8) ax))) (aa 7))))))
noncomputable def xl:Fn:=bz 1 14 (aE Ag (aE Ah (aE Ai (aE Aj (aE Ak (aE Al (aE Am An)))))))
end Fm
set_option Elab.async false
set_option linter.all false
set_option maxRecDepth 100000
set_option maxHeartbeats 4000000
namespace Fm
open PySem PySem.Spec L2
section
abbrev eN (i : Nat) : Stmt := PySem.Challenge.pw_followmost_k50_stands_written.main.body.getD i (.Pass ⟨0, 0, 0, 0⟩)
abbrev dJ:Stmt:=eN 12
abbrev cM:Stmt:=eN 13
abbrev cN:Stmt:=eN 14
abbrev fM:Stmt:=eN 22
abbrev cO:Stmt:=eN 21
abbrev dq:Stmt:=eN 23
abbrev cP:Stmt:=eN 24
abbrev fN:Stmt:=eN 18
abbrev et:Stmt:=eN 19
abbrev eu:Stmt:=eN 20
abbrev kb:Stmt:=eN 26
abbrev b0:Stmt:=eN 27
abbrev cQ:Stmt:=eN 29
abbrev cu:Stmt:=eN 30
abbrev cR:Stmt:=eN 32
abbrev cS:Stmt:=eN 33
abbrev dL:Stmt:=eN 34
abbrev cz:Stmt:=eN 35
abbrev cT:Stmt:=eN 36
abbrev dr:Stmt:=eN 37
abbrev du:Stmt:=eN 38
abbrev cf:Stmt:=eN 39
abbrev jv:Stmt:=eN 40
variable {P:Program} {w:World} {K:PySem.W.Frag} {mg:Str→Option Value} {base:Heap} {f:Addr} {fd:FuncData}
theorem ug:a4 ["thing"] ["thing"] (ak dJ):=⟨rfl,rfl,rfl,by decide +kernel,rfl,by decide +kernel,by decide +kernel⟩
theorem uh (F:Fun K "is_whole" "is_whole" dJ f fd) (au:mg "isinstance" = none) (kf:mg "bool" = none) (dG:mg "int" = none):b5 P w K mg base CX0 1 f fd ["thing"] (spF K bR 1):=by
  refine cI F ug fun cdv A outer s H E hr => ?_
  have hu:=d7 hr
  exact (ar (aO (MB.me (qG (gC (dN (t:=.int) rfl au rfl dG (by decide +kernel) (mv 0))) (j2 (Db (gC (dN (t:=.bool) rfl au rfl kf (by decide +kernel) (mv 0)))))))))
theorem nA:a4 ["thing", "least", "most"] ["thing", "least", "most"] (ak cM):=⟨rfl,rfl,rfl,by decide +kernel,rfl,by decide +kernel,by decide +kernel⟩
theorem nB (F:Fun K "is_between" "is_between" cM f fd) (eO:Def P w K mg base "is_whole" 1 1 bR):b5 P w K mg base CX0 2 f fd ["thing", "least", "most"] (spF K aR 3):=by
  refine cI F nA fun cdv A outer s H E hr => ?_
  have hu:=d7 hr
  exact (ar (aO (MB.me (qG (gC (aA eO (hr.mono (by decide)) rfl (af (mv 0) aw) aB)) (j2 (gC (zt Ch Ch xK xK (mv 1) (mv 0) (mv 2))))))))
theorem nC:a4 ["thing"] ["thing"] (ak cN):=⟨rfl,rfl,rfl,by decide +kernel,rfl,by decide +kernel,by decide +kernel⟩
theorem nD (F:Fun K "is_opinion" "is_opinion" cN f fd) (bI:Def P w K mg base "is_between" 2 3 aR):b5 P w K mg base CX0 3 f fd ["thing"] (spF K aS 1):=by
  refine cI F nC fun cdv A outer s H E hr => ?_
  have hu:=d7 hr
  exact (ar (aO (aA bI (hr.mono (by decide)) rfl (af (mv 0) (af aj (af aj aw))) aB)))
theorem kc:a4 ["many", "thing", "one", "other"] ["many", "thing"] (ak fM):=⟨rfl,rfl,rfl,by decide +kernel,rfl,by decide +kernel,by decide +kernel⟩
theorem x8 (F:Fun K "is_tie" "is_tie" fM f fd) (bw:mg "len" = none) (au:mg "isinstance" = none) (aY:mg "tuple" = none) {ff:Tok} (fg:mg "MOST_WEIGHT" = some (.int 400 ff)) (bI:Def P w K mg base "is_between" 2 3 aR):b5 P w K mg base CX0 3 f fd ["many", "thing"] (spF K hX 2):=by
  refine cI F kc fun cdv A outer s H E hr => ?_
  have hu:=d7 hr
  exact (ai (bq (MW.mt (iH (b8 (bF (dN (t:=.tuple) rfl au rfl aY (by decide +kernel) (mv 1)))) (d5 (bi (d6 hu) gD (dy rfl bw (dS (mv 1))) aj (aZ _)) (.inr rfl)))) (ar (aO gY)) aK)
    (ai (aM (i:=2) kc.nd rfl (by first|exact .inl rfl|exact .inr rfl) (bK (mv 1) aj (fun _ _=>rfl)))
    (ai (aM (i:=3) kc.nd rfl (by first|exact .inl rfl|exact .inr rfl) (bK (mv 1) aj (fun _ _=>rfl)))
    (ai (bq (MW.mt (iH (b8 (bF (aA bI (hr.mono (by decide)) rfl (af (mv 2) (af aj (af (a8 qt A9 (mv 0) aj) aw))) aB))) (d5 (b8 (bF (aA bI (hr.mono (by decide)) rfl (af (mv 3) (af aj (af (a8 qt A9 (mv 0) aj) aw))) aB))) (.inr rfl)))) (ar (aO gY)) aK)
    (ar (aO (MB.me (qG (gC (fW (d6 hu) gD (mv 2) (mv 3) (aZ _))) (j2 (gC (aA bI (hr.mono (by decide)) rfl (af (bK (mv 1) aj (fun _ _=>rfl)) (af aj (af (tP rfl fg) aw))) aB)))))))))))
theorem c7:a4 ["many", "ties", "near", "tie", "one", "other"] ["many", "ties"] (ak cO):=⟨rfl,rfl,rfl,by decide +kernel,rfl,by decide +kernel,by decide +kernel⟩
theorem nE (F:Fun K "neighbours" "neighbours" cO f fd) (bX:mg "range" = none) (au:mg "isinstance" = none) (dE:mg "list" = none) (mF:Def P w K mg base "is_tie" 3 2 hX):b5 P w K mg base CX0 4 f fd ["many", "ties"] (spF K cm 2):=by
  refine cI F c7 fun cdv A outer s H E hr => ?_
  have hu:=d7 hr
  exact (ai (bq (b8 (bF (dN (t:=.list) rfl au rfl dE (by decide +kernel) (mv 1)))) (ar eG) aK)
    (ai (Be (i:=2) c7.nd rfl (by first|exact .inl rfl|exact .inr rfl) (own:=["person"]) (capn:=[]) (caps:=[]) rfl (bG.mk' rfl (by decide +kernel) (by decide +kernel) (by repeat' (first|exact aQ.nil|refine aQ.cons (by first|exact (fun _=>.inl rfl)|exact (fun _=>.inr rfl)|(intro z;cases z;done)) ?_)) bU.nil) (eI rfl bX (mv 0))
      (fun cl C s H ex=>⟨(a6 (i:=0) (show ((["person"] : List Str)++([] : List Str)).Nodup by decide +kernel) rfl (by first|exact .inl rfl|exact .inr rfl)),cK,w6⟩))
    (ai (j3 PassesOwn.never rfl (g5 (mv 1)) (a6 (i:=3) c7.nd rfl (by first|exact .inl rfl|exact .inr rfl)) (ai (bq (b8 (bF (aA mF (hr.mono (by decide)) rfl (af (mv 0) (af (mv 3) aw)) aB))) (ar eG) aK)
    (ai (aM (i:=4) c7.nd rfl (by first|exact .inl rfl|exact .inr rfl) (bK (mv 3) aj (fun _ _=>rfl)))
    (ai (aM (i:=5) c7.nd rfl (by first|exact .inl rfl|exact .inr rfl) (bK (mv 3) aj (fun _ _=>rfl)))
    (ai (bq (bi (Du (Nat.lt_of_le_of_lt (Nat.add_le_add_left (by decide) _) hu)) Dv (mv 5) (bK (mv 2) (mv 4) (fun _ _=>rfl)) rfl) (ar eG) aK)
    (ai (w8 (Nat.lt_of_le_of_lt (Nat.add_le_add_left (by decide) _) hu) (bK (mv 3) aj (fun _ _=>rfl)) (bK (mv 2) (mv 4) (fun _ _=>rfl)) (mv 5))
    (ar (w8 (Nat.lt_of_le_of_lt (Nat.add_le_add_left (by decide) _) hu) (bK (mv 3) aj (fun _ _=>rfl)) (bK (mv 2) (mv 5) (fun _ _=>rfl)) (mv 4)))))))))
    (ar (aO (mv 2))))))
theorem rj:a4 ["near", "bars"] ["near", "bars"] (ak dq):=⟨rfl,rfl,rfl,by decide +kernel,rfl,by decide +kernel,by decide +kernel⟩
theorem rk (F:Fun K "bars_told" "bars_told" dq f fd) (aY:mg "tuple" = none) (gH:mg "all" = none) (bw:mg "len" = none) (au:mg "isinstance" = none) (dE:mg "list" = none) (eO:Def P w K mg base "is_whole" 1 1 bR):b5 P w K mg base CX0 2 f fd ["near", "bars"] (spF K cJ 2):=by
  refine cI F rj fun cdv A outer s H E hr => ?_
  have hu:=d7 hr
  exact (ai (bq (bi qu qF (mv 1) cX (aZ _)) (ar eG) aK)
    (ai (bq (MW.mt (iH (b8 (bF (dN (t:=.list) rfl au rfl dE (by decide +kernel) (mv 1)))) (d5 (bi (d6 hu) gD (dy rfl bw (dS (mv 1))) (dy rfl bw (dS (mv 0))) (aZ _)) (.inr rfl)))) (ar eG) aK)
    (ai (bq (b8 (bF (qU rfl rfl gH (dh (cj (own:=["bar"]) (capn:=[]) (caps:=[]) rfl (bG.mk' rfl (by decide +kernel) (by decide +kernel) (by repeat' (first|exact aQ.nil|refine aQ.cons (by first|exact (fun _=>.inl rfl)|exact (fun _=>.inr rfl)|(intro z;cases z;done)) ?_)) bU.nil) (g5 (mv 1))
      (fun cl C s H ex=>⟨(a6 (i:=0) (show ((["bar"] : List Str)++([] : List Str)).Nodup by decide +kernel) rfl (by first|exact .inl rfl|exact .inr rfl)),cK,(aA eO (hr.mono (by decide)) rfl (af (mv 0) aw) aB)⟩)))))) (ar eG) aK)
    (ar (aO (ej rfl aY (dS (mv 1))))))))
theorem nF:a4 ["many", "stays"] ["many", "stays"] (ak cP):=⟨rfl,rfl,rfl,by decide +kernel,rfl,by decide +kernel,by decide +kernel⟩
theorem nG (F:Fun K "stays_told" "stays_told" cP f fd) (aY:mg "tuple" = none) (gH:mg "all" = none) (bw:mg "len" = none) (au:mg "isinstance" = none) (dE:mg "list" = none) (bX:mg "range" = none) (dF:Def P w K mg base "is_opinion" 3 1 aS):b5 P w K mg base CX0 4 f fd ["many", "stays"] (spF K cq 2):=by
  refine cI F nF fun cdv A outer s H E hr => ?_
  have hu:=d7 hr
  exact (ai (bq (bi qu qF (mv 1) cX (aZ _)) (ar (aO (ej rfl aY (dh (cj (own:=["person"]) (capn:=[]) (caps:=[]) rfl (bG.mk' rfl (by decide +kernel) (by decide +kernel) (by repeat' (first|exact aQ.nil|refine aQ.cons (by first|exact (fun _=>.inl rfl)|exact (fun _=>.inr rfl)|(intro z;cases z;done)) ?_)) bU.nil) (eI rfl bX (mv 0))
      (fun cl C s H ex=>⟨(a6 (i:=0) (show ((["person"] : List Str)++([] : List Str)).Nodup by decide +kernel) rfl (by first|exact .inl rfl|exact .inr rfl)),cK,cX⟩)))))) aK)
    (ai (bq (MW.mt (iH (b8 (bF (dN (t:=.list) rfl au rfl dE (by decide +kernel) (mv 1)))) (d5 (bi (d6 hu) gD (dy rfl bw (dS (mv 1))) (mv 0) (aZ _)) (.inr rfl)))) (ar eG) aK)
    (ai (bq (b8 (bF (qU rfl rfl gH (dh (cj (own:=["stay"]) (capn:=[]) (caps:=[]) rfl (bG.mk' rfl (by decide +kernel) (by decide +kernel) (by repeat' (first|exact aQ.nil|refine aQ.cons (by first|exact (fun _=>.inl rfl)|exact (fun _=>.inr rfl)|(intro z;cases z;done)) ?_)) bU.nil) (g5 (mv 1))
      (fun cl C s H ex=>⟨(a6 (i:=0) (show ((["stay"] : List Str)++([] : List Str)).Nodup by decide +kernel) rfl (by first|exact .inl rfl|exact .inr rfl)),cK,(MB.me (Ck (gC (fW qu qF (mv 0) cX (aZ _))) (j2 (gC (aA dF (hr.mono (by decide)) rfl (af (mv 0) aw) aB)))))⟩)))))) (ar eG) aK)
    (ar (aO (ej rfl aY (dS (mv 1))))))))
theorem ke:a4 ["many", "ties", "bars", "stays", "near", "rows"] ["many", "ties", "bars", "stays"] (ak fN):=⟨rfl,rfl,rfl,by decide +kernel,rfl,by decide +kernel,by decide +kernel⟩
theorem x9 (F:Fun K "web_of" "web_of" fN f fd) (aY:mg "tuple" = none) (mG:mg "sorted" = none) {fj:Tok} (fm:mg "MOST_PEOPLE" = some (.int 30 fj)) (ge:Def P w K mg base "stays_told" 4 2 cq) (ic:Def P w K mg base "bars_told" 2 2 cJ) (gf:Def P w K mg base "neighbours" 4 2 cm) (bI:Def P w K mg base "is_between" 2 3 aR):b5 P w K mg base CX0 5 f fd ["many", "ties", "bars", "stays"] (spF K fL 4):=by
  refine cI F ke fun cdv A outer s H E hr => ?_
  have hu:=d7 hr
  exact (ai (bq (b8 (bF (aA bI (hr.mono (by decide)) rfl (af (mv 0) (af aj (af (tP rfl fm) aw))) aB))) (ar eG) aK)
    (ai (aM (i:=4) ke.nd rfl (by first|exact .inl rfl|exact .inr rfl) (aA gf (hr.mono (by decide)) rfl (af (mv 0) (af (mv 1) aw)) aB))
    (ai (aM (i:=5) ke.nd rfl (by first|exact .inl rfl|exact .inr rfl) (ej rfl aY (dh (cj (own:=["row"]) (capn:=[]) (caps:=[]) rfl (bG.mk' rfl (by decide +kernel) (by decide +kernel) (by repeat' (first|exact aQ.nil|refine aQ.cons (by first|exact (fun _=>.inl rfl)|exact (fun _=>.inr rfl)|(intro z;cases z;done)) ?_)) bU.nil) (g5 (mv 4))
      (fun cl C s H ex=>⟨(a6 (i:=0) (show ((["row"] : List Str)++([] : List Str)).Nodup by decide +kernel) rfl (by first|exact .inl rfl|exact .inr rfl)),cK,(ej rfl aY (dh (zR rfl rfl mG (mv 0))))⟩)))))
    (ar (aO (eD (af (mv 5) (af (aA ic (hr.mono (by decide)) rfl (af (mv 4) (af (mv 2) aw)) aB) (af (aA ge (hr.mono (by decide)) rfl (af (mv 0) (af (mv 3) aw)) aB) aw)))))))))
theorem vS:a4 ["web"] ["web"] (ak et):=⟨rfl,rfl,rfl,by decide +kernel,rfl,by decide +kernel,by decide +kernel⟩
theorem vT (F:Fun K "many_of" "many_of" et f fd) (bw:mg "len" = none):b5 P w K mg base CX0 1 f fd ["web"] (spF K dm 1):=by
  refine cI F vS fun cdv A outer s H E hr => ?_
  have hu:=d7 hr
  exact (ar (aO (dy rfl bw (dS (bK (mv 0) aj (fun _ _=>rfl))))))
theorem vU:a4 ["web", "person"] ["web", "person"] (ak eu):=⟨rfl,rfl,rfl,by decide +kernel,rfl,by decide +kernel,by decide +kernel⟩
theorem vV (F:Fun K "stay_of" "stay_of" eu f fd):b5 P w K mg base CX0 1 f fd ["web", "person"] (spF K fK 2):=by
  refine cI F vU fun cdv A outer s H E hr => ?_
  have hu:=d7 hr
  exact (ar (aO (bK (bK (mv 0) aj (fun _ _=>rfl)) (mv 1) (fun _ _=>rfl))))
theorem lC:a4 ["web", "thing", "person", "opinion", "stay"] ["web", "thing"] (ak kb):=⟨rfl,rfl,rfl,by decide +kernel,rfl,by decide +kernel,by decide +kernel⟩
theorem BG (F:Fun K "fits" "fits" kb f fd) (ie:mg "enumerate" = none) (bw:mg "len" = none) (au:mg "isinstance" = none) (aY:mg "tuple" = none) (kg:Def P w K mg base "stay_of" 1 2 fK) (dF:Def P w K mg base "is_opinion" 3 1 aS) (kh:Def P w K mg base "many_of" 1 1 dm):b5 P w K mg base CX0 4 f fd ["web", "thing"] (spF K dI 2):=by
  refine cI F lC fun cdv A outer s H E hr => ?_
  have hu:=d7 hr
  exact (ai (bq (MW.mt (iH (b8 (bF (dN (t:=.tuple) rfl au rfl aY (by decide +kernel) (mv 1)))) (d5 (bi (d6 hu) gD (dy rfl bw (dS (mv 1))) (aA kh (hr.mono (by decide)) rfl (af (mv 0) aw) aB) (aZ _)) (.inr rfl)))) (ar (aO gY)) aK)
    (ai (j3 PassesOwn.never rfl (Bk rfl ie (mv 1)) (zw rfl (eF (a6 (i:=2) lC.nd rfl (by first|exact .inl rfl|exact .inr rfl)) (eF (a6 (i:=3) lC.nd rfl (by first|exact .inl rfl|exact .inr rfl)) wY))) (ai (bq (b8 (bF (aA dF (hr.mono (by decide)) rfl (af (mv 3) aw) aB))) (ar (aO gY)) aK)
    (ai (aM (i:=4) lC.nd rfl (by first|exact .inl rfl|exact .inr rfl) (aA kg (hr.mono (by decide)) rfl (af (mv 0) (af (mv 2) aw)) aB))
    (ar (bq (MW.mt (zr (bi qv jZ (mv 4) cX (aZ _)) (d5 (bi (d6 hu) gD (mv 3) (mv 4) (aZ _)) (.inl rfl)))) (ar (aO gY)) aK)))))
    (ar (aO gY))))
theorem hZ:a4 ["web", "thing"] ["web", "thing"] (ak b0):=⟨rfl,rfl,rfl,by decide +kernel,rfl,by decide +kernel,by decide +kernel⟩
theorem mm (F:Fun K "check_stand" "check_stand" b0 f fd) (mH:Def P w K mg base "fits" 4 2 dI):b5 P w K mg base CX0 5 f fd ["web", "thing"] (spF K c5 2):=by
  refine cI F hZ fun cdv A outer s H E hr => ?_
  have hu:=d7 hr
  exact (ar (bq (b8 (bF (aA mH (hr.mono (by decide)) rfl (af (mv 0) (af (mv 1) aw)) aB))) (ar eG) aK))
theorem nH:a4 ["stand"] ["stand"] (ak cQ):=⟨rfl,rfl,rfl,by decide +kernel,rfl,by decide +kernel,by decide +kernel⟩
theorem nI (F:Fun K "show_stand" "show_stand" cQ f fd) (jA:mg "str" = none):b5 P w K mg base CX0 1 f fd ["stand"] (spF K cL 1):=by
  refine cI F nH fun cdv A outer s H E hr => ?_
  have hu:=d7 hr
  exact (ar (aO (xh rfl (dh (cj (own:=["opinion"]) (capn:=[]) (caps:=[]) rfl (bG.mk' rfl (by decide +kernel) (by decide +kernel) (by repeat' (first|exact aQ.nil|refine aQ.cons (by first|exact (fun _=>.inl rfl)|exact (fun _=>.inr rfl)|(intro z;cases z;done)) ?_)) bU.nil) (g5 (mv 0))
      (fun cl C s H ex=>⟨(a6 (i:=0) (show ((["opinion"] : List Str)++([] : List Str)).Nodup by decide +kernel) rfl (by first|exact .inl rfl|exact .inr rfl)),cK,(By rfl jA (mv 0))⟩))))))
theorem dP:a4 ["web", "text", "stand"] ["web", "text"] (ak cu):=⟨rfl,rfl,rfl,by decide +kernel,rfl,by decide +kernel,by decide +kernel⟩
theorem nJ (F:Fun K "read_stand" "read_stand" cu f fd) (aY:mg "tuple" = none) (dG:mg "int" = none) (gH:mg "all" = none) (au:mg "isinstance" = none) (jA:mg "str" = none) (fq:Def P w K mg base "check_stand" 5 2 c5):b5 P w K mg base CX0 6 f fd ["web", "text"] (spF K cr 2):=by
  refine cI F dP fun cdv A outer s H E hr => ?_
  have hu:=d7 hr
  exact (ai (bq (MW.mt (iH (b8 (bF (dN (t:=.str) rfl au rfl jA (by decide +kernel) (mv 1)))) (d5 (b8 (bF (qU rfl rfl gH (dh (cj (own:=["sign"]) (capn:=[]) (caps:=[]) rfl (bG.mk' rfl (by decide +kernel) (by decide +kernel) (by repeat' (first|exact aQ.nil|refine aQ.cons (by first|exact (fun _=>.inl rfl)|exact (fun _=>.inr rfl)|(intro z;cases z;done)) ?_)) bU.nil) (j7 (mv 1))
      (fun cl C s H ex=>⟨(a6 (i:=0) (show ((["sign"] : List Str)++([] : List Str)).Nodup by decide +kernel) rfl (by first|exact .inl rfl|exact .inr rfl)),cK,(fW pP Cm (mv 0) (eD (af (cH [48] rfl) (af (cH [49] rfl) aw))) rfl)⟩)))))) (.inr rfl)))) (ar eG) aK)
    (ai (aM (i:=2) dP.nd rfl (by first|exact .inl rfl|exact .inr rfl) (ej rfl aY (dh (cj (own:=["sign"]) (capn:=[]) (caps:=[]) rfl (bG.mk' rfl (by decide +kernel) (by decide +kernel) (by repeat' (first|exact aQ.nil|refine aQ.cons (by first|exact (fun _=>.inl rfl)|exact (fun _=>.inr rfl)|(intro z;cases z;done)) ?_)) bU.nil) (j7 (mv 1))
      (fun cl C s H ex=>⟨(a6 (i:=0) (show ((["sign"] : List Str)++([] : List Str)).Nodup by decide +kernel) rfl (by first|exact .inl rfl|exact .inr rfl)),cK,(ly rfl dG (mv 0))⟩)))))
    (ai (iw (aA fq (hr.mono (by decide)) rfl (af (mv 0) (af (mv 2) aw)) aB))
    (ar (aO (mv 2))))))
theorem c8:a4 ["_law_script", "_law_k", "_law_cell", "_law_mixed"] ["_law_script", "_law_k"] (ak cR):=⟨rfl,rfl,rfl,by decide +kernel,rfl,by decide +kernel,by decide +kernel⟩
theorem nK (F:Fun K "_law_state" "_law_state" cR f fd) (bw:mg "len" = none):b5 P w K mg base CX0 1 f fd ["_law_script", "_law_k"] (spF K bj 2):=by
  refine cI F c8 fun cdv A outer s H E hr => ?_
  have hu:=d7 hr
  exact (ai (aM (i:=2) c8.nd rfl (by first|exact .inl rfl|exact .inr rfl) aj)
    (ai (bq (bi Ep xK (mv 1) (dy rfl bw (dS (mv 0))) (aZ _)) (ar (aM (i:=2) c8.nd rfl (by first|exact .inl rfl|exact .inr rfl) (bK (mv 0) (mv 1) (fun _ _=>rfl)))) aK)
    (ai (aM (i:=3) c8.nd rfl (by first|exact .inl rfl|exact .inr rfl) (MB.me (Ck (gC (fW (dH hu) fF (dy rfl bw (dS (mv 0))) aj (aZ _))) (j2 (gC (fW (dH hu) fF (a8 dX dZ (bK (mv 0) aj (fun _ _=>rfl)) aj) aj (aZ _)))))))
    (ai (bq (bF (mv 3)) (ar (aM (i:=2) c8.nd rfl (by first|exact .inl rfl|exact .inr rfl) (a8 bH ck (a8 dX dZ (mv 2) aj) (a8 gP gZ aj (mv 1))))) aK)
    (ar (aO (eE (cY (af (mv 2) (af aj (af (mv 3) aw))) (fun _ _ _ _ z=>by rw [(aD (aD (aD bC))) _ _ _ _ z];decide)))))))))
theorem dQ:a4 ["_law_state_here", "_law_most", "_law_number", "_law_found"] ["_law_state_here", "_law_most"] (ak cS):=⟨rfl,rfl,rfl,by decide +kernel,rfl,by decide +kernel,by decide +kernel⟩
theorem nM (F:Fun K "_law_digit" "_law_digit" cS f fd):b5 P w K mg base CX0 1 f fd ["_law_state_here", "_law_most"] (spF K ay 2):=by
  refine cI F dQ fun cdv A outer s H E hr => ?_
  have hu:=d7 hr
  exact (ai (qJ (a8 bH ck (bK (mv 0) aj (fun _ _=>rfl)) aj) (mv 0) aj)
    (ai (bq (bF (bK (mv 0) aj (fun _ _=>rfl))) (ai (aM (i:=2) dQ.nd rfl (by first|exact .inl rfl|exact .inr rfl) (a8 dX dZ (a8 gP gZ (a8 bH ck (a8 bH ck (bK (mv 0) aj (fun _ _=>rfl)) (a8 gP gZ aj (bK (mv 0) aj (fun _ _=>rfl)))) aj) aj) aj))
    (ai (aM (i:=2) dQ.nd rfl (by first|exact .inl rfl|exact .inr rfl) (a8 dX dZ (a8 gP gZ (mv 2) (a8 bH ck (a8 dX dZ (mv 2) aj) (bK (mv 0) aj (fun _ _=>rfl)))) aj))
    (ar (aO (a8 dX dZ (a8 dX dZ (a8 bH ck (a8 gP gZ (mv 2) (mv 2)) (a8 gP gZ aj (mv 2))) aj) (mv 1)))))) aK)
    (ai (aM (i:=3) dQ.nd rfl (by first|exact .inl rfl|exact .inr rfl) (a8 dX dZ (bK (mv 0) aj (fun _ _=>rfl)) (mv 1)))
    (ai (qJ (a8 zp Da (bK (mv 0) aj (fun _ _=>rfl)) (mv 1)) (mv 0) aj)
    (ar (aO (mv 3)))))))
theorem ui:a4 ["_law_kind", "_law_number", "_law_total"] ["_law_kind", "_law_number", "_law_total"] (ak dL):=⟨rfl,rfl,rfl,by decide +kernel,rfl,by decide +kernel,by decide +kernel⟩
theorem uj (F:Fun K "_law_bar" "_law_bar" dL f fd):b5 P w K mg base CX0 1 f fd ["_law_kind", "_law_number", "_law_total"] (spF K c9 3):=by
  refine cI F ui fun cdv A outer s H E hr => ?_
  have hu:=d7 hr
  exact (ai (bq (bi (dH hu) fF (mv 0) aj (aZ _)) (ar (aO (mv 2))) aK)
    (ai (bq (bi (dH hu) fF (mv 0) aj (aZ _)) (ar (aO (a8 qt A9 (mv 1) aj))) aK)
    (ai (bq (bi (dH hu) fF (mv 0) aj (aZ _)) (ar (aO (a8 qt A9 (a8 bH ck (mv 2) (a8 dX dZ (mv 1) aj)) aj))) aK)
    (ai (bq (bi (dH hu) fF (mv 0) aj (aZ _)) (ar (aO (a8 gP gZ aj (a8 dX dZ (mv 1) (a8 bH ck (mv 2) aj))))) aK)
    (ar (aO (a8 gP gZ (a8 bH ck (a8 y7 zq aj aj) (mv 1)) (je (cY (af aj (af Bn aw)) (fun _ _ _ _ z=>by rw [(aD (aD bC)) _ _ _ _ z];decide)) (a8 dX dZ (mv 1) aj) (fun _ _=>rfl)))))))))
theorem aU:a4 ["_law_script", "_law_head", "_law_many", "_law_thin", "_law_ties", "_law_bars", "_law_stays", "_law_totals", "_law_one", "_law_state_here", "_law_other", "_law_heavy"] ["_law_script"] (ak cz):=⟨rfl,rfl,rfl,by decide +kernel,rfl,by decide +kernel,by decide +kernel⟩
theorem mn (F:Fun K "_law_people" "_law_people" cz f fd) (bX:mg "range" = none) (bw:mg "len" = none) (i8:Def P w K mg base "_law_bar" 1 3 c9) (aH:Def P w K mg base "_law_digit" 1 2 ay) (bY:Def P w K mg base "_law_state" 1 2 bj):b5 P w K mg base CX0 2 f fd ["_law_script"] (spF K dk 1):=by
  refine cI F aU fun cdv A outer s H E hr => ?_
  have hu:=d7 hr
  exact (ai (aM (i:=1) aU.nd rfl (by first|exact .inl rfl|exact .inr rfl) (aA bY (hr.mono (by decide)) rfl (af (mv 0) (af aj aw)) aB))
    (ai (iw (aA aH (hr.mono (by decide)) rfl (af (mv 1) (af aj aw)) aB))
    (ai (aM (i:=2) aU.nd rfl (by first|exact .inl rfl|exact .inr rfl) (a8 bH ck aj (aA aH (hr.mono (by decide)) rfl (af (mv 1) (af (je (cY (af aj (af aj (af aj aw))) (fun _ _ _ _ z=>by rw [(aD (aD (aD bC))) _ _ _ _ z];decide)) (aA aH (hr.mono (by decide)) rfl (af (mv 1) (af aj aw)) aB) (fun _ _=>rfl)) aw)) aB)))
    (ai (aM (i:=3) aU.nd rfl (by first|exact .inl rfl|exact .inr rfl) (je (cY (af aj (af aj (af aj aw))) (fun _ _ _ _ z=>by rw [(aD (aD (aD bC))) _ _ _ _ z];decide)) (aA aH (hr.mono (by decide)) rfl (af (mv 1) (af aj aw)) aB) (fun _ _=>rfl)))
    (ai (aM (i:=4) aU.nd rfl (by first|exact .inl rfl|exact .inr rfl) (eE (cY aw (fun _ _ _ _ z=>by rw [bC _ _ _ _ z];decide))))
    (ai (aM (i:=5) aU.nd rfl (by first|exact .inl rfl|exact .inr rfl) (eE (cY aw (fun _ _ _ _ z=>by rw [bC _ _ _ _ z];decide))))
    (ai (aM (i:=6) aU.nd rfl (by first|exact .inl rfl|exact .inr rfl) (eE (cY aw (fun _ _ _ _ z=>by rw [bC _ _ _ _ z];decide))))
    (ai (aM (i:=7) aU.nd rfl (by first|exact .inl rfl|exact .inr rfl) (eE (Dz (cY (af aj aw) (fun _ _ _ _ z=>by rw [(aD bC) _ _ _ _ z];decide)) (mv 2))))
    (ai (j3 PassesOwn.never rfl (eI rfl bX (mv 2)) (a6 (i:=8) aU.nd rfl (by first|exact .inl rfl|exact .inr rfl)) (ai (aM (i:=9) aU.nd rfl (by first|exact .inl rfl|exact .inr rfl) (aA bY (hr.mono (by decide)) rfl (af (mv 0) (af (a8 bH ck aj (mv 8)) aw)) aB))
    (ai (iw (vD (mv 6) (je (cY (af cX (af cX (af cX (af aj (af aj aw))))) (fun _ _ _ _ z=>by rw [(aD (aD (aD (aD (aD bC))))) _ _ _ _ z];decide)) (aA aH (hr.mono (by decide)) rfl (af (mv 9) (af aj aw)) aB) (fun _ _=>rfl))))
    (ai (iw (vD (mv 5) (eD (af (aA aH (hr.mono (by decide)) rfl (af (mv 9) (af aj aw)) aB) (af (aA aH (hr.mono (by decide)) rfl (af (mv 9) (af aj aw)) aB) aw)))))
    (ar (j3 PassesOwn.never rfl (eI rfl bX (mv 8)) (a6 (i:=10) aU.nd rfl (by first|exact .inl rfl|exact .inr rfl)) (ar (bq (bi (dH hu) fF (aA aH (hr.mono (by decide)) rfl (af (mv 9) (af (mv 3) aw)) aB) aj (aZ _)) (ai (aM (i:=11) aU.nd rfl (by first|exact .inl rfl|exact .inr rfl) (a8 bH ck aj (aA aH (hr.mono (by decide)) rfl (af (mv 9) (af (je (cY (af aj (af aj aw)) (fun _ _ _ _ z=>by rw [(aD (aD bC)) _ _ _ _ z];decide)) (aA aH (hr.mono (by decide)) rfl (af (mv 9) (af aj aw)) aB) (fun _ _=>rfl)) aw)) aB)))
    (ai (iw (DA (mv 4) (aA aH (hr.mono (by decide)) rfl (af (mv 9) (af (a8 bH ck (dy rfl bw (dS (mv 4))) aj) aw)) aB) (je (cY (af (eD (af (mv 8) (af (mv 10) (af (mv 11) aw)))) (af (eD (af (mv 10) (af (mv 8) (af (mv 11) aw)))) aw)) (fun _ _ _ _ z=>by rw [(aD (aD bC)) _ _ _ _ z];decide)) (a8 dX dZ (mv 11) aj) (fun _ _=>rfl))))
    (ai (qJ (a8 bH ck (bK (mv 7) (mv 8) (fun _ _=>rfl)) (mv 11)) (mv 7) (mv 8))
    (ar (qJ (a8 bH ck (bK (mv 7) (mv 10) (fun _ _=>rfl)) (mv 11)) (mv 7) (mv 10)))))) aK))))))))
    (ai (aM (i:=5) aU.nd rfl (by first|exact .inl rfl|exact .inr rfl) (eE (cj (own:=["_law_one"]) (capn:=["_law_totals", "_law_bars"]) (caps:=[7,5]) rfl (bG.mk' rfl (by decide +kernel) (by decide +kernel) (by repeat' (first|exact aQ.nil|refine aQ.cons (by first|exact (fun _=>.inl rfl)|exact (fun _=>.inr rfl)|(intro z;cases z;done)) ?_)) (bU.cons rfl rfl (bU.cons rfl rfl bU.nil))) (eI rfl bX (mv 2))
      (fun cl C s H ex=>⟨(a6 (i:=0) (show ((["_law_one"] : List Str)++(["_law_totals", "_law_bars"] : List Str)).Nodup by decide +kernel) rfl (by first|exact .inl rfl|exact .inr rfl)),cK,(aA i8 (hr.mono (by decide)) rfl (af (bK (bK (mv 2) (mv 0) (fun _ _=>rfl)) aj (fun _ _=>rfl)) (af (bK (bK (mv 2) (mv 0) (fun _ _=>rfl)) aj (fun _ _=>rfl)) (af (bK (mv 1) (mv 0) (fun _ _=>rfl)) aw))) aB)⟩))))
    (ar (aO (eD (af (mv 2) (af (mv 4) (af (mv 5) (af (mv 6) (af (mv 7) aw))))))))))))))))))
theorem cA:a4 ["_law_script", "_law_k", "_law_stays", "_law_state_here", "_law_found", "_law_stay", "_law_held"] ["_law_script", "_law_k", "_law_stays"] (ak cT):=⟨rfl,rfl,rfl,by decide +kernel,rfl,by decide +kernel,by decide +kernel⟩
theorem nN (F:Fun K "_law_stand" "_law_stand" cT f fd) (aY:mg "tuple" = none) (aH:Def P w K mg base "_law_digit" 1 2 ay) (bY:Def P w K mg base "_law_state" 1 2 bj):b5 P w K mg base CX0 2 f fd ["_law_script", "_law_k", "_law_stays"] (spF K eo 3):=by
  refine cI F cA fun cdv A outer s H E hr => ?_
  have hu:=d7 hr
  exact (ai (aM (i:=3) cA.nd rfl (by first|exact .inl rfl|exact .inr rfl) (aA bY (hr.mono (by decide)) rfl (af (mv 0) (af (mv 1) aw)) aB))
    (ai (aM (i:=4) cA.nd rfl (by first|exact .inl rfl|exact .inr rfl) (eE (cY aw (fun _ _ _ _ z=>by rw [bC _ _ _ _ z];decide))))
    (ai (j3 PassesOwn.never rfl (g5 (mv 2)) (a6 (i:=5) cA.nd rfl (by first|exact .inl rfl|exact .inr rfl)) (ai (aM (i:=6) cA.nd rfl (by first|exact .inl rfl|exact .inr rfl) (aA aH (hr.mono (by decide)) rfl (af (mv 3) (af aj aw)) aB))
    (ai (bq (bi qv jZ (mv 5) cX (aZ _)) (ar (aM (i:=6) cA.nd rfl (by first|exact .inl rfl|exact .inr rfl) (mv 5))) aK)
    (ar (iw (vD (mv 4) (mv 6)))))))
    (ar (aO (ej rfl aY (dS (mv 4))))))))
theorem jw:a4 ["_law_text", "_law_stays", "_law_found"] ["_law_text", "_law_stays"] (ak dr):=⟨rfl,rfl,rfl,by decide +kernel,rfl,by decide +kernel,by decide +kernel⟩
theorem rl (F:Fun K "_law_read" "_law_read" dr f fd) (bw:mg "len" = none) (bX:mg "range" = none) (aY:mg "tuple" = none) (dG:mg "int" = none):b5 P w K mg base CX0 1 f fd ["_law_text", "_law_stays"] (spF K dB 2):=by
  refine cI F jw fun cdv A outer s H E hr => ?_
  have hu:=d7 hr
  exact (ai (bq (MW.mt (iH (bi (d6 hu) gD (xi rfl bw (mv 0)) (dy rfl bw (dS (mv 1))) (aZ _)) (d5 (bi y8 xK (dy rfl bw (dh (cj (own:=["_law_sign"]) (capn:=[]) (caps:=[]) rfl (bG.mk' rfl (by decide +kernel) (by decide +kernel) (by repeat' (first|exact aQ.nil|refine aQ.cons (by first|exact (fun _=>.inl rfl)|exact (fun _=>.inr rfl)|(intro z;cases z;done)) ?_)) bU.nil) (j7 (mv 0))
      (fun cl C s H ex=>⟨(a6 (i:=0) (show ((["_law_sign"] : List Str)++([] : List Str)).Nodup by decide +kernel) rfl (by first|exact .inl rfl|exact .inr rfl)),(qM (bi qw xW (mv 0) (cH [48,49] rfl) rfl)),(mv 0)⟩)))) aj (aZ _)) (.inr rfl)))) (ar (aO cX)) aK)
    (ai (aM (i:=2) jw.nd rfl (by first|exact .inl rfl|exact .inr rfl) (ej rfl aY (dh (cj (own:=["_law_sign"]) (capn:=[]) (caps:=[]) rfl (bG.mk' rfl (by decide +kernel) (by decide +kernel) (by repeat' (first|exact aQ.nil|refine aQ.cons (by first|exact (fun _=>.inl rfl)|exact (fun _=>.inr rfl)|(intro z;cases z;done)) ?_)) bU.nil) (j7 (mv 0))
      (fun cl C s H ex=>⟨(a6 (i:=0) (show ((["_law_sign"] : List Str)++([] : List Str)).Nodup by decide +kernel) rfl (by first|exact .inl rfl|exact .inr rfl)),cK,(ly rfl dG (mv 0))⟩)))))
    (ai (bq (bi y8 xK (dy rfl bw (dh (cj (own:=["_law_k"]) (capn:=["_law_stays", "_law_found"]) (caps:=[1,2]) rfl (bG.mk' rfl (by decide +kernel) (by decide +kernel) (by repeat' (first|exact aQ.nil|refine aQ.cons (by first|exact (fun _=>.inl rfl)|exact (fun _=>.inr rfl)|(intro z;cases z;done)) ?_)) (bU.cons rfl rfl (bU.cons rfl rfl bU.nil))) (eI rfl bX (dy rfl bw (dS (mv 1))))
      (fun cl C s H ex=>⟨(a6 (i:=0) (show ((["_law_k"] : List Str)++(["_law_stays", "_law_found"] : List Str)).Nodup by decide +kernel) rfl (by first|exact .inl rfl|exact .inr rfl)),(qM (MW.mt (zr (bi qv jZ (bK (mv 1) (mv 0) (fun _ _=>rfl)) cX (aZ _)) (d5 (bi (d6 hu) gD (bK (mv 1) (mv 0) (fun _ _=>rfl)) (bK (mv 2) (mv 0) (fun _ _=>rfl)) (aZ _)) (.inl rfl))))),(mv 0)⟩)))) aj (aZ _)) (ar (aO cX)) aK)
    (ar (aO (mv 2))))))
theorem cw:a4 ["_law_web", "_law_thing", "_law_found", "_law_word", "error"] ["_law_web", "_law_thing"] (ak du):=⟨rfl,rfl,rfl,by decide +kernel,rfl,by decide +kernel,by decide +kernel⟩
theorem kT (F0:Fun K "check_stand" "check_stand" b0 f fd) (mH:Def P w K mg base "fits" 4 2 dI) {aP:Addr} (ev:PyProof.Rows.OwnCls (Str.ofString "NoStand") aP EN "ValueError.__new__" mg base):b5 P w K mg base (CX1 P w) 5 f fd ["web", "thing"] (spY K mg ce 2):=by
  refine z6 F0 hZ fun cdv A outer s H E hr => ?_
  have hu:=d7 hr
  exact (lw (Cq (b8 (bF (aA mH (hr.mono (by decide)) rfl (af (mv 0) (af (mv 1) aw)) aB))) (lw (t8 (n := "NoStand") ev F.excBase_ValueError rfl rfl (fun e s' h=>vJ h))) xf))
theorem mq (F0:Fun K "read_stand" "read_stand" cu f fd) (aY:mg "tuple" = none) (dG:mg "int" = none) (gH:mg "all" = none) (au:mg "isinstance" = none) (jA:mg "str" = none) (nQ:nz P w K mg base "check_stand" 5 2 ce) {aP:Addr} (ev:PyProof.Rows.OwnCls (Str.ofString "NoStand") aP EN "ValueError.__new__" mg base):b5 P w K mg base (CX1 P w) 6 f fd ["web", "text"] (spY K mg aJ 2):=by
  refine z6 F0 dP fun cdv A outer s H E hr => ?_
  have hu:=d7 hr
  exact (mf (Cq (MW.mt (iH (b8 (bF (dN (t:=.str) rfl au rfl jA (by decide +kernel) (mv 1)))) (d5 (b8 (bF (qU rfl rfl gH (dh (cj (own:=["sign"]) (capn:=[]) (caps:=[]) rfl (bG.mk' rfl (by decide +kernel) (by decide +kernel) (by repeat' (first|exact aQ.nil|refine aQ.cons (by first|exact (fun _=>.inl rfl)|exact (fun _=>.inr rfl)|(intro z;cases z;done)) ?_)) bU.nil) (j7 (mv 1))
      (fun cl C s H ex=>⟨(a6 (i:=0) (show ((["sign"] : List Str)++([] : List Str)).Nodup by decide +kernel) rfl (by first|exact .inl rfl|exact .inr rfl)),cK,(fW pP Cm (mv 0) (eD (af (cH [48] rfl) (af (cH [49] rfl) aw))) rfl)⟩)))))) (.inr rfl)))) (lw (t8 (n := "NoStand") ev F.excBase_ValueError rfl rfl (fun e s' h=>vJ h))) xf)
    (mf (Cp (aM (i:=2) dP.nd rfl (by first|exact .inl rfl|exact .inr rfl) (ej rfl aY (dh (cj (own:=["sign"]) (capn:=[]) (caps:=[]) rfl (bG.mk' rfl (by decide +kernel) (by decide +kernel) (by repeat' (first|exact aQ.nil|refine aQ.cons (by first|exact (fun _=>.inl rfl)|exact (fun _=>.inr rfl)|(intro z;cases z;done)) ?_)) bU.nil) (j7 (mv 1))
      (fun cl C s H ex=>⟨(a6 (i:=0) (show ((["sign"] : List Str)++([] : List Str)).Nodup by decide +kernel) rfl (by first|exact .inl rfl|exact .inr rfl)),cK,(ly rfl dG (mv 0))⟩))))))
    (mf (Bt (Bs nQ (hr.mono (by decide)) rfl (EQ (af (mv 0) (af (mv 2) aw))) (fun v s' h=>vJ h.xp) xc))
    (lw (Cp (aO (mv 2)))))))
theorem rn (F:Fun K "_law_said" "_law_said" du f fd) (au:mg "isinstance" = none) (gg:mg "ValueError" = none) {br:Addr} (ig:mg "MostError" = some (.ref br)) {aP:Addr} (fP:mg "NoStand" = some (.ref aP)) {ez:Addr} (ki:mg "NoOrder" = some (.ref ez)) {dM:Addr} (i9:mg "NoPeople" = some (.ref dM)) {fQ:Addr} (mI:mg "NoRest" = some (.ref fQ)) {iB:Addr} (rP:mg "NoRow" = some (.ref iB)) {fR:Addr} (mJ:mg "NoText" = some (.ref fR)) {iC:Addr} (rR:mg "NoWeb" = some (.ref iC)) {eA:Addr} (kj:mg "TooLong" = some (.ref eA)) {eB:Addr} (km:mg "TooMuch" = some (.ref eB)) (h_be:PySem.W.subIn K (.ref br) (.type "BaseException")=some true) (h_is:(PySem.W.clsIn K br).isSome=true) (h_ty:PySem.W.typeIn K (.ref br)=some (.type "type")) (h_cs:xU K mg br ["NoStand"]) (gh:mh K (fun C b=>PySem.W.kitOne K (.ref C) (kS (.ty "ValueError"))=some b) [("NoStand",true)]) (kn:mh K (fun C b=>PySem.W.kitOne K (.ref C) (kS (.ref aP))=some b) [("NoStand",true)]) (t_T0:mh K (fun C b=>PySem.W.kitAny K (.ref C) ([.ref ez,.ref dM,.ref fQ,.ref iB,.ref fR,.ref iC,.ref eA,.ref eB].map kS)=some b) [("NoStand",false)]) (rS:nz P w K mg base "read_stand" 6 2 aJ):b5 P w K mg base CX0 7 f fd ["_law_web", "_law_thing"] (spF K c6 2):=by
  refine cI F cw fun cdv A outer s H E hr => ?_
  have hu:=d7 hr
  exact (ai (aM (i:=2) cw.nd rfl (by first|exact .inl rfl|exact .inr rfl) cX)
    (ai (aM (i:=3) cw.nd rfl (by first|exact .inl rfl|exact .inr rfl) (cH [114,101,97,100] rfl))
    (ai (BA (i:=2) (j:=4) (cs:=["NoStand"]) rfl rS (hr.mono (by decide)) rfl (fun q R=>(af (mv 0) (af (mv 1) aw))) xc (fun q a=>(ai (aM (i:=3) cw.nd rfl (by first|exact .inl rfl|exact .inr rfl) (cH [115,116,97,110,100] rfl))
    (ai (bq (bF (Bv (tb:=[("NoStand",false)]) (hV rfl ki (hV rfl i9 (hV rfl mI (hV rfl rP (hV rfl mJ (hV rfl rR (hV rfl kj (hV rfl km Br)))))))) rfl (by show 8≤sizeLine;decide) rfl au t_T0 (mv 4))) (ar (aM (i:=3) cw.nd rfl (by first|exact .inl rfl|exact .inr rfl) (cH [111,116,104,101,114] rfl))) aK)
    (ar (bq (MW.mt (iH (b8 (bF (xg (tb:=[("NoStand",true)]) (v:=.ref aP) rfl rfl au (qo (v:=.ref aP) rfl fP rfl (by decide)) kn (mv 4)))) (d5 (b8 (bF (xg (tb:=[("NoStand",true)]) (v:=.ty "ValueError") rfl rfl au (wL (v:=.ty "ValueError") (u:=.type "ValueError") rfl gg (by decide +kernel) rfl) gh (mv 4)))) (.inr rfl)))) (ar (aM (i:=3) cw.nd rfl (by first|exact .inl rfl|exact .inr rfl) (cH [111,116,104,101,114] rfl))) aK))))) rfl rfl ig rfl h_be h_is h_ty cw.nd rfl rfl rfl rfl h_cs)
    (ar (aO (eD (af (mv 2) (af (mv 3) aw))))))))
theorem de:a4 ["_law_text", "_law_state_here", "_law_at", "_law_way", "_law_sign"] ["_law_text", "_law_state_here"] (ak cf):=⟨rfl,rfl,rfl,by decide +kernel,rfl,by decide +kernel,by decide +kernel⟩
theorem kU (F:Fun K "_law_spoiled" "_law_spoiled" cf f fd) (dG:mg "int" = none) (bw:mg "len" = none) (aH:Def P w K mg base "_law_digit" 1 2 ay):b5 P w K mg base CX0 2 f fd ["_law_text", "_law_state_here"] (spF K dn 2):=by
  refine cI F de fun cdv A outer s H E hr => ?_
  have hu:=d7 hr
  exact (ai (aM (i:=2) de.nd rfl (by first|exact .inl rfl|exact .inr rfl) (aA aH (hr.mono (by decide)) rfl (af (mv 1) (af (xi rfl bw (mv 0)) aw)) aB))
    (ai (aM (i:=3) de.nd rfl (by first|exact .inl rfl|exact .inr rfl) (aA aH (hr.mono (by decide)) rfl (af (mv 1) (af aj aw)) aB))
    (ai (aM (i:=4) de.nd rfl (by first|exact .inl rfl|exact .inr rfl) (vM (cH [48,49,50,51,32,45,120,57] rfl) (aA aH (hr.mono (by decide)) rfl (af (mv 1) (af aj aw)) aB) (fun _ _=>rfl)))
    (ai (bq (bi (dH hu) fF (mv 3) aj (aZ _)) (ar (aO (eV (eV (dl (mv 0) kx (ky (mv 2))) (mv 4)) (dl (mv 0) (ky (mv 2)) kx)))) aK)
    (ai (bq (bi (dH hu) fF (mv 3) aj (aZ _)) (ar (aO (eV (dl (mv 0) kx (ky (mv 2))) (dl (mv 0) (ky (a8 bH ck (mv 2) aj)) kx)))) aK)
    (ai (bq (bi (dH hu) fF (mv 3) aj (aZ _)) (ar (aO (eV (eV (dl (mv 0) kx (ky (mv 2))) (mv 4)) (dl (mv 0) (ky (a8 bH ck (mv 2) aj)) kx)))) aK)
    (ai (bq (bi (dH hu) fF (mv 3) aj (aZ _)) (ar (aO (eV (eV (dl (mv 0) kx (ky (mv 2))) (vM (cH [49,48] rfl) (ly rfl dG (vM (mv 0) (mv 2) (fun _ _=>rfl))) (fun _ _=>rfl))) (dl (mv 0) (ky (a8 bH ck (mv 2) aj)) kx)))) aK)
    (ar (aO (eV (mv 0) (mv 4)))))))))))
theorem dC:a4 ["_law_script", "_law_many", "_law_ties", "_law_bars", "_law_stays", "_law_totals", "_law_web", "_law_stand_here", "_law_text", "_law_k", "_law_state_here", "_law_spoiled_here", "_law_due", "_law_thing"] ["_law_script"] (ak jv):=⟨rfl,rfl,rfl,by decide +kernel,rfl,by decide +kernel,by decide +kernel⟩
theorem DR (F:Fun K "law" "law" jv f fd) (bX:mg "range" = none) (dG:mg "int" = none) (bw:mg "len" = none) (au:mg "isinstance" = none) (kf:mg "bool" = none) (dE:mg "list" = none) (el:Def P w K mg base "read_stand" 6 2 cr) (em:Def P w K mg base "show_stand" 1 1 cL) (dW:Def P w K mg base "_law_said" 7 2 c6) (aH:Def P w K mg base "_law_digit" 1 2 ay) (ij:Def P w K mg base "_law_read" 1 2 dB) (eP:Def P w K mg base "_law_spoiled" 2 2 dn) (bY:Def P w K mg base "_law_state" 1 2 bj) (gi:Def P w K mg base "_law_stand" 2 3 eo) (mK:Def P w K mg base "web_of" 5 4 fL) (fu:Def P w K mg base "_law_people" 2 1 dk):b5 P w K mg base CX0 8 f fd ["_law_script"] (spF K xl 1):=by
  refine cI F dC fun cdv A outer s H E hr => ?_
  have hu:=d7 hr
  exact (ai (Dg (aA fu (hr.mono (by decide)) rfl (af (mv 0) aw) aB) (zw rfl (eF (a6 (i:=1) dC.nd rfl (by first|exact .inl rfl|exact .inr rfl)) (eF (a6 (i:=2) dC.nd rfl (by first|exact .inl rfl|exact .inr rfl)) (eF (a6 (i:=3) dC.nd rfl (by first|exact .inl rfl|exact .inr rfl)) (eF (a6 (i:=4) dC.nd rfl (by first|exact .inl rfl|exact .inr rfl)) (eF (a6 (i:=5) dC.nd rfl (by first|exact .inl rfl|exact .inr rfl)) wY)))))))
    (ai (aM (i:=6) dC.nd rfl (by first|exact .inl rfl|exact .inr rfl) (aA mK (hr.mono (by decide)) rfl (af (mv 1) (af (eE (qO rfl dE (dS (mv 2)))) (af (eE (qO rfl dE (dS (mv 3)))) (af (eE (qO rfl dE (dS (mv 4)))) aw)))) aB))
    (ai (aM (i:=7) dC.nd rfl (by first|exact .inl rfl|exact .inr rfl) (aA gi (hr.mono (by decide)) rfl (af (mv 0) (af aj (af (mv 4) aw))) aB))
    (ai (aM (i:=8) dC.nd rfl (by first|exact .inl rfl|exact .inr rfl) (xh rfl (dh (cj (own:=["_law_held"]) (capn:=[]) (caps:=[]) rfl (bG.mk' rfl (by decide +kernel) (by decide +kernel) (by repeat' (first|exact aQ.nil|refine aQ.cons (by first|exact (fun _=>.inl rfl)|exact (fun _=>.inr rfl)|(intro z;cases z;done)) ?_)) bU.nil) (g5 (mv 7))
      (fun cl C s H ex=>⟨(a6 (i:=0) (show ((["_law_held"] : List Str)++([] : List Str)).Nodup by decide +kernel) rfl (by first|exact .inl rfl|exact .inr rfl)),cK,(je (cY (af (cH [48] rfl) (af (cH [49] rfl) aw)) (fun _ _ _ _ z=>by rw [(aD (aD bC)) _ _ _ _ z];decide)) (mv 0) (fun _ _=>rfl))⟩)))))
    (ai (bq (MW.mt (iH (bi (d6 hu) gD (aA em (hr.mono (by decide)) rfl (af (mv 7) aw) aB) (mv 8) (aZ _)) (d5 (bi (d6 hu) gD (aA dW (hr.mono (by decide)) rfl (af (mv 6) (af (mv 8) aw)) aB) (eD (af (mv 7) (af (cH [114,101,97,100] rfl) aw))) (aZ _)) (.inr rfl)))) (ar (aO gY)) aK)
    (ai (bq (bi y8 xK (dy rfl bw (dh (cj (own:=["_law_held"]) (capn:=[]) (caps:=[]) rfl (bG.mk' rfl (by decide +kernel) (by decide +kernel) (by repeat' (first|exact aQ.nil|refine aQ.cons (by first|exact (fun _=>.inl rfl)|exact (fun _=>.inr rfl)|(intro z;cases z;done)) ?_)) bU.nil) (g5 (aA el (hr.mono (by decide)) rfl (af (mv 6) (af (mv 8) aw)) aB))
      (fun cl C s H ex=>⟨(a6 (i:=0) (show ((["_law_held"] : List Str)++([] : List Str)).Nodup by decide +kernel) rfl (by first|exact .inl rfl|exact .inr rfl)),(qM (bF (dN (t:=.bool) rfl au rfl kf (by decide +kernel) (mv 0)))),(mv 0)⟩)))) aj (aZ _)) (ar (aO gY)) aK)
    (ai (j3 PassesOwn.never rfl (eI rfl bX aj) (a6 (i:=9) dC.nd rfl (by first|exact .inl rfl|exact .inr rfl)) (ai (aM (i:=10) dC.nd rfl (by first|exact .inl rfl|exact .inr rfl) (aA bY (hr.mono (by decide)) rfl (af (mv 0) (af (a8 bH ck aj (mv 9)) aw)) aB))
    (ai (aM (i:=11) dC.nd rfl (by first|exact .inl rfl|exact .inr rfl) (aA eP (hr.mono (by decide)) rfl (af (mv 8) (af (mv 10) aw)) aB))
    (ai (aM (i:=12) dC.nd rfl (by first|exact .inl rfl|exact .inr rfl) (aA ij (hr.mono (by decide)) rfl (af (mv 11) (af (mv 4) aw)) aB))
    (ai (bq (bi (d6 hu) gD (aA dW (hr.mono (by decide)) rfl (af (mv 6) (af (mv 11) aw)) aB) (eD (af (mv 12) (af (je (cY (af (cH [114,101,97,100] rfl) (af (cH [115,116,97,110,100] rfl) aw)) (fun _ _ _ _ z=>by rw [(aD (aD bC)) _ _ _ _ z];decide)) (Bb rfl dG (fW qu qF (mv 12) cX (aZ _))) (fun _ _=>rfl)) aw))) (aZ _)) (ar (aO gY)) aK)
    (ai (aM (i:=13) dC.nd rfl (by first|exact .inl rfl|exact .inr rfl) (je (cY (af cX (af aj (af gY (af (mv 7) (af (eE (cY (af (mv 8) aw) (fun _ _ _ _ z=>by rw [(aD bC) _ _ _ _ z];decide))) (af w6 (af (a8 y7 zq aj aj) aw))))))) (fun _ _ _ _ z=>by rw [(aD (aD (aD (aD (aD (aD (aD bC))))))) _ _ _ _ z];decide)) (aA aH (hr.mono (by decide)) rfl (af (mv 10) (af aj aw)) aB) (fun _ _=>rfl)))
    (ar (bq (bi (d6 hu) gD (aA dW (hr.mono (by decide)) rfl (af (mv 6) (af (mv 13) aw)) aB) (eD (af cX (af (cH [115,116,97,110,100] rfl) aw))) (aZ _)) (ar (aO gY)) aK))))))))
    (ar (aO (MB.me (qG (gC (fW (dH hu) fF (aA em (hr.mono (by decide)) rfl (af (mv 7) aw) aB) (mv 8) (aZ _))) (j2 (gC (fW (dH hu) fF (aA el (hr.mono (by decide)) rfl (af (mv 6) (af (mv 8) aw)) aB) (mv 7) (aZ _)))))))))))))))
end
theorem ia {α : Type}(us:List α)(hl:us.length=1):∃ x0,us=[x0]:=match us,hl with | [x0],_=>⟨x0,rfl⟩
theorem cg {α : Type}(us:List α)(hl:us.length=2):∃ x0 x1,us=[x0,x1]:=match us,hl with | [x0,x1],_=>⟨x0,x1,rfl⟩
theorem mr {α : Type}(us:List α)(hl:us.length=3):∃ x0 x1 x2,us=[x0,x1,x2]:=match us,hl with | [x0,x1,x2],_=>⟨x0,x1,x2,rfl⟩
theorem Ao {α : Type}(us:List α)(hl:us.length=4):∃ x0 x1 x2 x3,us=[x0,x1,x2,x3]:=match us,hl with | [x0,x1,x2,x3],_=>⟨x0,x1,x2,x3,rfl⟩
theorem DS {l:PySem.W.OpenLaw} {w:World} {K:PySem.W.Frag} {h:Heap} {mg:Str→Option Value} {fa ja gj gk mL gl ik gm mM ko kq wf fv gn gp gq gr jb fw gs im io eQ Ay br aP ez dM fQ iB fR iC eA eB:Addr} (X:K.In h) (G:h.Ns mainGlobals mg) (hfa:mg "law" = some (.ref fa))
    {uD uE:Option Addr} {uF:Array (Option Value)} {uG uH uI uJ kH uK:Value}
    (wg:PySem.W.nsIn K mainGlobals "is_whole" = some (some (.ref ja))) (wl:K.lookup ja=some ⟨uG,uD,.func (PySem.W.fnOf "is_whole" "is_whole" (a5 dJ) (aX dJ) (ak dJ) .none uH uI uJ uE kH uK),uF⟩) (eO:PySem.W.codeIn K kH "is_whole" = true) (mO:PySem.W.keepIn K (.ref ja)=true)
    {nR nS:Option Addr} {nT:Array (Option Value)} {nU nV nW nX iL nY:Value}
    (rT:PySem.W.nsIn K mainGlobals "is_between" = some (some (.ref gj))) (rV:K.lookup gj=some ⟨nU,nR,.func (PySem.W.fnOf "is_between" "is_between" (a5 cM) (aX cM) (ak cM) .none nV nW nX nS iL nY),nT⟩) (bI:PySem.W.codeIn K iL "is_between" = true) (jB:PySem.W.keepIn K (.ref gj)=true)
    {nZ n3:Option Addr} {n4:Array (Option Value)} {n5 n6 n8 n9 iM og:Value}
    (rW:PySem.W.nsIn K mainGlobals "is_opinion" = some (some (.ref gk))) (rX:K.lookup gk=some ⟨n5,nZ,.func (PySem.W.fnOf "is_opinion" "is_opinion" (a5 cN) (aX cN) (ak cN) .none n6 n8 n9 n3 iM og),n4⟩) (dF:PySem.W.codeIn K iM "is_opinion" = true) (jC:PySem.W.keepIn K (.ref gk)=true)
    {yv yw:Option Addr} {yx:Array (Option Value)} {yy yz yA yB qg yC:Value}
    (Az:PySem.W.nsIn K mainGlobals "is_tie" = some (some (.ref mL))) (AA:K.lookup mL=some ⟨yy,yv,.func (PySem.W.fnOf "is_tie" "is_tie" (a5 fM) (aX fM) (ak fM) .none yz yA yB yw qg yC),yx⟩) (mF:PySem.W.codeIn K qg "is_tie" = true) (uL:PySem.W.keepIn K (.ref mL)=true)
    {oh oj:Option Addr} {om:Array (Option Value)} {oo oq ot ou iN ow:Value}
    (rZ:PySem.W.nsIn K mainGlobals "neighbours" = some (some (.ref gl))) (r6:K.lookup gl=some ⟨oo,oh,.func (PySem.W.fnOf "neighbours" "neighbours" (a5 cO) (aX cO) (ak cO) .none oq ot ou oj iN ow),om⟩) (gf:PySem.W.codeIn K iN "neighbours" = true) (jD:PySem.W.keepIn K (.ref gl)=true)
    {sd se:Option Addr} {sf:Array (Option Value)} {sh si sj so jE sr:Value}
    (uM:PySem.W.nsIn K mainGlobals "bars_told" = some (some (.ref ik))) (uN:K.lookup ik=some ⟨sh,sd,.func (PySem.W.fnOf "bars_told" "bars_told" (a5 dq) (aX dq) (ak dq) .none si sj so se jE sr),sf⟩) (ic:PySem.W.codeIn K jE "bars_told" = true) (kI:PySem.W.keepIn K (.ref ik)=true)
    {ox oy:Option Addr} {oz:Array (Option Value)} {oA oC oD oE iO oF:Value}
    (su:PySem.W.nsIn K mainGlobals "stays_told" = some (some (.ref gm))) (sw:K.lookup gm=some ⟨oA,ox,.func (PySem.W.fnOf "stays_told" "stays_told" (a5 cP) (aX cP) (ak cP) .none oC oD oE oy iO oF),oz⟩) (ge:PySem.W.codeIn K iO "stays_told" = true) (jF:PySem.W.keepIn K (.ref gm)=true)
    {yD yE:Option Addr} {yF:Array (Option Value)} {yG yH yI yJ qh yK:Value}
    (AB:PySem.W.nsIn K mainGlobals "web_of" = some (some (.ref mM))) (AC:K.lookup mM=some ⟨yG,yD,.func (PySem.W.fnOf "web_of" "web_of" (a5 fN) (aX fN) (ak fN) .none yH yI yJ yE qh yK),yF⟩) (mK:PySem.W.codeIn K qh "web_of" = true) (uO:PySem.W.keepIn K (.ref mM)=true)
    {wm wn:Option Addr} {wo:Array (Option Value)} {wp wq wr wu mP wv:Value}
    (yL:PySem.W.nsIn K mainGlobals "many_of" = some (some (.ref ko))) (yM:K.lookup ko=some ⟨wp,wm,.func (PySem.W.fnOf "many_of" "many_of" (a5 et) (aX et) (ak et) .none wq wr wu wn mP wv),wo⟩) (kh:PySem.W.codeIn K mP "many_of" = true) (qi:PySem.W.keepIn K (.ref ko)=true)
    {ww wx:Option Addr} {wy:Array (Option Value)} {wz wA wB wC mQ wD:Value}
    (yN:PySem.W.nsIn K mainGlobals "stay_of" = some (some (.ref kq))) (yO:K.lookup kq=some ⟨wz,ww,.func (PySem.W.fnOf "stay_of" "stay_of" (a5 eu) (aX eu) (ak eu) .none wA wB wC wx mQ wD),wy⟩) (kg:PySem.W.codeIn K mQ "stay_of" = true) (qj:PySem.W.keepIn K (.ref kq)=true)
    {B2 B3:Option Addr} {B4:Array (Option Value)} {B5 B6 B7 B8 xx B9:Value}
    (D4:PySem.W.nsIn K mainGlobals "fits" = some (some (.ref wf))) (D5:K.lookup wf=some ⟨B5,B2,.func (PySem.W.fnOf "fits" "fits" (a5 kb) (aX kb) (ak kb) .none B6 B7 B8 B3 xx B9),B4⟩) (mH:PySem.W.codeIn K xx "fits" = true) (AD:PySem.W.keepIn K (.ref wf)=true)
    {mR mS:Option Addr} {mT:Array (Option Value)} {mU mV mW mX ip mY:Value}
    (iP:PySem.W.nsIn K mainGlobals "check_stand" = some (some (.ref fv))) (oG:K.lookup fv=some ⟨mU,mR,.func (PySem.W.fnOf "check_stand" "check_stand" (a5 b0) (aX b0) (ak b0) .none mV mW mX mS ip mY),mT⟩) (fq:PySem.W.codeIn K ip "check_stand" = true) (fz:PySem.W.keepIn K (.ref fv)=true)
    {oH oJ:Option Addr} {oK:Array (Option Value)} {oM oN oO oP iQ oQ:Value}
    (sx:PySem.W.nsIn K mainGlobals "show_stand" = some (some (.ref gn))) (sy:K.lookup gn=some ⟨oM,oH,.func (PySem.W.fnOf "show_stand" "show_stand" (a5 cQ) (aX cQ) (ak cQ) .none oN oO oP oJ iQ oQ),oK⟩) (em:PySem.W.codeIn K iQ "show_stand" = true) (jG:PySem.W.keepIn K (.ref gn)=true)
    {oR oS:Option Addr} {oT:Array (Option Value)} {oU oV oW oX iR oY:Value}
    (jH:PySem.W.nsIn K mainGlobals "read_stand" = some (some (.ref gp))) (sA:K.lookup gp=some ⟨oU,oR,.func (PySem.W.fnOf "read_stand" "read_stand" (a5 cu) (aX cu) (ak cu) .none oV oW oX oS iR oY),oT⟩) (el:PySem.W.codeIn K iR "read_stand" = true) (gu:PySem.W.keepIn K (.ref gp)=true)
    {oZ o0:Option Addr} {o3:Array (Option Value)} {o4 o5 o6 o7 iS o8:Value}
    (sB:PySem.W.nsIn K mainGlobals "_law_state" = some (some (.ref gq))) (sC:K.lookup gq=some ⟨o4,oZ,.func (PySem.W.fnOf "_law_state" "_law_state" (a5 cR) (aX cR) (ak cR) .none o5 o6 o7 o0 iS o8),o3⟩) (bY:PySem.W.codeIn K iS "_law_state" = true) (jI:PySem.W.keepIn K (.ref gq)=true)
    {o9 pb:Option Addr} {pc:Array (Option Value)} {pd pe pf ph iT pi:Value}
    (sD:PySem.W.nsIn K mainGlobals "_law_digit" = some (some (.ref gr))) (sE:K.lookup gr=some ⟨pd,o9,.func (PySem.W.fnOf "_law_digit" "_law_digit" (a5 cS) (aX cS) (ak cS) .none pe pf ph pb iT pi),pc⟩) (aH:PySem.W.codeIn K iT "_law_digit" = true) (jJ:PySem.W.keepIn K (.ref gr)=true)
    {uP uQ:Option Addr} {uR:Array (Option Value)} {uS uT uU uV kJ uW:Value}
    (wE:PySem.W.nsIn K mainGlobals "_law_bar" = some (some (.ref jb))) (wF:K.lookup jb=some ⟨uS,uP,.func (PySem.W.fnOf "_law_bar" "_law_bar" (a5 dL) (aX dL) (ak dL) .none uT uU uV uQ kJ uW),uR⟩) (i8:PySem.W.codeIn K kJ "_law_bar" = true) (mZ:PySem.W.keepIn K (.ref jb)=true)
    {m4 m5:Option Addr} {m6:Array (Option Value)} {m7 m8 m9 nc iq ng:Value}
    (pj:PySem.W.nsIn K mainGlobals "_law_people" = some (some (.ref fw))) (pk:K.lookup fw=some ⟨m7,m4,.func (PySem.W.fnOf "_law_people" "_law_people" (a5 cz) (aX cz) (ak cz) .none m8 m9 nc m5 iq ng),m6⟩) (fu:PySem.W.codeIn K iq "_law_people" = true) (iU:PySem.W.keepIn K (.ref fw)=true)
    {pr pv:Option Addr} {pw:Array (Option Value)} {px py pz pA iV pB:Value}
    (sF:PySem.W.nsIn K mainGlobals "_law_stand" = some (some (.ref gs))) (sG:K.lookup gs=some ⟨px,pr,.func (PySem.W.fnOf "_law_stand" "_law_stand" (a5 cT) (aX cT) (ak cT) .none py pz pA pv iV pB),pw⟩) (gi:PySem.W.codeIn K iV "_law_stand" = true) (jK:PySem.W.keepIn K (.ref gs)=true)
    {sH sI:Option Addr} {sJ:Array (Option Value)} {sK sL sM sN jL sO:Value}
    (uX:PySem.W.nsIn K mainGlobals "_law_read" = some (some (.ref im))) (uY:K.lookup im=some ⟨sK,sH,.func (PySem.W.fnOf "_law_read" "_law_read" (a5 dr) (aX dr) (ak dr) .none sL sM sN sI jL sO),sJ⟩) (ij:PySem.W.codeIn K jL "_law_read" = true) (kK:PySem.W.keepIn K (.ref im)=true)
    {sP sQ:Option Addr} {sR:Array (Option Value)} {sS sT sU sV jM sW:Value}
    (uZ:PySem.W.nsIn K mainGlobals "_law_said" = some (some (.ref io))) (u0:K.lookup io=some ⟨sS,sP,.func (PySem.W.fnOf "_law_said" "_law_said" (a5 du) (aX du) (ak du) .none sT sU sV sQ jM sW),sR⟩) (dW:PySem.W.codeIn K jM "_law_said" = true) (kL:PySem.W.keepIn K (.ref io)=true)
    {kX kY:Option Addr} {kZ:Array (Option Value)} {k7 k8 lc lf gI li:Value}
    (nh:PySem.W.nsIn K mainGlobals "_law_spoiled" = some (some (.ref eQ))) (ni:K.lookup eQ=some ⟨k7,kX,.func (PySem.W.fnOf "_law_spoiled" "_law_spoiled" (a5 cf) (aX cf) (ak cf) .none k8 lc lf kY gI li),kZ⟩) (eP:PySem.W.codeIn K gI "_law_spoiled" = true) (ir:PySem.W.keepIn K (.ref eQ)=true)
    {D6 AE:Option Addr} {D7:Array (Option Value)} {D8 AF AG AH wG AI:Value}
    (EY:PySem.W.nsIn K mainGlobals "law" = some (some (.ref Ay))) (EZ:K.lookup Ay=some ⟨D8,D6,.func (PySem.W.fnOf "law" "law" (a5 jv) (aX jv) (ak jv) .none AF AG AH AE wG AI),D7⟩) (E1:PySem.W.codeIn K wG "law" = true) (E2:PySem.W.keepIn K (.ref Ay)=true)
    (sX:PySem.W.nsIn K mainGlobals "isinstance" = some none)
    (D9:PySem.W.nsIn K mainGlobals "bool" = some none)
    (E3:PySem.W.nsIn K mainGlobals "int" = some none)
    (E4:PySem.W.nsIn K mainGlobals "len" = some none)
    (Ca:PySem.W.nsIn K mainGlobals "tuple" = some none)
    (Cb:PySem.W.nsIn K mainGlobals "range" = some none)
    (Ea:PySem.W.nsIn K mainGlobals "list" = some none)
    (E5:PySem.W.nsIn K mainGlobals "all" = some none)
    (AJ:PySem.W.nsIn K mainGlobals "sorted" = some none)
    (u3:PySem.W.nsIn K mainGlobals "enumerate" = some none)
    (E6:PySem.W.nsIn K mainGlobals "str" = some none)
    (sY:PySem.W.nsIn K mainGlobals "ValueError" = some none)
    {ff:Tok} (pC:PySem.W.nsIn K mainGlobals "MOST_WEIGHT" = some (some (.int 400 ff)))
    {fj:Tok} (pD:PySem.W.nsIn K mainGlobals "MOST_PEOPLE" = some (some (.int 30 fj)))
    {cd_M cd_A_NoStand:ClassData}
    (u4:PySem.W.nsIn K mainGlobals "MostError" = some (some (.ref br)))
    (fS:PySem.W.nsIn K mainGlobals "NoStand" = some (some (.ref aP)))
    (yP:PySem.W.nsIn K mainGlobals "NoOrder" = some (some (.ref ez)))
    (wH:PySem.W.nsIn K mainGlobals "NoPeople" = some (some (.ref dM)))
    (AK:PySem.W.nsIn K mainGlobals "NoRest" = some (some (.ref fQ)))
    (Cc:PySem.W.nsIn K mainGlobals "NoRow" = some (some (.ref iB)))
    (AL:PySem.W.nsIn K mainGlobals "NoText" = some (some (.ref fR)))
    (Cd:PySem.W.nsIn K mainGlobals "NoWeb" = some (some (.ref iC)))
    (yQ:PySem.W.nsIn K mainGlobals "TooLong" = some (some (.ref eA)))
    (yR:PySem.W.nsIn K mainGlobals "TooMuch" = some (some (.ref eB)))
    (w_be:PySem.W.subIn K (.ref br) (.type "BaseException")=some true)
    (w_is:PySem.W.clsIn K br=some cd_M)
    (w_ty:PySem.W.typeIn K (.ref br)=some (.type "type"))
    (w_own_NoStand:PySem.W.excIn K aP [.type "ValueError",.type "Exception",.type "BaseException",.type "object"] "ValueError.__new__" = true)
    (w_sub_NoStand:PySem.W.subIn K (.ref aP) (.ref br)=some true)
    (w_z1_NoStand:PySem.W.findIn K (.ref aP) "__getattribute__" = some (some (.builtin "BaseException.__getattribute__")))
    (w_z2_NoStand:PySem.W.findIn K (.ref aP) "__getattr__" = some none)
    (w_z3_NoStand:PySem.W.findIn K (.ref aP) "__class__" = some (some (.builtin "object.__class__")))
    (w_z4_NoStand:PySem.W.subIn K (.ref aP) (.type "BaseException")=some true)
    (w_z5_NoStand:PySem.W.mroIn K aP (.type "object")=some true)
    (w_z6_NoStand:PySem.W.clsIn K aP=some cd_A_NoStand)
    (w_kA_NoStand_ValueError:PySem.W.kitOne K (.ref aP) (.type "ValueError")=some true)
    (w_kA_NoStand_NoStand:PySem.W.kitOne K (.ref aP) (.ref aP)=some true)
    (w_kA_NoStand_T0:PySem.W.kitAny K (.ref aP) [.ref ez,.ref dM,.ref fQ,.ref iB,.ref fR,.ref iC,.ref eA,.ref eB] = some false)
    : ∃ fd:FuncData,(∀ (s:Shared) (v:Value),BindsTo s fd ⟨[v],[]⟩ [("_law_script",v)]) ∧ ∀ base:Heap,K.In base→base.Ns mainGlobals mg→b5 l.prog w K mg base CX0 8 fa fd ["_law_script"] (spF K xl 1):=by
  have e:=hfa.symm.trans (PySem.W.mg_of X G EY)
  cases e
  have au:=PySem.W.mg_none_of X G sX
  have kf:=PySem.W.mg_none_of X G D9
  have dG:=PySem.W.mg_none_of X G E3
  have bw:=PySem.W.mg_none_of X G E4
  have aY:=PySem.W.mg_none_of X G Ca
  have bX:=PySem.W.mg_none_of X G Cb
  have dE:=PySem.W.mg_none_of X G Ea
  have gH:=PySem.W.mg_none_of X G E5
  have mG:=PySem.W.mg_none_of X G AJ
  have ie:=PySem.W.mg_none_of X G u3
  have jA:=PySem.W.mg_none_of X G E6
  have gg:=PySem.W.mg_none_of X G sY
  have fg:=PySem.W.mg_of X G pC
  have fm:=PySem.W.mg_of X G pD
  have ig:=PySem.W.mg_of X G u4
  have fP:=PySem.W.mg_of X G fS
  have ki:=PySem.W.mg_of X G yP
  have i9:=PySem.W.mg_of X G wH
  have mI:=PySem.W.mg_of X G AK
  have rP:=PySem.W.mg_of X G Cc
  have mJ:=PySem.W.mg_of X G AL
  have rR:=PySem.W.mg_of X G Cd
  have kj:=PySem.W.mg_of X G yQ
  have km:=PySem.W.mg_of X G yR
  have nj:=bN (st:=dJ) wl eO mO
  have wI:=nj.binds (ps:=["thing"]) fun _ _ _ _ _ _ us hl=>by obtain⟨_,rfl⟩:=ia us hl;rfl
  have jN:=bN (st:=cM) rV bI jB
  have sZ:=jN.binds (ps:=["thing", "least", "most"]) fun _ _ _ _ _ _ us hl=>by obtain⟨_,_,_,rfl⟩:=mr us hl;rfl
  have jO:=bN (st:=cN) rX dF jC
  have s0:=jO.binds (ps:=["thing"]) fun _ _ _ _ _ _ us hl=>by obtain⟨_,rfl⟩:=ia us hl;rfl
  have u5:=bN (st:=fM) AA mF uL
  have AM:=u5.binds (ps:=["many", "thing"]) fun _ _ _ _ _ _ us hl=>by obtain⟨_,_,rfl⟩:=cg us hl;rfl
  have jP:=bN (st:=cO) r6 gf jD
  have tf:=jP.binds (ps:=["many", "ties"]) fun _ _ _ _ _ _ us hl=>by obtain⟨_,_,rfl⟩:=cg us hl;rfl
  have kM:=bN (st:=dq) uN ic kI
  have u6:=kM.binds (ps:=["near", "bars"]) fun _ _ _ _ _ _ us hl=>by obtain⟨_,_,rfl⟩:=cg us hl;rfl
  have jQ:=bN (st:=cP) sw ge jF
  have tm:=jQ.binds (ps:=["many", "stays"]) fun _ _ _ _ _ _ us hl=>by obtain⟨_,_,rfl⟩:=cg us hl;rfl
  have u7:=bN (st:=fN) AC mK uO
  have AN:=u7.binds (ps:=["many", "ties", "bars", "stays"]) fun _ _ _ _ _ _ us hl=>by obtain⟨_,_,_,_,rfl⟩:=Ao us hl;rfl
  have qk:=bN (st:=et) yM kh qi
  have yS:=qk.binds (ps:=["web"]) fun _ _ _ _ _ _ us hl=>by obtain⟨_,rfl⟩:=ia us hl;rfl
  have ql:=bN (st:=eu) yO kg qj
  have yT:=ql.binds (ps:=["web", "person"]) fun _ _ _ _ _ _ us hl=>by obtain⟨_,_,rfl⟩:=cg us hl;rfl
  have AO:=bN (st:=kb) D5 mH AD
  have Eb:=AO.binds (ps:=["web", "thing"]) fun _ _ _ _ _ _ us hl=>by obtain⟨_,_,rfl⟩:=cg us hl;rfl
  have fA:=bN (st:=b0) oG fq fz
  have iW:=fA.binds (ps:=["web", "thing"]) fun _ _ _ _ _ _ us hl=>by obtain⟨_,_,rfl⟩:=cg us hl;rfl
  have jR:=bN (st:=cQ) sy em jG
  have tq:=jR.binds (ps:=["stand"]) fun _ _ _ _ _ _ us hl=>by obtain⟨_,rfl⟩:=ia us hl;rfl
  have gv:=bN (st:=cu) sA el gu
  have jS:=gv.binds (ps:=["web", "text"]) fun _ _ _ _ _ _ us hl=>by obtain⟨_,_,rfl⟩:=cg us hl;rfl
  have jT:=bN (st:=cR) sC bY jI
  have tu:=jT.binds (ps:=["_law_script", "_law_k"]) fun _ _ _ _ _ _ us hl=>by obtain⟨_,_,rfl⟩:=cg us hl;rfl
  have jU:=bN (st:=cS) sE aH jJ
  have tw:=jU.binds (ps:=["_law_state_here", "_law_most"]) fun _ _ _ _ _ _ us hl=>by obtain⟨_,_,rfl⟩:=cg us hl;rfl
  have nn:=bN (st:=dL) wF i8 mZ
  have wJ:=nn.binds (ps:=["_law_kind", "_law_number", "_law_total"]) fun _ _ _ _ _ _ us hl=>by obtain⟨_,_,_,rfl⟩:=mr us hl;rfl
  have iX:=bN (st:=cz) pk fu iU
  have pE:=iX.binds (ps:=["_law_script"]) fun _ _ _ _ _ _ us hl=>by obtain⟨_,rfl⟩:=ia us hl;rfl
  have jV:=bN (st:=cT) sG gi jK
  have tz:=jV.binds (ps:=["_law_script", "_law_k", "_law_stays"]) fun _ _ _ _ _ _ us hl=>by obtain⟨_,_,_,rfl⟩:=mr us hl;rfl
  have kN:=bN (st:=dr) uY ij kK
  have va:=kN.binds (ps:=["_law_text", "_law_stays"]) fun _ _ _ _ _ _ us hl=>by obtain⟨_,_,rfl⟩:=cg us hl;rfl
  have kO:=bN (st:=du) u0 dW kL
  have vc:=kO.binds (ps:=["_law_web", "_law_thing"]) fun _ _ _ _ _ _ us hl=>by obtain⟨_,_,rfl⟩:=cg us hl;rfl
  have iu:=bN (st:=cf) ni eP ir
  have nr:=iu.binds (ps:=["_law_text", "_law_state_here"]) fun _ _ _ _ _ _ us hl=>by obtain⟨_,_,rfl⟩:=cg us hl;rfl
  have E7:=bN (st:=jv) EZ E1 E2
  refine⟨PySem.W.fnOf "law" "law" (a5 jv) (aX jv) (ak jv) .none AF AG AH AE wG AI,fun s v=>.of_eq rfl,fun base KB _ => ?_⟩
  have ev:=DD (mg:=mg) KB fP w_own_NoStand
  have kr:md K aP:=⟨w_z1_NoStand,w_z2_NoStand,w_z3_NoStand,w_z4_NoStand,w_z5_NoStand,by rw [w_z6_NoStand];rfl⟩
  have gh:mh K (fun C b=>PySem.W.kitOne K (.ref C) (kS (.ty "ValueError"))=some b) [("NoStand",true)]:=(qV fS kr w_kA_NoStand_ValueError vK)
  have kn:mh K (fun C b=>PySem.W.kitOne K (.ref C) (kS (.ref aP))=some b) [("NoStand",true)]:=(qV fS kr w_kA_NoStand_NoStand vK)
  have t_T0:mh K (fun C b=>PySem.W.kitAny K (.ref C) ([.ref ez,.ref dM,.ref fQ,.ref iB,.ref fR,.ref iC,.ref eA,.ref eB].map kS)=some b) [("NoStand",false)]:=(qV fS kr w_kA_NoStand_T0 vK)
  have h_cs:xU K mg br ["NoStand"]:=(Bu fP fS w_sub_NoStand DE)
  have nt:Def l.prog w K mg base "is_whole" 1 1 bR:=Def.mk' (PySem.W.mg_of X G wg) mO wI (uh (P:=l.prog) (w:=w) (base:=base) nj au kf dG)
  have gw:Def l.prog w K mg base "is_between" 2 3 aR:=Def.mk' (PySem.W.mg_of X G rT) jB sZ (nB (P:=l.prog) (w:=w) (base:=base) jN nt)
  have jW:Def l.prog w K mg base "is_opinion" 3 1 aS:=Def.mk' (PySem.W.mg_of X G rW) jC s0 (nD (P:=l.prog) (w:=w) (base:=base) jO gw)
  have AQ:Def l.prog w K mg base "is_tie" 3 2 hX:=Def.mk' (PySem.W.mg_of X G Az) uL AM (x8 (P:=l.prog) (w:=w) (base:=base) u5 bw au aY fg gw)
  have tD:Def l.prog w K mg base "neighbours" 4 2 cm:=Def.mk' (PySem.W.mg_of X G rZ) jD tf (nE (P:=l.prog) (w:=w) (base:=base) jP bX au dE AQ)
  have vd:Def l.prog w K mg base "bars_told" 2 2 cJ:=Def.mk' (PySem.W.mg_of X G uM) kI u6 (rk (P:=l.prog) (w:=w) (base:=base) kM aY gH bw au dE nt)
  have tF:Def l.prog w K mg base "stays_told" 4 2 cq:=Def.mk' (PySem.W.mg_of X G su) jF tm (nG (P:=l.prog) (w:=w) (base:=base) jQ aY gH bw au dE bX jW)
  have AR:Def l.prog w K mg base "web_of" 5 4 fL:=Def.mk' (PySem.W.mg_of X G AB) uO AN (x9 (P:=l.prog) (w:=w) (base:=base) u7 aY mG fm tF vd tD gw)
  have yU:Def l.prog w K mg base "many_of" 1 1 dm:=Def.mk' (PySem.W.mg_of X G yL) qi yS (vT (P:=l.prog) (w:=w) (base:=base) qk bw)
  have yV:Def l.prog w K mg base "stay_of" 1 2 fK:=Def.mk' (PySem.W.mg_of X G yN) qj yT (vV (P:=l.prog) (w:=w) (base:=base) ql)
  have AS:Def l.prog w K mg base "fits" 4 2 dI:=Def.mk' (PySem.W.mg_of X G D4) AD Eb (BG (P:=l.prog) (w:=w) (base:=base) AO ie bw au aY yV jW yU)
  have pF:Def l.prog w K mg base "check_stand" 5 2 c5:=Def.mk' (PySem.W.mg_of X G iP) fz iW (mm (P:=l.prog) (w:=w) (base:=base) fA AS)
  have tG:Def l.prog w K mg base "show_stand" 1 1 cL:=Def.mk' (PySem.W.mg_of X G sx) jG tq (nI (P:=l.prog) (w:=w) (base:=base) jR jA)
  have tH:Def l.prog w K mg base "read_stand" 6 2 cr:=Def.mk' (PySem.W.mg_of X G jH) gu jS (nJ (P:=l.prog) (w:=w) (base:=base) gv aY dG gH au jA pF)
  have gx:Def l.prog w K mg base "_law_state" 1 2 bj:=Def.mk' (PySem.W.mg_of X G sB) jI tu (nK (P:=l.prog) (w:=w) (base:=base) jT bw)
  have en:Def l.prog w K mg base "_law_digit" 1 2 ay:=Def.mk' (PySem.W.mg_of X G sD) jJ tw (nM (P:=l.prog) (w:=w) (base:=base) jU)
  have wK:Def l.prog w K mg base "_law_bar" 1 3 c9:=Def.mk' (PySem.W.mg_of X G wE) mZ wJ (uj (P:=l.prog) (w:=w) (base:=base) nn)
  have pG:Def l.prog w K mg base "_law_people" 2 1 dk:=Def.mk' (PySem.W.mg_of X G pj) iU pE (mn (P:=l.prog) (w:=w) (base:=base) iX bX bw wK en gx)
  have tI:Def l.prog w K mg base "_law_stand" 2 3 eo:=Def.mk' (PySem.W.mg_of X G sF) jK tz (nN (P:=l.prog) (w:=w) (base:=base) jV aY en gx)
  have ve:Def l.prog w K mg base "_law_read" 1 2 dB:=Def.mk' (PySem.W.mg_of X G uX) kK va (rl (P:=l.prog) (w:=w) (base:=base) kN bw bX aY dG)
  have pH:nz l.prog w K mg base "check_stand" 5 2 ce:=nz.mk' (PySem.W.mg_of X G iP) fz iW (kT (P:=l.prog) (w:=w) (base:=base) fA AS ev)
  have tJ:nz l.prog w K mg base "read_stand" 6 2 aJ:=nz.mk' (PySem.W.mg_of X G jH) gu jS (mq (P:=l.prog) (w:=w) (base:=base) gv aY dG gH au jA pH ev)
  have vf:Def l.prog w K mg base "_law_said" 7 2 c6:=Def.mk' (PySem.W.mg_of X G uZ) kL vc (rn (P:=l.prog) (w:=w) (base:=base) kO au gg ig fP ki i9 mI rP mJ rR kj km w_be (by rw [w_is];rfl) w_ty h_cs gh kn t_T0 tJ)
  have nu:Def l.prog w K mg base "_law_spoiled" 2 2 dn:=Def.mk' (PySem.W.mg_of X G nh) ir nr (kU (P:=l.prog) (w:=w) (base:=base) iu dG bw en)
  exact DR (P:=l.prog) (w:=w) (base:=base) E7 bX dG bw au kf dE tH tG vf en ve nu gx tI AR pG
end Fm
set_option linter.all false
namespace Fm
theorem aC {a b:SF}{σ σ':Sd}{h h':Hd}(e:a σ h=.nx σ' h'):aE a b σ h=b σ' h':=by simp [aE,e]
theorem BH {a b:SF}{σ:Sd}{h h':Hd}{d:D}(e:a σ h=.rt d h'):aE a b σ h=.rt d h':=by simp [aE,e]
theorem xm {x:Int}(h0:0≤x)(h1:x < 4611686018427387904):sml x=true:=by
  simp only [sml,Bool.and_eq_true,decide_eq_true_eq];omega
theorem lD {α : Type}{f : α → D}{l:List α}{i:Nat}(h:i < l.length):atI (l.map f) (i:Int)=some (f l[i]):=ee (by simp [h])
theorem jx (ns:List Int)(k:Nat)(h:Hd):∃ c m,bj [.lit (ns.map .int),.int k] h=.ok (.ref h.length) (h++[.lst [.int c,.int 0,.bl m]]):=by
  have sm:sml 1000003=true:=by decide
  have z:∀ b:Bool,(b=true∨b=false):=fun b=>by cases b<;>simp
  obtain⟨c,hc⟩ : ∃ c,c=if k < ns.length then ns.getD k 0 else 0:=⟨_,rfl⟩
  have s1:aG (gN 2) (fC (.int 0)) [some (.lit (ns.map .int)),some (.int k),none,none] h=.nx [some (.lit (ns.map .int)),some (.int k),some (.int 0),none] h:=aN rfl
  have s2:sIf (tE (aq oLt (aa 1) (cV (lOf (aa 0))))) (aG (gN 2) (fAt (aa 0) (aa 1))) a7 [some (.lit (ns.map .int)),some (.int k),some (.int 0),none] h=.nx [some (.lit (ns.map .int)),some (.int k),some (.int c),none] h:=by
    by_cases e:k < ns.length
    · have a:=lD (f:=D.int) e
      rw [hc,if_pos e]
      refine (jp (aW (ao rfl (cb (bZ rfl rfl)) (DN (Int.ofNat_lt.mpr (by rw [List.length_map];exact e)))))).trans (aN (bL rfl rfl rfl ?_))
      rw [a,List.getD_eq_getElem?_getD,List.getElem?_eq_getElem e];rfl
    · rw [hc,if_neg e]
      exact bQ (aW (ao rfl (cb (bZ rfl rfl)) (DM (fun z=>e (by have:=Int.ofNat_lt.mp z;rwa [List.length_map] at this)))))
  obtain⟨m,s3⟩ : ∃ m,aG (gN 3) (fT (tOr (tE (aq oEq (cV (lOf (aa 0))) (fC (.int 0)))) (tE (aq oEq (aq eg (fAt (aa 0) (fC (.int 0))) (fC (.int 2))) (fC (.int 1)))))) [some (.lit (ns.map .int)),some (.int k),some (.int c),none] h=.nx [some (.lit (ns.map .int)),some (.int k),some (.int c),some (.bl m)] h:=by
    by_cases e:ns.length=0
    · exact⟨true,aN (kG (qZ (aW (ao (cb (bZ rfl rfl)) rfl (DL (by rw [List.length_map,e];rfl))))))⟩
    · have e0:0 < ns.length:=Nat.pos_of_ne_zero e
      have a:atI (ns.map D.int) 0=some (.int ns[0]):=lD (f:=D.int) (i:=0) e0
      exact⟨decide (ns[0] % 2=1),aN (kG (ed (aW (ao (cb (bZ rfl rfl)) rfl (Ad (fun z=>e (by rw [List.length_map] at z;exact Int.ofNat.inj z))))) (aW (ao (ao (bL rfl rfl rfl a) rfl (fZ (by decide))) rfl xj))))⟩
  obtain⟨c',s4⟩ : ∃ c',sIf (tE (aa 3)) (aG (gN 2) (aq cF (aq eg (aa 2) (fC (.int 2147483647))) (aq gJ (fC (.int 1000003)) (aa 1)))) a7 [some (.lit (ns.map .int)),some (.int k),some (.int c),some (.bl m)] h=.nx [some (.lit (ns.map .int)),some (.int k),some (.int c'),some (.bl m)] h:=by
    cases m with
    | true=>exact⟨c % 2147483647 + 1000003 * k,(jp (aW rfl)).trans (aN (ao (ao rfl rfl (fZ (by decide))) (ao rfl rfl (jq sm)) rfl))⟩
    | false=>exact⟨c,bQ (aW rfl)⟩
  refine⟨c',m,?_⟩
  have st:([D.lit (ns.map .int),D.int k].map some++List.replicate (4 - [D.lit (ns.map .int),D.int k].length) none:Sd)=[some (.lit (ns.map .int)),some (.int k),none,none]:=rfl
  unfold bj bz runB
  rw [if_pos (show [D.lit (ns.map .int),D.int k].length=2 from rfl),st,aC s1,aC s2,aC s3,aC s4]
  simp [SZ]
theorem uk {h:Hd}{n:Nat}{c t m:Int}{b:Bool}(hn:h[n]? = some (.lst [.int c,.int t,.bl b]))(hm:0 < m)(hm2:m < 2 ^ 250) :
    ∃ v c' t',ay [.ref n,.int m] h=.ok (.int v) (h.set n (.lst [.int c',.int t',.bl b]))∧0≤v∧v < m:=by
  have hl:n < h.length:=(List.getElem?_eq_some_iff.mp hn).1
  obtain⟨h1,hh1⟩ : ∃ h1,h1=h.set n (.lst [.int c,.int (t + 1),.bl b]):=⟨_,rfl⟩
  have g1:h1[n]? = some (.lst [.int c,.int (t + 1),.bl b]):=by rw [hh1,List.getElem?_set_self hl]
  have s1:lW (aa 0) (fC (.int 1)) (aq cF (fAt (aa 0) (fC (.int 1))) (fC (.int 1))) [some (.ref n),some (.int m),none,none] h=.nx [some (.ref n),some (.int m),none,none] h1:=by
    rw [hh1];exact q5 (k:=1) (ao (bL rfl rfl (bo hn) rfl) rfl rfl) rfl rfl hn rfl
  have pu:∀ (v:Int) (g:Hd),(∀ j,j < h.length → ∃ cc,g[j]? = some cc∧(h[j]? = some cc∨gW cc=true))→g.length=h.length→letGo h (.ok (.int v) g)=.ok (.int v) g:=fun v g hg hgl=>by
    have:=x5 (h:=h) (h':=g) (g:=[]) (d:=.int v) rfl hgl (by
      intro j cc hj e
      obtain⟨c2,e1,e2⟩:=hg j hj
      rw [List.append_nil,e1] at e
      cases e
      exact e2)
    simpa using this
  have st:([D.ref n,D.int m].map some++List.replicate (4 - [D.ref n,D.int m].length) none:Sd)=[some (.ref n),some (.int m),none,none]:=rfl
  have cp:∀ (x y:Int),gW (.lst [.int x,.int y,.bl b])=true:=fun x y=>rfl
  have pl:∀ (x y:Int),∀ j,j < h.length → ∃ cc,(h.set n (.lst [.int x,.int y,.bl b]))[j]? = some cc∧(h[j]? = some cc∨gW cc=true):=fun x y j hj=>by
    by_cases e:n=j
    · subst e;exact⟨_,by rw [List.getElem?_set_self hl],.inr (cp x y)⟩
    · exact⟨h[j],by rw [List.getElem?_set_ne e];simp [hj],.inl (by simp [hj])⟩
  cases b with
  | true =>
    have sm1:sml 7919=true:=by decide
    have sm2:sml 48271=true:=by decide
    have sm3:sml 69621=true:=by decide
    obtain⟨n1,hn1⟩ : ∃ n1,n1=(c + 7919 * (t + 1) + 1) * 48271 % 2147483647:=⟨_,rfl⟩
    have b1:0≤n1∧n1 < 2147483647:=by rw [hn1];exact⟨Int.emod_nonneg _ (by decide),Int.emod_lt_of_pos _ (by decide)⟩
    have sm4:sml n1=true:=xm b1.1 (Int.lt_trans b1.2 (by decide))
    obtain⟨n2,hn2⟩ : ∃ n2,n2=n1 * (n1 % 65521 + (t + 1)) % 2147483629:=⟨_,rfl⟩
    have b2:0≤n2∧n2 < 2147483629:=by rw [hn2];exact⟨Int.emod_nonneg _ (by decide),Int.emod_lt_of_pos _ (by decide)⟩
    have sm5:sml n2=true:=xm b2.1 (Int.lt_trans b2.2 (by decide))
    have t1:aG (gN 2) (aq eg (aq gJ (aq cF (aq cF (fAt (aa 0) (fC (.int 0))) (aq gJ (fC (.int 7919)) (fAt (aa 0) (fC (.int 1))))) (fC (.int 1))) (fC (.int 48271))) (fC (.int 2147483647))) [some (.ref n),some (.int m),none,none] h1=.nx [some (.ref n),some (.int m),some (.int n1),none] h1:=by
      rw [hn1];exact aN (ao (ao (ao (ao (bL rfl rfl (bo g1) rfl) (ao rfl (bL rfl rfl (bo g1) rfl) (jq sm1)) rfl) rfl rfl) rfl (BC sm2)) rfl (fZ (by decide)))
    have t2:aG (gN 2) (aq eg (aq gJ (aa 2) (aq cF (aq eg (aa 2) (fC (.int 65521))) (fAt (aa 0) (fC (.int 1))))) (fC (.int 2147483629))) [some (.ref n),some (.int m),some (.int n1),none] h1=.nx [some (.ref n),some (.int m),some (.int n2),none] h1:=by
      rw [hn2];exact aN (ao (ao rfl (ao (ao rfl rfl (fZ (by decide))) (bL rfl rfl (bo g1) rfl) rfl) (jq sm4)) rfl (fZ (by decide)))
    have t3:bc (aq eg (aq eg (aq cF (aq gJ (aa 2) (aa 2)) (aq gJ (fC (.int 69621)) (aa 2))) (fC (.int 2147483563))) (aa 1)) [some (.ref n),some (.int m),some (.int n2),none] h1=.rt (.int ((n2 * n2 + 69621 * n2) % 2147483563 % m)) h1:=by
      exact bn (ao (ao (ao (ao rfl rfl (jq sm5)) (ao rfl rfl (jq sm3)) rfl) rfl (fZ (by decide))) rfl (fZ hm))
    refine⟨(n2 * n2 + 69621 * n2) % 2147483563 % m,c,t + 1,?_,Int.emod_nonneg _ (Int.ne_of_gt hm),Int.emod_lt_of_pos _ hm⟩
    have tt:tE (fAt (aa 0) (fC (.int 2))) [some (.ref n),some (.int m),none,none] h1=.ok true h1:=aW (bL rfl rfl (bo g1) rfl)
    unfold ay bz runB
    rw [if_pos (show [D.ref n,D.int m].length=2 from rfl),st,aC s1]
    rw [BH (d:=.int ((n2 * n2 + 69621 * n2) % 2147483563 % m)) (h':=h1)]
    · show letGo h (.ok _ h1)=_
      rw [hh1]
      exact pu _ _ (pl _ _) (by simp)
    · exact (jp tt).trans ((aC t1).trans ((aC t2).trans t3))
  | false =>
    have tt:tE (fAt (aa 0) (fC (.int 2))) [some (.ref n),some (.int m),none,none] h1=.ok false h1:=aW (bL rfl rfl (bo g1) rfl)
    refine⟨c % m,c / m,t + 1,?_,Int.emod_nonneg _ (Int.ne_of_gt hm),Int.emod_lt_of_pos _ hm⟩
    have t0:∀ x:SF,sIf (tE (fAt (aa 0) (fC (.int 2)))) x a7 [some (.ref n),some (.int m),none,none] h1=.nx [some (.ref n),some (.int m),none,none] h1:=fun x=>bQ tt
    have t1:aG (gN 3) (aq eg (fAt (aa 0) (fC (.int 0))) (aa 1)) [some (.ref n),some (.int m),none,none] h1=.nx [some (.ref n),some (.int m),none,some (.int (c % m))] h1:=aN (ao (bL rfl rfl (bo g1) rfl) rfl (fZ hm))
    have t2:lW (aa 0) (fC (.int 0)) (aq zl (fAt (aa 0) (fC (.int 0))) (aa 1)) [some (.ref n),some (.int m),none,some (.int (c % m))] h1=.nx [some (.ref n),some (.int m),none,some (.int (c % m))] (h.set n (.lst [.int (c / m),.int (t + 1),.bl false])):=by
      have:h1.set n (.lst [.int (c / m),.int (t + 1),.bl false])=h.set n (.lst [.int (c / m),.int (t + 1),.bl false]):=by rw [hh1,List.set_set]
      rw [← this]
      exact q5 (k:=0) (ao (bL rfl rfl (bo g1) rfl) rfl (DK hm hm2)) rfl rfl g1 rfl
    have t3:bc (aa 3) [some (.ref n),some (.int m),none,some (.int (c % m))] (h.set n (.lst [.int (c / m),.int (t + 1),.bl false]))=.rt (.int (c % m)) (h.set n (.lst [.int (c / m),.int (t + 1),.bl false])):=bn rfl
    unfold ay bz runB
    rw [if_pos (show [D.ref n,D.int m].length=2 from rfl),st,aC s1,aC (t0 _),aC t1,aC t2,t3]
    exact pu _ _ (pl _ _) (by simp)
end Fm
set_option linter.all false
namespace Fm
theorem fO {n i:Nat}{x:D}(hx:((List.range n).map fun k:Nat=>D.int k)[i]? = some x):i < n∧x=.int (i:Nat):=by
  have hi:i < n:=by
    have:=(List.getElem?_eq_some_iff.mp hx).1
    simpa using this
  exact⟨hi,by simpa [hi,List.getElem?_eq_getElem] using hx.symm⟩
theorem p9 {α : Type}(f : α → D)(l:List α){x:Int}(h0:0≤x)(h:x < l.length):∃ v∈l,atI (l.map f) x=some (f v):=by
  have h3:x.toNat < l.length:=by omega
  refine⟨l[x.toNat],List.getElem_mem h3,?_⟩
  have:=lD (f:=f) h3
  rwa [show ((x.toNat:Nat):Int)=x by omega] at this
theorem DT (k x t:Int)(ht:0≤t)(h:Hd):∃ v,c9 [.int k,.int x,.int t] h=.ok (.int v) h:=by
  by_cases e0:k=0
  · exact⟨t,by simp [c9,bz,runB,e0,peq,dep]⟩
  · by_cases e1:k=1
    · exact⟨x - 60,by simp [c9,bz,runB,e0,e1,peq,dep]⟩
    · by_cases e2:k=2
      · exact⟨t + x % 5 - 2,by simp [c9,bz,runB,e0,e1,e2,peq,dep]⟩
      · by_cases e3:k=3
        · have s2:sml 2=true:=by decide
          have p1:0 < t + 1:=by omega
          exact⟨2 * (x % (t + 1)),by simp [c9,bz,runB,e0,e1,e2,e3,peq,dep,s2,p1]⟩
        · obtain⟨v,hv,q⟩:=p9 D.int [1,-1] (x:=x % 2) (Int.emod_nonneg _ (by omega)) (by have:=Int.emod_lt_of_pos x (show (0:Int) < 2 by omega);simpa using this)
          have q:atI [D.int 1,.int (-1)] (x % 2)=some (.int v):=q
          have s10:sml 10=true:=by decide
          have sv:sml v=true:=by simp at hv;rcases hv with e|e<;>subst e<;>decide
          exact⟨_,by simp [c9,bz,runB,e0,e1,e2,e3,peq,dep,s10,q,sv];rfl⟩
structure Tie where
  a:Nat
  b:Nat
  w:Int
def bS (t:Tie):D:=.tup [.int t.a,.int t.b,.int t.w]
def far (i:Nat) (t:Tie):Option Nat:=if t.a=i then some t.b else if t.b=i then some t.a else none
def wOf (i:Nat) (t:Tie):Int:=if t.a=i∨t.b=i then t.w else 0
def bM (T:List Tie) (i:Nat):Int:=(T.map (wOf i)).sum
def EV (one other:Nat) (t:Tie):Prop:=(t.a < one∧t.b < one)∨(t.a=one∧t.b < other)∨(t.b=one∧t.a < other)
def gb (s t:Tie):Prop:=¬ (s.a=t.a∧s.b=t.b) ∧ ¬ (s.a=t.b∧s.b=t.a)
structure TOk (n one other:Nat) (T:List Tie):Prop where
  ne:∀ t∈T,t.a≠t.b
  lt:∀ t∈T,t.a < n∧t.b < n
  wt:∀ t∈T,1≤t.w∧t.w≤400
  be:∀ t∈T,EV one other t
  un:T.Pairwise gb
  len:T.length≤30 * one + other
theorem gb.symm {s t:Tie}(h:gb s t):gb t s:=⟨fun z=>h.1 ⟨z.1.symm,z.2.symm⟩,fun z=>h.2 ⟨z.2.symm,z.1.symm⟩⟩
theorem TOk.skip {n one other:Nat}{T:List Tie}(o:TOk n one other T):TOk n one (other + 1) T :=
  ⟨o.ne,o.lt,o.wt,fun t ht=>by
    rcases o.be t ht with h|h|h
    · exact .inl h
    · exact .inr (.inl ⟨h.1,Nat.lt_succ_of_lt h.2⟩)
    · exact .inr (.inr ⟨h.1,Nat.lt_succ_of_lt h.2⟩),o.un,Nat.le_succ_of_le o.len⟩
theorem TOk.step {n one:Nat}{T:List Tie}(o:TOk n one one T)(h:one < n)(hn:n≤30):TOk n (one + 1) 0 T :=
  ⟨o.ne,o.lt,o.wt,fun t ht=>by
    rcases o.be t ht with h|h|h
    · exact .inl ⟨Nat.lt_succ_of_lt h.1,Nat.lt_succ_of_lt h.2⟩
    · exact .inl ⟨Nat.lt_succ_of_le (Nat.le_of_eq h.1),Nat.lt_succ_of_lt h.2⟩
    · exact .inl ⟨Nat.lt_succ_of_lt h.2,Nat.lt_succ_of_le (Nat.le_of_eq h.1)⟩,o.un,Nat.le_trans o.len (Nat.add_le_add_left (Nat.le_trans (Nat.le_of_lt h) hn) _)⟩
theorem lE {α : Type}{x y : α}{l:List α}{k:Nat}(h:y∈l.take k++[x]++l.drop k):y=x∨y∈l:=by
  simp only [List.append_assoc,List.mem_append,List.mem_singleton] at h
  rcases h with h|h|h
  · exact .inr (List.mem_of_mem_take h)
  · exact .inl h
  · exact .inr (List.mem_of_mem_drop h)
theorem Ap {α : Type}{R : α → α → Prop}(sym:∀ a b,R a b→R b a){x : α}{l:List α}(k:Nat)(h:l.Pairwise R)(hx:∀ y∈l,R x y):(l.take k++[x]++l.drop k).Pairwise R:=by
  have hl:(l.take k++l.drop k).Pairwise R:=by rw [List.take_append_drop];exact h
  rw [List.pairwise_append] at hl
  obtain⟨h1,h2,h3⟩:=hl
  rw [List.append_assoc,List.pairwise_append]
  refine⟨h1,?_,fun a ha b hb => ?_⟩
  · rw [List.singleton_append,List.pairwise_cons]
    exact⟨fun y hy=>hx y (List.mem_of_mem_drop hy),h2⟩
  · rcases List.mem_append.mp hb with hb|hb
    · simp at hb;subst hb;exact sym _ _ (hx a (List.mem_of_mem_take ha))
    · exact h3 a ha b hb
theorem ya (T:List Tie)(x:Tie)(k i:Nat):bM (T.take k++[x]++T.drop k) i=bM T i + wOf i x:=by
  have:bM T i=bM (T.take k) i + bM (T.drop k) i:=by
    unfold bM
    rw [← List.sum_append,← List.map_append,List.take_append_drop]
  rw [this]
  simp only [bM,List.map_append,List.sum_append,List.map_cons,List.map_nil,List.sum_cons,List.sum_nil]
  omega
theorem TOk.put {n one other:Nat}{T:List Tie}(o:TOk n one other T)(h1:one < n)(h2:other < one){w:Int}(w1:1≤w)(w2:w≤400){t:Tie}(ht:t=⟨one,other,w⟩ ∨t=⟨other,one,w⟩)(k:Nat):TOk n one (other + 1) (T.take k++[t]++T.drop k) where
  ne:=fun s hs=>by
    rcases lE hs with rfl|hs
    · rcases ht with e|e<;>subst e
      · exact Nat.ne_of_gt h2
      · exact Nat.ne_of_lt h2
    · exact o.ne s hs
  lt:=fun s hs=>by
    rcases lE hs with rfl|hs
    · rcases ht with e|e<;>subst e
      · exact⟨h1,Nat.lt_trans h2 h1⟩
      · exact⟨Nat.lt_trans h2 h1,h1⟩
    · exact o.lt s hs
  wt:=fun s hs=>by
    rcases lE hs with rfl|hs
    · rcases ht with e|e<;>subst e<;>exact⟨w1,w2⟩
    · exact o.wt s hs
  be:=fun s hs=>by
    rcases lE hs with rfl|hs
    · rcases ht with e|e<;>subst e
      · exact .inr (.inl ⟨rfl,Nat.lt_succ_self _⟩)
      · exact .inr (.inr ⟨rfl,Nat.lt_succ_self _⟩)
    · exact o.skip.be s hs
  un:=Ap (fun _ _=>gb.symm) k o.un fun s hs=>by
    have hb:=o.be s hs
    rcases ht with e|e<;>subst e<;>rcases hb with hb|hb|hb
    · exact⟨fun z=>Nat.ne_of_gt hb.1 z.1,fun z=>Nat.ne_of_gt hb.2 z.1⟩
    · exact⟨fun z=>Nat.ne_of_gt hb.2 z.2,fun z=>Nat.ne_of_gt (Nat.lt_trans hb.2 h2) z.1⟩
    · exact⟨fun z=>Nat.ne_of_gt (Nat.lt_trans hb.2 h2) z.1,fun z=>Nat.ne_of_gt hb.2 z.2⟩
    · exact⟨fun z=>Nat.ne_of_gt hb.2 z.2,fun z=>Nat.ne_of_gt hb.1 z.2⟩
    · exact⟨fun z=>Nat.ne_of_gt (Nat.lt_trans hb.2 h2) z.2,fun z=>Nat.ne_of_gt hb.2 z.1⟩
    · exact⟨fun z=>Nat.ne_of_gt hb.2 z.1,fun z=>Nat.ne_of_gt (Nat.lt_trans hb.2 h2) z.2⟩
  len:=by
    have e:(T.take k).length + (T.drop k).length=T.length:=by rw [← List.length_append,List.take_append_drop]
    rw [List.length_append,List.length_append,List.length_singleton,Nat.add_right_comm,e]
    exact Nat.succ_le_succ o.len
end Fm
set_option linter.all false
namespace Fm
def vW (p:Int × Int):D:=.tup [.int p.1,.int p.2]
theorem yc {n one i:Nat}(h1:one < n)(h2:i < one){T:List Tie}{tt:Tie}{w:Int}(ht:tt=⟨one,i,w⟩ ∨tt=⟨i,one,w⟩)(k:Nat) :
    (List.range n).map (bM (T.take k++[tt]++T.drop k))=(((List.range n).map (bM T)).set one (bM T one + w)).set i (bM T i + w):=by
  apply List.ext_getElem?
  intro j
  have wj:wOf j tt=if j=one∨j=i then w else 0:=by
    rcases ht with e|e<;>subst e<;>simp only [wOf]
    · by_cases a:one=j<;>by_cases b:i=j<;>simp [a,b,eq_comm]<;>omega
    · by_cases a:one=j<;>by_cases b:i=j<;>simp [a,b,eq_comm]<;>omega
  by_cases hj:j < n
  · rw [List.getElem?_map,List.getElem?_range hj,Option.map_some,ya,wj]
    by_cases e1:i=j
    · subst e1
      rw [List.getElem?_set_self (by simp;omega)]
      simp
    · rw [List.getElem?_set_ne e1]
      by_cases e2:one=j
      · subst e2
        rw [List.getElem?_set_self (by simp;omega)]
        simp
      · rw [List.getElem?_set_ne e2,List.getElem?_map,List.getElem?_range hj]
        have : ¬ (j=one∨j=i):=by omega
        simp [this]
  · rw [List.getElem?_eq_none (by simp;omega),List.getElem?_eq_none (by simp;omega)]
structure PH (n i:Nat) (T:List Tie) (bs:List (Int × Int)) (ss:List (Option Int)) (h:Hd):Prop where
  ti:h[1]? = some (.lst (T.map bS))
  ba:h[2]? = some (.lst (bs.map vW))
  st:h[3]? = some (.lst (ss.map bu))
  to:h[4]? = some (.lst (((List.range n).map (bM T)).map .int))
  len:h.length=5 + i
  lb:bs.length=i
  ls:ss.length=i
  os:∀ x∈ss,x=none∨x=some 0∨x=some 1
theorem ne5 {j:Nat}(k:Nat)(h:j < 5):5 + k≠j:=by omega
theorem PH.keep {n i k:Nat}{T:List Tie}{bs:List (Int × Int)}{ss:List (Option Int)}{g:Hd}(P:PH n i T bs ss g)(cc:eS):PH n i T bs ss (g.set (5 + k) cc) :=
  ⟨(List.getElem?_set_ne (ne5 k (by decide))).trans P.ti,(List.getElem?_set_ne (ne5 k (by decide))).trans P.ba,(List.getElem?_set_ne (ne5 k (by decide))).trans P.st,(List.getElem?_set_ne (ne5 k (by decide))).trans P.to,by rw [List.length_set];exact P.len,P.lb,P.ls,P.os⟩
theorem bT {h:Hd}{n:Nat}{c t m:Int}{b:Bool}(hn:h[n]? = some (.lst [.int c,.int t,.bl b]))(hm:0 < m)(hm2:m≤100000) :
    ∃ v c' t',ay [.ref n,.int m] h=.ok (.int v) (h.set n (.lst [.int c',.int t',.bl b]))∧0≤v∧v < m:=uk hn hm (Int.lt_of_le_of_lt hm2 (by decide))
theorem dD {g:Hd}{k:Nat}{c:eS}(cc:eS)(h:g[k]? = some c):(g.set k cc)[k]? = some cc:=List.getElem?_set_self (List.getElem?_eq_some_iff.mp h).1
theorem rq {j n:Nat}(h:j < n):ixN n (j:Int)=some j:=by simp [ixN,h]
noncomputable abbrev XP (lit:D) (hd:Option D) (n thin one:Nat) (a b:Option D):Sd:=[some lit,hd,some (.int n),some (.int thin),some (.ref 1),some (.ref 2),some (.ref 3),some (.ref 4),some (.int one),some (.ref (5 + one)),a,b]
abbrev SC (c t:Int) (b:Bool):eS:=.lst [.int c,.int t,.bl b]
inductive PI (lit:D) (hd:Option D) (n thin one:Nat) (bs:List (Int × Int)) (ss:List (Option Int)) (m:Bool):Nat→Sd→Hd→Prop
  | mk {i:Nat} {h:Hd} {T:List Tie} {a b:Option D} {c t:Int} (P:PH n (one + 1) T bs ss h) (O:TOk n one i T) (hs:h[5 + one]? = some (SC c t m)):PI lit hd n thin one bs ss m i (XP lit hd n thin one a b) h
theorem Fy {w v mo:Int}(hw:w=1 + v)(h0:0≤v)(h1:v < mo)(h2:mo≤400):1≤w∧w≤400:=by omega
theorem few {l one n i:Nat}(h:l≤30 * one + i)(h1:one < n)(hn:n≤30)(hi:i < one):l < 1000:=by omega
theorem Fz {l:Nat}(h:l < 1000):(l:Int) + 1≤100000:=by omega
theorem vX {n one i thin:Nat}{lit:D}(h1:one < n)(hn:n≤30)(hi:i < one){T:List Tie}{bs:List (Int × Int)}{ss:List (Option Int)}{h0:Hd}{hd b:Option D}{c c1 t t1:Int}{m:Bool}(P:PH n (one + 1) T bs ss h0)(O:TOk n one i T)(hs:h0[5 + one]? = some (SC c t m))
    (d1:ay [.ref (5 + one),.int thin] h0=.ok (.int 0) (h0.set (5 + one) (SC c1 t1 m))) :
    ∃ σ' h',eX (XP lit hd n thin one (some (.int i)) b) h0=.nx σ' h'∧PI lit hd n thin one bs ss m (i + 1) σ' h':=by
  have g1:=dD (SC c1 t1 m) hs
  obtain⟨v2,c2,t2,d2,v20,v21⟩:=bT (m:=2) g1 (by decide) (by decide)
  rw [List.set_set] at d2
  have g2:=dD (SC c2 t2 m) hs
  obtain⟨mo,hmo,pm⟩:=p9 D.int [3,400] v20 v21
  have pm:atI [D.int 3,.int 400] v2=some (.int mo):=pm
  have mo1:0 < mo∧mo≤400:=by
    rcases List.mem_cons.mp hmo with rfl|hmo
    · decide
    · rw [List.mem_singleton.mp hmo];decide
  obtain⟨v3,c3,t3,d3,v30,v31⟩:=bT (m:=mo) g2 mo1.1 (Int.le_trans mo1.2 (by decide))
  rw [List.set_set] at d3
  have g3:=dD (SC c3 t3 m) hs
  obtain⟨w,hw⟩ : ∃ w,w=1 + v3:=⟨_,rfl⟩
  have w12:1≤w∧w≤400:=Fy hw v30 v31 mo1.2
  have lT:T.length < 1000:=few O.len h1 hn hi
  obtain⟨v4,c4,t4,d4,v40,v41⟩:=bT (m:=((T.map bS).length:Int) + 1) g3 (Int.lt_add_one_of_le (Int.natCast_nonneg _)) (Fz (by rw [List.length_map];exact lT))
  rw [List.set_set] at d4
  obtain⟨h4,hh4⟩ : ∃ h4,h4=h0.set (5 + one) (SC c4 t4 m):=⟨_,rfl⟩
  have P4:=P.keep (k:=one) (SC c4 t4 m)
  have g4:=dD (SC c4 t4 m) hs
  rw [← hh4] at d4 P4 g4
  obtain⟨tt,htt,pt⟩ : ∃ tt:Tie,(tt=⟨one,i,w⟩ ∨tt=⟨i,one,w⟩)∧atI [D.tup [.int one,.int i,.int w],.tup [.int i,.int one,.int w]] (w % 2)=some (bS tt):=by
    obtain⟨tt,h1,h2⟩:=p9 bS [⟨one,i,w⟩,⟨i,one,w⟩] (x:=w % 2) (Int.emod_nonneg _ (by decide)) (Int.emod_lt_of_pos w (by decide))
    exact⟨tt,(List.mem_cons.mp h1).imp id List.mem_singleton.mp,h2⟩
  obtain⟨T2,hT2⟩ : ∃ T2,T2=T.take v4.toNat++[tt]++T.drop v4.toNat:=⟨_,rfl⟩
  have O2:TOk n one (i + 1) T2:=by rw [hT2];exact O.put h1 hi w12.1 w12.2 htt _
  have s1:aG (gN 11) (aq cF (fC (.int 1)) (am ay (ae (aa 9) (ae (fIx (ae (fC (.int 3)) (ae (fC (.int 400)) ax)) (am ay (ae (aa 9) (ae (fC (.int 2)) ax)))) ax)))) (XP lit hd n thin one (some (.int i)) b) (h0.set (5 + one) (SC c1 t1 m))
      = .nx (XP lit hd n thin one (some (.int i)) (some (.int w))) (h0.set (5 + one) (SC c3 t3 m)) :=
    hw ▸ aN (ao rfl (av (ag rfl (ag (iJ (ag rfl (ag rfl rfl)) (av (ag rfl (ag rfl rfl)) d2) pm) rfl)) d3) rfl)
  have t5:h4[4]? = some (.lst (((List.range n).map (bM T)).map .int)):=P4.to
  have s2:iD (xR (aa 4) (am ay (ae (aa 9) (ae (aq cF (cV (lOf (aa 4))) (fC (.int 1))) ax))) (fIx (ae (eZ (ae (aa 8) (ae (aa 10) (ae (aa 11) ax)))) (ae (eZ (ae (aa 10) (ae (aa 8) (ae (aa 11) ax)))) ax)) (aq eg (aa 11) (fC (.int 2))))) (XP lit hd n thin one (some (.int i)) (some (.int w))) (h0.set (5 + one) (SC c3 t3 m))
      = .nx (XP lit hd n thin one (some (.int i)) (some (.int w))) (h4.set 1 (.lst (T2.map bS))):=by
    have P3:=P.keep (k:=one) (SC c3 t3 m)
    rw [hT2,List.map_append,List.map_append,List.map_take,List.map_drop]
    exact j9 (DO rfl P3.ti (av (ag rfl (ag (ao (cb (bZ rfl (bo P3.ti))) rfl rfl) rfl)) d4) (iJ (ag (d8 (ag rfl (ag rfl (ag rfl rfl))) (by exact of_decide_eq_true rfl)) (ag (d8 (ag rfl (ag rfl (ag rfl rfl))) (by exact of_decide_eq_true rfl)) rfl)) (ao rfl rfl (fZ (by decide))) pt) P4.ti ⟨v40,Int.le_of_lt_add_one v41,by rw [List.length_map];exact Nat.lt_trans lT (by decide)⟩)
  have t5:(h4.set 1 (.lst (T2.map bS)))[4]? = some (.lst (((List.range n).map (bM T)).map .int)):=(List.getElem?_set_ne (by decide)).trans P4.to
  have ln:((List.range n).map (bM T)).length=n:=by rw [List.length_map,List.length_range]
  have s3:lW (aa 7) (aa 8) (aq cF (fAt (aa 7) (aa 8)) (aa 11)) (XP lit hd n thin one (some (.int i)) (some (.int w))) (h4.set 1 (.lst (T2.map bS)))
      = .nx (XP lit hd n thin one (some (.int i)) (some (.int w))) ((h4.set 1 (.lst (T2.map bS))).set 4 (.lst ((((List.range n).map (bM T)).set one (bM T one + w)).map .int))):=by
    rw [List.map_set]
    exact q5 (ao (bL rfl rfl (bo t5) (ee (by rw [List.getElem?_map,List.getElem?_map,List.getElem?_range h1];rfl))) rfl rfl) rfl rfl t5 (rq (by rw [List.length_map,ln];exact h1))
  have t6:=dD (.lst ((((List.range n).map (bM T)).set one (bM T one + w)).map .int)) t5
  have s4:lW (aa 7) (aa 10) (aq cF (fAt (aa 7) (aa 10)) (aa 11)) (XP lit hd n thin one (some (.int i)) (some (.int w))) ((h4.set 1 (.lst (T2.map bS))).set 4 (.lst ((((List.range n).map (bM T)).set one (bM T one + w)).map .int)))
      = .nx (XP lit hd n thin one (some (.int i)) (some (.int w))) ((h4.set 1 (.lst (T2.map bS))).set 4 (.lst (((List.range n).map (bM T2)).map .int))):=by
    refine (q5 (ao (bL rfl rfl (bo t6) (ee (by rw [List.getElem?_map,List.getElem?_set_ne (Nat.ne_of_gt hi),List.getElem?_map,List.getElem?_range (Nat.lt_trans hi h1)];rfl))) rfl rfl) rfl rfl t6 (rq (by rw [List.length_map,List.length_set,ln];exact Nat.lt_trans hi h1))).trans ?_
    rw [List.set_set,hT2,yc h1 hi htt,List.map_set,List.map_set,List.map_set]
  have ne:∀ {k:Nat},1≠k→4≠k→((h4.set 1 (.lst (T2.map bS))).set 4 (.lst (((List.range n).map (bM T2)).map .int)))[k]? = h4[k]? := fun a b=>(List.getElem?_set_ne b).trans (List.getElem?_set_ne a)
  exact⟨_,_,(jp (aW (ao (av (ag rfl (ag rfl rfl)) d1) rfl rfl))).trans ((aC s1).trans ((aC s2).trans ((aC s3).trans s4))),.mk ⟨(List.getElem?_set_ne (by decide)).trans (dD _ P4.ti),(ne (by decide) (by decide)).trans P4.ba,(ne (by decide) (by decide)).trans P4.st,dD _ t5,by rw [List.length_set,List.length_set];exact P4.len,P.lb,P.ls,P.os⟩ O2 ((ne (ne5 one (by decide)).symm (ne5 one (by decide)).symm).trans g4)⟩
theorem rA {n one thin:Nat}{lit:D}(h1:one < n)(hn:n≤30)(ht:1≤thin∧thin≤5){T:List Tie}{bs:List (Int × Int)}{ss:List (Option Int)}{h:Hd}{hd a b:Option D}{c t:Int}{m:Bool}(P:PH n (one + 1) T bs ss h)(O:TOk n one 0 T)(hs:h[5 + one]? = some (SC c t m)) :
    ∃ σ' h',dY none ((List.range one).map fun k:Nat=>D.int k) (gN 10) eX ((List.range one).map fun k:Nat=>D.int k) (XP lit hd n thin one a b) h=.nx σ' h'∧PI lit hd n thin one bs ss m one σ' h':=by
  have z:=fI (P:=PI lit hd n thin one bs ss m)
    (g:=none) (k:=0) (all:=(List.range one).map fun k:Nat=>D.int k) (fun _ _ _ _=>trivial) (xs:=(List.range one).map fun k:Nat=>D.int k) (tg:=gN 10) (b:=eX)
    (σ:=XP lit hd n thin one a b) (h:=h) (by
      intro i x σ h0 hx z
      obtain⟨hi,rfl⟩:=fO hx
      rw [Nat.zero_add] at z ⊢
      obtain⟨P,O,hs⟩:=z
      refine⟨_,rfl,?_⟩
      obtain⟨v1,c1,t1,d1,-,-⟩:=bT (m:=thin) hs (Int.natCast_pos.mpr ht.1) (Int.le_trans (Int.ofNat_le.mpr ht.2) (by decide))
      by_cases e:v1=0
      · rw [e] at d1
        exact vX h1 hn hi P O hs d1
      · exact⟨_,_,bQ (aW (ao (av (ag rfl (ag rfl rfl)) d1) rfl (Ad e))),.mk (P.keep _) O.skip (dD _ hs)⟩) (.mk P O hs)
  rwa [Nat.zero_add,List.length_map,List.length_range] at z
end Fm
set_option linter.all false
namespace Fm
noncomputable abbrev XQ (lit:D) (hd:Option D) (n thin:Nat) (a b c d:Option D):Sd:=[some lit,hd,some (.int n),some (.int thin),some (.ref 1),some (.ref 2),some (.ref 3),some (.ref 4),a,b,c,d]
theorem BI {u:Option Int}(h:u∈[none,none,none,some 0,some 1]):u=none∨u=some 0∨u=some 1:=by
  simp at h;exact h
inductive PO (ns:List Int) (hd:Option D) (n thin:Nat):Nat→Sd→Hd→Prop
  | mk {i:Nat} {h:Hd} {a b c d:Option D} {T:List Tie} {bs:List (Int × Int)} {ss:List (Option Int)} (P:PH n i T bs ss h) (O:TOk n i 0 T):PO ns hd n thin i (XQ (.lit (ns.map .int)) hd n thin a b c d) h
theorem ul {n i thin:Nat}{ns:List Int}{hd b c d:Option D}(hi:i < n)(hn:n≤30)(ht:1≤thin∧thin≤5){T:List Tie}{bs:List (Int × Int)}{ss:List (Option Int)}{h0:Hd}(P:PH n i T bs ss h0)(O:TOk n i 0 T) :
    ∃ σ' h',dU (XQ (.lit (ns.map .int)) hd n thin (some (.int i)) b c d) h0=.nx σ' h'∧PO ns hd n thin (i + 1) σ' h':=by
  obtain⟨c0,m,q0⟩:=jx ns (1 + i) h0
  rw [P.len] at q0
  obtain⟨h1,hh1⟩ : ∃ h1,h1=h0++[SC c0 0 m]:=⟨_,rfl⟩
  have g1:h1[5 + i]? = some (SC c0 0 m):=by rw [hh1,← P.len];exact List.getElem?_concat_length
  have L1:h1.length=5 + i + 1:=by rw [hh1,List.length_append,P.len];rfl
  have old:∀ {j:Nat} {cc:eS},h0[j]? = some cc→h1[j]? = some cc:=fun e=>by rw [hh1];exact dj _ e
  have s1:aG (gN 9) (am bj (ae (aa 0) (ae (aq cF (fC (.int 1)) (aa 8)) ax))) (XQ (.lit (ns.map .int)) hd n thin (some (.int i)) b c d) h0
      = .nx (XQ (.lit (ns.map .int)) hd n thin (some (.int i)) (some (.ref (5 + i))) c d) h1:=by
    rw [hh1];exact aN (av (ag rfl (ag rfl rfl)) q0)
  obtain⟨v1,c1,t1,d1,v10,v11⟩:=bT (m:=5) g1 (by decide) (by decide)
  obtain⟨u,hu,pu⟩:=p9 bu [none,none,none,some 0,some 1] v10 v11
  have pu:atI [D.non,.non,.non,.int 0,.int 1] v1=some (bu u):=pu
  have lss:(ss.map bu).length < SZ:=by rw [List.length_map,P.ls];exact Nat.lt_trans hi (Nat.lt_of_le_of_lt hn (by decide))
  have lbs:(bs.map vW).length < SZ:=by rw [List.length_map,P.lb];exact Nat.lt_trans hi (Nat.lt_of_le_of_lt hn (by decide))
  have a2:(h1.set (5 + i) (SC c1 t1 m))[3]? = some (.lst (ss.map bu)):=(List.getElem?_set_ne (ne5 i (by decide))).trans (old P.st)
  obtain⟨h2,hh2⟩ : ∃ h2,h2=(h1.set (5 + i) (SC c1 t1 m)).set 3 (.lst (ss.map bu++[bu u])):=⟨_,rfl⟩
  have s2:iD (ny (aa 6) (fIx (ae (fC .non) (ae (fC .non) (ae (fC .non) (ae (fC (.int 0)) (ae (fC (.int 1)) ax))))) (am ay (ae (aa 9) (ae (fC (.int 5)) ax))))) (XQ (.lit (ns.map .int)) hd n thin (some (.int i)) (some (.ref (5 + i))) c d) h1
      = .nx (XQ (.lit (ns.map .int)) hd n thin (some (.int i)) (some (.ref (5 + i))) c d) h2:=by
    rw [hh2];exact j9 (Ac rfl (old P.st) (iJ (ag rfl (ag rfl (ag rfl (ag rfl (ag rfl rfl))))) (av (ag rfl (ag rfl rfl)) d1) pu) a2 lss)
  have g2:h2[5 + i]? = some (SC c1 t1 m):=by rw [hh2];exact (List.getElem?_set_ne (ne5 i (by decide)).symm).trans (dD _ g1)
  obtain⟨v2,c2,t2,d2,v20,v21⟩:=bT (m:=5) g2 (by decide) (by decide)
  obtain⟨v3,c3,t3,d3,v30,v31⟩:=bT (m:=200) (dD (SC c2 t2 m) g2) (by decide) (by decide)
  rw [List.set_set] at d3
  have ne2:∀ {j:Nat} {cc:eS},j < 5→3≠j→h1[j]? = some cc→h2[j]? = some cc:=fun a b e=>by rw [hh2];exact (List.getElem?_set_ne b).trans ((List.getElem?_set_ne (ne5 i a)).trans e)
  have a3:(h2.set (5 + i) (SC c3 t3 m))[2]? = some (.lst (bs.map vW)):=(List.getElem?_set_ne (ne5 i (by decide))).trans (ne2 (by decide) (by decide) (old P.ba))
  obtain⟨h4,hh4⟩ : ∃ h4,h4=(h2.set (5 + i) (SC c3 t3 m)).set 2 (.lst (bs.map vW++[vW (v2,v3)])):=⟨_,rfl⟩
  have s3:iD (ny (aa 5) (eZ (ae (am ay (ae (aa 9) (ae (fC (.int 5)) ax))) (ae (am ay (ae (aa 9) (ae (fC (.int 200)) ax))) ax)))) (XQ (.lit (ns.map .int)) hd n thin (some (.int i)) (some (.ref (5 + i))) c d) h2
      = .nx (XQ (.lit (ns.map .int)) hd n thin (some (.int i)) (some (.ref (5 + i))) c d) h4:=by
    rw [hh4];exact j9 (Ac rfl (ne2 (by decide) (by decide) (old P.ba)) (d8 (ag (av (ag rfl (ag rfl rfl)) d2) (ag (av (ag rfl (ag rfl rfl)) d3) rfl)) (by exact of_decide_eq_true rfl)) a3 lbs)
  have ne4:∀ {j:Nat} {cc:eS},j < 5→2≠j→h2[j]? = some cc→h4[j]? = some cc:=fun a b e=>by rw [hh4];exact (List.getElem?_set_ne b).trans ((List.getElem?_set_ne (ne5 i a)).trans e)
  have P4:PH n (i + 1) T (bs++[(v2,v3)]) (ss++[u]) h4:=by
    refine⟨ne4 (by decide) (by decide) (ne2 (by decide) (by decide) (old P.ti)),?_,?_,ne4 (by decide) (by decide) (ne2 (by decide) (by decide) (old P.to)),?_,by rw [List.length_append,P.lb];rfl,by rw [List.length_append,P.ls];rfl,fun y hy => ?_⟩
    · rw [hh4,List.map_append];exact dD _ a3
    · refine ne4 (by decide) (by decide) ?_
      rw [hh2,List.map_append];exact dD _ a2
    · rw [hh4,List.length_set,List.length_set,hh2,List.length_set,List.length_set,L1];rfl
    · rcases List.mem_append.mp hy with hy|hy
      · exact P.os y hy
      · rw [List.mem_singleton.mp hy]
        exact BI hu
  have g4:h4[5 + i]? = some (SC c3 t3 m):=by rw [hh4];exact (List.getElem?_set_ne (ne5 i (by decide)).symm).trans (dD _ g2)
  obtain⟨_,h5,q1,⟨q2,q3,-⟩⟩:=rA (lit:=.lit (ns.map .int)) (hd:=hd) (a:=c) (b:=d) hi hn ht P4 O g4
  exact⟨_,h5,(aC s1).trans ((aC s2).trans ((aC s3).trans (ka (fJ rfl (Nat.le_trans (Nat.le_of_lt hi) (Nat.le_trans hn (by decide)))) q1))),.mk q2 (q3.step hi hn)⟩
theorem rC {n thin:Nat}{ns:List Int}{hd:Option D}(hn:n≤30)(ht:1≤thin∧thin≤5){h:Hd}(P:PH n 0 [] [] [] h) :
    ∃ σ' h',dY none ((List.range n).map fun k:Nat=>D.int k) (gN 8) dU ((List.range n).map fun k:Nat=>D.int k)
      (XQ (.lit (ns.map .int)) hd n thin none none none none) h=.nx σ' h'∧PO ns hd n thin n σ' h':=by
  have z:=fI (P:=PO ns hd n thin)
    (g:=none) (k:=0) (all:=(List.range n).map fun k:Nat=>D.int k) (fun _ _ _ _=>trivial) (xs:=(List.range n).map fun k:Nat=>D.int k) (tg:=gN 8) (b:=dU)
    (σ:=XQ (.lit (ns.map .int)) hd n thin none none none none) (h:=h) (by
      intro i x σ h0 hx z
      obtain⟨hi,rfl⟩:=fO hx
      rw [Nat.zero_add] at z ⊢
      obtain⟨P,O⟩:=z
      exact⟨_,rfl,ul hi hn ht P O⟩) (.mk P ⟨by simp,by simp,by simp,by simp,.nil,by simp⟩)
  rwa [Nat.zero_add,List.length_map,List.length_range] at z
theorem FA {v mo:Int}(h0:0≤v)(h1:v < mo)(h2:mo≤30):∃ n:Nat,(n:Int)=1 + v∧1≤n∧n≤30:=⟨(1 + v).toNat,by omega⟩
theorem Cs (n:Nat):(List.replicate n [D.int 0]).flatten=((List.range n).map (bM [])).map D.int:=by
  have l1:(List.replicate n [D.int 0]).flatten=List.replicate n (D.int 0):=by
    induction n with
    | zero=>rfl
    | succ n ih=>rw [List.replicate_succ,List.replicate_succ,List.flatten_cons,ih];rfl
  rw [l1]
  apply List.ext_getElem?
  intro i
  by_cases hi:i < n<;>simp [hi,bM]
theorem um (i:Nat):∀ l:List Tie,(∀ t∈l,1≤t.w∧t.w≤400)→0≤bM l i
  | [],_=>Int.le_refl _
  | t :: l,hl=>by
    have h2:=um i l fun s hs=>hl s (List.mem_cons_of_mem _ hs)
    refine Int.add_nonneg ?_ h2
    unfold wOf
    split
    · exact Int.le_trans (by decide) (hl t List.mem_cons_self).1
    · exact Int.le_refl _
theorem xn:∀ ds:List D,(∀ d∈ds,∃ v:Int,d=.int v) → ∃ bs:List Int,ds=bs.map D.int
  | [],_=>⟨[],rfl⟩
  | d :: ds,h=>by
    obtain⟨v,hv⟩:=h d List.mem_cons_self
    obtain⟨bs,hb⟩:=xn ds fun x hx=>h x (List.mem_cons_of_mem _ hx)
    exact⟨v :: bs,by rw [hv,hb];rfl⟩
structure DU (ns:List Int) (n:Nat) (T:List Tie) (bs:List Int) (ss:List (Option Int)) (h:Hd):Prop where
  run:dk [.lit (ns.map .int)] []=.ok (.tup [.int n,.ref 1,.ref (5 + n),.ref 3,.ref 4]) h
  n1:1≤n
  n30:n≤30
  ok:TOk n n 0 T
  ti:h[1]? = some (.lst (T.map bS))
  ba:h[5 + n]? = some (.lst (bs.map .int))
  st:h[3]? = some (.lst (ss.map bu))
  to:h[4]? = some (.lst (((List.range n).map (bM T)).map .int))
  len:h.length=6 + n
  lb:bs.length=n
  ls:ss.length=n
  os:∀ x∈ss,x=none∨x=some 0∨x=some 1
theorem yd (ns:List Int):∃ n T bs ss h,DU ns n T bs ss h:=by
  obtain⟨c0,m,q0⟩:=jx ns 0 []
  have q0:bj [.lit (ns.map .int),.int 0] []=.ok (.ref 0) [.lst [.int c0,.int 0,.bl m]]:=q0
  obtain⟨v1,c1,t1,d1,-,-⟩:=bT (h:=[SC c0 0 m]) (n:=0) (m:=2) rfl (by decide) (by decide)
  obtain⟨v2,c2,t2,d2,v20,v21⟩:=bT (h:=[SC c1 t1 m]) (n:=0) (m:=3) rfl (by decide) (by decide)
  obtain⟨mo,hmo,pm⟩:=p9 D.int [6,12,30] v20 v21
  have pm:atI [D.int 6,.int 12,.int 30] v2=some (.int mo):=pm
  have mo1:0 < mo∧mo≤30:=by simp at hmo;rcases hmo with rfl|rfl|rfl<;>decide
  obtain⟨v3,c3,t3,d3,v30,v31⟩:=bT (h:=[SC c2 t2 m]) (n:=0) (m:=mo) rfl mo1.1 (Int.le_trans mo1.2 (by decide))
  obtain⟨v4,c4,t4,d4,v40,v41⟩:=bT (h:=[SC c3 t3 m]) (n:=0) (m:=3) rfl (by decide) (by decide)
  obtain⟨th,hth,pth⟩:=p9 D.int [1,2,5] v40 v41
  have pth:atI [D.int 1,.int 2,.int 5] v4=some (.int th):=pth
  obtain⟨thin,hthin,th1⟩ : ∃ thin:Nat,(thin:Int)=th∧1≤thin∧thin≤5:=by
    simp at hth
    rcases hth with rfl|rfl|rfl
    · exact⟨1,rfl,by decide⟩
    · exact⟨2,rfl,by decide⟩
    · exact⟨5,rfl,by decide⟩
  obtain⟨n,hn,n1,n30⟩:=FA v30 v31 mo1.2
  obtain⟨h8,hh8⟩ : ∃ h8:Hd,h8=[.lst [.int c4,.int t4,.bl m],.lst [],.lst [],.lst [],.lst (((List.range n).map (bM [])).map .int)]:=⟨_,rfl⟩
  have P0:PH n 0 [] [] [] h8:=⟨by rw [hh8];rfl,by rw [hh8];rfl,by rw [hh8];rfl,by rw [hh8];rfl,by rw [hh8];rfl,rfl,rfl,by simp⟩
  obtain⟨_,h9,k9,@⟨_,a,b,c,d,T,bp,ss,P9,O9⟩⟩:=rC (ns:=ns) (hd:=some (.ref 0)) n30 th1 P0
  have tn:∀ i,0≤bM T i:=fun i=>um i T O9.wt
  obtain⟨ds,h10,k10,l10,v10,σ10,q10,hh10⟩:=i5 (g:=none) (all:=(List.range n).map fun k:Nat=>D.int k) (tg:=gN 0) (xs:=(List.range n).map fun k:Nat=>D.int k) (k:=0)
    (e:=am c9 (ae (fAt (fAt (aa 2) (aa 0)) (fC (.int 0))) (ae (fAt (fAt (aa 2) (aa 0)) (fC (.int 1))) (ae (fAt (aa 1) (aa 0)) ax)))) (σ:=[none,some (.ref 4),some (.ref 2)]) (h:=h9)
    (P:=fun i σ h=>(∃ a,σ = [a,some (.ref 4),some (.ref 2)])∧h=h9) (V:=fun i d=>∃ v:Int,d=.int v) (fun _ _ _ _=>trivial) (by
      rintro i x σ h0 hx ⟨⟨a,rfl⟩,rfl⟩
      obtain⟨hi,rfl⟩:=fO hx
      have hb:i < bp.length:=by rw [P9.lb];exact hi
      have e1:atI (bp.map vW) (i:Int)=some (vW bp[i]):=lD hb
      have e2:atI (((List.range n).map (bM T)).map D.int) (i:Int)=some (.int (bM T i)):=ee (by rw [List.getElem?_map,List.getElem?_map,List.getElem?_range hi];rfl)
      obtain⟨v,hv⟩:=DT bp[i].1 bp[i].2 (bM T i) (tn i) h0
      refine⟨_,rfl,.int v,h0,?_,⟨v,rfl⟩,⟨_,rfl⟩,rfl⟩
      exact av (ag (bL (bL rfl rfl (bo P9.ba) e1) rfl rfl rfl) (ag (bL (bL rfl rfl (bo P9.ba) e1) rfl rfl rfl) (ag (bL rfl rfl (bo P9.to) e2) rfl))) hv) ⟨⟨_,rfl⟩,rfl⟩
  subst hh10
  simp only [List.length_map,List.length_range] at l10
  obtain⟨bs,hbs⟩:=xn ds fun d hd=>by obtain⟨i,hi⟩:=List.getElem?_of_mem hd;exact v10 i d hi
  subst hbs
  simp only [List.length_map] at l10
  have L9:=P9.len
  refine⟨n,T,bs,ss,h10++[.lst (bs.map .int)],?_,n1,n30,O9,?_,?_,?_,?_,by rw [List.length_append,L9];exact Nat.add_right_comm 5 n 1,l10,P9.ls,P9.os⟩
  · have s1:aG (gN 1) (am bj (ae (aa 0) (ae (fC (.int 0)) ax))) [some (.lit (ns.map .int)),none,none,none,none,none,none,none,none,none,none,none] []=.nx [some (.lit (ns.map .int)),some (.ref 0),none,none,none,none,none,none,none,none,none,none] [.lst [.int c0,.int 0,.bl m]]:=aN (av (ag rfl (ag rfl rfl)) q0)
    have s2:iD (am ay (ae (aa 1) (ae (fC (.int 2)) ax))) [some (.lit (ns.map .int)),some (.ref 0),none,none,none,none,none,none,none,none,none,none] [.lst [.int c0,.int 0,.bl m]]=.nx [some (.lit (ns.map .int)),some (.ref 0),none,none,none,none,none,none,none,none,none,none] [.lst [.int c1,.int t1,.bl m]]:=j9 (av (ag rfl (ag rfl rfl)) d1)
    have s3:aG (gN 2) (aq cF (fC (.int 1)) (am ay (ae (aa 1) (ae (fIx (ae (fC (.int 6)) (ae (fC (.int 12)) (ae (fC (.int 30)) ax))) (am ay (ae (aa 1) (ae (fC (.int 3)) ax)))) ax)))) [some (.lit (ns.map .int)),some (.ref 0),none,none,none,none,none,none,none,none,none,none] [.lst [.int c1,.int t1,.bl m]]=.nx [some (.lit (ns.map .int)),some (.ref 0),some (.int n),none,none,none,none,none,none,none,none,none] [.lst [.int c3,.int t3,.bl m]]:=by
      rw [hn];exact aN (ao rfl (av (ag rfl (ag (iJ (ag rfl (ag rfl (ag rfl rfl))) (av (ag rfl (ag rfl rfl)) d2) pm) rfl)) d3) rfl)
    have s4:aG (gN 3) (fIx (ae (fC (.int 1)) (ae (fC (.int 2)) (ae (fC (.int 5)) ax))) (am ay (ae (aa 1) (ae (fC (.int 3)) ax)))) [some (.lit (ns.map .int)),some (.ref 0),some (.int n),none,none,none,none,none,none,none,none,none] [.lst [.int c3,.int t3,.bl m]]=.nx [some (.lit (ns.map .int)),some (.ref 0),some (.int n),some (.int thin),none,none,none,none,none,none,none,none] [.lst [.int c4,.int t4,.bl m]]:=by
      rw [hthin];exact aN (iJ (ag rfl (ag rfl (ag rfl rfl))) (av (ag rfl (ag rfl rfl)) d4) pth)
    have s5:aG (gN 4) (cZ ax) [some (.lit (ns.map .int)),some (.ref 0),some (.int n),some (.int thin),none,none,none,none,none,none,none,none] [.lst [.int c4,.int t4,.bl m]]=.nx [some (.lit (ns.map .int)),some (.ref 0),some (.int n),some (.int thin),some (.ref 1),none,none,none,none,none,none,none] [.lst [.int c4,.int t4,.bl m],.lst []]:=rfl
    have s6:aG (gN 5) (cZ ax) [some (.lit (ns.map .int)),some (.ref 0),some (.int n),some (.int thin),some (.ref 1),none,none,none,none,none,none,none] [.lst [.int c4,.int t4,.bl m],.lst []]=.nx [some (.lit (ns.map .int)),some (.ref 0),some (.int n),some (.int thin),some (.ref 1),some (.ref 2),none,none,none,none,none,none] [.lst [.int c4,.int t4,.bl m],.lst [],.lst []]:=rfl
    have s7:aG (gN 6) (cZ ax) [some (.lit (ns.map .int)),some (.ref 0),some (.int n),some (.int thin),some (.ref 1),some (.ref 2),none,none,none,none,none,none] [.lst [.int c4,.int t4,.bl m],.lst [],.lst []]=.nx [some (.lit (ns.map .int)),some (.ref 0),some (.int n),some (.int thin),some (.ref 1),some (.ref 2),some (.ref 3),none,none,none,none,none] [.lst [.int c4,.int t4,.bl m],.lst [],.lst [],.lst []]:=rfl
    have s8:aG (gN 7) (cZ (vI (ae (fC (.int 0)) ax) (aa 2))) [some (.lit (ns.map .int)),some (.ref 0),some (.int n),some (.int thin),some (.ref 1),some (.ref 2),some (.ref 3),none,none,none,none,none] [.lst [.int c4,.int t4,.bl m],.lst [],.lst [],.lst []]=.nx [some (.lit (ns.map .int)),some (.ref 0),some (.int n),some (.int thin),some (.ref 1),some (.ref 2),some (.ref 3),some (.ref 4),none,none,none,none] h8:=by
      rw [hh8,← Cs n]
      have rp:vI (ae (fC (.int 0)) ax) (aa 2) (XQ (.lit (ns.map .int)) (some (.ref 0)) n thin none none none none |>.set 7 none) [SC c4 t4 m,.lst [],.lst [],.lst []]=.ok (List.replicate n [D.int 0]).flatten [SC c4 t4 m,.lst [],.lst [],.lst []]:=DP (l:=[.int 0]) rfl rfl ⟨Int.natCast_nonneg n,Int.le_trans (Int.ofNat_le.mpr n30) (by decide),by rw [Int.toNat_natCast];exact Nat.le_trans (Nat.le_of_eq (Nat.one_mul n)) (Nat.le_trans n30 (by decide))⟩
      exact aN (mj rp (by rw [Cs,List.length_map,List.length_map,List.length_range];exact Nat.le_trans n30 (by decide)))
    have s9:jY (cW (aa 2)) (gN 8) dU [some (.lit (ns.map .int)),some (.ref 0),some (.int n),some (.int thin),some (.ref 1),some (.ref 2),some (.ref 3),some (.ref 4),none,none,none,none] h8=.nx [some (.lit (ns.map .int)),some (.ref 0),some (.int n),some (.int thin),some (.ref 1),some (.ref 2),some (.ref 3),some (.ref 4),a,b,c,d] h10:=ka (fJ rfl (Nat.le_trans n30 (by decide))) k9
    have s10:aG (gN 5) (cZ (bA 1 [7,5] (cW (aa 2)) (gN 0) [] (am c9 (ae (fAt (fAt (aa 2) (aa 0)) (fC (.int 0))) (ae (fAt (fAt (aa 2) (aa 0)) (fC (.int 1))) (ae (fAt (aa 1) (aa 0)) ax)))))) [some (.lit (ns.map .int)),some (.ref 0),some (.int n),some (.int thin),some (.ref 1),some (.ref 2),some (.ref 3),some (.ref 4),a,b,c,d] h10=.nx [some (.lit (ns.map .int)),some (.ref 0),some (.int n),some (.int thin),some (.ref 1),some (.ref (5 + n)),some (.ref 3),some (.ref 4),a,b,c,d] (h10++[.lst (bs.map .int)]):=by
      rw [← L9]
      exact aN (mj (cD (fJ rfl (Nat.le_trans n30 (by decide))) k10) (by rw [List.length_map,l10];exact Nat.le_trans n30 (by decide)))
    have s11:bc (eZ (ae (aa 2) (ae (aa 4) (ae (aa 5) (ae (aa 6) (ae (aa 7) ax)))))) [some (.lit (ns.map .int)),some (.ref 0),some (.int n),some (.int thin),some (.ref 1),some (.ref (5 + n)),some (.ref 3),some (.ref 4),a,b,c,d] (h10++[.lst (bs.map .int)])=.rt (.tup [.int n,.ref 1,.ref (5 + n),.ref 3,.ref 4]) (h10++[.lst (bs.map .int)]):=bn (d8 (ag rfl (ag rfl (ag rfl (ag rfl (ag rfl rfl))))) (by exact of_decide_eq_true rfl))
    have st:([D.lit (ns.map .int)].map some++List.replicate (12 - [D.lit (ns.map .int)].length) none:Sd)=[some (.lit (ns.map .int)),none,none,none,none,none,none,none,none,none,none,none]:=rfl
    unfold dk bz runB
    rw [if_pos (show [D.lit (ns.map .int)].length=1 from rfl),st,aC s1,aC s2,aC s3,aC s4,aC s5,aC s6,aC s7,aC s8,aC s9,aC s10,s11]
    simp [letGo,pure?,eT]
  · exact dj _ P9.ti
  · rw [← L9];exact List.getElem?_concat_length
  · exact dj _ P9.st
  · exact dj _ P9.to
end Fm
set_option linter.all false
namespace Fm
theorem dw {α : Type}{f : α → D}:∀ {l:List α},(∀ x∈l,pure? (f x)=true)→eT (l.map f)=true
  | [],_=>rfl
  | x :: l,h=>by
    simp only [List.map_cons,eT,Bool.and_eq_true]
    exact⟨h x (by simp),dw fun y hy=>h y (by simp [hy])⟩
theorem Aq (w:Web):pure? w.enc=true:=by
  have h1:∀ r:List (Nat × Int),pure? (qX r)=true:=fun r=>by
    unfold qX
    simp only [pure?]
    exact dw fun p _=>rfl
  have h2:eT (w.ties.map qX)=true:=dw fun r _=>h1 r
  have h3:eT (w.bars.map D.int)=true:=dw fun r _=>rfl
  have h4:eT (w.stays.map bu)=true:=dw fun r _=>by cases r<;>rfl
  unfold Web.enc
  simp only [pure?,eT,h2,h3,h4]
  rfl
def mw (p:Nat × Int):List Int:=[(p.1:Int),p.2]
def vY (x:Nat × Int):List (Nat × Int)→List (Nat × Int)
  | []=>[x]
  | y :: r=>if bJ (mw x) (mw y)=true then x :: y :: r else y :: vY x r
def gG:List (Nat × Int)→List (Nat × Int)
  | []=>[]
  | x :: r=>vY x (gG r)
theorem uo (x:Nat × Int):∀ r,(vY x r).map mw=qR (mw x) (r.map mw)
  | []=>rfl
  | y :: r=>by
    simp only [vY,qR,List.map_cons]
    split
    · rfl
    · simp [uo x r]
theorem qa:∀ r,(gG r).map mw=b9 (r.map mw)
  | []=>rfl
  | x :: r=>by simp only [gG,b9,List.map_cons,uo,qa r]
theorem up {x p:Nat × Int}:∀ {r},p∈vY x r ↔ p=x∨p∈r
  | []=>by simp [vY]
  | y :: r=>by
    simp only [vY]
    split
    · simp
    · simp only [List.mem_cons,up (r:=r)]
      constructor
      · rintro (h|h|h)
        · exact .inr (.inl h)
        · exact .inl h
        · exact .inr (.inr h)
      · rintro (h|h|h)
        · exact .inr (.inl h)
        · exact .inl h
        · exact .inr (.inr h)
theorem qb {p:Nat × Int}:∀ {r},p∈gG r ↔ p∈r
  | []=>by simp [gG]
  | x :: r=>by simp only [gG,up,qb (r:=r),List.mem_cons]
def nbs (T:List Tie) (i:Nat):List (Nat × Int):=T.filterMap fun t=>(far i t).map fun j=>(j,t.w)
def kW (p:Nat × Int):Int × D:=((p.1:Int),.int p.2)
theorem Ar (T:List Tie)(t:Tie)(i:Nat):nbs (T++[t]) i=nbs T i++(match far i t with|some j=>[(j,t.w)] | none=>[]):=by
  unfold nbs
  rw [List.filterMap_append]
  congr 1
  cases e:far i t<;>simp [e]
theorem ye {l:List (Nat × Int)}{k:Nat}(h:∀ p∈l,p.1≠k):l7 (l.map kW) k=none:=by
  unfold l7
  rw [List.find?_eq_none.mpr]
  · rfl
  · intro x hx
    obtain⟨p,hp,rfl⟩:=List.mem_map.mp hx
    have hne:=h p hp
    have : ¬ ((p.1:Int)=(k:Int)):=fun z=>hne (by omega)
    show ¬ (decide ((p.1:Int)=(k:Int))=true)
    rw [decide_eq_true_eq]
    exact this
theorem uq {l:List (Nat × Int)}{k:Nat}{v:Int}(h:∀ p∈l,p.1≠k):vF (l.map kW) k (.int v)=(l++[(k,v)]).map kW:=by
  unfold vF
  rw [if_neg]
  · simp [kW]
  · simp only [List.any_eq_true,List.mem_map,decide_eq_true_eq]
    rintro⟨x,⟨p,hp,rfl⟩,e⟩
    have hne:=h p hp
    have e:(p.1:Int)=(k:Int):=e
    exact hne (by omega)
theorem ur {i j:Nat}{t:Tie}(h:far i t=some j):(t.a=i∧t.b=j)∨(t.b=i∧t.a=j):=by
  unfold far at h
  by_cases a:t.a=i
  · rw [if_pos a] at h;exact .inl ⟨a,Option.some.inj h⟩
  · rw [if_neg a] at h
    by_cases b:t.b=i
    · rw [if_pos b] at h;exact .inr ⟨b,Option.some.inj h⟩
    · rw [if_neg b] at h;cases h
theorem vZ {T:List Tie}{t:Tie}{i j:Nat}(hf:far i t=some j)(un:∀ s∈T,gb s t):∀ p∈nbs T i,p.1≠j:=fun p hp e=>by
  obtain⟨s,hs,q⟩:=List.mem_filterMap.mp hp
  obtain⟨k,hk,rfl⟩:=Option.map_eq_some_iff.mp q
  have u:=un s hs
  rw [show k=j from e] at hk
  rcases ur hf with ⟨a1,a2⟩|⟨a1,a2⟩<;>rcases ur hk with ⟨b1,b2⟩|⟨b1,b2⟩
  · exact u.1 ⟨b1.trans a1.symm,b2.trans a2.symm⟩
  · exact u.2 ⟨b2.trans a2.symm,b1.trans a1.symm⟩
  · exact u.2 ⟨b1.trans a1.symm,b2.trans a2.symm⟩
  · exact u.1 ⟨b2.trans a2.symm,b1.trans a1.symm⟩
theorem yf {n:Nat}{t:Tie}(h1:t.a≠t.b)(h2:t.a < n)(h3:t.b < n)(h4:1≤t.w∧t.w≤400)(h:Hd):hX [.int n,bS t] h=.ok (.bl true) h:=by
  have e1:(t.a:Int)≤n - 1:=Int.le_sub_one_of_lt (Int.ofNat_lt.mpr h2)
  have e2:(t.b:Int)≤n - 1:=Int.le_sub_one_of_lt (Int.ofNat_lt.mpr h3)
  have e3 : ¬ (t.a:Int)=t.b:=fun z=>h1 (Int.ofNat.inj z)
  have bt:∀ {i a b:Int},a≤i→i≤b→aR [.int i,.int a,.int b] h=.ok (.bl true) h:=fun x y=>by rw [eM,decide_eq_true x,decide_eq_true y];rfl
  have s1:sIf (tOr (bD (tE (cC .tuple (aa 1)))) (tE (aq oNe (cV (lOf (aa 1))) (fC (.int 3))))) (bc (fC (.bl false))) a7 [some (.int n),some (bS t),none,none] h=.nx [some (.int n),some (bS t),none,none] h:=bQ (ed (bB (b:=true) (aW rfl)) (aW (ao (cb (bZ rfl rfl)) rfl rfl)))
  have s4:sIf (tOr (bD (tE (am aR (ae (aa 2) (ae (fC (.int 0)) (ae (aq xJ (aa 0) (fC (.int 1))) ax)))))) (bD (tE (am aR (ae (aa 3) (ae (fC (.int 0)) (ae (aq xJ (aa 0) (fC (.int 1))) ax))))))) (bc (fC (.bl false))) a7 [some (.int n),some (bS t),some (.int t.a),some (.int t.b)] h=.nx [some (.int n),some (bS t),some (.int t.a),some (.int t.b)] h:=bQ (ed (bB (b:=true) (aW (av (ag rfl (ag rfl (ag (ao rfl rfl rfl) rfl))) (bt (Int.natCast_nonneg _) e1)))) (bB (b:=true) (aW (av (ag rfl (ag rfl (ag (ao rfl rfl rfl) rfl))) (bt (Int.natCast_nonneg _) e2)))))
  have s5:bc (fT (gO (tE (aq oNe (aa 2) (aa 3))) (tE (am aR (ae (fAt (aa 1) (fC (.int 2))) (ae (fC (.int 1)) (ae (fC (.int 400)) ax))))))) [some (.int n),some (bS t),some (.int t.a),some (.int t.b)] h=.rt (.bl true) h:=bn (kG (i6 (aW (ao rfl rfl (by rw [e9,decide_eq_false e3];rfl))) (aW (av (ag (bL rfl rfl rfl rfl) (ag rfl (ag rfl rfl))) (bt h4.1 h4.2)))))
  exact (cE rfl rfl ((aF s1).trans ((aF (aN (bL rfl rfl rfl rfl))).trans ((aF (aN (bL rfl rfl rfl rfl))).trans ((aF s4).trans s5))))).trans aT
structure NH (n A:Nat) (h0:Hd) (T:List Tie) (h:Hd):Prop where
  pre:∃ g,h=h0++g∧g.length=n + 1
  dc:∀ j,j < n→h[A + j]? = some (.dct ((nbs T j).map kW))
  rf:h[A + n]? = some (.lst ((List.range n).map fun i=>.ref (A + i)))
theorem NH.put {n A:Nat}{h0:Hd}{T:List Tie}{h:Hd}(hA:A=h0.length)(N:NH n A h0 T h){j:Nat}(hj:j < n)(c:eS):(∃ g,h.set (A + j) c=h0++g∧g.length=n + 1)∧(h.set (A + j) c)[A + j]? = some c∧(∀ k,k≠j→(h.set (A + j) c)[A + k]? = h[A + k]?):=by
  obtain⟨g,e,l⟩:=N.pre
  have lt:=(List.getElem?_eq_some_iff.mp (N.dc j hj)).1
  exact⟨⟨g.set j c,by rw [e,lA hA],by rw [List.length_set];exact l⟩,List.getElem?_set_self lt,fun k hk=>List.getElem?_set_ne fun z=>hk (Nat.add_left_cancel z).symm⟩
def SNx (a b:SF):Prop:=∀ {σ h σ' h'},a σ h=.nx σ' h'→b σ h=.nx σ' h'
theorem SNx.refl {a:SF}:SNx a a:=fun e=>e
theorem At {n i j:Nat}{T:List Tie}(hn:n≤30)(O:TOk n n 0 T):((nbs (T.take i) j).map kW).length < SZ:=by
  rw [List.length_map]
  exact Nat.lt_of_le_of_lt (Nat.le_trans (List.length_filterMap_le _ _) (Nat.le_trans (List.length_take_le' _ _) (Nat.le_trans O.len (Nat.add_le_add_right (Nat.mul_le_mul_left 30 hn) 0)))) (by decide)
noncomputable abbrev XN (n tk A:Nat) (a b c:Option D):Sd:=[some (.int n),some (.ref tk),some (.ref (A + n)),a,b,c]
theorem BJ {n A tk i:Nat}(hn:n≤30){T:List Tie}(O:TOk n n 0 T){h h0:Hd}(hA:A=h.length)(N:NH n A h (T.take i) h0){t:Tie}(mt:t∈T)(un:∀ s∈T.take i,gb s t)(tk1:T.take (i + 1)=T.take i++[t])(b c:Option D) :
    ∃ h6,cy (XN n tk A (some (bS t)) b c) h0=.nx (XN n tk A (some (bS t)) (some (.int t.a)) (some (.int t.b))) h6∧NH n A h (T.take (i + 1)) h6:=by
  have tne:=O.ne t mt
  have tlt:=O.lt t mt
  have fa:far t.a t=some t.b:=if_pos rfl
  have fb:far t.b t=some t.a:=(if_neg tne).trans (if_pos rfl)
  have na:=vZ fa un
  have nb:=vZ fb un
  have rat:∀ j:Nat,j < n→atI ((List.range n).map fun i=>D.ref (A + i)) (j:Int)=some (.ref (A + j)):=fun j hj=>ee (by rw [List.getElem?_map,List.getElem?_range hj];rfl)
  have ra:=rat t.a tlt.1
  have rb:=rat t.b tlt.2
  have da:=N.dc t.a tlt.1
  obtain⟨p1,p2,p3⟩:=N.put hA tlt.1 (.dct ((nbs (T.take i) t.a++[(t.b,t.w)]).map kW))
  obtain⟨h5,hh5⟩ : ∃ h5,h5=h0.set (A + t.a) (.dct ((nbs (T.take i) t.a++[(t.b,t.w)]).map kW)):=⟨_,rfl⟩
  rw [← hh5] at p1 p2 p3
  have rf5:h5[A + n]? = some (.lst ((List.range n).map fun i=>.ref (A + i))):=(p3 n (Nat.ne_of_gt tlt.1)).trans N.rf
  have db:h5[A + t.b]? = some (.dct ((nbs (T.take i) t.b).map kW)):=(p3 t.b (Ne.symm tne)).trans (N.dc t.b tlt.2)
  obtain⟨h6,hh6⟩ : ∃ h6,h6=h5.set (A + t.b) (.dct ((nbs (T.take i) t.b++[(t.a,t.w)]).map kW)):=⟨_,rfl⟩
  have s4:sIf (tE (aq xP (aa 5) (fAt (aa 2) (aa 4)))) fE a7 (XN n tk A (some (bS t)) (some (.int t.a)) (some (.int t.b))) h0=.nx (XN n tk A (some (bS t)) (some (.int t.a)) (some (.int t.b))) h0:=by
    refine bQ (aW (ao rfl (bL rfl rfl (bo N.rf) ra) ?_))
    rw [DQ da,ye na];rfl
  have s5:l8 (fAt (aa 2) (aa 4)) (aa 5) (fAt (aa 3) (fC (.int 2))) (XN n tk A (some (bS t)) (some (.int t.a)) (some (.int t.b))) h0=.nx (XN n tk A (some (bS t)) (some (.int t.a)) (some (.int t.b))) h5:=by
    rw [hh5,← uq na]
    exact xk (bL rfl rfl rfl rfl) (bL rfl rfl (bo N.rf) ra) rfl da (At hn O)
  have s6:l8 (fAt (aa 2) (aa 5)) (aa 4) (fAt (aa 3) (fC (.int 2))) (XN n tk A (some (bS t)) (some (.int t.a)) (some (.int t.b))) h5=.nx (XN n tk A (some (bS t)) (some (.int t.a)) (some (.int t.b))) h6:=by
    rw [hh6,← uq nb]
    exact xk (bL rfl rfl rfl rfl) (bL rfl rfl (bo rf5) rb) rfl db (At hn O)
  refine⟨h6,(aC (bQ (bB (aW (av (ag rfl (ag rfl rfl)) (yf tne tlt.1 tlt.2 (O.wt t mt) h0)))))).trans ((aC (aN (bL rfl rfl rfl rfl))).trans ((aC (aN (bL rfl rfl rfl rfl))).trans ((aC s4).trans ((aC s5).trans s6)))),?_,fun j hj => ?_,?_⟩
  · obtain⟨g,e,l⟩:=p1
    exact⟨_,by rw [hh6,e,lA hA],by rw [List.length_set];exact l⟩
  · rw [tk1,Ar]
    by_cases e1:t.b=j
    · subst e1
      rw [hh6,dD _ db,fb]
    · rw [hh6,List.getElem?_set_ne (fun z=>e1 (Nat.add_left_cancel z))]
      by_cases e2:t.a=j
      · subst e2
        rw [p2,fa]
      · have:far j t=none:=(if_neg e2).trans (if_neg e1)
        rw [p3 j (Ne.symm e2),this,N.dc j hj]
        simp only [List.append_nil]
  · rw [hh6];exact (List.getElem?_set_ne (fun z=>Nat.ne_of_lt tlt.2 (Nat.add_left_cancel z))).trans rf5
theorem yg {n:Nat}{h:Hd}{A:Nat}(hA:A=h.length):∃ h1 g,b7 none ((List.range n).map fun k:Nat=>D.int k) (gN 0) [] iI ((List.range n).map fun k:Nat=>D.int k) [none] h=.ok ((List.range n).map fun i=>.ref (A + i)) h1∧h1=h++g∧g.length=n ∧ ∀ j,j < n→h1[A + j]? = some (.dct []):=by
  obtain⟨ds,h1,k1,l1,v1,σ1,-,g,hg,lg,g1⟩:=i5 (g:=none) (all:=(List.range n).map fun k:Nat=>D.int k) (tg:=gN 0) (xs:=(List.range n).map fun k:Nat=>D.int k) (k:=0)
    (e:=iI) (σ:=[none]) (h:=h)
    (P:=fun i σ h'=>(∃ a,σ = [a]) ∧ ∃ g,h'=h++g∧g.length=i ∧ ∀ j,j < i→h'[A + j]? = some (.dct [])) (V:=fun i d=>d=.ref (A + i)) (fun _ _ _ _=>trivial) (by
      rintro i x σ h0 hx ⟨⟨a,rfl⟩,g,e0,lg,e1⟩
      obtain⟨hi,rfl⟩:=fO hx
      rw [Nat.zero_add] at lg e1 ⊢
      have hl:h0.length=A + i:=by rw [e0,List.length_append,lg,hA]
      refine⟨_,rfl,.ref h0.length,h0++[.dct []],rfl,by rw [hl],⟨_,rfl⟩,g++[.dct []],by rw [e0,List.append_assoc],by rw [List.length_append,lg];rfl,fun j hj => ?_⟩
      by_cases hji:j < i
      · exact dj _ (e1 j hji)
      · rw [Nat.le_antisymm (Nat.le_of_lt_succ hj) (Nat.not_lt.mp hji),← hl];exact List.getElem?_concat_length) ⟨⟨_,rfl⟩,[],(List.append_nil _).symm,rfl,fun j hj=>absurd hj (Nat.not_lt_zero _)⟩
  rw [List.length_map,List.length_range] at l1
  rw [Nat.zero_add,List.length_map,List.length_range] at lg g1
  have e1:ds=(List.range n).map fun i=>.ref (A + i):=vO l1 fun i d hd=>by have:=v1 i d hd;rwa [Nat.zero_add] at this
  exact⟨h1,g,by rw [k1,e1],hg,lg,g1⟩
inductive NI (n A tk:Nat) (h:Hd) (T:List Tie):Nat→Sd→Hd→Prop
  | mk {i:Nat} {h':Hd} {a b c:Option D} (N:NH n A h (T.take i) h'):NI n A tk h T i (XN n tk A a b c) h'
theorem DV {n:Nat}(hn1:1≤n)(hn:n≤30){T:List Tie}(O:TOk n n 0 T){B:SF}(hB:SNx cy B){rest:List D}{h:Hd}{tk:Nat}(ht:h[tk]? = some (.lst (T.map bS++rest))) :
    ∃ h2 h3 a3 b3 c3,aG (gN 2) (cZ (bA 1 [] (cW (aa 0)) (gN 0) [] iI)) [some (.int n),some (.ref tk),none,none,none,none] h=.nx [some (.int n),some (.ref tk),some (.ref (h.length + n)),none,none,none] h2∧h2[tk]? = some (.lst (T.map bS++rest)) ∧
      dY (some tk) (T.map bS++rest) (gN 3) B (T.map bS++rest) [some (.int n),some (.ref tk),some (.ref (h.length + n)),none,none,none] h2=dY (some tk) (T.map bS++rest) (gN 3) B rest [some (.int n),some (.ref tk),some (.ref (h.length + n)),a3,b3,c3] h3 ∧
      h3[tk]? = some (.lst (T.map bS++rest))∧NH n h.length h T h3:=by
  obtain⟨A,hA⟩ : ∃ A,A=h.length:=⟨_,rfl⟩
  obtain⟨h1,g,k1,hg,lg,g1⟩:=yg (n:=n) hA
  obtain⟨h2,hh2⟩ : ∃ h2,h2=h1++[.lst ((List.range n).map fun i=>.ref (A + i))]:=⟨_,rfl⟩
  have l1':h1.length=A + n:=by rw [hg,List.length_append,lg,hA]
  have N0:NH n A h [] h2:=⟨⟨g++[.lst ((List.range n).map fun i=>.ref (A + i))],by rw [hh2,hg,List.append_assoc],by rw [List.length_append,lg];rfl⟩,fun j hj=>by rw [hh2];exact dj _ (g1 j hj),by rw [hh2,← l1'];exact List.getElem?_concat_length⟩
  obtain⟨_,h3,k3,@⟨_,a3,b3,c3,N3⟩⟩:=j8 (rest:=rest) (P:=NI n A tk h T) (g:=some tk) (k:=0)
      (all:=T.map bS++rest) (fun _ _ h' q=>by
        obtain⟨N⟩:=q
        obtain⟨g,e,_⟩:=N.pre
        show h'[tk]? = _
        rw [e];exact dj _ ht)
      (xs:=T.map bS) (tg:=gN 3) (σ:=XN n tk A none none none) (h:=h2) (b:=B) (by
      intro i x σ h0 hx z
      rw [Nat.zero_add] at z ⊢
      obtain @⟨_,a,b,c,N⟩:=z
      have hiT:i < T.length:=by have:=(List.getElem?_eq_some_iff.mp hx).1;rwa [List.length_map] at this
      rw [List.getElem?_map,List.getElem?_eq_getElem hiT] at hx
      cases hx
      have mt:T[i]∈T:=List.getElem_mem hiT
      have un:∀ s∈T.take i,gb s T[i]:=fun s hs=>by
        obtain⟨k,hk,rfl⟩:=List.getElem_of_mem hs
        rw [List.length_take] at hk
        rw [List.getElem_take]
        exact List.pairwise_iff_getElem.mp O.un k i _ hiT (Nat.lt_of_lt_of_le hk (Nat.min_le_left _ _))
      obtain⟨h6,q6,N6⟩:=BJ (tk:=tk) hn O hA N mt un (List.take_succ_eq_append_getElem hiT) b c
      exact⟨_,rfl,_,h6,hB q6,.mk N6⟩) (.mk N0)
  rw [Nat.zero_add,List.length_map,List.take_length] at N3
  have s2:aG (gN 2) (cZ (bA 1 [] (cW (aa 0)) (gN 0) [] iI)) [some (.int n),some (.ref tk),none,none,none,none] h=.nx [some (.int n),some (.ref tk),some (.ref (A + n)),none,none,none] h2:=by
    rw [hh2,← l1']
    exact aN (mj (cD (fJ rfl (Nat.le_trans hn (by decide))) k1) (by rw [List.length_map,List.length_range];exact Nat.le_trans hn (by decide)))
  have t2:h2[tk]? = some (.lst (T.map bS++rest)):=by rw [hh2,hg];exact dj _ (dj _ ht)
  obtain⟨g3,e3,_⟩:=N3.pre
  refine⟨h2,h3,a3,b3,c3,by rw [← hA];exact s2,t2,by rw [← hA];exact k3,?_,by rw [← hA];exact N3⟩
  rw [e3];exact dj _ ht
theorem nO {n:Nat}(hn1:1≤n)(hn:n≤30){T:List Tie}(O:TOk n n 0 T){h:Hd}{tk:Nat}(ht:h[tk]? = some (.lst (T.map bS))) :
    ∃ h',cm [.int n,.ref tk] h=.ok (.ref (h.length + n)) h'∧NH n h.length h T h':=by
  obtain⟨h2,h3,a3,b3,c3,s2,t2,k3,t3,N3⟩:=DV hn1 hn O (B:=cy) SNx.refl (rest:=[]) (h:=h) (tk:=tk) (by rw [List.append_nil];exact ht)
  rw [List.append_nil] at t2 t3 k3
  refine⟨h3,?_,N3⟩
  have s1:sIf (bD (tE (cC .list (aa 1)))) fE a7 [some (.int n),some (.ref tk),none,none,none,none] h=.nx [some (.int n),some (.ref tk),none,none,none,none] h:=bQ (bB (aW (vP rfl ht)))
  have s3:jY (gK (aa 1)) (gN 3) cy [some (.int n),some (.ref tk),some (.ref (h.length + n)),none,none,none] h2=.nx [some (.int n),some (.ref tk),some (.ref (h.length + n)),a3,b3,c3] h3:=by
    have e:dY (some tk) (T.map bS) (gN 3) cy [] [some (.int n),some (.ref tk),some (.ref (h.length + n)),a3,b3,c3] h3=.nx [some (.int n),some (.ref tk),some (.ref (h.length + n)),a3,b3,c3] h3:=by
      unfold dY
      exact if_pos t3
    rw [e] at k3
    exact ka (lB rfl t2) k3
  have st:([D.int n,D.ref tk].map some++List.replicate (6 - [D.int n,D.ref tk].length) none:Sd)=[some (.int n),some (.ref tk),none,none,none,none]:=rfl
  unfold cm bz runB
  rw [if_pos (show [D.int n,D.ref tk].length=2 from rfl),st,aC s1,aC s2,aC s3]
  simp [letGo,pure?]
end Fm
set_option linter.all false
namespace Fm
theorem EW (a b:Int)(h:Hd):oNe (.int a) (.int b) h=.ok (.bl (!decide (a=b))) h:=rfl
theorem DW {l:List Nat}{n:Nat}(nd:l.Nodup)(h:∀ x∈l,x < n):l.length≤n:=by
  induction n generalizing l with
  | zero=>match l,h with
    | [],_=>exact Nat.le_refl _
    | x :: _,h=>exact absurd (h x List.mem_cons_self) (Nat.not_lt_zero _)
  | succ n ih =>
    by_cases m:n∈l
    · have:=ih (nd.erase n) fun x hx=>by
        have z:=(List.Nodup.mem_erase_iff nd).mp hx
        exact Nat.lt_of_le_of_ne (Nat.le_of_lt_succ (h x z.2)) z.1
      rw [List.length_erase_of_mem m] at this
      exact Nat.le_add_of_sub_le this
    · exact Nat.le_succ_of_le (ih nd fun x hx=>Nat.lt_of_le_of_ne (Nat.le_of_lt_succ (h x hx)) fun z=>m (z ▸ hx))
def qc (n:Nat) (T:List Tie) (bs:List Int) (ss:List (Option Int)):Web:=⟨(List.range n).map fun i=>gG (nbs T i),bs,ss⟩
theorem jy:∀ l:List (Nat × Int),dz (l.map kW)=some (l.map mw)
  | []=>rfl
  | p :: l=>by
    have ih:=jy l
    simp only [List.map_cons]
    show (dz (l.map kW)).map _=_
    rw [ih]
    rfl
theorem DX {T:List Tie}(un:T.Pairwise gb)(i:Nat):((nbs T i).map (·.1)).Nodup:=by
  unfold nbs
  induction T with
  | nil=>simp
  | cons t T ih =>
    obtain⟨h1,h2⟩:=List.pairwise_cons.mp un
    have ih:=ih h2
    cases e:far i t with
    | none=>simp only [List.filterMap_cons,e,Option.map_none];exact ih
    | some j =>
      simp only [List.filterMap_cons,e,Option.map_some,List.map_cons,List.nodup_cons]
      refine⟨fun z => ?_,ih⟩
      obtain⟨p,hp,hpj⟩:=List.mem_map.mp z
      exact vZ (T:=T) e (fun s hs=>(h1 s hs).symm) p hp hpj
theorem BK {l:List (Nat × Int)}(nd:(l.map (·.1)).Nodup):(l.map mw).Nodup:=by
  rw [List.nodup_iff_pairwise_ne,List.pairwise_map] at nd ⊢
  exact nd.imp fun {a b} h e=>h (by have:=(List.cons.inj e).1;omega)
theorem qd {α : Type}{l:List α}:fD (l.map fun _=>D.bl true)=some (l.map fun _=>true):=by
  induction l with
  | nil=>rfl
  | cons x l ih=>simp [fD,ih]
theorem rE {n:Nat}{h:Hd}{nk bk:Nat}{l:List D}{bs:List Int}(hn:h[nk]? = some (.lst l))(hl:l.length=n)(hb:h[bk]? = some (.lst (bs.map .int)))(lb:bs.length=n):cJ [.ref nk,.ref bk] h=.ok (.tup (bs.map .int)) h:=by
  have c:b7 (some bk) (bs.map D.int) (gN 0) [] (am bR (ae (aa 0) ax)) (bs.map D.int) [none] h=.ok ((bs.map D.int).map fun _=>D.bl true) h:=by
    have:=bP (g:=some bk) (all:=bs.map D.int) (tg:=gN 0) (cs:=[]) (e:=am bR (ae (aa 0) ax)) (h:=h) (I:=fun σ=>∃ a,σ = [a]) (fun _=>true) (fun _=>.bl true) hb (xs:=bs.map D.int) (σ:=[none]) (by
      rintro x hx σ ⟨a,rfl⟩
      obtain⟨i,_,rfl⟩:=List.mem_map.mp hx
      exact⟨_,rfl,⟨_,rfl⟩,rfl,fun _=>av (ag rfl rfl) (ju _ _)⟩) ⟨_,rfl⟩
    rw [this,List.filter_eq_self.mpr (by simp)]
  have al:((bs.map D.int).map fun _=>true).all id=true:=by simp
  have lg:=eL (h:=h) (g:=[]) (d:=.tup (bs.map D.int)) (by simp only [pure?];exact dw fun _ _=>rfl)
  rw [List.append_nil] at lg
  have s1:sIf (tE (aq kR (aa 1) (fC .non))) fE a7 [some (.ref nk),some (.ref bk)] h=.nx [some (.ref nk),some (.ref bk)] h:=bQ (aW (ao rfl rfl rfl))
  have s2:sIf (tOr (bD (tE (cC .list (aa 1)))) (tE (aq oNe (cV (lOf (aa 1))) (cV (lOf (aa 0)))))) fE a7 [some (.ref nk),some (.ref bk)] h=.nx [some (.ref nk),some (.ref bk)] h:=by
    exact bQ (ed (bB (b:=true) (aW (vP rfl hb))) (aW (ao (cb (bZ rfl (bo hb))) (cb (bZ rfl (bo hn))) (by rw [EW,List.length_map,lb,hl,decide_eq_true rfl];rfl))))
  have s3:sIf (bD (tE (lU (bA 1 [] (gK (aa 1)) (gN 0) [] (am bR (ae (aa 0) ax)))))) fE a7 [some (.ref nk),some (.ref bk)] h=.nx [some (.ref nk),some (.ref bk)] h:=by
    exact bQ (bB (b:=true) (aW ((vQ (cD (lB rfl hb) c) qd).trans (by rw [al]))))
  have s4:bc (cU (lOf (aa 1))) [some (.ref nk),some (.ref bk)] h=.rt (.tup (bs.map .int)) h:=bn (jr (bZ rfl (bo hb)))
  have st:([D.ref nk,D.ref bk].map some++List.replicate (2 - [D.ref nk,D.ref bk].length) none:Sd)=[some (.ref nk),some (.ref bk)]:=rfl
  unfold cJ bz runB
  rw [if_pos (show [D.ref nk,D.ref bk].length=2 from rfl),st,aC s1,aC s2,aC s3,s4]
  exact lg
theorem nP {n:Nat}{h:Hd}{sk:Nat}{ss:List (Option Int)}(hs:h[sk]? = some (.lst (ss.map bu)))(ls:ss.length=n)(os:∀ x∈ss,x=none∨x=some 0∨x=some 1):cq [.int n,.ref sk] h=.ok (.tup (ss.map bu)) h:=by
  have c:b7 (some sk) (ss.map bu) (gN 0) [] (fT (tOr (tE (aq kR (aa 0) (fC .non))) (tE (am aS (ae (aa 0) ax))))) (ss.map bu) [none] h=.ok ((ss.map bu).map fun _=>D.bl true) h:=by
    have:=bP (g:=some sk) (all:=ss.map bu) (tg:=gN 0) (cs:=[]) (e:=fT (tOr (tE (aq kR (aa 0) (fC .non))) (tE (am aS (ae (aa 0) ax))))) (h:=h) (I:=fun σ=>∃ a,σ = [a]) (fun _=>true) (fun _=>.bl true) hs (xs:=ss.map bu) (σ:=[none]) (by
      rintro x hx σ ⟨a,rfl⟩
      obtain⟨i,hi,rfl⟩:=List.mem_map.mp hx
      refine⟨_,rfl,⟨_,rfl⟩,rfl,fun _ => ?_⟩
      rcases os i hi with e|e|e<;>subst e
      · exact kG (qZ (aW (ao rfl rfl rfl)))
      · exact kG (ed (aW (ao rfl rfl rfl)) (aW (av (ag rfl rfl) (dA 0 h))))
      · exact kG (ed (aW (ao rfl rfl rfl)) (aW (av (ag rfl rfl) (dA 1 h))))) ⟨_,rfl⟩
    rw [this,List.filter_eq_self.mpr (by simp)]
  have lg:=eL (h:=h) (g:=[]) (d:=.tup (ss.map bu)) (by simp only [pure?];exact dw fun x _=>by cases x<;>rfl)
  rw [List.append_nil] at lg
  have s1:sIf (tE (aq kR (aa 1) (fC .non))) (bc (cU (bA 1 [] (cW (aa 0)) (gN 0) [] (fC .non)))) a7 [some (.int n),some (.ref sk)] h=.nx [some (.int n),some (.ref sk)] h:=bQ (aW (ao rfl rfl rfl))
  have s2:sIf (tOr (bD (tE (cC .list (aa 1)))) (tE (aq oNe (cV (lOf (aa 1))) (aa 0)))) fE a7 [some (.int n),some (.ref sk)] h=.nx [some (.int n),some (.ref sk)] h:=by
    exact bQ (ed (bB (b:=true) (aW (vP rfl hs))) (aW (ao (cb (bZ rfl (bo hs))) rfl (by rw [EW,List.length_map,ls,decide_eq_true rfl];rfl))))
  have s3:sIf (bD (tE (lU (bA 1 [] (gK (aa 1)) (gN 0) [] (fT (tOr (tE (aq kR (aa 0) (fC .non))) (tE (am aS (ae (aa 0) ax))))))))) fE a7 [some (.int n),some (.ref sk)] h=.nx [some (.int n),some (.ref sk)] h:=by
    have al:((ss.map bu).map fun _=>true).all id=true:=by simp
    exact bQ (bB (b:=true) (aW ((vQ (cD (lB rfl hs) c) qd).trans (by rw [al]))))
  have s4:bc (cU (lOf (aa 1))) [some (.int n),some (.ref sk)] h=.rt (.tup (ss.map bu)) h:=bn (jr (bZ rfl (bo hs)))
  have st:([D.int n,D.ref sk].map some++List.replicate (2 - [D.int n,D.ref sk].length) none:Sd)=[some (.int n),some (.ref sk)]:=rfl
  unfold cq bz runB
  rw [if_pos (show [D.int n,D.ref sk].length=2 from rfl),st,aC s1,aC s2,aC s3,s4]
  exact lg
theorem BM {n A:Nat}(hn:n≤30){T:List Tie}(O:TOk n n 0 T){h h1:Hd}(N:NH n A h T h1) :
    b7 (some (A + n)) ((List.range n).map fun i=>.ref (A + i)) (gN 0) [] (cU (i0 (aa 0))) ((List.range n).map fun i=>.ref (A + i)) [none] h1=.ok (((List.range n).map fun i=>gG (nbs T i)).map qX) h1:=by
  have:=bP (g:=some (A + n)) (all:=(List.range n).map fun i=>.ref (A + i)) (tg:=gN 0) (cs:=[]) (e:=cU (i0 (aa 0))) (h:=h1) (I:=fun σ=>∃ a,σ = [a]) (fun _=>true)
    (fun d=>match d with | .ref k=>qX (gG (nbs T (k - A)))|_=>.non) N.rf (xs:=(List.range n).map fun i=>.ref (A + i)) (σ:=[none]) (by
      rintro x hx σ ⟨a,rfl⟩
      obtain⟨i,hi,rfl⟩:=List.mem_map.mp hx
      have hi:=List.mem_range.mp hi
      refine⟨_,rfl,⟨_,rfl⟩,rfl,fun _ => ?_⟩
      have nd:=DX O.un i
      have l64:((nbs T i).map mw).length < 64:=by
        have lt:∀ p∈nbs T i,p.1 < n:=fun p hp=>by
          unfold nbs at hp
          obtain⟨t,ht',q⟩:=List.mem_filterMap.mp hp
          have:=O.lt t ht'
          unfold far at q
          by_cases a1:t.a=i
          · rw [if_pos a1] at q;simp at q;subst q;exact this.2
          · rw [if_neg a1] at q
            by_cases a2:t.b=i
            · rw [if_pos a2] at q;simp at q;subst q;exact this.1
            · rw [if_neg a2] at q;cases q
        have:=DW nd (n:=n) (fun x hx=>by
          obtain⟨p,hp,rfl⟩:=List.mem_map.mp hx
          exact lt p hp)
        simp at this ⊢
        omega
      have e:((b9 ((nbs T i).map mw)).map qS)=(gG (nbs T i)).map EU:=by rw [← qa,List.map_map];rfl
      simp only [List.set_cons_zero,cU,i0,aa,slot,List.getElem?_cons_zero,aI,N.dc i hi,jy,if_pos (And.intro l64 (BK nd)),e,qX,Nat.add_sub_cancel_left]) ⟨_,rfl⟩
  rw [this,List.filter_eq_self.mpr (by simp),List.map_map,List.map_map]
  congr 1
  apply List.map_congr_left
  intro i _
  simp
theorem yh {n:Nat}(hn1:1≤n)(hn:n≤30){T:List Tie}(O:TOk n n 0 T){bs:List Int}{ss:List (Option Int)}(lb:bs.length=n)(ls:ss.length=n)(os:∀ x∈ss,x=none∨x=some 0∨x=some 1){h:Hd}{tk bk sk:Nat}
    (ht:h[tk]? = some (.lst (T.map bS))) (hb:h[bk]? = some (.lst (bs.map .int))) (hs:h[sk]? = some (.lst (ss.map bu))):fL [.int n,.ref tk,.ref bk,.ref sk] h=.ok (qc n T bs ss).enc h:=by
  obtain⟨h1,r1,N⟩:=nO hn1 hn O ht
  obtain⟨A,hA⟩ : ∃ A,A=h.length:=⟨_,rfl⟩
  rw [← hA] at r1 N
  obtain⟨g,hg,lg⟩:=N.pre
  have old:∀ {k:Nat} {c:eS},h[k]? = some c→h1[k]? = some c:=fun {k c} e=>by rw [hg,List.getElem?_append_left (List.getElem?_eq_some_iff.mp e).1];exact e
  have comp:=BM hn O N
  have bt:=rE (n:=n) (l:=(List.range n).map fun i=>.ref (A + i)) N.rf (by simp) (old hb) lb
  have stt:=nP (n:=n) (old hs) ls os
  have i1:(1:Int)≤n:=Int.ofNat_le.mpr hn1
  have i2:(n:Int)≤30:=Int.ofNat_le.mpr hn
  have rf:=N.rf
  have s1:sIf (bD (tE (am aR (ae (aa 0) (ae (fC (.int 1)) (ae (fC (.int 30)) ax)))))) fE a7 [some (.int n),some (.ref tk),some (.ref bk),some (.ref sk),none,none] h=.nx [some (.int n),some (.ref tk),some (.ref bk),some (.ref sk),none,none] h:=bQ (bB (b:=true) (aW (av (ag rfl (ag rfl (ag rfl rfl))) (by rw [eM,decide_eq_true i1,decide_eq_true i2];rfl))))
  have s2:aG (gN 4) (am cm (ae (aa 0) (ae (aa 1) ax))) [some (.int n),some (.ref tk),some (.ref bk),some (.ref sk),none,none] h=.nx [some (.int n),some (.ref tk),some (.ref bk),some (.ref sk),some (.ref (A + n)),none] h1:=aN (av (ag rfl (ag rfl rfl)) r1)
  have s3:aG (gN 5) (cU (bA 1 [] (gK (aa 4)) (gN 0) [] (cU (i0 (aa 0))))) [some (.int n),some (.ref tk),some (.ref bk),some (.ref sk),some (.ref (A + n)),none] h1=.nx [some (.int n),some (.ref tk),some (.ref bk),some (.ref sk),some (.ref (A + n)),some (.tup (((List.range n).map fun i=>gG (nbs T i)).map qX))] h1:=by
    exact aN (jr (cD (lB rfl rf) comp))
  have s4:bc (eZ (ae (aa 5) (ae (am cJ (ae (aa 4) (ae (aa 2) ax))) (ae (am cq (ae (aa 0) (ae (aa 3) ax))) ax)))) [some (.int n),some (.ref tk),some (.ref bk),some (.ref sk),some (.ref (A + n)),some (.tup (((List.range n).map fun i=>gG (nbs T i)).map qX))] h1=.rt (qc n T bs ss).enc h1:=by
    exact bn (d8 (ag rfl (ag (av (ag rfl (ag rfl rfl)) bt) (ag (av (ag rfl (ag rfl rfl)) stt) rfl))) (by exact of_decide_eq_true rfl))
  have st:([D.int n,D.ref tk,D.ref bk,D.ref sk].map some++List.replicate (6 - [D.int n,D.ref tk,D.ref bk,D.ref sk].length) none:Sd)=[some (.int n),some (.ref tk),some (.ref bk),some (.ref sk),none,none]:=rfl
  unfold fL bz runB
  rw [if_pos (show [D.int n,D.ref tk,D.ref bk,D.ref sk].length=4 from rfl),st,aC s1,aC s2,aC s3,s4]
  show letGo h (.ok _ h1)=_
  rw [hg]
  exact eL (Aq _)
end Fm
set_option linter.all false
namespace Fm
theorem DY {n:Nat}{T:List Tie}(lt:∀ t∈T,t.a < n∧t.b < n){i:Nat}:∀ p∈nbs T i,p.1 < n:=fun p hp=>by
  unfold nbs at hp
  obtain⟨t,ht',q⟩:=List.mem_filterMap.mp hp
  have:=lt t ht'
  unfold far at q
  by_cases a1:t.a=i
  · rw [if_pos a1] at q;simp at q;subst q;exact this.2
  · rw [if_neg a1] at q
    by_cases a2:t.b=i
    · rw [if_pos a2] at q;simp at q;subst q;exact this.1
    · rw [if_neg a2] at q;cases q
theorem Au {n:Nat}(hn:n≤30){T:List Tie}(O:TOk n n 0 T){bs:List Int}{ss:List (Option Int)}(lb:bs.length=n)(ls:ss.length=n):(qc n T bs ss).Ok n:=by
  refine⟨by simp [qc],lb,ls,fun r hr p hp => ?_,by omega⟩
  obtain⟨i,_,rfl⟩:=List.mem_map.mp hr
  exact DY O.lt p (qb.mp hp)
structure FI (n:Nat) (T:List Tie) (bs:List Int) (ss:List (Option Int)) (tk bk sk:Nat) (h:Hd):Prop where
  ti:h[tk]? = some (.lst (T.map bS))
  ba:h[bk]? = some (.lst (bs.map .int))
  st:h[sk]? = some (.lst (ss.map bu))
structure DZ (n:Nat) (ss:List (Option Int)) (s:List Int):Prop where
  len:s.length=n
  op:∀ x∈s,x=0∨x=1
  st:∀ (i:Nat) x,ss[i]? = some (some x)→s[i]? = some x
theorem DZ.fits {n:Nat}{ss:List (Option Int)}{s:List Int}(f:DZ n ss s)(T:List Tie)(bs:List Int):x6 (qc n T bs ss) n s:=⟨f.len,f.op,f.st⟩
theorem yi (ns:List Int)(k:Nat){n:Nat}(hn:n≤30){ss:List (Option Int)}(ls:ss.length=n)(os:∀ x∈ss,x=none∨x=some 0∨x=some 1){h:Hd}{sk:Nat}(hs:h[sk]? = some (.lst (ss.map bu))) :
    ∃ s,eo [.lit (ns.map .int),.int k,.ref sk] h=.ok (bb s) h∧DZ n ss s:=by
  obtain⟨A,hA⟩ : ∃ A,A=h.length:=⟨_,rfl⟩
  have hsk:sk < h.length:=(List.getElem?_eq_some_iff.mp hs).1
  obtain⟨c0,m,q0⟩:=jx ns k h
  obtain⟨σ',h',k1,acc,a,b,c,t,k2,k3,k4,k5,k6⟩:=fI (P:=fun i σ h'=>∃ (acc:List Int) (a b:Option D) (c t:Int),σ = [some (.lit (ns.map .int)),some (.int k),some (.ref sk),some (.ref A),some (.ref (A + 1)),a,b]∧h'=h++[.lst [.int c,.int t,.bl m],.lst (acc.map .int)]∧acc.length=i∧(∀ x∈acc,x=0∨x=1) ∧ ∀ (j:Nat) x,j < i→ss[j]? = some (some x)→acc[j]? = some x) (g:=some sk) (k:=0)
      (all:=ss.map bu) (fun _ _ h' q=>by
        obtain⟨_,_,_,_,_,_,e,_⟩:=q
        show h'[sk]? = _
        rw [e,List.getElem?_append_left hsk];exact hs)
      (xs:=ss.map bu) (tg:=gN 5) (σ:=[some (.lit (ns.map .int)),some (.int k),some (.ref sk),some (.ref A),some (.ref (A + 1)),none,none]) (h:=h++[.lst [.int c0,.int 0,.bl m],.lst []]) (b:=i7) (by
      rintro i x σ h0 hx ⟨acc,a,b,c,t,rfl,hh0,la,oa,sa⟩
      rw [Nat.zero_add] at la sa ⊢
      have hi:i < ss.length:=by have:=(List.getElem?_eq_some_iff.mp hx).1;simpa using this
      obtain⟨u,hu⟩ : ∃ u,u=ss[i]:=⟨_,rfl⟩
      have hx':x=bu u:=by rw [hu];simpa [hi] using hx.symm
      subst hx'
      have hu':ss[i]? = some u:=by rw [hu];simp [hi]
      have mu:=os u (List.mem_of_getElem? hu')
      have gA:h0[A]? = some (.lst [.int c,.int t,.bl m]):=by rw [hh0,hA];simp
      obtain⟨v,c',t',dg,v0,v1⟩:=uk (m:=2) gA (by omega) (by simp)
      obtain⟨h1,hh1⟩ : ∃ h1,h1=h++[.lst [.int c',.int t',.bl m],.lst (acc.map .int)]:=⟨_,rfl⟩
      have e1:h0.set A (.lst [.int c',.int t',.bl m])=h1:=by rw [hh1,hh0,hA];simp
      rw [e1] at dg
      have g1:h1[A + 1]? = some (.lst (acc.map .int)):=by rw [hh1,hA,List.getElem?_append_right (by omega)];simp
      have lz:acc.length < 1000000:=by omega
      obtain⟨y,hy⟩ : ∃ y,y=(match u with|some z=>z|none=>v):=⟨_,rfl⟩
      have yb:y=0∨y=1:=by
        cases u with
        | none=>simp only at hy;omega
        | some z=>simp only at hy;simp at mu;omega
      have set1:h1.set (A + 1) (.lst (acc.map .int++[.int y]))=h++[.lst [.int c',.int t',.bl m],.lst ((acc++[y]).map .int)]:=by
        rw [hh1,hA,List.set_append_right _ _ (by omega)];simp
      have s1:aG (gN 6) (am ay (ae (aa 3) (ae (fC (.int 2)) ax))) [some (.lit (ns.map .int)),some (.int k),some (.ref sk),some (.ref A),some (.ref (A + 1)),some (bu u),b] h0=.nx [some (.lit (ns.map .int)),some (.int k),some (.ref sk),some (.ref A),some (.ref (A + 1)),some (bu u),some (.int v)] h1:=by simp [dg]
      have s2:sIf (tE (aq ei (aa 5) (fC .non))) (aG (gN 6) (aa 5)) a7 [some (.lit (ns.map .int)),some (.int k),some (.ref sk),some (.ref A),some (.ref (A + 1)),some (bu u),some (.int v)] h1=.nx [some (.lit (ns.map .int)),some (.int k),some (.ref sk),some (.ref A),some (.ref (A + 1)),some (bu u),some (.int y)] h1:=by
        rw [hy]
        cases u<;>simp [bu]
      have s3:iD (ny (aa 4) (aa 6)) [some (.lit (ns.map .int)),some (.int k),some (.ref sk),some (.ref A),some (.ref (A + 1)),some (bu u),some (.int y)] h1=.nx [some (.lit (ns.map .int)),some (.int k),some (.ref sk),some (.ref A),some (.ref (A + 1)),some (bu u),some (.int y)] (h++[.lst [.int c',.int t',.bl m],.lst ((acc++[y]).map .int)]):=by
        rw [← set1];simp [SZ,g1,lz]
      refine⟨_,rfl,[some (.lit (ns.map .int)),some (.int k),some (.ref sk),some (.ref A),some (.ref (A + 1)),some (bu u),some (.int y)],_,?_,acc++[y],_,_,c',t',rfl,rfl,by simp [la],fun z hz => ?_,fun j z hj e => ?_⟩
      · show aE _ _ [some (.lit (ns.map .int)),some (.int k),some (.ref sk),some (.ref A),some (.ref (A + 1)),some (bu u),b] h0=_
        rw [aC s1,aC s2,s3]
      · rcases List.mem_append.mp hz with hz|hz
        · exact oa z hz
        · simp at hz;subst hz;exact yb
      · by_cases ji:j < i
        · rw [List.getElem?_append_left (by omega)];exact sa j z ji e
        · have:j=i:=by omega
          subst this
          rw [hu'] at e
          cases e
          rw [List.getElem?_append_right (by omega),la]
          simp [hy]) ⟨[],none,none,c0,0,rfl,by simp,rfl,by simp,fun j _ hj=>by omega⟩
  have e0:0 + (ss.map bu).length=n:=by simp [ls]
  rw [e0] at k4 k6
  refine⟨acc,?_,⟨k4,k5,fun i x e=>k6 i x (by have:=(List.getElem?_eq_some_iff.mp e).1;omega) e⟩⟩
  have gB:h'[A + 1]? = some (.lst (acc.map .int)):=by rw [k3,hA,List.getElem?_append_right (by omega)];simp
  have hs1:(h++[eS.lst [.int c0,.int 0,.bl m],.lst []])[sk]? = some (.lst (ss.map bu)):=by rw [List.getElem?_append_left hsk];exact hs
  have s1:aG (gN 3) (am bj (ae (aa 0) (ae (aa 1) ax))) [some (.lit (ns.map .int)),some (.int k),some (.ref sk),none,none,none,none] h=.nx [some (.lit (ns.map .int)),some (.int k),some (.ref sk),some (.ref A),none,none,none] (h++[.lst [.int c0,.int 0,.bl m]]):=by simp [q0,hA]
  have s2:aG (gN 4) (cZ ax) [some (.lit (ns.map .int)),some (.int k),some (.ref sk),some (.ref A),none,none,none] (h++[.lst [.int c0,.int 0,.bl m]])=.nx [some (.lit (ns.map .int)),some (.int k),some (.ref sk),some (.ref A),some (.ref (A + 1)),none,none] (h++[.lst [.int c0,.int 0,.bl m],.lst []]):=by simp [SZ,hA]
  have s3:jY (gK (aa 2)) (gN 5) i7 [some (.lit (ns.map .int)),some (.int k),some (.ref sk),some (.ref A),some (.ref (A + 1)),none,none] (h++[.lst [.int c0,.int 0,.bl m],.lst []])=.nx [some (.lit (ns.map .int)),some (.int k),some (.ref sk),some (.ref A),some (.ref (A + 1)),a,b] h':=by
    rw [k2] at k1
    simp [hs1,k1]
  have s4:bc (cU (lOf (aa 4))) [some (.lit (ns.map .int)),some (.int k),some (.ref sk),some (.ref A),some (.ref (A + 1)),a,b] h'=.rt (bb acc) h':=by simp [gB,bb]
  have st:([D.lit (ns.map .int),D.int k,D.ref sk].map some++List.replicate (7 - [D.lit (ns.map .int),D.int k,D.ref sk].length) none:Sd)=[some (.lit (ns.map .int)),some (.int k),some (.ref sk),none,none,none,none]:=rfl
  unfold eo bz runB
  rw [if_pos (show [D.lit (ns.map .int),D.int k,D.ref sk].length=3 from rfl),st,aC s1,aC s2,aC s3,s4]
  show letGo h (.ok _ h')=_
  rw [k3]
  exact eL (by unfold bb;simp only [pure?];exact dw fun _ _=>rfl)
end Fm
set_option linter.all false
namespace Fm
theorem rF {n np:Nat}{b:SF}{ds:List D}{h h':Hd}{σ σ':Sd}{x:D}(hl:ds.length=np)(st:(ds.map some++List.replicate (n - ds.length) none:Sd) = σ)(e:b σ h=.exc x σ' h'):bz np n b ds h=.exc x h':=by
  unfold bz runB
  rw [if_pos hl,st,e]
  rfl
theorem rG {a b:SF}{σ σ':Sd}{h h':Hd}{x:D}(e:a σ h=.exc x σ' h'):aE a b σ h=.exc x σ' h':=by simp only [aE,e]
theorem v5 {t:TF}{a b:SF}{σ:Sd}{h h':Hd}(e:t σ h=.ok false h'):tZ t a b σ h=b σ h':=by unfold tZ;rw [e];rfl
theorem rH {t:TF}{c:String}{b:SF}{σ:Sd}{h h':Hd}(e:t σ h=.ok true h'):tZ t (ma c) b σ h=.exc (.exn c []) σ h':=by unfold tZ;rw [e];rfl
theorem ut {F:Fn}{r:LF}{σ:Sd}{h h1 h':Hd}{ds:List D}{x:D}(a:r σ h=.ok ds h1)(b:F ds h1=.exc x h'):am F r σ h=.exc x h':=by
  show Res.bind _ _=_;rw [a];exact b
theorem BN {e:EF}{σ:Sd}{h h':Hd}{x:D}(p:e σ h=.exc x h'):iD e σ h=.exc x σ h':=by show outE _ _ _=_;rw [p];rfl
theorem BO {g:Option Nat}{all:List D}{tg:GF}{b:SF}{x:D}{xs:List D}{σ σ':Sd}{h h':Hd}{d:D}(hh:gS g all h)(t:tg x σ = some σ')(e:b σ' h=.rt d h'):dY g all tg b (x :: xs) σ h=.rt d h':=by
  rw [dY,if_pos hh,t];simp only [e]
theorem BP {g:Option Nat}{all:List D}{tg:GF}{b:SF}{x:D}{xs:List D}{σ σ' σ'':Sd}{h h':Hd}(hh:gS g all h)(t:tg x σ = some σ')(e:b σ' h=.nx σ'' h'):dY g all tg b (x :: xs) σ h=dY g all tg b xs σ'' h':=by
  rw [dY,if_pos hh,t];simp only [e]
def FC (d:D) (h:Hd):Prop:=aS [d] h=.ok (.bl false) h
theorem Ct {v:Int}(hv:v=0∨v=1)(h:Hd):aS [.int v] h=.ok (.bl true) h:=by
  rw [dA];rcases hv with rfl|rfl<;>rfl
def BQ (w:Web) (i:Nat) (x:D):Prop:=∃ v:Int,x=.int v∧(v=0∨v=1)∧(w.stays[i]? = some none∨w.stays[i]? = some (some v))
def Bad (w:Web) (i:Nat) (x:D) (h:Hd):Prop:=FC x h ∨ ∃ v z:Int,x=.int v∧(v=0∨v=1)∧w.stays[i]? = some (some z)∧v≠z
theorem BR {w:Web}{T x:D}{i:Nat}(g:BQ w i x)(c:Option D)(h:Hd):∃ c',jt [some w.enc,some T,some (.int i),some x,c] h=.nx [some w.enc,some T,some (.int i),some x,c'] h:=by
  obtain⟨v,rfl,hv,hs⟩:=g
  have s1:sIf (bD (tE (am aS (ae (aa 3) ax)))) (bc (fC (.bl false))) a7 [some w.enc,some T,some (.int i),some (.int v),c] h=.nx [some w.enc,some T,some (.int i),some (.int v),c] h:=bQ (bB (aW (av (ag rfl rfl) (Ct hv h))))
  rcases hs with hs|hs
  · exact⟨_,(aF s1).trans ((aF (aN (av (ag rfl (ag rfl rfl)) (eW w h hs)))).trans (bQ (qY (aW (ao rfl rfl rfl)))))⟩
  · exact⟨_,(aF s1).trans ((aF (aN (av (ag rfl (ag rfl rfl)) (eW w h hs)))).trans (bQ (i6 (aW (ao rfl rfl rfl)) (aW (ao rfl rfl (by rw [show bu (some v)=D.int v from rfl,e9,decide_eq_true rfl];rfl))))))⟩
theorem yj {w:Web}{T x:D}{i:Nat}{h:Hd}(b:Bad w i x h)(c:Option D):jt [some w.enc,some T,some (.int i),some x,c] h=.rt (.bl false) h:=by
  rcases b with no|⟨v,z,rfl,hv,hs,ne⟩
  · exact iK ((jp (bB (aW (av (ag rfl rfl) no)))).trans (bn rfl))
  · have s1:sIf (bD (tE (am aS (ae (aa 3) ax)))) (bc (fC (.bl false))) a7 [some w.enc,some T,some (.int i),some (.int v),c] h=.nx [some w.enc,some T,some (.int i),some (.int v),c] h:=bQ (bB (aW (av (ag rfl rfl) (Ct hv h))))
    exact (aF s1).trans ((aF (aN (av (ag rfl (ag rfl rfl)) (eW w h hs)))).trans ((jp (i6 (aW (ao rfl rfl rfl)) (aW (ao rfl rfl (by rw [show bu (some z)=D.int z from rfl,e9,decide_eq_false ne];rfl))))).trans (bn rfl)))
theorem qe {w:Web}{T:D}{h:Hd}(all:List D):∀ (M:List D) (k:Nat) (a b c:Option D),(∀ i x,M[i]? = some x→BQ w (k + i) x∨Bad w (k + i) x h)→(∃ i x,M[i]? = some x∧Bad w (k + i) x h) →
    dY none all (gT [2,3]) jt (((List.range' k M.length).zip M).map fun p=>D.tup [.int (p.1:Nat),p.2]) [some w.enc,some T,a,b,c] h=.rt (.bl false) h
  | [],k,a,b,c,_,⟨i,x,e,_⟩=>by cases i<;>cases e
  | x :: M,k,a,b,c,al,⟨i,y,e,bd⟩=>by
    rw [List.length_cons,List.range'_succ,List.zip_cons_cons,List.map_cons]
    by_cases bx:Bad w k x h
    · exact BO (by trivial) rfl (yj bx c)
    · have g:BQ w k x:=((al 0 x rfl).resolve_right bx)
      obtain⟨c',q⟩:=BR (T:=T) g c h
      refine (BP (by trivial) rfl q).trans (qe all M (k + 1) _ _ _ (fun i x e => ?_) ?_)
      · have:=al (i + 1) x e
        rwa [← Nat.add_assoc,Nat.add_right_comm] at this
      · cases i with
        | zero=>cases e;exact absurd bd bx
        | succ i=>exact⟨i,y,e,by rwa [← Nat.add_assoc,Nat.add_right_comm] at bd⟩
theorem BS {w:Web}{n:Nat}(W:w.Ok n){L:List D}(hl:L.length=n){h:Hd}(al:∀ i x,L[i]? = some x→BQ w i x∨Bad w i x h)(ex:∃ i x,L[i]? = some x∧Bad w i x h):dI [w.enc,.tup L] h=.ok (.bl false) h:=by
  have lp:=qe (T:=.tup L) (((List.range L.length).zip L).map fun p=>D.tup [.int (p.1:Nat),p.2]) L 0 none none none (fun i x e=>by rw [Nat.zero_add];exact al i x e) (by obtain⟨i,x,e,b⟩:=ex;exact⟨i,x,e,by rw [Nat.zero_add];exact b⟩)
  rw [← List.range_eq_range'] at lp
  have s1:sIf (tOr (bD (tE (cC .tuple (aa 1)))) (tE (aq oNe (cV (lOf (aa 1))) (am dm (ae (aa 0) ax))))) (bc (fC (.bl false))) a7 [some w.enc,some (.tup L),none,none,none] h=.nx [some w.enc,some (.tup L),none,none,none] h :=
    bQ (ed (bB (b:=true) (aW rfl)) (aW (ao (cb (bZ rfl rfl)) (av (ag rfl rfl) (hW w h)) (by rw [e9,hl,W.t,decide_eq_true rfl];rfl))))
  exact (cE rfl rfl ((aF s1).trans (iK (ka rfl lp)))).trans aT
theorem yk {w:Web}{n:Nat}(W:w.Ok n){l:List D}(hl:l.length≠n)(h:Hd):dI [w.enc,.tup l] h=.ok (.bl false) h:=by
  have s1:sIf (tOr (bD (tE (cC .tuple (aa 1)))) (tE (aq oNe (cV (lOf (aa 1))) (am dm (ae (aa 0) ax))))) (bc (fC (.bl false))) a7 [some w.enc,some (.tup l),none,none,none] h=.rt (.bl false) h :=
    (jp (ed (bB (b:=true) (aW rfl)) (aW (ao (cb (bZ rfl rfl)) (av (ag rfl rfl) (hW w h)) (by rw [e9,W.t,decide_eq_false (show ¬ (l.length:Int)=(n:Int) from fun z=>hl (Int.ofNat.inj z))];rfl))))).trans (bn rfl)
  exact (cE rfl rfl (iK s1)).trans aT
abbrev NSx:D:=.exn "NoStand" []
theorem ym {w:Web}{d:D}{h:Hd}(e:dI [w.enc,d] h=.ok (.bl true) h):ce [w.enc,d] h=.ok .non h :=
  (Cr rfl rfl (v5 (bB (aW (av (ag rfl (ag rfl rfl)) e))))).trans aT
theorem yn {w:Web}{d:D}{h:Hd}(e:dI [w.enc,d] h=.ok (.bl false) h):ce [w.enc,d] h=.exc NSx h :=
  rF rfl rfl (rH (bB (aW (av (ag rfl (ag rfl rfl)) e))))
theorem xo {α : Type}{f:Sd→Hd→Res α}{σ:Sd}{h h':Hd}{x : α}(p:f σ h=.ok x h'):fPl f σ h=.ok x h':=by unfold fPl;rw [p];rfl
theorem Cu {f:SF}{σ σ':Sd}{h h':Hd}(p:f σ h=.nx σ' h'):sPl f σ h=.nx σ' h':=by unfold sPl;rw [p]
theorem EX {f:SF}{σ:Sd}{h h':Hd}{d:D}(p:f σ h=.rt d h'):sPl f σ h=.rt d h':=by unfold sPl;rw [p]
theorem BT {i:Nat}{e:EF}{σ:Sd}{h h':Hd}{x:D}(p:e σ h=.exc x h'):aG (gN i) e σ h=.exc x σ h':=by show outE _ _ _=_;rw [p];rfl
theorem v6 {tb:List (String × Bool)}{a:EF}{σ:Sd}{h h1:Hd}{c:String}{l:List D}{b:Bool}(p:a σ h=.ok (.exn c l) h1)(q:tb.lookup c=some b):iE tb a σ h=.ok (.bl b) h1:=by
  unfold iE;rw [p,aI];simp only [isX,q]
end Fm
set_option linter.all false
namespace Fm
abbrev SL (l:List Nat):List D:=l.map fun c=>D.str [c]
def okT (l:List Nat):Bool:=l.all fun c=>decide (c=48∨c=49)
def cx (l:List Nat):List Int:=l.map fun c:Nat=>((c:Int) - 48)
structure Asc (l:List Nat):Prop where
  len:l.length≤1000
  lt:∀ c∈l,c < 128
theorem BU {j:Nat}{cs:List String}{b hb:SF}{σ σ' σ2:Sd}{h h' h2:Hd}{c:String}(p:b σ h=.exc (.exn c []) σ' h')(q:c∈cs)(r:hb (σ.set j (some (.exn c []))) h'=.nx σ2 h2):kE j cs b hb σ h=.nx (σ2.set j none) h2:=by
  unfold kE
  simp only [p,if_pos q,r]
theorem jz {a:EF}{σ:Sd}{h:Hd}{l:List Nat}(p:a σ h=.ok (.str l) h)(A:Asc l):iF a σ h=.ok (SL l,none) h:=by
  have c:l.length≤1000000∧l.all (· < 128)=true:=⟨Nat.le_trans A.len (by decide),by rw [List.all_eq_true];intro c hc;exact decide_eq_true (A.lt c hc)⟩
  unfold iF
  rw [p,aI]
  show (if _ then _ else _)=_
  rw [if_pos c]
theorem gc {l:List Nat}:okT l=true ↔ ∀ c∈l,c=48∨c=49:=by
  unfold okT
  rw [List.all_eq_true]
  exact⟨fun q c hc=>of_decide_eq_true (q c hc),fun q c hc=>decide_eq_true (q c hc)⟩
theorem D0 (c:Nat)(h:Hd):oIn (.str [c]) (.tup [.str [48],.str [49]]) h=.ok (.bl (decide (c=48∨c=49))) h:=by
  have e:(([48] : List Nat) == [c] || ([49] == [c] || false))=decide (c=48∨c=49):=by
    by_cases e1:c=48
    · subst e1;rfl
    · by_cases e2:c=49
      · subst e2;rfl
      · rw [decide_eq_false (fun z=>z.elim e1 e2),beq_eq_false_iff_ne.mpr (by intro z;cases z;exact e1 rfl),beq_eq_false_iff_ne.mpr (by intro z;cases z;exact e2 rfl)];rfl
  show Res.ok (D.bl (([48] : List Nat) == [c] || ([49] == [c] || false))) h=_
  rw [e]
noncomputable abbrev InE:EF:=aq oIn (aa 0) (eZ (ae (fC (.str [48])) (ae (fC (.str [49])) ax)))
theorem BV (l:List Nat)(h:Hd):b7 none (SL l) (gN 0) [] InE (SL l) [none] h=.ok (l.map fun c=>D.bl (decide (c=48∨c=49))) h:=by
  have:=bP (g:=none) (all:=SL l) (tg:=gN 0) (cs:=[]) (e:=InE) (h:=h) (I:=fun σ=>∃ a,σ = [a]) (fun _=>true) (fun d=>match d with | .str [c]=>.bl (decide (c=48∨c=49))|_=>.non) trivial (xs:=SL l) (σ:=[none]) (by
    rintro x hx σ ⟨a,rfl⟩
    obtain⟨c,hc,rfl⟩:=List.mem_map.mp hx
    exact⟨_,rfl,⟨_,rfl⟩,rfl,fun _=>ao rfl (d8 (cG rfl rfl)) (D0 c h)⟩) ⟨_,rfl⟩
  rw [this,List.filter_eq_self.mpr (fun _ _=>rfl),List.map_map];rfl
theorem uv {l:List Nat}(ok:okT l=true)(h:Hd):b7 none (SL l) (gN 0) [] (fH (aa 0)) (SL l) [none] h=.ok ((cx l).map .int) h:=by
  have:=bP (g:=none) (all:=SL l) (tg:=gN 0) (cs:=[]) (e:=fH (aa 0)) (h:=h) (I:=fun σ=>∃ a,σ = [a]) (fun _=>true) (fun d=>match d with | .str [c]=>.int ((c:Int) - 48)|_=>.non) trivial (xs:=SL l) (σ:=[none]) (by
    rintro x hx σ ⟨a,rfl⟩
    obtain⟨c,hc,rfl⟩:=List.mem_map.mp hx
    refine⟨_,rfl,⟨_,rfl⟩,rfl,fun _ => ?_⟩
    show (if c=48∨c=49 then Res.ok (D.int ((c:Int) - 48)) h else Res.bad)=_
    rw [if_pos (gc.mp ok c hc)]) ⟨_,rfl⟩
  rw [this,List.filter_eq_self.mpr (fun _ _=>rfl),List.map_map]
  unfold cx
  rw [List.map_map];rfl
theorem v7 {α : Type}(f : α → Bool)(l:List α):fD (l.map fun x=>D.bl (f x))=some (l.map f):=by
  induction l with
  | nil=>rfl
  | cons x l ih=>simp only [List.map_cons,fD,ih,Option.map_some]
theorem all_map {α : Type}(f : α → Bool)(l:List α):(l.map f).all id=l.all f:=by
  induction l with
  | nil=>rfl
  | cons x l ih=>simp only [List.map_cons,List.all_cons,ih,id]
section
variable {w:Web} {n:Nat}
noncomputable abbrev RdT:TF:=tOr (bD (tE (cC .str (aa 1)))) (bD (tE (lU (bA 1 [] (iF (aa 1)) (gN 0) [] InE))))
theorem lF {l:List Nat}(A:Asc l)(x c:Option D)(h:Hd):RdT [x,some (.str l),c] h=.ok (!okT l) h:=by
  have q:lU (bA 1 [] (iF (aa 1)) (gN 0) [] InE) [x,some (.str l),c] h=.ok (.bl (okT l)) h:=(vQ (cD (jz rfl A) (BV l h)) (v7 _ l)).trans (by rw [all_map];rfl)
  exact ed (bB (b:=true) (aW rfl)) (bB (aW q))
theorem BW {d:D}{h:Hd}(e:lV h .str d=some false)(x c:Option D):RdT [x,some d,c] h=.ok true h:=by
  have q:cC .str (aa 1) [x,some d,c] h=.ok (.bl false) h:=by
    show Res.bind (.ok d h) _=_
    simp only [aI,e]
  exact qZ (bB (aW q))
theorem wa {d:D}{h:Hd}(e:lV h .str d=some false):aJ [w.enc,d] h=.exc NSx h:=rF rfl rfl (rG (rH (BW e _ _)))
theorem uw {l:List Nat}(A:Asc l)(no:okT l=false)(h:Hd):aJ [w.enc,.str l] h=.exc NSx h:=rF rfl rfl (rG (rH (by have:=lF A (some w.enc) none h;rw [no] at this;exact this)))
theorem wb {l:List Nat}(A:Asc l)(ok:okT l=true)(x:Option D)(h:Hd):aG (gN 2) (cU (bA 1 [] (iF (aa 1)) (gN 0) [] (fH (aa 0)))) [x,some (.str l),none] h=.nx [x,some (.str l),some (bb (cx l))] h:=aN (jr (cD (jz rfl A) (uv ok h)))
theorem ux {l:List Nat}(A:Asc l)(ok:okT l=true){h:Hd}(f:dI [w.enc,bb (cx l)] h=.ok (.bl true) h):aJ [w.enc,.str l] h=.ok (bb (cx l)) h :=
  (cE rfl rfl ((aF (v5 (by have:=lF A (some w.enc) none h;rw [ok] at this;exact this))).trans ((aF (Cu (wb A ok _ h))).trans ((aF (j9 (av (xo (cG rfl rfl)) (ym f)))).trans (EX (bn rfl)))))).trans aT
theorem uy {l:List Nat}(A:Asc l)(ok:okT l=true){h:Hd}(f:dI [w.enc,bb (cx l)] h=.ok (.bl false) h):aJ [w.enc,.str l] h=.exc NSx h :=
  rF rfl rfl ((aF (v5 (by have:=lF A (some w.enc) none h;rw [ok] at this;exact this))).trans ((aF (Cu (wb A ok _ h))).trans (rG (BN (ut (xo (cG rfl rfl)) (yn f))))))
theorem BX (W:w.Ok n){l:List Nat}(A:Asc l)(ok:okT l=true)(F:x6 w n (cx l))(h:Hd):cr [w.enc,.str l] h=.ok (bb (cx l)) h :=
  (cE rfl rfl ((aF ((bQ (by have:=lF A (some w.enc) none h;rw [ok] at this;exact this)).trans rfl)).trans ((aF (wb A ok _ h)).trans ((aF (j9 (av (cG rfl rfl) (Af W F h)))).trans (bn rfl))))).trans aT
abbrev ib:D:=.str [114,101,97,100]
abbrev mx:D:=.str [115,116,97,110,100]
theorem xq {d v:D}{h:Hd}(q:aJ [w.enc,d] h=.ok v h):c6 [w.enc,d] h=.ok (.tup [v,ib]) h:=by
  have t:kE 4 ["NoStand"] (aG (gN 2) (am aJ (fPl (ae (aa 0) (ae (aa 1) ax))))) (aE (aG (gN 3) (fC (.str [115,116,97,110,100])))
    (aE (sIf (tE (iE [("NoStand",false)] (aa 4))) (aG (gN 3) (fC (.str [111,116,104,101,114]))) a7)
    (sIf (tOr (bD (tE (iE [("NoStand",true)] (aa 4)))) (bD (tE (iE [("NoStand",true)] (aa 4))))) (aG (gN 3) (fC (.str [111,116,104,101,114]))) a7))) [some w.enc,some d,some .non,some ib,none] h=.nx [some w.enc,some d,some v,some ib,none] h:=by
    have e:aG (gN 2) (am aJ (fPl (ae (aa 0) (ae (aa 1) ax)))) [some w.enc,some d,some .non,some ib,none] h=.nx [some w.enc,some d,some v,some ib,none] h:=aN (av (xo (cG rfl rfl)) q)
    unfold kE
    rw [e]
  exact (cE (σ:=[some w.enc,some d,none,none,none]) rfl rfl ((aF (aN (i:=2) (d:=.non) rfl)).trans ((aF (aN (i:=3) (d:=ib) rfl)).trans ((aF t).trans (bn (d8 (cG rfl rfl))))))).trans aT
theorem xr {d:D}{h:Hd}(q:aJ [w.enc,d] h=.exc NSx h):c6 [w.enc,d] h=.ok (.tup [.non,mx]) h:=by
  have t:kE 4 ["NoStand"] (aG (gN 2) (am aJ (fPl (ae (aa 0) (ae (aa 1) ax))))) (aE (aG (gN 3) (fC (.str [115,116,97,110,100])))
    (aE (sIf (tE (iE [("NoStand",false)] (aa 4))) (aG (gN 3) (fC (.str [111,116,104,101,114]))) a7)
    (sIf (tOr (bD (tE (iE [("NoStand",true)] (aa 4)))) (bD (tE (iE [("NoStand",true)] (aa 4))))) (aG (gN 3) (fC (.str [111,116,104,101,114]))) a7))) [some w.enc,some d,some .non,some ib,none] h=.nx [some w.enc,some d,some .non,some mx,none] h:=by
    have e:aG (gN 2) (am aJ (fPl (ae (aa 0) (ae (aa 1) ax)))) [some w.enc,some d,some .non,some ib,none] h=.exc NSx [some w.enc,some d,some .non,some ib,none] h:=BT (ut (xo (cG rfl rfl)) q)
    have hb:(aE (aG (gN 3) (fC (.str [115,116,97,110,100])))
    (aE (sIf (tE (iE [("NoStand",false)] (aa 4))) (aG (gN 3) (fC (.str [111,116,104,101,114]))) a7)
    (sIf (tOr (bD (tE (iE [("NoStand",true)] (aa 4)))) (bD (tE (iE [("NoStand",true)] (aa 4))))) (aG (gN 3) (fC (.str [111,116,104,101,114]))) a7))) [some w.enc,some d,some .non,some ib,some NSx] h=.nx [some w.enc,some d,some .non,some mx,some NSx] h :=
      (aF (aN (i:=3) (d:=mx) rfl)).trans ((aF ((bQ (aW (v6 rfl rfl))).trans rfl)).trans ((bQ (ed (bB (b:=true) (aW (v6 rfl rfl))) (bB (b:=true) (aW (v6 rfl rfl))))).trans rfl))
    exact BU (j:=4) (cs:=["NoStand"]) (σ2:=[some w.enc,some d,some .non,some mx,some NSx]) e (List.mem_singleton.mpr rfl) hb
  exact (cE (σ:=[some w.enc,some d,none,none,none]) rfl rfl ((aF (aN (i:=2) (d:=.non) rfl)).trans ((aF (aN (i:=3) (d:=ib) rfl)).trans ((aF t).trans (bn (d8 (cG rfl rfl))))))).trans aT
theorem my (l:List Nat)(h:Hd):b7 none (SL l) (gN 0) [(tE (aq iy (aa 0) (fC (.str [48,49]))))] (aa 0) (SL l) [none] h=.ok (SL (l.filter fun c => !decide (c=48∨c=49))) h:=by
  have:=bP (g:=none) (all:=SL l) (tg:=gN 0) (cs:=[(tE (aq iy (aa 0) (fC (.str [48,49]))))]) (e:=aa 0) (h:=h) (I:=fun σ=>∃ a,σ = [a]) (fun d=>match d with | .str [c] => !decide (c=48∨c=49)|_=>false) (fun d=>d) trivial (xs:=SL l) (σ:=[none]) (by
    rintro x hx σ ⟨a,rfl⟩
    obtain⟨c,hc,rfl⟩:=List.mem_map.mp hx
    refine⟨_,rfl,⟨_,rfl⟩,p8 ?_,fun _=>rfl⟩
    have e:decide (c∈[48,49])=decide (c=48∨c=49):=by simp
    show Res.ok (!decide (c∈[48,49])) h=Res.ok (!decide (c=48∨c=49)) h
    rw [e]) ⟨_,rfl⟩
  rw [this,List.map_id',List.filter_map];rfl
def mz (ss:List (Option Int)) (v:List Int) (k:Nat):Bool:=match ss.getD k none with|none=>false|some x => !decide (x=v.getD k 0)
theorem wc {ss:List (Option Int)}{v:List Int}(ls:ss.length=n)(lv:v.length=n){k:Nat}{h:Hd}(hk:h[k]? = some (.lst (ss.map bu))):b7 none ((List.range n).map fun k:Nat=>D.int k) (gN 0) [(gO (tE (aq ei (fAt (aa 1) (aa 0)) (fC .non))) (tE (aq oNe (fAt (aa 1) (aa 0)) (fAt (aa 2) (aa 0)))))] (aa 0) ((List.range n).map fun k:Nat=>D.int k) [none,some (.ref k),some (bb v)] h=.ok (((List.range n).filter (mz ss v)).map fun k:Nat=>D.int k) h:=by
  have:=bP (g:=none) (all:=(List.range n).map fun k:Nat=>D.int k) (tg:=gN 0) (cs:=[(gO (tE (aq ei (fAt (aa 1) (aa 0)) (fC .non))) (tE (aq oNe (fAt (aa 1) (aa 0)) (fAt (aa 2) (aa 0)))))]) (e:=aa 0) (h:=h) (I:=fun σ=>∃ a,σ = [a,some (.ref k),some (bb v)]) (fun d=>match d with | .int i=>mz ss v i.toNat|_=>false) (fun d=>d) trivial (xs:=(List.range n).map fun k:Nat=>D.int k) (σ:=[none,some (.ref k),some (bb v)]) (by
    rintro x hx σ ⟨a,rfl⟩
    obtain⟨i,hi,rfl⟩:=List.mem_map.mp hx
    have hi:=List.mem_range.mp hi
    refine⟨_,rfl,⟨_,rfl⟩,p8 ?_,fun _=>rfl⟩
    show _=Res.ok (mz ss v i) h
    have a1:fAt (aa 1) (aa 0) [some (.int i),some (.ref k),some (bb v)] h=.ok (bu (ss.getD i none)) h:=bL rfl rfl (bo hk) (ee (by rw [List.getElem?_map,List.getElem?_eq_getElem (show i < ss.length by rw [ls];exact hi),List.getD_eq_getElem?_getD,List.getElem?_eq_getElem (show i < ss.length by rw [ls];exact hi)];rfl))
    have a2:fAt (aa 2) (aa 0) [some (.int i),some (.ref k),some (bb v)] h=.ok (.int (v.getD i 0)) h:=bL rfl rfl rfl (BF (by rw [lv];exact hi))
    unfold mz
    cases c:ss.getD i none with
    | none =>
      rw [c] at a1
      exact qY (aW (ao a1 rfl rfl))
    | some x =>
      rw [c] at a1
      exact i6 (aW (ao a1 rfl rfl)) (aW (ao a1 a2 (e9 _ _ _)))) ⟨_,rfl⟩
  rw [this,List.map_id',List.filter_map];rfl
end
end Fm
set_option linter.all false
namespace Fm
theorem rJ {a:EF}{σ:Sd}{h h1:Hd}{l:List Nat}(p:a σ h=.ok (.str l) h1)(hl:l.length≤1000):kF a σ h=.ok (.int l.length) h1:=by
  unfold kF
  rw [p,aI]
  show (if _ then _ else _)=_
  rw [if_pos (Nat.le_trans hl (by decide))]
theorem mB {l:List Nat}:(l.filter fun c => !decide (c=48∨c=49))=[] ↔ okT l=true:=by
  rw [List.filter_eq_nil_iff,gc]
  constructor
  · intro q c hc
    have:=q c hc
    by_cases e:c=48∨c=49
    · exact e
    · rw [decide_eq_false e] at this;exact absurd rfl this
  · intro q c hc z
    rw [decide_eq_true (q c hc)] at z;cases z
section
variable {w:Web} {n:Nat} {ss:List (Option Int)}
theorem mC (ls:ss.length=n){k:Nat}{h:Hd}(hk:h[k]? = some (.lst (ss.map bu))){l:List Nat}(A:Asc l)(no:l.length≠n∨okT l=false):dB [.str l,.ref k] h=.ok .non h:=by
  have t1:tE (aq oNe (kF (aa 0)) (cV (lOf (aa 1)))) [some (.str l),some (.ref k),none] h=.ok (!decide ((l.length:Int)=(n:Int))) h:=aW (ao (rJ rfl A.len) (cb (bZ rfl (bo hk))) (by rw [List.length_map,ls,e9]))
  have t2:tE (aq oGt (cV (bA 1 [] (iF (aa 0)) (gN 0) [(tE (aq iy (aa 0) (fC (.str [48,49]))))] (aa 0))) (fC (.int 0))) [some (.str l),some (.ref k),none] h=.ok (decide ((0:Int) < ((SL (l.filter fun c => !decide (c=48∨c=49))).length:Nat))) h:=aW (ao (cb (cD (jz rfl A) (my l h))) rfl rfl)
  by_cases e:l.length=n
  · rw [decide_eq_true (by rw [e])] at t1
    have no:=no.resolve_left (fun z=>z e)
    have ne:(l.filter fun c => !decide (c=48∨c=49))≠[]:=fun z=>by rw [mB.mp z] at no;cases no
    have pos:(0:Int) < ((SL (l.filter fun c => !decide (c=48∨c=49))).length:Nat):=by
      rw [List.length_map];have:=List.length_pos_iff.mpr ne;omega
    rw [decide_eq_true pos] at t2
    exact (cE rfl rfl (iK ((jp (ed t1 t2)).trans (bn rfl)))).trans aT
  · rw [decide_eq_false (show ¬ ((l.length:Int)=(n:Int)) by omega)] at t1
    exact (cE rfl rfl (iK ((jp (qZ t1)).trans (bn rfl)))).trans aT
theorem yo (ls:ss.length=n)(n30:n≤30){k:Nat}{h:Hd}(hk:h[k]? = some (.lst (ss.map bu))){l:List Nat}(A:Asc l)(e:l.length=n)(ok:okT l=true):dB [.str l,.ref k] h=.ok (if (List.range n).filter (mz ss (cx l))=[] then bb (cx l) else .non) h:=by
  have t1:tE (aq oNe (kF (aa 0)) (cV (lOf (aa 1)))) [some (.str l),some (.ref k),none] h=.ok false h:=aW (ao (rJ rfl A.len) (cb (bZ rfl (bo hk))) (by rw [List.length_map,ls,e9,e,decide_eq_true rfl];rfl))
  have t2:tE (aq oGt (cV (bA 1 [] (iF (aa 0)) (gN 0) [(tE (aq iy (aa 0) (fC (.str [48,49]))))] (aa 0))) (fC (.int 0))) [some (.str l),some (.ref k),none] h=.ok false h:=by
    have:=my l h
    rw [mB.mpr ok] at this
    exact aW (ao (cb (cD (jz rfl A) this)) rfl rfl)
  have s2:aG (gN 2) (cU (bA 1 [] (iF (aa 0)) (gN 0) [] (fH (aa 0)))) [some (.str l),some (.ref k),none] h=.nx [some (.str l),some (.ref k),some (bb (cx l))] h:=aN (jr (cD (jz rfl A) (uv ok h)))
  have lv:(cx l).length=n:=by unfold cx;rw [List.length_map,e]
  have ll:(ss.map bu).length=n:=by rw [List.length_map,ls]
  have t3:tE (aq oGt (cV (bA 1 [1,2] (cW (cV (lOf (aa 1)))) (gN 0) [(gO (tE (aq ei (fAt (aa 1) (aa 0)) (fC .non))) (tE (aq oNe (fAt (aa 1) (aa 0)) (fAt (aa 2) (aa 0)))))] (aa 0))) (fC (.int 0))) [some (.str l),some (.ref k),some (bb (cx l))] h=.ok (decide ((0:Int) < ((((List.range n).filter (mz ss (cx l))).map fun k:Nat=>D.int k).length:Nat))) h :=
    aW (ao (cb (cD (fJ (cb (bZ rfl (bo hk))) (by rw [ll];exact Nat.le_trans n30 (by decide))) (by rw [ll];exact wc ls lv hk))) rfl rfl)
  rw [List.length_map] at t3
  by_cases g:(List.range n).filter (mz ss (cx l))=[]
  · rw [if_pos g]
    rw [g,decide_eq_false (by decide)] at t3
    exact (cE rfl rfl ((aF ((bQ (ed t1 t2)).trans rfl)).trans ((aF s2).trans ((aF ((bQ t3).trans rfl)).trans (bn rfl))))).trans aT
  · rw [if_neg g]
    have pos:(0:Int) < (((List.range n).filter (mz ss (cx l))).length:Nat):=by have:=List.length_pos_iff.mpr g;omega
    rw [decide_eq_true pos] at t3
    exact (cE rfl rfl ((aF ((bQ (ed t1 t2)).trans rfl)).trans ((aF s2).trans (iK ((jp t3).trans (bn rfl)))))).trans aT
theorem rK {l:List Nat}(ok:okT l=true){i:Nat}{v:Int}(e:(cx l)[i]? = some v):v=0∨v=1:=by
  unfold cx at e
  rw [List.getElem?_map] at e
  cases c:l[i]? with
  | none=>rw [c] at e;cases e
  | some x =>
    rw [c] at e
    have:=gc.mp ok x (List.mem_of_getElem? c)
    have e:(x:Int) - 48=v:=Option.some.inj e
    omega
theorem yp (W:w.Ok n)(hss:w.stays=ss)(ls:ss.length=n)(n30:n≤30){k:Nat}{h:Hd}(hk:h[k]? = some (.lst (ss.map bu))){l:List Nat}(A:Asc l) :
    (dB [.str l,.ref k] h=.ok .non h∧aJ [w.enc,.str l] h=.exc NSx h)∨(dB [.str l,.ref k] h=.ok (bb (cx l)) h∧aJ [w.enc,.str l] h=.ok (bb (cx l)) h∧okT l=true∧l.length=n):=by
  cases ok:okT l with
  | false=>exact .inl ⟨mC ls hk A (.inr ok),uw A ok h⟩
  | true =>
    have lv:(cx l).length=l.length:=by unfold cx;rw [List.length_map]
    by_cases e:l.length=n
    · have two:=yo ls n30 hk A e ok
      by_cases g:(List.range n).filter (mz ss (cx l))=[]
      · rw [if_pos g] at two
        refine .inr ⟨two,ux A ok (rg W ⟨by rw [lv,e],fun x hx => ?_,fun i x hx => ?_⟩ h),rfl,e⟩
        · obtain⟨i,hi⟩:=List.mem_iff_getElem?.mp hx
          exact rK ok hi
        · rw [hss] at hx
          have hi:i < n:=by rw [← ls];exact (List.getElem?_eq_some_iff.mp hx).1
          have b:=(List.filter_eq_nil_iff.mp g) i (List.mem_range.mpr hi)
          unfold mz at b
          rw [List.getD_eq_getElem?_getD,hx] at b
          have b : ¬ (!decide (x=(cx l).getD i 0))=true:=b
          have eq:x=(cx l).getD i 0:=by
            by_cases z:x=(cx l).getD i 0
            · exact z
            · rw [decide_eq_false z] at b;exact absurd rfl b
          have hv:i < (cx l).length:=by rw [lv,e];exact hi
          rw [eq,List.getD_eq_getElem?_getD,List.getElem?_eq_getElem hv];rfl
      · rw [if_neg g] at two
        refine .inl ⟨two,uy A ok (BS W (L:=(cx l).map .int) (by rw [List.length_map,lv,e]) (fun i x hx => ?_) ?_)⟩
        · rw [List.getElem?_map] at hx
          cases c:(cx l)[i]? with
          | none=>rw [c] at hx;cases hx
          | some v =>
            rw [c] at hx
            have hx:D.int v=x:=Option.some.inj hx
            subst hx
            have vb:=rK ok c
            have hi:i < ss.length:=by rw [ls,← e,← lv];exact (List.getElem?_eq_some_iff.mp c).1
            cases u:ss[i] with
            | none=>exact .inl ⟨v,rfl,vb,.inl (by rw [hss,List.getElem?_eq_getElem hi,u])⟩
            | some z =>
              by_cases vz:v=z
              · exact .inl ⟨v,rfl,vb,.inr (by rw [hss,List.getElem?_eq_getElem hi,u,vz])⟩
              · exact .inr (.inr ⟨v,z,rfl,vb,by rw [hss,List.getElem?_eq_getElem hi,u],vz⟩)
        · obtain⟨i,hi⟩:=List.exists_mem_of_ne_nil _ g
          obtain⟨hr,hb⟩:=List.mem_filter.mp hi
          have hin:=List.mem_range.mp hr
          have hv:i < (cx l).length:=by rw [lv,e];exact hin
          have hsl:i < ss.length:=by rw [ls];exact hin
          refine⟨i,.int (cx l)[i],by rw [List.getElem?_map,List.getElem?_eq_getElem hv];rfl,.inr ?_⟩
          unfold mz at hb
          rw [List.getD_eq_getElem?_getD,List.getElem?_eq_getElem hsl] at hb
          cases u:ss[i] with
          | none=>rw [u] at hb;cases hb
          | some z =>
            rw [u] at hb
            have hb:(!decide (z=(cx l).getD i 0))=true:=hb
            rw [List.getD_eq_getElem?_getD,List.getElem?_eq_getElem hv] at hb
            refine⟨(cx l)[i],z,rfl,rK ok (List.getElem?_eq_getElem hv),by rw [hss,List.getElem?_eq_getElem hsl,u],fun q => ?_⟩
            have:z=(some (cx l)[i]).getD 0:=q.symm
            rw [decide_eq_true this] at hb;cases hb
    · exact .inl ⟨mC ls hk A (.inl e),uy A ok (yk W (by rw [List.length_map,lv];exact e) h)⟩
end
end Fm
set_option linter.all false
namespace Fm
theorem eY {a b:List Nat}{h:Hd}(p:a.length + b.length≤1000):gF (.str a) (.str b) h=.ok (.str (a++b)) h:=by
  show (if _ then _ else _)=_
  rw [if_pos (Nat.le_trans p (by decide))]
theorem D1 {a:EF}{σ:Sd}{h:Hd}{l:List Nat}{j:Nat}{e:EF}(p:a σ h=.ok (.str l) h)(q:e σ h=.ok (.int j) h)(hl:l.length≤1000)(hj:j≤l.length):bW a pNo (pAt e) σ h=.ok (.str (l.take j)) h:=by
  have c:vL l none (some (j:Int))=some (l.take j):=by
    show (if _ then _ else _)=_
    rw [if_pos ⟨by omega,by omega⟩,Int.toNat_natCast]
  simp only [bW,p,aI,pNo,pAt,q]
  rw [if_pos (Nat.le_trans hl (by decide)),c]
theorem uz {a:EF}{σ:Sd}{h:Hd}{l:List Nat}{j:Nat}{e:EF}(p:a σ h=.ok (.str l) h)(q:e σ h=.ok (.int j) h)(hl:l.length≤1000)(hj:j≤l.length):bW a (pAt e) pNo σ h=.ok (.str (l.drop j)) h:=by
  have c:vL l (some (j:Int)) none=some (l.drop j):=by
    show (if _ then _ else _)=_
    rw [if_pos ⟨by omega,by omega⟩,Int.toNat_natCast]
  simp only [bW,p,aI,pNo,pAt,q]
  rw [if_pos (Nat.le_trans hl (by decide)),c]
theorem rL {a b:EF}{σ:Sd}{h h1 h2:Hd}{l:List Nat}{j:Nat}{c:Nat}(p:a σ h=.ok (.str l) h1)(q:b σ h1=.ok (.int j) h2)(hl:l.length≤1000)(e:l[j]? = some c):qW a b σ h=.ok (.str [c]) h2:=by
  have hj:=(List.getElem?_eq_some_iff.mp e).1
  refine ao p q ?_
  show (if _ then _ else _)=_
  rw [if_pos (Nat.le_trans hl (by decide)),rq hj]
  show (match l[j]? with|some c=>Res.ok (D.str [c]) h2|none=>Res.bad)=_
  rw [e]
theorem BY {a:EF}{σ:Sd}{h h1:Hd}{c:Nat}(p:a σ h=.ok (.str [c]) h1)(hc:c=48∨c=49):fH a σ h=.ok (.int ((c:Int) - 48)) h1:=by
  unfold fH
  rw [p,aI]
  show (if _ then _ else _)=_
  rw [if_pos hc]
theorem wd {v m:Int}(h0:0≤v)(h1:v < m):∃ q:Nat,v=q∧(q:Int) < m:=⟨v.toNat,by omega,by omega⟩
def mD:List Nat:=[48,49,50,51,32,45,120,57]
theorem we {t:List Nat}{n:Nat}(lt:t.length=n)(n1:1≤n)(n30:n≤30)(ok:okT t=true){h0:Hd}{A:Nat}(hA:A=h0.length)(c0 t0:Int)(m:Bool):∃ l c' t',Asc l∧dn [.str t,.ref A] (h0++[SC c0 t0 m])=.ok (.str l) (h0++[SC c' t' m]):=by
  have hl:t.length≤1000:=by omega
  have tl:∀ c∈t,c < 128:=fun c hc=>by have:=gc.mp ok c hc;omega
  obtain⟨v1,c1,t1,d1,a0,a1⟩:=bT (h:=h0++[SC c0 t0 m]) (n:=A) (m:=(t.length:Int)) (rc hA _) (by omega) (by omega)
  rw [re hA] at d1
  obtain⟨v2,c2,t2,d2,w0,w1⟩:=bT (h:=h0++[SC c1 t1 m]) (n:=A) (m:=5) (rc hA _) (by decide) (by decide)
  rw [re hA] at d2
  obtain⟨v3,c3,t3,d3,g0,g1⟩:=bT (h:=h0++[SC c2 t2 m]) (n:=A) (m:=8) (rc hA _) (by decide) (by decide)
  rw [re hA] at d3
  obtain⟨at_,rfl,a1⟩:=wd a0 a1
  obtain⟨sg,rfl,g1⟩:=wd g0 g1
  have sg8:sg < mD.length:=by show sg < 8;omega
  have sm:mD[sg] < 128:=by
    have:∀ c∈mD,c < 128:=by decide
    exact this _ (List.getElem_mem sg8)
  obtain⟨s,hs⟩ : ∃ s,s=mD[sg]:=⟨_,rfl⟩
  rw [← hs] at sm
  obtain⟨hf,hhf⟩ : ∃ hf,hf=h0++[SC c3 t3 m]:=⟨_,rfl⟩
  have hat:at_ < t.length:=by omega
  have s1:aG (gN 2) (am ay (ae (aa 1) (ae (kF (aa 0)) ax))) [some (.str t),some (.ref A),none,none,none] (h0++[SC c0 t0 m])=.nx [some (.str t),some (.ref A),some (.int at_),none,none] (h0++[SC c1 t1 m]):=aN (av (cG rfl (rJ rfl hl)) d1)
  have s2:aG (gN 3) (am ay (ae (aa 1) (ae (fC (.int 5)) ax))) [some (.str t),some (.ref A),some (.int at_),none,none] (h0++[SC c1 t1 m])=.nx [some (.str t),some (.ref A),some (.int at_),some (.int v2),none] (h0++[SC c2 t2 m]):=aN (av (cG rfl rfl) d2)
  have s3:aG (gN 4) (qW (fC (.str [48,49,50,51,32,45,120,57])) (am ay (ae (aa 1) (ae (fC (.int 8)) ax)))) [some (.str t),some (.ref A),some (.int at_),some (.int v2),none] (h0++[SC c2 t2 m])=.nx [some (.str t),some (.ref A),some (.int at_),some (.int v2),some (.str [s])] hf:=by
    rw [hhf,hs]
    exact aN (rL (l:=mD) rfl (av (cG rfl rfl) d3) (by decide) (List.getElem?_eq_getElem sg8))
  obtain⟨σ,hσ⟩ : ∃ σ:Sd,σ = [some (.str t),some (.ref A),some (.int at_),some (.int v2),some (.str [s])]:=⟨_,rfl⟩
  have v0:aa 0 σ hf=.ok (.str t) hf:=by rw [hσ];rfl
  have v2':aa 2 σ hf=.ok (.int at_) hf:=by rw [hσ];rfl
  have v4:aa 4 σ hf=.ok (.str [s]) hf:=by rw [hσ];rfl
  have v21:aq cF (aa 2) (fC (.int 1)) σ hf=.ok (.int ((at_ + 1:Nat):Int)) hf:=ao v2' rfl rfl
  have hd:bW (aa 0) pNo (pAt (aa 2)) σ hf=.ok (.str (t.take at_)) hf:=D1 v0 v2' hl (Nat.le_of_lt hat)
  have tl1:bW (aa 0) (pAt (aa 2)) pNo σ hf=.ok (.str (t.drop at_)) hf:=uz v0 v2' hl (Nat.le_of_lt hat)
  have tl2:bW (aa 0) (pAt (aq cF (aa 2) (fC (.int 1)))) pNo σ hf=.ok (.str (t.drop (at_ + 1))) hf:=uz v0 v21 hl hat
  have ft:∀ k:Int,tE (aq oEq (aa 3) (fC (.int k))) σ hf=.ok (decide (v2=k)) hf:=fun k=>by rw [hσ];exact aW (ao rfl rfl xj)
  have lh:(t.take at_).length≤30:=by rw [List.length_take];omega
  have ld1:(t.drop at_).length≤30:=by rw [List.length_drop];omega
  have ld2:(t.drop (at_ + 1)).length≤30:=by rw [List.length_drop];omega
  have ah:∀ c∈t.take at_,c < 128:=fun c hc=>tl c (List.take_subset _ _ hc)
  have ad:∀ k,∀ c∈t.drop k,c < 128:=fun k c hc=>tl c (List.drop_subset _ _ hc)
  have join3:∀ {x y z:List Nat},x.length≤30→y.length≤30→z.length≤30→(∀ c∈x,c < 128)→(∀ c∈y,c < 128)→(∀ c∈z,c < 128)→Asc (x++y++z):=fun {x y z} h1 h2 h3 q1 q2 q3=>⟨by rw [List.length_append,List.length_append];omega,fun c hc=>by
    rcases List.mem_append.mp hc with hc|hc
    · rcases List.mem_append.mp hc with hc|hc
      · exact q1 c hc
      · exact q2 c hc
    · exact q3 c hc⟩
  have one:∀ {x:Nat},x < 128 → ∀ c∈[x],c < 128:=fun {x} q c hc=>by rw [List.mem_singleton.mp hc];exact q
  have go:∀ {l:List Nat},letGo (h0++[SC c0 t0 m]) (.ok (.str l) hf)=.ok (.str l) (h0++[SC c3 t3 m]):=fun {l}=>by rw [hhf];exact p7 (by simp)
  have st:([D.str t,.ref A].map some++List.replicate (5 - [D.str t,.ref A].length) none:Sd)=[some (.str t),some (.ref A),none,none,none]:=rfl
  rw [← hσ] at s3
  have f0:=ft 0
  by_cases e0:v2=0
  · rw [decide_eq_true e0] at f0
    refine⟨_,_,_,join3 lh (show [s].length≤30 from of_decide_eq_true rfl) ld1 ah (one sm) (ad at_),(cE rfl st ((aF s1).trans ((aF s2).trans ((aF s3).trans (iK ((jp f0).trans (bn (ao (ao hd v4 (eY (by simp only [List.length_singleton];omega))) tl1 (eY (by rw [List.length_append,List.length_singleton];omega)))))))))).trans go⟩
  · rw [decide_eq_false e0] at f0
    have f1:=ft 1
    by_cases e1:v2=1
    · rw [decide_eq_true e1] at f1
      have as:Asc (t.take at_++t.drop (at_ + 1)):=by have:=join3 (y:=[]) lh (Nat.zero_le _) ld2 ah (fun _ z=>absurd z List.not_mem_nil) (ad _);rwa [List.append_nil] at this
      exact⟨_,_,_,as,(cE rfl st ((aF s1).trans ((aF s2).trans ((aF s3).trans ((aF ((bQ f0).trans rfl)).trans (iK ((jp f1).trans (bn (ao hd tl2 (eY (by omega))))))))))).trans go⟩
    · rw [decide_eq_false e1] at f1
      have f2:=ft 2
      by_cases e2:v2=2
      · rw [decide_eq_true e2] at f2
        exact⟨_,_,_,join3 lh (show [s].length≤30 from of_decide_eq_true rfl) ld2 ah (one sm) (ad _),(cE rfl st ((aF s1).trans ((aF s2).trans ((aF s3).trans ((aF ((bQ f0).trans rfl)).trans ((aF ((bQ f1).trans rfl)).trans (iK ((jp f2).trans (bn (ao (ao hd v4 (eY (by simp only [List.length_singleton];omega))) tl2 (eY (by rw [List.length_append,List.length_singleton];omega)))))))))))).trans go⟩
      · rw [decide_eq_false e2] at f2
        have f3:=ft 3
        by_cases e3:v2=3
        · rw [decide_eq_true e3] at f3
          have tc:=gc.mp ok t[at_] (List.getElem_mem hat)
          have ii:fH (qW (aa 0) (aa 2)) σ hf=.ok (.int ((t[at_] : Int) - 48)) hf:=BY (rL v0 v2' hl (List.getElem?_eq_getElem hat)) tc
          obtain⟨r,hr,rm⟩ : ∃ r:Nat,qW (fC (.str [49,48])) (fH (qW (aa 0) (aa 2))) σ hf=.ok (.str [r]) hf∧r < 128:=by
            rcases tc with q|q
            · rw [q] at ii
              exact⟨49,rL (l:=[49,48]) (j:=0) rfl ii (by decide) rfl,by decide⟩
            · rw [q] at ii
              exact⟨48,rL (l:=[49,48]) (j:=1) rfl ii (by decide) rfl,by decide⟩
          exact⟨_,_,_,join3 lh (show [r].length≤30 from of_decide_eq_true rfl) ld2 ah (one rm) (ad _),(cE rfl st ((aF s1).trans ((aF s2).trans ((aF s3).trans ((aF ((bQ f0).trans rfl)).trans ((aF ((bQ f1).trans rfl)).trans ((aF ((bQ f2).trans rfl)).trans (iK ((jp f3).trans (bn (ao (ao hd hr (eY (by simp only [List.length_singleton];omega))) tl2 (eY (by rw [List.length_append,List.length_singleton];omega))))))))))))).trans go⟩
        · rw [decide_eq_false e3] at f3
          have as:Asc (t++[s]):=by have:=join3 (z:=[]) (show t.length≤30 by omega) (show [s].length≤30 from of_decide_eq_true rfl) (Nat.zero_le _) tl (one sm) (fun _ z=>absurd z List.not_mem_nil);rwa [List.append_nil] at this
          exact⟨_,_,_,as,(cE rfl st ((aF s1).trans ((aF s2).trans ((aF s3).trans ((aF ((bQ f0).trans rfl)).trans ((aF ((bQ f1).trans rfl)).trans ((aF ((bQ f2).trans rfl)).trans ((aF ((bQ f3).trans rfl)).trans (bn (ao v0 v4 (eY (by simp only [List.length_singleton];omega)))))))))))).trans go⟩
end Fm
set_option linter.all false
namespace Fm
def txt (s:List Int):List Nat:=s.map fun x=>(x + 48).toNat
theorem Av (l:List Nat):jn (SL l)=some (l.map fun c=>[c]):=by
  induction l with
  | nil=>rfl
  | cons x l ih=>simp only [List.map_cons,jn,ih,Option.map_some]
theorem BZ (l:List Nat):(l.map fun c=>[c]).flatten=l:=by
  induction l with
  | nil=>rfl
  | cons x l ih=>rw [List.map_cons,List.flatten_cons,ih];rfl
theorem D2 (l:List Nat):((l.map fun c=>[c]).map (·.length)).sum=l.length:=by
  induction l with
  | nil=>rfl
  | cons x l ih =>
    rw [List.map_cons,List.map_cons,List.sum_cons,ih,List.length_cons]
    show 1 + l.length=l.length + 1
    omega
theorem xt {a:LF}{σ:Sd}{h h1:Hd}{l:List Nat}(p:a σ h=.ok (SL l) h1)(hl:l.length≤1000):ua a σ h=.ok (.str l) h1:=by
  unfold ua
  rw [p,aI]
  simp only [Av]
  rw [if_pos (by rw [D2];exact Nat.le_trans hl (by decide)),BZ]
theorem mE {d:D}{h:Hd}(hl:jd h d=none)(hd:dep d≤20)(hp:peq d d=some true):oNe d d h=.ok (.bl false) h:=by
  simp only [oNe,eqG,hl,if_pos hd,hp];rfl
theorem uA {d:D}{h:Hd}(hl:jd h d=none)(hd:dep d≤20)(hp:peq d d=some true):oEq d d h=.ok (.bl true) h:=by
  simp only [oEq,eqG,hl,if_pos hd,hp]
theorem rM (x:List Nat):peq (.str x) (.str x)=some true:=by simp [peq]
theorem qf:∀ (a b:List Int),a.length=b.length→fB (a.map .int) (b.map .int)=some (decide (a=b))
  | [],[],_=>by simp [fB]
  | x :: a,y :: b,h=>by
    have ih:=qf a b (by simpa using h)
    simp only [List.map_cons,fB,peq,ih]
    by_cases e:x=y<;>by_cases e2:a=b<;>simp [e,e2]
  | [],_ :: _,h=>by simp at h
  | _ :: _,[],h=>by simp at h
theorem yq (l:List Int):lR (l.map .int)=0:=by
  induction l with
  | nil=>rfl
  | cons x l ih=>simp [lR,dep,ih]
theorem xu (l:List Int):dep (bb l)=1:=by simp [bb,dep,yq]
theorem xv {a b:List Int}(h:a.length=b.length):peq (bb a) (bb b)=some (decide (a=b)):=by
  simp only [bb,peq,qf a b h,Option.map_some,List.length_map,h]
  simp
theorem uB (v:List Int)(x:List Nat):peq (.tup [bb v,.str x]) (.tup [bb v,.str x])=some true:=by
  have h:=xv (a:=v) (b:=v) rfl
  rw [decide_eq_true rfl] at h
  simp only [peq,fB,h,List.length_cons,List.length_nil,rM]
  simp
theorem uC (v:List Int)(x:List Nat):dep (.tup [bb v,.str x])≤20:=by
  simp only [dep,lR,xu];exact of_decide_eq_true rfl
section
variable {w:Web} {n:Nat} {s:List Int}
theorem Aw (op:∀ x∈s,x=0∨x=1):okT (txt s)=true:=by
  rw [gc]
  intro c hc
  obtain⟨x,hx,rfl⟩:=List.mem_map.mp hc
  rcases op x hx with rfl|rfl
  · exact .inl rfl
  · exact .inr rfl
theorem B0 (op:∀ x∈s,x=0∨x=1):cx (txt s)=s:=by
  unfold cx txt
  rw [List.map_map]
  exact (List.map_congr_left fun x hx=>by rcases op x hx with rfl|rfl<;>rfl).trans (List.map_id _)
theorem rN:(txt s).length=s.length:=List.length_map ..
theorem yr (op:∀ x∈s,x=0∨x=1)(h:Hd):b7 none (s.map .int) (gN 0) [] (Bw (aa 0)) (s.map .int) [none] h=.ok (SL (txt s)) h:=by
  have:=bP (g:=none) (all:=s.map .int) (tg:=gN 0) (cs:=[]) (e:=Bw (aa 0)) (h:=h) (I:=fun σ=>∃ a,σ = [a]) (fun _=>true) (fun d=>match d with | .int x=>.str [(x + 48).toNat] | _=>.non) trivial (xs:=s.map .int) (σ:=[none]) (by
    rintro x hx σ ⟨a,rfl⟩
    obtain⟨c,hc,rfl⟩:=List.mem_map.mp hx
    refine⟨_,rfl,⟨_,rfl⟩,rfl,fun _ => ?_⟩
    rcases op c hc with rfl|rfl
    · show (if -1000000≤(0:Int)∧(0:Int)≤1000000 then Res.ok (D.str (p6 (toString (0:Int)))) h else Res.bad)=Res.ok (D.str [48]) h
      rw [if_pos (by decide),show p6 (toString (0:Int))=[48] by decide]
    · show (if -1000000≤(1:Int)∧(1:Int)≤1000000 then Res.ok (D.str (p6 (toString (1:Int)))) h else Res.bad)=Res.ok (D.str [49]) h
      rw [if_pos (by decide),show p6 (toString (1:Int))=[49] by decide]) ⟨_,rfl⟩
  rw [this,List.filter_eq_self.mpr (fun _ _=>rfl),List.map_map]
  unfold txt SL
  rw [List.map_map];rfl
theorem xw (op:∀ x∈s,x=0∨x=1)(ls:s.length≤30)(h:Hd):cL [bb s] h=.ok (.str (txt s)) h :=
  (cE rfl rfl (bn (xt (cD (ml rfl) (yr op h)) (by rw [rN];omega)))).trans aT
theorem yt (op:∀ x∈s,x=0∨x=1)(h:Hd):b7 none (s.map .int) (gN 0) [] (fIx (ae (fC (.str [48])) (ae (fC (.str [49])) ax)) (aa 0)) (s.map .int) [none] h=.ok (SL (txt s)) h:=by
  have:=bP (g:=none) (all:=s.map .int) (tg:=gN 0) (cs:=[]) (e:=fIx (ae (fC (.str [48])) (ae (fC (.str [49])) ax)) (aa 0)) (h:=h) (I:=fun σ=>∃ a,σ = [a]) (fun _=>true) (fun d=>match d with | .int x=>.str [(x + 48).toNat] | _=>.non) trivial (xs:=s.map .int) (σ:=[none]) (by
    rintro x hx σ ⟨a,rfl⟩
    obtain⟨c,hc,rfl⟩:=List.mem_map.mp hx
    refine⟨_,rfl,⟨_,rfl⟩,rfl,fun _ => ?_⟩
    rcases op c hc with rfl|rfl
    · exact iJ (cG rfl rfl) rfl rfl
    · exact iJ (cG rfl rfl) rfl rfl) ⟨_,rfl⟩
  rw [this,List.filter_eq_self.mpr (fun _ _=>rfl),List.map_map]
  unfold txt SL
  rw [List.map_map];rfl
theorem yu (s:List Int)(h:Hd):b7 none (s.map .int) (gN 0) [(tE (cC .bool (aa 0)))] (aa 0) (s.map .int) [none] h=.ok [] h:=by
  have:=bP (g:=none) (all:=s.map .int) (tg:=gN 0) (cs:=[(tE (cC .bool (aa 0)))]) (e:=aa 0) (h:=h) (I:=fun σ=>∃ a,σ = [a]) (fun _=>false) (fun d=>d) trivial (xs:=s.map .int) (σ:=[none]) (by
    rintro x hx σ ⟨a,rfl⟩
    obtain⟨c,hc,rfl⟩:=List.mem_map.mp hx
    exact⟨_,rfl,⟨_,rfl⟩,rfl,fun _=>rfl⟩) ⟨_,rfl⟩
  rw [this,List.filter_eq_nil_iff.mpr (fun _ _ z=>by cases z)];rfl
noncomputable abbrev X50 (S0:D) (n:Nat) (w:D) (s t a9 a10 a11 a12 a13:Option D):Sd:=[some S0,some (.int n),some (.ref 1),some (.ref (5 + n)),some (.ref 3),some (.ref 4),some w,s,t,a9,a10,a11,a12,a13]
theorem Ax (W:w.Ok n)(ns:List Int){S0:D}(hS0:S0=.lit (ns.map .int))(F:x6 w n s)(n1:1≤n)(n30:n≤30){H g:Hd}(hs:H[3]? = some (.lst (w.stays.map bu))){k:Nat}(a10 a11 a12 a13:Option D) :
    ∃ b10 b11 b12 b13 g',vR (X50 S0 n w.enc (some (bb s)) (some (.str (txt s))) (some (.int k)) a10 a11 a12 a13) (H++g)=.nx (X50 S0 n w.enc (some (bb s)) (some (.str (txt s))) (some (.int k)) b10 b11 b12 b13) (H++g'):=by
  obtain⟨h0,hh0⟩ : ∃ h0,h0=H++g:=⟨_,rfl⟩
  rw [← hh0]
  have hs0:h0[3]? = some (.lst (w.stays.map bu)):=by rw [hh0];exact dj _ hs
  obtain⟨c0,m,q0⟩:=jx ns (42 + k) h0
  obtain⟨A,hA⟩ : ∃ A,A=h0.length:=⟨_,rfl⟩
  rw [← hS0,← hA] at q0
  have q0:bj [S0,.int ((42:Int) + (k:Int))] h0=.ok (.ref A) (h0++[SC c0 0 m]):=q0
  have okt:=Aw F.op
  have s1:aG (gN 10) (am bj (ae (aa 0) (ae (aq cF (fC (.int 42)) (aa 9)) ax))) (X50 S0 n w.enc (some (bb s)) (some (.str (txt s))) (some (.int k)) a10 a11 a12 a13) h0=.nx (X50 S0 n w.enc (some (bb s)) (some (.str (txt s))) (some (.int k)) (some (.ref A)) a11 a12 a13) (h0++[SC c0 0 m]):=aN (av (cG rfl (ao rfl rfl rfl)) q0)
  obtain⟨l,c1,t1,As,q1⟩:=we (t:=txt s) (n:=n) (by rw [rN,F.len]) n1 n30 okt hA c0 0 m
  have s2:aG (gN 11) (am dn (ae (aa 8) (ae (aa 10) ax))) (X50 S0 n w.enc (some (bb s)) (some (.str (txt s))) (some (.int k)) (some (.ref A)) a11 a12 a13) (h0++[SC c0 0 m])=.nx (X50 S0 n w.enc (some (bb s)) (some (.str (txt s))) (some (.int k)) (some (.ref A)) (some (.str l)) a12 a13) (h0++[SC c1 t1 m]):=aN (av (cG rfl rfl) q1)
  have hs1:(h0++[SC c1 t1 m])[3]? = some (.lst (w.stays.map bu)):=dj _ hs0
  have rd:=yp W rfl W.s n30 hs1 As
  obtain⟨due,e3,e4⟩ : ∃ due,aG (gN 12) (am dB (ae (aa 11) (ae (aa 4) ax))) (X50 S0 n w.enc (some (bb s)) (some (.str (txt s))) (some (.int k)) (some (.ref A)) (some (.str l)) a12 a13) (h0++[SC c1 t1 m])=.nx (X50 S0 n w.enc (some (bb s)) (some (.str (txt s))) (some (.int k)) (some (.ref A)) (some (.str l)) (some due) a13) (h0++[SC c1 t1 m]) ∧
      sIf (tE (aq oNe (am c6 (ae (aa 6) (ae (aa 11) ax))) (eZ (ae (aa 12) (ae (fIx (ae (fC (.str [114,101,97,100])) (ae (fC (.str [115,116,97,110,100])) ax)) (C7 (aq kR (aa 12) (fC .non)))) ax))))) (bc (fC (.bl false))) a7 (X50 S0 n w.enc (some (bb s)) (some (.str (txt s))) (some (.int k)) (some (.ref A)) (some (.str l)) (some due) a13) (h0++[SC c1 t1 m])=.nx (X50 S0 n w.enc (some (bb s)) (some (.str (txt s))) (some (.int k)) (some (.ref A)) (some (.str l)) (some due) a13) (h0++[SC c1 t1 m]):=by
    rcases rd with ⟨r1,r2⟩|⟨r1,r2,_,_⟩
    · exact⟨.non,aN (av (cG rfl rfl) r1),(bQ (aW (ao (av (cG rfl rfl) (xr r2)) (d8 (cG rfl (iJ (i:=1) (cG rfl rfl) rfl rfl))) rfl))).trans rfl⟩
    · exact⟨bb (cx l),aN (av (cG rfl rfl) r1),(bQ (aW (ao (av (cG rfl rfl) (xq r2)) (d8 (cG rfl (iJ (i:=0) (cG rfl rfl) rfl rfl))) (mE rfl (uC _ _) (uB _ _))))).trans rfl⟩
  obtain⟨v,c2,t2,d2,v0,v1⟩:=bT (h:=h0++[SC c1 t1 m,.lst [.str (txt s)],.dct []]) (n:=A) (m:=7) (iA hA 0) (by decide) (by decide)
  rw [show A=A + 0 from rfl,lA hA 0] at d2
  have d2:ay [.ref A,.int 7] (h0++[SC c1 t1 m,.lst [.str (txt s)],.dct []])=.ok (.int v) (h0++[SC c2 t2 m,.lst [.str (txt s)],.dct []]):=d2
  have la:(ae (fC .non) (ae (fC (.int 1)) (ae (fC (.bl true)) (ae (aa 7) (ae (cZ (ae (aa 8) ax)) (ae iI (ae (aq zm (fC (.int 10)) (fC (.int 20))) ax))))))) (X50 S0 n w.enc (some (bb s)) (some (.str (txt s))) (some (.int k)) (some (.ref A)) (some (.str l)) (some due) a13) (h0++[SC c1 t1 m])=.ok [.non,.int 1,.bl true,bb s,.ref (A + 1),.ref (A + 2),.int (10 ^ 20)] (h0++[SC c1 t1 m,.lst [.str (txt s)],.dct []]) :=
    ag rfl (ag rfl (ag rfl (ag rfl (ag (q8 (g:=[SC c1 t1 m]) hA (ag rfl rfl) (of_decide_eq_true rfl)) (ag (BD (g:=[SC c1 t1 m,.lst [.str (txt s)]]) hA) (ag (ao (z:=.int (10 ^ 20)) rfl rfl rfl) rfl))))))
  obtain⟨hf,hhf⟩ : ∃ hf,hf=h0++[SC c2 t2 m,.lst [.str (txt s)],.dct []]:=⟨_,rfl⟩
  rw [← hhf] at d2
  have kl:hf[A + 1]? = some (.lst [.str (txt s)]):=by rw [hhf];exact iA hA 1
  have kd:hf[A + 2]? = some (.dct []):=by rw [hhf];exact iA hA 2
  obtain⟨th,e5,k5⟩ : ∃ th,atI [.non,.int 1,.bl true,bb s,.ref (A + 1),.ref (A + 2),.int (10 ^ 20)] v=some th∧lV hf .str th=some false:=by
    obtain⟨q,rfl,q7⟩:=wd v0 v1
    have q7:q < 7:=by omega
    match q,q7 with
    | 0,_=>exact⟨_,rfl,rfl⟩
    | 1,_=>exact⟨_,rfl,rfl⟩
    | 2,_=>exact⟨_,rfl,rfl⟩
    | 3,_=>exact⟨_,rfl,rfl⟩
    | 4,_=>exact⟨_,rfl,by simp only [lV,kl];rfl⟩
    | 5,_=>exact⟨_,rfl,by simp only [lV,kd]⟩
    | 6,_=>exact⟨_,rfl,rfl⟩
  have s5:aG (gN 13) (fIx (ae (fC .non) (ae (fC (.int 1)) (ae (fC (.bl true)) (ae (aa 7) (ae (cZ (ae (aa 8) ax)) (ae iI (ae (aq zm (fC (.int 10)) (fC (.int 20))) ax))))))) (am ay (ae (aa 10) (ae (fC (.int 7)) ax)))) (X50 S0 n w.enc (some (bb s)) (some (.str (txt s))) (some (.int k)) (some (.ref A)) (some (.str l)) (some due) a13) (h0++[SC c1 t1 m])=.nx (X50 S0 n w.enc (some (bb s)) (some (.str (txt s))) (some (.int k)) (some (.ref A)) (some (.str l)) (some due) (some th)) hf:=aN (iJ la (av (cG rfl rfl) d2) e5)
  have s6:sIf (tE (aq oNe (am c6 (ae (aa 6) (ae (aa 13) ax))) (eZ (ae (fC .non) (ae (fC (.str [115,116,97,110,100])) ax))))) (bc (fC (.bl false))) a7 (X50 S0 n w.enc (some (bb s)) (some (.str (txt s))) (some (.int k)) (some (.ref A)) (some (.str l)) (some due) (some th)) hf=.nx (X50 S0 n w.enc (some (bb s)) (some (.str (txt s))) (some (.int k)) (some (.ref A)) (some (.str l)) (some due) (some th)) hf:=(bQ (aW (ao (av (cG rfl rfl) (xr (wa k5))) (d8 (cG rfl rfl)) rfl))).trans rfl
  refine⟨some (.ref A),some (.str l),some due,some th,g++[SC c2 t2 m,.lst [.str (txt s)],.dct []],(aF s1).trans ((aF s2).trans ((aF e3).trans ((aF e4).trans ((aF s5).trans (s6.trans ?_)))))⟩
  rw [hhf,hh0,List.append_assoc]
end
theorem D3 (ns:List Int)(_:ns.length≤63):∃ h,xl [.lit (ns.map .int)] []=.ok (.bl true) h:=by
  obtain⟨n,T,bs,ss,h,P⟩:=yd ns
  obtain⟨S0,hS0⟩ : ∃ S0:D,S0=.lit (ns.map .int):=⟨_,rfl⟩
  have hn:=P.n30
  have n1:=P.n1
  obtain⟨w,hw⟩ : ∃ w,w=qc n T bs ss:=⟨_,rfl⟩
  have W:w.Ok n:=by rw [hw];exact Au hn P.ok P.lb P.ls
  obtain⟨A,hA⟩ : ∃ A,A=h.length:=⟨_,rfl⟩
  obtain⟨H,hH⟩ : ∃ H:Hd,H=h++[.lst (T.map bS),.lst (bs.map .int),.lst (ss.map bu)]:=⟨_,rfl⟩
  have web:=yh n1 hn P.ok P.lb P.ls P.os (h:=H) (tk:=A) (bk:=A + 1) (sk:=A + 2) (by rw [hH];exact iA hA 0) (by rw [hH];exact iA hA 1) (by rw [hH];exact iA hA 2)
  rw [← hw] at web
  have st3:H[3]? = some (.lst (ss.map bu)):=by rw [hH];exact dj _ P.st
  obtain⟨s,qs,fs⟩:=yi ns 41 hn P.ls P.os st3
  have F:x6 w n s:=by rw [hw];exact fs.fits T bs
  have hs:H[3]? = some (.lst (w.stays.map bu)):=by rw [hw];exact st3
  have run:=P.run
  have op:=F.op
  have ls:s.length≤30:=by rw [F.len];exact hn
  have okt:=Aw op
  have vt:=B0 op
  have As:Asc (txt s):=⟨by rw [rN];omega,fun c hc=>by have:=gc.mp okt c hc;omega⟩
  rw [← hS0] at run qs ⊢
  have e0:Ag [some S0,none,none,none,none,none,none,none,none,none,none,none,none,none] []=.nx [some S0,some (.int n),some (.ref 1),some (.ref (5 + n)),some (.ref 3),some (.ref 4),none,none,none,none,none,none,none,none] h:=by
    have:am dk (ae (aa 0) ax) [some S0,none,none,none,none,none,none,none,none,none,none,none,none,none] []=.ok (.tup [.int n,.ref 1,.ref (5 + n),.ref 3,.ref 4]) h:=av (ag rfl rfl) run
    show outE _ _ _=_
    rw [this];rfl
  have tlen:(T.map bS).length≤SZ:=by
    rw [List.length_map]
    have:=P.ok.len
    exact Nat.le_trans (show T.length≤900 by omega) (by decide)
  have e1:Ah [some S0,some (.int n),some (.ref 1),some (.ref (5 + n)),some (.ref 3),some (.ref 4),none,none,none,none,none,none,none,none] h=.nx (X50 S0 n w.enc none none none none none none none) H:=by
    have a1:cZ (lOf (aa 2)) [some S0,some (.int n),some (.ref 1),some (.ref (5 + n)),some (.ref 3),some (.ref 4),none,none,none,none,none,none,none,none] h=.ok (.ref A) (h++[.lst (T.map bS)]):=BE hA (bZ rfl (bo P.ti)) tlen
    have a2:cZ (lOf (aa 3)) [some S0,some (.int n),some (.ref 1),some (.ref (5 + n)),some (.ref 3),some (.ref 4),none,none,none,none,none,none,none,none] (h++[.lst (T.map bS)])=.ok (.ref (A + 1)) (h++[.lst (T.map bS),.lst (bs.map .int)]):=q8 (g:=[.lst (T.map bS)]) hA (bZ rfl (bo (dj _ P.ba))) (by rw [List.length_map,P.lb];exact Nat.le_trans hn (by decide))
    have a3:cZ (lOf (aa 4)) [some S0,some (.int n),some (.ref 1),some (.ref (5 + n)),some (.ref 3),some (.ref 4),none,none,none,none,none,none,none,none] (h++[.lst (T.map bS),.lst (bs.map .int)])=.ok (.ref (A + 2)) H:=by rw [hH];exact q8 (g:=[.lst (T.map bS),.lst (bs.map .int)]) hA (bZ rfl (bo (dj _ P.st))) (by rw [List.length_map,P.ls];exact Nat.le_trans hn (by decide))
    exact aN (av (ag rfl (ag a1 (cG a2 a3))) web)
  have e2:Ai (X50 S0 n w.enc none none none none none none none) H=.nx (X50 S0 n w.enc (some (bb s)) none none none none none none) H:=aN (av (ag rfl (cG rfl rfl)) qs)
  have e3:Aj (X50 S0 n w.enc (some (bb s)) none none none none none none) H=.nx (X50 S0 n w.enc (some (bb s)) (some (.str (txt s))) none none none none none) H:=aN (xt (cD (ml rfl) (yt op H)) As.len)
  have rY:∀ g,aJ [w.enc,.str (txt s)] g=.ok (bb s) g:=fun g=>by
    have:=ux (w:=w) As okt (h:=g) (by rw [vt];exact rg W F g)
    rw [vt] at this;exact this
  have rd:∀ g,cr [w.enc,.str (txt s)] g=.ok (bb s) g:=fun g=>by
    have:=BX W As okt (by rw [vt];exact F) g
    rw [vt] at this;exact this
  have e4:Ak (X50 S0 n w.enc (some (bb s)) (some (.str (txt s))) none none none none none) H=.nx (X50 S0 n w.enc (some (bb s)) (some (.str (txt s))) none none none none none) H :=
    (bQ (ed (aW (ao (av (ag rfl rfl) (xw op ls H)) rfl (mE rfl (Nat.zero_le _) (rM _)))) (aW (ao (av (cG rfl rfl) (xq (rY H))) (d8 (cG rfl rfl)) (mE rfl (uC _ _) (uB _ _)))))).trans rfl
  have e5:Al (X50 S0 n w.enc (some (bb s)) (some (.str (txt s))) none none none none none) H=.nx (X50 S0 n w.enc (some (bb s)) (some (.str (txt s))) none none none none none) H :=
    (bQ (aW (ao (cb (cD (ml (av (cG rfl rfl) (rd H))) (yu s H))) rfl rfl))).trans rfl
  obtain⟨σ6,h6,q6,g6,a9,a10,a11,a12,a13,x1,x2⟩:=fI (P:=fun _ σ h'=>∃ g a9 a10 a11 a12 a13,h'=H++g ∧ σ = X50 S0 n w.enc (some (bb s)) (some (.str (txt s))) a9 a10 a11 a12 a13) (g:=none) (k:=0)
    (all:=(List.range 10).map fun k:Nat=>D.int k) (fun _ _ _ _=>trivial) (xs:=(List.range 10).map fun k:Nat=>D.int k) (tg:=gN 9) (σ:=X50 S0 n w.enc (some (bb s)) (some (.str (txt s))) none none none none none) (h:=H) (b:=vR) (by
      rintro i x σ h0 hx ⟨g,a9,a10,a11,a12,a13,rfl,rfl⟩
      obtain⟨hi,rfl⟩:=fO hx
      obtain⟨b10,b11,b12,b13,g',q⟩:=Ax W ns hS0 F n1 hn hs (g:=g) (k:=i) a10 a11 a12 a13
      exact⟨_,rfl,_,_,q,g',_,b10,b11,b12,b13,rfl,rfl⟩) ⟨[],none,none,none,none,none,(List.append_nil _).symm,rfl⟩
  subst x1 x2
  have e6:Am (X50 S0 n w.enc (some (bb s)) (some (.str (txt s))) none none none none none) H=.nx (X50 S0 n w.enc (some (bb s)) (some (.str (txt s))) a9 a10 a11 a12 a13) (H++g6):=ka (fJ (n:=10) rfl (by decide)) q6
  have e7:An (X50 S0 n w.enc (some (bb s)) (some (.str (txt s))) a9 a10 a11 a12 a13) (H++g6)=.rt (.bl true) (H++g6) :=
    bn (kG (i6 (aW (ao (av (ag rfl rfl) (xw op ls _)) rfl (uA rfl (Nat.zero_le _) (rM _)))) (aW (ao (av (cG rfl rfl) (rd _)) rfl (uA rfl (by rw [xu];decide) (by rw [xv rfl,decide_eq_true rfl]))))))
  exact⟨[],(cE rfl rfl ((aF e0).trans ((aF e1).trans ((aF e2).trans ((aF e3).trans ((aF e4).trans ((aF e5).trans ((aF e6).trans e7)))))))).trans (eL rfl)⟩
end Fm
set_option Elab.async false
set_option linter.all false
set_option maxRecDepth 100000
def PySem.W.Fast.tw90343872475197607 : Type := PySem.Params
theorem PySem.W.Fast.te90343872475197607 : PySem.Params = PySem.W.Fast.tw90343872475197607 := rfl
open PySem PySem.W PyProof.Rows
set_option maxRecDepth 100000 in
set_option maxHeartbeats 0 in
theorem PySem.Challenge.cw_followmost_k50_stands_written_holds : PySem.Challenge.rw_followmost_k50_stands_written.Holds := by
  w_on;o_law;k_head;(case hw=>w_witness2)
  k_fill
  refine Fm.EG (l := PySem.Challenge.rw_followmost_k50_stands_written) (F := Fm.xl) (k := 8) (x := "_law_script") rfl rfl ⟨rfl, by decide, by decide, rfl⟩ (fun w h Y => PySem.W.kIn_of Y) ?F Fm.D3
  case F =>
    intro w mg fa h KX G hmg
    refine' Fm.DS KX G hmg ?_ ?_ ?_ ?_ ?_ ?_ ?_ ?_ ?_ ?_ ?_ ?_ ?_ ?_ ?_ ?_ ?_ ?_ ?_ ?_ ?_ ?_ ?_ ?_ ?_ ?_ ?_ ?_ ?_ ?_ ?_ ?_ ?_ ?_ ?_ ?_ ?_ ?_ ?_ ?_ ?_ ?_ ?_ ?_ ?_ ?_ ?_ ?_ ?_ ?_ ?_ ?_ ?_ ?_ ?_ ?_ ?_ ?_ ?_ ?_ ?_ ?_ ?_ ?_ ?_ ?_ ?_ ?_ ?_ ?_ ?_ ?_ ?_ ?_ ?_ ?_ ?_ ?_ ?_ ?_ ?_ ?_ ?_ ?_ ?_ ?_ ?_ ?_ ?_ ?_ ?_ ?_ ?_ ?_ ?_ ?_ ?_ ?_ ?_ ?_ ?_ ?_ ?_ ?_ ?_ ?_ ?_ ?_ ?_ ?_ ?_ ?_ ?_ ?_ ?_ ?_ ?_ ?_ ?_ ?_ ?_ ?_ ?_ ?_ ?_ ?_ ?_ ?_ ?_ ?_
    all_goals try first|k_is|k_exc|kit_is
