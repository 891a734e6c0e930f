import PyProof.Rows.All
import Wide.All
import OpenK.AllK
import Wide.FinOn
import Lean
import PyProof.EqAt
import PyProof.EqKinds
import PyProof.TupleCall
import PyProof.NeKinds
import PyProof.IsInstanceH
import PyProof.IsiNone
import PyProof.EnumMake
import PyProof.Draws
import PyProof.ZipIter
import PyProof.ListRange
import PySem.Challenge.RW_followmost_k32_people_who_turn_all
set_option Elab.async false
set_option linter.all false
set_option maxRecDepth 100000
namespace L2
open PySem PySem.Spec PyProof.Rows
abbrev Key:=Sum Int Str
def EB:Key→Value→Bool
  | .inl k,v=>Value.isInt k v
  | .inr x,v=>Value.isStrOf x v
def Hl (w:World):Key→Int
  | .inl k=>hashInt k
  | .inr x=>hashStr w x
theorem cn:∀ {k:Key} {v:Value},EB k v=true→(∃ i t,k=Sum.inl i∧v=Value.int i t)∨(∃ x t,k=Sum.inr x∧v=Value.str x t)
  | .inl i,v,h=>by
    obtain⟨t,e⟩:=Value.isInt_shape (k:=i) (v:=v) h
    exact .inl ⟨i,t,rfl,e⟩
  | .inr x,v,h=>by
    obtain⟨t,e⟩:=Value.isStrOf_shape (x:=x) (v:=v) h
    exact .inr ⟨x,t,rfl,e⟩
theorem EO (a b:Int):decide ((Sum.inl a:Key)=Sum.inl b)=(a == b):=by
  by_cases e:a=b
  · subst e;simp
  · have h : ¬ (Sum.inl a:Key)=Sum.inl b:=fun q=>e (Sum.inl.inj q)
    rw [decide_eq_false h]
    exact (beq_eq_false_iff_ne.mpr e).symm
theorem EQ (a b:Str):decide ((Sum.inr a:Key)=Sum.inr b)=decide (a=b):=by
  by_cases e:a=b
  · subst e;simp
  · have h : ¬ (Sum.inr a:Key)=Sum.inr b:=fun q=>e (Sum.inr.inj q)
    rw [decide_eq_false h,decide_eq_false e]
theorem ER (a:Int)(b:Str):decide ((Sum.inl a:Key)=Sum.inr b)=false:=decide_eq_false (fun q=>nomatch q)
theorem ES (a:Str)(b:Int):decide ((Sum.inr a:Key)=Sum.inl b)=false:=decide_eq_false (fun q=>nomatch q)
def zn (prog:Program) (w:World):PySem.KeyKind prog w Key where
  is:=EB
  hash:=Hl w
  inj:=fun v a b ha hb=>by
    rcases cn ha with ⟨i,t,rfl,rfl⟩|⟨x,t,rfl,rfl⟩
    · rcases cn hb with ⟨j,u,rfl,e⟩|⟨y,u,rfl,e⟩
      · injection e with e1 _;rw [e1]
      · exact nomatch e
    · rcases cn hb with ⟨j,u,rfl,e⟩|⟨y,u,rfl,e⟩
      · exact nomatch e
      · injection e with e1 _;rw [e1]
  byValue:=fun k v h=>by
    rcases cn h with ⟨i,t,rfl,rfl⟩|⟨x,t,rfl,rfl⟩<;>rfl
  pyHash:=fun hv h=>by
    rcases cn hv with ⟨i,t,rfl,rfl⟩|⟨x,t,rfl,rfl⟩
    · exact wpAny_pyHash_int h
    · exact wpAny_pyHash_str h
  eqBool:=fun hu hv h=>by
    rcases cn hu with ⟨i,t,rfl,rfl⟩|⟨x,t,rfl,rfl⟩
    · rcases cn hv with ⟨j,u,rfl,rfl⟩|⟨y,u,rfl,rfl⟩
      · rw [EO] at h;exact wpAny_eqBool_int h
      · rw [ER] at h;exact SeqAt.EqAt.int_str i t y u _ _ _ _ h
    · rcases cn hv with ⟨j,u,rfl,rfl⟩|⟨y,u,rfl,rfl⟩
      · rw [ES] at h;exact SeqAt.EqAt.str_int x t j u _ _ _ _ h
      · rw [EQ] at h;exact wpAny_eqBool_str h
  «strs» := fun k x t v h=>by
    rcases cn h with ⟨i,u,rfl,e⟩|⟨y,u,rfl,e⟩
    · exact nomatch e
    · injection e with e1 _
      subst e1
      cases v<;>rfl
end L2
namespace L2
open PySem PySem.Spec PyProof.Rows
inductive V where
  | non|bl (b:Bool)|int (i:Int)|str (x:Str)|byt (b:Array UInt8)|flt (b:UInt64)|ref (a:Addr)|ty (n:String)
  deriving DecidableEq
def bQ:V→Value→Prop
  | .non,u=>u=Value.none
  | .bl b,u=>u=Value.bool b
  | .int i,u=>∃ t,u=Value.int i t
  | .str x,u=>∃ t,u=Value.str x t
  | .byt b,u=>∃ t,u=Value.bytes b t
  | .flt b,u=>∃ t,u=Value.float b t
  | .ref a,u=>u=Value.ref a
  | .ty n,u=>u=Value.type n
abbrev aS:List V→List Value→Prop:=Paired bQ
theorem aS.length {xs:List V}{us:List Value}(r:aS xs us):xs.length=us.length:=Paired.length r
theorem aS.get:∀ {xs:List V} {us:List Value} {i:Nat} {x:V},aS xs us→xs[i]? = some x → ∃ u,us[i]? = some u∧bQ x u
  | _,_,_,_,.nil,e=>by simp at e
  | _,_,0,_,.cons r _,e=>by simp at e;subst e;exact⟨_,rfl,r⟩
  | _,_,i + 1,x,.cons _ t,e=>by
    obtain⟨u,h1,h2⟩:=aS.get (i:=i) (x:=x) t (by simpa using e)
    exact⟨u,by simpa using h1,h2⟩
theorem aS.set {x:V}{u:Value}(r:bQ x u):∀ {xs:List V} {us:List Value} (i:Nat),aS xs us→aS (xs.set i x) (us.set i u)
  | _,_,_,.nil=>.nil
  | _,_,0,.cons _ t=>.cons r t
  | _,_,i + 1,.cons q t=>.cons q (aS.set r i t)
theorem aS.append:∀ {xs ys:List V} {us ws:List Value},aS xs us→aS ys ws→aS (xs++ys) (us++ws)
  | _,_,_,_,.nil,s=>s
  | _,_,_,_,.cons r t,s=>.cons r (aS.append t s)
theorem aS.take:∀ {xs:List V} {us:List Value} (n:Nat),aS xs us→aS (xs.take n) (us.take n)
  | _,_,0,_=>.nil
  | _,_,_ + 1,.nil=>.nil
  | _,_,n + 1,.cons r t=>.cons r (aS.take n t)
theorem aS.drop:∀ {xs:List V} {us:List Value} (n:Nat),aS xs us→aS (xs.drop n) (us.drop n)
  | _,_,0,r=>r
  | _,_,_ + 1,.nil=>.nil
  | _,_,n + 1,.cons _ t=>aS.drop n t
def Gn:Option V→Option Value→Prop
  | some v,some u=>bQ v u
  | none,none=>True
  | _,_=>False
def KV {κ : Type}:List (κ × V)→List (κ × Value)→Prop:=Paired fun (p : κ × V) (q : κ × Value)=>p.1=q.1∧bQ p.2 q.2
def kV:Key→V
  | .inl i=>.int i
  | .inr x=>.str x
inductive HO where
    | lst (xs:List V)
    | tup (xs:List V)
    | dK (kvs:List (Key × V))|dT (kvs:List (List Key × V))
    | set (S:Int→Bool) (n:Nat)
    | ins (C dx:Addr) (fs:List (Str × V))
    | own (x:Addr)
    | xd (fs:List (Str × V))
    | met (f x:Addr)
    | rng (lo hi:Int)
    | frz (o:Obj) (u:HO)
    | tbl (ps:Array Value)
    | ext (φ : Heap→Prop)
abbrev Hp:=Addr→Option HO
def upd (H:Hp) (a:Addr) (o:HO):Hp:=fun b=>if b=a then some o else H b
theorem bB {H:Hp}{a:Addr}{o:HO}:upd H a o a=some o:=by unfold upd;rw [if_pos rfl]
theorem aF {H:Hp}{a b:Addr}{o:HO}(h:b≠a):upd H a o b=H b:=by unfold upd;rw [if_neg h]
theorem aG {H:Hp}{a b:Addr}{o:HO}(h:H a=some o)(h':H b=none):a≠b:=by
  intro e;subst e;rw [h] at h';cases h'
def jQ (h:Heap) (a:Addr) (items:Array Value):Prop:=IsTup h a items ∧ ∃ o,h.get? a=some o∧o.dict=none
theorem jQ.new (h:Heap) (items:Array Value):jQ (h.push { cls:=.type "tuple",data:=.seq items }) h.objs.size items:=⟨IsTup.new h items,_,Heap.get?_push_size _ rfl,rfl⟩
section
variable (P:Program) (w:World)
def fM (H:Hp) (h:Heap) (a:Addr):HO→Prop
  | .lst xs=>xs.length≤sizeLine ∧ ∃ (its:List Value) (n:Nat),aS xs its∧h.get? a=some { cls:=.type "list",data:=.seq its.toArray n }
  | .tup xs=>xs.length≤sizeLine ∧ ∃ its:List Value,aS xs its∧jQ h a its.toArray
  | .dK kvs=>kvs.length≤sizeLine∧(a == sysModules)=false ∧ ∃ vs,KV kvs vs∧h.DictOf (zn P w) a vs
  | .dT kvs=>kvs.length≤sizeLine∧(a == sysModules)=false ∧ ∃ xs:List (List Key × Addr × Value),
      Paired (fun (p:List Key × V) (q:List Key × Addr × Value)=>p.1=q.1∧H q.2.1=some (.tup (p.1.map kV))∧bQ p.2 q.2.2) kvs xs ∧
      ∃ o es ep,h.get? a=some o∧o.ExactDict∧o.data=.dict es ep∧es.toList=xs.map (entryOfKey (tupleKind (zn P w)))∧(xs.map (·.1)).Nodup
  | .set S n=>h.SetOf (intKind P w) a S n
  | .ins C dx fs=>H dx=some (.own a)∧fs.length≤1000∧dx≠a∧h.get? a=some (PySem.W.instObj C dx) ∧
      ∃ mA,h.Ns1 dx mA∧(∀ f,Gn (fs.lookup f) (mA f))∧PySem.Within mA (fs.map (·.1))
  | .own _=>∃ o,h.get? a=some o
  | .xd fs=>∃ mA,h.Ns1 a mA ∧ ∀ f,Gn (fs.lookup f) (mA f)
  | .rng lo hi=>∃ t u v,h.get? a=some { cls:=.type "range",data:=.fields #[.int lo t,.int hi u,.int 1 v] }
  | .frz o u=>h.get? a=some o∧fM H h a u
  | .tbl ps=>h.get? a=some { cls:=.none,data:=.fields ps }
  | .met f x=>h.get? a=some (PySem.W.methodObj (.ref f) (.ref x))
  | .ext φ => φ h∧(∃ o,h.get? a=some o) ∧ ∀ h1 h2:Heap,φ h1→(∀ o,h1.get? a=some o→h2.get? a=some o) → φ h2
def HOk (H:Hp) (h:Heap):Prop:=∀ a o,H a=some o→fM P w H h a o
end
section
variable {P:Program} {w:World} {H H':Hp} {h h':Heap} {a:Addr} {o:HO}
theorem fM.lt (x:fM P w H h a o):a < h.objs.size:=by
  cases o with
  | lst xs=>obtain⟨_,_,_,_,e⟩:=x;exact Heap.lt_size e
  | tup xs=>obtain⟨_,_,_,p⟩:=x;exact p.1.lt
  | dK kvs=>obtain⟨_,_,_,_,o,_,_,e,_⟩:=x;exact Heap.lt_size e
  | dT kvs=>obtain⟨_,_,_,_,o,_,_,e,_⟩:=x;exact Heap.lt_size e
  | set S n=>obtain⟨o,_,_,_,e,_⟩:=x;exact Heap.lt_size e
  | ins C dx fs=>obtain⟨_,_,_,e,_⟩:=x;exact Heap.lt_size e
  | own y=>obtain⟨_,e⟩:=x;exact Heap.lt_size e
  | xd fs=>obtain⟨_,⟨_,_,_,e,_⟩,_⟩:=x;exact Heap.lt_size e
  | rng lo hi=>obtain⟨_,_,_,e⟩:=x;exact Heap.lt_size e
  | frz ob u=>obtain⟨e,_⟩:=x;exact Heap.lt_size e
  | tbl ps=>exact Heap.lt_size (show h.get? a=some _ from x)
  | met f y=>exact Heap.lt_size (show h.get? a=some _ from x)
  | ext φ => obtain⟨_,⟨_,e⟩,_⟩:=x;exact Heap.lt_size e
theorem Paired.mapP {α β : Type}{F G : α → β → Prop}:∀ {l₁ : List α} {l₂ : List β},Paired F l₁ l₂ → (∀ a b,F a b→G a b)→Paired G l₁ l₂
  | _,_,.nil,_=>.nil
  | _,_,.cons r t,f=>.cons (f _ _ r) (Paired.mapP t f)
theorem fM.stay (x:fM P w H h a o)(k:∀ b u,(b=a∨H b=some (.own a))→h.get? b=some u→h'.get? b=some u)
    (ho:∀ b,H b=some (.own a)→H' b=some (.own a)) (ht:∀ b xs,H b=some (.tup xs)→H' b=some (.tup xs)):fM P w H' h' a o:=by
  induction o with
  | lst xs=>obtain⟨z,its,n,r,e⟩:=x;exact⟨z,its,n,r,k _ _ (.inl rfl) e⟩
  | tup xs=>obtain⟨z,its,r,⟨ob,e,c⟩,o2,e2,c2⟩:=x;exact⟨z,its,r,⟨ob,k _ _ (.inl rfl) e,c⟩,o2,k _ _ (.inl rfl) e2,c2⟩
  | dK kvs=>obtain⟨z,y,vs,r,ob,es,ep,e,c⟩:=x;exact⟨z,y,vs,r,ob,es,ep,k _ _ (.inl rfl) e,c⟩
  | dT kvs =>
    obtain⟨z,y,xs,r,ob,es,ep,e,c⟩:=x
    exact⟨z,y,xs,Paired.mapP r fun p q z=>⟨z.1,ht _ _ z.2.1,z.2.2⟩,ob,es,ep,k _ _ (.inl rfl) e,c⟩
  | set S n=>obtain⟨ob,es,ep,t,e,c⟩:=x;exact⟨ob,es,ep,t,k _ _ (.inl rfl) e,c⟩
  | ins C dx fs =>
    obtain⟨d,z,ne,e,mA,⟨od,es,ep,e2,c⟩,r⟩:=x
    exact⟨ho _ d,z,ne,k _ _ (.inl rfl) e,mA,⟨od,es,ep,k _ _ (.inr d) e2,c⟩,r⟩
  | own y=>obtain⟨ob,e⟩:=x;exact⟨ob,k _ _ (.inl rfl) e⟩
  | xd fs=>obtain⟨mA,⟨od,es,ep,e,c⟩,r⟩:=x;exact⟨mA,⟨od,es,ep,k _ _ (.inl rfl) e,c⟩,r⟩
  | rng lo hi=>obtain⟨t,u,v,e⟩:=x;exact⟨t,u,v,k _ _ (.inl rfl) e⟩
  | frz ob u ih=>obtain⟨e,q⟩:=x;exact⟨k _ _ (.inl rfl) e,ih q⟩
  | tbl ps =>
    have e:h.get? a=some { cls:=.none,data:=.fields ps }:=x
    show h'.get? a=some { cls:=.none,data:=.fields ps }
    exact k a _ (.inl rfl) e
  | met f y =>
    have e:h.get? a=some (PySem.W.methodObj (.ref f) (.ref y)):=x
    show h'.get? a=some (PySem.W.methodObj (.ref f) (.ref y))
    exact k a _ (.inl rfl) e
  | ext φ => obtain⟨p,⟨o,e⟩,st⟩:=x;exact⟨st _ _ p fun o q=>k _ _ (.inl rfl) q,⟨o,k _ _ (.inl rfl) e⟩,st⟩
theorem HOk.lt (x:HOk P w H h)(e:H a=some o):a < h.objs.size:=(x a o e).lt
theorem HOk.fresh (x:HOk P w H h)(e:h.objs.size≤a):H a=none:=by
  cases q:H a with
  | none=>rfl
  | some u=>exact absurd (Nat.lt_of_lt_of_le (x.lt q) e) (Nat.lt_irrefl _)
theorem HOk.kept (x:HOk P w H h)(k:∀ b u,h.get? b=some u→h'.get? b=some u):HOk P w H h':=fun a o e =>
  (x a o e).stay (fun b u _ q=>k b u q) (fun _ q=>q) fun _ _ q=>q
theorem HOk.laid (x:HOk P w H h)(k:∀ b u,h.get? b=some u→h'.get? b=some u)(hp:h.objs.size≤a)(new:fM P w (upd H a o) h' a o):HOk P w (upd H a o) h':=fun b u e=>by
  have hn:=x.fresh hp
  by_cases hb:b=a
  · subst hb;rw [bB] at e;cases e;exact new
  · rw [aF hb] at e
    exact (x b u e).stay (fun c v _ q=>k c v q) (fun c q=>by rw [aF (aG q hn)];exact q) fun c xs q=>by rw [aF (aG q hn)];exact q
end
def Rd (H:Hp) (a:Addr) (u:HO):Prop:=H a=some u ∨ ∃ o,H a=some (.frz o u)
theorem Rd.ok {P:Program}{w:World}{H:Hp}{h:Heap}{a:Addr}{u:HO}(r:Rd H a u)(x:HOk P w H h):fM P w H h a u:=by
  rcases r with r|⟨o,r⟩
  · exact x a u r
  · obtain⟨_,q⟩:=x a _ r
    exact q
def Mut:Option HO→Prop
  | some (.lst _)=>True
  | some (.dK _)=>True
  | some (.dT _)=>True
  | some (.set _ _)=>True
  | some (.ins _ _ _)=>True
  | some (.ext _)=>True
  | _=>False
section
variable {P:Program} {w:World} {H:Hp} {h h':Heap} {x e:Addr} {o':HO}
theorem HOk.write (ok:HOk P w H h)(mu:Mut (H x))(he:e=x∨H e=some (.own x))(k:∀ b u,b≠e→h.get? b=some u→h'.get? b=some u)(heo:∃ u,h'.get? e=some u)
    (new:fM P w (upd H x o') h' x o'):HOk P w (upd H x o') h':=fun b u q=>by
  have nown:∀ c y,H c=some (.own y)→c≠x:=fun c y r z=>by subst z;rw [r] at mu;exact mu
  have ntup:∀ c xs,H c=some (.tup xs)→c≠x:=fun c xs r z=>by subst z;rw [r] at mu;exact mu
  by_cases hb:b=x
  · subst hb;rw [bB] at q;cases q;exact new
  · rw [aF hb] at q
    by_cases hbe:b=e
    · have q':H b=some (.own x):=by
        rcases he with z|z
        · exact absurd (hbe.trans z) hb
        · rw [hbe];exact z
      rw [q] at q';cases q'
      obtain⟨v,hv⟩:=heo
      exact⟨v,by rw [hbe];exact hv⟩
    · refine (ok b u q).stay (fun c v hc r=>k c v ?_ r) (fun c r=>by rw [aF (nown c b r)];exact r) fun c xs r=>by rw [aF (ntup c xs r)];exact r
      rcases hc with rfl|hc
      · exact hbe
      · rintro rfl
        rcases he with z|z
        · exact nown c b hc z
        · rw [hc] at z;cases z;exact hb rfl
end
structure Un (fs ex:List Addr) (H H':Hp) (h h':Heap):Prop where
  keep:∀ b o,h.get? b=some o→H b=none→b∉fs→b∉ex→h'.get? b=some o
  slot:∀ b o,h.get? b=some o→H b=none→b∈fs→b∉ex → ∃ sl,h'.get? b=some { o with slots:=sl }
  free:∀ b o,h.get? b=some o→H b=none→b∉ex→H' b=none
  there:∀ b o,h.get? b=some o→b∉ex → ∃ o',h'.get? b=some o'
  tups:∀ b xs,H b=some (.tup xs)→H' b=some (.tup xs)
  frzs:∀ b o u,H b=some (.frz o u)→H' b=some (.frz o u)
  tbls:∀ b ps,H b=some (.tbl ps) → ∃ more,H' b=some (.tbl (ps++more))
section
variable {fs fs' ex ex':List Addr} {H H1 H2:Hp} {h h1 h2 h':Heap} {a x e:Addr} {o:HO}
theorem Un.any (u:Un fs ex H H1 h h1){b:Addr}{ob:Obj}(q:h.get? b=some ob)(n:H b=none)(hx:b∉ex):∃ sl,h1.get? b=some { ob with slots:=sl }:=by
  by_cases hb:b∈fs
  · exact u.slot b ob q n hb hx
  · exact⟨ob.slots,u.keep b ob q n hb hx⟩
theorem Un.kept (k:∀ b u,h.get? b=some u→h'.get? b=some u):Un fs ex H H h h' :=
  ⟨fun b ob q _ _ _=>k b ob q,fun b ob q _ _ _=>⟨ob.slots,k b ob q⟩,fun _ _ _ n _=>n,fun b ob q _=>⟨ob,k b ob q⟩,fun _ _ q=>q,fun _ _ _ q=>q,fun _ ps q=>⟨#[],by rw [q];simp⟩⟩
theorem Un.refl:Un fs ex H H h h:=Un.kept fun _ _ q=>q
theorem Un.laid (k:∀ b u,h.get? b=some u→h'.get? b=some u)(hp:h.objs.size≤a)(hn:H a=none):Un fs ex H (upd H a o) h h' where
  keep:=fun b u q _ _ _=>k b u q
  slot:=fun b u q _ _ _=>⟨u.slots,k b u q⟩
  free:=fun b u q n _=>by rw [aF (Nat.ne_of_lt (Nat.lt_of_lt_of_le (Heap.lt_size q) hp))];exact n
  there:=fun b u q _=>⟨u,k b u q⟩
  tups:=fun b xs q=>by rw [aF (aG q hn)];exact q
  frzs:=fun b u xs q=>by rw [aF (aG q hn)];exact q
  tbls:=fun b ps q=>⟨#[],by rw [aF (aG q hn),q];simp⟩
theorem Un.write (mu:Mut (H x))(he:e=x∨H e=some (.own x))(k:∀ b u,b≠e→h.get? b=some u→h'.get? b=some u)(heo:∃ u,h'.get? e=some u):Un fs ex H (upd H x o) h h':=by
  have hx:∀ b,H b=none→b≠x:=fun b n z=>by subst z;rw [n] at mu;exact mu
  have hb:∀ b,H b=none→b≠e:=fun b n z=>by
    subst z
    rcases he with r|r
    · exact hx b n r
    · rw [n] at r;cases r
  have hm:∀ b u,H b=some u → ¬ Mut (some u)→b≠x:=fun b u q nm z=>by subst z;rw [q] at mu;exact nm mu
  refine⟨fun b u q n _ _=>k b u (hb b n) q,fun b u q n _ _=>⟨u.slots,k b u (hb b n) q⟩,fun b u q n _=>by rw [aF (hx b n)];exact n,fun b u q _ => ?_,
    fun b xs q=>by rw [aF (hm b _ q fun z=>z)];exact q,fun b u xs q=>by rw [aF (hm b _ q fun z=>z)];exact q,fun b ps q=>⟨#[],by rw [aF (hm b _ q fun z=>z),q];simp⟩⟩
  by_cases hbe:b=e
  · subst hbe;exact heo
  · exact⟨u,k b u hbe q⟩
end
def trk (h:Heap) (H:Hp):List Addr:=(List.range h.objs.size).filter fun a=>(H a).isSome
def rg (h:Heap) (H:Hp):Heap:=PySem.W.hideAll h (trk h H)
theorem z7 (h:Heap)(H:Hp):(rg h H).objs.size=h.objs.size:=PySem.W.hideAll_size _ _
theorem Bl {h:Heap}{H:Hp}{b:Addr}{o:Obj}(e:h.get? b=some o)(n:H b=none):(rg h H).get? b=some o :=
  PySem.W.hideAll_get _ e fun hm=>by
    have q:(H b).isSome=true:=(List.mem_filter.mp hm).2
    rw [n] at q;simp at q
theorem Dj {h:Heap}{H:Hp}{b:Addr}{o:Obj}(e:(rg h H).get? b=some o):h.get? b=some o∧H b=none:=by
  have e':h.get? b=some o:=PySem.W.of_hideAll (trk h H) e
  refine⟨e',?_⟩
  cases q:H b with
  | none=>rfl
  | some x =>
    have hm:b∈trk h H:=List.mem_filter.mpr ⟨List.mem_range.mpr (Heap.lt_size e'),by simp [q]⟩
    have z:(rg h H).get? b=none:=PySem.W.hideAll_none (trk h H) hm
    rw [z] at e;cases e
def Dk (g h:Heap) (L:Addr):List (Addr × Obj):=(List.range h.objs.size).filterMap fun a=>if a=L∨(g.get? a).isSome=true then none else (h.get? a).map fun o=>(a,o)
def rest (g h:Heap) (L d:Addr):List (Addr × Obj):=(Dk g h L).filter fun p=>decide (p.1≠d)
end L2
namespace L2
open PySem PySem.Spec PyProof.Rows
structure Mod (K:PySem.W.Frag) (mg:Str→Option Value) (base:Heap):Prop where
  kin:K.In base
  glob:base.Ns mainGlobals mg
  blt:∃ mb,base.Ns builtinsNs mb ∧ ∀ x:Str,x ≠ "__name__" → mb x=bootBuiltins x
  nolimit:base.NoLimit
structure Cx where
  prog:Program
  w:World
  K:PySem.W.Frag
  mg:Str→Option Value
  base:Heap
  A:Around
  N:List Str
  s₀ : Shared
  H₀ : Hp
  env:Env
  outer:List Env
  stack:List Env
  ex:List Addr
  fn:Str→Bool
  calm:Bool
  pn:List (Addr × Obj)
  xe:Value→Shared→Prop
def frs (l:List Env):List Addr:=l.filterMap (·.frame)
abbrev Cx.fs (X:Cx):List Addr:=frs X.outer
def Vis (sc:Scope) (x:Str):Prop:=sc.names.lookup x=some .local ∨sc.names.lookup x=some .cell∨sc.names.lookup x=some .free
def Loc (sc:Scope) (x:Str):Prop:=sc.names.lookup x=some .local ∨sc.names.lookup x=some .cell
def Hm (env:Env) (h:Heap) (m:Str→Option Value) (x:Str) (u:Value):Prop :=
  (env.kindOf x=some .local∧m x=some u)∨((env.kindOf x=some .cell∨env.kindOf x=some .free) ∧ ∃ c,env.cells.lookup x=some c∧h.IsCell c (some u))
structure Cx.Ok (X:Cx):Prop where
  mod:Mod X.K X.mg X.base
  kind:X.env.scope.kind=.function
  glob:X.env.globals=mainGlobals
  blt:X.env.builtins=builtinsNs
  above:X.s₀.heap.objs.size≤X.env.locals
  inj:∀ x y c,X.env.cells.lookup x=some c→X.env.cells.lookup y=some c→x=y
  has:∀ x,(X.env.kindOf x=some .cell∨X.env.kindOf x=some .free) → ∃ c,X.env.cells.lookup x=some c
  cab:∀ x c,X.fn x=true→X.env.cells.lookup x=some c→X.s₀.heap.objs.size≤c
  hd:X.calm=true→X.A.handled=none
  frames:X.A.frames=some X.stack
  stk:X.stack=X.outer∨(X.stack=X.env :: X.outer∧X.env.frame=some X.env.locals)
  exf:∀ b∈X.ex,b≠X.env.locals ∧ ∀ x c,X.env.cells.lookup x=some c→c≠b
  bs:∀ b o,X.base.get? b=some o→X.s₀.heap.get? b=some o∧X.H₀ b=none
  bsz:X.base.objs.size≤X.s₀.heap.objs.size
  noex:∀ b o,X.base.get? b=some o→b∉X.ex
  exfs:∀ b∈X.ex,b∉X.fs
  funs:X.s₀.heap.FunFrames X.base X.outer
  frf:∀ b∈X.fs,X.H₀ b=none
structure Inv (X:Cx) (pins:List (Addr × Obj)) (σ:List (Option V)) (H:Hp) (s:Shared):Prop where
  ok:X.Ok
  os:s.os=X.s₀.os
  bare:AllBare s.gens
  base:Un X.fs X.ex X.H₀ H X.s₀.heap s.heap
  loc:∃ m,s.heap.Ns X.env.locals m ∧ ∀ (i:Nat) (x:Str) (v:V),X.N[i]? = some x → σ[i]? = some (some v)→Vis X.env.scope x → ∃ u,bQ v u∧Hm X.env s.heap m x u
  cell:∀ x c,X.env.cells.lookup x=some c → ∃ v,s.heap.IsCell c v
  free:H X.env.locals=none
  freeC:∀ x c,X.env.cells.lookup x=some c→H c=none
  pin:∀ p∈X.pn++pins,s.heap.get? p.1=some p.2∧H p.1=none∧p.1≠X.env.locals∧p.1∉X.fs ∧ ∀ v,p.2.data ≠ .cell v
  hok:HOk X.prog X.w H s.heap
  len : σ.length=X.N.length
section
variable {X:Cx} {pins:List (Addr × Obj)} {σ:List (Option V)} {H H':Hp} {s:Shared} {h':Heap}
theorem Cx.Ok.nofr (ok:X.Ok){b:Addr}{o:Obj}(e:X.base.get? b=some o):b∉X.fs:=fun hb=>by
  have:=(ok.funs.mem hb).1
  rw [e] at this;cases this
theorem Inv.bs (I:Inv X pins σ H s):∀ b o,X.base.get? b=some o→s.heap.get? b=some o∧H b=none:=fun b o e =>
  ⟨I.base.keep b o (I.ok.bs b o e).1 (I.ok.bs b o e).2 (I.ok.nofr e) (I.ok.noex b o e),I.base.free b o (I.ok.bs b o e).1 (I.ok.bs b o e).2 (I.ok.noex b o e)⟩
theorem Inv.bk (I:Inv X pins σ H s):∀ b o,X.base.get? b=some o→s.heap.get? b=some o:=fun b o e=>(I.bs b o e).1
theorem Inv.mod (I:Inv X pins σ H s):Mod X.K X.mg X.base:=I.ok.mod
theorem Inv.kIn (I:Inv X pins σ H s):X.K.In s.heap:=I.ok.mod.kin.keeps I.bk
theorem Inv.lt (I:Inv X pins σ H s):X.env.locals < s.heap.objs.size:=let ⟨_,hn,_⟩:=I.loc;hn.lt
theorem Inv.sz (I:Inv X pins σ H s):X.s₀.heap.objs.size≤s.heap.objs.size:=Nat.le_trans I.ok.above (Nat.le_of_lt I.lt)
theorem Inv.nofs (I:Inv X pins σ H s){a:Addr}(h:s.heap.objs.size≤a):a∉X.fs:=fun hb=>by
  obtain⟨_,o,ho,_⟩:=I.ok.funs.mem hb
  exact absurd (Nat.lt_of_lt_of_le (Heap.lt_size ho) (Nat.le_trans I.sz h)) (Nat.lt_irrefl _)
theorem Inv.cne (I:Inv X pins σ H s):∀ x c,X.env.cells.lookup x=some c→c≠X.env.locals:=fun x c e z=>by
  obtain⟨v,o,ho,hd⟩:=I.cell x c e
  obtain⟨m,⟨o',es,ep,ho',hd',_⟩,_⟩:=I.loc
  rw [z,ho'] at ho;cases ho;rw [hd'] at hd;cases hd
theorem Inv.funs (I:Inv X pins σ H s):s.heap.FunFrames X.base X.outer:=by
  have all:∀ (l:List Env),(∀ b∈frs l,b∈X.fs)→X.s₀.heap.FunFrames X.base l→s.heap.FunFrames X.base l:=by
    intro l
    induction l with
    | nil=>intro _ _;trivial
    | cons env r ih =>
      intro hs hl
      obtain⟨hk,⟨L,o,hf,hn,ho,hd⟩,hr⟩:=hl
      have hL:L∈X.fs:=hs L (by unfold frs;rw [List.filterMap_cons,hf];exact List.mem_cons_self)
      obtain⟨sl,e⟩:=I.base.slot L o ho (I.ok.frf L hL) hL fun z=>I.ok.exfs L z hL
      exact⟨hk,⟨L,_,hf,hn,e,hd⟩,ih (fun b hb=>hs b (by unfold frs;rw [List.filterMap_cons,hf];exact List.mem_cons_of_mem _ hb)) hr⟩
  exact all X.outer (fun _ hb=>hb) I.ok.funs
theorem Inv.stack (I:Inv X pins σ H s):s.heap.FunFrames X.base X.stack:=by
  rcases I.ok.stk with e|⟨e,hf⟩
  · rw [e];exact I.funs
  · rw [e]
    obtain⟨m,hn,_⟩:=I.loc
    refine .cons (by rw [I.ok.kind];decide) hf hn ?_ I.funs
    exact Heap.get?_none_of_le (Nat.le_trans I.ok.bsz I.ok.above)
theorem Inv.stkSub (I:Inv X pins σ H s):∀ b∈frs X.stack,b∈X.env.locals :: X.fs:=fun b hb=>by
  rcases I.ok.stk with e|⟨e,hf⟩
  · rw [e] at hb;exact List.mem_cons_of_mem _ hb
  · rw [e] at hb
    unfold frs at hb
    rw [List.filterMap_cons,hf] at hb
    exact hb
theorem Inv.stkFree (I:Inv X pins σ H s):∀ b∈frs X.stack,H b=none:=fun b hb=>by
  rcases List.mem_cons.mp (I.stkSub b hb) with e|hb
  · rw [e];exact I.free
  · obtain⟨_,o,ho,_⟩:=I.ok.funs.mem hb
    exact I.base.free b o ho (I.ok.frf b hb) fun z=>I.ok.exfs b z hb
theorem Inv.step {g':Array GenState}{t':Nat}{d':Drawn}{ch:List Addr}(I:Inv X pins σ H s)
    (hch:∀ b∈ch,(b∈X.ex∨X.s₀.heap.objs.size≤b)∧b≠X.env.locals∧(∀ x c,X.env.cells.lookup x=some c→c≠b) ∧ ∀ p∈X.pn++pins,p.1≠b)
    (keep:∀ b o,b≠X.env.locals→b∉X.fs→b∉ch→s.heap.get? b=some o→H b=none→h'.get? b=some o)
    (slot:∀ b o,b≠X.env.locals→b∈X.fs→b∉ch→s.heap.get? b=some o→H b=none → ∃ sl,h'.get? b=some { o with slots:=sl }) (free:∀ b o,b∉ch→s.heap.get? b=some o→H b=none→H' b=none)
    (there:∀ b o,b∉ch→s.heap.get? b=some o → ∃ o',h'.get? b=some o')
    (tups:∀ b xs,H b=some (.tup xs)→H' b=some (.tup xs)) (frzs:∀ b o u,H b=some (.frz o u)→H' b=some (.frz o u)) (tbls:∀ b ps,H b=some (.tbl ps) → ∃ more,H' b=some (.tbl (ps++more)))
    (ns:∀ m,s.heap.Ns X.env.locals m→h'.Ns X.env.locals m) (hok:HOk X.prog X.w H' h') (hg:AllBare g') :
    Inv X pins σ H' { s with heap:=h',gens:=g',drawn:=d',toks:=t' }:=by
  have neL:∀ b o,X.s₀.heap.get? b=some o→b≠X.env.locals:=fun b o e=>Nat.ne_of_lt (Nat.lt_of_lt_of_le (Heap.lt_size e) I.ok.above)
  have neC:∀ b o,X.s₀.heap.get? b=some o→b∉X.ex→b∉ch:=fun b o e hx hb=>by
    rcases (hch b hb).1 with z|z
    · exact hx z
    · exact absurd (Nat.lt_of_lt_of_le (Heap.lt_size e) z) (Nat.lt_irrefl _)
  have cellK:∀ x c,X.env.cells.lookup x=some c → ∀ v,s.heap.IsCell c v→h'.IsCell c v:=fun x c e v ⟨o,ho,hd⟩=>by
    have nch:c∉ch:=fun z=>(hch c z).2.2.1 x c e rfl
    by_cases hc:c∈X.fs
    · obtain⟨sl,q⟩:=slot c o (I.cne x c e) hc nch ho (I.freeC x c e)
      exact⟨_,q,hd⟩
    · exact⟨o,keep c o (I.cne x c e) hc nch ho (I.freeC x c e),hd⟩
  refine⟨I.ok,I.os,hg,⟨fun b o e n hb hx => ?_,fun b o e n hb hx => ?_,fun b o e n hx => ?_,fun b o e hx => ?_,fun b xs e=>tups b xs (I.base.tups b xs e),fun b o xs e=>frzs b o xs (I.base.frzs b o xs e),fun b ps e => ?_⟩,?_,fun x c e => ?_,?_,fun x c e => ?_,fun p hp => ?_,hok,I.len⟩
  · exact keep b o (neL b o e) hb (neC b o e hx) (I.base.keep b o e n hb hx) (I.base.free b o e n hx)
  · obtain⟨sl,e1⟩:=I.base.slot b o e n hb hx
    obtain⟨sl',e2⟩:=slot b _ (neL b o e) hb (neC b o e hx) e1 (I.base.free b o e n hx)
    exact⟨sl',e2⟩
  · obtain⟨o',e1⟩:=I.base.there b o e hx
    exact free b o' (neC b o e hx) e1 (I.base.free b o e n hx)
  · obtain⟨o',e1⟩:=I.base.there b o e hx
    exact there b o' (neC b o e hx) e1
  · obtain⟨m1,e1⟩:=I.base.tbls b ps e
    obtain⟨m2,e2⟩:=tbls b _ e1
    exact⟨m1++m2,by rw [e2,Array.append_assoc]⟩
  · obtain⟨m,hn,hl⟩:=I.loc
    refine⟨m,ns m hn,fun i x v e1 e2 e3 => ?_⟩
    obtain⟨u,r,l⟩:=hl i x v e1 e2 e3
    refine⟨u,r,?_⟩
    rcases l with l|⟨k,c,e,z⟩
    · exact .inl l
    · exact .inr ⟨k,c,e,cellK x c e _ z⟩
  · obtain⟨v,z⟩:=I.cell x c e
    exact⟨v,cellK x c e v z⟩
  · obtain⟨m,⟨o,_,_,ho,_⟩,_⟩:=I.loc
    exact free _ o (fun z=>(hch _ z).2.1 rfl) ho I.free
  · obtain⟨v,o,ho,hd⟩:=I.cell x c e
    exact free c o (fun z=>(hch c z).2.2.1 x c e rfl) ho (I.freeC x c e)
  · obtain⟨e,n,ne,nf,d⟩:=I.pin p hp
    have nch:p.1∉ch:=fun z=>(hch p.1 z).2.2.2 p hp rfl
    exact⟨keep p.1 p.2 ne nf nch e n,free p.1 p.2 nch e n,ne,nf,d⟩
theorem Inv.un {t':Nat}(I:Inv X pins σ H s)(u:Un X.fs [] H H' s.heap h')(hok:HOk X.prog X.w H' h'):Inv X pins σ H' { s with heap:=h',toks:=t' }:=by
  obtain⟨m,⟨o,es,ep,ho,r⟩,_⟩:=id I.loc
  obtain⟨sl,hL⟩:=u.any ho I.free (by simp)
  exact I.step (g':=s.gens) (d':=s.drawn) (ch:=[]) (fun _ z=>nomatch z) (fun b o _ hb _ e n=>u.keep b o e n hb (by simp)) (fun b o _ hb _ e n=>u.slot b o e n hb (by simp)) (fun b o _ e n=>u.free b o e n (by simp)) (fun b o _ e=>u.there b o e (by simp)) u.tups u.frzs u.tbls (fun m' hm=>by
    obtain⟨o',es',ep',ho',r'⟩:=hm
    rw [ho] at ho';cases ho'
    exact⟨_,es',ep',hL,r'⟩) hok I.bare
theorem Inv.call {g':Array GenState}{t':Nat}{d':Drawn}{ch:List Addr}(I:Inv X pins σ H s)(u:Un (frs X.stack) ch H H' s.heap h')(hok:HOk X.prog X.w H' h')(hg:AllBare g')
    (hch:∀ b∈ch,(b∈X.ex∨X.s₀.heap.objs.size≤b)∧b≠X.env.locals∧(∀ x c,X.env.cells.lookup x=some c→c≠b) ∧ ∀ p∈X.pn++pins,p.1≠b) :
    Inv X pins σ H' { s with heap:=h',gens:=g',drawn:=d',toks:=t' }:=by
  obtain⟨m,⟨o,es,ep,ho,r⟩,_⟩:=id I.loc
  obtain⟨sl,hL⟩:=u.any ho I.free fun z=>(hch _ z).2.1 rfl
  exact I.step (ch:=ch) hch (fun b o hL hb hc e n=>u.keep b o e n (fun z=>(List.mem_cons.mp (I.stkSub b z)).elim hL hb) hc) (fun b o _ _ hc e n=>u.any e n hc) (fun b o hc e n=>u.free b o e n hc) (fun b o hc e=>u.there b o e hc) u.tups u.frzs u.tbls (fun m' hm=>by
    obtain⟨o',es',ep',ho',r'⟩:=hm
    rw [ho] at ho';cases ho'
    exact⟨_,es',ep',hL,r'⟩) hok hg
theorem Inv.turned {t':Nat}{it:Addr}(I:Inv X pins σ H s)(k:∀ b o,b≠it→s.heap.get? b=some o→h'.get? b=some o)(hn:H it=none)(hL:it≠X.env.locals)
    (h1:it∈X.ex∨X.s₀.heap.objs.size≤it) (h2:∀ x c,X.env.cells.lookup x=some c→c≠it) (h3:∀ p∈X.pn++pins,p.1≠it):Inv X pins σ H { s with heap:=h',toks:=t' }:=by
  have nit:∀ b u,H b=some u→b≠it:=fun b u e z=>by rw [z,hn] at e;cases e
  refine I.step (g':=s.gens) (d':=s.drawn) (ch:=[it]) (fun b hb => ?_) (fun b o _ _ hc e _=>k b o (fun z=>hc (by simp [z])) e) (fun b o _ _ hc e _=>⟨o.slots,k b o (fun z=>hc (by simp [z])) e⟩) (fun _ _ _ _ n=>n)
    (fun b o hc e=>⟨o,k b o (fun z=>hc (by simp [z])) e⟩) (fun _ _ e=>e) (fun _ _ _ e=>e) (fun b ps e=>⟨#[],by rw [e];simp⟩) (fun m hm => ?_) (fun b u e => ?_) I.bare
  · have e:b=it:=by simpa using hb
    subst e
    exact⟨h1,hL,h2,h3⟩
  · obtain⟨o,es,ep,ho,r⟩:=hm
    exact⟨o,es,ep,k _ o (Ne.symm hL) ho,r⟩
  · refine (I.hok b u e).stay (fun c v hc q=>k c v ?_ q) (fun _ q=>q) fun _ _ q=>q
    rcases hc with z|z
    · rw [z];exact nit b u e
    · exact nit c _ z
theorem Inv.tok (I:Inv X pins σ H s)(t:Nat):Inv X pins σ H { s with toks:=t }:=I.un (h':=s.heap) (t':=t) Un.refl I.hok
theorem Inv.kept {t':Nat}(I:Inv X pins σ H s)(k:∀ b u,s.heap.get? b=some u→h'.get? b=some u):Inv X pins σ H { s with heap:=h',toks:=t' }:=I.un (Un.kept k) (I.hok.kept k)
theorem Inv.laid {a:Addr}{o:HO}{t':Nat}(I:Inv X pins σ H s)(k:∀ b u,s.heap.get? b=some u→h'.get? b=some u)(hp:s.heap.objs.size≤a)(new:fM X.prog X.w (upd H a o) h' a o) :
    Inv X pins σ (upd H a o) { s with heap:=h',toks:=t' }:=I.un (Un.laid k hp (I.hok.fresh hp)) (I.hok.laid k hp new)
theorem Inv.write {x e:Addr}{o:HO}{t':Nat}(I:Inv X pins σ H s)(mu:Mut (H x))(he:e=x∨H e=some (.own x))(k:∀ b u,b≠e→s.heap.get? b=some u→h'.get? b=some u)(heo:∃ u,h'.get? e=some u)
    (new:fM X.prog X.w (upd H x o) h' x o):Inv X pins σ (upd H x o) { s with heap:=h',toks:=t' }:=I.un (Un.write mu he k heo) (I.hok.write mu he k heo new)
theorem Inv.pins_of {pins':List (Addr × Obj)}(I:Inv X pins σ H s)(h:∀ p∈pins',s.heap.get? p.1=some p.2∧H p.1=none∧p.1≠X.env.locals∧p.1∉X.fs ∧ ∀ v,p.2.data ≠ .cell v):Inv X pins' σ H s :=
  ⟨I.ok,I.os,I.bare,I.base,I.loc,I.cell,I.free,I.freeC,fun p hp=>(List.mem_append.mp hp).elim (fun z=>I.pin p (List.mem_append_left _ z)) (h p),I.hok,I.len⟩
theorem uE {N:List Str}(hN:N.Nodup){i j:Nat}{x:Str}(a:N[i]? = some x)(b:N[j]? = some x):i=j:=by
  obtain⟨h1,e1⟩:=List.getElem?_eq_some_iff.mp a
  obtain⟨h2,e2⟩:=List.getElem?_eq_some_iff.mp b
  exact (List.getElem_inj hN).mp (e1.trans e2.symm)
theorem qp {M:Model}{A:Around}{E:Value→Shared→Prop}{i:Nat}{x:Str}{v:V}{u:Value}{Q:Unit→Shared→Prop}(I:Inv X pins σ H s)(hN:X.N.Nodup)(hi:X.N[i]? = some x)(hx:Loc X.env.scope x)(r:bQ v u)
    (h:∀ s',Inv X pins (σ.set i (some v)) H s'→(∃ a,Heap.SameBut a s.heap s'.heap∧(a=X.env.locals∨X.env.cells.lookup x=some a))→Q () s') (hf:X.fn x=true∨X.env.scope.names.lookup x=some .local:=by first|exact .inl rfl|exact .inr rfl|assumption):wpAny M A (storeName X.env x u) Q E s:=by
  obtain⟨m,hn,hl⟩:=id I.loc
  have hcls:(X.env.scope.kind == .class || (X.env.scope.kind == .module && X.env.locals != X.env.globals))=false:=by rw [I.ok.kind];rfl
  have hiσ:i < σ.length:=by rw [I.len];exact (List.getElem?_eq_some_iff.mp hi).1
  have cne:=I.cne
  have tracked:∀ {a:Addr} {h':Heap},(∃ o,s.heap.get? a=some o∧H a=none)→Heap.SameBut a s.heap h'→HOk X.prog X.w H h':=fun {a h'} ha hs b ob e=>by
    obtain⟨_,_,hfree⟩:=ha
    refine (I.hok b ob e).stay (fun c w' hc q=>(hs.2 c ?_).trans q) (fun _ q=>q) fun _ _ q=>q
    rintro rfl
    rcases hc with rfl|hc
    · rw [hfree] at e;cases e
    · rw [hfree] at hc;cases hc
  rcases hx with hk|hk
  · refine wpAny_storeName_local hk hn (fun h' hn' hs => ?_) hcls
    obtain⟨oL,_,_,hoL,_⟩:=id hn
    refine h _ ⟨I.ok,I.os,I.bare,⟨fun b o e n hb hx => ?_,fun b o e n hb hx => ?_,I.base.free,fun b o e hx => ?_,I.base.tups,I.base.frzs,I.base.tbls⟩,⟨_,hn',fun j y v' e1 e2 e3 => ?_⟩,fun y c e => ?_,I.free,I.freeC,fun p hp => ?_,tracked ⟨oL,hoL,I.free⟩ hs,by simpa using I.len⟩ ⟨_,hs,.inl rfl⟩
    · exact (hs.2 b (Nat.ne_of_lt (Nat.lt_of_lt_of_le (Heap.lt_size e) I.ok.above))).trans (I.base.keep b o e n hb hx)
    · obtain⟨sl,e1⟩:=I.base.slot b o e n hb hx
      exact⟨sl,(hs.2 b (Nat.ne_of_lt (Nat.lt_of_lt_of_le (Heap.lt_size e) I.ok.above))).trans e1⟩
    · obtain⟨o',e1⟩:=I.base.there b o e hx
      exact⟨o',(hs.2 b (Nat.ne_of_lt (Nat.lt_of_lt_of_le (Heap.lt_size e) I.ok.above))).trans e1⟩
    · by_cases hj:j=i
      · subst hj
        rw [hi] at e1;cases e1
        rw [List.getElem?_set_self hiσ] at e2
        cases e2
        exact⟨u,r,.inl ⟨hk,by simp⟩⟩
      · rw [List.getElem?_set_ne (Ne.symm hj)] at e2
        obtain⟨u',r',q⟩:=hl j y v' e1 e2 e3
        refine⟨u',r',?_⟩
        rcases q with ⟨k,e⟩|⟨k,c,e,z⟩
        · refine .inl ⟨k,?_⟩
          have:y≠x:=fun e=>hj (uE hN e1 (e ▸ hi))
          simp [this,e]
        · exact .inr ⟨k,c,e,z.sameBut hs (cne y c e)⟩
    · obtain⟨w',z⟩:=I.cell y c e
      exact⟨w',z.sameBut hs (cne y c e)⟩
    · obtain⟨e,n,ne,nf,d⟩:=I.pin p hp
      exact⟨(hs.2 p.1 ne).trans e,n,ne,nf,d⟩
  · have hfn:X.fn x=true:=by
      rcases hf with z|z
      · exact z
      · rw [z] at hk;cases hk
    obtain⟨c,hc⟩:=I.ok.has x (.inl hk)
    obtain⟨w',z⟩:=I.cell x c hc
    refine wpAny_storeName_cell I.ok.kind hk hc z (fun h' hc' hs => ?_)
    obtain⟨oc,hoc,hocd⟩:=id z
    refine h { s with heap:=h' } ⟨I.ok,I.os,I.bare,⟨fun b o e n hb hx => ?_,fun b o e n hb hx => ?_,I.base.free,fun b o e hx => ?_,I.base.tups,I.base.frzs,I.base.tbls⟩,⟨m,hn.sameBut hs (Ne.symm (cne x c hc)),fun j y v' e1 e2 e3 => ?_⟩,fun y c' e => ?_,I.free,I.freeC,fun p hp => ?_,tracked ⟨oc,hoc,I.freeC x c hc⟩ hs,by simpa using I.len⟩ ⟨c,hs,.inr hc⟩
    · exact (hs.2 b (Nat.ne_of_lt (Nat.lt_of_lt_of_le (Heap.lt_size e) (I.ok.cab x c hfn hc)))).trans (I.base.keep b o e n hb hx)
    · obtain⟨sl,e1⟩:=I.base.slot b o e n hb hx
      exact⟨sl,(hs.2 b (Nat.ne_of_lt (Nat.lt_of_lt_of_le (Heap.lt_size e) (I.ok.cab x c hfn hc)))).trans e1⟩
    · obtain⟨o',e1⟩:=I.base.there b o e hx
      exact⟨o',(hs.2 b (Nat.ne_of_lt (Nat.lt_of_lt_of_le (Heap.lt_size e) (I.ok.cab x c hfn hc)))).trans e1⟩
    · by_cases hj:j=i
      · subst hj
        rw [hi] at e1;cases e1
        rw [List.getElem?_set_self hiσ] at e2
        cases e2
        exact⟨u,r,.inr ⟨.inl hk,c,hc,hc'⟩⟩
      · rw [List.getElem?_set_ne (Ne.symm hj)] at e2
        obtain⟨u',r',q⟩:=hl j y v' e1 e2 e3
        refine⟨u',r',?_⟩
        rcases q with q|⟨k,c',e,z'⟩
        · exact .inl q
        · refine .inr ⟨k,c',e,z'.sameBut hs ?_⟩
          rintro rfl
          exact hj (uE hN e1 (I.ok.inj _ _ _ e hc ▸ hi))
    · by_cases hcc:c'=c
      · subst hcc;exact⟨_,hc'⟩
      · obtain⟨w2,z2⟩:=I.cell y c' e
        exact⟨w2,z2.sameBut hs hcc⟩
    · obtain⟨e,n,ne,nf,d⟩:=I.pin p hp
      refine⟨(hs.2 p.1 ?_).trans e,n,ne,nf,d⟩
      intro q
      rw [q,hoc] at e
      have q':oc=p.2:=Option.some.inj e
      exact d w' (by rw [← q'];exact hocd)
theorem uF {M:Model}{A:Around}{E:Value→Shared→Prop}{i:Nat}{x:Str}{v:V}{u:Value}{Q:Unit→Shared→Prop}(I:Inv X pins σ H s)(hN:X.N.Nodup)(hi:X.N[i]? = some x)(hx:Loc X.env.scope x)(r:bQ v u)
    (h:∀ s',Inv X pins (σ.set i (some v)) H s'→Q () s') (hf:X.fn x=true∨X.env.scope.names.lookup x=some .local:=by first|exact .inl rfl|exact .inr rfl|assumption):wpAny M A (storeName X.env x u) Q E s :=
  qp I hN hi hx r (fun s' I' _=>h s' I') hf
theorem Inv.call' {s':Shared}{ch:List Addr}(I:Inv X pins σ H s)(ho:s'.os=s.os)(u:Un (frs X.stack) ch H H' s.heap s'.heap)(hok:HOk X.prog X.w H' s'.heap)(hg:AllBare s'.gens)
    (hch:∀ b∈ch,(b∈X.ex∨X.s₀.heap.objs.size≤b)∧b≠X.env.locals∧(∀ x c,X.env.cells.lookup x=some c→c≠b) ∧ ∀ p∈X.pn++pins,p.1≠b):Inv X pins σ H' s':=by
  obtain⟨h',g',d',t',o'⟩:=s'
  have e:o'=s.os:=ho
  subst e
  exact I.call (g':=g') (t':=t') (d':=d') u hok hg hch
end
abbrev XK:=Value→Option Addr→Hp→Prop
abbrev St:=List (Option V)
abbrev VK:=V→Hp→Prop
abbrev TE:=St→Hp→VK→Prop
abbrev TT:=St→Hp→(Bool→Hp→Prop)→Prop
abbrev TA:=St→Hp→(List V→Hp→Prop)→Prop
structure uG where
  nx:St→Hp→Prop
  rt:VK
  bk:St→Hp→Prop:=fun _ _=>False
  ct:St→Hp→Prop:=fun _ _=>False
abbrev TS:=uG→St→Hp→Prop
def EP (X:Cx) (pins:List (Addr × Obj)) (σ:St) (Q:VK) (u:Value) (s':Shared):Prop:=∃ v H',Inv X pins σ H' s'∧bQ v u∧Q v H'
def TP (X:Cx) (pins:List (Addr × Obj)) (σ:St) (Q:Bool→Hp→Prop) (b:Bool) (s':Shared):Prop:=∃ H',Inv X pins σ H' s'∧Q b H'
def AP (X:Cx) (pins:List (Addr × Obj)) (σ:St) (Q:List V→Hp→Prop) (us:List Value) (s':Shared):Prop:=∃ vs H',Inv X pins σ H' s'∧aS vs us∧Q vs H'
def SP (X:Cx) (pins:List (Addr × Obj)) (D:uG) (f:Flow) (s':Shared):Prop :=
  match f with
  | .next=>∃ σ' H',Inv X pins σ' H' s'∧D.nx σ' H'
  | .brk=>∃ σ' H',Inv X pins σ' H' s'∧D.bk σ' H'
  | .cont=>∃ σ' H',Inv X pins σ' H' s'∧D.ct σ' H'
  | .ret u=>∃ v σ' H',Inv X pins σ' H' s'∧bQ v u∧D.rt v H'
def PE (X:Cx) (e:Expr) (t:TE):Prop :=
  ∀ (pins:List (Addr × Obj)) (s:Shared) (σ:St) (H:Hp) (Q:VK),Inv X pins σ H s→t σ H Q→wpAny (model X.prog X.w) X.A (eval e X.env) (EP X pins σ Q) X.xe s
def PT (X:Cx) (e:Expr) (t:TT):Prop :=
  ∀ (pins:List (Addr × Obj)) (s:Shared) (σ:St) (H:Hp) (Q:Bool→Hp→Prop),Inv X pins σ H s→t σ H Q→wpAny (model X.prog X.w) X.A (isTrue e X.env (eval e X.env)) (TP X pins σ Q) X.xe s
def PW (X:Cx) (e:Expr) (t:TT):Prop :=
  ∀ (whole:Sem Value) (pins:List (Addr × Obj)) (s:Shared) (σ:St) (H:Hp) (Q:Bool→Hp→Prop),Inv X pins σ H s→t σ H Q→wpAny (model X.prog X.w) X.A (isTrue e X.env whole) (TP X pins σ Q) X.xe s
theorem PW.pt {X:Cx}{e:Expr}{t:TT}(h:PW X e t):PT X e t:=h _
def PA (X:Cx) (es:List Expr) (t:TA):Prop :=
  ∀ (pos:Pos) (pins:List (Addr × Obj)) (s:Shared) (σ:St) (H:Hp) (Q:List V→Hp→Prop),Inv X pins σ H s→t σ H Q→wpAny (model X.prog X.w) X.A (spliced (backTo pos (starEach es X.env))) (AP X pins σ Q) X.xe s
def PS (X:Cx) (st:Stmt) (t:TS):Prop :=
  ∀ (pins:List (Addr × Obj)) (s:Shared) (σ:St) (H:Hp) (D:uG),Inv X pins σ H s→t D σ H→wpAny (model X.prog X.w) X.A (exec st X.env) (SP X pins D) X.xe s
def PSs (X:Cx) (st:List Stmt) (t:TS):Prop :=
  ∀ (pins:List (Addr × Obj)) (s:Shared) (σ:St) (H:Hp) (D:uG),Inv X pins σ H s→t D σ H→wpAny (model X.prog X.w) X.A (execs st X.env) (SP X pins D) X.xe s
theorem thn {α : Type}{t:Sem α}{Q Q' : α → Shared→Prop}{M:Model}{A:Around}{E:Value→Shared→Prop}{s:Shared}(h:wpAny M A t Q E s)(hQ:∀ a s,Q a s→Q' a s):wpAny M A t Q' E s:=wpAny_mono h hQ fun _ _ x=>x
end L2
namespace L2
open PySem PySem.Spec PyProof.Rows
section
variable {X:Cx}
def Hn (i:Nat):TE:=fun σ H Q=>∃ v,σ[i]? = some (some v)∧Q v H
def tC (v:V):TE:=fun _ H Q=>Q v H
theorem ET {i:Nat} {x:Str} {pos:Pos} (hN:X.N[i]? = some x) (hv:Vis X.env.scope x) (hd:(x == ("__debug__" : Str))=false:=by decide) (hcd:(x == ("__classdict__" : Str))=false:=by decide):PE X (.Name x pos) (Hn i):=by
  intro pins s σ H Q I h
  obtain⟨v,e,h⟩:=h
  obtain⟨m,hn,hl⟩:=I.loc
  obtain⟨u,r,l⟩:=hl i x v hN e hv
  have fin:EP X pins σ Q u s:=⟨v,H,I,r,h⟩
  rcases l with ⟨hk,hm⟩|⟨hk,c,hc,hcell⟩
  · exact wpAny_Name (wpAny_loadName_local I.ok.kind hk hn hm fin) hd
  · rcases hk with hk|hk
    · exact wpAny_Name (wpAny_loadName_cell I.ok.kind hk hc hcell fin) hd
    · exact wpAny_Name (wpAny_loadName_free I.ok.kind hk hc hcell fin hcd) hd
theorem Bm {i j pos}:PE X (.Constant (.int i) j pos) (tC (.int i)):=fun _ _ _ H _ I h=>wpAny_Constant_int ⟨.int i,H,I.tok _,⟨_,rfl⟩,h⟩
theorem Gp {b j pos}:PE X (.Constant (.bool b) j pos) (tC (.bl b)):=fun _ _ _ H _ I h=>Constant_bool ⟨.bl b,H,I,rfl,h⟩
theorem EU {j pos}:PE X (.Constant .none j pos) (tC .non):=fun _ _ _ H _ I h=>Constant_none ⟨.non,H,I,rfl,h⟩
theorem EV {x j pos}:PE X (.Constant (.str x) j pos) (tC (.str x)):=fun _ _ _ H _ I h=>Calls.Constant_str ⟨.str x,H,I.tok _,⟨_,rfl⟩,h⟩
def Gl (X:Cx) (x:Str):Prop:=X.env.kindOf x=some .globalImplicit
theorem Dl {E:Value→Shared→Prop}{pins:List (Addr × Obj)}{s:Shared}{σ:St}{H:Hp}{x:Str}{u:Value}{pos:Pos}{Q:Value→Shared→Prop}(I:Inv X pins σ H s)(hg:Gl X x)(hm:X.mg x=some u)(h:Q u s)
    (hd:(x == ("__debug__" : Str))=false:=by decide):wpAny (model X.prog X.w) X.A (eval (.Name x pos) X.env) Q E s :=
  Calls.Name_function_global I.ok.kind hg (Calls.loadGlobal_global (by rw [I.ok.glob];exact I.mod.glob.keeps I.bk) hm h) hd
theorem kT {E:Value→Shared→Prop}{pins:List (Addr × Obj)}{s:Shared}{σ:St}{H:Hp}{x:Str}{u:Value}{pos:Pos}{Q:Value→Shared→Prop}(I:Inv X pins σ H s)(hg:Gl X x)(hm:X.mg x=none)(hv:bootBuiltins x=some u)(h:Q u s)
    (hn:x ≠ "__name__" := by decide) (hd:(x == ("__debug__" : Str))=false:=by decide):wpAny (model X.prog X.w) X.A (eval (.Name x pos) X.env) Q E s:=by
  obtain⟨mb,h1,h2⟩:=I.mod.blt
  exact Calls.Name_function_global I.ok.kind hg (Calls.loadGlobal_builtin (by rw [I.ok.glob];exact I.mod.glob.keeps I.bk) hm (by rw [I.ok.blt];exact h1.keeps I.bk) ((h2 x hn).trans hv) h) hd
theorem Dm {x:Str} {v:V} {u:Value} {pos:Pos} (hg:Gl X x) (hm:X.mg x=none) (hv:bootBuiltins x=some u) (r:bQ v u) (hn:x ≠ "__name__" := by decide) (hd:(x == ("__debug__" : Str))=false:=by decide):PE X (.Name x pos) (tC v) :=
  fun _ _ _ H _ I h=>kT I hg hm hv ⟨v,H,I,r,h⟩ hn hd
variable {a b:Expr} {ta tb:TE} {pos:Pos}
def tB (t:TE):TT:=fun σ H Q=>t σ H fun x H1=>∃ c,x=.bl c∧Q c H1
theorem EW {e:Expr}{t:TE}(h:PE X e t)(he:∀ whole,isTrue e X.env whole=(do let v ← whole;standAt e.pos;holding [v] (truthy v)):=by intro _;rfl):PT X e (tB t):=by
  intro pins s σ H Q I hw
  refine isTrue_plain (thn (h pins s σ H _ I hw) fun v s1 ⟨x,H1,I1,r1,q1⟩ => ?_) (he _)
  obtain⟨d,rfl,q⟩:=q1
  cases r1
  exact wpAny_truthy_bool ⟨H1,I1,q⟩
variable {tA tB':TT} {rest:List Expr}
def iJ (t u:TT):TT:=fun σ H Q=>t σ H fun c H1=>if c=true then u σ H1 Q else Q false H1
def tOr (t u:TT):TT:=fun σ H Q=>t σ H fun c H1=>if c=true then Q true H1 else u σ H1 Q
def dZ (t:TT):TT:=fun σ H Q=>t σ H fun c H1=>Q (!c) H1
theorem Dn (ha:PT X a tA):PW X (.BoolOp .And [a] pos) tA:=by
  intro wh pins s σ H Q I h
  refine isTrue_and (thn (ha pins s σ H Q I h) fun c s1 e => ?_)
  cases c with
  | true=>exact isTrue_and_nil e
  | false=>exact e
theorem EX (ha:PT X a tA):PW X (.BoolOp .Or [a] pos) tA:=by
  intro wh pins s σ H Q I h
  refine isTrue_or (thn (ha pins s σ H Q I h) fun c s1 e => ?_)
  cases c with
  | false=>exact isTrue_or_nil e
  | true=>exact e
theorem EY (ha:PT X a tA)(hb:PW X (.BoolOp .And (b :: rest) pos) tB'):PW X (.BoolOp .And (a :: b :: rest) pos) (iJ tA tB'):=by
  intro wh pins s σ H Q I h
  refine isTrue_and (thn (ha pins s σ H _ I h) fun c s1 ⟨H1,I1,q1⟩ => ?_)
  cases c with
  | true=>exact hb wh pins s1 σ H1 Q I1 q1
  | false=>exact⟨H1,I1,q1⟩
theorem Gq (ha:PT X a tA)(hb:PW X (.BoolOp .Or (b :: rest) pos) tB'):PW X (.BoolOp .Or (a :: b :: rest) pos) (tOr tA tB'):=by
  intro wh pins s σ H Q I h
  refine isTrue_or (thn (ha pins s σ H _ I h) fun c s1 ⟨H1,I1,q1⟩ => ?_)
  cases c with
  | true=>exact⟨H1,I1,q1⟩
  | false=>exact hb wh pins s1 σ H1 Q I1 q1
theorem EZ (ha:PT X a tA):PT X (.UnaryOp .Not a pos) (dZ tA):=by
  intro pins s σ H Q I h
  exact isTrue_not (ha pins s σ H (fun c H1=>Q (!c) H1) I h)
def Gr (ta tb:TE):TE:=fun σ H Q=>ta σ H fun x H1=>∃ c,x=.bl c∧if c=true then tb σ H1 Q else Q (.bl false) H1
def Ho (ta tb:TE):TE:=fun σ H Q=>ta σ H fun x H1=>∃ c,x=.bl c∧if c=true then Q (.bl true) H1 else tb σ H1 Q
def Gs (ta:TE):TE:=fun σ H Q=>ta σ H fun x H1=>∃ c,x=.bl c∧Q (.bl (!c)) H1
theorem E1 {op}{t:TE}(h:PE X a t):PE X (.BoolOp op [a] pos) t:=fun pins s σ H Q I hw=>BoolOp_one (h pins s σ H Q I hw)
theorem E2 (ha:PE X a ta)(hb:PE X (.BoolOp .And (b :: rest) pos) tb):PE X (.BoolOp .And (a :: b :: rest) pos) (Gr ta tb):=by
  intro pins s σ H Q I h
  refine BoolOp_and (thn (ha pins s σ H _ I h) fun v s1 ⟨x,H1,I1,r1,q1⟩ => ?_)
  obtain⟨c,rfl,q1⟩:=q1
  cases r1
  refine wpAny_truthy_bool ?_
  cases c with
  | true=>exact hb pins s1 σ H1 Q I1 q1
  | false=>exact⟨.bl false,H1,I1,rfl,q1⟩
theorem Gu (ha:PE X a ta)(hb:PE X (.BoolOp .Or (b :: rest) pos) tb):PE X (.BoolOp .Or (a :: b :: rest) pos) (Ho ta tb):=by
  intro pins s σ H Q I h
  refine BoolOp_or (thn (ha pins s σ H _ I h) fun v s1 ⟨x,H1,I1,r1,q1⟩ => ?_)
  obtain⟨c,rfl,q1⟩:=q1
  cases r1
  refine wpAny_truthy_bool ?_
  cases c with
  | false=>exact hb pins s1 σ H1 Q I1 q1
  | true=>exact⟨.bl true,H1,I1,rfl,q1⟩
theorem E3 (ha:PE X a ta):PE X (.UnaryOp .Not a pos) (Gs ta):=by
  intro pins s σ H Q I h
  refine UnaryOp_ (thn (ha pins s σ H _ I h) fun v s1 ⟨x,H1,I1,r1,q1⟩ => ?_)
  obtain⟨c,rfl,q1⟩:=q1
  cases r1
  exact not_of (wpAny_truthy_bool ⟨.bl (!c),H1,I1,rfl,q1⟩)
def tIf (t:TT) (ta tb:TE):TE:=fun σ H Q=>t σ H fun c H1=>if c=true then ta σ H1 Q else tb σ H1 Q
theorem Bn {c:Expr}(hc:PT X c tA)(ha:PE X a ta)(hb:PE X b tb):PE X (.IfExp c a b pos) (tIf tA ta tb):=by
  intro pins s σ H Q I h
  refine wpAny_IfExp (thn (hc pins s σ H _ I h) fun d s1 ⟨H1,I1,q1⟩ => ?_)
  cases d with
  | true=>exact ha pins s1 σ H1 Q I1 q1
  | false=>exact hb pins s1 σ H1 Q I1 q1
end
end L2
namespace L2
open PySem PySem.Spec PyProof.Rows
def SqL (K:PySem.W.Frag) (H:Hp) (a:Addr) (xs:List V):Prop :=
  Rd H a (.lst xs) ∨
    ∃ (o:Obj) (its:Array Value) (n:Nat),K.lookup a=some o∧o.cls=.type "list" ∧ o.dict=none∧o.data=.seq its n∧its.size≤sizeLine∧aS xs its.toList
def SqT (K:PySem.W.Frag) (H:Hp) (a:Addr) (xs:List V):Prop :=
  Rd H a (.tup xs) ∨
    ∃ (o:Obj) (its:Array Value) (n:Nat),K.lookup a=some o∧o.cls=.type "tuple" ∧ o.data=.seq its n∧its.size≤sizeLine∧aS xs its.toList
def Hq:Value→Option V
  | .none=>some .non
  | .bool b=>some (.bl b)
  | .int i _=>some (.int i)
  | .str x _=>some (.str x)
  | .bytes b _=>some (.byt b)
  | .float b _=>some (.flt b)
  | .ref a=>some (.ref a)
  | .type n=>some (.ty n)
  | _=>none
theorem bQ.abs {x:V}{u:Value}(r:bQ x u):Hq u=some x:=by
  cases x with
  | non=>cases r;rfl
  | bl _=>cases r;rfl
  | int _=>obtain⟨t,rfl⟩:=r;rfl
  | str _=>obtain⟨t,rfl⟩:=r;rfl
  | byt _=>obtain⟨t,rfl⟩:=r;rfl
  | flt _=>obtain⟨t,rfl⟩:=r;rfl
  | ref _=>cases r;rfl
  | ty _=>cases r;rfl
theorem bQ.inj {x y:V}{u:Value}(r:bQ x u)(q:bQ y u):x=y:=Option.some.inj (r.abs.symm.trans q.abs)
theorem aS.inj:∀ {xs ys:List V} {us:List Value},aS xs us→aS ys us→xs=ys
  | _,_,_,.nil,.nil=>rfl
  | _,_,_,.cons r t,.cons r' t'=>by rw [r.inj r',aS.inj t t']
section
variable {X:Cx} {pins:List (Addr × Obj)} {σ:St} {H:Hp} {s:Shared} {a:Addr} {xs ys:List V}
theorem SqL.of {K:PySem.W.Frag}(h:H a=some (.lst xs)):SqL K H a xs:=.inl (.inl h)
theorem SqT.of {K:PySem.W.Frag}(h:H a=some (.tup xs)):SqT K H a xs:=.inl (.inl h)
theorem Inv.list (I:Inv X pins σ H s)(h:SqL X.K H a xs):∃ its:List Value,aS xs its∧PlainL s.heap a its.toArray∧xs.length≤sizeLine:=by
  rcases h with h|⟨o,its,n,hk,hc,hd,hs,hz,r⟩
  · obtain⟨z,its,n,r,e⟩:=h.ok I.hok
    exact⟨its,r,⟨_,n,e,rfl,rfl,rfl⟩,z⟩
  · refine⟨its.toList,r,⟨o,n,I.kIn a o hk,hc,hd,by simpa using hs⟩,?_⟩
    have e:=r.length
    simp only [Array.length_toList] at e
    omega
theorem Inv.tuple (I:Inv X pins σ H s)(h:SqT X.K H a xs):∃ its:List Value,aS xs its∧IsTup s.heap a its.toArray∧xs.length≤sizeLine:=by
  rcases h with h|⟨o,its,n,hk,hc,hs,hz,r⟩
  · obtain⟨z,its,r,p⟩:=h.ok I.hok
    exact⟨its,r,p.1,z⟩
  · refine⟨its.toList,r,⟨o,I.kIn a o hk,hc,n,by simpa using hs⟩,?_⟩
    have e:=r.length
    simp only [Array.length_toList] at e
    omega
theorem Inv.list_inj (I:Inv X pins σ H s)(h:SqL X.K H a xs)(h':SqL X.K H a ys):xs=ys:=by
  obtain⟨its,r,⟨o,n,e,_,_,d⟩,_⟩:=I.list h
  obtain⟨its',r',⟨o',n',e',_,_,d'⟩,_⟩:=I.list h'
  rw [e] at e';cases e'
  rw [d] at d'
  injection d' with d1 _
  have:its=its':=by simpa using congrArg Array.toList d1
  subst this
  exact r.inj r'
theorem Inv.tuple_inj (I:Inv X pins σ H s)(h:SqT X.K H a xs)(h':SqT X.K H a ys):xs=ys:=by
  obtain⟨its,r,⟨o,e,_,n,d⟩,_⟩:=I.tuple h
  obtain⟨its',r',⟨o',e',_,n',d'⟩,_⟩:=I.tuple h'
  rw [e] at e';cases e'
  rw [d] at d'
  injection d' with d1 _
  have:its=its':=by simpa using congrArg Array.toList d1
  subst this
  exact r.inj r'
end
abbrev Cx.wish (X:Cx) (E:Value→Shared→Prop):Cx:={ X with xe:=E }
abbrev Cx.nox (X:Cx):Cx:=X.wish fun _ _=>False
theorem Cx.Ok.wish {X:Cx}(ok:X.Ok)(E:Value→Shared→Prop):(X.wish E).Ok :=
  ⟨ok.mod,ok.kind,ok.glob,ok.blt,ok.above,ok.inj,ok.has,ok.cab,ok.hd,ok.frames,ok.stk,ok.exf,ok.bs,ok.bsz,ok.noex,ok.exfs,ok.funs,ok.frf⟩
theorem Cx.Ok.unwish {X:Cx}{E:Value→Shared→Prop}(ok:(X.wish E).Ok):X.Ok :=
  ⟨ok.mod,ok.kind,ok.glob,ok.blt,ok.above,ok.inj,ok.has,ok.cab,ok.hd,ok.frames,ok.stk,ok.exf,ok.bs,ok.bsz,ok.noex,ok.exfs,ok.funs,ok.frf⟩
section
variable {X:Cx} {pins:List (Addr × Obj)} {σ:St} {H:Hp} {s:Shared} {E:Value→Shared→Prop}
theorem Inv.wish (I:Inv X pins σ H s)(E:Value→Shared→Prop):Inv (X.wish E) pins σ H s:=⟨I.ok.wish E,I.os,I.bare,I.base,I.loc,I.cell,I.free,I.freeC,I.pin,I.hok,I.len⟩
theorem Inv.unwish (I:Inv (X.wish E) pins σ H s):Inv X pins σ H s:=⟨I.ok.unwish,I.os,I.bare,I.base,I.loc,I.cell,I.free,I.freeC,I.pin,I.hok,I.len⟩
theorem SP.unwish {D:uG}{f:Flow}{s':Shared}(h:SP (X.wish E) pins D f s'):SP X pins D f s':=by
  cases f with
  | next=>obtain⟨σ',H',I,q⟩:=h;exact⟨σ',H',I.unwish,q⟩
  | brk=>obtain⟨σ',H',I,q⟩:=h;exact⟨σ',H',I.unwish,q⟩
  | cont=>obtain⟨σ',H',I,q⟩:=h;exact⟨σ',H',I.unwish,q⟩
  | ret u=>obtain⟨v,σ',H',I,r,q⟩:=h;exact⟨v,σ',H',I.unwish,r,q⟩
theorem PSs.nox {st:List Stmt}{t:TS}(h:PSs X.nox st t):PSs X st t:=fun pins s σ H D I hw =>
  wpAny_mono (h pins s σ H D (I.wish _) hw) (fun _ _ q=>q.unwish) fun _ _ z=>False.elim z
end
section
variable {X:Cx} {st:Stmt} {rest:List Stmt} {t u:TS} {e:Expr} {te:TE} {pos:Pos}
def Gv:TS:=fun D σ H=>D.nx σ H
def Hr (t u:TS):TS:=fun D σ H=>t { D with nx:=u D } σ H
theorem Do:PSs X [] Gv:=fun _ _ σ H _ I h=>wpAny_execs_nil ⟨σ,H,I,h⟩
theorem Bo (h1:PS X st t)(h2:PSs X rest u):PSs X (st :: rest) (Hr t u):=by
  intro pins s σ H D I h
  refine wpAny_execs_cons (thn (h1 pins s σ H { D with nx:=u D } I h) fun f s1 q => ?_)
  cases f with
  | next =>
    obtain⟨σ',H',I',q⟩:=q
    exact h2 pins s1 σ' H' D I' q
  | ret v=>exact q
  | brk=>exact q
  | cont=>exact q
theorem Dp (h1:PS X st t):PSs X [st] t:=by
  intro pins s σ H D I h
  refine wpAny_execs_cons (thn (h1 pins s σ H D I h) fun f s1 q => ?_)
  cases f with
  | next=>exact wpAny_execs_nil q
  | ret v=>exact q
  | brk=>exact q
  | cont=>exact q
theorem Inv.quiet {pins:List (Addr × Obj)}{σ:St}{H:Hp}{s:Shared}(I:Inv X pins σ H s):interactive X.env=false:=by simp [interactive,I.ok.kind]
def Gw (te:TE):TS:=fun D σ H=>te σ H fun _ H1=>D.nx σ H1
theorem Dq (he:PE X e te)(hs:swapsWith e none pos.line X.env=pure false:=by rfl):PS X (.Expr e pos) (Gw te):=by
  intro pins s σ H D I h
  exact wpAny_Expr_any (thn (he pins s σ H _ I h) fun v s1 ⟨x,H1,I1,r1,q1⟩=>⟨σ,H1,I1,q1⟩) I.quiet hs
def Hs (te:TE):TS:=fun D σ H=>te σ H D.rt
theorem E4 (he:PE X e te):PS X (.Return (some e) pos) (Hs te):=by
  intro pins s σ H D I h
  exact wpAny_Return_some (thn (he pins s σ H _ I h) fun v s1 ⟨x,H1,I1,r1,q1⟩=>⟨x,σ,H1,I1,r1,q1⟩)
def Ht (c:TT) (t u:TS):TS:=fun D σ H=>c σ H fun b H1=>if b=true then t D σ H1 else u D σ H1
theorem Gx {c:Expr}{a b:List Stmt}{tc:TT}(hc:PT X c tc)(ha:PSs X a t)(hb:PSs X b u):PS X (.If c a b pos) (Ht tc t u):=by
  intro pins s σ H D I h
  refine wpAny_If (thn (hc pins s σ H _ I h) fun d s1 ⟨H1,I1,q1⟩ => ?_)
  cases d with
  | true=>exact ha pins s1 σ H1 D I1 q1
  | false=>exact hb pins s1 σ H1 D I1 q1
def E5:TS:=fun _ _ _=>False
theorem Bp:PS X st E5:=fun _ _ _ _ _ _ h=>h.elim
end
abbrev TG:=V→St→Hp→(St→Hp→Prop)→Prop
abbrev TGs:=List V→St→Hp→(St→Hp→Prop)→Prop
def PG (X:Cx) (target:Expr) (t:TG):Prop :=
  ∀ (pins:List (Addr × Obj)) (s:Shared) (σ:St) (H:Hp) (v:V) (u:Value) (Q:St→Hp→Prop),Inv X pins σ H s→bQ v u→t v σ H Q →
    wpAny (model X.prog X.w) X.A (assign target X.env u) (fun _ s'=>∃ σ' H',Inv X pins σ' H' s'∧Q σ' H') X.xe s
def PGs (X:Cx) (ts:List Expr) (t:TGs):Prop :=
  ∀ (pins:List (Addr × Obj)) (s:Shared) (σ:St) (H:Hp) (vs:List V) (us:List Value) (Q:St→Hp→Prop),Inv X pins σ H s→aS vs us→t vs σ H Q →
    wpAny (model X.prog X.w) X.A (assignInOrder ((assignEach ts X.env).map (·.2)) us) (fun _ s'=>∃ σ' H',Inv X pins σ' H' s'∧Q σ' H') X.xe s
abbrev E6:=V→V→V→Hp→(Hp→Prop)→Prop
def Gy (X:Cx) (t:E6):Prop :=
  ∀ (pins:List (Addr × Obj)) (s:Shared) (σ:St) (H:Hp) (o i v:V) (ov iv u:Value) (Q:Hp→Prop),Inv X pins σ H s→bQ o ov→bQ i iv→bQ v u→t o i v H Q →
    wpAny (model X.prog X.w) X.A (setItem ov iv u) (fun _ s'=>∃ H',Inv X pins σ H' s'∧Q H') X.xe s
section
variable {X:Cx} {pos:Pos}
def EC (i:Nat):TG:=fun v σ H Q=>Q (σ.set i (some v)) H
theorem Dr {i:Nat}{x:Str}(hN:X.N.Nodup)(hi:X.N[i]? = some x)(hx:Loc X.env.scope x)(hf:X.fn x=true∨X.env.scope.names.lookup x=some .local:=by first|exact .inl rfl|exact .inr rfl|assumption):PG X (.Name x pos) (EC i):=by
  intro pins s σ H v u Q I r h
  exact wpAny_assign_Name (uF I hN hi hx r (fun s' I'=>⟨_,H,I',h⟩) hf)
def Hu:TGs:=fun vs σ H Q=>vs=[]∧Q σ H
def Gz (t:TG) (u:TGs):TGs:=fun vs σ H Q=>∃ v r,vs=v :: r∧t v σ H fun σ' H'=>u r σ' H' Q
theorem Ds:PGs X [] Hu:=by
  intro pins s σ H vs us Q I r h
  obtain⟨e,h⟩:=h
  subst e
  cases r
  exact assignInOrder_nil ⟨σ,H,I,h⟩
theorem Bq {e:Expr}{es:List Expr}{t:TG}{u:TGs}(h1:PG X e t)(h2:PGs X es u)
    (hs:(assignEach (e :: es) X.env).map (·.2)=assign e X.env :: (assignEach es X.env).map (·.2):=by rfl):PGs X (e :: es) (Gz t u):=by
  intro pins s σ H vs us Q I r h
  obtain⟨v,vr,e1,h⟩:=h
  subst e1
  cases r with
  | cons r rr =>
    rw [hs]
    refine assignInOrder_cons (thn (h1 pins s σ H _ _ _ I r h) fun _ s1 ⟨σ1,H1,I1,q1⟩ => ?_)
    exact h2 pins s1 σ1 H1 _ _ Q I1 rr q1
def Hv (K:PySem.W.Frag) (n:Nat) (t:TGs):TG:=fun v σ H Q=>∃ a xs,v=.ref a∧SqT K H a xs∧xs.length=n∧t xs σ H Q
theorem E7 {es:List Expr}{k:Nat}{t:TGs}{n:Nat}(hc:X.calm=true)(h:PGs X es t)
    (hn:(assignEach es X.env).length=n:=by rfl) (hst:(assignEach es X.env).findIdx? (·.1)=none:=by rfl):PG X (.Tuple es k pos) (Hv X.K n t):=by
  intro pins s σ H v u Q I r hw
  obtain⟨a,xs,e1,hq,hl,hw⟩:=hw
  subst e1
  cases r
  obtain⟨its,rv,ht,hz⟩:=I.tuple hq
  refine assign_Tuple_tuple (I.ok.hd hc) ht (by simp [hn,← hl,rv.length]) hst fun h' hx => ?_
  have I1:Inv X pins σ H { s with heap:=h' }:=I.kept (t':=s.toks) fun b o e=>hx b o (Nat.ne_of_lt (Heap.lt_size e)) e
  exact h pins _ σ H xs _ Q I1 (by simpa using rv) hw
def Hw (to ti:TE) (t:E6):TG:=fun v σ H Q=>to σ H fun o H1=>ti σ H1 fun i H2=>t o i v H2 fun H3=>Q σ H3
theorem E8 {o i:Expr}{to ti:TE}{t:E6}(ho:PE X o to)(hi:PE X i ti)(hs:Gy X t)
    (ha:∀ v,assign (.Subscript o i pos) X.env v=(do
      let ov ← holding [v] (eval o X.env)
      let iv ← holding [v,ov] (eval i X.env)
      standAt pos
      holding [v,ov,iv] (setItem ov iv v)
      release [v,ov,iv] []):=by intro _;rfl):PG X (.Subscript o i pos) (Hw to ti t):=by
  intro pins s σ H v u Q I r h
  rw [ha]
  refine wpAny_bind (wpAny_holding (thn (ho pins s σ H _ I h) fun ov s1 ⟨x,H1,I1,r1,q1⟩ => ?_))
  refine wpAny_bind (wpAny_holding (thn (hi pins s1 σ H1 _ I1 q1) fun iv s2 ⟨y,H2,I2,r2,q2⟩ => ?_))
  refine wpAny_bind (wpAny_standAt (wpAny_bind (wpAny_holding (thn (hs pins s2 σ H2 x y v ov iv u _ I2 r1 r2 r q2) fun _ s3 ⟨H3,I3,q3⟩ => ?_))))
  exact wpAny_release ⟨σ,H3,I3,q3⟩
def GA (te:TE) (g:TG):TS:=fun D σ H=>te σ H fun x H1=>g x σ H1 D.nx
theorem Br {tg e:Expr}{te:TE}{g:TG}(he:PE X e te)(hg:PG X tg g)(hs:swapsWithSole [tg] e pos.line X.env=pure false:=by rfl)(hw:swappedStores [tg] e X.env=pure none:=by rfl)
    (h1:(assignEach [tg] X.env).map (·.2)=[assign tg X.env]:=by rfl):PS X (.Assign [tg] e pos) (GA te g):=by
  intro pins s σ H D I h
  refine wpAny_Assign_stores (thn (he pins s σ H _ I h) fun v s1 ⟨x,H1,I1,r1,q1⟩ => ?_) hs hw
  rw [h1]
  exact thn (hg pins s1 σ H1 x v _ I1 r1 q1) fun _ s2 q=>q
theorem E9 {i:Nat}{x:Str}{e:Expr}{te:TE}{pos':Pos}(hN:X.N.Nodup)(hi:X.N[i]? = some x)(hx:Loc X.env.scope x)(he:PE X e te)(hs:swapsWith e (some (.Name x pos')) pos.line X.env=pure false:=by rfl)(hf:X.fn x=true∨X.env.scope.names.lookup x=some .local:=by first|exact .inl rfl|exact .inr rfl|assumption) :
    PS X (.Assign [.Name x pos'] e pos) (GA te (EC i)):=by
  intro pins s σ H D I h
  refine wpAny_Assign_Name (thn (he pins s σ H _ I h) fun v s1 ⟨y,H1,I1,r1,q1⟩ => ?_) hs
  exact uF I1 hN hi hx r1 (fun s2 I2=>⟨_,H1,I2,q1⟩) hf
end
section
variable {X:Cx} {pos:Pos}
def Fa (c:TT) (tb:TS):TS:=fun D σ H=>∃ W:Nat→St→Hp→Prop,(∃ m,W m σ H) ∧ ∀ m σ H,W m σ H →
  c σ H fun b H1=>if b=true then ∃ N:St→Hp→Prop,(∀ σ' H',N σ' H' → ∃ m',m' < m∧W m' σ' H')∧tb { D with nx:=N,ct:=N,bk:=D.nx } σ H1 else D.nx σ H1
theorem Bs {c:Expr}{body:List Stmt}{tc:TT}{tb:TS}(hp:PassesOwn (model X.prog X.w) X.A X.env X.xe)(hc:PT X c tc)(hb:PSs X body tb):PS X (.While c body [] pos) (Fa tc tb):=by
  intro pins s σ H D I h
  obtain⟨W,⟨m0,w0⟩,turn⟩:=h
  refine wpAny_While (codeAny_whileLoop (fun n s'=>∃ σ' H',Inv X pins σ' H' s'∧W n σ' H') ?_ m0 ⟨σ,H,I,w0⟩)
  rintro n s1 ⟨σ1,H1,I1,w1⟩
  refine wpAny_passesOwn hp (thn (hc pins s1 σ1 H1 _ I1 (turn n σ1 H1 w1)) fun b s2 ⟨H2,I2,q2⟩ => ?_)
  cases b with
  | true =>
    obtain⟨N,hN,q2⟩:=q2
    rw [if_pos rfl]
    refine wpAny_passesOwn hp (thn (hb pins s2 σ1 H2 _ I2 q2) fun f s3 q3 => ?_)
    cases f with
    | next =>
      obtain⟨σ3,H3,I3,n3⟩:=q3
      obtain⟨m',hm,w3⟩:=hN σ3 H3 n3
      exact⟨m',hm,σ3,H3,I3,w3⟩
    | cont =>
      obtain⟨σ3,H3,I3,n3⟩:=q3
      obtain⟨m',hm,w3⟩:=hN σ3 H3 n3
      exact⟨m',hm,σ3,H3,I3,w3⟩
    | brk=>exact q3
    | ret v=>exact q3
  | false =>
    rw [if_neg Bool.false_ne_true]
    exact wpAny_execs_nil ⟨σ1,H2,I2,q2⟩
end
structure It where
  go:Nat→Hp→Prop
  yld:Nat→Hp→V→Hp→Prop
  stop:Nat→Hp→Prop
def py (X:Cx) (pins:List (Addr × Obj)) (H:Hp) (b:Addr):Prop :=
  H b=none∧b≠X.env.locals∧b∉X.fs∧(b∈X.ex∨X.s₀.heap.objs.size≤b)∧(∀ x c,X.env.cells.lookup x=some c→c≠b) ∧ ∀ p∈X.pn++pins,p.1≠b
theorem Inv.fpOk {X:Cx}{pins:List (Addr × Obj)}{σ:St}{H H':Hp}{s:Shared}{b:Addr}(I:Inv X pins σ H s)(hb:s.heap.objs.size≤b)(hn:H' b=none):py X pins H' b:=by
  refine⟨hn,Nat.ne_of_gt (Nat.lt_of_lt_of_le I.lt hb),I.nofs hb,.inr (Nat.le_trans I.sz hb),fun x c e z => ?_,fun p hp z => ?_⟩
  · obtain⟨v,q⟩:=I.cell x c e
    exact absurd (Nat.lt_of_lt_of_le q.lt (by rw [z];exact hb)) (Nat.lt_irrefl _)
  · exact absurd (Nat.lt_of_lt_of_le (Heap.lt_size (I.pin p hp).1) (by rw [z];exact hb)) (Nat.lt_irrefl _)
structure wZ (P:Program) (w:World) (K:PySem.W.Frag) (tg:Expr) (J:It) (fp:List Addr) (it:Addr) (tn:Nat→Heap→Prop):Prop where
  mem:it∈fp
  obj:∀ i h,tn i h → ∀ b∈fp,∃ o,h.get? b=some o ∧ ∀ v,o.data ≠ .cell v
  keep:∀ i h h',tn i h→(∀ b∈fp,∀ o,h.get? b=some o→h'.get? b=some o)→tn i h'
  item:∀ (X:Cx),X.prog=P→X.w=w→X.K=K→X.calm=true → ∀ (i:Nat) (pins:List (Addr × Obj)) (s:Shared) (σ:St) (H:Hp) (E:Value→Shared→Prop),Inv X pins σ H s→(∀ b∈fp,py X pins H b)→tn i s.heap→J.go i H →
    wpAny (model P w) X.A (pyNext (.ref it)) (fun r s1=>∃ u,r=some u ∧
      wpAny (model P w) X.A (letOwnedTupleGo tg (.ref it) u) (fun _ s2=>∃ x H',Inv X pins σ H' s2∧bQ x u∧J.yld i H x H'∧tn (i + 1) s2.heap ∧ ∀ b∈fp,H' b=none) E s1) E s
  done:∀ (X:Cx),X.prog=P→X.w=w→X.K=K→X.calm=true → ∀ (i:Nat) (pins:List (Addr × Obj)) (s:Shared) (σ:St) (H:Hp) (E:Value→Shared→Prop),Inv X pins σ H s→(∀ b∈fp,py X pins H b)→tn i s.heap→J.stop i H →
    wpAny (model P w) X.A (pyNext (.ref it)) (fun r s1=>r=none∧Inv X pins σ H s1) E s
  self:∀ (A:Around) (i:Nat) (s:Shared) (Q:Value→Shared→Prop) (E:Value→Shared→Prop),tn i s.heap→Q (.ref it) s→wpAny (model P w) A (pyIter (.ref it)) Q E s
abbrev TI:=St→Hp→(It→Hp→Prop)→Prop
def PIE (X:Cx) (pins:List (Addr × Obj)) (σ:St) (tg:Expr) (R:It→Hp→Prop) (itv:Value) (s2:Shared):Prop :=
  ∃ (it:Addr) (fp:List Addr) (tn:Nat→Heap→Prop) (J:It) (H':Hp),itv=.ref it∧Inv X pins σ H' s2∧wZ X.prog X.w X.K tg J fp it tn∧tn 0 s2.heap∧(∀ b∈fp,py X pins H' b)∧R J H'
def PI (X:Cx) (tg iter:Expr) (wi:TI):Prop :=
  ∀ (pins:List (Addr × Obj)) (s:Shared) (σ:St) (H:Hp) (R:It→Hp→Prop),Inv X pins σ H s→wi σ H R →
    wpAny (model X.prog X.w) X.A (eval iter X.env) (fun v s1=>wpAny (model X.prog X.w) X.A (pyIter v) (PIE X pins σ tg R) X.xe s1) X.xe s
theorem Bt {M:Model}{A:Around}{E:Value→Shared→Prop}{s:Shared}{tg:Expr}{it:Addr}{u:Value}{o:Obj}{n:String}{vs:Array Value}{Q:Unit→Shared→Prop}(ho:s.heap.get? it=some o)(hc:o.cls=.type n)(hd:o.data=.fields vs)
    (hn : ["enumerate", "zip", "dict_itemiterator", "dict_reverseitemiterator", "odict_iterator", "itertools.zip_longest", "itertools.pairwise"].contains n=false) (hQ:Q () s):wpAny M A (letOwnedTupleGo tg (.ref it) u) Q E s:=by
  unfold letOwnedTupleGo
  cases tg<;>first
    | exact wpAny_pure hQ
    | (cases u<;>first
        | exact wpAny_pure hQ
        | (refine wpAny_bind (wpAny_load ho ?_)
           rw [hc,hd]
           show wpAny M A (if (["enumerate", "zip", "dict_itemiterator", "dict_reverseitemiterator", "odict_iterator", "itertools.zip_longest", "itertools.pairwise"].contains n && vs[0]? == some (rawInt _))=true then _ else _) Q E s
           rw [if_neg (by intro h;rw [hn,Bool.false_and] at h;cases h)]
           exact wpAny_pure hQ))
def Itl (K:PySem.W.Frag) (a:Addr):It :=
  ⟨fun i H=>∃ xs x,SqL K H a xs∧xs[i]? = some x,fun i H x H'=>H'=H ∧ ∀ xs,SqL K H a xs→xs[i]? = some x,fun i H=>∃ xs,SqL K H a xs∧xs.length≤i⟩
def Itt (K:PySem.W.Frag) (a:Addr):It :=
  ⟨fun i H=>∃ xs x,SqT K H a xs∧xs[i]? = some x,fun i H x H'=>H'=H ∧ ∀ xs,SqT K H a xs→xs[i]? = some x,fun i H=>∃ xs,SqT K H a xs∧xs.length≤i⟩
def Itr (lo:Int) (n:Nat):It:=⟨fun i _=>i < n,fun i H x H'=>H'=H∧x=.int (lo + i),fun i _=>n≤i⟩
theorem z8 {P:Program}{w:World}{K:PySem.W.Frag}{tg:Expr}(a it:Addr):wZ P w K tg (Itl K a) [it] it (fun i h=>h.IsListIter it a i) where
  mem:=by simp
  obj:=fun i h st b hb=>by
    have e:b=it:=by simpa using hb
    subst e
    obtain⟨o,e,c,d⟩:=st
    exact⟨o,e,fun v z=>by rw [d] at z;cases z⟩
  keep:=fun i h h' st k=>st.at fun o e=>k it (by simp) o e
  item:=by
    intro X hP hw hK hc i pins s σ H E I hf st hg
    subst hP hw hK
    obtain⟨xs,x,hq,hx⟩:=hg
    obtain⟨its,rv,p,hz⟩:=I.list hq
    obtain⟨u,hu,ru⟩:=rv.get hx
    obtain⟨f0,f1,f2,f3,f4,f5⟩:=hf it (by simp)
    refine wpAny_pyNext_list_item st p.isList (x:=u) (by simpa using hu) fun h' st' sb => ?_
    have I1:Inv X pins σ H { s with heap:=h' }:=I.turned (t':=s.toks) (fun b o hb e=>(sb.2 b hb).trans e) f0 f1 f3 f4 f5
    obtain⟨o,e,c,d⟩:=id st'
    exact⟨u,rfl,Bt (s:={ s with heap:=h' }) e c d (by decide) ⟨x,H,I1,ru,⟨rfl,fun ys hy=>by rw [I.list_inj hy hq];exact hx⟩,st',fun b hb=>(hf b hb).1⟩⟩
  done:=by
    intro X hP hw hK hc i pins s σ H E I hf st hg
    subst hP hw hK
    obtain⟨xs,hq,hx⟩:=hg
    obtain⟨its,rv,p,hz⟩:=I.list hq
    obtain⟨f0,f1,f2,f3,f4,f5⟩:=hf it (by simp)
    have hl:=rv.length
    exact wpAny_pyNext_list_end (I.ok.hd hc) st p.isList (by simp;omega) fun h' eb=>⟨rfl,I.turned (t':=s.toks) (fun b o hb e=>eb b o hb e) f0 f1 f3 f4 f5⟩
  self:=fun _ _ _ _ _ st h=>wpAny_pyIter_listiter st h
theorem w5 {P:Program}{w:World}{K:PySem.W.Frag}{tg:Expr}(a it:Addr):wZ P w K tg (Itt K a) [it] it (fun i h=>h.IsTupleIter it a i) where
  mem:=by simp
  obj:=fun i h st b hb=>by
    have e:b=it:=by simpa using hb
    subst e
    obtain⟨o,e,c,d⟩:=st
    exact⟨o,e,fun v z=>by rw [d] at z;cases z⟩
  keep:=fun i h h' st k=>st.at fun o e=>k it (by simp) o e
  item:=by
    intro X hP hw hK hc i pins s σ H E I hf st hg
    subst hP hw hK
    obtain⟨xs,x,hq,hx⟩:=hg
    obtain⟨its,rv,p,hz⟩:=I.tuple hq
    obtain⟨u,hu,ru⟩:=rv.get hx
    obtain⟨f0,f1,f2,f3,f4,f5⟩:=hf it (by simp)
    refine wpAny_pyNext_tuple_item st (show s.heap.IsTuple a its.toArray from p) (x:=u) (by simpa using hu) fun h' st' sb => ?_
    have I1:Inv X pins σ H { s with heap:=h' }:=I.turned (t':=s.toks) (fun b o hb e=>(sb.2 b hb).trans e) f0 f1 f3 f4 f5
    obtain⟨o,e,c,d⟩:=id st'
    exact⟨u,rfl,Bt (s:={ s with heap:=h' }) e c d (by decide) ⟨x,H,I1,ru,⟨rfl,fun ys hy=>by rw [I.tuple_inj hy hq];exact hx⟩,st',fun b hb=>(hf b hb).1⟩⟩
  done:=by
    intro X hP hw hK hc i pins s σ H E I hf st hg
    subst hP hw hK
    obtain⟨xs,hq,hx⟩:=hg
    obtain⟨its,rv,p,hz⟩:=I.tuple hq
    obtain⟨f0,f1,f2,f3,f4,f5⟩:=hf it (by simp)
    have hl:=rv.length
    exact wpAny_pyNext_tuple_end (I.ok.hd hc) st (show s.heap.IsTuple a its.toArray from p) (by simp;omega) fun h' eb=>⟨rfl,I.turned (t':=s.toks) (fun b o hb e=>eb b o hb e) f0 f1 f3 f4 f5⟩
  self:=fun _ _ _ _ _ st h=>wpAny_pyIter_tupleiter st h
theorem w6 {P:Program}{w:World}{K:PySem.W.Frag}{tg:Expr}(it:Addr)(lo:Int)(n:Nat):wZ P w K tg (Itr lo n) [it] it (fun i h=>IsRangeIter h it (lo + (i:Nat) * 1) ((n:Int) - (i:Nat)) 1) where
  mem:=by simp
  obj:=fun i h st b hb=>by
    have e:b=it:=by simpa using hb
    subst e
    exact⟨_,st,fun v z=>by
      have z':Data.fields _=Data.cell v:=z
      cases z'⟩
  keep:=fun i h h' st k=>k it (by simp) _ st
  item:=by
    intro X hP hw hK hc i pins s σ H E I hf st hg
    subst hP hw hK
    obtain⟨f0,f1,f2,f3,f4,f5⟩:=hf it (by simp)
    have W:=Walks.range (prog:=X.prog) (w:=X.w) (I.ok.hd hc) it lo 1 n
    refine W.item i s _ _ hg st fun v h' tk hv st' kk => ?_
    obtain⟨t,rfl⟩:=hv
    have I1:Inv X pins σ H { s with heap:=h',toks:=tk }:=I.turned (fun b o hb e=>kk b o (by simpa using hb) e) f0 f1 f3 f4 f5
    refine⟨_,rfl,Bt (s:={ s with heap:=h',toks:=tk }) (n := "range_iterator") st' rfl rfl (by decide) ⟨.int (lo + i),H,I1,⟨t,?_⟩,⟨rfl,rfl⟩,st',fun b hb=>(hf b hb).1⟩⟩
    rw [Int.mul_one]
  done:=by
    intro X hP hw hK hc i pins s σ H E I hf st hg
    subst hP hw hK
    obtain⟨f0,f1,f2,f3,f4,f5⟩:=hf it (by simp)
    exact wpAny_pyNext_range_end (I.ok.hd hc) st (by have:n≤i:=hg;omega) fun h' eb=>⟨rfl,I.turned (t':=s.toks) (fun b o hb e=>eb b o hb e) f0 f1 f3 f4 f5⟩
  self:=fun _ _ _ _ _ st h=>wpAny_pyIter_rangeiter st h
end L2
namespace L2
open PySem PySem.Spec PyProof.Rows
section
variable {X:Cx} {tg:Expr}
theorem Bu {pins:List (Addr × Obj)}{σ:St}{H:Hp}{s:Shared}{R:It→Hp→Prop}{E:Value→Shared→Prop}{lo hi:Int}{t u v:Tok}{tk:Nat}(I:Inv X pins σ H s)(h1 : -(2 ^ 62)≤lo)(h2:lo < 2 ^ 62)(h3 : -(2 ^ 62)≤hi)(h4:hi < 2 ^ 62)
    (q:R (Itr lo (hi - lo).toNat) H):wpAny (model X.prog X.w) X.A (pyIter (.ref s.heap.objs.size)) (PIE X pins σ tg R) E { s with heap:=s.heap.push { cls:=.type "range",data:=.fields #[.int lo t,.int hi u,.int 1 v] },toks:=tk }:=by
  refine wpAny_pyIter_range (IsRange.new ..) (small_one h1 h2 h3 h4) ?_
  have I1:Inv X pins σ H { s with heap:=s.heap.push { cls:=.type "range",data:=.fields #[.int lo t,.int hi u,.int 1 v] },toks:=tk }:=I.kept fun b o e=>Heap.get?_push_of_some _ e
  refine⟨(s.heap.push { cls:=.type "range",data:=.fields #[.int lo t,.int hi u,.int 1 v] }).objs.size,[(s.heap.push { cls:=.type "range",data:=.fields #[.int lo t,.int hi u,.int 1 v] }).objs.size],_,_,H,rfl,
    I1.kept (t':=tk) fun b o e=>Heap.get?_push_of_some _ e,w6 _ lo (hi - lo).toNat,?_,fun b hb => ?_,q⟩
  · have e1:lo + ((0:Nat):Int) * 1=lo:=by simp
    have e2:(((hi - lo).toNat:Nat):Int) - ((0:Nat):Int)=Builtin.Range.rangeSize lo hi 1:=by rw [rangeSize_one];split<;>omega
    show IsRangeIter _ _ (lo + ((0:Nat):Int) * 1) ((((hi - lo).toNat:Nat):Int) - ((0:Nat):Int)) 1
    rw [e1,e2]
    exact Heap.get?_push_size _ rfl
  · have e:b=(s.heap.push { cls:=.type "range",data:=.fields #[.int lo t,.int hi u,.int 1 v] }).objs.size:=by simpa using hb
    subst e
    exact I1.fpOk (Nat.le_refl _) (I1.hok.fresh (Nat.le_refl _))
def GB (ta:TA):TI:=fun σ H R=>ta σ H fun vs H1=>∃ j:Int,vs=[.int j] ∧ -(2 ^ 62)≤j∧j < 2 ^ 62∧R (Itr 0 j.toNat) H1
theorem z9 {a:Expr} {ta:TA} {p pos:Pos} (hg:Gl X "range") (hm:X.mg "range" = none) (ha:PA X [a] ta) (hs:starEach [a] X.env=[(false,eval a X.env)]:=by rfl):PI X tg (.Call (.Name "range" p) [a] [] pos) (GB ta):=by
  intro pins s σ H R I h
  refine Call_ (kT I hg hm boot_range (PyProof.Rows.callWith_type1 (thn (ha pos pins s σ H _ I h) fun us s1 ⟨vs,H1,I1,r1,q1⟩ => ?_) hs rfl))
  obtain⟨j,e,q1,q2,q⟩:=q1
  subst e
  cases r1 with
  | cons r rr =>
    cases rr
    obtain⟨t,rfl⟩:=r
    exact call_range_1 (Bu I1 (by omega) (by omega) q1 q2 (by simpa using q))
def Hx (wi:TI) (g:TG) (tb:TS):TS:=fun D σ H=>wi σ H fun J H1=>∃ W:Nat→Nat→St→Hp→Prop,(∃ m,W 0 m σ H1) ∧ ∀ i m σ H,W i m σ H →
  (J.stop i H∧D.nx σ H)∨(J.go i H ∧ ∃ N:St→Hp→Prop,(∀ σ' H',N σ' H' → ∃ m',m' < m∧W (i + 1) m' σ' H') ∧ ∀ x H',J.yld i H x H'→g x σ H' fun σ2 H2=>tb { D with nx:=N,ct:=N,bk:=D.nx } σ2 H2)
def nv (fp:List Addr) (h:Heap):List (Addr × Obj):=fp.filterMap fun b=>(h.get? b).map fun o=>(b,o)
theorem gX {fp:List Addr}{h:Heap}{b:Addr}{o:Obj}(hb:b∈fp)(e:h.get? b=some o):(b,o)∈nv fp h:=List.mem_filterMap.mpr ⟨b,hb,by rw [e];rfl⟩
theorem Aa {fp:List Addr}{h:Heap}{p:Addr × Obj}(hp:p∈nv fp h):p.1∈fp∧h.get? p.1=some p.2:=by
  obtain⟨b,hb,e⟩:=List.mem_filterMap.mp hp
  cases q:h.get? b with
  | none=>rw [q] at e;cases e
  | some o =>
    rw [q] at e
    have e':(b,o)=p:=Option.some.inj e
    subst e'
    exact⟨hb,q⟩
theorem Inv.pinned {pins:List (Addr × Obj)}{σ:St}{H:Hp}{s:Shared}{fp:List Addr}(I:Inv X pins σ H s)(hf:∀ b∈fp,py X pins H b)(ho:∀ b∈fp,∃ o,s.heap.get? b=some o ∧ ∀ v,o.data ≠ .cell v):Inv X (pins++nv fp s.heap) σ H s :=
  I.pins_of fun p hp=>(List.mem_append.mp hp).elim (fun z=>I.pin p (List.mem_append_right _ z)) fun z=>by
    obtain⟨hb,e⟩:=Aa z
    obtain⟨f0,f1,f2,_⟩:=hf p.1 hb
    obtain⟨o,e',d⟩:=ho p.1 hb
    rw [e] at e';cases e'
    exact⟨e,f0,f1,f2,d⟩
theorem Inv.unpinned {pins pl:List (Addr × Obj)}{σ:St}{H:Hp}{s:Shared}(I:Inv X (pins++pl) σ H s):Inv X pins σ H s:=I.pins_of fun p hp=>I.pin p (List.mem_append_right _ (List.mem_append_left _ hp))
theorem Fc {iter:Expr}{body:List Stmt}{wi:TI}{g:TG}{tb:TS}{pos:Pos}(hp:PassesOwn (model X.prog X.w) X.A X.env X.xe)(hc:X.calm=true)(hi:PI X tg iter wi)(hg:PG X tg g)(hb:PSs X body tb)
    (hs:∀ x,foldedSetIterable iter X.env x=pure x:=by intro _;rfl):PS X (.For tg iter body [] pos) (Hx wi g tb):=by
  intro pins s σ H D I h
  refine wpAny_For (thn (hi pins s σ H _ I h) fun v s1 h1=>thn h1 fun itv s2 h2 => ?_) hs
  obtain⟨it,fp,tn,J,H2,e,I2,T,st2,f2,W,⟨m0,w0⟩,turn⟩:=h2
  subst e
  have stat:∀ {H':Hp},(∀ b∈fp,H' b=none) → ∀ b∈fp,py X pins H' b:=fun hn b hb=>⟨hn b hb,(f2 b hb).2⟩
  refine codeAny_forLoop_any (fun n s'=>∃ i σ' H',Inv X pins σ' H' s'∧tn i s'.heap∧(∀ b∈fp,H' b=none)∧W i n σ' H') ?_ m0 ⟨0,σ,H2,I2,st2,fun b hb=>(f2 b hb).1,w0⟩
  rintro n s3 ⟨i,σ3,H3,I3,st3,fr3,w3⟩
  rcases turn i n σ3 H3 w3 with ⟨stop,qn⟩|⟨go,N,hN,step⟩
  · refine wpAny_passesOwn hp (thn (T.done X rfl rfl rfl hc i pins s3 σ3 H3 X.xe I3 (stat fr3) st3 stop) fun r s4 ⟨hr,I4⟩ => ?_)
    subst hr
    exact wpAny_execs_nil ⟨σ3,H3,I4,qn⟩
  · refine wpAny_passesOwn hp (thn (T.item X rfl rfl rfl hc i pins s3 σ3 H3 X.xe I3 (stat fr3) st3 go) fun r s4 ⟨u,hr,h4⟩ => ?_)
    subst hr
    refine wpAny_passesOwn hp (thn h4 fun _ s5 ⟨x,H5,I5,r5,y5,st5,fr5⟩ => ?_)
    have I5':=I5.pinned (stat fr5) (T.obj _ _ st5)
    refine wpAny_passesOwn hp (thn (hg _ s5 σ3 H5 x u _ I5' r5 (step x H5 y5)) fun _ s6 ⟨σ6,H6,I6,q6⟩ => ?_)
    refine wpAny_passesOwn hp (thn (hb _ s6 σ6 H6 _ I6 q6) fun f s7 q7 => ?_)
    have again:∀ {σ7:St} {H7:Hp},Inv X (pins++nv fp s5.heap) σ7 H7 s7→N σ7 H7 → ∃ m,m < n ∧ ∃ i σ' H',Inv X pins σ' H' s7∧tn i s7.heap∧(∀ b∈fp,H' b=none)∧W i m σ' H':=fun {σ7 H7} I7 n7=>by
      obtain⟨m',hm,w7⟩:=hN σ7 H7 n7
      refine⟨m',hm,i + 1,σ7,H7,I7.unpinned,T.keep _ _ _ st5 fun b hb o e=>(I7.pin (b,o) (List.mem_append_right _ (List.mem_append_right _ (gX hb e)))).1,fun b hb => ?_,w7⟩
      obtain⟨o,e,d⟩:=T.obj _ _ st5 b hb
      exact (I7.pin (b,o) (List.mem_append_right _ (List.mem_append_right _ (gX hb e)))).2.1
    cases f with
    | next=>obtain⟨σ7,H7,I7,n7⟩:=q7;exact again I7 n7
    | cont=>obtain⟨σ7,H7,I7,n7⟩:=q7;exact again I7 n7
    | brk=>obtain⟨σ7,H7,I7,q7⟩:=q7;exact⟨σ7,H7,I7.unpinned,q7⟩
    | ret v=>obtain⟨x7,σ7,H7,I7,r7,q7⟩:=q7;exact⟨x7,σ7,H7,I7.unpinned,r7,q7⟩
end
end L2
namespace L2
open PySem PySem.Spec PyProof.Rows
abbrev R2:=V→V→Hp→VK→Prop
def OpR (X:Cx) (f:Value→Value→Sem Value) (r:R2):Prop :=
  ∀ (pins:List (Addr × Obj)) (s:Shared) (σ:St) (H:Hp) (x y:V) (v u:Value) (Q:VK),Inv X pins σ H s→bQ x v→bQ y u→r x y H Q →
    wpAny (model X.prog X.w) X.A (f v u) (EP X pins σ Q) X.xe s
def UnR (X:Cx) (f:Value→Sem Value) (r:V→Hp→VK→Prop):Prop :=
  ∀ (pins:List (Addr × Obj)) (s:Shared) (σ:St) (H:Hp) (x:V) (v:Value) (Q:VK),Inv X pins σ H s→bQ x v→r x H Q →
    wpAny (model X.prog X.w) X.A (f v) (EP X pins σ Q) X.xe s
def gF (X:Cx) (f:Value) (r:List V→Hp→VK→Prop):Prop :=
  ∀ (pins:List (Addr × Obj)) (s:Shared) (σ:St) (H:Hp) (xs:List V) (us:List Value) (Q:VK),Inv X pins σ H s→aS xs us→r xs H Q →
    wpAny (model X.prog X.w) X.A (call f us) (EP X pins σ Q) X.xe s
def tOp (r:R2) (ta tb:TE):TE:=fun σ H Q=>ta σ H fun x H1=>tb σ H1 fun y H2=>r x y H2 Q
def tUn (r:V→Hp→VK→Prop) (ta:TE):TE:=fun σ H Q=>ta σ H fun x H1=>r x H1 Q
def rI (C:Int→Int→Prop) (g:Int→Int→V):R2:=fun x y H Q=>∃ i j,x=.int i∧y=.int j∧C i j∧Q (g i j) H
def rI0 (g:Int→Int→V):R2:=fun x y H Q=>∃ i j,x=.int i∧y=.int j∧Q (g i j) H
def rU (g:Int→V):V→Hp→VK→Prop:=fun x H Q=>∃ i,x=.int i∧Q (g i) H
section
variable {X:Cx} {a b c:Expr} {ta tb tc:TE} {pos:Pos}
theorem Fd (ha:PE X a ta)(hb:PE X b tb){pins:List (Addr × Obj)}{s:Shared}{σ:St}{H:Hp}{R:V→V→Hp→Prop}(I:Inv X pins σ H s)
    (h:ta σ H fun x H1=>tb σ H1 fun y H2=>R x y H2) {Q:Value→Shared→Prop} {f:Value→Value→Sem Value}
    (hf:∀ v u s2 x y H2,Inv X pins σ H2 s2→bQ x v→bQ y u→R x y H2→wpAny (model X.prog X.w) X.A (f v u) Q X.xe s2) :
    wpAny (model X.prog X.w) X.A (eval a X.env) (fun v s₁ => wpAny (model X.prog X.w) X.A (eval b X.env) (fun u s₂ => wpAny (model X.prog X.w) X.A (f v u) Q X.xe s₂) X.xe s₁) X.xe s:=by
  refine thn (ha pins s σ H _ I h) fun v s1 ⟨x,H1,I1,r1,q1⟩ => ?_
  refine thn (hb pins s1 σ H1 _ I1 q1) fun u s2 ⟨y,H2,I2,r2,q2⟩ => ?_
  exact hf v u s2 x y H2 I2 r1 r2 q2
theorem GC {op:Operator}{r:R2}(ho:OpR X (binaryOp op) r)(ha:PE X a ta)(hb:PE X b tb):PE X (.BinOp a op b pos) (tOp r ta tb):=by
  intro pins s σ H Q I h
  exact wpAny_BinOp (Fd ha hb I h fun v u s2 x y H2 I2 rx ry q=>ho pins s2 σ H2 x y v u Q I2 rx ry q)
theorem GD {op:UnaryOp}{r:V→Hp→VK→Prop}(ho:UnR X (unaryOp op) r)(ha:PE X a ta):PE X (.UnaryOp op a pos) (tUn r ta):=by
  intro pins s σ H Q I h
  exact UnaryOp_ (thn (ha pins s σ H _ I h) fun v s1 ⟨x,H1,I1,r1,q1⟩=>ho pins s1 σ H1 x v Q I1 r1 q1)
theorem opI {f:Value→Value→Sem Value}{C:Int→Int→Prop}{g:Int→Int→Int}
    (rule:∀ (i j:Int) (t u:Tok) (s:Shared) (Q:Value→Shared→Prop) (E:Value→Shared→Prop),C i j→Q (.int (g i j) s.toks) { s with toks:=s.toks + 1 } → wpAny (model X.prog X.w) X.A (f (.int i t) (.int j u)) Q E s) :
    OpR X f (rI C fun i j=>.int (g i j)):=by
  intro pins s σ H x y v u Q I rx ry h
  obtain⟨i,j,rfl,rfl,hc,q⟩:=h
  obtain⟨t,rfl⟩:=rx
  obtain⟨t',rfl⟩:=ry
  exact rule i j t t' s _ _ hc ⟨.int (g i j),H,I.tok _,⟨_,rfl⟩,q⟩
theorem GE {f:Value→Value→Sem Value}{g:Int→Int→Int}
    (rule:∀ (i j:Int) (t u:Tok) (s:Shared) (Q:Value→Shared→Prop) (E:Value→Shared→Prop),Q (.int (g i j) s.toks) { s with toks:=s.toks + 1 } → wpAny (model X.prog X.w) X.A (f (.int i t) (.int j u)) Q E s) :
    OpR X f (rI0 fun i j=>.int (g i j)):=by
  intro pins s σ H x y v u Q I rx ry h
  obtain⟨i,j,rfl,rfl,q⟩:=h
  obtain⟨t,rfl⟩:=rx
  obtain⟨t',rfl⟩:=ry
  exact rule i j t t' s _ _ ⟨.int (g i j),H,I.tok _,⟨_,rfl⟩,q⟩
theorem Fe {f:Value→Value→Sem Value}{g:Int→Int→Bool}
    (rule:∀ (i j:Int) (t u:Tok) (s:Shared) (Q:Value→Shared→Prop) (E:Value→Shared→Prop),Q (.bool (g i j)) s→wpAny (model X.prog X.w) X.A (f (.int i t) (.int j u)) Q E s) :
    OpR X f (rI0 fun i j=>.bl (g i j)):=by
  intro pins s σ H x y v u Q I rx ry h
  obtain⟨i,j,rfl,rfl,q⟩:=h
  obtain⟨t,rfl⟩:=rx
  obtain⟨t',rfl⟩:=ry
  exact rule i j t t' s _ _ ⟨.bl (g i j),H,I,rfl,q⟩
def GG (i j:Int):Prop:=0≤j∧j≤1000000∧i.natAbs < 2 ^ 64
def Dt (i j:Int):Prop:=(-(2 ^ 64) < i∧i < 2 ^ 64)∨(-(2 ^ 64) < j∧j < 2 ^ 64)
theorem Dt.ok {i j:Int}(h:Dt i j):IntMulOk i j:=by
  rcases h with ⟨h1,h2⟩|⟨h1,h2⟩
  · exact .of_left (intBits_le_64 h1 h2)
  · exact .of_right (intBits_le_64 h1 h2)
theorem Fg:OpR X (binaryOp .Add) (rI0 fun i j=>.int (i + j)):=GE fun _ _ _ _ _ _ _ q=>add_int q
theorem gY:OpR X (binaryOp .Sub) (rI0 fun i j=>.int (i - j)):=GE fun _ _ _ _ _ _ _ q=>sub_int q
theorem d5:OpR X (binaryOp .Mult) (rI Dt fun i j=>.int (i * j)):=opI fun _ _ _ _ _ _ _ hc q=>mul_int q hc.ok
theorem gr:OpR X (binaryOp .Mod) (rI (fun _ j=>0 < j) fun i j=>.int (i % j)):=opI fun i j _ _ _ _ _ hc q=>by
  have h1:(0:Int) < j:=hc
  exact mod_int' (by omega) (by rw [Int.fmod_eq_emod_of_nonneg i (by omega)];exact q)
theorem Bv:OpR X (binaryOp .Pow) (rI GG fun i j=>.int (i ^ j.toNat)):=opI fun _ _ _ _ _ _ _ hc q=>pow_int_small hc.1 hc.2.1 hc.2.2 q
theorem unI {f:Value→Sem Value}{g:Int→Int}
    (rule:∀ (i:Int) (t:Tok) (s:Shared) (Q:Value→Shared→Prop) (E:Value→Shared→Prop),Q (.int (g i) s.toks) { s with toks:=s.toks + 1 } → wpAny (model X.prog X.w) X.A (f (.int i t)) Q E s) :
    UnR X f (rU fun i=>.int (g i)):=by
  intro pins s σ H x v Q I rx h
  obtain⟨i,rfl,q⟩:=h
  obtain⟨t,rfl⟩:=rx
  exact rule i t s _ _ ⟨.int (g i),H,I.tok _,⟨_,rfl⟩,q⟩
theorem Fh:UnR X (unaryOp .USub) (rU fun i=>.int (-i)):=unI fun _ _ _ _ _ q=>neg_int q
end
section
variable {X:Cx} {a b c:Expr} {ta tb tc:TE} {pos:Pos}
theorem Bw {pins:List (Addr × Obj)}{σ:St}{H:Hp}{s:Shared}{Q:VK}{k k':Bool}(I:Inv X pins σ H s)(q:Q (.bl k) H)(e:k=k'):EP X pins σ Q (.bool k') s:=by
  subst e
  exact⟨.bl k,H,I,rfl,q⟩
theorem uH:OpR X (compareOp .Lt) (rI0 fun i j=>.bl (decide (i < j))):=Fe fun _ _ _ _ _ _ _ q=>lt_int q
theorem ED:OpR X (compareOp .LtE) (rI0 fun i j=>.bl (decide (i≤j))):=Fe fun _ _ _ _ _ _ _ q=>le_int q
theorem ny:OpR X (compareOp .Gt) (rI0 fun i j=>.bl (decide (j < i))):=Fe fun _ _ _ _ _ _ _ q=>gt_int q
theorem Fk:OpR X (compareOp .Is) (fun x y H Q=>y=.non∧Q (.bl (decide (x=.non))) H):=by
  intro pins s σ H x y v u Q I rx ry h
  obtain⟨rfl,q⟩:=h
  cases ry
  refine is_none_gen (Bw I q ?_)
  cases x<;>first
    | (cases rx;rfl)
    | (obtain⟨t,rfl⟩:=rx;rfl)
theorem rj:OpR X (compareOp .IsNot) (fun x y H Q=>y=.non∧Q (.bl (!decide (x=.non))) H):=by
  intro pins s σ H x y v u Q I rx ry h
  obtain⟨rfl,q⟩:=h
  cases ry
  refine isnot_none_gen (Bw I q ?_)
  cases x<;>first
    | (cases rx;rfl)
    | (obtain⟨t,rfl⟩:=rx;rfl)
theorem OpR.or {f:Value→Value→Sem Value}{r r':R2}(h:OpR X f r)(h':OpR X f r'):OpR X f (fun x y H Q=>r x y H Q∨r' x y H Q):=by
  intro pins s σ H x y v u Q I rx ry q
  rcases q with q|q
  · exact h pins s σ H x y v u Q I rx ry q
  · exact h' pins s σ H x y v u Q I rx ry q
theorem aO (b:Expr){op:CmpOp}(h:op ≠ .In:=by decide)(h2:op ≠ .NotIn:=by decide):behindInMarks op b=false:=by
  have e1:(op == CmpOp.In)=false:=by cases op<;>first|rfl|exact absurd rfl h
  have e2:(op == CmpOp.NotIn)=false:=by cases op<;>first|rfl|exact absurd rfl h2
  cases b<;>simp [behindInMarks,e1,e2]
theorem Du {op:CmpOp}{r:R2}(ho:OpR X (compareOp op) r)(ha:PE X a ta)(hb:PE X b tb)(hm:behindInMarks op b=false):PE X (.Compare a [op] [b] pos) (tOp r ta tb):=by
  intro pins s σ H Q I h
  exact wpAny_Compare1 (Fd ha hb I h fun v u s2 x y H2 I2 rx ry q=>ho pins s2 σ H2 x y v u Q I2 rx ry q) hm
def GH (t:TE):TT:=fun σ H Q=>t σ H fun x H'=>∃ k,x=.bl k∧Q k H'
theorem Dv {op:CmpOp}{r:R2}(ho:OpR X (compareOp op) r)(ha:PE X a ta)(hb:PE X b tb)(hm:behindInMarks op b=false):PT X (.Compare a [op] [b] pos) (GH (tOp r ta tb)):=by
  intro pins s σ H Q I h
  refine wpAny_isTrue_Compare1 (thn (ha pins s σ H _ I h) fun v s1 ⟨x,H1,I1,r1,q1⟩=>thn (hb pins s1 σ H1 _ I1 q1) fun u s2 ⟨y,H2,I2,r2,q2⟩ =>
    thn (ho pins s2 σ H2 x y v u _ I2 r1 r2 q2) fun c s3 ⟨z,H3,I3,r3,k,e,q3⟩ => ?_) hm
  subst e
  cases r3
  exact wpAny_truthy_bool ⟨H3,I3,q3⟩
def Bx (r r':R2) (ta tb tc:TE):TE:=fun σ H Q=>ta σ H fun x H1=>tb σ H1 fun y H2=>r x y H2 fun z H3=>∃ k,z=.bl k ∧
  (if k=true then tc σ H3 fun w' H4=>r' y w' H4 Q else Q (.bl false) H3)
theorem By {op op':CmpOp}{r r':R2}(ho:OpR X (compareOp op) r)(ho':OpR X (compareOp op') r')(ha:PE X a ta)(hb:PE X b tb)(hc:PE X c tc)
    (hm:lastMarks [op,op'] [b,c] = false:=by with_unfolding_all rfl):PE X (.Compare a [op,op'] [b,c] pos) (Bx r r' ta tb tc):=by
  intro pins s σ H Q I h
  refine Compare_chain (thn (ha pins s σ H _ I h) fun v s1 ⟨x,H1,I1,r1,q1⟩=>chain_link (thn (hb pins s1 σ H1 _ I1 q1) fun u s2 ⟨y,H2,I2,r2,q2⟩ =>
    thn (ho pins s2 σ H2 x y v u _ I2 r1 r2 q2) fun d s3 ⟨z,H3,I3,r3,k,e,q3⟩ => ?_)) hm
  subst e
  cases r3
  refine wpAny_truthy_bool ?_
  cases k with
  | false=>exact ite_ff ⟨.bl false,H3,I3,rfl,q3⟩
  | true=>exact ite_tt (chain_last (thn (hc pins s3 σ H3 _ I3 q3) fun w' s4 ⟨z',H4,I4,r4,q4⟩=>ho' pins s4 σ H4 y z' u w' Q I4 r2 r4 q4))
theorem nz:(sizeLine:Nat) < 2 ^ 63:=by rw [sizeLine_eq];decide
theorem uI {x:V}{us:List Value}(r:aS [x] us):∃ u,us=[u]∧bQ x u:=by
  cases r with
  | cons r1 r2=>cases r2;exact⟨_,rfl,r1⟩
theorem Ab:gF X (.type "int") (fun xs H Q=>(∃ i,xs=[.int i]∧Q (.int i) H) ∨ ∃ k,xs=[.bl k]∧Q (.int (if k then 1 else 0)) H):=by
  intro pins s σ H xs us Q I r h
  rcases h with ⟨i,rfl,q⟩|⟨k,rfl,q⟩
  · obtain⟨u,rfl,t,rfl⟩:=uI r
    exact call_int_int ⟨.int i,H,I,⟨_,rfl⟩,q⟩
  · obtain⟨u,rfl,r1⟩:=uI r
    cases r1
    exact call_int_bool ⟨.int (if k then 1 else 0),H,I.tok _,⟨_,rfl⟩,q⟩
end
end L2
namespace L2
open PySem PySem.Spec PyProof.Rows
structure HJ (h:Heap) (x dx C:Addr) (mA:Str→Option Value):Prop where
  obj:h.get? x=some (PySem.W.instObj C dx)
  ns:h.Ns1 dx mA
  ne:dx≠x
section
variable {prog:Program} {w:World} {A:Around} {E:Value→Shared→Prop} {s:Shared} {K:PySem.W.Frag} {x dx C f:Addr} {mA:Str→Option Value} {name:Str} {v:Value}
end
section
variable {P:Program} {w:World} {H H':Hp} {h h':Heap} {a C dx:Addr} {fs fs':List (Str × V)}
end
structure Cls (K:PySem.W.Frag) (C:Addr):Prop where
  pg:PySem.W.plainGet K C Str.empty=true
  hd:PySem.W.hasDictIn K C=true
  po:PySem.W.plainOver K C=true
  sa:PySem.W.findIn K (.ref C) "__setattr__" = some (some (.builtin "object.__setattr__"))
structure Con (K:PySem.W.Frag) (C:Addr) (f:Str) (v:V) (u:Value):Prop where
  at_:PySem.W.findIn K (.ref C) f=some (some u)
  rel:bQ v u
  get:PySem.W.specialIn K u "__get__" = some none
  cp:PySem.W.copiedNames.contains f=false
structure HK (K:PySem.W.Frag) (C:Addr) (m:Str) (f:Addr):Prop where
  at_:PySem.W.findIn K (.ref C) m=some (some (.ref f))
  fn:PySem.W.isFn K (.ref f)=true
  kp:PySem.W.keepIn K (.ref f)=true
section
variable {X:Cx} {pins:List (Addr × Obj)} {σ:St} {H:Hp} {s:Shared} {a C dx:Addr} {fs:List (Str × V)} {f:Str} {v:V} {A:Around} {E:Value→Shared→Prop}
end
section
variable {X:Cx} {o e value:Expr} {f:Str} {pos pos' tpos:Pos} {ta tv:TE}
end
section
variable {X:Cx} {pins:List (Addr × Obj)} {σ:St} {H:Hp} {s:Shared} {A:Around} {E:Value→Shared→Prop} {Q:Value→Shared→Prop} {c:Value} {b:Bool}
inductive nA (K:PySem.W.Frag) (H:Hp):V→Value→Prop where
  | non:nA K H .non (.type "NoneType")
  | bl (x:Bool):nA K H (.bl x) (.type "bool")
  | int (i:Int):nA K H (.int i) (.type "int")
  | str (x:Str):nA K H (.str x) (.type "str")
  | flt (x:UInt64):nA K H (.flt x) (.type "float")
  | lst {a:Addr} {xs:List V} (e:H a=some (.lst xs)):nA K H (.ref a) (.type "list")
  | frz {a:Addr} {o:Obj} {xs:List V} (e:H a=some (.frz o (.lst xs))):nA K H (.ref a) (.type "list")
  | tup {a:Addr} {xs:List V} (e:H a=some (.tup xs)):nA K H (.ref a) (.type "tuple")
  | dK {a:Addr} {kvs:List (Key × V)} (e:H a=some (.dK kvs)):nA K H (.ref a) (.type "dict")
  | dT {a:Addr} {kvs:List (List Key × V)} (e:H a=some (.dT kvs)):nA K H (.ref a) (.type "dict")
  | ins {a C dx:Addr} {fs:List (Str × V)} (e:H a=some (.ins C dx fs)) (cl:Cls K C) (ha:PySem.W.findIn K (.ref C) "__class__" = some (some (.builtin "object.__class__")))
      (hn:PySem.W.specialIn K (.builtin "object.__class__") "__get__" = some (some (.builtin "getset_descriptor.__get__"))) (htk:PySem.W.takesIn K (.builtin "object.__class__")=some true)
      (hm:PySem.W.mroIn K C (.type "object")=some true):nA K H (.ref a) (.ref C)
end
end L2
namespace L2
open PySem PySem.Spec PyProof.Rows
structure gZ (k:Nat) (A:Around):Prop where
  hd:A.handled=none
  dp:A.depth + 3 * k + 5 < recursionLimit
  un:A.units + 16 * k + 200 < cLine
theorem gZ.mono {j k:Nat}{A:Around}(r:gZ k A)(h:j≤k):gZ j A:=⟨r.hd,by have:=r.dp;omega,by have:=r.un;omega⟩
theorem gZ.deeper {k:Nat}{A:Around}(r:gZ (k + 1) A)(env:Env):gZ k (A.deeper env) :=
  ⟨r.hd,by have:=r.dp;show A.depth + 1 + 3 * k + 5 < _;omega,by have:=r.un;show A.units + 3 + 16 * k + 200 < _;omega⟩
theorem gZ.depth {k:Nat}{A:Around}(r:gZ k A):A.depth < recursionLimit:=by have:=r.dp;omega
def Hy:TA:=fun _ H Q=>Q [] H
def GI (ta:TE) (tr:TA):TA:=fun σ H Q=>ta σ H fun x H1=>tr σ H1 fun xs H2=>Q (x :: xs) H2
section
variable {X:Cx} {e:Expr} {es:List Expr} {te:TE} {t:TA} {pos:Pos}
theorem d6:PA X [] Hy:=fun _ _ _ _ H Q I h=>Calls.spliced_nil ⟨[],H,I,.nil,h⟩
theorem cJ (ha:PE X e te)(hr:PA X es t)(hs:starEach (e :: es) X.env=(false,eval e X.env) :: starEach es X.env:=by rfl):PA X (e :: es) (GI te t):=by
  intro pos pins s σ H Q I h
  rw [hs]
  show wpAny _ _ (spliced ((false,eval e X.env) :: backTo pos (starEach es X.env))) _ _ s
  refine Calls.spliced_cons (thn (ha pins s σ H _ I h) fun u s1 ⟨x,H1,I1,r1,q1⟩ => ?_)
  exact thn (hr pos pins s1 σ H1 _ I1 q1) fun us s2 ⟨xs,H2,I2,r2,q2⟩=>⟨x :: xs,H2,I2,.cons r1 r2,q2⟩
def Hz (t:TA):TE:=fun σ H Q=>t σ H fun xs H1=>xs.length≤sizeLine ∧ ∀ p,H1 p=none→Q (.ref p) (upd H1 p (.tup xs))
def HA (t:TA):TE:=fun σ H Q=>t σ H fun xs H1=>xs.length≤sizeLine ∧ ∀ p,H1 p=none→Q (.ref p) (upd H1 p (.lst xs))
theorem Fl {x1}(h:PA X es t):PE X (.Tuple es x1 pos) (Hz t):=by
  intro pins s σ H Q I hq
  refine wpAny_Tuple_spliced (thn (h pos pins s σ H _ I hq) fun us s1 ⟨xs,H1,I1,r,z,q⟩=>⟨by rw [← r.length];exact z,?_⟩)
  have hf:H1 s1.heap.objs.size=none:=I1.hok.fresh (Nat.le_refl _)
  refine⟨.ref s1.heap.objs.size,upd H1 s1.heap.objs.size (.tup xs),I1.laid (t':=s1.toks) (fun b u e=>Heap.get?_push_of_some _ e) (Nat.le_refl _) ?_,rfl,q _ hf⟩
  exact⟨z,us,r,⟨_,Heap.get?_push_size _ rfl,rfl,_,rfl⟩,_,Heap.get?_push_size _ rfl,rfl⟩
theorem Fo (h:PA X es t):PE X (.List es pos) (HA t):=by
  intro pins s σ H Q I hq
  refine wpAny_List_spliced (thn (h pos pins s σ H _ I hq) fun us s1 ⟨xs,H1,I1,r,z,q⟩=>⟨by rw [← r.length];exact z,?_⟩)
  have hf:H1 s1.heap.objs.size=none:=I1.hok.fresh (Nat.le_refl _)
  refine⟨.ref s1.heap.objs.size,upd H1 s1.heap.objs.size (.lst xs),I1.laid (t':=s1.toks) (fun b u e=>Heap.get?_push_of_some _ e) (Nat.le_refl _) ?_,rfl,q _ hf⟩
  exact⟨z,us,0,r,Heap.get?_push_size _ rfl⟩
end
abbrev Sp:=List V→Hp→VK→XK→Prop
abbrev CXT:=List Env→Hp→Shared→XK→Value→Shared→Prop
structure Dw (P:Program) (w:World) (K:PySem.W.Frag) (mg:Str→Option Value) (base:Heap) (A:Around) (outer:List Env) (s:Shared) (H:Hp):Prop where
  frames:A.frames=some outer
  mod:Mod K mg base
  bs:∀ b o,base.get? b=some o→s.heap.get? b=some o∧H b=none
  bsz:base.objs.size≤s.heap.objs.size
  funs:s.heap.FunFrames base outer
  frf:∀ b∈frs outer,H b=none
  hok:HOk P w H s.heap
  bare:AllBare s.gens
def CE (outer:List Env) (P:Program) (w:World) (H:Hp) (s:Shared) (Q:VK) (u:Value) (s':Shared):Prop :=
  ∃ v H',s'.os=s.os∧AllBare s'.gens∧Un (frs outer) [] H H' s.heap s'.heap∧HOk P w H' s'.heap∧bQ v u∧Q v H'
def CR (CX:CXT) (outer:List Env) (P:Program) (w:World) (H:Hp) (s:Shared) (Q:VK) (E:XK) (r:Result) (s':Shared):Prop :=
  match r with
  | .ok (.ret u)=>CE outer P w H s Q u s'
  | .ok _=>False
  | .error e=>CX outer H s E e s'
structure cz (P:Program) (w:World) (K:PySem.W.Frag) (mg:Str→Option Value) (base:Heap) (CX:CXT) (k:Nat) (f:Addr) (fd:FuncData) (ps:List Str) (sp:Sp):Prop where
  len:∀ vs H Q E,sp vs H Q E→vs.length=ps.length
  run:∀ (A:Around) (outer:List Env) (s:Shared) (H:Hp) (args:Args) (us:List Value) (vs:List V) (Q:VK) (E:XK),gZ k A→Dw P w K mg base A outer s H→BindsTo s fd args (ps.zip us)→aS vs us→sp vs H Q E →
    codeAny (model P w) A (.call (.ref f) args) (CR CX outer P w H s Q E) s
section
variable {X:Cx} {pins:List (Addr × Obj)} {σ:St} {H:Hp} {s s':Shared}
theorem Inv.env0 (I:Inv X pins σ H s):Dw X.prog X.w X.K X.mg X.base X.A X.stack s H :=
  ⟨I.ok.frames,I.ok.mod,I.bs,Nat.le_trans I.ok.bsz I.sz,I.stack,I.stkFree,I.hok,I.bare⟩
theorem Inv.after {Q:VK}{u:Value}(I:Inv X pins σ H s)(h:CE X.stack X.prog X.w H s Q u s'):EP X pins σ Q u s':=by
  obtain⟨v,H',os,bare,un,hok,r,q⟩:=h
  obtain⟨hh,g,d,t,os'⟩:=s'
  obtain rfl:os'=s.os:=os
  exact⟨v,H',I.call (h':=hh) (g':=g) (d':=d) (t':=t) (ch:=[]) un hok bare (fun b z=>absurd z (by simp)),r,q⟩
end
def GJ (sp:Sp) (dvs:List V) (E:XK) (t:TA):TE:=fun σ H Q=>t σ H fun vs H1=>sp (vs++dvs) H1 Q E
def nB (K:PySem.W.Frag) (fd:FuncData) (ps:List Str) (ds:List Value):Prop :=
  ∀ (s:Shared) (us:List Value),K.In s.heap→(us++ds).length=ps.length→BindsTo s fd ⟨us,[]⟩ (ps.zip (us++ds))
theorem nB.all {K:PySem.W.Frag}{fd:FuncData}{ps:List Str}(h:∀ us:List Value,us.length=ps.length→bindArgs fd ⟨us,[]⟩ = pure (ps.zip us)):nB K fd ps []:=fun s us _ hl=>by
  rw [List.append_nil] at hl ⊢
  exact .of_eq (h us hl)
def w8 (CX:CXT) (X:Cx) (E:XK):Prop:=∀ (pins:List (Addr × Obj)) (σ:St) (H:Hp) (s:Shared) (e:Value) (s':Shared),Inv X pins σ H s→CX X.stack H s E e s'→X.xe e s'
section
variable {X:Cx} {CX:CXT} {k:Nat} {f C:Addr} {fd:FuncData} {ps:List Str} {sp:Sp} {dvs:List V} {ds:List Value} {E:XK} {x m:Str} {p pos apos:Pos} {e o:Expr} {es:List Expr} {ta:TE} {t:TA}
theorem Fp {pins:List (Addr × Obj)}{σ:St}{H:Hp}{s:Shared}{Q:VK}{us:List Value}{vs:List V}(F:cz X.prog X.w X.K X.mg X.base CX k f fd ps sp)(hr:gZ k X.A)(hb:nB X.K fd ps ds)(hd:aS dvs ds)(hx:w8 CX X E)
    (I:Inv X pins σ H s) (r:aS vs us) (h:sp (vs++dvs) H Q E):wpAny (model X.prog X.w) X.A (call (.ref f) us) (EP X pins σ Q) X.xe s:=by
  have r2:aS (vs++dvs) (us++ds):=r.append hd
  have hl:(us++ds).length=ps.length:=by rw [← r2.length];exact F.len _ _ _ _ h
  refine wpAny_call (codeAny_mono (F.run X.A X.stack s H ⟨us,[]⟩ (us++ds) (vs++dvs) Q E hr I.env0 (hb s us I.kIn hl) r2 h) fun r s' hq => ?_)
  cases r with
  | error e=>exact hx pins σ H s e s' I hq
  | ok fl =>
    cases fl with
    | ret u=>exact I.after hq
    | next=>exact False.elim hq
    | brk=>exact False.elim hq
    | cont=>exact False.elim hq
theorem Dx (F:cz X.prog X.w X.K X.mg X.base CX k f fd ps sp)(hr:gZ k X.A)(hg:Gl X x)(hm:X.mg x=some (.ref f))(hk:PySem.W.keepIn X.K (.ref f)=true)(hb:nB X.K fd ps ds)(hd:aS dvs ds)(hx:w8 CX X E)
    (ha:PA X (e :: es) t) (hdb:(x == ("__debug__" : Str))=false:=by decide) (he:starEach (e :: es) X.env=(false,eval e X.env) :: starEach es X.env:=by rfl) (hpl:(backTo pos (starEach es X.env)).any (·.1)=false:=by rfl) :
    PE X (.Call (.Name x p) (e :: es) [] pos) (GJ sp dvs E t):=by
  intro pins s σ H Q I h
  refine wpAny_Call_Name_kw (Dl I hg hm ?_ hdb)
  refine PySem.W.callWith_K (h₀ := X.base) I.ok.mod.kin hk (thn (ha pos pins s σ H _ I h) fun us s1 ⟨vs,H1,I1,r,q⟩=>⟨I1.kIn,?_⟩) he hpl
  exact Fp F hr hb hd hx I1 r q
structure Mk (K:PySem.W.Frag) (C f:Addr):Prop where
  makes:PySem.W.makesIn K C=true
  init:PySem.W.findIn K (.ref C) "__init__" = some (some (.ref f))
  fn:PySem.W.isFn K (.ref f)=true
  kp:PySem.W.keepIn K (.ref C)=true
end
section
variable {X:Cx} {CX:CXT} {k:Nat} {f C:Addr} {fd:FuncData} {ps ks:List Str} {sp:Sp} {E:XK} {x m:Str} {p pos apos kpos:Pos} {e o:Expr} {es:List Expr} {kws:List Keyword} {te ta:TE} {t tk:TA} {nm:Option Str}
structure HB (K:PySem.W.Frag) (fd:FuncData) (ps ks:List Str) (g:List Value→List Value→List Value) (gV:List V→List V→List V):Prop where
  to:∀ (s:Shared) (us ws:List Value),K.In s.heap→(g us ws).length=ps.length→BindsTo s fd ⟨us,ks.zip ws⟩ (ps.zip (g us ws))
  rel:∀ {vs:List V} {us:List Value} {zs:List V} {ws:List Value},aS vs us→aS zs ws→aS (gV vs zs) (g us ws)
variable {g:List Value→List Value→List Value} {gV:List V→List V→List V}
end
structure aR (N P:List Str) (sc:Scope):Prop where
  kind:sc.kind=.function
  co:sc.isCoroutine=false
  gen:sc.isGenerator=false
  nd:N.Nodup
  pre:N.take P.length=P
  par:∀ x∈P,sc.names.lookup x=some .local ∨sc.names.lookup x=some .cell
  nofree:∀ y∈sc.names,y.2 ≠ .free
theorem qq {kindOf:Str→Option NameKind}{x:Str}:∀ {binds:List (Str × Value)} {m:Str→Option Value},(∀ v,(x,v)∉binds)→bindL kindOf binds m x=m x
  | [],_,_=>rfl
  | (n,v) :: r,m,h=>by
    unfold bindL
    rw [qq fun w hw=>h w (List.mem_cons_of_mem _ hw)]
    split
    · have:x≠n:=by rintro rfl;exact h v List.mem_cons_self
      simp [this]
    · rfl
theorem qs {kindOf:Str→Option NameKind}{x:Str}:∀ {binds:List (Str × Value)} {m:Str→Option Value},(∀ v,(x,v)∉binds)→bindC kindOf binds m x=m x
  | [],_,_=>rfl
  | (n,v) :: r,m,h=>by
    unfold bindC
    rw [qs fun w hw=>h w (List.mem_cons_of_mem _ hw)]
    split
    · rfl
    · have:x≠n:=by rintro rfl;exact h v List.mem_cons_self
      simp [this]
theorem qt {kindOf:Str→Option NameKind}{x:Str}{v:Value}:∀ {P:List Str} {vs:List Value} {i:Nat} {m:Str→Option Value},P.Nodup→P[i]? = some x→vs[i]? = some v→kindOf x=some .local →
    bindL kindOf (P.zip vs) m x=some v
  | [],_,_,_,_,h,_,_=>by simp at h
  | _ :: _,[],_,_,_,_,h,_=>by simp at h
  | p :: P,w :: vs,0,m,nd,h1,h2,hk=>by
    simp at h1 h2;subst h1;subst h2
    show bindL kindOf ((p,w) :: P.zip vs) m p=_
    unfold bindL
    rw [qq fun v hv=>(List.nodup_cons.mp nd).1 (List.of_mem_zip hv).1,if_pos hk]
    simp
  | p :: P,w :: vs,i + 1,m,nd,h1,h2,hk=>by
    show bindL kindOf ((p,w) :: P.zip vs) m x=_
    unfold bindL
    exact qt (i:=i) (List.nodup_cons.mp nd).2 (by simpa using h1) (by simpa using h2) hk
theorem qu {kindOf:Str→Option NameKind}{x:Str}{v:Value}:∀ {P:List Str} {vs:List Value} {i:Nat} {m:Str→Option Value},P.Nodup→P[i]? = some x→vs[i]? = some v→kindOf x≠some .local →
    bindC kindOf (P.zip vs) m x=some v
  | [],_,_,_,_,h,_,_=>by simp at h
  | _ :: _,[],_,_,_,_,h,_=>by simp at h
  | p :: P,w :: vs,0,m,nd,h1,h2,hk=>by
    simp at h1 h2;subst h1;subst h2
    show bindC kindOf ((p,w) :: P.zip vs) m p=_
    unfold bindC
    rw [qs fun v hv=>(List.nodup_cons.mp nd).1 (List.of_mem_zip hv).1,if_neg hk]
    simp
  | p :: P,w :: vs,i + 1,m,nd,h1,h2,hk=>by
    show bindC kindOf ((p,w) :: P.zip vs) m x=_
    unfold bindC
    exact qu (i:=i) (List.nodup_cons.mp nd).2 (by simpa using h1) (by simpa using h2) hk
def iN (N:List Str) (vs:List V):St:=vs.map some++List.replicate (N.length - vs.length) none
def xa (CX:CXT) (P:Program) (w:World) (K:PySem.W.Frag) (mg:Str→Option Value) (base:Heap) (N:List Str) (qual:Str) (scope:Scope) (f:Addr) (cd:Value) (A:Around) (outer:List Env) (s:Shared) (H:Hp) (E:XK):Cx where
  prog:=P
  w:=w
  K:=K
  mg:=mg
  base:=base
  A:=A.deeper (envOfC qual scope s.heap.objs.size f cd)
  N:=N
  s₀ := s
  H₀ := H
  env:=envOfC qual scope s.heap.objs.size f cd
  outer:=outer
  stack:=envOfC qual scope s.heap.objs.size f cd :: outer
  ex:=[]
  calm:=true
  fn:=fun _=>true
  pn:=[]
  xe:=fun e s'=>wpAny (model P w) (A.deeper (envOfC qual scope s.heap.objs.size f cd)) (leaving (envOfC qual scope s.heap.objs.size f cd) e) (fun _ s''=>CX outer H s E e s'') (fun e' s''=>CX outer H s E e' s'') s'
theorem uJ {sc:Scope}{n:Nat}{x:Str}(h:sc.names.lookup x=some .cell):∃ c,(cellsFrom n sc.names []).lookup x=some c:=by
  have q:=PySem.W.cellsFrom_some sc.names n [] (.inl h)
  exact Option.isSome_iff_exists.mp q
theorem Ac {CX:CXT}{P:Program}{w:World}{K:PySem.W.Frag}{mg:Str→Option Value}{base:Heap}{N ps:List Str}{qual:Str}{scope:Scope}{f:Addr}{cd:Value}{A:Around}{outer:List Env}{s s1:Shared}{H:Hp}{E:XK}{us:List Value}{vs:List V}
    (S:aR N ps scope) (hd:A.handled=none) (e0:Dw P w K mg base A outer s H) (hl:vs.length=ps.length) (r:aS vs us)
    (x:InCallC s s.heap.objs.size (bindL (envOfC qual scope s.heap.objs.size f cd).kindOf (ps.zip us) fun _=>none) (cellsFrom (s.heap.objs.size + 1) scope.names []) (bindC (envOfC qual scope s.heap.objs.size f cd).kindOf (ps.zip us) fun _=>none) s1) :
    Inv (xa CX P w K mg base N qual scope f cd A outer s H E) [] (iN N vs) H s1:=by
  have hpl:ps.length≤N.length:=by have:=congrArg List.length S.pre;rw [List.length_take] at this;omega
  obtain⟨h1,tk,rfl,hk⟩:=x.done
  have noA:∀ b:Addr,b∉(xa CX P w K mg base N qual scope f cd A outer s H E).ex:=fun b z=>absurd (show b∈([] : List Addr) from z) (by simp)
  refine⟨⟨e0.mod,S.kind,rfl,rfl,Nat.le_refl _,fun y z c h1 h2 => ?_,fun y hy => ?_,fun y c _ h => ?_,fun _=>hd,Around.frames_deeper e0.frames,.inr ⟨rfl,rfl⟩,fun b z=>absurd z (noA b),e0.bs,e0.bsz,fun b _ _=>noA b,fun b z=>absurd z (noA b),e0.funs,e0.frf⟩,
    rfl,e0.bare,Un.kept hk,⟨_,x.toInCall.ns,fun i y v h1 h2 h3 => ?_⟩,fun y c h=>⟨_,x.cell y c h⟩,e0.hok.fresh (Nat.le_refl _),fun y c h => ?_,fun p hp=>absurd (show p∈([] : List (Addr × Obj)) from hp) (by simp),e0.hok.kept hk,?_⟩
  · exact name_of_addr x.apart (PySem.mem_of_lookup h1) (PySem.mem_of_lookup h2)
  · have hy:scope.names.lookup y=some .cell∨scope.names.lookup y=some .free:=hy
    rcases hy with hy|hy
    · exact uJ hy
    · exact absurd rfl (S.nofree _ (PySem.mem_of_lookup hy))
  · exact Nat.le_of_lt (x.above y c (PySem.mem_of_lookup h))
  · have hi:i < vs.length:=by
      unfold iN at h2
      by_cases hi:i < vs.length
      · exact hi
      · rw [List.getElem?_append_right (by simpa using hi)] at h2
        rw [List.getElem?_replicate] at h2
        split at h2<;>cases h2
    have ha:vs[i]? = some v:=by
      unfold iN at h2
      rw [List.getElem?_append_left (by simpa using hi),List.getElem?_map] at h2
      cases e:vs[i]? with
      | none=>rw [e] at h2;cases h2
      | some a=>rw [e] at h2;cases h2;rfl
    obtain⟨u,hu,rv⟩:=r.get ha
    have hp:ps[i]? = some y:=by
      rw [← S.pre,List.getElem?_take_of_lt (by omega)];exact h1
    have ndP:ps.Nodup:=by rw [← S.pre];exact S.nd.sublist (List.take_sublist _ _)
    refine⟨u,rv,?_⟩
    rcases S.par y (List.mem_of_getElem? hp) with k|k
    · exact .inl ⟨k,qt ndP hp hu k⟩
    · obtain⟨c,e⟩:=uJ (n:=s.heap.objs.size + 1) k
      refine .inr ⟨.inl k,c,e,?_⟩
      have q:=x.cell y c e
      rw [qu ndP hp hu (by show scope.names.lookup y≠_;rw [k];decide)] at q
      exact q
  · exact e0.hok.fresh (Nat.le_of_lt (x.above y c (PySem.mem_of_lookup h)))
  · unfold iN
    show _=N.length
    rw [List.length_append,List.length_map,List.length_replicate]
    omega
theorem GK {CX:CXT}{P:Program}{w:World}{K:PySem.W.Frag}{mg:Str→Option Value}{base:Heap}{k:Nat}{f:Addr}{name qual:Str}{params:Arguments}{body:List Stmt}{scope:Scope}{dV kV doc pm cdv ct oc:Value}{an od:Option Addr}
    {osl:Array (Option Value)} {N ps:List Str} {sp:Sp} (lk:K.lookup f=some ⟨oc,od,.func (PySem.W.fnOf name qual params body scope dV kV doc pm an cdv ct),osl⟩) (hcd:PySem.W.codeIn K cdv qual=true) (S:aR N ps scope)
    (len:∀ vs H Q E,sp vs H Q E→vs.length=ps.length)
    (hbody:∀ (A:Around) (outer:List Env) (s:Shared) (H:Hp) (vs:List V) (Q:VK) (E:XK),gZ k (A.deeper (envOfC qual scope s.heap.objs.size f cdv))→sp vs H Q E →
      ∃ t,PSs (xa CX P w K mg base N qual scope f cdv A outer s H E) body t∧t { nx:=fun _ H'=>Q .non H',rt:=Q } (iN N vs) H) :
    cz P w K mg base CX (k + 1) f (PySem.W.fnOf name qual params body scope dV kV doc pm an cdv ct) ps sp:=by
  refine⟨len,fun A outer s H args us vs Q E hr e0 hb r hsp => ?_⟩
  have hl:=len _ _ _ _ hsp
  have KX:K.In s.heap:=e0.mod.kin.keeps fun b o e=>(e0.bs b o e).1
  have lim:s.heap.NoLimit:=e0.mod.nolimit.keeps fun b o e=>(e0.bs b o e).1
  have hkind:∀ y∈ps.zip us,scope.names.lookup y.1=some .local ∨(scope.names.lookup y.1=some .cell∧((cellsFrom (s.heap.objs.size + 1) scope.names []).lookup y.1).isSome=true):=fun ⟨n,v⟩ hy=>by
    rcases S.par n (List.of_mem_zip hy).1 with q|q
    · exact .inl q
    · exact .inr ⟨q,PySem.W.cellsFrom_some _ _ _ (.inl q)⟩
  refine codeAny_call_function hr.depth (KX _ _ lk) rfl S.co S.gen rfl (PySem.W.codeRec_of KX hcd) (hb _ _ _ _ ?_)
  refine wpAny_newFunctionEnv_cells S.kind hkind fun env he s1 x => ?_
  subst he
  refine⟨lim.keeps x.toInCall.keep,codeAny_func ?_⟩
  obtain⟨t,ht,hq⟩:=hbody A outer s H vs Q E (hr.deeper _) hsp
  have I:Inv (xa CX P w K mg base N qual scope f cdv A outer s H E) [] (iN N vs) H s1:=Ac S hr.hd e0 hl r x
  refine wpAny_mono (ht [] s1 (iN N vs) H _ I hq) (fun fl s' hs => ?_) fun e s' hs=>hs
  have fin:∀ {σ':St} {H':Hp} {v:V} {u:Value},Inv (xa CX P w K mg base N qual scope f cdv A outer s H E) [] σ' H' s'→bQ v u→Q v H'→CE outer P w H s Q u s' :=
    fun {σ' H' v u} J rv q=>⟨v,H',J.os,J.bare,J.base,J.hok,rv,q⟩
  cases fl with
  | ret u =>
    obtain⟨v,σ',H',J,rv,q⟩:=hs
    exact fin J rv q
  | next =>
    obtain⟨σ',H',J,q⟩:=hs
    exact fin (v:=V.non) (u:=Value.none) J rfl q
  | brk =>
    obtain⟨_,_,_,q⟩:=hs
    exact False.elim q
  | cont =>
    obtain⟨_,_,_,q⟩:=hs
    exact False.elim q
end L2
namespace L2
open PySem PySem.Spec PyProof.Rows
section
variable {X:Cx} {x:Str} {p pos:Pos} {e:Expr} {es:List Expr} {t:TA} {id T:String} {r:List V→Hp→VK→Prop}
def tCB (r:List V→Hp→VK→Prop) (t:TA):TE:=fun σ H Q=>t σ H fun vs H1=>r vs H1 Q
theorem kj (hc:gF X (.builtin id) r) (hg:Gl X x) (hm:X.mg x=none) (hv:bootBuiltins x=some (.builtin id)) (ha:PA X (e :: es) t) (hn:x ≠ "__name__" := by decide) (hdb:(x == ("__debug__" : Str))=false:=by decide)
    (he:starEach (e :: es) X.env=(false,eval e X.env) :: starEach es X.env:=by rfl) (hpl:(backTo pos (starEach es X.env)).any (·.1)=false:=by rfl):PE X (.Call (.Name x p) (e :: es) [] pos) (tCB r t):=by
  intro pins s σ H Q I h
  refine wpAny_Call_Name_kw (kT I hg hm hv ?_ hn hdb)
  exact PyProof.Rows.callWith_builtin1 (thn (ha pos pins s σ H _ I h) fun us s1 ⟨vs,H1,I1,r1,q1⟩=>hc pins s1 σ H1 vs us Q I1 r1 q1) he hpl
theorem qv (hc:gF X (.type T) r) (hg:Gl X x) (hm:X.mg x=none) (hv:bootBuiltins x=some (.type T)) (ha:PA X (e :: es) t) (hn:x ≠ "__name__" := by decide) (hdb:(x == ("__debug__" : Str))=false:=by decide)
    (he:starEach (e :: es) X.env=(false,eval e X.env) :: starEach es X.env:=by rfl) (hpl:(backTo pos (starEach es X.env)).any (·.1)=false:=by rfl):PE X (.Call (.Name x p) (e :: es) [] pos) (tCB r t):=by
  intro pins s σ H Q I h
  refine wpAny_Call_Name_kw (kT I hg hm hv ?_ hn hdb)
  exact PyProof.Rows.callWith_type1 (thn (ha pos pins s σ H _ I h) fun us s1 ⟨vs,H1,I1,r1,q1⟩=>hc pins s1 σ H1 vs us Q I1 r1 q1) he hpl
end
end L2
namespace HT
open PySem PyProof.Rows
def bF:List Int→List Int→Bool
  | [],[]=>false
  | [],_ :: _=>true
  | _ :: _,[]=>false
  | x :: xs,y :: ys=>if x=y then bF xs ys else decide (x < y)
section
open PySem.SeqAt
open PySem.AutoSeq1 (wpAny_loadPart')
open PySem.MeetsSeq PySem.MeetsSeq2 PySem.MeetsSeq3
end
section
variable {prog:Program} {w:World} {A:Around} {E:Value→Shared→Prop} {s:Shared}
theorem cat_tup {t b:Addr}{vs ws:List Value}{Q:Value→Shared→Prop}(ht:IsTup s.heap t vs.toArray)(hb:IsTup s.heap b ws.toArray)(hv:vs≠[])
    (h1:ws=[]→Q (.ref t) s) (h2:ws≠[]→Q (.ref s.heap.objs.size) { s with heap:=s.heap.push { cls:=.type "tuple",data:=.seq (vs++ws).toArray } })
    (hsz:vs.length + ws.length≤sizeLine):wpAny (model prog w) A (binaryOp .Add (.ref t) (.ref b)) Q E s:=by
  obtain⟨⟨cls,dd,data,sl⟩,ho,hc,n,hd⟩:=id ht
  obtain⟨⟨cls2,dd2,data2,sl2⟩,ho2,hc2,n2,hd2⟩:=id hb
  simp only at hc hd hc2 hd2
  subst hc hd hc2 hd2
  have e:vs.toArray++ws.toArray=(vs++ws).toArray:=by simp
  by_cases hw:ws=[]
  · exact concat_meets ⟨_,ho,rfl⟩ ⟨_,ho2,rfl⟩ noFill_tuple_add seq_tuple_add PySem.F.slot_tuple_add PySem.F.entry_tuple_add (PySem.F.args_tuple_add_2 _ _)
      (tuple_addW1 t b vs.toArray ws.toArray n n2 dd dd2 sl sl2 (by simpa using hv) (by simp [hw])) ⟨ho,ho2,h1 hw⟩
  · refine concat_meets ⟨_,ho,rfl⟩ ⟨_,ho2,rfl⟩ noFill_tuple_add seq_tuple_add PySem.F.slot_tuple_add PySem.F.entry_tuple_add (PySem.F.args_tuple_add_2 _ _)
      (tuple_addW2 t b vs.toArray ws.toArray n n2 dd dd2 sl sl2 (by simpa using hv) (by simpa using hw) (by rw [List.size_toArray,List.size_toArray];exact hsz)) ⟨ho,ho2,?_⟩
    rw [e]
    exact h2 hw
def sIx (n d:Nat):Option Int→Nat
  | none=>d
  | some v=>if v < 0 then (v + (n:Int)).toNat else min v.toNat n
theorem Fq (n d:Nat)(hd:d≤n)(o:Option Int):sIx n d o≤n:=by
  cases o with
  | none=>exact hd
  | some v =>
    show (if v < 0 then (v + (n:Int)).toNat else min v.toNat n)≤n
    by_cases hv:v < 0
    · rw [if_pos hv];omega
    · rw [if_neg hv];exact Nat.min_le_right _ _
theorem zo (v:Int)(n d:Nat):(if v < 0 then max (v + (n:Int)) 0 else min v (n:Int))=((sIx n d (some v):Nat):Int):=by
  show (if v < 0 then max (v + (n:Int)) 0 else min v (n:Int))=(((if v < 0 then (v + (n:Int)).toNat else min v.toNat n):Nat):Int)
  by_cases hv:v < 0
  · simp only [if_pos hv];omega
  · simp only [if_neg hv];omega
theorem xb (lo hi:Option Int)(n:Nat):Builtin.Slice.sliceAdjust lo hi 1 (n:Int)=(((sIx n 0 lo:Nat):Int),((sIx n n hi:Nat):Int)):=by
  have h1 : ¬ ((1:Int) < 0):=by omega
  unfold Builtin.Slice.sliceAdjust
  simp only [h1,if_false]
  refine Prod.ext ?_ ?_
  · cases lo with
    | none=>rfl
    | some v=>exact zo v n 0
  · cases hi with
    | none=>rfl
    | some v=>exact zo v n n
theorem xc (i j:Nat):Builtin.Slice.slicePlaces (i:Int) (j:Int) 1=j - i:=by
  unfold Builtin.Slice.slicePlaces
  have h1:(1:Int) > 0:=by omega
  simp only [h1,if_true,Int.ediv_one]
  split<;>omega
theorem nC {v:Value}{o:Option Int}{Q:Option Int→Shared→Prop}(p:IsPart v o)(h:Q o s):wpAny (model prog w) A (Builtin.Slice.slicePartIndex v) Q E s:=by
  cases p with
  | none=>exact slicePart_none h
  | int i t=>exact slicePart_int h
theorem gG {sl:Addr}{vl vu:Value}{lo hi:Option Int}{n:Nat}{Q:Int × Int × Nat→Shared→Prop}(hs:s.heap.IsSliceOf sl vl vu .none)(pl:IsPart vl lo)(pu:IsPart vu hi)
    (h:Q (((sIx n 0 lo:Nat):Int),1,sIx n n hi - sIx n 0 lo) s):wpAny (model prog w) A (Builtin.Slice.sliceApplied (.ref sl) (pure (n:Int))) Q E s:=by
  obtain⟨os,hos,hcs,hds⟩:=id hs
  unfold Builtin.Slice.sliceApplied Builtin.Slice.sliceFields
  refine wpAny_bind (wpAny_bind (wpAny_field hos hds (x:=vl) rfl (wpAny_bind (wpAny_field hos hds (x:=vu) rfl (wpAny_bind (wpAny_field hos hds (x:=.none) rfl (wpAny_pure ?_)))))))
  refine wpAny_bind (slicePart_none ?_)
  show wpAny _ _ (if ((1:Int) == 0)=true then _ else _) _ _ s
  rw [if_neg (by decide)]
  refine wpAny_bind (nC pl (wpAny_bind (nC pu (wpAny_bind (wpAny_pure ?_)))))
  show wpAny _ _ (match Builtin.Slice.sliceAdjust lo hi 1 (n:Int) with|(lo,hi)=>pure (lo,(1:Int),Builtin.Slice.slicePlaces lo hi 1)) _ _ s
  rw [xb lo hi n]
  show wpAny _ _ (pure (((sIx n 0 lo:Nat):Int),(1:Int),Builtin.Slice.slicePlaces ((sIx n 0 lo:Nat):Int) ((sIx n n hi:Nat):Int) 1)) _ _ s
  rw [xc]
  exact wpAny_pure h
theorem Bz (xs:Array Value)(i k:Nat):((List.range k).filterMap fun (m:Nat)=>xs[((i:Int) + (m:Int) * 1).toNat]?).toArray=((xs.toList.drop i).take k).toArray:=by
  have e:(fun (m:Nat)=>xs[((i:Int) + (m:Int) * 1).toNat]?)=fun m=>xs[i + m]? := by
    funext m
    have:((i:Int) + (m:Int) * 1).toNat=i + m:=by omega
    rw [this]
  rw [e]
  have:=pick_run xs i k
  rw [List.filterMap_map] at this
  have e2:((fun x=>xs[x]?) ∘ fun x=>i + x)=fun m=>xs[i + m]? := rfl
  rw [e2] at this
  rw [this]
theorem getItem_tuple_cut {t sl:Addr}{items:Array Value}{vl vu:Value}{lo hi:Option Int}{Q:Value→Shared→Prop}(ht:IsTup s.heap t items)(hs:s.heap.IsSliceOf sl vl vu .none)(pl:IsPart vl lo)(pu:IsPart vu hi)
    (hw : ¬ (sIx items.size 0 lo=0∧sIx items.size items.size hi=items.size))
    (h:Q (.ref s.heap.objs.size) { s with heap:=s.heap.push { cls:=.type "tuple",data:=.seq ((items.toList.drop (sIx items.size 0 lo)).take (sIx items.size items.size hi - sIx items.size 0 lo)).toArray } })
    (hsz:items.size≤sizeLine):wpAny (model prog w) A (getItem (.ref t) (.ref sl)) Q E s:=by
  have htake:sizeOk (.seq ((items.toList.drop (sIx items.size 0 lo)).take (sIx items.size items.size hi - sIx items.size 0 lo)).toArray):=by
    show ((items.toList.drop (sIx items.size 0 lo)).take (sIx items.size items.size hi - sIx items.size 0 lo)).toArray.size≤sizeLine
    rw [List.size_toArray,List.length_take,List.length_drop,Array.length_toList]
    omega
  have hj:sIx items.size items.size hi≤items.size:=Fq _ _ (Nat.le_refl _) hi
  obtain⟨os,hos,hcs,hds⟩:=id hs
  have hTs:s.TypeIs (.ref sl) "slice" := ⟨os,hos,hcs⟩
  unfold getItem
  try with_reducible refine wpAny_holding ?_
  first|refine wpAny_bind (wpAny_pure ?_)|skip
  refine wpAny_bind (wpAny_sequenceKey ht.typeIs (by decide) ?_)
  refine wpAny_bind (wpAny_callSpecial?_slot (name:=Str.ofString "__getitem__") ht.typeIs PyProof.Rows.slot_tuple_getitem
    (wpAny_call_entry PyProof.Rows.slot_tuple_getitem ht.typeIs entry_tuple_getitem ?_ (args_tuple_getitem _ _)))
  show wpAny _ _ (Builtin.Tuple.tupleItemsOf (.ref t) >>= _) _ _ s
  refine wpAny_bind (tupleItemsOf_ ht ?_)
  refine wpAny_bind (wpAny_typeOf hTs ?_)
  rw [if_pos (by decide)]
  refine wpAny_bind (gG hs pl pu ?_)
  have hno : ¬ ((((sIx items.size 0 lo:Nat):Int) == 0 && (1:Int) == 1 && (sIx items.size items.size hi - sIx items.size 0 lo) == items.size)=true):=by
    intro q
    rw [Bool.and_eq_true,Bool.and_eq_true] at q
    have q1:((sIx items.size 0 lo:Nat):Int)=0:=eq_of_beq q.1.1
    have q2:sIx items.size items.size hi - sIx items.size 0 lo=items.size:=eq_of_beq q.2
    exact hw ⟨by omega,by omega⟩
  show wpAny _ _ (if (((sIx items.size 0 lo:Nat):Int) == 0 && (1:Int) == 1 && (sIx items.size items.size hi - sIx items.size 0 lo) == items.size)=true then _ else _) _ _ s
  rw [if_neg hno,Bz]
  first
    | exact wpAny_bind (m:=Builtin.Tuple.tupleExact _) (wpAny_newObj_type (wpAny_pure ⟨_,rfl,wpAny_pure h⟩) htake)
    | exact wpAny_bind (m:=Builtin.Tuple.tupleExact _) (wpAny_newObj_type (wpAny_bind (wpAny_pure (wpAny_pure ⟨_,rfl,wpAny_pure h⟩))) htake)
    | exact wpAny_bind (wpAny_bind (m:=Builtin.Tuple.tupleExact _) (wpAny_newObj_type (wpAny_pure (wpAny_pure ⟨_,rfl,wpAny_pure h⟩)) htake))
    | exact wpAny_bind (wpAny_bind (m:=Builtin.Tuple.tupleExact _) (wpAny_newObj_type (wpAny_pure ⟨_,rfl,wpAny_pure h⟩) htake))
end
end HT
namespace L2
open PySem PySem.Spec PyProof.Rows
abbrev TO:=St→Hp→(Option Int→Hp→Prop)→Prop
def PO (X:Cx) (e:Option Expr) (t:TO):Prop :=
  ∀ (pins:List (Addr × Obj)) (s:Shared) (σ:St) (H:Hp) (Q:Option Int→Hp→Prop),Inv X pins σ H s→t σ H Q →
    wpAny (model X.prog X.w) X.A (evalPart e X.env) (fun u s'=>∃ o H',Inv X pins σ H' s'∧IsPart u o∧Q o H') X.xe s
def Dy:TO:=fun _ H Q=>Q none H
def GL (t:TE):TO:=fun σ H Q=>t σ H fun x H1=>∃ i,x=.int i∧Q (some i) H1
theorem nD {ns:List Int}:∀ {us:List Value},aS (ns.map V.int) us→IntsAre us ns:=by
  induction ns with
  | nil=>intro us r;rw [List.map_nil] at r;cases r;exact .nil
  | cons n ns ih =>
    intro us r
    rw [List.map_cons] at r
    cases r with
    | cons r1 r2 =>
      obtain⟨t,e⟩:=r1
      subst e
      exact .cons n t (ih r2)
section
variable {X:Cx} {e:Expr} {te:TE} {lo hi:Option Expr} {tl th:TO} {pos p2:Pos}
theorem Dz:PO X none Dy:=by
  intro pins s σ H Q I h
  rw [evalPart_none]
  exact wpAny_pure ⟨none,H,I,.none,h⟩
theorem DA (h:PE X e te):PO X (some e) (GL te):=by
  intro pins s σ H Q I hw
  rw [evalPart_some]
  refine thn (h pins s σ H _ I hw) fun u s1 ⟨x,H1,I1,r1,q1⟩ => ?_
  obtain⟨i,rfl,q⟩:=q1
  obtain⟨t,rfl⟩:=r1
  exact⟨some i,H1,I1,.int i t,q⟩
def SlR (X:Cx) (r:V→Option Int→Option Int→Hp→VK→Prop):Prop :=
  ∀ (pins:List (Addr × Obj)) (s:Shared) (σ:St) (H:Hp) (x:V) (v vl vu:Value) (lo hi:Option Int) (sl:Addr) (Q:VK),Inv X pins σ H s→bQ x v→s.heap.IsSliceOf sl vl vu .none→IsPart vl lo→IsPart vu hi→r x lo hi H Q →
    ∃ T id,typeLookup (.type T) "__getitem__" = pure (some (.builtin id))∧s.TypeIs v T∧wpAny (model X.prog X.w) X.A (getItem v (.ref sl)) (EP X pins σ Q) X.xe s
theorem SlR.or {r r':V→Option Int→Option Int→Hp→VK→Prop}(h:SlR X r)(h':SlR X r'):SlR X (fun x lo hi H Q=>r x lo hi H Q∨r' x lo hi H Q):=by
  intro pins s σ H x v vl vu lo hi sl Q I rx hs pl pu q
  rcases q with q|q
  · exact h pins s σ H x v vl vu lo hi sl Q I rx hs pl pu q
  · exact h' pins s σ H x v vl vu lo hi sl Q I rx hs pl pu q
def tSl (r:V→Option Int→Option Int→Hp→VK→Prop) (te:TE) (tl th:TO):TE:=fun σ H Q=>te σ H fun x H1=>tl σ H1 fun l H2=>th σ H2 fun u H3=>r x l u H3 Q
theorem uK {r:V→Option Int→Option Int→Hp→VK→Prop}(hr:SlR X r)(he:PE X e te)(hl:PO X lo tl)(hu:PO X hi th):PE X (.Subscript e (.Slice lo hi none p2) pos) (tSl r te tl th):=by
  intro pins s σ H Q I h
  refine Subscript_ (thn (he pins s σ H _ I h) fun v s1 ⟨x,H1,I1,r1,q1⟩ => ?_)
  refine wpAny_Slice (thn (hl pins s1 σ H1 _ I1 q1) fun vl s2 ⟨l,H2,I2,pl,q2⟩=>thn (hu pins s2 σ H2 _ I2 q2) fun vu s3 ⟨u,H3,I3,pu,q3⟩ => ?_)
  rw [evalPart_none]
  refine wpAny_pure ?_
  have I4:Inv X pins σ H3 { s3 with heap:=s3.heap.push { cls:=.type "slice",data:=.fields #[vl,vu,.none] } }:=I3.kept (t':=s3.toks) fun b ob q=>Heap.get?_push_of_some _ q
  obtain⟨T,id,hT,ht,hg⟩:=hr pins { s3 with heap:=s3.heap.push { cls:=.type "slice",data:=.fields #[vl,vu,.none] } } σ H3 x v vl vu l u s3.heap.objs.size Q I4 r1 (Heap.IsSliceOf.new ..) pl pu q3
  show wpAny (model X.prog X.w) X.A (subscriptTail e (.Slice lo hi none p2) v (.ref s3.heap.objs.size)) (EP X pins σ Q) X.xe { s3 with heap:=s3.heap.push { cls:=.type "slice",data:=.fields #[vl,vu,.none] } }
  exact tail_any (ops:=[.ref s3.heap.objs.size,v]) ht hT hg (by with_unfolding_all rfl)
def kU (xs:List V) (lo hi:Option Int):List V:=(xs.drop (HT.sIx xs.length 0 lo)).take (HT.sIx xs.length xs.length hi - HT.sIx xs.length 0 lo)
theorem mw (xs:List V)(lo hi:Option Int):(kU xs lo hi).length≤xs.length:=by
  unfold kU
  rw [List.length_take,List.length_drop]
  omega
def HC (K:PySem.W.Frag):V→Option Int→Option Int→Hp→VK→Prop:=fun x lo hi H Q=>∃ a xs,x=.ref a∧SqT K H a xs ∧
  ¬ (HT.sIx xs.length 0 lo=0∧HT.sIx xs.length xs.length hi=xs.length) ∧ ∀ p,H p=none→Q (.ref p) (upd H p (.tup (kU xs lo hi)))
theorem BA:SlR X (HC X.K):=by
  intro pins s σ H x v vl vu lo hi sl Q I rx hs pl pu h
  obtain⟨a,xs,rfl,hx,hw,q⟩:=h
  cases rx
  obtain⟨its,r,ht,hz⟩:=I.tuple hx
  have hlen:its.toArray.size=xs.length:=by rw [List.size_toArray];exact r.length.symm
  refine⟨"tuple",_,PyProof.Rows.slot_tuple_getitem.lookup,ht.typeIs,?_⟩
  refine HT.getItem_tuple_cut ht hs pl pu (by rw [hlen];exact hw) ?_ (by rw [hlen];exact hz)
  rw [hlen]
  refine⟨.ref s.heap.objs.size,_,I.laid (t':=s.toks) (o:=.tup (kU xs lo hi)) (fun b ob q=>Heap.get?_push_of_some _ q) (Nat.le_refl _) ?_,rfl,q _ (I.hok.fresh (Nat.le_refl _))⟩
  exact⟨Nat.le_trans (mw xs lo hi) hz,_,(r.drop (HT.sIx xs.length 0 lo)).take (HT.sIx xs.length xs.length hi - HT.sIx xs.length 0 lo),jQ.new _ _⟩
def BB (K:PySem.W.Frag):R2:=fun x y H Q=>∃ a b xs ys,x=.ref a∧y=.ref b∧SqT K H a xs∧SqT K H b ys∧xs≠[]∧xs.length + ys.length≤sizeLine ∧
  (ys=[]→Q (.ref a) H)∧(ys≠[] → ∀ p,H p=none→Q (.ref p) (upd H p (.tup (xs++ys))))
theorem aS.nil_iff {xs:List V}{us:List Value}(r:aS xs us):us=[] ↔ xs=[]:=by
  cases r with
  | nil=>simp
  | cons _ _=>simp
theorem DB:OpR X (binaryOp .Add) (BB X.K):=by
  intro pins s σ H x y v u Q I rx ry h
  obtain⟨a,b,xs,ys,rfl,rfl,ha,hb,hx,hz,q1,q2⟩:=h
  cases rx
  cases ry
  obtain⟨its,r1,p1,_⟩:=I.tuple ha
  obtain⟨its2,r2,p2,_⟩:=I.tuple hb
  refine HT.cat_tup p1 p2 (fun z=>hx (r1.nil_iff.mp z)) (fun z=>⟨.ref a,H,I,rfl,q1 (r2.nil_iff.mp z)⟩) (fun z => ?_) (by rw [← r1.length,← r2.length];exact hz)
  refine⟨.ref s.heap.objs.size,_,I.laid (t':=s.toks) (o:=.tup (xs++ys)) (fun b ob q=>Heap.get?_push_of_some _ q) (Nat.le_refl _) ?_,rfl,q2 (fun w=>z (r2.nil_iff.mpr w)) _ (I.hok.fresh (Nat.le_refl _))⟩
  exact⟨by rw [List.length_append];exact hz,_,r1.append r2,jQ.new _ _⟩
end
end L2
namespace L2
open PySem PySem.Spec PyProof.Rows
def ixN (n:Nat) (i:Int):Option Nat:=if 0≤i then (if i < n then some i.toNat else none) else if -(n:Int)≤i then some (i + n).toNat else none
def atI {α : Type} (xs:List α) (i:Int):Option α := (ixN xs.length i).bind fun j=>xs[j]?
theorem zp {n:Nat}{i:Int}{j:Nat}(h:ixN n i=some j):seqIndex? i n=some j∧j < n ∧ -(n:Int)≤i∧i < n:=by
  unfold ixN at h
  by_cases h0:0≤i
  · rw [if_pos h0] at h
    by_cases h1:i < n
    · rw [if_pos h1] at h
      have e:i.toNat=j:=Option.some.inj h
      exact⟨by rw [seqIndex_of h0 h1,e],by omega,by omega,h1⟩
    · rw [if_neg h1] at h;cases h
  · rw [if_neg h0] at h
    by_cases h1 : -(n:Int)≤i
    · rw [if_pos h1] at h
      have e:(i + n).toNat=j:=Option.some.inj h
      exact⟨by rw [seqIndex_neg (by omega) h1,e],by omega,h1,by omega⟩
    · rw [if_neg h1] at h;cases h
theorem rk {α : Type}{xs:List α}{i:Int}{v : α}(h:atI xs i=some v):∃ j,seqIndex? i xs.length=some j∧xs[j]? = some v∧j < xs.length ∧ -(xs.length:Int)≤i∧i < xs.length:=by
  unfold atI at h
  cases e:ixN xs.length i with
  | none=>rw [e] at h;cases h
  | some j =>
    rw [e] at h
    obtain⟨h1,h2,h3,h4⟩:=zp e
    exact⟨j,h1,h,h2,h3,h4⟩
theorem cK {α : Type}{xs:List α}{j:Nat}{v : α}(h:xs[j]? = some v):atI xs (j:Int)=some v:=by
  have hj:j < xs.length:=(List.getElem?_eq_some_iff.mp h).1
  have e:ixN xs.length (j:Int)=some j:=by
    unfold ixN
    rw [if_pos (by omega),if_pos (by omega)];simp
  unfold atI;rw [e];exact h
def rl (b:Expr):Prop:=∀ o i,subscripted b false o i=operate [o,i] (getItem o i)
def IxR (X:Cx) (r:R2):Prop :=
  ∀ (value slice:Expr) (pins:List (Addr × Obj)) (s:Shared) (σ:St) (H:Hp) (x y:V) (v u:Value) (Q:VK),Inv X pins σ H s→bQ x v→bQ y u→r x y H Q →
    subscripted slice false v u=operate [v,u] (getItem v u)→wpAny (model X.prog X.w) X.A (subscriptTail value slice v u) (EP X pins σ Q) X.xe s
def MtR (X:Cx) (id:String) (r:V→List V→Hp→VK→Prop):Prop :=
  ∀ (pins:List (Addr × Obj)) (s:Shared) (σ:St) (H:Hp) (x:V) (xs:List V) (v:Value) (us:List Value) (Q:VK),Inv X pins σ H s→bQ x v→aS xs us→r x xs H Q →
    wpAny (model X.prog X.w) X.A (call (.builtin id) (v :: us)) (EP X pins σ Q) X.xe s
section
variable {X:Cx} {a b:Expr} {ta tb:TE} {pos:Pos}
theorem IxR.or {r r':R2}(h:IxR X r)(h':IxR X r'):IxR X (fun x y H Q=>r x y H Q∨r' x y H Q):=by
  intro value slice pins s σ H x y v u Q I rx ry q hs
  rcases q with q|q
  · exact h value slice pins s σ H x y v u Q I rx ry q hs
  · exact h' value slice pins s σ H x y v u Q I rx ry q hs
theorem EE {r:R2}(hr:IxR X r)(ha:PE X a ta)(hb:PE X b tb)(hs:rl b):PE X (.Subscript a b pos) (tOp r ta tb):=by
  intro pins s σ H Q I h
  exact Subscript_ (Fd ha hb I h fun v u s2 x y H2 I2 rx ry q=>hr a b pins s2 σ H2 x y v u Q I2 rx ry q (hs _ _))
def GM (K:PySem.W.Frag):R2:=fun x y H Q=>∃ p xs i v,x=.ref p∧y=.int i∧SqL K H p xs∧atI xs i=some v∧Q v H
def GN (K:PySem.W.Frag):R2:=fun x y H Q=>∃ p xs i v,x=.ref p∧y=.int i∧SqT K H p xs∧atI xs i=some v∧Q v H
def GO:R2:=fun x y H Q=>∃ z i c,x=.str z∧y=.int i∧z.length≤sizeLine∧atI z.cps.toList i=some c∧Q (.str ⟨#[c]⟩) H
theorem zq:IxR X (GM X.K):=by
  intro value slice pins s σ H x y v u Q I rx ry h hs
  obtain⟨p,xs,i,z,rfl,rfl,hq,he,q⟩:=h
  cases rx
  obtain⟨t,rfl⟩:=ry
  obtain⟨its,r,pl,hz⟩:=I.list hq
  obtain⟨j,h1,h2,h3,h4,h5⟩:=rk he
  obtain⟨w,ew,rw'⟩:=r.get h2
  have hl:=r.length
  have hn:=nz
  have fin:EP X pins σ Q w s:=⟨z,H,I,rw',q⟩
  by_cases h0:0≤i
  · have hj:i.toNat=j:=by
      rw [seqIndex_of h0 h5] at h1
      exact Option.some.inj h1
    exact item_listR pl.isList h0 (by omega) (by rw [hj];simpa using ew) fin hs
  · have hj:(i + (its.toArray.size:Int)).toNat=j:=by
      rw [seqIndex_neg (by omega) h4] at h1
      rw [List.size_toArray,← hl]
      exact Option.some.inj h1
    exact subscriptTail_builtinR (x:=w) pl.isList.typeIs slot_list_getitem.lookup
      (wpAny_getItem_list_neg (Q:=fun r s'=>r=w∧EP X pins σ Q r s') pl.isList (by omega) (by rw [List.size_toArray]<;>omega) (by omega) (by rw [hj];simpa using ew) ⟨rfl,fin⟩) hs
theorem Ft:IxR X (GN X.K):=by
  intro value slice pins s σ H x y v u Q I rx ry h hs
  obtain⟨p,xs,i,z,rfl,rfl,hq,he,q⟩:=h
  cases rx
  obtain⟨t,rfl⟩:=ry
  obtain⟨its,r,pl,hz⟩:=I.tuple hq
  obtain⟨j,h1,h2,h3,h4,h5⟩:=rk he
  obtain⟨w,ew,rw'⟩:=r.get h2
  have hl:=r.length
  have hn:=nz
  have fin:EP X pins σ Q w s:=⟨z,H,I,rw',q⟩
  exact subscriptTail_builtinR (x:=w) pl.typeIs slot_tuple_getitem.lookup
    (getItem_tuple (j:=j) (Q:=fun r s'=>r=w∧EP X pins σ Q r s') pl (by omega) (by omega) (by rw [List.size_toArray,← hl];exact h1) (by simpa using ew) ⟨rfl,fin⟩) hs
theorem Fu:IxR X GO:=by
  intro value slice pins s σ H x y v u Q I rx ry h hs
  obtain⟨z,i,c,rfl,rfl,hz,he,q⟩:=h
  obtain⟨t,rfl⟩:=rx
  obtain⟨t',rfl⟩:=ry
  obtain⟨j,h1,h2,h3,h4,h5⟩:=rk he
  have hl:z.cps.toList.length=z.length:=by simp [Str.length]
  rw [hl] at h1 h4 h5
  have hn:=nz
  exact tail_any (typeIs_str s z t) slot_str_getitem.lookup (getItem_str (c:=c) (by
    have e1:decide (i < -(2 ^ 63:Int))=false:=decide_eq_false (by omega)
    have e2:decide (i ≥ 2 ^ 63)=false:=decide_eq_false (by omega)
    rw [e1,e2,Bool.or_false]) (by rw [h1];simpa using h2) ⟨.str ⟨#[c]⟩,H,I.tok _,⟨_,rfl⟩,q⟩) hs
def rIx (K:PySem.W.Frag):R2:=fun x y H Q=>GM K x y H Q∨GN K x y H Q∨GO x y H Q
theorem Fv:IxR X (rIx X.K):=zq.or (Ft.or Fu)
theorem xf (its:List Value) (n j:Nat) (u:Value):Obj.mapSeq (·.setIfInBounds j u) { cls:=.type "list",data:=.seq its.toArray n } = { cls:=.type "list",data:=.seq (its.set j u).toArray n }:=by
  simp [Obj.mapSeq]
theorem Inv.lst {pins:List (Addr × Obj)}{σ:St}{H:Hp}{s:Shared}{p:Addr}{xs:List V}(I:Inv X pins σ H s)(h:H p=some (.lst xs)) :
    ∃ (its:List Value) (n:Nat),aS xs its∧s.heap.get? p=some { cls:=.type "list",data:=.seq its.toArray n } ∧ xs.length≤sizeLine:=by
  obtain⟨z,its,n,r,e⟩:=I.hok p _ h
  exact⟨its,n,r,e,z⟩
theorem Inv.lstUpd {pins:List (Addr × Obj)}{σ:St}{H:Hp}{s:Shared}{p:Addr}{xs ys:List V}{its its':List Value}{n n':Nat}{f:Obj→Obj}(I:Inv X pins σ H s)(h:H p=some (.lst xs))
    (ho:s.heap.get? p=some { cls:=.type "list",data:=.seq its.toArray n }) (hf:f { cls:=.type "list",data:=.seq its.toArray n } = { cls:=.type "list",data:=.seq its'.toArray n' }) (r:aS ys its') (hz:ys.length≤sizeLine) (t:Nat) :
    Inv X pins σ (upd H p (.lst ys)) { s with heap:=s.heap.update p f,toks:=t }:=by
  have e:(s.heap.update p f).get? p=some { cls:=.type "list",data:=.seq its'.toArray n' }:=by
    rw [Heap.get?_update_self f ho (by rw [hf]<;>rfl),hf]
  refine I.write (x:=p) (e:=p) (by rw [h];trivial) (.inl rfl) (fun b u hb q=>(Heap.get?_update_other _ _ (Ne.symm hb)).trans q) ⟨_,e⟩ ?_
  exact⟨hz,its',n',r,e⟩
def GP:V→V→V→Hp→(Hp→Prop)→Prop:=fun o i v H Q=>∃ p xs k j,o=.ref p∧i=.int k∧H p=some (.lst xs)∧ixN xs.length k=some j∧Q (upd H p (.lst (xs.set j v)))
theorem BC:Gy X GP:=by
  intro pins s σ H o i v ov iv u Q I ro ri rv h
  obtain⟨p,xs,k,j,rfl,rfl,hp,hj,q⟩:=h
  cases ro
  obtain⟨t,rfl⟩:=ri
  obtain⟨its,n,r,ho,hz⟩:=I.lst hp
  obtain⟨h1,h2,h3,h4⟩:=zp hj
  have hl:=r.length
  have hn:=nz
  have I':Inv X pins σ (upd H p (.lst (xs.set j v))) { s with heap:=s.heap.update p (Obj.mapSeq (·.setIfInBounds j u)) } :=
    I.lstUpd hp ho (xf its n j u) (r.set rv j) (by rw [List.length_set];exact hz) s.toks
  by_cases h0:0≤k
  · have hk:k.toNat=j:=by
      rw [seqIndex_of h0 h4] at h1
      exact Option.some.inj h1
    exact PySem.W.ki_setAt ho h0 (by omega) (by rw [List.size_toArray,← hl];exact h4) (by rw [hk];exact⟨_,I',q⟩)
  · have hk:(k + (its.toArray.size:Int)).toNat=j:=by
      rw [seqIndex_neg (by omega) h3] at h1
      rw [List.size_toArray,← hl]
      exact Option.some.inj h1
    exact PySem.W.ki_setBack ho (by omega) (by rw [List.size_toArray,← hl];exact h3) (by omega) (by rw [hk];exact⟨_,I',q⟩)
theorem rn (lo hi:Option Int)(n:Nat):(sliceBounds lo hi none n).1=((HT.sIx n 0 lo:Nat):Int)∧(sliceBounds lo hi none n).2.1=((HT.sIx n n hi:Nat):Int)∧(sliceBounds lo hi none n).2.2=1:=by
  refine⟨?_,?_,rfl⟩
  · cases lo with
    | none=>simp [sliceBounds,HT.sIx]
    | some i =>
      simp only [sliceBounds,HT.sIx,Option.getD_none,show (1:Int) > 0 by decide,if_true]
      by_cases h:i < 0
      · simp only [h,if_true]<;>omega
      · simp only [h,if_false]<;>omega
  · cases hi with
    | none=>simp [sliceBounds,HT.sIx]
    | some i =>
      simp only [sliceBounds,HT.sIx,Option.getD_none,show (1:Int) > 0 by decide,if_true]
      by_cases h:i < 0
      · simp only [h,if_true]<;>omega
      · simp only [h,if_false]<;>omega
theorem pz (its:List Value)(lo hi:Option Int):slicePick its.toArray lo hi none=((its.drop (HT.sIx its.length 0 lo)).take (HT.sIx its.length its.length hi - HT.sIx its.length 0 lo)).toArray:=by
  obtain⟨h1,h2,h3⟩:=rn lo hi its.toArray.size
  unfold slicePick
  rw [h1,h2,h3]
  simp only [sliceRange_one,pick_run,List.size_toArray]<;>rfl
def GQ (K:PySem.W.Frag):V→Option Int→Option Int→Hp→VK→Prop:=fun x lo hi H Q=>∃ a xs,x=.ref a∧SqL K H a xs ∧ ∀ p,H p=none→Q (.ref p) (upd H p (.lst (kU xs lo hi)))
theorem DC:SlR X (GQ X.K):=by
  intro pins s σ H x v vl vu lo hi sl Q I rx hs pl pu h
  obtain⟨a,xs,rfl,hx,q⟩:=h
  cases rx
  obtain⟨its,r,ht,hz⟩:=I.list hx
  have hlen:=r.length
  refine⟨"list",_,slot_list_getitem.lookup,ht.isList.typeIs,?_⟩
  refine wpAny_getItem_list_slice ht.isList hs pl pu .none (by simp) ?_ (by rw [List.size_toArray]<;>omega)
  rw [pz,← hlen]
  refine⟨.ref s.heap.objs.size,_,I.laid (t':=s.toks) (o:=.lst (kU xs lo hi)) (fun b ob q=>Heap.get?_push_of_some _ q) (Nat.le_refl _) ?_,rfl,q _ (I.hok.fresh (Nat.le_refl _))⟩
  exact⟨Nat.le_trans (mw xs lo hi) hz,_,0,(r.drop (HT.sIx xs.length 0 lo)).take (HT.sIx xs.length xs.length hi - HT.sIx xs.length 0 lo),Heap.get?_push_size _ rfl⟩
def fN:V→Bool
  | .non=>true
  | .bl _=>true
  | .int _=>true
  | .str _=>true
  | _=>false
def eqV:V→V→Bool
  | .non,.non=>true
  | .bl a,.bl b=>a == b
  | .bl a,.int b=>(if a then 1 else 0) == b
  | .int a,.bl b=>a == (if b then 1 else 0)
  | .int a,.int b=>a == b
  | .str a,.str b=>a == b
  | _,_=>false
theorem Fw {A:Around}{s:Shared}{y x:V}{u v:Value}(ry:bQ y u)(rx:bQ x v)(fy:fN y=true)(fx:fN x=true):SeqAt.EqAt A s u v (eqV y x):=by
  cases y with
  | non =>
    cases ry
    cases x with
    | non=>cases rx;exact SeqAt.EqAt.same _
    | bl b=>cases rx;exact SeqAt.EqAt.none_bool b
    | int b=>obtain⟨t,rfl⟩:=rx;exact SeqAt.EqAt.none_int b t
    | str b=>obtain⟨t,rfl⟩:=rx;exact SeqAt.EqAt.none_str b t
    | _=>exact absurd (show false=true from fx) Bool.false_ne_true
  | bl a =>
    cases ry
    cases x with
    | non=>cases rx;exact SeqAt.EqAt.bool_none a
    | bl b=>cases rx;exact SeqAt.EqAt.bool_bool a b
    | int b=>obtain⟨t,rfl⟩:=rx;exact SeqAt.EqAt.bool_int a b t
    | str b=>obtain⟨t,rfl⟩:=rx;exact SeqAt.EqAt.bool_str a b t
    | _=>exact absurd (show false=true from fx) Bool.false_ne_true
  | int a =>
    obtain⟨t',rfl⟩:=ry
    cases x with
    | non=>cases rx;exact SeqAt.EqAt.int_none a t'
    | bl b=>cases rx;exact SeqAt.EqAt.int_bool a t' b
    | int b=>obtain⟨t,rfl⟩:=rx;exact SeqAt.EqAt.int_int a t' b t
    | str b=>obtain⟨t,rfl⟩:=rx;exact SeqAt.EqAt.int_str a t' b t
    | _=>exact absurd (show false=true from fx) Bool.false_ne_true
  | str a =>
    obtain⟨t',rfl⟩:=ry
    cases x with
    | non=>cases rx;exact SeqAt.EqAt.str_none a t'
    | bl b=>cases rx;exact SeqAt.EqAt.str_bool a t' b
    | int b=>obtain⟨t,rfl⟩:=rx;exact SeqAt.EqAt.str_int a t' b t
    | str b=>obtain⟨t,rfl⟩:=rx;exact SeqAt.EqAt.str_str a t' b t
    | _=>exact absurd (show false=true from fx) Bool.false_ne_true
  | _=>exact absurd (show false=true from fy) Bool.false_ne_true
def eqU (x:V) (u:Value):Bool:=match u with
  | .none=>eqV .non x
  | .bool b=>eqV (.bl b) x
  | .int i _=>eqV (.int i) x
  | .str z _=>eqV (.str z) x
  | _=>false
theorem xg {x y:V}{u:Value}(r:bQ y u)(f:fN y=true):eqU x u=eqV y x:=by
  cases y with
  | non=>cases r;rfl
  | bl b=>cases r;rfl
  | int i=>obtain⟨t,rfl⟩:=r;rfl
  | str z=>obtain⟨t,rfl⟩:=r;rfl
  | _=>exact absurd (show false=true from f) Bool.false_ne_true
theorem kl {x:V}:∀ {xs:List V} {us:List Value},aS xs us→xs.all fN=true→us.any (eqU x)=xs.any fun y=>eqV y x
  | _,_,.nil,_=>rfl
  | y :: xs,u :: us,.cons r t,f=>by
    rw [List.all_cons,Bool.and_eq_true] at f
    rw [List.any_cons,List.any_cons,xg r f.1,kl t f.2]
theorem fO {A:Around}{s:Shared}{x:V}{v:Value}(rx:bQ x v)(fx:fN x=true):∀ {xs:List V} {us:List Value},aS xs us→xs.all fN=true → ∀ u∈us,SeqAt.EqAt A s u v (eqU x u)
  | _,_,.nil,_=>fun u hu=>by cases hu
  | y :: xs,u :: us,.cons r t,f=>fun u' hu=>by
    rw [List.all_cons,Bool.and_eq_true] at f
    rcases List.mem_cons.mp hu with rfl|hu
    · rw [xg r f.1];exact Fw r rx f.1 fx
    · exact fO rx fx t f.2 u' hu
def inV (x:V) (xs:List V):Bool:=xs.any fun y=>eqV y x
def rIn (K:PySem.W.Frag) (neg:Bool):R2:=fun x y H Q=>∃ p xs,y=.ref p∧(SqL K H p xs∨SqT K H p xs)∧fN x=true∧xs.all fN=true∧Q (.bl (if neg then !inV x xs else inV x xs)) H
theorem jt:OpR X (compareOp .In) (rIn X.K false):=by
  intro pins s σ H x y v u Q I rx ry h
  obtain⟨p,xs,rfl,hq,fx,fs,q⟩:=h
  cases ry
  rcases hq with hq|hq
  · obtain⟨its,r,pl,hz⟩:=I.list hq
    refine SeqAt.in_listAt (eqU x) pl.isList (fun w hw=>fO rx fx r fs w (by simpa using hw)) ⟨.bl _,H,I,rfl,?_⟩
    rw [show its.toArray.any (eqU x)=its.any (eqU x) by simp,kl r fs]
    exact q
  · obtain⟨its,r,pl,hz⟩:=I.tuple hq
    refine SeqAt.in_tupleAt (eqU x) pl (fun w hw=>fO rx fx r fs w (by simpa using hw)) ⟨.bl _,H,I,rfl,?_⟩
    rw [show its.toArray.any (eqU x)=its.any (eqU x) by simp,kl r fs]
    exact q
theorem rq:OpR X (compareOp .NotIn) (rIn X.K true):=by
  intro pins s σ H x y v u Q I rx ry h
  obtain⟨p,xs,rfl,hq,fx,fs,q⟩:=h
  cases ry
  rcases hq with hq|hq
  · obtain⟨its,r,pl,hz⟩:=I.list hq
    refine SeqAt.notIn_listAt (eqU x) pl.isList (fun w hw=>fO rx fx r fs w (by simpa using hw)) ⟨.bl _,H,I,rfl,?_⟩
    rw [show its.toArray.any (eqU x)=its.any (eqU x) by simp,kl r fs]
    exact q
  · obtain⟨its,r,pl,hz⟩:=I.tuple hq
    refine SeqAt.notIn_tupleAt (eqU x) pl (fun w hw=>fO rx fx r fs w (by simpa using hw)) ⟨.bl _,H,I,rfl,?_⟩
    rw [show its.toArray.any (eqU x)=its.any (eqU x) by simp,kl r fs]
    exact q
theorem rA:gF X (.builtin "len") (fun xs H Q=>∃ p ys,xs=[.ref p]∧(SqL X.K H p ys∨SqT X.K H p ys)∧Q (.int ys.length) H):=by
  intro pins s σ H xs us Q I r h
  obtain⟨p,ys,rfl,hq,q⟩:=h
  obtain⟨u,rfl,rx⟩:=uI r
  cases rx
  have hn:=nz
  rcases hq with hq|hq
  · obtain⟨its,r',pl,hz⟩:=I.list hq
    have hlen:=r'.length
    exact Calls.call_len_list pl.isList (by simp only [List.size_toArray]<;>omega) ⟨.int ys.length,H,I.tok _,⟨s.toks + 1,by rw [List.size_toArray,hlen]⟩,q⟩
  · obtain⟨its,r',pl,hz⟩:=I.tuple hq
    have hlen:=r'.length
    exact len_tuple pl (by simp only [List.size_toArray]<;>omega) ⟨.int ys.length,H,I.tok _,⟨s.toks + 1,by rw [List.size_toArray,hlen]⟩,q⟩
theorem rC:gF X (.type "list") (fun xs H Q=>∃ p ys,xs=[.ref p]∧(SqL X.K H p ys∨SqT X.K H p ys) ∧ ∀ l,H l=none→Q (.ref l) (upd H l (.lst ys))):=by
  intro pins s σ H xs us Q I r h
  obtain⟨p,ys,rfl,hq,q⟩:=h
  obtain⟨u,rfl,rx⟩:=uI r
  cases rx
  have fin:∀ (its:List Value),aS ys its→ys.length≤sizeLine → ∀ (h':Heap) (c':Nat),(∀ b o',s.heap.get? b=some o'→h'.get? b=some o') →
      h'.get? s.heap.objs.size=some { cls:=.type "list",dict:=none,data:=.seq its.toArray c',slots := #[] } → EP X pins σ Q (.ref s.heap.objs.size) { s with heap:=h' }:=fun its r' hz h' c' kp e =>
    ⟨.ref s.heap.objs.size,_,I.laid (t':=s.toks) kp (Nat.le_refl _) (show fM X.prog X.w _ h' _ (.lst ys) from ⟨hz,its,c',r',e⟩),rfl,q _ (I.hok.fresh (Nat.le_refl _))⟩
  rcases hq with hq|hq
  · obtain⟨its,r',pl,hz⟩:=I.list hq
    have hlen:=r'.length
    obtain⟨o,ho,hc,n,hd⟩:=pl.isList
    exact call_list_seq p (.inl rfl) ho hc hd (fun h' c' kp e=>fin its r' hz h' c' kp e) (by simp only [List.size_toArray]<;>omega)
  · obtain⟨its,r',pl,hz⟩:=I.tuple hq
    have hlen:=r'.length
    obtain⟨o,ho,hc,n,hd⟩:=pl
    exact call_list_seq p (.inr rfl) ho hc hd (fun h' c' kp e=>fin its r' hz h' c' kp e) (by simp only [List.size_toArray]<;>omega)
theorem pA:gF X (.type "tuple") (fun xs H Q=>∃ p ys,xs=[.ref p]∧((SqL X.K H p ys ∧ ∀ l,H l=none→Q (.ref l) (upd H l (.tup ys)))∨(SqT X.K H p ys∧Q (.ref p) H))):=by
  intro pins s σ H xs us Q I r h
  obtain⟨p,ys,rfl,h⟩:=h
  obtain⟨u,rfl,rx⟩:=uI r
  cases rx
  rcases h with ⟨hq,q⟩|⟨hq,q⟩
  · obtain⟨its,r',pl,hz⟩:=I.list hq
    have hlen:=r'.length
    refine call_tuple_list pl.isList (fun h' kp => ?_) (by simp only [List.size_toArray]<;>omega)
    have I1:Inv X pins σ H { s with heap:=h' }:=I.kept (t':=s.toks) kp
    have I2:Inv X pins σ (upd H h'.objs.size (.tup ys)) { s with heap:=h'.push { cls:=.type "tuple",data:=.seq its.toArray } } :=
      I1.laid (t':=s.toks) (fun b o e=>Heap.get?_push_of_some _ e) (Nat.le_refl _) (show fM X.prog X.w _ _ _ (.tup ys) from ⟨hz,its,r',jQ.new _ _⟩)
    exact⟨.ref h'.objs.size,_,I2,rfl,q _ (I1.hok.fresh (Nat.le_refl _))⟩
  · obtain⟨its,r',pl,hz⟩:=I.tuple hq
    exact call_tuple_same pl ⟨.ref p,H,I,rfl,q⟩
def tyV (K:PySem.W.Frag) (T:String) (x:V) (H:Hp):Prop:=match x with
  | .str _=>T = "str"
  | .int _=>T = "int"
  | .ref p=>(T = "list" ∧ ∃ xs,SqL K H p xs)∨(T = "tuple" ∧ ∃ o,K.lookup p=some o∧o.cls=.type "tuple" ∧ o.dict=none) ∨
      (T = "dict" ∧ ((∃ kvs,H p=some (.dK kvs)) ∨ ∃ kvs,H p=some (.dT kvs)))∨(T = "set" ∧ ∃ S n,H p=some (.set S n))
  | _=>False
theorem Fx {pins:List (Addr × Obj)}{σ:St}{H:Hp}{s:Shared}{T:String}{x:V}{v:Value}(I:Inv X pins σ H s)(r:bQ x v)(ty:tyV X.K T x H) :
    s.TypeIs v T ∧ ∀ a,v=.ref a → ∃ ob,s.heap.get? a=some ob∧ob.dict=none:=by
  cases x with
  | str z =>
    obtain⟨t,rfl⟩:=r
    cases (show T = "str" from ty)
    exact⟨typeIs_str s z t,fun _ e=>nomatch e⟩
  | int i =>
    obtain⟨t,rfl⟩:=r
    cases (show T = "int" from ty)
    exact⟨typeIs_int s i t,fun _ e=>nomatch e⟩
  | ref p =>
    cases r
    rcases ty with ⟨rfl,xs,hq⟩|⟨rfl,o,hk,hc,hd⟩|⟨rfl,hk⟩|⟨rfl,S,n,hk⟩
    · obtain⟨its,_,pl,_⟩:=I.list hq
      refine⟨pl.isList.typeIs,fun a e => ?_⟩
      cases e
      obtain⟨o,n,e,c,hd,_⟩:=pl
      exact⟨o,e,hd⟩
    · refine⟨⟨o,I.kIn p o hk,hc⟩,fun a e => ?_⟩
      cases e
      exact⟨o,I.kIn _ o hk,hd⟩
    · have z:∃ o,s.heap.get? p=some o∧o.ExactDict:=by
        rcases hk with ⟨kvs,hk⟩|⟨kvs,hk⟩
        · obtain⟨_,_,_,_,o,_,_,e,ex,_⟩:=I.hok p _ hk
          exact⟨o,e,ex⟩
        · obtain⟨_,_,_,_,o,_,_,e,ex,_⟩:=I.hok p _ hk
          exact⟨o,e,ex⟩
      obtain⟨o,e,ex⟩:=z
      refine⟨⟨o,e,ex.1⟩,fun a e2 => ?_⟩
      cases e2
      exact⟨o,e,ex.2.1⟩
    · obtain⟨o,_,_,_,e,ex,_⟩:=I.hok p _ hk
      refine⟨⟨o,e,ex.1⟩,fun a e2 => ?_⟩
      cases e2
      exact⟨o,e,ex.2.1⟩
  | _=>exact False.elim ty
def tBM (K:PySem.W.Frag) (T:String) (r:V→List V→Hp→VK→Prop) (to:TE) (t:TA):TE:=fun σ H Q=>to σ H fun x H1=>tyV K T x H1∧t σ H1 fun xs H2=>r x xs H2 Q
variable {o e:Expr} {es:List Expr} {to:TE} {t:TA} {name:Str} {apos cpos:Pos} {T id:String} {r:V→List V→Hp→VK→Prop}
theorem BD (pa:PlainAttrs T) (slot:Slot T name id) (hty:typeOf (.builtin id)=pure (.type "method_descriptor")) (hm:MtR X id r) (ho:PE X o to) (ha:PA X (e :: es) t)
    (hbase:attributeBase o name X.env (eval o X.env)=eval o X.env:=by rfl)
    (hfew:((backTo cpos (starEach (e :: es) X.env)).all (fun x => !x.1) && (backToKw cpos (keywordEach [] X.env)).all (fun x=>x.1.isSome)
      && decide ((e :: es).length + ([] : List Keyword).length + (if ([] : List Keyword).isEmpty then 0 else 1) < 30))=true:=by rfl)
    (hline:(apos.endLine == cpos.line)=true:=by rfl) (hs:starEach (e :: es) X.env=(false,eval e X.env) :: starEach es X.env:=by rfl) (hplain:(backTo cpos (starEach es X.env)).any (·.1)=false:=by rfl) :
    PE X (.Call (.Attribute o name apos) (e :: es) [] cpos) (tBM X.K T r to t):=by
  intro pins s σ H Q I h
  refine wpAny_Call_method_late hbase hfew hline rfl (thn (ho pins s σ H _ I h) fun v s1 ⟨x,H1,I1,r1,ty,q1⟩ => ?_)
  obtain⟨h1,h2⟩:=Fx I1 r1 ty
  refine⟨T,id,pa,slot,hty,h1,h2,?_⟩
  have hA:=ha cpos pins s1 σ H1 _ I1 q1
  rw [hs] at hA ⊢
  refine Calls.callWith_builtin (by show (false || (backTo cpos (starEach es X.env)).any (·.1))=false;rw [hplain]<;>rfl) (Calls.evalArgs_plain ?_)
  exact thn hA fun us s2 ⟨vs,H2,I2,r2,q2⟩=>hm pins s2 σ H2 x vs v us Q I2 r1 r2 q2
end
end L2
namespace L2
open PySem PySem.Spec PyProof.Rows
def MtM (X:Cx) (id:String) (r:V→List V→Hp→VK→Prop):Prop :=
  ∀ (pins:List (Addr × Obj)) (s:Shared) (σ:St) (H:Hp) (x:V) (xs:List V) (v:Value) (us:List Value) (Q:VK),Inv X pins σ H s→bQ x v→aS xs us→r x xs H Q →
    wpAny (model X.prog X.w) X.A (call (.builtin id) (v :: us)) (EP X pins σ Q) X.xe s
theorem aS.one:∀ {x:V} {us:List Value},aS [x] us → ∃ u,us=[u]∧bQ x u
  | _,_,.cons r .nil=>⟨_,rfl,r⟩
theorem aS.two:∀ {x y:V} {us:List Value},aS [x,y] us → ∃ u v,us=[u,v]∧bQ x u∧bQ y v
  | _,_,_,.cons r (.cons q .nil)=>⟨_,_,rfl,r,q⟩
theorem aS.rep {xs:List V}{us:List Value}(h:aS xs us):∀ k:Nat,aS (List.replicate k xs).flatten (List.replicate k us).flatten
  | 0=>.nil
  | k + 1=>by
    rw [List.replicate_succ,List.replicate_succ,List.flatten_cons,List.flatten_cons]
    exact aS.append h (aS.rep h k)
theorem qw (its:List Value):∀ (k:Nat) (acc:List Value),
    List.foldl (fun x1 x2=>x1++x2) acc.toArray (List.replicate k its.toArray)=(acc++(List.replicate k its).flatten).toArray
  | 0,acc=>by simp
  | k + 1,acc=>by
    have e:acc.toArray++its.toArray=(acc++its).toArray:=by simp
    have e2:(acc++its)++(List.replicate k its).flatten=acc++(List.replicate (k + 1) its).flatten:=by
      rw [List.replicate_succ,List.flatten_cons,List.append_assoc]
    rw [← e2,← qw its k (acc++its),← e,List.replicate_succ,List.foldl_cons]
section
variable {X:Cx} {pins:List (Addr × Obj)} {σ:St} {H:Hp} {s:Shared} {l b:Addr} {xs ys zs:List V}
theorem Inv.lset {its its':List Value}{n:Nat}{f:Array Value→Array Value}{t':Nat}(I:Inv X pins σ H s)(hH:H l=some (.lst xs))
    (e:s.heap.get? l=some { cls:=.type "list",data:=.seq its.toArray n }) (hf:f its.toArray=its'.toArray) (hv:aS ys its') (hz:ys.length≤sizeLine) :
    Inv X pins σ (upd H l (.lst ys)) { s with heap:=s.heap.update l (Obj.mapSeq f),toks:=t' }:=by
  have q:=PySem.IsL.update e f
  rw [hf] at q
  refine I.write (x:=l) (e:=l) (by rw [hH];exact trivial) (.inl rfl) (fun b' u hb hu=>(Heap.get?_update_other s.heap (Obj.mapSeq f) (Ne.symm hb)).trans hu) ⟨_,q⟩ ?_
  exact⟨hz,its',_,hv,q⟩
theorem Inv.lstM (I:Inv X pins σ H s) (hH:H l=some (.lst xs)):xs.length≤sizeLine ∧ ∃ (its:List Value) (n:Nat),aS xs its∧xs.length=its.length∧s.heap.get? l=some { cls:=.type "list",data:=.seq its.toArray n }:=by
  obtain⟨z,its,n,r,e⟩:=I.hok l _ hH
  exact⟨z,its,n,r,r.length,e⟩
end
section
variable {X:Cx}
def DD:V→List V→Hp→VK→Prop:=fun x vs H Q=>∃ l xs y,x=.ref l∧vs=[y]∧H l=some (.lst xs)∧xs.length < sizeLine∧Q .non (upd H l (.lst (xs++[y])))
theorem qx:MtM X "list.append" DD:=by
  intro pins s σ H x vs v us Q I rx rv h
  obtain⟨l,xs,y,rfl,rfl,hH,hz,q⟩:=h
  cases rx
  obtain⟨u,rfl,ru⟩:=rv.one
  obtain⟨z,its,n,r,hl,e⟩:=I.lstM hH
  refine call_meets F.slot_list_append ⟨_,e,rfl⟩ F.entry_list_append (F.args_list_append_2 _ _) (PySem.list_append l its.toArray n u (by rw [List.size_toArray];omega)) ⟨e,?_⟩
  refine⟨.non,_,I.lset (its':=its++[u]) hH e (by simp) (r.append (.cons ru .nil)) ?_,rfl,q⟩
  rw [List.length_append,List.length_singleton]
  omega
theorem DE {α : Type}(xs:List α)(k:Nat):(List.replicate k xs).flatten.length=k * xs.length:=by
  induction k with
  | zero=>simp
  | succ k ih=>rw [List.replicate_succ,List.flatten_cons,List.length_append,ih,Nat.succ_mul,Nat.add_comm]
end
section
variable {prog:Program} {w:World} {A:Around} {E:Value→Shared→Prop} {s:Shared}
end
section
variable {X:Cx}
end
end L2
namespace Att
open PySem PySem.W PySem.Calls PyProof.Rows
theorem m4 {P:Params}{h:Heap}:∀ (ns:List Int) (vs:List Value),WellAll P h vs (ns.map WData.int)→IntsAre vs ns:=by
  intro ns
  induction ns with
  | nil =>
    intro vs w
    rw [List.map_nil] at w
    cases w
    exact .nil
  | cons n ns ih =>
    intro vs w
    rw [List.map_cons] at w
    cases w with
    | cons a b =>
      cases a
      exact .cons _ _ (ih _ b)
theorem Ad {l:OpenLaw}{n:Nat}(hn:l.most=some n){P:Params}{h:Heap}{args:List WData}{vals:List Value}
    (hpre:l.row.toRowW.claim.pre args=true) (hwl:WellAll P h vals args) :
    ∃ a vs ns,vals=[Value.ref a]∧args=[WData.list (ns.map WData.int)]∧h.get? a=some { cls:=.type "list",data:=.seq vs.toArray } ∧ IntsAre vs ns∧ns.length≤n:=by
  have hsh:WShape.hasAll [] args [.list .int] = true:=(pre_splitW hpre).1
  have hc:l.pre.holds [] { args:=args } = true:=(pre_splitW hpre).2
  obtain⟨d,r,rfl,h1,h2⟩:=hasAllW_cons hsh
  obtain rfl:=hasAllW_nil h2
  obtain⟨xs,rfl,h3⟩:=hasW_list h1
  obtain⟨ns,rfl⟩:=items_int h3
  have hlen:ns.length≤n:=by
    unfold OpenLaw.pre at hc
    have h4:(WTm.not (.lt (.lit (.int (n:Int))) (.len (.arg 0)))).holds [] { args:=[.list (ns.map .int)] } = true:=by
      have h4:=(holds_andW hc).1
      rw [hn] at h4
      exact h4
    have h5:=condW_of h4 (w_not (w_lt w_lit (w_len_list (w_arg rfl))))
    rw [List.length_map] at h5
    refine Nat.le_of_not_lt fun q => ?_
    have q':(n:Int) < ((ns.length:Nat):Int):=by omega
    first
      | (rw [decide_eq_true q'] at h5;exact absurd h5 (by decide))
      | (simp at h5;omega)
  cases hwl with
  | cons w1 w2 =>
    cases w2
    cases w1 with
    | list ho hall=>exact⟨_,_,ns,rfl,rfl,ho,m4 ns _ hall,hlen⟩
theorem Ae (l:OpenLaw)(args:List WData):l.row.toRowW.claim.post args (.bool true) args=true :=
  postW_of (r:=l.row.toRowW) (X:=(true == true))
    (show WShape.has [] (.bool true) .bool=true by first|rfl|decide|simp [WShape.has,WShape.arms,WShape.armsAll])
    (show (WTm.eq .res (.lit (.bool true))).value [] { args:=args,res:=some (.bool true),after:=args } = some (.bool (true == true)) from w_eq_bool (w_res rfl) w_lit) rfl
theorem attach_call {l:OpenLaw}{n:Nat}{q:Program}{loose:List Str}{XP:(Str→Option Value)→Heap→Prop}{YP:World→Heap→Prop}{d:DefRec}
    (hn:l.most=some n) (hdf:d.params.defaults=[])
    (call:∀ (w:World) (s₀ s₁ : Shared) (mg mb:Str→Option Value) (fa:Addr) (o:Obj) (pm cd doc:Value) (a:Addr) (vs:List Value) (ns:List Int),
      Ground q loose [] XP w s₀ mg mb s₁.heap→YP w s₁.heap →
      s₁.heap.get? fa=some o→o.data=.func (docDef d.name d.params d.body d.scope pm cd doc)→s₁.heap.CodeRec cd d.name→mg d.name=some (.ref fa) →
      s₁.heap.get? a=some { cls:=.type "list",data:=.seq vs.toArray } → IntsAre vs ns→ns.length≤n→s₁.gens = #[] →
      codeAny (model l.prog w) callerA (.call (.ref fa) ⟨[.ref a],[]⟩) (fun r s'=>r=.ok (.ret (.bool true))∧OldK s₁.heap s'.heap∧s'.os=s₁.os∧AllBare s'.gens) s₁) :
    WalkO q loose XP YP l.row.toRowW d [] (fun f vs=>PySem.call f vs):=by
  intro w s₀ s₁ mg mb G Y fa o pm cd doc dV kV ho hd hcd hD hmg hg args vals as hpre hlay hrd hwl hlo
  obtain rfl:dV=.none:=Dflts.none hD hdf
  obtain rfl:kV=.none:=Dflts.noKw hD
  obtain⟨a,vs,ns,rfl,rfl,hobj,hints,hlen⟩:=Ad hn hpre hwl
  refine enter_call (codeAny_mono (call w s₀ s₁ mg mb fa o pm cd doc a vs ns G Y ho (fd_plain hd) hcd hmg hobj hints hlen hg) fun r s' hq => ?_)
  obtain⟨rfl,h2,h3,h4⟩:=hq
  exact⟨.inl ⟨.bool true,.bool true,[],rfl,fun _=>rfl,.bool true,Ae l _,fun _=>⟨List.Pairwise.nil,fun _ hm=>(nomatch hm)⟩⟩,h2,h3,h4⟩
section
variable {prog:Program} {w:World} {A:Around} {E:Value→Shared→Prop} {s:Shared} {K:Frag}
def noObjs (h:Heap):Heap:={ h with objs := #[] }
theorem noObjs_get (h:Heap)(b:Addr):(noObjs h).get? b=none:=by
  cases e:(noObjs h).get? b with
  | none=>rfl
  | some o=>exact absurd (Heap.lt_size e) (Nat.not_lt_zero _)
def ledger (h:Heap) (L d:Addr):List (Addr × Obj):=(List.range h.objs.size).filterMap fun a=>if a=L∨a=d then none else (h.get? a).map fun o=>(a,o)
theorem mem_ledger {h:Heap}{L d a:Addr}{o:Obj}:(a,o)∈ledger h L d ↔ a≠L∧a≠d∧h.get? a=some o:=by
  unfold ledger
  rw [List.mem_filterMap]
  constructor
  · rintro⟨b,_,e⟩
    split at e
    · cases e
    · rename_i hb
      obtain⟨o',ho,e'⟩:=Option.map_eq_some_iff.mp e
      cases e'
      exact⟨fun q=>hb (.inl q),fun q=>hb (.inr q),ho⟩
  · rintro⟨n1,n2,ho⟩
    refine⟨a,List.mem_range.mpr (Heap.lt_size ho),?_⟩
    rw [if_neg (show ¬ (a=L∨a=d) from fun q=>q.elim n1 n2),ho]<;>rfl
theorem fr_all {h:Heap}{L:Addr}{m:Str→Option Value}(n:h.Ns L m):Fr (noObjs h) L h m :=
  ⟨n,fun b o e=>(by rw [noObjs_get] at e;cases e),Nat.zero_le _⟩
end
end Att
namespace L2
open PySem PySem.Spec PyProof.Rows
theorem qy:∀ {vs:List Value} {ns:List Int},IntsAre vs ns→aS (ns.map V.int) vs
  | _,_,.nil=>.nil
  | _,_,.cons n t h=>.cons ⟨t,rfl⟩ (qy h)
def Fy (H:Hp):Prop:=∀ b,H b=none ∨ ∃ o xs,H b=some (.frz o (.lst xs))
theorem BE {P:Program}{w:World}{K:PySem.W.Frag}{mg mb:Str→Option Value}{CX:CXT}{k:Nat}{fa a:Addr}{fd:FuncData}{x:Str}{sp:Sp}{s₁ : Shared}{vs:List Value}{ns:List Int}
    (KX:K.In s₁.heap) (hns:s₁.heap.Ns mainGlobals mg) (hb:s₁.heap.Ns builtinsNs mb) (hbb:∀ x:Str,x ≠ "__name__" → mb x=bootBuiltins x) (hlim:s₁.heap.NoLimit) (hg:s₁.gens = #[])
    (ha:s₁.heap.get? a=some { cls:=.type "list",data:=.seq vs.toArray }) (hi:IntsAre vs ns) (hl:ns.length≤sizeLine) (hr:gZ k callerA)
    (F:∀ base:Heap,K.In base→base.Ns mainGlobals mg→cz P w K mg base CX k fa fd [x] sp) (hbind:∀ (s:Shared) (u:Value),BindsTo s fd ⟨[u],[]⟩ [(x,u)])
    (hsp:∀ H:Hp,Fy H→SqL K H a (ns.map V.int)→sp [.ref a] H (fun v _=>v=.bl true) fun _ _ _=>False)
    (hCX:∀ H e s',CX [] H s₁ (fun _ _ _=>False) e s'→False) :
    codeAny (model P w) callerA (.call (.ref fa) ⟨[.ref a],[]⟩) (fun r s'=>r=.ok (.ret (.bool true))∧OldK s₁.heap s'.heap∧s'.os=s₁.os∧AllBare s'.gens) s₁ := by
  have rv:=qy hi
  have lenV:=hi.length
  have core:∀ H:Hp,Fy H→SqL K H a (ns.map V.int)→HOk P w H s₁.heap→(∀ b,H b≠none→b=a)→(H a≠none→K.lookup a=none) →
      codeAny (model P w) callerA (.call (.ref fa) ⟨[.ref a],[]⟩) (fun r s'=>r=.ok (.ret (.bool true))∧OldK s₁.heap s'.heap∧s'.os=s₁.os∧AllBare s'.gens) s₁ := by
    intro H hO hS hok hA hK
    have base_of:∀ {b:Addr} {o:Obj},s₁.heap.get? b=some o→H b=none→(rg s₁.heap H).get? b=some o:=fun e n=>Bl e n
    have noA:∀ {b:Addr} {o:Obj} {es:Array DictEntry} {ep:Nat},s₁.heap.get? b=some o→o.data=.dict es ep→H b=none:=fun {b o es ep} e d=>by
      cases q:H b with
      | none=>rfl
      | some u =>
        have e':b=a:=hA b (by rw [q];simp)
        subst e'
        rw [ha] at e;cases e
        have d':Data.seq vs.toArray _=Data.dict es ep:=d
        cases d'
    have nsK:∀ {b:Addr} {m:Str→Option Value},s₁.heap.Ns b m→(rg s₁.heap H).Ns b m:=fun {b m} ⟨o,es,ep,e,d,r⟩=>⟨o,es,ep,base_of e (noA e d),d,r⟩
    have hKb:K.In (rg s₁.heap H):=fun b o e=>base_of (KX b o e) (by
      cases q:H b with
      | none=>rfl
      | some u =>
        have e':b=a:=hA b (by rw [q];simp)
        subst e'
        rw [hK (by rw [q];simp)] at e;cases e)
    have hM:Mod K mg (rg s₁.heap H):=⟨hKb,nsK hns,⟨mb,nsK hb,hbb⟩,let ⟨mc,h1,h2⟩:=hlim;⟨mc,nsK h1,h2⟩⟩
    have e0:Dw P w K mg (rg s₁.heap H) callerA [] s₁ H:=⟨rfl,hM,fun b o e=>Dj e,Nat.le_of_eq (z7 _ _),trivial,fun b hb=>absurd (show b∈([] : List Addr) from hb) (by simp),hok,.of_eq hg⟩
    refine codeAny_mono ((F _ hKb (nsK hns)).run callerA [] s₁ H ⟨[.ref a],[]⟩ [.ref a] [.ref a] _ _ hr e0 (hbind s₁ (.ref a)) (.cons rfl .nil) (hsp H hO hS)) fun r s' h => ?_
    cases r with
    | error e=>exact (hCX H e s' h).elim
    | ok fl =>
      cases fl with
      | next=>exact False.elim h
      | brk=>exact False.elim h
      | cont=>exact False.elim h
      | ret u =>
        obtain⟨v,H',os,bare,un,hok',r',q⟩:=h
        have q':v=.bl true:=q
        subst q'
        obtain rfl:u=Value.bool true:=r'
        refine⟨rfl,OldK.of_keep fun b o e => ?_,os,bare⟩
        cases q:H b with
        | none=>exact un.keep b o e q (by intro z;exact absurd (show b∈([] : List Addr) from z) (by simp)) (by simp)
        | some u =>
          rcases hO b with z|⟨ob,xs,z⟩
          · rw [q] at z;cases z
          · have z2:=un.frzs b ob _ z
            obtain⟨e1,_⟩:=hok b _ z
            obtain⟨e2,_⟩:=hok' b _ z2
            rw [e] at e1;cases e1
            exact e2
  cases hk:K.lookup a with
  | some o =>
    have e:=KX a o hk
    rw [ha] at e
    cases e
    refine core (fun _=>none) (fun _=>.inl rfl) (.inr ⟨_,vs.toArray,_,hk,rfl,rfl,rfl,by rw [List.size_toArray,lenV];exact hl,by simpa using rv⟩) (fun b u z=>by have z':(none:Option HO)=some u:=z;cases z') (fun b z=>absurd rfl z) fun z=>absurd rfl z
  | none =>
    refine core (fun b=>if b=a then some (.frz { cls:=.type "list",data:=.seq vs.toArray } (.lst (ns.map V.int))) else none) (fun b => ?_) (.inl (.inr ⟨{ cls:=.type "list",data:=.seq vs.toArray },if_pos rfl⟩)) (fun b u z => ?_) (fun b z => ?_) fun _=>hk
    · by_cases hb:b=a
      · exact .inr ⟨_,_,if_pos hb⟩
      · exact .inl (if_neg hb)
    · by_cases hb:b=a
      · have z':=(if_pos hb).symm.trans z
        cases z'
        subst hb
        exact⟨ha,by rw [List.length_map];exact hl,vs,_,rv,ha⟩
      · have z':=(if_neg hb).symm.trans z
        cases z'
    · by_cases hb:b=a
      · exact hb
      · exact absurd (if_neg hb) z
end L2
namespace L2
open PySem PySem.Spec PyProof.Rows
theorem DF {l:PySem.W.OpenLaw}{n k:Nat}{q:Program}{loose:List Str}{XP:(Str→Option Value)→Heap→Prop}{YP:World→Heap→Prop}{d:DefRec}{K:Params→PySem.W.Frag}{CX:World→CXT}{sp:World→Sp}{x:Str}
    (hn:l.most=some n) (hn2:n≤sizeLine) (hdf:d.params.defaults=[]) (hr:gZ k callerA)
    (hY:∀ (w:World) (h:Heap),YP w h→(K w.params).In h)
    (F:∀ (w:World) (mg:Str→Option Value) (fa:Addr) (h:Heap),(K w.params).In h→h.Ns mainGlobals mg→mg d.name=some (.ref fa) →
      ∃ fd:FuncData,(∀ (s:Shared) (u:Value),BindsTo s fd ⟨[u],[]⟩ [(x,u)]) ∧
        ∀ base:Heap,(K w.params).In base→base.Ns mainGlobals mg→cz l.prog w (K w.params) mg base (CX w) k fa fd [x] (sp w))
    (hsp:∀ (w:World) (H:Hp) (a:Addr) (ns:List Int),ns.length≤n→Fy H→SqL (K w.params) H a (ns.map V.int)→sp w [.ref a] H (fun v _=>v=.bl true) fun _ _ _=>False)
    (hCX:∀ (w:World) (H:Hp) (s:Shared) (e:Value) (s':Shared),CX w [] H s (fun _ _ _=>False) e s'→False) :
    PySem.W.WalkO q loose XP YP l.row.toRowW d [] (fun f vs=>PySem.call f vs):=by
  refine Att.attach_call hn hdf fun w s₀ s₁ mg mb fa o pm cd doc a vs ns G Y ho hd hcd hmg hobj hints hlen hg => ?_
  have KX:=hY w _ Y
  obtain⟨fd,hb,hF⟩:=F w mg fa _ KX G.T.g hmg
  exact BE KX G.T.g G.T.b G.T.builtins G.T.nolimit hg hobj hints (Nat.le_trans hlen hn2) hr hF hb (fun H hO hS=>hsp w H a ns hlen hO hS) fun H e s'=>hCX w H s₁ e s'
end L2
namespace L2
open PySem PySem.Spec PyProof.Rows
def aQ (s:Stmt):Arguments:=match s with
  | .FunctionDef _ a _ _ _ _ _ _ _ _=>a
  | _=>{ posonlyargs:=[],args:=[],vararg:=none,kwonlyargs:=[],kw_defaults:=[],kwarg:=none,defaults:=[] }
def aN (s:Stmt):List Stmt:=match s with
  | .FunctionDef _ _ b _ _ _ _ _ _ _=>b
  | _=>[]
def al (s:Stmt):Scope:=match s with
  | .FunctionDef _ _ _ _ _ _ sc _ _ _=>sc
  | _=>{ kind:=.function,names:=[],isGenerator:=false,isCoroutine:=false }
abbrev CX0:CXT:=fun _ _ _ _ _ _=>False
abbrev E0:XK:=fun _ _ _=>False
theorem GR {X:Cx}:w8 CX0 X E0:=fun _ _ _ _ _ _ _ h=>h.elim
structure Fun (K:PySem.W.Frag) (x qual:Str) (st:Stmt) (f:Addr) (fd:FuncData):Prop where
  ex:∃ (oc:Value) (od:Option Addr) (kV doc pm:Value) (an:Option Addr) (cdv ct:Value) (osl:Array (Option Value)),
    fd=PySem.W.fnOf x qual (aQ st) (aN st) (al st) .none kV doc pm an cdv ct∧K.lookup f=some ⟨oc,od,.func fd,osl⟩ ∧ PySem.W.codeIn K cdv qual=true
  kp:PySem.W.keepIn K (.ref f)=true
section
variable {P:Program} {w:World} {K:PySem.W.Frag} {mg:Str→Option Value} {base:Heap}
theorem Fun.ok {x qual:Str}{st:Stmt}{f:Addr}{fd:FuncData}{N ps:List Str}{k:Nat}{sp:Sp}(F:Fun K x qual st f fd)(S:aR N ps (al st))(len:∀ vs H Q E,sp vs H Q E→vs.length=ps.length)
    (hbody:∀ (cdv:Value) (A:Around) (outer:List Env) (s:Shared) (H:Hp) (vs:List V) (Q:VK) (E:XK),gZ k (A.deeper (envOfC qual (al st) s.heap.objs.size f cdv))→sp vs H Q E →
      ∃ t,PSs (xa CX0 P w K mg base N qual (al st) f cdv A outer s H E).nox (aN st) t∧t { nx:=fun _ H'=>Q .non H',rt:=Q } (iN N vs) H):cz P w K mg base CX0 (k + 1) f fd ps sp:=by
  obtain⟨oc,od,kV,doc,pm,an,cdv,ct,osl,rfl,lk,hcd⟩:=F.ex
  refine GK lk hcd S len fun A outer s H vs Q E hr hsp => ?_
  obtain⟨t,h,q⟩:=hbody cdv A outer s H vs Q E hr hsp
  exact⟨t,h.nox,q⟩
theorem Fun.binds {x qual:Str}{st:Stmt}{f:Addr}{fd:FuncData}{ps:List Str}(F:Fun K x qual st f fd)
    (h:∀ (kV doc pm:Value) (an:Option Addr) (cdv ct:Value) (us:List Value),us.length=ps.length→bindArgs (PySem.W.fnOf x qual (aQ st) (aN st) (al st) .none kV doc pm an cdv ct) ⟨us,[]⟩ = pure (ps.zip us)):nB K fd ps []:=by
  obtain⟨oc,od,kV,doc,pm,an,cdv,ct,osl,rfl,lk,hcd⟩:=F.ex
  exact .all (h kV doc pm an cdv ct)
theorem bn {x qual:Str}{st:Stmt}{f:Addr}{oc:Value}{od an:Option Addr}{osl:Array (Option Value)}{kV doc pm cdv ct:Value}(l:K.lookup f=some ⟨oc,od,.func (PySem.W.fnOf x qual (aQ st) (aN st) (al st) .none kV doc pm an cdv ct),osl⟩)
    (c:PySem.W.codeIn K cdv qual=true) (k:PySem.W.keepIn K (.ref f)=true):Fun K x qual st f (PySem.W.fnOf x qual (aQ st) (aN st) (al st) .none kV doc pm an cdv ct):=⟨⟨oc,od,kV,doc,pm,an,cdv,ct,osl,rfl,l,c⟩,k⟩
end
section
variable {X:Cx}
end
def kW (H H':Hp):Prop:=∀ b o,H b=some o→H' b=some o
theorem kW.refl (H:Hp):kW H H:=fun _ _ h=>h
end L2
set_option linter.all false
namespace L2
open PySem PySem.Spec
structure HE (h:Heap) (a D:Addr) (o:Obj):Prop where
  at_:h.get? a=some o
  cls:o.cls=.ref D
def GS (a C:Addr):HO:=.ext fun h=>∃ o,HE h a C o
end L2
namespace Fm
inductive D where
  | non|bl (b:Bool)|int (i:Int)|str (x:List Nat)|tup (l:List D)|ref (n:Nat)|lit (l:List D)|exn (c:String) (l:List D)
deriving Inhabited
inductive dm where
  | lst (l:List D)|dct (l:List (Int × D))
abbrev Hd:=List dm
inductive Res (α : Type) where
  | ok (a : α) (h:Hd)|exc (x:D) (h:Hd)|bad
def Res.bind {α β : Type} (r:Res α) (f : α → Hd→Res β):Res β := match r with
  | .ok a h=>f a h | .exc x h=>.exc x h | .bad=>.bad
@[simp] theorem aT {α β : Type} (a : α) (h:Hd) (f : α → Hd→Res β):(Res.ok a h).bind f=f a h:=rfl
abbrev Sd:=List (Option D)
abbrev EF:=Sd→Hd→Res D
abbrev TF:=Sd→Hd→Res Bool
abbrev LF:=Sd→Hd→Res (List D)
inductive Out where
  | nx (σ:Sd) (h:Hd)|rt (d:D) (h:Hd)|bk (σ:Sd) (h:Hd)|ct (σ:Sd) (h:Hd)|exc (x:D) (σ:Sd) (h:Hd)|bad
abbrev SF:=Sd→Hd→Out
abbrev Fn:=List D→Hd→Res D
abbrev SZ:Nat:=1000000
@[simp] def slot (σ:Sd) (i:Nat):Option D:=match σ[i]? with|some (some d)=>some d|_=>none
@[simp] def aa (i:Nat):EF:=fun σ h=>match slot σ i with|some d=>.ok d h|none=>.bad
@[simp] def fC (d:D):EF:=fun _ h=>.ok d h
abbrev O2:=D→D→Hd→Res D
@[simp] def ak (g:O2) (a b:EF):EF:=fun σ h=>(a σ h).bind fun x h=>(b σ h).bind fun y h=>g x y h
@[simp] def oI (g:Int→Int→Int):O2:=fun x y h=>match x,y with | .int i,.int j=>.ok (.int (g i j)) h|_,_=>.bad
@[simp] def oB (g:Int→Int→Bool):O2:=fun x y h=>match x,y with | .int i,.int j=>.ok (.bl (g i j)) h|_,_=>.bad
@[simp] def oIc (c:Int→Int→Bool) (g:Int→Int→Int):O2:=fun x y h=>match x,y with | .int i,.int j=>if c i j then .ok (.int (g i j)) h else .bad|_,_=>.bad
def sml (i:Int):Bool:=decide (-18446744073709551616 < i) && decide (i < 18446744073709551616)
@[simp] def bH:O2:=fun x y h=>match x,y with
  | .int i,.int j=>.ok (.int (i + j)) h
  | .tup (x :: xs),.tup ys=>if (x :: xs).length + ys.length≤SZ then .ok (.tup (x :: xs++ys)) h else .bad
  | _,_=>.bad
@[simp] def m5:O2:=fun x y h=>(oI (· - ·)) x y h
@[simp] def eV:O2:=fun x y h=>(oIc (fun i j=>sml i || sml j) (· * ·)) x y h
@[simp] def jR:O2:=fun x y h=>(oIc (fun _ j=>decide (0 < j)) (· % ·)) x y h
@[simp] def Fz:O2:=fun x y h=>(oIc (fun _ j=>decide (0 < j) && decide (j < 2 ^ 250)) (· / ·)) x y h
@[simp] def FA:O2:=fun x y h=>(oIc (fun i j=>decide (0≤j) && decide (j≤1000000) && sml i) (fun i j=>i ^ j.toNat)) x y h
@[simp] def oLt:O2:=fun x y h=>(oB fun i j=>decide (i < j)) x y h
@[simp] def oLe:O2:=fun x y h=>(oB fun i j=>decide (i≤j)) x y h
@[simp] def oGt:O2:=fun x y h=>(oB fun i j=>decide (j < i)) x y h
@[simp] def HL:D→Hd→Res D:=fun x h=>match x with | .int i=>.ok (.int (-i)) h|_=>.bad
@[simp] def nE:D→Bool | .non=>true|_=>false
@[simp] def DG:O2:=fun x y h=>if nE y then .ok (.bl (nE x)) h else .bad
@[simp] def g9:O2:=fun x y h=>if nE y then .ok (.bl (!nE x)) h else .bad
@[simp] def b2i (b:Bool):Int:=if b then 1 else 0
mutual
def peq:D→D→Option Bool
  | .int i,k=>match k with | .int j=>some (decide (i=j)) | .bl c=>some (decide (i=b2i c)) | .non=>some false | .tup _=>some false|_=>none
  | .bl c,k=>match k with | .int j=>some (decide (b2i c=j)) | .bl d=>some (decide (c=d))|_=>none
  | .str x,k=>match k with | .str y=>some (decide (x=y))|_=>none
  | .non,k=>match k with | .non=>some true | .int _=>some false | .tup _=>some false|_=>none
  | .tup xs,k=>match k with | .tup ys=>(fP xs ys).map fun b=>b && decide (xs.length=ys.length) | .non=>some false | .int _=>some false|_=>none
  | .ref _,_=>none
  | .lit _,_=>none
  | .exn _ _,_=>none
def fP:List D→List D→Option Bool
  | x :: xs,y :: ys=>match peq x y,fP xs ys with
    | some a,some b=>some (a && b)
    | _,_=>none
  | _,_=>some true
end
mutual
def dep:D→Nat
  | .tup l=>km l + 1
  | _=>0
def km:List D→Nat
  | []=>0
  | x :: xs=>max (dep x) (km xs)
end
def eqL (xs ys:List D):Option Bool:=if km xs≤20 then (if xs.length=ys.length then fP xs ys else some false) else none
@[simp] def b4 (h:Hd):D→Option (List D)
  | .ref n=>match h[n]? with|some (.lst l)=>some l|_=>none
  | .lit l=>some l
  | _=>none
@[simp] def eqG (h:Hd) (x y:D):Option Bool:=match b4 h x,b4 h y with
  | some xs,some ys=>eqL xs ys
  | none,none=>if dep x≤20 then peq x y else none
  | _,_=>none
@[simp] def oEq:O2:=fun x y h=>match eqG h x y with|some b=>.ok (.bl b) h|none=>.bad
@[simp] def oNe:O2:=fun x y h=>match eqG h x y with|some b=>.ok (.bl (!b)) h|none=>.bad
@[simp] def bK:D→Bool
  | .non=>true | .bl _=>true | .int _=>true | .str _=>true|_=>false
@[simp] def eqF:D→D→Bool
  | .non,k=>match k with | .non=>true|_=>false
  | .bl a,k=>match k with | .bl b=>a == b | .int b=>b2i a == b|_=>false
  | .int a,k=>match k with | .bl b=>a == b2i b | .int b=>a == b|_=>false
  | .str a,k=>match k with | .str b=>a == b|_=>false
  | .tup _,_=>false
  | .ref _,_=>false
  | .lit _,_=>false
  | .exn _ _,_=>false
@[simp] def asB (r:Res D):Res Bool:=r.bind fun x h=>match x with | .bl b=>.ok b h|_=>.bad
@[simp] def tE (a:EF):TF:=fun σ h=>asB (a σ h)
@[simp] def dZ (t:TF):TF:=fun σ h=>(t σ h).bind fun b h=>.ok (!b) h
@[simp] def iJ (t u:TF):TF:=fun σ h=>(t σ h).bind fun b h=>if b then u σ h else .ok false h
@[simp] def tOr (t u:TF):TF:=fun σ h=>(t σ h).bind fun b h=>if b then .ok true h else u σ h
@[simp] def fT (t:TF):EF:=fun σ h=>(t σ h).bind fun b h=>.ok (.bl b) h
@[simp] def fIf (t:TF) (a b:EF):EF:=fun σ h=>(t σ h).bind fun c h=>if c then a σ h else b σ h
@[simp] def nF (g k:O2) (a b c:EF):EF:=fun σ h=>(a σ h).bind fun x h=>(b σ h).bind fun y h=>(g x y h).bind fun z h=>match z with
  | .bl true=>(c σ h).bind fun w h=>k y w h
  | .bl false=>.ok (.bl false) h
  | _=>.bad
@[simp] def ap:LF:=fun _ h=>.ok [] h
@[simp] def af (a:EF) (r:LF):LF:=fun σ h=>(a σ h).bind fun x h=>(r σ h).bind fun xs h=>.ok (x :: xs) h
@[simp] def fQ (r:LF):EF:=fun σ h=>(r σ h).bind fun xs h=>if xs.length≤SZ then .ok (.tup xs) h else .bad
@[simp] def bA (r:LF):EF:=fun σ h=>(r σ h).bind fun xs h=>if xs.length≤SZ then .ok (.ref h.length) (h++[.lst xs]) else .bad
@[simp] def fR (h:Hd):D→Option (List D)
  | .tup l=>some l
  | .lit l=>some l
  | .ref n=>match h[n]? with|some (.lst l)=>some l|_=>none
  | _=>none
@[simp] def lOf (a:EF):LF:=fun σ h=>(a σ h).bind fun x h=>match fR h x with|some l=>.ok l h|none=>.bad
@[simp] def inL (h:Hd) (x y:D):Option Bool:=match fR h y with
  | some l=>if bK x && l.all bK then some (l.any fun z=>eqF z x) else none
  | none=>none
@[simp] def oIn:O2:=fun x y h=>match inL h x y with|some b=>.ok (.bl b) h|none=>.bad
@[simp] def iO:O2:=fun x y h=>match inL h x y with|some b=>.ok (.bl (!b)) h|none=>.bad
@[simp] def eB (x e:EF):EF:=fun σ h=>(x σ h).bind fun p h=>match b4 h p with
  | some _=>(e σ h).bind fun d h=>match b4 h p with
    | some l=>if bK d && l.all bK then .ok (.int (l.countP fun z=>eqF z d)) h else .bad
    | none=>.bad
  | none=>.bad
def ixN (n:Nat) (i:Int):Option Nat:=if 0≤i then (if i < n then some i.toNat else none) else if -(n:Int)≤i then some (i + n).toNat else none
def atI (xs:List D) (i:Int):Option D:=(ixN xs.length i).bind fun j=>xs[j]?
@[simp] def fIx (a:LF) (b:EF):EF:=fun σ h=>(a σ h).bind fun l h=>(b σ h).bind fun y h=>match y with
  | .int i=>match atI l i with|some d=>.ok d h|none=>.bad
  | _=>.bad
@[simp] def oAt:O2:=fun x y h=>match fR h x,y with
  | some l,.int i=>match atI l i with|some d=>.ok d h|none=>.bad
  | _,_=>.bad
@[simp] def fAt (a b:EF):EF:=fun σ h=>ak oAt a b σ h
@[simp] def ft (a:LF):EF:=fun σ h=>(a σ h).bind fun l h=>.ok (.int l.length) h
def fS:List D→Option (List Int)
  | []=>some []
  | .int i :: r=>(fS r).map (i :: ·)
  | _=>none
@[simp] def jS (a:LF):EF:=fun σ h=>(a σ h).bind fun l h=>match fS l with|some is=>.ok (.int is.sum) h|none=>.bad
def iP:List D→Option (List Bool)
  | []=>some []
  | .bl b :: r=>(iP r).map (b :: ·)
  | _=>none
@[simp] def Af (a:LF):EF:=fun σ h=>(a σ h).bind fun l h=>match iP l with|some bs=>.ok (.bl (bs.all id)) h|none=>.bad
@[simp] def cC (a:LF):EF:=fun σ h=>(a σ h).bind fun l h=>.ok (.tup l) h
@[simp] def iK (a:EF):EF:=fun σ h=>(a σ h).bind fun x h=>match x with | .int i=>.ok (.int i) h | .bl b=>.ok (.int (b2i b)) h|_=>.bad
inductive Ty where|int|bool|tuple|list|str
deriving DecidableEq
@[simp] def Ag (h:Hd) (t:Ty):D→Option Bool
  | .non=>some false
  | .bl _=>some (t == .bool || t == .int)
  | .int _=>some (t == .int)
  | .str _=>some (t == .str)
  | .tup _=>some (t == .tuple)
  | .lit _=>some (t == .list)
  | .ref n=>match h[n]? with|some (.lst _)=>some (t == .list)|some (.dct _)=>some false|none=>none
  | .exn _ _=>none
@[simp] def cX (t:Ty) (a:EF):EF:=fun σ h=>(a σ h).bind fun x h=>match Ag h t x with|some b=>.ok (.bl b) h|none=>.bad
def sIx (n d:Nat):Option Int→Nat
  | none=>d
  | some i=>if i < 0 then (i + n).toNat else min i.toNat n
def cut (l:List D) (lo hi:Option Int):List D:=(l.drop (sIx l.length 0 lo)).take (sIx l.length l.length hi - sIx l.length 0 lo)
abbrev OF:=Sd→Hd→Res (Option Int)
@[simp] def pNo:OF:=fun _ h=>.ok none h
@[simp] def pAt (a:EF):OF:=fun σ h=>(a σ h).bind fun x h=>match x with | .int i=>.ok (some i) h|_=>.bad
@[simp] def cW (a:EF) (lo hi:OF):EF:=fun σ h=>(a σ h).bind fun x h=>(lo σ h).bind fun i h=>(hi σ h).bind fun j h=>match x with
  | .tup l=>if sIx l.length 0 i=0∧sIx l.length l.length j=l.length then .bad else .ok (.tup (cut l i j)) h
  | x=>match b4 h x with|some l=>.ok (.ref h.length) (h++[.lst (cut l i j)])|none=>.bad
def bF:List Int→List Int→Bool
  | [],[]=>false
  | [],_ :: _=>true
  | _ :: _,[]=>false
  | x :: xs,y :: ys=>if x=y then bF xs ys else decide (x < y)
def gH:List D→Option (List (List Int))
  | []=>some []
  | .tup l :: r=>match fS l,gH r with|some a,some b=>some (a :: b)|_,_=>none
  | _=>none
def rE:List (List Int)→Bool
  | a :: b :: r => !bF b a && rE (b :: r)
  | _=>true
@[simp] def ni (l:List D):Option (List D):=match gH l with
  | some r=>if l.length < 64∧rE r=true∧r.all (fun x => !x.isEmpty)=true then some l else none
  | none=>none
@[simp] def kX (a:EF):LF:=fun σ h=>(a σ h).bind fun x h=>match b4 h x with
  | some l=>match ni l with|some l=>.ok l h|none=>.bad
  | none=>.bad
@[simp] def au (F:Fn) (r:LF):EF:=fun σ h=>(r σ h).bind fun xs h=>F xs h
abbrev IF:=Sd→Hd→Res (List D × Option Nat)
@[simp] def bM (a:EF):IF:=fun σ h=>(a σ h).bind fun x h=>match x with
  | .int n=>if -1000000≤n∧n≤1000000 then .ok ((List.range n.toNat).map (fun k:Nat=>.int k),none) h else .bad
  | _=>.bad
@[simp] def dq (a:EF):IF:=fun σ h=>(a σ h).bind fun x h=>match x with
  | .tup l=>.ok (l,none) h
  | .lit l=>.ok (l,none) h
  | .ref n=>match h[n]? with|some (.lst l)=>.ok (l,some n) h|_=>.bad
  | _=>.bad
@[simp] def BF (a:EF):IF:=fun σ h=>(a σ h).bind fun x h=>match x with
  | .tup l=>.ok ((List.range l.length).zip l |>.map fun p=>.tup [.int (p.1:Nat),p.2],none) h
  | _=>.bad
noncomputable section
open Classical
def jT (g:Option Nat) (all:List D) (h:Hd):Prop:=match g with|none=>True|some n=>h[n]? = some (.lst all)
abbrev GF:=D→Sd→Option Sd
@[simp] def gN (i:Nat):GF:=fun d σ=>some (σ.set i (some d))
@[simp] def gT (l:List Nat):GF:=fun d σ=>match d with
  | .tup xs=>if xs.length=l.length then some ((l.zip xs).foldl (fun σ p => σ.set p.1 (some p.2)) σ) else none
  | _=>none
@[simp] def aB (a b:SF):SF:=fun σ h=>match a σ h with | .nx σ h=>b σ h|r=>r
@[simp] def bI:SF:=fun σ h=>.nx σ h
@[simp] def outE (r:Res D) (σ:Sd) (k:D→Hd→Out):Out:=match r with | .ok d h=>k d h | .exc x h=>.exc x σ h | .bad=>.bad
@[simp] def aK (g:GF) (a:EF):SF:=fun σ h=>outE (a σ h) σ fun d h=>match g d σ with|some σ=>.nx σ h|none=>.bad
@[simp] def ba (a:EF):SF:=fun σ h=>outE (a σ h) σ fun d h=>.rt d h
@[simp] def eC (a:EF):SF:=fun σ h=>outE (a σ h) σ fun _ h=>.nx σ h
@[simp] def sIf (t:TF) (a b:SF):SF:=fun σ h=>match t σ h with | .ok c h=>if c then a σ h else b σ h | .exc x h=>.exc x σ h | .bad=>.bad
def DH:SF:=fun _ _=>.bad
@[simp] def GT (x i e:EF):SF:=fun σ h=>outE (e σ h) σ fun d h=>outE (x σ h) σ fun p h=>outE (i σ h) σ fun j h=>match p,j with
  | .ref n,.int j=>match h[n]? with
    | some (.lst l)=>match ixN l.length j with
      | some k=>.nx σ (h.set n (.lst (l.set k d)))
      | none=>.bad
    | _=>.bad
  | _,_=>.bad
@[simp] def FB:O2:=fun p d h=>match p with
  | .ref n=>match h[n]? with
    | some (.lst l)=>if l.length < SZ then .ok .non (h.set n (.lst (l++[d]))) else .bad
    | _=>.bad
  | _=>.bad
@[simp] def eD (x e:EF):EF:=fun σ h=>(x σ h).bind fun p h=>match p with
  | .ref n=>match h[n]? with
    | some (.lst _)=>(e σ h).bind fun d h=>FB (.ref n) d h
    | _=>.bad
  | _=>.bad
def iQ (g:Option Nat) (all:List D) (tg:GF) (b:SF):List D→SF
  | [],σ,h=>if jT g all h then .nx σ h else .bad
  | x :: xs,σ,h=>if jT g all h then match tg x σ with
      | some σ=>match b σ h with
        | .nx σ h=>iQ g all tg b xs σ h
        | .ct σ h=>iQ g all tg b xs σ h
        | .bk σ h=>.nx σ h
        | r=>r
      | none=>.bad
    else .bad
@[simp] def gI (it:IF) (tg:GF) (b:SF):SF:=fun σ h=>match it σ h with
  | .ok (l,g) h=>iQ g l tg b l σ h
  | .exc x h=>.exc x σ h
  | .bad=>.bad
def cL (t:TF) (b:SF):Nat→SF
  | 0,_,_=>.bad
  | n + 1,σ,h=>match t σ h with
    | .ok true h=>match b σ h with
      | .nx σ h=>cL t b n σ h
      | .ct σ h=>cL t b n σ h
      | .bk σ h=>.nx σ h
      | r=>r
    | .ok false h=>.nx σ h
    | .exc x h=>.exc x σ h
    | .bad=>.bad
def DI (t:TF) (b:SF):Sd→Hd→Nat:=fun σ h=>if ex:∃ n,cL t b n σ h ≠ .bad then Classical.choose ex else 0
def kY (t:TF) (b:SF):SF:=fun σ h=>cL t b (DI t b σ h) σ h
@[simp] def iA:List TF→TF
  | [],_,h=>.ok true h
  | t :: r,σ,h=>(t σ h).bind fun b h=>if b then iA r σ h else .ok false h
def bX (g:Option Nat) (all:List D) (tg:GF) (cs:List TF) (e:EF):List D→Sd→Hd→Res (List D)
  | [],_,h=>if jT g all h then .ok [] h else .bad
  | x :: xs,σ,h=>if jT g all h then match tg x σ with
      | some σ=>(iA cs σ h).bind fun b h=>if b then (e σ h).bind fun d h=>(bX g all tg cs e xs σ h).bind fun ds h=>.ok (d :: ds) h
        else bX g all tg cs e xs σ h
      | none=>.bad
    else .bad
@[simp] def fU (nl:Nat) (caps:List Nat) (σ:Sd):Sd:=List.replicate nl none++caps.map fun i=>slot σ i
@[simp] def bz (nl:Nat) (caps:List Nat) (it:IF) (tg:GF) (cs:List TF) (e:EF):LF:=fun σ h=>(it σ h).bind fun p h =>
  bX p.2 p.1 tg cs e p.1 (fU nl caps σ) h
mutual
def pure? : D→Bool
  | .ref _=>false
  | .tup l=>iB l
  | .lit l=>iB l
  | .exn _ l=>iB l
  | _=>true
def iB:List D→Bool
  | []=>true
  | x :: xs=>pure? x && iB xs
end
def uL:dm→Bool
  | .lst l=>iB l
  | .dct l=>l.all fun p=>pure? p.2
def BG (h h':Hd):Prop:=∀ n c,n < h.length→h'[n]? = some c→h[n]? = some c∨uL c=true
def letGo (h:Hd) (r:Res D):Res D:=match r with
  | .ok d h'=>if pure? d=true∧BG h h' then .ok d (h'.take h.length) else .ok d h'
  | r=>r
def runB (n:Nat) (b:SF):Fn:=fun ds h=>match b (ds.map some++List.replicate (n - ds.length) none) h with
  | .nx _ h=>.ok .non h
  | .rt d h=>.ok d h
  | .exc x _ h=>.exc x h
  | _=>.bad
def bJ (np n:Nat) (b:SF):Fn:=fun ds h=>if ds.length=np then letGo h (runB n b ds h) else .bad
end
end Fm
set_option Elab.async false
set_option linter.all false
set_option maxRecDepth 100000
namespace Fm
open PySem PySem.Spec L2
def toS (x:List Nat):Str:=⟨x.toArray⟩
def mx (K:PySem.W.Frag) (H:Hp) (a:Addr) (xs:List V):Prop :=
  (∃ o,H a=some (.frz o (.lst xs))) ∨
    ∃ (o:Obj) (its:Array Value) (n:Nat),K.lookup a=some o∧o.cls=.type "list" ∧ o.dict=none∧o.data=.seq its n∧its.size≤sizeLine∧aS xs its.toList
section
variable (K:PySem.W.Frag) (ρ:List Addr) (H:Hp)
mutual
def RD:D→V→Prop
  | .non,v=>v=.non
  | .bl b,v=>v=.bl b
  | .int i,v=>v=.int i
  | .str x,v=>v=.str (toS x)
  | .tup l,v=>∃ p vs,v=.ref p∧H p=some (.tup vs)∧RDs l vs
  | .lit l,v=>∃ p vs,v=.ref p∧mx K H p vs∧RDs l vs
  | .ref n,v=>∃ a,ρ[n]? = some a∧v=.ref a
  | .exn c l,v=>l=[] ∧ ∃ a C,v=.ref a∧H a=some (GS a C)∧PySem.W.nsIn K mainGlobals (Str.ofString c)=some (some (.ref C))
def RDs:List D→List V→Prop
  | [],vs=>vs=[]
  | d :: ds,vs=>∃ v r,vs=v :: r∧RD d v∧RDs ds r
end
def RC:dm→Addr→Prop
  | .lst l,a=>∃ vs,H a=some (.lst vs)∧RDs K ρ H l vs
  | .dct l,a=>∃ kvs,H a=some (.dK kvs)∧kvs.map (·.1)=l.map (fun p=>(Sum.inl p.1:Key))∧RDs K ρ H (l.map (·.2)) (kvs.map (·.2))
structure RH (hd:Hd):Prop where
  len : ρ.length=hd.length
  nd : ρ.Nodup
  cel:∀ (n:Nat) c a,hd[n]? = some c → ρ[n]? = some a→RC K ρ H c a
structure RSt (σd:Sd) (σ:St):Prop where
  len : σd.length = σ.length
  at':∀ i d,slot σd i=some d → ∃ v,σ[i]? = some (some v)∧RD K ρ H d v
structure RS (σd:Sd) (hd:Hd) (σ:St):Prop where
  hp:RH K ρ H hd
  st:RSt K ρ H σd σ
end
structure Ext (ρ:List Addr) (H:Hp) (ρ':List Addr) (H':Hp):Prop where
  pre:∃ t,ρ' = ρ ++ t
  new:∀ a ∈ ρ',a ∈ ρ ∨H a=none
  frame:∀ p o,H p=some o→p ∉ ρ → H' p=some o
section
variable {K:PySem.W.Frag} {ρ ρ' ρ'':List Addr} {H H' H'':Hp} {hd hd':Hd} {σd σd':Sd} {σ σ':St}
theorem Ext.refl:Ext ρ H ρ H:=⟨⟨[],by simp⟩,fun _ h=>.inl h,fun _ _ h _=>h⟩
theorem Ext.out (e:Ext ρ H ρ' H'){p:Addr}{o:HO}(h:H p=some o)(n:p ∉ ρ):p ∉ ρ':=fun z=>by
  rcases e.new p z with q|q
  · exact n q
  · rw [h] at q;cases q
theorem Ext.trans (a:Ext ρ H ρ' H')(b:Ext ρ' H' ρ'' H''):Ext ρ H ρ'' H'' where
  pre:=by
    obtain⟨t,rfl⟩:=a.pre
    obtain⟨u,rfl⟩:=b.pre
    exact⟨t++u,by simp⟩
  new:=fun x hx=>by
    rcases b.new x hx with q|q
    · exact a.new x q
    · cases e:H x with
      | none=>exact .inr rfl
      | some o =>
        by_cases hn:x ∈ ρ
        · exact .inl hn
        · rw [a.frame x o e hn] at q;cases q
  frame:=fun p o h n=>b.frame p o (a.frame p o h n) (a.out h n)
theorem Ext.same (s:kW H H'):Ext ρ H ρ H':=⟨⟨[],by simp⟩,fun _ h=>.inl h,fun p o h _=>s p o h⟩
theorem Ext.get (e:Ext ρ H ρ' H'){n:Nat}{a:Addr}(h : ρ[n]? = some a) : ρ'[n]? = some a:=by
  obtain⟨t,rfl⟩:=e.pre
  rw [List.getElem?_append_left (List.getElem?_eq_some_iff.mp h).1]
  exact h
theorem RH.mut (r:RH K ρ H hd){a:Addr}(h:a ∈ ρ):(∃ vs,H a=some (.lst vs)) ∨ ∃ kvs,H a=some (.dK kvs):=by
  obtain⟨n,hn⟩:=List.getElem?_of_mem h
  have hl:=(List.getElem?_eq_some_iff.mp hn).1
  have hc:hd[n]? = some (hd[n]'(by rw [← r.len];exact hl)):=by simp
  have q:=r.cel n _ a hc hn
  cases e:hd[n]'(by rw [← r.len];exact hl) with
  | lst l=>rw [e] at q;obtain⟨vs,h1,_⟩:=q;exact .inl ⟨vs,h1⟩
  | dct l=>rw [e] at q;obtain⟨vs,h1,_⟩:=q;exact .inr ⟨vs,h1⟩
theorem RH.noTup (r:RH K ρ H hd){a:Addr}{vs:List V}(h:H a=some (.tup vs)):a ∉ ρ:=fun z=>by
  rcases r.mut z with ⟨_,q⟩|⟨_,q⟩<;>(rw [h] at q;cases q)
theorem RH.noFrz (r:RH K ρ H hd){a:Addr}{o:Obj}{u:HO}(h:H a=some (.frz o u)):a ∉ ρ:=fun z=>by
  rcases r.mut z with ⟨_,q⟩|⟨_,q⟩<;>(rw [h] at q;cases q)
theorem RH.noExt (r:RH K ρ H hd){a:Addr}{φ : Heap→Prop}(h:H a=some (.ext φ)):a ∉ ρ:=fun z=>by
  rcases r.mut z with ⟨_,q⟩|⟨_,q⟩<;>(rw [h] at q;cases q)
structure Kp (ρ:List Addr) (H:Hp) (ρ':List Addr) (H':Hp):Prop where
  get:∀ (n:Nat) a,ρ[n]? = some a → ρ'[n]? = some a
  tup:∀ a vs,H a=some (.tup vs)→H' a=some (.tup vs)
  frz:∀ a o u,H a=some (.frz o u)→H' a=some (.frz o u)
  ext:∀ a φ,H a=some (.ext φ)→H' a=some (.ext φ)
theorem RH.kp (r:RH K ρ H hd)(e:Ext ρ H ρ' H'):Kp ρ H ρ' H' :=
  ⟨fun _ _ h=>e.get h,fun _ _ h=>e.frame _ _ h (r.noTup h),fun _ _ _ h=>e.frame _ _ h (r.noFrz h),fun _ _ h=>e.frame _ _ h (r.noExt h)⟩
theorem Kp.same (s:kW H H'):Kp ρ H ρ H':=⟨fun _ _ h=>h,fun _ _ h=>s _ _ h,fun _ _ _ h=>s _ _ h,fun _ _ h=>s _ _ h⟩
theorem mx.mono {a:Addr}{xs:List V}(k:Kp ρ H ρ' H')(h:mx K H a xs):mx K H' a xs:=by
  rcases h with ⟨o,h⟩|h
  · exact .inl ⟨o,k.frz _ _ _ h⟩
  · exact .inr h
mutual
theorem RD.mono (k:Kp ρ H ρ' H'):∀ {d:D} {v:V},RD K ρ H d v→RD K ρ' H' d v
  | .non,_,h=>by simp only [RD] at h ⊢;exact h
  | .bl _,_,h=>by simp only [RD] at h ⊢;exact h
  | .int _,_,h=>by simp only [RD] at h ⊢;exact h
  | .str _,_,h=>by simp only [RD] at h ⊢;exact h
  | .tup l,_,h=>by
    simp only [RD] at h ⊢
    obtain⟨p,vs,e,h1,h2⟩:=h
    exact⟨p,vs,e,k.tup _ _ h1,RDs.mono k h2⟩
  | .lit l,_,h=>by
    simp only [RD] at h ⊢
    obtain⟨p,vs,e,h1,h2⟩:=h
    exact⟨p,vs,e,h1.mono k,RDs.mono k h2⟩
  | .ref n,_,h=>by
    simp only [RD] at h ⊢
    obtain⟨a,h1,h2⟩:=h
    exact⟨a,k.get _ _ h1,h2⟩
  | .exn _ _,_,h=>by
    simp only [RD] at h ⊢
    obtain⟨e0,a,C,e,h1,h2⟩:=h
    exact⟨e0,a,C,e,k.ext _ _ h1,h2⟩
theorem RDs.mono (k:Kp ρ H ρ' H'):∀ {l:List D} {vs:List V},RDs K ρ H l vs→RDs K ρ' H' l vs
  | [],_,h=>by simp only [RDs] at h ⊢;exact h
  | d :: ds,_,h=>by
    simp only [RDs] at h ⊢
    obtain⟨v,r,e,h1,h2⟩:=h
    exact⟨v,r,e,RD.mono k h1,RDs.mono k h2⟩
end
theorem RDs.nil:RDs K ρ H [] []:=by simp only [RDs]
theorem RDs.cons {d:D}{v:V}{ds:List D}{vs:List V}(h:RD K ρ H d v)(t:RDs K ρ H ds vs):RDs K ρ H (d :: ds) (v :: vs):=by
  simp only [RDs];exact⟨v,vs,rfl,h,t⟩
theorem RDs.length:∀ {l:List D} {vs:List V},RDs K ρ H l vs→l.length=vs.length
  | [],_,h=>by simp only [RDs] at h;subst h;rfl
  | d :: ds,_,h=>by
    simp only [RDs] at h
    obtain⟨v,r,e,h1,h2⟩:=h
    subst e
    simp [RDs.length h2]
theorem RDs.get:∀ {l:List D} {vs:List V} {i:Nat} {d:D},RDs K ρ H l vs→l[i]? = some d → ∃ v,vs[i]? = some v∧RD K ρ H d v
  | [],_,i,_,_,e=>by simp at e
  | d :: ds,_,0,_,h,e=>by
    simp only [RDs] at h
    obtain⟨v,r,e',h1,h2⟩:=h
    subst e'
    simp at e
    subst e
    exact⟨v,rfl,h1⟩
  | d :: ds,_,i + 1,x,h,e=>by
    simp only [RDs] at h
    obtain⟨v,r,e',h1,h2⟩:=h
    subst e'
    obtain⟨w,hw,q⟩:=RDs.get (i:=i) (d:=x) h2 (by simpa using e)
    exact⟨w,by simpa using hw,q⟩
theorem RDs.set {d:D}{v:V}(h:RD K ρ H d v):∀ {l:List D} {vs:List V} (i:Nat),RDs K ρ H l vs→RDs K ρ H (l.set i d) (vs.set i v)
  | [],_,_,q=>by simp only [RDs] at q;subst q;exact RDs.nil
  | x :: xs,_,i,q=>by
    simp only [RDs] at q
    obtain⟨w,r,e,h1,h2⟩:=q
    subst e
    cases i with
    | zero=>exact RDs.cons h h2
    | succ i=>exact RDs.cons h1 (RDs.set h i h2)
theorem RDs.append:∀ {l l':List D} {vs vs':List V},RDs K ρ H l vs→RDs K ρ H l' vs'→RDs K ρ H (l++l') (vs++vs')
  | [],_,_,_,h,q=>by simp only [RDs] at h;subst h;exact q
  | d :: ds,_,_,_,h,q=>by
    simp only [RDs] at h
    obtain⟨v,r,e,h1,h2⟩:=h
    subst e
    exact RDs.cons h1 (RDs.append h2 q)
theorem RDs.take:∀ {l:List D} {vs:List V} (n:Nat),RDs K ρ H l vs→RDs K ρ H (l.take n) (vs.take n)
  | _,_,0,_=>by simp;exact RDs.nil
  | [],_,n + 1,h=>by simp only [RDs] at h;subst h;exact RDs.nil
  | d :: ds,_,n + 1,h=>by
    simp only [RDs] at h
    obtain⟨v,r,e,h1,h2⟩:=h
    subst e
    exact RDs.cons h1 (RDs.take n h2)
theorem RDs.drop:∀ {l:List D} {vs:List V} (n:Nat),RDs K ρ H l vs→RDs K ρ H (l.drop n) (vs.drop n)
  | _,_,0,h=>by simpa using h
  | [],_,n + 1,h=>by simp only [RDs] at h;subst h;exact RDs.nil
  | d :: ds,_,n + 1,h=>by
    simp only [RDs] at h
    obtain⟨v,r,e,h1,h2⟩:=h
    subst e
    simpa using RDs.drop n h2
theorem RC.mono {c:dm}{a:Addr}(k:Kp ρ H ρ' H')(e:H' a=H a)(h:RC K ρ H c a):RC K ρ' H' c a:=by
  cases c with
  | lst l=>obtain⟨vs,h1,h2⟩:=h;exact⟨vs,e.trans h1,h2.mono k⟩
  | dct l=>obtain⟨vs,h1,h2,h3⟩:=h;exact⟨vs,e.trans h1,h2,h3.mono k⟩
theorem RH.same (r:RH K ρ H hd)(s:kW H H'):RH K ρ H' hd :=
  ⟨r.len,r.nd,fun n c a h1 h2=>(r.cel n c a h1 h2).mono (Kp.same s) (by
    rcases r.mut (List.mem_of_getElem? h2) with ⟨_,q⟩|⟨_,q⟩<;>rw [q,s _ _ q])⟩
theorem RSt.mono (k:Kp ρ H ρ' H')(r:RSt K ρ H σd σ):RSt K ρ' H' σd σ :=
  ⟨r.len,fun i d h=>let ⟨v,h1,h2⟩:=r.at' i d h;⟨v,h1,h2.mono k⟩⟩
theorem RS.same (r:RS K ρ H σd hd σ)(s:kW H H'):RS K ρ H' σd hd σ:=⟨r.hp.same s,r.st.mono (Kp.same s)⟩
theorem cF {p:Addr}{o:HO}(h:H p=none):kW H (upd H p o):=fun b u e=>by
  rw [aF (aG e h)];exact e
theorem RH.alloc (r:RH K ρ H hd){p:Addr}{l:List D}{vs:List V}(hp:H p=some (.lst vs))(hn:p ∉ ρ)(h:RDs K ρ H l vs):RH K (ρ ++ [p]) H (hd++[.lst l]):=by
  have k:Kp ρ H (ρ ++ [p]) H:=⟨fun n a e=>by rw [List.getElem?_append_left (List.getElem?_eq_some_iff.mp e).1];exact e,fun _ _ h=>h,fun _ _ _ h=>h,fun _ _ h=>h⟩
  refine⟨by simp [r.len],?_,fun n c a h1 h2 => ?_⟩
  · rw [List.nodup_append]
    exact⟨r.nd,by simp,fun a ha b hb=>by simp at hb;subst hb;intro e;subst e;exact hn ha⟩
  · by_cases hlt:n < hd.length
    · rw [List.getElem?_append_left hlt] at h1
      rw [List.getElem?_append_left (by rw [r.len];exact hlt)] at h2
      exact (r.cel n c a h1 h2).mono k rfl
    · have e1:n=hd.length:=by
        have:=(List.getElem?_eq_some_iff.mp h1).1
        simp at this
        omega
      subst e1
      simp at h1
      subst h1
      rw [← r.len] at h2
      simp at h2
      subst h2
      exact⟨vs,hp,h.mono k⟩
theorem uM {α : Type}:∀ {l:List α},l.Nodup → ∀ {i j:Nat} {x : α},l[i]? = some x→l[j]? = some x→i=j
  | [],_,i,_,_,e,_=>by simp at e
  | a :: l,nd,0,0,_,_,_=>rfl
  | a :: l,nd,0,j + 1,x,e,e'=>by
    simp at e e'
    subst e
    exact absurd (List.mem_of_getElem? e') (List.nodup_cons.mp nd).1
  | a :: l,nd,i + 1,0,x,e,e'=>by
    simp at e e'
    subst e'
    exact absurd (List.mem_of_getElem? e) (List.nodup_cons.mp nd).1
  | a :: l,nd,i + 1,j + 1,x,e,e'=>by
    simp at e e'
    rw [uM (List.nodup_cons.mp nd).2 e e']
theorem RH.write (r:RH K ρ H hd){n:Nat}{p:Addr}{l:List D}{vs:List V}(hp : ρ[n]? = some p)(hn:n < hd.length)(h:RDs K ρ H l vs):RH K ρ (upd H p (.lst vs)) (hd.set n (.lst l)):=by
  have k:Kp ρ H ρ (upd H p (.lst vs)):=by
    have hm:=List.mem_of_getElem? hp
    refine⟨fun _ _ h=>h,fun a us e => ?_,fun a o u e => ?_,fun a φ e => ?_⟩
    · rw [aF (fun z=>r.noTup e (by rw [z];exact hm))];exact e
    · rw [aF (fun z=>r.noFrz e (by rw [z];exact hm))];exact e
    · rw [aF (fun z=>r.noExt e (by rw [z];exact hm))];exact e
  refine⟨by simp [r.len],r.nd,fun m c a h1 h2 => ?_⟩
  by_cases e:n=m
  · subst e
    rw [List.getElem?_set_self hn] at h1
    cases h1
    rw [hp] at h2
    cases h2
    exact⟨vs,bB,h.mono k⟩
  · rw [List.getElem?_set_ne e] at h1
    have ne:a≠p:=fun z=>by
      subst z
      exact e (uM r.nd hp h2)
    exact (r.cel m c a h1 h2).mono k (aF ne)
theorem Ext.write {p:Addr}{o:HO}(hp:p ∈ ρ):Ext ρ H ρ (upd H p o) :=
  ⟨⟨[],by simp⟩,fun _ h=>.inl h,fun q u e n=>by rw [aF (fun z=>n (by rw [z];exact hp))];exact e⟩
theorem Ext.alloc {p:Addr}(h:H p=none){o:HO}:Ext ρ H (ρ ++ [p]) (upd H p o) :=
  ⟨⟨[p],rfl⟩,fun a ha=>by
    rcases List.mem_append.mp ha with q|q
    · exact .inl q
    · simp at q;subst q;exact .inr h,fun q u e _=>cF h q u e⟩
theorem RS.ext (r:RS K ρ H σd hd σ)(e:Ext ρ H ρ' H')(h:RH K ρ' H' hd'):RS K ρ' H' σd hd' σ:=⟨h,r.st.mono (r.hp.kp e)⟩
end
end Fm
set_option Elab.async false
set_option linter.all false
set_option maxRecDepth 100000
namespace Fm
open PySem PySem.Spec L2
abbrev VR (α β : Type):=List Addr→Hp → α → β → Prop
section
variable (K:PySem.W.Frag)
def bj {α β : Type} (R:VR α β) (ρ:List Addr) (H:Hp) (σd:Sd) (σ:St) (r:Res α) (Q : β → Hp→Prop):Prop:=match r with
  | .ok a hd'=>∀ b H' ρ',Ext ρ H ρ' H'→RS K ρ' H' σd hd' σ → R ρ' H' a b→Q b H'
  | _=>False
def jD {α β : Type} (R:VR α β) (f:Sd→Hd→Res α):St→Hp→(β → Hp→Prop)→Prop:=fun σ H Q =>
  ∃ ρ σd hd,RS K ρ H σd hd σ ∧ bj K R ρ H σd σ (f σd hd) Q
abbrev rD:VR D V:=fun ρ H d v=>RD K ρ H d v
abbrev rDs:VR (List D) (List V):=fun ρ H d v=>RDs K ρ H d v
abbrev rB:VR Bool Bool:=fun _ _ a b=>a=b
abbrev rO:VR (Option Int) (Option Int):=fun _ _ a b=>a=b
def rQ:VR (List D) V:=fun ρ H l v=>∃ p vs,v=.ref p∧(SqL K H p vs∨H p=some (.tup vs))∧RDs K ρ H l vs
def BH (ρ:List Addr) (H:Hp) (σd:Sd) (σ:St) (r:Res (List D)) (Q:VK):Prop:=match r with
  | .ok l hd'=>∀ q vs H' ρ',Ext ρ H ρ' H'→RS K ρ' H' σd hd' σ → H q=none→H' q=some (.lst vs)→q ∉ ρ'→RDs K ρ' H' l vs→Q (.ref q) H'
  | _=>False
def GU (f:LF):TE:=fun σ H Q=>∃ ρ σd hd,RS K ρ H σd hd σ ∧ BH K ρ H σd σ (f σd hd) Q
def cq (ρ:List Addr) (H:Hp) (o:Out) (E:uG):Prop:=match o with
  | .nx σd hd=>∀ σ H' ρ',Ext ρ H ρ' H'→RS K ρ' H' σd hd σ → E.nx σ H'
  | .bk σd hd=>∀ σ H' ρ',Ext ρ H ρ' H'→RS K ρ' H' σd hd σ → E.bk σ H'
  | .ct σd hd=>∀ σ H' ρ',Ext ρ H ρ' H'→RS K ρ' H' σd hd σ → E.ct σ H'
  | .rt d hd=>∀ v H' ρ',Ext ρ H ρ' H'→RH K ρ' H' hd→RD K ρ' H' d v→E.rt v H'
  | _=>False
def EG (f:SF):TS:=fun E σ H=>∃ ρ σd hd,RS K ρ H σd hd σ ∧ cq K ρ H (f σd hd) E
end
def ME (X:Cx) (e:Expr) (f:EF):Prop:=PE X e (jD X.K (rD X.K) f)
def MQ (X:Cx) (e:Expr) (f:LF):Prop:=PE X e (jD X.K (rQ X.K) f)
def MF (X:Cx) (e:Expr) (f:LF):Prop:=PE X e (GU X.K f)
def MT (X:Cx) (e:Expr) (f:TF):Prop:=PT X e (jD X.K rB f)
def MW (X:Cx) (e:Expr) (f:TF):Prop:=PW X e (jD X.K rB f)
def MA (X:Cx) (es:List Expr) (f:LF):Prop:=PA X es (jD X.K (rDs X.K) f)
def MS (X:Cx) (s:Stmt) (f:SF):Prop:=PS X s (EG X.K f)
def MSs (X:Cx) (s:List Stmt) (f:SF):Prop:=PSs X s (EG X.K f)
section
variable {X:Cx}
theorem PE.imp {e:Expr}{t u:TE}(h:PE X e t)(i:∀ σ H Q,u σ H Q→t σ H Q):PE X e u:=fun pins s σ H Q I q=>h pins s σ H Q I (i σ H Q q)
theorem PT.imp {e:Expr}{t u:TT}(h:PT X e t)(i:∀ σ H Q,u σ H Q→t σ H Q):PT X e u:=fun pins s σ H Q I q=>h pins s σ H Q I (i σ H Q q)
theorem PW.imp {e:Expr}{t u:TT}(h:PW X e t)(i:∀ σ H Q,u σ H Q→t σ H Q):PW X e u:=fun w pins s σ H Q I q=>h w pins s σ H Q I (i σ H Q q)
theorem PA.imp {e:List Expr}{t u:TA}(h:PA X e t)(i:∀ σ H Q,u σ H Q→t σ H Q):PA X e u:=fun p pins s σ H Q I q=>h p pins s σ H Q I (i σ H Q q)
theorem PS.imp {e:Stmt}{t u:TS}(h:PS X e t)(i:∀ D σ H,u D σ H→t D σ H):PS X e u:=fun pins s σ H D I q=>h pins s σ H D I (i D σ H q)
theorem PSs.imp {e:List Stmt}{t u:TS}(h:PSs X e t)(i:∀ D σ H,u D σ H→t D σ H):PSs X e u:=fun pins s σ H D I q=>h pins s σ H D I (i D σ H q)
end
section
variable {K:PySem.W.Frag} {ρ ρ':List Addr} {H H':Hp} {hd hd':Hd} {σd:Sd} {σ:St} {α β α' β':Type} {R:VR α β} {R':VR α' β'}
theorem bj.here {a : α}{b : β}{Q : β → Hp→Prop}(h:bj K R ρ H σd σ (.ok a hd) Q)(r:RS K ρ H σd hd σ)(q:R ρ H a b):Q b H:=h b H ρ Ext.refl r q
theorem bj.at {a : α}{b : β}{Q : β → Hp→Prop}(h:bj K R ρ H σd σ (.ok a hd) Q)(e:Ext ρ H ρ' H')(r:RS K ρ' H' σd hd σ)(q:R ρ' H' a b):Q b H':=h b H' ρ' e r q
theorem bj.imp {r:Res α}{Q Q' : β → Hp→Prop}(h:bj K R ρ H σd σ r Q)(i:∀ b H',Q b H'→Q' b H'):bj K R ρ H σd σ r Q':=by
  cases r with
  | ok a h'=>exact fun b H' ρ' e s q=>i b H' (h b H' ρ' e s q)
  | exc x h'=>exact h
  | bad=>exact h
theorem bj.ext {r:Res α}{Q : β → Hp→Prop}(e:Ext ρ H ρ' H')(h:bj K R ρ H σd σ r Q):bj K R ρ' H' σd σ r Q:=by
  cases r with
  | ok a h'=>exact fun b H'' ρ'' e' s q=>h b H'' ρ'' (e.trans e') s q
  | exc x h'=>exact h
  | bad=>exact h
theorem bj.bind {r:Res α}{k : α → Hd→Res α'}{Q : β'→Hp→Prop}(h:bj K R' ρ H σd σ (r.bind k) Q) :
    bj K R ρ H σd σ r (fun b H'=>∃ ρ' a hd',Ext ρ H ρ' H'∧RS K ρ' H' σd hd' σ ∧ R ρ' H' a b∧bj K R' ρ' H' σd σ (k a hd') Q):=by
  cases r with
  | ok a h'=>exact fun b H' ρ' e s q=>⟨ρ',a,h',e,s,q,bj.ext e h⟩
  | exc x h'=>exact h
  | bad=>exact h
theorem cq.ext {o:Out}{E:uG}(e:Ext ρ H ρ' H')(h:cq K ρ H o E):cq K ρ' H' o E:=by
  cases o with
  | nx σ h'=>exact fun σ' H'' ρ'' e' s=>h σ' H'' ρ'' (e.trans e') s
  | bk σ h'=>exact fun σ' H'' ρ'' e' s=>h σ' H'' ρ'' (e.trans e') s
  | ct σ h'=>exact fun σ' H'' ρ'' e' s=>h σ' H'' ρ'' (e.trans e') s
  | rt d h'=>exact fun v H'' ρ'' e' s q=>h v H'' ρ'' (e.trans e') s q
  | exc x σ h'=>exact h
  | bad=>exact h
end
section
variable {X:Cx} {pos:Pos}
theorem FC {i:Nat} {x:Str} (hN:X.N[i]? = some x) (hv:Vis X.env.scope x) (hd:(x == ("__debug__" : Str))=false:=by decide) (hcd:(x == ("__classdict__" : Str))=false:=by decide):ME X (.Name x pos) (aa i):=by
  refine PE.imp (ET hN hv hd hcd) fun σ H Q ⟨ρ,σd,hd,r,h⟩ => ?_
  unfold aa at h
  cases e:slot σd i with
  | none=>rw [e] at h;exact h.elim
  | some d =>
    rw [e] at h
    obtain⟨v,h1,h2⟩:=r.st.at' i d e
    exact⟨v,h1,h.here r h2⟩
theorem rF {K:PySem.W.Frag}{d:D}{v:V}(hv:∀ ρ H,RD K ρ H d v):∀ σ H Q,jD K (rD K) (fC d) σ H Q→tC v σ H Q:=fun _ H _ ⟨ρ,_,_,r,h⟩=>h.here r (hv ρ H)
theorem ag {i:Int}{j}:ME X (.Constant (.int i) j pos) (fC (.int i)):=PE.imp Bm (rF fun _ _=>by simp only [RD])
theorem gj {b j}:ME X (.Constant (.bool b) j pos) (fC (.bl b)):=PE.imp Gp (rF fun _ _=>by simp only [RD])
theorem d8 {j}:ME X (.Constant .none j pos) (fC .non):=PE.imp EU (rF fun _ _=>by simp only [RD])
theorem hJ {x:Str}{j}(l:List Nat)(h:x=toS l):ME X (.Constant (.str x) j pos) (fC (.str l)):=PE.imp EV (rF fun _ _=>by simp only [RD];rw [h])
theorem me2 {a b:Expr}{fa fb:EF}{r:R2}{g:O2}{e:Expr}(h:PE X e (tOp r (jD X.K (rD X.K) fa) (jD X.K (rD X.K) fb)))
    (hg:∀ ρ H σd hd σ d k v w Q,RS X.K ρ H σd hd σ → RD X.K ρ H d v→RD X.K ρ H k w→bj X.K (rD X.K) ρ H σd σ (g d k hd) Q→r v w H Q):ME X e (ak g fa fb):=by
  refine PE.imp h fun σ H Q ⟨ρ,σd,hd,rs,p⟩ => ?_
  refine⟨ρ,σd,hd,rs,(bj.bind (R:=rD X.K) p).imp fun v H1 ⟨ρ1,d,hd1,e1,rs1,rv,p1⟩ => ?_⟩
  refine⟨ρ1,σd,hd1,rs1,(bj.bind (R:=rD X.K) p1).imp fun w H2 ⟨ρ2,k,hd2,e2,rs2,rw',p2⟩ => ?_⟩
  exact hg ρ2 H2 σd hd2 σ d k v w Q rs2 (rv.mono (rs1.hp.kp e2)) rw' p2
def Og (K:PySem.W.Frag) (g:O2) (r:R2):Prop:=∀ ρ H σd hd σ d k v w Q,RS K ρ H σd hd σ → RD K ρ H d v→RD K ρ H k w→bj K (rD K) ρ H σd σ (g d k hd) Q→r v w H Q
theorem aP {a b:Expr}{fa fb:EF}{op:Operator}{r:R2}{g:O2}(ho:OpR X (binaryOp op) r)(hg:Og X.K g r)(ha:ME X a fa)(hb:ME X b fb):ME X (.BinOp a op b pos) (ak g fa fb) :=
  me2 (a:=a) (b:=b) (GC ho ha hb) hg
theorem gu {a b:Expr}{fa fb:EF}{op:CmpOp}{r:R2}{g:O2}(ho:OpR X (compareOp op) r)(hg:Og X.K g r)(ha:ME X a fa)(hb:ME X b fb)(hm:behindInMarks op b=false):ME X (.Compare a [op] [b] pos) (ak g fa fb) :=
  me2 (a:=a) (b:=b) (Du ho ha hb hm) hg
theorem rG {K:PySem.W.Frag}{g:Int→Int→Int}:Og K (oI g) (rI0 fun i j=>.int (g i j)):=by
  intro ρ H σd hd σ d k v w Q rs rv rw' p
  cases d<;>cases k<;>first|exact p.elim|skip
  simp only [RD] at rv rw'
  exact⟨_,_,rv,rw',p.here rs (by simp only [rD,RD])⟩
theorem kn {K:PySem.W.Frag}{g:Int→Int→Bool}:Og K (oB g) (rI0 fun i j=>.bl (g i j)):=by
  intro ρ H σd hd σ d k v w Q rs rv rw' p
  cases d<;>cases k<;>first|exact p.elim|skip
  simp only [RD] at rv rw'
  exact⟨_,_,rv,rw',p.here rs (by simp only [rD,RD])⟩
theorem zr {K:PySem.W.Frag}{c:Int→Int→Bool}{C:Int→Int→Prop}{g:Int→Int→Int}(hc:∀ i j,c i j=true→C i j):Og K (oIc c g) (rI C fun i j=>.int (g i j)):=by
  intro ρ H σd hd σ d k v w Q rs rv rw' p
  cases d<;>cases k<;>first|exact p.elim|skip
  rename_i i j
  simp only [RD] at rv rw'
  cases e:c i j with
  | false=>simp only [oIc,e] at p;exact p.elim
  | true =>
    simp only [oIc,e,if_true] at p
    exact⟨i,j,rv,rw',hc i j e,p.here rs (by simp only [rD,RD])⟩
theorem rH {i:Int}(h:sml i=true) : -(2 ^ 64) < i∧i < 2 ^ 64:=by
  simp only [sml,Bool.and_eq_true,decide_eq_true_eq] at h;exact h
theorem d9 {K:PySem.W.Frag}:Og K eV (rI Dt fun i j=>.int (i * j)):=zr fun i j h=>by
  rcases (Bool.or_eq_true _ _).mp h with q|q
  · exact .inl (rH q)
  · exact .inr (rH q)
theorem gv {K:PySem.W.Frag}:Og K jR (rI (fun _ j=>0 < j) fun i j=>.int (i % j)):=zr fun i j h=>of_decide_eq_true h
def GV (_ j:Int):Prop:=0 < j∧j < 2 ^ 250
theorem uN:OpR X (binaryOp .FloorDiv) (rI GV fun i j=>.int (i / j)):=opI fun i j _ _ _ _ _ hc q=>by
  have h0:j≠0:=by have:=hc.1;omega
  refine PyProof.Rows.floordiv_int h0 (by rw [Int.fdiv_eq_ediv_of_nonneg _ (Int.le_of_lt hc.1)];exact q) (.inl (PyProof.noPylong_of_log2 ?_))
  have h2:j.natAbs < 2 ^ 250:=by have:=hc.2;have:=hc.1;omega
  have h3:j.natAbs≠0:=by omega
  have:=(Nat.log2_lt h3).mpr h2
  omega
theorem BI {K:PySem.W.Frag}:Og K Fz (rI GV fun i j=>.int (i / j)):=zr fun i j h=>by
  simp only [Bool.and_eq_true,decide_eq_true_eq] at h;exact h
theorem BJ {K:PySem.W.Frag}:Og K FA (rI GG fun i j=>.int (i ^ j.toNat)):=zr fun i j h=>by
  simp only [Bool.and_eq_true,decide_eq_true_eq] at h
  have:=rH h.2
  exact⟨h.1.1,h.1.2,by omega⟩
theorem rJ {K:PySem.W.Frag}{ρ:List Addr}{H:Hp}{d:D}{v:V}(h:RD K ρ H d v):nE d=decide (v=.non):=by
  cases d<;>simp only [RD] at h
  · subst h;rfl
  · subst h;rfl
  · subst h;rfl
  · subst h;rfl
  · obtain⟨p,vs,rfl,_⟩:=h;rfl
  · obtain⟨p,vs,rfl⟩:=h;rfl
  · obtain⟨p,vs,rfl,_⟩:=h;rfl
  · obtain⟨_,p,vs,rfl,_⟩:=h;rfl
theorem FD {K:PySem.W.Frag}:Og K DG (fun x y H Q=>y=.non∧Q (.bl (decide (x=.non))) H):=by
  intro ρ H σd hd σ d k v w Q rs rv rw' p
  unfold DG at p
  cases e:nE k with
  | false=>rw [e] at p;exact p.elim
  | true =>
    rw [e,if_pos rfl] at p
    refine⟨of_decide_eq_true ((rJ rw').symm.trans e),?_⟩
    rw [← rJ rv]
    exact p.here rs (by simp only [rD,RD])
theorem kZ {K:PySem.W.Frag}:Og K g9 (fun x y H Q=>y=.non∧Q (.bl (!decide (x=.non))) H):=by
  intro ρ H σd hd σ d k v w Q rs rv rw' p
  unfold g9 at p
  cases e:nE k with
  | false=>rw [e] at p;exact p.elim
  | true =>
    rw [e,if_pos rfl] at p
    refine⟨of_decide_eq_true ((rJ rw').symm.trans e),?_⟩
    rw [← rJ rv]
    exact p.here rs (by simp only [rD,RD])
theorem lc {K:PySem.W.Frag}{ρ:List Addr}{H:Hp}{σd:Sd}{σ:St}{r:Res D}{Q:Bool→Hp→Prop}(h:bj K rB ρ H σd σ (asB r) Q):bj K (rD K) ρ H σd σ r (fun x H'=>∃ c,x=.bl c∧Q c H'):=by
  refine (bj.bind (R:=rD K) h).imp fun v H1 ⟨ρ1,d,hd1,e1,rs1,rv,p1⟩ => ?_
  cases d<;>first|exact p1.elim|skip
  simp only [rD,RD] at rv
  exact⟨_,rv,p1.here rs1 rfl⟩
theorem ec {e:Expr}{f:EF}(h:ME X e f)(he:∀ whole,isTrue e X.env whole=(do let v ← whole;standAt e.pos;holding [v] (truthy v)):=by intro _;rfl):MT X e (tE f) :=
  PT.imp (EW h he) fun σ H Q ⟨ρ,σd,hd,rs,p⟩=>⟨ρ,σd,hd,rs,lc p⟩
theorem aV {a b:Expr}{fa fb:EF}{op:CmpOp}{r:R2}{g:O2}(ho:OpR X (compareOp op) r)(hg:Og X.K g r)(ha:ME X a fa)(hb:ME X b fb)(hm:behindInMarks op b=false):MT X (.Compare a [op] [b] pos) (tE (ak g fa fb)):=by
  refine PT.imp (Dv ho ha hb hm) fun σ H Q ⟨ρ,σd,hd,rs,p⟩ => ?_
  have p:=lc p
  refine⟨ρ,σd,hd,rs,(bj.bind (R:=rD X.K) p).imp fun v H1 ⟨ρ1,d,hd1,e1,rs1,rv,p1⟩ => ?_⟩
  refine⟨ρ1,σd,hd1,rs1,(bj.bind (R:=rD X.K) p1).imp fun w H2 ⟨ρ2,k,hd2,e2,rs2,rw',p2⟩ => ?_⟩
  exact hg ρ2 H2 σd hd2 σ d k v w _ rs2 (rv.mono (rs1.hp.kp e2)) rw' p2
theorem eE {a:Expr}{t:TF}(h:MT X a t):MT X (.UnaryOp .Not a pos) (dZ t):=by
  refine PT.imp (EZ h) fun σ H Q ⟨ρ,σd,hd,rs,p⟩=>⟨ρ,σd,hd,rs,(bj.bind (R:=rB) p).imp fun c H1 ⟨ρ1,d,hd1,e1,rs1,rv,p1⟩ => ?_⟩
  cases rv
  exact p1.here rs1 rfl
theorem fV {op a}{t:TF}(h:MT X a t)(ho:op=BoolOp.And∨op=BoolOp.Or):MW X (.BoolOp op [a] pos) t:=by
  rcases ho with rfl|rfl
  · exact Dn h
  · exact EX h
theorem nG {a b:Expr}{rest:List Expr}{t u:TF}(ha:MT X a t)(hb:MW X (.BoolOp .And (b :: rest) pos) u):MW X (.BoolOp .And (a :: b :: rest) pos) (iJ t u):=by
  refine PW.imp (EY ha hb) fun σ H Q ⟨ρ,σd,hd,rs,p⟩=>⟨ρ,σd,hd,rs,(bj.bind (R:=rB) p).imp fun c H1 ⟨ρ1,d,hd1,e1,rs1,rv,p1⟩ => ?_⟩
  cases rv
  cases c with
  | true=>simp only [if_true] at p1 ⊢;exact⟨ρ1,σd,hd1,rs1,p1⟩
  | false=>simp only [Bool.false_eq_true,if_false] at p1 ⊢;exact p1.here rs1 rfl
theorem ko {a b:Expr}{rest:List Expr}{t u:TF}(ha:MT X a t)(hb:MW X (.BoolOp .Or (b :: rest) pos) u):MW X (.BoolOp .Or (a :: b :: rest) pos) (tOr t u):=by
  refine PW.imp (Gq ha hb) fun σ H Q ⟨ρ,σd,hd,rs,p⟩=>⟨ρ,σd,hd,rs,(bj.bind (R:=rB) p).imp fun c H1 ⟨ρ1,d,hd1,e1,rs1,rv,p1⟩ => ?_⟩
  cases rv
  cases c with
  | true=>simp only [if_true] at p1 ⊢;exact p1.here rs1 rfl
  | false=>simp only [Bool.false_eq_true,if_false] at p1 ⊢;exact⟨ρ1,σd,hd1,rs1,p1⟩
theorem MW.mt {e:Expr}{t:TF}(h:MW X e t):MT X e t:=h.pt
theorem DJ {K:PySem.W.Frag}{t:TF}{σ:St}{H:Hp}{Q:VK}(h:jD K (rD K) (fT t) σ H Q):jD K rB t σ H (fun b H'=>Q (.bl b) H'):=by
  obtain⟨ρ,σd,hd,rs,p⟩:=h
  refine⟨ρ,σd,hd,rs,(bj.bind (R:=rB) p).imp fun c H1 ⟨ρ1,d,hd1,e1,rs1,rv,p1⟩ => ?_⟩
  cases rv
  exact p1.here rs1 (by simp only [rD,RD])
def MB (X:Cx) (e:Expr) (t:TF):Prop:=PE X e (fun σ H Q=>jD X.K rB t σ H fun b H'=>Q (.bl b) H')
theorem MB.me {e:Expr}{t:TF}(h:MB X e t):ME X e (fT t):=PE.imp h fun _ _ _ q=>DJ q
theorem my {e:Expr}{f:EF}(h:ME X e f):MB X e (tE f):=by
  refine PE.imp h fun σ H Q ⟨ρ,σd,hd,rs,p⟩=>⟨ρ,σd,hd,rs,(lc p).imp ?_⟩
  rintro v H1 ⟨c,rfl,q⟩
  exact q
theorem rK {op a}{t:TF}(h:MB X a t):MB X (.BoolOp op [a] pos) t:=E1 h
theorem xh {a b:Expr}{rest:List Expr}{t u:TF}(ha:MB X a t)(hb:MB X (.BoolOp .And (b :: rest) pos) u):MB X (.BoolOp .And (a :: b :: rest) pos) (iJ t u):=by
  refine PE.imp (E2 ha hb) fun σ H Q ⟨ρ,σd,hd,rs,p⟩=>⟨ρ,σd,hd,rs,(bj.bind (R:=rB) p).imp fun c H1 ⟨ρ1,d,hd1,e1,rs1,rv,p1⟩=>⟨c,rfl,?_⟩⟩
  cases rv
  cases c with
  | true=>simp only [if_true] at p1 ⊢;exact⟨ρ1,σd,hd1,rs1,p1⟩
  | false=>simp only [Bool.false_eq_true,if_false] at p1 ⊢;exact p1.here rs1 rfl
theorem GW {a b:Expr}{rest:List Expr}{t u:TF}(ha:MB X a t)(hb:MB X (.BoolOp .Or (b :: rest) pos) u):MB X (.BoolOp .Or (a :: b :: rest) pos) (tOr t u):=by
  refine PE.imp (Gu ha hb) fun σ H Q ⟨ρ,σd,hd,rs,p⟩=>⟨ρ,σd,hd,rs,(bj.bind (R:=rB) p).imp fun c H1 ⟨ρ1,d,hd1,e1,rs1,rv,p1⟩=>⟨c,rfl,?_⟩⟩
  cases rv
  cases c with
  | true=>simp only [if_true] at p1 ⊢;exact p1.here rs1 rfl
  | false=>simp only [Bool.false_eq_true,if_false] at p1 ⊢;exact⟨ρ1,σd,hd1,rs1,p1⟩
theorem FE {a:Expr}{t:TF}(h:MB X a t):MB X (.UnaryOp .Not a pos) (dZ t):=by
  refine PE.imp (E3 h) fun σ H Q ⟨ρ,σd,hd,rs,p⟩=>⟨ρ,σd,hd,rs,(bj.bind (R:=rB) p).imp fun c H1 ⟨ρ1,d,hd1,e1,rs1,rv,p1⟩=>⟨c,rfl,?_⟩⟩
  cases rv
  exact p1.here rs1 rfl
theorem BK {c a b:Expr}{t:TF}{fa fb:EF}(hc:MT X c t)(ha:ME X a fa)(hb:ME X b fb):ME X (.IfExp c a b pos) (fIf t fa fb):=by
  refine PE.imp (Bn hc ha hb) fun σ H Q ⟨ρ,σd,hd,rs,p⟩=>⟨ρ,σd,hd,rs,(bj.bind (R:=rB) p).imp fun c H1 ⟨ρ1,d,hd1,e1,rs1,rv,p1⟩ => ?_⟩
  cases rv
  cases c with
  | true=>simp only [if_true] at p1 ⊢;exact⟨ρ1,σd,hd1,rs1,p1⟩
  | false=>simp only [Bool.false_eq_true,if_false] at p1 ⊢;exact⟨ρ1,σd,hd1,rs1,p1⟩
end
end Fm
set_option Elab.async false
set_option linter.all false
set_option maxRecDepth 100000
namespace Fm
open PySem PySem.Spec L2
section
variable {X:Cx} {pos:Pos}
theorem xi {K:PySem.W.Frag}{ρ:List Addr}{H:Hp}{σd:Sd}{hd:Hd}{σ:St}{r r':R2}{g k:O2}{fa fb fc:EF}{Q:VK}(hg:Og K g r)(hk:Og K k r')(rs:RS K ρ H σd hd σ)
    (p:bj K (rD K) ρ H σd σ (nF g k fa fb fc σd hd) Q):Bx r r' (jD K (rD K) fa) (jD K (rD K) fb) (jD K (rD K) fc) σ H Q:=by
  refine⟨ρ,σd,hd,rs,(bj.bind (R:=rD K) p).imp fun v H1 ⟨ρ1,d,hd1,e1,rs1,rv,p1⟩ => ?_⟩
  refine⟨ρ1,σd,hd1,rs1,(bj.bind (R:=rD K) p1).imp fun w H2 ⟨ρ2,d2,hd2,e2,rs2,rw2,p2⟩ => ?_⟩
  refine hg ρ2 H2 σd hd2 σ d d2 v w _ rs2 (rv.mono (rs1.hp.kp e2)) rw2 ((bj.bind (R:=rD K) p2).imp fun z H3 ⟨ρ3,d3,hd3,e3,rs3,rz,p3⟩ => ?_)
  cases d3<;>first|exact p3.elim|skip
  rename_i b
  simp only [rD,RD] at rz
  refine⟨b,rz,?_⟩
  cases b with
  | false =>
    rw [if_neg Bool.false_ne_true]
    exact p3.here rs3 (by simp only [rD,RD])
  | true =>
    rw [if_pos rfl]
    refine⟨ρ3,σd,hd3,rs3,(bj.bind (R:=rD K) p3).imp fun u H4 ⟨ρ4,d4,hd4,e4,rs4,ru,p4⟩ => ?_⟩
    exact hk ρ4 H4 σd hd4 σ d2 d4 w u Q rs4 ((rw2.mono (rs2.hp.kp e3)).mono (rs3.hp.kp e4)) ru p4
theorem BL {a b c:Expr}{fa fb fc:EF}{op op':CmpOp}{r r':R2}{g k:O2}(ho:OpR X (compareOp op) r)(ho':OpR X (compareOp op') r')(hg:Og X.K g r)(hk:Og X.K k r')(ha:ME X a fa)(hb:ME X b fb)(hc:ME X c fc)
    (hm:lastMarks [op,op'] [b,c] = false:=by with_unfolding_all rfl):ME X (.Compare a [op,op'] [b,c] pos) (nF g k fa fb fc) :=
  PE.imp (By ho ho' ha hb hc hm) fun _ _ _ ⟨_,_,_,rs,p⟩=>xi hg hk rs p
theorem am:MA X [] ap:=PA.imp d6 fun _ _ _ ⟨_,_,_,rs,p⟩=>p.here rs RDs.nil
theorem ae {e:Expr}{es:List Expr}{f:EF}{r:LF}(he:ME X e f)(hr:MA X es r)(hs:starEach (e :: es) X.env=(false,eval e X.env) :: starEach es X.env:=by rfl):MA X (e :: es) (af f r):=by
  refine PA.imp (cJ he hr hs) fun σ H Q ⟨ρ,σd,hd,rs,p⟩ => ?_
  refine⟨ρ,σd,hd,rs,(bj.bind (R:=rD X.K) p).imp fun v H1 ⟨ρ1,d,hd1,e1,rs1,rv,p1⟩ => ?_⟩
  refine⟨ρ1,σd,hd1,rs1,(bj.bind (R:=rDs X.K) p1).imp fun vs H2 ⟨ρ2,ds,hd2,e2,rs2,rvs,p2⟩ => ?_⟩
  exact p2.here rs2 (RDs.cons (rv.mono (rs1.hp.kp e2)) rvs)
theorem rL {n:Nat}(h:n≤SZ):n≤sizeLine:=Nat.le_trans h (by show 1000000≤2 ^ 24;decide)
theorem dH {es:List Expr}{k}{r:LF}(h:MA X es r):ME X (.Tuple es k pos) (fQ r):=by
  refine PE.imp (Fl h) fun σ H Q ⟨ρ,σd,hd,rs,p⟩ => ?_
  refine⟨ρ,σd,hd,rs,(bj.bind (R:=rDs X.K) p).imp fun vs H1 ⟨ρ1,ds,hd1,e1,rs1,rvs,p1⟩ => ?_⟩
  by_cases hz:ds.length≤SZ
  · rw [if_pos hz] at p1
    refine⟨by rw [← rvs.length];exact rL hz,fun q hq => ?_⟩
    have sm:=cF (o:=HO.tup vs) hq
    exact p1.at (Ext.same sm) (rs1.same sm) (by simp only [rD,RD];exact⟨q,vs,rfl,bB,rvs.mono (Kp.same sm)⟩)
  · rw [if_neg hz] at p1;exact p1.elim
theorem Ext.fresh {ρ ρ':List Addr}{H H':Hp}{q:Addr}(e:Ext ρ H ρ' H')(h:H' q=none)(n:q ∉ ρ'):H q=none:=by
  cases z:H q with
  | none=>rfl
  | some o =>
    by_cases hq:q ∈ ρ
    · obtain⟨t,rfl⟩:=e.pre
      exact absurd (List.mem_append_left t hq) n
    · rw [e.frame q o z hq] at h;cases h
theorem RH.free {K:PySem.W.Frag}{ρ:List Addr}{H:Hp}{hd:Hd}(r:RH K ρ H hd){q:Addr}(h:H q=none):q ∉ ρ:=fun z=>by
  rcases r.mut z with ⟨_,e⟩|⟨_,e⟩<;>(rw [h] at e;cases e)
theorem BH.mk {K:PySem.W.Frag}{ρ ρ1:List Addr}{H H1:Hp}{hd1:Hd}{σd:Sd}{σ:St}{l:List D}{vs:List V}{Q:VK}(p:BH K ρ H σd σ (.ok l hd1) Q)(e1:Ext ρ H ρ1 H1)(rs1:RS K ρ1 H1 σd hd1 σ)(r:RDs K ρ1 H1 l vs) :
    ∀ q,H1 q=none→Q (.ref q) (upd H1 q (.lst vs)):=fun q hq=>by
  have sm:=cF (o:=HO.lst vs) hq
  have nq:=rs1.hp.free hq
  exact p q vs _ ρ1 (e1.trans (Ext.same sm)) (rs1.same sm) (e1.fresh hq nq) bB nq (r.mono (Kp.same sm))
theorem b5 {es:List Expr}{r:LF}(h:MA X es r)(hz:∀ σd hd ds hd',r σd hd=.ok ds hd'→ds.length≤SZ):MF X (.List es pos) r:=by
  refine PE.imp (Fo h) fun σ H Q ⟨ρ,σd,hd,rs,p⟩ => ?_
  refine⟨ρ,σd,hd,rs,?_⟩
  cases e:r σd hd with
  | exc x h'=>rw [e] at p;exact p
  | bad=>rw [e] at p;exact p
  | ok ds hd1 =>
    rw [e] at p
    intro vs H1 ρ1 e1 rs1 rvs
    exact⟨by rw [← RDs.length rvs];exact rL (hz _ _ _ _ e),p.mk e1 rs1 rvs⟩
theorem av {f:EF}{r:LF}{n:Nat}(h:∀ σd hd ds hd',r σd hd=.ok ds hd'→ds.length=n):∀ σd hd ds hd',af f r σd hd=.ok ds hd'→ds.length=n + 1:=by
  intro σd hd ds hd' e
  simp only [af] at e
  cases e1:f σd hd with
  | exc x h'=>rw [e1] at e;cases e
  | bad=>rw [e1] at e;cases e
  | ok d h1 =>
    rw [e1] at e
    simp only [aT] at e
    cases e2:r σd h1 with
    | exc x h'=>rw [e2] at e;cases e
    | bad=>rw [e2] at e;cases e
    | ok ds2 h2 =>
      rw [e2] at e
      simp only [aT] at e
      cases e
      simp [h _ _ _ _ e2]
theorem bh:∀ σd hd ds hd',ap σd hd=.ok ds hd'→ds.length=0:=by
  intro σd hd ds hd' e
  simp only [ap] at e
  cases e
  rfl
theorem cA {e:Expr}{r:LF}(h:MF X e r):ME X e (bA r):=by
  refine PE.imp h fun σ H Q ⟨ρ,σd,hd,rs,p⟩=>⟨ρ,σd,hd,rs,?_⟩
  unfold bA at p
  cases e:r σd hd with
  | exc x h'=>rw [e] at p;exact p
  | bad=>rw [e] at p;exact p
  | ok ds hd1 =>
    rw [e] at p
    simp only [aT] at p
    intro q vs H1 ρ1 e1 rs1 hq0 hq hn rvs
    by_cases hz:ds.length≤SZ
    · rw [if_pos hz] at p
      have rh:=rs1.hp.alloc hq hn rvs
      have ex:Ext ρ H (ρ1++[q]) H1:=⟨by obtain⟨t,rfl⟩:=e1.pre;exact⟨t++[q],by simp⟩,fun a ha=>by
        rcases List.mem_append.mp ha with z|z
        · exact e1.new a z
        · simp at z;subst z;exact .inr hq0,e1.frame⟩
      refine p.at ex (rs.ext ex rh) ?_
      simp only [rD,RD]
      refine⟨q,?_,rfl⟩
      rw [← rs1.hp.len]
      simp
    · rw [if_neg hz] at p;exact p.elim
theorem eg {e:Expr}{r:LF}(h:MF X e r):MQ X e r:=by
  refine PE.imp h fun σ H Q ⟨ρ,σd,hd,rs,p⟩=>⟨ρ,σd,hd,rs,?_⟩
  cases e:r σd hd with
  | exc x h'=>rw [e] at p;exact p
  | bad=>rw [e] at p;exact p
  | ok ds hd1 =>
    rw [e] at p
    intro q vs H1 ρ1 e1 rs1 hq0 hq hn rvs
    exact p (.ref q) H1 ρ1 e1 rs1 ⟨q,vs,rfl,.inl (SqL.of hq),rvs⟩
theorem mx.sq {K:PySem.W.Frag}{H:Hp}{a:Addr}{xs:List V}(h:mx K H a xs):SqL K H a xs:=by
  rcases h with ⟨o,h⟩|h
  · exact .inl (.inr ⟨o,h⟩)
  · exact .inr h
theorem rM {K:PySem.W.Frag}{ρ:List Addr}{H:Hp}{hd:Hd}{d:D}{v:V}{l:List D}(r:RH K ρ H hd)(h:RD K ρ H d v)(e:fR hd d=some l):∃ p vs,v=.ref p∧(SqL K H p vs∨H p=some (.tup vs))∧RDs K ρ H l vs:=by
  cases d<;>simp only [fR] at e<;>try (cases e;done)
  · cases e
    simp only [RD] at h
    obtain⟨p,vs,e1,e2,e3⟩:=h
    exact⟨p,vs,e1,.inr e2,e3⟩
  · rename_i n
    simp only [RD] at h
    obtain⟨a,e1,e2⟩:=h
    cases c:hd[n]? with
    | none=>rw [c] at e;cases e
    | some x =>
      rw [c] at e
      cases x with
      | dct l=>cases e
      | lst l' =>
        cases e
        obtain⟨vs,q1,q2⟩:=r.cel n _ a c e1
        exact⟨a,vs,e2,.inl (SqL.of q1),q2⟩
  · cases e
    simp only [RD] at h
    obtain⟨p,vs,e1,e2,e3⟩:=h
    exact⟨p,vs,e1,.inl e2.sq,e3⟩
theorem dl {e:Expr}{f:EF}(h:ME X e f):MQ X e (lOf f):=by
  refine PE.imp h fun σ H Q ⟨ρ,σd,hd,rs,p⟩=>⟨ρ,σd,hd,rs,(bj.bind (R:=rD X.K) p).imp fun v H1 ⟨ρ1,d,hd1,e1,rs1,rv,p1⟩ => ?_⟩
  cases e:fR hd1 d with
  | none=>rw [e] at p1;exact p1.elim
  | some l=>rw [e] at p1;exact p1.here rs1 (rM rs1.hp rv e)
theorem zt {K:PySem.W.Frag}{ρ:List Addr}{H:Hp}{l:List D}{vs:List V}{i:Int}{d:D}(r:RDs K ρ H l vs)(e:atI l i=some d):∃ v,L2.atI vs i=some v∧RD K ρ H d v:=by
  unfold atI at e
  unfold L2.atI
  have hl:=r.length
  have hx:ixN l.length i=L2.ixN vs.length i:=by rw [hl];rfl
  rw [hx] at e
  cases c:L2.ixN vs.length i with
  | none=>rw [c] at e;cases e
  | some j =>
    rw [c] at e
    simp only [Option.bind_some] at e ⊢
    exact r.get e
theorem aC {a b:Expr}{fa fb:EF}(ha:ME X a fa)(hb:ME X b fb)(hs:rl b):ME X (.Subscript a b pos) (fAt fa fb):=by
  refine me2 (a:=a) (b:=b) (g:=oAt) (EE Fv ha hb hs) fun ρ H σd hd σ d k v w Q rs rv rw' p => ?_
  unfold oAt at p
  cases e:fR hd d with
  | none=>rw [e] at p;exact p.elim
  | some l =>
    rw [e] at p
    cases k<;>first|exact p.elim|skip
    rename_i i
    simp only at p
    cases e2:atI l i with
    | none=>rw [e2] at p;exact p.elim
    | some x =>
      rw [e2] at p
      simp only [RD] at rw'
      obtain⟨q,vs,hv,sq,rvs⟩:=rM rs.hp rv e
      obtain⟨u,hu,ru⟩:=zt rvs e2
      rcases sq with sq|sq
      · exact .inl ⟨q,vs,i,u,hv,rw',sq,hu,p.here rs ru⟩
      · exact .inr (.inl ⟨q,vs,i,u,hv,rw',SqT.of sq,hu,p.here rs ru⟩)
theorem qz {a b:Expr}{la:LF}{fb:EF}(ha:MF X a la)(hb:ME X b fb)(hs:rl b):ME X (.Subscript a b pos) (fIx la fb):=by
  refine PE.imp (EE zq ha hb hs) fun σ H Q ⟨ρ,σd,hd,rs,p⟩=>⟨ρ,σd,hd,rs,?_⟩
  unfold fIx at p
  cases e:la σd hd with
  | exc x h'=>rw [e] at p;exact p
  | bad=>rw [e] at p;exact p
  | ok l hd1 =>
    rw [e] at p
    simp only [aT] at p
    intro q vs H1 ρ1 e1 rs1 hq0 hq hn rvs
    refine⟨ρ1,σd,hd1,rs1,(bj.bind (R:=rD X.K) (p.ext e1)).imp fun w H2 ⟨ρ2,k,hd2,e2,rs2,rw',p2⟩ => ?_⟩
    cases k<;>first|exact p2.elim|skip
    rename_i i
    simp only at p2
    cases e3:atI l i with
    | none=>rw [e3] at p2;exact p2.elim
    | some x =>
      rw [e3] at p2
      simp only [rD,RD] at rw'
      obtain⟨u,hu,ru⟩:=zt (rvs.mono (rs1.hp.kp e2)) e3
      exact⟨q,vs,i,u,rfl,rw',SqL.of (e2.frame q _ hq hn),hu,p2.here rs2 ru⟩
end
end Fm
set_option Elab.async false
set_option linter.all false
set_option maxRecDepth 100000
namespace Fm
open PySem PySem.Spec L2
section
variable {X:Cx} {pos:Pos}
def B1 (X:Cx) (r:List V→Hp→VK→Prop) (x:Str) (p pos:Pos) (a:Expr):Prop:=∀ t,PA X [a] t→PE X (.Call (.Name x p) [a] [] pos) (tCB r t)
theorem BM {x:Str} {p:Pos} {a:Expr} {id:String} {r:List V→Hp→VK→Prop} (hc:gF X (.builtin id) r) (hg:Gl X x) (hm:X.mg x=none) (hv:bootBuiltins x=some (.builtin id)) (hn:x ≠ "__name__" := by decide) (hdb:(x == ("__debug__" : Str))=false:=by decide)
    (he:starEach [a] X.env=(false,eval a X.env) :: starEach [] X.env:=by rfl):B1 X r x p pos a:=fun _ ha=>kj hc hg hm hv ha hn hdb he
theorem EH {x:Str} {p:Pos} {a:Expr} {T:String} {r:List V→Hp→VK→Prop} (hc:gF X (.type T) r) (hg:Gl X x) (hm:X.mg x=none) (hv:bootBuiltins x=some (.type T)) (hn:x ≠ "__name__" := by decide) (hdb:(x == ("__debug__" : Str))=false:=by decide)
    (he:starEach [a] X.env=(false,eval a X.env) :: starEach [] X.env:=by rfl):B1 X r x p pos a:=fun _ ha=>qv hc hg hm hv ha hn hdb he
theorem rN {x:Str}{p:Pos}{a:Expr}{la:LF}{r:List V→Hp→VK→Prop}{g:List D→Hd→Res D}(hb:B1 X r x p pos a)(ha:MQ X a la)
    (hg:∀ ρ H σd hd σ l q vs Q,RS X.K ρ H σd hd σ → (SqL X.K H q vs∨H q=some (.tup vs))→RDs X.K ρ H l vs→bj X.K (rD X.K) ρ H σd σ (g l hd) Q→r [.ref q] H Q)
    (hs:starEach [a] X.env=(false,eval a X.env) :: starEach [] X.env:=by rfl):ME X (.Call (.Name x p) [a] [] pos) (fun σ h=>(la σ h).bind fun l h=>g l h):=by
  refine PE.imp (hb _ (cJ ha d6 hs)) fun σ H Q ⟨ρ,σd,hd,rs,pp⟩=>⟨ρ,σd,hd,rs,(bj.bind (R:=rQ X.K) pp).imp fun v H1 ⟨ρ1,l,hd1,e1,rs1,⟨q,vs,hv,sq,rvs⟩,p1⟩ => ?_⟩
  subst hv
  exact hg ρ1 H1 σd hd1 σ l q vs Q rs1 sq rvs p1
theorem GX {x:Str}{p:Pos}{a:Expr}{fa:EF}{r:List V→Hp→VK→Prop}{g:D→Hd→Res D}(hb:B1 X r x p pos a)(ha:ME X a fa)
    (hg:∀ ρ H σd hd σ d v Q,RS X.K ρ H σd hd σ → RD X.K ρ H d v→bj X.K (rD X.K) ρ H σd σ (g d hd) Q→r [v] H Q)
    (hs:starEach [a] X.env=(false,eval a X.env) :: starEach [] X.env:=by rfl):ME X (.Call (.Name x p) [a] [] pos) (fun σ h=>(fa σ h).bind fun x h=>g x h):=by
  refine PE.imp (hb _ (cJ ha d6 hs)) fun σ H Q ⟨ρ,σd,hd,rs,pp⟩=>⟨ρ,σd,hd,rs,(bj.bind (R:=rD X.K) pp).imp fun v H1 ⟨ρ1,d,hd1,e1,rs1,rv,p1⟩ => ?_⟩
  exact hg ρ1 H1 σd hd1 σ d v Q rs1 rv p1
theorem eh {p:Pos} {a:Expr} {la:LF} (hg:Gl X "len") (hm:X.mg "len" = none) (ha:MQ X a la) (hs:starEach [a] X.env=(false,eval a X.env) :: starEach [] X.env:=by rfl):ME X (.Call (.Name "len" p) [a] [] pos) (ft la) :=
  rN (g:=fun l h=>.ok (.int l.length) h) (BM rA hg hm PySem.boot_len (he:=hs)) ha (fun ρ H σd hd σ l q vs Q rs sq rvs p=>⟨q,vs,rfl,sq.imp id SqT.of,by rw [← rvs.length];exact p.here rs (by simp only [rD,RD])⟩) hs
theorem db {p:Pos} {a:Expr} {la:LF} (hg:Gl X "tuple") (hm:X.mg "tuple" = none) (ha:MQ X a la) (hs:starEach [a] X.env=(false,eval a X.env) :: starEach [] X.env:=by rfl):ME X (.Call (.Name "tuple" p) [a] [] pos) (cC la):=by
  refine rN (g:=fun l h=>.ok (.tup l) h) (EH pA hg hm (by decide +kernel) (he:=hs)) ha (fun ρ H σd hd σ l q vs Q rs sq rvs p=>⟨q,vs,rfl,?_⟩) hs
  rcases sq with sq|sq
  · refine .inl ⟨sq,fun q' hq => ?_⟩
    have sm:=cF (o:=HO.tup vs) hq
    exact p.at (Ext.same sm) (rs.same sm) (by simp only [rD,RD];exact⟨q',vs,rfl,bB,rvs.mono (Kp.same sm)⟩)
  · exact .inr ⟨SqT.of sq,p.here rs (by simp only [rD,RD];exact⟨q,vs,rfl,sq,rvs⟩)⟩
theorem kq {p:Pos} {a:Expr} {fa:EF} (hg:Gl X "int") (hm:X.mg "int" = none) (ha:ME X a fa) (hs:starEach [a] X.env=(false,eval a X.env) :: starEach [] X.env:=by rfl):ME X (.Call (.Name "int" p) [a] [] pos) (iK fa):=by
  refine GX (g:=fun x h=>match x with | .int i=>.ok (.int i) h | .bl b=>.ok (.int (b2i b)) h|_=>.bad) (EH Ab hg hm (by decide +kernel) (he:=hs)) ha (fun ρ H σd hd σ d v Q rs rv p => ?_) hs
  cases d<;>first|exact p.elim|skip
  · simp only [RD] at rv;subst rv
    exact .inr ⟨_,rfl,p.here rs (by simp only [rD,RD];rfl)⟩
  · simp only [RD] at rv;subst rv
    exact .inl ⟨_,rfl,p.here rs (by simp only [rD,RD])⟩
theorem uO (ns:List Int):PySem.preSum (fun i=>ns.getD i 0) ns.length=ns.sum:=by
  have key:∀ k,k≤ns.length→PySem.preSum (fun i=>ns.getD i 0) k=(ns.take k).sum:=by
    intro k
    induction k with
    | zero=>intro _;simp [PySem.preSum]
    | succ k ih =>
      intro hk
      rw [PySem.preSum,ih (by omega),List.take_add_one,List.getElem?_eq_getElem (by omega),List.sum_append]
      simp [List.getD,List.getElem?_eq_getElem (show k < ns.length by omega)]
  rw [key _ (Nat.le_refl _),List.take_length]
theorem zu {its:List Value}{ns:List Int}(r:aS (ns.map V.int) its)(i:Nat)(v:Value)(h:its.toArray[i]? = some v):∃ t,v=.int (ns.getD i 0) t:=by
  have h':its[i]? = some v:=by simpa using h
  have hl:=r.length
  have hi:i < its.length:=(List.getElem?_eq_some_iff.mp h').1
  have hn:i < ns.length:=by rw [← hl] at hi;simpa using hi
  obtain⟨u,hu,ru⟩:=r.get (i:=i) (x:=.int ns[i]) (by simp [hn])
  rw [h'] at hu
  cases hu
  obtain⟨t,e⟩:=ru
  exact⟨t,by rw [e];simp [List.getD,hn]⟩
theorem Ah (hc:X.calm=true):gF X (.builtin "sum") (fun xs H Q=>∃ (p:Addr) (ns:List Int),xs=[.ref p]∧(SqL X.K H p (ns.map V.int)∨SqT X.K H p (ns.map V.int))∧Q (.int ns.sum) H):=by
  intro pins s σ H xs us Q I r q
  obtain⟨p,ns,rfl,sq,q⟩:=q
  obtain⟨u,rfl,ru⟩:=aS.one r
  cases (show u=Value.ref p from ru)
  have fin:∀ {it:Obj} {h':Heap} {tk:Nat} {t':Tok} {n:Nat},n=ns.length→(∀ b o,b∉[s.heap.objs.size]→(s.heap.push it).get? b=some o→h'.get? b=some o)→EP X pins σ Q (.int (PySem.preSum (fun i=>ns.getD i 0) n) t') { s with heap:=h',toks:=tk }:=by
    intro it h' tk t' n hn hk
    subst hn
    refine⟨.int ns.sum,H,I.kept (t':=tk) fun b o e=>hk b o (by simp;exact Nat.ne_of_lt (Heap.lt_size e)) (Heap.get?_push_of_some _ e),⟨t',by rw [uO]⟩,q⟩
  have hA:(X.A.in1).handled=none:=I.ok.hd hc
  rcases sq with sq|sq
  · obtain⟨its,rv,pl,hz⟩:=I.list sq
    have il:s.heap.IsList p its.toArray:=pl.isList
    have hlt:p < s.heap.objs.size:=by obtain⟨o,ho,_⟩:=il;exact Heap.lt_size ho
    refine PySem.call_sum_walkG (PySem.wpAny_pyIter_list il ?_)
    refine⟨s.heap.objs.size,_,[s.heap.objs.size],_,_,_,fun i=>ns.getD i 0,rfl,PySem.Walks.list hA s.heap.objs.size p (Nat.ne_of_lt hlt) its.toArray,⟨⟨_,Heap.get?_push_size _ rfl,rfl,rfl⟩,?_⟩,?_,zu rv,?_⟩
    · obtain⟨o,ho,r⟩:=il;exact⟨o,Heap.get?_push_of_some _ ho,r⟩
    · intro b hb
      rcases List.mem_cons.mp hb with rfl|hb
      · rw [Heap.size_push];exact Nat.lt_succ_self _
      · simp at hb;subst hb;rw [Heap.size_push];exact Nat.lt_succ_of_lt hlt
    · exact fun h' tk t' hk=>fin (by simpa using rv.length.symm) hk
  · obtain⟨its,rv,pl,hz⟩:=I.tuple sq
    have il:s.heap.IsTuple p its.toArray:=pl
    have hlt:p < s.heap.objs.size:=by obtain⟨o,ho,_⟩:=il;exact Heap.lt_size ho
    refine PySem.call_sum_walkG (PySem.wpAny_pyIter_tuple il ?_)
    refine⟨s.heap.objs.size,_,[s.heap.objs.size],_,_,_,fun i=>ns.getD i 0,rfl,PySem.Walks.tuple hA s.heap.objs.size p (Nat.ne_of_lt hlt) its.toArray,⟨⟨_,Heap.get?_push_size _ rfl,rfl,rfl⟩,?_⟩,?_,zu rv,?_⟩
    · obtain⟨o,ho,r⟩:=il;exact⟨o,Heap.get?_push_of_some _ ho,r⟩
    · intro b hb
      rcases List.mem_cons.mp hb with rfl|hb
      · rw [Heap.size_push];exact Nat.lt_succ_self _
      · simp at hb;subst hb;rw [Heap.size_push];exact Nat.lt_succ_of_lt hlt
    · exact fun h' tk t' hk=>fin (by simpa using rv.length.symm) hk
theorem nH {K:PySem.W.Frag}{ρ:List Addr}{H:Hp}:∀ {l:List D} {vs:List V} {is:List Int},RDs K ρ H l vs→fS l=some is→vs=is.map V.int
  | [],_,is,r,e=>by simp only [fS] at e;cases e;simp only [RDs] at r;subst r;rfl
  | d :: l,_,is,r,e=>by
    simp only [RDs] at r
    obtain⟨v,vs,rfl,h1,h2⟩:=r
    cases d<;>simp only [fS] at e<;>try (cases e;done)
    rename_i i
    cases c:fS l with
    | none=>rw [c] at e;cases e
    | some js =>
      rw [c] at e
      cases e
      simp only [RD] at h1
      rw [h1,nH h2 c]
      rfl
theorem nI {p:Pos} {a:Expr} {la:LF} (hc:X.calm=true) (hg:Gl X "sum") (hm:X.mg "sum" = none) (ha:MQ X a la) (hs:starEach [a] X.env=(false,eval a X.env) :: starEach [] X.env:=by rfl):ME X (.Call (.Name "sum" p) [a] [] pos) (jS la):=by
  refine rN (g:=fun l h=>match fS l with|some is=>.ok (.int is.sum) h|none=>.bad) (BM (Ah hc) hg hm (by decide +kernel) (he:=hs)) ha (fun ρ H σd hd σ l q vs Q rs sq rvs p => ?_) hs
  cases c:fS l with
  | none=>simp only [c] at p;exact p.elim
  | some is =>
    simp only [c] at p
    have e:=nH rvs c
    subst e
    exact⟨q,is,rfl,sq.imp id SqT.of,p.here rs (by simp only [rD,RD])⟩
end
end Fm
set_option Elab.async false
set_option linter.all false
set_option maxRecDepth 100000
namespace Fm
open PySem PySem.Spec L2
section
variable {K:PySem.W.Frag} {ρ:List Addr} {H:Hp}
mutual
theorem uP:∀ {d k:D} {v:V} {b:Bool},RD K ρ H d v→RD K ρ H k v→peq d k=some b→b=true
  | .int i,k,v,b,h1,h2,e=>by
    simp only [RD] at h1;subst h1
    cases k<;>simp only [RD] at h2<;>try (cases h2;done)
    all_goals first
      | (cases h2;simp only [peq] at e;simpa using e.symm)
      | (obtain⟨_,_,z,_⟩:=h2;cases z;done)
      | (obtain⟨_,_,z⟩:=h2;cases z;done)
      | (obtain⟨_,_,_,z,_⟩:=h2;cases z;done)
  | .bl i,k,v,b,h1,h2,e=>by
    simp only [RD] at h1;subst h1
    cases k<;>simp only [RD] at h2<;>try (cases h2;done)
    all_goals first
      | (cases h2;simp only [peq] at e;simpa using e.symm)
      | (obtain⟨_,_,z,_⟩:=h2;cases z;done)
      | (obtain⟨_,_,z⟩:=h2;cases z;done)
      | (obtain⟨_,_,_,z,_⟩:=h2;cases z;done)
  | .str x,k,v,b,h1,h2,e=>by
    simp only [RD] at h1;subst h1
    cases k<;>simp only [RD] at h2<;>try (cases h2;done)
    all_goals first
      | (simp only [peq] at e;simp only [toS,V.str.injEq,PySem.Str.mk.injEq] at h2;have h3:=congrArg Array.toList h2;simp at h3;subst h3;simpa using e.symm)
      | (obtain⟨_,_,z,_⟩:=h2;cases z;done)
      | (obtain⟨_,_,z⟩:=h2;cases z;done)
      | (obtain⟨_,_,_,z,_⟩:=h2;cases z;done)
  | .non,k,v,b,h1,h2,e=>by
    simp only [RD] at h1;subst h1
    cases k<;>simp only [RD] at h2<;>try (cases h2;done)
    all_goals first
      | (simp only [peq] at e;simpa using e.symm)
      | (obtain⟨_,_,z,_⟩:=h2;cases z;done)
      | (obtain⟨_,_,z⟩:=h2;cases z;done)
      | (obtain⟨_,_,_,z,_⟩:=h2;cases z;done)
  | .tup xs,k,v,b,h1,h2,e=>by
    simp only [RD] at h1
    obtain⟨p,vs,rfl,hp,r1⟩:=h1
    cases k<;>simp only [peq] at e<;>try (cases e;done)
    · simp only [RD] at h2;cases h2
    · simp only [RD] at h2;cases h2
    · rename_i ys
      simp only [RD] at h2
      obtain⟨p',vs',z,hp',r2⟩:=h2
      cases z
      rw [hp] at hp';cases hp'
      cases c:fP xs ys with
      | none=>rw [c] at e;cases e
      | some b' =>
        rw [c] at e
        simp only [Option.map_some,Option.some.injEq] at e
        have:=qA r1 r2 c
        subst this
        rw [← e,r1.length,r2.length]
        simp
  | .ref n,k,v,b,h1,h2,e=>by cases k<;>simp only [peq] at e<;>cases e
  | .lit l,k,v,b,h1,h2,e=>by cases k<;>simp only [peq] at e<;>cases e
  | .exn c l,k,v,b,h1,h2,e=>by simp only [peq] at e<;>cases e
theorem qA:∀ {xs ys:List D} {vs:List V} {b:Bool},RDs K ρ H xs vs→RDs K ρ H ys vs→fP xs ys=some b→b=true
  | [],_,_,_,_,_,e=>by simp only [fP] at e;cases e;rfl
  | x :: xs,[],_,_,_,_,e=>by simp only [fP] at e;cases e;rfl
  | x :: xs,y :: ys,_,b,h1,h2,e=>by
    simp only [RDs] at h1 h2
    obtain⟨v,r,rfl,a1,a2⟩:=h1
    obtain⟨v',r',z,b1,b2⟩:=h2
    cases z
    simp only [fP] at e
    cases c:peq x y with
    | none=>rw [c] at e;cases e
    | some p =>
      cases c2:fP xs ys with
      | none=>rw [c,c2] at e;cases e
      | some q =>
        rw [c,c2] at e
        simp only [Option.some.injEq] at e
        rw [← e,uP a1 b1 c,qA a2 b2 c2];rfl
end
end
section
variable {K:PySem.W.Frag} {ρ:List Addr} {H:Hp} {P:Program} {w:World} {s:Shared}
theorem hR (hok:HOk P w H s.heap){p:Addr}{vs:List V}(h:H p=some (.tup vs)):∃ its:List Value,aS vs its∧s.heap.IsTuple p its.toArray:=by
  obtain⟨z,its,r,t⟩:=hok p _ h
  exact⟨its,r,t.1⟩
theorem zv (hok:HOk P w H s.heap) {p:Addr} {vs:List V} (h:H p=some (.tup vs)):∃ (its:List Value) (o:Obj) (c:Nat),aS vs its∧s.heap.get? p=some o∧o.cls=.type "tuple" ∧ o.data=.seq its.toArray c∧o.dict=none:=by
  obtain⟨z,its,r,⟨o,h1,h2,c,h3⟩,o2,h4,h5⟩:=hok p _ h
  rw [h1] at h4
  cases h4
  exact⟨its,o,c,r,h1,h2,h3,h5⟩
mutual
theorem BN (hok:HOk P w H s.heap):∀ {d k:D} {v v':V} {u u':Value} {b:Bool} {A:Around},RD K ρ H d v→RD K ρ H k v'→bQ v u→bQ v' u'→peq d k=some b→A.units + dep d < cLine→SeqAt.EqAt A s u u' b
  | .int i,k,v,v',u,u',b,A,h1,h2,r1,r2,e,hu=>by
    simp only [RD] at h1;subst h1
    obtain⟨t,rfl⟩:=r1
    cases k<;>simp only [peq] at e<;>try (cases e;done)
    all_goals cases e
    · simp only [RD] at h2;subst h2;cases r2;exact SeqAt.EqAt.int_none i t
    · simp only [RD] at h2;subst h2;cases r2;exact SeqAt.EqAt.int_bool i t _
    · simp only [RD] at h2;subst h2;obtain⟨t',rfl⟩:=r2;exact SeqAt.EqAt.int_int i t _ t'
    · simp only [RD] at h2;obtain⟨p,vs,rfl,hp,_⟩:=h2;cases r2
      obtain⟨its,_,il⟩:=hR hok hp
      exact SeqAt.EqAt.int_tuple i t il (Nat.lt_of_le_of_lt (Nat.le_add_right _ _) hu)
  | .bl i,k,v,v',u,u',b,A,h1,h2,r1,r2,e,hu=>by
    simp only [RD] at h1;subst h1
    cases r1
    cases k<;>simp only [peq] at e<;>try (cases e;done)
    all_goals cases e
    · simp only [RD] at h2;subst h2;cases r2;exact SeqAt.EqAt.bool_bool i _
    · simp only [RD] at h2;subst h2;obtain⟨t',rfl⟩:=r2;exact SeqAt.EqAt.bool_int i _ t'
  | .str x,k,v,v',u,u',b,A,h1,h2,r1,r2,e,hu=>by
    simp only [RD] at h1;subst h1
    obtain⟨t,rfl⟩:=r1
    cases k<;>simp only [peq] at e<;>try (cases e;done)
    all_goals cases e
    rename_i y
    simp only [RD] at h2;subst h2;obtain⟨t',rfl⟩:=r2
    have:decide (x=y)=(toS x == toS y):=by
      by_cases z:x=y
      · subst z;simp
      · have : ¬ toS x=toS y:=fun q=>z (by have:=congrArg (fun (s:Str)=>s.cps.toList) q;simpa [toS] using this)
        simp [z,this]
    rw [this]
    exact SeqAt.EqAt.str_str _ t _ t'
  | .non,k,v,v',u,u',b,A,h1,h2,r1,r2,e,hu=>by
    simp only [RD] at h1;subst h1
    cases r1
    cases k<;>simp only [peq] at e<;>try (cases e;done)
    all_goals cases e
    · simp only [RD] at h2;subst h2;cases r2;exact SeqAt.EqAt.same _
    · simp only [RD] at h2;subst h2;obtain⟨t',rfl⟩:=r2;exact SeqAt.EqAt.none_int _ t'
    · simp only [RD] at h2;obtain⟨p,vs,rfl,hp,_⟩:=h2;cases r2
      obtain⟨its,_,il⟩:=hR hok hp
      exact SeqAt.EqAt.none_tuple il (Nat.lt_of_le_of_lt (Nat.le_add_right _ _) hu)
  | .tup xs,k,v,v',u,u',b,A,h1,h2,r1,r2,e,hu=>by
    have h1':=h1
    simp only [RD] at h1
    obtain⟨p,vs,rfl,hp,q1⟩:=h1
    cases r1
    obtain⟨its,rv,il⟩:=hR hok hp
    have hu0:A.units < cLine:=Nat.lt_of_le_of_lt (Nat.le_add_right _ _) hu
    cases k<;>simp only [peq] at e<;>try (cases e;done)
    · cases e;simp only [RD] at h2;subst h2;cases r2;exact SeqAt.EqAt.tuple_none il hu0
    · cases e;simp only [RD] at h2;subst h2;obtain⟨t',rfl⟩:=r2;exact SeqAt.EqAt.tuple_int _ t' il hu0
    · rename_i ys
      have h2':=h2
      simp only [RD] at h2
      obtain⟨p',vs',rfl,hp',q2⟩:=h2
      cases r2
      by_cases hpp:p=p'
      · subst hpp
        have:b=true:=uP h1' h2' (by simp only [peq];exact e)
        subst this
        exact SeqAt.EqAt.same _
      · obtain⟨its',rv',il'⟩:=hR hok hp'
        cases c:fP xs ys with
        | none=>rw [c] at e;cases e
        | some b' =>
          rw [c] at e
          simp only [Option.map_some,Option.some.injEq] at e
          obtain⟨f,hf,ha⟩:=nj hok (A:=A.in1) q1 q2 rv rv' c (by simp only [dep] at hu;show A.units + 1 + km xs < cLine;omega)
          have:=SeqAt.RcAt.tuples (s:=s) (A:=A) (e:=f) il il' hu0 (fun j h1 h2=>by simpa using hf j (by simpa using h1) (by simpa using h2))
          rw [← e,← ha,q1.length,q2.length,rv.length,rv'.length]
          refine SeqAt.EqAt.of_refs hpp ?_
          rw [show (decide (its.length=its'.length))=(its.length == its'.length) from rfl]
          simpa using this
  | .ref n,k,v,v',u,u',b,A,h1,h2,r1,r2,e,hu=>by cases k<;>simp only [peq] at e<;>cases e
  | .lit l,k,v,v',u,u',b,A,h1,h2,r1,r2,e,hu=>by cases k<;>simp only [peq] at e<;>cases e
  | .exn c l,k,v,v',u,u',b,A,h1,h2,r1,r2,e,hu=>by simp only [peq] at e<;>cases e
theorem nj (hok:HOk P w H s.heap):∀ {xs ys:List D} {vs vs':List V} {us us':List Value} {b:Bool} {A:Around},RDs K ρ H xs vs→RDs K ρ H ys vs'→aS vs us→aS vs' us'→fP xs ys=some b→A.units + km xs < cLine →
    ∃ f:Nat→Bool,(∀ j (h1:j < us.length) (h2:j < us'.length),SeqAt.EqAt A s us[j] us'[j] (f j))∧(List.range (min us.length us'.length)).all f=b
  | [],ys,vs,vs',us,us',b,A,h1,h2,r1,r2,e,hu=>by
    simp only [RDs] at h1;subst h1;cases r1
    simp only [fP] at e;cases e
    exact⟨fun _=>true,fun j h1=>by simp at h1,by simp⟩
  | x :: xs,[],vs,vs',us,us',b,A,h1,h2,r1,r2,e,hu=>by
    simp only [RDs] at h2;subst h2;cases r2
    simp only [fP] at e;cases e
    exact⟨fun _=>true,fun j h1 h2=>by simp at h2,by simp⟩
  | x :: xs,y :: ys,vs,vs',us,us',b,A,h1,h2,r1,r2,e,hu=>by
    simp only [RDs] at h1 h2
    obtain⟨v,r,rfl,a1,a2⟩:=h1
    obtain⟨v',r',rfl,b1,b2⟩:=h2
    cases r1 with
    | cons p1 p2 =>
      cases r2 with
      | cons s1 s2 =>
        simp only [fP] at e
        cases c:peq x y with
        | none=>rw [c] at e;cases e
        | some p =>
          cases c2:fP xs ys with
          | none=>rw [c,c2] at e;cases e
          | some q =>
            rw [c,c2] at e
            simp only [Option.some.injEq] at e
            simp only [km] at hu
            have g1:=BN hok (A:=A) a1 b1 p1 s1 c (by omega)
            obtain⟨f,hf,ha⟩:=nj hok (A:=A) a2 b2 p2 s2 c2 (by omega)
            refine⟨fun j=>match j with|0=>p|j + 1=>f j,fun j h1 h2 => ?_,?_⟩
            · cases j with
              | zero=>exact g1
              | succ j=>exact hf j (by simpa using h1) (by simpa using h2)
            · rw [← e,← ha,List.length_cons,List.length_cons,Nat.succ_min_succ,List.range_succ_eq_map,List.all_cons,List.all_map]
              rfl
end
theorem FF (hok:HOk P w H s.heap){d k:D}{v v':V}{u u':Value}{b:Bool}{A:Around}(h1:RD K ρ H d v)(h2:RD K ρ H k v')(r1:bQ v u)(r2:bQ v' u')(e:peq d k=some b)(hu:A.units + dep d < cLine) :
    SeqAt.RcAt A s u u' b∧SeqAt.RcNeAt A s u u' (!b):=by
  have hu0:A.units < cLine:=Nat.lt_of_le_of_lt (Nat.le_add_right _ _) hu
  cases d<;>simp only [RD] at h1
  · subst h1;cases r1
    cases k<;>simp only [peq] at e<;>try (cases e;done)
    all_goals cases e
    · simp only [RD] at h2;subst h2;cases r2;exact⟨SeqAt.RcAt.none_none,SeqAt.RcNeAt.none_none⟩
    · simp only [RD] at h2;subst h2;obtain⟨t',rfl⟩:=r2;exact⟨SeqAt.RcAt.none_int _ t',SeqAt.RcNeAt.none_int _ t'⟩
    · simp only [RD] at h2;obtain⟨p,vs,rfl,hp,_⟩:=h2;cases r2
      obtain⟨its,_,il⟩:=hR hok hp
      exact⟨SeqAt.RcAt.none_tuple il hu0,SeqAt.RcNeAt.none_tuple il hu0⟩
  · subst h1;cases r1
    cases k<;>simp only [peq] at e<;>try (cases e;done)
    all_goals cases e
    · simp only [RD] at h2;subst h2;cases r2;exact⟨SeqAt.RcAt.bool_bool _ _,SeqAt.RcNeAt.bool_bool _ _⟩
    · simp only [RD] at h2;subst h2;obtain⟨t',rfl⟩:=r2;exact⟨SeqAt.RcAt.bool_int _ _ t',SeqAt.RcNeAt.bool_int _ _ t'⟩
  · subst h1;obtain⟨t,rfl⟩:=r1
    cases k<;>simp only [peq] at e<;>try (cases e;done)
    all_goals cases e
    · simp only [RD] at h2;subst h2;cases r2;exact⟨SeqAt.RcAt.int_none _ t,SeqAt.RcNeAt.int_none _ t⟩
    · simp only [RD] at h2;subst h2;cases r2;exact⟨SeqAt.RcAt.int_bool _ t _,SeqAt.RcNeAt.int_bool _ t _⟩
    · simp only [RD] at h2;subst h2;obtain⟨t',rfl⟩:=r2;exact⟨SeqAt.RcAt.int_int _ t _ t',SeqAt.RcNeAt.int_int _ t _ t'⟩
    · simp only [RD] at h2;obtain⟨p,vs,rfl,hp,_⟩:=h2;cases r2
      obtain⟨its,_,il⟩:=hR hok hp
      exact⟨SeqAt.RcAt.int_tuple _ t il hu0,SeqAt.RcNeAt.int_tuple _ t il hu0⟩
  · subst h1;obtain⟨t,rfl⟩:=r1
    cases k<;>simp only [peq] at e<;>try (cases e;done)
    all_goals cases e
    rename_i x y
    simp only [RD] at h2;subst h2;obtain⟨t',rfl⟩:=r2
    have:decide (x=y)=(toS x == toS y):=by
      by_cases z:x=y
      · subst z;simp
      · have : ¬ toS x=toS y:=fun q=>z (by have:=congrArg (fun (s:Str)=>s.cps.toList) q;simpa [toS] using this)
        simp [z,this]
    rw [this]
    exact⟨SeqAt.RcAt.str_str _ t _ t',SeqAt.RcNeAt.str_str _ t _ t'⟩
  · rename_i xs
    obtain⟨p,vs,rfl,hp,q1⟩:=h1
    cases r1
    obtain⟨its,rv,il⟩:=hR hok hp
    cases k<;>simp only [peq] at e<;>try (cases e;done)
    · cases e;simp only [RD] at h2;subst h2;cases r2;exact⟨SeqAt.RcAt.tuple_none il hu0,SeqAt.RcNeAt.tuple_none il hu0⟩
    · cases e;simp only [RD] at h2;subst h2;obtain⟨t',rfl⟩:=r2;exact⟨SeqAt.RcAt.tuple_int _ t' il hu0,SeqAt.RcNeAt.tuple_int _ t' il hu0⟩
    · rename_i ys
      simp only [RD] at h2
      obtain⟨p',vs',rfl,hp',q2⟩:=h2
      cases r2
      obtain⟨its',rv',il'⟩:=hR hok hp'
      cases c:fP xs ys with
      | none=>rw [c] at e;cases e
      | some b' =>
        rw [c] at e
        simp only [Option.map_some,Option.some.injEq] at e
        obtain⟨f,hf,ha⟩:=nj hok (A:=A.in1) q1 q2 rv rv' c (by simp only [dep] at hu;show A.units + 1 + km xs < cLine;omega)
        have g1:=SeqAt.RcAt.tuples (s:=s) (A:=A) (e:=f) il il' hu0 (fun j h1 h2=>by simpa using hf j (by simpa using h1) (by simpa using h2))
        have g2:=SeqAt.RcNeAt.tuples (s:=s) (A:=A) (e:=f) il il' hu0 (fun j h1 h2=>by simpa using hf j (by simpa using h1) (by simpa using h2))
        rw [← e,← ha,q1.length,q2.length,rv.length,rv'.length,show (decide (its.length=its'.length))=(its.length == its'.length) from rfl]
        exact⟨by simpa using g1,by simpa using g2⟩
  · cases k<;>simp only [peq] at e<;>cases e
  · cases k<;>simp only [peq] at e<;>cases e
  · simp only [peq] at e<;>cases e
end
section
variable {X:Cx}
theorem hU {K:PySem.W.Frag}{ρ:List Addr}{H:Hp}{hd:Hd}{d:D}{v:V}{l:List D}(r:RH K ρ H hd)(h:RD K ρ H d v)(e:b4 hd d=some l):∃ p vs,v=.ref p∧SqL K H p vs∧RDs K ρ H l vs:=by
  cases d<;>simp only [b4] at e<;>try (cases e;done)
  · rename_i n
    simp only [RD] at h
    obtain⟨a,e1,e2⟩:=h
    cases c:hd[n]? with
    | none=>rw [c] at e;cases e
    | some x =>
      rw [c] at e
      cases x with
      | dct l=>cases e
      | lst l' =>
        cases e
        obtain⟨vs,q1,q2⟩:=r.cel n _ a c e1
        exact⟨a,vs,e2,SqL.of q1,q2⟩
  · cases e
    simp only [RD] at h
    obtain⟨p,vs,e1,e2,e3⟩:=h
    exact⟨p,vs,e1,e2.sq,e3⟩
theorem BO {pins:List (Addr × Obj)}{σ:St}{H:Hp}{s:Shared}{ρ:List Addr}{hd:Hd}{d k:D}{v v':V}{u u':Value}{b:Bool}(hu:X.A.units + 24 < cLine)(I:Inv X pins σ H s)(r:RH X.K ρ H hd)(h1:RD X.K ρ H d v)(h2:RD X.K ρ H k v')
    (r1:bQ v u) (r2:bQ v' u') (e:eqG hd d k=some b):SeqAt.RcAt X.A s u u' b∧SeqAt.RcNeAt X.A s u u' (!b):=by
  have hu0:X.A.units < cLine:=by omega
  simp only [eqG] at e
  cases c1:b4 hd d with
  | none =>
    cases c2:b4 hd k with
    | some l=>rw [c1,c2] at e;cases e
    | none =>
      rw [c1,c2] at e
      simp only at e
      split at e
      · rename_i hd20
        exact FF I.hok h1 h2 r1 r2 e (by omega)
      · cases e
  | some xs =>
    cases c2:b4 hd k with
    | none=>rw [c1,c2] at e;cases e
    | some ys =>
      rw [c1,c2] at e
      simp only [eqL] at e
      obtain⟨p,vs,rfl,s1,q1⟩:=hU r h1 c1
      obtain⟨p',vs',rfl,s2,q2⟩:=hU r h2 c2
      cases r1;cases r2
      obtain⟨its,rv,pl,_⟩:=I.list s1
      obtain⟨its',rv',pl',_⟩:=I.list s2
      have il:s.heap.IsList p its.toArray:=pl.isList
      have il':s.heap.IsList p' its'.toArray:=pl'.isList
      have l1:xs.length=its.length:=q1.length.trans rv.length
      have l2:ys.length=its'.length:=q2.length.trans rv'.length
      split at e
      · rename_i hd20
        split at e
        · rename_i hl
          obtain⟨f,hf,ha⟩:=nj I.hok (A:=X.A.in1) q1 q2 rv rv' e (by show X.A.units + 1 + km xs < cLine;omega)
          have hs:its.toArray.size=its'.toArray.size:=by simp;omega
          have g1:=SeqAt.RcAt.lists (s:=s) (A:=X.A) (e:=f) il il' hs hu0 (fun j h1 h2=>by simpa using hf j (by simpa using h1) (by simpa using h2))
          have g2:=SeqAt.RcNeAt.lists (s:=s) (A:=X.A) (e:=f) il il' hs hu0 (fun j h1 h2=>by simpa using hf j (by simpa using h1) (by simpa using h2))
          have hm:min its.length its'.length=its.length:=by omega
          rw [hm] at ha
          rw [← ha]
          exact⟨by simpa using g1,by simpa using g2⟩
        · rename_i hl
          cases e
          have hs:(its.toArray.size != its'.toArray.size)=true:=by simp;omega
          exact⟨SeqAt.RcAt.lists_lengths il il' hs hu0,SeqAt.RcNeAt.lists_lengths il il' hs hu0⟩
      · cases e
def DK (K:PySem.W.Frag) (f:Bool→Bool):R2:=fun x y H Q=>∃ ρ hd d k b,RH K ρ H hd∧RD K ρ H d x∧RD K ρ H k y∧eqG hd d k=some b∧Q (.bl (f b)) H
theorem cG (hu:X.A.units + 24 < cLine):OpR X (compareOp .Eq) (DK X.K id):=by
  intro pins s σ H x y v u Q I rx ry h
  obtain⟨ρ,hd,d,k,b,r,h1,h2,e,q⟩:=h
  exact (BO hu I r h1 h2 rx ry e).1 _ _ _ _ ⟨.bl b,H,I,rfl,q⟩
theorem e8 (hu:X.A.units + 24 < cLine):OpR X (compareOp .NotEq) (DK X.K not):=by
  intro pins s σ H x y v u Q I rx ry h
  obtain⟨ρ,hd,d,k,b,r,h1,h2,e,q⟩:=h
  exact (BO hu I r h1 h2 rx ry e).2 _ _ _ _ ⟨.bl (!b),H,I,rfl,q⟩
theorem dN {K:PySem.W.Frag}:Og K oEq (DK K id):=by
  intro ρ H σd hd σ d k v w Q rs rv rw' p
  unfold oEq at p
  cases e:eqG hd d k with
  | none=>rw [e] at p;exact p.elim
  | some b=>rw [e] at p;exact⟨ρ,hd,d,k,b,rs.hp,rv,rw',e,p.here rs (by simp only [rD,RD];rfl)⟩
theorem iC {K:PySem.W.Frag}:Og K oNe (DK K not):=by
  intro ρ H σd hd σ d k v w Q rs rv rw' p
  unfold oNe at p
  cases e:eqG hd d k with
  | none=>rw [e] at p;exact p.elim
  | some b=>rw [e] at p;exact⟨ρ,hd,d,k,b,rs.hp,rv,rw',e,p.here rs (by simp only [rD,RD])⟩
end
end Fm
set_option Elab.async false
set_option linter.all false
set_option maxRecDepth 100000
namespace Fm
open PySem PySem.Spec L2
section
variable {K:PySem.W.Frag} {ρ ρ':List Addr} {H H':Hp} {hd hd':Hd} {σd:Sd} {σ:St}
theorem cq.outE {r:Res D}{k:D→Hd→Out}{En:uG}(p:cq K ρ H (outE r σd k) En) :
    bj K (rD K) ρ H σd σ r (fun v H'=>∃ ρ' d hd',Ext ρ H ρ' H'∧RS K ρ' H' σd hd' σ ∧ RD K ρ' H' d v∧cq K ρ' H' (k d hd') En):=by
  cases r with
  | ok d h'=>exact fun b H' ρ' ex rs q=>⟨ρ',d,h',ex,rs,q,cq.ext ex p⟩
  | exc x h'=>exact p
  | bad=>exact p
theorem RSt.set (r:RSt K ρ H σd σ){d:D}{v:V}(i:Nat)(h:RD K ρ H d v):RSt K ρ H (σd.set i (some d)) (σ.set i (some v)):=by
  refine⟨by simp [r.len],fun j x e => ?_⟩
  by_cases hj:i=j
  · subst hj
    by_cases hl:i < σd.length
    · simp only [slot,List.getElem?_set_self hl] at e
      cases e
      exact⟨v,by rw [List.getElem?_set_self (by rw [← r.len];exact hl)],h⟩
    · simp only [slot] at e
      rw [List.getElem?_eq_none (by simp;omega)] at e
      cases e
  · simp only [slot,List.getElem?_set_ne hj] at e
    rw [List.getElem?_set_ne hj]
    exact r.at' j x (by simpa only [slot] using e)
def GY (K:PySem.W.Frag) (g:GF):TG:=fun v σ H Q=>∃ ρ σd hd d σd',RS K ρ H σd hd σ ∧ RD K ρ H d v∧g d σd=some σd' ∧ ∀ σ',RS K ρ H σd' hd σ'→Q σ' H
def FG (σ:Sd) (l:List Nat) (xs:List D):Sd:=(l.zip xs).foldl (fun σ p => σ.set p.1 (some p.2)) σ
def FH (K:PySem.W.Frag) (l:List Nat):TGs:=fun vs σ H Q=>∃ ρ σd hd ds,RS K ρ H σd hd σ ∧ RDs K ρ H ds vs∧ds.length=l.length ∧ ∀ σ',RS K ρ H (FG σd l ds) hd σ'→Q σ' H
end
def MG (X:Cx) (tg:Expr) (g:GF):Prop:=PG X tg (GY X.K g)
def MGs (X:Cx) (ts:List Expr) (l:List Nat):Prop:=PGs X ts (FH X.K l)
section
variable {X:Cx} {pos:Pos}
theorem PG.imp {tg:Expr}{t u:TG}(h:PG X tg t)(i:∀ v σ H Q,u v σ H Q→t v σ H Q):PG X tg u:=fun pins s σ H v w Q I r q=>h pins s σ H v w Q I r (i v σ H Q q)
theorem PGs.imp {tg:List Expr}{t u:TGs}(h:PGs X tg t)(i:∀ v σ H Q,u v σ H Q→t v σ H Q):PGs X tg u:=fun pins s σ H v w Q I r q=>h pins s σ H v w Q I r (i v σ H Q q)
theorem aL {i:Nat}{x:Str}(hN:X.N.Nodup)(hi:X.N[i]? = some x)(hx:Loc X.env.scope x)(hf:X.fn x=true∨X.env.scope.names.lookup x=some .local:=by first|exact .inl rfl|exact .inr rfl|assumption):MG X (.Name x pos) (gN i):=by
  refine PG.imp (Dr hN hi hx hf) fun v σ H Q ⟨ρ,σd,hd,d,σd',rs,rv,e,q⟩ => ?_
  simp only [gN,Option.some.injEq] at e
  subst e
  exact q _ ⟨rs.hp,rs.st.set i rv⟩
theorem gk:MGs X [] []:=by
  refine PGs.imp Ds fun vs σ H Q ⟨ρ,σd,hd,ds,rs,rv,e,q⟩ => ?_
  have:ds=[]:=by simpa using e
  subst this
  simp only [RDs] at rv
  exact⟨rv,q σ rs⟩
theorem bN {e:Expr}{es:List Expr}{i:Nat}{l:List Nat}(h1:MG X e (gN i))(h2:MGs X es l)
    (hs:(assignEach (e :: es) X.env).map (·.2)=assign e X.env :: (assignEach es X.env).map (·.2):=by rfl):MGs X (e :: es) (i :: l):=by
  refine PGs.imp (Bq h1 h2 hs) fun vs σ H Q ⟨ρ,σd,hd,ds,rs,rv,e,q⟩ => ?_
  cases ds with
  | nil=>simp at e
  | cons d ds =>
    simp only [RDs] at rv
    obtain⟨v,r,rfl,h1,h2⟩:=rv
    refine⟨v,r,rfl,ρ,σd,hd,d,_,rs,h1,rfl,fun σ' rs' => ?_⟩
    exact⟨ρ,_,hd,ds,rs',h2,by simpa using e,fun σ2 rs2=>q σ2 rs2⟩
theorem iR {es:List Expr}{k:Nat}{l:List Nat}(hc:X.calm=true)(h:MGs X es l)
    (hn:(assignEach es X.env).length=l.length:=by rfl) (hst:(assignEach es X.env).findIdx? (·.1)=none:=by rfl):MG X (.Tuple es k pos) (gT l):=by
  refine PG.imp (E7 hc h hn hst) fun v σ H Q ⟨ρ,σd,hd,d,σd',rs,rv,e,q⟩ => ?_
  cases d<;>simp only [gT] at e<;>try (cases e;done)
  rename_i xs
  split at e
  · rename_i hl
    cases e
    simp only [RD] at rv
    obtain⟨p,vs,rfl,hp,r⟩:=rv
    exact⟨p,vs,rfl,SqT.of hp,by rw [← r.length];exact hl,ρ,σd,hd,xs,rs,r,hl,q⟩
  · cases e
theorem aW:MSs X [] bI:=PSs.imp Do fun En σ H ⟨ρ,σd,hd,rs,p⟩=>p σ H ρ Ext.refl rs
theorem ah {st:Stmt}{rest:List Stmt}{a b:SF}(h1:MS X st a)(h2:MSs X rest b):MSs X (st :: rest) (aB a b):=by
  refine PSs.imp (Bo h1 h2) fun En σ H ⟨ρ,σd,hd,rs,p⟩=>⟨ρ,σd,hd,rs,?_⟩
  unfold aB at p
  cases e:a σd hd with
  | nx σ1 h1=>rw [e] at p;exact fun σ' H' ρ' ex rs'=>⟨ρ',σ1,h1,rs',cq.ext ex p⟩
  | rt d h1=>rw [e] at p;exact p
  | bk σ1 h1=>rw [e] at p;exact p
  | ct σ1 h1=>rw [e] at p;exact p
  | exc x σ1 h1=>rw [e] at p;exact p
  | bad=>rw [e] at p;exact p
theorem ao {st:Stmt}{a:SF}(h:MS X st a):MSs X [st] a:=Dp h
theorem BP {st:Stmt}:MS X st DH:=PS.imp Bp fun En σ H ⟨ρ,σd,hd,rs,p⟩=>p.elim
theorem aH {e:Expr}{f:EF}(h:ME X e f):MS X (.Return (some e) pos) (ba f):=by
  refine PS.imp (E4 h) fun En σ H ⟨ρ,σd,hd,rs,p⟩=>⟨ρ,σd,hd,rs,(cq.outE p).imp fun v H1 ⟨ρ1,d,hd1,e1,rs1,rv,p1⟩ => ?_⟩
  exact p1 v H1 ρ1 Ext.refl rs1.hp rv
theorem cE {e:Expr}{f:EF}(h:ME X e f)(hs:swapsWith e none pos.line X.env=pure false:=by rfl):MS X (.Expr e pos) (eC f):=by
  refine PS.imp (Dq h hs) fun En σ H ⟨ρ,σd,hd,rs,p⟩=>⟨ρ,σd,hd,rs,(cq.outE p).imp fun v H1 ⟨ρ1,d,hd1,e1,rs1,rv,p1⟩ => ?_⟩
  exact p1 σ H1 ρ1 Ext.refl rs1
theorem bO {c:Expr}{a b:List Stmt}{t:TF}{fa fb:SF}(hc:MT X c t)(ha:MSs X a fa)(hb:MSs X b fb):MS X (.If c a b pos) (sIf t fa fb):=by
  refine PS.imp (Gx hc ha hb) fun En σ H ⟨ρ,σd,hd,rs,p⟩=>⟨ρ,σd,hd,rs,?_⟩
  unfold sIf at p
  cases e:t σd hd with
  | ok c h1 =>
    rw [e] at p
    intro b H' ρ' ex rs' q
    cases q
    cases c with
    | true=>simp only [if_true] at p ⊢;exact⟨ρ',σd,h1,rs',cq.ext ex p⟩
    | false=>simp only [Bool.false_eq_true,if_false] at p ⊢;exact⟨ρ',σd,h1,rs',cq.ext ex p⟩
  | exc x h1=>rw [e] at p;exact p
  | bad=>rw [e] at p;exact p
theorem aI {i:Nat}{x:Str}{e:Expr}{f:EF}{pos':Pos}(hN:X.N.Nodup)(hi:X.N[i]? = some x)(hx:Loc X.env.scope x)(he:ME X e f)(hs:swapsWith e (some (.Name x pos')) pos.line X.env=pure false:=by rfl)(hf:X.fn x=true∨X.env.scope.names.lookup x=some .local:=by first|exact .inl rfl|exact .inr rfl|assumption) :
    MS X (.Assign [.Name x pos'] e pos) (aK (gN i) f):=by
  refine PS.imp (E9 hN hi hx he hs hf) fun En σ H ⟨ρ,σd,hd,rs,p⟩=>⟨ρ,σd,hd,rs,(cq.outE p).imp fun v H1 ⟨ρ1,d,hd1,e1,rs1,rv,p1⟩ => ?_⟩
  exact p1 _ H1 ρ1 Ext.refl ⟨rs1.hp,rs1.st.set i rv⟩
theorem FI {tg e:Expr}{f:EF}{g:GF}(he:ME X e f)(hg:MG X tg g)(hs:swapsWithSole [tg] e pos.line X.env=pure false:=by rfl)(hw:swappedStores [tg] e X.env=pure none:=by rfl)
    (h1:(assignEach [tg] X.env).map (·.2)=[assign tg X.env]:=by rfl):MS X (.Assign [tg] e pos) (aK g f):=by
  refine PS.imp (Br he hg hs hw h1) fun En σ H ⟨ρ,σd,hd,rs,p⟩=>⟨ρ,σd,hd,rs,(cq.outE p).imp fun v H1 ⟨ρ1,d,hd1,e1,rs1,rv,p1⟩ => ?_⟩
  cases c:g d σd with
  | none=>rw [c] at p1;exact p1.elim
  | some σ1=>rw [c] at p1;exact⟨ρ1,σd,hd1,d,σ1,rs1,rv,c,fun σ' rs'=>p1 σ' H1 ρ1 Ext.refl rs'⟩
theorem FJ:Fm.ixN=L2.ixN:=rfl
theorem FK {o i e:Expr}{fo fi fe:EF}{p2:Pos}(he:ME X e fe)(ho:ME X o fo)(hi:ME X i fi)(hs:swapsWithSole [.Subscript o i p2] e pos.line X.env=pure false:=by rfl)(hw:swappedStores [.Subscript o i p2] e X.env=pure none:=by rfl)
    (h1:(assignEach [.Subscript o i p2] X.env).map (·.2)=[assign (.Subscript o i p2) X.env]:=by rfl) (ha:∀ v,assign (.Subscript o i p2) X.env v=(do
      let ov ← holding [v] (eval o X.env)
      let iv ← holding [v,ov] (eval i X.env)
      standAt p2
      holding [v,ov,iv] (setItem ov iv v)
      release [v,ov,iv] []):=by intro _;rfl):MS X (.Assign [.Subscript o i p2] e pos) (GT fo fi fe):=by
  refine PS.imp (Br he (E8 ho hi BC ha) hs hw h1) fun En σ H ⟨ρ,σd,hd,rs,p⟩=>⟨ρ,σd,hd,rs,(cq.outE p).imp fun v H1 ⟨ρ1,d,hd1,e1,rs1,rv,p1⟩ => ?_⟩
  refine⟨ρ1,σd,hd1,rs1,(cq.outE p1).imp fun vo H2 ⟨ρ2,dO,hd2,e2,rs2,ro,p2⟩ => ?_⟩
  refine⟨ρ2,σd,hd2,rs2,(cq.outE p2).imp fun vi H3 ⟨ρ3,di,hd3,e3,rs3,ri,p3⟩ => ?_⟩
  have rv3:=(rv.mono (rs1.hp.kp e2)).mono (rs2.hp.kp e3)
  have ro3:=ro.mono (rs2.hp.kp e3)
  cases dO with
  | ref n =>
    cases di with
    | int j =>
      simp only at p3
      cases c:hd3[n]? with
      | none=>rw [c] at p3;exact p3.elim
      | some cell =>
        rw [c] at p3
        cases cell with
        | dct l=>exact p3.elim
        | lst l =>
          simp only at p3
          cases c2:ixN l.length j with
          | none=>rw [c2] at p3;exact p3.elim
          | some k =>
            rw [c2] at p3
            simp only [RD] at ro3 ri
            obtain⟨a,ha,rfl⟩:=ro3
            obtain⟨vs,hv,rvs⟩:=rs3.hp.cel n _ a c ha
            refine⟨a,vs,j,k,rfl,ri,hv,by rw [← rvs.length,← FJ];exact c2,?_⟩
            have hn:n < hd3.length:=(List.getElem?_eq_some_iff.mp c).1
            have rh:=rs3.hp.write ha hn (RDs.set rv3 k rvs)
            have ex:Ext ρ3 H3 ρ3 (upd H3 a (.lst (vs.set k v))):=Ext.write (List.mem_of_getElem? ha)
            exact p3 σ _ ρ3 ex (rs3.ext ex rh)
    | _=>exact p3.elim
  | _=>exact p3.elim
end
section
variable (K:PySem.W.Frag)
structure pB (ρ0:List Addr) (H0:Hp) (J:It) (l:List D) (g:Option Nat):Prop where
  go:∀ ρ H hd (i:Nat) d,Ext ρ0 H0 ρ H→RH K ρ H hd→jT g l hd→l[i]? = some d→J.go i H ∧ ∀ x H',J.yld i H x H'→kW H H'∧RD K ρ H' d x
  stop:∀ ρ H hd,Ext ρ0 H0 ρ H→RH K ρ H hd→jT g l hd→J.stop l.length H
  sz:l.length≤sizeLine
def GZ (ρ:List Addr) (H:Hp) (σd:Sd) (σ:St) (r:Res (List D × Option Nat)) (R:It→Hp→Prop):Prop:=match r with
  | .ok p hd'=>∀ J H' ρ',Ext ρ H ρ' H'→RS K ρ' H' σd hd' σ → pB K ρ' H' J p.1 p.2→R J H'
  | _=>False
def G0 (f:IF):TI:=fun σ H R=>∃ ρ σd hd,RS K ρ H σd hd σ ∧ GZ K ρ H σd σ (f σd hd) R
end
def MI (X:Cx) (tg e:Expr) (f:IF):Prop:=PI X tg e (G0 X.K f)
section
variable {X:Cx} {pos:Pos} {tg:Expr}
theorem PI.imp {e:Expr}{t u:TI}(h:PI X tg e t)(i:∀ σ H R,u σ H R→t σ H R):PI X tg e u:=fun pins s σ H R I q=>h pins s σ H R I (i σ H R q)
theorem e9 {iter:Expr}{body:List Stmt}{f:IF}{g:GF}{b:SF}(hp:PassesOwn (model X.prog X.w) X.A X.env X.xe)(hc:X.calm=true)(hi:MI X tg iter f)(hg:MG X tg g)(hb:MSs X body b)
    (hs:∀ x,foldedSetIterable iter X.env x=pure x:=by intro _;rfl):MS X (.For tg iter body [] pos) (gI f g b):=by
  refine PS.imp (Fc hp hc hi hg hb hs) fun En σ H ⟨ρ,σd,hd,rs,p⟩=>⟨ρ,σd,hd,rs,?_⟩
  unfold gI at p
  cases e:f σd hd with
  | exc x h'=>rw [e] at p;exact p
  | bad=>rw [e] at p;exact p
  | ok q hd1 =>
    rw [e] at p
    obtain⟨l,gd⟩:=q
    intro J H1 ρ1 ex1 rs1 wk
    simp only at p wk
    refine⟨fun i m σ' H'=>∃ ρ' σd' hd',Ext ρ1 H1 ρ' H'∧RS X.K ρ' H' σd' hd' σ'∧i≤l.length∧m=l.length - i∧cq X.K ρ' H' (iQ gd l g b (l.drop i) σd' hd') En,
      ⟨l.length,ρ1,σd,hd1,Ext.refl,rs1,Nat.zero_le _,by simp,by simpa using cq.ext ex1 p⟩,?_⟩
    rintro i m σ' H' ⟨ρ',σd',hd',ex,rs',hil,rfl,pp⟩
    by_cases hlt:i < l.length
    · have hdi:l[i]? = some l[i]:=by simp [hlt]
      rw [List.drop_eq_getElem_cons hlt] at pp
      unfold iQ at pp
      by_cases hh:jT gd l hd'
      · rw [if_pos hh] at pp
        obtain⟨go,yl⟩:=wk.go ρ' H' hd' i _ ex rs'.hp hh hdi
        refine .inr ⟨go,fun σ2 H2=>∃ ρ2 σd2 hd2,Ext ρ1 H1 ρ2 H2∧RS X.K ρ2 H2 σd2 hd2 σ2∧cq X.K ρ2 H2 (iQ gd l g b (l.drop (i + 1)) σd2 hd2) En,
          fun σ2 H2 ⟨ρ2,σd2,hd2,a1,a2,a3⟩=>⟨l.length - (i + 1),by omega,ρ2,σd2,hd2,a1,a2,hlt,rfl,a3⟩,fun x H2 y => ?_⟩
        obtain⟨sm,rx⟩:=yl x H2 y
        cases c:g l[i] σd' with
        | none=>rw [c] at pp;exact pp.elim
        | some σd2 =>
          rw [c] at pp
          simp only at pp
          refine⟨ρ',σd',hd',l[i],σd2,rs'.same sm,rx,c,fun σ2 rs2=>⟨ρ',σd2,hd',rs2,?_⟩⟩
          have e12:Ext ρ' H' ρ' H2:=Ext.same sm
          cases c2:b σd2 hd' with
          | nx σ3 h3=>rw [c2] at pp;exact fun σ4 H4 ρ4 ex4 rs4=>⟨ρ4,σ3,h3,ex.trans (e12.trans ex4),rs4,cq.ext (e12.trans ex4) pp⟩
          | ct σ3 h3=>rw [c2] at pp;exact fun σ4 H4 ρ4 ex4 rs4=>⟨ρ4,σ3,h3,ex.trans (e12.trans ex4),rs4,cq.ext (e12.trans ex4) pp⟩
          | bk σ3 h3=>rw [c2] at pp;exact fun σ4 H4 ρ4 ex4 rs4=>pp σ4 H4 ρ4 (e12.trans ex4) rs4
          | rt d h3=>rw [c2] at pp;exact fun v H4 ρ4 ex4 rs4 rv=>pp v H4 ρ4 (e12.trans ex4) rs4 rv
          | exc x σ3 h3=>rw [c2] at pp;exact pp
          | bad=>rw [c2] at pp;exact pp
      · rw [if_neg hh] at pp;exact pp.elim
    · have e0:i=l.length:=by omega
      subst e0
      rw [List.drop_length] at pp
      unfold iQ at pp
      by_cases hh:jT gd l hd'
      · rw [if_pos hh] at pp
        exact .inl ⟨wk.stop ρ' H' hd' ex rs'.hp hh,pp σ' H' ρ' Ext.refl rs'⟩
      · rw [if_neg hh] at pp;exact pp.elim
theorem uQ {c:Expr}{body:List Stmt}{t:TF}{b:SF}(hp:PassesOwn (model X.prog X.w) X.A X.env X.xe)(hc:MT X c t)(hb:MSs X body b):MS X (.While c body [] pos) (kY t b):=by
  refine PS.imp (Bs hp hc hb) fun En σ H ⟨ρ,σd,hd,rs,p⟩ => ?_
  unfold kY at p
  refine⟨fun m σ' H'=>∃ ρ' σd' hd',RS X.K ρ' H' σd' hd' σ'∧cq X.K ρ' H' (cL t b m σd' hd') En,⟨DI t b σd hd,ρ,σd,hd,rs,p⟩,?_⟩
  rintro m σ' H' ⟨ρ',σd',hd',rs',pp⟩
  cases m with
  | zero=>exact pp.elim
  | succ m =>
    unfold cL at pp
    refine⟨ρ',σd',hd',rs',?_⟩
    cases e:t σd' hd' with
    | exc x h1=>rw [e] at pp;exact pp
    | bad=>rw [e] at pp;exact pp
    | ok c h1 =>
      rw [e] at pp
      intro b' H2 ρ2 ex2 rs2 q
      cases q
      cases c with
      | false=>simp only [Bool.false_eq_true,if_false] at pp ⊢;exact pp σ' H2 ρ2 ex2 rs2
      | true =>
        simp only [if_true] at pp ⊢
        refine⟨fun σ3 H3=>∃ ρ3 σd3 hd3,RS X.K ρ3 H3 σd3 hd3 σ3∧cq X.K ρ3 H3 (cL t b m σd3 hd3) En,fun σ3 H3 q=>⟨m,Nat.lt_succ_self _,q⟩,ρ2,σd',h1,rs2,?_⟩
        cases c2:b σd' h1 with
        | nx σ3 h3=>rw [c2] at pp;exact fun σ4 H4 ρ4 ex4 rs4=>⟨ρ4,σ3,h3,rs4,cq.ext (ex2.trans ex4) pp⟩
        | ct σ3 h3=>rw [c2] at pp;exact fun σ4 H4 ρ4 ex4 rs4=>⟨ρ4,σ3,h3,rs4,cq.ext (ex2.trans ex4) pp⟩
        | bk σ3 h3=>rw [c2] at pp;exact fun σ4 H4 ρ4 ex4 rs4=>pp σ4 H4 ρ4 (ex2.trans ex4) rs4
        | rt d h3=>rw [c2] at pp;exact fun v H4 ρ4 ex4 rs4 rv=>pp v H4 ρ4 (ex2.trans ex4) rs4 rv
        | exc x σ3 h3=>rw [c2] at pp;exact pp
        | bad=>rw [c2] at pp;exact pp
theorem BQ {K:PySem.W.Frag}{ρ:List Addr}{H:Hp}{hd:Hd}{q:Addr}{l:List D}{vs:List V}(r:RH K ρ H hd)(hq:H q=some (.tup vs))(rv:RDs K ρ H l vs)(hz:vs.length≤sizeLine):pB K ρ H (Itt K q) l none where
  go:=fun ρ' H' hd' i d ex rh _ hi=>by
    have k:=r.kp ex
    obtain⟨v,hv,rd⟩:=(rv.mono k).get hi
    have sq:SqT K H' q vs:=SqT.of (k.tup q vs hq)
    refine⟨⟨vs,v,sq,hv⟩,fun x H2 y => ?_⟩
    obtain⟨rfl,y⟩:=y
    have:=y vs sq
    rw [hv] at this
    cases this
    exact⟨kW.refl _,rd⟩
  stop:=fun ρ' H' hd' ex rh _=>⟨vs,SqT.of ((r.kp ex).tup q vs hq),by rw [rv.length];exact Nat.le_refl _⟩
  sz:=by rw [rv.length];exact hz
theorem BR {K:PySem.W.Frag}{ρ:List Addr}{H:Hp}{hd:Hd}{q:Addr}{l:List D}{vs:List V}(r:RH K ρ H hd)(hq:mx K H q vs)(rv:RDs K ρ H l vs)(hz:vs.length≤sizeLine):pB K ρ H (Itl K q) l none where
  go:=fun ρ' H' hd' i d ex rh _ hi=>by
    have k:=r.kp ex
    obtain⟨v,hv,rd⟩:=(rv.mono k).get hi
    have sq:SqL K H' q vs:=(hq.mono k).sq
    refine⟨⟨vs,v,sq,hv⟩,fun x H2 y => ?_⟩
    obtain⟨rfl,y⟩:=y
    have:=y vs sq
    rw [hv] at this
    cases this
    exact⟨kW.refl _,rd⟩
  stop:=fun ρ' H' hd' ex rh _=>⟨vs,(hq.mono (r.kp ex)).sq,by rw [rv.length];exact Nat.le_refl _⟩
  sz:=by rw [rv.length];exact hz
theorem BS {K:PySem.W.Frag}{ρ:List Addr}{H:Hp}{n:Nat}{q:Addr}{l:List D}(hq : ρ[n]? = some q)(hz:l.length≤sizeLine):pB K ρ H (Itl K q) l (some n) where
  sz:=hz
  go:=fun ρ' H' hd' i d ex rh hl hi=>by
    obtain⟨vs,e,rv⟩:=rh.cel n _ q hl (ex.get hq)
    obtain⟨v,hv,rd⟩:=rv.get hi
    have sq:SqL K H' q vs:=SqL.of e
    refine⟨⟨vs,v,sq,hv⟩,fun x H2 y => ?_⟩
    obtain⟨rfl,y⟩:=y
    have:=y vs sq
    rw [hv] at this
    cases this
    exact⟨kW.refl _,rd⟩
  stop:=fun ρ' H' hd' ex rh hl=>by
    obtain⟨vs,e,rv⟩:=rh.cel n _ q hl (ex.get hq)
    exact⟨vs,SqL.of e,by rw [rv.length];exact Nat.le_refl _⟩
theorem FL {l:Expr}{tl:TE}(hl:PE X l tl):PI X tg l (fun σ H R=>tl σ H fun x H1=>(∃ a xs,x=.ref a∧SqL X.K H1 a xs∧(xs.length≤sizeLine→R (Itl X.K a) H1)) ∨ ∃ a xs,x=.ref a∧SqT X.K H1 a xs∧(xs.length≤sizeLine→R (Itt X.K a) H1)):=by
  intro pins s σ H R I h
  refine thn (hl pins s σ H _ I h) fun v s1 ⟨x,H1,I1,r1,q1⟩ => ?_
  rcases q1 with ⟨a,xs,e,hq,q⟩|⟨a,xs,e,hq,q⟩
  · subst e
    cases r1
    obtain⟨its,rv,p,hz⟩:=I1.list hq
    refine wpAny_pyIter_list p.isList ?_
    refine⟨s1.heap.objs.size,[s1.heap.objs.size],_,_,H1,rfl,I1.kept (t':=s1.toks) fun b o e=>Heap.get?_push_of_some _ e,z8 a _,⟨_,Heap.get?_push_size _ rfl,rfl,rfl⟩,fun b hb => ?_,q hz⟩
    have e:b=s1.heap.objs.size:=by simpa using hb
    subst e
    exact I1.fpOk (Nat.le_refl _) (I1.hok.fresh (Nat.le_refl _))
  · subst e
    cases r1
    obtain⟨its,rv,p,hz⟩:=I1.tuple hq
    refine wpAny_pyIter_tuple (show s1.heap.IsTuple a its.toArray from p) ?_
    refine⟨s1.heap.objs.size,[s1.heap.objs.size],_,_,H1,rfl,I1.kept (t':=s1.toks) fun b o e=>Heap.get?_push_of_some _ e,w5 a _,⟨_,Heap.get?_push_size _ rfl,rfl,rfl⟩,fun b hb => ?_,q hz⟩
    have e:b=s1.heap.objs.size:=by simpa using hb
    subst e
    exact I1.fpOk (Nat.le_refl _) (I1.hok.fresh (Nat.le_refl _))
theorem ei {e:Expr}{f:EF}(h:ME X e f):MI X tg e (dq f):=by
  refine PI.imp (FL h) fun σ H R ⟨ρ,σd,hd,rs,p⟩=>⟨ρ,σd,hd,rs,?_⟩
  unfold dq at p
  cases e:f σd hd with
  | exc x h1=>rw [e] at p;exact p
  | bad=>rw [e] at p;exact p
  | ok d hd1 =>
    rw [e] at p
    simp only [aT] at p
    intro v H1 ρ1 ex1 rs1 rv
    cases d<;>try exact p.elim
    · rename_i l
      simp only [rD,RD] at rv
      obtain⟨q,vs,rfl,hq,rvs⟩:=rv
      exact .inr ⟨q,vs,rfl,SqT.of hq,fun hz=>p _ H1 ρ1 ex1 rs1 (BQ rs1.hp hq rvs hz)⟩
    · rename_i n
      simp only [rD,RD] at rv
      obtain⟨a,ha,rfl⟩:=rv
      cases c:hd1[n]? with
      | none=>simp only [c] at p;exact p.elim
      | some cell =>
        cases cell with
        | dct l=>simp only [c] at p;exact p.elim
        | lst l =>
          simp only [c] at p
          obtain⟨vs,hv,rvs⟩:=rs1.hp.cel n _ a c ha
          exact .inl ⟨a,vs,rfl,SqL.of hv,fun hz=>p _ H1 ρ1 ex1 rs1 (BS ha (by rw [rvs.length];exact hz))⟩
    · rename_i l
      simp only [rD,RD] at rv
      obtain⟨q,vs,rfl,hq,rvs⟩:=rv
      exact .inl ⟨q,vs,rfl,hq.sq,fun hz=>p _ H1 ρ1 ex1 rs1 (BR rs1.hp hq rvs hz)⟩
theorem xj {K:PySem.W.Frag}{ρ:List Addr}{H:Hp}(lo:Int)(n:Nat)(hz:n≤2000000):pB K ρ H (Itr lo n) ((List.range n).map fun k:Nat=>.int (lo + k)) none where
  go:=fun ρ' H' hd' i d ex rh _ hi=>by
    have hin:i < n:=by
      have:=(List.getElem?_eq_some_iff.mp hi).1
      simpa using this
    refine⟨hin,fun x H2 y => ?_⟩
    obtain⟨rfl,rfl⟩:=y
    have e:d=.int (lo + i):=by simpa [hin] using hi.symm
    subst e
    exact⟨kW.refl _,by simp only [RD]⟩
  stop:=fun ρ' H' hd' ex rh _=>by
    show n≤_
    simp
  sz:=by
    have:(2000000:Nat)≤sizeLine:=by rw [sizeLine_eq];decide
    simp;omega
theorem bT {a:Expr} {f:EF} {p:Pos} (hg:Gl X "range") (hm:X.mg "range" = none) (ha:ME X a f) (hs:starEach [a] X.env=[(false,eval a X.env)]:=by rfl):MI X tg (.Call (.Name "range" p) [a] [] pos) (bM f):=by
  refine PI.imp (z9 hg hm (cJ ha d6 hs) hs) fun σ H R ⟨ρ,σd,hd,rs,pp⟩=>⟨ρ,σd,hd,rs,?_⟩
  unfold bM at pp
  cases e:f σd hd with
  | exc x h1=>rw [e] at pp;exact pp
  | bad=>rw [e] at pp;exact pp
  | ok d hd1 =>
    rw [e] at pp
    simp only [aT] at pp
    intro v H1 ρ1 ex1 rs1 rv
    cases d<;>try exact pp.elim
    rename_i n
    simp only at pp
    simp only [rD,RD] at rv
    subst rv
    split at pp
    · rename_i hb
      refine⟨n,rfl,by omega,by omega,pp _ H1 ρ1 ex1 rs1 ?_⟩
      have:=xj (K:=X.K) (ρ := ρ1) (H:=H1) 0 n.toNat (by omega)
      simpa using this
    · exact pp.elim
end
end Fm
set_option linter.all false
namespace Fm
noncomputable section
open Classical
def eW (G:Hd→Prop) (tg:GF) (cs:List TF) (e:EF):List D→Sd→Hd→Res (List D)
  | [],_,h=>if G h then .ok [] h else .bad
  | x :: xs,σ,h=>if G h then match tg x σ with
      | some σ=>(iA cs σ h).bind fun b h=>if b then (e σ h).bind fun d h=>(eW G tg cs e xs σ h).bind fun ds h=>.ok (d :: ds) h
        else eW G tg cs e xs σ h
      | none=>.bad
    else .bad
end
theorem rP {g:Option Nat}{all:List D}{tg:GF}{cs:List TF}{e:EF}:∀ (xs:List D) (σ:Sd) (h:Hd),bX g all tg cs e xs σ h=eW (jT g all) tg cs e xs σ h
  | [],_,h=>by unfold bX eW;rfl
  | x :: xs,σ,h=>by
    unfold bX eW
    by_cases hh:jT g all h
    · rw [if_pos hh,if_pos hh]
      cases tg x σ with
      | none=>rfl
      | some σ'=>simp only [rP xs]
    · rw [if_neg hh,if_neg hh]
end Fm
set_option Elab.async false
set_option linter.all false
set_option maxRecDepth 100000
namespace Fm
open PySem PySem.Spec L2
section
variable {prog:Program} {w:World} {A:Around} {R:Result→Shared→Prop} {s:Shared}
theorem rR {elt target iter:Expr}{ifs:List Expr}{scope:Scope}{pos:Pos}{it acc:Value}{env:Env}{E:Value→Shared→Prop}(hE:∀ e s,¬ E e s)(I:Nat→Shared→Prop)
    (turn:∀ n s,I n s→wpAny (model prog w) A (pyNext it) (fun r s₁ => match r with
      | none=>R (.ok .next) s₁
      | some v=>wpAny (model prog w) A (letOwnedTupleGo target it v) (fun _ s₁ => wpAny (model prog w) A (assign target env v) (fun _ s₂ =>
          wpAny (model prog w) A (forIn ifs true fun c r=>if r=true then do let ok ← isTrue c env (eval c env);pure (ForInStep.yield ok) else pure (ForInStep.yield r)) (fun ok s₃ =>
            if ok=true then wpAny (model prog w) A (eval elt env) (fun x s₄ =>
              wpAny (model prog w) A (call (.builtin "list.append") [acc,x]) (fun _ s₅ => ∃ m,m < n∧I m s₅) E s₄) E s₃
            else ∃ m,m < n∧I m s₃) E s₂) E s₁) E s₁) E s)
    (n:Nat) (h:I n s) :
    codeAny (model prog w) A (.compLoop (.ListComp elt [⟨target,iter,ifs,0⟩] scope pos) 0 it acc env) R s:=by
  refine codeAny_loop rfl I (fun n s hI => ?_) n h
  show wpAny _ A ((compTurn (.ListComp elt [⟨target,iter,ifs,0⟩] scope pos) 0 it acc env).onRaise (fun x=>do noteFrame x env;theTreesLotGoes x)) _ _ s
  refine wpAny_noted ?_
  rw [compTurn_list]
  have no:∀ {α : Type} {t:Sem α} {Q Q' : α → Shared→Prop} {E':Value→Shared→Prop} {s:Shared},wpAny (model prog w) A t Q E s→(∀ a s,Q a s→Q' a s)→wpAny (model prog w) A t Q' E' s:=fun h hq=>wpAny_mono h hq fun e s z=>(hE e s z).elim
  refine wpAny_bind (wpAny_standAt (wpAny_bind (no (turn n s hI) fun r s₁ h₁ => ?_)))
  cases r with
  | none=>exact wpAny_pure h₁
  | some v =>
    refine wpAny_bind (no h₁ fun _ s₁ h₁ => ?_)
    refine wpAny_bind (no h₁ fun _ s₂ h₂ => wpAny_bind (no h₂ fun ok s₃ h₃ => ?_))
    cases ok with
    | false=>exact wpAny_pure ⟨rfl,h₃⟩
    | true =>
      exact wpAny_bind (wpAny_bind (no h₃ fun x s₄ h₄ => wpAny_bind (no h₄ fun _ s₅ h₅ => wpAny_pure (wpAny_pure ⟨rfl,h₅⟩))))
end
theorem jU {env:Env}:∀ (l:List (Str × NameKind)) (cs:List (Str × Addr)),(∀ y∈l,y.2=.free → ∃ c,env.cells.lookup y.1=some c) →
    ∃ cl,(forIn l cs fun (x:Str × NameKind) (r:List (Str × Addr))=>if (x.2 == .free)=true then do let a ← cellOf env x.1;pure (ForInStep.yield ((x.1,a) :: r)) else pure (ForInStep.yield r))=(pure cl:Sem _) ∧
      (∀ x c,cl.lookup x=some c→cs.lookup x=some c∨env.cells.lookup x=some c)∧(∀ y∈l,y.2=.free → ∃ c,cl.lookup y.1=some c) ∧ ∀ x c,cs.lookup x=some c → ∃ c',cl.lookup x=some c'
  | [],cs,_=>⟨cs,by simp,fun x c h=>.inl h,fun y hy=>by simp at hy,fun x c h=>⟨c,h⟩⟩
  | (n,k) :: l,cs,hf=>by
    by_cases hk:k=.free
    · subst hk
      obtain⟨c,hc⟩:=hf (n,.free) (by simp) rfl
      obtain⟨cl,h1,h2,h3,h4⟩:=jU l ((n,c) :: cs) fun y hy=>hf y (by simp [hy])
      refine⟨cl,?_,fun x d h => ?_,fun y hy hyf => ?_,fun x d h => ?_⟩
      · rw [List.forIn_cons]
        simp only [beq_self_eq_true,if_true,cellOf,hc]
        exact h1
      · rcases h2 x d h with q|q
        · rw [List.lookup_cons] at q
          cases e:x == n with
          | true =>
            rw [e] at q
            have:x=n:=by simpa using e
            subst this
            cases q
            exact .inr hc
          | false=>rw [e] at q;exact .inl q
        · exact .inr q
      · rcases List.mem_cons.mp hy with e|e
        · subst e
          exact h4 n c (by simp [List.lookup_cons])
        · exact h3 y e hyf
      · by_cases e:x=n
        · subst e
          exact h4 x c (by simp [List.lookup_cons])
        · exact h4 x d (by rw [List.lookup_cons,beq_eq_false_iff_ne.mpr e];exact h)
    · obtain⟨cl,h1,h2,h3,h4⟩:=jU l cs fun y hy=>hf y (by simp [hy])
      refine⟨cl,?_,h2,fun y hy hyf => ?_,h4⟩
      · rw [List.forIn_cons]
        have:(k == NameKind.free)=false:=by simpa using hk
        simp only [this,Bool.false_eq_true,if_false]
        exact h1
      · rcases List.mem_cons.mp hy with e|e
        · subst e;exact absurd hyf hk
        · exact h3 y e hyf
theorem jV {scope:Scope}{env:Env}(hf:∀ y∈scope.names,y.2=.free → ∃ c,env.cells.lookup y.1=some c) :
    ∃ cl,closureFor scope env=pure cl∧(∀ x c,cl.lookup x=some c→env.cells.lookup x=some c) ∧ ∀ y∈scope.names,y.2=.free → ∃ c,cl.lookup y.1=some c:=by
  obtain⟨cl,h1,h2,h3,_⟩:=jU scope.names [] hf
  refine⟨cl,?_,fun x c h=>(h2 x c h).elim (fun z=>by simp at z) id,h3⟩
  unfold closureFor
  have e:(forIn scope.names ([] : List (Str × Addr)) fun (x:Str × NameKind) (r:List (Str × Addr))=>if (x.2 == .free)=true then do let a ← cellOf env x.1;pure (ForInStep.yield ((x.1,a) :: r)) else pure (ForInStep.yield r))=(pure cl:Sem _):=h1
  exact (congrArg (fun t:Sem (List (Str × Addr))=>t >>= fun r=>pure r) e).trans rfl
def cxC (X:Cx) (N:List Str) (scope:Scope) (cl:List (Str × Addr)) (C:Addr) (s:Shared) (H:Hp) (ex:List Addr):Cx where
  prog:=X.prog
  w:=X.w
  K:=X.K
  mg:=X.mg
  base:=X.base
  A:=X.A
  N:=N
  s₀ := s
  H₀ := H
  env:=compEnvC scope cl C X.env
  outer:=X.stack
  stack:=X.stack
  ex:=ex
  fn:=fun _=>false
  calm:=X.calm
  pn:=[]
  xe:=fun _ _=>False
def MTs (X:Cx) (ifs:List Expr) (cs:List TF):Prop :=
  ∀ (pins:List (Addr × Obj)) (s:Shared) (σ:St) (H:Hp) (Q:Bool→Hp→Prop),Inv X pins σ H s→jD X.K rB (iA cs) σ H Q →
    wpAny (model X.prog X.w) X.A (forIn ifs true fun c r=>if r=true then do let ok ← isTrue c X.env (eval c X.env);pure (ForInStep.yield ok) else pure (ForInStep.yield r)) (TP X pins σ Q) X.xe s
theorem cr {X:Cx}:MTs X [] []:=fun pins s σ H Q I ⟨ρ,σd,hd,rs,p⟩=>wpAny_tests_nil ⟨H,I,p.here rs rfl⟩
theorem rS {X:Cx}{c:Expr}{t:TF}(h:MT X c t):MTs X [c] [t]:=fun pins s σ H Q I ⟨ρ,σd,hd,rs,p⟩=>wpAny_tests_one (h pins s σ H Q I ⟨ρ,σd,hd,rs,by
  have e:iA [t] σd hd=t σd hd:=by
    simp only [iA]
    cases c:t σd hd with
    | ok b h'=>cases b<;>simp
    | exc x h'=>rfl
    | bad=>rfl
  rw [e] at p
  exact p⟩)
theorem iS {env:Env}{x:Str}:∀ {names:List (Str × NameKind)} {k:NameKind},(names.map fun (n,k)=>if (k == NameKind.free && env.scope.kind == .function && env.kindOf n == some .cell) then (n,NameKind.cell) else (n,k)).lookup x=some k →
    ∃ k0,names.lookup x=some k0∧(k=k0∨(k0=.free∧k=.cell))
  | [],_,h=>by simp at h
  | (n,k') :: r,k,h=>by
    have ih := @iS env x r k
    have h':List.lookup x ((if (k' == NameKind.free && env.scope.kind == .function && env.kindOf n == some .cell)=true then (n,NameKind.cell) else (n,k')) :: _)=some k:=h
    cases hx:x == n with
    | true =>
      refine⟨k',by simp [List.lookup_cons,hx],?_⟩
      by_cases hc:(k' == NameKind.free && env.scope.kind == .function && env.kindOf n == some .cell)=true
      · rw [if_pos hc] at h'
        simp only [List.lookup_cons,hx,Option.some.injEq] at h'
        simp only [Bool.and_eq_true,beq_iff_eq] at hc
        exact .inr ⟨hc.1.1,h'.symm⟩
      · rw [if_neg hc] at h'
        simp only [List.lookup_cons,hx,Option.some.injEq] at h'
        exact .inl h'.symm
    | false =>
      have:List.lookup x ((n,k') :: r)=List.lookup x r:=by simp [List.lookup_cons,hx]
      rw [this]
      refine ih ?_
      by_cases hc:(k' == NameKind.free && env.scope.kind == .function && env.kindOf n == some .cell)=true
      · rw [if_pos hc] at h';simpa only [List.lookup_cons,hx] using h'
      · rw [if_neg hc] at h';simpa only [List.lookup_cons,hx] using h'
theorem fW {x:Str}{k:NameKind}:∀ {l:List (Str × NameKind)},l.lookup x=some k→(x,k)∈l
  | [],h=>by simp at h
  | (n,k') :: r,h=>by
    rw [List.lookup_cons] at h
    cases e:x == n with
    | true =>
      rw [e] at h
      have:x=n:=by simpa using e
      subst this
      cases h
      exact List.mem_cons_self
    | false=>rw [e] at h;exact List.mem_cons_of_mem _ (fW h)
structure bC (X:Cx) (scope:Scope) (own capn:List Str) (caps:List Nat):Prop where
  kind:scope.kind=.function
  cell:∀ y∈scope.names,y.2 ≠ .cell
  names:∀ y∈scope.names,y.2=.local→scope.names.lookup y.1=some .local
  free:∀ y∈scope.names,y.2=.free→X.env.kindOf y.1=some .cell∨X.env.kindOf y.1=some .free
  cap:∀ (j:Nat) x,capn[j]? = some x → ∃ i,caps[j]? = some i∧X.N[i]? = some x∧scope.names.lookup x=some .free
  len:capn.length=caps.length
section
variable {X:Cx} {pins:List (Addr × Obj)} {σ:St} {H1:Hp} {s2:Shared} {scope:Scope} {own capn:List Str} {caps:List Nat} {cl:List (Str × Addr)} {C:Addr} {ex:List Addr}
def stC (own:List Str) (caps:List Nat) (σ:St):St:=List.replicate own.length none++caps.map fun i=>(σ[i]?).join
theorem FM (I:Inv X pins σ H1 s2)(S:bC X scope own capn caps)(hC:s2.heap.objs.size≤C)(hcl1:∀ x c,cl.lookup x=some c→X.env.cells.lookup x=some c)(hcl2:∀ y∈scope.names,y.2=.free → ∃ c,cl.lookup y.1=some c)
    (hf:∀ b∈ex,py X pins H1 b) (hlt:∀ b∈ex,b < s2.heap.objs.size):(cxC X (own++capn) scope cl C s2 H1 ex).Ok where
  mod:=I.ok.mod
  kind:=S.kind
  glob:=I.ok.glob
  blt:=I.ok.blt
  above:=hC
  inj:=fun x y c h1 h2=>I.ok.inj x y c (hcl1 x c h1) (hcl1 y c h2)
  has:=fun x hx=>by
    have key:∀ k,(relabel scope X.env).names.lookup x=some k→k=.cell∨k=.free → ∃ c,cl.lookup x=some c:=fun k h hk=>by
      obtain⟨k0,h0,q⟩:=iS h
      have hm:=fW h0
      have:k0=.free:=by
        rcases q with q|q
        · subst q
          rcases hk with e|e
          · exact absurd e (S.cell _ hm)
          · exact e
        · exact q.1
      exact hcl2 _ hm this
    rcases hx with h|h
    · exact key _ h (.inl rfl)
    · exact key _ h (.inr rfl)
  cab:=fun x c h=>by cases h
  hd:=I.ok.hd
  frames:=I.ok.frames
  stk:=.inl rfl
  exf:=fun b hb=>by
    obtain⟨f0,f1,f2,f3,f4,f5⟩:=hf b hb
    exact⟨fun z=>absurd (Nat.lt_of_lt_of_le (hlt b hb) hC) (by rw [z];exact Nat.lt_irrefl _),fun x c e=>f4 x c (hcl1 x c e)⟩
  bs:=I.bs
  bsz:=Nat.le_trans I.ok.bsz I.sz
  noex:=fun b o e hb=>by
    obtain⟨f0,f1,f2,f3,f4,f5⟩:=hf b hb
    rcases f3 with z|z
    · exact I.ok.noex b o e z
    · exact absurd (Nat.lt_of_lt_of_le (Heap.lt_size (I.ok.bs b o e).1) z) (Nat.lt_irrefl _)
  exfs:=fun b hb hs=>by
    obtain⟨f0,f1,f2,f3,f4,f5⟩:=hf b hb
    rcases List.mem_cons.mp (I.stkSub b hs) with z|z
    · exact f1 z
    · exact f2 z
  funs:=I.stack
  frf:=I.stkFree
theorem kr {env:Env}{x:Str}:∀ {names:List (Str × NameKind)},names.lookup x=some .free →
    (names.map fun (n,k)=>if (k == NameKind.free && env.scope.kind == .function && env.kindOf n == some .cell) then (n,NameKind.cell) else (n,k)).lookup x=some .cell ∨
    (names.map fun (n,k)=>if (k == NameKind.free && env.scope.kind == .function && env.kindOf n == some .cell) then (n,NameKind.cell) else (n,k)).lookup x=some .free
  | [],h=>by simp at h
  | (n,k') :: r,h=>by
    have ih := @kr env x r
    show List.lookup x ((if (k' == NameKind.free && env.scope.kind == .function && env.kindOf n == some .cell)=true then (n,NameKind.cell) else (n,k')) :: _)=_∨List.lookup x ((if (k' == NameKind.free && env.scope.kind == .function && env.kindOf n == some .cell)=true then (n,NameKind.cell) else (n,k')) :: _)=_
    cases hx:x == n with
    | true =>
      simp only [List.lookup_cons,hx,Option.some.injEq] at h
      subst h
      by_cases hc:(NameKind.free == NameKind.free && env.scope.kind == .function && env.kindOf n == some .cell)=true
      · rw [if_pos hc];exact .inl (by simp only [List.lookup_cons,hx])
      · rw [if_neg hc];exact .inr (by simp only [List.lookup_cons,hx])
    | false =>
      simp only [List.lookup_cons,hx] at h
      by_cases hc:(k' == NameKind.free && env.scope.kind == .function && env.kindOf n == some .cell)=true
      · rw [if_pos hc];simp only [List.lookup_cons,hx];exact ih h
      · rw [if_neg hc];simp only [List.lookup_cons,hx];exact ih h
theorem DM {i:Nat}{v:V}(h:(stC own caps σ)[i]? = some (some v)):∃ j k,i=own.length + j∧caps[j]? = some k ∧ σ[k]? = some (some v):=by
  unfold stC at h
  by_cases hi:i < own.length
  · rw [List.getElem?_append_left (by simpa using hi)] at h
    simp [hi] at h
  · rw [List.getElem?_append_right (by simpa using Nat.le_of_not_lt hi)] at h
    simp only [List.length_replicate,List.getElem?_map] at h
    cases c:caps[i - own.length]? with
    | none=>rw [c] at h;cases h
    | some k =>
      rw [c] at h
      simp only [Option.map_some,Option.some.injEq] at h
      refine⟨i - own.length,k,by omega,c,?_⟩
      cases e : σ[k]? with
      | none=>rw [e] at h;cases h
      | some o=>rw [e] at h;simp only [Option.join_some] at h;rw [h]
theorem Ai (I:Inv X pins σ H1 s2)(S:bC X scope own capn caps)(hC:s2.heap.objs.size < C)(hcl1:∀ x c,cl.lookup x=some c→X.env.cells.lookup x=some c)(hcl2:∀ y∈scope.names,y.2=.free → ∃ c,cl.lookup y.1=some c)
    (hf:∀ b∈ex,py X pins H1 b) (hlt:∀ b∈ex,b < s2.heap.objs.size) {h1:Heap} {m:Str→Option Value} {tk:Nat} (hn:h1.Ns C m) (hk:∀ b o,s2.heap.get? b=some o→h1.get? b=some o)
    (hD:h1.get? s2.heap.objs.size=some { cls:=.type "list",data:=.seq #[] }) :
    Inv (cxC X (own++capn) scope cl C s2 H1 ex) [] (stC own caps σ) (upd H1 s2.heap.objs.size (.lst [])) { s2 with heap:=h1,toks:=tk } where
  ok:=FM I S (Nat.le_of_lt hC) hcl1 hcl2 hf hlt
  os:=rfl
  bare:=I.bare
  base:=Un.laid hk (Nat.le_refl _) (I.hok.fresh (Nat.le_refl _))
  loc:=by
    refine⟨m,hn,fun i x v e1 e2 e3 => ?_⟩
    obtain⟨j,k,rfl,hj,hk'⟩:=DM e2
    have e1':capn[j]? = some x:=by
      have:(own++capn)[own.length + j]? = some x:=e1
      rw [List.getElem?_append_right (by omega)] at this
      simpa using this
    obtain⟨k2,q1,q2,q3⟩:=S.cap j x e1'
    rw [hj] at q1;cases q1
    have hm:=fW q3
    have kd:=S.free _ hm rfl
    obtain⟨m0,hn0,hl⟩:=I.loc
    obtain⟨u,r,lk⟩:=hl k x v q2 hk' (.inr kd)
    refine⟨u,r,.inr ⟨kr q3,?_⟩⟩
    rcases lk with ⟨z,_⟩|⟨_,c,hc,o,ho,hd⟩
    · rcases kd with e|e<;>(rw [z] at e;cases e)
    · obtain⟨c',hc'⟩:=hcl2 _ hm rfl
      have:=hcl1 _ _ hc'
      rw [hc] at this
      cases this
      exact⟨c,hc',o,hk c o ho,hd⟩
  cell:=fun x c e=>by
    obtain⟨v,o,ho,hd⟩:=I.cell x c (hcl1 x c e)
    exact⟨v,o,hk c o ho,hd⟩
  free:=by
    show upd H1 _ _ C=none
    rw [aF (Nat.ne_of_gt hC)]
    exact I.hok.fresh (Nat.le_of_lt hC)
  freeC:=fun x c e=>by
    obtain⟨v,o,ho,hd⟩:=I.cell x c (hcl1 x c e)
    rw [aF (Nat.ne_of_lt (Heap.lt_size ho))]
    exact I.freeC x c (hcl1 x c e)
  pin:=fun p hp=>absurd (show p∈([] : List (Addr × Obj)) from hp) (by simp)
  hok:=I.hok.laid hk (Nat.le_refl _) ⟨Nat.zero_le _,[],0,.nil,hD⟩
  len:=by
    show (stC own caps σ).length=(own++capn).length
    simp [stC,S.len]
end
theorem RS.other {K:PySem.W.Frag}{ρ:List Addr}{H:Hp}{σd:Sd}{hd:Hd}{σ:St}{d:Addr}{ys zs:List V}(r:RS K ρ H σd hd σ)(h:H d=some (.lst ys))(n:d ∉ ρ):RS K ρ (upd H d (.lst zs)) σd hd σ ∧ Kp ρ H ρ (upd H d (.lst zs)):=by
  have k:Kp ρ H ρ (upd H d (.lst zs)):=⟨fun _ _ h=>h,fun a us e=>by
    rw [aF (fun z=>by rw [z,h] at e;cases e)];exact e,fun a o u e=>by
    rw [aF (fun z=>by rw [z,h] at e;cases e)];exact e,fun a φ e=>by
    rw [aF (fun z=>by rw [z,h] at e;cases e)];exact e⟩
  refine⟨⟨⟨r.hp.len,r.hp.nd,fun m c a h1 h2=>(r.hp.cel m c a h1 h2).mono k (aF fun z=>n (by rw [← z];exact List.mem_of_getElem? h2))⟩,r.st.mono k⟩,k⟩
theorem Ext.other {ρ ρ':List Addr}{H H':Hp}{d:Addr}{o:HO}(e:Ext ρ H ρ' H')(h:H d=none):Ext ρ H ρ' (upd H' d o) :=
  ⟨e.pre,e.new,fun p u hp n=>by rw [aF (aG hp h)];exact e.frame p u hp n⟩
theorem uR {nl:Nat}{caps:List Nat}{σd:Sd}{i:Nat}{d:D}(h:slot (fU nl caps σd) i=some d):∃ j k,i=nl + j∧caps[j]? = some k∧slot σd k=some d:=by
  unfold fU at h
  simp only [slot] at h
  by_cases hi:i < nl
  · rw [List.getElem?_append_left (by simpa using hi)] at h
    simp [hi] at h
  · rw [List.getElem?_append_right (by simpa using Nat.le_of_not_lt hi)] at h
    simp only [List.length_replicate,List.getElem?_map] at h
    cases c:caps[i - nl]? with
    | none=>rw [c] at h;cases h
    | some k =>
      rw [c] at h
      simp only [Option.map_some] at h
      refine⟨i - nl,k,by omega,c,?_⟩
      simp only [slot]
      revert h
      cases e : σd[k]? with
      | none=>simp
      | some o=>cases o<;>simp
structure uS (K:PySem.W.Frag) (ρ0:List Addr) (H0:Hp) (J:It) (l:List D) (G:Hd→Prop):Prop where
  go:∀ ρ H hd (i:Nat) d,Ext ρ0 H0 ρ H→RH K ρ H hd→G hd→l[i]? = some d→J.go i H ∧ ∀ x H',J.yld i H x H'→kW H H'∧RD K ρ H' d x
  stop:∀ ρ H hd,Ext ρ0 H0 ρ H→RH K ρ H hd→G hd→J.stop l.length H
  sz:l.length≤sizeLine
theorem pB.g {K:PySem.W.Frag}{ρ:List Addr}{H:Hp}{J:It}{l:List D}{g:Option Nat}(w:pB K ρ H J l g):uS K ρ H J l (jT g l):=⟨w.go,w.stop,w.sz⟩
structure CD where
  i:Nat
  ys:List V
  acc:List D
  rest:List D
  ρ:List Addr
  σd:Sd
  hd:Hd
  H:Hp
  σ:St
structure CI (X:Cx) (own capn:List Str) (scope:Scope) (cl:List (Str × Addr)) (s2:Shared) (C:Addr) (H1:Hp) (ρ1:List Addr) (fp:List Addr) (tn:Nat→Heap→Prop) (G:Hd→Prop) (g:GF) (cs:List TF) (e:EF) (l:List D) (hdF:Hd) (ds:List D) (d:CD) (s':Shared):Prop where
  le:d.i≤l.length
  inv:Inv (cxC X (own++capn) scope cl C s2 H1 fp) [] d.σ d.H s'
  st:tn d.i s'.heap
  fr:∀ b∈fp,d.H b=none
  at':d.H s2.heap.objs.size=some (.lst d.ys)
  out:s2.heap.objs.size∉d.ρ
  yl:d.ys.length≤d.i
  ex:Ext ρ1 H1 d.ρ d.H
  rs:RS X.K d.ρ d.H d.σd d.hd d.σ
  ac:RDs X.K d.ρ d.H d.acc d.ys
  run:eW G g cs e (l.drop d.i) d.σd d.hd=.ok d.rest hdF
  eq:d.acc++d.rest=ds
section
variable {X:Cx} {pins:List (Addr × Obj)} {σ:St} {H1:Hp} {s2:Shared} {scope:Scope} {own capn:List Str} {caps:List Nat} {cl:List (Str × Addr)}
theorem xk {ρ1:List Addr}{σd:Sd}{hd1:Hd}(S:bC X scope own capn caps)(r:RS X.K ρ1 H1 σd hd1 σ){d:Addr}(hd:H1 d=none):RS X.K ρ1 (upd H1 d (.lst [])) (fU own.length caps σd) hd1 (stC own caps σ):=by
  have sm:=cF (o:=HO.lst []) hd
  refine⟨r.hp.same sm,⟨by simp [stC,fU],fun i x e => ?_⟩⟩
  obtain⟨j,k,rfl,hj,hs⟩:=uR e
  obtain⟨v,h1,h2⟩:=r.st.at' k x hs
  refine⟨v,?_,h2.mono (Kp.same sm)⟩
  unfold stC
  rw [List.getElem?_append_right (by simp)]
  simp [hj,h1]
theorem ld {elt tg iter:Expr}{ifs:List Expr}{pos:Pos}{it:Addr}{fp:List Addr}{tn:Nat→Heap→Prop}{J:It}{l:List D}{G:Hd→Prop}{g:GF}{cs:List TF}{e:EF}{ρ1:List Addr}{σd:Sd}{hd1 hdF:Hd}{ds:List D}{E:Value→Shared→Prop}{RR:Value→Addr→Result→Shared→Prop}
    (hc:X.calm=true) (S:bC X scope own capn caps) (hin:∀ cl C s H ex,MG (cxC X (own++capn) scope cl C s H ex) tg g∧MTs (cxC X (own++capn) scope cl C s H ex) ifs cs∧ME (cxC X (own++capn) scope cl C s H ex) elt e)
    (I1:Inv X pins σ H1 s2) (T:wZ X.prog X.w X.K tg J fp it tn) (st0:tn 0 s2.heap) (hf:∀ b∈fp,py X pins H1 b) (rs1:RS X.K ρ1 H1 σd hd1 σ) (wk:uS X.K ρ1 H1 J l G)
    (hcl1:∀ x c,cl.lookup x=some c→X.env.cells.lookup x=some c) (hcl2:∀ y∈scope.names,y.2=.free → ∃ c,cl.lookup y.1=some c)
    (run:eW G g cs e l (fU own.length caps σd) hd1=.ok ds hdF)
    (hRR:∀ C s' m H' ρ' vs,s2.heap.objs.size < C→s'.heap.Ns C m→Inv X pins σ H' s'→H' C=none→Ext ρ1 H1 ρ' H'→RH X.K ρ' H' hdF→H1 s2.heap.objs.size=none→H' s2.heap.objs.size=some (.lst vs)→s2.heap.objs.size ∉ ρ'→RDs X.K ρ' H' ds vs →
      RR (.ref s2.heap.objs.size) C (.ok .next) s') :
    wpAny (model X.prog X.w) X.A (newList []) (fun acc s₃ => wpAny (model X.prog X.w) X.A (newFunctionEnv scope X.env.globals cl [] X.env.qual none .none (some X.env)) (fun cenv s₄ =>
      codeAny (model X.prog X.w) X.A (.compStart (.ListComp elt [⟨tg,iter,ifs,0⟩] scope pos) 0 (.ref it) acc { cenv with scope:=relabel scope X.env }) (RR acc cenv.locals) s₄) E s₃) E s2:=by
  refine wpAny_newObj_type (wpAny_newFunctionEnv S.cell (by intro y hy;simp at hy) (fun h₁ hns₁ hsb₁ => ?_) S.kind)
  dsimp only at hns₁ hsb₁ ⊢
  generalize hH2:s2.heap.push { cls:=.type "list",dict:=none,data:=.seq ([] : List Value).toArray } = H2 at hns₁ hsb₁ ⊢
  have hC:H2.objs.size=s2.heap.objs.size + 1:=by rw [← hH2,Heap.size_push]
  have hDC:s2.heap.objs.size≠H2.objs.size:=by rw [hC];exact Nat.ne_of_lt (Nat.lt_succ_self _)
  have old:∀ b o,s2.heap.get? b=some o→h₁.get? b=some o:=fun b o e=>hsb₁.extBut b o (by rw [hC];exact Nat.ne_of_lt (Nat.lt_succ_of_lt (Heap.lt_size e))) (Heap.get?_push_of_some _ (hH2 ▸ Heap.get?_push_of_some _ e))
  have hacc:h₁.get? s2.heap.objs.size=some { cls:=.type "list",data:=.seq #[] }:=hsb₁.extBut _ _ hDC (Heap.get?_push_of_some _ (hH2 ▸ Heap.get?_push_size _ rfl))
  have hlt:∀ b∈fp,b < s2.heap.objs.size:=fun b hb=>by
    obtain⟨o,ho,_⟩:=T.obj 0 _ st0 b hb
    exact Heap.lt_size ho
  have hCl:s2.heap.objs.size < H2.objs.size:=by rw [hC];exact Nat.lt_succ_self _
  have hD0:H1 s2.heap.objs.size=none:=I1.hok.fresh (Nat.le_refl _)
  have st1:tn 0 h₁ := T.keep 0 _ _ st0 fun b hb o e=>old b o e
  have hn1:s2.heap.objs.size ∉ ρ1:=rs1.hp.free hD0
  obtain⟨hG,hT,hE⟩:=hin cl H2.objs.size s2 H1 fp
  have I':=Ai (tk:=s2.toks + ([] : List (Str × Value)).length) I1 S hCl hcl1 hcl2 hf hlt hns₁ old hacc
  have fpC:∀ {pins':List (Addr × Obj)} {H':Hp},(∀ b∈fp,H' b=none) → ∀ b∈fp,py (cxC X (own++capn) scope cl H2.objs.size s2 H1 fp) [] H' b:=fun {pins' H'} hn b hb=>by
    obtain⟨f0,f1,f2,f3,f4,f5⟩:=hf b hb
    have lt:=hlt b hb
    refine⟨hn b hb,fun z=>absurd lt (by rw [show b=H2.objs.size from z,hC];exact Nat.not_lt.mpr (Nat.le_succ _)),fun z => ?_,.inl hb,fun x c e=>f4 x c (hcl1 x c e),fun p hp=>absurd (show p∈([] : List (Addr × Obj)) from hp) (by simp)⟩
    rcases List.mem_cons.mp (I1.stkSub b z) with q|q
    · exact f1 q
    · exact f2 q
  have loop:∀ s₃ : Shared,s₃ = { s2 with heap:=h₁,toks:=s2.toks + ([] : List (Str × Value)).length } →
      codeAny (model X.prog X.w) X.A (.compLoop (.ListComp elt [⟨tg,iter,ifs,0⟩] scope pos) 0 (.ref it) (.ref s2.heap.objs.size) (compEnvC scope cl H2.objs.size X.env)) (RR (.ref s2.heap.objs.size) H2.objs.size) s₃ := by
    rintro s₃ rfl
    refine rR (E:=fun _ _=>False) (fun _ _ z=>z) (fun n s'=>∃ d:CD,n=l.length - d.i∧CI X own capn scope cl s2 H2.objs.size H1 ρ1 fp tn G g cs e l hdF ds d s') ?_ l.length
      ⟨⟨0,[],[],ds,ρ1,_,hd1,_,_⟩,by simp,Nat.zero_le _,I',st1,fun b hb => ?_,bB,hn1,Nat.le_refl _,Ext.same (cF hD0),xk S rs1 hD0,RDs.nil,by simpa using run,rfl⟩
    · rintro n s' ⟨⟨i,ys,acc,rest,ρ',σd',hd',H',σ'⟩,rfl,ci⟩
      have hil:i≤l.length:=ci.le
      have I':Inv (cxC X (own++capn) scope cl H2.objs.size s2 H1 fp) [] σ' H' s':=ci.inv
      have stn:tn i s'.heap:=ci.st
      have hfp:∀ b∈fp,H' b=none:=ci.fr
      have hDy:H' s2.heap.objs.size=some (.lst ys):=ci.at'
      have hnD:s2.heap.objs.size ∉ ρ':=ci.out
      have hyl:ys.length≤i:=ci.yl
      have ex:Ext ρ1 H1 ρ' H':=ci.ex
      have rs':RS X.K ρ' H' σd' hd' σ':=ci.rs
      have racc:RDs X.K ρ' H' acc ys:=ci.ac
      have hrun:eW G g cs e (l.drop i) σd' hd'=.ok rest hdF:=ci.run
      have hds:acc++rest=ds:=ci.eq
      by_cases hlt':i < l.length
      · have hdi:l[i]? = some l[i]:=by simp [hlt']
        rw [List.drop_eq_getElem_cons hlt'] at hrun
        unfold eW at hrun
        by_cases hh:G hd'
        · rw [if_pos hh] at hrun
          obtain⟨go,yl⟩:=wk.go ρ' H' hd' i _ ex rs'.hp hh hdi
          cases c:g l[i] σd' with
          | none=>rw [c] at hrun;cases hrun
          | some σd2 =>
            rw [c] at hrun
            simp only at hrun
            refine thn (T.item (cxC X (own++capn) scope cl H2.objs.size s2 H1 fp) rfl rfl rfl hc i [] s' σ' H' (fun _ _=>False) I' (fpC (pins':=[]) hfp) stn go) fun r s₁ ⟨u,hr,h4⟩ => ?_
            subst hr
            refine thn h4 fun _ s5 ⟨x,H5,I5,r5,y5,st5,fr5⟩ => ?_
            obtain⟨sm,rx⟩:=yl x H5 y5
            have I5':=I5.pinned (fpC (pins':=[]) fr5) (T.obj _ _ st5)
            have rs5:=rs'.same sm
            have hDy5:=sm _ _ hDy
            refine thn (hG _ s5 σ' H5 x u (fun σ6 H6=>H6=H5∧RS X.K ρ' H5 σd2 hd' σ6) I5' r5 ⟨ρ',σd',hd',l[i],σd2,rs5,rx,c,fun σ6 rs6=>⟨rfl,rs6⟩⟩) fun _ s6 ⟨σ6,H6,I6,hH6,rs6⟩ => ?_
            subst hH6
            cases c2:iA cs σd2 hd' with
            | exc z h7=>rw [c2] at hrun;cases hrun
            | bad=>rw [c2] at hrun;cases hrun
            | ok b hd7 =>
              rw [c2] at hrun
              simp only [aT] at hrun
              refine thn (hT _ s6 σ6 H6 (fun b' H7=>b'=b ∧ ∃ ρ7,Ext ρ' H6 ρ7 H7∧RS X.K ρ7 H7 σd2 hd7 σ6) I6 ⟨ρ',σd2,hd',rs6,by
                rw [c2]
                exact fun b' H7 ρ7 ex7 rs7 q=>⟨q.symm,ρ7,ex7,rs7⟩⟩) fun b' s7 ⟨H7,I7,hb',ρ7,ex7,rs7⟩ => ?_
              subst hb'
              have stay:∀ {σ8:St} {H8:Hp} {s8:Shared},Inv (cxC X (own++capn) scope cl H2.objs.size s2 H1 fp) ([]++nv fp s5.heap) σ8 H8 s8→tn (i + 1) s8.heap ∧ ∀ b∈fp,H8 b=none:=fun {σ8 H8 s8} I8 =>
                ⟨T.keep _ _ _ st5 fun b hb o e=>(I8.pin (b,o) (List.mem_append_right _ (List.mem_append_right _ (gX hb e)))).1,fun b hb=>by
                  obtain⟨o,e,d⟩:=T.obj _ _ st5 b hb
                  exact (I8.pin (b,o) (List.mem_append_right _ (List.mem_append_right _ (gX hb e)))).2.1⟩
              have ex5:Ext ρ' H' ρ7 H7:=(Ext.same sm).trans ex7
              have hDy7:H7 s2.heap.objs.size=some (.lst ys):=ex5.frame _ _ hDy hnD
              have hnD7:=ex5.out hDy hnD
              have racc7:=racc.mono (rs'.hp.kp ex5)
              cases b' with
              | false =>
                simp only [Bool.false_eq_true,if_false] at hrun ⊢
                obtain⟨st8,f8⟩:=stay I7
                exact⟨l.length - (i + 1),by omega,⟨i + 1,ys,acc,rest,ρ7,σd2,hd7,H7,σ6⟩,rfl,hlt',I7.unpinned,st8,f8,hDy7,hnD7,Nat.le_succ_of_le hyl,ex.trans ex5,rs7,racc7,hrun,hds⟩
              | true =>
                simp only [if_true] at hrun ⊢
                cases c3:e σd2 hd7 with
                | exc z h7=>rw [c3] at hrun;cases hrun
                | bad=>rw [c3] at hrun;cases hrun
                | ok d hd8 =>
                  rw [c3] at hrun
                  simp only [aT] at hrun
                  cases c4:eW G g cs e (l.drop (i + 1)) σd2 hd8 with
                  | exc z h7=>rw [c4] at hrun;cases hrun
                  | bad=>rw [c4] at hrun;cases hrun
                  | ok rest' hd9 =>
                    rw [c4] at hrun
                    simp only [aT,Res.ok.injEq] at hrun
                    obtain⟨hrest,hF⟩:=hrun
                    subst hrest hF
                    refine thn (hE _ s7 σ6 H7 (fun v H8=>∃ ρ8,Ext ρ7 H7 ρ8 H8∧RS X.K ρ8 H8 σd2 hd8 σ6∧RD X.K ρ8 H8 d v) I7 ⟨ρ7,σd2,hd7,rs7,by
                      rw [c3]
                      exact fun v H8 ρ8 ex8 rs8 q=>⟨ρ8,ex8,rs8,q⟩⟩) fun u8 s8 ⟨v8,H8,I8,r8,ρ8,ex8,rs8,rd8⟩ => ?_
                    have hDy8:H8 s2.heap.objs.size=some (.lst ys):=ex8.frame _ _ hDy7 hnD7
                    have hnD8:=ex8.out hDy7 hnD7
                    refine thn (qx _ s8 σ6 H8 (.ref s2.heap.objs.size) [v8] (.ref s2.heap.objs.size) [u8] (fun _ H9=>H9=upd H8 s2.heap.objs.size (.lst (ys++[v8]))) I8 rfl (.cons r8 .nil) ⟨_,ys,v8,rfl,rfl,hDy8,by have:=wk.sz;omega,rfl⟩) fun u9 s9 ⟨v9,H9,I9,r9,q9⟩ => ?_
                    subst q9
                    obtain⟨st9,f9⟩:=stay I9
                    obtain⟨rs9,k9⟩:=rs8.other (zs:=ys++[v8]) hDy8 hnD8
                    exact⟨l.length - (i + 1),by omega,⟨i + 1,ys++[v8],acc++[d],rest',ρ8,σd2,hd8,_,σ6⟩,rfl,hlt',I9.unpinned,st9,f9,bB,hnD8,by simp;exact hyl,(ex.trans (ex5.trans ex8)).other hD0,rs9,
                      ((racc7.mono (rs7.hp.kp ex8)).mono k9).append (RDs.cons (rd8.mono k9) RDs.nil),c4,by rw [← hds];simp⟩
        · rw [if_neg hh] at hrun;cases hrun
      · have e0:i=l.length:=by omega
        subst e0
        rw [List.drop_length] at hrun
        unfold eW at hrun
        by_cases hh:G hd'
        · rw [if_pos hh] at hrun
          simp only [Res.ok.injEq] at hrun
          obtain⟨hrest,hF⟩:=hrun
          subst hrest hF
          rw [List.append_nil] at hds
          subst hds
          refine thn (T.done (cxC X (own++capn) scope cl H2.objs.size s2 H1 fp) rfl rfl rfl hc _ [] s' σ' H' (fun _ _=>False) I' (fpC (pins':=[]) hfp) stn (wk.stop ρ' H' hd' ex rs'.hp hh)) fun r s₁ ⟨hr,I4⟩ => ?_
          subst hr
          obtain⟨m,hm,_⟩:=I4.loc
          refine hRR H2.objs.size s₁ m H' ρ' ys hCl hm ?_ I4.free ex rs'.hp hD0 hDy hnD racc
          exact I1.call' I4.os I4.base I4.hok I4.bare fun b hb=>by
            obtain⟨f0,f1,f2,f3,f4,f5⟩:=hf b hb
            exact⟨f3,f1,f4,f5⟩
        · rw [if_neg hh] at hrun;cases hrun
    · show upd H1 _ _ b=none
      rw [aF (Nat.ne_of_lt (hlt b hb))]
      exact (hf b hb).1
  exact codeAny_compStart_list (loop _ rfl) (T.self _ 0 _ _ _ st1 (loop _ rfl))
end
section
variable {X:Cx} {pos:Pos} {scope:Scope} {own capn:List Str} {caps:List Nat}
theorem dE {elt tg iter:Expr}{ifs:List Expr}{f:IF}{g:GF}{cs:List TF}{e:EF}(hc:X.calm=true)(S:bC X scope own capn caps)(hi:MI X tg iter f)
    (hin:∀ cl C s H ex,MG (cxC X (own++capn) scope cl C s H ex) tg g∧MTs (cxC X (own++capn) scope cl C s H ex) ifs cs∧ME (cxC X (own++capn) scope cl C s H ex) elt e)
    (hs:∀ x,foldedSetIterable iter X.env x=pure x:=by intro _;rfl):MF X (.ListComp elt [⟨tg,iter,ifs,0⟩] scope pos) (bz own.length caps f g cs e):=by
  intro pins s σ H Q I ⟨ρ,σd,hd,rs,p⟩
  rw [eval_ListComp]
  unfold bz at p
  cases c:f σd hd with
  | exc z h7=>rw [c] at p;exact p.elim
  | bad=>rw [c] at p;exact p.elim
  | ok q hd1 =>
    obtain⟨l,gd⟩:=q
    rw [c] at p
    simp only [aT] at p
    obtain⟨cl,h1,hcl1,hcl2⟩:=jV (scope:=scope) (env:=X.env) fun y hy hyf=>I.ok.has y.1 (S.free y hy hyf)
    refine wpAny_comprehension_free (use:=none) rfl hs h1 S.kind S.names (thn (hi pins s σ H (fun J H1=>∃ ρ1,Ext ρ H ρ1 H1∧RS X.K ρ1 H1 σd hd1 σ ∧ pB X.K ρ1 H1 J l gd) I ⟨ρ,σd,hd,rs,by
      rw [c]
      exact fun J H' ρ' ex rs' wk=>⟨ρ',ex,rs',wk⟩⟩) fun v s1 h1=>thn h1 fun itv s2 h2 => ?_)
    obtain⟨it,fp,tn,J,H1,rfl,I1,T,st0,hf,ρ1,ex1,rs1,wk⟩:=h2
    cases c2:bX gd l g cs e l (fU own.length caps σd) hd1 with
    | exc z h7=>rw [c2] at p;exact p.elim
    | bad=>rw [c2] at p;exact p.elim
    | ok ds hdF =>
      rw [c2] at p
      refine ld (RR:=fun acc C=>compPost (model X.prog X.w) X.A X.xe none (EP X pins σ Q) acc C) hc S hin I1 T st0 hf rs1 wk.g hcl1 hcl2 ((rP _ _ _).symm.trans c2) fun C s' m H' ρ' vs hC hn I' hCn ex rh hD0 hD hnD rds => ?_
      refine⟨m,hn,fun h' sb=>⟨.ref s2.heap.objs.size,H',?_,rfl,?_⟩⟩
      · refine I'.turned (it:=C) (t':=s'.toks) (fun b o hb e=>(sb.2 b hb).trans e) hCn ?_ (.inr (Nat.le_of_lt (Nat.lt_of_le_of_lt I1.sz hC))) (fun x c e z => ?_) fun q hq z => ?_
        · exact Nat.ne_of_gt (Nat.lt_trans I1.lt hC)
        · obtain⟨v,o,ho,hd⟩:=I1.cell x c e
          exact absurd (Nat.lt_trans (Heap.lt_size ho) hC) (by rw [z];exact Nat.lt_irrefl _)
        · exact absurd (Nat.lt_trans (Heap.lt_size (I1.pin q hq).1) hC) (by rw [z];exact Nat.lt_irrefl _)
      · exact p _ vs H' ρ' (ex1.trans ex) (rs.ext (ex1.trans ex) rh) (ex1.fresh hD0 (rs1.hp.free hD0)) hD hnD rds
theorem hV {i:Nat}{x:Str}{pos':Pos}{elt tg iter:Expr}{ifs:List Expr}{f:IF}{g:GF}{cs:List TF}{e:EF}{cpos:Pos}(hN:X.N.Nodup)(hi':X.N[i]? = some x)(hx:Loc X.env.scope x)(hc:X.calm=true)(S:bC X scope own capn caps)(hi:MI X tg iter f)
    (hin:∀ cl C s H ex,MG (cxC X (own++capn) scope cl C s H ex) tg g∧MTs (cxC X (own++capn) scope cl C s H ex) ifs cs∧ME (cxC X (own++capn) scope cl C s H ex) elt e)
    (hsw:swapsWith (.ListComp elt [⟨tg,iter,ifs,0⟩] scope cpos) (some (.Name x pos')) pos.line X.env=pure true:=by rfl)
    (hs:∀ x,foldedSetIterable iter X.env x=pure x:=by intro _;rfl) (hf':X.fn x=true∨X.env.scope.names.lookup x=some .local:=by first|exact .inl rfl|exact .inr rfl|assumption) :
    MS X (.Assign [.Name x pos'] (.ListComp elt [⟨tg,iter,ifs,0⟩] scope cpos) pos) (aK (gN i) (bA (bz own.length caps f g cs e))):=by
  intro pins s σ H En I ⟨ρ,σd,hd,rs,p⟩
  rw [exec_Assign_Name_used _ _ _ _ hsw]
  refine wpAny_bind (wpAny_standAt ?_)
  show wpAny _ _ ((comprehension _ scope X.env _ (newList []) _ _ _ >>= fun _=>pure ()) >>= fun _=>pure Flow.next) _ _ _
  have p1:=cq.outE (σ := σ) p
  unfold bA bz at p1
  cases c:f σd hd with
  | exc z h7=>rw [c] at p1;exact p1.elim
  | bad=>rw [c] at p1;exact p1.elim
  | ok q hd1 =>
    obtain⟨l,gd⟩:=q
    rw [c] at p1
    simp only [aT] at p1
    obtain⟨cl,h1,hcl1,hcl2⟩:=jV (scope:=scope) (env:=X.env) fun y hy hyf=>I.ok.has y.1 (S.free y hy hyf)
    refine wpAny_bind (wpAny_bind (wpAny_comprehension_free (Q:=fun _ s'=>wpAny (model X.prog X.w) X.A (pure ()) (fun _ s'=>wpAny (model X.prog X.w) X.A (pure Flow.next) (SP X pins En) X.xe s') X.xe s') (use:=some (assign (.Name x pos') X.env)) rfl hs h1 S.kind S.names (thn (hi pins s σ H (fun J H1=>∃ ρ1,Ext ρ H ρ1 H1∧RS X.K ρ1 H1 σd hd1 σ ∧ pB X.K ρ1 H1 J l gd) I ⟨ρ,σd,hd,rs,by
      rw [c]
      exact fun J H' ρ' ex rs' wk=>⟨ρ',ex,rs',wk⟩⟩) fun v s1 h1=>thn h1 fun itv s2 h2 => ?_)))
    obtain⟨it,fp,tn,J,H1,rfl,I1,T,st0,hf,ρ1,ex1,rs1,wk⟩:=h2
    cases c2:bX gd l g cs e l (fU own.length caps σd) hd1 with
    | exc z h7=>rw [c2] at p1;exact p1.elim
    | bad=>rw [c2] at p1;exact p1.elim
    | ok ds hdF =>
      rw [c2] at p1
      simp only [aT] at p1
      by_cases hz:ds.length≤SZ
      · rw [if_pos hz] at p1
        refine ld (RR:=fun acc C=>compPost (model X.prog X.w) X.A X.xe (some (assign (.Name x pos') X.env)) _ acc C) hc S hin I1 T st0 hf rs1 wk.g hcl1 hcl2 ((rP _ _ _).symm.trans c2) fun C s' m H' ρ' vs hC hn I' hCn ex rh hD0 hD hnD rds => ?_
        refine wpAny_assign_Name (qp I' hN hi' hx (v:=.ref s2.heap.objs.size) rfl (fun s'' I'' hsb => ?_) hf')
        have hCl:C≠X.env.locals:=Nat.ne_of_gt (Nat.lt_trans I1.lt hC)
        have hCc:∀ y c,X.env.cells.lookup y=some c→c≠C:=fun y c e z=>by
          obtain⟨v,o,ho,hd⟩:=I1.cell y c e
          exact absurd (Nat.lt_trans (Heap.lt_size ho) hC) (by rw [z];exact Nat.lt_irrefl _)
        refine⟨m,?_,fun h' sb=>wpAny_pure (wpAny_pure ?_)⟩
        · obtain⟨a,sa,ha⟩:=hsb
          refine hn.sameBut sa ?_
          rcases ha with z|z
          · rw [z];exact hCl
          · exact Ne.symm (hCc _ _ z)
        · have I3:Inv X pins (σ.set i (some (.ref s2.heap.objs.size))) H' { s'' with heap:=h' }:=I''.turned (it:=C) (t':=s''.toks) (fun b o hb e=>(sb.2 b hb).trans e) hCn hCl (.inr (Nat.le_of_lt (Nat.lt_of_le_of_lt I1.sz hC))) hCc fun q hq z =>
            absurd (Nat.lt_trans (Heap.lt_size (I1.pin q hq).1) hC) (by rw [z];exact Nat.lt_irrefl _)
          have ex':Ext ρ H ρ' H':=ex1.trans ex
          have rh':=rh.alloc hD hnD rds
          have hH0:H s2.heap.objs.size=none:=ex1.fresh hD0 (rs1.hp.free hD0)
          have exA:Ext ρ H (ρ'++[s2.heap.objs.size]) H':=⟨by obtain⟨t,rfl⟩:=ex'.pre;exact⟨t++[s2.heap.objs.size],by simp⟩,fun a ha=>by
            rcases List.mem_append.mp ha with z|z
            · exact ex'.new a z
            · simp at z;subst z;exact .inr hH0,ex'.frame⟩
          obtain⟨ρ2,d2,hd2,e2,rs2,rd2,pn⟩:=p1 (.ref s2.heap.objs.size) H' (ρ'++[s2.heap.objs.size]) exA (rs.ext exA rh') (by
            simp only [rD,RD]
            refine⟨s2.heap.objs.size,?_,rfl⟩
            rw [← rh.len]
            simp)
          exact⟨_,H',I3,pn _ H' ρ2 Ext.refl ⟨rs2.hp,rs2.st.set i rd2⟩⟩
      · rw [if_neg hz] at p1;exact p1.elim
end
end Fm
set_option Elab.async false
set_option linter.all false
set_option maxRecDepth 100000
namespace Fm
open PySem PySem.Spec L2 PyProof.Rows
mutual
def rfs (k:Nat):D→Prop
  | .ref n=>n < k
  | .tup l=>iL k l
  | .lit l=>iL k l
  | .exn _ l=>iL k l
  | _=>True
def iL (k:Nat):List D→Prop
  | []=>True
  | x :: xs=>rfs k x∧iL k xs
end
section
variable {K:PySem.W.Frag} {ρ ρ' t:List Addr} {H H':Hp} {hd hd':Hd}
mutual
theorem RD.rfs:∀ {d:D} {v:V},RD K ρ H d v→Fm.rfs ρ.length d
  | .non,_,_=>by simp only [Fm.rfs]
  | .bl _,_,_=>by simp only [Fm.rfs]
  | .int _,_,_=>by simp only [Fm.rfs]
  | .str _,_,_=>by simp only [Fm.rfs]
  | .tup l,_,h=>by
    simp only [RD] at h;obtain⟨p,vs,_,_,h2⟩:=h
    simp only [Fm.rfs];exact RDs.rfs h2
  | .lit l,_,h=>by
    simp only [RD] at h;obtain⟨p,vs,_,_,h2⟩:=h
    simp only [Fm.rfs];exact RDs.rfs h2
  | .ref n,_,h=>by
    simp only [RD] at h;obtain⟨a,h1,_⟩:=h
    simp only [Fm.rfs];exact (List.getElem?_eq_some_iff.mp h1).1
  | .exn _ _,_,h=>by simp only [RD] at h;obtain⟨rfl,_⟩:=h;simp only [Fm.rfs,Fm.iL]
theorem RDs.rfs:∀ {l:List D} {vs:List V},RDs K ρ H l vs→Fm.iL ρ.length l
  | [],_,_=>by simp only [Fm.iL]
  | d :: ds,_,h=>by
    simp only [RDs] at h;obtain⟨v,r,_,h1,h2⟩:=h
    simp only [Fm.iL];exact⟨RD.rfs h1,RDs.rfs h2⟩
end
mutual
theorem RD.cut:∀ {d:D} {v:V},RD K (ρ ++ t) H d v→Fm.rfs ρ.length d→RD K ρ H d v
  | .non,_,h,_=>by simp only [RD] at h ⊢;exact h
  | .bl _,_,h,_=>by simp only [RD] at h ⊢;exact h
  | .int _,_,h,_=>by simp only [RD] at h ⊢;exact h
  | .str _,_,h,_=>by simp only [RD] at h ⊢;exact h
  | .tup l,_,h,q=>by
    simp only [RD] at h ⊢;simp only [Fm.rfs] at q
    obtain⟨p,vs,e,h1,h2⟩:=h
    exact⟨p,vs,e,h1,RDs.cut h2 q⟩
  | .lit l,_,h,q=>by
    simp only [RD] at h ⊢;simp only [Fm.rfs] at q
    obtain⟨p,vs,e,h1,h2⟩:=h
    exact⟨p,vs,e,h1,RDs.cut h2 q⟩
  | .ref n,_,h,q=>by
    simp only [RD] at h ⊢;simp only [Fm.rfs] at q
    obtain⟨a,h1,h2⟩:=h
    exact⟨a,by rwa [List.getElem?_append_left q] at h1,h2⟩
  | .exn _ _,_,h,_=>by simp only [RD] at h ⊢;exact h
theorem RDs.cut:∀ {l:List D} {vs:List V},RDs K (ρ ++ t) H l vs→Fm.iL ρ.length l→RDs K ρ H l vs
  | [],_,h,_=>by simp only [RDs] at h ⊢;exact h
  | d :: ds,_,h,q=>by
    simp only [RDs] at h ⊢;simp only [Fm.iL] at q
    obtain⟨v,r,e,h1,h2⟩:=h
    exact⟨v,r,e,RD.cut h1 q.1,RDs.cut h2 q.2⟩
end
mutual
theorem nJ {k:Nat}:∀ {d:D},pure? d=true→Fm.rfs k d
  | .non,_=>by simp only [Fm.rfs]
  | .bl _,_=>by simp only [Fm.rfs]
  | .int _,_=>by simp only [Fm.rfs]
  | .str _,_=>by simp only [Fm.rfs]
  | .tup l,h=>by simp only [pure?] at h;simp only [Fm.rfs];exact gJ h
  | .lit l,h=>by simp only [pure?] at h;simp only [Fm.rfs];exact gJ h
  | .exn _ l,h=>by simp only [pure?] at h;simp only [Fm.rfs];exact gJ h
  | .ref _,h=>by simp only [pure?] at h;cases h
theorem gJ {k:Nat}:∀ {l:List D},iB l=true→Fm.iL k l
  | [],_=>by simp only [Fm.iL]
  | x :: xs,h=>by
    simp only [iB,Bool.and_eq_true] at h
    simp only [Fm.iL];exact⟨nJ h.1,gJ h.2⟩
end
def BT (k:Nat):dm→Prop
  | .lst l=>Fm.iL k l
  | .dct l=>Fm.iL k (l.map (·.2))
theorem RC.rfs {c:dm}{a:Addr}(h:RC K ρ H c a):BT ρ.length c:=by
  cases c with
  | lst l=>obtain⟨vs,_,h2⟩:=h;exact h2.rfs
  | dct l=>obtain⟨vs,_,_,h2⟩:=h;exact h2.rfs
theorem RC.cut {c:dm}{a:Addr}(h:RC K (ρ ++ t) H c a)(q:BT ρ.length c):RC K ρ H c a:=by
  cases c with
  | lst l=>obtain⟨vs,h1,h2⟩:=h;exact⟨vs,h1,h2.cut q⟩
  | dct l=>obtain⟨vs,h1,h2,h3⟩:=h;exact⟨vs,h1,h2,h3.cut q⟩
theorem rT {k:Nat}{c:dm}(h:uL c=true):BT k c:=by
  cases c with
  | lst l=>exact gJ h
  | dct l =>
    have:∀ l:List (Int × D),(l.all fun p=>pure? p.2)=true→Fm.iL k (l.map (·.2)):=by
      intro l
      induction l with
      | nil=>intro _;simp only [List.map_nil,Fm.iL]
      | cons x l ih=>intro h;simp only [List.all_cons,Bool.and_eq_true] at h;simp only [List.map_cons,Fm.iL];exact⟨nJ h.1,ih h.2⟩
    exact this l h
theorem RH.back (r:RH K ρ H hd)(r':RH K (ρ ++ t) H' hd')(o:BG hd hd'):RH K ρ H' (hd'.take hd.length):=by
  have hl:(ρ ++ t).length=hd'.length:=r'.len
  refine⟨by rw [List.length_take,← hl,List.length_append,← r.len];omega,(List.nodup_append.mp r'.nd).1,fun n c a h1 h2 => ?_⟩
  have hn:n < hd.length:=by rw [← r.len];exact (List.getElem?_eq_some_iff.mp h2).1
  rw [List.getElem?_take_of_lt hn] at h1
  have q:=r'.cel n c a h1 (by rw [List.getElem?_append_left (by rw [r.len];exact hn)];exact h2)
  refine q.cut ?_
  rcases o n c hn h1 with z|z
  · exact (r.cel n c a z h2).rfs
  · exact rT z
def nK (K:PySem.W.Frag) (ρ:List Addr) (H:Hp) (r:Res D) (Q:VK):Prop:=match r with
  | .ok d hd'=>∀ v H' ρ',Ext ρ H ρ' H'→RH K ρ' H' hd'→RD K ρ' H' d v→Q v H'
  | _=>False
def spF (K:PySem.W.Frag) (F:Fn) (np:Nat):Sp:=fun vs H Q _=>∃ ρ hd ds,RH K ρ H hd∧RDs K ρ H ds vs∧ds.length=np∧nK K ρ H (F ds hd) Q
theorem Ext.short (e:Ext ρ H (ρ ++ t) H'):Ext ρ H ρ H':=⟨⟨[],by simp⟩,fun _ h=>.inl h,e.frame⟩
theorem nK.letGo {r:Res D}{Q:VK}(rh:RH K ρ H hd)(p:nK K ρ H (letGo hd r) Q):nK K ρ H r Q:=by
  cases r with
  | exc x h'=>exact p
  | bad=>exact p
  | ok d h' =>
    intro v H' ρ' ex rh' rd
    simp only [Fm.letGo] at p
    split at p
    · rename_i hc
      obtain⟨t,rfl⟩:=ex.pre
      exact p v H' ρ ex.short (rh.back rh' hc.2) (rd.cut (nJ hc.1))
    · exact p v H' ρ' ex rh' rd
theorem nK.runB {n:Nat}{b:SF}{ds:List D}{Q:VK}(p:nK K ρ H (runB n b ds hd) Q):cq K ρ H (b (ds.map some++List.replicate (n - ds.length) none) hd) { nx:=fun _ H'=>Q .non H',rt:=Q }:=by
  unfold Fm.runB at p
  cases e:b (ds.map some++List.replicate (n - ds.length) none) hd with
  | nx σ h'=>rw [e] at p;exact fun σ' H' ρ' ex rs=>p .non H' ρ' ex rs.hp (by simp only [RD])
  | rt d h'=>rw [e] at p;exact p
  | bk σ h'=>rw [e] at p;exact p.elim
  | ct σ h'=>rw [e] at p;exact p.elim
  | exc x σ h'=>rw [e] at p;exact p.elim
  | bad=>rw [e] at p;exact p.elim
theorem Aj {N:List Str}{ds:List D}{vs:List V}(r:RDs K ρ H ds vs):RSt K ρ H (ds.map some++List.replicate (N.length - ds.length) none) (L2.iN N vs):=by
  have hl:=r.length
  refine⟨by simp [L2.iN,hl],fun i d e => ?_⟩
  simp only [slot] at e
  by_cases hi:i < ds.length
  · rw [List.getElem?_append_left (by simpa using hi)] at e
    simp only [List.getElem?_map,List.getElem?_eq_getElem hi,Option.map_some] at e
    cases e
    obtain⟨v,hv,q⟩:=r.get (i:=i) (d:=ds[i]) (by simp [hi])
    refine⟨v,?_,q⟩
    unfold L2.iN
    rw [List.getElem?_append_left (by simp;omega)]
    simp [hv]
  · rw [List.getElem?_append_right (by simpa using Nat.le_of_not_lt hi)] at e
    simp only [List.getElem?_replicate] at e
    by_cases hq:i - (List.map some ds).length < N.length - ds.length
    · simp only [hq,if_true] at e;cases e
    · simp only [hq,if_false] at e;cases e
end
structure Def (P:Program) (w:World) (K:PySem.W.Frag) (mg:Str→Option Value) (base:Heap) (x:Str) (k np:Nat) (F:Fn):Prop where
  ex:∃ f fd ps,mg x=some (.ref f)∧PySem.W.keepIn K (.ref f)=true∧nB K fd ps []∧cz P w K mg base CX0 k f fd ps (spF K F np)
section
variable {P:Program} {w:World} {K:PySem.W.Frag} {mg:Str→Option Value} {base:Heap}
theorem bY {x:Str}{st:Stmt}{f:Addr}{fd:FuncData}{N ps:List Str}{k:Nat}{b:SF}(F:Fun K x x st f fd)(S:aR N ps (al st))
    (body:∀ (cdv:Value) (A:Around) (outer:List Env) (s:Shared) (H:Hp) (E:XK),gZ k (A.deeper (envOfC x (al st) s.heap.objs.size f cdv))→MSs (xa CX0 P w K mg base N x (al st) f cdv A outer s H E).nox (aN st) b) :
    cz P w K mg base CX0 (k + 1) f fd ps (spF K (bJ ps.length N.length b) ps.length):=by
  refine F.ok S (fun vs H Q E ⟨ρ,hd,ds,rh,rd,hl,p⟩=>by rw [← rd.length];exact hl) fun cdv A outer s H vs Q E hr ⟨ρ,hd,ds,rh,rd,hl,p⟩=>⟨_,body cdv A outer s H E hr,ρ,_,hd,⟨rh,Aj rd⟩,?_⟩
  simp only [bJ,hl,if_true] at p
  exact (nK.letGo rh p).runB
theorem Def.mk' {x:Str}{f:Addr}{fd:FuncData}{ps:List Str}{k np:Nat}{F:Fn}(hm:mg x=some (.ref f))(hk:PySem.W.keepIn K (.ref f)=true)(hb:nB K fd ps [])(h:cz P w K mg base CX0 k f fd ps (spF K F np)):Def P w K mg base x k np F:=⟨f,fd,ps,hm,hk,hb,h⟩
end
section
variable {X:Cx} {pos p:Pos}
theorem aq {x:Str}{k np:Nat}{F:Fn}{e:Expr}{es:List Expr}{r:LF}(hd:Def X.prog X.w X.K X.mg X.base x k np F)(hr:gZ k X.A)(hg:Gl X x)(ha:MA X (e :: es) r)(hnp:∀ ds h d h',F ds h=.ok d h'→ds.length=np)
    (hdb:(x == ("__debug__" : Str))=false:=by decide) (he:starEach (e :: es) X.env=(false,eval e X.env) :: starEach es X.env:=by rfl) (hpl:(backTo pos (starEach es X.env)).any (·.1)=false:=by rfl) :
    ME X (.Call (.Name x p) (e :: es) [] pos) (au F r):=by
  obtain⟨f,fd,ps,h1,h2,h3,h4⟩:=hd.ex
  refine PE.imp (Dx h4 hr hg h1 h2 h3 .nil GR ha hdb he hpl) fun σ H Q ⟨ρ,σd,hd,rs,pp⟩=>⟨ρ,σd,hd,rs,(bj.bind (R:=rDs X.K) pp).imp fun vs H1 ⟨ρ1,ds,hd1,e1,rs1,rv,p1⟩ => ?_⟩
  rw [List.append_nil]
  cases c:F ds hd1 with
  | exc z h'=>rw [c] at p1;exact p1.elim
  | bad=>rw [c] at p1;exact p1.elim
  | ok d hd2 =>
    rw [c] at p1
    refine⟨ρ1,hd1,ds,rs1.hp,rv,hnp _ _ _ _ c,?_⟩
    rw [c]
    exact fun v H' ρ' ex rh rd=>p1 v H' ρ' ex (rs1.ext ex rh) rd
theorem ar {np n:Nat}{b:SF}:∀ ds h d h',bJ np n b ds h=.ok d h'→ds.length=np:=by
  intro ds h d h' e
  unfold bJ at e
  split at e
  · assumption
  · cases e
end
theorem G1 {l:PySem.W.OpenLaw}{q:Program}{loose:List Str}{XP:(Str→Option Value)→Heap→Prop}{YP:World→Heap→Prop}{d:DefRec}{K:Params→PySem.W.Frag}{F:Fn}{k:Nat}{x:Str}(hn:l.most=some 63)(hdf:d.params.defaults=[])(hr:gZ k callerA)
    (hY:∀ (w:World) (h:Heap),YP w h→(K w.params).In h)
    (hF:∀ (w:World) (mg:Str→Option Value) (fa:Addr) (h:Heap),(K w.params).In h→h.Ns mainGlobals mg→mg d.name=some (.ref fa) →
      ∃ fd:FuncData,(∀ (s:Shared) (u:Value),BindsTo s fd ⟨[u],[]⟩ [(x,u)]) ∧ ∀ base:Heap,(K w.params).In base→base.Ns mainGlobals mg→cz l.prog w (K w.params) mg base CX0 k fa fd [x] (spF (K w.params) F 1))
    (law:∀ ns:List Int,ns.length≤63 → ∃ h,F [.lit (ns.map .int)] []=.ok (.bl true) h) :
    PySem.W.WalkO q loose XP YP l.row.toRowW d [] (fun f vs=>PySem.call f vs):=by
  refine L2.DF (n:=63) (k:=k) (x:=x) (CX:=fun _=>CX0) (sp:=fun w=>spF (K w.params) F 1) hn (by decide) hdf hr hY hF (fun w H a ns hl hO hS => ?_) fun _ _ _ _ _ z=>z
  obtain⟨h,e⟩:=law ns hl
  have hL:mx (K w.params) H a (ns.map V.int):=by
    rcases hS with (z|⟨o,z⟩)|z
    · rcases hO a with y|⟨o,xs,y⟩<;>(rw [z] at y;cases y)
    · exact .inl ⟨o,z⟩
    · exact .inr z
  have hI:RDs (K w.params) [] H (ns.map D.int) (ns.map V.int):=by
    clear hl hS e hL law
    induction ns with
    | nil=>exact RDs.nil
    | cons n ns ih=>exact RDs.cons (by simp only [RD]) ih
  refine⟨[],[],[.lit (ns.map .int)],⟨rfl,List.nodup_nil,fun n c a h1=>by simp at h1⟩,RDs.cons (by simp only [RD];exact⟨a,_,rfl,hL,hI⟩) RDs.nil,rfl,?_⟩
  rw [e]
  intro v H' ρ' ex rh rd
  simpa only [RD] using rd
end Fm
set_option Elab.async false
set_option linter.all false
set_option maxRecDepth 100000
namespace Fm
open PySem PySem.Spec L2
open PyProof.Rows (Subscript_ tail_any)
def tyS:Ty→String
  | .int => "int" | .bool => "bool" | .tuple => "tuple" | .list => "list" | .str => "str"
theorem fw (t:Ty):typeOf (.type (tyS t))=pure (.type "type"):=by
  cases t
  · exact F.isi_meta_int
  · exact F.isi_meta_bool
  · exact F.isi_meta_tuple
  · exact F.isi_meta_list
  · exact F.isi_meta_str
theorem DN (t:Ty):isSubtype (.type "NoneType") (.type (tyS t))=pure false:=by cases t<;>(rw [isSubtype_type];kernel_rfl)
theorem FN {t:Ty} (h:t ≠ .int):isSubtype (.type "int") (.type (tyS t))=pure false:=by cases t<;>first|exact absurd rfl h|(rw [isSubtype_type];kernel_rfl)
theorem DO {t:Ty} (h:t ≠ .int) (h2:t ≠ .bool):isSubtype (.type "bool") (.type (tyS t))=pure false:=by cases t<;>first|exact absurd rfl h|exact absurd rfl h2|(rw [isSubtype_type];kernel_rfl)
theorem FO {t:Ty} (h:t ≠ .str):isSubtype (.type "str") (.type (tyS t))=pure false:=by cases t<;>first|exact absurd rfl h|(rw [isSubtype_type];kernel_rfl)
theorem BU {t:Ty} (h:t ≠ .tuple):isSubtype (.type "tuple") (.type (tyS t))=pure false:=by cases t<;>first|exact absurd rfl h|(rw [isSubtype_type];kernel_rfl)
theorem zw {t:Ty} (h:t ≠ .list):isSubtype (.type "list") (.type (tyS t))=pure false:=by cases t<;>first|exact absurd rfl h|(rw [isSubtype_type];kernel_rfl)
theorem DP (t:Ty):isSubtype (.type "dict") (.type (tyS t))=pure false:=by cases t<;>(rw [isSubtype_type];kernel_rfl)
theorem ju (t:Ty):isSubtype (.type (tyS t)) (.type (tyS t))=pure true:=by cases t<;>(rw [isSubtype_type];kernel_rfl)
theorem uT:isSubtype (.type "bool") (.type (tyS .int))=pure true:=by rw [isSubtype_type];kernel_rfl
theorem mz {n:String}{t:Ty}(h:n≠tyS t):(Value.type n == Value.type (tyS t))=false:=by
  rw [beq_eq_false_iff_ne];intro e;cases e;exact h rfl
theorem xl {a b:Ty}(h:a≠b):(a == b)=false:=by cases a<;>cases b<;>first|rfl|exact absurd rfl h
section
variable {X:Cx} {pos p:Pos}
theorem FP {pins:List (Addr × Obj)}{σ:St}{H:Hp}{s:Shared}{ρ:List Addr}{hd:Hd}{d:D}{v:V}{u:Value}{t:Ty}{b:Bool}{Q:Value→Shared→Prop}{E:Value→Shared→Prop}(I:Inv X pins σ H s)(rh:RH X.K ρ H hd)(rd:RD X.K ρ H d v)(r:bQ v u)(e:Ag hd t d=some b)
    (q:∀ s',Inv X pins σ H s'→Q (.bool b) s'):wpAny (model X.prog X.w) X.A (call (.builtin "isinstance") [u,.type (tyS t)]) Q E s:=by
  have q0:=q s I
  have q1:=q { s with toks:=s.toks + 1 } (I.tok _)
  have yes:∀ {n:String},s.TypeIs u n→isSubtype (.type n) (.type (tyS t))=pure true→Q (.bool true) s→wpAny (model X.prog X.w) X.A (call (.builtin "isinstance") [u,.type (tyS t)]) Q E s:=fun h1 h2 h3=>call_isinstance (isinstance_true (fw t) h2) ⟨h1,h3⟩
  cases d<;>simp only [RD] at rd<;>simp only [Ag] at e
  · subst rd;cases r;cases e
    exact call_isinstance (isinstance_false_none (by cases t<;>exact mz (by decide)) (fw t) (DN t)) q1
  · subst rd;cases r
    by_cases h1:t=.int
    · subst h1;cases e;exact yes (n := "bool") rfl uT q0
    · by_cases h2:t=.bool
      · subst h2;cases e;exact yes (n := "bool") rfl (ju .bool) q0
      · rw [xl h1,xl h2] at e;cases e
        exact call_isinstance (isinstance_false_bool (by cases t<;>first|exact absurd rfl h1|exact absurd rfl h2|exact mz (by decide)) (fw t) (DO h1 h2)) q1
  · subst rd;obtain⟨tk,rfl⟩:=r
    by_cases h1:t=.int
    · subst h1;cases e;exact yes (n := "int") rfl (ju .int) q0
    · rw [xl h1] at e;cases e
      exact call_isinstance (isinstance_false_int (by cases t<;>first|exact absurd rfl h1|exact mz (by decide)) (fw t) (FN h1)) q1
  · subst rd;obtain⟨tk,rfl⟩:=r
    by_cases h1:t=.str
    · subst h1;cases e;exact yes (n := "str") rfl (ju .str) q0
    · rw [xl h1] at e;cases e
      exact call_isinstance (isinstance_false_str (by cases t<;>first|exact absurd rfl h1|exact mz (by decide)) (fw t) (FO h1)) q1
  · obtain⟨a,vs,rfl,ha,_⟩:=rd
    cases r
    obtain⟨its,_,o,ho,hc,_⟩:=hR I.hok ha
    by_cases h1:t=.tuple
    · subst h1;cases e;exact yes (n := "tuple") ⟨o,ho,hc⟩ (ju .tuple) q0
    · rw [xl h1] at e;cases e
      exact call_isinstance (isinstance_false_tuple (by cases t<;>first|exact absurd rfl h1|exact mz (by decide)) (fw t) (BU h1)) ⟨⟨o,ho,hc⟩,q1⟩
  · rename_i n
    obtain⟨a,ha,rfl⟩:=rd
    cases r
    cases c:hd[n]? with
    | none=>rw [c] at e;cases e
    | some cell =>
      rw [c] at e
      cases cell with
      | lst l =>
        obtain⟨vs,hv,_⟩:=rh.cel n _ a c ha
        obtain⟨z,its,k,_,ho⟩:=I.hok a _ hv
        by_cases h1:t=.list
        · subst h1;cases e;exact yes (n := "list") ⟨_,ho,rfl⟩ (ju .list) q0
        · simp only [xl h1] at e;cases e
          exact call_isinstance (isinstance_false_list (by cases t<;>first|exact absurd rfl h1|exact mz (by decide)) (fw t) (zw h1)) ⟨⟨_,ho,rfl⟩,q1⟩
      | dct l =>
        obtain⟨vs,hv,_,_⟩:=rh.cel n _ a c ha
        obtain⟨_,_,_,_,o,_,_,ho,ex,_⟩:=I.hok a _ hv
        cases e
        exact call_isinstance (isinstance_false_dict (by cases t<;>exact mz (by decide)) (fw t) (DP t)) ⟨⟨o,ho,ex.1⟩,q1⟩
  · obtain⟨a,vs,rfl,ha,_⟩:=rd
    cases r
    obtain⟨its,_,pl,_⟩:=I.list ha.sq
    obtain⟨o,ho,hc,_⟩:=pl.isList
    by_cases h1:t=.list
    · subst h1;cases e;exact yes (n := "list") ⟨o,ho,hc⟩ (ju .list) q0
    · simp only [xl h1] at e;cases e
      exact call_isinstance (isinstance_false_list (by cases t<;>first|exact absurd rfl h1|exact mz (by decide)) (fw t) (zw h1)) ⟨⟨o,ho,hc⟩,q1⟩
  · cases e
def HF (K:PySem.W.Frag) (t:Ty):List V→Hp→VK→Prop:=fun xs H Q=>∃ ρ hd d v b,xs=[v,.ty (tyS t)]∧RH K ρ H hd∧RD K ρ H d v∧Ag hd t d=some b∧Q (.bl b) H
theorem BV (t:Ty):gF X (.builtin "isinstance") (HF X.K t):=by
  intro pins s σ H xs us Q I r h
  obtain⟨ρ,hd,d,v,b,rfl,rh,rd,e,q⟩:=h
  obtain⟨u,u2,rfl,ru,ru2⟩:=aS.two r
  cases (show u2=Value.type (tyS t) from ru2)
  exact FP I rh rd ru e fun s' I'=>⟨.bl b,H,I',rfl,q⟩
theorem ej {t:Ty} {a:Expr} {fa:EF} {p2:Pos} {n:Str} (hg:Gl X "isinstance") (hm:X.mg "isinstance" = none) (hg2:Gl X n) (hm2:X.mg n=none) (hv:bootBuiltins n=some (.type (tyS t))) (ha:ME X a fa)
    (hs:starEach [a,.Name n p2] X.env=(false,eval a X.env) :: starEach [.Name n p2] X.env:=by rfl) (hs2:starEach [.Name n p2] X.env=(false,eval (.Name n p2) X.env) :: starEach [] X.env:=by rfl) (hn:n ≠ "__name__" := by decide) (hd:(n == ("__debug__" : Str))=false:=by decide) :
    ME X (.Call (.Name "isinstance" p) [a,.Name n p2] [] pos) (cX t fa):=by
  refine PE.imp (kj (BV t) hg hm (by decide +kernel) (cJ ha (cJ (Dm (v:=.ty (tyS t)) hg2 hm2 hv rfl hn hd) d6 hs2) hs) (he:=hs)) fun σ H Q ⟨ρ,σd,hd,rs,pp⟩=>⟨ρ,σd,hd,rs,(bj.bind (R:=rD X.K) pp).imp fun v H1 ⟨ρ1,d,hd1,e1,rs1,rv,p1⟩ => ?_⟩
  cases c:Ag hd1 t d with
  | none=>simp only [c] at p1;exact p1.elim
  | some b=>simp only [c] at p1;exact⟨ρ1,hd1,d,v,b,rfl,rs1.hp,rv,c,p1.here rs1 (by simp only [rD,RD])⟩
theorem br:OpR X (binaryOp .Add) (fun x y H Q=>rI0 (fun i j=>.int (i + j)) x y H Q∨BB X.K x y H Q):=Fg.or DB
theorem bR {K:PySem.W.Frag}:Og K bH (fun x y H Q=>rI0 (fun i j=>.int (i + j)) x y H Q∨BB K x y H Q):=by
  intro ρ H σd hd σ d k v w Q rs rv rw' pp
  cases d<;>try exact pp.elim
  · cases k<;>try exact pp.elim
    simp only [RD] at rv rw'
    exact .inl ⟨_,_,rv,rw',pp.here rs (by simp only [rD,RD])⟩
  · rename_i l
    cases l with
    | nil=>exact pp.elim
    | cons x xs =>
      cases k<;>try exact pp.elim
      rename_i ys
      simp only [bH] at pp
      split at pp
      · rename_i hz
        simp only [RD] at rv rw'
        obtain⟨a,vs,rfl,ha,rvs⟩:=rv
        obtain⟨b,ws,rfl,hb,rws⟩:=rw'
        refine .inr ⟨a,b,vs,ws,rfl,rfl,SqT.of ha,SqT.of hb,?_,?_,fun z => ?_,fun _ q hq => ?_⟩
        · intro z;subst z;have:=rvs.length;simp at this
        · rw [← rvs.length,← rws.length];exact rL hz
        · subst z
          have hy:ys=[]:=by have:=rws.length;simpa using this
          subst hy
          exact pp.here rs (by simp only [rD,RD];exact⟨a,vs,rfl,ha,by simpa using rvs⟩)
        · have sm:=cF (o:=HO.tup (vs++ws)) hq
          exact pp.at (Ext.same sm) (rs.same sm) (by simp only [rD,RD];exact⟨q,_,rfl,bB,(RDs.append rvs rws).mono (Kp.same sm)⟩)
      · exact pp.elim
theorem zx {a:Expr} {la:LF} (hg:Gl X "list") (hm:X.mg "list" = none) (ha:MQ X a la) (hs:starEach [a] X.env=(false,eval a X.env) :: starEach [] X.env:=by rfl):MF X (.Call (.Name "list" p) [a] [] pos) la:=by
  refine PE.imp (qv rC hg hm (by decide +kernel) (cJ ha d6 hs) (he:=hs)) fun σ H Q ⟨ρ,σd,hd,rs,pp⟩=>⟨ρ,σd,hd,rs,?_⟩
  cases e:la σd hd with
  | exc x h'=>rw [e] at pp;exact pp
  | bad=>rw [e] at pp;exact pp
  | ok l hd1 =>
    rw [e] at pp
    intro v H1 ρ1 e1 rs1 ⟨q,vs,hv,sq,rvs⟩
    subst hv
    exact⟨q,vs,rfl,sq.imp id SqT.of,pp.mk e1 rs1 rvs⟩
def MO (X:Cx) (e:Option Expr) (f:OF):Prop:=PO X e (jD X.K rO f)
theorem mB:MO X none pNo:=fun pins s σ H Q I ⟨ρ,σd,hd,rs,pp⟩=>Dz pins s σ H Q I (pp.here rs rfl)
theorem mC {e:Expr}{f:EF}(h:ME X e f):MO X (some e) (pAt f):=fun pins s σ H Q I ⟨ρ,σd,hd,rs,pp⟩=>DA h pins s σ H Q I ⟨ρ,σd,hd,rs,(bj.bind (R:=rD X.K) pp).imp fun v H1 ⟨ρ1,d,hd1,e1,rs1,rv,p1⟩=>by
  cases d<;>try exact p1.elim
  simp only [rD,RD] at rv
  exact⟨_,rv,p1.here rs1 rfl⟩⟩
theorem rV {K:PySem.W.Frag}{ρ:List Addr}{H:Hp}{l:List D}{vs:List V}{lo hi:Option Int}(r:RDs K ρ H l vs):RDs K ρ H (cut l lo hi) (kU vs lo hi):=by
  have e:∀ (n d:Nat) (o:Option Int),Fm.sIx n d o=HT.sIx n d o:=fun n d o=>by cases o<;>rfl
  unfold cut kU
  rw [r.length,e,e]
  exact (r.drop _).take _
theorem fX {a:Expr}{fa:EF}{lo hi:Option Expr}{fl fh:OF}{p2:Pos}(ha:ME X a fa)(hl:MO X lo fl)(hh:MO X hi fh):ME X (.Subscript a (.Slice lo hi none p2) pos) (cW fa fl fh):=by
  refine PE.imp (uK (SlR.or DC BA) ha hl hh) fun σ H Q ⟨ρ,σd,hd,rs,pp⟩ => ?_
  unfold cW at pp
  refine⟨ρ,σd,hd,rs,(bj.bind (R:=rD X.K) pp).imp fun v H1 ⟨ρ1,d,hd1,e1,rs1,rv,p1⟩ => ?_⟩
  refine⟨ρ1,σd,hd1,rs1,(bj.bind (R:=rO) p1).imp fun o1 H2 ⟨ρ2,o1',hd2,e2,rs2,q2,p2⟩ => ?_⟩
  cases q2
  refine⟨ρ2,σd,hd2,rs2,(bj.bind (R:=rO) p2).imp fun o2 H3 ⟨ρ3,o2',hd3,e3,rs3,q3,p3⟩ => ?_⟩
  cases q3
  have rv3:=(rv.mono (rs1.hp.kp e2)).mono (rs2.hp.kp e3)
  have list:∀ l,b4 hd3 d=some l→bj X.K (rD X.K) ρ3 H3 σd σ (.ok (.ref hd3.length) (hd3++[.lst (cut l o1 o2)])) Q→GQ X.K v o1 o2 H3 Q:=fun l c p=>by
    obtain⟨q,vs,hv,sq,rvs⟩:=hU rs3.hp rv3 c
    refine⟨q,vs,hv,sq,fun q' hq => ?_⟩
    have sm:=cF (o:=HO.lst (kU vs o1 o2)) hq
    have nq:=rs3.hp.free hq
    have rh:=(rs3.hp.same sm).alloc bB nq ((rV rvs).mono (Kp.same sm))
    have ex:Ext ρ3 H3 (ρ3++[q']) (upd H3 q' (.lst (kU vs o1 o2))):=Ext.alloc hq
    refine p.at ex (rs3.ext ex rh) ?_
    simp only [rD,RD]
    exact⟨q',by rw [← rs3.hp.len];simp,rfl⟩
  cases d with
  | tup l =>
    simp only at p3
    split at p3
    · exact p3.elim
    · rename_i hw
      simp only [RD] at rv3
      obtain⟨q,vs,rfl,hq,rvs⟩:=rv3
      have e:∀ (n d:Nat) (o:Option Int),Fm.sIx n d o=HT.sIx n d o:=fun n d o=>by cases o<;>rfl
      refine .inr ⟨q,vs,rfl,SqT.of hq,by rw [← rvs.length,← e,← e];exact hw,fun q' hq' => ?_⟩
      have sm:=cF (o:=HO.tup (kU vs o1 o2)) hq'
      exact p3.at (Ext.same sm) (rs3.same sm) (by simp only [rD,RD];exact⟨q',_,rfl,bB,(rV rvs).mono (Kp.same sm)⟩)
  | ref n =>
    simp only at p3
    cases c:b4 hd3 (.ref n) with
    | none=>rw [c] at p3;exact p3.elim
    | some l=>rw [c] at p3;exact .inl (list l c p3)
  | lit l' =>
    simp only at p3
    cases c:b4 hd3 (.lit l') with
    | none=>rw [c] at p3;exact p3.elim
    | some l=>rw [c] at p3;exact .inl (list l c p3)
  | _=>exact p3.elim
theorem dI {o e:Expr} {fo fe:EF} {apos cpos:Pos} (ho:ME X o fo) (he:ME X e fe) (hbase:attributeBase o "append" X.env (eval o X.env)=eval o X.env:=by rfl)
    (hfew:((backTo cpos (starEach [e] X.env)).all (fun x => !x.1) && (backToKw cpos (keywordEach [] X.env)).all (fun x=>x.1.isSome)
      && decide (([e] : List Expr).length + ([] : List Keyword).length + (if ([] : List Keyword).isEmpty then 0 else 1) < 30))=true:=by rfl)
    (hline:(apos.endLine == cpos.line)=true:=by rfl) (hs:starEach [e] X.env=(false,eval e X.env) :: starEach [] X.env:=by rfl) :
    ME X (.Call (.Attribute o "append" apos) [e] [] cpos) (eD fo fe):=by
  refine PE.imp (BD PySem.F.plainAttrs_list PySem.F.slot_list_append PySem.F.type_list_append qx ho (cJ he d6 hs) hbase hfew hline hs) fun σ H Q ⟨ρ,σd,hd,rs,pp⟩=>⟨ρ,σd,hd,rs,?_⟩
  unfold eD at pp
  refine (bj.bind (R:=rD X.K) pp).imp fun v H1 ⟨ρ1,d,hd1,e1,rs1,rv,p1⟩ => ?_
  cases d<;>try exact p1.elim
  rename_i n
  simp only [rD,RD] at rv
  obtain⟨a,ha,rfl⟩:=rv
  simp only at p1
  cases c1:hd1[n]? with
  | none=>rw [c1] at p1;exact p1.elim
  | some cell1 =>
    rw [c1] at p1
    cases cell1 with
    | dct l=>exact p1.elim
    | lst l1 =>
      obtain⟨vs,hv,_⟩:=rs1.hp.cel n _ a c1 ha
      simp only at p1
      refine⟨.inl ⟨rfl,vs,SqL.of hv⟩,ρ1,σd,hd1,rs1,(bj.bind (R:=rD X.K) p1).imp fun w H2 ⟨ρ2,k,hd2,e2,rs2,rw',p2⟩ => ?_⟩
      simp only [FB] at p2
      cases c:hd2[n]? with
      | none=>rw [c] at p2;exact p2.elim
      | some cell =>
        rw [c] at p2
        cases cell with
        | dct l=>exact p2.elim
        | lst l =>
          simp only at p2
          split at p2
          · rename_i hz
            have ha2:=e2.get ha
            obtain⟨vs2,hv2,rvs2⟩:=rs2.hp.cel n _ a c ha2
            refine⟨a,vs2,w,rfl,rfl,hv2,?_,?_⟩
            · rw [← rvs2.length];exact Nat.lt_of_lt_of_le hz (by rw [sizeLine_eq];decide)
            · have hn:n < hd2.length:=(List.getElem?_eq_some_iff.mp c).1
              have rh:=rs2.hp.write ha2 hn (RDs.append rvs2 (RDs.cons rw' RDs.nil))
              have ex:Ext ρ2 H2 ρ2 (upd H2 a (.lst (vs2++[w]))):=Ext.write (List.mem_of_getElem? ha2)
              exact p2.at ex (rs2.ext ex rh) (by simp only [rD,RD])
          · exact p2.elim
end
end Fm
set_option Elab.async false
set_option linter.all false
set_option maxRecDepth 100000
namespace Fm
open PySem PySem.Spec L2
open AutoSeq1 (wpAny_loadPart')
open PyProof.Rows (Call_)
theorem uU {a b:String}(h:Value.type a=Value.type b)(n:a≠b):False:=by injection h with h;exact n h
theorem iT (l:Addr)(items:Array Value)(n:Nat)(dct:Option Addr)(sl:Array (Option Value)) :
    Meets (Builtin.«enumerate.__new__» ⟨[.type "enumerate",.ref l],[]⟩) (fun _ R s=>s.heap.get? l=some { cls:=.type "tuple",dict:=dct,data:=.seq items n,slots:=sl } ∧
      R (.ok (.ret (.ref (s.heap.push { cls:=.type "tuple_iterator",data:=.fields #[.ref l,.int 0 0] }).objs.size)))
        { s with heap:=(s.heap.push { cls:=.type "tuple_iterator",data:=.fields #[.ref l,.int 0 0] }).push { cls:=.type "enumerate",data:=.fields #[.none,.bool false,.ref s.heap.objs.size,rawInt 0,.none,.none] } }) :=
  .of_wp fun prog w A R s h=>by
    obtain⟨hp,g,d,tk,os⟩:=s;obtain⟨hl,h⟩:=h
    have hsub:=sub_enumerate
    have hL:Heap.IsTuple (Shared.heap ⟨hp,g,d,tk,os⟩) l items:=⟨_,hl,rfl,n,rfl⟩
    wp_walk using wpAny_loadPart' hl
    refine wpAny_stack_any fun st=>wpAny_pure ?_
    split
    · rename_i c _ _ _ _ _
      cases (c == Value.type "enumerate")
      · wp_walk using wpAny_loadPart' hl,wpAny_pyIter_tuple hL
        exact⟨_,rfl,h⟩
      · wp_walk using wpAny_loadPart' hl,wpAny_pyIter_tuple hL
        exact⟨_,rfl,h⟩
    · wp_walk using wpAny_loadPart' hl,wpAny_pyIter_tuple hL
      exact⟨_,rfl,h⟩
section
variable {prog:Program} {w:World} {A:Around} {E:Value→Shared→Prop} {s:Shared}
theorem iU {l:Addr}{items:Array Value}{Q:Value→Shared→Prop}(hL:s.heap.IsTuple l items)
    (h:∀ h',IsEnum h' (s.heap.objs.size + 1) s.heap.objs.size 0 .none→h'.IsTupleIter s.heap.objs.size l 0→h'.objs.size=s.heap.objs.size + 2 →
      (∀ b o,s.heap.get? b=some o→h'.get? b=some o)→Q (.ref (s.heap.objs.size + 1)) { s with heap:=h' }) :
    wpAny (model prog w) A (call (.type "enumerate") [.ref l]) Q E s:=by
  obtain⟨⟨c,dct,dt,sl⟩,hl,hc,n,hd⟩:=hL
  replace hc:c=.type "tuple" := hc
  replace hd:dt=.seq items n:=hd
  subst hc hd
  refine callType_new F.called_enumerate (by decide) (F.typeCall_enumerate_1 _) (F.newCall_enumerate_1 _) (fun obj=>F.args_object_init_2 obj _) F.entry_enumerate_new
    (iT l items n dct sl) ⟨hl,?_⟩
  have hz:(s.heap.push { cls:=.type "tuple_iterator",data:=.fields #[.ref l,.int 0 0] }).objs.size=s.heap.objs.size + 1:=Heap.size_push ..
  show _∧_
  rw [hz]
  have he:IsEnum ((s.heap.push { cls:=.type "tuple_iterator",data:=.fields #[.ref l,.int 0 0] }).push
      { cls:=.type "enumerate",data:=.fields #[.none,.bool false,.ref s.heap.objs.size,rawInt 0,.none,.none] }) (s.heap.objs.size + 1) s.heap.objs.size 0 .none:=by
    have:=Heap.get?_push_size (s.heap.push { cls:=.type "tuple_iterator",data:=.fields #[.ref l,.int 0 0] })
      (o:={ cls:=.type "enumerate",data:=.fields #[.none,.bool false,.ref s.heap.objs.size,rawInt 0,.none,.none] }) rfl
    rw [hz] at this;exact this
  refine⟨⟨_,he,rfl⟩,h _ he ⟨_,Heap.get?_push_of_some _ (Heap.get?_push_size _ rfl),rfl,rfl⟩ (by rw [Heap.size_push,hz]) fun b o x=>Heap.get?_push_of_some _ (Heap.get?_push_of_some _ x)⟩
theorem kt {it l:Addr}{i:Nat}{items:Array Value}{x:Value}{Q:Value→Shared→Prop}(hit:s.heap.IsTupleIter it l i)
    (hl:s.heap.IsTuple l items) (hx:items[i]? = some x)
    (hQ:∀ h',h'.IsTupleIter it l (i + 1)→Heap.SameBut it s.heap h'→Q x { s with heap:=h' }) :
    wpAny (model prog w) A (Builtin.SmallTypes.nextOf (.ref it)) Q E s:=by
  obtain⟨o,ho,hc,hd⟩:=id hit
  obtain⟨ol,hol,_,nl,hdl⟩:=hl
  unfold Builtin.SmallTypes.nextOf
  refine wpAny_bind (wpAny_callSpecial?_slot (name:=Str.ofString "__next__") hit.typeIs F.slot_tuple_iterator_next
    (wpAny_call_entry F.slot_tuple_iterator_next hit.typeIs F.entry_tuple_iterator_next ?_ (F.args_tuple_iterator_next_1 _)))
  show wpAny _ _ (field (.ref it) 0 >>= _) _ _ s
  refine wpAny_bind (wpAny_field ho hd (x:=.ref l) rfl ?_)
  show wpAny _ _ (if (Value.ref l == Value.none)=true then _ else _) _ _ s
  rw [if_neg (show ¬ ((Value.ref l == Value.none)=true) from Bool.false_ne_true)]
  show wpAny _ _ (field (.ref it) 1 >>= _) _ _ s
  refine wpAny_bind (wpAny_field ho hd (x:=.int i 0) rfl ?_)
  show wpAny _ _ (seqItems? (.ref l) >>= _) _ _ s
  refine wpAny_bind (wpAny_seqItems hol hdl ?_)
  simp only [Int.toNat_natCast,hx]
  refine wpAny_bind (wpAny_setField ho hd (by simp) (wpAny_pure ⟨x,rfl,wpAny_pure (hQ _ ?_ (Heap.SameBut.update ..))⟩))
  exact⟨_,Heap.get?_update_self _ ho (Obj.isFreed_of_fields (Obj.data_mapFields hd _)),(Obj.cls_mapFields ..).trans hc,by
    rw [Obj.data_mapFields hd];simp [rawInt]⟩
theorem lf {it l:Addr}{i:Nat}{items:Array Value}{Q:Value→Shared→Prop}(hh:A.handled=none)
    (hit:s.heap.IsTupleIter it l i) (hl:s.heap.IsTuple l items) (hx:items[i]? = none)
    (hE:∀ h' e,Heap.ExtBut it s.heap h'→(∃ o,h'.get? e=some o∧o.cls=.type "StopIteration")→E (.ref e) { s with heap:=h' }) :
    wpAny (model prog w) A (Builtin.SmallTypes.nextOf (.ref it)) Q E s:=by
  obtain⟨o,ho,hc,hd⟩:=id hit
  obtain⟨ol,hol,_,nl,hdl⟩:=hl
  unfold Builtin.SmallTypes.nextOf
  refine wpAny_bind (wpAny_callSpecial?_slot (name:=Str.ofString "__next__") hit.typeIs F.slot_tuple_iterator_next
    (wpAny_call_entry F.slot_tuple_iterator_next hit.typeIs F.entry_tuple_iterator_next ?_ (F.args_tuple_iterator_next_1 _)))
  show wpAny _ _ (field (.ref it) 0 >>= _) _ _ s
  refine wpAny_bind (wpAny_field ho hd (x:=.ref l) rfl ?_)
  show wpAny _ _ (if (Value.ref l == Value.none)=true then _ else _) _ _ s
  rw [if_neg (show ¬ ((Value.ref l == Value.none)=true) from Bool.false_ne_true)]
  show wpAny _ _ (field (.ref it) 1 >>= _) _ _ s
  refine wpAny_bind (wpAny_field ho hd (x:=.int i 0) rfl ?_)
  show wpAny _ _ (seqItems? (.ref l) >>= _) _ _ s
  refine wpAny_bind (wpAny_seqItems hol hdl ?_)
  simp only [Int.toNat_natCast,hx]
  refine wpAny_bind (wpAny_rule (wpAny_bind (wpAny_setField ho hd (by simp) ?_)))
  show wpAny _ _ (newExc (.type "StopIteration") [] >>= _) _ _ _
  refine wpAny_bind ?_
  simp only [newExc,newTuple]
  refine wpAny_bind (wpAny_newObj_type ?_ (by size_fits))
  refine wpAny_bind (m:=firstArgMember _ _) (wpAny_of_eq (a:=Value.none) (by first|rfl|(simp only [firstArgMember];rfl)) ?_)
  refine wpAny_newObj_type ?_ (by size_fits)
  simp only [raiseNew]
  refine wpAny_bind (wpAny_handled ?_)
  first|rw [show A.in1.handled=none from hh] | rw [hh]
  refine wpAny_bind (wpAny_pure (wpAny_throw ?_))
  exact hE _ _ (((Heap.SameBut.update ..).extBut.push _).push _) ⟨_,Heap.get?_push_size _ rfl,rfl⟩
end
theorem mD {prog:Program}{w:World}{A:Around}(hh:A.handled=none)(it l:Addr)(hne:l≠it)(items:Array Value) :
    Draws prog w A it [it,l] items.size (fun i v=>items[i]? = some v) (fun i h=>h.IsTupleIter it l i∧h.IsTuple l items) where
  live:=fun _ _ st=>let ⟨o,ho,_⟩:=st.1;⟨o,ho⟩
  frame:=fun _ _ _ st hk=>⟨st.1.at fun o e=>hk it (by simp) o e,let ⟨o,ho,r⟩:=st.2;⟨o,hk l (by simp) o ho,r⟩⟩
  item:=fun i s Q E hi st hQ=>by
    have hx:items[i]? = some items[i]:=by simp [hi]
    refine kt st.1 st.2 hx fun h' hit' hs' => ?_
    refine hQ _ h' s.toks hx ⟨hit',?_⟩ hs'
    obtain⟨o,ho,r⟩:=st.2
    exact⟨o,(hs'.2 l hne).trans ho,r⟩
  done:=fun s Q E st hE=>lf hh st.1 st.2 (by simp) hE
def Ite (K:PySem.W.Frag) (a:Addr):It :=
  ⟨fun i H=>∃ xs x,SqT K H a xs∧xs[i]? = some x,fun i H x H'=>∃ q v,x=.ref q∧H q=none∧H'=upd H q (.tup [.int (i:Nat),v]) ∧ ∀ xs,SqT K H a xs→xs[i]? = some v,fun i H=>∃ xs,SqT K H a xs∧xs.length=i⟩
theorem Ak {P:Program}{w:World}{K:PySem.W.Frag}{elts:List Expr}{k:Nat}{pos:Pos}(e it a:Addr):wZ P w K (.Tuple elts k pos) (Ite K a) [e,it] e (fun i h=>(∃ old,IsEnum h e it (i:Nat) old)∧h.IsTupleIter it a i) where
  mem:=by simp
  obj:=fun i h st b hb=>by
    obtain⟨⟨old,he⟩,o,ho,hc,hd⟩:=st
    rcases List.mem_cons.mp hb with rfl|hb
    · exact⟨_,he,fun v z=>by
        have z':Data.fields _=Data.cell v:=z
        cases z'⟩
    · have:b=it:=by simpa using hb
      subst this
      exact⟨o,ho,fun v z=>by rw [hd] at z;cases z⟩
  keep:=fun i h h' st kk=>by
    obtain⟨⟨old,he⟩,st⟩:=st
    exact⟨⟨old,kk e (by simp) _ he⟩,st.at fun o x=>kk it (by simp) o x⟩
  item:=by
    intro X hP hw hK hc i pins s σ H E I hf st hg
    subst hP hw hK
    obtain⟨⟨old,he⟩,hit⟩:=st
    obtain⟨xs,x,hq,hx⟩:=hg
    obtain⟨its,rv,p,hz⟩:=I.tuple hq
    have ht:s.heap.IsTuple a its.toArray:=p
    obtain⟨oi,hoi,hci,hdi⟩:=id hit
    obtain⟨oa,hoa,hca,na,hda⟩:=id ht
    have hei:e≠it:=fun z=>by
      subst z
      have he':s.heap.get? e=_:=he
      rw [hoi] at he';cases he';exact uU hci (by decide)
    have hea:e≠a:=fun z=>by
      subst z
      have he':s.heap.get? e=_:=he
      rw [hoa] at he';cases he';exact uU hca (by decide)
    have hai:a≠it:=fun z=>by
      subst z
      rw [hoi] at hoa;cases hoa;rw [hci] at hca;exact uU hca (by decide)
    obtain⟨e0,e1,e2,e3,e4,e5⟩:=hf e (by simp)
    obtain⟨f0,f1,f2,f3,f4,f5⟩:=hf it (by simp)
    have hlt:i < its.toArray.size:=by
      have:=(List.getElem?_eq_some_iff.mp hx).1
      have hl:=rv.length
      simp;omega
    refine wpAny_pyNext_enum_itemD (mD (prog:=X.prog) (w:=X.w) (A:=X.A.in1) (I.ok.hd hc) it a hai its.toArray) he ⟨hit,ht⟩ hlt hei (by simp;exact⟨hei,hea⟩) fun y h' tk hy heo hst' htup hsz hk => ?_
    refine⟨_,rfl,wpAny_letOwnedTupleGo_enum heo fun h2 he2 hs2 => ?_⟩
    replace hs2:Heap.SameBut e h' h2:=hs2
    obtain⟨u,hu,ru⟩:=rv.get hx
    have hyu:y=u:=by
      have:its.toArray[i]? = some u:=by simpa using hu
      rw [hy] at this;exact Option.some.inj this
    subst hyu
    have elt:e < s.heap.objs.size:=Heap.lt_size he
    have ilt:it < s.heap.objs.size:=Heap.lt_size hoi
    have hN:H s.heap.objs.size=none:=I.hok.fresh (Nat.le_refl _)
    have keep:∀ b o,b≠e→b≠it→s.heap.get? b=some o→h2.get? b=some o:=fun b o b1 b2 q=>(hs2.2 b b1).trans (hk b o b1 b2 q)
    have htup2:h2.get? s.heap.objs.size=some { cls:=.type "tuple",data:=.seq #[.int i tk,y] }:=(hs2.2 _ (Nat.ne_of_gt elt)).trans htup
    have nch:∀ b,b∉([e,it] : List Addr)→b≠e∧b≠it:=fun b hb=>by simpa using hb
    refine⟨.ref s.heap.objs.size,upd H s.heap.objs.size (.tup [.int (i:Nat),x]),?_,rfl,⟨_,x,rfl,hN,rfl,fun ys hys=>by rw [I.tuple_inj hys hq];exact hx⟩,⟨⟨_,by simpa using he2⟩,hst'.1.extBut hs2.extBut (Ne.symm hei)⟩,fun b hb => ?_⟩
    · suffices I2:L2.Inv X pins σ (upd H s.heap.objs.size (.tup [.int (i:Nat),x])) { s with heap:=h2,gens:=s.gens,drawn:=s.drawn,toks:=tk + 1 } from I2
      refine I.step (g':=s.gens) (d':=s.drawn) (t':=tk + 1) (ch:=[e,it]) (fun b hb => ?_) (fun b o _ _ hb q _=>keep b o (nch b hb).1 (nch b hb).2 q) (fun b o _ _ hb q _=>⟨o.slots,keep b o (nch b hb).1 (nch b hb).2 q⟩) (fun b o _ q n => ?_) (fun b o hb q=>⟨o,keep b o (nch b hb).1 (nch b hb).2 q⟩)
        (fun b ys q => ?_) (fun b o u q => ?_) (fun b ps q=>⟨#[],?_⟩) (fun m hm => ?_) (fun b u q => ?_) I.bare
      · rcases List.mem_cons.mp hb with rfl|hb
        · exact⟨e3,e1,e4,e5⟩
        · have:b=it:=by simpa using hb
          subst this
          exact⟨f3,f1,f4,f5⟩
      · rw [aF (Nat.ne_of_lt (Heap.lt_size q))];exact n
      · rw [aF (aG q hN)];exact q
      · rw [aF (aG q hN)];exact q
      · rw [aF (aG q hN),q];simp
      · obtain⟨o,es,ep,ho,r⟩:=hm
        exact⟨o,es,ep,keep _ o (Ne.symm e1) (Ne.symm f1) ho,r⟩
      · by_cases hb:b=s.heap.objs.size
        · subst hb
          rw [bB] at q
          cases q
          exact⟨by show 2≤sizeLine;rw [sizeLine_eq];decide,[.int i tk,y],.cons ⟨tk,rfl⟩ (.cons ru .nil),⟨_,htup2,rfl,_,rfl⟩,_,htup2,rfl⟩
        · rw [aF hb] at q
          have ne1:∀ c v,H c=some v→c≠e:=fun c v z w=>by rw [w,e0] at z;cases z
          have ne2:∀ c v,H c=some v→c≠it:=fun c v z w=>by rw [w,f0] at z;cases z
          refine (I.hok b u q).stay (fun c v hc' z => ?_) (fun c z=>by rw [aF (aG z hN)];exact z) fun c ys z=>by rw [aF (aG z hN)];exact z
          rcases hc' with w|w
          · subst w;exact keep c v (ne1 c _ q) (ne2 c _ q) z
          · exact keep c v (ne1 c _ w) (ne2 c _ w) z
    · have:b≠s.heap.objs.size:=by
        rcases List.mem_cons.mp hb with rfl|hb
        · exact Nat.ne_of_lt elt
        · have:b=it:=by simpa using hb
          subst this
          exact Nat.ne_of_lt ilt
      rw [aF this]
      exact (hf b hb).1
  done:=by
    intro X hP hw hK hc i pins s σ H E I hf st hg
    subst hP hw hK
    obtain⟨⟨old,he⟩,hit⟩:=st
    obtain⟨xs,hq,hx⟩:=hg
    obtain⟨its,rv,p,hz⟩:=I.tuple hq
    have ht:s.heap.IsTuple a its.toArray:=p
    obtain⟨oi,hoi,hci,hdi⟩:=id hit
    obtain⟨oa,hoa,hca,na,hda⟩:=id ht
    have hai:a≠it:=fun z=>by
      subst z
      rw [hoi] at hoa;cases hoa;rw [hci] at hca;exact uU hca (by decide)
    obtain⟨f0,f1,f2,f3,f4,f5⟩:=hf it (by simp)
    have hsz:its.toArray.size=i:=by have:=rv.length;simp;omega
    refine wpAny_pyNext_enum_endD (mD (prog:=X.prog) (w:=X.w) (A:=X.A.in1) (I.ok.hd hc) it a hai its.toArray) he ⟨by rw [hsz];exact hit,ht⟩ fun h' hx'=>⟨rfl,I.turned (t':=s.toks) (fun b o hb e=>hx' b o hb e) f0 f1 f3 f4 f5⟩
  self:=fun _ _ _ _ _ st h=>by
    obtain⟨⟨old,he⟩,_⟩:=st
    exact wpAny_pyIter_enum he h
section
variable {X:Cx} {pos p tp:Pos} {elts:List Expr} {tk:Nat}
def iEn (K:PySem.W.Frag) (ta:TE):TI:=fun σ H R=>ta σ H fun x H1=>∃ a xs,x=.ref a∧SqT K H1 a xs∧(xs.length≤sizeLine→R (Ite K a) H1)
theorem DQ {a:Expr} {ta:TE} (hg:Gl X "enumerate") (hm:X.mg "enumerate" = none) (ha:PE X a ta) (hs:starEach [a] X.env=[(false,eval a X.env)]:=by rfl):PI X (.Tuple elts tk tp) (.Call (.Name "enumerate" p) [a] [] pos) (iEn X.K ta):=by
  intro pins s σ H R I h
  have hpa:=cJ ha d6 hs
  refine Call_ (kT I hg hm PyProof.Rows.boot_enumerate (PyProof.Rows.callWith_type1 (thn (hpa pos pins s σ H (fun vs H1=>∃ a xs,vs=[.ref a]∧SqT X.K H1 a xs∧(xs.length≤sizeLine→R (Ite X.K a) H1)) I ?_) fun us s1 ⟨vs,H1,I1,r1,q1⟩ => ?_) hs rfl))
  · show ta σ H fun x H1=>_
    have key:∀ (x:V) (H1:Hp),(∃ a xs,x=.ref a∧SqT X.K H1 a xs∧(xs.length≤sizeLine→R (Ite X.K a) H1))=(∃ a xs,[x] = [.ref a]∧SqT X.K H1 a xs∧(xs.length≤sizeLine→R (Ite X.K a) H1)):=fun x H1=>by simp
    have h':ta σ H fun x H1=>∃ a xs,x=.ref a∧SqT X.K H1 a xs∧(xs.length≤sizeLine→R (Ite X.K a) H1):=h
    simp only [key] at h'
    exact h'
  · obtain⟨a,xs,e,hq,q⟩:=q1
    subst e
    obtain⟨u,rfl,ru⟩:=aS.one r1
    cases (show u=Value.ref a from ru)
    obtain⟨its,rv,pt,hz⟩:=I1.tuple hq
    refine iU (show s1.heap.IsTuple a its.toArray from pt) fun h' he hit hsz hk => ?_
    refine wpAny_pyIter_enum (s:={ s1 with heap:=h' }) he ?_
    have I2:Inv X pins σ H1 { s1 with heap:=h' }:=I1.kept (t':=s1.toks) hk
    refine⟨s1.heap.objs.size + 1,[s1.heap.objs.size + 1,s1.heap.objs.size],_,_,H1,rfl,I2,Ak (s1.heap.objs.size + 1) s1.heap.objs.size a,⟨⟨_,by simpa using he⟩,hit⟩,fun b hb => ?_,q hz⟩
    have hb':s1.heap.objs.size≤b:=by
      rcases List.mem_cons.mp hb with e|hb
      · rw [e];exact Nat.le_succ _
      · have:b=s1.heap.objs.size:=by simpa using hb
        rw [this];exact Nat.le_refl _
    exact I1.fpOk hb' (I1.hok.fresh hb')
theorem Al {K:PySem.W.Frag}{ρ:List Addr}{H:Hp}{hd:Hd}{q:Addr}{l:List D}{vs:List V}(r:RH K ρ H hd)(hq:H q=some (.tup vs))(rv:RDs K ρ H l vs)(hz:vs.length≤sizeLine) :
    pB K ρ H (Ite K q) ((List.range l.length).zip l |>.map fun p=>.tup [.int (p.1:Nat),p.2]) none where
  go:=fun ρ' H' hd' i d ex rh _ hi=>by
    have k:=r.kp ex
    obtain⟨hil,hi2⟩:=List.getElem?_eq_some_iff.mp hi
    have hl:i < l.length:=by simpa using hil
    have hd:d=.tup [.int (i:Nat),l[i]]:=by rw [← hi2];simp
    subst hd
    obtain⟨v,hv,rd⟩:=(rv.mono k).get (i:=i) (d:=l[i]) (by simp [hl])
    have sq:SqT K H' q vs:=SqT.of (k.tup q vs hq)
    refine⟨⟨vs,v,sq,hv⟩,fun x H2 y => ?_⟩
    obtain⟨q2,v2,rfl,hn,rfl,y⟩:=y
    have:=y vs sq
    rw [hv] at this
    cases this
    have sm:=cF (o:=HO.tup [.int (i:Nat),v]) hn
    refine⟨sm,?_⟩
    simp only [RD]
    exact⟨q2,_,rfl,bB,RDs.cons (by simp only [RD]) (RDs.cons (rd.mono (Kp.same sm)) RDs.nil)⟩
  stop:=fun ρ' H' hd' ex rh _=>⟨vs,SqT.of ((r.kp ex).tup q vs hq),by rw [← rv.length];simp⟩
  sz:=by
    have:=rv.length
    simp;omega
theorem DR {a:Expr} {f:EF} (hg:Gl X "enumerate") (hm:X.mg "enumerate" = none) (ha:ME X a f) (hs:starEach [a] X.env=[(false,eval a X.env)]:=by rfl):MI X (.Tuple elts tk tp) (.Call (.Name "enumerate" p) [a] [] pos) (BF f):=by
  refine PI.imp (DQ hg hm ha hs) fun σ H R ⟨ρ,σd,hd,rs,pp⟩=>⟨ρ,σd,hd,rs,?_⟩
  unfold BF at pp
  cases e:f σd hd with
  | exc x h1=>rw [e] at pp;exact pp
  | bad=>rw [e] at pp;exact pp
  | ok d hd1 =>
    rw [e] at pp
    simp only [aT] at pp
    intro v H1 ρ1 ex1 rs1 rv
    cases d<;>try exact pp.elim
    rename_i l
    simp only [rD,RD] at rv
    obtain⟨q,vs,rfl,hq,rvs⟩:=rv
    exact⟨q,vs,rfl,SqT.of hq,fun hz=>pp _ H1 ρ1 ex1 rs1 (Al rs1.hp hq rvs hz)⟩
end
end Fm
set_option Elab.async false
set_option linter.all false
set_option maxRecDepth 100000
namespace Fm
open PySem PySem.Spec L2 PySem.W PyProof.Rows
section
variable {prog:Program} {w:World} {A:Around} {E:Value→Shared→Prop} {s:Shared}
theorem xm {a:Addr} {vs:List Value} {n:Nat} {P:PySem.Fin→Shared→Prop} (ho:s.heap.get? a=some (seqObj "list" vs.toArray n)) (h2:vs.length < 2)
    (h:P (.done (.ret .none)) { s with heap:=sortedHeap s.heap a vs vs.toArray }):wpAny (model prog w) A (Builtin.«list.sort» ⟨[.ref a],[]⟩) P E s:=by
  rw [list_sort_plain]
  have ha:a < s.heap.objs.size:=Heap.lt_size ho
  refine wpAny_bind (listItems_at ho rfl ?_)
  refine wpAny_bind (listUpdate_at ho rfl ?_)
  obtain⟨e1,ho1⟩ : ∃ e1,(s.heap.update a (Obj.mapSeq fun _ => #[])).get? a=some (seqObj "list" #[] e1):=⟨_,get?_update_seq ho (fun _ => #[])⟩
  refine wpAny_bind (seqEpoch_at ho1 rfl ?_)
  refine wpAny_bind (wpAny_newTuple ?_)
  refine wpAny_bind (wpAny_newList ?_)
  refine wpAny_holding ?_
  have ho6:(((s.heap.update a (Obj.mapSeq fun _ => #[])).push (seqObj "tuple" vs.toArray 0)).push (seqObj "list" #[] 0)).get? a=some (seqObj "list" #[] e1):=by
    rw [Heap.get?_push_ne _ _ _ (by rw [size_push',Heap.size_update];exact Nat.ne_of_lt (Nat.lt_succ_of_lt ha)),Heap.get?_push_ne _ _ _ (by rw [Heap.size_update];exact Nat.ne_of_lt ha)]
    exact ho1
  show wpAny (model prog w) A _ P E { s with heap:=((s.heap.update a (Obj.mapSeq fun _ => #[])).push (seqObj "tuple" vs.toArray 0)).push (seqObj "list" #[] 0) }
  dsimp only
  have hsz:vs.toArray.size=vs.length:=by simp
  have h2':vs.toArray.size < 2:=by rw [hsz];exact h2
  rw [if_pos h2',if_pos h2']
  refine wpAny_bind (wpAny_pure ?_)
  rw [StateT.run_pure]
  refine wpAny_bind (wpAny_pure ?_)
  dsimp only
  refine wpAny_bind (seqEpoch_at ho6 rfl ?_)
  refine wpAny_bind (listUpdate_at ho6 rfl ?_ (hsz2:=by rw [Array.size_map];show (pairsOf vs).size≤_;rw [pairsOf_size,sizeLine_eq];omega))
  simp only [bne_self_eq_false,Bool.false_eq_true,if_false]
  have e:(arrOf (SortSt.mk' general' (vs.toArray.zip vs.toArray) #[] 7 none)).map (·.2)=vs.toArray:=by
    show (vs.toArray.zip vs.toArray).map (·.2)=vs.toArray
    apply Array.ext
    · simp
    · intro i h1 h2
      simp
  refine wpAny_pure ?_
  have h':=h
  unfold sortedHeap at h'
  rw [e]
  exact h'
theorem ku {l:Addr}{vs:List Value}{Q:Value→Shared→Prop}(hl:s.heap.IsList l vs.toArray)(h2:vs.length < 2)
    (h:∀ h' n,(∀ b o,s.heap.get? b=some o→h'.get? b=some o)→h'.get? (s.heap.objs.size + 1)=some (seqObj "list" vs.toArray n)→Q (.ref (s.heap.objs.size + 1)) { s with heap:=h' }) :
    wpAny (model prog w) A (call (.builtin "sorted") [.ref l]) Q E s:=by
  refine Calls.call_function_entry kind_sorted plain_sorted entry_sorted (args_sorted1 _) ?_
  unfold Builtin.«sorted»
  refine wpAny_bind (m:=checkCount "sorted" 1 1 _) (wpAny_pure ?_)
  refine wpAny_bind (collect_list hl ?_ (by rw [sizeLine_eq];omega))
  refine wpAny_bind (wpAny_newList ?_ (by rw [sizeLine_eq];omega))
  have hsz:((s.heap.push (seqObj "list" #[] 0)).update s.heap.objs.size (Obj.mapSeq (· ++ vs.toArray))).objs.size=s.heap.objs.size + 1:=by
    rw [Heap.size_update,size_push']
  have hoL:(((s.heap.push (seqObj "list" #[] 0)).update s.heap.objs.size (Obj.mapSeq (· ++ vs.toArray))).push (seqObj "list" vs.toArray 0)).get? (s.heap.objs.size + 1)=some (seqObj "list" vs.toArray 0):=by
    rw [← hsz];exact Heap.get?_push_size _ rfl
  have keep:∀ b o,s.heap.get? b=some o→(((s.heap.push (seqObj "list" #[] 0)).update s.heap.objs.size (Obj.mapSeq (· ++ vs.toArray))).push (seqObj "list" vs.toArray 0)).get? b=some o:=fun b o q=>by
    have hlt:b < s.heap.objs.size:=Heap.lt_size q
    rw [Heap.get?_push_ne _ _ _ (by rw [hsz];exact Nat.ne_of_lt (Nat.lt_succ_of_lt hlt)),Heap.get?_update_ne _ _ _ _ (Nat.ne_of_lt hlt),Heap.get?_push_ne _ _ _ (Nat.ne_of_lt hlt)]
    exact q
  show wpAny _ _ _ _ _ { s with heap:=((s.heap.push (seqObj "list" #[] 0)).update s.heap.objs.size (Obj.mapSeq (· ++ vs.toArray))).push (seqObj "list" vs.toArray 0) }
  rw [hsz]
  generalize hG:((s.heap.push (seqObj "list" #[] 0)).update s.heap.objs.size (Obj.mapSeq (· ++ vs.toArray))).push (seqObj "list" vs.toArray 0)=G at hoL keep
  have hGs:G.objs.size=s.heap.objs.size + 2:=by rw [← hG,size_push',hsz]
  refine wpAny_bind (wpAny_holding (wpAny_call_entry slot_list_sort (s:={ s with heap:=G }) ⟨_,hoL,rfl⟩ entry_list_sort (xm hoL h2 ⟨_,rfl,?_⟩) (args_list_sort _)))
  refine wpAny_pure ⟨_,rfl,?_⟩
  have hlt1:s.heap.objs.size + 1 < G.objs.size:=by omega
  obtain⟨e1,ho1⟩ : ∃ e1,(G.update (s.heap.objs.size + 1) (Obj.mapSeq fun _ => #[])).get? (s.heap.objs.size + 1)=some (seqObj "list" #[] e1):=⟨_,get?_update_seq hoL (fun _ => #[])⟩
  have ho6:(((G.update (s.heap.objs.size + 1) (Obj.mapSeq fun _ => #[])).push (seqObj "tuple" vs.toArray 0)).push (seqObj "list" #[] 0)).get? (s.heap.objs.size + 1)=some (seqObj "list" #[] e1):=by
    rw [Heap.get?_push_ne _ _ _ (by rw [size_push',Heap.size_update];exact Nat.ne_of_lt (Nat.lt_succ_of_lt hlt1)),Heap.get?_push_ne _ _ _ (by rw [Heap.size_update];exact Nat.ne_of_lt hlt1)]
    exact ho1
  refine h _ _ (fun b o q => ?_) (get?_update_seq ho6 _)
  have hlt:b < s.heap.objs.size:=Heap.lt_size q
  unfold sortedHeap
  have n1:b≠s.heap.objs.size + 1:=Nat.ne_of_lt (Nat.lt_succ_of_lt hlt)
  have n2:b < G.objs.size:=by rw [hGs];exact Nat.lt_succ_of_lt (Nat.lt_succ_of_lt hlt)
  rw [Heap.get?_update_ne _ _ _ _ n1,Heap.get?_push_ne _ _ _ (by rw [size_push',Heap.size_update];exact Nat.ne_of_lt (Nat.lt_succ_of_lt n2)),Heap.get?_push_ne _ _ _ (by rw [Heap.size_update];exact Nat.ne_of_lt n2),Heap.get?_update_ne _ _ _ _ n1]
  exact keep b o q
theorem BW {Q:Bool→Shared→Prop}:∀ (ns ms:List Int) {xs ys:List Value} (i:Nat),IntsAre xs ns→IntsAre ys ms→Q (Fm.bF ns ms) s→KatLex prog w A true (decide (xs.length < ys.length)) Q (xs.zip ys) i s:=by
  intro ns
  induction ns with
  | nil =>
    intro ms xs ys i hx hy h
    cases hx
    cases ms with
    | nil=>cases hy;exact h
    | cons m ms =>
      cases hy
      have h':Q true s:=h
      exact h'
  | cons n ns ih =>
    intro ms xs ys i hx hy h
    cases hx with
    | cons _ t r =>
      cases ms with
      | nil =>
        cases hy
        have h':Q false s:=h
        exact h'
      | cons m ms =>
        cases hy with
        | cons _ t' r' =>
          rename_i xs ys
          refine kat_cons (SeqAt.EqAt.int_int n t m t' prog w _ _ ?_)
          by_cases e:n=m
          · subst e
            rw [show (n == n)=true by simp]
            refine kat_yes ?_
            have h':Q (Fm.bF ns ms) s:=by simpa [Fm.bF] using h
            have:=ih ms (i + 1) r r' h'
            have e2:decide ((Value.int n t :: xs).length < (Value.int n t' :: ys).length)=decide (xs.length < ys.length):=by simp
            rw [e2]
            exact this
          · rw [show (n == m)=false by simpa using e]
            refine kat_no ?_
            have h':Q (decide (n < m)) s:=by simpa [Fm.bF,e] using h
            cases i with
            | zero=>exact oneLt_int h'
            | succ i =>
              have:(true && (i + 1 == 0))=false:=by simp
              rw [this]
              exact kat_one _ _ (lt_int (by first|exact⟨_,rfl,h'⟩|exact h'))
theorem BX {cmp:Nat→Nat→(Bool→Shared→Prop)→Shared→Prop}{n:Nat}{Q:Nat→Shared→Prop}(hc:∀ m,1≤m→m < n → ∀ C:Bool→Shared→Prop,C false s→cmp m (m - 1) C s)(q:Q n s) :
    ∀ (f m:Nat),1≤m→m + f=n→(kas_asc (List.toArray (List.range n)) f m).kasWp cmp Q s
  | 0,m,_,e=>by
    have:m=n:=by omega
    subst this
    exact q
  | f + 1,m,h1,e=>by
    have g1:(List.toArray (List.range n)).getD m 0=m:=by simp [Array.getD,show m < n by omega]
    have g2:(List.toArray (List.range n)).getD (m - 1) 0=m - 1:=by simp [Array.getD,show m - 1 < n by omega]
    show cmp _ _ _ _
    rw [g1,g2]
    refine hc m h1 (by omega) _ ?_
    show KasT.kasWp cmp (if false=true then _ else _) Q s
    rw [if_neg Bool.false_ne_true]
    exact BX hc q f (m + 1) (by omega) (by omega)
theorem uV {cmp:Nat→Nat→(Bool→Shared→Prop)→Shared→Prop}{n:Nat}{Q:Array Nat→Shared→Prop}(h2:2≤n)(hc:∀ m,1≤m→m < n → ∀ C:Bool→Shared→Prop,C false s→cmp m (m - 1) C s)(q:Q (List.toArray (List.range n)) s) :
    (kas_sort n).kasWp cmp Q s:=by
  unfold kas_sort
  rw [KasT.kasWp_bind]
  unfold kas_count
  rw [KasT.kasWp_bind]
  refine BX hc ?_ (n - 1) 1 (Nat.le_refl _) (by omega)
  rw [if_pos (by simp)]
  show KasT.kasWp cmp (if n < n then _ else _) Q s
  rw [if_neg (Nat.lt_irrefl _)]
  exact q
end
theorem BY {h:Heap}{a:Addr}{m m':Str→Option Value}(x:h.Ns a m)(y:h.Ns a m'):m=m':=by
  obtain⟨o,es,ep,ho,hd,_,r⟩:=x
  obtain⟨o',es',ep',ho',hd',_,r'⟩:=y
  rw [ho] at ho';cases ho'
  rw [hd] at hd';cases hd'
  funext z
  rw [← r z,← r' z]
theorem BZ {P:Program}{w:World}{H:Hp}{h:Heap}{a:Addr}{o:HO}(x:fM P w H h a o):∃ u,h.get? a=some u:=by
  cases o with
  | lst xs=>obtain⟨_,_,_,_,e⟩:=x;exact⟨_,e⟩
  | tup xs=>obtain⟨_,_,_,⟨_,e,_⟩,_⟩:=x;exact⟨_,e⟩
  | dK kvs=>obtain⟨_,_,_,_,_,_,_,e,_⟩:=x;exact⟨_,e⟩
  | dT kvs=>obtain⟨_,_,_,_,_,_,_,e,_⟩:=x;exact⟨_,e⟩
  | set S n=>obtain⟨_,_,_,_,e,_⟩:=x;exact⟨_,e⟩
  | ins C dx fs=>obtain⟨_,_,_,e,_⟩:=x;exact⟨_,e⟩
  | own y=>exact x
  | xd fs=>obtain⟨_,⟨_,_,_,e,_⟩,_⟩:=x;exact⟨_,e⟩
  | rng lo hi=>obtain⟨_,_,_,e⟩:=x;exact⟨_,e⟩
  | frz ob u=>exact⟨_,x.1⟩
  | tbl ps=>exact⟨_,x⟩
  | met f y=>exact⟨_,x⟩
  | ext φ => exact x.2.1
inductive c8 (H:Hp):List V→List (List Int)→Prop
  | nil:c8 H [] []
  | cons {a:Addr} {r:List Int} {vs:List V} {rs:List (List Int)}:H a=some (.tup (r.map V.int))→c8 H vs rs→c8 H (.ref a :: vs) (r :: rs)
theorem c8.get {H:Hp}:∀ {vs:List V} {rs:List (List Int)} {i:Nat} {v:V},c8 H vs rs→vs[i]? = some v → ∃ a,v=.ref a∧H a=some (.tup ((rs.getD i []).map V.int))
  | _,_,_,_,.nil,e=>by simp at e
  | _,_,0,_,.cons h t,e=>by simp at e;subst e;exact⟨_,rfl,h⟩
  | _,_,i + 1,v,.cons h t,e=>by
    obtain⟨a,h1,h2⟩:=c8.get (i:=i) (v:=v) t (by simpa using e)
    exact⟨a,h1,by simpa using h2⟩
theorem c8.length {H:Hp}:∀ {vs:List V} {rs:List (List Int)},c8 H vs rs→vs.length=rs.length
  | _,_,.nil=>rfl
  | _,_,.cons _ t=>by simp [c8.length t]
theorem uW:∀ {rs:List (List Int)} {m:Nat},rE rs=true→1≤m→m < rs.length→Fm.bF (rs.getD m []) (rs.getD (m - 1) [])=false
  | [],m,_,_,h=>by simp at h
  | [r],m,_,h1,h=>by simp at h;omega
  | a :: b :: r,m,h,h1,hl=>by
    simp only [rE,Bool.and_eq_true,Bool.not_eq_true'] at h
    cases m with
    | zero=>omega
    | succ m =>
      cases m with
      | zero=>simpa using h.1
      | succ m =>
        have:=uW (rs:=b :: r) (m:=m + 1) h.2 (by omega) (by simpa using hl)
        simpa using this
section
variable {X:Cx} {pos p:Pos}
def G2 (K:PySem.W.Frag):List V→Hp→VK→Prop:=fun xs H Q=>∃ (a:Addr) (vs:List V) (rs:List (List Int)),xs=[.ref a]∧SqL K H a vs∧vs.length < 64∧c8 H vs rs∧rE rs=true∧(rs.all fun x => !x.isEmpty)=true ∧ ∀ q,H q=none→Q (.ref q) (upd H q (.lst vs))
theorem DS {i:Int}{u:Value}(r:bQ (.int i) u):∃ t,u=.int i t:=r
theorem nM {P:Program}{w:World}{H:Hp}{h h':Heap}(hok:HOk P w H h)(hk:∀ b o u,H b=some u→h.get? b=some o→h'.get? b=some o):∀ {vs:List V} {rs:List (List Int)} {its:List Value},c8 H vs rs→aS vs its→(rs.all fun x => !x.isEmpty)=true →
    ∃ fs,KatTups h' its fs∧fs.length=its.length ∧ ∀ v∈fs,∃ i t,v=Value.int i t
  | _,_,_,.nil,.nil,_=>⟨[],.nil,rfl,fun v hv=>by simp at hv⟩
  | _,_,_,.cons (a:=a) (r:=r) ha t,.cons rv rt,hne=>by
    simp only [List.all_cons,Bool.and_eq_true,Bool.not_eq_true'] at hne
    obtain⟨fs,h1,h2,h3⟩:=nM hok hk t rt hne.2
    obtain⟨z,its0,r0,⟨o,ho,hc,n,hd⟩,_⟩:=hok a _ ha
    cases r with
    | nil=>simp at hne
    | cons i r =>
      cases r0 with
      | cons q0 qr =>
        rename_i u us
        obtain⟨tk,rfl⟩:=DS q0
        cases rv
        refine⟨.int i tk :: fs,KatTups.cons (hk a o _ ha ho) hc hd (by simp) h1,by simp [h2],fun v hv => ?_⟩
        rcases List.mem_cons.mp hv with rfl|hv
        · exact⟨i,tk,rfl⟩
        · exact h3 v hv
theorem xn:gF X (.builtin "sorted") (G2 X.K):=by
  intro pins s σ H xs us Q I r h
  obtain⟨a,vs,rs,rfl,sq,h64,rv,asc,hne,q⟩:=h
  obtain⟨u,rfl,ru⟩:=aS.one r
  cases (show u=Value.ref a from ru)
  obtain⟨its,rvs,pl,hz⟩:=I.list sq
  have hl:s.heap.IsList a its.toArray:=pl.isList
  have hlen:its.length=vs.length:=rvs.length.symm
  by_cases h2:its.length < 2
  · refine ku hl h2 fun h' n hk ho => ?_
    exact⟨.ref (s.heap.objs.size + 1),_,I.laid (t':=s.toks) (o:=.lst vs) hk (Nat.le_succ _) ⟨hz,its,n,rvs,ho⟩,rfl,q _ (I.hok.fresh (Nat.le_succ _))⟩
  · obtain⟨m,hm,_⟩:=id I.loc
    have N0:News (Att.noObjs s.heap) X.env.locals s.heap (Att.ledger s.heap X.env.locals X.env.locals):=fun ⟨b,o⟩ hb=>by
      obtain⟨n1,n2,e⟩:=Att.mem_ledger.mp hb
      exact⟨e,n1,Att.noObjs_get _ _⟩
    refine kat_sorted (Att.fr_all hm) N0 hl (by omega) (by omega) fun D e1 h' F' N' lo => ?_
    have inN:∀ b o,b≠X.env.locals→s.heap.get? b=some o→(b,o)∈Att.ledger s.heap X.env.locals X.env.locals:=fun b o hb e=>Att.mem_ledger.mpr ⟨hb,hb,e⟩
    have keep':∀ b o,b≠X.env.locals→s.heap.get? b=some o→h'.get? b=some o:=fun b o hb e=>(N' (b,o) (List.mem_cons_of_mem _ (inN b o hb e))).1
    have nL:∀ b u,H b=some u→b≠X.env.locals:=fun b u e z=>by rw [z,I.free] at e;cases e
    obtain⟨fs,t1,t2,t3⟩:=nM I.hok (h':=h') (fun b o u hb e=>keep' b o (nL b u hb) e) rv rvs hne
    refine kat_kind (s:={ s with heap:=h' }) (T:=.type "int") t1 (by omega) (fun v hv => ?_) rfl ?_
    · obtain⟨i,t,rfl⟩:=t3 v hv
      exact Looks.of_pure rfl
    · have hT:(Value.type "int" != Value.type "tuple")=true:=by decide
      rw [hT]
      refine uV (by omega) (fun k h1 hk C hC => ?_) ?_
      · have cmp:∀ (i j:Nat),i < its.length→j < its.length → ∀ C:Bool→Shared→Prop,C (Fm.bF (rs.getD i []) (rs.getD j [])) { s with heap:=h' } → kas_ask X.prog X.w X.A.in1.in1 (tuples' true) its i j C { s with heap:=h' }:=fun i j hi hj C hC=>by
          unfold kas_ask
          have at':∀ i,i < its.length → ∃ b,its.getD i Value.none=.ref b ∧ ∃ (o:Obj) (zs:List Value) (n:Nat),h'.get? b=some o∧o.data=.seq zs.toArray n∧IntsAre zs (rs.getD i []):=fun i hi=>by
            have hv:vs[i]? = some (vs[i]'(by omega)):=by simp [show i < vs.length by omega]
            obtain⟨b,e1,e2⟩:=rv.get hv
            obtain⟨u,hu,ru⟩:=rvs.get hv
            rw [e1] at ru
            cases (show u=Value.ref b from ru)
            obtain⟨z,zs,r0,⟨o,ho,hc,n,hd⟩,_⟩:=I.hok b _ e2
            exact⟨b,by simp [List.getD,hu],o,zs,n,keep' b o (nL b _ e2) ho,hd,nD r0⟩
          obtain⟨b1,x1,o1,z1,n1,y1,d1,i1⟩:=at' i hi
          obtain⟨b2,x2,o2,z2,n2,y2,d2,i2⟩:=at' j hj
          rw [x1,x2]
          refine kat_lt (s:={ s with heap:=h' }) y1 d1 y2 d2 ?_
          have:=BW (prog:=X.prog) (w:=X.w) (A:=X.A.in1.in1) (s:={ s with heap:=h' }) (Q:=C) (rs.getD i []) (rs.getD j []) 0 i1 i2 hC
          simpa using this
        refine cmp k (k - 1) hk (by omega) C ?_
        rw [uW asc h1 (by rw [← rv.length];omega)]
        exact hC
      · have eo:((List.toArray (List.range its.length)).toList.map fun i=>its.getD i Value.none)=its:=by
          apply List.ext_getElem
          · simp
          · intro i h1 h2
            simp [List.getD,h2]
        rw [eo]
        have hDn:∀ q∈Att.ledger s.heap X.env.locals X.env.locals,q.1≠D:=fun q hq=>Nat.ne_of_lt (lo q hq)
        refine KasFin.intro F' N' (UpdF.head hDn) fun h2 c F2 N2 => ?_
        have DL:D≠X.env.locals:=(N' (D,_) (List.mem_cons_self ..)).2.1
        have hD2:h2.get? D=some (PySem.W.listOf its.toArray c):=(N2 (D,_) (List.mem_cons_self ..)).1
        have keep2:∀ b o,b≠X.env.locals→s.heap.get? b=some o→h2.get? b=some o:=fun b o hb e=>(N2 (b,o) (List.mem_cons_of_mem _ (inN b o hb e))).1
        have bD:∀ b o,s.heap.get? b=some o→b≠D:=fun b o e=>by
          by_cases hb:b=X.env.locals
          · rw [hb];exact Ne.symm DL
          · exact hDn (b,o) (inN b o hb e)
        have HD:H D=none:=by
          cases e:H D with
          | none=>rfl
          | some u =>
            have lt:=I.hok.lt e
            have:∃ o,s.heap.get? D=some o:=by
              have ok:=I.hok D u e
              exact BZ ok
            obtain⟨o,ho⟩:=this
            exact absurd rfl (bD D o ho)
        refine⟨.ref D,upd H D (.lst vs),?_,rfl,q D HD⟩
        suffices I2:L2.Inv X pins σ (upd H D (.lst vs)) { s with heap:=h2,gens:=s.gens,drawn:=s.drawn,toks:=s.toks } from I2
        refine I.step (g':=s.gens) (d':=s.drawn) (t':=s.toks) (ch:=[]) (fun _ z=>nomatch z) (fun b o hb _ _ e _=>keep2 b o hb e) (fun b o hb _ _ e _=>⟨o.slots,keep2 b o hb e⟩) (fun b o _ e n=>by rw [aF (bD b o e)];exact n) (fun b o _ e => ?_)
          (fun b ys e=>by rw [aF (aG e HD)];exact e) (fun b o u e=>by rw [aF (aG e HD)];exact e) (fun b ps e=>⟨#[],by rw [aF (aG e HD),e];simp⟩) (fun m' hm'=>by rw [BY hm' hm];exact F2.ns) (fun b u e => ?_) I.bare
        · by_cases hb:b=X.env.locals
          · obtain⟨o',_,_,ho',_⟩:=F2.ns
            rw [hb];exact⟨o',ho'⟩
          · exact⟨o,keep2 b o hb e⟩
        · by_cases hb:b=D
          · subst hb
            rw [bB] at e
            cases e
            exact⟨hz,its,c,rvs,hD2⟩
          · rw [aF hb] at e
            refine (I.hok b u e).stay (fun c v hc z => ?_) (fun c z=>by rw [aF (aG z HD)];exact z) fun c ys z=>by rw [aF (aG z HD)];exact z
            rcases hc with w|w
            · subst w;exact keep2 c v (nL c _ e) z
            · exact keep2 c v (nL c _ w) z
theorem iV {K:PySem.W.Frag}{ρ:List Addr}{H:Hp}:∀ {l:List D} {vs:List V} {rs:List (List Int)},RDs K ρ H l vs→gH l=some rs→c8 H vs rs
  | [],_,_,r,e=>by simp only [gH] at e;cases e;simp only [RDs] at r;subst r;exact .nil
  | d :: l,_,rs,r,e=>by
    simp only [RDs] at r
    obtain⟨v,vs,rfl,h1,h2⟩:=r
    cases d<;>simp only [gH] at e<;>try (cases e;done)
    rename_i l1
    cases c1:fS l1 with
    | none=>rw [c1] at e;cases e
    | some is =>
      cases c2:gH l with
      | none=>rw [c1,c2] at e;cases e
      | some r2 =>
        rw [c1,c2] at e
        cases e
        simp only [RD] at h1
        obtain⟨p,ws,rfl,hp,rws⟩:=h1
        have:=nH rws c1
        subst this
        exact .cons hp (iV h2 c2)
theorem B0 {a:Expr} {fa:EF} (hg:Gl X "sorted") (hm:X.mg "sorted" = none) (ha:ME X a fa) (hs:starEach [a] X.env=(false,eval a X.env) :: starEach [] X.env:=by rfl):MF X (.Call (.Name "sorted" p) [a] [] pos) (kX fa):=by
  refine PE.imp (kj xn hg hm (by decide +kernel) (cJ ha d6 hs) (he:=hs)) fun σ H Q ⟨ρ,σd,hd,rs,pp⟩=>⟨ρ,σd,hd,rs,?_⟩
  unfold kX at pp
  cases e:fa σd hd with
  | exc x h'=>rw [e] at pp;exact pp
  | bad=>rw [e] at pp;exact pp
  | ok d hd1 =>
    rw [e] at pp
    simp only [aT] at pp
    intro v H1 ρ1 e1 rs1 rv
    cases c:b4 hd1 d with
    | none=>rw [c] at pp;exact pp.elim
    | some l =>
      rw [c] at pp
      simp only at pp
      cases c2:ni l with
      | none=>rw [c2] at pp;exact pp.elim
      | some l' =>
        rw [c2] at pp
        simp only [ni] at c2
        cases c3:gH l with
        | none=>rw [c3] at c2;cases c2
        | some r =>
          rw [c3] at c2
          simp only at c2
          split at c2
          · rename_i hc
            cases c2
            obtain⟨q,vs,rfl,sq,rvs⟩:=hU rs1.hp rv c
            exact⟨q,vs,r,rfl,sq,by rw [← rvs.length];exact hc.1,iV rvs c3,hc.2.1,hc.2.2,pp.mk e1 rs1 rvs⟩
          · cases c2
end
end Fm
set_option Elab.async false
set_option linter.all false
set_option maxRecDepth 100000
namespace Fm
open PySem PySem.Spec L2
section
variable {X:Cx}
theorem mv (i:Nat) {x:Str} {pos:Pos} (hN:X.N[i]? = some x:=by rfl) (hv:Vis X.env.scope x:=by first|exact Or.inl rfl|exact Or.inr (Or.inl rfl)|exact Or.inr (Or.inr rfl)) (hd:(x == ("__debug__" : Str))=false:=by decide)
    (hcd:(x == ("__classdict__" : Str))=false:=by decide):ME X (.Name x pos) (aa i):=FC hN hv hd hcd
end
theorem dw {k:Nat}{A:Around}(r:gZ k A):A.units + 24 < cLine:=by have:=r.un;omega
def aM (X:Cx):List (Str × NameKind)→Prop
  | []=>True
  | y :: r=>(y.2=.free→X.env.kindOf y.1=some .cell∨X.env.kindOf y.1=some .free)∧aM X r
def bu (X:Cx) (scope:Scope):List Str→List Nat→Prop
  | [],[]=>True
  | x :: xs,i :: is=>(X.N[i]? = some x∧scope.names.lookup x=some .free)∧bu X scope xs is
  | _,_=>False
theorem aM.get {X:Cx}:∀ {l:List (Str × NameKind)},aM X l → ∀ y∈l,y.2=.free→X.env.kindOf y.1=some .cell∨X.env.kindOf y.1=some .free
  | [],_,y,hy=>by simp at hy
  | z :: r,h,y,hy=>by
    rcases List.mem_cons.mp hy with rfl|hy
    · exact h.1
    · exact aM.get h.2 y hy
theorem bu.get {X:Cx}{scope:Scope}:∀ {capn:List Str} {caps:List Nat},bu X scope capn caps→(∀ (j:Nat) x,capn[j]? = some x → ∃ i,caps[j]? = some i∧X.N[i]? = some x∧scope.names.lookup x=some .free)∧capn.length=caps.length
  | [],[],_=>⟨fun j x e=>by simp at e,rfl⟩
  | x :: xs,i :: is,h=>by
    obtain⟨h1,h2⟩:=bu.get h.2
    refine⟨fun j y e => ?_,by simp [h2]⟩
    cases j with
    | zero=>simp at e;subst e;exact⟨i,rfl,h.1⟩
    | succ j=>exact h1 j y (by simpa using e)
  | [],_ :: _,h=>h.elim
  | _ :: _,[],h=>h.elim
theorem aM.nil {X:Cx}:aM X []:=trivial
theorem aM.cons {X:Cx}{y:Str × NameKind}{r:List (Str × NameKind)}(h:y.2=.free→X.env.kindOf y.1=some .cell∨X.env.kindOf y.1=some .free)(t:aM X r):aM X (y :: r):=⟨h,t⟩
theorem bu.nil {X:Cx}{scope:Scope}:bu X scope [] []:=trivial
theorem bu.cons {X:Cx}{scope:Scope}{x:Str}{xs:List Str}{i:Nat}{is:List Nat}(h1:X.N[i]? = some x)(h2:scope.names.lookup x=some .free)(t:bu X scope xs is):bu X scope (x :: xs) (i :: is):=⟨⟨h1,h2⟩,t⟩
theorem bC.mk' {X:Cx}{scope:Scope}{own capn:List Str}{caps:List Nat}(k:scope.kind=.function)(c:∀ y∈scope.names,y.2 ≠ .cell)(n:∀ y∈scope.names,y.2=.local→scope.names.lookup y.1=some .local)(f:aM X scope.names)(cp:bu X scope capn caps):bC X scope own capn caps :=
  ⟨k,c,n,f.get,cp.get.1,cp.get.2⟩
end Fm
set_option Elab.async false
set_option linter.all false
set_option maxRecDepth 100000
namespace Fm
open PySem PySem.Spec L2
section
variable {K:PySem.W.Frag} {ρ:List Addr} {H:Hp}
theorem kv {d:D}{v:V}(h:RD K ρ H d v)(f:bK d=true):fN v=true:=by
  cases d<;>simp only [RD] at h<;>first|(subst h;rfl)|(simp [bK] at f)
theorem eqS {x y:List Nat}:(x == y)=(toS x == toS y):=by
  by_cases z:x=y
  · subst z;rw [beq_self_eq_true,beq_self_eq_true]
  · have : ¬ toS x=toS y:=fun q=>z (by have:=congrArg (fun (s:Str)=>s.cps.toList) q;simpa [toS] using this)
    rw [beq_eq_false_iff_ne.mpr z,beq_eq_false_iff_ne.mpr this]
theorem zy {d k:D}{v w:V}(h:RD K ρ H d v)(g:RD K ρ H k w)(f:bK d=true)(f2:bK k=true):eqF d k=eqV v w:=by
  cases d with
  | non=>simp only [RD] at h;subst h;cases k<;>simp only [RD] at g<;>first|(subst g;rfl)|(simp [bK] at f2)
  | bl a=>simp only [RD] at h;subst h;cases k<;>simp only [RD] at g<;>first|(subst g;rfl)|(simp [bK] at f2)
  | int a=>simp only [RD] at h;subst h;cases k<;>simp only [RD] at g<;>first|(subst g;rfl)|(simp [bK] at f2)
  | str a=>simp only [RD] at h;subst h;cases k<;>simp only [RD] at g<;>first|(subst g;rfl)|(subst g;exact eqS)|(simp [bK] at f2)
  | tup l=>simp [bK] at f
  | ref n=>simp [bK] at f
  | lit l=>simp [bK] at f
  | exn c l=>simp [bK] at f
theorem jv:∀ {l:List D} {vs:List V},RDs K ρ H l vs→l.all bK=true→vs.all fN=true
  | [],_,h,_=>by simp only [RDs] at h;subst h;rfl
  | d :: l,_,h,f=>by
    simp only [RDs] at h
    obtain⟨v,r,rfl,h1,h2⟩:=h
    simp only [List.all_cons,Bool.and_eq_true] at f ⊢
    exact⟨kv h1 f.1,jv h2 f.2⟩
theorem zA {k:D}{w:V}(g:RD K ρ H k w)(fk:bK k=true):∀ {l:List D} {vs:List V},RDs K ρ H l vs→l.all bK=true→(l.any fun z=>eqF z k)=vs.any fun z=>eqV z w
  | [],_,h,_=>by simp only [RDs] at h;subst h;rfl
  | d :: l,_,h,f=>by
    simp only [RDs] at h
    obtain⟨v,r,rfl,h1,h2⟩:=h
    simp only [List.all_cons,Bool.and_eq_true] at f
    rw [List.any_cons,List.any_cons,zy h1 g f.1 fk,zA g fk h2 f.2]
theorem lg {k:D}{w:V}(g:RD K ρ H k w)(fk:bK k=true):∀ {l:List D} {vs:List V},RDs K ρ H l vs→l.all bK=true→(l.countP fun z=>eqF z k)=vs.countP fun z=>eqV z w
  | [],_,h,_=>by simp only [RDs] at h;subst h;rfl
  | d :: l,_,h,f=>by
    simp only [RDs] at h
    obtain⟨v,r,rfl,h1,h2⟩:=h
    simp only [List.all_cons,Bool.and_eq_true] at f
    rw [List.countP_cons,List.countP_cons,zy h1 g f.1 fk,lg g fk h2 f.2]
end
section
variable {X:Cx} {pos:Pos}
theorem zB {K:PySem.W.Frag}{neg:Bool}{ρ:List Addr}{H:Hp}{σd:Sd}{hd:Hd}{σ:St}{d k:D}{v w:V}{Q:VK}{b:Bool}(rs:RS K ρ H σd hd σ)(rv:RD K ρ H d v)(rw':RD K ρ H k w)(e:inL hd d k=some b)
    (q:Q (.bl (if neg then !b else b)) H):rIn K neg v w H Q:=by
  simp only [inL] at e
  cases c:fR hd k with
  | none=>rw [c] at e;cases e
  | some l =>
    rw [c] at e
    simp only at e
    split at e
    · rename_i hf
      cases e
      rw [Bool.and_eq_true] at hf
      obtain⟨p,vs,rfl,sq,rvs⟩:=rM rs.hp rw' c
      refine⟨p,vs,rfl,sq.imp id SqT.of,kv rv hf.1,jv rvs hf.2,?_⟩
      unfold inV
      rw [← zA rv hf.1 rvs hf.2]
      exact q
    · cases e
theorem zC {K:PySem.W.Frag}:Og K oIn (rIn K false):=by
  intro ρ H σd hd σ d k v w Q rs rv rw' p
  unfold oIn at p
  cases e:inL hd d k with
  | none=>rw [e] at p;exact p.elim
  | some b=>rw [e] at p;exact zB rs rv rw' e (p.here rs (by simp only [rD,RD];rfl))
theorem B2 {K:PySem.W.Frag}:Og K iO (rIn K true):=by
  intro ρ H σd hd σ d k v w Q rs rv rw' p
  unfold iO at p
  cases e:inL hd d k with
  | none=>rw [e] at p;exact p.elim
  | some b=>rw [e] at p;exact zB rs rv rw' e (p.here rs (by simp only [rD,RD];rfl))
theorem bU {i:Int}{j:Nat}{p2:Pos}:ME X (.UnaryOp .USub (.Constant (.int i) j p2) pos) (fC (.int (-i))) :=
  PE.imp (GD Fh Bm) fun σ H Q ⟨ρ,σd,hd,rs,p⟩=>⟨i,rfl,p.here rs (by simp only [rD,RD])⟩
def FQ (K:PySem.W.Frag):V→List V→Hp→VK→Prop:=fun x vs H Q=>∃ l xs y,x=.ref l∧vs=[y]∧SqL K H l xs∧fN y=true∧xs.all fN=true∧Q (.int (xs.countP fun z=>eqV z y)) H
theorem xo {x:V}:∀ {xs:List V} {us:List Value},aS xs us→xs.all fN=true→us.countP (eqU x)=xs.countP fun y=>eqV y x
  | _,_,.nil,_=>rfl
  | y :: xs,u :: us,.cons r t,f=>by
    rw [List.all_cons,Bool.and_eq_true] at f
    rw [List.countP_cons,List.countP_cons,xg r f.1,xo t f.2]
theorem B3:MtM X "list.count" (FQ X.K):=by
  intro pins s σ H x vs v us Q I rx rv h
  obtain⟨l,xs,y,rfl,rfl,sq,fy,fs,q⟩:=h
  cases rx
  obtain⟨u,rfl,ru⟩:=rv.one
  obtain⟨its,r,pl,hz⟩:=I.list sq
  obtain⟨o,ho,hc,n,hd⟩:=pl.isList
  obtain⟨c,dd,dt,sl⟩:=o
  replace hc:c=.type "list" := hc
  replace hd:dt=.seq its.toArray n:=hd
  subst hc hd
  refine call_meets F.slot_list_count ⟨_,ho,rfl⟩ F.entry_list_count (F.args_list_count_2 _ _) (SeqAt.list_countAt l its.toArray n dd sl u (eqU y)) ⟨ho,fun w hw=>fO ru fy r fs w (by simpa using hw),?_⟩
  refine⟨.int _,H,I.tok _,⟨_,rfl⟩,?_⟩
  rw [show (its.toArray.toList.countP (eqU y))=xs.countP fun z=>eqV z y from xo r fs]
  exact q
theorem uX {o e:Expr} {fo fe:EF} {apos cpos:Pos} (ho:ME X o fo) (he:ME X e fe) (hbase:attributeBase o "count" X.env (eval o X.env)=eval o X.env:=by rfl)
    (hfew:((backTo cpos (starEach [e] X.env)).all (fun x => !x.1) && (backToKw cpos (keywordEach [] X.env)).all (fun x=>x.1.isSome)
      && decide (([e] : List Expr).length + ([] : List Keyword).length + (if ([] : List Keyword).isEmpty then 0 else 1) < 30))=true:=by rfl)
    (hline:(apos.endLine == cpos.line)=true:=by rfl) (hs:starEach [e] X.env=(false,eval e X.env) :: starEach [] X.env:=by rfl) :
    ME X (.Call (.Attribute o "count" apos) [e] [] cpos) (eB fo fe):=by
  refine PE.imp (BD PySem.F.plainAttrs_list PySem.F.slot_list_count PySem.F.type_list_count B3 ho (cJ he d6 hs) hbase hfew hline hs) fun σ H Q ⟨ρ,σd,hd,rs,pp⟩=>⟨ρ,σd,hd,rs,?_⟩
  unfold eB at pp
  refine (bj.bind (R:=rD X.K) pp).imp fun v H1 ⟨ρ1,d,hd1,e1,rs1,rv,p1⟩ => ?_
  cases c1:b4 hd1 d with
  | none=>simp only [c1] at p1;exact p1.elim
  | some l1 =>
    simp only [c1] at p1
    obtain⟨q,vs,hv,sq,rvs⟩:=hU rs1.hp rv c1
    subst hv
    refine⟨.inl ⟨rfl,vs,sq⟩,ρ1,σd,hd1,rs1,(bj.bind (R:=rD X.K) p1).imp fun w H2 ⟨ρ2,k,hd2,e2,rs2,rw',p2⟩ => ?_⟩
    cases c2:b4 hd2 d with
    | none=>simp only [c2] at p2;exact p2.elim
    | some l =>
      simp only [c2] at p2
      split at p2
      · rename_i hf
        rw [Bool.and_eq_true] at hf
        obtain⟨q',vs',hv',sq',rvs'⟩:=hU rs2.hp (rv.mono (rs1.hp.kp e2)) c2
        refine⟨q',vs',w,hv',rfl,sq',kv rw' hf.1,jv rvs' hf.2,?_⟩
        rw [← lg rw' hf.1 rvs' hf.2]
        exact p2.here rs2 (by simp only [rD,RD])
      · exact p2.elim
end
end Fm
set_option Elab.async false
set_option linter.all false
set_option maxRecDepth 100000
namespace Fm
open PySem PySem.Spec L2 PySem.W PyProof.Rows
theorem FR {l r:Nat}(h:l < r):l≤(l + r) / 2∧(l + r) / 2 < r:=by omega
section
variable {cmp:Nat→Nat→(Bool→Shared→Prop)→Shared→Prop} {n:Nat} {s:Shared} {lt:Nat→Nat→Bool}
structure Ord (lt:Nat→Nat→Bool) (n:Nat):Prop where
  asy:∀ i j,i < n→j < n→lt i j=true→lt j i=false
  tr:∀ i j k,i < n→j < n→k < n→lt i j=true→lt j k=true→lt i k=true
  tot:∀ i j,i < n→j < n→i≠j→lt i j=false→lt j i=true
structure Gd (n:Nat) (p:Array Nat):Prop where
  sz:p.size=n
  pm:p.Perm (List.toArray (List.range n))
theorem Gd.below (g:Gd n p){i:Nat}(hi:i < n):p.getD i 0 < n:=by
  have h1:i < p.size:=by rw [g.sz];exact hi
  have e:p.getD i 0=p[i]:=by simp [Array.getD,h1]
  rw [e]
  have m:p[i]∈p.toList:=by simp
  have:=(Array.perm_iff_toList_perm.mp g.pm).mem_iff.mp m
  simpa using this
theorem Gd.ne (g:Gd n p){i j:Nat}(hi:i < n)(hj:j < n)(h:i≠j):p.getD i 0≠p.getD j 0:=by
  have h1:i < p.size:=by rw [g.sz];exact hi
  have h2:j < p.size:=by rw [g.sz];exact hj
  have e:p.getD i 0=p[i]:=by simp [Array.getD,h1]
  have e':p.getD j 0=p[j]:=by simp [Array.getD,h2]
  rw [e,e']
  have nd:p.toList.Nodup:=(Array.perm_iff_toList_perm.mp g.pm).nodup_iff.mpr (by simpa using List.nodup_range)
  intro z
  have:=(List.getElem_inj (xs:=p.toList) nd (i:=i) (j:=j) (h₀ := by simpa using h1) (h₁ := by simpa using h2)).mp (by simpa using z)
  exact h this
def Srt (lt:Nat→Nat→Bool) (p:Array Nat) (m:Nat):Prop:=∀ i j,i < j→j < m→lt (p.getD i 0) (p.getD j 0)=true
def Dsc (lt:Nat→Nat→Bool) (p:Array Nat) (m:Nat):Prop:=∀ i j,i < j→j < m→lt (p.getD j 0) (p.getD i 0)=true
theorem fY:Gd n (List.toArray (List.range n)):=⟨by simp,Array.Perm.refl _⟩
theorem Srt.next {p:Array Nat}{m:Nat}(O:Ord lt n)(g:Gd n p)(h:Srt lt p m)(h1:1≤m)(hm:m < n)(c:lt (p.getD (m - 1) 0) (p.getD m 0)=true):Srt lt p (m + 1):=by
  intro i j hij hj
  by_cases e:j < m
  · exact h i j hij e
  · have:j=m:=by omega
    subst this
    by_cases e2:i=j - 1
    · subst e2;exact c
    · exact O.tr _ _ _ (g.below (by omega)) (g.below (by omega)) (g.below hm) (h i (j - 1) (by omega) (by omega)) c
theorem Dsc.next {p:Array Nat}{m:Nat}(O:Ord lt n)(g:Gd n p)(h:Dsc lt p m)(h1:1≤m)(hm:m < n)(c:lt (p.getD m 0) (p.getD (m - 1) 0)=true):Dsc lt p (m + 1):=by
  intro i j hij hj
  by_cases e:j < m
  · exact h i j hij e
  · have:j=m:=by omega
    subst this
    by_cases e2:i=j - 1
    · subst e2;exact c
    · exact O.tr _ _ _ (g.below hm) (g.below (by omega)) (g.below (by omega)) c (h i (j - 1) (by omega) (by omega))
variable (O:Ord lt n) (hc:∀ i j,i < n→j < n → ∀ C:Bool→Shared→Prop,C (lt i j) s→cmp i j C s)
include O hc
theorem jW {p:Array Nat}(g:Gd n p){Q:Nat→Shared→Prop}(q:∀ m,1≤m→m≤n→Srt lt p m→(m < n→lt (p.getD m 0) (p.getD (m - 1) 0)=true)→Q m s) :
    ∀ (f m:Nat),1≤m→m + f=n→Srt lt p m→(kas_asc p f m).kasWp cmp Q s
  | 0,m,h1,e,h=>q m h1 (by omega) h fun z=>by omega
  | f + 1,m,h1,e,h=>by
    refine hc _ _ (g.below (by omega)) (g.below (by omega)) _ ?_
    cases c:lt (p.getD m 0) (p.getD (m - 1) 0) with
    | true=>((try dsimp only);(try rw [if_pos rfl]));exact q m h1 (by omega) h fun _=>c
    | false =>
      ((try dsimp only);(try rw [if_neg Bool.false_ne_true]))
      have c':=O.tot _ _ (g.below (by omega)) (g.below (by omega)) (g.ne (i:=m) (j:=m - 1) (by omega) (by omega) (by omega)) c
      exact jW g q f (m + 1) (by omega) (by omega) (h.next O g h1 (by omega) c')
theorem mE {p:Array Nat}(g:Gd n p){Q:Array Nat × Nat × Nat→Shared→Prop}(q:∀ m,1≤m→m≤n→Dsc lt p m→Q (p,m,0) s) :
    ∀ (f m:Nat),1≤m→m + f=n→Dsc lt p m→(kas_desc f p m 0).kasWp cmp Q s
  | 0,m,h1,e,h=>q m h1 (by omega) h
  | f + 1,m,h1,e,h=>by
    refine hc _ _ (g.below (by omega)) (g.below (by omega)) _ ?_
    cases c:lt (p.getD m 0) (p.getD (m - 1) 0) with
    | true =>
      ((try dsimp only);(try rw [if_pos rfl]));(try rw [if_neg (by omega)])
      exact mE g q f (m + 1) (by omega) (by omega) (h.next O g h1 (by omega) c)
    | false =>
      ((try dsimp only);(try rw [if_neg Bool.false_ne_true]))
      have c':=O.tot _ _ (g.below (by omega)) (g.below (by omega)) (g.ne (i:=m) (j:=m - 1) (by omega) (by omega) (by omega)) c
      refine hc _ _ (g.below (by omega)) (g.below (by omega)) _ ?_
      rw [c'];((try dsimp only);(try rw [if_pos rfl]))
      exact q m h1 (by omega) h
omit hc in
theorem FS {p:Array Nat}(g:Gd n p){m:Nat}(hm:m≤n)(h:Dsc lt p m):Gd n (kas_rev p 0 m)∧Srt lt (kas_rev p 0 m) m:=by
  have at':∀ k,k < m→(kas_rev p 0 m).getD k 0=p.getD (m - 1 - k) 0:=fun k hk=>by
    have e:=getElem?_mirror_all (xs:=p) (i:=0) (j:=m) (by rw [g.sz];exact hm) k
    rw [if_pos ⟨Nat.zero_le _,hk⟩] at e
    unfold kas_rev
    rw [Array.getD_eq_getD_getElem?,Array.getD_eq_getD_getElem?,e,Nat.zero_add]
  refine⟨⟨by unfold kas_rev;rw [mirror_size,g.sz],(mirror_perm _ _ _ _).trans g.pm⟩,fun i j hij hj => ?_⟩
  rw [at' i (by omega),at' j hj]
  exact h _ _ (by omega) (by omega)
theorem rW (h2:2≤n){Q:Nat × Array Nat→Shared→Prop}(q:∀ m p,Gd n p→1≤m→m≤n→Srt lt p m→Q (m,p) s):(kas_count n (List.toArray (List.range n))).kasWp cmp Q s:=by
  unfold kas_count
  rw [KasT.kasWp_bind]
  refine jW O hc fY (fun m h1 hm hs hd => ?_) (n - 1) 1 (Nat.le_refl _) (by omega) (fun i j hij hj=>by omega)
  by_cases e:m=n
  · subst e
    rw [if_pos (by simp)]
    exact q m _ fY h1 (Nat.le_refl _) hs
  · rw [if_neg (by simpa using e)]
    by_cases e1:m > 1
    · rw [if_pos e1]
      refine hc _ _ (fY.below (by omega)) (fY.below (by omega)) _ ?_
      have:=hs 0 (m - 1) (by omega) (by omega)
      rw [this];((try dsimp only);(try rw [if_pos rfl]))
      exact q m _ fY h1 hm hs
    · rw [if_neg e1]
      have:m=1:=by omega
      subst this
      have c:=hd (by omega)
      unfold kas_descPart
      rw [KasT.kasWp_bind]
      refine mE O hc fY (fun m h1 hm hs => ?_) (n - 2) 2 (by omega) (by omega) (fun i j hij hj => ?_)
      · rw [if_neg (by simp)]
        unfold kas_tail3
        rw [KasT.kasWp_bind]
        obtain⟨g',s'⟩:=FS O fY hm hs
        exact jW O hc g' (fun m' h1' hm' hs' _=>q m' _ g' h1' hm' hs') (n - m) m h1 (by omega) s'
      · have hi:i=0:=by omega
        have hj:j=1:=by omega
        subst hi hj
        exact c
theorem hW {p:Array Nat}(g:Gd n p){k:Nat}(hk:k < n)(hs:Srt lt p k){Q:Nat→Shared→Prop}(q:∀ l,l≤k→(∀ i,i < l→lt (p.getD i 0) (p.getD k 0)=true)→(∀ i,l≤i→i < k→lt (p.getD k 0) (p.getD i 0)=true)→Q l s) :
    ∀ (f l r:Nat),r - l≤f→l≤r→r≤k→(∀ i,i < l→lt (p.getD i 0) (p.getD k 0)=true)→(∀ i,r≤i→i < k→lt (p.getD k 0) (p.getD i 0)=true)→(kas_place p k f l r).kasWp cmp Q s
  | 0,l,r,hf,hl,hr,a,b=>q l (Nat.le_trans hl hr) a fun i h1 h2=>b i (Nat.le_trans (Nat.le_of_sub_eq_zero (Nat.le_zero.mp hf)) h1) h2
  | f + 1,l,r,hf,hl,hr,a,b=>by
    unfold kas_place
    by_cases e:l ≥ r
    · rw [if_pos e]
      exact q l (Nat.le_trans hl hr) a fun i h1 h2=>b i (Nat.le_trans e h1) h2
    · rw [if_neg e]
      have lr:l < r:=Nat.not_le.mp e
      have hh:=FR lr
      generalize (l + r) / 2=M at hh
      have hm:M < k:=Nat.lt_of_lt_of_le hh.2 hr
      have hMn:M < n:=Nat.lt_trans hm hk
      refine hc _ _ (g.below hk) (g.below hMn) _ ?_
      cases c:lt (p.getD k 0) (p.getD M 0) with
      | true =>
        ((try dsimp only);(try rw [if_pos rfl]))
        refine hW g hk hs q f l M (Nat.le_of_lt_succ (Nat.lt_of_lt_of_le (Nat.sub_lt_sub_right hh.1 hh.2) hf)) hh.1 (Nat.le_of_lt hm) a fun i h1 h2 => ?_
        by_cases z:i=M
        · subst z;exact c
        · exact O.tr _ _ _ (g.below hk) (g.below hMn) (g.below (Nat.lt_trans h2 hk)) c (hs _ i (Nat.lt_of_le_of_ne h1 (Ne.symm z)) h2)
      | false =>
        ((try dsimp only);(try rw [if_neg Bool.false_ne_true]))
        have c':=O.tot _ _ (g.below hk) (g.below hMn) (g.ne (i:=k) (j:=M) hk hMn (Nat.ne_of_gt hm)) c
        refine hW g hk hs q f (M + 1) r (Nat.le_of_lt_succ (Nat.lt_of_lt_of_le (Nat.sub_lt_sub_left lr (Nat.lt_succ_of_le hh.1)) hf)) hh.2 hr (fun i h1 => ?_) b
        by_cases z:i=M
        · subst z;exact c'
        · have hi:i < M:=Nat.lt_of_le_of_ne (Nat.le_of_lt_succ h1) z
          exact O.tr _ _ _ (g.below (Nat.lt_trans hi hMn)) (g.below hMn) (g.below hk) (hs i _ hi hm) c'
theorem nN {Q:Array Nat→Shared→Prop}(q:∀ p,Gd n p→Srt lt p n→Q p s):∀ (f:Nat) (p:Array Nat) (k:Nat),Gd n p→k + f=n→Srt lt p k→(kas_bin f p k).kasWp cmp Q s
  | 0,p,k,g,e,h=>by
    have:k=n:=e
    subst this
    exact q p g h
  | f + 1,p,k,g,e,h=>by
    unfold kas_bin
    rw [KasT.kasWp_bind]
    have hk:k < n:=e ▸ Nat.lt_add_of_pos_right (Nat.succ_pos f)
    refine hW O hc g hk h (fun l hl a b => ?_) k 0 k (Nat.le_refl _) (Nat.zero_le _) (Nat.le_refl _) (fun i z=>absurd z (Nat.not_lt_zero _)) (fun i z z'=>absurd z' (Nat.not_lt.mpr z))
    have hks:k < p.size:=by rw [g.sz];exact hk
    have at':∀ i,(bubble p k (k - l)).getD i 0=if i=l then p.getD k 0 else if l < i∧i≤k then p.getD (i - 1) 0 else p.getD i 0:=fun i=>by
      have:=getElem?_bubble hks (k - l) (Nat.sub_le _ _) i
      rw [Nat.sub_sub_self hl] at this
      simp only [Array.getD_eq_getD_getElem?]
      rw [this]
      by_cases c1:i=l
      · rw [if_pos c1,if_pos c1]
      · rw [if_neg c1,if_neg c1]
        by_cases c2:l < i∧i≤k
        · rw [if_pos c2,if_pos c2]
        · rw [if_neg c2,if_neg c2]
    refine nN q f _ (k + 1) ⟨by rw [bubble_size,g.sz],(bubble_perm _ _ _).trans g.pm⟩ (by rw [Nat.add_right_comm];exact e) fun i j hij hj => ?_
    have jk:j≤k:=Nat.le_of_lt_succ hj
    have j1:j - 1 < k:=Nat.sub_one_lt_of_le (Nat.zero_lt_of_lt hij) jk
    rw [at' i,at' j]
    by_cases c1:i=l
    · have lj:l < j:=c1 ▸ hij
      rw [if_pos c1,if_neg (Nat.ne_of_gt lj),if_pos ⟨lj,jk⟩]
      exact b _ (Nat.le_sub_one_of_lt lj) j1
    · rw [if_neg c1]
      by_cases c2:l < i∧i≤k
      · have lj:l < j:=Nat.lt_trans c2.1 hij
        rw [if_pos c2,if_neg (Nat.ne_of_gt lj),if_pos ⟨lj,jk⟩]
        exact h _ _ (Nat.sub_lt_sub_right (Nat.zero_lt_of_lt c2.1) hij) j1
      · rw [if_neg c2]
        have il:i < l:=Nat.lt_of_le_of_ne (Nat.not_lt.mp fun z=>c2 ⟨z,Nat.le_trans (Nat.le_of_lt hij) jk⟩) c1
        by_cases c3:j=l
        · rw [if_pos c3];exact a _ il
        · rw [if_neg c3]
          by_cases c4:l < j∧j≤k
          · rw [if_pos c4]
            exact h _ _ (Nat.lt_of_lt_of_le il (Nat.le_sub_one_of_lt c4.1)) j1
          · rw [if_neg c4]
            have jl:j < l:=Nat.lt_of_le_of_ne (Nat.not_lt.mp fun z=>c4 ⟨z,jk⟩) c3
            exact h _ _ hij (Nat.lt_of_lt_of_le jl hl)
theorem uY (h2:2≤n){Q:Array Nat→Shared→Prop}(q:∀ p,Gd n p→Srt lt p n→Q p s):(kas_sort n).kasWp cmp Q s:=by
  unfold kas_sort
  rw [KasT.kasWp_bind]
  refine rW O hc h2 fun m p g h1 hm hs => ?_
  by_cases e:m < n
  · rw [if_pos e]
    have:max m 1=m:=by omega
    show KasT.kasWp cmp (kas_bin (n - max m 1) p (max m 1)) Q s
    rw [this]
    exact nN O hc q (n - m) p m g (by omega) hs
  · rw [if_neg e]
    have:m=n:=by omega
    subst this
    exact q p g hs
end
end Fm
set_option linter.all false
namespace Fm
def rX (x:List Int):List (List Int)→List (List Int)
  | []=>[x]
  | y :: r=>if bF x y=true then x :: y :: r else y :: rX x r
def dy:List (List Int)→List (List Int)
  | []=>[]
  | x :: r=>rX x (dy r)
def gw (r:List Int):D:=.tup (r.map .int)
@[simp] def dF (l:List D):Option (List D):=match gH l with
  | some r=>if l.length < 64∧r.all (fun x => !x.isEmpty)=true∧r.Nodup then some ((dy r).map gw) else none
  | none=>none
@[simp] def dr (a:EF):LF:=fun σ h=>(a σ h).bind fun x h=>match b4 h x with
  | some l=>match dF l with|some l=>.ok l h|none=>.bad
  | none=>.bad
@[simp] def zD:O2:=fun x y h=>match x,y with
  | .tup (d :: l),.int n=>if 2≤n∧(d :: l).length * n.toNat≤1000 then .ok (.tup (List.replicate n.toNat (d :: l)).flatten) h else .bad
  | _,_=>.bad
theorem kw:∀ a,bF a a=false
  | []=>rfl
  | x :: a=>by simp [bF,kw a]
theorem gl:∀ {a b c},bF a b=true→bF b c=true→bF a c=true
  | [],[],_,h,_=>by simp [bF] at h
  | [],_ :: _,[],_,h=>by simp [bF] at h
  | [],_ :: _,_ :: _,_,_=>rfl
  | _ :: _,[],_,h,_=>by simp [bF] at h
  | _ :: _,_ :: _,[],_,h=>by simp [bF] at h
  | x :: a,y :: b,z :: c,h,h'=>by
    simp only [bF] at h h' ⊢
    by_cases e:x=y
    · subst e
      rw [if_pos rfl] at h
      by_cases e2:x=z
      · subst e2
        rw [if_pos rfl] at h' ⊢
        exact gl h h'
      · rw [if_neg e2] at h' ⊢;exact h'
    · rw [if_neg e] at h
      by_cases e2:y=z
      · subst e2
        rw [if_neg e];exact h
      · rw [if_neg e2] at h'
        simp at h h'
        rw [if_neg (by omega)]
        simp;omega
theorem jw:∀ {a b},a≠b→bF a b=false→bF b a=true
  | [],[],h,_=>absurd rfl h
  | [],_ :: _,_,h=>by simp [bF] at h
  | _ :: _,[],_,_=>rfl
  | x :: a,y :: b,h,h'=>by
    simp only [bF] at h' ⊢
    by_cases e:x=y
    · subst e
      rw [if_pos rfl] at h' ⊢
      exact jw (fun z=>h (by rw [z])) h'
    · rw [if_neg e] at h'
      rw [if_neg (Ne.symm e)]
      simp at h' ⊢;omega
theorem iW {a b:List Int}(h:bF a b=true):bF b a=false:=by
  cases c:bF b a with
  | false=>rfl
  | true=>have:=gl h c;rw [kw] at this;cases this
theorem lh (x:List Int):∀ r,(rX x r).Perm (x :: r)
  | []=>.refl _
  | y :: r=>by
    simp only [rX]
    split
    · exact .refl _
    · exact ((lh x r).cons y).trans (.swap x y r)
theorem gx:∀ r,(dy r).Perm r
  | []=>.refl _
  | x :: r=>(lh x _).trans ((gx r).cons x)
theorem nO {x:List Int}:∀ {r:List (List Int)},x∉r→r.Pairwise (fun a b=>bF a b=true)→(rX x r).Pairwise (fun a b=>bF a b=true)
  | [],_,_=>by simp [rX]
  | y :: r,hx,h=>by
    simp only [rX]
    have hy : ¬ x=y:=fun z=>hx (by simp [z])
    have hr:x∉r:=fun z=>hx (by simp [z])
    obtain⟨h1,h2⟩:=List.pairwise_cons.mp h
    split
    · rename_i c
      refine List.pairwise_cons.mpr ⟨fun b hb => ?_,h⟩
      rcases List.mem_cons.mp hb with rfl|hb
      · exact c
      · exact gl c (h1 b hb)
    · rename_i c
      have c':=jw hy (by simpa using c)
      refine List.pairwise_cons.mpr ⟨fun b hb => ?_,nO hr h2⟩
      rcases List.mem_cons.mp ((lh x r).mem_iff.mp hb) with rfl|hb
      · exact c'
      · exact h1 b hb
theorem iX:∀ {r:List (List Int)},r.Nodup→(dy r).Pairwise (fun a b=>bF a b=true)
  | [],_=>.nil
  | x :: r,h=>by
    obtain⟨h1,h2⟩:=List.nodup_cons.mp h
    exact nO (fun z=>h1 ((gx r).mem_iff.mp z)) (iX h2)
theorem Am {a b:List (List Int)}(p:a.Perm b)(ha:a.Pairwise (fun a b=>bF a b=true))(hb:b.Pairwise (fun a b=>bF a b=true)):a=b :=
  List.Perm.eq_of_pairwise (fun x y _ _ h h'=>by have:=iW h;rw [h'] at this;cases this) ha hb p
end Fm
set_option Elab.async false
set_option linter.all false
set_option maxRecDepth 100000
namespace Fm
open PySem PySem.Spec L2 PySem.W PyProof.Rows
section
variable {X:Cx} {pos p:Pos}
theorem c8.rds {K:PySem.W.Frag}{ρ:List Addr}{H:Hp}:∀ {vs:List V} {rs:List (List Int)},c8 H vs rs→RDs K ρ H (rs.map gw) vs
  | _,_,.nil=>RDs.nil
  | _,_,.cons (a:=a) (r:=r) h t=>by
    refine RDs.cons ?_ (c8.rds t)
    unfold gw
    simp only [RD]
    refine⟨a,_,rfl,h,?_⟩
    clear h
    induction r with
    | nil=>exact RDs.nil
    | cons x r ih=>exact RDs.cons (by simp only [RD]) ih
theorem c8.pick {H:Hp}{vs:List V}{rs:List (List Int)}(h:c8 H vs rs):∀ (l:List Nat),(∀ i∈l,i < vs.length)→c8 H (l.map fun i=>vs.getD i .non) (l.map fun i=>rs.getD i [])
  | [],_=>.nil
  | i :: l,hl=>by
    have hi:i < vs.length:=hl i (by simp)
    obtain⟨a,e,ha⟩:=h.get (i:=i) (v:=vs[i]) (by simp [hi])
    have t:=c8.pick h l fun j hj=>hl j (by simp [hj])
    have:vs.getD i .non=.ref a:=by simp [List.getD,hi,e]
    simp only [List.map_cons,this]
    exact .cons ha t
theorem aS.pick {vs:List V}{us:List Value}(h:aS vs us):∀ (l:List Nat),(∀ i∈l,i < vs.length)→aS (l.map fun i=>vs.getD i .non) (l.map fun i=>us.getD i Value.none)
  | [],_=>.nil
  | i :: l,hl=>by
    have hi:i < vs.length:=hl i (by simp)
    obtain⟨u,e,ru⟩:=h.get (i:=i) (x:=vs[i]) (by simp [hi])
    have t:=aS.pick h l fun j hj=>hl j (by simp [hj])
    simp only [List.map_cons]
    refine .cons ?_ t
    simp [List.getD,hi,e]
    exact ru
def FT (K:PySem.W.Frag):List V→Hp→VK→Prop:=fun xs H Q=>∃ (a:Addr) (vs:List V) (rs:List (List Int)),xs=[.ref a]∧SqL K H a vs∧vs.length < 64∧c8 H vs rs∧rs.Nodup∧(rs.all fun x => !x.isEmpty)=true ∧ ∀ q vs',H q=none→c8 H vs' (dy rs)→Q (.ref q) (upd H q (.lst vs'))
theorem xp:gF X (.builtin "sorted") (FT X.K):=by
  intro pins s σ H xs us Q I r h
  obtain⟨a,vs,rs,rfl,sq,h64,rv,nd,hne,q⟩:=h
  obtain⟨u,rfl,ru⟩:=aS.one r
  cases (show u=Value.ref a from ru)
  obtain⟨its,rvs,pl,hz⟩:=I.list sq
  have hl:s.heap.IsList a its.toArray:=pl.isList
  have hlen:its.length=vs.length:=rvs.length.symm
  by_cases h2:its.length < 2
  · refine ku hl h2 fun h' n hk ho => ?_
    have hs:dy rs=rs:=by
      have:rs.length < 2:=by rw [← rv.length];omega
      match rs,this with
      | [],_=>rfl
      | [_],_=>rfl
    exact⟨.ref (s.heap.objs.size + 1),_,I.laid (t':=s.toks) (o:=.lst vs) hk (Nat.le_succ _) ⟨hz,its,n,rvs,ho⟩,rfl,q _ vs (I.hok.fresh (Nat.le_succ _)) (by rw [hs];exact rv)⟩
  · obtain⟨m,hm,_⟩:=id I.loc
    have N0:News (Att.noObjs s.heap) X.env.locals s.heap (Att.ledger s.heap X.env.locals X.env.locals):=fun ⟨b,o⟩ hb=>by
      obtain⟨n1,n2,e⟩:=Att.mem_ledger.mp hb
      exact⟨e,n1,Att.noObjs_get _ _⟩
    refine kat_sorted (Att.fr_all hm) N0 hl (by omega) (by omega) fun D e1 h' F' N' lo => ?_
    have inN:∀ b o,b≠X.env.locals→s.heap.get? b=some o→(b,o)∈Att.ledger s.heap X.env.locals X.env.locals:=fun b o hb e=>Att.mem_ledger.mpr ⟨hb,hb,e⟩
    have keep':∀ b o,b≠X.env.locals→s.heap.get? b=some o→h'.get? b=some o:=fun b o hb e=>(N' (b,o) (List.mem_cons_of_mem _ (inN b o hb e))).1
    have nL:∀ b u,H b=some u→b≠X.env.locals:=fun b u e z=>by rw [z,I.free] at e;cases e
    obtain⟨fs,t1,t2,t3⟩:=nM I.hok (h':=h') (fun b o u hb e=>keep' b o (nL b u hb) e) rv rvs hne
    refine kat_kind (s:={ s with heap:=h' }) (T:=.type "int") t1 (by omega) (fun v hv => ?_) rfl ?_
    · obtain⟨i,t,rfl⟩:=t3 v hv
      exact Looks.of_pure rfl
    · have hT:(Value.type "int" != Value.type "tuple")=true:=by decide
      rw [hT]
      have hrl:rs.length=its.length:=by rw [← rv.length,hlen]
      have dif:∀ i j,i < its.length→j < its.length→i≠j→rs.getD i []≠rs.getD j []:=fun i j hi hj hij z=>by
        have e1:rs.getD i [] = rs[i]'(by omega):=by simp [List.getD,show i < rs.length by omega]
        have e2:rs.getD j [] = rs[j]'(by omega):=by simp [List.getD,show j < rs.length by omega]
        rw [e1,e2] at z
        exact hij ((List.getElem_inj nd).mp z)
      have O:Ord (fun i j=>Fm.bF (rs.getD i []) (rs.getD j [])) its.length:=⟨fun i j _ _ h=>iW h,fun i j k _ _ _ h h'=>gl h h',fun i j hi hj hij h=>jw (dif i j hi hj hij) h⟩
      refine uY O (fun i j hi hj C hC => ?_) (by omega) fun pp g srt => ?_
      · unfold kas_ask
        have at':∀ i,i < its.length → ∃ b,its.getD i Value.none=.ref b ∧ ∃ (o:Obj) (zs:List Value) (n:Nat),h'.get? b=some o∧o.data=.seq zs.toArray n∧IntsAre zs (rs.getD i []):=fun i hi=>by
          have hv:vs[i]? = some (vs[i]'(by omega)):=by simp [show i < vs.length by omega]
          obtain⟨b,e1,e2⟩:=rv.get hv
          obtain⟨u,hu,ru⟩:=rvs.get hv
          rw [e1] at ru
          cases (show u=Value.ref b from ru)
          obtain⟨z,zs,r0,⟨o,ho,hc,n,hd⟩,_⟩:=I.hok b _ e2
          exact⟨b,by simp [List.getD,hu],o,zs,n,keep' b o (nL b _ e2) ho,hd,nD r0⟩
        obtain⟨b1,x1,o1,z1,n1,y1,d1,i1⟩:=at' i hi
        obtain⟨b2,x2,o2,z2,n2,y2,d2,i2⟩:=at' j hj
        rw [x1,x2]
        refine kat_lt (s:={ s with heap:=h' }) y1 d1 y2 d2 ?_
        have:=BW (prog:=X.prog) (w:=X.w) (A:=X.A.in1.in1) (s:={ s with heap:=h' }) (Q:=C) (rs.getD i []) (rs.getD j []) 0 i1 i2 hC
        simpa using this
      · have pmL:pp.toList.Perm (List.range its.length):=by simpa using Array.perm_iff_toList_perm.mp g.pm
        have inR:∀ i∈pp.toList,i < vs.length:=fun i hi=>by
          have:=pmL.mem_iff.mp hi
          rw [← hlen];simpa using this
        obtain⟨vs',hvs'⟩ : ∃ vs',vs'=pp.toList.map fun i=>vs.getD i .non:=⟨_,rfl⟩
        obtain⟨its',hits'⟩ : ∃ its',its'=pp.toList.map fun i=>its.getD i Value.none:=⟨_,rfl⟩
        have rv':c8 H vs' (dy rs):=by
          have e:(pp.toList.map fun i=>rs.getD i [])=dy rs:=by
            refine Am (?_:List.Perm _ _) ?_ (iX nd)
            · refine ((pmL.map fun i=>rs.getD i []).trans ?_).trans (gx rs).symm
              have:((List.range its.length).map fun i=>rs.getD i [])=rs:=by
                apply List.ext_getElem?
                intro i
                by_cases hi:i < rs.length
                · have:i < its.length:=by omega
                  simp [List.getD,hi,this]
                · have : ¬ i < its.length:=by omega
                  simp [hi,this]
              rw [this]
            · rw [List.pairwise_map]
              rw [List.pairwise_iff_getElem]
              intro i j hi hj hij
              have s1:=srt i j hij (by rw [← g.sz];simpa using hj)
              have g1:pp.getD i 0=pp.toList[i]:=by simp [Array.getD,show i < pp.size by simpa using hi]
              have g2:pp.getD j 0=pp.toList[j]:=by simp [Array.getD,show j < pp.size by simpa using hj]
              rw [g1,g2] at s1
              exact s1
          have:=rv.pick pp.toList inR
          rw [e,← hvs'] at this
          exact this
        have rvs':aS vs' its':=by rw [hvs',hits'];exact aS.pick rvs pp.toList inR
        have hz':vs'.length≤sizeLine:=by
          have l1:vs'.length=its.length:=by rw [hvs',List.length_map,pmL.length_eq,List.length_range]
          rw [l1,hlen];exact hz
        rw [← hits']
        have hDn:∀ q∈Att.ledger s.heap X.env.locals X.env.locals,q.1≠D:=fun q hq=>Nat.ne_of_lt (lo q hq)
        refine KasFin.intro F' N' (UpdF.head hDn) fun h2 c F2 N2 => ?_
        have DL:D≠X.env.locals:=(N' (D,_) (List.mem_cons_self ..)).2.1
        have hD2:h2.get? D=some (PySem.W.listOf its'.toArray c):=(N2 (D,_) (List.mem_cons_self ..)).1
        have keep2:∀ b o,b≠X.env.locals→s.heap.get? b=some o→h2.get? b=some o:=fun b o hb e=>(N2 (b,o) (List.mem_cons_of_mem _ (inN b o hb e))).1
        have bD:∀ b o,s.heap.get? b=some o→b≠D:=fun b o e=>by
          by_cases hb:b=X.env.locals
          · rw [hb];exact Ne.symm DL
          · exact hDn (b,o) (inN b o hb e)
        have HD:H D=none:=by
          cases e:H D with
          | none=>rfl
          | some u =>
            have lt:=I.hok.lt e
            have:∃ o,s.heap.get? D=some o:=by
              have ok:=I.hok D u e
              exact BZ ok
            obtain⟨o,ho⟩:=this
            exact absurd rfl (bD D o ho)
        refine⟨.ref D,upd H D (.lst vs'),?_,rfl,q D vs' HD rv'⟩
        suffices I2:L2.Inv X pins σ (upd H D (.lst vs')) { s with heap:=h2,gens:=s.gens,drawn:=s.drawn,toks:=s.toks } from I2
        refine I.step (g':=s.gens) (d':=s.drawn) (t':=s.toks) (ch:=[]) (fun _ z=>nomatch z) (fun b o hb _ _ e _=>keep2 b o hb e) (fun b o hb _ _ e _=>⟨o.slots,keep2 b o hb e⟩) (fun b o _ e n=>by rw [aF (bD b o e)];exact n) (fun b o _ e => ?_)
          (fun b ys e=>by rw [aF (aG e HD)];exact e) (fun b o u e=>by rw [aF (aG e HD)];exact e) (fun b ps e=>⟨#[],by rw [aF (aG e HD),e];simp⟩) (fun m' hm'=>by rw [BY hm' hm];exact F2.ns) (fun b u e => ?_) I.bare
        · by_cases hb:b=X.env.locals
          · obtain⟨o',_,_,ho',_⟩:=F2.ns
            rw [hb];exact⟨o',ho'⟩
          · exact⟨o,keep2 b o hb e⟩
        · by_cases hb:b=D
          · subst hb
            rw [bB] at e
            cases e
            exact⟨hz',its',c,rvs',hD2⟩
          · rw [aF hb] at e
            refine (I.hok b u e).stay (fun c v hc z => ?_) (fun c z=>by rw [aF (aG z HD)];exact z) fun c ys z=>by rw [aF (aG z HD)];exact z
            rcases hc with w|w
            · subst w;exact keep2 c v (nL c _ e) z
            · exact keep2 c v (nL c _ w) z
theorem nP {a:Expr} {fa:EF} (hg:Gl X "sorted") (hm:X.mg "sorted" = none) (ha:ME X a fa) (hs:starEach [a] X.env=(false,eval a X.env) :: starEach [] X.env:=by rfl):MF X (.Call (.Name "sorted" p) [a] [] pos) (dr fa):=by
  refine PE.imp (kj xp hg hm (by decide +kernel) (cJ ha d6 hs) (he:=hs)) fun σ H Q ⟨ρ,σd,hd,rs,pp⟩=>⟨ρ,σd,hd,rs,?_⟩
  unfold dr at pp
  cases e:fa σd hd with
  | exc x h'=>rw [e] at pp;exact pp
  | bad=>rw [e] at pp;exact pp
  | ok d hd1 =>
    rw [e] at pp
    simp only [aT] at pp
    intro v H1 ρ1 e1 rs1 rv
    cases c:b4 hd1 d with
    | none=>rw [c] at pp;exact pp.elim
    | some l =>
      rw [c] at pp
      simp only at pp
      cases c2:dF l with
      | none=>rw [c2] at pp;exact pp.elim
      | some l' =>
        rw [c2] at pp
        simp only [dF] at c2
        cases c3:gH l with
        | none=>rw [c3] at c2;cases c2
        | some r =>
          rw [c3] at c2
          simp only at c2
          split at c2
          · rename_i hc
            cases c2
            obtain⟨q,vs,rfl,sq,rvs⟩:=hU rs1.hp rv c
            exact⟨q,vs,r,rfl,sq,by rw [← rvs.length];exact hc.1,iV rvs c3,hc.2.2,hc.2.1,fun q' vs' hq rv'=>pp.mk e1 rs1 rv'.rds q' hq⟩
          · cases c2
end
end Fm
set_option Elab.async false
set_option linter.all false
set_option maxRecDepth 100000
namespace Fm
open PySem PySem.Spec L2 PySem.W PyProof.Rows
section
variable {X:Cx} {pos p:Pos}
theorem lm:fillsNumberSlot (.type "tuple") "mul" = pure false :=
  PySem.fillsNumberSlot_seq (id := "tuple.__mul__") (r:=some (.builtin "tuple.__rmul__")) F.slot_tuple_mul.lookup (by decide +kernel) F.slot_tuple_rmul.lookup (by decide +kernel)
theorem rY:seqRepeat? (.type "tuple")=pure (some (.builtin "tuple.__mul__")):=by
  unfold seqRepeat?
  rw [PySem.seqSlot_of (T := "tuple") (name := "__mul__") (id := "tuple.__mul__") F.slot_tuple_mul.lookup (by decide +kernel),PySem.seqSlot_of (T := "tuple") (name := "__rmul__") (id := "tuple.__rmul__") F.slot_tuple_rmul.lookup (by decide +kernel)]
  rfl
theorem xq (a:Int)(t:Tok)(l:Addr)(items:Array Value)(n:Nat)(dd:Option Addr)(sl:Array (Option Value)) :
    Meets (Builtin.«int.__rmul__» ⟨[.int a t,.ref l],[]⟩) (fun _ R s=>s.heap.get? l=some { cls:=.type "tuple",dict:=dd,data:=.seq items n,slots:=sl } ∧ R (.ok (.ret Value.notImplemented)) s) :=
  .of_wp fun prog w A R s h=>by obtain⟨hp,g,d,tk,os⟩:=s;obtain⟨hl,h⟩:=h;wp_walk;exact⟨_,rfl,h⟩
theorem An (l:Addr)(items:Array Value)(n:Nat)(x:Int)(u:Tok)(dd:Option Addr)(sl:Array (Option Value))(h0:items.isEmpty=false)(h2:2≤x)(h3:items.size * x.toNat≤1000) :
    Meets (Builtin.«tuple.__mul__» ⟨[.ref l,.int x u],[]⟩) (fun _ R s=>s.heap.get? l=some { cls:=.type "tuple",dict:=dd,data:=.seq items n,slots:=sl } ∧ R (.ok (.ret (Value.ref s.heap.objs.size))) { s with heap:=s.heap.push { cls:=Value.type "tuple",data:=Data.seq (List.foldl (fun x1 x2=>x1++x2) #[] (List.replicate x.toNat items)) },toks:=s.toks }) :=
  .of_wp fun prog w A R s h=>by
    obtain⟨hp,g,d,tk,os⟩:=s;obtain⟨hl,h⟩:=h
    have f1:=PySem.AutoSeq1.idx_int
    have c1:(decide (x < -(2 ^ 63)) || decide (x ≥ 2 ^ 63))=false:=by
      have:x.toNat≤1000:=by
        have:1≤items.size:=by
          cases e:items.size with
          | zero=>rw [Array.isEmpty,e] at h0;simp at h0
          | succ k=>omega
        have:=Nat.le_mul_of_pos_left x.toNat this
        omega
      simp;omega
    have c2:(items.isEmpty || x == 1)=false:=by rw [h0];simp;omega
    have c3:(decide (x≤0) || items.isEmpty)=false:=by rw [h0];simp;omega
    have c5:(items.size:Int) * x≤1000:=by
      have e:((items.size * x.toNat:Nat):Int)=(items.size:Int) * x:=by
        rw [Int.natCast_mul,Int.toNat_of_nonneg (by omega)]
      rw [← e];omega
    have c4 : ¬ ((items.size:Int) * x > (2 ^ 63 - 1) / 8):=by omega
    have c6:Builtin.Tuple.tupleTooMany ((items.size:Int) * x)=false:=by
      unfold Builtin.Tuple.tupleTooMany
      simp [sizeLine];omega
    have hsz:(List.foldl (fun x1 x2=>x1++x2) #[] (List.replicate x.toNat items)).size≤sizeLine:=by
      rw [PySem.AutoListH.size_joined,sizeLine_eq]
      simp only [Array.size_empty,Nat.zero_add]
      rw [Nat.mul_comm];omega
    wp_walk using wpAny_loadPart' hl
    refine wpAny_ite_false (decide_eq_false (by rw [c1];simp)) ?_
    wp_walk using wpAny_loadPart' hl
    refine wpAny_ite_false (decide_eq_false (by rw [c2];simp)) ?_
    wp_walk using wpAny_loadPart' hl
    refine wpAny_ite_false (decide_eq_false (by rw [c3];simp)) ?_
    wp_walk using wpAny_loadPart' hl
    refine wpAny_ite_false (decide_eq_false c4) ?_
    wp_walk using wpAny_loadPart' hl
    exact⟨_,rfl,h⟩
def EI (K:PySem.W.Frag):R2:=fun x y H Q=>∃ a k xs,x=.ref a∧y=.int k∧SqT K H a xs∧xs≠[]∧2≤k∧xs.length * k.toNat≤1000 ∧ ∀ p,H p=none→Q (.ref p) (upd H p (.tup (List.replicate k.toNat xs).flatten))
theorem DT:OpR X (binaryOp .Mult) (EI X.K):=by
  intro pins s σ H x y v u Q I rx ry h
  obtain⟨a,k,xs,rfl,rfl,ha,hx,h2,h3,q⟩:=h
  cases rx
  obtain⟨t,rfl⟩:=ry
  obtain⟨its,r1,p1,_⟩:=I.tuple ha
  obtain⟨⟨cls,dd,data,sl⟩,ho,hc,n,hd⟩:=id p1
  simp only at hc hd
  subst hc hd
  have hne:its≠[]:=fun z=>hx (r1.nil_iff.mp z)
  have h0:its.toArray.isEmpty=false:=by
    cases its with
    | nil=>exact absurd rfl hne
    | cons a r=>simp
  have h3':its.toArray.size * k.toNat≤1000:=by rw [List.size_toArray,← r1.length];exact h3
  have hnew:List.foldl (fun x1 x2=>x1++x2) #[] (List.replicate k.toNat its.toArray)=(List.replicate k.toNat its).flatten.toArray:=by
    have:=qw its k.toNat []
    rw [List.nil_append] at this
    exact this
  refine wpAny_binaryOp_repeat_ref (T := "tuple") (U := "int") (by decide) ⟨_,ho,rfl⟩ (fun s'=>typeIs_int s' k t) lm F.fills_int_mul F.slot_int_rmul rY F.slot_int_index.lookup
    (call_meets F.slot_int_rmul (typeIs_int s k t) F.entry_int_rmul (F.args_int_rmul_2 _ _) (xq k t a its.toArray n dd sl)
      ⟨ho,rfl,⟨_,ho,rfl⟩,call_meets F.slot_tuple_mul ⟨_,ho,rfl⟩ F.entry_tuple_mul (F.args_tuple_mul_2 _ _) (An a its.toArray n k t dd sl h0 h2 h3') ⟨ho,?_⟩⟩)
  rw [hnew]
  refine⟨.ref s.heap.objs.size,_,I.laid (t':=s.toks) (o:=.tup (List.replicate k.toNat xs).flatten) (fun b ob q=>Heap.get?_push_of_some _ q) (Nat.le_refl _) ?_,rfl,q _ (I.hok.fresh (Nat.le_refl _))⟩
  exact⟨by rw [DE,sizeLine_eq,Nat.mul_comm];omega,_,r1.rep k.toNat,jQ.new _ _⟩
theorem RDs.rep {K:PySem.W.Frag}{ρ:List Addr}{H:Hp}{l:List D}{vs:List V}(r:RDs K ρ H l vs):∀ k,RDs K ρ H (List.replicate k l).flatten (List.replicate k vs).flatten
  | 0=>RDs.nil
  | k + 1=>by
    rw [List.replicate_succ,List.replicate_succ,List.flatten_cons,List.flatten_cons]
    exact RDs.append r (RDs.rep r k)
theorem DU {K:PySem.W.Frag}:Og K zD (EI K):=by
  intro ρ H σd hd σ d k v w Q rs rv rw' pp
  cases d<;>try exact pp.elim
  rename_i l
  cases l with
  | nil=>exact pp.elim
  | cons x xs =>
    cases k<;>try exact pp.elim
    rename_i n
    simp only [zD] at pp
    split at pp
    · rename_i hz
      simp only [RD] at rv rw'
      obtain⟨a,vs,rfl,ha,rvs⟩:=rv
      refine⟨a,n,vs,rfl,rw',SqT.of ha,?_,hz.1,by rw [← rvs.length];exact hz.2,fun q hq => ?_⟩
      · intro z;subst z;have:=rvs.length;simp at this
      · have sm:=cF (o:=HO.tup (List.replicate n.toNat vs).flatten) hq
        exact pp.at (Ext.same sm) (rs.same sm) (by simp only [rD,RD];exact⟨q,_,rfl,bB,(RDs.rep rvs n.toNat).mono (Kp.same sm)⟩)
    · exact pp.elim
end
end Fm
set_option linter.all false
namespace Fm
end Fm
set_option Elab.async false
set_option linter.all false
set_option maxRecDepth 100000
namespace L2
open PySem PySem.Spec PyProof.Rows
section
variable {κ : Type} [DecidableEq κ]
end
section
variable {P:Program} {w:World} {H:Hp} {h:Heap} {a:Addr}
end
section
variable {X:Cx} {pins:List (Addr × Obj)} {σ:St} {H:Hp} {s:Shared} {a:Addr} {y v:V} {u r:Value} {o:Option V} {A:Around} {E:Value→Shared→Prop}
end
section
variable {X:Cx} {pins:List (Addr × Obj)} {σ:St} {H:Hp} {s:Shared} {a:Addr} {kvs:List (Key × V)} {k:Key} {u:Value} {A:Around} {E:Value→Shared→Prop}
end
section
variable {X:Cx} {o i e value:Expr} {pos pos' tpos:Pos} {td ty tv:TE}
end
section
variable {X:Cx} {pos:Pos}
end
structure M1 (X:Cx) (o:Expr) (m:Str) (apos:Pos) (e:Expr) (cpos:Pos):Prop where
  base:attributeBase o m X.env (eval o X.env)=eval o X.env
  few:((backTo cpos (starEach [e] X.env)).all (fun x => !x.1) && (backToKw cpos (keywordEach [] X.env)).all (fun x=>x.1.isSome)
    && decide (([e] : List Expr).length + ([] : List Keyword).length + (if ([] : List Keyword).isEmpty then 0 else 1) < 30))=true
  line:(apos.endLine == cpos.line)=true
  trees:backTo cpos (starEach [e] X.env)=[(false,eval e X.env)]
structure M2 (X:Cx) (o:Expr) (m:Str) (apos:Pos) (e f:Expr) (cpos:Pos):Prop where
  base:attributeBase o m X.env (eval o X.env)=eval o X.env
  few:((backTo cpos (starEach [e,f] X.env)).all (fun x => !x.1) && (backToKw cpos (keywordEach [] X.env)).all (fun x=>x.1.isSome)
    && decide (([e,f] : List Expr).length + ([] : List Keyword).length + (if ([] : List Keyword).isEmpty then 0 else 1) < 30))=true
  line:(apos.endLine == cpos.line)=true
  trees:backTo cpos (starEach [e,f] X.env)=[(false,eval e X.env),(false,eval f X.env)]
section
variable {X:Cx} {pins:List (Addr × Obj)} {σ:St} {H:Hp} {s:Shared} {a:Addr} {y d:V} {u r:Value} {o:Option V} {A:Around} {E:Value→Shared→Prop}
end
section
variable {X:Cx} {o e f:Expr} {apos cpos:Pos} {td ty tx:TE}
end
section
variable {X:Cx} {pins:List (Addr × Obj)} {σ:St} {H:Hp} {s:Shared} {a:Addr} {kvs:List (Key × V)} {A:Around} {E:Value→Shared→Prop}
end
section
variable {X:Cx} {pins:List (Addr × Obj)} {σ:St} {H:Hp} {s:Shared} {a:Addr} {y:V} {u:Value} {A:Around} {E:Value→Shared→Prop}
end
end L2
set_option Elab.async false
set_option linter.all false
set_option maxRecDepth 100000
namespace Fm
open PySem PySem.Spec L2 PySem.W PyProof.Rows
section
variable {K:PySem.W.Frag} {ρ:List Addr} {H:Hp} {hd:Hd}
end
section
variable {X:Cx} {pos p:Pos}
end
end Fm
set_option Elab.async false
set_option linter.all false
set_option maxRecDepth 100000
namespace Fm
open PySem PySem.Spec L2 PySem.W PyProof.Rows
section
variable {X:Cx} {pos p:Pos}
end
end Fm
set_option Elab.async false
set_option linter.all false
set_option maxRecDepth 100000
namespace Fm
open PySem PySem.Spec L2 PySem.W PyProof.Rows
section
variable {X:Cx} {pos p:Pos}
def ov:List Addr→List (List Int)→Hp→Hp
  | a :: as,r :: rs,H=>upd (ov as rs H) a (.tup (r.map V.int))
  | _,_,H=>H
end
end Fm
set_option linter.all false
namespace Fm
end Fm
set_option Elab.async false
set_option linter.all false
set_option maxRecDepth 100000
namespace Fm
open PySem PySem.Spec L2 PySem.W PyProof.Rows
section
variable {X:Cx} {pos p:Pos}
theorem qB {K:PySem.W.Frag}{ρ:List Addr}{H:Hp}:∀ {l:List D} {vs:List V} {bs:List Bool},RDs K ρ H l vs→iP l=some bs→vs=bs.map V.bl
  | [],_,is,r,e=>by simp only [iP] at e;cases e;simp only [RDs] at r;subst r;rfl
  | d :: l,_,is,r,e=>by
    simp only [RDs] at r
    obtain⟨v,vs,rfl,h1,h2⟩:=r
    cases d<;>simp only [iP] at e<;>try (cases e;done)
    rename_i i
    cases c:iP l with
    | none=>rw [c] at e;cases e
    | some js =>
      rw [c] at e
      cases e
      simp only [RD] at h1
      rw [h1,qB h2 c]
      rfl
theorem B4 {bs:List Bool}{its:List Value}(r:aS (bs.map V.bl) its):∀ (i:Nat) (v:Value),its.toArray[i]? = some v→v=.bool (bs.getD i false):=by
  intro i v e
  have e':its[i]? = some v:=by simpa using e
  have hi:i < bs.length:=by
    have:=(List.getElem?_eq_some_iff.mp e').1
    have:=r.length
    simp at this
    omega
  obtain⟨u,hu,ru⟩:=r.get (i:=i) (x:=V.bl bs[i]) (by simp [hi])
  rw [hu] at e'
  cases e'
  rw [show v=Value.bool bs[i] from ru]
  simp [List.getD,hi]
theorem B5 (bs:List Bool):(List.range bs.length).all (fun i=>bs.getD i false)=bs.all id:=by
  have:bs=(List.range bs.length).map fun i=>bs.getD i false:=by
    apply List.ext_getElem?
    intro i
    by_cases hi:i < bs.length<;>simp [List.getD,hi]
  conv=>rhs;rw [this]
  rw [List.all_map]
  rfl
theorem Ao (hc:X.calm=true):gF X (.builtin "all") (fun xs H Q=>∃ (p:Addr) (bs:List Bool),xs=[.ref p]∧(SqL X.K H p (bs.map V.bl)∨SqT X.K H p (bs.map V.bl))∧Q (.bl (bs.all id)) H):=by
  intro pins s σ H xs us Q I r q
  obtain⟨p,bs,rfl,sq,q⟩:=q
  obtain⟨u,rfl,ru⟩:=aS.one r
  cases (show u=Value.ref p from ru)
  have hA:(X.A.in1).handled=none:=I.ok.hd hc
  have tr:∀ (its:List Value),aS (bs.map V.bl) its→TruthOf X.prog X.w X.A.in1 (fun i v=>its.toArray[i]? = some v) (fun i=>bs.getD i false):=fun its rv i v s Q E hP hQ=>by
    rw [B4 rv i v hP]
    exact wpAny_truthy_bool hQ
  have fin:∀ {it:Obj} {h':Heap} {tk:Nat} {n:Nat},n=bs.length→(∀ b o,b∉[s.heap.objs.size]→(s.heap.push it).get? b=some o→h'.get? b=some o)→EP X pins σ Q (.bool ((List.range n).all fun i=>bs.getD i false)) { s with heap:=h',toks:=tk }:=by
    intro it h' tk n hn hk
    subst hn
    refine⟨.bl (bs.all id),H,I.kept (t':=tk) fun b o e=>hk b o (by simp;exact Nat.ne_of_lt (Heap.lt_size e)) (Heap.get?_push_of_some _ e),by rw [B5];rfl,q⟩
  rcases sq with sq|sq
  · obtain⟨its,rv,pl,hz⟩:=I.list sq
    have il:s.heap.IsList p its.toArray:=pl.isList
    have hlt:p < s.heap.objs.size:=by obtain⟨o,ho,_⟩:=il;exact Heap.lt_size ho
    refine PySem.call_all_walk (PySem.wpAny_pyIter_list il ?_)
    refine⟨s.heap.objs.size,_,[s.heap.objs.size],_,_,_,fun i=>bs.getD i false,rfl,PySem.Walks.list hA s.heap.objs.size p (Nat.ne_of_lt hlt) its.toArray,⟨⟨_,Heap.get?_push_size _ rfl,rfl,rfl⟩,?_⟩,tr its rv,?_⟩
    · obtain⟨o,ho,r⟩:=il;exact⟨o,Heap.get?_push_of_some _ ho,r⟩
    · exact fun h' tk hk=>fin (by simpa using rv.length.symm) hk
  · obtain⟨its,rv,pl,hz⟩:=I.tuple sq
    have il:s.heap.IsTuple p its.toArray:=pl
    have hlt:p < s.heap.objs.size:=by obtain⟨o,ho,_⟩:=il;exact Heap.lt_size ho
    refine PySem.call_all_walk (PySem.wpAny_pyIter_tuple il ?_)
    refine⟨s.heap.objs.size,_,[s.heap.objs.size],_,_,_,fun i=>bs.getD i false,rfl,PySem.Walks.tuple hA s.heap.objs.size p (Nat.ne_of_lt hlt) its.toArray,⟨⟨_,Heap.get?_push_size _ rfl,rfl,rfl⟩,?_⟩,tr its rv,?_⟩
    · obtain⟨o,ho,r⟩:=il;exact⟨o,Heap.get?_push_of_some _ ho,r⟩
    · exact fun h' tk hk=>fin (by simpa using rv.length.symm) hk
theorem B6 {a:Expr} {la:LF} (hc:X.calm=true) (hg:Gl X "all") (hm:X.mg "all" = none) (ha:MQ X a la) (hs:starEach [a] X.env=(false,eval a X.env) :: starEach [] X.env:=by rfl):ME X (.Call (.Name "all" p) [a] [] pos) (Af la):=by
  refine rN (g:=fun l h=>match iP l with|some bs=>.ok (.bl (bs.all id)) h|none=>.bad) (BM (Ao hc) hg hm (by decide +kernel) (he:=hs)) ha (fun ρ H σd hd σ l q vs Q rs sq rvs p => ?_) hs
  cases c:iP l with
  | none=>simp only [c] at p;exact p.elim
  | some is =>
    simp only [c] at p
    have e:=qB rvs c
    subst e
    exact⟨q,is,rfl,sq.imp id SqT.of,p.here rs (by simp only [rD,RD])⟩
end
end Fm
set_option linter.all false
namespace Fm
noncomputable section
open Classical
def fZ (l:List D):List D:=(List.range l.length).zip l |>.map fun p=>.tup [.int (p.1:Nat),p.2]
end
end Fm
set_option Elab.async false
set_option linter.all false
set_option maxRecDepth 100000
namespace Fm
open PySem PySem.Spec L2
open PyProof.Rows (Call_)
section
variable {prog:Program} {w:World} {A:Around} {E:Value→Shared→Prop} {s:Shared} {z TI TO i1 i2 l1 l2:Addr} {k:Nat} {xs ys:Array Value} {a b:Value}
end
section
variable {prog:Program} {w:World} {A:Around} {E:Value→Shared→Prop} {s:Shared}
end
section
variable {X:Cx} {pos p tp:Pos} {elts:List Expr} {tk:Nat}
end
end Fm
set_option Elab.async false
set_option linter.all false
set_option maxRecDepth 100000
namespace Fm
open PySem PySem.Spec L2 PySem.W PyProof.Rows
section
variable {X:Cx} {pos p:Pos}
end
section
variable {prog:Program} {w:World} {A:Around} {E:Value→Shared→Prop} {s:Shared}
end
section
variable {X:Cx} {pos p:Pos}
end
end Fm
set_option Elab.async false
set_option linter.all false
set_option maxRecDepth 100000
namespace Fm
open PySem PySem.Spec L2
open AutoSeq1 (wpAny_loadPart')
open PyProof.Rows (Call_)
def ItL (K:PySem.W.Frag) (a:Addr):It :=
  ⟨fun i H=>∃ xs x,SqL K H a xs∧xs[i]? = some x,fun i H x H'=>∃ q v,x=.ref q∧H q=none∧H'=upd H q (.tup [.int (i:Nat),v]) ∧ ∀ xs,SqL K H a xs→xs[i]? = some v,fun i H=>∃ xs,SqL K H a xs∧xs.length=i⟩
theorem xr {P:Program}{w:World}{K:PySem.W.Frag}{elts:List Expr}{k:Nat}{pos:Pos}(e it a:Addr):wZ P w K (.Tuple elts k pos) (ItL K a) [e,it] e (fun i h=>(∃ old,IsEnum h e it (i:Nat) old)∧h.IsListIter it a i) where
  mem:=by simp
  obj:=fun i h st b hb=>by
    obtain⟨⟨old,he⟩,o,ho,hc,hd⟩:=st
    rcases List.mem_cons.mp hb with rfl|hb
    · exact⟨_,he,fun v z=>by
        have z':Data.fields _=Data.cell v:=z
        cases z'⟩
    · have:b=it:=by simpa using hb
      subst this
      exact⟨o,ho,fun v z=>by rw [hd] at z;cases z⟩
  keep:=fun i h h' st kk=>by
    obtain⟨⟨old,he⟩,st⟩:=st
    exact⟨⟨old,kk e (by simp) _ he⟩,st.at fun o x=>kk it (by simp) o x⟩
  item:=by
    intro X hP hw hK hc i pins s σ H E I hf st hg
    subst hP hw hK
    obtain⟨⟨old,he⟩,hit⟩:=st
    obtain⟨xs,x,hq,hx⟩:=hg
    obtain⟨its,rv,p,hz⟩:=I.list hq
    have ht:s.heap.IsList a its.toArray:=p.isList
    obtain⟨oi,hoi,hci,hdi⟩:=id hit
    obtain⟨oa,hoa,hca,na,hda⟩:=id ht
    have hei:e≠it:=fun z=>by
      subst z
      have he':s.heap.get? e=_:=he
      rw [hoi] at he';cases he';exact uU hci (by decide)
    have hea:e≠a:=fun z=>by
      subst z
      have he':s.heap.get? e=_:=he
      rw [hoa] at he';cases he';exact uU hca (by decide)
    have hai:a≠it:=fun z=>by
      subst z
      rw [hoi] at hoa;cases hoa;rw [hci] at hca;exact uU hca (by decide)
    obtain⟨e0,e1,e2,e3,e4,e5⟩:=hf e (by simp)
    obtain⟨f0,f1,f2,f3,f4,f5⟩:=hf it (by simp)
    have hlt:i < its.toArray.size:=by
      have:=(List.getElem?_eq_some_iff.mp hx).1
      have hl:=rv.length
      simp;omega
    refine wpAny_pyNext_enum_itemD (Draws.list (prog:=X.prog) (w:=X.w) (A:=X.A.in1) (I.ok.hd hc) it a hai its.toArray) he ⟨hit,ht⟩ hlt hei (by simp;exact⟨hei,hea⟩) fun y h' tk hy heo hst' htup hsz hk => ?_
    refine⟨_,rfl,wpAny_letOwnedTupleGo_enum heo fun h2 he2 hs2 => ?_⟩
    replace hs2:Heap.SameBut e h' h2:=hs2
    obtain⟨u,hu,ru⟩:=rv.get hx
    have hyu:y=u:=by
      have:its.toArray[i]? = some u:=by simpa using hu
      rw [hy] at this;exact Option.some.inj this
    subst hyu
    have elt:e < s.heap.objs.size:=Heap.lt_size he
    have ilt:it < s.heap.objs.size:=Heap.lt_size hoi
    have hN:H s.heap.objs.size=none:=I.hok.fresh (Nat.le_refl _)
    have keep:∀ b o,b≠e→b≠it→s.heap.get? b=some o→h2.get? b=some o:=fun b o b1 b2 q=>(hs2.2 b b1).trans (hk b o b1 b2 q)
    have htup2:h2.get? s.heap.objs.size=some { cls:=.type "tuple",data:=.seq #[.int i tk,y] }:=(hs2.2 _ (Nat.ne_of_gt elt)).trans htup
    have nch:∀ b,b∉([e,it] : List Addr)→b≠e∧b≠it:=fun b hb=>by simpa using hb
    refine⟨.ref s.heap.objs.size,upd H s.heap.objs.size (.tup [.int (i:Nat),x]),?_,rfl,⟨_,x,rfl,hN,rfl,fun ys hys=>by rw [I.list_inj hys hq];exact hx⟩,⟨⟨_,by simpa using he2⟩,hst'.1.extBut hs2.extBut (Ne.symm hei)⟩,fun b hb => ?_⟩
    · suffices I2:L2.Inv X pins σ (upd H s.heap.objs.size (.tup [.int (i:Nat),x])) { s with heap:=h2,gens:=s.gens,drawn:=s.drawn,toks:=tk + 1 } from I2
      refine I.step (g':=s.gens) (d':=s.drawn) (t':=tk + 1) (ch:=[e,it]) (fun b hb => ?_) (fun b o _ _ hb q _=>keep b o (nch b hb).1 (nch b hb).2 q) (fun b o _ _ hb q _=>⟨o.slots,keep b o (nch b hb).1 (nch b hb).2 q⟩) (fun b o _ q n => ?_) (fun b o hb q=>⟨o,keep b o (nch b hb).1 (nch b hb).2 q⟩)
        (fun b ys q => ?_) (fun b o u q => ?_) (fun b ps q=>⟨#[],?_⟩) (fun m hm => ?_) (fun b u q => ?_) I.bare
      · rcases List.mem_cons.mp hb with rfl|hb
        · exact⟨e3,e1,e4,e5⟩
        · have:b=it:=by simpa using hb
          subst this
          exact⟨f3,f1,f4,f5⟩
      · rw [aF (Nat.ne_of_lt (Heap.lt_size q))];exact n
      · rw [aF (aG q hN)];exact q
      · rw [aF (aG q hN)];exact q
      · rw [aF (aG q hN),q];simp
      · obtain⟨o,es,ep,ho,r⟩:=hm
        exact⟨o,es,ep,keep _ o (Ne.symm e1) (Ne.symm f1) ho,r⟩
      · by_cases hb:b=s.heap.objs.size
        · subst hb
          rw [bB] at q
          cases q
          exact⟨by show 2≤sizeLine;rw [sizeLine_eq];decide,[.int i tk,y],.cons ⟨tk,rfl⟩ (.cons ru .nil),⟨_,htup2,rfl,_,rfl⟩,_,htup2,rfl⟩
        · rw [aF hb] at q
          have ne1:∀ c v,H c=some v→c≠e:=fun c v z w=>by rw [w,e0] at z;cases z
          have ne2:∀ c v,H c=some v→c≠it:=fun c v z w=>by rw [w,f0] at z;cases z
          refine (I.hok b u q).stay (fun c v hc' z => ?_) (fun c z=>by rw [aF (aG z hN)];exact z) fun c ys z=>by rw [aF (aG z hN)];exact z
          rcases hc' with w|w
          · subst w;exact keep c v (ne1 c _ q) (ne2 c _ q) z
          · exact keep c v (ne1 c _ w) (ne2 c _ w) z
    · have:b≠s.heap.objs.size:=by
        rcases List.mem_cons.mp hb with rfl|hb
        · exact Nat.ne_of_lt elt
        · have:b=it:=by simpa using hb
          subst this
          exact Nat.ne_of_lt ilt
      rw [aF this]
      exact (hf b hb).1
  done:=by
    intro X hP hw hK hc i pins s σ H E I hf st hg
    subst hP hw hK
    obtain⟨⟨old,he⟩,hit⟩:=st
    obtain⟨xs,hq,hx⟩:=hg
    obtain⟨its,rv,p,hz⟩:=I.list hq
    have ht:s.heap.IsList a its.toArray:=p.isList
    obtain⟨oi,hoi,hci,hdi⟩:=id hit
    obtain⟨oa,hoa,hca,na,hda⟩:=id ht
    have hai:a≠it:=fun z=>by
      subst z
      rw [hoi] at hoa;cases hoa;rw [hci] at hca;exact uU hca (by decide)
    obtain⟨f0,f1,f2,f3,f4,f5⟩:=hf it (by simp)
    have hsz:its.toArray.size=i:=by have:=rv.length;simp;omega
    refine wpAny_pyNext_enum_endD (Draws.list (prog:=X.prog) (w:=X.w) (A:=X.A.in1) (I.ok.hd hc) it a hai its.toArray) he ⟨by rw [hsz];exact hit,ht⟩ fun h' hx'=>⟨rfl,I.turned (t':=s.toks) (fun b o hb e=>hx' b o hb e) f0 f1 f3 f4 f5⟩
  self:=fun _ _ _ _ _ st h=>by
    obtain⟨⟨old,he⟩,_⟩:=st
    exact wpAny_pyIter_enum he h
section
variable {X:Cx} {pos p tp:Pos} {elts:List Expr} {tk:Nat}
def HG (K:PySem.W.Frag) (ta:TE):TI:=fun σ H R=>ta σ H fun x H1=>∃ a xs,x=.ref a∧SqL K H1 a xs∧(xs.length≤sizeLine→R (ItL K a) H1)
theorem B7 {a:Expr} {ta:TE} (hg:Gl X "enumerate") (hm:X.mg "enumerate" = none) (ha:PE X a ta) (hs:starEach [a] X.env=[(false,eval a X.env)]:=by rfl):PI X (.Tuple elts tk tp) (.Call (.Name "enumerate" p) [a] [] pos) (HG X.K ta):=by
  intro pins s σ H R I h
  have hpa:=cJ ha d6 hs
  refine Call_ (kT I hg hm PyProof.Rows.boot_enumerate (PyProof.Rows.callWith_type1 (thn (hpa pos pins s σ H (fun vs H1=>∃ a xs,vs=[.ref a]∧SqL X.K H1 a xs∧(xs.length≤sizeLine→R (ItL X.K a) H1)) I ?_) fun us s1 ⟨vs,H1,I1,r1,q1⟩ => ?_) hs rfl))
  · show ta σ H fun x H1=>_
    have key:∀ (x:V) (H1:Hp),(∃ a xs,x=.ref a∧SqL X.K H1 a xs∧(xs.length≤sizeLine→R (ItL X.K a) H1))=(∃ a xs,[x] = [.ref a]∧SqL X.K H1 a xs∧(xs.length≤sizeLine→R (ItL X.K a) H1)):=fun x H1=>by simp
    have h':ta σ H fun x H1=>∃ a xs,x=.ref a∧SqL X.K H1 a xs∧(xs.length≤sizeLine→R (ItL X.K a) H1):=h
    simp only [key] at h'
    exact h'
  · obtain⟨a,xs,e,hq,q⟩:=q1
    subst e
    obtain⟨u,rfl,ru⟩:=aS.one r1
    cases (show u=Value.ref a from ru)
    obtain⟨its,rv,pt,hz⟩:=I1.list hq
    refine call_enumerate_list (show s1.heap.IsList a its.toArray from pt.isList) fun h' he hit hsz hk => ?_
    refine wpAny_pyIter_enum (s:={ s1 with heap:=h' }) he ?_
    have I2:Inv X pins σ H1 { s1 with heap:=h' }:=I1.kept (t':=s1.toks) hk
    refine⟨s1.heap.objs.size + 1,[s1.heap.objs.size + 1,s1.heap.objs.size],_,_,H1,rfl,I2,xr (s1.heap.objs.size + 1) s1.heap.objs.size a,⟨⟨_,by simpa using he⟩,hit⟩,fun b hb => ?_,q hz⟩
    have hb':s1.heap.objs.size≤b:=by
      rcases List.mem_cons.mp hb with e|hb
      · rw [e];exact Nat.le_succ _
      · have:b=s1.heap.objs.size:=by simpa using hb
        rw [this];exact Nat.le_refl _
    exact I1.fpOk hb' (I1.hok.fresh hb')
theorem xt {K:PySem.W.Frag}{ρ:List Addr}{H:Hp}{n:Nat}{q:Addr}{l:List D}(hq : ρ[n]? = some q)(hz:(fZ l).length≤sizeLine):uS K ρ H (ItL K q) (fZ l) (fun h=>h[n]? = some (.lst l)) where
  go:=fun ρ' H' hd' i d ex rh hh hi=>by
    have hq':=ex.get hq
    obtain⟨vs,hv,rvs⟩:=rh.cel n _ q hh hq'
    unfold fZ at hi
    obtain⟨hil,hi2⟩:=List.getElem?_eq_some_iff.mp hi
    have hl:i < l.length:=by simpa using hil
    have hd:d=.tup [.int (i:Nat),l[i]]:=by rw [← hi2];simp
    subst hd
    obtain⟨v,hvi,rd⟩:=rvs.get (i:=i) (d:=l[i]) (by simp [hl])
    have sq:SqL K H' q vs:=SqL.of hv
    refine⟨⟨vs,v,sq,hvi⟩,fun x H2 y => ?_⟩
    obtain⟨q2,v2,rfl,hn,rfl,y⟩:=y
    have:=y vs sq
    rw [hvi] at this
    cases this
    have sm:=cF (o:=HO.tup [.int (i:Nat),v]) hn
    refine⟨sm,?_⟩
    simp only [RD]
    exact⟨q2,_,rfl,bB,RDs.cons (by simp only [RD]) (RDs.cons (rd.mono (Kp.same sm)) RDs.nil)⟩
  stop:=fun ρ' H' hd' ex rh hh=>by
    have hq':=ex.get hq
    obtain⟨vs,hv,rvs⟩:=rh.cel n _ q hh hq'
    exact⟨vs,SqL.of hv,by rw [← rvs.length];simp [fZ]⟩
  sz:=hz
def B8 (K:PySem.W.Frag) (ρ:List Addr) (H:Hp) (σd:Sd) (σ:St) (r:Res D) (R:It→Hp→Prop):Prop:=match r with
  | .ok (.ref n) hd'=>match hd'[n]? with
    | some (.lst l)=>∀ J H' ρ',Ext ρ H ρ' H'→RS K ρ' H' σd hd' σ → uS K ρ' H' J (fZ l) (fun h=>h[n]? = some (.lst l))→R J H'
    | _=>False
  | _=>False
def G3 (K:PySem.W.Frag) (f:EF):TI:=fun σ H R=>∃ ρ σd hd,RS K ρ H σd hd σ ∧ B8 K ρ H σd σ (f σd hd) R
def MIE (X:Cx) (tg e:Expr) (f:EF):Prop:=PI X tg e (G3 X.K f)
theorem B9 {a:Expr} {f:EF} (hg:Gl X "enumerate") (hm:X.mg "enumerate" = none) (ha:ME X a f) (hs:starEach [a] X.env=[(false,eval a X.env)]:=by rfl):MIE X (.Tuple elts tk tp) (.Call (.Name "enumerate" p) [a] [] pos) f:=by
  refine PI.imp (B7 hg hm ha hs) fun σ H R ⟨ρ,σd,hd,rs,pp⟩=>⟨ρ,σd,hd,rs,?_⟩
  unfold B8 at pp
  cases e:f σd hd with
  | exc x h1=>rw [e] at pp;exact pp
  | bad=>rw [e] at pp;exact pp
  | ok d hd1 =>
    rw [e] at pp
    intro v H1 ρ1 ex1 rs1 rv
    cases d<;>try exact pp.elim
    rename_i n
    cases c1:hd1[n]? with
    | none=>simp only [c1] at pp
    | some cell =>
      simp only [c1] at pp
      cases cell with
      | dct l=>exact pp.elim
      | lst l =>
        simp only at pp
        simp only [rD,RD] at rv
        obtain⟨q,hq,rfl⟩:=rv
        obtain⟨vs,hv,rvs⟩:=rs1.hp.cel n _ q c1 hq
        exact⟨q,vs,rfl,SqL.of hv,fun hz=>pp _ H1 ρ1 ex1 rs1 (xt hq (by rw [show (fZ l).length=vs.length by rw [← rvs.length];simp [fZ]];exact hz))⟩
end
section
variable {X:Cx} {pos:Pos} {tg:Expr}
end
end Fm
set_option linter.all false
namespace Fm
end Fm
set_option Elab.async false
set_option linter.all false
set_option maxRecDepth 100000
namespace Fm
open PySem PySem.Spec L2
open PyProof.Rows (Call_)
section
variable {X:Cx} {pos p p2 pos2:Pos}
end
end Fm
set_option linter.all false
namespace Fm
end Fm
set_option linter.all false
namespace Fm
noncomputable section
open Classical
@[simp] def nQ (nl:Nat) (caps:List Nat) (a:EF) (tg:GF) (cs:List TF) (e:EF):LF:=fun σ h=>match a σ h with
  | .ok (.ref n) h=>match h[n]? with
    | some (.lst l)=>eW (fun h=>h[n]? = some (.lst l)) tg cs e (fZ l) (fU nl caps σ) h
    | _=>.bad
  | .ok _ _=>.bad
  | .exc x h=>.exc x h
  | .bad=>.bad
end
theorem nR {G:Hd→Prop}{tg:GF}{cs:List TF}{e:EF}{h:Hd}(I:Sd→Prop)(p:D→Bool)(f:D→D)(hh:G h) :
    ∀ {xs:List D} {σ:Sd},(∀ x∈xs,∀ σ,I σ → ∃ σ',tg x σ = some σ'∧I σ'∧iA cs σ' h=.ok (p x) h∧(p x=true→e σ' h=.ok (f x) h))→I σ →
      eW G tg cs e xs σ h=.ok ((xs.filter p).map f) h
  | [],_,_,_=>by simp [eW,hh]
  | x :: xs,σ,st,i=>by
    obtain⟨σ',h1,h2,h3,h4⟩:=st x (by simp) σ i
    have ih:=nR I p f hh (xs:=xs) (σ := σ') (fun y hy=>st y (by simp [hy])) h2
    cases hp:p x with
    | true=>simp [eW,hh,h1,h3,hp,h4 hp,ih]
    | false=>simp [eW,hh,h1,h3,hp,ih]
end Fm
set_option Elab.async false
set_option linter.all false
set_option maxRecDepth 100000
namespace Fm
open PySem PySem.Spec L2
section
variable {X:Cx} {pos:Pos} {scope:Scope} {own capn:List Str} {caps:List Nat}
theorem Ca {elt tg iter:Expr}{ifs:List Expr}{f:EF}{g:GF}{cs:List TF}{e:EF}(hc:X.calm=true)(S:bC X scope own capn caps)(hi:MIE X tg iter f)
    (hin:∀ cl C s H ex,MG (cxC X (own++capn) scope cl C s H ex) tg g∧MTs (cxC X (own++capn) scope cl C s H ex) ifs cs∧ME (cxC X (own++capn) scope cl C s H ex) elt e)
    (hs:∀ x,foldedSetIterable iter X.env x=pure x:=by intro _;rfl):MF X (.ListComp elt [⟨tg,iter,ifs,0⟩] scope pos) (nQ own.length caps f g cs e):=by
  intro pins s σ H Q I ⟨ρ,σd,hd,rs,p⟩
  rw [eval_ListComp]
  unfold nQ at p
  cases c:f σd hd with
  | exc z h7=>rw [c] at p;exact p.elim
  | bad=>rw [c] at p;exact p.elim
  | ok d hd1 =>
    rw [c] at p
    cases d<;>try exact p.elim
    rename_i n
    simp only at p
    cases c1:hd1[n]? with
    | none=>rw [c1] at p;exact p.elim
    | some cell =>
      rw [c1] at p
      cases cell with
      | dct l=>exact p.elim
      | lst l0 =>
        simp only at p
        obtain⟨cl,h1,hcl1,hcl2⟩:=jV (scope:=scope) (env:=X.env) fun y hy hyf=>I.ok.has y.1 (S.free y hy hyf)
        refine wpAny_comprehension_free (use:=none) rfl hs h1 S.kind S.names (thn (hi pins s σ H (fun J H1=>∃ ρ1,Ext ρ H ρ1 H1∧RS X.K ρ1 H1 σd hd1 σ ∧ uS X.K ρ1 H1 J (fZ l0) (fun h=>h[n]? = some (.lst l0))) I ⟨ρ,σd,hd,rs,by
          unfold B8
          rw [c]
          simp only [c1]
          exact fun J H' ρ' ex rs' wk=>⟨ρ',ex,rs',wk⟩⟩) fun v s1 h1=>thn h1 fun itv s2 h2 => ?_)
        obtain⟨it,fp,tn,J,H1,rfl,I1,T,st0,hf,ρ1,ex1,rs1,wk⟩:=h2
        generalize hG:(fun h:Hd=>h[n]? = some (.lst l0))=G at p wk
        cases c2:eW G g cs e (fZ l0) (fU own.length caps σd) hd1 with
        | exc z h7=>rw [c2] at p;exact p.elim
        | bad=>rw [c2] at p;exact p.elim
        | ok ds hdF =>
          rw [c2] at p
          refine ld (RR:=fun acc C=>compPost (model X.prog X.w) X.A X.xe none (EP X pins σ Q) acc C) hc S hin I1 T st0 hf rs1 wk hcl1 hcl2 c2 fun C s' m H' ρ' vs hC hn I' hCn ex rh hD0 hD hnD rds => ?_
          refine⟨m,hn,fun h' sb=>⟨.ref s2.heap.objs.size,H',?_,rfl,?_⟩⟩
          · refine I'.turned (it:=C) (t':=s'.toks) (fun b o hb e=>(sb.2 b hb).trans e) hCn ?_ (.inr (Nat.le_of_lt (Nat.lt_of_le_of_lt I1.sz hC))) (fun x c e z => ?_) fun q hq z => ?_
            · exact Nat.ne_of_gt (Nat.lt_trans I1.lt hC)
            · obtain⟨v,o,ho,hd⟩:=I1.cell x c e
              exact absurd (Nat.lt_trans (Heap.lt_size ho) hC) (by rw [z];exact Nat.lt_irrefl _)
            · exact absurd (Nat.lt_trans (Heap.lt_size (I1.pin q hq).1) hC) (by rw [z];exact Nat.lt_irrefl _)
          · exact p _ vs H' ρ' (ex1.trans ex) (rs.ext (ex1.trans ex) rh) (ex1.fresh hD0 (rs1.hp.free hD0)) hD hnD rds
end
section
variable {X:Cx}
end
end Fm
set_option linter.all false
namespace Fm
def jE (x e:EF):EF:=fun σ h=>(x σ h).bind fun p h=>match p with
  | .ref n=>match h[n]? with
    | some (.lst _)=>(e σ h).bind fun k h=>match h[n]? with
      | some (.lst l)=>match gH l with
        | some rs=>match gH [k] with
          | some [r]=>if r∈rs∧rs.length≤1000000 ∧ ∀ y∈rs,y.length=r.length then .ok (.int (rs.idxOf r:Nat)) h else .bad
          | _=>.bad
        | none=>.bad
      | _=>.bad
    | _=>.bad
  | _=>.bad
def fz (x e:EF):EF:=fun σ h=>(x σ h).bind fun p h=>match p with
  | .tup l=>(e σ h).bind fun d h=>if bK d && l.all bK then .ok (.int (l.countP fun z=>eqF z d)) h else .bad
  | _=>.bad
end Fm
set_option Elab.async false
set_option linter.all false
set_option maxRecDepth 100000
namespace Fm
open PySem PySem.Spec L2
section
variable {X:Cx}
theorem uZ:∀ r:List Int,km (r.map D.int)=0
  | []=>rfl
  | x :: r=>by rw [List.map_cons,km,uZ r];rfl
theorem u3:∀ {a b:List Int},a.length=b.length→fP (a.map D.int) (b.map D.int)=some (decide (a=b))
  | [],[],_=>rfl
  | [],_ :: _,h=>by cases h
  | _ :: _,[],h=>by cases h
  | x :: a,y :: b,h=>by
    have ih:=u3 (a:=a) (b:=b) (Nat.succ.inj h)
    simp only [List.map_cons,fP,ih,peq]
    by_cases e:x=y
    · subst e;by_cases e2:a=b<;>simp [e2]
    · simp [e]
theorem rZ {K:PySem.W.Frag}{ρ:List Addr}{H:Hp}:∀ r:List Int,RDs K ρ H (r.map D.int) (r.map V.int)
  | []=>rfl
  | x :: r=>⟨_,_,rfl,rfl,rZ r⟩
def G4:V→List V→Hp→VK→Prop:=fun x vs H Q=>∃ (l q:Addr) (ws:List V) (rs:List (List Int)) (r:List Int),x=.ref l∧vs=[.ref q]∧H l=some (.lst ws)∧c8 H ws rs∧H q=some (.tup (r.map V.int))∧r∈rs∧rs.length≤1000000∧(∀ y∈rs,y.length=r.length)∧Q (.int (rs.idxOf r:Nat)) H
theorem DV (hu:X.A.units + 24 < cLine):MtM X "list.index" G4:=by
  intro pins s σ H x vs v us Q I rx rv h
  obtain⟨l,q,ws,rs,r,rfl,rfl,hH,hr,hq,hm,hz,hlen,Qh⟩:=h
  cases rx
  obtain⟨u,rfl,ru⟩:=rv.one
  cases (show u=Value.ref q from ru)
  obtain⟨z,its,n,rel,hl,e⟩:=I.lstM hH
  have lw:ws.length=rs.length:=hr.length
  have li:its.length=rs.length:=by rw [← lw];exact rel.length.symm
  have at':∀ (i:Nat) (hi:i < its.length),∃ a,its[i]=.ref a∧H a=some (.tup ((rs.getD i []).map V.int)):=fun i hi=>by
    have hi2:i < ws.length:=by omega
    obtain⟨a,ea,ha⟩:=hr.get (i:=i) (v:=ws[i]) (by simp [hi2])
    obtain⟨w,hw,rw'⟩:=rel.get (i:=i) (x:=ws[i]) (by simp [hi2])
    rw [ea] at rw'
    rw [List.getElem?_eq_getElem hi] at hw
    exact⟨a,by rw [Option.some.inj hw];exact rw',ha⟩
  have hid:rs.idxOf r < rs.length:=List.idxOf_lt_length_of_mem hm
  have gd:∀ i,i < rs.length→rs.getD i []∈rs:=fun i hi=>by rw [List.getD_eq_getElem?_getD,List.getElem?_eq_getElem hi];exact List.getElem_mem hi
  have inj:∀ {a b:List Int},a.map V.int=b.map V.int→a=b:=fun {a b} h=>by
    have:=congrArg (List.map fun v=>match v with|V.int i=>i|_=>0) h
    rw [List.map_map,List.map_map] at this
    exact (List.map_id' a).symm.trans (this.trans (List.map_id' b))
  classical
  let ef:Value→Bool:=fun y=>decide (∃ p,y=Value.ref p∧H p=some (.tup (r.map V.int)))
  have ev:∀ (i:Nat) (hi:i < its.length),ef its[i] = decide (rs.getD i [] = r):=fun i hi=>by
    obtain⟨a,ea,ha⟩:=at' i hi
    show decide _=decide _
    congr 1
    apply propext
    constructor
    · rintro⟨p,ep,hp⟩
      rw [ea] at ep
      cases ep
      rw [ha] at hp
      injection hp with hp
      injection hp with hp
      exact inj hp
    · intro z
      exact⟨a,ea,by rw [ha,z]⟩
  have hj:rs.idxOf r < its.toArray.size:=by simp;omega
  refine call_meets F.slot_list_index ⟨_,e,rfl⟩ F.entry_list_index (F.args_list_index_2 _ _)
    (SeqAt.list_indexAt l its.toArray n none #[] (.ref q) ef (rs.idxOf r) hj (by omega) ?_ (fun m hm' hlt => ?_)) ⟨e,fun y hy => ?_,?_⟩
  · rw [List.getElem_toArray,ev _ (by omega)]
    apply decide_eq_true
    rw [List.getD_eq_getElem?_getD,List.getElem?_eq_getElem hid,List.getElem_idxOf hid];rfl
  · have hm2:m < its.length:=by simpa using hm'
    rw [List.getElem_toArray,ev m hm2]
    apply decide_eq_false
    intro z
    have h2:=List.not_of_lt_findIdx (p:=(· == r)) (xs:=rs) (i:=m) (by exact hlt)
    have h3:rs[m] = r:=by
      rw [List.getD_eq_getElem?_getD,List.getElem?_eq_getElem (show m < rs.length by omega)] at z
      exact z
    simp [h3] at h2
  · obtain⟨i,hi,rfl⟩:=List.getElem_of_mem (by simpa using hy:y∈its)
    obtain⟨a,ea,ha⟩:=at' i hi
    rw [ev i hi,ea]
    have pe:peq (gw (rs.getD i [])) (gw r)=some (decide (rs.getD i [] = r)):=by
      have hl':=hlen _ (gd i (by omega))
      simp only [gw,peq,u3 hl',Option.map_some,List.length_map,hl']
      simp
    exact BN (K:=X.K) (ρ:=[]) I.hok (d:=gw (rs.getD i [])) (k:=gw r) ⟨a,_,rfl,ha,rZ _⟩ ⟨q,_,rfl,hq,rZ _⟩ rfl rfl pe (by
      have:dep (gw (rs.getD i []))=1:=by show dep (.tup _)=1;rw [dep,uZ]
      rw [this]
      show X.A.in1.units + 1 < cLine
      have:X.A.in1.units≤X.A.units + 1:=by first|exact Nat.le_refl _|decide
      omega)
  · exact⟨.int (rs.idxOf r:Nat),H,I.tok _,⟨_,rfl⟩,Qh⟩
theorem DW (hu:X.A.units + 24 < cLine) {o e:Expr} {fo fe:EF} {apos cpos:Pos} (ho:ME X o fo) (he:ME X e fe) (hbase:attributeBase o "index" X.env (eval o X.env)=eval o X.env:=by rfl)
    (hfew:((backTo cpos (starEach [e] X.env)).all (fun x => !x.1) && (backToKw cpos (keywordEach [] X.env)).all (fun x=>x.1.isSome)
      && decide (([e] : List Expr).length + ([] : List Keyword).length + (if ([] : List Keyword).isEmpty then 0 else 1) < 30))=true:=by rfl)
    (hline:(apos.endLine == cpos.line)=true:=by rfl) (hs:starEach [e] X.env=(false,eval e X.env) :: starEach [] X.env:=by rfl) :
    ME X (.Call (.Attribute o "index" apos) [e] [] cpos) (jE fo fe):=by
  refine PE.imp (BD PySem.F.plainAttrs_list PySem.F.slot_list_index PySem.F.type_list_index (DV hu) ho (cJ he d6 hs) hbase hfew hline hs) fun σ H Q ⟨ρ,σd,hd,rs,pp⟩=>⟨ρ,σd,hd,rs,?_⟩
  unfold jE at pp
  refine (bj.bind (R:=rD X.K) pp).imp fun v H1 ⟨ρ1,d,hd1,e1,rs1,rv,p1⟩ => ?_
  cases d<;>try exact p1.elim
  rename_i n
  simp only [rD,RD] at rv
  obtain⟨a,ha,rfl⟩:=rv
  simp only at p1
  cases c1:hd1[n]? with
  | none=>rw [c1] at p1;exact p1.elim
  | some cell1 =>
    rw [c1] at p1
    cases cell1 with
    | dct l=>exact p1.elim
    | lst l1 =>
      obtain⟨vs,hv,_⟩:=rs1.hp.cel n _ a c1 ha
      simp only at p1
      refine⟨.inl ⟨rfl,vs,SqL.of hv⟩,ρ1,σd,hd1,rs1,(bj.bind (R:=rD X.K) p1).imp fun w H2 ⟨ρ2,k,hd2,e2,rs2,rw',p2⟩ => ?_⟩
      cases c:hd2[n]? with
      | none=>rw [c] at p2;exact p2.elim
      | some cell =>
        rw [c] at p2
        cases cell with
        | dct l=>exact p2.elim
        | lst l =>
          simp only at p2
          cases ci:gH l with
          | none=>rw [ci] at p2;exact p2.elim
          | some ns =>
            rw [ci] at p2
            simp only at p2
            obtain⟨vs2,hv2,rvs2⟩:=rs2.hp.cel n _ a c (e2.get ha)
            have hvs:=iV rvs2 ci
            split at p2
            · rename_i r ck
              split at p2
              · rename_i hz
                have hk:=iV (K:=X.K) (ρ := ρ2) (H:=H2) (l:=[k]) (vs:=[w]) ⟨w,[],rfl,rw',rfl⟩ ck
                obtain⟨q,rfl,hq⟩:=hk.get (i:=0) (v:=w) rfl
                exact⟨a,q,vs2,ns,r,rfl,rfl,hv2,hvs,hq,hz.1,hz.2.1,hz.2.2,p2.here rs2 (by simp only [rD,RD])⟩
              · exact p2.elim
            · exact p2.elim
end
end Fm
set_option linter.all false
namespace Fm
def eQ (a:EF) (lo hi:OF):EF:=fun σ h=>(a σ h).bind fun x h=>(lo σ h).bind fun i h=>(hi σ h).bind fun j h=>match x with
  | .tup l=>.ok (.tup (cut l i j)) h
  | _=>.bad
end Fm
set_option Elab.async false
set_option linter.all false
set_option maxRecDepth 100000
namespace HT
open PySem PySem.Spec PyProof.Rows L2
section
variable {prog:Program} {w:World} {A:Around} {E:Value→Shared→Prop} {s:Shared}
theorem getItem_tuple_whole {t sl:Addr}{items:Array Value}{vl vu:Value}{lo hi:Option Int}{Q:Value→Shared→Prop}(ht:IsTup s.heap t items)(hs:s.heap.IsSliceOf sl vl vu .none)(pl:IsPart vl lo)(pu:IsPart vu hi)
    (hw:sIx items.size 0 lo=0∧sIx items.size items.size hi=items.size) (h:Q (.ref t) s):wpAny (model prog w) A (getItem (.ref t) (.ref sl)) Q E s:=by
  obtain⟨os,hos,hcs,hds⟩:=id hs
  have hTs:s.TypeIs (.ref sl) "slice" := ⟨os,hos,hcs⟩
  unfold getItem
  try with_reducible refine wpAny_holding ?_
  first|refine wpAny_bind (wpAny_pure ?_)|skip
  refine wpAny_bind (wpAny_sequenceKey ht.typeIs (by decide) ?_)
  refine wpAny_bind (wpAny_callSpecial?_slot (name:=Str.ofString "__getitem__") ht.typeIs PyProof.Rows.slot_tuple_getitem
    (wpAny_call_entry PyProof.Rows.slot_tuple_getitem ht.typeIs entry_tuple_getitem ?_ (args_tuple_getitem _ _)))
  show wpAny _ _ (Builtin.Tuple.tupleItemsOf (.ref t) >>= _) _ _ s
  refine wpAny_bind (tupleItemsOf_ ht ?_)
  refine wpAny_bind (wpAny_typeOf hTs ?_)
  rw [if_pos (by decide)]
  refine wpAny_bind (gG hs pl pu ?_)
  have hyes:((((sIx items.size 0 lo:Nat):Int) == 0 && (1:Int) == 1 && (sIx items.size items.size hi - sIx items.size 0 lo) == items.size)=true):=by
    rw [hw.1,hw.2];simp
  show wpAny _ _ (if (((sIx items.size 0 lo:Nat):Int) == 0 && (1:Int) == 1 && (sIx items.size items.size hi - sIx items.size 0 lo) == items.size)=true then _ else _) _ _ s
  rw [if_pos hyes]
  refine wpAny_bind ?_
  unfold Builtin.Tuple.tupleIsExact
  refine wpAny_bind (wpAny_typeOf ht.typeIs (wpAny_pure ?_))
  rw [if_pos (by decide)]
  refine wpAny_bind (wpAny_rule ?_)
  first
    | exact wpAny_pure ⟨_,rfl,wpAny_pure h⟩
    | exact wpAny_bind (wpAny_pure ⟨_,rfl,wpAny_pure h⟩)
    | exact wpAny_bind (wpAny_pure (wpAny_pure ⟨_,rfl,wpAny_pure h⟩))
end
end HT
namespace Fm
open PySem PySem.Spec L2 PySem.W PyProof.Rows
section
variable {X:Cx} {pos p:Pos}
def G5 (K:PySem.W.Frag):V→Option Int→Option Int→Hp→VK→Prop:=fun x lo hi H Q=>∃ a xs,x=.ref a∧SqT K H a xs ∧
  ((HT.sIx xs.length 0 lo=0∧HT.sIx xs.length xs.length hi=xs.length)→Q (.ref a) H) ∧
  (¬ (HT.sIx xs.length 0 lo=0∧HT.sIx xs.length xs.length hi=xs.length) → ∀ p,H p=none→Q (.ref p) (upd H p (.tup (kU xs lo hi))))
theorem DX:SlR X (G5 X.K):=by
  intro pins s σ H x v vl vu lo hi sl Q I rx hs pl pu h
  obtain⟨a,xs,rfl,hx,q1,q2⟩:=h
  by_cases hw:HT.sIx xs.length 0 lo=0∧HT.sIx xs.length xs.length hi=xs.length
  · cases rx
    obtain⟨its,r,ht,hz⟩:=I.tuple hx
    have hlen:its.toArray.size=xs.length:=by rw [List.size_toArray];exact r.length.symm
    refine⟨"tuple",_,PyProof.Rows.slot_tuple_getitem.lookup,ht.typeIs,?_⟩
    exact HT.getItem_tuple_whole ht hs pl pu (by rw [hlen];exact hw) ⟨.ref a,H,I,rfl,q1 hw⟩
  · exact BA pins s σ H _ v vl vu lo hi sl Q I rx hs pl pu ⟨a,xs,rfl,hx,hw,q2 hw⟩
theorem Ap {l:List D}{i j:Option Int}(h:sIx l.length 0 i=0∧sIx l.length l.length j=l.length):cut l i j=l:=by
  unfold cut
  rw [h.1,h.2];simp
theorem Aq {a:Expr}{fa:EF}{lo hi:Option Expr}{fl fh:OF}{p2:Pos}(ha:ME X a fa)(hl:MO X lo fl)(hh:MO X hi fh):ME X (.Subscript a (.Slice lo hi none p2) pos) (eQ fa fl fh):=by
  refine PE.imp (uK DX ha hl hh) fun σ H Q ⟨ρ,σd,hd,rs,pp⟩ => ?_
  unfold eQ at pp
  refine⟨ρ,σd,hd,rs,(bj.bind (R:=rD X.K) pp).imp fun v H1 ⟨ρ1,d,hd1,e1,rs1,rv,p1⟩ => ?_⟩
  refine⟨ρ1,σd,hd1,rs1,(bj.bind (R:=rO) p1).imp fun o1 H2 ⟨ρ2,o1',hd2,e2,rs2,q2,p2⟩ => ?_⟩
  cases q2
  refine⟨ρ2,σd,hd2,rs2,(bj.bind (R:=rO) p2).imp fun o2 H3 ⟨ρ3,o2',hd3,e3,rs3,q3,p3⟩ => ?_⟩
  cases q3
  have rv3:=(rv.mono (rs1.hp.kp e2)).mono (rs2.hp.kp e3)
  cases d with
  | tup l =>
    simp only at p3
    simp only [RD] at rv3
    obtain⟨q,vs,rfl,hq,rvs⟩:=rv3
    have e:∀ (n d:Nat) (o:Option Int),Fm.sIx n d o=HT.sIx n d o:=fun n d o=>by cases o<;>rfl
    refine⟨q,vs,rfl,SqT.of hq,fun hw => ?_,fun _ q' hq' => ?_⟩
    · rw [← rvs.length,← e,← e] at hw
      rw [Ap hw] at p3
      exact p3.here rs3 (by simp only [rD,RD];exact⟨q,vs,rfl,hq,rvs⟩)
    · have sm:=cF (o:=HO.tup (kU vs o1 o2)) hq'
      exact p3.at (Ext.same sm) (rs3.same sm) (by simp only [rD,RD];exact⟨q',_,rfl,bB,(rV rvs).mono (Kp.same sm)⟩)
  | _=>exact p3.elim
def DY (to:TE) (t:L2.St→Hp→(List V→Hp→Prop)→Prop):TE:=fun σ H Q=>to σ H fun x H1=>∃ a xs,x=.ref a∧H1 a=some (.tup xs)∧t σ H1 fun vs H2=>∃ y,vs=[y]∧H2 a=some (.tup xs)∧fN y=true∧xs.all fN=true∧Q (.int (xs.countP fun z=>eqV z y)) H2
theorem Ar {o e:Expr}{apos cpos:Pos}{to:TE}{t:L2.St→Hp→(List V→Hp→Prop)→Prop}(ho:PE X o to)(ha:PA X [e] t)
    (hbase:attributeBase o "count" X.env (eval o X.env)=eval o X.env:=by rfl)
    (hfew:((backTo cpos (starEach [e] X.env)).all (fun x => !x.1) && (backToKw cpos (keywordEach [] X.env)).all (fun x=>x.1.isSome)
      && decide (([e] : List Expr).length + ([] : List Keyword).length + (if ([] : List Keyword).isEmpty then 0 else 1) < 30))=true:=by rfl)
    (hline:(apos.endLine == cpos.line)=true:=by rfl) (hs:starEach [e] X.env=(false,eval e X.env) :: starEach [] X.env:=by rfl) (hplain:(backTo cpos (starEach [] X.env)).any (·.1)=false:=by rfl) :
    PE X (.Call (.Attribute o "count" apos) [e] [] cpos) (DY to t):=by
  intro pins s σ H Q I h
  refine wpAny_Call_method_late hbase hfew hline rfl (thn (ho pins s σ H _ I h) fun v s1 ⟨x,H1,I1,r1,a,xs,ex,hx,q1⟩ => ?_)
  subst ex
  obtain rfl:v=Value.ref a:=r1
  obtain⟨its,ob,c,rv,ho',hc,hd,hn⟩:=zv I1.hok hx
  refine⟨"tuple", "tuple.count",PySem.F.plainAttrs_tuple,PySem.F.slot_tuple_count,PySem.F.type_tuple_count,⟨ob,ho',hc⟩,(fun b q=>by cases q;exact⟨ob,ho',hn⟩),?_⟩
  have hA:=ha cpos pins s1 σ H1 _ I1 q1
  rw [hs] at hA ⊢
  refine Calls.callWith_builtin (by show (false || (backTo cpos (starEach [] X.env)).any (·.1))=false;rw [hplain]<;>rfl) (Calls.evalArgs_plain ?_)
  refine thn hA fun us s2 ⟨vs,H2,I2,r2,y,ey,hx2,fy,fs,q⟩ => ?_
  subst ey
  obtain⟨u,rfl,ru⟩:=r2.one
  obtain⟨its2,ob2,c2,rv2,ho2,hc2,hd2,hn2⟩:=zv I2.hok hx2
  obtain⟨cc,dd,dt,sl⟩:=ob2
  replace hc2:cc=.type "tuple" := hc2
  replace hd2:dt=.seq its2.toArray c2:=hd2
  subst hc2 hd2
  refine call_meets F.slot_tuple_count ⟨_,ho2,rfl⟩ F.entry_tuple_count (F.args_tuple_count_2 _ _) (SeqAt.tuple_countAt a its2.toArray c2 dd sl u (eqU y)) ⟨ho2,fun w hw=>fO ru fy rv2 fs w (by simpa using hw),?_⟩
  refine⟨.int _,H2,I2.tok _,⟨_,rfl⟩,?_⟩
  rw [show (its2.toArray.toList.countP (eqU y))=xs.countP fun z=>eqV z y from xo rv2 fs]
  exact q
theorem As {o e:Expr} {fo fe:EF} {apos cpos:Pos} (ho:ME X o fo) (he:ME X e fe) (hbase:attributeBase o "count" X.env (eval o X.env)=eval o X.env:=by rfl)
    (hfew:((backTo cpos (starEach [e] X.env)).all (fun x => !x.1) && (backToKw cpos (keywordEach [] X.env)).all (fun x=>x.1.isSome)
      && decide (([e] : List Expr).length + ([] : List Keyword).length + (if ([] : List Keyword).isEmpty then 0 else 1) < 30))=true:=by rfl)
    (hline:(apos.endLine == cpos.line)=true:=by rfl) (hs:starEach [e] X.env=(false,eval e X.env) :: starEach [] X.env:=by rfl) (hplain:(backTo cpos (starEach [] X.env)).any (·.1)=false:=by rfl) :
    ME X (.Call (.Attribute o "count" apos) [e] [] cpos) (fz fo fe):=by
  refine PE.imp (Ar ho (cJ he d6 hs) hbase hfew hline hs hplain) fun σ H Q ⟨ρ,σd,hd,rs,pp⟩=>⟨ρ,σd,hd,rs,?_⟩
  unfold fz at pp
  refine (bj.bind (R:=rD X.K) pp).imp fun v H1 ⟨ρ1,d,hd1,e1,rs1,rv,p1⟩ => ?_
  cases d with
  | tup l =>
    simp only at p1
    have rv0:=rv
    simp only [rD,RD] at rv
    obtain⟨q,vs,rfl,hq,rvs⟩:=rv
    refine⟨q,vs,rfl,hq,ρ1,σd,hd1,rs1,(bj.bind (R:=rD X.K) p1).imp fun w H2 ⟨ρ2,k,hd2,e2,rs2,rw',p2⟩ => ?_⟩
    split at p2
    · rename_i hf
      rw [Bool.and_eq_true] at hf
      have kp:=rs1.hp.kp e2
      have rvs2:=rvs.mono kp
      have hq2:H2 q=some (.tup vs):=kp.tup q vs hq
      refine⟨w,rfl,hq2,kv rw' hf.1,jv rvs2 hf.2,?_⟩
      rw [← lg rw' hf.1 rvs2 hf.2]
      exact p2.here rs2 (by simp only [rD,RD])
    · exact p2.elim
  | _=>exact p1.elim
end
end Fm
namespace Fm
theorem lp {h h':Hd}{d:D}(e:h'.length≤h.length):letGo h (.ok d h')=.ok d h':=by
  simp only [letGo];split
  · rw [List.take_of_length_le e]
  · rfl
@[simp] theorem bc {h:Hd} {d:D}:letGo h (.ok d h)=.ok d h:=lp (Nat.le_refl _)
@[simp] theorem Gm {h:Hd} {d:D} {n:Nat} {c:dm}:letGo h (.ok d (h.set n c))=.ok d (h.set n c):=lp (by simp)
theorem lq {h h':Hd}{d:D}(e:pure? d=false):letGo h (.ok d h')=.ok d h':=by
  simp [letGo,e]
@[simp] theorem nS {h h':Hd} {n:Nat}:letGo h (.ok (.ref n) h')=.ok (.ref n) h':=lq rfl
theorem hZ {h g:Hd}{d:D}(e:pure? d=true):letGo h (.ok d (h++g))=.ok d h:=by
  have:BG h (h++g):=fun n c hn hc=>.inl (by rwa [List.getElem?_append_left hn] at hc)
  simp [letGo,e,this]
structure Web where
  ties:List (List (Nat × Int))
  bars:List Int
  stays:List (Option Int)
def bm:Option Int→D
  | none=>.non
  | some i=>.int i
def cH (p:Nat × Int):D:=.tup [.int p.1,.int p.2]
def kx (r:List (Nat × Int)):D:=.tup (r.map cH)
def aj (l:List Int):D:=.tup (l.map .int)
def Web.enc (w:Web):D:=.tup [.tup (w.ties.map kx),.tup (w.bars.map .int),.tup (w.stays.map bm)]
structure Web.Ok (w:Web) (n:Nat):Prop where
  t:w.ties.length=n
  b:w.bars.length=n
  s:w.stays.length=n
  lt:∀ r∈w.ties,∀ p∈r,p.1 < n
  sz:n≤1000
structure cZ (w:Web) (n:Nat) (s:List Int):Prop where
  len:s.length=n
  op:∀ x∈s,x=0∨x=1
  st:∀ (i:Nat) (x:Int),w.stays[i]? = some (some x)→s[i]? = some x
theorem cK {l:List D}{i:Nat}{d:D}(e:l[i]? = some d):atI l (i:Int)=some d:=by
  have:=(List.getElem?_eq_some_iff.mp e).1
  simp [atI,ixN,this]
  simpa [List.getElem?_eq_getElem this] using e
@[simp] theorem HI (x:D) (l:List D):atI (x :: l) 0=some x:=cK (i:=0) rfl
theorem bw {g:Option Nat}{all:List D}{tg:GF}{cs:List TF}{e:EF}{h:Hd}(I:Sd→Prop)(p:D→Bool)(f:D→D)(hh:jT g all h) :
    ∀ {xs:List D} {σ:Sd},(∀ x∈xs,∀ σ,I σ → ∃ σ',tg x σ = some σ'∧I σ'∧iA cs σ' h=.ok (p x) h∧(p x=true→e σ' h=.ok (f x) h))→I σ →
      bX g all tg cs e xs σ h=.ok ((xs.filter p).map f) h
  | [],_,_,_=>by simp [bX,hh]
  | x :: xs,σ,st,i=>by
    obtain⟨σ',h1,h2,h3,h4⟩:=st x (by simp) σ i
    have ih:=bw I p f hh (xs:=xs) (σ := σ') (fun y hy=>st y (by simp [hy])) h2
    cases hp:p x with
    | true=>simp [bX,hh,h1,h3,hp,h4 hp,ih]
    | false=>simp [bX,hh,h1,h3,hp,ih]
theorem qC {g:Option Nat}{all:List D}{tg:GF}{b:SF}{rest:List D}(P:Nat→Sd→Hd→Prop)(hh:∀ i σ h,P i σ h→jT g all h) :
    ∀ {xs:List D} {k:Nat} {σ:Sd} {h:Hd},(∀ (i:Nat) x σ h,xs[i]? = some x→P (k + i) σ h → ∃ σ',tg x σ = some σ' ∧ ∃ σ'' h'',b σ' h=.nx σ'' h''∧P (k + i + 1) σ'' h'')→P k σ h →
      ∃ σ' h',iQ g all tg b (xs++rest) σ h=iQ g all tg b rest σ' h'∧P (k + xs.length) σ' h'
  | [],k,σ,h,_,p=>⟨σ,h,rfl,by simpa using p⟩
  | x :: xs,k,σ,h,st,p=>by
    obtain⟨σ',h1,σ2,h2,h3,h4⟩:=st 0 x σ h (by simp) (by simpa using p)
    have st':∀ (i:Nat) y σ h,xs[i]? = some y→P (k + 1 + i) σ h → ∃ σ',tg y σ = some σ' ∧ ∃ σ'' h'',b σ' h=.nx σ'' h''∧P (k + 1 + i + 1) σ'' h'':=fun i y σ h e q=>by
      have e1:k + 1 + i=k + (i + 1):=by omega
      rw [e1] at q ⊢
      exact st (i + 1) y σ h (by simpa using e) q
    obtain⟨σ3,h5,h6,h7⟩:=qC P hh st' (by simpa using h4)
    refine⟨σ3,h5,?_,?_⟩
    · rw [← h6,List.cons_append,iQ,if_pos (hh _ _ _ p),h1]
      simp only [h3]
    · have e1:k + (x :: xs).length=k + 1 + xs.length:=by simp;omega
      rw [e1];exact h7
theorem b7 {g:Option Nat}{all:List D}{tg:GF}{b:SF}(P:Nat→Sd→Hd→Prop)(hh:∀ i σ h,P i σ h→jT g all h)
    {xs:List D} {k:Nat} {σ:Sd} {h:Hd} (st:∀ (i:Nat) x σ h,xs[i]? = some x→P (k + i) σ h → ∃ σ',tg x σ = some σ' ∧ ∃ σ'' h'',b σ' h=.nx σ'' h''∧P (k + i + 1) σ'' h'') (p:P k σ h) :
      ∃ σ' h',iQ g all tg b xs σ h=.nx σ' h'∧P (k + xs.length) σ' h':=by
  obtain⟨σ',h',q,z⟩:=qC (rest:=[]) P hh st p
  rw [List.append_nil] at q
  exact⟨σ',h',q.trans (by unfold iQ;exact if_pos (hh _ _ _ z)),z⟩
theorem f6 {g:Option Nat}{all:List D}{tg:GF}{e:EF}(P:Nat→Sd→Hd→Prop)(V:Nat→D→Prop)(hh:∀ i σ h,P i σ h→jT g all h) :
    ∀ {xs:List D} {k:Nat} {σ:Sd} {h:Hd},(∀ (i:Nat) x σ h,xs[i]? = some x→P (k + i) σ h → ∃ σ',tg x σ = some σ' ∧ ∃ d h'',e σ' h=.ok d h''∧V (k + i) d∧P (k + i + 1) σ' h'')→P k σ h →
      ∃ ds h',bX g all tg [] e xs σ h=.ok ds h'∧ds.length=xs.length∧(∀ (i:Nat) d,ds[i]? = some d→V (k + i) d) ∧ ∃ σ',P (k + xs.length) σ' h'
  | [],k,σ,h,_,p=>⟨[],h,by simp [bX,hh _ _ _ p],rfl,by simp,σ,by simpa using p⟩
  | x :: xs,k,σ,h,st,p=>by
    obtain⟨σ',h1,d,h2,h3,hv,h4⟩:=st 0 x σ h (by simp) (by simpa using p)
    have st':∀ (i:Nat) y σ h,xs[i]? = some y→P (k + 1 + i) σ h → ∃ σ',tg y σ = some σ' ∧ ∃ d h'',e σ' h=.ok d h''∧V (k + 1 + i) d∧P (k + 1 + i + 1) σ' h'':=fun i y σ h e q=>by
      have e1:k + 1 + i=k + (i + 1):=by omega
      rw [e1] at q ⊢
      exact st (i + 1) y σ h (by simpa using e) q
    obtain⟨ds,h5,h6,hl,hvs,σ3,h7⟩:=f6 P V hh st' (by simpa using h4)
    refine⟨d :: ds,h5,?_,by simp [hl],fun i d' hd => ?_,σ3,?_⟩
    · simp [bX,hh _ _ _ p,h1,iA,h3,h6]
    · cases i with
      | zero=>simp at hd;subst hd;simpa using hv
      | succ i =>
        have:=hvs i d' (by simpa using hd)
        rwa [show k + 1 + i=k + (i + 1) by omega] at this
    · have e1:k + (x :: xs).length=k + 1 + xs.length:=by simp;omega
      rw [e1];exact h7
theorem ia {α : Type}{n:Nat}{ds:List α}{f:Nat → α}(hl:ds.length=n)(h:∀ (i:Nat) d,ds[i]? = some d→d=f i):ds=(List.range n).map f:=by
  apply List.ext_getElem?
  intro i
  by_cases hi:i < n
  · have:ds[i]? = some (ds[i]'(by omega)):=by simp [hl,hi]
    rw [this,h i _ this]
    simp [hi]
  · simp [hi,hl]
theorem gm {t:TF}{b:SF}:∀ {n:Nat} {σ:Sd} {h:Hd} {r:Out},cL t b n σ h=r→r ≠ .bad → ∀ {m:Nat},n≤m→cL t b m σ h=r
  | 0,σ,h,r,e,hr,m,_=>by simp only [cL] at e;exact absurd e.symm hr
  | n + 1,σ,h,r,e,hr,m,hm=>by
    cases m with
    | zero=>omega
    | succ m =>
      simp only [cL] at e ⊢
      cases c:t σ h with
      | bad=>rw [c] at e;exact e
      | exc x h1=>rw [c] at e;exact e
      | ok cb h1 =>
        rw [c] at e
        cases cb with
        | false=>exact e
        | true =>
          simp only at e ⊢
          cases c2:b σ h1 with
          | nx σ2 h2=>rw [c2] at e;exact gm e hr (by omega)
          | ct σ2 h2=>rw [c2] at e;exact gm e hr (by omega)
          | bk σ2 h2=>rw [c2] at e;exact e
          | rt d h2=>rw [c2] at e;exact e
          | exc x σ2 h2=>rw [c2] at e;exact e
          | bad=>rw [c2] at e;exact e
theorem qD {t:TF}{b:SF}{n:Nat}{σ:Sd}{h:Hd}{r:Out}(e:cL t b n σ h=r)(hr:r ≠ .bad):kY t b σ h=r:=by
  have ex:∃ n,cL t b n σ h ≠ .bad:=⟨n,by rw [e];exact hr⟩
  have hf:DI t b σ h=Classical.choose ex:=by simp [DI,ex]
  have h2:=Classical.choose_spec ex
  unfold kY
  rw [hf]
  by_cases hle:n≤Classical.choose ex
  · exact gm e hr hle
  · have:=gm (n:=Classical.choose ex) rfl h2 (m:=n) (by omega)
    rw [← this,e]
end Fm
set_option linter.all false
namespace Fm
theorem aD {F:Fn}{r:LF}{σ:Sd}{h h1 h':Hd}{ds:List D}{d:D}(a:r σ h=.ok ds h1)(b:F ds h1=.ok d h'):au F r σ h=.ok d h':=by
  show Res.bind _ _=_;rw [a];exact b
theorem bd {a:EF}{r:LF}{σ:Sd}{h h1 h2:Hd}{d:D}{ds:List D}(p:a σ h=.ok d h1)(q:r σ h1=.ok ds h2):af a r σ h=.ok (d :: ds) h2:=by
  show Res.bind _ _=_;rw [p,aT,q];rfl
theorem ay {g:O2}{a b:EF}{σ:Sd}{h h1 h2 h3:Hd}{x y z:D}(p:a σ h=.ok x h1)(q:b σ h1=.ok y h2)(r:g x y h2=.ok z h3):ak g a b σ h=.ok z h3:=by
  show Res.bind _ _=_;rw [p,aT,q];exact r
theorem jX {r:LF}{σ:Sd}{h h':Hd}{xs:List D}(p:r σ h=.ok xs h')(q:xs.length≤SZ:=by exact of_decide_eq_true rfl):fQ r σ h=.ok (.tup xs) h':=by
  show Res.bind _ _=_;rw [p];exact if_pos q
theorem r6 {r:LF}{σ:Sd}{h h':Hd}{xs:List D}(p:r σ h=.ok xs h')(q:xs.length≤SZ:=by exact of_decide_eq_true rfl):bA r σ h=.ok (.ref h'.length) (h'++[.lst xs]):=by
  show Res.bind _ _=_;rw [p];exact if_pos q
theorem Cb {a:LF}{b:EF}{σ:Sd}{h h1 h2:Hd}{l:List D}{i:Int}{d:D}(p:a σ h=.ok l h1)(q:b σ h1=.ok (.int i) h2)(r:atI l i=some d):fIx a b σ h=.ok d h2:=by
  show Res.bind _ _=_;rw [p,aT,q];simp only [aT,r]
theorem aY {a b:EF}{σ:Sd}{h h1 h2:Hd}{x:D}{l:List D}{i:Int}{d:D}(p:a σ h=.ok x h1)(q:b σ h1=.ok (.int i) h2)(s:fR h2 x=some l)(r:atI l i=some d):fAt a b σ h=.ok d h2:=by
  show ak _ _ _ _ _=_;exact ay p q (by simp only [oAt,s,r])
theorem bP {h:Hd}{n:Nat}{l:List D}(p:h[n]? = some (.lst l)):fR h (.ref n)=some l:=by simp only [fR,p]
theorem aZ {i:Nat}{e:EF}{σ:Sd}{h h':Hd}{d:D}(p:e σ h=.ok d h'):aK (gN i) e σ h=.nx (σ.set i (some d)) h':=by
  show outE _ _ _=_;rw [p];rfl
theorem bo {e:EF}{σ:Sd}{h h':Hd}{d:D}(p:e σ h=.ok d h'):ba e σ h=.rt d h':=by
  show outE _ _ _=_;rw [p];rfl
theorem ib {e:EF}{σ:Sd}{h h':Hd}{d:D}(p:e σ h=.ok d h'):eC e σ h=.nx σ h':=by
  show outE _ _ _=_;rw [p];rfl
theorem ky {t:TF}{a b:SF}{σ:Sd}{h h1:Hd}(p:t σ h=.ok true h1):sIf t a b σ h=a σ h1:=by
  unfold sIf;rw [p];rfl
theorem d0 {t:TF}{a b:SF}{σ:Sd}{h h1:Hd}(p:t σ h=.ok false h1):sIf t a b σ h=b σ h1:=by
  unfold sIf;rw [p];rfl
theorem bg {a:EF}{σ:Sd}{h h':Hd}{b:Bool}(p:a σ h=.ok (.bl b) h'):tE a σ h=.ok b h':=by
  show asB _=_;rw [p];rfl
theorem eF {t:TF}{σ:Sd}{h h':Hd}{b:Bool}(p:t σ h=.ok b h'):dZ t σ h=.ok (!b) h':=by
  show Res.bind _ _=_;rw [p];rfl
theorem jY {t u:TF}{σ:Sd}{h h1 h':Hd}{b:Bool}(p:t σ h=.ok true h1)(q:u σ h1=.ok b h'):iJ t u σ h=.ok b h':=by
  show Res.bind _ _=_;rw [p];exact q
theorem se {t u:TF}{σ:Sd}{h h1:Hd}(p:t σ h=.ok false h1):iJ t u σ h=.ok false h1:=by
  show Res.bind _ _=_;rw [p];rfl
theorem iD {t u:TF}{σ:Sd}{h h1 h':Hd}{b:Bool}(p:t σ h=.ok false h1)(q:u σ h1=.ok b h'):tOr t u σ h=.ok b h':=by
  show Res.bind _ _=_;rw [p];exact q
theorem Cc {t u:TF}{σ:Sd}{h h1:Hd}(p:t σ h=.ok true h1):tOr t u σ h=.ok true h1:=by
  show Res.bind _ _=_;rw [p];rfl
theorem qE {i j:Int}{h:Hd}:oEq (.int i) (.int j) h=.ok (.bl (decide (i=j))) h:=rfl
theorem gy {a:LF}{σ:Sd}{h h1:Hd}{l:List D}(p:a σ h=.ok l h1):ft a σ h=.ok (.int l.length) h1:=by
  show Res.bind _ _=_;rw [p];rfl
theorem dJ {a:EF}{σ:Sd}{h h1:Hd}{x:D}{l:List D}(p:a σ h=.ok x h1)(s:fR h1 x=some l):lOf a σ h=.ok l h1:=by
  show Res.bind _ _=_;rw [p];simp only [aT,s]
theorem iY {x e:EF}{σ:Sd}{h h1 h2:Hd}{d:D}{n:Nat}{l l0:List D}(p:x σ h=.ok (.ref n) h1)(q:h1[n]? = some (.lst l0))(r:e σ h1=.ok d h2)(s:h2[n]? = some (.lst l))(t:l.length < SZ):eD x e σ h=.ok .non (h2.set n (.lst (l++[d]))):=by
  simp only [eD,p,aT,q,r,FB,s,if_pos t]
theorem xu {i j:Int}{h:Hd}(e:i=j):oEq (.int i) (.int j) h=.ok (.bl true) h:=by rw [qE,decide_eq_true e]
theorem sf {i j:Int}{h:Hd}(e : ¬ i=j):oEq (.int i) (.int j) h=.ok (.bl false) h:=by rw [qE,decide_eq_false e]
theorem FU {i j:Int}{h:Hd}(e:i < j):oLt (.int i) (.int j) h=.ok (.bl true) h:=by show Res.ok (D.bl (decide (i < j))) h=_;rw [decide_eq_true e]
theorem FV {i j:Int}{h:Hd}(p:(sml i || sml j)=true):eV (.int i) (.int j) h=.ok (.int (i * j)) h:=by
  show (if (sml i || sml j)=true then _ else _)=_
  exact if_pos p
theorem sg {i j:Int}{h:Hd}(p:sml i=true):eV (.int i) (.int j) h=.ok (.int (i * j)) h:=FV (by rw [p];rfl)
theorem u4 {t:TF}{σ:Sd}{h h':Hd}{b:Bool}(p:t σ h=.ok b h'):fT t σ h=.ok (.bl b) h':=by
  show Res.bind _ _=_;rw [p];rfl
theorem nk {r:LF}{σ:Sd}{h0 h g:Hd}{xs:List D}{A:Nat}(hA:A=h0.length)(p:r σ h=.ok xs (h0++g))(q:xs.length≤SZ):bA r σ h=.ok (.ref (A + g.length)) (h0++(g++[.lst xs])):=by
  rw [r6 p q,hA,List.length_append,List.append_assoc]
theorem si {h0 g:Hd}{A:Nat}(hA:A=h0.length)(k:Nat)(c:dm):(h0++g).set (A + k) c=h0++g.set k c:=by
  subst hA
  rw [List.set_append_right _ _ (by omega)]
  congr 2;omega
theorem cu {h0 g:Hd}{A:Nat}(hA:A=h0.length)(k:Nat):(h0++g)[A + k]? = g[k]? := by
  subst hA
  rw [List.getElem?_append_right (by omega),Nat.add_sub_cancel_left]
theorem dv {h0:Hd}{j:Nat}{c:dm}(g:Hd)(e:h0[j]? = some c):(h0++g)[j]? = some c:=(List.getElem?_append_left (List.getElem?_eq_some_iff.mp e).1).trans e
theorem f7 {a:EF}{σ:Sd}{h h1:Hd}{n:Nat}(p:a σ h=.ok (.int n) h1)(hn:n≤1000):bM a σ h=.ok ((List.range n).map (fun k:Nat=>D.int k),none) h1:=by
  show Res.bind _ _=_
  rw [p]
  exact if_pos ⟨Int.le_trans (by decide) (Int.natCast_nonneg n),Int.le_trans (Int.ofNat_le.mpr hn) (by decide)⟩
theorem jZ {it:IF}{tg:GF}{b:SF}{σ:Sd}{h h1:Hd}{l:List D}{g:Option Nat}{o:Out}(p:it σ h=.ok (l,g) h1)(q:iQ g l tg b l σ h1=o):gI it tg b σ h=o:=by
  unfold gI;rw [p];exact q
theorem ek {nl:Nat}{caps:List Nat}{it:IF}{tg:GF}{cs:List TF}{e:EF}{σ:Sd}{h h1 h2:Hd}{l ds:List D}{g:Option Nat}(p:it σ h=.ok (l,g) h1)(q:bX g l tg cs e l (fU nl caps σ) h1=.ok ds h2):bz nl caps it tg cs e σ h=.ok ds h2:=by
  show Res.bind _ _=_;rw [p];exact q
theorem Cd {a:EF}{σ:Sd}{h h1:Hd}{n:Nat}{l:List D}(p:a σ h=.ok (.ref n) h1)(q:h1[n]? = some (.lst l)):cX .list a σ h=.ok (.bl true) h1:=by
  simp only [cX,p,aT,Ag,q];rfl
theorem nn {a:EF}{σ:Sd}{h h1:Hd}{n:Nat}{l:List D}(p:a σ h=.ok (.ref n) h1)(q:h1[n]? = some (.lst l)):dq a σ h=.ok (l,some n) h1:=by
  simp only [dq,p,aT,q]
theorem iZ {a:EF}{σ:Sd}{h h1:Hd}{b:Bool}(p:a σ h=.ok (.bl b) h1):iK a σ h=.ok (.int (b2i b)) h1:=by
  simp only [iK,p,aT]
theorem xv {a:LF}{σ:Sd}{h h1:Hd}{l:List D}{is:List Int}(p:a σ h=.ok l h1)(q:fS l=some is):jS a σ h=.ok (.int is.sum) h1:=by
  simp only [jS,p,aT,q]
theorem jx {a:LF}{σ:Sd}{h h1:Hd}{l:List D}(p:a σ h=.ok l h1):cC a σ h=.ok (.tup l) h1:=by
  show Res.bind _ _=_;rw [p];rfl
theorem sj {i j:Int}{h:Hd}(e:j < i):oGt (.int i) (.int j) h=.ok (.bl true) h:=by show Res.ok (D.bl (decide (j < i))) h=_;rw [decide_eq_true e]
theorem sk {i j:Int}{h:Hd}(e : ¬ j < i):oGt (.int i) (.int j) h=.ok (.bl false) h:=by show Res.ok (D.bl (decide (j < i))) h=_;rw [decide_eq_false e]
theorem eR {h:Hd}{A:Nat}(hA:A=h.length)(c:dm):(h++[c])[A]? = some c:=by rw [hA];exact List.getElem?_concat_length
theorem sn {h:Hd}{A:Nat}(hA:A=h.length)(c d:dm):(h++[c]).set A d=h++[d]:=by
  have:=si (g:=[c]) hA 0 d
  rwa [Nat.add_zero] at this
theorem dG {r:LF}{σ:Sd}{h h':Hd}{xs:List D}{A:Nat}(hA:A=h'.length)(p:r σ h=.ok xs h')(q:xs.length≤SZ):bA r σ h=.ok (.ref A) (h'++[.lst xs]):=by rw [hA];exact r6 p q
theorem zE {l:List Int}{i:Nat}(h:i < l.length):atI (l.map D.int) (i:Int)=some (.int (l.getD i 0)):=cK (by rw [List.getElem?_map,List.getElem?_eq_getElem h,List.getD_eq_getElem?_getD,List.getElem?_eq_getElem h];rfl)
theorem sr {t:TF}{a b:EF}{σ:Sd}{h h1:Hd}(p:t σ h=.ok true h1):fIf t a b σ h=a σ h1:=by
  show Res.bind _ _=_;rw [p];rfl
theorem xw {t:TF}{a b:EF}{σ:Sd}{h h1:Hd}(p:t σ h=.ok false h1):fIf t a b σ h=b σ h1:=by
  show Res.bind _ _=_;rw [p];rfl
theorem aE {a b:SF}{σ σ':Sd}{h h':Hd}(e:a σ h=.nx σ' h'):aB a b σ h=b σ' h':=by simp only [aB,e]
theorem nT {a b:SF}{σ:Sd}{h h':Hd}{d:D}(e:a σ h=.rt d h'):aB a b σ h=.rt d h':=by simp only [aB,e]
theorem bZ {np n:Nat}{b:SF}{ds:List D}{σ:Sd}{h h':Hd}{d:D}(hl:ds.length=np)(st:(ds.map some++List.replicate (n - ds.length) none:Sd) = σ)(e:b σ h=.rt d h'):bJ np n b ds h=letGo h (.ok d h'):=by
  unfold bJ runB;rw [if_pos hl,st,e]
theorem G6 {np n:Nat}{b:SF}{ds:List D}{σ σ':Sd}{h h':Hd}(hl:ds.length=np)(st:(ds.map some++List.replicate (n - ds.length) none:Sd) = σ)(e:b σ h=.nx σ' h'):bJ np n b ds h=letGo h (.ok .non h'):=by
  unfold bJ runB;rw [if_pos hl,st,e]
theorem qF {t:TF}{σ:Sd}{h:Hd}{b:Bool}(p:t σ h=.ok b h):iA [t] σ h=.ok b h:=by
  simp only [iA,p,aT];cases b<;>rfl
theorem i0 {a:EF}{σ:Sd}{h h1:Hd}{l:List D}(p:a σ h=.ok (.tup l) h1):dq a σ h=.ok (l,none) h1:=by
  show Res.bind _ _=_;rw [p];rfl
theorem Ce {a:LF}{σ:Sd}{h h1:Hd}{l:List D}{bs:List Bool}(p:a σ h=.ok l h1)(q:iP l=some bs):Af a σ h=.ok (.bl (bs.all id)) h1:=by
  simp only [Af,p,aT,q]
theorem nU (a b:Int)(h:Hd):oNe (.int a) (.int b) h=.ok (.bl (!decide (a=b))) h:=rfl
theorem bS {a b:EF}{σ:Sd}{h h1 h2:Hd}{d e:D}(p:a σ h=.ok d h1)(q:b σ h1=.ok e h2):af a (af b ap) σ h=.ok [d,e] h2:=bd p (bd q rfl)
theorem G7 {n m:Nat}(h:n≤30)(q:30≤m:=by decide):n≤m:=Nat.le_trans h q
end Fm
set_option linter.all false
namespace Fm
noncomputable def eG:Fn:=bJ 1 1 (ba (fT (iJ (tE (cX .int (aa 0))) (dZ (tE (cX .bool (aa 0)))))))
noncomputable def cw:Fn:=bJ 3 3 (ba (fT (iJ (tE (au eG (af (aa 0) ap))) (tE (nF oLe oLe (aa 1) (aa 0) (aa 2))))))
noncomputable def cM:Fn:=bJ 1 1 (ba (au cw (af (aa 0) (af (fC (.int 0)) (af (fC (.int 1)) ap)))))
noncomputable def ca:Fn:=bJ 1 1 (ba (ft (lOf (fAt (aa 0) (fC (.int 0))))))
noncomputable def gK:Fn:=bJ 2 2 (ba (fAt (fAt (aa 0) (fC (.int 0))) (aa 1)))
noncomputable def gL:Fn:=bJ 2 2 (ba (fAt (fAt (aa 0) (fC (.int 1))) (aa 1)))
noncomputable def cI:Fn:=bJ 2 2 (ba (fAt (fAt (aa 0) (fC (.int 2))) (aa 1)))
noncomputable abbrev zF:SF:=(aB (sIf (dZ (tE (au cM (af (aa 3) ap)))) (ba (fC (.bl false))) bI)
    (aB (aK (gN 4) (au cI (af (aa 0) (af (aa 2) ap))))
    (sIf (iJ (tE (ak g9 (aa 4) (fC .non))) (tE (ak oNe (aa 3) (aa 4)))) (ba (fC (.bl false))) bI)))
noncomputable def nV:Fn:=bJ 2 5 (aB (sIf (tOr (dZ (tE (cX .tuple (aa 1)))) (tE (ak oNe (ft (lOf (aa 1))) (au ca (af (aa 0) ap))))) (ba (fC (.bl false))) bI)
    (aB (gI (BF (aa 1)) (gT [2,3]) zF)
    (ba (fC (.bl true)))))
noncomputable def cS:Fn:=bJ 2 2 (sIf (dZ (tE (au nV (af (aa 0) (af (aa 1) ap))))) DH bI)
noncomputable def fD:Fn:=bJ 3 3 (ba (ak eV (fC (.int 2)) (jS (bz 2 [1] (dq (au gK (af (aa 0) (af (aa 2) ap)))) (gT [0,1]) [(tE (ak oEq (fAt (aa 2) (aa 0)) (fC (.int 1))))] (aa 1)))))
theorem sw (i:Int)(h:Hd):eG [.int i] h=.ok (.bl true) h:=(bZ (d:=.bl true) (h':=h) rfl rfl rfl).trans bc
theorem i3 (i a b:Int)(h:Hd):cw [.int i,.int a,.int b] h=.ok (.bl (decide (a≤i) && decide (i≤b))) h:=by
  have ch:nF oLe oLe (aa 1) (aa 0) (aa 2) [some (.int i),some (.int a),some (.int b)] h=.ok (.bl (decide (a≤i) && decide (i≤b))) h:=by
    show (match D.bl (decide (a≤i)) with | .bl true=>Res.ok (D.bl (decide (i≤b))) h | .bl false=>.ok (.bl false) h|_=>.bad)=_
    cases decide (a≤i)<;>rfl
  have t:iJ (tE (au eG (af (aa 0) ap))) (tE (nF oLe oLe (aa 1) (aa 0) (aa 2))) [some (.int i),some (.int a),some (.int b)] h=.ok (decide (a≤i) && decide (i≤b)) h:=jY (bg (aD (bd rfl rfl) (sw i h))) (bg ch)
  exact (bZ rfl rfl (bo (u4 t))).trans bc
theorem nW (i:Int)(h:Hd):cM [.int i] h=.ok (.bl (decide (0≤i) && decide (i≤1))) h:=by
  exact (bZ rfl rfl (bo (aD (bd rfl (bS rfl rfl)) (i3 i 0 1 h)))).trans bc
theorem i4 (w:Web)(h:Hd):ca [w.enc] h=.ok (.int w.ties.length) h:=by
  have:=(bZ (np:=1) (n:=1) (b:=ba (ft (lOf (fAt (aa 0) (fC (.int 0)))))) (ds:=[w.enc]) (h:=h) rfl rfl (bo (gy (dJ (aY rfl rfl rfl rfl) rfl)))).trans bc
  rwa [List.length_map] at this
theorem u5 (w:Web)(h:Hd){p:Nat}{r:List (Nat × Int)}(e:w.ties[p]? = some r):gK [w.enc,.int p] h=.ok (kx r) h:=by
  have q:atI (w.ties.map kx) (p:Int)=some (kx r):=cK (by simp [e])
  exact (bZ rfl rfl (bo (aY (aY rfl rfl rfl rfl) rfl rfl q))).trans bc
theorem xx (w:Web)(h:Hd){p:Nat}{r:Int}(e:w.bars[p]? = some r):gL [w.enc,.int p] h=.ok (.int r) h:=by
  have q:atI (w.bars.map .int) (p:Int)=some (.int r):=cK (by simp [e])
  exact (bZ rfl rfl (bo (aY (aY rfl rfl rfl rfl) rfl rfl q))).trans bc
theorem i5 (w:Web)(h:Hd){p:Nat}{r:Option Int}(e:w.stays[p]? = some r):cI [w.enc,.int p] h=.ok (bm r) h:=by
  have q:atI (w.stays.map bm) (p:Int)=some (bm r):=cK (by simp [e])
  exact (bZ rfl rfl (bo (aY (aY rfl rfl rfl rfl) rfl rfl q))).trans bc
theorem DZ {w:Web}{n:Nat}{s:List Int}(W:w.Ok n)(F:cZ w n s)(h:Hd):nV [w.enc,aj s] h=.ok (.bl true) h:=by
  obtain⟨σ',h',h1,h2,a,b,c,h3⟩:=b7 (P:=fun _ σ h'=>h'=h ∧ ∃ a b c,σ = [some w.enc,some (aj s),a,b,c]) (g:=none) (k:=0)
      (all:=((List.range (s.map D.int).length).zip (s.map D.int)).map fun p=>D.tup [.int (p.1:Nat),p.2]) (fun _ _ _ _=>trivial)
      (xs:=((List.range (s.map D.int).length).zip (s.map D.int)).map fun p=>D.tup [.int (p.1:Nat),p.2]) (tg:=gT [2,3]) (σ:=[some w.enc,some (aj s),none,none,none]) (h:=h)
      (b:=zF) (by
      rintro i x σ h0 hx ⟨rfl,a,b,c,rfl⟩
      have hi:i < s.length:=by
        have:=(List.getElem?_eq_some_iff.mp hx).1
        simpa using this
      have hx':x=.tup [.int (i:Nat),.int s[i]]:=by simpa [hi,List.getElem?_eq_getElem] using hx.symm
      subst hx'
      have hs:w.stays[i]? = some (w.stays[i]'(by rw [W.s,← F.len];exact hi)):=List.getElem?_eq_getElem _
      generalize w.stays[i]'(by rw [W.s,← F.len];exact hi)=st at hs
      have op:cM [.int s[i]] h0=.ok (.bl true) h0:=by
        rw [nW];rcases F.op _ (List.getElem_mem hi) with e|e<;>rw [e]<;>rfl
      have s1:sIf (dZ (tE (au cM (af (aa 3) ap)))) (ba (fC (.bl false))) bI [some w.enc,some (aj s),some (.int i),some (.int s[i]),c] h0=.nx [some w.enc,some (aj s),some (.int i),some (.int s[i]),c] h0:=d0 (eF (bg (aD (bd rfl rfl) op)))
      have sv:=i5 w h0 hs
      cases st with
      | none=>exact⟨_,rfl,_,h0,(aE s1).trans ((aE (aZ (aD (bS rfl rfl) sv))).trans (d0 (se (bg (ay rfl rfl rfl))))),rfl,_,_,_,rfl⟩
      | some y =>
        have hy:s[i] = y:=by have:=F.st i y hs;rw [List.getElem?_eq_getElem hi] at this;exact Option.some.inj this
        exact⟨_,rfl,_,h0,(aE s1).trans ((aE (aZ (aD (bS rfl rfl) sv))).trans (d0 (jY (bg (ay rfl rfl rfl)) (bg (ay rfl rfl (by rw [show bm (some y)=D.int y from rfl,nU,decide_eq_true hy];rfl)))))),rfl,_,_,_,rfl⟩) ⟨rfl,_,_,_,rfl⟩
  rw [h2,h3] at h1
  have s1:sIf (tOr (dZ (tE (cX .tuple (aa 1)))) (tE (ak oNe (ft (lOf (aa 1))) (au ca (af (aa 0) ap))))) (ba (fC (.bl false))) bI [some w.enc,some (aj s),none,none,none] h=.nx [some w.enc,some (aj s),none,none,none] h :=
    d0 (iD (eF (b:=true) (bg rfl)) (bg (ay (gy (dJ rfl rfl)) (aD (bd rfl rfl) (i4 w h)) (by rw [nU,List.length_map,F.len,W.t,decide_eq_true rfl];rfl))))
  exact (bZ rfl rfl ((aE s1).trans ((aE (jZ rfl h1)).trans (bo rfl)))).trans bc
theorem Cf {w:Web}{n:Nat}{s:List Int}(W:w.Ok n)(F:cZ w n s)(h:Hd):cS [w.enc,aj s] h=.ok .non h:=by
  exact (G6 rfl rfl (d0 (eF (bg (aD (bS rfl rfl) (DZ W F h)))))).trans bc
theorem fE (l:List Int):fS (l.map .int)=some l:=by
  induction l with
  | nil=>rfl
  | cons x xs ih=>simp [fS,ih]
theorem FW {s:List Int}{i:Nat}(h:i < s.length):atI (s.map .int) (i:Int)=some (.int s[i]):=cK (by simp [h])
def gn (r:List (Nat × Int)) (s:List Int):List Int:=(r.filter fun p=>decide (s.getD p.1 0=1)).map (·.2)
def cB (r:List (Nat × Int)) (s:List Int):Int:=(gn r s).sum
theorem u6 {r:List (Nat × Int)}{s:List Int}(hr:∀ q∈r,q.1 < s.length)(h:Hd):bX none (r.map cH) (gT [0,1]) [(tE (ak oEq (fAt (aa 2) (aa 0)) (fC (.int 1))))] (aa 1) (r.map cH) [none,none,some (aj s)] h=.ok ((gn r s).map D.int) h:=by
  have key:bX none (r.map cH) (gT [0,1]) [(tE (ak oEq (fAt (aa 2) (aa 0)) (fC (.int 1))))] (aa 1) (r.map cH) [none,none,some (aj s)] h
      = .ok (((r.map cH).filter fun d=>match d with | .tup [.int i,_]=>decide (s.getD i.toNat 0=1)|_=>false).map fun d=>match d with | .tup [_,x]=>x|_=>.non) h:=by
    refine bw (g:=none) (I:=fun σ=>∃ a b,σ = [a,b,some (aj s)]) _ _ trivial ?_ ⟨_,_,rfl⟩
    rintro x hx σ ⟨a,b,rfl⟩
    obtain⟨⟨q,wt⟩,hq,rfl⟩:=List.mem_map.mp hx
    exact⟨_,rfl,⟨_,_,rfl⟩,qF (bg (ay (aY rfl rfl rfl (zE (hr _ hq))) rfl qE)),fun _=>rfl⟩
  rw [key,gn,List.filter_map,List.map_map,List.map_map]
  rfl
theorem xy {w:Web}{n:Nat}{s:List Int}(W:w.Ok n)(hs:s.length=n){p:Nat}{r:List (Nat × Int)}(e:w.ties[p]? = some r)(h:Hd) :
    fD [w.enc,aj s,.int p] h=.ok (.int (2 * cB r s)) h:=by
  have hr:∀ q∈r,q.1 < s.length:=fun q hq=>by rw [hs];exact W.lt r (List.mem_of_getElem? e) q hq
  exact (bZ rfl rfl (bo (ay rfl (xv (ek (i0 (aD (bS rfl rfl) (u5 w h e))) (u6 hr h)) (fE _)) (sg (by decide))))).trans bc
def ic (w:Web) (f s:List Int) (p:Nat):Int:=(2 * w.bars.getD p 0 + 1) * (f.getD p 0 + s.getD p 0) - (if s.getD p 0=1 then 2 * (2 * cB (w.ties.getD p []) f) + 2 * f.getD p 0 else 0)
def cY (w:Web) (f s:List Int):Nat→Int
  | 0=>0
  | k + 1=>cY w f s k + ic w f s k
theorem D0 {x:Int}(h:x=0∨x=1):sml x=true:=by rcases h with e|e<;>subst e<;>decide
theorem sx {α : Type}{f : α → D}{l:List α}{i:Nat}(h:i < l.length):atI (l.map f) (i:Int)=some (f l[i]):=cK (by simp [h])
end Fm
set_option linter.all false
namespace Fm
noncomputable def eH:Fn:=bJ 3 6 (aB (aK (gN 3) (au cI (af (aa 0) (af (aa 2) ap))))
    (aB (sIf (tE (ak g9 (aa 3) (fC .non))) (ba (aa 3)) bI)
    (aB (aK (gN 4) (au fD (af (aa 0) (af (aa 1) (af (aa 2) ap)))))
    (aB (aK (gN 5) (au gL (af (aa 0) (af (aa 2) ap))))
    (aB (sIf (tE (ak oEq (aa 4) (aa 5))) (ba (fAt (aa 1) (aa 2))) bI)
    (ba (fIf (tE (ak oGt (aa 4) (aa 5))) (fC (.int 1)) (fC (.int 0)))))))))
noncomputable def dc:Fn:=bJ 2 2 (ba (cC (bz 1 [0,1] (bM (au ca (af (aa 0) ap))) (gN 0) [] (au eH (af (aa 1) (af (aa 2) (af (aa 0) ap)))))))
noncomputable abbrev nX:SF:=(aB (eC (eD (aa 2) (aa 3)))
    (aK (gN 3) (au dc (af (aa 0) (af (aa 3) ap)))))
noncomputable def ie:Fn:=bJ 2 5 (aB (eC (au cS (af (aa 0) (af (aa 1) ap))))
    (aB (aK (gN 2) (bA (af (aa 1) (af (au dc (af (aa 0) (af (aa 1) ap))) ap))))
    (aB (aK (gN 3) (au dc (af (aa 0) (af (fAt (aa 2) (fC (.int 1))) ap))))
    (aB (kY (tE (ak oNe (aa 3) (fAt (aa 2) (fC (.int (-2)))))) nX)
    (aB (aK (gN 4) (fIf (tE (ak oEq (fAt (aa 2) (fC (.int (-1)))) (fAt (aa 2) (fC (.int (-2)))))) (fC (.str [114,101,115,116])) (fC (.str [112,97,105,114]))))
    (ba (fQ (af (ak m5 (ft (lOf (aa 2))) (fC (.int 2))) (af (aa 4) (af (aa 2) ap))))))))))
def el (w:Web) (s:List Int) (p:Nat):Int:=match w.stays.getD p none with
  | some x=>x
  | none=>if 2 * cB (w.ties.getD p []) s=w.bars.getD p 0 then s.getD p 0 else if w.bars.getD p 0 < 2 * cB (w.ties.getD p []) s then 1 else 0
def cD (w:Web) (n:Nat) (s:List Int):List Int:=(List.range n).map (el w s)
theorem xz {w:Web}{n:Nat}{s:List Int}(W:w.Ok n)(F:cZ w n s){p:Nat}(hp:p < n)(h:Hd):eH [w.enc,aj s,.int p] h=.ok (.int (el w s p)) h:=by
  have ht:p < w.ties.length:=by rw [W.t];exact hp
  have hb:p < w.bars.length:=by rw [W.b];exact hp
  have hst:p < w.stays.length:=by rw [W.s];exact hp
  have hs:p < s.length:=by rw [F.len];exact hp
  have et:w.ties[p]? = some w.ties[p]:=by simp [ht]
  have eb:w.bars[p]? = some w.bars[p]:=by simp [hb]
  have es:w.stays[p]? = some w.stays[p]:=by simp [hst]
  have pull:=xy W F.len et h
  have gt:w.ties.getD p [] = w.ties[p]:=by simp [List.getD,ht]
  have gb:w.bars.getD p 0=w.bars[p]:=by simp [List.getD,hb]
  have gs:w.stays.getD p none=w.stays[p]:=by simp [List.getD,hst]
  have gi:s.getD p 0=s[p]:=by simp [List.getD,hs]
  have ai:=FW hs
  cases c:w.stays[p] with
  | some x =>
    rw [c] at es
    have nx:el w s p=x:=by unfold el;rw [gs,c]
    rw [nx]
    exact (bZ rfl rfl ((aE (aZ (aD (bS rfl rfl) (i5 w h es)))).trans (nT ((ky (bg (ay rfl rfl rfl))).trans (bo rfl))))).trans bc
  | none =>
    rw [c] at es
    have sv:=i5 w h es
    have bv:=xx w h eb
    simp only [el,gs,c,gt,gb,gi]
    have s1:aK (gN 3) (au cI (af (aa 0) (af (aa 2) ap))) [some w.enc,some (aj s),some (.int p),none,none,none] h=.nx [some w.enc,some (aj s),some (.int p),some .non,none,none] h:=aZ (aD (bS rfl rfl) sv)
    have s2:sIf (tE (ak g9 (aa 3) (fC .non))) (ba (aa 3)) bI [some w.enc,some (aj s),some (.int p),some .non,none,none] h=.nx [some w.enc,some (aj s),some (.int p),some .non,none,none] h:=d0 (bg (ay rfl rfl rfl))
    generalize 2 * cB w.ties[p] s=P at pull
    have s3:aK (gN 4) (au fD (af (aa 0) (af (aa 1) (af (aa 2) ap)))) [some w.enc,some (aj s),some (.int p),some .non,none,none] h=.nx [some w.enc,some (aj s),some (.int p),some .non,some (.int P),none] h:=aZ (aD (bd rfl (bS rfl rfl)) pull)
    have s4:aK (gN 5) (au gL (af (aa 0) (af (aa 2) ap))) [some w.enc,some (aj s),some (.int p),some .non,some (.int P),none] h=.nx [some w.enc,some (aj s),some (.int p),some .non,some (.int P),some (.int w.bars[p])] h:=aZ (aD (bS rfl rfl) bv)
    have go:∀ {v:Int},aB (sIf (tE (ak oEq (aa 4) (aa 5))) (ba (fAt (aa 1) (aa 2))) bI) (ba (fIf (tE (ak oGt (aa 4) (aa 5))) (fC (.int 1)) (fC (.int 0)))) [some w.enc,some (aj s),some (.int p),some .non,some (.int P),some (.int w.bars[p])] h=.rt (.int v) h→eH [w.enc,aj s,.int p] h=.ok (.int v) h:=fun e=>(bZ rfl rfl ((aE s1).trans ((aE s2).trans ((aE s3).trans ((aE s4).trans e))))).trans bc
    by_cases e1:P=w.bars[p]
    · rw [if_pos e1];exact go (nT ((ky (bg (ay rfl rfl (xu e1)))).trans (bo (aY rfl rfl rfl ai))))
    · rw [if_neg e1]
      by_cases e2:w.bars[p] < P
      · rw [if_pos e2];exact go ((aE (d0 (bg (ay rfl rfl (sf e1))))).trans (bo ((sr (bg (ay rfl rfl (sj e2)))).trans rfl)))
      · rw [if_neg e2];exact go ((aE (d0 (bg (ay rfl rfl (sf e1))))).trans (bo ((xw (bg (ay rfl rfl (sk e2)))).trans rfl)))
theorem j2 {w:Web}{n:Nat}{s:List Int}(W:w.Ok n)(F:cZ w n s)(h:Hd):dc [w.enc,aj s] h=.ok (aj (cD w n s)) h:=by
  have key:bX none ((List.range n).map fun k:Nat=>D.int k) (gN 0) [] (au eH (af (aa 1) (af (aa 2) (af (aa 0) ap)))) ((List.range n).map fun k:Nat=>D.int k) [none,some w.enc,some (aj s)] h
      = .ok (((((List.range n).map fun k:Nat=>D.int k).filter fun _=>true)).map fun d=>match d with | .int i=>.int (el w s i.toNat)|_=>.non) h:=by
    refine bw (g:=none) (I:=fun σ=>∃ a,σ = [a,some w.enc,some (aj s)]) _ _ trivial ?_ ⟨_,rfl⟩
    rintro x hx σ ⟨a,rfl⟩
    obtain⟨i,hi,rfl⟩:=List.mem_map.mp hx
    have hi:=List.mem_range.mp hi
    exact⟨_,rfl,⟨_,rfl⟩,by simp,fun _=>aD (bd rfl (bS rfl rfl)) (xz W F hi h)⟩
  have k2:((((List.range n).map fun k:Nat=>D.int k).filter fun _=>true)).map (fun d=>match d with | .int i=>D.int (el w s i.toNat)|_=>.non)=(cD w n s).map D.int:=by
    rw [List.filter_eq_self.mpr (by simp),List.map_map,cD,List.map_map];rfl
  rw [k2] at key
  have mq:ca [w.enc] h=.ok (.int n) h:=W.t ▸ i4 w h
  exact (bZ rfl rfl (bo (jx (ek (f7 (aD (bd rfl rfl) mq) W.sz) key)))).trans bc
def cN (w:Web):Prop:=∀ x∈w.stays,x=none∨x=some 0∨x=some 1
theorem ga {w:Web}{n:Nat}{s:List Int}(F:cZ w n s)(i:Nat):s.getD i 0=0∨s.getD i 0=1:=by
  by_cases hi:i < s.length
  · rw [List.getD,List.getElem?_eq_getElem hi];exact F.op _ (List.getElem_mem hi)
  · rw [List.getD,List.getElem?_eq_none (by omega)];exact .inl rfl
theorem Cg {w:Web}{n:Nat}{s:List Int}(F:cZ w n s)(S:cN w)(p:Nat):el w s p=0∨el w s p=1:=by
  unfold el
  cases c:w.stays.getD p none with
  | some x =>
    have:some x∈w.stays:=by
      rw [List.getD] at c
      cases e:w.stays[p]? with
      | none=>rw [e] at c;cases c
      | some y=>rw [e] at c;simp at c;subst c;exact List.mem_of_getElem? e
    have:=S _ this
    simp at this
    exact this
  | none =>
    simp only
    split
    · exact ga F p
    · split<;>simp
theorem At {w:Web}{n:Nat}{s:List Int}(W:w.Ok n)(S:cN w)(F:cZ w n s):cZ w n (cD w n s) where
  len:=by simp [cD]
  op:=fun x hx=>by
    obtain⟨p,hp,rfl⟩:=List.mem_map.mp hx
    exact Cg F S p
  st:=fun i x e=>by
    have hi:i < n:=by rw [← W.s];exact (List.getElem?_eq_some_iff.mp e).1
    have:w.stays.getD i none=some x:=by simp [List.getD,e]
    have hn:el w s i=x:=by unfold el;rw [this]
    simp [cD,hi,hn]
def az (w:Web) (n:Nat) (s:List Int):Nat→List Int
  | 0=>s
  | k + 1=>cD w n (az w n s k)
theorem a4 {w:Web}{n:Nat}{s:List Int}(W:w.Ok n)(S:cN w)(F:cZ w n s):∀ k,cZ w n (az w n s k)
  | 0=>F
  | k + 1=>At W S (a4 W S F k)
def aA (w:Web) (n:Nat) (s:List Int) (m:Nat):List (List Int):=(List.range m).map (az w n s)
theorem nY {w:Web}{n:Nat}{s:List Int}(m:Nat):aA w n s (m + 1)=aA w n s m++[az w n s m]:=by simp [aA,List.range_succ]
theorem de {w:Web}{n:Nat}{s:List Int}(m:Nat):(aA w n s m).length=m:=by simp [aA]
theorem Ci {w:Web}{n:Nat}{s:List Int}{m i:Nat}(h:i < m):atI ((aA w n s m).map aj) (i:Int)=some (aj (az w n s i)):=cK (by simp [aA,h])
end Fm
set_option linter.all false
namespace Fm
def S2 (R:Nat→List (Nat × Int)) (f s:Nat→Int):Nat→Int
  | 0=>0
  | k + 1=>S2 R f s k + ((R k).map fun p=>p.2 * f p.1 * s k).sum
def iM (g:Nat→Int):Nat→Int
  | 0=>0
  | n + 1=>iM g n + g n
theorem Au (g:Nat→Int)(n:Nat):((List.range n).map g).sum=iM g n:=by
  induction n with
  | zero=>rfl
  | succ n ih=>rw [List.range_succ,List.map_append,List.sum_append,ih];simp [iM]
theorem u7 (l:List Int):l.sum=iM (fun k=>l.getD k 0) l.length:=by
  rw [← Au]
  congr 1
  apply List.ext_getElem?
  intro i
  by_cases hi:i < l.length<;>simp [List.getD,hi]
def lu (w:Web) (n:Nat) (f s:List Int):Int :=
  2 * iM (fun k=>(f.getD k 0 + s.getD k 0) * w.bars.getD k 0) n + f.sum + s.sum - 4 * S2 (fun i=>w.ties.getD i []) (fun k=>f.getD k 0) (fun k=>s.getD k 0) n - 2 * iM (fun k=>f.getD k 0 * s.getD k 0) n
theorem Av {r:List (Nat × Int)}{f:List Int}(hf:∀ p∈r,f.getD p.1 0=0∨f.getD p.1 0=1):cB r f=(r.map fun p=>p.2 * f.getD p.1 0).sum:=by
  induction r with
  | nil=>rfl
  | cons p r ih =>
    have h1:=hf p (by simp)
    have h2:=ih fun q hq=>hf q (by simp [hq])
    simp only [cB,gn] at h2 ⊢
    rcases h1 with e|e
    · simp [-List.getD_eq_getElem?_getD,e,h2]
    · simp [-List.getD_eq_getElem?_getD,e,h2]
theorem qG {w:Web}{n:Nat}{f s:List Int}(W:w.Ok n)(Ff:cZ w n f)(Fs:cZ w n s):cY w f s n=lu w n f s:=by
  have bit:∀ {l:List Int} (F:cZ w n l) (i:Nat),l.getD i 0=0∨l.getD i 0=1:=fun {l} F i=>by
    by_cases hi:i < l.length
    · rw [List.getD,List.getElem?_eq_getElem hi];exact F.op _ (List.getElem_mem hi)
    · rw [List.getD,List.getElem?_eq_none (by omega)];exact .inl rfl
  have key:∀ m,m≤n→cY w f s m=2 * iM (fun k=>(f.getD k 0 + s.getD k 0) * w.bars.getD k 0) m + iM (fun k=>f.getD k 0) m + iM (fun k=>s.getD k 0) m
      - 4 * S2 (fun i=>w.ties.getD i []) (fun k=>f.getD k 0) (fun k=>s.getD k 0) m - 2 * iM (fun k=>f.getD k 0 * s.getD k 0) m:=by
    intro m
    induction m with
    | zero=>intro _;rfl
    | succ m ih =>
      intro hm
      have ih:=ih (by omega)
      simp only [cY,iM,S2,ic,ih]
      have pe:=Av (r:=w.ties.getD m []) (f:=f) fun p _=>bit Ff p.1
      have bf:=bit Ff m
      have bs:=bit Fs m
      have row:((w.ties.getD m []).map fun p=>p.2 * f.getD p.1 0 * s.getD m 0).sum=cB (w.ties.getD m []) f * s.getD m 0:=by
        rw [pe]
        generalize w.ties.getD m [] = r
        induction r with
        | nil=>simp
        | cons p r ih=>simp only [List.map_cons,List.sum_cons,ih,Int.add_mul]
      rw [row]
      rcases bf with e|e<;>rcases bs with e'|e'<;>simp only [e,e']<;>simp<;>omega
  rw [key n (Nat.le_refl _),lu,u7 f,u7 s,Ff.len,Fs.len]
theorem xA {w:Web}{n:Nat}{f s:List Int}(sym:∀ f s,S2 (fun i=>w.ties.getD i []) f s n=S2 (fun i=>w.ties.getD i []) s f n):lu w n f s=lu w n s f:=by
  have c1:(fun k=>(f.getD k 0 + s.getD k 0) * w.bars.getD k 0)=fun k=>(s.getD k 0 + f.getD k 0) * w.bars.getD k 0:=by funext k;rw [Int.add_comm]
  have c2:(fun k=>f.getD k 0 * s.getD k 0)=fun k=>s.getD k 0 * f.getD k 0:=by funext k;rw [Int.mul_comm]
  rw [lu,lu,c1,c2,sym];omega
theorem Aw {w:Web}{n:Nat}{f s:List Int}(W:w.Ok n)(Ff:cZ w n f)(Fs:cZ w n s)(sym:∀ f s,S2 (fun i=>w.ties.getD i []) f s n=S2 (fun i=>w.ties.getD i []) s f n):cY w f s n=cY w s f n:=by
  rw [qG W Ff Fs,qG W Fs Ff,xA sym]
def unl (a b:List Int) (n:Nat):Int:=iM (fun p=>if a.getD p 0=b.getD p 0 then 0 else 1) n
theorem j3 (a b:List Int):∀ n,0≤unl a b n
  | 0=>by simp [unl,iM]
  | n + 1=>by
    have:=j3 a b n
    simp only [unl,iM] at this ⊢
    split<;>omega
theorem zG {a b:List Int}:∀ {n:Nat},(∃ p,p < n∧a.getD p 0≠b.getD p 0)→1≤unl a b n
  | 0,⟨p,hp,_⟩=>by omega
  | n + 1,⟨p,hp,hne⟩=>by
    have h0:=j3 a b n
    by_cases e:p=n
    · subst e
      simp only [unl,iM] at h0 ⊢
      rw [if_neg hne];omega
    · have:=zG (a:=a) (b:=b) (n:=n) ⟨p,by omega,hne⟩
      simp only [unl,iM] at this ⊢
      split<;>omega
theorem D1 {a b:List Int}{n:Nat}(ha:a.length=n)(hb:b.length=n)(h:a≠b):∃ p,p < n∧a.getD p 0≠b.getD p 0:=by
  refine Classical.byContradiction fun q=>h ?_
  apply List.ext_getElem (by omega)
  intro i h1 h2
  refine Classical.byContradiction fun z=>q ⟨i,by omega,?_⟩
  simpa [List.getD,h1,h2] using z
theorem Ax {w:Web}{n:Nat}{s:List Int}{p:Nat}(hp:p < n):(cD w n s).getD p 0=el w s p:=by simp [cD,List.getD,hp]
theorem Ay {w:Web}{n:Nat}{s:List Int}(F:cZ w n s){p:Nat}{x:Int}(e:w.stays.getD p none=some x):s.getD p 0=x:=by
  have:w.stays[p]? = some (some x):=by
    rw [List.getD] at e
    cases c:w.stays[p]? with
    | none=>rw [c] at e;cases e
    | some y=>rw [c] at e;simp at e;rw [e]
  have:=F.st p x this
  simp [List.getD,this]
theorem HH {w:Web}{n:Nat}{s0 s1:List Int}(W:w.Ok n)(F0:cZ w n s0)(F1:cZ w n s1)(sym:∀ f s,S2 (fun i=>w.ties.getD i []) f s n=S2 (fun i=>w.ties.getD i []) s f n) :
    cY w s1 (cD w n s1) n + unl s0 (cD w n s1) n≤cY w s0 s1 n:=by
  rw [Aw W F0 F1 sym]
  have key:∀ m,m≤n→cY w s1 (cD w n s1) m + unl s0 (cD w n s1) m≤cY w s1 s0 m:=by
    intro m
    induction m with
    | zero=>intro _;simp [cY,unl,iM]
    | succ m ih =>
      intro hm
      have ih:=ih (by omega)
      have b0:=ga F0 m
      have b1:=ga F1 m
      have e2:=Ax (w:=w) (s:=s1) (p:=m) (n:=n) (by omega)
      have step:ic w s1 (cD w n s1) m + (if s0.getD m 0=(cD w n s1).getD m 0 then 0 else 1)≤ic w s1 s0 m:=by
        unfold ic
        rw [e2]
        unfold el
        cases c:w.stays.getD m none with
        | some x =>
          have:=Ay F0 c
          simp only [this]
          simp
        | none =>
          simp only
          generalize w.bars.getD m 0=b
          generalize cB (w.ties.getD m []) s1=P
          generalize s0.getD m 0=x0 at b0 ⊢
          generalize s1.getD m 0=x1 at b1 ⊢
          by_cases h1:2 * P=b
          · rw [if_pos h1]
            rcases b0 with z|z<;>rcases b1 with y|y<;>subst z y<;>simp<;>omega
          · rw [if_neg h1]
            by_cases h2:b < 2 * P
            · rw [if_pos h2]
              rcases b0 with z|z<;>rcases b1 with y|y<;>subst z y<;>simp<;>omega
            · rw [if_neg h2]
              rcases b0 with z|z<;>rcases b1 with y|y<;>subst z y<;>simp<;>omega
      simp only [cY,unl,iM] at ih ⊢
      omega
  exact key n (Nat.le_refl _)
def j4 (r:List (Nat × Int)):Int:=(r.map fun p=>(p.2.natAbs:Int)).sum
theorem qH (r:List (Nat × Int))(f:List Int):cB r f≤j4 r:=by
  induction r with
  | nil=>simp [cB,gn,j4]
  | cons p r ih =>
    simp only [cB,gn,j4,List.filter_cons,List.map_cons,List.sum_cons] at ih ⊢
    split
    · simp only [List.map_cons,List.sum_cons];omega
    · omega
theorem Cj {w:Web}{n:Nat}:∀ m,∃ C:Int,∀ f s,cZ w n f→cZ w n s → -C≤cY w f s m
  | 0=>⟨0,fun f s _ _=>by simp [cY]⟩
  | m + 1=>by
    obtain⟨C,hC⟩:=Cj (w:=w) (n:=n) m
    refine⟨C + (2 * ((2 * w.bars.getD m 0 + 1).natAbs:Int) + 4 * j4 (w.ties.getD m []) + 2 + 4 * ((j4 (w.ties.getD m [])).natAbs:Int)),fun f s Ff Fs => ?_⟩
    have ih:=hC f s Ff Fs
    have b0:=ga Ff m
    have b1:=ga Fs m
    have pl:=qH (w.ties.getD m []) f
    simp only [cY,ic]
    generalize w.bars.getD m 0=b at *
    generalize cB (w.ties.getD m []) f=P at *
    generalize j4 (w.ties.getD m [])=A at *
    generalize cY w f s m=T at *
    rcases b0 with z|z<;>rcases b1 with y|y<;>simp only [z,y]<;>simp<;>omega
theorem xB {P:Nat→Prop}(h:∃ t,P t):∃ t,P t ∧ ∀ k,k < t → ¬ P k:=by
  obtain⟨t,ht⟩:=h
  induction t using Nat.strongRecOn with
  | ind t ih =>
    by_cases q:∃ k,k < t∧P k
    · obtain⟨k,hk,pk⟩:=q
      exact ih k hk pk
    · exact⟨t,ht,fun k hk pk=>q ⟨k,hk,pk⟩⟩
def eN (w:Web) (n:Nat) (s:List Int) (k:Nat):Int:=cY w (az w n s k) (az w n s (k + 1)) n
theorem zH {w:Web}{n:Nat}{s:List Int}(W:w.Ok n)(S:cN w)(F:cZ w n s)(sym:∀ f s,S2 (fun i=>w.ties.getD i []) f s n=S2 (fun i=>w.ties.getD i []) s f n)(k:Nat) :
    eN w n s (k + 1) + unl (az w n s k) (az w n s (k + 2)) n≤eN w n s k:=HH W (a4 W S F k) (a4 W S F (k + 1)) sym
theorem Ck {w:Web}{n:Nat}{s:List Int}(W:w.Ok n)(S:cN w)(F:cZ w n s)(sym:∀ f s,S2 (fun i=>w.ties.getD i []) f s n=S2 (fun i=>w.ties.getD i []) s f n){k:Nat}(h:az w n s (k + 2)≠az w n s k):eN w n s (k + 1) + 1≤eN w n s k:=by
  have:=zH W S F sym k
  have:=zG (n:=n) (D1 (a4 W S F k).len (a4 W S F (k + 2)).len (Ne.symm h))
  omega
theorem EJ {w:Web}{n:Nat}{s:List Int}(W:w.Ok n)(S:cN w)(F:cZ w n s)(sym:∀ f s,S2 (fun i=>w.ties.getD i []) f s n=S2 (fun i=>w.ties.getD i []) s f n){k:Nat}:∀ {m:Nat},k≤m→eN w n s m≤eN w n s k
  | 0,h=>by
    have:k=0:=by omega
    subst this;exact Int.le_refl _
  | m + 1,h=>by
    by_cases e:k=m + 1
    · subst e;exact Int.le_refl _
    · have h1:=EJ W S F sym (k:=k) (m:=m) (by omega)
      have h2:=zH W S F sym m
      have h3:=j3 (az w n s m) (az w n s (m + 2)) n
      omega
theorem G8 {w:Web}{n:Nat}{s:List Int}(W:w.Ok n)(S:cN w)(F:cZ w n s)(sym:∀ f s,S2 (fun i=>w.ties.getD i []) f s n=S2 (fun i=>w.ties.getD i []) s f n):∃ t,az w n s (t + 2)=az w n s t ∧ ∀ k,k < t→az w n s (k + 2)≠az w n s k:=by
  refine xB (P:=fun t=>az w n s (t + 2)=az w n s t) ?_
  refine Classical.byContradiction fun q => ?_
  obtain⟨C,hC⟩:=Cj (w:=w) (n:=n) n
  have down:∀ k:Nat,eN w n s k + k≤eN w n s 0:=by
    intro k
    induction k with
    | zero=>simp
    | succ k ih =>
      have:=Ck W S F sym (k:=k) fun z=>q ⟨k,z⟩
      omega
  have h1:=down (eN w n s 0 + C + 1).toNat
  have h2 : -C≤eN w n s (eN w n s 0 + C + 1).toNat:=hC _ _ (a4 W S F _) (a4 W S F _)
  have h3 : -C≤eN w n s 0:=hC _ _ (a4 W S F _) (a4 W S F _)
  omega
end Fm
set_option linter.all false
namespace Fm
theorem lv:∀ (a b:List Int),a.length=b.length→fP (a.map .int) (b.map .int)=some (decide (a=b))
  | [],[],_=>by simp [fP]
  | x :: a,y :: b,h=>by
    have ih:=lv a b (by simpa using h)
    simp only [List.map_cons,fP,peq,ih]
    by_cases e:x=y<;>by_cases e2:a=b<;>simp [e,e2]
  | [],_ :: _,h=>by simp at h
  | _ :: _,[],h=>by simp at h
theorem qI (l:List Int):km (l.map .int)=0:=by
  induction l with
  | nil=>rfl
  | cons x l ih=>simp [km,dep,ih]
theorem zI (l:List Int):dep (aj l)=1:=by simp [aj,dep,qI]
theorem zJ {a b:List Int}(h:a.length=b.length):peq (aj a) (aj b)=some (decide (a=b)):=by
  simp only [aj,peq,lv a b h,Option.map_some,List.length_map,h]
  simp
theorem zK {a b:List Int}(h:a.length=b.length)(hd:Hd):eqG hd (aj a) (aj b)=some (decide (a=b)):=by
  have e1:∀ l,b4 hd (aj l)=none:=fun l=>rfl
  simp only [eqG,e1,zI,zJ h]
  rfl
theorem nr {a b:List Int}(h:a.length=b.length)(hd:Hd):oNe (aj a) (aj b) hd=.ok (.bl (!decide (a=b))) hd:=by
  unfold oNe;rw [zK h]
theorem zL {a b:List Int}(h:a.length=b.length)(hd:Hd):oEq (aj a) (aj b) hd=.ok (.bl (decide (a=b))) hd:=by
  unfold oEq;rw [zK h]
theorem G9 {k n:Nat}(h1:1≤k)(h2:k≤n) : ¬ 0 ≤ -(k:Int) ∧ -(n:Int) ≤ -(k:Int)∧(-(k:Int) + (n:Int)).toNat=n - k:=by omega
theorem D2 {l:List D}{k:Nat}(h1:1≤k)(h2:k≤l.length):atI l (-(k:Int))=l[l.length - k]? := by
  have q:=G9 h1 h2
  unfold atI ixN
  rw [if_neg q.1,if_pos q.2.1,q.2.2];rfl
theorem dz {w:Web}{n:Nat}{s:List Int}(k j:Nat)(h1:1≤j):atI ((aA w n s (k + j)).map aj) (-(j:Int))=some (aj (az w n s k)):=by
  rw [D2 h1 (by rw [List.length_map,de];exact Nat.le_add_left j k),List.length_map,de,Nat.add_sub_cancel,List.getElem?_map,aA,List.getElem?_map,List.getElem?_range (Nat.lt_add_of_pos_right h1)];rfl
theorem c9 {a b:SF}{σ σ':Sd}{h h':Hd}(e:a σ h=.nx σ' h'):aB a b σ h=b σ' h':=by simp [aB,e]
theorem Cl {w:Web}{n:Nat}{s:List Int}(W:w.Ok n)(S:cN w)(F:cZ w n s){t:Nat}(ht:az w n s (t + 2)=az w n s t)(hm:∀ k,k < t→az w n s (k + 2)≠az w n s k)(hz:t≤900000)(h:Hd) :
    ie [w.enc,aj s] h=.ok (.tup [.int t,.str (if az w n s (t + 1)=az w n s t then [114,101,115,116] else [112,97,105,114]),.ref h.length]) (h++[.lst ((aA w n s (t + 2)).map aj)]):=by
  have L:∀ k,(az w n s k).length=n:=fun k=>(a4 W S F k).len
  have loop:∀ j k,k + j=t→cL (tE (ak oNe (aa 3) (fAt (aa 2) (fC (.int (-2)))))) nX (j + 1) [some w.enc,some (aj s),some (.ref h.length),some (aj (az w n s (k + 2))),none] (h++[.lst ((aA w n s (k + 2)).map aj)])
      = .nx [some w.enc,some (aj s),some (.ref h.length),some (aj (az w n s (t + 2))),none] (h++[.lst ((aA w n s (t + 2)).map aj)]):=by
    intro j
    induction j with
    | zero =>
      intro k hk
      have:k=t:=hk
      subst this
      have b':atI ((aA w n s (k + 2)).map aj) (-2)=some (aj (az w n s k)):=dz k 2 (by decide)
      have test:tE (ak oNe (aa 3) (fAt (aa 2) (fC (.int (-2))))) [some w.enc,some (aj s),some (.ref h.length),some (aj (az w n s (k + 2))),none] (h++[.lst ((aA w n s (k + 2)).map aj)])=.ok false (h++[.lst ((aA w n s (k + 2)).map aj)]):=by
        rw [ht]
        exact bg (ay rfl (aY rfl rfl (bP List.getElem?_concat_length) b') (by rw [nr rfl,decide_eq_true rfl];rfl))
      simp only [cL,test]
    | succ j ih =>
      intro k hk
      have b':atI ((aA w n s (k + 2)).map aj) (-2)=some (aj (az w n s k)):=dz k 2 (by decide)
      have test:tE (ak oNe (aa 3) (fAt (aa 2) (fC (.int (-2))))) [some w.enc,some (aj s),some (.ref h.length),some (aj (az w n s (k + 2))),none] (h++[.lst ((aA w n s (k + 2)).map aj)])=.ok true (h++[.lst ((aA w n s (k + 2)).map aj)]):=by
        exact bg (ay rfl (aY rfl rfl (bP List.getElem?_concat_length) b') (by rw [nr ((L (k + 2)).trans (L k).symm),decide_eq_false (hm k (hk ▸ Nat.lt_add_of_pos_right (Nat.succ_pos j)))];rfl))
      have lz:((aA w n s (k + 2)).map aj).length < SZ:=by rw [List.length_map,de];exact Nat.lt_of_le_of_lt (Nat.add_le_add_right (Nat.le_trans (hk ▸ Nat.le_add_right k (j + 1)) hz) 2) (by decide)
      have tk:=j2 W (a4 W S F (k + 2)) (h++[.lst ((aA w n s (k + 3)).map aj)])
      have body:nX [some w.enc,some (aj s),some (.ref h.length),some (aj (az w n s (k + 2))),none] (h++[.lst ((aA w n s (k + 2)).map aj)])=.nx [some w.enc,some (aj s),some (.ref h.length),some (aj (az w n s (k + 3))),none] (h++[.lst ((aA w n s (k + 3)).map aj)]):=by
        have st1:eC (eD (aa 2) (aa 3)) [some w.enc,some (aj s),some (.ref h.length),some (aj (az w n s (k + 2))),none] (h++[.lst ((aA w n s (k + 2)).map aj)])=.nx [some w.enc,some (aj s),some (.ref h.length),some (aj (az w n s (k + 2))),none] (h++[.lst ((aA w n s (k + 3)).map aj)]):=by
          rw [show aA w n s (k + 3)=aA w n s (k + 2)++[az w n s (k + 2)] from nY (k + 2),List.map_append]
          exact (ib (iY rfl List.getElem?_concat_length rfl List.getElem?_concat_length lz)).trans (by rw [sn rfl];rfl)
        exact (c9 st1).trans (aZ (aD (bS rfl rfl) tk))
      rw [cL,test]
      simp only [body]
      exact ih (k + 1) (by rw [Nat.add_right_comm];exact hk)
  have wl:=qD (loop t 0 (Nat.zero_add t)) (by simp)
  have t0:=j2 W F h
  have t1:=j2 W (a4 W S F 1) (h++[.lst ((aA w n s 2).map aj)])
  have e1 : [aj s,aj (cD w n s)] = (aA w n s 2).map aj:=by simp [aA,List.range_succ,az]
  have a1:atI ((aA w n s 2).map aj) 1=some (aj (az w n s 1)):=Ci (w:=w) (n:=n) (s:=s) (m:=2) (i:=1) (by decide)
  have b1':atI ((aA w n s (t + 2)).map aj) (-1)=some (aj (az w n s (t + 1))):=dz (t + 1) 1 (by decide)
  have b2':atI ((aA w n s (t + 2)).map aj) (-2)=some (aj (az w n s t)):=dz t 2 (by decide)
  have ln:(aA w n s (t + 2)).length=t + 2:=de _
  have eqw:=zL (a:=az w n s (t + 1)) (b:=az w n s t) ((L (t + 1)).trans (L t).symm) (h++[.lst ((aA w n s (t + 2)).map aj)])
  simp only [az] at t1
  simp only [az] at a1
  have hh1:az w n s (0 + 2)=cD w n (cD w n s):=rfl
  rw [hh1,show 0 + 2=2 from rfl] at wl
  have s1:aK (gN 2) (bA (af (aa 1) (af (au dc (af (aa 0) (af (aa 1) ap))) ap))) [some w.enc,some (aj s),none,none,none] h
      = .nx [some w.enc,some (aj s),some (.ref h.length),none,none] (h++[.lst ((aA w n s 2).map aj)]):=by
    rw [← e1];exact aZ (r6 (bd rfl (bd (aD (bS rfl rfl) t0) rfl)))
  have s2:aK (gN 3) (au dc (af (aa 0) (af (fAt (aa 2) (fC (.int 1))) ap))) [some w.enc,some (aj s),some (.ref h.length),none,none] (h++[.lst ((aA w n s 2).map aj)])
      = .nx [some w.enc,some (aj s),some (.ref h.length),some (aj (cD w n (cD w n s))),none] (h++[.lst ((aA w n s 2).map aj)]):=by
    exact aZ (aD (bd rfl (bd (aY rfl rfl (bP List.getElem?_concat_length) a1) rfl)) t1)
  have s3:aK (gN 4) (fIf (tE (ak oEq (fAt (aa 2) (fC (.int (-1)))) (fAt (aa 2) (fC (.int (-2)))))) (fC (.str [114,101,115,116])) (fC (.str [112,97,105,114]))) [some w.enc,some (aj s),some (.ref h.length),some (aj (az w n s (t + 2))),none] (h++[.lst ((aA w n s (t + 2)).map aj)])
      = .nx [some w.enc,some (aj s),some (.ref h.length),some (aj (az w n s (t + 2))),some (.str (if az w n s (t + 1)=az w n s t then [114,101,115,116] else [112,97,105,114]))] (h++[.lst ((aA w n s (t + 2)).map aj)]):=by
    by_cases q:az w n s (t + 1)=az w n s t
    · rw [if_pos q];rw [decide_eq_true q] at eqw
      exact aZ ((sr (bg (ay (aY rfl rfl (bP List.getElem?_concat_length) b1') (aY rfl rfl (bP List.getElem?_concat_length) b2') eqw))).trans rfl)
    · rw [if_neg q];rw [decide_eq_false q] at eqw
      exact aZ ((xw (bg (ay (aY rfl rfl (bP List.getElem?_concat_length) b1') (aY rfl rfl (bP List.getElem?_concat_length) b2') eqw))).trans rfl)
  have ck:eC (au cS (af (aa 0) (af (aa 1) ap))) [some w.enc,some (aj s),none,none,none] h=.nx [some w.enc,some (aj s),none,none,none] h:=ib (aD (bS rfl rfl) (Cf W F h))
  have st:([w.enc,aj s].map some++List.replicate (5 - [w.enc,aj s].length) none:Sd)=[some w.enc,some (aj s),none,none,none]:=rfl
  unfold ie bJ runB
  rw [if_pos (show [w.enc,aj s].length=2 from rfl),st,c9 ck,c9 s1,c9 s2,c9 wl,c9 s3]
  have z:((t:Int) + 2) - 2=t:=by omega
  simp [ln,SZ,z,letGo,pure?,iB]
end Fm
set_option linter.all false
namespace Fm
def LeS (a b:List Int):Prop:=∀ i:Nat,a.getD i 0≤b.getD i 0
structure HM (w1 w2:Web) (n:Nat):Prop where
  go:∀ a b,cZ w1 n a→cZ w2 n b→LeS a b→LeS (cD w1 n a) (cD w2 n b)
end Fm
set_option linter.all false
namespace Fm
noncomputable def dL:Fn:=bJ 1 1 (ba (bA (lOf (fAt (aa 0) (fC (.int 2))))))
noncomputable def eX:Fn:=bJ 2 2 (ba (au cw (af (aa 1) (af (fC (.int 0)) (af (ak m5 (au ca (af (aa 0) ap)) (fC (.int 1))) ap)))))
noncomputable def bG:Fn:=bJ 2 2 (ba (fT (iJ (tE (au eX (af (aa 0) (af (aa 1) ap)))) (tE (ak oNe (au cI (af (aa 0) (af (aa 1) ap))) (fC (.int 0)))))))
noncomputable def cf:Fn:=bJ 2 2 (aB (sIf (dZ (tE (cX .list (aa 1)))) (ba (fC (.bl false))) bI)
    (aB (sIf (dZ (tE (Af (bz 1 [0] (dq (aa 1)) (gN 0) [] (au bG (af (aa 1) (af (aa 0) ap))))))) (ba (fC (.bl false))) bI)
    (ba (Af (bz 1 [1] (bM (ak m5 (ft (lOf (aa 1))) (fC (.int 1)))) (gN 0) [] (ak oLt (fAt (aa 1) (aa 0)) (fAt (aa 1) (ak bH (aa 0) (fC (.int 1))))))))))
noncomputable def eS:Fn:=bJ 2 2 (aB (sIf (dZ (tE (au cf (af (aa 0) (af (aa 1) ap))))) DH bI)
    (ba (cC (nQ 2 [1] (au dL (af (aa 0) ap)) (gT [0,1]) [] (fIf (tOr (tE (ak oIn (aa 0) (aa 2))) (tE (ak oEq (aa 1) (fC (.int 1))))) (fC (.int 1)) (fC (.int 0)))))))
noncomputable def cy:Fn:=bJ 2 5 (aB (aK (gN 2) (au ie (af (aa 0) (af (au eS (af (aa 0) (af (aa 1) ap))) ap))))
    (aB (aK (gN 3) (fAt (aa 2) (fC (.int 1))))
    (aB (aK (gN 4) (fAt (aa 2) (fC (.int 2))))
    (aB (sIf (tE (ak oEq (aa 3) (fC (.str [112,97,105,114])))) (ba (fQ (af (fC (.str [110,111,116])) (af (cW (aa 4) (pAt (fC (.int (-2)))) pNo) ap)))) bI)
    (aB (sIf (tE (ak oIn (fC (.int 0)) (fAt (aa 4) (fC (.int (-1)))))) (ba (fQ (af (fC (.str [110,111,116])) (af (cW (aa 4) (pAt (fC (.int (-1)))) pNo) ap)))) bI)
    (ba (fQ (af (fC (.str [116,117,114,110])) (af (cW (aa 4) pNo (pAt (fC (.int (-1))))) ap)))))))))
noncomputable abbrev jy:SF:=(aB (aK (gN 5) (ak jR (ak eV (ak bH (ak bH (ak bH (aa 2) (ak eV (fC (.int 31)) (aa 1))) (ak eV (aa 4) (aa 4))) (fC (.int 7))) (fC (.int 48271))) (fC (.int 2147483629))))
    (aB (aK (gN 5) (ak jR (ak eV (ak bH (aa 5) (fC (.int 5))) (ak bH (ak bH (aa 5) (aa 4)) (fC (.int 3)))) (fC (.int 2147483587))))
    (aB (aK (gN 5) (ak jR (ak eV (ak bH (aa 5) (aa 1)) (fC (.int 69621))) (fC (.int 2147483563))))
    (aK (gN 3) (ak bH (ak eV (aa 3) (fC (.int 2147483563))) (ak jR (ak eV (aa 5) (ak bH (aa 5) (fC (.int 11)))) (fC (.int 2147483549))))))))
noncomputable def gc:Fn:=bJ 2 6 (aB (aK (gN 2) (fC (.int 11)))
    (aB (sIf (tE (ak oGt (ft (lOf (aa 0))) (fC (.int 0)))) (aK (gN 2) (ak jR (fAt (aa 0) (ak jR (aa 1) (ft (lOf (aa 0))))) (fC (.int 2147483647)))) bI)
    (aB (aK (gN 3) (fC (.int 0)))
    (aB (gI (bM (fC (.int 9))) (gN 4) jy)
    (ba (aa 3))))))
noncomputable def bx:Fn:=bJ 2 2 (aB (sIf (iJ (tE (ak oLt (aa 1) (ft (lOf (aa 0))))) (tE (ak oEq (ak jR (fAt (aa 0) (fC (.int 0))) (fC (.int 2))) (fC (.int 0))))) (ba (fAt (aa 0) (aa 1))) bI)
    (ba (au gc (af (aa 0) (af (aa 1) ap)))))
noncomputable def aw:Fn:=bJ 2 3 (aB (aK (gN 2) (ak jR (fAt (aa 0) (fC (.int 0))) (aa 1)))
    (aB (GT (aa 0) (fC (.int 0)) (ak Fz (fAt (aa 0) (fC (.int 0))) (aa 1)))
    (ba (aa 2))))
noncomputable def cO:Fn:=bJ 2 3 (aB (sIf (tE (ak oEq (aa 1) (fC (.int 0)))) (aB (aK (gN 2) (au aw (af (aa 0) (af (fC (.int 800)) ap))))
    (ba (ak eV (aa 2) (iK (ak oLt (aa 2) (fC (.int 401))))))) bI)
    (aB (sIf (tE (ak oEq (aa 1) (fC (.int 1)))) (ba (fIx (af (fC (.int 0)) (af (fC (.int 0)) (af (fC (.int 0)) (af (fC (.int 0)) (af (fC (.int 0)) (af (fC (.int 1)) (af (fC (.int 1)) (af (fC (.int 2)) (af (fC (.int 3)) ap))))))))) (au aw (af (aa 0) (af (fC (.int 9)) ap))))) bI)
    (ba (fIx (af (fC (.int 0)) (af (fC (.int 0)) (af (fC (.int 0)) (af (fC (.int 1)) ap)))) (au aw (af (aa 0) (af (fC (.int 4)) ap)))))))
noncomputable def eT:Fn:=bJ 2 3 (aB (aK (gN 2) (au aw (af (aa 0) (af (fC (.int 6)) ap))))
    (aB (sIf (tE (ak oLt (aa 2) (fC (.int 2)))) (ba (aa 1)) bI)
    (aB (sIf (tE (ak oEq (aa 2) (fC (.int 2)))) (ba (ak bH (ak m5 (aa 1) (fC (.int 3))) (au aw (af (aa 0) (af (fC (.int 7)) ap))))) bI)
    (aB (sIf (tE (ak oLt (aa 2) (fC (.int 5)))) (ba (ak m5 (au aw (af (aa 0) (af (ak bH (ak eV (fC (.int 2)) (aa 1)) (fC (.int 5))) ap))) (fC (.int 2)))) bI)
    (ba (ak bH (ak m5 (au aw (af (aa 0) (af (ak m5 (ak eV (fC (.int 2)) (ak FA (fC (.int 10)) (fC (.int 60)))) (fC (.int 1))) ap))) (ak FA (fC (.int 10)) (fC (.int 60)))) (fC (.int 1))))))))
noncomputable abbrev kz:SF:=(aB (eC (eD (aa 9) (au eT (af (fAt (aa 3) (aa 5)) (af (jS (bz 2 [] (dq (fAt (aa 4) (aa 5))) (gT [0,1]) [] (aa 1))) ap)))))
    (aB (aK (gN 11) (fIx (af (fC .non) (af (fC .non) (af (fC .non) (af (fC .non) (af (fC .non) (af (fC (.int 0)) (af (fC (.int 1)) ap))))))) (au aw (af (fAt (aa 3) (aa 5)) (af (fC (.int 7)) ap)))))
    (aB (sIf (iJ (tE (ak DG (aa 11) (fC .non))) (tE (ak oGt (eB (aa 10) (fC .non)) (fC (.int 7))))) (aK (gN 11) (au aw (af (fAt (aa 3) (aa 5)) (af (fC (.int 2)) ap)))) bI)
    (eC (eD (aa 10) (aa 11))))))
noncomputable abbrev i6:SF:=(aB (aK (gN 8) (au cO (af (fAt (aa 3) (aa 5)) (af (aa 6) ap))))
    (sIf (tE (ak oGt (aa 8) (fC (.int 0)))) (aB (eC (eD (fAt (aa 4) (aa 5)) (fQ (af (aa 7) (af (aa 8) ap)))))
    (eC (eD (fAt (aa 4) (aa 7)) (fQ (af (aa 5) (af (aa 8) ap)))))) bI))
noncomputable abbrev kA:SF:=(aB (aK (gN 6) (au aw (af (fAt (aa 3) (aa 5)) (af (fC (.int 3)) ap))))
    (gI (bM (aa 5)) (gN 7) i6))
noncomputable def ig:Fn:=bJ 1 12 (aB (aK (gN 1) (bA (af (ak Fz (au bx (af (aa 0) (af (fC (.int 0)) ap))) (fC (.int 2))) ap)))
    (aB (aK (gN 2) (ak bH (fC (.int 1)) (au aw (af (aa 1) (af (fIx (af (fC (.int 7)) (af (fC (.int 7)) (af (fC (.int 12)) (af (fC (.int 30)) ap)))) (au aw (af (aa 1) (af (fC (.int 4)) ap)))) ap)))))
    (aB (aK (gN 3) (bA (bz 1 [0] (bM (aa 2)) (gN 0) [] (bA (af (au bx (af (aa 1) (af (ak bH (fC (.int 1)) (aa 0)) ap))) ap)))))
    (aB (aK (gN 4) (bA (bz 1 [] (bM (aa 2)) (gN 0) [] (bA ap))))
    (aB (gI (bM (aa 2)) (gN 5) kA)
    (aB (aK (gN 9) (bA ap))
    (aB (aK (gN 10) (bA ap))
    (aB (gI (bM (aa 2)) (gN 5) kz)
    (ba (fQ (af (fQ (af (cC (bz 1 [] (dq (aa 4)) (gN 0) [] (cC (kX (aa 0))))) (af (cC (lOf (aa 9))) (af (cC (lOf (aa 10))) ap)))) (af (aa 3) (af (aa 1) ap)))))))))))))
noncomputable abbrev eY:SF:=(aB (aK (gN 7) (jS (bz 2 [] (dq (fAt (fAt (aa 0) (fC (.int 0))) (aa 6))) (gT [0,1]) [] (aa 1))))
    (aB (aK (gN 8) (ak m5 (ak eV (fC (.int 2)) (au aw (af (fAt (aa 1) (aa 6)) (af (ak bH (aa 7) (fC (.int 1))) ap)))) (fC (.int 1))))
    (aB (eC (eD (aa 4) (fIx (af (fC (.int 0)) (af (aa 7) (af (aa 8) ap))) (aa 3))))
    (aB (aK (gN 9) (fAt (fAt (aa 0) (fC (.int 2))) (aa 6)))
    (aB (sIf (tE (ak oEq (aa 9) (fC (.int 0)))) (aK (gN 9) (fIx (af (fC .non) (af (fC (.int 1)) ap)) (iK (ak oGt (ak bH (eB (aa 5) (fC .non)) (fz (eQ (fAt (aa 0) (fC (.int 2))) (pAt (aa 6)) pNo) (fC .non))) (fC (.int 7)))))) bI)
    (eC (eD (aa 5) (aa 9))))))))
noncomputable def ge:Fn:=bJ 3 10 (aB (aK (gN 3) (au aw (af (aa 2) (af (fC (.int 3)) ap))))
    (aB (sIf (tE (ak oEq (aa 3) (fC (.int 0)))) (ba (aa 0)) bI)
    (aB (aK (gN 4) (bA ap))
    (aB (aK (gN 5) (bA ap))
    (aB (gI (bM (ft (lOf (aa 1)))) (gN 6) eY)
    (ba (fQ (af (fAt (aa 0) (fC (.int 0))) (af (cC (lOf (aa 4))) (af (cC (lOf (aa 5))) ap))))))))))
noncomputable abbrev jz:SF:=(aB (aK (gN 6) (ak bH (fC (.int 1)) (ak eV (aa 2) (aa 5))))
    (aB (eC (eD (fAt (aa 4) (aa 5)) (fQ (af (ak jR (ak bH (aa 5) (fC (.int 1))) (aa 1)) (af (aa 6) ap)))))
    (eC (eD (fAt (aa 4) (ak jR (ak bH (aa 5) (fC (.int 1))) (aa 1))) (fQ (af (aa 5) (af (aa 6) ap)))))))
noncomputable def gf:Fn:=bJ 1 8 (aB (aK (gN 1) (ak bH (fC (.int 3)) (au aw (af (aa 0) (af (fC (.int 28)) ap)))))
    (aB (aK (gN 2) (au aw (af (aa 0) (af (fC (.int 2)) ap))))
    (aB (aK (gN 3) (au aw (af (aa 0) (af (fC (.int 2)) ap))))
    (aB (aK (gN 4) (bA (bz 1 [] (bM (aa 1)) (gN 0) [] (bA ap))))
    (aB (gI (bM (ak bH (ak m5 (aa 1) (fC (.int 1))) (aa 3))) (gN 5) jz)
    (aB (aK (gN 7) (bA (bz 1 [] (dq (aa 4)) (gN 0) [] (jS (bz 2 [] (dq (aa 0)) (gT [0,1]) [] (aa 1))))))
    (aB (sIf (tE (ak oGt (au aw (af (aa 0) (af (fC (.int 3)) ap))) (fC (.int 0)))) (aK (gN 7) (bA (bz 1 [] (dq (aa 4)) (gN 0) [] (fC (.int 1))))) bI)
    (ba (fQ (af (cC (bz 1 [] (dq (aa 4)) (gN 0) [] (cC (dr (aa 0))))) (af (cC (lOf (aa 7))) (af (ak zD (fQ (af (fC .non) ap)) (aa 1)) ap))))))))))))
noncomputable abbrev lx:SF:=(sIf (iJ (tE (ak oEq (au aw (af (fAt (aa 1) (aa 3)) (af (fC (.int 2)) ap))) (fC (.int 1)))) (tE (ak oNe (fAt (fAt (aa 0) (fC (.int 2))) (aa 3)) (fC (.int 0))))) (eC (eD (aa 2) (aa 3))) bI)
noncomputable def gM:Fn:=bJ 2 4 (aB (aK (gN 2) (bA ap))
    (aB (gI (bM (ft (lOf (aa 1)))) (gN 3) lx)
    (ba (aa 2))))
noncomputable abbrev qJ:SF:=(aB (aK (gN 4) (ak eV (fC (.int 2)) (jS (bz 2 [1] (dq (fAt (fAt (aa 0) (fC (.int 0))) (aa 3))) (gT [0,1]) [(tE (ak oEq (fAt (aa 2) (aa 0)) (fC (.int 1))))] (aa 1)))))
    (aB (aK (gN 5) (fAt (aa 1) (aa 3)))
    (aB (sIf (tE (ak g9 (fAt (fAt (aa 0) (fC (.int 2))) (aa 3)) (fC .non))) (aK (gN 5) (fAt (fAt (aa 0) (fC (.int 2))) (aa 3))) (sIf (tE (ak oNe (aa 4) (fAt (fAt (aa 0) (fC (.int 1))) (aa 3)))) (aK (gN 5) (iK (ak oGt (aa 4) (fAt (fAt (aa 0) (fC (.int 1))) (aa 3))))) bI))
    (eC (eD (aa 2) (aa 5))))))
noncomputable def er:Fn:=bJ 2 6 (aB (aK (gN 2) (bA ap))
    (aB (gI (bM (ft (lOf (aa 1)))) (gN 3) qJ)
    (ba (cC (lOf (aa 2))))))
noncomputable abbrev nZ:SF:=(eC (eD (aa 2) (au er (af (aa 0) (af (fAt (aa 2) (fC (.int (-1)))) ap)))))
noncomputable def ii:Fn:=bJ 2 3 (aB (aK (gN 2) (bA (af (aa 1) (af (au er (af (aa 0) (af (aa 1) ap))) ap))))
    (aB (eC (eD (aa 2) (au er (af (aa 0) (af (fAt (aa 2) (fC (.int (-1)))) ap)))))
    (aB (kY (tE (ak oNe (fAt (aa 2) (fC (.int (-1)))) (fAt (aa 2) (fC (.int (-3)))))) nZ)
    (aB (sIf (iJ (tE (ak oEq (fAt (aa 2) (fC (.int (-1)))) (fAt (aa 2) (fC (.int (-2)))))) (tE (ak iO (fC (.int 0)) (fAt (aa 2) (fC (.int (-1))))))) (ba (fQ (af (fC (.str [116,117,114,110])) (af (cW (aa 2) pNo (pAt (ak bH (jE (aa 2) (fAt (aa 2) (fC (.int (-1))))) (fC (.int 1))))) ap)))) bI)
    (ba (fQ (af (fC (.str [110,111,116])) (af (cW (aa 2) (pAt (ak bH (fC (.int (-2))) (iK (ak oEq (fAt (aa 2) (fC (.int (-1)))) (fAt (aa 2) (fC (.int (-2)))))))) pNo) ap))))))))
noncomputable abbrev zM:SF:=(sIf (tOr (dZ (tE (cX .int (aa 3)))) (tE (cX .bool (aa 3)))) (ba (fC (.bl false))) bI)
noncomputable abbrev sy:SF:=(aB (sIf (dZ (tE (cX .tuple (aa 2)))) (ba (fC (.bl false))) bI)
    (gI (dq (aa 2)) (gN 3) zM))
noncomputable def i7:Fn:=bJ 2 4 (aB (sIf (tOr (dZ (tE (cX .tuple (aa 0)))) (tOr (tE (ak oNe (ft (lOf (aa 0))) (fC (.int 2)))) (tOr (dZ (tE (cX .list (fAt (aa 0) (fC (.int 1)))))) (tE (ak oNe (fAt (aa 0) (fC (.int 0))) (fAt (aa 1) (fC (.int 0)))))))) (ba (fC (.bl false))) bI)
    (aB (gI (dq (fAt (aa 0) (fC (.int 1)))) (gN 2) sy)
    (aB (sIf (tE (ak oEq (fAt (aa 1) (fC (.int 0))) (fC (.str [110,111,116])))) (ba (ak oEq (bA (dr (fAt (aa 0) (fC (.int 1))))) (bA (dr (fAt (aa 1) (fC (.int 1))))))) bI)
    (ba (ak oEq (fAt (aa 0) (fC (.int 1))) (fAt (aa 1) (fC (.int 1))))))))
noncomputable abbrev xC:SF:=(aK (gT [1,2,3]) (au ig (af (aa 0) ap)))
noncomputable abbrev Cm:SF:=(aK (gN 4) (au ge (af (aa 1) (af (aa 2) (af (aa 3) ap)))))
noncomputable abbrev Cn:SF:=(sIf (tE (ak oEq (au aw (af (aa 3) (af (fC (.int 4)) ap))) (fC (.int 1)))) (aB (aK (gN 4) (au gf (af (bA (af (au bx (af (aa 0) (af (fC (.int 33)) ap))) ap)) ap)))
    (aK (gN 2) (bA (bz 1 [0] (bM (ft (lOf (fAt (aa 4) (fC (.int 0)))))) (gN 0) [] (bA (af (au bx (af (aa 1) (af (ak bH (fC (.int 1)) (aa 0)) ap))) ap)))))) bI)
noncomputable abbrev n4:SF:=(aK (gN 5) (bA (bz 1 [4] (bM (ft (lOf (aa 2)))) (gN 0) [(tE (ak oNe (fAt (fAt (aa 1) (fC (.int 2))) (aa 0)) (fC (.int 0))))] (aa 0))))
noncomputable abbrev sA:SF:=(aK (gN 6) (bA (af (au gM (af (aa 4) (af (aa 2) ap))) (af (au gM (af (aa 4) (af (aa 2) ap))) (af (bA ap) (af (aa 5) (af (cW (aa 5) pNo (pAt (fC (.int 1)))) (af (cW (aa 5) (pAt (fC (.int (-1)))) pNo) ap))))))))
noncomputable abbrev xD:SF:=(aB (aK (gN 8) (cC (bz 1 [7,4] (bM (ft (lOf (aa 2)))) (gN 0) [] (iK (fT (tOr (tE (ak oIn (aa 0) (aa 1))) (tE (ak oEq (fAt (fAt (aa 2) (fC (.int 2))) (aa 0)) (fC (.int 1))))))))))
    (aB (aK (gN 9) (bA (lOf (aa 7))))
    (aB (aK (gN 10) (au eS (af (aa 4) (af (aa 9) ap))))
    (aB (sIf (tOr (dZ (tE (cX .tuple (aa 10)))) (tOr (tE (ak oNe (aa 10) (aa 8))) (tE (ak oIn (fC (.bl true)) (bA (bz 1 [] (dq (aa 10)) (gN 0) [] (cX .bool (aa 0)))))))) (ba (fC (.bl false))) bI)
    (aB (aK (gN 11) (au ii (af (aa 4) (af (aa 8) ap))))
    (aB (aK (gN 12) (au cy (af (aa 4) (af (aa 9) ap))))
    (aB (sIf (tOr (dZ (tE (au i7 (af (aa 12) (af (aa 11) ap))))) (tE (ak oNe (aa 9) (aa 7)))) (ba (fC (.bl false))) bI)
    (aB (eC (eD (fAt (aa 12) (fC (.int 1))) (aa 8)))
    (aB (eC (eD (aa 9) (fC (.int 0))))
    (sIf (dZ (tE (au i7 (af (au cy (af (aa 4) (af (aa 7) ap))) (af (aa 11) ap))))) (ba (fC (.bl false))) bI))))))))))
noncomputable abbrev xE:SF:=(gI (dq (aa 6)) (gN 7) xD)
noncomputable abbrev xF:SF:=(ba (fC (.bl true)))
noncomputable def zN:Fn:=bJ 1 13 (aB xC (aB Cm (aB Cn (aB n4 (aB sA (aB xE xF))))))
end Fm
set_option Elab.async false
set_option linter.all false
set_option maxRecDepth 100000
set_option maxHeartbeats 4000000
namespace Fm
open PySem PySem.Spec L2
section
abbrev dA (i : Nat) : Stmt := PySem.Challenge.pw_followmost_k32_people_who_turn_all.main.body.getD i (.Pass ⟨0, 0, 0, 0⟩)
abbrev eI:Stmt:=dA 5
abbrev df:Stmt:=dA 6
abbrev dh:Stmt:=dA 7
abbrev fF:Stmt:=dA 9
abbrev fG:Stmt:=dA 10
abbrev gO:Stmt:=dA 11
abbrev fH:Stmt:=dA 12
abbrev eJ:Stmt:=dA 13
abbrev dP:Stmt:=dA 14
abbrev ly:Stmt:=dA 16
abbrev cT:Stmt:=dA 17
abbrev fI:Stmt:=dA 18
abbrev fJ:Stmt:=dA 19
abbrev fK:Stmt:=dA 20
abbrev jA:Stmt:=dA 22
abbrev cj:Stmt:=dA 27
abbrev cm:Stmt:=dA 26
abbrev jB:Stmt:=dA 24
abbrev dQ:Stmt:=dA 25
abbrev dR:Stmt:=dA 29
abbrev dS:Stmt:=dA 30
abbrev dj:Stmt:=dA 31
abbrev cU:Stmt:=dA 32
abbrev eK:Stmt:=dA 33
abbrev eL:Stmt:=dA 34
abbrev cV:Stmt:=dA 35
abbrev dU:Stmt:=dA 36
abbrev dW:Stmt:=dA 37
abbrev dX:Stmt:=dA 38
abbrev eM:Stmt:=dA 39
abbrev fL:Stmt:=dA 40
abbrev kB:Stmt:=dA 41
variable {P:Program} {w:World} {K:PySem.W.Frag} {mg:Str→Option Value} {base:Heap} {f:Addr} {fd:FuncData}
theorem va:aR ["thing"] ["thing"] (al eI):=⟨rfl,rfl,rfl,by decide +kernel,rfl,by decide +kernel,by decide +kernel⟩
theorem vb (F:Fun K "is_whole" "is_whole" eI f fd) (aJ:mg "isinstance" = none) (iq:mg "bool" = none) (dC:mg "int" = none):cz P w K mg base CX0 1 f fd ["thing"] (spF K eG 1):=by
  refine bY F va fun cdv A outer s H E hr => ?_
  have hu:=dw hr
  exact (ao (aH (MB.me (xh (my (ej (t:=.int) rfl aJ rfl dC (by decide +kernel) (mv 0))) (rK (FE (my (ej (t:=.bool) rfl aJ rfl iq (by decide +kernel) (mv 0)))))))))
theorem pC:aR ["thing", "least", "most"] ["thing", "least", "most"] (al df):=⟨rfl,rfl,rfl,by decide +kernel,rfl,by decide +kernel,by decide +kernel⟩
theorem pD (F:Fun K "is_between" "is_between" df f fd) (j8:Def P w K mg base "is_whole" 1 1 eG):cz P w K mg base CX0 2 f fd ["thing", "least", "most"] (spF K cw 3):=by
  refine bY F pC fun cdv A outer s H E hr => ?_
  have hu:=dw hr
  exact (ao (aH (MB.me (xh (my (aq j8 (hr.mono (by decide)) rfl (ae (mv 0) am) ar)) (rK (my (BL ED ED kn kn (mv 1) (mv 0) (mv 2))))))))
theorem pE:aR ["thing"] ["thing"] (al dh):=⟨rfl,rfl,rfl,by decide +kernel,rfl,by decide +kernel,by decide +kernel⟩
theorem pF (F:Fun K "is_opinion" "is_opinion" dh f fd) (eA:Def P w K mg base "is_between" 2 3 cw):cz P w K mg base CX0 3 f fd ["thing"] (spF K cM 1):=by
  refine bY F pE fun cdv A outer s H E hr => ?_
  have hu:=dw hr
  exact (ao (aH (aq eA (hr.mono (by decide)) rfl (ae (mv 0) (ae ag (ae ag am))) ar)))
theorem xG:aR ["web"] ["web"] (al fF):=⟨rfl,rfl,rfl,by decide +kernel,rfl,by decide +kernel,by decide +kernel⟩
theorem xH (F:Fun K "many_of" "many_of" fF f fd) (bL:mg "len" = none):cz P w K mg base CX0 1 f fd ["web"] (spF K ca 1):=by
  refine bY F xG fun cdv A outer s H E hr => ?_
  have hu:=dw hr
  exact (ao (aH (eh rfl bL (dl (aC (mv 0) ag (fun _ _=>rfl))))))
theorem xI:aR ["web", "person"] ["web", "person"] (al fG):=⟨rfl,rfl,rfl,by decide +kernel,rfl,by decide +kernel,by decide +kernel⟩
theorem xJ (F:Fun K "ties_of" "ties_of" fG f fd):cz P w K mg base CX0 1 f fd ["web", "person"] (spF K gK 2):=by
  refine bY F xI fun cdv A outer s H E hr => ?_
  have hu:=dw hr
  exact (ao (aH (aC (aC (mv 0) ag (fun _ _=>rfl)) (mv 1) (fun _ _=>rfl))))
theorem Az:aR ["web", "person"] ["web", "person"] (al gO):=⟨rfl,rfl,rfl,by decide +kernel,rfl,by decide +kernel,by decide +kernel⟩
theorem AA (F:Fun K "bar_of" "bar_of" gO f fd):cz P w K mg base CX0 1 f fd ["web", "person"] (spF K gL 2):=by
  refine bY F Az fun cdv A outer s H E hr => ?_
  have hu:=dw hr
  exact (ao (aH (aC (aC (mv 0) ag (fun _ _=>rfl)) (mv 1) (fun _ _=>rfl))))
theorem xK:aR ["web", "person"] ["web", "person"] (al fH):=⟨rfl,rfl,rfl,by decide +kernel,rfl,by decide +kernel,by decide +kernel⟩
theorem xL (F:Fun K "stay_of" "stay_of" fH f fd):cz P w K mg base CX0 1 f fd ["web", "person"] (spF K cI 2):=by
  refine bY F xK fun cdv A outer s H E hr => ?_
  have hu:=dw hr
  exact (ao (aH (aC (aC (mv 0) ag (fun _ _=>rfl)) (mv 1) (fun _ _=>rfl))))
theorem vc:aR ["web"] ["web"] (al eJ):=⟨rfl,rfl,rfl,by decide +kernel,rfl,by decide +kernel,by decide +kernel⟩
theorem vd (F:Fun K "stays_of" "stays_of" eJ f fd) (ff:mg "list" = none):cz P w K mg base CX0 1 f fd ["web"] (spF K dL 1):=by
  refine bY F vc fun cdv A outer s H E hr => ?_
  have hu:=dw hr
  exact (ao (aH (cA (zx rfl ff (dl (aC (mv 0) ag (fun _ _=>rfl)))))))
theorem sB:aR ["web", "thing"] ["web", "thing"] (al dP):=⟨rfl,rfl,rfl,by decide +kernel,rfl,by decide +kernel,by decide +kernel⟩
theorem sC (F:Fun K "is_person" "is_person" dP f fd) (eA:Def P w K mg base "is_between" 2 3 cw) (eO:Def P w K mg base "many_of" 1 1 ca):cz P w K mg base CX0 3 f fd ["web", "thing"] (spF K eX 2):=by
  refine bY F sB fun cdv A outer s H E hr => ?_
  have hu:=dw hr
  exact (ao (aH (aq eA (hr.mono (by decide)) rfl (ae (mv 1) (ae ag (ae (aP gY rG (aq eO (hr.mono (by decide)) rfl (ae (mv 0) am) ar) ag) am))) ar)))
theorem nt:aR ["web", "thing", "person", "opinion", "stay"] ["web", "thing"] (al ly):=⟨rfl,rfl,rfl,by decide +kernel,rfl,by decide +kernel,by decide +kernel⟩
theorem D3 (F:Fun K "fits" "fits" ly f fd) (dY:mg "enumerate" = none) (bL:mg "len" = none) (aJ:mg "isinstance" = none) (aU:mg "tuple" = none) (eP:Def P w K mg base "stay_of" 1 2 cI) (iu:Def P w K mg base "is_opinion" 3 1 cM) (eO:Def P w K mg base "many_of" 1 1 ca):cz P w K mg base CX0 4 f fd ["web", "thing"] (spF K nV 2):=by
  refine bY F nt fun cdv A outer s H E hr => ?_
  have hu:=dw hr
  exact (ah (bO (MW.mt (ko (eE (ec (ej (t:=.tuple) rfl aJ rfl aU (by decide +kernel) (mv 1)))) (fV (aV (e8 hu) iC (eh rfl bL (dl (mv 1))) (aq eO (hr.mono (by decide)) rfl (ae (mv 0) am) ar) (aO _)) (.inr rfl)))) (ao (aH gj)) aW)
    (ah (e9 PassesOwn.never rfl (DR rfl dY (mv 1)) (iR rfl (bN (aL (i:=2) nt.nd rfl (by first|exact .inl rfl|exact .inr rfl)) (bN (aL (i:=3) nt.nd rfl (by first|exact .inl rfl|exact .inr rfl)) gk))) (ah (bO (eE (ec (aq iu (hr.mono (by decide)) rfl (ae (mv 3) am) ar))) (ao (aH gj)) aW)
    (ah (aI (i:=4) nt.nd rfl (by first|exact .inl rfl|exact .inr rfl) (aq eP (hr.mono (by decide)) rfl (ae (mv 0) (ae (mv 2) am)) ar))
    (ao (bO (MW.mt (nG (aV rj kZ (mv 4) d8 (aO _)) (fV (aV (e8 hu) iC (mv 3) (mv 4) (aO _)) (.inl rfl)))) (ao (aH gj)) aW)))))
    (ao (aH gj))))
theorem n8:aR ["web", "thing"] ["web", "thing"] (al cT):=⟨rfl,rfl,rfl,by decide +kernel,rfl,by decide +kernel,by decide +kernel⟩
theorem n9 (F:Fun K "check_stand" "check_stand" cT f fd) (xV:Def P w K mg base "fits" 4 2 nV):cz P w K mg base CX0 5 f fd ["web", "thing"] (spF K cS 2):=by
  refine bY F n8 fun cdv A outer s H E hr => ?_
  have hu:=dw hr
  exact (ao (bO (eE (ec (aq xV (hr.mono (by decide)) rfl (ae (mv 0) (ae (mv 1) am)) ar))) (ao BP) aW))
theorem xM:aR ["web", "stand", "person"] ["web", "stand", "person"] (al fI):=⟨rfl,rfl,rfl,by decide +kernel,rfl,by decide +kernel,by decide +kernel⟩
theorem xN (F:Fun K "pull_at" "pull_at" fI f fd) (gh:mg "sum" = none) (lK:Def P w K mg base "ties_of" 1 2 gK):cz P w K mg base CX0 2 f fd ["web", "stand", "person"] (spF K fD 3):=by
  refine bY F xM fun cdv A outer s H E hr => ?_
  have hu:=dw hr
  exact (ao (aH (aP d5 d9 ag (nI rfl rfl gh (eg (dE (own:=["other", "weight"]) (capn:=["stand"]) (caps:=[1]) rfl (bC.mk' rfl (by decide +kernel) (by decide +kernel) (by repeat' (first|exact aM.nil|refine aM.cons (by first|exact (fun _=>.inl rfl)|exact (fun _=>.inr rfl)|(intro z;cases z;done)) ?_)) (bu.cons rfl rfl bu.nil)) (ei (aq lK (hr.mono (by decide)) rfl (ae (mv 0) (ae (mv 2) am)) ar))
      (fun cl C s H ex=>⟨(iR rfl (bN (aL (i:=0) (show ((["other", "weight"] : List Str)++(["stand"] : List Str)).Nodup by decide +kernel) rfl (by first|exact .inl rfl|exact .inr rfl)) (bN (aL (i:=1) (show ((["other", "weight"] : List Str)++(["stand"] : List Str)).Nodup by decide +kernel) rfl (by first|exact .inl rfl|exact .inr rfl)) gk))),(rS (aV (cG hu) dN (aC (mv 2) (mv 0) (fun _ _=>rfl)) ag (aO _))),(mv 1)⟩)))))))
theorem ik:aR ["web", "stand", "person", "stay", "strength", "bar"] ["web", "stand", "person"] (al fJ):=⟨rfl,rfl,rfl,by decide +kernel,rfl,by decide +kernel,by decide +kernel⟩
theorem xO (F:Fun K "next_at" "next_at" fJ f fd) (oy:Def P w K mg base "bar_of" 1 2 gL) (lL:Def P w K mg base "pull_at" 2 3 fD) (eP:Def P w K mg base "stay_of" 1 2 cI):cz P w K mg base CX0 3 f fd ["web", "stand", "person"] (spF K eH 3):=by
  refine bY F ik fun cdv A outer s H E hr => ?_
  have hu:=dw hr
  exact (ah (aI (i:=3) ik.nd rfl (by first|exact .inl rfl|exact .inr rfl) (aq eP (hr.mono (by decide)) rfl (ae (mv 0) (ae (mv 2) am)) ar))
    (ah (bO (aV rj kZ (mv 3) d8 (aO _)) (ao (aH (mv 3))) aW)
    (ah (aI (i:=4) ik.nd rfl (by first|exact .inl rfl|exact .inr rfl) (aq lL (hr.mono (by decide)) rfl (ae (mv 0) (ae (mv 1) (ae (mv 2) am))) ar))
    (ah (aI (i:=5) ik.nd rfl (by first|exact .inl rfl|exact .inr rfl) (aq oy (hr.mono (by decide)) rfl (ae (mv 0) (ae (mv 2) am)) ar))
    (ah (bO (aV (cG hu) dN (mv 4) (mv 5) (aO _)) (ao (aH (aC (mv 1) (mv 2) (fun _ _=>rfl)))) aW)
    (ao (aH (BK (aV ny kn (mv 4) (mv 5) (aO _)) ag ag))))))))
theorem xP:aR ["web", "stand"] ["web", "stand"] (al fK):=⟨rfl,rfl,rfl,by decide +kernel,rfl,by decide +kernel,by decide +kernel⟩
theorem xQ (F:Fun K "turn_at" "turn_at" fK f fd) (aU:mg "tuple" = none) (aX:mg "range" = none) (eO:Def P w K mg base "many_of" 1 1 ca) (lM:Def P w K mg base "next_at" 3 3 eH):cz P w K mg base CX0 4 f fd ["web", "stand"] (spF K dc 2):=by
  refine bY F xP fun cdv A outer s H E hr => ?_
  have hu:=dw hr
  exact (ao (aH (db rfl aU (eg (dE (own:=["person"]) (capn:=["web", "stand"]) (caps:=[0,1]) rfl (bC.mk' rfl (by decide +kernel) (by decide +kernel) (by repeat' (first|exact aM.nil|refine aM.cons (by first|exact (fun _=>.inl rfl)|exact (fun _=>.inr rfl)|(intro z;cases z;done)) ?_)) (bu.cons rfl rfl (bu.cons rfl rfl bu.nil))) (bT rfl aX (aq eO (hr.mono (by decide)) rfl (ae (mv 0) am) ar))
      (fun cl C s H ex=>⟨(aL (i:=0) (show ((["person"] : List Str)++(["web", "stand"] : List Str)).Nodup by decide +kernel) rfl (by first|exact .inl rfl|exact .inr rfl)),cr,(aq lM (hr.mono (by decide)) rfl (ae (mv 1) (ae (mv 2) (ae (mv 0) am))) ar)⟩))))))
theorem i8:aR ["web", "stand", "stands", "later", "word"] ["web", "stand"] (al jA):=⟨rfl,rfl,rfl,by decide +kernel,rfl,by decide +kernel,by decide +kernel⟩
theorem Co (F:Fun K "ended" "ended" jA f fd) (bL:mg "len" = none) (gS:Def P w K mg base "turn_at" 4 2 dc) (gz:Def P w K mg base "check_stand" 5 2 cS):cz P w K mg base CX0 6 f fd ["web", "stand"] (spF K ie 2):=by
  refine bY F i8 fun cdv A outer s H E hr => ?_
  have hu:=dw hr
  exact (ah (cE (aq gz (hr.mono (by decide)) rfl (ae (mv 0) (ae (mv 1) am)) ar))
    (ah (aI (i:=2) i8.nd rfl (by first|exact .inl rfl|exact .inr rfl) (cA (b5 (ae (mv 1) (ae (aq gS (hr.mono (by decide)) rfl (ae (mv 0) (ae (mv 1) am)) ar) am)) (fun _ _ _ _ z=>by rw [(av (av bh)) _ _ _ _ z];decide))))
    (ah (aI (i:=3) i8.nd rfl (by first|exact .inl rfl|exact .inr rfl) (aq gS (hr.mono (by decide)) rfl (ae (mv 0) (ae (aC (mv 2) ag (fun _ _=>rfl)) am)) ar))
    (ah (uQ PassesOwn.never (aV (e8 hu) iC (mv 3) (aC (mv 2) bU (fun _ _=>rfl)) (aO _)) (ah (cE (dI (mv 2) (mv 3)))
    (ao (aI (i:=3) i8.nd rfl (by first|exact .inl rfl|exact .inr rfl) (aq gS (hr.mono (by decide)) rfl (ae (mv 0) (ae (mv 3) am)) ar)))))
    (ah (aI (i:=4) i8.nd rfl (by first|exact .inl rfl|exact .inr rfl) (BK (aV (cG hu) dN (aC (mv 2) bU (fun _ _=>rfl)) (aC (mv 2) bU (fun _ _=>rfl)) (aO _)) (hJ [114,101,115,116] rfl) (hJ [112,97,105,114] rfl)))
    (ao (aH (dH (ae (aP gY rG (eh rfl bL (dl (mv 2))) ag) (ae (mv 4) (ae (mv 2) am)))))))))))
theorem lB:aR ["web", "thing"] ["web", "thing"] (al cj):=⟨rfl,rfl,rfl,by decide +kernel,rfl,by decide +kernel,by decide +kernel⟩
theorem lC (F:Fun K "may_be_chosen" "may_be_chosen" cj f fd) (eP:Def P w K mg base "stay_of" 1 2 cI) (jb:Def P w K mg base "is_person" 3 2 eX):cz P w K mg base CX0 4 f fd ["web", "thing"] (spF K bG 2):=by
  refine bY F lB fun cdv A outer s H E hr => ?_
  have hu:=dw hr
  exact (ao (aH (MB.me (xh (my (aq jb (hr.mono (by decide)) rfl (ae (mv 0) (ae (mv 1) am)) ar)) (rK (my (gu (e8 hu) iC (aq eP (hr.mono (by decide)) rfl (ae (mv 0) (ae (mv 1) am)) ar) ag (aO _))))))))
theorem lD:aR ["web", "thing"] ["web", "thing"] (al cm):=⟨rfl,rfl,rfl,by decide +kernel,rfl,by decide +kernel,by decide +kernel⟩
theorem lF (F:Fun K "are_choosable" "are_choosable" cm f fd) (zW:mg "all" = none) (aX:mg "range" = none) (bL:mg "len" = none) (aJ:mg "isinstance" = none) (ff:mg "list" = none) (fg:Def P w K mg base "may_be_chosen" 4 2 bG):cz P w K mg base CX0 5 f fd ["web", "thing"] (spF K cf 2):=by
  refine bY F lD fun cdv A outer s H E hr => ?_
  have hu:=dw hr
  exact (ah (bO (eE (ec (ej (t:=.list) rfl aJ rfl ff (by decide +kernel) (mv 1)))) (ao (aH gj)) aW)
    (ah (bO (eE (ec (B6 rfl rfl zW (eg (dE (own:=["person"]) (capn:=["web"]) (caps:=[0]) rfl (bC.mk' rfl (by decide +kernel) (by decide +kernel) (by repeat' (first|exact aM.nil|refine aM.cons (by first|exact (fun _=>.inl rfl)|exact (fun _=>.inr rfl)|(intro z;cases z;done)) ?_)) (bu.cons rfl rfl bu.nil)) (ei (mv 1))
      (fun cl C s H ex=>⟨(aL (i:=0) (show ((["person"] : List Str)++(["web"] : List Str)).Nodup by decide +kernel) rfl (by first|exact .inl rfl|exact .inr rfl)),cr,(aq fg (hr.mono (by decide)) rfl (ae (mv 1) (ae (mv 0) am)) ar)⟩)))))) (ao (aH gj)) aW)
    (ao (aH (B6 rfl rfl zW (eg (dE (own:=["place"]) (capn:=["thing"]) (caps:=[1]) rfl (bC.mk' rfl (by decide +kernel) (by decide +kernel) (by repeat' (first|exact aM.nil|refine aM.cons (by first|exact (fun _=>.inl rfl)|exact (fun _=>.inr rfl)|(intro z;cases z;done)) ?_)) (bu.cons rfl rfl bu.nil)) (bT rfl aX (aP gY rG (eh rfl bL (dl (mv 1))) ag))
      (fun cl C s H ex=>⟨(aL (i:=0) (show ((["place"] : List Str)++(["thing"] : List Str)).Nodup by decide +kernel) rfl (by first|exact .inl rfl|exact .inr rfl)),cr,(gu uH kn (aC (mv 1) (mv 0) (fun _ _=>rfl)) (aC (mv 1) (aP br bR (mv 0) ag) (fun _ _=>rfl)) (aO _))⟩))))))))
theorem Cp:aR ["web", "some"] ["web", "some"] (al jB):=⟨rfl,rfl,rfl,by decide +kernel,rfl,by decide +kernel,by decide +kernel⟩
theorem Cq (F:Fun K "begun" "begun" jB f fd) (aU:mg "tuple" = none) (dY:mg "enumerate" = none) (j9:Def P w K mg base "stays_of" 1 1 dL) (fj:Def P w K mg base "are_choosable" 5 2 cf):cz P w K mg base CX0 6 f fd ["web", "some"] (spF K eS 2):=by
  refine bY F Cp fun cdv A outer s H E hr => ?_
  have hu:=dw hr
  exact (ah (bO (eE (ec (aq fj (hr.mono (by decide)) rfl (ae (mv 0) (ae (mv 1) am)) ar))) (ao BP) aW)
    (ao (aH (db rfl aU (eg (Ca (own:=["person", "stay"]) (capn:=["some"]) (caps:=[1]) rfl (bC.mk' rfl (by decide +kernel) (by decide +kernel) (by repeat' (first|exact aM.nil|refine aM.cons (by first|exact (fun _=>.inl rfl)|exact (fun _=>.inr rfl)|(intro z;cases z;done)) ?_)) (bu.cons rfl rfl bu.nil)) (B9 rfl dY (aq j9 (hr.mono (by decide)) rfl (ae (mv 0) am) ar))
      (fun cl C s H ex=>⟨(iR rfl (bN (aL (i:=0) (show ((["person", "stay"] : List Str)++(["some"] : List Str)).Nodup by decide +kernel) rfl (by first|exact .inl rfl|exact .inr rfl)) (bN (aL (i:=1) (show ((["person", "stay"] : List Str)++(["some"] : List Str)).Nodup by decide +kernel) rfl (by first|exact .inl rfl|exact .inr rfl)) gk))),cr,(BK (MW.mt (ko (aV jt zC (mv 0) (mv 2) rfl) (fV (aV (cG hu) dN (mv 1) ag (aO _)) (.inr rfl)))) ag ag)⟩)))))))
theorem fA:aR ["web", "some", "end", "word", "stands"] ["web", "some"] (al dQ):=⟨rfl,rfl,rfl,by decide +kernel,rfl,by decide +kernel,by decide +kernel⟩
theorem sD (F:Fun K "turns_all" "turns_all" dQ f fd) (sP:Def P w K mg base "ended" 6 2 ie) (kD:Def P w K mg base "begun" 6 2 eS):cz P w K mg base CX0 7 f fd ["web", "some"] (spF K cy 2):=by
  refine bY F fA fun cdv A outer s H E hr => ?_
  have hu:=dw hr
  exact (ah (aI (i:=2) fA.nd rfl (by first|exact .inl rfl|exact .inr rfl) (aq sP (hr.mono (by decide)) rfl (ae (mv 0) (ae (aq kD (hr.mono (by decide)) rfl (ae (mv 0) (ae (mv 1) am)) ar) am)) ar))
    (ah (aI (i:=3) fA.nd rfl (by first|exact .inl rfl|exact .inr rfl) (aC (mv 2) ag (fun _ _=>rfl)))
    (ah (aI (i:=4) fA.nd rfl (by first|exact .inl rfl|exact .inr rfl) (aC (mv 2) ag (fun _ _=>rfl)))
    (ah (bO (aV (cG hu) dN (mv 3) (hJ [112,97,105,114] rfl) (aO _)) (ao (aH (dH (ae (hJ [110,111,116] rfl) (ae (fX (mv 4) (mC bU) mB) am))))) aW)
    (ah (bO (aV jt zC ag (aC (mv 4) bU (fun _ _=>rfl)) rfl) (ao (aH (dH (ae (hJ [110,111,116] rfl) (ae (fX (mv 4) (mC bU) mB) am))))) aW)
    (ao (aH (dH (ae (hJ [116,117,114,110] rfl) (ae (fX (mv 4) mB (mC bU)) am))))))))))
theorem bV:aR ["_law_script", "_law_k", "_law_seed", "_law_found", "_law_j", "_law_number"] ["_law_script", "_law_k"] (al dR):=⟨rfl,rfl,rfl,by decide +kernel,rfl,by decide +kernel,by decide +kernel⟩
theorem sE (F:Fun K "_law_wide" "_law_wide" dR f fd) (aX:mg "range" = none) (bL:mg "len" = none):cz P w K mg base CX0 1 f fd ["_law_script", "_law_k"] (spF K gc 2):=by
  refine bY F bV fun cdv A outer s H E hr => ?_
  have hu:=dw hr
  exact (ah (aI (i:=2) bV.nd rfl (by first|exact .inl rfl|exact .inr rfl) ag)
    (ah (bO (aV ny kn (eh rfl bL (dl (mv 0))) ag (aO _)) (ao (aI (i:=2) bV.nd rfl (by first|exact .inl rfl|exact .inr rfl) (aP gr gv (aC (mv 0) (aP gr gv (mv 1) (eh rfl bL (dl (mv 0)))) (fun _ _=>rfl)) ag))) aW)
    (ah (aI (i:=3) bV.nd rfl (by first|exact .inl rfl|exact .inr rfl) ag)
    (ah (e9 PassesOwn.never rfl (bT rfl aX ag) (aL (i:=4) bV.nd rfl (by first|exact .inl rfl|exact .inr rfl)) (ah (aI (i:=5) bV.nd rfl (by first|exact .inl rfl|exact .inr rfl) (aP gr gv (aP d5 d9 (aP br bR (aP br bR (aP br bR (mv 2) (aP d5 d9 ag (mv 1))) (aP d5 d9 (mv 4) (mv 4))) ag) ag) ag))
    (ah (aI (i:=5) bV.nd rfl (by first|exact .inl rfl|exact .inr rfl) (aP gr gv (aP d5 d9 (aP br bR (mv 5) ag) (aP br bR (aP br bR (mv 5) (mv 4)) ag)) ag))
    (ah (aI (i:=5) bV.nd rfl (by first|exact .inl rfl|exact .inr rfl) (aP gr gv (aP d5 d9 (aP br bR (mv 5) (mv 1)) ag) ag))
    (ao (aI (i:=3) bV.nd rfl (by first|exact .inl rfl|exact .inr rfl) (aP br bR (aP d5 d9 (mv 3) ag) (aP gr gv (aP d5 d9 (mv 5) (aP br bR (mv 5) ag)) ag))))))))
    (ao (aH (mv 3)))))))
theorem sF:aR ["_law_script", "_law_k"] ["_law_script", "_law_k"] (al dS):=⟨rfl,rfl,rfl,by decide +kernel,rfl,by decide +kernel,by decide +kernel⟩
theorem sG (F:Fun K "_law_cell" "_law_cell" dS f fd) (bL:mg "len" = none) (jc:Def P w K mg base "_law_wide" 1 2 gc):cz P w K mg base CX0 2 f fd ["_law_script", "_law_k"] (spF K bx 2):=by
  refine bY F sF fun cdv A outer s H E hr => ?_
  have hu:=dw hr
  exact (ah (bO (MW.mt (nG (aV uH kn (mv 1) (eh rfl bL (dl (mv 0))) (aO _)) (fV (aV (cG hu) dN (aP gr gv (aC (mv 0) ag (fun _ _=>rfl)) ag) ag (aO _)) (.inl rfl)))) (ao (aH (aC (mv 0) (mv 1) (fun _ _=>rfl)))) aW)
    (ao (aH (aq jc (hr.mono (by decide)) rfl (ae (mv 0) (ae (mv 1) am)) ar))))
theorem jF:aR ["_law_state", "_law_most", "_law_found"] ["_law_state", "_law_most"] (al dj):=⟨rfl,rfl,rfl,by decide +kernel,rfl,by decide +kernel,by decide +kernel⟩
theorem pG (F:Fun K "_law_digit" "_law_digit" dj f fd):cz P w K mg base CX0 1 f fd ["_law_state", "_law_most"] (spF K aw 2):=by
  refine bY F jF fun cdv A outer s H E hr => ?_
  have hu:=dw hr
  exact (ah (aI (i:=2) jF.nd rfl (by first|exact .inl rfl|exact .inr rfl) (aP gr gv (aC (mv 0) ag (fun _ _=>rfl)) (mv 1)))
    (ah (FK (aP uN BI (aC (mv 0) ag (fun _ _=>rfl)) (mv 1)) (mv 0) ag)
    (ao (aH (mv 2)))))
theorem i9:aR ["_law_state", "_law_sort", "_law_number"] ["_law_state", "_law_sort"] (al cU):=⟨rfl,rfl,rfl,by decide +kernel,rfl,by decide +kernel,by decide +kernel⟩
theorem oe (F:Fun K "_law_weight" "_law_weight" cU f fd) (dC:mg "int" = none) (ax:Def P w K mg base "_law_digit" 1 2 aw):cz P w K mg base CX0 2 f fd ["_law_state", "_law_sort"] (spF K cO 2):=by
  refine bY F i9 fun cdv A outer s H E hr => ?_
  have hu:=dw hr
  exact (ah (bO (aV (cG hu) dN (mv 1) ag (aO _)) (ah (aI (i:=2) i9.nd rfl (by first|exact .inl rfl|exact .inr rfl) (aq ax (hr.mono (by decide)) rfl (ae (mv 0) (ae ag am)) ar))
    (ao (aH (aP d5 d9 (mv 2) (kq rfl dC (gu uH kn (mv 2) ag (aO _))))))) aW)
    (ah (bO (aV (cG hu) dN (mv 1) ag (aO _)) (ao (aH (qz (b5 (ae ag (ae ag (ae ag (ae ag (ae ag (ae ag (ae ag (ae ag (ae ag am))))))))) (fun _ _ _ _ z=>by rw [(av (av (av (av (av (av (av (av (av bh))))))))) _ _ _ _ z];decide)) (aq ax (hr.mono (by decide)) rfl (ae (mv 0) (ae ag am)) ar) (fun _ _=>rfl)))) aW)
    (ao (aH (qz (b5 (ae ag (ae ag (ae ag (ae ag am)))) (fun _ _ _ _ z=>by rw [(av (av (av (av bh)))) _ _ _ _ z];decide)) (aq ax (hr.mono (by decide)) rfl (ae (mv 0) (ae ag am)) ar) (fun _ _=>rfl))))))
theorem mF:aR ["_law_state", "_law_total", "_law_way"] ["_law_state", "_law_total"] (al eK):=⟨rfl,rfl,rfl,by decide +kernel,rfl,by decide +kernel,by decide +kernel⟩
theorem ve (F:Fun K "_law_bar" "_law_bar" eK f fd) (ax:Def P w K mg base "_law_digit" 1 2 aw):cz P w K mg base CX0 2 f fd ["_law_state", "_law_total"] (spF K eT 2):=by
  refine bY F mF fun cdv A outer s H E hr => ?_
  have hu:=dw hr
  exact (ah (aI (i:=2) mF.nd rfl (by first|exact .inl rfl|exact .inr rfl) (aq ax (hr.mono (by decide)) rfl (ae (mv 0) (ae ag am)) ar))
    (ah (bO (aV uH kn (mv 2) ag (aO _)) (ao (aH (mv 1))) aW)
    (ah (bO (aV (cG hu) dN (mv 2) ag (aO _)) (ao (aH (aP br bR (aP gY rG (mv 1) ag) (aq ax (hr.mono (by decide)) rfl (ae (mv 0) (ae ag am)) ar)))) aW)
    (ah (bO (aV uH kn (mv 2) ag (aO _)) (ao (aH (aP gY rG (aq ax (hr.mono (by decide)) rfl (ae (mv 0) (ae (aP br bR (aP d5 d9 ag (mv 1)) ag) am)) ar) ag))) aW)
    (ao (aH (aP br bR (aP gY rG (aq ax (hr.mono (by decide)) rfl (ae (mv 0) (ae (aP gY rG (aP d5 d9 ag (aP Bv BJ ag ag)) ag) am)) ar) (aP Bv BJ ag ag)) ag)))))))
theorem bi:aR ["_law_script", "_law_head", "_law_many", "_law_states", "_law_ties", "_law_k", "_law_sort", "_law_j", "_law_heavy", "_law_bars", "_law_stays", "_law_stay"] ["_law_script"] (al eL):=⟨rfl,rfl,rfl,by decide +kernel,rfl,by decide +kernel,by decide +kernel⟩
theorem vf (F:Fun K "_law_web" "_law_web" eL f fd) (aU:mg "tuple" = none) (dD:mg "sorted" = none) (aX:mg "range" = none) (gh:mg "sum" = none) (ax:Def P w K mg base "_law_digit" 1 2 aw) (ka:Def P w K mg base "_law_bar" 2 2 eT) (gA:Def P w K mg base "_law_weight" 2 2 cO) (da:Def P w K mg base "_law_cell" 2 2 bx):cz P w K mg base CX0 3 f fd ["_law_script"] (spF K ig 1):=by
  refine bY F bi fun cdv A outer s H E hr => ?_
  have hu:=dw hr
  exact (ah (aI (i:=1) bi.nd rfl (by first|exact .inl rfl|exact .inr rfl) (cA (b5 (ae (aP uN BI (aq da (hr.mono (by decide)) rfl (ae (mv 0) (ae ag am)) ar) ag) am) (fun _ _ _ _ z=>by rw [(av bh) _ _ _ _ z];decide))))
    (ah (aI (i:=2) bi.nd rfl (by first|exact .inl rfl|exact .inr rfl) (aP br bR ag (aq ax (hr.mono (by decide)) rfl (ae (mv 1) (ae (qz (b5 (ae ag (ae ag (ae ag (ae ag am)))) (fun _ _ _ _ z=>by rw [(av (av (av (av bh)))) _ _ _ _ z];decide)) (aq ax (hr.mono (by decide)) rfl (ae (mv 1) (ae ag am)) ar) (fun _ _=>rfl)) am)) ar)))
    (ah (hV (i:=3) bi.nd rfl (by first|exact .inl rfl|exact .inr rfl) (own:=["_law_k"]) (capn:=["_law_script"]) (caps:=[0]) rfl (bC.mk' rfl (by decide +kernel) (by decide +kernel) (by repeat' (first|exact aM.nil|refine aM.cons (by first|exact (fun _=>.inl rfl)|exact (fun _=>.inr rfl)|(intro z;cases z;done)) ?_)) (bu.cons rfl rfl bu.nil)) (bT rfl aX (mv 2))
      (fun cl C s H ex=>⟨(aL (i:=0) (show ((["_law_k"] : List Str)++(["_law_script"] : List Str)).Nodup by decide +kernel) rfl (by first|exact .inl rfl|exact .inr rfl)),cr,(cA (b5 (ae (aq da (hr.mono (by decide)) rfl (ae (mv 1) (ae (aP br bR ag (mv 0)) am)) ar) am) (fun _ _ _ _ z=>by rw [(av bh) _ _ _ _ z];decide)))⟩))
    (ah (hV (i:=4) bi.nd rfl (by first|exact .inl rfl|exact .inr rfl) (own:=["_law_k"]) (capn:=[]) (caps:=[]) rfl (bC.mk' rfl (by decide +kernel) (by decide +kernel) (by repeat' (first|exact aM.nil|refine aM.cons (by first|exact (fun _=>.inl rfl)|exact (fun _=>.inr rfl)|(intro z;cases z;done)) ?_)) bu.nil) (bT rfl aX (mv 2))
      (fun cl C s H ex=>⟨(aL (i:=0) (show ((["_law_k"] : List Str)++([] : List Str)).Nodup by decide +kernel) rfl (by first|exact .inl rfl|exact .inr rfl)),cr,(cA (b5 am (fun _ _ _ _ z=>by rw [bh _ _ _ _ z];decide)))⟩))
    (ah (e9 PassesOwn.never rfl (bT rfl aX (mv 2)) (aL (i:=5) bi.nd rfl (by first|exact .inl rfl|exact .inr rfl)) (ah (aI (i:=6) bi.nd rfl (by first|exact .inl rfl|exact .inr rfl) (aq ax (hr.mono (by decide)) rfl (ae (aC (mv 3) (mv 5) (fun _ _=>rfl)) (ae ag am)) ar))
    (ao (e9 PassesOwn.never rfl (bT rfl aX (mv 5)) (aL (i:=7) bi.nd rfl (by first|exact .inl rfl|exact .inr rfl)) (ah (aI (i:=8) bi.nd rfl (by first|exact .inl rfl|exact .inr rfl) (aq gA (hr.mono (by decide)) rfl (ae (aC (mv 3) (mv 5) (fun _ _=>rfl)) (ae (mv 6) am)) ar))
    (ao (bO (aV ny kn (mv 8) ag (aO _)) (ah (cE (dI (aC (mv 4) (mv 5) (fun _ _=>rfl)) (dH (ae (mv 7) (ae (mv 8) am)))))
    (ao (cE (dI (aC (mv 4) (mv 7) (fun _ _=>rfl)) (dH (ae (mv 5) (ae (mv 8) am))))))) aW)))))))
    (ah (aI (i:=9) bi.nd rfl (by first|exact .inl rfl|exact .inr rfl) (cA (b5 am (fun _ _ _ _ z=>by rw [bh _ _ _ _ z];decide))))
    (ah (aI (i:=10) bi.nd rfl (by first|exact .inl rfl|exact .inr rfl) (cA (b5 am (fun _ _ _ _ z=>by rw [bh _ _ _ _ z];decide))))
    (ah (e9 PassesOwn.never rfl (bT rfl aX (mv 2)) (aL (i:=5) bi.nd rfl (by first|exact .inl rfl|exact .inr rfl)) (ah (cE (dI (mv 9) (aq ka (hr.mono (by decide)) rfl (ae (aC (mv 3) (mv 5) (fun _ _=>rfl)) (ae (nI rfl rfl gh (eg (dE (own:=["_law_other", "_law_heavy"]) (capn:=[]) (caps:=[]) rfl (bC.mk' rfl (by decide +kernel) (by decide +kernel) (by repeat' (first|exact aM.nil|refine aM.cons (by first|exact (fun _=>.inl rfl)|exact (fun _=>.inr rfl)|(intro z;cases z;done)) ?_)) bu.nil) (ei (aC (mv 4) (mv 5) (fun _ _=>rfl)))
      (fun cl C s H ex=>⟨(iR rfl (bN (aL (i:=0) (show ((["_law_other", "_law_heavy"] : List Str)++([] : List Str)).Nodup by decide +kernel) rfl (by first|exact .inl rfl|exact .inr rfl)) (bN (aL (i:=1) (show ((["_law_other", "_law_heavy"] : List Str)++([] : List Str)).Nodup by decide +kernel) rfl (by first|exact .inl rfl|exact .inr rfl)) gk))),cr,(mv 1)⟩)))) am)) ar)))
    (ah (aI (i:=11) bi.nd rfl (by first|exact .inl rfl|exact .inr rfl) (qz (b5 (ae d8 (ae d8 (ae d8 (ae d8 (ae d8 (ae ag (ae ag am))))))) (fun _ _ _ _ z=>by rw [(av (av (av (av (av (av (av bh))))))) _ _ _ _ z];decide)) (aq ax (hr.mono (by decide)) rfl (ae (aC (mv 3) (mv 5) (fun _ _=>rfl)) (ae ag am)) ar) (fun _ _=>rfl)))
    (ah (bO (MW.mt (nG (aV Fk FD (mv 11) d8 (aO _)) (fV (aV ny kn (uX (mv 10) d8) ag (aO _)) (.inl rfl)))) (ao (aI (i:=11) bi.nd rfl (by first|exact .inl rfl|exact .inr rfl) (aq ax (hr.mono (by decide)) rfl (ae (aC (mv 3) (mv 5) (fun _ _=>rfl)) (ae ag am)) ar))) aW)
    (ao (cE (dI (mv 10) (mv 11))))))))
    (ao (aH (dH (ae (dH (ae (db rfl aU (eg (dE (own:=["_law_some_here"]) (capn:=[]) (caps:=[]) rfl (bC.mk' rfl (by decide +kernel) (by decide +kernel) (by repeat' (first|exact aM.nil|refine aM.cons (by first|exact (fun _=>.inl rfl)|exact (fun _=>.inr rfl)|(intro z;cases z;done)) ?_)) bu.nil) (ei (mv 4))
      (fun cl C s H ex=>⟨(aL (i:=0) (show ((["_law_some_here"] : List Str)++([] : List Str)).Nodup by decide +kernel) rfl (by first|exact .inl rfl|exact .inr rfl)),cr,(db rfl aU (eg (B0 rfl dD (mv 0))))⟩)))) (ae (db rfl aU (dl (mv 9))) (ae (db rfl aU (dl (mv 10))) am)))) (ae (mv 3) (ae (mv 1) am))))))))))))))
theorem bE:aR ["_law_web_here", "_law_states", "_law_head", "_law_way", "_law_bars", "_law_stays", "_law_k", "_law_total", "_law_odd", "_law_stay"] ["_law_web_here", "_law_states", "_law_head"] (al cV):=⟨rfl,rfl,rfl,by decide +kernel,rfl,by decide +kernel,by decide +kernel⟩
theorem og (F:Fun K "_law_swayed" "_law_swayed" cV f fd) (aU:mg "tuple" = none) (aX:mg "range" = none) (bL:mg "len" = none) (dC:mg "int" = none) (gh:mg "sum" = none) (ax:Def P w K mg base "_law_digit" 1 2 aw):cz P w K mg base CX0 2 f fd ["_law_web_here", "_law_states", "_law_head"] (spF K ge 3):=by
  refine bY F bE fun cdv A outer s H E hr => ?_
  have hu:=dw hr
  exact (ah (aI (i:=3) bE.nd rfl (by first|exact .inl rfl|exact .inr rfl) (aq ax (hr.mono (by decide)) rfl (ae (mv 2) (ae ag am)) ar))
    (ah (bO (aV (cG hu) dN (mv 3) ag (aO _)) (ao (aH (mv 0))) aW)
    (ah (aI (i:=4) bE.nd rfl (by first|exact .inl rfl|exact .inr rfl) (cA (b5 am (fun _ _ _ _ z=>by rw [bh _ _ _ _ z];decide))))
    (ah (aI (i:=5) bE.nd rfl (by first|exact .inl rfl|exact .inr rfl) (cA (b5 am (fun _ _ _ _ z=>by rw [bh _ _ _ _ z];decide))))
    (ah (e9 PassesOwn.never rfl (bT rfl aX (eh rfl bL (dl (mv 1)))) (aL (i:=6) bE.nd rfl (by first|exact .inl rfl|exact .inr rfl)) (ah (aI (i:=7) bE.nd rfl (by first|exact .inl rfl|exact .inr rfl) (nI rfl rfl gh (eg (dE (own:=["_law_other", "_law_heavy"]) (capn:=[]) (caps:=[]) rfl (bC.mk' rfl (by decide +kernel) (by decide +kernel) (by repeat' (first|exact aM.nil|refine aM.cons (by first|exact (fun _=>.inl rfl)|exact (fun _=>.inr rfl)|(intro z;cases z;done)) ?_)) bu.nil) (ei (aC (aC (mv 0) ag (fun _ _=>rfl)) (mv 6) (fun _ _=>rfl)))
      (fun cl C s H ex=>⟨(iR rfl (bN (aL (i:=0) (show ((["_law_other", "_law_heavy"] : List Str)++([] : List Str)).Nodup by decide +kernel) rfl (by first|exact .inl rfl|exact .inr rfl)) (bN (aL (i:=1) (show ((["_law_other", "_law_heavy"] : List Str)++([] : List Str)).Nodup by decide +kernel) rfl (by first|exact .inl rfl|exact .inr rfl)) gk))),cr,(mv 1)⟩)))))
    (ah (aI (i:=8) bE.nd rfl (by first|exact .inl rfl|exact .inr rfl) (aP gY rG (aP d5 d9 ag (aq ax (hr.mono (by decide)) rfl (ae (aC (mv 1) (mv 6) (fun _ _=>rfl)) (ae (aP br bR (mv 7) ag) am)) ar)) ag))
    (ah (cE (dI (mv 4) (qz (b5 (ae ag (ae (mv 7) (ae (mv 8) am))) (fun _ _ _ _ z=>by rw [(av (av (av bh))) _ _ _ _ z];decide)) (mv 3) (fun _ _=>rfl))))
    (ah (aI (i:=9) bE.nd rfl (by first|exact .inl rfl|exact .inr rfl) (aC (aC (mv 0) ag (fun _ _=>rfl)) (mv 6) (fun _ _=>rfl)))
    (ah (bO (aV (cG hu) dN (mv 9) ag (aO _)) (ao (aI (i:=9) bE.nd rfl (by first|exact .inl rfl|exact .inr rfl) (qz (b5 (ae d8 (ae ag am)) (fun _ _ _ _ z=>by rw [(av (av bh)) _ _ _ _ z];decide)) (kq rfl dC (gu ny kn (aP br bR (uX (mv 5) d8) (As (Aq (aC (mv 0) ag (fun _ _=>rfl)) (mC (mv 6)) mB) d8)) ag (aO _))) (fun _ _=>rfl)))) aW)
    (ao (cE (dI (mv 5) (mv 9))))))))))
    (ao (aH (dH (ae (aC (mv 0) ag (fun _ _=>rfl)) (ae (db rfl aU (dl (mv 4))) (ae (db rfl aU (dl (mv 5))) am)))))))))))
theorem bW:aR ["_law_head", "_law_many", "_law_rising", "_law_ring", "_law_ties", "_law_k", "_law_heavy", "_law_bars"] ["_law_head"] (al dU):=⟨rfl,rfl,rfl,by decide +kernel,rfl,by decide +kernel,by decide +kernel⟩
theorem sH (F:Fun K "_law_line" "_law_line" dU f fd) (aU:mg "tuple" = none) (dD:mg "sorted" = none) (gh:mg "sum" = none) (aX:mg "range" = none) (ax:Def P w K mg base "_law_digit" 1 2 aw):cz P w K mg base CX0 2 f fd ["_law_head"] (spF K gf 1):=by
  refine bY F bW fun cdv A outer s H E hr => ?_
  have hu:=dw hr
  exact (ah (aI (i:=1) bW.nd rfl (by first|exact .inl rfl|exact .inr rfl) (aP br bR ag (aq ax (hr.mono (by decide)) rfl (ae (mv 0) (ae ag am)) ar)))
    (ah (aI (i:=2) bW.nd rfl (by first|exact .inl rfl|exact .inr rfl) (aq ax (hr.mono (by decide)) rfl (ae (mv 0) (ae ag am)) ar))
    (ah (aI (i:=3) bW.nd rfl (by first|exact .inl rfl|exact .inr rfl) (aq ax (hr.mono (by decide)) rfl (ae (mv 0) (ae ag am)) ar))
    (ah (hV (i:=4) bW.nd rfl (by first|exact .inl rfl|exact .inr rfl) (own:=["_law_k"]) (capn:=[]) (caps:=[]) rfl (bC.mk' rfl (by decide +kernel) (by decide +kernel) (by repeat' (first|exact aM.nil|refine aM.cons (by first|exact (fun _=>.inl rfl)|exact (fun _=>.inr rfl)|(intro z;cases z;done)) ?_)) bu.nil) (bT rfl aX (mv 1))
      (fun cl C s H ex=>⟨(aL (i:=0) (show ((["_law_k"] : List Str)++([] : List Str)).Nodup by decide +kernel) rfl (by first|exact .inl rfl|exact .inr rfl)),cr,(cA (b5 am (fun _ _ _ _ z=>by rw [bh _ _ _ _ z];decide)))⟩))
    (ah (e9 PassesOwn.never rfl (bT rfl aX (aP br bR (aP gY rG (mv 1) ag) (mv 3))) (aL (i:=5) bW.nd rfl (by first|exact .inl rfl|exact .inr rfl)) (ah (aI (i:=6) bW.nd rfl (by first|exact .inl rfl|exact .inr rfl) (aP br bR ag (aP d5 d9 (mv 2) (mv 5))))
    (ah (cE (dI (aC (mv 4) (mv 5) (fun _ _=>rfl)) (dH (ae (aP gr gv (aP br bR (mv 5) ag) (mv 1)) (ae (mv 6) am)))))
    (ao (cE (dI (aC (mv 4) (aP gr gv (aP br bR (mv 5) ag) (mv 1)) (fun _ _=>rfl)) (dH (ae (mv 5) (ae (mv 6) am)))))))))
    (ah (hV (i:=7) bW.nd rfl (by first|exact .inl rfl|exact .inr rfl) (own:=["_law_some_here"]) (capn:=[]) (caps:=[]) rfl (bC.mk' rfl (by decide +kernel) (by decide +kernel) (by repeat' (first|exact aM.nil|refine aM.cons (by first|exact (fun _=>.inl rfl)|exact (fun _=>.inr rfl)|(intro z;cases z;done)) ?_)) bu.nil) (ei (mv 4))
      (fun cl C s H ex=>⟨(aL (i:=0) (show ((["_law_some_here"] : List Str)++([] : List Str)).Nodup by decide +kernel) rfl (by first|exact .inl rfl|exact .inr rfl)),cr,(nI rfl rfl gh (eg (dE (own:=["_law_other", "_law_heavy"]) (capn:=[]) (caps:=[]) rfl (bC.mk' rfl (by decide +kernel) (by decide +kernel) (by repeat' (first|exact aM.nil|refine aM.cons (by first|exact (fun _=>.inl rfl)|exact (fun _=>.inr rfl)|(intro z;cases z;done)) ?_)) bu.nil) (ei (mv 0))
      (fun cl C s H ex=>⟨(iR rfl (bN (aL (i:=0) (show ((["_law_other", "_law_heavy"] : List Str)++([] : List Str)).Nodup by decide +kernel) rfl (by first|exact .inl rfl|exact .inr rfl)) (bN (aL (i:=1) (show ((["_law_other", "_law_heavy"] : List Str)++([] : List Str)).Nodup by decide +kernel) rfl (by first|exact .inl rfl|exact .inr rfl)) gk))),cr,(mv 1)⟩))))⟩))
    (ah (bO (aV ny kn (aq ax (hr.mono (by decide)) rfl (ae (mv 0) (ae ag am)) ar) ag (aO _)) (ao (hV (i:=7) bW.nd rfl (by first|exact .inl rfl|exact .inr rfl) (own:=["_law_some_here"]) (capn:=[]) (caps:=[]) rfl (bC.mk' rfl (by decide +kernel) (by decide +kernel) (by repeat' (first|exact aM.nil|refine aM.cons (by first|exact (fun _=>.inl rfl)|exact (fun _=>.inr rfl)|(intro z;cases z;done)) ?_)) bu.nil) (ei (mv 4))
      (fun cl C s H ex=>⟨(aL (i:=0) (show ((["_law_some_here"] : List Str)++([] : List Str)).Nodup by decide +kernel) rfl (by first|exact .inl rfl|exact .inr rfl)),cr,ag⟩))) aW)
    (ao (aH (dH (ae (db rfl aU (eg (dE (own:=["_law_some_here"]) (capn:=[]) (caps:=[]) rfl (bC.mk' rfl (by decide +kernel) (by decide +kernel) (by repeat' (first|exact aM.nil|refine aM.cons (by first|exact (fun _=>.inl rfl)|exact (fun _=>.inr rfl)|(intro z;cases z;done)) ?_)) bu.nil) (ei (mv 4))
      (fun cl C s H ex=>⟨(aL (i:=0) (show ((["_law_some_here"] : List Str)++([] : List Str)).Nodup by decide +kernel) rfl (by first|exact .inl rfl|exact .inr rfl)),cr,(db rfl aU (eg (nP rfl dD (mv 0))))⟩)))) (ae (db rfl aU (dl (mv 7))) (ae (aP DT DU (dH (ae d8 am)) (mv 1)) am)))))))))))))
theorem im:aR ["_law_web_here", "_law_states", "_law_found", "_law_k"] ["_law_web_here", "_law_states"] (al dW):=⟨rfl,rfl,rfl,by decide +kernel,rfl,by decide +kernel,by decide +kernel⟩
theorem sI (F:Fun K "_law_some" "_law_some" dW f fd) (aX:mg "range" = none) (bL:mg "len" = none) (ax:Def P w K mg base "_law_digit" 1 2 aw):cz P w K mg base CX0 2 f fd ["_law_web_here", "_law_states"] (spF K gM 2):=by
  refine bY F im fun cdv A outer s H E hr => ?_
  have hu:=dw hr
  exact (ah (aI (i:=2) im.nd rfl (by first|exact .inl rfl|exact .inr rfl) (cA (b5 am (fun _ _ _ _ z=>by rw [bh _ _ _ _ z];decide))))
    (ah (e9 PassesOwn.never rfl (bT rfl aX (eh rfl bL (dl (mv 1)))) (aL (i:=3) im.nd rfl (by first|exact .inl rfl|exact .inr rfl)) (ao (bO (MW.mt (nG (aV (cG hu) dN (aq ax (hr.mono (by decide)) rfl (ae (aC (mv 1) (mv 3) (fun _ _=>rfl)) (ae ag am)) ar) ag (aO _)) (fV (aV (e8 hu) iC (aC (aC (mv 0) ag (fun _ _=>rfl)) (mv 3) (fun _ _=>rfl)) ag (aO _)) (.inl rfl)))) (ao (cE (dI (mv 2) (mv 3)))) aW)))
    (ao (aH (mv 2)))))
theorem cP:aR ["_law_web_here", "_law_stand", "_law_found", "_law_k", "_law_force", "_law_held"] ["_law_web_here", "_law_stand"] (al dX):=⟨rfl,rfl,rfl,by decide +kernel,rfl,by decide +kernel,by decide +kernel⟩
theorem sJ (F:Fun K "_law_turn" "_law_turn" dX f fd) (aU:mg "tuple" = none) (aX:mg "range" = none) (bL:mg "len" = none) (dC:mg "int" = none) (gh:mg "sum" = none):cz P w K mg base CX0 1 f fd ["_law_web_here", "_law_stand"] (spF K er 2):=by
  refine bY F cP fun cdv A outer s H E hr => ?_
  have hu:=dw hr
  exact (ah (aI (i:=2) cP.nd rfl (by first|exact .inl rfl|exact .inr rfl) (cA (b5 am (fun _ _ _ _ z=>by rw [bh _ _ _ _ z];decide))))
    (ah (e9 PassesOwn.never rfl (bT rfl aX (eh rfl bL (dl (mv 1)))) (aL (i:=3) cP.nd rfl (by first|exact .inl rfl|exact .inr rfl)) (ah (aI (i:=4) cP.nd rfl (by first|exact .inl rfl|exact .inr rfl) (aP d5 d9 ag (nI rfl rfl gh (eg (dE (own:=["_law_other", "_law_heavy"]) (capn:=["_law_stand"]) (caps:=[1]) rfl (bC.mk' rfl (by decide +kernel) (by decide +kernel) (by repeat' (first|exact aM.nil|refine aM.cons (by first|exact (fun _=>.inl rfl)|exact (fun _=>.inr rfl)|(intro z;cases z;done)) ?_)) (bu.cons rfl rfl bu.nil)) (ei (aC (aC (mv 0) ag (fun _ _=>rfl)) (mv 3) (fun _ _=>rfl)))
      (fun cl C s H ex=>⟨(iR rfl (bN (aL (i:=0) (show ((["_law_other", "_law_heavy"] : List Str)++(["_law_stand"] : List Str)).Nodup by decide +kernel) rfl (by first|exact .inl rfl|exact .inr rfl)) (bN (aL (i:=1) (show ((["_law_other", "_law_heavy"] : List Str)++(["_law_stand"] : List Str)).Nodup by decide +kernel) rfl (by first|exact .inl rfl|exact .inr rfl)) gk))),(rS (aV (cG hu) dN (aC (mv 2) (mv 0) (fun _ _=>rfl)) ag (aO _))),(mv 1)⟩))))))
    (ah (aI (i:=5) cP.nd rfl (by first|exact .inl rfl|exact .inr rfl) (aC (mv 1) (mv 3) (fun _ _=>rfl)))
    (ah (bO (aV rj kZ (aC (aC (mv 0) ag (fun _ _=>rfl)) (mv 3) (fun _ _=>rfl)) d8 (aO _)) (ao (aI (i:=5) cP.nd rfl (by first|exact .inl rfl|exact .inr rfl) (aC (aC (mv 0) ag (fun _ _=>rfl)) (mv 3) (fun _ _=>rfl)))) (ao (bO (aV (e8 hu) iC (mv 4) (aC (aC (mv 0) ag (fun _ _=>rfl)) (mv 3) (fun _ _=>rfl)) (aO _)) (ao (aI (i:=5) cP.nd rfl (by first|exact .inl rfl|exact .inr rfl) (kq rfl dC (gu ny kn (mv 4) (aC (aC (mv 0) ag (fun _ _=>rfl)) (mv 3) (fun _ _=>rfl)) (aO _))))) aW)))
    (ao (cE (dI (mv 2) (mv 5))))))))
    (ao (aH (db rfl aU (dl (mv 2)))))))
theorem mG:aR ["_law_web_here", "_law_stand", "_law_going"] ["_law_web_here", "_law_stand"] (al eM):=⟨rfl,rfl,rfl,by decide +kernel,rfl,by decide +kernel,by decide +kernel⟩
theorem vg (F:Fun K "_law_due" "_law_due" eM f fd) (dC:mg "int" = none) (eZ:Def P w K mg base "_law_turn" 1 2 er):cz P w K mg base CX0 2 f fd ["_law_web_here", "_law_stand"] (spF K ii 2):=by
  refine bY F mG fun cdv A outer s H E hr => ?_
  have hu:=dw hr
  exact (ah (aI (i:=2) mG.nd rfl (by first|exact .inl rfl|exact .inr rfl) (cA (b5 (ae (mv 1) (ae (aq eZ (hr.mono (by decide)) rfl (ae (mv 0) (ae (mv 1) am)) ar) am)) (fun _ _ _ _ z=>by rw [(av (av bh)) _ _ _ _ z];decide))))
    (ah (cE (dI (mv 2) (aq eZ (hr.mono (by decide)) rfl (ae (mv 0) (ae (aC (mv 2) bU (fun _ _=>rfl)) am)) ar)))
    (ah (uQ PassesOwn.never (aV (e8 hu) iC (aC (mv 2) bU (fun _ _=>rfl)) (aC (mv 2) bU (fun _ _=>rfl)) (aO _)) (ao (cE (dI (mv 2) (aq eZ (hr.mono (by decide)) rfl (ae (mv 0) (ae (aC (mv 2) bU (fun _ _=>rfl)) am)) ar)))))
    (ah (bO (MW.mt (nG (aV (cG hu) dN (aC (mv 2) bU (fun _ _=>rfl)) (aC (mv 2) bU (fun _ _=>rfl)) (aO _)) (fV (aV rq B2 ag (aC (mv 2) bU (fun _ _=>rfl)) rfl) (.inl rfl)))) (ao (aH (dH (ae (hJ [116,117,114,110] rfl) (ae (fX (mv 2) mB (mC (aP br bR (DW hu (mv 2) (aC (mv 2) bU (fun _ _=>rfl))) ag))) am))))) aW)
    (ao (aH (dH (ae (hJ [110,111,116] rfl) (ae (fX (mv 2) (mC (aP br bR bU (kq rfl dC (gu (cG hu) dN (aC (mv 2) bU (fun _ _=>rfl)) (aC (mv 2) bU (fun _ _=>rfl)) (aO _))))) mB) am)))))))))
theorem j5:aR ["_law_found", "_law_due_here", "_law_stand", "_law_held"] ["_law_found", "_law_due_here"] (al fL):=⟨rfl,rfl,rfl,by decide +kernel,rfl,by decide +kernel,by decide +kernel⟩
theorem xR (F:Fun K "_law_is" "_law_is" fL f fd) (dD:mg "sorted" = none) (aJ:mg "isinstance" = none) (iq:mg "bool" = none) (dC:mg "int" = none) (aU:mg "tuple" = none) (ff:mg "list" = none) (bL:mg "len" = none):cz P w K mg base CX0 1 f fd ["_law_found", "_law_due_here"] (spF K i7 2):=by
  refine bY F j5 fun cdv A outer s H E hr => ?_
  have hu:=dw hr
  exact (ah (bO (MW.mt (ko (eE (ec (ej (t:=.tuple) rfl aJ rfl aU (by decide +kernel) (mv 0)))) (ko (aV (e8 hu) iC (eh rfl bL (dl (mv 0))) ag (aO _)) (ko (eE (ec (ej (t:=.list) rfl aJ rfl ff (by decide +kernel) (aC (mv 0) ag (fun _ _=>rfl))))) (fV (aV (e8 hu) iC (aC (mv 0) ag (fun _ _=>rfl)) (aC (mv 1) ag (fun _ _=>rfl)) (aO _)) (.inr rfl)))))) (ao (aH gj)) aW)
    (ah (e9 PassesOwn.never rfl (ei (aC (mv 0) ag (fun _ _=>rfl))) (aL (i:=2) j5.nd rfl (by first|exact .inl rfl|exact .inr rfl)) (ah (bO (eE (ec (ej (t:=.tuple) rfl aJ rfl aU (by decide +kernel) (mv 2)))) (ao (aH gj)) aW)
    (ao (e9 PassesOwn.never rfl (ei (mv 2)) (aL (i:=3) j5.nd rfl (by first|exact .inl rfl|exact .inr rfl)) (ao (bO (MW.mt (ko (eE (ec (ej (t:=.int) rfl aJ rfl dC (by decide +kernel) (mv 3)))) (fV (ec (ej (t:=.bool) rfl aJ rfl iq (by decide +kernel) (mv 3))) (.inr rfl)))) (ao (aH gj)) aW))))))
    (ah (bO (aV (cG hu) dN (aC (mv 1) ag (fun _ _=>rfl)) (hJ [110,111,116] rfl) (aO _)) (ao (aH (gu (cG hu) dN (cA (nP rfl dD (aC (mv 0) ag (fun _ _=>rfl)))) (cA (nP rfl dD (aC (mv 1) ag (fun _ _=>rfl)))) (aO _)))) aW)
    (ao (aH (gu (cG hu) dN (aC (mv 0) ag (fun _ _=>rfl)) (aC (mv 1) ag (fun _ _=>rfl)) (aO _)))))))
theorem dM:aR ["_law_script", "_law_drawn", "_law_states", "_law_head", "_law_web_here", "_law_everybody", "_law_lists", "_law_some_here", "_law_stand", "_law_handed", "_law_opened", "_law_due_here", "_law_found"] ["_law_script"] (al kB):=⟨rfl,rfl,rfl,by decide +kernel,rfl,by decide +kernel,by decide +kernel⟩
theorem FX (F:Fun K "law" "law" kB f fd) (aJ:mg "isinstance" = none) (iq:mg "bool" = none) (aU:mg "tuple" = none) (ff:mg "list" = none) (aX:mg "range" = none) (bL:mg "len" = none) (dC:mg "int" = none) (jC:Def P w K mg base "_law_is" 1 2 i7) (gp:Def P w K mg base "turns_all" 7 2 cy) (kb:Def P w K mg base "_law_due" 2 2 ii) (kD:Def P w K mg base "begun" 6 2 eS) (gq:Def P w K mg base "_law_some" 2 2 gM) (ax:Def P w K mg base "_law_digit" 1 2 aw) (da:Def P w K mg base "_law_cell" 2 2 bx) (jd:Def P w K mg base "_law_line" 2 1 gf) (gB:Def P w K mg base "_law_swayed" 2 3 ge) (kc:Def P w K mg base "_law_web" 3 1 ig):cz P w K mg base CX0 8 f fd ["_law_script"] (spF K zN 1):=by
  refine bY F dM fun cdv A outer s H E hr => ?_
  have hu:=dw hr
  exact (ah (FI (aq kc (hr.mono (by decide)) rfl (ae (mv 0) am) ar) (iR rfl (bN (aL (i:=1) dM.nd rfl (by first|exact .inl rfl|exact .inr rfl)) (bN (aL (i:=2) dM.nd rfl (by first|exact .inl rfl|exact .inr rfl)) (bN (aL (i:=3) dM.nd rfl (by first|exact .inl rfl|exact .inr rfl)) gk)))))
    (ah (aI (i:=4) dM.nd rfl (by first|exact .inl rfl|exact .inr rfl) (aq gB (hr.mono (by decide)) rfl (ae (mv 1) (ae (mv 2) (ae (mv 3) am))) ar))
    (ah (bO (aV (cG hu) dN (aq ax (hr.mono (by decide)) rfl (ae (mv 3) (ae ag am)) ar) ag (aO _)) (ah (aI (i:=4) dM.nd rfl (by first|exact .inl rfl|exact .inr rfl) (aq jd (hr.mono (by decide)) rfl (ae (cA (b5 (ae (aq da (hr.mono (by decide)) rfl (ae (mv 0) (ae ag am)) ar) am) (fun _ _ _ _ z=>by rw [(av bh) _ _ _ _ z];decide))) am) ar))
    (ao (hV (i:=2) dM.nd rfl (by first|exact .inl rfl|exact .inr rfl) (own:=["_law_k"]) (capn:=["_law_script"]) (caps:=[0]) rfl (bC.mk' rfl (by decide +kernel) (by decide +kernel) (by repeat' (first|exact aM.nil|refine aM.cons (by first|exact (fun _=>.inl rfl)|exact (fun _=>.inr rfl)|(intro z;cases z;done)) ?_)) (bu.cons rfl rfl bu.nil)) (bT rfl aX (eh rfl bL (dl (aC (mv 4) ag (fun _ _=>rfl)))))
      (fun cl C s H ex=>⟨(aL (i:=0) (show ((["_law_k"] : List Str)++(["_law_script"] : List Str)).Nodup by decide +kernel) rfl (by first|exact .inl rfl|exact .inr rfl)),cr,(cA (b5 (ae (aq da (hr.mono (by decide)) rfl (ae (mv 1) (ae (aP br bR ag (mv 0)) am)) ar) am) (fun _ _ _ _ z=>by rw [(av bh) _ _ _ _ z];decide)))⟩)))) aW)
    (ah (hV (i:=5) dM.nd rfl (by first|exact .inl rfl|exact .inr rfl) (own:=["_law_k"]) (capn:=["_law_web_here"]) (caps:=[4]) rfl (bC.mk' rfl (by decide +kernel) (by decide +kernel) (by repeat' (first|exact aM.nil|refine aM.cons (by first|exact (fun _=>.inl rfl)|exact (fun _=>.inr rfl)|(intro z;cases z;done)) ?_)) (bu.cons rfl rfl bu.nil)) (bT rfl aX (eh rfl bL (dl (mv 2))))
      (fun cl C s H ex=>⟨(aL (i:=0) (show ((["_law_k"] : List Str)++(["_law_web_here"] : List Str)).Nodup by decide +kernel) rfl (by first|exact .inl rfl|exact .inr rfl)),(rS (aV (e8 hu) iC (aC (aC (mv 1) ag (fun _ _=>rfl)) (mv 0) (fun _ _=>rfl)) ag (aO _))),(mv 0)⟩))
    (ah (aI (i:=6) dM.nd rfl (by first|exact .inl rfl|exact .inr rfl) (cA (b5 (ae (aq gq (hr.mono (by decide)) rfl (ae (mv 4) (ae (mv 2) am)) ar) (ae (aq gq (hr.mono (by decide)) rfl (ae (mv 4) (ae (mv 2) am)) ar) (ae (cA (b5 am (fun _ _ _ _ z=>by rw [bh _ _ _ _ z];decide))) (ae (mv 5) (ae (fX (mv 5) mB (mC ag)) (ae (fX (mv 5) (mC bU) mB) am)))))) (fun _ _ _ _ z=>by rw [(av (av (av (av (av (av bh)))))) _ _ _ _ z];decide))))
    (ah (e9 PassesOwn.never rfl (ei (mv 6)) (aL (i:=7) dM.nd rfl (by first|exact .inl rfl|exact .inr rfl)) (ah (aI (i:=8) dM.nd rfl (by first|exact .inl rfl|exact .inr rfl) (db rfl aU (eg (dE (own:=["_law_k"]) (capn:=["_law_some_here", "_law_web_here"]) (caps:=[7,4]) rfl (bC.mk' rfl (by decide +kernel) (by decide +kernel) (by repeat' (first|exact aM.nil|refine aM.cons (by first|exact (fun _=>.inl rfl)|exact (fun _=>.inr rfl)|(intro z;cases z;done)) ?_)) (bu.cons rfl rfl (bu.cons rfl rfl bu.nil))) (bT rfl aX (eh rfl bL (dl (mv 2))))
      (fun cl C s H ex=>⟨(aL (i:=0) (show ((["_law_k"] : List Str)++(["_law_some_here", "_law_web_here"] : List Str)).Nodup by decide +kernel) rfl (by first|exact .inl rfl|exact .inr rfl)),cr,(kq rfl dC (MB.me (GW (my (gu jt zC (mv 0) (mv 1) rfl)) (rK (my (gu (cG hu) dN (aC (aC (mv 2) ag (fun _ _=>rfl)) (mv 0) (fun _ _=>rfl)) ag (aO _)))))))⟩)))))
    (ah (aI (i:=9) dM.nd rfl (by first|exact .inl rfl|exact .inr rfl) (cA (zx rfl ff (dl (mv 7)))))
    (ah (aI (i:=10) dM.nd rfl (by first|exact .inl rfl|exact .inr rfl) (aq kD (hr.mono (by decide)) rfl (ae (mv 4) (ae (mv 9) am)) ar))
    (ah (bO (MW.mt (ko (eE (ec (ej (t:=.tuple) rfl aJ rfl aU (by decide +kernel) (mv 10)))) (ko (aV (e8 hu) iC (mv 10) (mv 8) (aO _)) (fV (aV jt zC gj (cA (dE (own:=["_law_held"]) (capn:=[]) (caps:=[]) rfl (bC.mk' rfl (by decide +kernel) (by decide +kernel) (by repeat' (first|exact aM.nil|refine aM.cons (by first|exact (fun _=>.inl rfl)|exact (fun _=>.inr rfl)|(intro z;cases z;done)) ?_)) bu.nil) (ei (mv 10))
      (fun cl C s H ex=>⟨(aL (i:=0) (show ((["_law_held"] : List Str)++([] : List Str)).Nodup by decide +kernel) rfl (by first|exact .inl rfl|exact .inr rfl)),cr,(ej (t:=.bool) rfl aJ rfl iq (by decide +kernel) (mv 0))⟩))) rfl) (.inr rfl))))) (ao (aH gj)) aW)
    (ah (aI (i:=11) dM.nd rfl (by first|exact .inl rfl|exact .inr rfl) (aq kb (hr.mono (by decide)) rfl (ae (mv 4) (ae (mv 8) am)) ar))
    (ah (aI (i:=12) dM.nd rfl (by first|exact .inl rfl|exact .inr rfl) (aq gp (hr.mono (by decide)) rfl (ae (mv 4) (ae (mv 9) am)) ar))
    (ah (bO (MW.mt (ko (eE (ec (aq jC (hr.mono (by decide)) rfl (ae (mv 12) (ae (mv 11) am)) ar))) (fV (aV (e8 hu) iC (mv 9) (mv 7) (aO _)) (.inr rfl)))) (ao (aH gj)) aW)
    (ah (cE (dI (aC (mv 12) ag (fun _ _=>rfl)) (mv 8)))
    (ah (cE (dI (mv 9) ag))
    (ao (bO (eE (ec (aq jC (hr.mono (by decide)) rfl (ae (aq gp (hr.mono (by decide)) rfl (ae (mv 4) (ae (mv 7) am)) ar) (ae (mv 11) am)) ar))) (ao (aH gj)) aW))))))))))))
    (ao (aH gj))))))))
end
theorem gP {α : Type}(us:List α)(hl:us.length=1):∃ x0,us=[x0]:=match us,hl with | [x0],_=>⟨x0,rfl⟩
theorem bp {α : Type}(us:List α)(hl:us.length=2):∃ x0 x1,us=[x0,x1]:=match us,hl with | [x0,x1],_=>⟨x0,x1,rfl⟩
theorem kC {α : Type}(us:List α)(hl:us.length=3):∃ x0 x1 x2,us=[x0,x1,x2]:=match us,hl with | [x0,x1,x2],_=>⟨x0,x1,x2,rfl⟩
theorem FY {l:PySem.W.OpenLaw} {w:World} {K:PySem.W.Frag} {h:Heap} {mg:Str→Option Value} {fa ke iw iy lN lO oz lP kf je xW gC lQ lR lS sQ fm fq sR jf jg jh iz gD kg kh gE ji jj jo ki lT CM:Addr} (X:K.In h) (G:h.Ns mainGlobals mg) (hfa:mg "law" = some (.ref fa))
    {vC vD:Option Addr} {vE:Array (Option Value)} {vF vG vH vI mH vJ:Value}
    (xX:PySem.W.nsIn K mainGlobals "is_whole" = some (some (.ref ke))) (xY:K.lookup ke=some ⟨vF,vC,.func (PySem.W.fnOf "is_whole" "is_whole" (aQ eI) (aN eI) (al eI) .none vG vH vI vD mH vJ),vE⟩) (j8:PySem.W.codeIn K mH "is_whole" = true) (oA:PySem.W.keepIn K (.ref ke)=true)
    {pI pJ:Option Addr} {pK:Array (Option Value)} {pL pM pN pO jH pP:Value}
    (sS:PySem.W.nsIn K mainGlobals "is_between" = some (some (.ref iw))) (sT:K.lookup iw=some ⟨pL,pI,.func (PySem.W.fnOf "is_between" "is_between" (aQ df) (aN df) (al df) .none pM pN pO pJ jH pP),pK⟩) (eA:PySem.W.codeIn K jH "is_between" = true) (kE:PySem.W.keepIn K (.ref iw)=true)
    {pQ pR:Option Addr} {pS:Array (Option Value)} {pT pU pV pW jI pX:Value}
    (sU:PySem.W.nsIn K mainGlobals "is_opinion" = some (some (.ref iy))) (sV:K.lookup iy=some ⟨pT,pQ,.func (PySem.W.fnOf "is_opinion" "is_opinion" (aQ dh) (aN dh) (al dh) .none pU pV pW pR jI pX),pS⟩) (iu:PySem.W.codeIn K jI "is_opinion" = true) (kF:PySem.W.keepIn K (.ref iy)=true)
    {xZ x3:Option Addr} {x4:Array (Option Value)} {x5 x6 x8 x9 oC ya:Value}
    (AM:PySem.W.nsIn K mainGlobals "many_of" = some (some (.ref lN))) (AN:K.lookup lN=some ⟨x5,xZ,.func (PySem.W.fnOf "many_of" "many_of" (aQ fF) (aN fF) (al fF) .none x6 x8 x9 x3 oC ya),x4⟩) (eO:PySem.W.codeIn K oC "many_of" = true) (qQ:PySem.W.keepIn K (.ref lN)=true)
    {yb yc:Option Addr} {yd:Array (Option Value)} {ye yf yg yh oD yi:Value}
    (AO:PySem.W.nsIn K mainGlobals "ties_of" = some (some (.ref lO))) (AQ:K.lookup lO=some ⟨ye,yb,.func (PySem.W.fnOf "ties_of" "ties_of" (aQ fG) (aN fG) (al fG) .none yf yg yh yc oD yi),yd⟩) (lK:PySem.W.codeIn K oD "ties_of" = true) (qR:PySem.W.keepIn K (.ref lO)=true)
    {AR AS:Option Addr} {AT:Array (Option Value)} {AU AV AW AX qS AY:Value}
    (CN:PySem.W.nsIn K mainGlobals "bar_of" = some (some (.ref oz))) (CO:K.lookup oz=some ⟨AU,AR,.func (PySem.W.fnOf "bar_of" "bar_of" (aQ gO) (aN gO) (al gO) .none AV AW AX AS qS AY),AT⟩) (oy:PySem.W.codeIn K qS "bar_of" = true) (vK:PySem.W.keepIn K (.ref oz)=true)
    {yj yk:Option Addr} {ym:Array (Option Value)} {yn yo yp yq oE yr:Value}
    (AZ:PySem.W.nsIn K mainGlobals "stay_of" = some (some (.ref lP))) (A0:K.lookup lP=some ⟨yn,yj,.func (PySem.W.fnOf "stay_of" "stay_of" (aQ fH) (aN fH) (al fH) .none yo yp yq yk oE yr),ym⟩) (eP:PySem.W.codeIn K oE "stay_of" = true) (qT:PySem.W.keepIn K (.ref lP)=true)
    {vL vM:Option Addr} {vN:Array (Option Value)} {vO vP vQ vR mI vS:Value}
    (yt:PySem.W.nsIn K mainGlobals "stays_of" = some (some (.ref kf))) (yu:K.lookup kf=some ⟨vO,vL,.func (PySem.W.fnOf "stays_of" "stays_of" (aQ eJ) (aN eJ) (al eJ) .none vP vQ vR vM mI vS),vN⟩) (j9:PySem.W.codeIn K mI "stays_of" = true) (oF:PySem.W.keepIn K (.ref kf)=true)
    {sW sX:Option Addr} {sY:Array (Option Value)} {sZ tf tj tm kG tq:Value}
    (vT:PySem.W.nsIn K mainGlobals "is_person" = some (some (.ref je))) (vU:K.lookup je=some ⟨sZ,sW,.func (PySem.W.fnOf "is_person" "is_person" (aQ dP) (aN dP) (al dP) .none tf tj tm sX kG tq),sY⟩) (jb:PySem.W.codeIn K kG "is_person" = true) (mJ:PySem.W.keepIn K (.ref je)=true)
    {Ei Ej:Option Addr} {Ek:Array (Option Value)} {El Em Eo Ep zX Er:Value}
    (Gb:PySem.W.nsIn K mainGlobals "fits" = some (some (.ref xW))) (Gc:K.lookup xW=some ⟨El,Ei,.func (PySem.W.fnOf "fits" "fits" (aQ ly) (aN ly) (al ly) .none Em Eo Ep Ej zX Er),Ek⟩) (xV:PySem.W.codeIn K zX "fits" = true) (CP:PySem.W.keepIn K (.ref xW)=true)
    {oG oH:Option Addr} {oJ:Array (Option Value)} {oK oM oN oO jp oP:Value}
    (pY:PySem.W.nsIn K mainGlobals "check_stand" = some (some (.ref gC))) (pZ:K.lookup gC=some ⟨oK,oG,.func (PySem.W.fnOf "check_stand" "check_stand" (aQ cT) (aN cT) (al cT) .none oM oN oO oH jp oP),oJ⟩) (gz:PySem.W.codeIn K jp "check_stand" = true) (jJ:PySem.W.keepIn K (.ref gC)=true)
    {yv yw:Option Addr} {yx:Array (Option Value)} {yy yz yA yB oQ yC:Value}
    (A1:PySem.W.nsIn K mainGlobals "pull_at" = some (some (.ref lQ))) (A2:K.lookup lQ=some ⟨yy,yv,.func (PySem.W.fnOf "pull_at" "pull_at" (aQ fI) (aN fI) (al fI) .none yz yA yB yw oQ yC),yx⟩) (lL:PySem.W.codeIn K oQ "pull_at" = true) (qU:PySem.W.keepIn K (.ref lQ)=true)
    {yD yE:Option Addr} {yF:Array (Option Value)} {yG yH yI yJ oR yK:Value}
    (A3:PySem.W.nsIn K mainGlobals "next_at" = some (some (.ref lR))) (A4:K.lookup lR=some ⟨yG,yD,.func (PySem.W.fnOf "next_at" "next_at" (aQ fJ) (aN fJ) (al fJ) .none yH yI yJ yE oR yK),yF⟩) (lM:PySem.W.codeIn K oR "next_at" = true) (qV:PySem.W.keepIn K (.ref lR)=true)
    {yL yM:Option Addr} {yN:Array (Option Value)} {yO yP yQ yR oS yS:Value}
    (A5:PySem.W.nsIn K mainGlobals "turn_at" = some (some (.ref lS))) (A6:K.lookup lS=some ⟨yO,yL,.func (PySem.W.fnOf "turn_at" "turn_at" (aQ fK) (aN fK) (al fK) .none yP yQ yR yM oS yS),yN⟩) (gS:PySem.W.codeIn K oS "turn_at" = true) (qW:PySem.W.keepIn K (.ref lS)=true)
    {CQ CS:Option Addr} {CT:Array (Option Value)} {CU CV CW CY vV CZ:Value}
    (Es:PySem.W.nsIn K mainGlobals "ended" = some (some (.ref sQ))) (Et:K.lookup sQ=some ⟨CU,CQ,.func (PySem.W.fnOf "ended" "ended" (aQ jA) (aN jA) (al jA) .none CV CW CY CS vV CZ),CT⟩) (sP:PySem.W.codeIn K vV "ended" = true) (zY:PySem.W.keepIn K (.ref sQ)=true)
    {lU lV:Option Addr} {lW:Array (Option Value)} {lX lY lZ l7 gU l8:Value}
    (m6:PySem.W.nsIn K mainGlobals "may_be_chosen" = some (some (.ref fm))) (m7:K.lookup fm=some ⟨lX,lU,.func (PySem.W.fnOf "may_be_chosen" "may_be_chosen" (aQ cj) (aN cj) (al cj) .none lY lZ l7 lV gU l8),lW⟩) (fg:PySem.W.codeIn K gU "may_be_chosen" = true) (iF:PySem.W.keepIn K (.ref fm)=true)
    {l9 ma:Option Addr} {md:Array (Option Value)} {mf mh mj ml gW mn:Value}
    (m8:PySem.W.nsIn K mainGlobals "are_choosable" = some (some (.ref fq))) (m9:K.lookup fq=some ⟨mf,l9,.func (PySem.W.fnOf "are_choosable" "are_choosable" (aQ cm) (aN cm) (al cm) .none mh mj ml ma gW mn),md⟩) (fj:PySem.W.codeIn K gW "are_choosable" = true) (iG:PySem.W.keepIn K (.ref fq)=true)
    {C0 C3:Option Addr} {C4:Array (Option Value)} {C5 C6 C7 C8 vW C9:Value}
    (Eu:PySem.W.nsIn K mainGlobals "begun" = some (some (.ref sR))) (Ev:K.lookup sR=some ⟨C5,C0,.func (PySem.W.fnOf "begun" "begun" (aQ jB) (aN jB) (al jB) .none C6 C7 C8 C3 vW C9),C4⟩) (kD:PySem.W.codeIn K vW "begun" = true) (zZ:PySem.W.keepIn K (.ref sR)=true)
    {tt tu:Option Addr} {tw:Array (Option Value)} {tz tD tF tG kH tH:Value}
    (vX:PySem.W.nsIn K mainGlobals "turns_all" = some (some (.ref jf))) (vY:K.lookup jf=some ⟨tz,tt,.func (PySem.W.fnOf "turns_all" "turns_all" (aQ dQ) (aN dQ) (al dQ) .none tD tF tG tu kH tH),tw⟩) (gp:PySem.W.codeIn K kH "turns_all" = true) (mK:PySem.W.keepIn K (.ref jf)=true)
    {tI tJ:Option Addr} {tK:Array (Option Value)} {tL tM tN tO kI tP:Value}
    (vZ:PySem.W.nsIn K mainGlobals "_law_wide" = some (some (.ref jg))) (v3:K.lookup jg=some ⟨tL,tI,.func (PySem.W.fnOf "_law_wide" "_law_wide" (aQ dR) (aN dR) (al dR) .none tM tN tO tJ kI tP),tK⟩) (jc:PySem.W.codeIn K kI "_law_wide" = true) (mL:PySem.W.keepIn K (.ref jg)=true)
    {tQ tR:Option Addr} {tS:Array (Option Value)} {tT tU tV tW kJ tX:Value}
    (v5:PySem.W.nsIn K mainGlobals "_law_cell" = some (some (.ref jh))) (v6:K.lookup jh=some ⟨tT,tQ,.func (PySem.W.fnOf "_law_cell" "_law_cell" (aQ dS) (aN dS) (al dS) .none tU tV tW tR kJ tX),tS⟩) (da:PySem.W.codeIn K kJ "_law_cell" = true) (mM:PySem.W.keepIn K (.ref jh)=true)
    {p5 p6:Option Addr} {p7:Array (Option Value)} {p8 p9 qa qb jK qc:Value}
    (tY:PySem.W.nsIn K mainGlobals "_law_digit" = some (some (.ref iz))) (tZ:K.lookup iz=some ⟨p8,p5,.func (PySem.W.fnOf "_law_digit" "_law_digit" (aQ dj) (aN dj) (al dj) .none p9 qa qb p6 jK qc),p7⟩) (ax:PySem.W.codeIn K jK "_law_digit" = true) (kK:PySem.W.keepIn K (.ref iz)=true)
    {oT oU:Option Addr} {oV:Array (Option Value)} {oW oX oY oZ jq o0:Value}
    (qd:PySem.W.nsIn K mainGlobals "_law_weight" = some (some (.ref gD))) (qe:K.lookup gD=some ⟨oW,oT,.func (PySem.W.fnOf "_law_weight" "_law_weight" (aQ cU) (aN cU) (al cU) .none oX oY oZ oU jq o0),oV⟩) (gA:PySem.W.codeIn K jq "_law_weight" = true) (jL:PySem.W.keepIn K (.ref gD)=true)
    {v7 wa:Option Addr} {wb:Array (Option Value)} {wc we wf wg mN wj:Value}
    (yT:PySem.W.nsIn K mainGlobals "_law_bar" = some (some (.ref kg))) (yU:K.lookup kg=some ⟨wc,v7,.func (PySem.W.fnOf "_law_bar" "_law_bar" (aQ eK) (aN eK) (al eK) .none we wf wg wa mN wj),wb⟩) (ka:PySem.W.codeIn K mN "_law_bar" = true) (o4:PySem.W.keepIn K (.ref kg)=true)
    {wm wn:Option Addr} {wo:Array (Option Value)} {wp wq wr wu mO wv:Value}
    (yV:PySem.W.nsIn K mainGlobals "_law_web" = some (some (.ref kh))) (yW:K.lookup kh=some ⟨wp,wm,.func (PySem.W.fnOf "_law_web" "_law_web" (aQ eL) (aN eL) (al eL) .none wq wr wu wn mO wv),wo⟩) (kc:PySem.W.codeIn K mO "_law_web" = true) (o5:PySem.W.keepIn K (.ref kh)=true)
    {o6 o7:Option Addr} {o8:Array (Option Value)} {o9 pc pd pf jr ph:Value}
    (qf:PySem.W.nsIn K mainGlobals "_law_swayed" = some (some (.ref gE))) (qg:K.lookup gE=some ⟨o9,o6,.func (PySem.W.fnOf "_law_swayed" "_law_swayed" (aQ cV) (aN cV) (al cV) .none pc pd pf o7 jr ph),o8⟩) (gB:PySem.W.codeIn K jr "_law_swayed" = true) (jM:PySem.W.keepIn K (.ref gE)=true)
    {t7 t9:Option Addr} {ua:Array (Option Value)} {ub uc ud ue kM uf:Value}
    (ww:PySem.W.nsIn K mainGlobals "_law_line" = some (some (.ref ji))) (wx:K.lookup ji=some ⟨ub,t7,.func (PySem.W.fnOf "_law_line" "_law_line" (aQ dU) (aN dU) (al dU) .none uc ud ue t9 kM uf),ua⟩) (jd:PySem.W.codeIn K kM "_law_line" = true) (mP:PySem.W.keepIn K (.ref ji)=true)
    {ug uh:Option Addr} {ui:Array (Option Value)} {uj uk ul um kN uo:Value}
    (wy:PySem.W.nsIn K mainGlobals "_law_some" = some (some (.ref jj))) (wz:K.lookup jj=some ⟨uj,ug,.func (PySem.W.fnOf "_law_some" "_law_some" (aQ dW) (aN dW) (al dW) .none uk ul um uh kN uo),ui⟩) (gq:PySem.W.codeIn K kN "_law_some" = true) (mQ:PySem.W.keepIn K (.ref jj)=true)
    {uq ur:Option Addr} {ut:Array (Option Value)} {uu uv uw ux kO uy:Value}
    (wA:PySem.W.nsIn K mainGlobals "_law_turn" = some (some (.ref jo))) (wB:K.lookup jo=some ⟨uu,uq,.func (PySem.W.fnOf "_law_turn" "_law_turn" (aQ dX) (aN dX) (al dX) .none uv uw ux ur kO uy),ut⟩) (eZ:PySem.W.codeIn K kO "_law_turn" = true) (mR:PySem.W.keepIn K (.ref jo)=true)
    {wC wD:Option Addr} {wE:Array (Option Value)} {wF wG wH wI mS wJ:Value}
    (yX:PySem.W.nsIn K mainGlobals "_law_due" = some (some (.ref ki))) (yY:K.lookup ki=some ⟨wF,wC,.func (PySem.W.fnOf "_law_due" "_law_due" (aQ eM) (aN eM) (al eM) .none wG wH wI wD mS wJ),wE⟩) (kb:PySem.W.codeIn K mS "_law_due" = true) (pi:PySem.W.keepIn K (.ref ki)=true)
    {yZ y0:Option Addr} {y4:Array (Option Value)} {y6 y8 y9 za pj zb:Value}
    (A7:PySem.W.nsIn K mainGlobals "_law_is" = some (some (.ref lT))) (A8:K.lookup lT=some ⟨y6,yZ,.func (PySem.W.fnOf "_law_is" "_law_is" (aQ fL) (aN fL) (al fL) .none y8 y9 za y0 pj zb),y4⟩) (jC:PySem.W.codeIn K pj "_law_is" = true) (qX:PySem.W.keepIn K (.ref lT)=true)
    {Ge Da:Option Addr} {Gf:Array (Option Value)} {Gg Db Dc Dd zc De:Value}
    (Hb:PySem.W.nsIn K mainGlobals "law" = some (some (.ref CM))) (Hc:K.lookup CM=some ⟨Gg,Ge,.func (PySem.W.fnOf "law" "law" (aQ kB) (aN kB) (al kB) .none Db Dc Dd Da zc De),Gf⟩) (He:PySem.W.codeIn K zc "law" = true) (Hf:PySem.W.keepIn K (.ref CM)=true)
    (uz:PySem.W.nsIn K mainGlobals "isinstance" = some none)
    (Gh:PySem.W.nsIn K mainGlobals "bool" = some none)
    (Hg:PySem.W.nsIn K mainGlobals "int" = some none)
    (Hh:PySem.W.nsIn K mainGlobals "len" = some none)
    (Gi:PySem.W.nsIn K mainGlobals "list" = some none)
    (wK:PySem.W.nsIn K mainGlobals "enumerate" = some none)
    (Ew:PySem.W.nsIn K mainGlobals "tuple" = some none)
    (Hi:PySem.W.nsIn K mainGlobals "sum" = some none)
    (Ex:PySem.W.nsIn K mainGlobals "range" = some none)
    (Hj:PySem.W.nsIn K mainGlobals "all" = some none)
    (Df:PySem.W.nsIn K mainGlobals "sorted" = some none)
    : ∃ fd:FuncData,(∀ (s:Shared) (v:Value),BindsTo s fd ⟨[v],[]⟩ [("_law_script",v)]) ∧ ∀ base:Heap,K.In base→base.Ns mainGlobals mg→cz l.prog w K mg base CX0 8 fa fd ["_law_script"] (spF K zN 1):=by
  have e:=hfa.symm.trans (PySem.W.mg_of X G Hb)
  cases e
  have aJ:=PySem.W.mg_none_of X G uz
  have iq:=PySem.W.mg_none_of X G Gh
  have dC:=PySem.W.mg_none_of X G Hg
  have bL:=PySem.W.mg_none_of X G Hh
  have ff:=PySem.W.mg_none_of X G Gi
  have dY:=PySem.W.mg_none_of X G wK
  have aU:=PySem.W.mg_none_of X G Ew
  have gh:=PySem.W.mg_none_of X G Hi
  have aX:=PySem.W.mg_none_of X G Ex
  have zW:=PySem.W.mg_none_of X G Hj
  have dD:=PySem.W.mg_none_of X G Df
  have pq:=bn (st:=eI) xY j8 oA
  have zd:=pq.binds (ps:=["thing"]) fun _ _ _ _ _ _ us hl=>by obtain⟨_,rfl⟩:=gP us hl;rfl
  have kP:=bn (st:=df) sT eA kE
  have uA:=kP.binds (ps:=["thing", "least", "most"]) fun _ _ _ _ _ _ us hl=>by obtain⟨_,_,_,rfl⟩:=kC us hl;rfl
  have kQ:=bn (st:=dh) sV iu kF
  have uB:=kQ.binds (ps:=["thing"]) fun _ _ _ _ _ _ us hl=>by obtain⟨_,rfl⟩:=gP us hl;rfl
  have qY:=bn (st:=fF) AN eO qQ
  have A9:=qY.binds (ps:=["web"]) fun _ _ _ _ _ _ us hl=>by obtain⟨_,rfl⟩:=gP us hl;rfl
  have qZ:=bn (st:=fG) AQ lK qR
  have Ba:=qZ.binds (ps:=["web", "person"]) fun _ _ _ _ _ _ us hl=>by obtain⟨_,_,rfl⟩:=bp us hl;rfl
  have wL:=bn (st:=gO) CO oy vK
  have Dg:=wL.binds (ps:=["web", "person"]) fun _ _ _ _ _ _ us hl=>by obtain⟨_,_,rfl⟩:=bp us hl;rfl
  have ra:=bn (st:=fH) A0 eP qT
  have Bb:=ra.binds (ps:=["web", "person"]) fun _ _ _ _ _ _ us hl=>by obtain⟨_,_,rfl⟩:=bp us hl;rfl
  have pr:=bn (st:=eJ) yu j9 oF
  have ze:=pr.binds (ps:=["web"]) fun _ _ _ _ _ _ us hl=>by obtain⟨_,rfl⟩:=gP us hl;rfl
  have mT:=bn (st:=dP) vU jb mJ
  have wM:=mT.binds (ps:=["web", "thing"]) fun _ _ _ _ _ _ us hl=>by obtain⟨_,_,rfl⟩:=bp us hl;rfl
  have Dh:=bn (st:=ly) Gc xV CP
  have Gj:=Dh.binds (ps:=["web", "thing"]) fun _ _ _ _ _ _ us hl=>by obtain⟨_,_,rfl⟩:=bp us hl;rfl
  have jN:=bn (st:=cT) pZ gz jJ
  have qh:=jN.binds (ps:=["web", "thing"]) fun _ _ _ _ _ _ us hl=>by obtain⟨_,_,rfl⟩:=bp us hl;rfl
  have rb:=bn (st:=fI) A2 lL qU
  have Bc:=rb.binds (ps:=["web", "stand", "person"]) fun _ _ _ _ _ _ us hl=>by obtain⟨_,_,_,rfl⟩:=kC us hl;rfl
  have rc:=bn (st:=fJ) A4 lM qV
  have Bd:=rc.binds (ps:=["web", "stand", "person"]) fun _ _ _ _ _ _ us hl=>by obtain⟨_,_,_,rfl⟩:=kC us hl;rfl
  have re:=bn (st:=fK) A6 gS qW
  have Be:=re.binds (ps:=["web", "stand"]) fun _ _ _ _ _ _ us hl=>by obtain⟨_,_,rfl⟩:=bp us hl;rfl
  have z0:=bn (st:=jA) Et sP zY
  have Ey:=z0.binds (ps:=["web", "stand"]) fun _ _ _ _ _ _ us hl=>by obtain⟨_,_,rfl⟩:=bp us hl;rfl
  have iH:=bn (st:=cj) m7 fg iF
  have nb:=iH.binds (ps:=["web", "thing"]) fun _ _ _ _ _ _ us hl=>by obtain⟨_,_,rfl⟩:=bp us hl;rfl
  have iI:=bn (st:=cm) m9 fj iG
  have nc:=iI.binds (ps:=["web", "thing"]) fun _ _ _ _ _ _ us hl=>by obtain⟨_,_,rfl⟩:=bp us hl;rfl
  have z5:=bn (st:=jB) Ev kD zZ
  have Ez:=z5.binds (ps:=["web", "some"]) fun _ _ _ _ _ _ us hl=>by obtain⟨_,_,rfl⟩:=bp us hl;rfl
  have mU:=bn (st:=dQ) vY gp mK
  have wN:=mU.binds (ps:=["web", "some"]) fun _ _ _ _ _ _ us hl=>by obtain⟨_,_,rfl⟩:=bp us hl;rfl
  have mV:=bn (st:=dR) v3 jc mL
  have wO:=mV.binds (ps:=["_law_script", "_law_k"]) fun _ _ _ _ _ _ us hl=>by obtain⟨_,_,rfl⟩:=bp us hl;rfl
  have mW:=bn (st:=dS) v6 da mM
  have wP:=mW.binds (ps:=["_law_script", "_law_k"]) fun _ _ _ _ _ _ us hl=>by obtain⟨_,_,rfl⟩:=bp us hl;rfl
  have kR:=bn (st:=dj) tZ ax kK
  have uC:=kR.binds (ps:=["_law_state", "_law_most"]) fun _ _ _ _ _ _ us hl=>by obtain⟨_,_,rfl⟩:=bp us hl;rfl
  have jO:=bn (st:=cU) qe gA jL
  have qi:=jO.binds (ps:=["_law_state", "_law_sort"]) fun _ _ _ _ _ _ us hl=>by obtain⟨_,_,rfl⟩:=bp us hl;rfl
  have pv:=bn (st:=eK) yU ka o4
  have zf:=pv.binds (ps:=["_law_state", "_law_total"]) fun _ _ _ _ _ _ us hl=>by obtain⟨_,_,rfl⟩:=bp us hl;rfl
  have pw:=bn (st:=eL) yW kc o5
  have zg:=pw.binds (ps:=["_law_script"]) fun _ _ _ _ _ _ us hl=>by obtain⟨_,rfl⟩:=gP us hl;rfl
  have jP:=bn (st:=cV) qg gB jM
  have qj:=jP.binds (ps:=["_law_web_here", "_law_states", "_law_head"]) fun _ _ _ _ _ _ us hl=>by obtain⟨_,_,_,rfl⟩:=kC us hl;rfl
  have mX:=bn (st:=dU) wx jd mP
  have wQ:=mX.binds (ps:=["_law_head"]) fun _ _ _ _ _ _ us hl=>by obtain⟨_,rfl⟩:=gP us hl;rfl
  have mY:=bn (st:=dW) wz gq mQ
  have wR:=mY.binds (ps:=["_law_web_here", "_law_states"]) fun _ _ _ _ _ _ us hl=>by obtain⟨_,_,rfl⟩:=bp us hl;rfl
  have mZ:=bn (st:=dX) wB eZ mR
  have wS:=mZ.binds (ps:=["_law_web_here", "_law_stand"]) fun _ _ _ _ _ _ us hl=>by obtain⟨_,_,rfl⟩:=bp us hl;rfl
  have px:=bn (st:=eM) yY kb pi
  have zh:=px.binds (ps:=["_law_web_here", "_law_stand"]) fun _ _ _ _ _ _ us hl=>by obtain⟨_,_,rfl⟩:=bp us hl;rfl
  have rf:=bn (st:=fL) A8 jC qX
  have Bf:=rf.binds (ps:=["_law_found", "_law_due_here"]) fun _ _ _ _ _ _ us hl=>by obtain⟨_,_,rfl⟩:=bp us hl;rfl
  have Hk:=bn (st:=kB) Hc He Hf
  refine⟨PySem.W.fnOf "law" "law" (aQ kB) (aN kB) (al kB) .none Db Dc Dd Da zc De,fun s v=>.of_eq rfl,fun base KB _ => ?_⟩
  have zi:Def l.prog w K mg base "is_whole" 1 1 eG:=Def.mk' (PySem.W.mg_of X G xX) oA zd (vb (P:=l.prog) (w:=w) (base:=base) pq aJ iq dC)
  have kS:Def l.prog w K mg base "is_between" 2 3 cw:=Def.mk' (PySem.W.mg_of X G sS) kE uA (pD (P:=l.prog) (w:=w) (base:=base) kP zi)
  have uD:Def l.prog w K mg base "is_opinion" 3 1 cM:=Def.mk' (PySem.W.mg_of X G sU) kF uB (pF (P:=l.prog) (w:=w) (base:=base) kQ kS)
  have mo:Def l.prog w K mg base "many_of" 1 1 ca:=Def.mk' (PySem.W.mg_of X G AM) qQ A9 (xH (P:=l.prog) (w:=w) (base:=base) qY bL)
  have Bg:Def l.prog w K mg base "ties_of" 1 2 gK:=Def.mk' (PySem.W.mg_of X G AO) qR Ba (xJ (P:=l.prog) (w:=w) (base:=base) qZ)
  have Di:Def l.prog w K mg base "bar_of" 1 2 gL:=Def.mk' (PySem.W.mg_of X G CN) vK Dg (AA (P:=l.prog) (w:=w) (base:=base) wL)
  have mr:Def l.prog w K mg base "stay_of" 1 2 cI:=Def.mk' (PySem.W.mg_of X G AZ) qT Bb (xL (P:=l.prog) (w:=w) (base:=base) ra)
  have zj:Def l.prog w K mg base "stays_of" 1 1 dL:=Def.mk' (PySem.W.mg_of X G yt) oF ze (vd (P:=l.prog) (w:=w) (base:=base) pr ff)
  have wT:Def l.prog w K mg base "is_person" 3 2 eX:=Def.mk' (PySem.W.mg_of X G vT) mJ wM (sC (P:=l.prog) (w:=w) (base:=base) mT kS mo)
  have Gk:Def l.prog w K mg base "fits" 4 2 nV:=Def.mk' (PySem.W.mg_of X G Gb) CP Gj (D3 (P:=l.prog) (w:=w) (base:=base) Dh dY bL aJ aU mr uD mo)
  have qk:Def l.prog w K mg base "check_stand" 5 2 cS:=Def.mk' (PySem.W.mg_of X G pY) jJ qh (n9 (P:=l.prog) (w:=w) (base:=base) jN Gk)
  have Bh:Def l.prog w K mg base "pull_at" 2 3 fD:=Def.mk' (PySem.W.mg_of X G A1) qU Bc (xN (P:=l.prog) (w:=w) (base:=base) rb gh Bg)
  have Bi:Def l.prog w K mg base "next_at" 3 3 eH:=Def.mk' (PySem.W.mg_of X G A3) qV Bd (xO (P:=l.prog) (w:=w) (base:=base) rc Di Bh mr)
  have Bj:Def l.prog w K mg base "turn_at" 4 2 dc:=Def.mk' (PySem.W.mg_of X G A5) qW Be (xQ (P:=l.prog) (w:=w) (base:=base) re aU aX mo Bi)
  have EA:Def l.prog w K mg base "ended" 6 2 ie:=Def.mk' (PySem.W.mg_of X G Es) zY Ey (Co (P:=l.prog) (w:=w) (base:=base) z0 bL Bj qk)
  have ng:Def l.prog w K mg base "may_be_chosen" 4 2 bG:=Def.mk' (PySem.W.mg_of X G m6) iF nb (lC (P:=l.prog) (w:=w) (base:=base) iH mr wT)
  have nh:Def l.prog w K mg base "are_choosable" 5 2 cf:=Def.mk' (PySem.W.mg_of X G m8) iG nc (lF (P:=l.prog) (w:=w) (base:=base) iI zW aX bL aJ ff ng)
  have z6:Def l.prog w K mg base "begun" 6 2 eS:=Def.mk' (PySem.W.mg_of X G Eu) zZ Ez (Cq (P:=l.prog) (w:=w) (base:=base) z5 aU dY zj nh)
  have wU:Def l.prog w K mg base "turns_all" 7 2 cy:=Def.mk' (PySem.W.mg_of X G vX) mK wN (sD (P:=l.prog) (w:=w) (base:=base) mU EA z6)
  have wV:Def l.prog w K mg base "_law_wide" 1 2 gc:=Def.mk' (PySem.W.mg_of X G vZ) mL wO (sE (P:=l.prog) (w:=w) (base:=base) mV aX bL)
  have m3:Def l.prog w K mg base "_law_cell" 2 2 bx:=Def.mk' (PySem.W.mg_of X G v5) mM wP (sG (P:=l.prog) (w:=w) (base:=base) mW bL wV)
  have cQ:Def l.prog w K mg base "_law_digit" 1 2 aw:=Def.mk' (PySem.W.mg_of X G tY) kK uC (pG (P:=l.prog) (w:=w) (base:=base) kR)
  have ql:Def l.prog w K mg base "_law_weight" 2 2 cO:=Def.mk' (PySem.W.mg_of X G qd) jL qi (oe (P:=l.prog) (w:=w) (base:=base) jO dC cQ)
  have zk:Def l.prog w K mg base "_law_bar" 2 2 eT:=Def.mk' (PySem.W.mg_of X G yT) o4 zf (ve (P:=l.prog) (w:=w) (base:=base) pv cQ)
  have zl:Def l.prog w K mg base "_law_web" 3 1 ig:=Def.mk' (PySem.W.mg_of X G yV) o5 zg (vf (P:=l.prog) (w:=w) (base:=base) pw aU dD aX gh cQ zk ql m3)
  have qo:Def l.prog w K mg base "_law_swayed" 2 3 ge:=Def.mk' (PySem.W.mg_of X G qf) jM qj (og (P:=l.prog) (w:=w) (base:=base) jP aU aX bL dC gh cQ)
  have wW:Def l.prog w K mg base "_law_line" 2 1 gf:=Def.mk' (PySem.W.mg_of X G ww) mP wQ (sH (P:=l.prog) (w:=w) (base:=base) mX aU dD gh aX cQ)
  have wX:Def l.prog w K mg base "_law_some" 2 2 gM:=Def.mk' (PySem.W.mg_of X G wy) mQ wR (sI (P:=l.prog) (w:=w) (base:=base) mY aX bL cQ)
  have wY:Def l.prog w K mg base "_law_turn" 1 2 er:=Def.mk' (PySem.W.mg_of X G wA) mR wS (sJ (P:=l.prog) (w:=w) (base:=base) mZ aU aX bL dC gh)
  have zm:Def l.prog w K mg base "_law_due" 2 2 ii:=Def.mk' (PySem.W.mg_of X G yX) pi zh (vg (P:=l.prog) (w:=w) (base:=base) px dC wY)
  have Bk:Def l.prog w K mg base "_law_is" 1 2 i7:=Def.mk' (PySem.W.mg_of X G A7) qX Bf (xR (P:=l.prog) (w:=w) (base:=base) rf dD aJ iq dC aU ff bL)
  exact FX (P:=l.prog) (w:=w) (base:=base) Hk aJ iq aU ff aX bL dC Bk wU zm z6 wX cQ m3 wW qo zl
end Fm
set_option linter.all false
namespace Fm
theorem ja {x:Int}(h0:0≤x)(h1:x < 4611686018427387904):sml x=true:=by
  simp only [sml,Bool.and_eq_true,decide_eq_true_eq];omega
theorem cR {n i:Nat}{x:D}(hx:((List.range n).map fun k:Nat=>D.int k)[i]? = some x):i < n∧x=.int (i:Nat):=by
  have hi:i < n:=by
    have:=(List.getElem?_eq_some_iff.mp hx).1
    simpa using this
  exact⟨hi,by simpa [hi,List.getElem?_eq_getElem] using hx.symm⟩
theorem b1l (L:D)(k sd fv j:Int)(a b:Option D)(h0:Hd)(e1:sml 31=true)(e2:sml 48271=true)(e3:sml j=true) :
   aK (gN 5) (ak jR (ak eV (ak bH (ak bH (ak bH (aa 2) (ak eV (fC (.int 31)) (aa 1))) (ak eV (aa 4) (aa 4))) (fC (.int 7))) (fC (.int 48271))) (fC (.int 2147483629))) [some L,some (.int k),some (.int sd),some (.int fv),some (.int j),b] h0
   = .nx [some L,some (.int k),some (.int sd),some (.int fv),some (.int j),some (.int ((sd + 31 * k + j * j + 7) * 48271 % 2147483629))] h0:=by
  simp [e1,e2,e3]
theorem b2l (L:D)(k sd fv j n1:Int)(a b:Option D)(h0:Hd)(e6:sml (n1 + 5)=true) :
   aK (gN 5) (ak jR (ak eV (ak bH (aa 5) (fC (.int 5))) (ak bH (ak bH (aa 5) (aa 4)) (fC (.int 3)))) (fC (.int 2147483587))) [some L,some (.int k),some (.int sd),some (.int fv),some (.int j),some (.int n1)] h0
   = .nx [some L,some (.int k),some (.int sd),some (.int fv),some (.int j),some (.int ((n1 + 5) * (n1 + j + 3) % 2147483587))] h0:=by
  simp [e6]
theorem b3l (L:D)(k sd fv j n1:Int)(a b:Option D)(h0:Hd)(e6:sml 69621=true) :
   aK (gN 5) (ak jR (ak eV (ak bH (aa 5) (aa 1)) (fC (.int 69621))) (fC (.int 2147483563))) [some L,some (.int k),some (.int sd),some (.int fv),some (.int j),some (.int n1)] h0
   = .nx [some L,some (.int k),some (.int sd),some (.int fv),some (.int j),some (.int ((n1 + k) * 69621 % 2147483563))] h0:=by
  simp [e6]
theorem b4l (L:D)(k sd fv j n1:Int)(a b:Option D)(h0:Hd)(e5:sml 2147483563=true)(e6:sml n1=true) :
   aK (gN 3) (ak bH (ak eV (aa 3) (fC (.int 2147483563))) (ak jR (ak eV (aa 5) (ak bH (aa 5) (fC (.int 11)))) (fC (.int 2147483549)))) [some L,some (.int k),some (.int sd),some (.int fv),some (.int j),some (.int n1)] h0
   = .nx [some L,some (.int k),some (.int sd),some (.int (fv * 2147483563 + n1 * (n1 + 11) % 2147483549)),some (.int j),some (.int n1)] h0:=by
  simp [e5,e6]
theorem b5l (L:D)(k sd fv j:Int)(a b:Option D)(h0:Hd)(e1:sml 31=true)(e2:sml 48271=true)(e3:sml j=true)(e4:sml 69621=true)(e5:sml 2147483563=true)(e6:∀ x:Int,sml (x % 2147483629 + 5)=true)(e7:∀ x:Int,sml (x % 2147483563)=true) :
   ∃ fv' n,jy [some L,some (.int k),some (.int sd),some (.int fv),some (.int j),b] h0=.nx [some L,some (.int k),some (.int sd),some (.int fv'),some (.int j),some (.int n)] h0:=by
  have q1:=b1l L k sd fv j a b h0 e1 e2 e3
  have q2:=b2l L k sd fv j _ a b h0 (e6 ((sd + 31 * k + j * j + 7) * 48271))
  have q3:=fun n=>b3l L k sd fv j n a b h0 e4
  have q4:=fun n=>b4l L k sd fv j _ a b h0 e5 (e7 n)
  refine⟨?_,?_,?_⟩
  rotate_left 2
  · simp only [jy,aB,q1,q2,q3,q4]
    rfl
theorem D4 (ns:List Int)(k:Int)(hk:0≤k∧k≤1000)(h:Hd):∃ v,gc [.lit (ns.map .int),.int k] h=.ok (.int v) h:=by
  have seed:∃ sd,(if 0 < (ns.length:Int) then (match atI (ns.map D.int) (k % ns.length) with|some (.int y)=>some (y % 2147483647)|_=>none) else some 11)=some sd:=by
    by_cases e:0 < (ns.length:Int)
    · have h1:=Int.emod_nonneg k (show (ns.length:Int)≠0 by omega)
      have h2:=Int.emod_lt_of_pos k e
      have h3:(k % ns.length).toNat < ns.length:=by omega
      have h4:=sx (f:=D.int) h3
      rw [show (((k % ns.length).toNat:Nat):Int)=k % ns.length by omega] at h4
      exact⟨_,by rw [if_pos e,h4]⟩
    · exact⟨11,by rw [if_neg e]⟩
  obtain⟨sd,hsd⟩:=seed
  obtain⟨σ',h',h1,h2,fv,a,b,h3⟩:=b7 (P:=fun _ σ h'=>h'=h ∧ ∃ fv a b,σ = [some (.lit (ns.map .int)),some (.int k),some (.int sd),some (.int fv),a,b]) (g:=none) (k:=0)
      (all:=(List.range 9).map fun k:Nat=>D.int k) (fun _ _ _ _=>trivial)
      (xs:=(List.range 9).map fun k:Nat=>D.int k) (tg:=gN 4) (σ:=[some (.lit (ns.map .int)),some (.int k),some (.int sd),some (.int 0),none,none]) (h:=h)
      (b:=jy) (by
      rintro i x σ h0 hx ⟨rfl,fv,a,b,rfl⟩
      obtain⟨hi,rfl⟩:=cR hx
      have j0:(0:Int)≤(i:Int):=by omega
      have j1:(i:Int) < 9:=by omega
      clear hx hi
      generalize ((i:Nat):Int)=j at j0 j1 ⊢
      have e1:sml 31=true:=ja (by omega) (by omega)
      have e2:sml 48271=true:=ja (by omega) (by omega)
      have e3:sml j=true:=ja (by omega) (by omega)
      have e4:sml 69621=true:=ja (by omega) (by omega)
      have e5:sml 2147483563=true:=ja (by omega) (by omega)
      have e6:∀ x:Int,sml (x % 2147483629 + 5)=true:=fun x=>ja (by have:=Int.emod_nonneg x (show (2147483629:Int)≠0 by omega);omega) (by have:=Int.emod_lt_of_pos x (show (0:Int) < 2147483629 by omega);omega)
      have e7:∀ x:Int,sml (x % 2147483563)=true:=fun x=>ja (Int.emod_nonneg x (by omega)) (by have:=Int.emod_lt_of_pos x (show (0:Int) < 2147483563 by omega);omega)
      obtain⟨fv',n',q⟩:=b5l (.lit (ns.map .int)) k sd fv j a b h0 e1 e2 e3 e4 e5 e6 e7
      exact⟨_,rfl,_,_,q,rfl,_,_,_,rfl⟩) ⟨rfl,_,_,_,rfl⟩
  subst h2 h3
  refine⟨fv,?_⟩
  by_cases e:0 < (ns.length:Int)
  · rw [if_pos e] at hsd
    cases q:atI (ns.map D.int) (k % ns.length) with
    | none=>rw [q] at hsd;cases hsd
    | some y =>
      cases y with
      | int y =>
        rw [q] at hsd
        have hsd:y % 2147483647=sd:=by simpa using hsd
        have e':0 < ns.length:=by omega
        simp [gc,bJ,runB,e,e',q,hsd,h1]
      | _=>rw [q] at hsd;cases hsd
  · rw [if_neg e] at hsd
    have hsd:11=sd:=by simpa using hsd
    subst hsd
    have e' : ¬ 0 < ns.length:=by omega
    simp [gc,bJ,runB,e,e',h1]
theorem nu (ns:List Int)(k:Nat)(hk:k≤1000)(h:Hd):∃ v,bx [.lit (ns.map .int),.int k] h=.ok (.int v) h:=by
  obtain⟨v,hv⟩:=D4 ns k (by omega) h
  by_cases e:k < ns.length
  · have h0:0 < ns.length:=by omega
    have p0:=sx (f:=D.int) h0
    have pk:=sx (f:=D.int) e
    rw [show ((0:Nat):Int)=0 from rfl] at p0
    by_cases ev:ns[0] % 2=0
    · exact⟨ns[k],by simp [bx,bJ,runB,e,p0,pk,ev,peq,dep]⟩
    · exact⟨v,by simp [bx,bJ,runB,e,p0,pk,ev,peq,dep,hv]⟩
  · exact⟨v,by simp [bx,bJ,runB,e,hv]⟩
theorem bq {h:Hd}{n:Nat}{x m:Int}(hn:h[n]? = some (.lst [.int x]))(hm:0 < m)(hm2:m < 2 ^ 250) :
    aw [.ref n,.int m] h=.ok (.int (x % m)) (h.set n (.lst [.int (x / m)])):=by
  have z:ixN 1 0=some 0:=by decide
  simp only [Int.reducePow] at hm2
  simp [aw,bJ,runB,hn,hm,hm2,z]
theorem pick {α : Type}(f : α → D)(l:List α)(x m:Int)(hm:m=l.length)(h:0 < m):∃ v∈l,atI (l.map f) (x % m)=some (f v):=by
  have h1:=Int.emod_nonneg x (show m≠0 by omega)
  have h2:=Int.emod_lt_of_pos x h
  have h3:(x % m).toNat < l.length:=by omega
  refine⟨l[(x % m).toNat],List.getElem_mem h3,?_⟩
  have:=sx (f:=f) h3
  rwa [show (((x % m).toNat:Nat):Int)=x % m by omega] at this
theorem AB {h:Hd}{n:Nat}{x s:Int}(hn:h[n]? = some (.lst [.int x])):∃ v y,cO [.ref n,.int s] h=.ok (.int v) (h.set n (.lst [.int y]))∧0≤v∧v≤400:=by
  by_cases e0:s=0
  · have b0:=Int.emod_nonneg x (show (800:Int)≠0 by omega)
    have b1:=Int.emod_lt_of_pos x (show (0:Int) < 800 by omega)
    have e1:sml (x % 800)=true:=ja b0 (by omega)
    by_cases e2:x % 800 < 401
    · exact⟨x % 800,x / 800,by simp [cO,bJ,runB,e0,peq,dep,bq hn,e1,e2],b0,by omega⟩
    · exact⟨0,x / 800,by simp [cO,bJ,runB,e0,peq,dep,bq hn,e1,e2],by omega,by omega⟩
  · by_cases e1:s=1
    · obtain⟨v,hv,q⟩:=pick D.int [0,0,0,0,0,1,1,2,3] x 9 rfl (by omega)
      simp only [List.map_cons,List.map_nil] at q
      refine⟨v,x / 9,by simp [cO,bJ,runB,e0,e1,peq,dep,bq hn,q],?_⟩
      simp at hv
      omega
    · obtain⟨v,hv,q⟩:=pick D.int [0,0,0,1] x 4 rfl (by omega)
      simp only [List.map_cons,List.map_nil] at q
      refine⟨v,x / 4,by simp [cO,bJ,runB,e0,e1,peq,dep,bq hn,q],?_⟩
      simp at hv
      omega
def LOW:Int:=1 - 10 ^ 60
theorem FZ:LOW ≤ -10:=by decide
theorem F3 {h:Hd}{n:Nat}{x t:Int}(hn:h[n]? = some (.lst [.int x]))(t0:0≤t)(t1:t≤1000000):∃ v y,eT [.ref n,.int t] h=.ok (.int v) (h.set n (.lst [.int y]))∧LOW≤v:=by
  have hlt:n < h.length:=(List.getElem?_eq_some_iff.mp hn).1
  have hn2:(h.set n (.lst [.int (x / 6)]))[n]? = some (.lst [.int (x / 6)]):=by simp [hlt]
  have d1:=bq hn (show (0:Int) < 6 by omega) (by simp)
  have lo:=FZ
  by_cases e0:x % 6 < 2
  · exact⟨t,x / 6,by simp [eT,bJ,runB,d1,e0],by omega⟩
  · by_cases e1:x % 6=2
    · have d2:=bq hn2 (show (0:Int) < 7 by omega) (by simp)
      exact⟨t - 3 + x / 6 % 7,x / 6 / 7,by simp [eT,bJ,runB,d1,e0,e1,peq,dep,d2],by omega⟩
    · by_cases e2:x % 6 < 5
      · have d2:=bq hn2 (m:=2 * t + 5) (by omega) (by simp;omega)
        have s2:sml 2=true:=by decide
        have b0:=Int.emod_nonneg (x / 6) (show 2 * t + 5≠0 by omega)
        exact⟨x / 6 % (2 * t + 5) - 2,x / 6 / (2 * t + 5),by simp [eT,bJ,runB,d1,e0,e1,e2,peq,dep,s2,d2],by omega⟩
      · have d2:=bq hn2 (m:=2 * 10 ^ 60 - 1) (by simp) (by simp)
        have s2:sml 2=true:=by decide
        have s10:sml 10=true:=by decide
        have b0:=Int.emod_nonneg (x / 6) (show (2 * 10 ^ 60 - 1:Int)≠0 by decide)
        have le:LOW≤x / 6 % (2 * 10 ^ 60 - 1) - 10 ^ 60 + 1:=by unfold LOW;omega
        refine⟨x / 6 % (2 * 10 ^ 60 - 1) - 10 ^ 60 + 1,x / 6 / (2 * 10 ^ 60 - 1),?_,le⟩
        simp at d2 ⊢
        simp [eT,bJ,runB,d1,e0,e1,e2,peq,dep,s2,s10,d2]
structure WS (n:Nat) (R:Nat→List (Nat × Int)) (h:Hd):Prop where
  hd0:∃ x,h[0]? = some (.lst [.int x])
  st:∀ i,i < n → ∃ y,h[1 + i]? = some (.lst [.int y])
  sts:h[n + 1]? = some (.lst ((List.range n).map fun i=>.ref (1 + i)))
  ti:∀ i,i < n→h[n + 2 + i]? = some (.lst ((R i).map cH))
  tis:h[2 * n + 2]? = some (.lst ((List.range n).map fun i=>.ref (n + 2 + i)))
theorem WS.setSt {n:Nat}{R:Nat→List (Nat × Int)}{h:Hd}(w:WS n R h){i:Nat}(hi:i < n)(y:Int):WS n R (h.set (1 + i) (.lst [.int y])) where
  hd0:=by obtain⟨x,e⟩:=w.hd0;exact⟨x,by rw [List.getElem?_set_ne (by omega)];exact e⟩
  st:=fun j hj=>by
    obtain⟨z,e⟩:=w.st j hj
    by_cases q:i=j
    · subst q
      have:=(List.getElem?_eq_some_iff.mp e).1
      exact⟨y,by rw [List.getElem?_set_self this]⟩
    · exact⟨z,by rw [List.getElem?_set_ne (by omega)];exact e⟩
  sts:=by rw [List.getElem?_set_ne (by omega)];exact w.sts
  ti:=fun j hj=>by rw [List.getElem?_set_ne (by omega)];exact w.ti j hj
  tis:=by rw [List.getElem?_set_ne (by omega)];exact w.tis
def dk (R:Nat→List (Nat × Int)) (k:Nat) (p:Nat × Int):Nat→List (Nat × Int):=fun i=>if i=k then R i++[p] else R i
theorem WS.app {n:Nat}{R:Nat→List (Nat × Int)}{h:Hd}(w:WS n R h){i:Nat}(hi:i < n)(p:Nat × Int):WS n (dk R i p) (h.set (n + 2 + i) (.lst ((R i).map cH++[cH p]))) where
  hd0:=by obtain⟨x,e⟩:=w.hd0;exact⟨x,by rw [List.getElem?_set_ne (by omega)];exact e⟩
  st:=fun j hj=>by obtain⟨z,e⟩:=w.st j hj;exact⟨z,by rw [List.getElem?_set_ne (by omega)];exact e⟩
  sts:=by rw [List.getElem?_set_ne (by omega)];exact w.sts
  ti:=fun j hj=>by
    by_cases q:i=j
    · subst q
      have:=(List.getElem?_eq_some_iff.mp (w.ti i hj)).1
      rw [List.getElem?_set_self this]
      simp [dk]
    · rw [List.getElem?_set_ne (by omega),w.ti j hj,dk,if_neg (by omega)]
  tis:=by rw [List.getElem?_set_ne (by omega)];exact w.tis
theorem WS.more {n:Nat}{R:Nat→List (Nat × Int)}{h:Hd}(w:WS n R h)(c:Hd):WS n R (h++c):=by
  have k:∀ {i:Nat} {x:dm},h[i]? = some x→(h++c)[i]? = some x:=fun {i x} e=>by
    rw [List.getElem?_append_left (List.getElem?_eq_some_iff.mp e).1];exact e
  exact⟨let ⟨x,e⟩:=w.hd0;⟨x,k e⟩,fun i hi=>let ⟨x,e⟩:=w.st i hi;⟨x,k e⟩,k w.sts,fun i hi=>k (w.ti i hi),k w.tis⟩
structure eu (n:Nat) (c:Nat) (R:Nat→List (Nat × Int)):Prop where
  ris:∀ i,(R i).Pairwise fun p q=>p.1 < q.1
  lt:∀ i p,p∈R i→p.1 < n
  wt:∀ i p,p∈R i→1≤p.2∧p.2≤400
  len:∀ i,(R i).length≤c
  sym:∀ f s,S2 R f s n=S2 R s f n
theorem io (R:Nat→List (Nat × Int))(f s:Nat→Int)(k:Nat)(p:Nat × Int):∀ n,S2 (dk R k p) f s n=S2 R f s n + (if k < n then p.2 * f p.1 * s k else 0)
  | 0=>by simp [S2]
  | n + 1=>by
    rw [S2,S2,io R f s k p n]
    by_cases e:n=k
    · subst e
      simp [dk];omega
    · rw [dk,if_neg e]
      by_cases l:k < n
      · have:k < n + 1:=by omega
        simp [l,this];omega
      · have : ¬ k < n + 1:=by omega
        simp [l,this]
theorem dB {R:Nat→List (Nat × Int)}{k i:Nat}{q p:Nat × Int}(h:p∈dk R k q i):p∈R i∨p=q:=by
  unfold dk at h
  split at h
  · simpa using h
  · exact .inl h
theorem vh {R:Nat→List (Nat × Int)}{k:Nat}{q:Nat × Int}(h:∀ i,(R i).Pairwise fun p q=>p.1 < q.1)(hq:∀ p∈R k,p.1 < q.1)(i:Nat):(dk R k q i).Pairwise fun p q=>p.1 < q.1:=by
  unfold dk
  split
  · rename_i e
    rw [List.pairwise_append]
    exact⟨h i,by simp,fun a ha b hb=>by simp at hb;subst hb;exact hq a (by rw [← e];exact ha)⟩
  · exact h i
theorem eu.put {n c:Nat}{R:Nat→List (Nat × Int)}(o:eu n c R){k j:Nat}(hk:k < n)(hj:j < n)(hjk:j≠k)(b1:∀ p∈R k,p.1 < j)(b2:∀ p∈R j,p.1 < k){v:Int}(h1:1≤v)(h2:v≤400):eu n (c + 2) (dk (dk R k (j,v)) j (k,v)) where
  ris:=vh (vh o.ris b1) fun p hp=>by
    rw [dk,if_neg hjk] at hp
    exact b2 p hp
  lt:=fun i p hp=>by
    rcases dB hp with hp|rfl
    · rcases dB hp with hp|rfl
      · exact o.lt _ _ hp
      · exact hj
    · exact hk
  wt:=fun i p hp=>by
    rcases dB hp with hp|rfl
    · rcases dB hp with hp|rfl
      · exact o.wt _ _ hp
      · exact⟨h1,h2⟩
    · exact⟨h1,h2⟩
  len:=fun i=>by
    have:=o.len i
    simp only [dk]
    split<;>split<;>simp<;>omega
  sym:=fun f s=>by
    rw [io,io,io,io,o.sym f s]
    simp only [hk,hj,if_true]
    have e1:v * f j * s k=v * s k * f j:=by rw [Int.mul_assoc,Int.mul_assoc,Int.mul_comm (f j)]
    have e2:v * f k * s j=v * s j * f k:=by rw [Int.mul_assoc,Int.mul_assoc,Int.mul_comm (f k)]
    rw [e1,e2];omega
theorem eU {a n i:Nat}(h:i < n):atI ((List.range n).map fun i=>D.ref (a + i)) (i:Int)=some (.ref (a + i)):=by
  refine cK ?_
  simp [h]
structure Mid (k j:Nat) (R:Nat→List (Nat × Int)):Prop where
  a:∀ i,k < i→R i=[]
  b:∀ p∈R k,p.1 < j
  c:∀ i,i < j → ∀ p∈R i,p.1≤k
  d:∀ i,j≤i→i < k → ∀ p∈R i,p.1 < k
theorem Mid.skip {k j:Nat}{R:Nat→List (Nat × Int)}(m:Mid k j R)(hj:j < k):Mid k (j + 1) R :=
  ⟨m.a,fun p hp=>Nat.lt_succ_of_lt (m.b p hp),fun i hi p hp=>by
    by_cases e:i < j
    · exact m.c i e p hp
    · exact Nat.le_of_lt (m.d i (by omega) (by omega) p hp),fun i h1 h2=>m.d i (by omega) h2⟩
theorem Mid.put {k j:Nat}{R:Nat→List (Nat × Int)}(m:Mid k j R)(hj:j < k)(v:Int):Mid k (j + 1) (dk (dk R k (j,v)) j (k,v)) where
  a:=fun i hi=>by rw [dk,if_neg (by omega),dk,if_neg (by omega)];exact m.a i hi
  b:=fun p hp=>by
    rw [dk,if_neg (by omega)] at hp
    rcases dB hp with hp|rfl
    · exact Nat.lt_succ_of_lt (m.b p hp)
    · exact Nat.lt_succ_self _
  c:=fun i hi p hp=>by
    rcases dB hp with hp|rfl
    · rw [dk,if_neg (by omega)] at hp
      by_cases e:i < j
      · exact m.c i e p hp
      · exact Nat.le_of_lt (m.d i (by omega) (by omega) p hp)
    · exact Nat.le_refl _
  d:=fun i h1 h2 p hp=>by
    rw [dk,if_neg (by omega),dk,if_neg (by omega)] at hp
    exact m.d i (by omega) h2 p hp
theorem Cr {n k:Nat}{lit:D}{sort:Int}(hk:k < n)(hn:n≤30){R:Nat→List (Nat × Int)}{h:Hd}{c L:Nat}(hc:c + 2 * k≤100000)(w:WS n R h)(o:eu n c R)(mm:Mid k 0 R)(hL:h.length=L){a b:Option D} :
    ∃ a' b' R' h',iQ none ((List.range k).map fun k:Nat=>D.int k) (gN 7) i6 ((List.range k).map fun k:Nat=>D.int k)
      [some lit,some (.ref 0),some (.int n),some (.ref (n + 1)),some (.ref (2 * n + 2)),some (.int k),some (.int sort),a,b,none,none,none] h
      = .nx [some lit,some (.ref 0),some (.int n),some (.ref (n + 1)),some (.ref (2 * n + 2)),some (.int k),some (.int sort),a',b',none,none,none] h'∧WS n R' h'∧eu n (c + 2 * k) R'∧Mid k k R'∧h'.length=L:=by
  obtain⟨σ',h',h1,R',a',b',h2,h3,h4,hm,h5⟩:=b7 (P:=fun i σ h=>∃ R a b,σ = [some lit,some (.ref 0),some (.int n),some (.ref (n + 1)),some (.ref (2 * n + 2)),some (.int k),some (.int sort),a,b,none,none,none]∧WS n R h∧eu n (c + 2 * i) R∧Mid k i R∧h.length=L)
    (g:=none) (k:=0) (all:=(List.range k).map fun k:Nat=>D.int k) (fun _ _ _ _=>trivial) (xs:=(List.range k).map fun k:Nat=>D.int k) (tg:=gN 7) (b:=i6)
    (σ:=[some lit,some (.ref 0),some (.int n),some (.ref (n + 1)),some (.ref (2 * n + 2)),some (.int k),some (.int sort),a,b,none,none,none]) (h:=h) (by
      rintro i x σ h0 hx ⟨R,a,b,rfl,w,o,mm,hL⟩
      obtain⟨hi,rfl⟩:=cR hx
      rw [Nat.zero_add] at o mm ⊢
      obtain⟨y,ey⟩:=w.st k hk
      obtain⟨v,y',ev,v0,v1⟩:=AB (s:=sort) ey
      have w1:=w.setSt hk y'
      have hkn:=hk
      have r1:=eU (a:=1) hk
      have r2:=eU (a:=n + 2) hk
      have hin:i < n:=by omega
      have r3:=eU (a:=n + 2) hin
      refine⟨_,rfl,?_⟩
      by_cases e:0 < v
      · have len1:=o.len k
        have len2:=o.len i
        have t1:=w1.ti k hk
        have w2:=w1.app hk (i,v)
        have o2:=o.put hk hin (by omega) mm.b (mm.d i (Nat.le_refl _) hi) (show 1≤v by omega) v1
        have t2:=w2.ti i hin
        have w3:=w2.app hin (k,v)
        have l1:((R k).map cH).length < 1000000:=by simp;omega
        have l2:(((dk R k (i,v)) i).map cH).length < 1000000:=by
          simp only [dk];split<;>simp<;>omega
        simp only [cH] at t1 t2 l1 l2
        refine⟨[some lit,some (.ref 0),some (.int n),some (.ref (n + 1)),some (.ref (2 * n + 2)),some (.int k),some (.int sort),some (.int i),some (.int v),none,none,none],_,?_,_,_,_,rfl,w3,by rw [show c + 2 * (i + 1)=c + 2 * i + 2 by omega];exact o2,mm.put hi v,?_⟩
        · have s1:=w.sts
          have s2:=w1.tis
          have s3:=w2.tis
          simp only [cH] at s3
          simp [-List.length_map,SZ,i6,s1,r1,ev,e,s2,r2,t1,l1,s3,r3,t2,l2,cH]
        · simp [hL]
      · refine⟨[some lit,some (.ref 0),some (.int n),some (.ref (n + 1)),some (.ref (2 * n + 2)),some (.int k),some (.int sort),some (.int i),some (.int v),none,none,none],_,?_,R,_,_,rfl,w1,⟨o.ris,o.lt,o.wt,fun j=>by have:=o.len j;omega,o.sym⟩,mm.skip hi,by simp [hL]⟩
        simp [i6,w.sts,r1,ev,e]) ⟨R,a,b,rfl,w,o,mm,hL⟩
  refine⟨a',b',R',h',?_,h3,?_,?_,h5⟩
  · rw [h1,h2]
  · simpa using h4
  · simpa using hm
theorem eu.le {n c d:Nat}{R:Nat→List (Nat × Int)}(o:eu n c R)(h:c≤d):eu n d R:=⟨o.ris,o.lt,o.wt,fun j=>Nat.le_trans (o.len j) h,o.sym⟩
theorem Cs {n:Nat}{lit:D}(hn:n≤30){R:Nat→List (Nat × Int)}{h:Hd}{L:Nat}(w:WS n R h)(o:eu n 0 R)(mm:∀ i,R i=[])(hL:h.length=L) :
    ∃ a b c d R' h',iQ none ((List.range n).map fun k:Nat=>D.int k) (gN 5) kA ((List.range n).map fun k:Nat=>D.int k)
      [some lit,some (.ref 0),some (.int n),some (.ref (n + 1)),some (.ref (2 * n + 2)),none,none,none,none,none,none,none] h
      = .nx [some lit,some (.ref 0),some (.int n),some (.ref (n + 1)),some (.ref (2 * n + 2)),a,b,c,d,none,none,none] h'∧WS n R' h'∧eu n (60 * n) R'∧h'.length=L:=by
  obtain⟨σ',h',h1,R',a,b,c,d,h2,h3,h4,-,h5⟩:=b7 (P:=fun i σ h=>∃ R a b c d,σ = [some lit,some (.ref 0),some (.int n),some (.ref (n + 1)),some (.ref (2 * n + 2)),a,b,c,d,none,none,none]∧WS n R h∧eu n (60 * i) R∧Mid i 0 R∧h.length=L)
    (g:=none) (k:=0) (all:=(List.range n).map fun k:Nat=>D.int k) (fun _ _ _ _=>trivial) (xs:=(List.range n).map fun k:Nat=>D.int k) (tg:=gN 5) (b:=kA)
    (σ:=[some lit,some (.ref 0),some (.int n),some (.ref (n + 1)),some (.ref (2 * n + 2)),none,none,none,none,none,none,none]) (h:=h) (by
      rintro i x σ h0 hx ⟨R,a,b,c,d,rfl,w,o,mm,hL⟩
      obtain⟨hi,rfl⟩:=cR hx
      rw [Nat.zero_add] at o mm ⊢
      obtain⟨y,ey⟩:=w.st i hi
      have e1:=bq ey (show (0:Int) < 3 by omega) (by simp)
      have w1:=w.setSt hi (y / 3)
      have r1:=eU (a:=1) hi
      obtain⟨a',b',R',h',q1,q2,q3,qm,q4⟩:=Cr (lit:=lit) (sort:=y % 3) hi hn (c:=60 * i) (by omega) w1 o mm (L:=L) (by simpa using hL) (a:=c) (b:=d)
      have qm':Mid (i + 1) 0 R':=by
        refine⟨fun j hj=>qm.a j (by omega),fun p hp => ?_,fun j hj=>by omega,fun j _ hj p hp => ?_⟩
        · rw [qm.a (i + 1) (by omega)] at hp;cases hp
        · by_cases e:j < i
          · have:=qm.c j e p hp;omega
          · have:j=i:=by omega
            subst this
            have:=qm.b p hp;omega
      refine⟨_,rfl,[some lit,some (.ref 0),some (.int n),some (.ref (n + 1)),some (.ref (2 * n + 2)),some (.int i),some (.int (y % 3)),a',b',none,none,none],h',?_,R',_,_,_,_,rfl,q2,q3.le (by omega),qm',q4⟩
      have z1 : -1000000≤(i:Int):=by omega
      have z2:(i:Int)≤1000000:=by omega
      simp [kA,w.sts,r1,e1,z1,z2,q1]) ⟨R,_,_,_,_,rfl,w,o,⟨fun i _=>mm i,fun p hp=>(by rw [mm] at hp;cases hp),fun i hi=>(by omega),fun i _ hi=>(by omega)⟩,hL⟩
  refine⟨a,b,c,d,R',h',?_,h3,?_,h5⟩
  · rw [h1,h2]
  · simpa using h4
theorem Ct (l:List (Nat × Int))(h:∀ p∈l,1≤p.2∧p.2≤400):0≤(l.map (·.2)).sum∧(l.map (·.2)).sum≤400 * l.length:=by
  induction l with
  | nil=>simp
  | cons p l ih =>
    have h1:=h p (by simp)
    have h2:=ih fun q hq=>h q (by simp [hq])
    simp
    omega
def free (ss:List (Option Int)):Nat:=ss.countP fun x=>x.isNone
structure WB (n:Nat) (R:Nat→List (Nat × Int)) (i:Nat) (bs:List Int) (ss:List (Option Int)) (h:Hd):Prop where
  w:WS n R h
  hb:h[2 * n + 3]? = some (.lst (bs.map .int))
  hs:h[2 * n + 4]? = some (.lst (ss.map bm))
  lb:bs.length=i
  ls:ss.length=i
  os:∀ x∈ss,x=none∨x=some 0∨x=some 1
  fr:free ss≤8
  bl:∀ x∈bs,LOW≤x
theorem oh (ss:List (Option Int)):(ss.map bm).countP (fun z=>eqF z .non)=free ss:=by
  rw [List.countP_map,free]
  congr 1
  funext x
  cases x<;>rfl
theorem qK (ss:List (Option Int)):(ss.map bm).all bK=true:=by
  rw [List.all_map,List.all_eq_true]
  intro x _
  cases x<;>rfl
theorem lG {σ:Sd}{h:Hd}{k m:Nat}{ss:List (Option Int)}(e : σ[m]? = some (some (.ref k)))(hk:h[k]? = some (.lst (ss.map bm))):eB (aa m) (fC .non) σ h=.ok (.int (free ss)) h:=by
  have e1:aa m σ h=.ok (.ref k) h:=by simp [aa,slot,e]
  have e2:b4 h (.ref k)=some (ss.map bm):=by simp [b4,hk]
  have e3:(bK .non && (ss.map bm).all bK)=true:=by rw [qK];rfl
  show ((aa m) σ h).bind _=_
  rw [e1]
  show (match b4 h (.ref k) with|some _=>_|none=>_)=_
  rw [e2]
  show (match b4 h (.ref k) with|some _=>_|none=>_)=_
  rw [e2]
  show (if (bK .non && (ss.map bm).all bK)=true then _ else _)=_
  rw [if_pos e3,oh]
theorem D5 {n:Nat}{lit:D}(hn:n≤30){R:Nat→List (Nat × Int)}(o:eu n 1800 R){h:Hd}{a b c d e:Option D}(w:WB n R 0 [] [] h) :
    ∃ a' b' c' d' e' bs ss h',iQ none ((List.range n).map fun k:Nat=>D.int k) (gN 5) kz ((List.range n).map fun k:Nat=>D.int k)
      [some lit,some (.ref 0),some (.int n),some (.ref (n + 1)),some (.ref (2 * n + 2)),a,b,c,d,some (.ref (2 * n + 3)),some (.ref (2 * n + 4)),e] h
      = .nx [some lit,some (.ref 0),some (.int n),some (.ref (n + 1)),some (.ref (2 * n + 2)),a',b',c',d',some (.ref (2 * n + 3)),some (.ref (2 * n + 4)),e'] h'∧WB n R n bs ss h':=by
  obtain⟨σ',h',h1,bs,ss,a',b',c',d',e',h2,h3⟩:=b7 (P:=fun i σ h=>∃ bs ss a b c d e,σ = [some lit,some (.ref 0),some (.int n),some (.ref (n + 1)),some (.ref (2 * n + 2)),a,b,c,d,some (.ref (2 * n + 3)),some (.ref (2 * n + 4)),e]∧WB n R i bs ss h)
    (g:=none) (k:=0) (all:=(List.range n).map fun k:Nat=>D.int k) (fun _ _ _ _=>trivial) (xs:=(List.range n).map fun k:Nat=>D.int k) (tg:=gN 5) (b:=kz)
    (σ:=[some lit,some (.ref 0),some (.int n),some (.ref (n + 1)),some (.ref (2 * n + 2)),a,b,c,d,some (.ref (2 * n + 3)),some (.ref (2 * n + 4)),e]) (h:=h) (by
      rintro i x σ h0 hx ⟨bs,ss,a,b,c,d,e,rfl,B⟩
      obtain⟨hi,rfl⟩:=cR hx
      rw [Nat.zero_add] at B ⊢
      have w:=B.w
      obtain⟨y,ey⟩:=w.st i hi
      have r1:=eU (a:=1) hi
      have r2:=eU (a:=n + 2) hi
      have ti:=w.ti i hi
      have comp:bX (some (n + 2 + i)) ((R i).map cH) (gT [0,1]) [] (aa 1) ((R i).map cH) [none,none] h0=.ok (((R i).map (·.2)).map D.int) h0:=by
        have:=bw (g:=some (n + 2 + i)) (all:=(R i).map cH) (tg:=gT [0,1]) (cs:=[]) (e:=aa 1) (h:=h0) (I:=fun σ=>∃ a b,σ = [a,b]) (fun _=>true) (fun d=>match d with | .tup [_,x]=>x|_=>.non) ti (xs:=(R i).map cH) (σ:=[none,none]) (by
          rintro x hx σ ⟨a,b,rfl⟩
          obtain⟨q,hq,rfl⟩:=List.mem_map.mp hx
          exact⟨_,rfl,⟨_,_,rfl⟩,rfl,fun _=>rfl⟩) ⟨_,_,rfl⟩
        rw [this,List.filter_eq_self.mpr (by simp),List.map_map,List.map_map]
        rfl
      have sl:=Ct (R i) fun p hp=>o.wt i p hp
      have ln:=o.len i
      obtain⟨v,y',e1,vlow⟩:=F3 (t:=((R i).map (·.2)).sum) ey sl.1 (by omega)
      have w1:=w.setSt hi y'
      have hb1:(h0.set (1 + i) (.lst [.int y']))[2 * n + 3]? = some (.lst (bs.map .int)):=by rw [List.getElem?_set_ne (by omega)];exact B.hb
      have lt3:=(List.getElem?_eq_some_iff.mp B.hb).1
      have lt4:=(List.getElem?_eq_some_iff.mp B.hs).1
      have lbz:bs.length < 1000000:=by have:=B.lb;omega
      have lsz:ss.length < 1000000:=by have:=B.ls;omega
      obtain⟨h2,hh2⟩ : ∃ h2,h2=(h0.set (1 + i) (.lst [.int y'])).set (2 * n + 3) (.lst (bs.map .int++[.int v])):=⟨_,rfl⟩
      have g2:∀ {j:Nat},j≠2 * n + 3→h2[j]? = (h0.set (1 + i) (.lst [.int y']))[j]? := fun {j} hj=>by rw [hh2,List.getElem?_set_ne (by omega)]
      have w2:WS n R h2:=by
        refine⟨?_,fun j hj => ?_,?_,fun j hj => ?_,?_⟩
        · obtain⟨x,e⟩:=w1.hd0;exact⟨x,by rw [g2 (by omega)];exact e⟩
        · obtain⟨x,e⟩:=w1.st j hj;exact⟨x,by rw [g2 (by omega)];exact e⟩
        · rw [g2 (by omega)];exact w1.sts
        · rw [g2 (by omega)];exact w1.ti j hj
        · rw [g2 (by omega)];exact w1.tis
      obtain⟨z,ez⟩:=w2.st i hi
      have e2:=bq ez (show (0:Int) < 7 by omega) (by simp)
      obtain⟨u,hu,q⟩:=pick bm [none,none,none,none,none,some 0,some 1] z 7 rfl (by omega)
      have q:atI [D.non,.non,.non,.non,.non,.int 0,.int 1] (z % 7)=some (bm u):=q
      have w3:=w2.setSt hi (z / 7)
      obtain⟨h3,hh3⟩ : ∃ h3,h3=h2.set (1 + i) (.lst [.int (z / 7)]):=⟨_,rfl⟩
      rw [← hh3] at w3 e2
      have hs3:h3[2 * n + 4]? = some (.lst (ss.map bm)):=by
        rw [hh3,List.getElem?_set_ne (by omega),g2 (by omega),List.getElem?_set_ne (by omega)];exact B.hs
      have hb3:h3[2 * n + 3]? = some (.lst ((bs++[v]).map .int)):=by
        rw [hh3,List.getElem?_set_ne (by omega),hh2,List.getElem?_set_self (by simpa using lt3)];simp
      obtain⟨z',ez'⟩:=w3.st i hi
      have e3:=bq ez' (show (0:Int) < 2 by omega) (by simp)
      have st1:eC (eD (aa 9) (au eT (af (fAt (aa 3) (aa 5)) (af (jS (bz 2 [] (dq (fAt (aa 4) (aa 5))) (gT [0,1]) [] (aa 1))) ap))))
          [some lit,some (.ref 0),some (.int n),some (.ref (n + 1)),some (.ref (2 * n + 2)),some (.int i),b,c,d,some (.ref (2 * n + 3)),some (.ref (2 * n + 4)),e] h0
          = .nx [some lit,some (.ref 0),some (.int n),some (.ref (n + 1)),some (.ref (2 * n + 2)),some (.int i),b,c,d,some (.ref (2 * n + 3)),some (.ref (2 * n + 4)),e] h2:=by
        rw [hh2]
        simp [SZ,w.sts,w.tis,r1,r2,ti,comp,fE,e1,hb1,lbz,B.hb,-List.map_map]
      have st2:aK (gN 11) (fIx (af (fC .non) (af (fC .non) (af (fC .non) (af (fC .non) (af (fC .non) (af (fC (.int 0)) (af (fC (.int 1)) ap))))))) (au aw (af (fAt (aa 3) (aa 5)) (af (fC (.int 7)) ap))))
          [some lit,some (.ref 0),some (.int n),some (.ref (n + 1)),some (.ref (2 * n + 2)),some (.int i),b,c,d,some (.ref (2 * n + 3)),some (.ref (2 * n + 4)),e] h2
          = .nx [some lit,some (.ref 0),some (.int n),some (.ref (n + 1)),some (.ref (2 * n + 2)),some (.int i),b,c,d,some (.ref (2 * n + 3)),some (.ref (2 * n + 4)),some (bm u)] h3:=by
        simp [w2.sts,r1,e2,q]
      have st3:∃ (u':Option Int) (h4:Hd),(sIf (iJ (tE (ak DG (aa 11) (fC .non))) (tE (ak oGt (eB (aa 10) (fC .non)) (fC (.int 7))))) (aK (gN 11) (au aw (af (fAt (aa 3) (aa 5)) (af (fC (.int 2)) ap)))) bI)
          [some lit,some (.ref 0),some (.int n),some (.ref (n + 1)),some (.ref (2 * n + 2)),some (.int i),b,c,d,some (.ref (2 * n + 3)),some (.ref (2 * n + 4)),some (bm u)] h3
          = .nx [some lit,some (.ref 0),some (.int n),some (.ref (n + 1)),some (.ref (2 * n + 2)),some (.int i),b,c,d,some (.ref (2 * n + 3)),some (.ref (2 * n + 4)),some (bm u')] h4
          ∧ (u'=none∨u'=some 0∨u'=some 1)∧free (ss++[u'])≤8 ∧ ∃ z',h4=h3.set (1 + i) (.lst [.int z']):=by
        have self:∃ z',h3=h3.set (1 + i) (.lst [.int z']):=by
          refine⟨z',?_⟩
          apply List.ext_getElem?
          intro j
          by_cases ij:1 + i=j
          · subst ij;rw [List.getElem?_set_self (List.getElem?_eq_some_iff.mp ez').1];exact ez'
          · rw [List.getElem?_set_ne ij]
        have hu':u=none∨u=some 0∨u=some 1:=by simpa using hu
        cases u with
        | some k=>exact⟨some k,h3,by simp [bm],hu',by have:=B.fr;simpa [free] using this,self⟩
        | none =>
          by_cases c7:7 < free ss
          · have c7':(7:Int) < (free ss:Int):=by omega
            have b0:=Int.emod_nonneg z' (show (2:Int)≠0 by omega)
            have b1:=Int.emod_lt_of_pos z' (show (0:Int) < 2 by omega)
            refine⟨some (z' % 2),h3.set (1 + i) (.lst [.int (z' / 2)]),?_,?_,by have:=B.fr;simpa [free] using this,_,rfl⟩
            · have fc:=lG (m:=10) (σ:=[some lit,some (.ref 0),some (.int n),some (.ref (n + 1)),some (.ref (2 * n + 2)),some (.int i),b,c,d,some (.ref (2 * n + 3)),some (.ref (2 * n + 4)),some .non]) rfl hs3
              simp [-eB,bm,fc,c7',w3.sts,r1,e3]
            · by_cases zz:z' % 2=0
              · rw [zz];simp
              · have:z' % 2=1:=by omega
                rw [this];simp
          · have c7' : ¬ (7:Int) < (free ss:Int):=by omega
            refine⟨none,h3,?_,.inl rfl,by simp only [free] at c7 ⊢;simp;omega,self⟩
            have fc:=lG (m:=10) (σ:=[some lit,some (.ref 0),some (.int n),some (.ref (n + 1)),some (.ref (2 * n + 2)),some (.int i),b,c,d,some (.ref (2 * n + 3)),some (.ref (2 * n + 4)),some .non]) rfl hs3
            simp [-eB,bm,fc,c7']
      obtain⟨u',h4,st3,ou,fu,z4,hh4⟩:=st3
      have w4:=w3.setSt hi z4
      rw [← hh4] at w4
      have hs4:h4[2 * n + 4]? = some (.lst (ss.map bm)):=by rw [hh4,List.getElem?_set_ne (by omega)];exact hs3
      have hb4:h4[2 * n + 3]? = some (.lst ((bs++[v]).map .int)):=by rw [hh4,List.getElem?_set_ne (by omega)];exact hb3
      have lt5:=(List.getElem?_eq_some_iff.mp hs4).1
      have st4:eC (eD (aa 10) (aa 11)) [some lit,some (.ref 0),some (.int n),some (.ref (n + 1)),some (.ref (2 * n + 2)),some (.int i),b,c,d,some (.ref (2 * n + 3)),some (.ref (2 * n + 4)),some (bm u')] h4
          = .nx [some lit,some (.ref 0),some (.int n),some (.ref (n + 1)),some (.ref (2 * n + 2)),some (.int i),b,c,d,some (.ref (2 * n + 3)),some (.ref (2 * n + 4)),some (bm u')] (h4.set (2 * n + 4) (.lst (ss.map bm++[bm u']))):=by
        simp [SZ,hs4,lsz]
      refine⟨_,rfl,[some lit,some (.ref 0),some (.int n),some (.ref (n + 1)),some (.ref (2 * n + 2)),some (.int i),b,c,d,some (.ref (2 * n + 3)),some (.ref (2 * n + 4)),some (bm u')],h4.set (2 * n + 4) (.lst (ss.map bm++[bm u'])),?_,bs++[v],ss++[u'],_,_,_,_,_,rfl,?_⟩
      · unfold kz
        show aB _ _ [some lit,some (.ref 0),some (.int n),some (.ref (n + 1)),some (.ref (2 * n + 2)),some (.int i),b,c,d,some (.ref (2 * n + 3)),some (.ref (2 * n + 4)),e] h0=_
        rw [c9 st1,c9 st2,c9 st3,st4]
      · refine⟨⟨?_,fun j hj => ?_,?_,fun j hj => ?_,?_⟩,?_,?_,by simp [B.lb],by simp [B.ls],fun x hx => ?_,fu,fun x hx => ?_⟩
        · obtain⟨x,e⟩:=w4.hd0;exact⟨x,by rw [List.getElem?_set_ne (by omega)];exact e⟩
        · obtain⟨x,e⟩:=w4.st j hj;exact⟨x,by rw [List.getElem?_set_ne (by omega)];exact e⟩
        · rw [List.getElem?_set_ne (by omega)];exact w4.sts
        · rw [List.getElem?_set_ne (by omega)];exact w4.ti j hj
        · rw [List.getElem?_set_ne (by omega)];exact w4.tis
        · rw [List.getElem?_set_ne (by omega)];exact hb4
        · rw [List.getElem?_set_self lt5];simp
        · rcases List.mem_append.mp hx with hx|hx
          · exact B.os x hx
          · simp at hx;subst hx;exact ou
        · rcases List.mem_append.mp hx with hx|hx
          · exact B.bl x hx
          · simp at hx;subst hx;exact vlow) ⟨[],[],_,_,_,_,_,rfl,w⟩
  refine⟨a',b',c',d',e',bs,ss,h',?_,?_⟩
  · rw [h1,h2]
  · simpa using h3
def toL (p:Nat × Int):List Int:=[(p.1:Int),p.2]
theorem vj (r:List (Nat × Int)):gH (r.map cH)=some (r.map toL):=by
  induction r with
  | nil=>rfl
  | cons p r ih=>simp [gH,cH,fS,ih,toL]
theorem Cu:∀ {r:List (Nat × Int)},(r.Pairwise fun p q=>p.1 < q.1)→rE (r.map toL)=true
  | [],_=>rfl
  | [_],_=>rfl
  | p :: q :: r,h=>by
    have h1:p.1 < q.1:=(List.pairwise_cons.mp h).1 q (by simp)
    have h2:=Cu (List.pairwise_cons.mp h).2
    have e : ¬ (q.1:Int)=p.1:=by omega
    have e' : ¬ (q.1:Int) < p.1:=by omega
    simp only [List.map_cons] at h2 ⊢
    simp [rE,h2]
    simp [toL,bF,e,e']
theorem zO {n:Nat}:∀ {r:List (Nat × Int)} {m:Nat},(r.Pairwise fun p q=>p.1 < q.1)→(∀ p∈r,m≤p.1∧p.1 < n)→r.length + m≤max n m
  | [],m,_,_=>by simp;omega
  | p :: r,m,h,b=>by
    have hp:=b p (by simp)
    have:=zO (m:=p.1 + 1) (List.pairwise_cons.mp h).2 fun q hq=>⟨(List.pairwise_cons.mp h).1 q hq,(b q (by simp [hq])).2⟩
    simp;omega
theorem zP {n:Nat}(hn:n≤30){r:List (Nat × Int)}(h:r.Pairwise fun p q=>p.1 < q.1)(b:∀ p∈r,p.1 < n):r.length < 64∧rE (r.map toL)=true∧(r.map toL).all (fun x => !x.isEmpty)=true:=by
  have:=zO (m:=0) h fun p hp=>⟨Nat.zero_le _,b p hp⟩
  refine⟨by omega,Cu h,?_⟩
  rw [List.all_map,List.all_eq_true]
  intro p _
  rfl
structure F4 (ns:List Int) (n:Nat) (w:Web) (h:Hd):Prop where
  run:ig [.lit (ns.map .int)] []=.ok (.tup [w.enc,.ref (n + 1),.ref 0]) h
  n1:1≤n
  n30:n≤30
  ok:w.Ok n
  st:∀ x∈w.stays,x=none∨x=some 0∨x=some 1
  hd0:∃ x,h[0]? = some (.lst [.int x])
  hst:∀ i,i < n → ∃ y,h[1 + i]? = some (.lst [.int y])
  sts:h[n + 1]? = some (.lst ((List.range n).map fun i=>.ref (1 + i)))
  sym:∀ f s,S2 (fun i=>w.ties.getD i []) f s n=S2 (fun i=>w.ties.getD i []) s f n
  wt:∀ r∈w.ties,∀ p∈r,1≤p.2∧p.2≤400
  fr:free w.stays≤8
  ris:∀ r∈w.ties,r.Pairwise fun p q=>p.1 < q.1
  bl:∀ x∈w.bars,LOW≤x
theorem vk {R R':Nat→List (Nat × Int)}(f s:Nat→Int):∀ n,(∀ i,i < n→R i=R' i)→S2 R f s n=S2 R' f s n
  | 0,_=>rfl
  | n + 1,h=>by rw [S2,S2,vk f s n fun i hi=>h i (by omega),h n (by omega)]
theorem F5 (ns:List Int):∃ n w h,F4 ns n w h:=by
  obtain⟨v0,c0⟩:=nu ns 0 (by omega) []
  have c0:bx [.lit (ns.map .int),.int 0] []=.ok (.int v0) []:=c0
  have hm:∃ m:Int,0 < m∧m≤30∧atI [D.int 7,.int 7,.int 12,.int 30] (v0 / 2 % 4)=some (.int m):=by
    obtain⟨v,hv,q⟩:=pick D.int [7,7,12,30] (v0 / 2) 4 rfl (by omega)
    simp at hv
    exact⟨v,by omega,by omega,q⟩
  obtain⟨m,m0,m1,em⟩:=hm
  have d1:=bq (h:=[.lst [.int (v0 / 2)]]) (n:=0) (x:=v0 / 2) rfl (show (0:Int) < 4 by omega) (by simp)
  have d2:=bq (h:=[.lst [.int (v0 / 2 / 4)]]) (n:=0) (x:=v0 / 2 / 4) rfl m0 (by simp;omega)
  have b0:=Int.emod_nonneg (v0 / 2 / 4) (show m≠0 by omega)
  have b1:=Int.emod_lt_of_pos (v0 / 2 / 4) m0
  obtain⟨n,hn⟩ : ∃ n:Nat,(n:Int)=1 + v0 / 2 / 4 % m:=⟨(1 + v0 / 2 / 4 % m).toNat,by omega⟩
  obtain⟨x1,hx1⟩ : ∃ x1,x1=v0 / 2 / 4 / m:=⟨_,rfl⟩
  have n1:1≤n:=by omega
  have n30:n≤30:=by omega
  obtain⟨ds,h1,k1,l1,v1,σ1,q1,hh1,g0,g1⟩:=f6 (g:=none) (all:=(List.range n).map fun k:Nat=>D.int k) (tg:=gN 0) (xs:=(List.range n).map fun k:Nat=>D.int k) (k:=0)
    (e:=bA (af (au bx (af (aa 1) (af (ak bH (fC (.int 1)) (aa 0)) ap))) ap)) (σ:=[none,some (.lit (ns.map .int))]) (h:=[.lst [.int x1]])
    (P:=fun i σ h=>(∃ a,σ = [a,some (.lit (ns.map .int))])∧h.length=1 + i∧h[0]? = some (.lst [.int x1]) ∧ ∀ j,j < i → ∃ y,h[1 + j]? = some (.lst [.int y])) (V:=fun i d=>d=.ref (1 + i)) (fun _ _ _ _=>trivial) (by
      rintro i x σ h0 hx ⟨⟨a,rfl⟩,hl,e0,e1⟩
      obtain⟨hi,rfl⟩:=cR hx
      rw [Nat.zero_add] at hl e1 ⊢
      obtain⟨y,ey⟩:=nu ns (1 + i) (by omega) h0
      have ey':bx [.lit (ns.map .int),.int (1 + (i:Int))] h0=.ok (.int y) h0:=by rw [← ey];simp
      refine⟨_,rfl,.ref h0.length,h0++[.lst [.int y]],by simp [SZ,ey'],by rw [hl],⟨_,rfl⟩,by simp [hl];omega,?_,fun j hj => ?_⟩
      · rw [List.getElem?_append_left (by omega)];exact e0
      · by_cases hji:j < i
        · obtain⟨z,ez⟩:=e1 j hji
          exact⟨z,by rw [List.getElem?_append_left (by omega)];exact ez⟩
        · have:j=i:=by omega
          subst this
          exact⟨y,by rw [List.getElem?_append_right (by omega)];simp [hl]⟩) ⟨⟨_,rfl⟩,rfl,rfl,fun j hj=>by omega⟩
  simp at l1 hh1 g1
  have e1:ds=(List.range n).map fun i=>.ref (1 + i):=ia l1 fun i d hd=>by simpa using v1 i d hd
  subst e1
  obtain⟨ds,h2,k2,l2,v2,σ2,q2,hh2,g2,g3⟩:=f6 (g:=none) (all:=(List.range n).map fun k:Nat=>D.int k) (tg:=gN 0) (xs:=(List.range n).map fun k:Nat=>D.int k) (k:=0)
    (e:=bA ap) (σ:=[none]) (h:=h1++[.lst ((List.range n).map fun i=>.ref (1 + i))])
    (P:=fun i σ h=>(∃ a,σ = [a])∧h.length=n + 2 + i∧(∀ j,j < n + 2→h[j]? = (h1++[.lst ((List.range n).map fun i=>.ref (1 + i))])[j]?) ∧ ∀ j,j < i→h[n + 2 + j]? = some (.lst [])) (V:=fun i d=>d=.ref (n + 2 + i)) (fun _ _ _ _=>trivial) (by
      rintro i x σ h0 hx ⟨⟨a,rfl⟩,hl,e0,e1⟩
      obtain⟨hi,rfl⟩:=cR hx
      rw [Nat.zero_add] at hl e1 ⊢
      refine⟨_,rfl,.ref h0.length,h0++[.lst []],by simp [SZ],by rw [hl],⟨_,rfl⟩,by simp [hl];omega,fun j hj => ?_,fun j hj => ?_⟩
      · rw [List.getElem?_append_left (by omega)];exact e0 j hj
      · by_cases hji:j < i
        · rw [List.getElem?_append_left (by omega)];exact e1 j hji
        · have:j=i:=by omega
          subst this
          rw [List.getElem?_append_right (by omega)];simp [hl]) ⟨⟨_,rfl⟩,by simp [hh1];omega,fun j _=>rfl,fun j hj=>by omega⟩
  simp at l2 hh2 g3
  have e2:ds=(List.range n).map fun i=>.ref (n + 2 + i):=ia l2 fun i d hd=>by simpa using v2 i d hd
  subst e2
  have W0:WS n (fun _=>[]) (h2++[.lst ((List.range n).map fun i=>.ref (n + 2 + i))]):=by
    have old:∀ {j:Nat} {c:dm},j < n + 1→h1[j]? = some c→(h2++[.lst ((List.range n).map fun i=>.ref (n + 2 + i))])[j]? = some c:=fun {j c} hj e=>by
      rw [List.getElem?_append_left (by omega),g2 j (by omega),List.getElem?_append_left (by omega)];exact e
    refine⟨⟨x1,old (by omega) g0⟩,fun i hi => ?_,?_,fun i hi => ?_,?_⟩
    · obtain⟨y,ey⟩:=g1 i hi
      exact⟨y,old (by omega) ey⟩
    · rw [List.getElem?_append_left (by omega),g2 (n + 1) (by omega),List.getElem?_append_right (by omega),show n + 1 - h1.length=0 by omega];rfl
    · rw [List.getElem?_append_left (by omega),g3 i hi];rfl
    · rw [List.getElem?_append_right (by omega),show 2 * n + 2 - h2.length=0 by omega];rfl
  have O0:eu n 0 (fun _=>[]):=⟨by simp,by simp,by simp,by simp,fun f s=>by
    have:∀ f s k,S2 (fun _=>[]) f s k=0:=fun f s k=>by induction k with
      | zero=>rfl
      | succ k ih=>simp [S2,ih]
    rw [this,this]⟩
  obtain⟨a,b,c,d,R,h3,k3,W3,O3,L3⟩:=Cs (lit:=.lit (ns.map .int)) n30 W0 O0 (fun _=>rfl) (L:=2 * n + 3) (by simp [hh2];omega)
  have W4:WB n R 0 [] [] (h3++[.lst []]++[.lst []]):=⟨(W3.more _).more _,by
      rw [List.getElem?_append_left (by simp [L3]),List.getElem?_append_right (by omega)];simp [L3],by
      rw [List.getElem?_append_right (by simp [L3])];simp [L3],rfl,rfl,by simp,by simp [free],by simp⟩
  obtain⟨a',b',c',d',e',bs,ss,h5,k5,W5⟩:=D5 (lit:=.lit (ns.map .int)) n30 (O3.le (by omega)) (a:=a) (b:=b) (c:=c) (d:=d) (e:=none) W4
  have comp:bX (some (2 * n + 2)) ((List.range n).map fun i=>.ref (n + 2 + i)) (gN 0) [] (cC (kX (aa 0))) ((List.range n).map fun i=>.ref (n + 2 + i)) [none] h5
      = .ok (((List.range n).map fun i=>(R i)).map kx) h5:=by
    have:=bw (g:=some (2 * n + 2)) (all:=(List.range n).map fun i=>.ref (n + 2 + i)) (tg:=gN 0) (cs:=[]) (e:=cC (kX (aa 0))) (h:=h5) (I:=fun σ=>∃ a,σ = [a]) (fun _=>true)
      (fun d=>match d with | .ref k=>kx (R (k - (n + 2)))|_=>.non) W5.w.tis (xs:=(List.range n).map fun i=>.ref (n + 2 + i)) (σ:=[none]) (by
        rintro x hx σ ⟨a,rfl⟩
        obtain⟨i,hi,rfl⟩:=List.mem_map.mp hx
        have hi:=List.mem_range.mp hi
        refine⟨_,rfl,⟨_,rfl⟩,rfl,fun _ => ?_⟩
        have t:=W5.w.ti i hi
        have so:=zP n30 (O3.ris i) (O3.lt i)
        have so':((R i).map cH).length < 64∧rE ((R i).map toL)=true∧((R i).map toL).all (fun x => !x.isEmpty)=true:=by rw [List.length_map];exact so
        simp only [List.set_cons_zero,cC,kX,b4,ni,aa,slot,List.getElem?_cons_zero,aT,t,vj,if_pos so',kx,Nat.add_sub_cancel_left]) ⟨_,rfl⟩
    rw [this,List.filter_eq_self.mpr (by simp),List.map_map,List.map_map]
    congr 1
    apply List.map_congr_left
    intro i _
    simp
  refine⟨n,⟨(List.range n).map fun i=>(R i),bs,ss⟩,h5,?_⟩
  refine⟨?_,n1,n30,⟨by simp,W5.lb,W5.ls,fun r hr p hp => ?_,by omega⟩,W5.os,W5.w.hd0,W5.w.st,W5.w.sts,fun f s => ?_,fun r hr p hp => ?_,W5.fr,fun r hr => ?_,W5.bl⟩
  · have hn':1 + v0 / 2 / 4 % m=n:=hn.symm
    have z1 : -1000000≤(n:Int):=by omega
    have z2:(n:Int)≤1000000:=by omega
    have z3:n≤1000000:=by omega
    have l3:n + 1=h1.length:=by omega
    have l4:2 * n + 2=h2.length:=by omega
    have l5:2 * n + 3=h3.length:=by omega
    have l6:2 * n + 4=h3.length + 1:=by omega
    have hl1:h1.length=n + 1:=by omega
    have hl2:h2.length=2 * n + 2:=by omega
    simp only [List.append_assoc,List.cons_append,List.nil_append] at k5
    have w9:=W5.hb
    have w10:=W5.hs
    have w11:=W5.w.tis
    simp [ig,bJ,runB,c0,SZ,d1,em,d2,hn',z1,z2,← hx1,k1,z3,hl1,k2,hl2,k3,L3,k5,w11,comp,w9,w10,W5.lb,W5.ls,Web.enc,letGo,pure?,iB]
  · obtain⟨i,hi,rfl⟩:=List.mem_map.mp hr
    exact O3.lt i p hp
  · have:∀ f s,S2 (fun i=>((List.range n).map fun i=>(R i)).getD i []) f s n=S2 R f s n:=fun f s=>vk f s n fun i hi=>by
      simp [List.getD,hi]
    rw [this,this];exact O3.sym f s
  · obtain⟨i,hi,rfl⟩:=List.mem_map.mp hr
    exact O3.wt i p hp
  · obtain⟨i,hi,rfl⟩:=List.mem_map.mp hr
    exact O3.ris i
end Fm
set_option linter.all false
namespace Fm
theorem php:∀ (N t:Nat) (f:Nat→Nat),(∀ i,i≤t→f i < N)→(∀ i j,i < j→j≤t→f i≠f j)→t + 1≤N
  | 0,t,f,h,_=>by have:=h 0 (Nat.zero_le _);omega
  | N + 1,0,f,_,_=>by omega
  | N + 1,t + 1,f,h,d=>by
    have hv:=h (t + 1) (Nat.le_refl _)
    have:=php N t (fun i=>if f i < f (t + 1) then f i else f i - 1) (fun i hi=>by
      have h1:=h i (by omega)
      have h2:=d i (t + 1) (by omega) (Nat.le_refl _)
      split<;>omega) (fun i j hij hj=>by
      have h1:=d i j hij (by omega)
      have h2:=d i (t + 1) (by omega) (Nat.le_refl _)
      have h3:=d j (t + 1) (by omega) (Nat.le_refl _)
      split<;>split<;>omega)
    omega
def j6:List (Option Int)→List Int→Nat
  | none :: ss,x :: xs=>2 * j6 ss xs + x.toNat
  | some _ :: ss,_ :: xs=>j6 ss xs
  | _,_=>0
theorem sK:∀ (ss:List (Option Int)) (xs:List Int),(∀ x∈xs,x=0∨x=1)→j6 ss xs < 2 ^ free ss
  | [],xs,_=>by simp [j6,free]
  | none :: ss,[],_=>by simp only [j6];exact Nat.two_pow_pos _
  | some _ :: ss,[],_=>by simp only [j6];exact Nat.two_pow_pos _
  | none :: ss,x :: xs,h=>by
    have ih:=sK ss xs fun y hy=>h y (by simp [hy])
    have hx:=h x (by simp)
    have:free (none :: ss)=free ss + 1:=by simp [free]
    rw [this,Nat.pow_succ]
    simp only [j6]
    rcases hx with e|e<;>subst e<;>simp<;>omega
  | some v :: ss,x :: xs,h=>by
    have ih:=sK ss xs fun y hy=>h y (by simp [hy])
    have:free (some v :: ss)=free ss:=by simp [free]
    rw [this];simpa [j6] using ih
theorem oj:∀ (ss:List (Option Int)) (xs ys:List Int),xs.length=ss.length→ys.length=ss.length→(∀ x∈xs,x=0∨x=1)→(∀ x∈ys,x=0∨x=1) →
    (∀ (i:Nat) v,ss[i]? = some (some v)→xs[i]? = some v)→(∀ (i:Nat) v,ss[i]? = some (some v)→ys[i]? = some v)→j6 ss xs=j6 ss ys→xs=ys
  | [],[],[],_,_,_,_,_,_,_=>rfl
  | [],x :: xs,_,h,_,_,_,_,_,_=>by simp at h
  | [],_,y :: ys,_,h,_,_,_,_,_=>by simp at h
  | s :: ss,[],_,h,_,_,_,_,_,_=>by simp at h
  | s :: ss,_,[],_,h,_,_,_,_,_=>by simp at h
  | none :: ss,x :: xs,y :: ys,h1,h2,b1,b2,s1,s2,c=>by
    simp only [j6] at c
    have hx:=b1 x (by simp)
    have hy:=b2 y (by simp)
    have e:x=y∧j6 ss xs=j6 ss ys:=by
      rcases hx with e|e<;>rcases hy with e'|e'<;>subst e e'<;>simp at c ⊢<;>omega
    have ih:=oj ss xs ys (by simpa using h1) (by simpa using h2) (fun z hz=>b1 z (by simp [hz])) (fun z hz=>b2 z (by simp [hz])) (fun i v hv=>by simpa using s1 (i + 1) v (by simpa using hv)) (fun i v hv=>by simpa using s2 (i + 1) v (by simpa using hv)) e.2
    rw [e.1,ih]
  | some u :: ss,x :: xs,y :: ys,h1,h2,b1,b2,s1,s2,c=>by
    simp only [j6] at c
    have hx:=s1 0 u rfl
    have hy:=s2 0 u rfl
    have ih:=oj ss xs ys (by simpa using h1) (by simpa using h2) (fun z hz=>b1 z (by simp [hz])) (fun z hz=>b2 z (by simp [hz])) (fun i v hv=>by simpa using s1 (i + 1) v (by simpa using hv)) (fun i v hv=>by simpa using s2 (i + 1) v (by simpa using hv)) c
    simp at hx hy
    rw [hx,hy,ih]
theorem D6 {w:Web}{n:Nat}{s:List Int}(W:w.Ok n)(S:cN w)(F:cZ w n s)(sym:∀ f s,S2 (fun i=>w.ties.getD i []) f s n=S2 (fun i=>w.ties.getD i []) s f n)(fr:free w.stays≤8){t:Nat}(hm:∀ k,k < t→az w n s (k + 2)≠az w n s k):t≤255:=by
  have:=php 256 t (fun i=>j6 w.stays (az w n s i)) (fun i _=>by
    have h1:=sK w.stays (az w n s i) (a4 W S F i).op
    have h2:2 ^ free w.stays≤2 ^ 8:=Nat.pow_le_pow_right (by omega) fr
    omega) (fun i j hij hj e=>by
    have Fi:=a4 W S F i
    have Fj:=a4 W S F j
    have q:=oj w.stays _ _ (by rw [Fi.len,W.s]) (by rw [Fj.len,W.s]) Fi.op Fj.op Fi.st Fj.st e
    have l1:=Ck W S F sym (k:=i) (hm i (by omega))
    have l2:=EJ W S F sym (k:=i + 1) (m:=j) (by omega)
    have l3:eN w n s i=eN w n s j:=by
      unfold eN
      show cY w (az w n s i) (cD w n (az w n s i)) n=cY w (az w n s j) (cD w n (az w n s j)) n
      rw [q]
    omega)
  omega
theorem zQ {w:Web}{n:Nat}{s:List Int}(W:w.Ok n)(S:cN w)(F:cZ w n s)(sym:∀ f s,S2 (fun i=>w.ties.getD i []) f s n=S2 (fun i=>w.ties.getD i []) s f n){t:Nat}(hm:∀ k,k < t→az w n s (k + 2)≠az w n s k):∀ k,k≤t→eN w n s k + k≤eN w n s 0
  | 0,_=>by simp
  | k + 1,h=>by
    have:=zQ W S F sym hm k (by omega)
    have:=Ck W S F sym (k:=k) (hm k (by omega))
    omega
end Fm
set_option linter.all false
namespace Fm
theorem j7:∀ l:List Int,iB (l.map D.int)=true
  | []=>rfl
  | _ :: l=>j7 l
theorem sL {α : Type}(f : α → D)(d : α){l:List α}{i:Nat}(h:i < l.length):atI (l.map f) (i:Int)=some (f (l.getD i d)):=cK (by rw [List.getElem?_map,List.getElem?_eq_getElem h,List.getD_eq_getElem?_getD,List.getElem?_eq_getElem h];rfl)
noncomputable abbrev XT (w:Web) (s:List Int) (A:Nat) (a b c:Option D):Sd:=[some w.enc,some (aj s),some (.ref A),a,b,c]
theorem AC {w:Web}{n:Nat}{s:List Int}(W:w.Ok n)(F:cZ w n s){i:Nat}(hi:i < n){A:Nat}(h:Hd) :
    sIf (tE (ak g9 (fAt (fAt (aa 0) (fC (.int 2))) (aa 3)) (fC .non))) (aK (gN 5) (fAt (fAt (aa 0) (fC (.int 2))) (aa 3))) (sIf (tE (ak oNe (aa 4) (fAt (fAt (aa 0) (fC (.int 1))) (aa 3)))) (aK (gN 5) (iK (ak oGt (aa 4) (fAt (fAt (aa 0) (fC (.int 1))) (aa 3))))) bI) (XT w s A (some (.int i)) (some (.int (2 * cB (w.ties.getD i []) s))) (some (.int (s.getD i 0)))) h
      = .nx (XT w s A (some (.int i)) (some (.int (2 * cB (w.ties.getD i []) s))) (some (.int (el w s i)))) h:=by
  have pb:=sL D.int 0 (show i < w.bars.length from W.b ▸ hi)
  have ps:=sL bm none (show i < w.stays.length from W.s ▸ hi)
  unfold el
  generalize 2 * cB (w.ties.getD i []) s=P
  generalize w.bars.getD i 0=b at pb ⊢
  generalize w.stays.getD i none=st at ps ⊢
  have as:∀ σ:Sd,σ = XT w s A (some (.int i)) (some (.int P)) (some (.int (s.getD i 0)))→fAt (fAt (aa 0) (fC (.int 2))) (aa 3) σ h=.ok (bm st) h:=fun σ e=>by rw [e];exact aY (aY rfl rfl rfl rfl) rfl rfl ps
  have ab:∀ σ:Sd,σ = XT w s A (some (.int i)) (some (.int P)) (some (.int (s.getD i 0)))→fAt (fAt (aa 0) (fC (.int 1))) (aa 3) σ h=.ok (.int b) h:=fun σ e=>by rw [e];exact aY (aY rfl rfl rfl rfl) rfl rfl pb
  cases st with
  | some x=>exact (ky (bg (ay (as _ rfl) rfl rfl))).trans (aZ (as _ rfl))
  | none =>
    refine (d0 (bg (ay (as _ rfl) rfl rfl))).trans ?_
    by_cases e1:P=b
    · exact (d0 (bg (ay rfl (ab _ rfl) (by rw [nU,decide_eq_true e1];rfl)))).trans (by rw [if_pos e1];rfl)
    · refine (ky (bg (ay rfl (ab _ rfl) (by rw [nU,decide_eq_false e1];rfl)))).trans ?_
      rw [if_neg e1]
      by_cases e2:b < P
      · rw [if_pos e2];exact aZ (iZ (ay rfl (ab _ rfl) (sj e2)))
      · rw [if_neg e2];exact aZ (iZ (ay rfl (ab _ rfl) (sk e2)))
theorem zR {w:Web}{n:Nat}{s:List Int}(W:w.Ok n)(S:cN w)(F:cZ w n s)(hn:n≤30)(h:Hd):er [w.enc,aj s] h=.ok (aj (cD w n s)) h:=by
  obtain⟨A,hA⟩ : ∃ A,A=h.length:=⟨_,rfl⟩
  obtain⟨σ',h',h1,h2,x,y,z,h3⟩:=b7 (P:=fun i σ h'=>h'=h++[.lst (((List.range i).map (el w s)).map .int)] ∧ ∃ x y z,σ = XT w s A x y z) (g:=none) (k:=0)
      (all:=(List.range n).map fun k:Nat=>D.int k) (fun _ _ _ _=>trivial)
      (xs:=(List.range n).map fun k:Nat=>D.int k) (tg:=gN 3) (σ:=XT w s A none none none) (h:=h++[.lst []])
      (b:=qJ) (by
      rintro i x σ h0 hx ⟨rfl,a,b,c,rfl⟩
      obtain⟨hi,rfl⟩:=cR hx
      rw [Nat.zero_add]
      have ht:i < w.ties.length:=W.t ▸ hi
      have g2:=eR hA (.lst (((List.range i).map (el w s)).map .int))
      refine⟨_,rfl,XT w s A (some (.int i)) (some (.int (2 * cB (w.ties.getD i []) s))) (some (.int (el w s i))),_,(aE (aZ (ay rfl (xv (ek (i0 (aY (aY rfl rfl rfl rfl) rfl rfl (sL kx [] ht))) (u6 (fun q hq => ?_) _)) (fE _)) (sg (by decide))))).trans ((aE (aZ (aY rfl rfl rfl (zE (F.len ▸ hi))))).trans ((aE (AC W F hi _)).trans ((ib (iY rfl g2 rfl g2 ?_)).trans (congrArg (Out.nx _) (sn hA _ _))))),?_,_,_,_,rfl⟩
      · have e:w.ties.getD i [] = w.ties[i]:=by rw [List.getD_eq_getElem?_getD,List.getElem?_eq_getElem ht];rfl
        rw [e] at hq
        rw [F.len];exact W.lt _ (List.getElem_mem ht) q hq
      · rw [List.length_map,List.length_map,List.length_range];exact Nat.lt_of_lt_of_le hi (G7 hn)
      · rw [List.range_succ,List.map_append,List.map_append];rfl) ⟨rfl,_,_,_,rfl⟩
  have e0:0 + ((List.range n).map fun k:Nat=>D.int k).length=n:=by rw [List.length_map,List.length_range,Nat.zero_add]
  rw [e0] at h2
  rw [h2,h3] at h1
  have hl:(s.map D.int).length=n:=by rw [List.length_map,F.len]
  refine (bZ (σ:=[some w.enc,some (aj s),none,none,none,none]) rfl rfl ((aE (aZ (dG hA (xs:=[]) rfl (Nat.zero_le _)))).trans ((aE (jZ (f7 (gy (dJ rfl rfl)) (by rw [hl];exact G7 hn)) (by rw [hl];exact h1))).trans (bo (jx (dJ rfl (bP (eR hA _)))))))).trans (hZ (j7 _))
end Fm
set_option linter.all false
namespace Fm
def pH (x:Nat × Int):List (Nat × Int)→List (Nat × Int)
  | []=>[x]
  | y :: r=>if bF (toL x) (toL y)=true then x :: y :: r else y :: pH x r
def iE:List (Nat × Int)→List (Nat × Int)
  | []=>[]
  | x :: r=>pH x (iE r)
theorem vm (x:Nat × Int):∀ r,(pH x r).map toL=rX (toL x) (r.map toL)
  | []=>rfl
  | y :: r=>by
    simp only [pH,rX,List.map_cons]
    split
    · rfl
    · simp [vm x r]
theorem qL:∀ r,(iE r).map toL=dy (r.map toL)
  | []=>rfl
  | x :: r=>by simp only [iE,dy,List.map_cons,vm,qL r]
theorem vn {x p:Nat × Int}:∀ {r},p∈pH x r→p=x∨p∈r
  | [],h=>by simpa [pH] using h
  | y :: r,h=>by
    simp only [pH] at h
    split at h
    · simpa using h
    · rcases List.mem_cons.mp h with rfl|h
      · exact .inr (by simp)
      · rcases vn h with h|h
        · exact .inl h
        · exact .inr (by simp [h])
theorem lH {p:Nat × Int}:∀ {r},p∈iE r→p∈r
  | [],h=>h
  | x :: r,h=>by
    rcases vn h with rfl|h
    · simp
    · simp [lH h]
theorem vp (f:Nat × Int→Int)(x:Nat × Int):∀ r,((pH x r).map f).sum=f x + (r.map f).sum
  | []=>by simp [pH]
  | y :: r=>by
    simp only [pH]
    split
    · simp
    · simp [vp f x r];omega
theorem lI (f:Nat × Int→Int):∀ r,((iE r).map f).sum=(r.map f).sum
  | []=>rfl
  | x :: r=>by simp [iE,vp,lI f r]
theorem D7 (r:List (Nat × Int)):r.map cH=(r.map toL).map gw:=by
  rw [List.map_map];rfl
theorem D8 {p q:Nat × Int}(h:toL p=toL q):p.1=q.1:=by
  have:=(List.cons.inj h).1
  omega
theorem vq {r:List (Nat × Int)}(nd:(r.map (·.1)).Nodup)(hl:r.length < 64):dF (r.map cH)=some ((iE r).map cH):=by
  have nd':(r.map toL).Nodup:=by
    rw [List.nodup_iff_pairwise_ne,List.pairwise_map] at nd ⊢
    exact nd.imp fun {a b} h e=>h (D8 e)
  have ne:(r.map toL).all (fun x => !x.isEmpty)=true:=by
    rw [List.all_map,List.all_eq_true];intro p _;rfl
  have hr:gH (r.map cH)=some (r.map toL):=vj r
  have l:(r.map cH).length < 64:=by simpa using hl
  simp only [dF,hr]
  rw [if_pos ⟨l,ne,nd'⟩,← qL,D7]
structure LR (n m:Nat) (R:Nat→List (Nat × Int)):Prop where
  nd:∀ i,((R i).map (·.1)).Nodup
  lt:∀ i p,p∈R i→p.1 < n
  wt:∀ i p,p∈R i→1≤p.2∧p.2≤31
  len:∀ i,(R i).length≤2 * m
  sym:∀ f s,S2 R f s n=S2 R s f n
  loc:m < n → ∀ i p,p∈R i→(p.1 + 1=i∧p.1 < m)∨(p.1=i + 1∧i < m)
theorem om {l:List Nat}{x:Nat}(h:l.Nodup)(hx:x∉l):(l++[x]).Nodup:=by
  rw [List.nodup_append]
  refine⟨h,by simp,fun a ha b hb e => ?_⟩
  simp at hb
  subst hb e
  exact hx ha
theorem LR.put {n m:Nat}(hn:3≤n){R:Nat→List (Nat × Int)}(o:LR n m R)(hm:m < n){v:Int}(h1:1≤v)(h2:v≤31):LR n (m + 1) (dk (dk R m ((m + 1) % n,v)) ((m + 1) % n) (m,v)):=by
  have loc:=o.loc hm
  obtain⟨j,hj⟩ : ∃ j,j=(m + 1) % n:=⟨_,rfl⟩
  rw [← hj]
  have jn:j < n:=by rw [hj];exact Nat.mod_lt _ (by omega)
  have jm:j≠m:=by
    by_cases e:m + 1 < n
    · rw [hj,Nat.mod_eq_of_lt e];omega
    · have:m + 1=n:=by omega
      rw [hj,this,Nat.mod_self];omega
  have j0:j=m + 1∨(m + 1=n∧j=0):=by
    by_cases e:m + 1 < n
    · exact .inl (by rw [hj,Nat.mod_eq_of_lt e])
    · have:m + 1=n:=by omega
      exact .inr ⟨this,by rw [hj,this,Nat.mod_self]⟩
  have f1:j∉(R m).map (·.1):=fun z=>by
    obtain⟨p,hp,e⟩:=List.mem_map.mp z
    rcases loc m p hp with q|q<;>rcases j0 with w|w<;>omega
  have f2:m∉(R j).map (·.1):=fun z=>by
    obtain⟨p,hp,e⟩:=List.mem_map.mp z
    rcases loc j p hp with q|q<;>rcases j0 with w|w<;>omega
  refine⟨fun i => ?_,fun i p hp => ?_,fun i p hp => ?_,fun i => ?_,fun f s => ?_,fun hm1 i p hp => ?_⟩
  · have nd:=o.nd i
    simp only [dk]
    by_cases e1:i=j
    · subst e1
      rw [if_pos rfl,if_neg jm,List.map_append]
      exact om nd f2
    · rw [if_neg e1]
      by_cases e2:i=m
      · subst e2
        rw [if_pos rfl,List.map_append]
        exact om nd f1
      · rw [if_neg e2];exact nd
  · rcases dB hp with hp|rfl
    · rcases dB hp with hp|rfl
      · exact o.lt _ _ hp
      · exact jn
    · exact hm
  · rcases dB hp with hp|rfl
    · rcases dB hp with hp|rfl
      · exact o.wt _ _ hp
      · exact⟨h1,h2⟩
    · exact⟨h1,h2⟩
  · have:=o.len i
    simp only [dk]
    split<;>split<;>simp<;>omega
  · rw [io,io,io,io,o.sym f s]
    simp only [hm,jn,if_true]
    have e1:v * f j * s m=v * s m * f j:=by rw [Int.mul_assoc,Int.mul_assoc,Int.mul_comm (f j)]
    have e2:v * f m * s j=v * s j * f m:=by rw [Int.mul_assoc,Int.mul_assoc,Int.mul_comm (f m)]
    rw [e1,e2];omega
  · have hj1:j=m + 1:=by rcases j0 with w|w<;>omega
    simp only [dk] at hp
    by_cases e1:i=j
    · subst e1
      rw [if_pos rfl,if_neg jm] at hp
      rcases List.mem_append.mp hp with hp|hp
      · rcases loc _ p hp with q|q<;>omega
      · simp at hp;subst hp;simp;omega
    · rw [if_neg e1] at hp
      by_cases e2:i=m
      · subst e2
        rw [if_pos rfl] at hp
        rcases List.mem_append.mp hp with hp|hp
        · rcases loc _ p hp with q|q<;>omega
        · simp at hp;subst hp;simp;omega
      · rw [if_neg e2] at hp
        rcases loc _ p hp with q|q<;>omega
structure WL (A B n:Nat) (R:Nat→List (Nat × Int)) (h:Hd):Prop where
  hd:∃ y,h[B]? = some (.lst [.int y])
  ti:∀ i,i < n→h[A + i]? = some (.lst ((R i).map cH))
  tis:h[A + n]? = some (.lst ((List.range n).map fun i=>.ref (A + i)))
theorem WL.setB {A B n:Nat}{R:Nat→List (Nat × Int)}{h:Hd}(w:WL A B n R h)(hB:B < A)(y:Int):WL A B n R (h.set B (.lst [.int y])) where
  hd:=by obtain⟨x,e⟩:=w.hd;exact⟨y,by rw [List.getElem?_set_self (List.getElem?_eq_some_iff.mp e).1]⟩
  ti:=fun i hi=>by rw [List.getElem?_set_ne (by omega)];exact w.ti i hi
  tis:=by rw [List.getElem?_set_ne (by omega)];exact w.tis
theorem WL.more {A B n:Nat}{R:Nat→List (Nat × Int)}{h:Hd}(w:WL A B n R h)(c:Hd):WL A B n R (h++c):=by
  have k:∀ {i:Nat} {x:dm},h[i]? = some x→(h++c)[i]? = some x:=fun {i x} e=>by
    rw [List.getElem?_append_left (List.getElem?_eq_some_iff.mp e).1];exact e
  exact⟨let ⟨x,e⟩:=w.hd;⟨x,k e⟩,fun i hi=>k (w.ti i hi),k w.tis⟩
theorem WL.app {A B n:Nat}{R:Nat→List (Nat × Int)}{h:Hd}(w:WL A B n R h)(hB:B < A){i:Nat}(hi:i < n)(p:Nat × Int):WL A B n (dk R i p) (h.set (A + i) (.lst ((R i).map cH++[cH p]))) where
  hd:=by obtain⟨x,e⟩:=w.hd;exact⟨x,by rw [List.getElem?_set_ne (by omega)];exact e⟩
  ti:=fun j hj=>by
    by_cases q:i=j
    · subst q
      have:=(List.getElem?_eq_some_iff.mp (w.ti i hj)).1
      rw [List.getElem?_set_self this]
      simp [dk]
    · rw [List.getElem?_set_ne (by omega),w.ti j hj,dk,if_neg (by omega)]
  tis:=by rw [List.getElem?_set_ne (by omega)];exact w.tis
theorem AD {A B n M:Nat}(hB:B < A)(hn:3≤n)(hn30:n≤30)(hM:M≤n){r g:Int}(r0:r=0∨r=1){R:Nat→List (Nat × Int)}{h:Hd}(w:WL A B n R h)(o:LR n 0 R) :
    ∃ a b R' h',iQ none ((List.range M).map fun k:Nat=>D.int k) (gN 5) jz ((List.range M).map fun k:Nat=>D.int k)
      [some (.ref B),some (.int n),some (.int r),some (.int g),some (.ref (A + n)),none,none,none] h
      = .nx [some (.ref B),some (.int n),some (.int r),some (.int g),some (.ref (A + n)),a,b,none] h'∧WL A B n R' h'∧LR n M R'∧h'.length=h.length:=by
  obtain⟨σ',h',h1,R',a',b',h2,h3,h4,h5⟩:=b7 (P:=fun i σ h'=>∃ R a b,σ = [some (.ref B),some (.int n),some (.int r),some (.int g),some (.ref (A + n)),a,b,none]∧WL A B n R h'∧LR n i R∧h'.length=h.length)
    (g:=none) (k:=0) (all:=(List.range M).map fun k:Nat=>D.int k) (fun _ _ _ _=>trivial) (xs:=(List.range M).map fun k:Nat=>D.int k) (tg:=gN 5) (b:=jz)
    (σ:=[some (.ref B),some (.int n),some (.int r),some (.int g),some (.ref (A + n)),none,none,none]) (h:=h) (by
      rintro i x σ h0 hx ⟨R,a,b,rfl,w,o,hl⟩
      obtain⟨hi,rfl⟩:=cR hx
      rw [Nat.zero_add] at o ⊢
      have hin:i < n:=by omega
      obtain⟨v,hv⟩ : ∃ v:Int,v=1 + r * i:=⟨_,rfl⟩
      have v1:1≤v∧v≤31:=by rcases r0 with e|e<;>subst e<;>simp at hv<;>omega
      have sm:sml r=true:=D0 r0
      have o3:=o.put hn hin v1.1 v1.2
      have mi:((i:Int) + 1) % (n:Int)=(((i + 1) % n:Nat):Int):=by norm_cast
      have jn:(i + 1) % n < n:=Nat.mod_lt _ (by omega)
      generalize (i + 1) % n=j at mi jn o3
      have r1:=eU (a:=A) hin
      have r2:=eU (a:=A) jn
      have t1:=w.ti i hin
      have w2:=w.app hB hin (j,v)
      have t2:=w2.ti _ jn
      have w3:=w2.app hB jn (i,v)
      have l1:((R i).map cH).length < 1000000:=by have:=o.len i;simp;omega
      have l2:(((dk R i (j,v)) j).map cH).length < 1000000:=by
        have:=o.len j
        simp only [dk];split<;>simp<;>omega
      have n0:0 < n:=by omega
      refine⟨_,rfl,[some (.ref B),some (.int n),some (.int r),some (.int g),some (.ref (A + n)),some (.int i),some (.int v),none],_,?_,_,_,_,rfl,w3,o3,by simp [hl]⟩
      have s2:=w2.tis
      simp only [cH] at t1 t2 l1 l2 s2
      have s1:aK (gN 6) (ak bH (fC (.int 1)) (ak eV (aa 2) (aa 5))) [some (.ref B),some (.int n),some (.int r),some (.int g),some (.ref (A + n)),some (.int i),b,none] h0=.nx [some (.ref B),some (.int n),some (.int r),some (.int g),some (.ref (A + n)),some (.int i),some (.int v),none] h0:=by
        rw [hv];simp [sm]
      show aB _ _ [some (.ref B),some (.int n),some (.int r),some (.int g),some (.ref (A + n)),some (.int i),b,none] h0=_
      rw [c9 s1]
      simp [-List.length_map,SZ,w.tis,r1,t1,l1,n0,mi,s2,r2,t2,l2,cH]) ⟨R,_,_,rfl,w,o,rfl⟩
  refine⟨a',b',R',h',?_,h3,?_,h5⟩
  · rw [h1,h2]
  · simpa using h4
end Fm
set_option linter.all false
namespace Fm
abbrev NL (l:List Nat):List D:=l.map fun k:Nat=>D.int k
structure Ch (w:Web) (n:Nat) (l:List Nat):Prop where
  up:l.Pairwise (· < ·)
  lt:∀ p∈l,p < n
  no:∀ p∈l,w.stays.getD p none≠some 0
def fB (w:Web) (n:Nat) (l:List Nat):List Int:=(List.range n).map fun i=>if i∈l∨w.stays.getD i none=some 1 then 1 else 0
theorem sM (u:Option Int)(h:Hd):oNe (bm u) (.int 0) h=.ok (.bl (decide (u≠some 0))) h:=by
  cases u with
  | none=>rfl
  | some v =>
    show oNe (.int v) (.int 0) h=_
    rw [nU]
    by_cases e:v=0
    · rw [decide_eq_true e,decide_eq_false (fun z=>z (by rw [e]))];rfl
    · rw [decide_eq_false e,decide_eq_true (show (some v≠some (0:Int)) from fun z=>e (Option.some.inj z))];rfl
theorem vt (u:Option Int)(h:Hd):oEq (bm u) (.int 1) h=.ok (.bl (decide (u=some 1))) h:=by
  cases u with
  | none=>rfl
  | some v =>
    show oEq (.int v) (.int 1) h=_
    rw [qE]
    by_cases e:v=1
    · rw [decide_eq_true e,decide_eq_true (by rw [e])]
    · rw [decide_eq_false e,decide_eq_false (fun z=>e (Option.some.inj z))]
theorem EK {h:Hd}{k:Nat}{l:List Nat}(hk:h[k]? = some (.lst (NL l)))(i:Nat):oIn (.int (i:Nat)) (.ref k) h=.ok (.bl (decide (i∈l))) h:=by
  have f:(NL l).all bK=true:=by
    rw [List.all_eq_true];intro x hx;obtain⟨j,_,rfl⟩:=List.mem_map.mp hx;rfl
  have a:((NL l).any fun z=>eqF z (.int (i:Nat)))=decide (i∈l):=by
    by_cases e:i∈l
    · rw [decide_eq_true e,List.any_eq_true]
      exact⟨.int (i:Nat),List.mem_map.mpr ⟨i,e,rfl⟩,by simp⟩
    · rw [decide_eq_false e,List.any_eq_false]
      intro x hx z
      obtain⟨j,hj,rfl⟩:=List.mem_map.mp hx
      have z:((j:Int) == (i:Int))=true:=z
      have:j=i:=by have:=eq_of_beq z;omega
      exact e (this ▸ hj)
  simp only [oIn,inL,fR,hk,bK,f,Bool.and_self,if_true,a]
section
variable {w:Web} {n:Nat} {l:List Nat}
theorem vv (W:w.Ok n){p:Nat}(hp:p < n):atI (w.stays.map bm) (p:Int)=some (bm (w.stays.getD p none)):=by
  have h:p < w.stays.length:=W.s.symm ▸ hp
  rw [List.getD_eq_getElem?_getD,List.getElem?_eq_getElem h]
  exact cK (by rw [List.getElem?_map,List.getElem?_eq_getElem h];rfl)
theorem AE (W:w.Ok n){p:Nat}(hp:p < n)(h:Hd):eX [w.enc,.int (p:Nat)] h=.ok (.bl true) h:=by
  have m:ca [w.enc] h=.ok (.int n) h:=by rw [i4,W.t]
  have b:cw [.int (p:Nat),.int 0,.int ((n:Int) - 1)] h=.ok (.bl true) h:=by
    have:=i3 (p:Int) 0 ((n:Int) - 1) h
    rw [this,decide_eq_true (show (0:Int)≤p by omega),decide_eq_true (show (p:Int)≤(n:Int) - 1 by omega)];rfl
  exact (bZ rfl rfl (bo (aD (bd rfl (bS rfl (ay (aD (bd rfl rfl) m) rfl rfl))) b))).trans bc
theorem AF (W:w.Ok n){p:Nat}(hp:p < n)(no:w.stays.getD p none≠some 0)(h:Hd):bG [w.enc,.int (p:Nat)] h=.ok (.bl true) h:=by
  have s:cI [w.enc,.int (p:Nat)] h=.ok (bm (w.stays.getD p none)) h:=(bZ rfl rfl (bo (aY (aY rfl rfl rfl rfl) rfl rfl (vv W hp)))).trans bc
  exact (bZ rfl rfl (bo (u4 (jY (bg (aD (bS rfl rfl) (AE W hp h))) (bg (ay (aD (bS rfl rfl) s) rfl (by rw [sM,decide_eq_true no]))))))).trans bc
theorem Cv {α : Type}(l:List α):iP (l.map fun _=>D.bl true)=some (l.map fun _=>true):=by
  induction l with
  | nil=>rfl
  | cons x l ih=>simp [iP,ih]
theorem Ha {α : Type}(l:List α):(l.map fun _=>true).all id=true:=by simp
theorem D9 {a:EF}{σ:Sd}{h:Hd}{m:Nat}(hm:m≤1000)(p:a σ h=.ok (.int ((m:Int) - 1)) h):bM a σ h=.ok ((List.range (m - 1)).map (fun k:Nat=>D.int k),none) h:=by
  show Res.bind _ _=_
  rw [p]
  show (if -1000000≤(m:Int) - 1∧(m:Int) - 1≤1000000 then Res.ok ((List.range ((m:Int) - 1).toNat).map (fun k:Nat=>D.int k),(none:Option Nat)) h else Res.bad)=_
  rw [if_pos ⟨by omega,by omega⟩,show ((m:Int) - 1).toNat=m - 1 by omega]
theorem oo:∀ {m:Nat} {l:List Nat},l.Pairwise (· < ·)→(∀ x∈l,x < m)→l.length≤m
  | m,[],_,_=>Nat.zero_le _
  | 0,x :: l,_,h=>absurd (h x (by simp)) (by omega)
  | m + 1,x :: l,p,h=>by
    have p':=List.pairwise_cons.mp p
    have:=oo (m:=m) (l:=l.map (· - 1)) (by
      rw [List.pairwise_map]
      refine p'.2.imp_of_mem fun {a b} ha hb q => ?_
      have:=p'.1 a ha;have:=p'.1 b hb
      omega) (fun y hy=>by
      obtain⟨z,hz,rfl⟩:=List.mem_map.mp hy
      have:=h z (by simp [hz]);have:=p'.1 z hz
      omega)
    simp at this ⊢;omega
theorem Cw (C:Ch w n l):l.length≤n:=oo C.up C.lt
theorem sN (W:w.Ok n)(n30:n≤30)(C:Ch w n l){h:Hd}{k:Nat}(hk:h[k]? = some (.lst (NL l))):cf [w.enc,.ref k] h=.ok (.bl true) h:=by
  have c1:bX (some k) (NL l) (gN 0) [] (au bG (af (aa 1) (af (aa 0) ap))) (NL l) [none,some w.enc] h=.ok ((NL l).map fun _=>D.bl true) h:=by
    have:=bw (g:=some k) (all:=NL l) (tg:=gN 0) (cs:=[]) (e:=au bG (af (aa 1) (af (aa 0) ap))) (h:=h) (I:=fun σ=>∃ a,σ = [a,some w.enc]) (fun _=>true) (fun _=>.bl true) hk (xs:=NL l) (σ:=[none,some w.enc]) (by
      rintro x hx σ ⟨a,rfl⟩
      obtain⟨i,hi,rfl⟩:=List.mem_map.mp hx
      exact⟨_,rfl,⟨_,rfl⟩,rfl,fun _=>aD (bS rfl rfl) (AF W (C.lt i hi) (C.no i hi) h)⟩) ⟨_,rfl⟩
    rw [this,List.filter_eq_self.mpr (fun _ _=>rfl)]
  have c2:bX none ((List.range (l.length - 1)).map fun k:Nat=>D.int k) (gN 0) [] (ak oLt (fAt (aa 1) (aa 0)) (fAt (aa 1) (ak bH (aa 0) (fC (.int 1))))) ((List.range (l.length - 1)).map fun k:Nat=>D.int k) [none,some (.ref k)] h=.ok (((List.range (l.length - 1)).map fun k:Nat=>D.int k).map fun _=>D.bl true) h:=by
    have:=bw (g:=none) (all:=(List.range (l.length - 1)).map fun k:Nat=>D.int k) (tg:=gN 0) (cs:=[]) (e:=ak oLt (fAt (aa 1) (aa 0)) (fAt (aa 1) (ak bH (aa 0) (fC (.int 1))))) (h:=h) (I:=fun σ=>∃ a,σ = [a,some (.ref k)]) (fun _=>true) (fun _=>.bl true) trivial (xs:=(List.range (l.length - 1)).map fun k:Nat=>D.int k) (σ:=[none,some (.ref k)]) (by
      rintro x hx σ ⟨a,rfl⟩
      obtain⟨i,hi,rfl⟩:=List.mem_map.mp hx
      have hi:=List.mem_range.mp hi
      have h1:i < l.length:=by omega
      have h2:i + 1 < l.length:=by omega
      have a1:atI (NL l) (i:Int)=some (.int (l[i] : Nat)):=cK (by rw [List.getElem?_map,List.getElem?_eq_getElem h1];rfl)
      have a2:atI (NL l) ((i:Int) + 1)=some (.int (l[i + 1] : Nat)):=by
        have:atI (NL l) ((i + 1:Nat):Int)=some (.int (l[i + 1] : Nat)):=cK (by rw [List.getElem?_map,List.getElem?_eq_getElem h2];rfl)
        exact this
      have lt:=List.pairwise_iff_getElem.mp C.up i (i + 1) h1 h2 (Nat.lt_succ_self _)
      exact⟨_,rfl,⟨_,rfl⟩,rfl,fun _=>ay (aY rfl rfl (bP hk) a1) (aY rfl (ay rfl rfl rfl) (bP hk) a2) (FU (by omega))⟩) ⟨_,rfl⟩
    rw [this,List.filter_eq_self.mpr (fun _ _=>rfl)]
  have ll:=Cw C
  have s1:sIf (dZ (tE (cX .list (aa 1)))) (ba (fC (.bl false))) bI [some w.enc,some (.ref k)] h=.nx [some w.enc,some (.ref k)] h:=(d0 (eF (b:=true) (bg (Cd rfl hk)))).trans rfl
  have s2:sIf (dZ (tE (Af (bz 1 [0] (dq (aa 1)) (gN 0) [] (au bG (af (aa 1) (af (aa 0) ap))))))) (ba (fC (.bl false))) bI [some w.enc,some (.ref k)] h=.nx [some w.enc,some (.ref k)] h:=(d0 (eF (b:=true) (bg ((Ce (ek (nn rfl hk) c1) (Cv _)).trans (by rw [Ha]))))).trans rfl
  have lw:ak m5 (ft (lOf (aa 1))) (fC (.int 1)) [some w.enc,some (.ref k)] h=.ok (.int ((l.length:Int) - 1)) h:=ay (x:=.int (l.length:Nat)) ((gy (dJ rfl (bP hk))).trans (by rw [List.length_map])) rfl rfl
  exact (bZ rfl rfl ((aE s1).trans ((aE s2).trans (bo ((Ce (ek (D9 (by omega) lw) c2) (Cv _)).trans (by rw [Ha])))))).trans bc
theorem qM (W:w.Ok n)(S:cN w)(C:Ch w n l):cZ w n (fB w n l):=by
  refine⟨by simp [fB],fun x hx => ?_,fun i x e => ?_⟩
  · obtain⟨i,_,rfl⟩:=List.mem_map.mp hx
    split
    · exact .inr rfl
    · exact .inl rfl
  · have hi:i < n:=by have:=(List.getElem?_eq_some_iff.mp e).1;rwa [W.s] at this
    have g:w.stays.getD i none=some x:=by rw [List.getD_eq_getElem?_getD,e];rfl
    have ox:=S (some x) (List.mem_of_getElem? e)
    show ((List.range n).map _)[i]? = _
    rw [List.getElem?_map,List.getElem?_range hi]
    show some (if i∈l∨w.stays.getD i none=some 1 then (1:Int) else 0)=_
    rcases ox with z|z|z
    · cases z
    · have z:=Option.some.inj z
      subst z
      rw [if_neg]
      rintro (q|q)
      · exact C.no i q g
      · rw [g] at q;cases q
    · have z:=Option.some.inj z
      subst z
      rw [if_pos (.inr g)]
theorem Cy {l:List D}{x:D}(hx:x∈fZ l):∃ (i:Nat) (d:D),l[i]? = some d∧x=.tup [.int (i:Nat),d]:=by
  unfold fZ at hx
  obtain⟨p,hp,rfl⟩:=List.mem_map.mp hx
  obtain⟨k,hk⟩:=List.getElem?_of_mem hp
  rw [List.getElem?_zip_eq_some] at hk
  obtain⟨h1,h2⟩:=hk
  have:p.1=k:=by
    obtain⟨h3,h4⟩:=List.getElem?_eq_some_iff.mp h1
    simpa using h4.symm
  exact⟨k,p.2,h2,by rw [this]⟩
theorem Cz (ss:List (Option Int))(f:Nat→Option Int→D):(fZ (ss.map bm)).map (fun d=>match d with | .tup [.int i,_]=>f i.toNat (ss.getD i.toNat none)|_=>.non)=(List.range ss.length).map fun i=>f i (ss.getD i none):=by
  unfold fZ
  rw [List.map_map]
  apply List.ext_getElem?
  intro i
  by_cases hi:i < ss.length
  · rw [List.getElem?_map,List.getElem?_map,List.getElem?_range hi]
    have:((List.range (ss.map bm).length).zip (ss.map bm))[i]? = some (i,bm ss[i]):=by
      rw [List.getElem?_zip_eq_some]
      exact⟨List.getElem?_range (by simpa using hi),by rw [List.getElem?_map,List.getElem?_eq_getElem hi];rfl⟩
    rw [this];rfl
  · rw [List.getElem?_eq_none (by simp;omega),List.getElem?_eq_none (by simp;omega)]
theorem vw (W:w.Ok n)(n30:n≤30)(C:Ch w n l){h:Hd}{k:Nat}(hk:h[k]? = some (.lst (NL l))):eS [w.enc,.ref k] h=.ok (aj (fB w n l)) h:=by
  obtain⟨A,hA⟩ : ∃ A,A=h.length:=⟨_,rfl⟩
  have so:dL [w.enc] h=.ok (.ref A) (h++[.lst (w.stays.map bm)]):=(bZ rfl rfl (bo (dG hA (dJ (aY rfl rfl rfl rfl) rfl) (by rw [List.length_map,W.s];exact Nat.le_trans n30 (by decide))))).trans nS
  obtain⟨h1,hh1⟩ : ∃ h1:Hd,h1=h++[.lst (w.stays.map bm)]:=⟨_,rfl⟩
  rw [← hh1] at so
  have g1:h1[A]? = some (.lst (w.stays.map bm)):=by rw [hh1];exact eR hA _
  have hk1:h1[k]? = some (.lst (NL l)):=by rw [hh1];exact dv _ hk
  have c:=nR (G:=fun h'=>h'[A]? = some (.lst (w.stays.map bm))) (tg:=gT [0,1]) (cs:=[]) (e:=fIf (tOr (tE (ak oIn (aa 0) (aa 2))) (tE (ak oEq (aa 1) (fC (.int 1))))) (fC (.int 1)) (fC (.int 0))) (h:=h1) (I:=fun σ=>∃ a b,σ = [a,b,some (.ref k)]) (fun _=>true)
    (fun d=>match d with | .tup [.int i,_]=>(fun i u=>D.int (if i∈l∨u=some 1 then 1 else 0)) i.toNat (w.stays.getD i.toNat none)|_=>.non) g1 (xs:=fZ (w.stays.map bm)) (σ:=[none,none,some (.ref k)]) (by
      rintro x hx σ ⟨a,b,rfl⟩
      obtain⟨i,d,hd,rfl⟩:=Cy hx
      have hil:i < w.stays.length:=by have:=(List.getElem?_eq_some_iff.mp hd).1;rwa [List.length_map] at this
      have hd':d=bm (w.stays.getD i none):=by
        rw [List.getElem?_map,List.getElem?_eq_getElem hil] at hd
        rw [List.getD_eq_getElem?_getD,List.getElem?_eq_getElem hil];exact (Option.some.inj hd).symm
      subst hd'
      refine⟨_,rfl,⟨_,_,rfl⟩,rfl,fun _ => ?_⟩
      show fIf (tOr (tE (ak oIn (aa 0) (aa 2))) (tE (ak oEq (aa 1) (fC (.int 1))))) (fC (.int 1)) (fC (.int 0)) [some (.int i),some (bm (w.stays.getD i none)),some (.ref k)] h1=.ok (.int (if ((i:Int)).toNat∈l∨w.stays.getD ((i:Int)).toNat none=some 1 then 1 else 0)) h1
      rw [Int.toNat_natCast]
      have t1:tE (ak oIn (aa 0) (aa 2)) [some (.int i),some (bm (w.stays.getD i none)),some (.ref k)] h1=.ok (decide (i∈l)) h1:=bg (ay rfl rfl (EK hk1 i))
      have t2:tE (ak oEq (aa 1) (fC (.int 1))) [some (.int i),some (bm (w.stays.getD i none)),some (.ref k)] h1=.ok (decide (w.stays.getD i none=some 1)) h1:=bg (ay rfl rfl (vt _ _))
      by_cases c1:i∈l
      · rw [decide_eq_true c1] at t1
        rw [if_pos (.inl c1)]
        exact (sr (Cc t1)).trans rfl
      · rw [decide_eq_false c1] at t1
        by_cases c2:w.stays.getD i none=some 1
        · rw [decide_eq_true c2] at t2
          rw [if_pos (.inr c2)]
          exact (sr (iD t1 t2)).trans rfl
        · rw [decide_eq_false c2] at t2
          rw [if_neg (fun z=>z.elim c1 c2)]
          exact (xw (iD t1 t2)).trans rfl) ⟨_,_,rfl⟩
  rw [List.filter_eq_self.mpr (fun _ _=>rfl),Cz w.stays (fun i u=>D.int (if i∈l∨u=some 1 then 1 else 0)),W.s] at c
  have e1:nQ 2 [1] (au dL (af (aa 0) ap)) (gT [0,1]) [] (fIf (tOr (tE (ak oIn (aa 0) (aa 2))) (tE (ak oEq (aa 1) (fC (.int 1))))) (fC (.int 1)) (fC (.int 0))) [some w.enc,some (.ref k)] h=.ok ((fB w n l).map .int) h1:=by
    have f:=aD (F:=dL) (r:=af (aa 0) ap) (σ:=[some w.enc,some (.ref k)]) (bd rfl rfl) so
    unfold nQ
    rw [f]
    simp only [g1]
    refine c.trans ?_
    unfold fB
    rw [List.map_map];rfl
  have s1:sIf (dZ (tE (au cf (af (aa 0) (af (aa 1) ap))))) DH bI [some w.enc,some (.ref k)] h=.nx [some w.enc,some (.ref k)] h:=(d0 (eF (b:=true) (bg (aD (bS rfl rfl) (sN W n30 C hk))))).trans rfl
  refine (bZ rfl rfl ((aE s1).trans (bo (jx e1)))).trans ?_
  rw [hh1]
  exact hZ (by simp only [pure?];exact j7 _)
end
end Fm
set_option linter.all false
namespace Fm
theorem oq {l:List D}{k:Nat}(hk:1≤k):cut l (some (-(k:Int))) none=l.drop (l.length - k):=by
  have e:sIx l.length 0 (some (-(k:Int)))=l.length - k:=by
    show (if -(k:Int) < 0 then (-(k:Int) + (l.length:Nat)).toNat else _)=_
    rw [if_pos (by omega)];omega
  unfold cut
  rw [e]
  exact List.take_of_length_le (by rw [List.length_drop];exact Nat.le_refl _)
theorem AG {l:List D}{k:Nat}(hk:1≤k):cut l none (some (-(k:Int)))=l.take (l.length - k):=by
  have e:sIx l.length l.length (some (-(k:Int)))=l.length - k:=by
    show (if -(k:Int) < 0 then (-(k:Int) + (l.length:Nat)).toNat else _)=_
    rw [if_pos (by omega)];omega
  unfold cut
  rw [e];rfl
theorem CA {l:List D}{k:Nat}(hk:k≤l.length):cut l none (some (k:Int))=l.take k:=by
  have e:sIx l.length l.length (some (k:Int))=k:=by
    show (if (k:Int) < 0 then ((k:Int) + (l.length:Nat)).toNat else min ((k:Int)).toNat l.length)=_
    rw [if_neg (by omega),Int.toNat_natCast,Nat.min_eq_left hk]
  unfold cut
  rw [e];rfl
theorem gQ {a:EF}{lo hi:OF}{σ:Sd}{h h1 h2 h3:Hd}{n:Nat}{i j:Option Int}{l:List D}(p:a σ h=.ok (.ref n) h1)(q:lo σ h1=.ok i h2)(r:hi σ h2=.ok j h3)(s:h3[n]? = some (.lst l)):cW a lo hi σ h=.ok (.ref h3.length) (h3++[.lst (cut l i j)]):=by
  simp only [cW,p,aT,q,r,b4,s]
section
variable {w:Web} {n:Nat} {s:List Int}
theorem ip (t j:Nat):(aA w n s (t + j)).drop t=(List.range j).map fun i=>az w n s (t + i):=by
  unfold aA
  apply List.ext_getElem?
  intro i
  rw [List.getElem?_drop,List.getElem?_map,List.getElem?_map]
  by_cases hi:i < j
  · rw [List.getElem?_range (by omega),List.getElem?_range hi];rfl
  · rw [List.getElem?_eq_none (by simp;omega),List.getElem?_eq_none (by simp;omega)];rfl
theorem ot (t j:Nat):(aA w n s (t + j)).take t=aA w n s t:=by
  unfold aA
  rw [← List.map_take,List.take_range,Nat.min_eq_left (Nat.le_add_right t j)]
def NOT:D:=.str [110,111,116]
def TRN:D:=.str [116,117,114,110]
noncomputable def ow (w:Web) (n:Nat) (s:List Int) (t:Nat):D:=if az w n s (t + 1)=az w n s t then (if (0:Int)∈az w n s (t + 1) then NOT else TRN) else NOT
noncomputable def vx (w:Web) (n:Nat) (s:List Int) (t:Nat):List (List Int):=if az w n s (t + 1)=az w n s t then (if (0:Int)∈az w n s (t + 1) then [az w n s (t + 1)] else aA w n s (t + 1)) else [az w n s t,az w n s (t + 1)]
noncomputable def xS (w:Web) (n:Nat) (s:List Int) (t:Nat):List (List Int):=if az w n s (t + 1)=az w n s t then (if (0:Int)∈az w n s (t + 1) then [az w n s (t + 1)] else aA w n s (t + 1)) else [az w n s (t + 1),az w n s t]
theorem zS (l:List Int)(x:Int)(h:Hd):inL h (.int x) (aj l)=some (decide (x∈l)):=by
  have f:(l.map D.int).all bK=true:=by
    rw [List.all_eq_true];intro x hx;obtain⟨j,_,rfl⟩:=List.mem_map.mp hx;rfl
  have a:((l.map D.int).any fun z=>eqF z (.int x))=decide (x∈l):=by
    by_cases e:x∈l
    · rw [decide_eq_true e,List.any_eq_true]
      exact⟨.int x,List.mem_map.mpr ⟨x,e,rfl⟩,by simp⟩
    · rw [decide_eq_false e,List.any_eq_false]
      intro y hy z
      obtain⟨j,hj,rfl⟩:=List.mem_map.mp hy
      have z:(j == x)=true:=z
      exact e (eq_of_beq z ▸ hj)
  simp only [inL,aj,fR,bK,f,Bool.and_self,if_true,a]
theorem F6 (l:List Int)(x:Int)(h:Hd):oIn (.int x) (aj l) h=.ok (.bl (decide (x∈l))) h:=by
  unfold oIn;rw [zS]
theorem AH (l:List Int)(x:Int)(h:Hd):iO (.int x) (aj l) h=.ok (.bl (!decide (x∈l))) h:=by
  unfold iO;rw [zS]
theorem sO {l:List Nat}(W:w.Ok n)(n30:n≤30)(S:cN w)(C:Ch w n l){h:Hd}{k A:Nat}(hk:h[k]? = some (.lst (NL l)))(hA:A=h.length){t:Nat}(ht:az w n (fB w n l) (t + 2)=az w n (fB w n l) t)(hm:∀ k,k < t→az w n (fB w n l) (k + 2)≠az w n (fB w n l) k)(hz:t≤900000) :
    cy [w.enc,.ref k] h=.ok (.tup [ow w n (fB w n l) t,.ref (A + 1)]) (h++[.lst ((aA w n (fB w n l) (t + 2)).map aj),.lst ((vx w n (fB w n l) t).map aj)]):=by
  have F:=qM W S C
  obtain⟨s,hs⟩ : ∃ s,s=fB w n l:=⟨_,rfl⟩
  have be:=vw W n30 C hk
  rw [← hs] at ht hm F be ⊢
  have en:=Cl W S F ht hm hz h
  rw [← hA] at en
  obtain⟨wd,hw⟩ : ∃ wd,wd=if az w n s (t + 1)=az w n s t then [114,101,115,116] else [112,97,105,114]:=⟨_,rfl⟩
  rw [← hw] at en
  obtain⟨h1,hh1⟩ : ∃ h1,h1=h++[dm.lst ((aA w n s (t + 2)).map aj)]:=⟨_,rfl⟩
  rw [← hh1] at en
  have g1:h1[A]? = some (.lst ((aA w n s (t + 2)).map aj)):=by rw [hh1];exact eR hA _
  have l1:h1.length=A + 1:=by rw [hh1,List.length_append,hA];rfl
  have ln:((aA w n s (t + 2)).map aj).length=t + 2:=by rw [List.length_map,de]
  have X:=[some w.enc,some (.ref k),some (D.tup [.int t,.str wd,.ref A]),some (.str wd),some (.ref A)]
  have s1:aK (gN 2) (au ie (af (aa 0) (af (au eS (af (aa 0) (af (aa 1) ap))) ap))) [some w.enc,some (.ref k),none,none,none] h=.nx [some w.enc,some (.ref k),some (D.tup [.int t,.str wd,.ref A]),none,none] h1:=aZ (aD (bS rfl (aD (bS rfl rfl) be)) en)
  have s2:aK (gN 3) (fAt (aa 2) (fC (.int 1))) [some w.enc,some (.ref k),some (D.tup [.int t,.str wd,.ref A]),none,none] h1=.nx [some w.enc,some (.ref k),some (D.tup [.int t,.str wd,.ref A]),some (.str wd),none] h1:=aZ (aY rfl rfl rfl rfl)
  have s3:aK (gN 4) (fAt (aa 2) (fC (.int 2))) [some w.enc,some (.ref k),some (D.tup [.int t,.str wd,.ref A]),some (.str wd),none] h1=.nx [some w.enc,some (.ref k),some (D.tup [.int t,.str wd,.ref A]),some (.str wd),some (.ref A)] h1:=aZ (aY rfl rfl rfl rfl)
  have b1:atI ((aA w n s (t + 2)).map aj) (-1)=some (aj (az w n s (t + 1))):=dz (t + 1) 1 (by decide)
  have fin:∀ (d:D) (L:List D),(h1++[dm.lst L])=h++[.lst ((aA w n s (t + 2)).map aj),.lst L]:=fun d L=>by rw [hh1,List.append_assoc];rfl
  have go:∀ {d:D} {g:Hd},letGo h (.ok (.tup [d,.ref (A + 1)]) g)=.ok (.tup [d,.ref (A + 1)]) g:=fun {d g}=>lq (by simp [pure?,iB])
  have sl:∀ {j:Nat} (hj:1≤j) (σ:Sd) (e:aa 4 σ h1=.ok (.ref A) h1),cW (aa 4) (pAt (fC (.int (-(j:Int))))) pNo σ h1=.ok (.ref (A + 1)) (h1++[.lst (((aA w n s (t + 2)).map aj).drop (t + 2 - j))]):=fun {j} hj σ e=>by
    have:=gQ (a:=aa 4) (lo:=pAt (fC (.int (-(j:Int))))) (hi:=pNo) (σ := σ) e rfl rfl g1
    rw [oq hj,ln,l1] at this;exact this
  by_cases q:az w n s (t + 1)=az w n s t
  · rw [if_pos q] at hw
    have s4:sIf (tE (ak oEq (aa 3) (fC (.str [112,97,105,114])))) (ba (fQ (af (fC (.str [110,111,116])) (af (cW (aa 4) (pAt (fC (.int (-2)))) pNo) ap)))) bI [some w.enc,some (.ref k),some (D.tup [.int t,.str wd,.ref A]),some (.str wd),some (.ref A)] h1=.nx [some w.enc,some (.ref k),some (D.tup [.int t,.str wd,.ref A]),some (.str wd),some (.ref A)] h1:=by
      rw [hw];exact (d0 (bg (ay rfl rfl rfl))).trans rfl
    have t5:tE (ak oIn (fC (.int 0)) (fAt (aa 4) (fC (.int (-1))))) [some w.enc,some (.ref k),some (D.tup [.int t,.str wd,.ref A]),some (.str wd),some (.ref A)] h1=.ok (decide ((0:Int)∈az w n s (t + 1))) h1:=bg (ay rfl (aY rfl rfl (bP g1) b1) (F6 _ _ _))
    by_cases z:(0:Int)∈az w n s (t + 1)
    · rw [decide_eq_true z] at t5
      have r:=sl (j:=1) (Nat.le_refl _) [some w.enc,some (.ref k),some (D.tup [.int t,.str wd,.ref A]),some (.str wd),some (.ref A)] rfl
      rw [show t + 2 - 1=t + 1 from rfl,← List.map_drop,show t + 2=(t + 1) + 1 from rfl,ip] at r
      unfold ow vx
      rw [if_pos q,if_pos z,if_pos q,if_pos z]
      refine (bZ rfl rfl ((aE s1).trans ((aE s2).trans ((aE s3).trans ((aE s4).trans (nT ((ky t5).trans (bo (jX (bS rfl r)))))))))).trans (go.trans ?_)
      rw [fin .non];rfl
    · rw [decide_eq_false z] at t5
      have r:=gQ (a:=aa 4) (lo:=pNo) (hi:=pAt (fC (.int (-((1:Nat):Int))))) (σ:=[some w.enc,some (.ref k),some (D.tup [.int t,.str wd,.ref A]),some (.str wd),some (.ref A)]) (h:=h1) rfl rfl rfl g1
      rw [AG (Nat.le_refl 1),ln,l1,← List.map_take,show t + 2 - 1=t + 1 from rfl,show t + 2=(t + 1) + 1 from rfl,ot] at r
      unfold ow vx
      rw [if_pos q,if_neg z,if_pos q,if_neg z]
      refine (bZ rfl rfl ((aE s1).trans ((aE s2).trans ((aE s3).trans ((aE s4).trans ((aE ((d0 t5).trans rfl)).trans (bo (jX (bS rfl r))))))))).trans (go.trans ?_)
      rw [fin .non];rfl
  · rw [if_neg q] at hw
    have t4:tE (ak oEq (aa 3) (fC (.str [112,97,105,114]))) [some w.enc,some (.ref k),some (D.tup [.int t,.str wd,.ref A]),some (.str wd),some (.ref A)] h1=.ok true h1:=by
      rw [hw];exact bg (ay rfl rfl rfl)
    have r:=sl (j:=2) (by decide) [some w.enc,some (.ref k),some (D.tup [.int t,.str wd,.ref A]),some (.str wd),some (.ref A)] rfl
    rw [show t + 2 - 2=t from rfl,← List.map_drop,ip] at r
    unfold ow vx
    rw [if_neg q,if_neg q]
    refine (bZ rfl rfl ((aE s1).trans ((aE s2).trans ((aE s3).trans (nT ((ky t4).trans (bo (jX (bS rfl r))))))))).trans (go.trans ?_)
    rw [fin .non];rfl
theorem gR:∀ L:List (List Int),gH (L.map aj)=some L
  | []=>rfl
  | x :: L=>by
    show (match fS (x.map D.int),gH (L.map aj) with|some a,some b=>some (a :: b)|_,_=>none)=_
    rw [fE,gR L]
theorem Ea {x e:EF}{σ:Sd}{h h1 h2:Hd}{m:Nat}{r:List Int}{L L0:List (List Int)}(p:x σ h=.ok (.ref m) h1)(q:h1[m]? = some (.lst (L0.map aj)))(u:e σ h1=.ok (aj r) h2)(v:h2[m]? = some (.lst (L.map aj)))(c:r∈L∧L.length≤1000000 ∧ ∀ y∈L,y.length=r.length):jE x e σ h=.ok (.int (L.idxOf r:Nat)) h2:=by
  have o:gH [aj r] = some [r]:=gR [r]
  unfold jE;rw [p,aT];simp only [q,u,aT,v,gR,o,if_pos c]
theorem qN:∀ {L:List (List Int)} {r:List Int} {t:Nat},L[t]? = some r→(∀ i,i < t→L[i]? ≠some r)→L.idxOf r=t
  | [],_,_,e,_=>by simp at e
  | x :: L,r,0,e,_=>by
    have e:x=r:=by simpa using e
    rw [e,List.idxOf_cons_self]
  | x :: L,r,t + 1,e,m=>by
    have x0:x≠r:=fun z=>m 0 (Nat.succ_pos t) (by rw [z];rfl)
    rw [List.idxOf_cons,beq_eq_false_iff_ne.mpr x0,cond_false,qN (t:=t) (by simpa using e) fun i hi z=>m (i + 1) (Nat.succ_lt_succ hi) (by simpa using z)]
theorem vy (a b:Nat)(e:az w n s a=az w n s b):∀ k,az w n s (a + k)=az w n s (b + k)
  | 0=>e
  | k + 1=>by
    show cD w n (az w n s (a + k))=cD w n (az w n s (b + k))
    rw [vy a b e k]
theorem F7 (W:w.Ok n)(S:cN w)(n30:n≤30)(F:cZ w n s){t:Nat}(ht:az w n s (t + 2)=az w n s t)(hm:∀ k,k < t→az w n s (k + 2)≠az w n s k)(hz:t≤900000){h:Hd}{A:Nat}(hA:A=h.length) :
    ii [w.enc,aj s] h=.ok (.tup [ow w n s t,.ref (A + 1)]) (h++[.lst ((aA w n s (t + 3)).map aj),.lst ((xS w n s t).map aj)]):=by
  have L:∀ k,(az w n s k).length=n:=fun k=>(a4 W S F k).len
  have gt:∀ j,(h++[dm.lst ((aA w n s j).map aj)])[A]? = some (.lst ((aA w n s j).map aj)):=fun j=>eR hA _
  have step:∀ k,k≤900002→eC (eD (aa 2) (au er (af (aa 0) (af (fAt (aa 2) (fC (.int (-1)))) ap)))) [some w.enc,some (aj s),some (.ref A)] (h++[.lst ((aA w n s (k + 1)).map aj)])=.nx [some w.enc,some (aj s),some (.ref A)] (h++[.lst ((aA w n s (k + 2)).map aj)]):=by
    intro k hk
    have b1:atI ((aA w n s (k + 1)).map aj) (-1)=some (aj (az w n s k)):=dz k 1 (by decide)
    have tk:=zR W S (a4 W S F k) n30 (h++[.lst ((aA w n s (k + 1)).map aj)])
    have lz:((aA w n s (k + 1)).map aj).length < SZ:=by rw [List.length_map,de];exact Nat.lt_of_le_of_lt (Nat.add_le_add_right hk 1) (by decide)
    refine (ib (iY rfl (gt _) (aD (bS rfl (aY rfl rfl (bP (gt _)) b1)) tk) (gt _) lz)).trans ?_
    rw [sn hA,show aA w n s (k + 2)=aA w n s (k + 1)++[az w n s (k + 1)] from nY (k + 1),List.map_append];rfl
  have tst:∀ k,tE (ak oNe (fAt (aa 2) (fC (.int (-1)))) (fAt (aa 2) (fC (.int (-3))))) [some w.enc,some (aj s),some (.ref A)] (h++[.lst ((aA w n s (k + 3)).map aj)])=.ok (!decide (az w n s (k + 2)=az w n s k)) (h++[.lst ((aA w n s (k + 3)).map aj)]):=by
    intro k
    have b1:atI ((aA w n s (k + 3)).map aj) (-1)=some (aj (az w n s (k + 2))):=dz (k + 2) 1 (by decide)
    have b3:atI ((aA w n s (k + 3)).map aj) (-3)=some (aj (az w n s k)):=dz k 3 (by decide)
    exact bg (ay (aY rfl rfl (bP (gt _)) b1) (aY rfl rfl (bP (gt _)) b3) (nr ((L _).trans (L _).symm) _))
  have loop:∀ j k,k + j=t→cL (tE (ak oNe (fAt (aa 2) (fC (.int (-1)))) (fAt (aa 2) (fC (.int (-3)))))) nZ (j + 1) [some w.enc,some (aj s),some (.ref A)] (h++[.lst ((aA w n s (k + 3)).map aj)])
      = .nx [some w.enc,some (aj s),some (.ref A)] (h++[.lst ((aA w n s (t + 3)).map aj)]):=by
    intro j
    induction j with
    | zero =>
      intro k hk
      have:k=t:=hk
      subst this
      have test:=tst k
      rw [decide_eq_true ht,Bool.not_true] at test
      simp only [cL,test]
    | succ j ih =>
      intro k hk
      have test:=tst k
      rw [decide_eq_false (hm k (by omega)),Bool.not_false] at test
      have body:nZ [some w.enc,some (aj s),some (.ref A)] (h++[.lst ((aA w n s (k + 3)).map aj)])=.nx [some w.enc,some (aj s),some (.ref A)] (h++[.lst ((aA w n s (k + 4)).map aj)]):=step (k + 2) (by omega)
      rw [cL,test]
      simp only [body]
      exact ih (k + 1) (by omega)
  have wl:=qD (loop t 0 (Nat.zero_add t)) (by simp)
  have e1 : [aj s,aj (cD w n s)] = (aA w n s 2).map aj:=by simp [aA,List.range_succ,az]
  have s1:aK (gN 2) (bA (af (aa 1) (af (au er (af (aa 0) (af (aa 1) ap))) ap))) [some w.enc,some (aj s),none] h=.nx [some w.enc,some (aj s),some (.ref A)] (h++[.lst ((aA w n s 2).map aj)]):=by
    rw [← e1];exact aZ (dG hA (bS rfl (aD (bS rfl rfl) (zR W S F n30 h))) (of_decide_eq_true rfl))
  have s2:=step 1 (by decide)
  obtain⟨h1,hh1⟩ : ∃ h1,h1=h++[dm.lst ((aA w n s (t + 3)).map aj)]:=⟨_,rfl⟩
  have g1:h1[A]? = some (.lst ((aA w n s (t + 3)).map aj)):=by rw [hh1];exact eR hA _
  have l1:h1.length=A + 1:=by rw [hh1,List.length_append,hA];rfl
  have ln:((aA w n s (t + 3)).map aj).length=t + 3:=by rw [List.length_map,de]
  rw [← hh1] at wl
  have b1:atI ((aA w n s (t + 3)).map aj) (-1)=some (aj (az w n s (t + 2))):=dz (t + 2) 1 (by decide)
  have b2:atI ((aA w n s (t + 3)).map aj) (-2)=some (aj (az w n s (t + 1))):=dz (t + 1) 2 (by decide)
  have a1:fAt (aa 2) (fC (.int (-1))) [some w.enc,some (aj s),some (.ref A)] h1=.ok (aj (az w n s (t + 2))) h1:=aY rfl rfl (bP g1) b1
  have a2:fAt (aa 2) (fC (.int (-2))) [some w.enc,some (aj s),some (.ref A)] h1=.ok (aj (az w n s (t + 1))) h1:=aY rfl rfl (bP g1) b2
  have t4:ak oEq (fAt (aa 2) (fC (.int (-1)))) (fAt (aa 2) (fC (.int (-2)))) [some w.enc,some (aj s),some (.ref A)] h1=.ok (.bl (decide (az w n s (t + 2)=az w n s (t + 1)))) h1:=ay a1 a2 (zL ((L _).trans (L _).symm) _)
  have t5:tE (ak iO (fC (.int 0)) (fAt (aa 2) (fC (.int (-1))))) [some w.enc,some (aj s),some (.ref A)] h1=.ok (!decide ((0:Int)∈az w n s (t + 2))) h1:=bg (ay rfl a1 (AH _ _ _))
  have fin:∀ (X:List D),(h1++[dm.lst X])=h++[.lst ((aA w n s (t + 3)).map aj),.lst X]:=fun X=>by rw [hh1,List.append_assoc];rfl
  have go:∀ {d:D} {g:Hd},letGo h (.ok (.tup [d,.ref (A + 1)]) g)=.ok (.tup [d,.ref (A + 1)]) g:=fun {d g}=>lq (by simp [pure?,iB])
  have sl:∀ {j:Nat} (hj:1≤j) (b:Bool) (hb:(-2:Int) + b2i b = -(j:Int)) (e:ak oEq (fAt (aa 2) (fC (.int (-1)))) (fAt (aa 2) (fC (.int (-2)))) [some w.enc,some (aj s),some (.ref A)] h1=.ok (.bl b) h1),cW (aa 2) (pAt (ak bH (fC (.int (-2))) (iK (ak oEq (fAt (aa 2) (fC (.int (-1)))) (fAt (aa 2) (fC (.int (-2)))))))) pNo [some w.enc,some (aj s),some (.ref A)] h1=.ok (.ref (A + 1)) (h1++[.lst (((aA w n s (t + 3)).map aj).drop (t + 3 - j))]):=fun {j} hj b hb e=>by
    have ad:ak bH (fC (.int (-2))) (iK (ak oEq (fAt (aa 2) (fC (.int (-1)))) (fAt (aa 2) (fC (.int (-2)))))) [some w.enc,some (aj s),some (.ref A)] h1=.ok (.int (-(j:Int))) h1:=ay rfl (iZ e) (by rw [← hb];rfl)
    have pa:pAt (ak bH (fC (.int (-2))) (iK (ak oEq (fAt (aa 2) (fC (.int (-1)))) (fAt (aa 2) (fC (.int (-2))))))) [some w.enc,some (aj s),some (.ref A)] h1=.ok (some (-(j:Int))) h1:=by unfold pAt;rw [ad];rfl
    have:=gQ (a:=aa 2) (σ:=[some w.enc,some (aj s),some (.ref A)]) (hi:=pNo) rfl pa rfl g1
    rw [oq hj,ln,l1] at this;exact this
  by_cases q:az w n s (t + 1)=az w n s t
  · have q2:az w n s (t + 2)=az w n s (t + 1):=by rw [ht,q]
    rw [decide_eq_true q2] at t4
    by_cases z:(0:Int)∈az w n s (t + 1)
    · rw [q2,decide_eq_true z] at t5
      have s4:sIf (iJ (tE (ak oEq (fAt (aa 2) (fC (.int (-1)))) (fAt (aa 2) (fC (.int (-2)))))) (tE (ak iO (fC (.int 0)) (fAt (aa 2) (fC (.int (-1))))))) (ba (fQ (af (fC (.str [116,117,114,110])) (af (cW (aa 2) pNo (pAt (ak bH (jE (aa 2) (fAt (aa 2) (fC (.int (-1))))) (fC (.int 1))))) ap)))) bI [some w.enc,some (aj s),some (.ref A)] h1=.nx [some w.enc,some (aj s),some (.ref A)] h1:=(d0 (jY (bg t4) t5)).trans rfl
      have r:=sl (j:=1) (Nat.le_refl _) true rfl t4
      rw [show t + 3 - 1=t + 2 from rfl,← List.map_drop,show t + 3=(t + 2) + 1 from rfl,ip] at r
      unfold ow xS
      rw [if_pos q,if_pos z,if_pos q,if_pos z]
      refine (bZ rfl rfl ((aE s1).trans ((aE s2).trans ((aE wl).trans ((aE s4).trans (bo (jX (bS rfl r)))))))).trans (go.trans ?_)
      rw [fin,← q2];rfl
    · rw [q2,decide_eq_false z] at t5
      have ix:(aA w n s (t + 3)).idxOf (az w n s (t + 2))=t:=by
        refine qN ?_ fun i hi z => ?_
        · unfold aA;rw [List.getElem?_map,List.getElem?_range (by omega),ht];rfl
        · unfold aA at z
          rw [List.getElem?_map,List.getElem?_range (by omega)] at z
          have z:az w n s i=az w n s t:=(Option.some.inj z).trans ht
          exact hm i hi (((vy _ _ z 2).trans ht).trans z.symm)
      have ir:jE (aa 2) (fAt (aa 2) (fC (.int (-1)))) [some w.enc,some (aj s),some (.ref A)] h1=.ok (.int (t:Nat)) h1:=by
        have:=Ea (x:=aa 2) (σ:=[some w.enc,some (aj s),some (.ref A)]) rfl g1 a1 g1 ⟨by
          unfold aA;exact List.mem_map.mpr ⟨t + 2,List.mem_range.mpr (by omega),rfl⟩,by rw [de];omega,fun y hy=>by
          unfold aA at hy;obtain⟨i,_,rfl⟩:=List.mem_map.mp hy;rw [L,L]⟩
        rwa [ix] at this
      have pa:pAt (ak bH (jE (aa 2) (fAt (aa 2) (fC (.int (-1))))) (fC (.int 1))) [some w.enc,some (aj s),some (.ref A)] h1=.ok (some ((t + 1:Nat):Int)) h1:=by
        have ad:ak bH (jE (aa 2) (fAt (aa 2) (fC (.int (-1))))) (fC (.int 1)) [some w.enc,some (aj s),some (.ref A)] h1=.ok (.int ((t + 1:Nat):Int)) h1:=ay ir rfl rfl
        unfold pAt;rw [ad];rfl
      have r:=gQ (a:=aa 2) (lo:=pNo) (σ:=[some w.enc,some (aj s),some (.ref A)]) (h:=h1) rfl rfl pa g1
      rw [CA (by rw [ln];omega),l1,← List.map_take,show t + 3=(t + 1) + 2 from rfl,ot] at r
      unfold ow xS
      rw [if_pos q,if_neg z,if_pos q,if_neg z]
      refine (bZ rfl rfl ((aE s1).trans ((aE s2).trans ((aE wl).trans (nT ((ky (jY (bg t4) t5)).trans (bo (jX (bS rfl r))))))))).trans (go.trans ?_)
      rw [fin];rfl
  · have q2:az w n s (t + 2)≠az w n s (t + 1):=by rw [ht];exact fun z=>q z.symm
    rw [decide_eq_false q2] at t4
    have s4:sIf (iJ (tE (ak oEq (fAt (aa 2) (fC (.int (-1)))) (fAt (aa 2) (fC (.int (-2)))))) (tE (ak iO (fC (.int 0)) (fAt (aa 2) (fC (.int (-1))))))) (ba (fQ (af (fC (.str [116,117,114,110])) (af (cW (aa 2) pNo (pAt (ak bH (jE (aa 2) (fAt (aa 2) (fC (.int (-1))))) (fC (.int 1))))) ap)))) bI [some w.enc,some (aj s),some (.ref A)] h1=.nx [some w.enc,some (aj s),some (.ref A)] h1:=(d0 (se (bg t4))).trans rfl
    have r:=sl (j:=2) (by decide) false rfl t4
    rw [show t + 3 - 2=t + 1 from rfl,← List.map_drop,show t + 3=(t + 1) + 2 from rfl,ip] at r
    unfold ow xS
    rw [if_neg q,if_neg q]
    refine (bZ rfl rfl ((aE s1).trans ((aE s2).trans ((aE wl).trans ((aE s4).trans (bo (jX (bS rfl r)))))))).trans (go.trans ?_)
    rw [fin,← ht];rfl
end
end Fm
set_option linter.all false
namespace Fm
structure SH (B n:Nat) (h:Hd):Prop where
  st:∀ i,i < n → ∃ y,h[B + i]? = some (.lst [.int y])
  sts:h[B + n]? = some (.lst ((List.range n).map fun i=>.ref (B + i)))
theorem SH.set {B n i:Nat}{h:Hd}(q:SH B n h)(hi:i < n)(y:Int):SH B n (h.set (B + i) (.lst [.int y])) where
  st:=fun j hj=>by
    obtain⟨z,ez⟩:=q.st j hj
    by_cases ij:i=j
    · subst ij;exact⟨y,List.getElem?_set_self (List.getElem?_eq_some_iff.mp ez).1⟩
    · exact⟨z,by rw [List.getElem?_set_ne fun q=>ij (Nat.add_left_cancel q)];exact ez⟩
  sts:=by rw [List.getElem?_set_ne (by omega)];exact q.sts
theorem SH.more {B n:Nat}{h:Hd}(q:SH B n h)(g:Hd):SH B n (h++g):=⟨fun i hi=>let ⟨y,e⟩:=q.st i hi;⟨y,dv g e⟩,dv g q.sts⟩
theorem dig {B n:Nat}{h0:Hd}(S:SH B n h0){k:Nat}(hk:k < n)(m:Int)(m0:0 < m)(m1:m < 2 ^ 250)(σ:Sd){e:EF}(pe:e σ h0=.ok (.ref (B + k)) h0):∃ x y:Int,au aw (af e (af (fC (.int m)) ap)) σ h0=.ok (.int x) (h0.set (B + k) (.lst [.int y]))∧0≤x∧x < m:=by
  obtain⟨x,ex⟩:=S.st k hk
  exact⟨x % m,x / m,aD (bS pe rfl) (bq ex m0 m1),Int.emod_nonneg x (Int.ne_of_gt m0),Int.emod_lt_of_pos x m0⟩
theorem qO:∀ (ss:List (List Int)),fP (ss.map aj) (ss.map aj)=some true
  | []=>rfl
  | x :: l=>by
    have h:=zJ (a:=x) (b:=x) rfl
    rw [decide_eq_true rfl] at h
    simp only [List.map_cons,fP,qO l,h];rfl
theorem qP:∀ (ss:List (List Int)),km (ss.map aj)≤20
  | []=>Nat.zero_le _
  | x :: l=>by
    simp only [List.map_cons,km,zI]
    exact Nat.max_le.mpr ⟨by decide,qP l⟩
theorem vz (ss:List (List Int)):eqL (ss.map aj) (ss.map aj)=some true:=by
  unfold eqL
  rw [if_pos (qP ss),if_pos rfl,qO]
theorem F8 (l:List Nat):eqL (NL l) (NL l)=some true:=by
  have e:NL l=(l.map fun k:Nat=>(k:Int)).map D.int:=by rw [List.map_map];rfl
  have d:=qI (l.map fun k:Nat=>(k:Int))
  have p:=lv (l.map fun k:Nat=>(k:Int)) (l.map fun k:Nat=>(k:Int)) rfl
  rw [decide_eq_true rfl] at p
  unfold eqL
  rw [e,if_pos (by rw [d];exact Nat.zero_le _),if_pos rfl,p]
theorem zT {h:Hd}{a c:Nat}{l k:List D}{b:Bool}(h1:h[a]? = some (.lst l))(h2:h[c]? = some (.lst k))(e:eqL l k=some b):oEq (.ref a) (.ref c) h=.ok (.bl b) h:=by
  simp only [oEq,eqG,b4,h1,h2,e]
theorem Eb {h:Hd}{a c:Nat}{l k:List D}{b:Bool}(h1:h[a]? = some (.lst l))(h2:h[c]? = some (.lst k))(e:eqL l k=some b):oNe (.ref a) (.ref c) h=.ok (.bl (!b)) h:=by
  simp only [oNe,eqG,b4,h1,h2,e]
theorem vA {a:EF}{σ:Sd}{h h1:Hd}{n:Nat}{l k:List D}(p:a σ h=.ok (.ref n) h1)(q:h1[n]? = some (.lst l))(s:dF l=some k):dr a σ h=.ok k h1:=by
  simp only [dr,p,aT,b4,q,s]
def EL (d:D) (L1 L2:List (List Int)):Prop:=(d=TRN∧L1=L2)∨(d=NOT ∧ ∃ Y:List (List Int),Y.length≤2∧dF (L1.map aj)=some (Y.map aj)∧dF (L2.map aj)=some (Y.map aj))
theorem CB {a:List Int}(ha:a≠[]):dF ([a].map aj)=some ([a].map aj):=by
  have hr:gH ([a].map aj)=some [a]:=gR [a]
  have ne : [a].all (fun x => !x.isEmpty)=true:=by cases a with|nil=>exact absurd rfl ha|cons=>rfl
  unfold dF
  rw [hr]
  show (if _∧_∧_ then _ else _)=_
  rw [if_pos ⟨of_decide_eq_true rfl,ne,List.nodup_cons.mpr ⟨by simp,List.nodup_nil⟩⟩];rfl
theorem CC {a b:List Int}(ha:a≠[])(hb:b≠[])(ab:a≠b):dF ([a,b].map aj)=some ((if bF a b then [a,b] else [b,a]).map aj):=by
  have hr:gH ([a,b].map aj)=some [a,b]:=gR [a,b]
  have ne : [a,b].all (fun x => !x.isEmpty)=true:=by
    cases a with
    | nil=>exact absurd rfl ha
    | cons=>cases b with
      | nil=>exact absurd rfl hb
      | cons=>rfl
  unfold dF
  rw [hr]
  show (if _∧_∧_ then _ else _)=_
  rw [if_pos ⟨of_decide_eq_true rfl,ne,List.nodup_cons.mpr ⟨by simp [ab],List.nodup_cons.mpr ⟨by simp,List.nodup_nil⟩⟩⟩];rfl
theorem CF {w:Web}{n:Nat}{s:List Int}(L:∀ k,(az w n s k).length=n)(t:Nat):EL (ow w n s t) (vx w n s t) (xS w n s t):=by
  unfold ow vx xS
  by_cases q:az w n s (t + 1)=az w n s t
  · rw [if_pos q,if_pos q,if_pos q]
    by_cases z:(0:Int)∈az w n s (t + 1)
    · rw [if_pos z,if_pos z]
      have ne:az w n s (t + 1)≠[]:=fun e=>by rw [e] at z;cases z
      exact .inr ⟨rfl,[az w n s (t + 1)],of_decide_eq_true rfl,CB ne,CB ne⟩
    · rw [if_neg z,if_neg z]
      exact .inl ⟨rfl,rfl⟩
  · rw [if_neg q,if_neg q,if_neg q]
    have n0:n≠0:=fun e=>q (by
      have h1:=L (t + 1);have h2:=L t
      replace h1:=h1.trans e;replace h2:=h2.trans e
      rw [List.eq_nil_of_length_eq_zero h1,List.eq_nil_of_length_eq_zero h2])
    have na:∀ k,az w n s k≠[]:=fun k e=>n0 (by rw [← L k,e];rfl)
    refine .inr ⟨rfl,_,?_,CC (na t) (na (t + 1)) (fun e=>q e.symm),?_⟩
    · split<;>exact Nat.le_refl _
    · rw [CC (na (t + 1)) (na t) q]
      cases c:bF (az w n s t) (az w n s (t + 1)) with
      | true=>rw [iW c];rfl
      | false=>rw [jw (fun e=>q e.symm) c];rfl
theorem EM {d:D}{a b:Nat}{L1 L2:List (List Int)}{h:Hd}(ha:h[a]? = some (.lst (L1.map aj)))(hb:h[b]? = some (.lst (L2.map aj)))(e:EL d L1 L2):i7 [.tup [d,.ref a],.tup [d,.ref b]] h=.ok (.bl true) h:=by
  obtain⟨X,hX⟩ : ∃ X:D,X=.tup [d,.ref a]:=⟨_,rfl⟩
  obtain⟨Y,hY⟩ : ∃ Y:D,Y=.tup [d,.ref b]:=⟨_,rfl⟩
  have nd:oNe d d h=.ok (.bl false) h:=by rcases e with ⟨rfl,_⟩|⟨rfl,_⟩<;>rfl
  have a1:∀ u v:Option D,∀ g,fAt (aa 0) (fC (.int 1)) [some X,some Y,u,v] g=.ok (.ref a) g:=fun u v g=>by rw [hX];exact aY rfl rfl rfl rfl
  have b1:∀ u v:Option D,∀ g,fAt (aa 1) (fC (.int 1)) [some X,some Y,u,v] g=.ok (.ref b) g:=fun u v g=>by rw [hY];exact aY rfl rfl rfl rfl
  have a0:∀ u v:Option D,∀ g,fAt (aa 0) (fC (.int 0)) [some X,some Y,u,v] g=.ok d g:=fun u v g=>by rw [hX];exact aY rfl rfl rfl rfl
  have b0:∀ u v:Option D,∀ g,fAt (aa 1) (fC (.int 0)) [some X,some Y,u,v] g=.ok d g:=fun u v g=>by rw [hY];exact aY rfl rfl rfl rfl
  have s1:sIf (tOr (dZ (tE (cX .tuple (aa 0)))) (tOr (tE (ak oNe (ft (lOf (aa 0))) (fC (.int 2)))) (tOr (dZ (tE (cX .list (fAt (aa 0) (fC (.int 1)))))) (tE (ak oNe (fAt (aa 0) (fC (.int 0))) (fAt (aa 1) (fC (.int 0)))))))) (ba (fC (.bl false))) bI [some X,some Y,none,none] h=.nx [some X,some Y,none,none] h :=
    (d0 (iD (eF (b:=true) (bg (by rw [hX];rfl))) (iD (bg (by rw [hX];exact ay (gy (dJ rfl rfl)) rfl rfl)) (iD (eF (b:=true) (bg (Cd (a1 _ _ _) ha))) (bg (ay (a0 _ _ _) (b0 _ _ _) nd)))))).trans rfl
  obtain⟨σ',h',q1,q2,u,v,q3⟩:=b7 (P:=fun _ σ h'=>h'=h ∧ ∃ u v,σ = [some X,some Y,u,v]) (g:=some a) (k:=0) (all:=L1.map aj) (fun _ _ _ z=>by rw [z.1];exact ha) (xs:=L1.map aj) (tg:=gN 2) (b:=sy) (σ:=[some X,some Y,none,none]) (h:=h) (by
    rintro i x σ h0 hx ⟨rfl,u,v,rfl⟩
    obtain⟨r,_,rfl⟩:=List.mem_map.mp (List.mem_of_getElem? hx)
    refine⟨_,rfl,?_⟩
    have i1:sIf (dZ (tE (cX .tuple (aa 2)))) (ba (fC (.bl false))) bI [some X,some Y,some (aj r),v] h0=.nx [some X,some Y,some (aj r),v] h0:=(d0 (eF (b:=true) (bg rfl))).trans rfl
    obtain⟨σ2,h2,p1,p2,v',p3⟩:=b7 (P:=fun _ σ h'=>h'=h0 ∧ ∃ v,σ = [some X,some Y,some (aj r),v]) (g:=none) (k:=0) (all:=r.map D.int) (fun _ _ _ _=>trivial) (xs:=r.map D.int) (tg:=gN 3) (b:=zM) (σ:=[some X,some Y,some (aj r),v]) (h:=h0) (by
      rintro j y σ h3 hy ⟨rfl,v,rfl⟩
      obtain⟨z,_,rfl⟩:=List.mem_map.mp (List.mem_of_getElem? hy)
      exact⟨_,rfl,_,_,(d0 (iD (eF (b:=true) (bg rfl)) (bg rfl))).trans rfl,rfl,_,rfl⟩) ⟨rfl,_,rfl⟩
    subst p2 p3
    exact⟨_,_,(aE i1).trans (jZ (i0 rfl) p1),rfl,_,_,rfl⟩) ⟨rfl,_,_,rfl⟩
  subst q2 q3
  have s2:gI (dq (fAt (aa 0) (fC (.int 1)))) (gN 2) sy [some X,some Y,none,none] h'=.nx [some X,some Y,u,v] h':=jZ (nn (a1 _ _ _) ha) q1
  subst hX hY
  rcases e with ⟨ed,ee⟩|⟨ed,Z,lz,e1,e2⟩
  · have s3:sIf (tE (ak oEq (fAt (aa 1) (fC (.int 0))) (fC (.str [110,111,116])))) (ba (ak oEq (bA (dr (fAt (aa 0) (fC (.int 1))))) (bA (dr (fAt (aa 1) (fC (.int 1))))))) bI [some (.tup [d,.ref a]),some (.tup [d,.ref b]),u,v] h'=.nx [some (.tup [d,.ref a]),some (.tup [d,.ref b]),u,v] h':=(d0 (bg (ay (b0 _ _ _) rfl (by rw [ed];rfl)))).trans rfl
    rw [← ee] at hb
    exact (bZ rfl rfl ((aE s1).trans ((aE s2).trans ((aE s3).trans (bo (ay (a1 _ _ _) (b1 _ _ _) (zT ha hb (vz _)))))))).trans bc
  · obtain⟨A,hA⟩ : ∃ A,A=h'.length:=⟨_,rfl⟩
    have lz':(Z.map aj).length≤SZ:=by rw [List.length_map];exact Nat.le_trans lz (by decide)
    have n1:bA (dr (fAt (aa 0) (fC (.int 1)))) [some (.tup [d,.ref a]),some (.tup [d,.ref b]),u,v] h'=.ok (.ref A) (h'++[.lst (Z.map aj)]):=dG hA (vA (a1 _ _ _) ha e1) lz'
    have n2:bA (dr (fAt (aa 1) (fC (.int 1)))) [some (.tup [d,.ref a]),some (.tup [d,.ref b]),u,v] (h'++[.lst (Z.map aj)])=.ok (.ref (A + 1)) (h'++[.lst (Z.map aj),.lst (Z.map aj)]):=nk (g:=[.lst (Z.map aj)]) hA (vA (b1 _ _ _) (dv _ hb) e2) lz'
    have n3:=zT (h:=h'++[.lst (Z.map aj),.lst (Z.map aj)]) (a:=A) (c:=A + 1) (cu hA 0) (cu hA 1) (vz Z)
    exact (bZ rfl rfl ((aE s1).trans ((aE s2).trans (nT ((ky (bg (ay (b0 _ _ _) rfl (by rw [ed];rfl)))).trans (bo (ay n1 n2 n3))))))).trans (hZ rfl)
theorem zU {w:Web}{n B:Nat}{h:Hd}(W:w.Ok n)(n30:n≤30)(T:SH B n h){A:Nat}(hA:A=h.length)(hB:B + n < A):∃ l h',gM [w.enc,.ref (B + n)] h=.ok (.ref A) h'∧h'.length=A + 1∧Ch w n l∧SH B n h'∧h'[A]? = some (.lst (NL l)) ∧ ∀ j,j < A→(j < B∨B + n≤j)→h'[j]? = h[j]? := by
  have s1:aK (gN 2) (bA ap) [some w.enc,some (.ref (B + n)),none,none] h=.nx [some w.enc,some (.ref (B + n)),some (.ref A),none] (h++[.lst []]):=aZ (dG hA rfl (Nat.zero_le _))
  obtain⟨σ',h',q1,l,a,q2,q3,q4,q5,q6,q7,q8,q9⟩:=b7 (P:=fun i σ h'=>∃ l a,σ = [some w.enc,some (.ref (B + n)),some (.ref A),a]∧h'.length=A + 1∧SH B n h'∧h'[A]? = some (.lst (NL l))∧l.Pairwise (· < ·)∧(∀ p∈l,p < i∧p < n)∧(∀ p∈l,w.stays.getD p none≠some 0) ∧ ∀ j,j < A→(j < B∨B + n≤j)→h'[j]? = h[j]?) (g:=none) (k:=0) (all:=(List.range n).map fun k:Nat=>D.int k) (fun _ _ _ _=>trivial) (xs:=(List.range n).map fun k:Nat=>D.int k) (tg:=gN 3) (b:=lx) (σ:=[some w.enc,some (.ref (B + n)),some (.ref A),none]) (h:=h++[.lst []]) (by
    rintro i x σ h0 hx ⟨l,a,rfl,q3,q4,q5,q6,q7,q8,q9⟩
    obtain⟨hi,rfl⟩:=cR hx
    rw [Nat.zero_add] at q7 ⊢
    refine⟨_,rfl,?_⟩
    obtain⟨x,y,d1,x0,x1⟩:=dig q4 hi 2 (by decide) (by decide) [some w.enc,some (.ref (B + n)),some (.ref A),some (.int i)] (e:=fAt (aa 1) (aa 3)) (aY rfl rfl (bP q4.sts) (eU hi))
    have q4':=q4.set hi y
    obtain⟨h1,hh1⟩ : ∃ h1,h1=h0.set (B + i) (.lst [.int y]):=⟨_,rfl⟩
    rw [← hh1] at d1 q4'
    have r3:h1.length=A + 1:=by rw [hh1,List.length_set];exact q3
    have r5:h1[A]? = some (.lst (NL l)):=by rw [hh1,List.getElem?_set_ne (by omega)];exact q5
    have r9:∀ j,j < A→(j < B∨B + n≤j)→h1[j]? = h[j]? := fun j h1 h2=>by rw [hh1,List.getElem?_set_ne (by omega)];exact q9 j h1 h2
    have c1:tE (ak oEq (au aw (af (fAt (aa 1) (aa 3)) (af (fC (.int 2)) ap))) (fC (.int 1))) [some w.enc,some (.ref (B + n)),some (.ref A),some (.int i)] h0=.ok (decide (x=1)) h1:=bg (ay d1 rfl qE)
    have c2:tE (ak oNe (fAt (fAt (aa 0) (fC (.int 2))) (aa 3)) (fC (.int 0))) [some w.enc,some (.ref (B + n)),some (.ref A),some (.int i)] h1=.ok (decide (w.stays.getD i none≠some 0)) h1:=bg (ay (aY (aY rfl rfl rfl rfl) rfl rfl (vv W hi)) rfl (sM _ _))
    by_cases e1:x=1
    · rw [decide_eq_true e1] at c1
      by_cases e2:w.stays.getD i none≠some 0
      · rw [decide_eq_true e2] at c2
        have ll:l.length≤n:=oo q6 fun p hp=>(q7 p hp).2
        have lz:(NL l).length < SZ:=by rw [List.length_map];exact Nat.lt_of_le_of_lt (Nat.le_trans ll n30) (by decide)
        refine⟨_,_,(ky (jY c1 c2)).trans (ib (iY rfl r5 rfl r5 lz)),l++[i],_,rfl,by rw [List.length_set];exact r3,⟨fun j hj=>by rw [List.getElem?_set_ne (by omega)];exact q4'.st j hj,by rw [List.getElem?_set_ne (by omega)];exact q4'.sts⟩,?_,?_,?_,?_,fun j h1 h2=>by rw [List.getElem?_set_ne (by omega)];exact r9 j h1 h2⟩
        · rw [List.getElem?_set_self (by omega)]
          unfold NL;rw [List.map_append];rfl
        · rw [List.pairwise_append]
          exact⟨q6,List.pairwise_singleton _ _,fun p hp r hr=>by rw [List.mem_singleton.mp hr];exact (q7 p hp).1⟩
        · intro p hp
          rcases List.mem_append.mp hp with hp|hp
          · exact⟨Nat.lt_succ_of_lt (q7 p hp).1,(q7 p hp).2⟩
          · rw [List.mem_singleton.mp hp];exact⟨Nat.lt_succ_self _,hi⟩
        · intro p hp
          rcases List.mem_append.mp hp with hp|hp
          · exact q8 p hp
          · rw [List.mem_singleton.mp hp];exact e2
      · rw [decide_eq_false e2] at c2
        exact⟨_,_,(d0 (jY c1 c2)).trans rfl,l,_,rfl,r3,q4',r5,q6,fun p hp=>⟨Nat.lt_succ_of_lt (q7 p hp).1,(q7 p hp).2⟩,q8,r9⟩
    · rw [decide_eq_false e1] at c1
      exact⟨_,_,(d0 (se c1)).trans rfl,l,_,rfl,r3,q4',r5,q6,fun p hp=>⟨Nat.lt_succ_of_lt (q7 p hp).1,(q7 p hp).2⟩,q8,r9⟩) ⟨[],none,rfl,by rw [List.length_append,hA];rfl,T.more _,eR hA _,List.Pairwise.nil,fun _ z=>absurd z List.not_mem_nil,fun _ z=>absurd z List.not_mem_nil,fun j h1 h2=>List.getElem?_append_left (by rw [← hA];exact h1)⟩
  subst q2
  have ll:((List.range n).map fun i=>D.ref (B + i)).length=n:=by rw [List.length_map,List.length_range]
  have s2:gI (bM (ft (lOf (aa 1)))) (gN 3) lx [some w.enc,some (.ref (B + n)),some (.ref A),none] (h++[.lst []])=.nx [some w.enc,some (.ref (B + n)),some (.ref A),a] h':=jZ (f7 (gy (dJ rfl (bP (T.more _).sts))) (by rw [ll];exact Nat.le_trans n30 (by decide))) (by rw [ll];exact q1)
  exact⟨l,h',(bZ rfl rfl ((aE s1).trans ((aE s2).trans (bo rfl)))).trans nS,q3,⟨q6,fun p hp=>(q7 p hp).2,q8⟩,q4,q5,q9⟩
end Fm
set_option linter.all false
namespace Fm
theorem zV:∀ n,(List.replicate n [D.non]).flatten=(List.replicate n (none:Option Int)).map bm
  | 0=>rfl
  | n + 1=>by rw [List.replicate_succ,List.replicate_succ,List.flatten_cons,zV n];rfl
theorem Ec {h:Hd}{B:Nat}{x:Int}(hx:h[B]? = some (.lst [.int x])):∃ n w h',gf [.ref B] h=.ok w.enc h'∧n≤30∧w.Ok n∧cN w∧(∀ f s,S2 (fun i=>w.ties.getD i []) f s n=S2 (fun i=>w.ties.getD i []) s f n)
    ∧ (∀ i,i < n→0≤w.bars.getD i 0∧w.bars.getD i 0≤2000)∧(∀ i,i < n→j4 (w.ties.getD i [])≤2000 ∧ ∀ p∈w.ties.getD i [],1≤p.2):=by
  have hBl:B < h.length:=(List.getElem?_eq_some_iff.mp hx).1
  obtain⟨A,hA⟩ : ∃ A,A=h.length:=⟨_,rfl⟩
  have hB:B < A:=by omega
  have d1:=bq hx (show (0:Int) < 28 by omega) (by simp)
  have g1:(h.set B (.lst [.int (x / 28)]))[B]? = some (.lst [.int (x / 28)]):=by rw [List.getElem?_set_self hBl]
  have d2:=bq g1 (show (0:Int) < 2 by omega) (by simp)
  rw [List.set_set] at d2
  have g2:(h.set B (.lst [.int (x / 28 / 2)]))[B]? = some (.lst [.int (x / 28 / 2)]):=by rw [List.getElem?_set_self hBl]
  have d3:=bq g2 (show (0:Int) < 2 by omega) (by simp)
  rw [List.set_set] at d3
  have b0:=Int.emod_nonneg x (show (28:Int)≠0 by omega)
  have b1:=Int.emod_lt_of_pos x (show (0:Int) < 28 by omega)
  obtain⟨n,hn⟩ : ∃ n:Nat,(n:Int)=3 + x % 28:=⟨(3 + x % 28).toNat,by omega⟩
  have n3:3≤n:=by omega
  have n30:n≤30:=by omega
  obtain⟨r,hr⟩ : ∃ r,r=x / 28 % 2:=⟨_,rfl⟩
  have r0:r=0∨r=1:=by omega
  obtain⟨gg,hgg⟩ : ∃ g:Nat,(g:Int)=x / 28 / 2 % 2:=⟨(x / 28 / 2 % 2).toNat,by omega⟩
  have gg1:gg≤1:=by omega
  obtain⟨h3,hh3⟩ : ∃ h3,h3=h.set B (.lst [.int (x / 28 / 2 / 2)]):=⟨_,rfl⟩
  rw [← hh3,← hgg] at d3
  rw [← hr] at d2
  have l3:h3.length=A:=by rw [hh3,List.length_set,hA]
  have g3:h3[B]? = some (.lst [.int (x / 28 / 2 / 2)]):=by rw [hh3,List.getElem?_set_self hBl]
  have s1:aK (gN 1) (ak bH (fC (.int 3)) (au aw (af (aa 0) (af (fC (.int 28)) ap)))) [some (.ref B),none,none,none,none,none,none,none] h=.nx [some (.ref B),some (.int n),none,none,none,none,none,none] (h.set B (.lst [.int (x / 28)])):=by
    simp [d1,hn]
  have s2:aK (gN 2) (au aw (af (aa 0) (af (fC (.int 2)) ap))) [some (.ref B),some (.int n),none,none,none,none,none,none] (h.set B (.lst [.int (x / 28)]))=.nx [some (.ref B),some (.int n),some (.int r),none,none,none,none,none] (h.set B (.lst [.int (x / 28 / 2)])):=by
    simp [d2]
  have s3:aK (gN 3) (au aw (af (aa 0) (af (fC (.int 2)) ap))) [some (.ref B),some (.int n),some (.int r),none,none,none,none,none] (h.set B (.lst [.int (x / 28 / 2)]))=.nx [some (.ref B),some (.int n),some (.int r),some (.int gg),none,none,none,none] h3:=by
    simp [d3]
  obtain⟨ds,h4,k4,l4,v4,σ4,q4,hh4,g4,g5⟩:=f6 (g:=none) (all:=(List.range n).map fun k:Nat=>D.int k) (tg:=gN 0) (xs:=(List.range n).map fun k:Nat=>D.int k) (k:=0)
    (e:=bA ap) (σ:=[none]) (h:=h3)
    (P:=fun i σ h=>(∃ a,σ = [a])∧h.length=A + i∧(∀ j,j < A→h[j]? = h3[j]?) ∧ ∀ j,j < i→h[A + j]? = some (.lst [])) (V:=fun i d=>d=.ref (A + i)) (fun _ _ _ _=>trivial) (by
      rintro i x σ h0 hx ⟨⟨a,rfl⟩,hl,e0,e1⟩
      obtain⟨hi,rfl⟩:=cR hx
      rw [Nat.zero_add] at hl e1 ⊢
      refine⟨_,rfl,.ref h0.length,h0++[.lst []],by simp [SZ],by rw [hl],⟨_,rfl⟩,by simp [hl];omega,fun j hj => ?_,fun j hj => ?_⟩
      · rw [List.getElem?_append_left (by omega)];exact e0 j hj
      · by_cases hji:j < i
        · rw [List.getElem?_append_left (by omega)];exact e1 j hji
        · have:j=i:=by omega
          subst this
          rw [List.getElem?_append_right (by omega)];simp [hl]) ⟨⟨_,rfl⟩,by omega,fun j _=>rfl,fun j hj=>by omega⟩
  simp at l4 hh4 g5
  have e4:ds=(List.range n).map fun i=>.ref (A + i):=ia l4 fun i d hd=>by simpa using v4 i d hd
  subst e4
  have z1 : -1000000≤(n:Int):=by omega
  have z2:(n:Int)≤1000000:=by omega
  have z3:n≤1000000:=by omega
  obtain⟨h5,hh5⟩ : ∃ h5,h5=h4++[.lst ((List.range n).map fun i=>.ref (A + i))]:=⟨_,rfl⟩
  have s4:aK (gN 4) (bA (bz 1 [] (bM (aa 1)) (gN 0) [] (bA ap))) [some (.ref B),some (.int n),some (.int r),some (.int gg),none,none,none,none] h3=.nx [some (.ref B),some (.int n),some (.int r),some (.int gg),some (.ref (A + n)),none,none,none] h5:=by
    rw [hh5]
    simp [z1,z2,k4,SZ,z3,hh4]
  have W5:WL A B n (fun _=>[]) h5:=by
    refine⟨⟨x / 28 / 2 / 2,?_⟩,fun i hi => ?_,?_⟩
    · rw [hh5,List.getElem?_append_left (by omega),g4 B hB];exact g3
    · rw [hh5,List.getElem?_append_left (by omega),g5 i hi];rfl
    · rw [hh5,List.getElem?_append_right (by omega)];simp [hh4]
  have O5:LR n 0 (fun _=>[]):=⟨by simp,by simp,by simp,by simp,fun f s=>by
    have:∀ f s k,S2 (fun _=>[]) f s k=0:=fun f s k=>by induction k with
      | zero=>rfl
      | succ k ih=>simp [S2,ih]
    rw [this,this],by simp⟩
  obtain⟨a6,b6,R,h6,k6,W6,O6,L6⟩:=AD hB n3 n30 (M:=n - 1 + gg) (by omega) (r:=r) (g:=gg) r0 W5 O5
  have L6':h6.length=A + n + 1:=by rw [L6,hh5];simp [hh4]
  have s5:gI (bM (ak bH (ak m5 (aa 1) (fC (.int 1))) (aa 3))) (gN 5) jz [some (.ref B),some (.int n),some (.int r),some (.int gg),some (.ref (A + n)),none,none,none] h5=.nx [some (.ref B),some (.int n),some (.int r),some (.int gg),some (.ref (A + n)),a6,b6,none] h6:=by
    have y1 : -1000000≤(n:Int) - 1 + gg:=by omega
    have y2:(n:Int) - 1 + gg≤1000000:=by omega
    have y3:((n:Int) - 1 + gg).toNat=n - 1 + gg:=by omega
    simp [y1,y2,y3,k6]
  have rs:∀ i,0≤((R i).map (·.2)).sum∧((R i).map (·.2)).sum≤2000∧j4 (R i)=((R i).map (·.2)).sum:=fun i=>by
    have hl:=O6.len i
    have:∀ l:List (Nat × Int),(∀ p∈l,1≤p.2∧p.2≤31)→0≤(l.map (·.2)).sum∧(l.map (·.2)).sum≤31 * l.length∧j4 l=(l.map (·.2)).sum:=by
      intro l
      induction l with
      | nil=>intro _;simp [j4]
      | cons p l ih =>
        intro hp
        have h1:=hp p (by simp)
        have h2:=ih fun q hq=>hp q (by simp [hq])
        simp [j4] at h2 ⊢
        omega
    have:=this (R i) fun p hp=>O6.wt i p hp
    omega
  have inner:∀ i,i < n → ∀ σ0:Option D,jS (bz 2 [] (dq (aa 0)) (gT [0,1]) [] (aa 1)) [some (.ref (A + i))] h6=.ok (.int ((R i).map (·.2)).sum) h6:=fun i hi _=>by
    have ti:=W6.ti i hi
    have comp:bX (some (A + i)) ((R i).map cH) (gT [0,1]) [] (aa 1) ((R i).map cH) [none,none] h6=.ok (((R i).map (·.2)).map D.int) h6:=by
      have:=bw (g:=some (A + i)) (all:=(R i).map cH) (tg:=gT [0,1]) (cs:=[]) (e:=aa 1) (h:=h6) (I:=fun σ=>∃ a b,σ = [a,b]) (fun _=>true) (fun d=>match d with | .tup [_,x]=>x|_=>.non) ti (xs:=(R i).map cH) (σ:=[none,none]) (by
        rintro x hx σ ⟨a,b,rfl⟩
        obtain⟨q,hq,rfl⟩:=List.mem_map.mp hx
        exact⟨_,rfl,⟨_,_,rfl⟩,rfl,fun _=>rfl⟩) ⟨_,_,rfl⟩
      rw [this,List.filter_eq_self.mpr (by simp),List.map_map,List.map_map]
      rfl
    simp [ti,comp,fE,-List.map_map]
  have outer:bX (some (A + n)) ((List.range n).map fun i=>.ref (A + i)) (gN 0) [] (jS (bz 2 [] (dq (aa 0)) (gT [0,1]) [] (aa 1))) ((List.range n).map fun i=>.ref (A + i)) [none] h6=.ok (((List.range n).map fun i=>((R i).map (·.2)).sum).map D.int) h6:=by
    have:=bw (g:=some (A + n)) (all:=(List.range n).map fun i=>.ref (A + i)) (tg:=gN 0) (cs:=[]) (e:=jS (bz 2 [] (dq (aa 0)) (gT [0,1]) [] (aa 1))) (h:=h6) (I:=fun σ=>∃ a,σ = [a]) (fun _=>true) (fun d=>match d with | .ref k=>.int ((R (k - A)).map (·.2)).sum|_=>.non) W6.tis (xs:=(List.range n).map fun i=>.ref (A + i)) (σ:=[none]) (by
      rintro x hx σ ⟨a,rfl⟩
      obtain⟨i,hi,rfl⟩:=List.mem_map.mp hx
      have hi:=List.mem_range.mp hi
      refine⟨_,rfl,⟨_,rfl⟩,rfl,fun _ => ?_⟩
      have:=inner i hi none
      simp only [Nat.add_sub_cancel_left]
      exact this) ⟨_,rfl⟩
    rw [this,List.filter_eq_self.mpr (by simp),List.map_map,List.map_map]
    congr 1
    apply List.map_congr_left
    intro i _
    simp
  obtain⟨bs0,hbs0⟩ : ∃ bs0,bs0=(List.range n).map fun i=>((R i).map (·.2)).sum:=⟨_,rfl⟩
  rw [← hbs0] at outer
  have lb0:bs0.length=n:=by rw [hbs0];simp
  have ob0:∀ b∈bs0,0≤b∧b≤2000:=fun b hb=>by
    rw [hbs0] at hb
    obtain⟨i,_,rfl⟩:=List.mem_map.mp hb
    exact⟨(rs i).1,(rs i).2.1⟩
  have t6:=W6.tis
  obtain⟨h7,hh7⟩ : ∃ h7,h7=h6++[.lst (bs0.map .int)]:=⟨_,rfl⟩
  have s6:aK (gN 7) (bA (bz 1 [] (dq (aa 4)) (gN 0) [] (jS (bz 2 [] (dq (aa 0)) (gT [0,1]) [] (aa 1))))) [some (.ref B),some (.int n),some (.int r),some (.int gg),some (.ref (A + n)),a6,b6,none] h6
      = .nx [some (.ref B),some (.int n),some (.int r),some (.int gg),some (.ref (A + n)),a6,b6,some (.ref (A + n + 1))] h7:=by
    have lz:bs0.length≤1000000:=by omega
    rw [hh7]
    clear inner
    generalize (jS (bz 2 [] (dq (aa 0)) (gT [0,1]) [] (aa 1)))=E at outer ⊢
    simp [t6,outer,SZ,lz]
    omega
  have W7:WL A B n R h7:=by rw [hh7];exact W6.more _
  have bar7:h7[A + n + 1]? = some (.lst (bs0.map .int)):=by rw [hh7,List.getElem?_append_right (by omega)];simp [L6']
  have L7:h7.length=A + n + 2:=by rw [hh7];simp [L6']
  obtain⟨y7,ey7⟩:=W7.hd
  have d7:=bq ey7 (show (0:Int) < 3 by omega) (by simp)
  obtain⟨h8,hh8⟩ : ∃ h8,h8=h7.set B (.lst [.int (y7 / 3)]):=⟨_,rfl⟩
  rw [← hh8] at d7
  have W8:WL A B n R h8:=by rw [hh8];exact W7.setB hB _
  have bar8:h8[A + n + 1]? = some (.lst (bs0.map .int)):=by rw [hh8,List.getElem?_set_ne (by omega)];exact bar7
  have L8:h8.length=A + n + 2:=by rw [hh8];simp [L7]
  generalize y7 % 3=way at d7
  have s8:∃ (a:Nat) (bs:List Int) (h9:Hd),sIf (tE (ak oGt (au aw (af (aa 0) (af (fC (.int 3)) ap))) (fC (.int 0)))) (aK (gN 7) (bA (bz 1 [] (dq (aa 4)) (gN 0) [] (fC (.int 1))))) bI [some (.ref B),some (.int n),some (.int r),some (.int gg),some (.ref (A + n)),a6,b6,some (.ref (A + n + 1))] h7
      = .nx [some (.ref B),some (.int n),some (.int r),some (.int gg),some (.ref (A + n)),a6,b6,some (.ref a)] h9∧WL A B n R h9∧h9[a]? = some (.lst (bs.map .int))∧bs.length=n∧(∀ b∈bs,0≤b∧b≤2000)∧A + n < a:=by
    by_cases e:0 < way
    · have t8:=W8.tis
      have ones:bX (some (A + n)) ((List.range n).map fun i=>.ref (A + i)) (gN 0) [] (fC (.int 1)) ((List.range n).map fun i=>.ref (A + i)) [none] h8=.ok ((List.replicate n 1).map D.int) h8:=by
        have:=bw (g:=some (A + n)) (all:=(List.range n).map fun i=>.ref (A + i)) (tg:=gN 0) (cs:=[]) (e:=fC (.int 1)) (h:=h8) (I:=fun σ=>∃ a,σ = [a]) (fun _=>true) (fun d=>.int 1) W8.tis (xs:=(List.range n).map fun i=>.ref (A + i)) (σ:=[none]) (by
          rintro x hx σ ⟨a,rfl⟩
          obtain⟨i,hi,rfl⟩:=List.mem_map.mp hx
          exact⟨_,rfl,⟨_,rfl⟩,rfl,fun _=>rfl⟩) ⟨_,rfl⟩
        rw [this,List.filter_eq_self.mpr (by simp),List.map_map]
        congr 1
        rw [List.map_replicate]
        apply List.ext_getElem?
        intro i
        by_cases hi:i < n<;>simp [hi]
      refine⟨A + n + 2,List.replicate n 1,h8++[.lst ((List.replicate n 1).map .int)],?_,W8.more _,?_,by simp,fun b hb => ?_,by omega⟩
      · simp only [List.map_replicate] at ones
        refine (ky (bg (ay (aD (bS rfl rfl) d7) rfl (sj e)))).trans (aZ ((dG (xs:=List.replicate n (D.int 1)) rfl (ek (nn rfl t8) ones) (by rw [List.length_replicate];exact z3)).trans ?_))
        rw [L8,List.map_replicate]
      · rw [List.getElem?_append_right (by omega)];simp [L8]
      · have:=List.eq_of_mem_replicate hb
        omega
    · exact⟨A + n + 1,bs0,h8,(d0 (bg (ay (aD (bS rfl rfl) d7) rfl (sk e)))).trans rfl,W8,bar8,lb0,ob0,by omega⟩
  obtain⟨a,bs,h12,s8,W12,bar12,lb10,ob10,ha⟩:=s8
  have ct:bX (some (A + n)) ((List.range n).map fun i=>.ref (A + i)) (gN 0) [] (cC (dr (aa 0))) ((List.range n).map fun i=>.ref (A + i)) [none] h12
      = .ok (((List.range n).map fun i=>iE (R i)).map kx) h12:=by
    have:=bw (g:=some (A + n)) (all:=(List.range n).map fun i=>.ref (A + i)) (tg:=gN 0) (cs:=[]) (e:=cC (dr (aa 0))) (h:=h12) (I:=fun σ=>∃ a,σ = [a]) (fun _=>true)
      (fun d=>match d with | .ref k=>kx (iE (R (k - A)))|_=>.non) W12.tis (xs:=(List.range n).map fun i=>.ref (A + i)) (σ:=[none]) (by
        rintro x hx σ ⟨a,rfl⟩
        obtain⟨i,hi,rfl⟩:=List.mem_map.mp hx
        have hi:=List.mem_range.mp hi
        refine⟨_,rfl,⟨_,rfl⟩,rfl,fun _ => ?_⟩
        have t:=W12.ti i hi
        have so:=vq (O6.nd i) (by have:=O6.len i;omega)
        simp only [List.set_cons_zero,cC,dr,b4,aa,slot,List.getElem?_cons_zero,aT,t,so,kx,Nat.add_sub_cancel_left]) ⟨_,rfl⟩
    rw [this,List.filter_eq_self.mpr (by simp),List.map_map,List.map_map]
    congr 1
    apply List.map_congr_left
    intro i _
    simp
  obtain⟨w,hw⟩ : ∃ w:Web,w=⟨(List.range n).map fun i=>iE (R i),bs,List.replicate n none⟩:=⟨_,rfl⟩
  have t12:=W12.tis
  have s13:ba (fQ (af (cC (bz 1 [] (dq (aa 4)) (gN 0) [] (cC (dr (aa 0))))) (af (cC (lOf (aa 7))) (af (ak zD (fQ (af (fC .non) ap)) (aa 1)) ap)))) [some (.ref B),some (.int n),some (.int r),some (.int gg),some (.ref (A + n)),a6,b6,some (.ref a)] h12
      = .rt w.enc h12:=by
    have rp:=zV n
    have n2:(2:Int)≤n:=by omega
    have n2':2≤n:=by omega
    have n1000:n≤1000:=by omega
    generalize (cC (dr (aa 0)))=E at ct ⊢
    simp [t12,ct,bar12,SZ,n2,n2',n1000,rp,hw,Web.enc]
  have fin:∃ h',letGo h (.ok w.enc h12)=.ok w.enc h':=by
    unfold letGo
    dsimp only
    split
    · exact⟨_,rfl⟩
    · exact⟨_,rfl⟩
  obtain⟨h',fin⟩:=fin
  have tg:∀ i,i < n→w.ties.getD i [] = iE (R i):=fun i hi=>by rw [hw];simp [List.getD,hi]
  refine⟨n,w,h',?_,n30,⟨by rw [hw];simp,by rw [hw];exact lb10,by rw [hw];simp,fun r hr p hp => ?_,by omega⟩,fun x hx => ?_,fun f s => ?_,fun i hi => ?_,fun i hi => ?_⟩
  · have st0:([D.ref B].map some++List.replicate (8 - [D.ref B].length) none:Sd)=[some (.ref B),none,none,none,none,none,none,none]:=rfl
    unfold gf bJ runB
    rw [if_pos (show [D.ref B].length=1 from rfl),st0,c9 s1,c9 s2,c9 s3,c9 s4,c9 s5,c9 s6,c9 s8,s13]
    exact fin
  · rw [hw] at hr
    obtain⟨i,_,rfl⟩:=List.mem_map.mp hr
    exact O6.lt i p (lH hp)
  · rw [hw] at hx
    exact .inl (List.eq_of_mem_replicate hx)
  · have:∀ f s m,m≤n→S2 (fun i=>w.ties.getD i []) f s m=S2 R f s m:=fun f s m=>by
      induction m with
      | zero=>intro _;rfl
      | succ m ih =>
        intro hm
        rw [S2,S2,ih (by omega),tg m (by omega),lI]
    rw [this f s n (Nat.le_refl _),this s f n (Nat.le_refl _)]
    exact O6.sym f s
  · have:w.bars.getD i 0∈bs:=by
      rw [hw]
      simp only [List.getD]
      rw [List.getElem?_eq_getElem (show i < bs.length by omega)]
      exact List.getElem_mem _
    exact ob10 _ this
  · rw [tg i hi]
    refine⟨?_,fun p hp=>(O6.wt i p (lH hp)).1⟩
    have e:j4 (iE (R i))=j4 (R i):=lI _ _
    rw [e]
    have:=rs i
    omega
theorem jG (f:List Int):∀ r:List (Nat × Int),(∀ p∈r,1≤p.2)→0≤cB r f
  | [],_=>by simp [cB,gn]
  | p :: r,h=>by
    have ih:=jG f r fun q hq=>h q (by simp [hq])
    have hp:=h p (by simp)
    simp only [cB,gn,List.filter_cons] at ih ⊢
    split
    · simp only [List.map_cons,List.sum_cons];omega
    · exact ih
theorem xT {w:Web}{n:Nat}{f s:List Int}(Ff:cZ w n f)(Fs:cZ w n s)(hb:∀ i,i < n→0≤w.bars.getD i 0∧w.bars.getD i 0≤2000)(ht:∀ i,i < n→j4 (w.ties.getD i [])≤2000 ∧ ∀ p∈w.ties.getD i [],1≤p.2):∀ m,m≤n → -(8002 * (m:Int))≤cY w f s m∧cY w f s m≤8002 * (m:Int)
  | 0,_=>by simp [cY]
  | m + 1,hm=>by
    have ih:=xT Ff Fs hb ht m (by omega)
    have b0:=ga Ff m
    have b1:=ga Fs m
    have hb':=hb m (by omega)
    have ht':=ht m (by omega)
    have p0:=jG f _ ht'.2
    have p1:=qH (w.ties.getD m []) f
    have p2:=ht'.1
    simp only [cY,ic]
    generalize w.bars.getD m 0=b at *
    generalize cB (w.ties.getD m []) f=P at *
    generalize j4 (w.ties.getD m [])=A at *
    generalize cY w f s m=T at *
    rcases b0 with z|z<;>rcases b1 with y|y<;>simp only [z,y]<;>simp<;>omega
end Fm
set_option linter.all false
namespace Fm
theorem SH.take {B n m:Nat}{h:Hd}(q:SH B n h)(hm:B + n < m):SH B n (h.take m):=⟨fun i hi=>let ⟨y,e⟩:=q.st i hi;⟨y,by rw [List.getElem?_take_of_lt (by omega)];exact e⟩,by rw [List.getElem?_take_of_lt hm];exact q.sts⟩
theorem CG (u:Option Int)(h:Hd):oEq (bm u) (.int 0) h=.ok (.bl (decide (u=some 0))) h:=by
  cases u with
  | none=>rfl
  | some v =>
    show oEq (.int v) (.int 0) h=_
    rw [qE]
    by_cases e:v=0
    · rw [decide_eq_true e,decide_eq_true (by rw [e])]
    · rw [decide_eq_false e,decide_eq_false (fun z=>e (Option.some.inj z))]
theorem CH {l:List D}{k:Nat}(hk:k≤l.length):cut l (some (k:Int)) none=l.drop k:=by
  have e:sIx l.length 0 (some (k:Int))=k:=by
    show (if (k:Int) < 0 then ((k:Int) + (l.length:Nat)).toNat else min ((k:Int)).toNat l.length)=_
    rw [if_neg (by omega),Int.toNat_natCast,Nat.min_eq_left hk]
  unfold cut
  rw [e]
  exact List.take_of_length_le (by rw [List.length_drop];exact Nat.le_refl _)
theorem lJ (ss:List (Option Int))(u:Option Int):free (ss++[u])=free ss + if u=none then 1 else 0:=by
  unfold free
  rw [List.countP_append]
  cases u<;>rfl
theorem AI {ss:List (Option Int)}{i:Nat}(h:i < ss.length):free (ss.drop i)=(if ss.getD i none=none then 1 else 0) + free (ss.drop (i + 1)):=by
  unfold free
  rw [List.drop_eq_getElem_cons h,List.countP_cons,Nat.add_comm,List.getD_eq_getElem?_getD,List.getElem?_eq_getElem h]
  cases ss[i]<;>rfl
structure SwI (w:Web) (n A:Nat) (way:Int) (i:Nat) (σ:Sd) (h:Hd):Prop where
  ex:∃ (bs:List Int) (ss:List (Option Int)) (a6 a7 a8 a9:Option D),σ = [some w.enc,some (.ref (1 + n)),some (.ref 0),some (.int way),some (.ref A),some (.ref (A + 1)),a6,a7,a8,a9]∧h[A]? = some (.lst (bs.map .int))∧h[A + 1]? = some (.lst (ss.map bm))∧bs.length=i∧ss.length=i∧(∀ x∈ss,x=none∨x=some 0∨x=some 1)∧free ss + free (w.stays.drop i)≤8
  len:h.length=A + 2
  sh:SH 1 n h
  hd:∃ x,h[0]? = some (.lst [.int x])
section
variable {w:Web} {n A:Nat}
theorem Ed (r:List (Nat × Int))(σ:Sd){e:EF}{h:Hd}(p:e σ h=.ok (kx r) h):jS (bz 2 [] (dq e) (gT [0,1]) [] (aa 1)) σ h=.ok (.int (r.map (·.2)).sum) h:=by
  have comp:bX none (r.map cH) (gT [0,1]) [] (aa 1) (r.map cH) [none,none] h=.ok ((r.map (·.2)).map D.int) h:=by
    have:=bw (g:=none) (all:=r.map cH) (tg:=gT [0,1]) (cs:=[]) (e:=aa 1) (h:=h) (I:=fun σ=>∃ a b,σ = [a,b]) (fun _=>true) (fun d=>match d with | .tup [_,x]=>x|_=>.non) trivial (xs:=r.map cH) (σ:=[none,none]) (by
      rintro x hx σ ⟨a,b,rfl⟩
      obtain⟨q,hq,rfl⟩:=List.mem_map.mp hx
      exact⟨_,rfl,⟨_,_,rfl⟩,rfl,fun _=>rfl⟩) ⟨_,_,rfl⟩
    rw [this,List.filter_eq_self.mpr (by simp),List.map_map,List.map_map]
    rfl
  exact xv (ek (i0 p) comp) (fE _)
theorem Ee (W:w.Ok n)(n30:n≤30)(S:cN w)(wt:∀ r∈w.ties,∀ p∈r,1≤p.2∧p.2≤400)(ris:∀ r∈w.ties,r.Pairwise fun p q=>p.1 < q.1)(hA:n + 1 < A){way:Int}(hw:way=1∨way=2){i:Nat}(hi:i < n){σ:Sd}{h:Hd}(I:SwI w n A way i σ h):∃ σ' h',eY (σ.set 6 (some (.int (i:Nat)))) h=.nx σ' h'∧SwI w n A way (i + 1) σ' h':=by
  obtain⟨⟨bs,ss,a6,a7,a8,a9,rfl,hb,hs,lb,ls,os,fr⟩,len,sh,hd⟩:=I
  show ∃ σ' h',eY [some w.enc,some (.ref (1 + n)),some (.ref 0),some (.int way),some (.ref A),some (.ref (A + 1)),some (.int i),a7,a8,a9] h=.nx σ' h'∧_
  have ht:i < w.ties.length:=W.t.symm ▸ hi
  obtain⟨r,hr⟩ : ∃ r,r=w.ties[i]:=⟨_,rfl⟩
  have rm:r∈w.ties:=hr ▸ List.getElem_mem ht
  have at1:fAt (fAt (aa 0) (fC (.int 0))) (aa 6) [some w.enc,some (.ref (1 + n)),some (.ref 0),some (.int way),some (.ref A),some (.ref (A + 1)),some (.int i),a7,a8,a9] h=.ok (kx r) h:=aY (aY rfl rfl rfl rfl) rfl rfl (cK (by rw [List.getElem?_map,List.getElem?_eq_getElem ht,← hr];rfl))
  obtain⟨T,hT⟩ : ∃ T,T=(r.map (·.2)).sum:=⟨_,rfl⟩
  have su:=Ed r _ at1
  rw [← hT] at su
  have sl:=Ct r (wt r rm)
  have lr:r.length < 64:=(zP n30 (ris r rm) fun p hp=>W.lt r rm p hp).1
  rw [← hT] at sl
  have s1:=aZ (i:=7) su
  have at2:∀ a7 a8 a9:Option D,fAt (aa 1) (aa 6) [some w.enc,some (.ref (1 + n)),some (.ref 0),some (.int way),some (.ref A),some (.ref (A + 1)),some (.int i),a7,a8,a9] h=.ok (.ref (1 + i)) h:=fun a7 a8 a9=>aY rfl rfl (bP sh.sts) (eU hi)
  obtain⟨x,ex⟩:=sh.st i hi
  have dg:=bq ex (m:=T + 1) (by omega) (by
    have:T + 1 < 2 ^ 20:=by omega
    exact Int.lt_trans this (by decide))
  obtain⟨h1,hh1⟩ : ∃ h1,h1=h.set (1 + i) (.lst [.int (x / (T + 1))]):=⟨_,rfl⟩
  obtain⟨od,hod⟩ : ∃ od,od=2 * (x % (T + 1)) - 1:=⟨_,rfl⟩
  rw [← hh1] at dg
  have sh1:=sh.set hi (x / (T + 1))
  rw [← hh1] at sh1
  have s2:aK (gN 8) (ak m5 (ak eV (fC (.int 2)) (au aw (af (fAt (aa 1) (aa 6)) (af (ak bH (aa 7) (fC (.int 1))) ap)))) (fC (.int 1))) [some w.enc,some (.ref (1 + n)),some (.ref 0),some (.int way),some (.ref A),some (.ref (A + 1)),some (.int i),some (.int T),a8,a9] h=.nx [some w.enc,some (.ref (1 + n)),some (.ref 0),some (.int way),some (.ref A),some (.ref (A + 1)),some (.int i),some (.int T),some (.int od),a9] h1:=by
    rw [hod]
    exact aZ (ay (ay rfl (aD (bS (at2 _ _ _) (ay rfl rfl rfl)) dg) (sg (by decide))) rfl rfl)
  have hb1:h1[A]? = some (.lst (bs.map .int)):=by rw [hh1,List.getElem?_set_ne (by omega)];exact hb
  have hs1:h1[A + 1]? = some (.lst (ss.map bm)):=by rw [hh1,List.getElem?_set_ne (by omega)];exact hs
  have len1:h1.length=A + 2:=by rw [hh1,List.length_set];exact len
  have hd1:∃ x,h1[0]? = some (.lst [.int x]):=by obtain⟨z,ez⟩:=hd;exact⟨z,by rw [hh1,List.getElem?_set_ne (by omega)];exact ez⟩
  obtain⟨v,hv⟩ : ∃ v:Int,atI [.int 0,.int T,.int od] way=some (.int v):=by rcases hw with rfl|rfl<;>exact⟨_,rfl⟩
  obtain⟨h2,hh2⟩ : ∃ h2,h2=h1.set A (.lst (bs.map .int++[.int v])):=⟨_,rfl⟩
  have s3:eC (eD (aa 4) (fIx (af (fC (.int 0)) (af (aa 7) (af (aa 8) ap))) (aa 3))) [some w.enc,some (.ref (1 + n)),some (.ref 0),some (.int way),some (.ref A),some (.ref (A + 1)),some (.int i),some (.int T),some (.int od),a9] h1=.nx [some w.enc,some (.ref (1 + n)),some (.ref 0),some (.int way),some (.ref A),some (.ref (A + 1)),some (.int i),some (.int T),some (.int od),a9] h2:=by
    rw [hh2]
    exact ib (iY rfl hb1 (Cb (bd rfl (bS rfl rfl)) rfl hv) hb1 (by rw [List.length_map,lb];exact Nat.lt_of_lt_of_le hi (Nat.le_trans n30 (by decide))))
  have hb2:h2[A]? = some (.lst ((bs++[v]).map .int)):=by rw [hh2,List.getElem?_set_self (by omega),List.map_append];rfl
  have hs2:h2[A + 1]? = some (.lst (ss.map bm)):=by rw [hh2,List.getElem?_set_ne (by omega)];exact hs1
  have len2:h2.length=A + 2:=by rw [hh2,List.length_set];exact len1
  have sh2:SH 1 n h2:=⟨fun j hj=>by rw [hh2,List.getElem?_set_ne (by omega)];exact sh1.st j hj,by rw [hh2,List.getElem?_set_ne (by omega)];exact sh1.sts⟩
  have hd2:∃ x,h2[0]? = some (.lst [.int x]):=by obtain⟨z,ez⟩:=hd1;exact⟨z,by rw [hh2,List.getElem?_set_ne (by omega)];exact ez⟩
  obtain⟨u,hu⟩ : ∃ u,u=w.stays.getD i none:=⟨_,rfl⟩
  have ou:u=none∨u=some 0∨u=some 1:=by
    have h1:i < w.stays.length:=W.s.symm ▸ hi
    have:u∈w.stays:=by rw [hu,List.getD_eq_getElem?_getD,List.getElem?_eq_getElem h1];exact List.getElem_mem h1
    exact S u this
  have s4:aK (gN 9) (fAt (fAt (aa 0) (fC (.int 2))) (aa 6)) [some w.enc,some (.ref (1 + n)),some (.ref 0),some (.int way),some (.ref A),some (.ref (A + 1)),some (.int i),some (.int T),some (.int od),a9] h2=.nx [some w.enc,some (.ref (1 + n)),some (.ref 0),some (.int way),some (.ref A),some (.ref (A + 1)),some (.int i),some (.int T),some (.int od),some (bm u)] h2:=by
    rw [hu];exact aZ (aY (aY rfl rfl rfl rfl) rfl rfl (vv W hi))
  have fd:=AI (ss:=w.stays) (i:=i) (W.s.symm ▸ hi)
  rw [← hu] at fd
  have s5:∃ u':Option Int,(u'=none∨u'=some 0∨u'=some 1)∧free (ss++[u']) + free (w.stays.drop (i + 1))≤8∧sIf (tE (ak oEq (aa 9) (fC (.int 0)))) (aK (gN 9) (fIx (af (fC .non) (af (fC (.int 1)) ap)) (iK (ak oGt (ak bH (eB (aa 5) (fC .non)) (fz (eQ (fAt (aa 0) (fC (.int 2))) (pAt (aa 6)) pNo) (fC .non))) (fC (.int 7)))))) bI [some w.enc,some (.ref (1 + n)),some (.ref 0),some (.int way),some (.ref A),some (.ref (A + 1)),some (.int i),some (.int T),some (.int od),some (bm u)] h2=.nx [some w.enc,some (.ref (1 + n)),some (.ref 0),some (.int way),some (.ref A),some (.ref (A + 1)),some (.int i),some (.int T),some (.int od),some (bm u')] h2:=by
    have t:=CG u h2
    by_cases e:u=some 0
    · rw [decide_eq_true e] at t
      rw [if_neg (by rw [e];exact fun z=>by cases z),Nat.zero_add] at fd
      obtain⟨σ,hσ⟩ : ∃ σ:Sd,σ = [some w.enc,some (.ref (1 + n)),some (.ref 0),some (.int way),some (.ref A),some (.ref (A + 1)),some (.int i),some (.int T),some (.int od),some (bm u)]:=⟨_,rfl⟩
      have c1:eB (aa 5) (fC .non) σ h2=.ok (.int (free ss)) h2:=lG (by rw [hσ];rfl) hs2
      have c2:fz (eQ (fAt (aa 0) (fC (.int 2))) (pAt (aa 6)) pNo) (fC .non) σ h2=.ok (.int (free (w.stays.drop i))) h2:=by
        have p1:fAt (aa 0) (fC (.int 2)) σ h2=.ok (.tup (w.stays.map bm)) h2:=by rw [hσ];exact aY rfl rfl rfl rfl
        have p2:pAt (aa 6) σ h2=.ok (some (i:Int)) h2:=by rw [hσ];rfl
        have p3:eQ (fAt (aa 0) (fC (.int 2))) (pAt (aa 6)) pNo σ h2=.ok (.tup ((w.stays.drop i).map bm)) h2:=by
          unfold eQ
          rw [p1,aT,p2,aT]
          show Res.ok (D.tup (cut (w.stays.map bm) (some (i:Int)) none)) h2=_
          rw [CH (by rw [List.length_map,W.s];exact Nat.le_of_lt hi),List.map_drop]
        unfold fz
        rw [p3]
        show (if (bK .non && ((w.stays.drop i).map bm).all bK)=true then _ else _)=_
        rw [qK,oh];rfl
      have c3:ak bH (eB (aa 5) (fC .non)) (fz (eQ (fAt (aa 0) (fC (.int 2))) (pAt (aa 6)) pNo) (fC .non)) σ h2=.ok (.int ((free ss:Int) + (free (w.stays.drop i):Nat))) h2:=ay c1 c2 rfl
      rw [← hσ]
      by_cases g:(7:Int) < (free ss:Int) + (free (w.stays.drop i):Nat)
      · refine⟨some 1,.inr (.inr rfl),by rw [lJ,if_neg (fun z=>by cases z)];omega,?_⟩
        have c4:fIx (af (fC .non) (af (fC (.int 1)) ap)) (iK (ak oGt (ak bH (eB (aa 5) (fC .non)) (fz (eQ (fAt (aa 0) (fC (.int 2))) (pAt (aa 6)) pNo) (fC .non))) (fC (.int 7)))) σ h2=.ok (.int 1) h2:=Cb (bS rfl rfl) (iZ (ay c3 rfl (sj g))) rfl
        refine (ky (bg (ay (by rw [hσ];rfl) rfl t))).trans ((aZ c4).trans ?_)
        rw [hσ];rfl
      · refine⟨none,.inl rfl,by rw [lJ,if_pos rfl];omega,?_⟩
        have c4:fIx (af (fC .non) (af (fC (.int 1)) ap)) (iK (ak oGt (ak bH (eB (aa 5) (fC .non)) (fz (eQ (fAt (aa 0) (fC (.int 2))) (pAt (aa 6)) pNo) (fC .non))) (fC (.int 7)))) σ h2=.ok .non h2:=Cb (bS rfl rfl) (iZ (ay c3 rfl (sk g))) rfl
        refine (ky (bg (ay (by rw [hσ];rfl) rfl t))).trans ((aZ c4).trans ?_)
        rw [hσ];rfl
    · rw [decide_eq_false e] at t
      exact⟨u,ou,by rw [lJ];omega,(d0 (bg (ay rfl rfl t))).trans rfl⟩
  obtain⟨u',ou',fr',s5⟩:=s5
  obtain⟨h3,hh3⟩ : ∃ h3,h3=h2.set (A + 1) (.lst (ss.map bm++[bm u'])):=⟨_,rfl⟩
  have s6:eC (eD (aa 5) (aa 9)) [some w.enc,some (.ref (1 + n)),some (.ref 0),some (.int way),some (.ref A),some (.ref (A + 1)),some (.int i),some (.int T),some (.int od),some (bm u')] h2=.nx [some w.enc,some (.ref (1 + n)),some (.ref 0),some (.int way),some (.ref A),some (.ref (A + 1)),some (.int i),some (.int T),some (.int od),some (bm u')] h3:=by
    rw [hh3]
    exact ib (iY rfl hs2 rfl hs2 (by rw [List.length_map,ls];exact Nat.lt_of_lt_of_le hi (Nat.le_trans n30 (by decide))))
  refine⟨_,_,(aE s1).trans ((aE s2).trans ((aE s3).trans ((aE s4).trans ((aE s5).trans s6)))),⟨bs++[v],ss++[u'],_,_,_,_,rfl,?_,?_,by simp [lb],by simp [ls],fun x hx => ?_,fr'⟩,?_,?_,?_⟩
  · rw [hh3,List.getElem?_set_ne (by omega)];exact hb2
  · rw [hh3,List.getElem?_set_self (by omega),List.map_append];rfl
  · rcases List.mem_append.mp hx with hx|hx
    · exact os x hx
    · rw [List.mem_singleton.mp hx];exact ou'
  · rw [hh3,List.length_set];exact len2
  · exact⟨fun j hj=>by rw [hh3,List.getElem?_set_ne (by omega)];exact sh2.st j hj,by rw [hh3,List.getElem?_set_ne (by omega)];exact sh2.sts⟩
  · obtain⟨z,ez⟩:=hd2
    exact⟨z,by rw [hh3,List.getElem?_set_ne (by omega)];exact ez⟩
structure CJ (w w2:Web) (n:Nat) (h:Hd):Prop where
  ok:w2.Ok n
  st:cN w2
  fr:free w2.stays≤8
  ti:w2.ties=w.ties
  sh:SH 1 n h
  hd:∃ x,h[0]? = some (.lst [.int x])
theorem AJ (W:w.Ok n)(n30:n≤30)(S:cN w)(fr:free w.stays≤8)(wt:∀ r∈w.ties,∀ p∈r,1≤p.2∧p.2≤400)(ris:∀ r∈w.ties,r.Pairwise fun p q=>p.1 < q.1){h:Hd}(sh:SH 1 n h)(hd:∃ x,h[0]? = some (.lst [.int x])):∃ w2 h',ge [w.enc,.ref (1 + n),.ref 0] h=.ok w2.enc h'∧CJ w w2 n h':=by
  obtain⟨x,hx⟩:=hd
  obtain⟨A,hA⟩ : ∃ A,A=h.length:=⟨_,rfl⟩
  have lA:n + 1 < A:=by rw [hA,Nat.add_comm];exact (List.getElem?_eq_some_iff.mp sh.sts).1
  have dg:=bq hx (show (0:Int) < 3 by omega) (by decide)
  obtain⟨h1,hh1⟩ : ∃ h1,h1=h.set 0 (.lst [.int (x / 3)]):=⟨_,rfl⟩
  rw [← hh1] at dg
  have l1:h1.length=A:=by rw [hh1,List.length_set,hA]
  have sh1:SH 1 n h1:=⟨fun j hj=>by rw [hh1,List.getElem?_set_ne (by omega)];exact sh.st j hj,by rw [hh1,List.getElem?_set_ne (by omega)];exact sh.sts⟩
  have hd1:h1[0]? = some (.lst [.int (x / 3)]):=by rw [hh1];exact List.getElem?_set_self (by omega)
  have w0:0≤x % 3∧x % 3 < 3:=by omega
  generalize x % 3=way at dg w0
  have s1:aK (gN 3) (au aw (af (aa 2) (af (fC (.int 3)) ap))) [some w.enc,some (.ref (1 + n)),some (.ref 0),none,none,none,none,none,none,none] h=.nx [some w.enc,some (.ref (1 + n)),some (.ref 0),some (.int way),none,none,none,none,none,none] h1:=aZ (aD (bS rfl rfl) dg)
  by_cases e:way=0
  · have s2:sIf (tE (ak oEq (aa 3) (fC (.int 0)))) (ba (aa 0)) bI [some w.enc,some (.ref (1 + n)),some (.ref 0),some (.int way),none,none,none,none,none,none] h1=.rt w.enc h1:=(ky (bg (ay rfl rfl (xu e)))).trans (bo rfl)
    refine⟨w,h1,(bZ rfl rfl ((aE s1).trans (nT s2))).trans (lp (by omega)),⟨W,S,fr,rfl,sh1,_,hd1⟩⟩
  · have s2:sIf (tE (ak oEq (aa 3) (fC (.int 0)))) (ba (aa 0)) bI [some w.enc,some (.ref (1 + n)),some (.ref 0),some (.int way),none,none,none,none,none,none] h1=.nx [some w.enc,some (.ref (1 + n)),some (.ref 0),some (.int way),none,none,none,none,none,none] h1:=(d0 (bg (ay rfl rfl (sf e)))).trans rfl
    have s3:aK (gN 4) (bA ap) [some w.enc,some (.ref (1 + n)),some (.ref 0),some (.int way),none,none,none,none,none,none] h1=.nx [some w.enc,some (.ref (1 + n)),some (.ref 0),some (.int way),some (.ref A),none,none,none,none,none] (h1++[.lst []]):=aZ (dG l1.symm rfl (Nat.zero_le _))
    have s4:aK (gN 5) (bA ap) [some w.enc,some (.ref (1 + n)),some (.ref 0),some (.int way),some (.ref A),none,none,none,none,none] (h1++[.lst []])=.nx [some w.enc,some (.ref (1 + n)),some (.ref 0),some (.int way),some (.ref A),some (.ref (A + 1)),none,none,none,none] (h1++[.lst [],.lst []]):=aZ (nk (g:=[.lst []]) l1.symm rfl (Nat.zero_le _))
    obtain⟨σ',h',q1,I⟩:=b7 (P:=fun i σ h=>SwI w n A way i σ h) (g:=none) (k:=0) (all:=(List.range n).map fun k:Nat=>D.int k) (fun _ _ _ _=>trivial) (xs:=(List.range n).map fun k:Nat=>D.int k) (tg:=gN 6) (b:=eY) (σ:=[some w.enc,some (.ref (1 + n)),some (.ref 0),some (.int way),some (.ref A),some (.ref (A + 1)),none,none,none,none]) (h:=h1++[.lst [],.lst []]) (by
      intro i x σ h0 hx I
      obtain⟨hi,rfl⟩:=cR hx
      rw [Nat.zero_add] at I ⊢
      obtain⟨σ',h',q,I'⟩:=Ee W n30 S wt ris lA (by omega) hi I
      obtain⟨⟨bs,ss,a6,a7,a8,a9,rfl,_⟩,_⟩:=I
      exact⟨_,rfl,_,_,q,I'⟩) ⟨⟨[],[],_,_,_,_,rfl,cu l1.symm 0,cu l1.symm 1,rfl,rfl,fun _ z=>absurd z List.not_mem_nil,by rw [List.drop_zero];exact Nat.le_trans (Nat.le_of_eq (Nat.zero_add _)) fr⟩,by rw [List.length_append,l1];rfl,sh1.more _,_,dv _ hd1⟩
    rw [List.length_map,List.length_range,Nat.zero_add] at I
    obtain⟨⟨bs,ss,a6,a7,a8,a9,rfl,hb,hs,lb,ls,os,fr'⟩,len,sh',hd'⟩:=I
    have ll:((List.range n).map fun i=>D.ref (1 + i)).length=n:=by rw [List.length_map,List.length_range]
    have s5:gI (bM (ft (lOf (aa 1)))) (gN 6) eY [some w.enc,some (.ref (1 + n)),some (.ref 0),some (.int way),some (.ref A),some (.ref (A + 1)),none,none,none,none] (h1++[.lst [],.lst []])=.nx [some w.enc,some (.ref (1 + n)),some (.ref 0),some (.int way),some (.ref A),some (.ref (A + 1)),a6,a7,a8,a9] h':=jZ (f7 (gy (dJ rfl (bP (sh1.more _).sts))) (by rw [ll];exact Nat.le_trans n30 (by decide))) (by rw [ll];exact q1)
    obtain⟨w2,hw2⟩ : ∃ w2:Web,w2=⟨w.ties,bs,ss⟩:=⟨_,rfl⟩
    have s6:ba (fQ (af (fAt (aa 0) (fC (.int 0))) (af (cC (lOf (aa 4))) (af (cC (lOf (aa 5))) ap)))) [some w.enc,some (.ref (1 + n)),some (.ref 0),some (.int way),some (.ref A),some (.ref (A + 1)),a6,a7,a8,a9] h'=.rt w2.enc h':=by
      rw [hw2]
      exact bo (jX (bd (aY rfl rfl rfl rfl) (bS (jx (dJ rfl (bP hb))) (jx (dJ rfl (bP hs))))))
    have O:∀ h2,SH 1 n h2→(∃ x,h2[0]? = some (.lst [.int x]))→CJ w w2 n h2:=fun h2 a b=>by
      refine⟨?_,by rw [hw2];exact os,?_,by rw [hw2],a,b⟩
      · rw [hw2];exact⟨W.t,lb,ls,W.lt,W.sz⟩
      · rw [hw2];exact Nat.le_trans (Nat.le_add_right _ _) fr'
    have fin:∃ h2,letGo h (.ok w2.enc h')=.ok w2.enc h2∧CJ w w2 n h2:=by
      unfold letGo
      dsimp only
      split
      · obtain⟨z,ez⟩:=hd'
        exact⟨_,rfl,O _ (sh'.take (by omega)) ⟨z,by rw [List.getElem?_take_of_lt (by omega)];exact ez⟩⟩
      · exact⟨_,rfl,O _ sh' hd'⟩
    obtain⟨h2,f,o⟩:=fin
    exact⟨w2,h2,(bZ rfl rfl ((aE s1).trans ((aE s2).trans ((aE s3).trans ((aE s4).trans ((aE s5).trans s6)))))).trans f,o⟩
end
end Fm
set_option linter.all false
namespace Fm
structure Go (w:Web) (n:Nat):Prop where
  W:w.Ok n
  n30:n≤30
  S:cN w
  fin:∀ s,cZ w n s → ∃ t,az w n s (t + 2)=az w n s t∧(∀ k,k < t→az w n s (k + 2)≠az w n s k)∧t≤900000
noncomputable abbrev XL (s0 s1:Option D) (m:Nat) (s3:Option D) (w:D) (s5 s6 a7 a8 a9 a10 a11 a12:Option D):Sd:=[s0,s1,some (.ref m),s3,some w,s5,s6,a7,a8,a9,a10,a11,a12]
section
variable {w:Web} {n B:Nat}
theorem xU (W:w.Ok n){l:List Nat}{r:Nat}{h:Hd}(hr:h[r]? = some (.lst (NL l))):bX none ((List.range n).map fun k:Nat=>D.int k) (gN 0) [] (iK (fT (tOr (tE (ak oIn (aa 0) (aa 1))) (tE (ak oEq (fAt (fAt (aa 2) (fC (.int 2))) (aa 0)) (fC (.int 1))))))) ((List.range n).map fun k:Nat=>D.int k) [none,some (.ref r),some w.enc] h=.ok ((fB w n l).map .int) h:=by
  have:=bw (g:=none) (all:=(List.range n).map fun k:Nat=>D.int k) (tg:=gN 0) (cs:=[]) (e:=iK (fT (tOr (tE (ak oIn (aa 0) (aa 1))) (tE (ak oEq (fAt (fAt (aa 2) (fC (.int 2))) (aa 0)) (fC (.int 1))))))) (h:=h) (I:=fun σ=>∃ a,σ = [a,some (.ref r),some w.enc]) (fun _=>true) (fun d=>match d with | .int i=>.int (if i.toNat∈l∨w.stays.getD i.toNat none=some 1 then 1 else 0)|_=>.non) trivial (xs:=(List.range n).map fun k:Nat=>D.int k) (σ:=[none,some (.ref r),some w.enc]) (by
    rintro x hx σ ⟨a,rfl⟩
    obtain⟨i,hi,rfl⟩:=List.mem_map.mp hx
    have hi:=List.mem_range.mp hi
    refine⟨_,rfl,⟨_,rfl⟩,rfl,fun _ => ?_⟩
    show _=Res.ok (D.int (if ((i:Int)).toNat∈l∨w.stays.getD ((i:Int)).toNat none=some 1 then 1 else 0)) h
    rw [Int.toNat_natCast]
    have t1:tE (ak oIn (aa 0) (aa 1)) [some (.int i),some (.ref r),some w.enc] h=.ok (decide (i∈l)) h:=bg (ay rfl rfl (EK hr i))
    have t2:tE (ak oEq (fAt (fAt (aa 2) (fC (.int 2))) (aa 0)) (fC (.int 1))) [some (.int i),some (.ref r),some w.enc] h=.ok (decide (w.stays.getD i none=some 1)) h:=bg (ay (aY (aY rfl rfl rfl rfl) rfl rfl (vv W hi)) rfl (vt _ _))
    by_cases c1:i∈l
    · rw [decide_eq_true c1] at t1
      rw [if_pos (.inl c1)]
      exact iZ (u4 (Cc t1))
    · rw [decide_eq_false c1] at t1
      by_cases c2:w.stays.getD i none=some 1
      · rw [decide_eq_true c2] at t2
        rw [if_pos (.inr c2)]
        exact iZ (u4 (iD t1 t2))
      · rw [decide_eq_false c2] at t2
        rw [if_neg (fun z=>z.elim c1 c2)]
        exact iZ (u4 (iD t1 t2))) ⟨_,rfl⟩
  rw [this,List.filter_eq_self.mpr (fun _ _=>rfl),List.map_map]
  unfold fB
  rw [List.map_map];rfl
theorem vB (b:List Int)(h:Hd):bX none (b.map .int) (gN 0) [] (cX .bool (aa 0)) (b.map .int) [none] h=.ok (b.map fun _=>D.bl false) h:=by
  have:=bw (g:=none) (all:=b.map .int) (tg:=gN 0) (cs:=[]) (e:=cX .bool (aa 0)) (h:=h) (I:=fun σ=>∃ a,σ = [a]) (fun _=>true) (fun d=>.bl false) trivial (xs:=b.map .int) (σ:=[none]) (by
    rintro x hx σ ⟨a,rfl⟩
    obtain⟨i,hi,rfl⟩:=List.mem_map.mp hx
    exact⟨_,rfl,⟨_,rfl⟩,rfl,fun _=>rfl⟩) ⟨_,rfl⟩
  rw [this,List.filter_eq_self.mpr (fun _ _=>rfl),List.map_map];rfl
theorem Ef {b:List Int}{k:Nat}{h:Hd}(hk:h[k]? = some (.lst (b.map fun _=>D.bl false))):oIn (.bl true) (.ref k) h=.ok (.bl false) h:=by
  have f:(b.map fun _=>D.bl false).all bK=true:=by
    rw [List.all_eq_true];intro x hx;obtain⟨j,_,rfl⟩:=List.mem_map.mp hx;rfl
  have a:((b.map fun _=>D.bl false).any fun z=>eqF z (.bl true))=false:=by
    rw [List.any_eq_false]
    intro y hy z
    obtain⟨j,hj,rfl⟩:=List.mem_map.mp hy
    cases z
  simp only [oIn,inL,fR,hk,bK,f,Bool.and_self,if_true,a]
theorem CK (G:Go w n){hL g:Hd}(sh:SH B n hL){r:Nat}{l:List Nat}(hr:hL[r]? = some (.lst (NL l)))(C:Ch w n l)(s0 s1 s3 s5 s6 a8 a9 a10 a11 a12:Option D) :
    ∃ b8 b9 b10 b11 b12 g',xD (XL s0 s1 (B + n) s3 w.enc s5 s6 (some (.ref r)) a8 a9 a10 a11 a12) (hL++g)=.nx (XL s0 s1 (B + n) s3 w.enc s5 s6 (some (.ref r)) b8 b9 b10 b11 b12) (hL++g'):=by
  obtain⟨b,hb⟩ : ∃ b,b=fB w n l:=⟨_,rfl⟩
  have Fb:=qM G.W G.S C
  obtain⟨t,ht,hm,hz⟩:=G.fin _ Fb
  have L:∀ k,(az w n (fB w n l) k).length=n:=fun k=>(a4 G.W G.S Fb k).len
  have same:=CF L t
  obtain⟨h0,hh0⟩ : ∃ h0,h0=hL++g:=⟨_,rfl⟩
  rw [← hh0]
  have hr0:h0[r]? = some (.lst (NL l)):=by rw [hh0];exact dv _ hr
  have sh0:SH B n h0:=by rw [hh0];exact sh.more _
  obtain⟨N,hN⟩ : ∃ N,N=h0.length:=⟨_,rfl⟩
  have lenl:(NL l).length≤30:=by rw [List.length_map];exact Nat.le_trans (Cw C) G.n30
  have ll:((List.range n).map fun i=>D.ref (B + i)).length=n:=by rw [List.length_map,List.length_range]
  obtain⟨W',hW'⟩ : ∃ x:D,x=ow w n (fB w n l) t:=⟨_,rfl⟩
  obtain⟨LE,hLE⟩ : ∃ x:List (List Int),x=vx w n (fB w n l) t:=⟨_,rfl⟩
  obtain⟨LD,hLD⟩ : ∃ x:List (List Int),x=xS w n (fB w n l) t:=⟨_,rfl⟩
  obtain⟨cs,hcs⟩ : ∃ x:dm,x=.lst ((aA w n (fB w n l) (t + 2)).map aj):=⟨_,rfl⟩
  obtain⟨cg,hcg⟩ : ∃ x:dm,x=.lst ((aA w n (fB w n l) (t + 3)).map aj):=⟨_,rfl⟩
  rw [← hW',← hLE,← hLD] at same
  have du:∀ (h:Hd) {A:Nat},A=h.length→ii [w.enc,aj (fB w n l)] h=.ok (.tup [W',.ref (A + 1)]) (h++[cg,.lst (LD.map aj)]):=fun h {A} hA=>by
    rw [hW',hLD,hcg];exact F7 G.W G.S G.n30 Fb ht hm hz hA
  have ta:∀ (h:Hd) {A k:Nat},h[k]? = some (.lst (NL l))→A=h.length→cy [w.enc,.ref k] h=.ok (.tup [W',.ref (A + 1)]) (h++[cs,.lst (LE.map aj)]):=fun h {A k} hk hA=>by
    rw [hW',hLE,hcs];exact sO G.W G.n30 G.S C hk hA ht hm hz
  have be:∀ (h:Hd) {k:Nat},h[k]? = some (.lst (NL l))→eS [w.enc,.ref k] h=.ok (aj (fB w n l)) h:=fun h {k} hk=>vw G.W G.n30 C hk
  have s1':aK (gN 8) (cC (bz 1 [7,4] (bM (ft (lOf (aa 2)))) (gN 0) [] (iK (fT (tOr (tE (ak oIn (aa 0) (aa 1))) (tE (ak oEq (fAt (fAt (aa 2) (fC (.int 2))) (aa 0)) (fC (.int 1))))))))) (XL s0 s1 (B + n) s3 w.enc s5 s6 (some (.ref r)) a8 a9 a10 a11 a12) h0=.nx (XL s0 s1 (B + n) s3 w.enc s5 s6 (some (.ref r)) (some (aj b)) a9 a10 a11 a12) h0:=by
    rw [hb]
    exact aZ (jx (ek (f7 (gy (dJ rfl (bP sh0.sts))) (by rw [ll];exact Nat.le_trans G.n30 (by decide))) (by rw [ll];exact xU G.W hr0)))
  rw [← hb] at du be
  have hb0:∀ c:List D,(h0++[dm.lst c])=h0++[.lst c]:=fun _=>rfl
  obtain⟨c0,hc0⟩ : ∃ x:dm,x=.lst (NL l):=⟨_,rfl⟩
  obtain⟨cb,hcb⟩ : ∃ x:dm,x=.lst (b.map fun _=>D.bl false):=⟨_,rfl⟩
  obtain⟨cd,hcd⟩ : ∃ x:dm,x=.lst (LD.map aj):=⟨_,rfl⟩
  obtain⟨ce,hce⟩ : ∃ x:dm,x=.lst (LE.map aj):=⟨_,rfl⟩
  obtain⟨ce',hce'⟩ : ∃ x:dm,x=.lst (LE.map aj++[aj b]):=⟨_,rfl⟩
  obtain⟨c0',hc0'⟩ : ∃ x:dm,x=.lst (NL l++[.int 0]):=⟨_,rfl⟩
  rw [← hcd] at du
  rw [← hce] at ta
  have lb:b.length=n:=by rw [hb];exact Fb.len
  have s2:aK (gN 9) (bA (lOf (aa 7))) (XL s0 s1 (B + n) s3 w.enc s5 s6 (some (.ref r)) (some (aj b)) a9 a10 a11 a12) h0=.nx (XL s0 s1 (B + n) s3 w.enc s5 s6 (some (.ref r)) (some (aj b)) (some (.ref N)) a10 a11 a12) (h0++[c0]):=by
    rw [hc0];exact aZ (dG hN (dJ rfl (bP hr0)) (Nat.le_trans lenl (by decide)))
  have g1:(h0++[c0])[N]? = some (.lst (NL l)):=by rw [hc0];exact cu hN 0
  have s3':aK (gN 10) (au eS (af (aa 4) (af (aa 9) ap))) (XL s0 s1 (B + n) s3 w.enc s5 s6 (some (.ref r)) (some (aj b)) (some (.ref N)) a10 a11 a12) (h0++[c0])=.nx (XL s0 s1 (B + n) s3 w.enc s5 s6 (some (.ref r)) (some (aj b)) (some (.ref N)) (some (aj b)) a11 a12) (h0++[c0]):=aZ (aD (bS rfl rfl) (be _ g1))
  have ne:∀ h,oNe (aj b) (aj b) h=.ok (.bl false) h:=fun h=>by rw [nr rfl,decide_eq_true rfl];rfl
  have nw:bA (bz 1 [] (dq (aa 10)) (gN 0) [] (cX .bool (aa 0))) (XL s0 s1 (B + n) s3 w.enc s5 s6 (some (.ref r)) (some (aj b)) (some (.ref N)) (some (aj b)) a11 a12) (h0++[c0])=.ok (.ref (N + 1)) (h0++[c0,cb]):=by
    rw [hcb]
    exact nk (g:=[c0]) hN (ek (i0 rfl) (vB b _)) (by rw [List.length_map,lb];exact Nat.le_trans G.n30 (by decide))
  have g2:(h0++[c0,cb])[N + 1]? = some (.lst (b.map fun _=>D.bl false)):=by rw [hcb];exact cu hN 1
  have s4:sIf (tOr (dZ (tE (cX .tuple (aa 10)))) (tOr (tE (ak oNe (aa 10) (aa 8))) (tE (ak oIn (fC (.bl true)) (bA (bz 1 [] (dq (aa 10)) (gN 0) [] (cX .bool (aa 0)))))))) (ba (fC (.bl false))) bI (XL s0 s1 (B + n) s3 w.enc s5 s6 (some (.ref r)) (some (aj b)) (some (.ref N)) (some (aj b)) a11 a12) (h0++[c0])=.nx (XL s0 s1 (B + n) s3 w.enc s5 s6 (some (.ref r)) (some (aj b)) (some (.ref N)) (some (aj b)) a11 a12) (h0++[c0,cb]) :=
    (d0 (iD (eF (b:=true) (bg rfl)) (iD (bg (ay rfl rfl (ne _))) (bg (ay rfl nw (Ef g2)))))).trans rfl
  have s5':aK (gN 11) (au ii (af (aa 4) (af (aa 8) ap))) (XL s0 s1 (B + n) s3 w.enc s5 s6 (some (.ref r)) (some (aj b)) (some (.ref N)) (some (aj b)) a11 a12) (h0++[c0,cb])=.nx (XL s0 s1 (B + n) s3 w.enc s5 s6 (some (.ref r)) (some (aj b)) (some (.ref N)) (some (aj b)) (some (.tup [W',.ref (N + 3)])) a12) (h0++[c0,cb,cg,cd]):=by
    have:=du (h0++[c0,cb]) (A:=N + 2) (by rw [List.length_append,← hN];rfl)
    rw [List.append_assoc] at this
    exact aZ (aD (bS rfl rfl) this)
  have g4:(h0++[c0,cb,cg,cd])[N]? = some (.lst (NL l)):=by rw [hc0];exact cu hN 0
  have s6':aK (gN 12) (au cy (af (aa 4) (af (aa 9) ap))) (XL s0 s1 (B + n) s3 w.enc s5 s6 (some (.ref r)) (some (aj b)) (some (.ref N)) (some (aj b)) (some (.tup [W',.ref (N + 3)])) a12) (h0++[c0,cb,cg,cd])=.nx (XL s0 s1 (B + n) s3 w.enc s5 s6 (some (.ref r)) (some (aj b)) (some (.ref N)) (some (aj b)) (some (.tup [W',.ref (N + 3)])) (some (.tup [W',.ref (N + 5)]))) (h0++[c0,cb,cg,cd,cs,ce]):=by
    have:=ta (h0++[c0,cb,cg,cd]) (A:=N + 4) g4 (by rw [List.length_append,← hN];rfl)
    rw [List.append_assoc] at this
    exact aZ (aD (bS rfl rfl) this)
  have g5:(h0++[c0,cb,cg,cd,cs,ce])[N]? = some (.lst (NL l)):=by rw [hc0];exact cu hN 0
  have g6:(h0++[c0,cb,cg,cd,cs,ce])[N + 3]? = some (.lst (LD.map aj)):=by rw [hcd];exact cu hN 3
  have g7:(h0++[c0,cb,cg,cd,cs,ce])[N + 5]? = some (.lst (LE.map aj)):=by rw [hce];exact cu hN 5
  have g8:(h0++[c0,cb,cg,cd,cs,ce])[r]? = some (.lst (NL l)):=dv _ hr0
  have q7:=EM g7 g6 same
  have s7:sIf (tOr (dZ (tE (au i7 (af (aa 12) (af (aa 11) ap))))) (tE (ak oNe (aa 9) (aa 7)))) (ba (fC (.bl false))) bI (XL s0 s1 (B + n) s3 w.enc s5 s6 (some (.ref r)) (some (aj b)) (some (.ref N)) (some (aj b)) (some (.tup [W',.ref (N + 3)])) (some (.tup [W',.ref (N + 5)]))) (h0++[c0,cb,cg,cd,cs,ce])=.nx (XL s0 s1 (B + n) s3 w.enc s5 s6 (some (.ref r)) (some (aj b)) (some (.ref N)) (some (aj b)) (some (.tup [W',.ref (N + 3)])) (some (.tup [W',.ref (N + 5)]))) (h0++[c0,cb,cg,cd,cs,ce]) :=
    (d0 (iD (eF (b:=true) (bg (aD (bS rfl rfl) q7))) (bg (ay rfl rfl (Eb g5 g8 (F8 l)))))).trans rfl
  have lE:(LE.map aj).length < SZ:=by
    rw [List.length_map,hLE];unfold vx
    split
    · split
      · exact of_decide_eq_true rfl
      · rw [de];exact Nat.lt_of_le_of_lt (Nat.add_le_add_right hz 1) (by decide)
    · exact of_decide_eq_true rfl
  have s8:eC (eD (fAt (aa 12) (fC (.int 1))) (aa 8)) (XL s0 s1 (B + n) s3 w.enc s5 s6 (some (.ref r)) (some (aj b)) (some (.ref N)) (some (aj b)) (some (.tup [W',.ref (N + 3)])) (some (.tup [W',.ref (N + 5)]))) (h0++[c0,cb,cg,cd,cs,ce])=.nx (XL s0 s1 (B + n) s3 w.enc s5 s6 (some (.ref r)) (some (aj b)) (some (.ref N)) (some (aj b)) (some (.tup [W',.ref (N + 3)])) (some (.tup [W',.ref (N + 5)]))) (h0++[c0,cb,cg,cd,cs,ce']):=by
    refine (ib (iY (aY rfl rfl rfl rfl) g7 rfl g7 lE)).trans ?_
    rw [si hN 5,hce'];rfl
  have k5:(h0++[c0,cb,cg,cd,cs,ce'])[N]? = some (.lst (NL l)):=by rw [hc0];exact cu hN 0
  have s9:eC (eD (aa 9) (fC (.int 0))) (XL s0 s1 (B + n) s3 w.enc s5 s6 (some (.ref r)) (some (aj b)) (some (.ref N)) (some (aj b)) (some (.tup [W',.ref (N + 3)])) (some (.tup [W',.ref (N + 5)]))) (h0++[c0,cb,cg,cd,cs,ce'])=.nx (XL s0 s1 (B + n) s3 w.enc s5 s6 (some (.ref r)) (some (aj b)) (some (.ref N)) (some (aj b)) (some (.tup [W',.ref (N + 3)])) (some (.tup [W',.ref (N + 5)]))) (h0++[c0',cb,cg,cd,cs,ce']):=by
    refine (ib (iY rfl k5 rfl k5 (Nat.lt_of_le_of_lt lenl (by decide)))).trans ?_
    rw [show N=N + 0 from rfl,si hN 0,hc0'];rfl
  have k8:(h0++[c0',cb,cg,cd,cs,ce'])[r]? = some (.lst (NL l)):=dv _ hr0
  have t10:=ta (h0++[c0',cb,cg,cd,cs,ce']) (A:=N + 6) k8 (by rw [List.length_append,← hN];rfl)
  rw [List.append_assoc] at t10
  have k6:(h0++[c0',cb,cg,cd,cs,ce',cs,ce])[N + 3]? = some (.lst (LD.map aj)):=by rw [hcd];exact cu hN 3
  have k7:(h0++[c0',cb,cg,cd,cs,ce',cs,ce])[N + 7]? = some (.lst (LE.map aj)):=by rw [hce];exact cu hN 7
  have q10:=EM k7 k6 same
  have s10:sIf (dZ (tE (au i7 (af (au cy (af (aa 4) (af (aa 7) ap))) (af (aa 11) ap))))) (ba (fC (.bl false))) bI (XL s0 s1 (B + n) s3 w.enc s5 s6 (some (.ref r)) (some (aj b)) (some (.ref N)) (some (aj b)) (some (.tup [W',.ref (N + 3)])) (some (.tup [W',.ref (N + 5)]))) (h0++[c0',cb,cg,cd,cs,ce'])=.nx (XL s0 s1 (B + n) s3 w.enc s5 s6 (some (.ref r)) (some (aj b)) (some (.ref N)) (some (aj b)) (some (.tup [W',.ref (N + 3)])) (some (.tup [W',.ref (N + 5)]))) (h0++[c0',cb,cg,cd,cs,ce',cs,ce]) :=
    (d0 (eF (b:=true) (bg (aD (bS (aD (bS rfl rfl) t10) rfl) q10)))).trans rfl
  refine⟨some (aj b),some (.ref N),some (aj b),some (.tup [W',.ref (N + 3)]),some (.tup [W',.ref (N + 5)]),g++[c0',cb,cg,cd,cs,ce',cs,ce],(aE s1').trans ((aE s2).trans ((aE s3').trans ((aE s4).trans ((aE s5').trans ((aE s6').trans ((aE s7).trans ((aE s8).trans ((aE s9).trans (s10.trans ?_)))))))))⟩
  rw [hh0,List.append_assoc]
end
end Fm
set_option linter.all false
namespace Fm
section
variable {w:Web} {n B:Nat}
theorem Ch.sub {l l':List Nat}(C:Ch w n l)(s:l'.Sublist l):Ch w n l':=⟨C.up.sublist s,fun p hp=>C.lt p (s.subset hp),fun p hp=>C.no p (s.subset hp)⟩
def evL (w:Web) (n:Nat):List Nat:=(List.range n).filter fun i=>decide (w.stays.getD i none≠some 0)
theorem F9:Ch w n (evL w n):=by
  refine⟨?_,fun p hp => ?_,fun p hp => ?_⟩
  · exact (List.pairwise_lt_range).sublist List.filter_sublist
  · exact List.mem_range.mp (List.mem_filter.mp hp).1
  · exact of_decide_eq_true (List.mem_filter.mp hp).2
theorem AK (W:w.Ok n)(h:Hd):bX none ((List.range n).map fun k:Nat=>D.int k) (gN 0) [(tE (ak oNe (fAt (fAt (aa 1) (fC (.int 2))) (aa 0)) (fC (.int 0))))] (aa 0) ((List.range n).map fun k:Nat=>D.int k) [none,some w.enc] h=.ok (NL (evL w n)) h:=by
  have:=bw (g:=none) (all:=(List.range n).map fun k:Nat=>D.int k) (tg:=gN 0) (cs:=[(tE (ak oNe (fAt (fAt (aa 1) (fC (.int 2))) (aa 0)) (fC (.int 0))))]) (e:=aa 0) (h:=h) (I:=fun σ=>∃ x,σ = [x,some w.enc]) (fun d=>match d with | .int i=>decide (w.stays.getD i.toNat none≠some 0)|_=>false) (fun d=>d) trivial (xs:=(List.range n).map fun k:Nat=>D.int k) (σ:=[none,some w.enc]) (by
    rintro x hx σ ⟨u,rfl⟩
    obtain⟨i,hi,rfl⟩:=List.mem_map.mp hx
    have hi:=List.mem_range.mp hi
    refine⟨_,rfl,⟨_,rfl⟩,qF ?_,fun _=>rfl⟩
    show _=Res.ok (decide (w.stays.getD i none≠some 0)) h
    exact bg (ay (aY (aY rfl rfl rfl rfl) rfl rfl (vv W hi)) rfl (sM _ _))) ⟨_,rfl⟩
  rw [this,List.map_id',List.filter_map]
  rfl
theorem Eg (l:List D):cut l none (some 1)=l.take 1:=by
  cases l with
  | nil=>rfl
  | cons x l =>
    have:=CA (l:=x :: l) (k:=1) (Nat.succ_le_succ (Nat.zero_le _))
    exact this
structure EN (w:Web) (n B:Nat) (kL:Nat) (h:Hd):Prop where
  sh:SH B n h
  li:∃ xs:List D,h[kL]? = some (.lst xs) ∧ ∀ x∈xs,∃ r l,x=.ref r∧h[r]? = some (.lst (NL l))∧Ch w n l
theorem CL (G:Go w n){h:Hd}(sh:SH B n h)(s0 s1 s3:Option D):∃ a5 kL hL,aB n4 sA (XL s0 s1 (B + n) s3 w.enc none none none none none none none none) h=.nx (XL s0 s1 (B + n) s3 w.enc a5 (some (.ref kL)) none none none none none none) hL∧EN w n B kL hL:=by
  obtain⟨A,hA⟩ : ∃ A,A=h.length:=⟨_,rfl⟩
  have ll:((List.range n).map fun i=>D.ref (B + i)).length=n:=by rw [List.length_map,List.length_range]
  have lA:B + n < A:=by rw [hA];exact (List.getElem?_eq_some_iff.mp sh.sts).1
  have CE:Ch w n (evL w n):=F9
  have lE:(NL (evL w n)).length≤SZ:=by rw [List.length_map];exact Nat.le_trans (Cw CE) (Nat.le_trans G.n30 (by decide))
  have s1':n4 (XL s0 s1 (B + n) s3 w.enc none none none none none none none none) h=.nx (XL s0 s1 (B + n) s3 w.enc (some (.ref A)) none none none none none none none) (h++[.lst (NL (evL w n))]) :=
    aZ (dG hA (ek (f7 (gy (dJ rfl (bP sh.sts))) (by rw [ll];exact Nat.le_trans G.n30 (by decide))) (by rw [ll];exact AK G.W h)) lE)
  obtain⟨h0,hh0⟩ : ∃ h0,h0=h++[dm.lst (NL (evL w n))]:=⟨_,rfl⟩
  rw [← hh0] at s1'
  have len0:h0.length=A + 1:=by rw [hh0,List.length_append,← hA];rfl
  have e0:h0[A]? = some (.lst (NL (evL w n))):=by rw [hh0];exact eR hA _
  have sh0:SH B n h0:=by rw [hh0];exact sh.more _
  obtain⟨l1,h1,r1,len1,C1,sh1,k1,o1⟩:=zU G.W G.n30 sh0 (A:=A + 1) len0.symm (by omega)
  have e1:h1[A]? = some (.lst (NL (evL w n))):=by rw [o1 A (by omega) (by omega)];exact e0
  obtain⟨l2,h2,r2,len2,C2,sh2,k2,o2⟩:=zU G.W G.n30 sh1 (A:=A + 2) len1.symm (by omega)
  have e2:h2[A]? = some (.lst (NL (evL w n))):=by rw [o2 A (by omega) (by omega)];exact e1
  have k12:h2[A + 1]? = some (.lst (NL l1)):=by rw [o2 (A + 1) (by omega) (by omega)];exact k1
  have l2':A + 3=h2.length:=len2.symm
  obtain⟨c1,hc1⟩ : ∃ x:dm,x=.lst (NL ((evL w n).take 1)):=⟨_,rfl⟩
  obtain⟨c2,hc2⟩ : ∃ x:dm,x=.lst (NL ((evL w n).drop ((evL w n).length - 1))):=⟨_,rfl⟩
  have X:=XL s0 s1 (B + n) s3 w.enc (some (.ref A)) none none none none none none none
  have n3:bA ap (XL s0 s1 (B + n) s3 w.enc (some (.ref A)) none none none none none none none) h2=.ok (.ref (A + 3)) (h2++[.lst []]):=dG l2' rfl (Nat.zero_le _)
  have n5:cW (aa 5) pNo (pAt (fC (.int 1))) (XL s0 s1 (B + n) s3 w.enc (some (.ref A)) none none none none none none none) (h2++[.lst []])=.ok (.ref (A + 4)) (h2++[.lst [],c1]):=by
    have:=gQ (a:=aa 5) (lo:=pNo) (hi:=pAt (fC (.int 1))) (σ:=XL s0 s1 (B + n) s3 w.enc (some (.ref A)) none none none none none none none) (h:=h2++[.lst []]) rfl rfl rfl (dv _ e2)
    rw [Eg,← List.map_take,List.append_assoc,List.length_append,← l2',← hc1] at this
    exact this
  have n6:cW (aa 5) (pAt (fC (.int (-1)))) pNo (XL s0 s1 (B + n) s3 w.enc (some (.ref A)) none none none none none none none) (h2++[.lst [],c1])=.ok (.ref (A + 5)) (h2++[.lst [],c1,c2]):=by
    have:=gQ (a:=aa 5) (lo:=pAt (fC (.int (-((1:Nat):Int))))) (hi:=pNo) (σ:=XL s0 s1 (B + n) s3 w.enc (some (.ref A)) none none none none none none none) (h:=h2++[.lst [],c1]) rfl rfl rfl (dv _ e2)
    rw [oq (Nat.le_refl 1),List.length_map,← List.map_drop,List.append_assoc,List.length_append,← l2',← hc2] at this
    exact this
  obtain⟨xs,hxs⟩ : ∃ xs:List D,xs=[.ref (A + 1),.ref (A + 2),.ref (A + 3),.ref A,.ref (A + 4),.ref (A + 5)]:=⟨_,rfl⟩
  have s2:sA (XL s0 s1 (B + n) s3 w.enc (some (.ref A)) none none none none none none none) h0=.nx (XL s0 s1 (B + n) s3 w.enc (some (.ref A)) (some (.ref (A + 6))) none none none none none none) (h2++[.lst [],c1,c2,.lst xs]):=by
    rw [hxs]
    exact aZ (nk (g:=[.lst [],c1,c2]) l2' (bd (aD (bS rfl rfl) r1) (bd (aD (bS rfl rfl) r2) (bd n3 (bd rfl (bS n5 n6))))) (of_decide_eq_true rfl))
  refine⟨_,_,_,(aE s1').trans s2,sh2.more _,xs,cu l2' 3,fun x hx => ?_⟩
  rw [hxs] at hx
  simp only [List.mem_cons,List.not_mem_nil,or_false] at hx
  rcases hx with rfl|rfl|rfl|rfl|rfl|rfl
  · exact⟨_,l1,rfl,dv _ k12,C1⟩
  · exact⟨_,l2,rfl,dv _ k2,C2⟩
  · exact⟨_,[],rfl,cu l2' 0,⟨.nil,fun _ z=>absurd z List.not_mem_nil,fun _ z=>absurd z List.not_mem_nil⟩⟩
  · exact⟨_,_,rfl,dv _ e2,CE⟩
  · exact⟨_,_,rfl,by rw [hc1];exact cu l2' 1,CE.sub (List.take_sublist _ _)⟩
  · exact⟨_,_,rfl,by rw [hc2];exact cu l2' 2,CE.sub (List.drop_sublist _ _)⟩
theorem Eh (G:Go w n){kL:Nat}{hL:Hd}(O:EN w n B kL hL)(s0 s1 s3 s5:Option D):∃ h',aB xE xF (XL s0 s1 (B + n) s3 w.enc s5 (some (.ref kL)) none none none none none none) hL=.rt (.bl true) h':=by
  obtain⟨sh,xs,hk,li⟩:=O
  obtain⟨σ',h',q1,g,a7,a8,a9,a10,a11,a12,q2,q3⟩:=b7 (P:=fun _ σ h'=>∃ g a7 a8 a9 a10 a11 a12,h'=hL++g ∧ σ = XL s0 s1 (B + n) s3 w.enc s5 (some (.ref kL)) a7 a8 a9 a10 a11 a12) (g:=some kL) (k:=0) (all:=xs) (by
      rintro _ σ h' ⟨g,_,_,_,_,_,_,rfl,_⟩
      exact dv g hk) (xs:=xs) (tg:=gN 7) (b:=xD) (σ:=XL s0 s1 (B + n) s3 w.enc s5 (some (.ref kL)) none none none none none none) (h:=hL) (by
      rintro i x σ h0 hx ⟨g,a7,a8,a9,a10,a11,a12,rfl,rfl⟩
      obtain⟨r,l,rfl,hr,C⟩:=li x (List.mem_of_getElem? hx)
      obtain⟨b8,b9,b10,b11,b12,g',q⟩:=CK (B:=B) G (g:=g) sh hr C s0 s1 s3 s5 (some (.ref kL)) a8 a9 a10 a11 a12
      exact⟨_,rfl,_,_,q,g',_,b8,b9,b10,b11,b12,rfl,rfl⟩) ⟨[],none,none,none,none,none,none,(List.append_nil _).symm,rfl⟩
  subst q2 q3
  exact⟨_,(aE (jZ (nn rfl hk) q1)).trans (bo rfl)⟩
end
theorem AL (ns:List Int){n:Nat}(n30:n≤30)(h:Hd){A:Nat}(hA:A=h.length)(r:Option D):∃ h1,bX none ((List.range n).map fun k:Nat=>D.int k) (gN 0) [] (bA (af (au bx (af (aa 1) (af (ak bH (fC (.int 1)) (aa 0)) ap))) ap)) ((List.range n).map fun k:Nat=>D.int k) [none,some (.lit (ns.map .int))] h=.ok ((List.range n).map fun i=>.ref (A + i)) h1∧h1.length=A + n ∧ ∀ j,j < n → ∃ y,h1[A + j]? = some (.lst [.int y]):=by
  obtain⟨ds,h4,k4,l4,v4,σ4,q4,hh4,g5⟩:=f6 (g:=none) (all:=(List.range n).map fun k:Nat=>D.int k) (tg:=gN 0) (xs:=(List.range n).map fun k:Nat=>D.int k) (k:=0)
    (e:=bA (af (au bx (af (aa 1) (af (ak bH (fC (.int 1)) (aa 0)) ap))) ap)) (σ:=[none,some (.lit (ns.map .int))]) (h:=h)
    (P:=fun i σ h=>(∃ a,σ = [a,some (.lit (ns.map .int))])∧h.length=A + i ∧ ∀ j,j < i → ∃ y,h[A + j]? = some (.lst [.int y])) (V:=fun i d=>d=.ref (A + i)) (fun _ _ _ _=>trivial) (by
      rintro i x σ h0 hx ⟨⟨a,rfl⟩,hl,e1⟩
      obtain⟨hi,rfl⟩:=cR hx
      rw [Nat.zero_add] at hl e1 ⊢
      obtain⟨v,cv⟩:=nu ns (1 + i) (by omega) h0
      have ad:(((1 + i:Nat)):Int)=1 + (i:Int):=by omega
      rw [ad] at cv
      refine⟨_,rfl,.ref (A + i),h0++[.lst [.int v]],dG hl.symm (bd (aD (bS rfl (ay rfl rfl rfl)) cv) rfl) (of_decide_eq_true rfl),rfl,⟨_,rfl⟩,by rw [List.length_append,hl];rfl,fun j hj => ?_⟩
      by_cases hji:j < i
      · obtain⟨y,ey⟩:=e1 j hji
        exact⟨y,dv _ ey⟩
      · have:j=i:=by omega
        subst this
        exact⟨v,eR hl.symm _⟩) ⟨⟨_,rfl⟩,by omega,fun j hj=>by omega⟩
  rw [List.length_map,List.length_range] at l4 hh4 g5
  rw [Nat.zero_add] at hh4 g5
  have e4:ds=(List.range n).map fun i=>.ref (A + i):=ia l4 fun i d hd=>by simpa using v4 i d hd
  subst e4
  exact⟨h4,k4,hh4,g5⟩
theorem Ga (ns:List Int)(hns:ns.length≤63):∃ h,zN [.lit (ns.map .int)] []=.ok (.bl true) h:=by
  obtain⟨n,w,h1,O⟩:=F5 ns
  have e0:xC [some (.lit (ns.map .int)),none,none,none,none,none,none,none,none,none,none,none,none] []=.nx [some (.lit (ns.map .int)),some w.enc,some (.ref (1 + n)),some (.ref 0),none,none,none,none,none,none,none,none,none] h1:=by
    rw [Nat.add_comm]
    have:=aD (F:=ig) (r:=af (aa 0) ap) (σ:=[some (.lit (ns.map .int)),none,none,none,none,none,none,none,none,none,none,none,none]) (bd rfl rfl) O.run
    unfold xC aK
    rw [this];rfl
  have sh:SH 1 n h1:=⟨O.hst,by rw [Nat.add_comm];exact O.sts⟩
  obtain⟨w2,h2,r2,o2⟩:=AJ O.ok O.n30 O.st O.fr O.wt O.ris sh O.hd0
  have e1:Cm [some (.lit (ns.map .int)),some w.enc,some (.ref (1 + n)),some (.ref 0),none,none,none,none,none,none,none,none,none] h1=.nx (XL (some (.lit (ns.map .int))) (some w.enc) (1 + n) (some (.ref 0)) w2.enc none none none none none none none none) h2:=aZ (aD (bd rfl (bS rfl rfl)) r2)
  obtain⟨x,hx⟩:=o2.hd
  have dg:=bq hx (show (0:Int) < 4 by omega) (by decide)
  obtain⟨h3,hh3⟩ : ∃ h3,h3=h2.set 0 (.lst [.int (x / 4)]):=⟨_,rfl⟩
  rw [← hh3] at dg
  have sh3:SH 1 n h3:=⟨fun j hj=>by rw [hh3,List.getElem?_set_ne (by omega)];exact o2.sh.st j hj,by rw [hh3,List.getElem?_set_ne (by omega)];exact o2.sh.sts⟩
  have dg':=aD (F:=aw) (r:=af (aa 3) (af (fC (.int 4)) ap)) (σ:=XL (some (.lit (ns.map .int))) (some w.enc) (1 + n) (some (.ref 0)) w2.enc none none none none none none none none) (bS rfl rfl) dg
  have e2:∃ v m B h4,Cn (XL (some (.lit (ns.map .int))) (some w.enc) (1 + n) (some (.ref 0)) w2.enc none none none none none none none none) h2=.nx (XL (some (.lit (ns.map .int))) (some w.enc) (B + m) (some (.ref 0)) v.enc none none none none none none none none) h4∧Go v m∧SH B m h4:=by
    by_cases e:x % 4=1
    · obtain⟨c,cx⟩:=nu ns 33 (by omega) h3
      have cx:bx [.lit (ns.map .int),.int 33] h3=.ok (.int c) h3:=cx
      obtain⟨m,v,hL,l1,l2,V,S,sym,bb,bt⟩:=Ec (h:=h3++[.lst [.int c]]) (B:=h3.length) (x:=c) (by simp)
      have p1:aK (gN 4) (au gf (af (bA (af (au bx (af (aa 0) (af (fC (.int 33)) ap))) ap)) ap)) (XL (some (.lit (ns.map .int))) (some w.enc) (1 + n) (some (.ref 0)) w2.enc none none none none none none none none) h3=.nx (XL (some (.lit (ns.map .int))) (some w.enc) (1 + n) (some (.ref 0)) v.enc none none none none none none none none) hL:=aZ (aD (bd (r6 (bd (aD (bS rfl rfl) cx) rfl)) rfl) l1)
      obtain⟨A,hA⟩ : ∃ A,A=hL.length:=⟨_,rfl⟩
      obtain⟨h5,q1,q2,q3⟩:=AL ns l2 hL hA none
      have lt:(v.ties.map kx).length=m:=by rw [List.length_map,V.t]
      have p2:aK (gN 2) (bA (bz 1 [0] (bM (ft (lOf (fAt (aa 4) (fC (.int 0)))))) (gN 0) [] (bA (af (au bx (af (aa 1) (af (ak bH (fC (.int 1)) (aa 0)) ap))) ap)))) (XL (some (.lit (ns.map .int))) (some w.enc) (1 + n) (some (.ref 0)) v.enc none none none none none none none none) hL=.nx (XL (some (.lit (ns.map .int))) (some w.enc) (A + m) (some (.ref 0)) v.enc none none none none none none none none) (h5++[.lst ((List.range m).map fun i=>.ref (A + i))]) :=
        aZ (dG q2.symm (ek (f7 (gy (dJ (aY rfl rfl rfl rfl) rfl)) (by rw [lt];exact Nat.le_trans l2 (by decide))) (by rw [lt];exact q1)) (by rw [List.length_map,List.length_range];exact Nat.le_trans l2 (by decide)))
      refine⟨v,m,A,_,(ky (bg (ay dg' rfl (xu e)))).trans ((aE p1).trans p2),⟨V,l2,S,fun s F => ?_⟩,⟨fun i hi=>let ⟨y,ey⟩:=q3 i hi;⟨y,dv _ ey⟩,eR q2.symm _⟩⟩
      obtain⟨t,t1,t2⟩:=G8 V S F sym
      refine⟨t,t1,t2,?_⟩
      have dn:=zQ V S F sym t2 t (Nat.le_refl _)
      have u0:=(xT (a4 V S F 0) (a4 V S F (0 + 1)) bb bt m (Nat.le_refl _)).2
      have u1:=(xT (a4 V S F t) (a4 V S F (t + 1)) bb bt m (Nat.le_refl _)).1
      simp only [eN] at dn
      omega
    · refine⟨w2,n,1,h3,(d0 (bg (ay dg' rfl (sf e)))).trans rfl,⟨o2.ok,O.n30,o2.st,fun s F => ?_⟩,sh3⟩
      have sym:∀ f s,S2 (fun i=>w2.ties.getD i []) f s n=S2 (fun i=>w2.ties.getD i []) s f n:=by rw [o2.ti];exact O.sym
      obtain⟨t,t1,t2⟩:=G8 o2.ok o2.st F sym
      have:=D6 o2.ok o2.st F sym o2.fr t2
      exact⟨t,t1,t2,by omega⟩
  obtain⟨v,m,B,h4,e2,G,sh4⟩:=e2
  obtain⟨a5,kL,hL,e3,OL⟩:=CL G sh4 (some (.lit (ns.map .int))) (some w.enc) (some (.ref 0))
  obtain⟨h',e4⟩:=Eh G OL (some (.lit (ns.map .int))) (some w.enc) (some (.ref 0)) a5
  refine⟨[],?_⟩
  have a3:aB n4 (aB sA (aB xE xF)) (XL (some (.lit (ns.map .int))) (some w.enc) (B + m) (some (.ref 0)) v.enc none none none none none none none none) h4=.rt (.bl true) h':=by
    unfold aB at e3 e4 ⊢
    revert e3
    cases q:n4 (XL (some (.lit (ns.map .int))) (some w.enc) (B + m) (some (.ref 0)) v.enc none none none none none none none none) h4 with
    | nx σ g=>intro e3;simp only at e3 ⊢;rw [e3];exact e4
    | _=>intro e3;simp at e3
  exact (bZ rfl rfl ((aE e0).trans ((aE e1).trans ((aE e2).trans a3)))).trans (hZ rfl)
end Fm
set_option Elab.async false
set_option linter.all false
set_option maxRecDepth 100000
def PySem.W.Fast.tw90343872475197607 : Type := PySem.Params
theorem PySem.W.Fast.te90343872475197607 : PySem.Params = PySem.W.Fast.tw90343872475197607 := rfl
open PySem PySem.W PyProof.Rows
set_option maxRecDepth 100000 in
set_option maxHeartbeats 0 in
theorem PySem.Challenge.cw_followmost_k32_people_who_turn_all_holds : PySem.Challenge.rw_followmost_k32_people_who_turn_all.Holds := by
  w_on;o_law;k_head;(case hw=>w_witness2)
  k_fill
  refine Fm.G1 (l := PySem.Challenge.rw_followmost_k32_people_who_turn_all) (F := Fm.zN) (k := 8) (x := "_law_script") rfl rfl ⟨rfl, by decide, by decide⟩ (fun w h Y => PySem.W.kIn_of Y) ?F Fm.Ga
  case F =>
    intro w mg fa h KX G hmg
    refine' Fm.FY KX G hmg ?_ ?_ ?_ ?_ ?_ ?_ ?_ ?_ ?_ ?_ ?_ ?_ ?_ ?_ ?_ ?_ ?_ ?_ ?_ ?_ ?_ ?_ ?_ ?_ ?_ ?_ ?_ ?_ ?_ ?_ ?_ ?_ ?_ ?_ ?_ ?_ ?_ ?_ ?_ ?_ ?_ ?_ ?_ ?_ ?_ ?_ ?_ ?_ ?_ ?_ ?_ ?_ ?_ ?_ ?_ ?_ ?_ ?_ ?_ ?_ ?_ ?_ ?_ ?_ ?_ ?_ ?_ ?_ ?_ ?_ ?_ ?_ ?_ ?_ ?_ ?_ ?_ ?_ ?_ ?_ ?_ ?_ ?_ ?_ ?_ ?_ ?_ ?_ ?_ ?_ ?_ ?_ ?_ ?_ ?_ ?_ ?_ ?_ ?_ ?_ ?_ ?_ ?_ ?_ ?_ ?_ ?_ ?_ ?_ ?_ ?_ ?_ ?_ ?_ ?_ ?_ ?_ ?_ ?_ ?_ ?_ ?_ ?_ ?_ ?_ ?_ ?_ ?_ ?_ ?_ ?_ ?_ ?_ ?_ ?_ ?_ ?_ ?_ ?_
    all_goals try first|k_is|k_exc|kit_is
