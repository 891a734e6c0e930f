import PyProof.Rows.All
import Wide.All
import OpenK.AllK
import Wide.FinOn
import Lean
import PyProof.EqAt
import PyProof.EqKinds
import PyProof.TupleCall
import PyProof.NeKinds
import PyProof.IsInstanceH
import PyProof.IsiNone
import PyProof.EnumMake
import PyProof.Draws
import PyProof.ZipIter
import PyProof.ListRange
import KE.RegKIsAll
import PyProof.ExcAttrAll.ValueError
import PyProof.NsDelKeeps
import PySem.Challenge.RW_followmost_k23_all_rests_and_pairs
set_option Elab.async false
set_option linter.all false
set_option maxRecDepth 100000
namespace L2
open PySem PySem.Spec PyProof.Rows
abbrev Key:=Sum Int Str
def wQ:Key→Value→Bool
  | .inl k,v=>Value.isInt k v
  | .inr x,v=>Value.isStrOf x v
def QN (w:World):Key→Int
  | .inl k=>hashInt k
  | .inr x=>hashStr w x
theorem de:∀ {k:Key} {v:Value},wQ k v=true→(∃ i t,k=Sum.inl i∧v=Value.int i t)∨(∃ x t,k=Sum.inr x∧v=Value.str x t)
  | .inl i,v,h=>by
    obtain⟨t,e⟩:=Value.isInt_shape (k:=i) (v:=v) h
    exact .inl ⟨i,t,rfl,e⟩
  | .inr x,v,h=>by
    obtain⟨t,e⟩:=Value.isStrOf_shape (x:=x) (v:=v) h
    exact .inr ⟨x,t,rfl,e⟩
theorem FV (i:Int)(t:Tok):wQ (.inl i) (.int i t)=true:=by simp [wQ,Value.isInt]
theorem FW (x:Str)(t:Tok):wQ (.inr x) (.str x t)=true:=by simp [wQ,Value.isStrOf]
theorem Nx (a b:Int):decide ((Sum.inl a:Key)=Sum.inl b)=(a == b):=by
  by_cases e:a=b
  · subst e;simp
  · have h : ¬ (Sum.inl a:Key)=Sum.inl b:=fun q=>e (Sum.inl.inj q)
    rw [decide_eq_false h]
    exact (beq_eq_false_iff_ne.mpr e).symm
theorem Ny (a b:Str):decide ((Sum.inr a:Key)=Sum.inr b)=decide (a=b):=by
  by_cases e:a=b
  · subst e;simp
  · have h : ¬ (Sum.inr a:Key)=Sum.inr b:=fun q=>e (Sum.inr.inj q)
    rw [decide_eq_false h,decide_eq_false e]
theorem Nz (a:Int)(b:Str):decide ((Sum.inl a:Key)=Sum.inr b)=false:=decide_eq_false (fun q=>nomatch q)
theorem NB (a:Str)(b:Int):decide ((Sum.inr a:Key)=Sum.inl b)=false:=decide_eq_false (fun q=>nomatch q)
def cR (prog:Program) (w:World):PySem.KeyKind prog w Key where
  is:=wQ
  hash:=QN w
  inj:=fun v a b ha hb=>by
    rcases de ha with ⟨i,t,rfl,rfl⟩|⟨x,t,rfl,rfl⟩
    · rcases de hb with ⟨j,u,rfl,e⟩|⟨y,u,rfl,e⟩
      · injection e with e1 _;rw [e1]
      · exact nomatch e
    · rcases de hb with ⟨j,u,rfl,e⟩|⟨y,u,rfl,e⟩
      · exact nomatch e
      · injection e with e1 _;rw [e1]
  byValue:=fun k v h=>by
    rcases de h with ⟨i,t,rfl,rfl⟩|⟨x,t,rfl,rfl⟩<;>rfl
  pyHash:=fun hv h=>by
    rcases de hv with ⟨i,t,rfl,rfl⟩|⟨x,t,rfl,rfl⟩
    · exact wpAny_pyHash_int h
    · exact wpAny_pyHash_str h
  eqBool:=fun hu hv h=>by
    rcases de hu with ⟨i,t,rfl,rfl⟩|⟨x,t,rfl,rfl⟩
    · rcases de hv with ⟨j,u,rfl,rfl⟩|⟨y,u,rfl,rfl⟩
      · rw [Nx] at h;exact wpAny_eqBool_int h
      · rw [Nz] at h;exact SeqAt.EqAt.int_str i t y u _ _ _ _ h
    · rcases de hv with ⟨j,u,rfl,rfl⟩|⟨y,u,rfl,rfl⟩
      · rw [NB] at h;exact SeqAt.EqAt.str_int x t j u _ _ _ _ h
      · rw [Ny] at h;exact wpAny_eqBool_str h
  «strs» := fun k x t v h=>by
    rcases de h with ⟨i,u,rfl,e⟩|⟨y,u,rfl,e⟩
    · exact nomatch e
    · injection e with e1 _
      subst e1
      cases v<;>rfl
theorem Aq (prog:Program)(w:World)(i:Int)(t:Tok):(cR prog w).is (.inl i) (.int i t)=true:=FV i t
theorem Ar (prog:Program)(w:World)(x:Str)(t:Tok):(cR prog w).is (.inr x) (.str x t)=true:=FW x t
end L2
namespace L2
open PySem PySem.Spec PyProof.Rows
inductive V where
  | non|bl (b:Bool)|int (i:Int)|str (x:Str)|byt (b:Array UInt8)|flt (b:UInt64)|ref (a:Addr)|ty (n:String)
  deriving DecidableEq
def bR:V→Value→Prop
  | .non,u=>u=Value.none
  | .bl b,u=>u=Value.bool b
  | .int i,u=>∃ t,u=Value.int i t
  | .str x,u=>∃ t,u=Value.str x t
  | .byt b,u=>∃ t,u=Value.bytes b t
  | .flt b,u=>∃ t,u=Value.float b t
  | .ref a,u=>u=Value.ref a
  | .ty n,u=>u=Value.type n
abbrev bj:List V→List Value→Prop:=Paired bR
theorem bj.length {xs:List V}{us:List Value}(r:bj xs us):xs.length=us.length:=Paired.length r
theorem bj.get:∀ {xs:List V} {us:List Value} {i:Nat} {x:V},bj xs us→xs[i]? = some x → ∃ u,us[i]? = some u∧bR x u
  | _,_,_,_,.nil,e=>by simp at e
  | _,_,0,_,.cons r _,e=>by simp at e;subst e;exact⟨_,rfl,r⟩
  | _,_,i + 1,x,.cons _ t,e=>by
    obtain⟨u,h1,h2⟩:=bj.get (i:=i) (x:=x) t (by simpa using e)
    exact⟨u,by simpa using h1,h2⟩
theorem bj.set {x:V}{u:Value}(r:bR x u):∀ {xs:List V} {us:List Value} (i:Nat),bj xs us→bj (xs.set i x) (us.set i u)
  | _,_,_,.nil=>.nil
  | _,_,0,.cons _ t=>.cons r t
  | _,_,i + 1,.cons q t=>.cons q (bj.set r i t)
theorem bj.append:∀ {xs ys:List V} {us ws:List Value},bj xs us→bj ys ws→bj (xs++ys) (us++ws)
  | _,_,_,_,.nil,s=>s
  | _,_,_,_,.cons r t,s=>.cons r (bj.append t s)
def FX:Option V→Option Value→Prop
  | some v,some u=>bR v u
  | none,none=>True
  | _,_=>False
def KV {κ : Type}:List (κ × V)→List (κ × Value)→Prop:=Paired fun (p : κ × V) (q : κ × Value)=>p.1=q.1∧bR p.2 q.2
def kV:Key→V
  | .inl i=>.int i
  | .inr x=>.str x
inductive HO where
    | lst (xs:List V)
    | tup (xs:List V)
    | dK (kvs:List (Key × V))|dT (kvs:List (List Key × V))
    | set (S:Int→Bool) (n:Nat)
    | ins (C dx:Addr) (fs:List (Str × V))
    | own (x:Addr)
    | xd (fs:List (Str × V))
    | met (f x:Addr)
    | rng (lo hi:Int)
    | frz (o:Obj) (u:HO)
    | tbl (ps:Array Value)
    | ext (φ : Heap→Prop)
abbrev Hp:=Addr→Option HO
def upd (H:Hp) (a:Addr) (o:HO):Hp:=fun b=>if b=a then some o else H b
theorem bf {H:Hp}{a:Addr}{o:HO}:upd H a o a=some o:=by unfold upd;rw [if_pos rfl]
theorem aB {H:Hp}{a b:Addr}{o:HO}(h:b≠a):upd H a o b=H b:=by unfold upd;rw [if_neg h]
theorem Nd {H:Hp}{a b:Addr}{o u:HO}(h:H a=some o)(h':H b=some u)(d:o≠u):a≠b:=by
  intro e;subst e;rw [h] at h';exact d (Option.some.inj h')
theorem aU {H:Hp}{a b:Addr}{o:HO}(h:H a=some o)(h':H b=none):a≠b:=by
  intro e;subst e;rw [h] at h';cases h'
section
variable (P:Program) (w:World)
def ed (H:Hp) (h:Heap) (a:Addr):HO→Prop
  | .lst xs=>xs.length≤sizeLine ∧ ∃ (its:List Value) (n:Nat),bj xs its∧h.get? a=some { cls:=.type "list",data:=.seq its.toArray n }
  | .tup xs=>xs.length≤sizeLine ∧ ∃ its:List Value,bj xs its∧IsTup h a its.toArray
  | .dK kvs=>kvs.length≤sizeLine∧(a == sysModules)=false ∧ ∃ vs,KV kvs vs∧h.DictOf (cR P w) a vs
  | .dT kvs=>kvs.length≤sizeLine∧(a == sysModules)=false ∧ ∃ xs:List (List Key × Addr × Value),
      Paired (fun (p:List Key × V) (q:List Key × Addr × Value)=>p.1=q.1∧H q.2.1=some (.tup (p.1.map kV))∧bR p.2 q.2.2) kvs xs ∧
      ∃ o es ep,h.get? a=some o∧o.ExactDict∧o.data=.dict es ep∧es.toList=xs.map (entryOfKey (tupleKind (cR P w)))∧(xs.map (·.1)).Nodup
  | .set S n=>h.SetOf (intKind P w) a S n
  | .ins C dx fs=>H dx=some (.own a)∧fs.length≤1000∧dx≠a∧h.get? a=some (PySem.W.instObj C dx) ∧
      ∃ mA,h.Ns1 dx mA∧(∀ f,FX (fs.lookup f) (mA f))∧PySem.Within mA (fs.map (·.1))
  | .own _=>∃ o,h.get? a=some o
  | .xd fs=>∃ mA,h.Ns1 a mA ∧ ∀ f,FX (fs.lookup f) (mA f)
  | .rng lo hi=>∃ t u v,h.get? a=some { cls:=.type "range",data:=.fields #[.int lo t,.int hi u,.int 1 v] }
  | .frz o u=>h.get? a=some o∧ed H h a u
  | .tbl ps=>h.get? a=some { cls:=.none,data:=.fields ps }
  | .met f x=>h.get? a=some (PySem.W.methodObj (.ref f) (.ref x))
  | .ext φ => φ h∧(∃ o,h.get? a=some o) ∧ ∀ h1 h2:Heap,φ h1→(∀ o,h1.get? a=some o→h2.get? a=some o) → φ h2
def HOk (H:Hp) (h:Heap):Prop:=∀ a o,H a=some o→ed P w H h a o
end
section
variable {P:Program} {w:World} {H H':Hp} {h h':Heap} {a:Addr} {o:HO}
theorem ed.lt (x:ed P w H h a o):a < h.objs.size:=by
  cases o with
  | lst xs=>obtain⟨_,_,_,_,e⟩:=x;exact Heap.lt_size e
  | tup xs=>obtain⟨_,_,_,p⟩:=x;exact p.lt
  | dK kvs=>obtain⟨_,_,_,_,o,_,_,e,_⟩:=x;exact Heap.lt_size e
  | dT kvs=>obtain⟨_,_,_,_,o,_,_,e,_⟩:=x;exact Heap.lt_size e
  | set S n=>obtain⟨o,_,_,_,e,_⟩:=x;exact Heap.lt_size e
  | ins C dx fs=>obtain⟨_,_,_,e,_⟩:=x;exact Heap.lt_size e
  | own y=>obtain⟨_,e⟩:=x;exact Heap.lt_size e
  | xd fs=>obtain⟨_,⟨_,_,_,e,_⟩,_⟩:=x;exact Heap.lt_size e
  | rng lo hi=>obtain⟨_,_,_,e⟩:=x;exact Heap.lt_size e
  | frz ob u=>obtain⟨e,_⟩:=x;exact Heap.lt_size e
  | tbl ps=>exact Heap.lt_size (show h.get? a=some _ from x)
  | met f y=>exact Heap.lt_size (show h.get? a=some _ from x)
  | ext φ => obtain⟨_,⟨_,e⟩,_⟩:=x;exact Heap.lt_size e
theorem Paired.mapP {α β : Type}{F G : α → β → Prop}:∀ {l₁ : List α} {l₂ : List β},Paired F l₁ l₂ → (∀ a b,F a b→G a b)→Paired G l₁ l₂
  | _,_,.nil,_=>.nil
  | _,_,.cons r t,f=>.cons (f _ _ r) (Paired.mapP t f)
theorem ed.stay (x:ed P w H h a o)(k:∀ b u,(b=a∨H b=some (.own a))→h.get? b=some u→h'.get? b=some u)
    (ho:∀ b,H b=some (.own a)→H' b=some (.own a)) (ht:∀ b xs,H b=some (.tup xs)→H' b=some (.tup xs)):ed P w H' h' a o:=by
  induction o with
  | lst xs=>obtain⟨z,its,n,r,e⟩:=x;exact⟨z,its,n,r,k _ _ (.inl rfl) e⟩
  | tup xs=>obtain⟨z,its,r,ob,e,c⟩:=x;exact⟨z,its,r,ob,k _ _ (.inl rfl) e,c⟩
  | dK kvs=>obtain⟨z,y,vs,r,ob,es,ep,e,c⟩:=x;exact⟨z,y,vs,r,ob,es,ep,k _ _ (.inl rfl) e,c⟩
  | dT kvs =>
    obtain⟨z,y,xs,r,ob,es,ep,e,c⟩:=x
    exact⟨z,y,xs,Paired.mapP r fun p q z=>⟨z.1,ht _ _ z.2.1,z.2.2⟩,ob,es,ep,k _ _ (.inl rfl) e,c⟩
  | set S n=>obtain⟨ob,es,ep,t,e,c⟩:=x;exact⟨ob,es,ep,t,k _ _ (.inl rfl) e,c⟩
  | ins C dx fs =>
    obtain⟨d,z,ne,e,mA,⟨od,es,ep,e2,c⟩,r⟩:=x
    exact⟨ho _ d,z,ne,k _ _ (.inl rfl) e,mA,⟨od,es,ep,k _ _ (.inr d) e2,c⟩,r⟩
  | own y=>obtain⟨ob,e⟩:=x;exact⟨ob,k _ _ (.inl rfl) e⟩
  | xd fs=>obtain⟨mA,⟨od,es,ep,e,c⟩,r⟩:=x;exact⟨mA,⟨od,es,ep,k _ _ (.inl rfl) e,c⟩,r⟩
  | rng lo hi=>obtain⟨t,u,v,e⟩:=x;exact⟨t,u,v,k _ _ (.inl rfl) e⟩
  | frz ob u ih=>obtain⟨e,q⟩:=x;exact⟨k _ _ (.inl rfl) e,ih q⟩
  | tbl ps =>
    have e:h.get? a=some { cls:=.none,data:=.fields ps }:=x
    show h'.get? a=some { cls:=.none,data:=.fields ps }
    exact k a _ (.inl rfl) e
  | met f y =>
    have e:h.get? a=some (PySem.W.methodObj (.ref f) (.ref y)):=x
    show h'.get? a=some (PySem.W.methodObj (.ref f) (.ref y))
    exact k a _ (.inl rfl) e
  | ext φ => obtain⟨p,⟨o,e⟩,st⟩:=x;exact⟨st _ _ p fun o q=>k _ _ (.inl rfl) q,⟨o,k _ _ (.inl rfl) e⟩,st⟩
theorem HOk.lt (x:HOk P w H h)(e:H a=some o):a < h.objs.size:=(x a o e).lt
theorem HOk.fresh (x:HOk P w H h)(e:h.objs.size≤a):H a=none:=by
  cases q:H a with
  | none=>rfl
  | some u=>exact absurd (Nat.lt_of_lt_of_le (x.lt q) e) (Nat.lt_irrefl _)
theorem HOk.kept (x:HOk P w H h)(k:∀ b u,h.get? b=some u→h'.get? b=some u):HOk P w H h':=fun a o e =>
  (x a o e).stay (fun b u _ q=>k b u q) (fun _ q=>q) fun _ _ q=>q
theorem HOk.laid (x:HOk P w H h)(k:∀ b u,h.get? b=some u→h'.get? b=some u)(hp:h.objs.size≤a)(new:ed P w (upd H a o) h' a o):HOk P w (upd H a o) h':=fun b u e=>by
  have hn:=x.fresh hp
  by_cases hb:b=a
  · subst hb;rw [bf] at e;cases e;exact new
  · rw [aB hb] at e
    exact (x b u e).stay (fun c v _ q=>k c v q) (fun c q=>by rw [aB (aU q hn)];exact q) fun c xs q=>by rw [aB (aU q hn)];exact q
end
def Rd (H:Hp) (a:Addr) (u:HO):Prop:=H a=some u ∨ ∃ o,H a=some (.frz o u)
theorem Rd.ok {P:Program}{w:World}{H:Hp}{h:Heap}{a:Addr}{u:HO}(r:Rd H a u)(x:HOk P w H h):ed P w H h a u:=by
  rcases r with r|⟨o,r⟩
  · exact x a u r
  · obtain⟨_,q⟩:=x a _ r
    exact q
def Mut:Option HO→Prop
  | some (.lst _)=>True
  | some (.dK _)=>True
  | some (.dT _)=>True
  | some (.set _ _)=>True
  | some (.ins _ _ _)=>True
  | some (.ext _)=>True
  | _=>False
section
variable {P:Program} {w:World} {H:Hp} {h h':Heap} {x e:Addr} {o':HO}
theorem HOk.write (ok:HOk P w H h)(mu:Mut (H x))(he:e=x∨H e=some (.own x))(k:∀ b u,b≠e→h.get? b=some u→h'.get? b=some u)(heo:∃ u,h'.get? e=some u)
    (new:ed P w (upd H x o') h' x o'):HOk P w (upd H x o') h':=fun b u q=>by
  have nown:∀ c y,H c=some (.own y)→c≠x:=fun c y r z=>by subst z;rw [r] at mu;exact mu
  have ntup:∀ c xs,H c=some (.tup xs)→c≠x:=fun c xs r z=>by subst z;rw [r] at mu;exact mu
  by_cases hb:b=x
  · subst hb;rw [bf] at q;cases q;exact new
  · rw [aB hb] at q
    by_cases hbe:b=e
    · have q':H b=some (.own x):=by
        rcases he with z|z
        · exact absurd (hbe.trans z) hb
        · rw [hbe];exact z
      rw [q] at q';cases q'
      obtain⟨v,hv⟩:=heo
      exact⟨v,by rw [hbe];exact hv⟩
    · refine (ok b u q).stay (fun c v hc r=>k c v ?_ r) (fun c r=>by rw [aB (nown c b r)];exact r) fun c xs r=>by rw [aB (ntup c xs r)];exact r
      rcases hc with rfl|hc
      · exact hbe
      · rintro rfl
        rcases he with z|z
        · exact nown c b hc z
        · rw [hc] at z;cases z;exact hb rfl
end
structure Un (fs ex:List Addr) (H H':Hp) (h h':Heap):Prop where
  keep:∀ b o,h.get? b=some o→H b=none→b∉fs→b∉ex→h'.get? b=some o
  slot:∀ b o,h.get? b=some o→H b=none→b∈fs→b∉ex → ∃ sl,h'.get? b=some { o with slots:=sl }
  free:∀ b o,h.get? b=some o→H b=none→b∉ex→H' b=none
  there:∀ b o,h.get? b=some o→b∉ex → ∃ o',h'.get? b=some o'
  tups:∀ b xs,H b=some (.tup xs)→H' b=some (.tup xs)
  frzs:∀ b o u,H b=some (.frz o u)→H' b=some (.frz o u)
  tbls:∀ b ps,H b=some (.tbl ps) → ∃ more,H' b=some (.tbl (ps++more))
section
variable {fs fs' ex ex':List Addr} {H H1 H2:Hp} {h h1 h2 h':Heap} {a x e:Addr} {o:HO}
theorem Un.any (u:Un fs ex H H1 h h1){b:Addr}{ob:Obj}(q:h.get? b=some ob)(n:H b=none)(hx:b∉ex):∃ sl,h1.get? b=some { ob with slots:=sl }:=by
  by_cases hb:b∈fs
  · exact u.slot b ob q n hb hx
  · exact⟨ob.slots,u.keep b ob q n hb hx⟩
theorem Un.kept (k:∀ b u,h.get? b=some u→h'.get? b=some u):Un fs ex H H h h' :=
  ⟨fun b ob q _ _ _=>k b ob q,fun b ob q _ _ _=>⟨ob.slots,k b ob q⟩,fun _ _ _ n _=>n,fun b ob q _=>⟨ob,k b ob q⟩,fun _ _ q=>q,fun _ _ _ q=>q,fun _ ps q=>⟨#[],by rw [q];simp⟩⟩
theorem Un.refl:Un fs ex H H h h:=Un.kept fun _ _ q=>q
theorem Un.laid (k:∀ b u,h.get? b=some u→h'.get? b=some u)(hp:h.objs.size≤a)(hn:H a=none):Un fs ex H (upd H a o) h h' where
  keep:=fun b u q _ _ _=>k b u q
  slot:=fun b u q _ _ _=>⟨u.slots,k b u q⟩
  free:=fun b u q n _=>by rw [aB (Nat.ne_of_lt (Nat.lt_of_lt_of_le (Heap.lt_size q) hp))];exact n
  there:=fun b u q _=>⟨u,k b u q⟩
  tups:=fun b xs q=>by rw [aB (aU q hn)];exact q
  frzs:=fun b u xs q=>by rw [aB (aU q hn)];exact q
  tbls:=fun b ps q=>⟨#[],by rw [aB (aU q hn),q];simp⟩
theorem Un.write (mu:Mut (H x))(he:e=x∨H e=some (.own x))(k:∀ b u,b≠e→h.get? b=some u→h'.get? b=some u)(heo:∃ u,h'.get? e=some u):Un fs ex H (upd H x o) h h':=by
  have hx:∀ b,H b=none→b≠x:=fun b n z=>by subst z;rw [n] at mu;exact mu
  have hb:∀ b,H b=none→b≠e:=fun b n z=>by
    subst z
    rcases he with r|r
    · exact hx b n r
    · rw [n] at r;cases r
  have hm:∀ b u,H b=some u → ¬ Mut (some u)→b≠x:=fun b u q nm z=>by subst z;rw [q] at mu;exact nm mu
  refine⟨fun b u q n _ _=>k b u (hb b n) q,fun b u q n _ _=>⟨u.slots,k b u (hb b n) q⟩,fun b u q n _=>by rw [aB (hx b n)];exact n,fun b u q _ => ?_,
    fun b xs q=>by rw [aB (hm b _ q fun z=>z)];exact q,fun b u xs q=>by rw [aB (hm b _ q fun z=>z)];exact q,fun b ps q=>⟨#[],by rw [aB (hm b _ q fun z=>z),q];simp⟩⟩
  by_cases hbe:b=e
  · subst hbe;exact heo
  · exact⟨u,k b u hbe q⟩
end
def trk (h:Heap) (H:Hp):List Addr:=(List.range h.objs.size).filter fun a=>(H a).isSome
def xS (h:Heap) (H:Hp):Heap:=PySem.W.hideAll h (trk h H)
theorem FY (h:Heap)(H:Hp):(xS h H).objs.size=h.objs.size:=PySem.W.hideAll_size _ _
theorem Ie {h:Heap}{H:Hp}{b:Addr}{o:Obj}(e:h.get? b=some o)(n:H b=none):(xS h H).get? b=some o :=
  PySem.W.hideAll_get _ e fun hm=>by
    have q:(H b).isSome=true:=(List.mem_filter.mp hm).2
    rw [n] at q;simp at q
theorem Ly {h:Heap}{H:Hp}{b:Addr}{o:Obj}(e:(xS h H).get? b=some o):h.get? b=some o∧H b=none:=by
  have e':h.get? b=some o:=PySem.W.of_hideAll (trk h H) e
  refine⟨e',?_⟩
  cases q:H b with
  | none=>rfl
  | some x =>
    have hm:b∈trk h H:=List.mem_filter.mpr ⟨List.mem_range.mpr (Heap.lt_size e'),by simp [q]⟩
    have z:(xS h H).get? b=none:=PySem.W.hideAll_none (trk h H) hm
    rw [z] at e;cases e
def Lz (g h:Heap) (L:Addr):List (Addr × Obj):=(List.range h.objs.size).filterMap fun a=>if a=L∨(g.get? a).isSome=true then none else (h.get? a).map fun o=>(a,o)
def rest (g h:Heap) (L d:Addr):List (Addr × Obj):=(Lz g h L).filter fun p=>decide (p.1≠d)
end L2
namespace L2
open PySem PySem.Spec PyProof.Rows
structure Mod (K:PySem.W.Frag) (mg:Str→Option Value) (base:Heap):Prop where
  kin:K.In base
  glob:base.Ns mainGlobals mg
  blt:∃ mb,base.Ns builtinsNs mb ∧ ∀ x:Str,x ≠ "__name__" → mb x=bootBuiltins x
  nolimit:base.NoLimit
structure Cx where
  prog:Program
  w:World
  K:PySem.W.Frag
  mg:Str→Option Value
  base:Heap
  A:Around
  N:List Str
  s₀ : Shared
  H₀ : Hp
  env:Env
  outer:List Env
  stack:List Env
  ex:List Addr
  fn:Str→Bool
  calm:Bool
  pn:List (Addr × Obj)
  xe:Value→Shared→Prop
def frs (l:List Env):List Addr:=l.filterMap (·.frame)
abbrev Cx.fs (X:Cx):List Addr:=frs X.outer
def Vis (sc:Scope) (x:Str):Prop:=sc.names.lookup x=some .local ∨sc.names.lookup x=some .cell∨sc.names.lookup x=some .free
def Loc (sc:Scope) (x:Str):Prop:=sc.names.lookup x=some .local ∨sc.names.lookup x=some .cell
def QO (env:Env) (h:Heap) (m:Str→Option Value) (x:Str) (u:Value):Prop :=
  (env.kindOf x=some .local∧m x=some u)∨((env.kindOf x=some .cell∨env.kindOf x=some .free) ∧ ∃ c,env.cells.lookup x=some c∧h.IsCell c (some u))
structure Cx.Ok (X:Cx):Prop where
  mod:Mod X.K X.mg X.base
  kind:X.env.scope.kind=.function
  glob:X.env.globals=mainGlobals
  blt:X.env.builtins=builtinsNs
  above:X.s₀.heap.objs.size≤X.env.locals
  inj:∀ x y c,X.env.cells.lookup x=some c→X.env.cells.lookup y=some c→x=y
  has:∀ x,(X.env.kindOf x=some .cell∨X.env.kindOf x=some .free) → ∃ c,X.env.cells.lookup x=some c
  cab:∀ x c,X.fn x=true→X.env.cells.lookup x=some c→X.s₀.heap.objs.size≤c
  hd:X.calm=true→X.A.handled=none
  frames:X.A.frames=some X.stack
  stk:X.stack=X.outer∨(X.stack=X.env :: X.outer∧X.env.frame=some X.env.locals)
  exf:∀ b∈X.ex,b≠X.env.locals ∧ ∀ x c,X.env.cells.lookup x=some c→c≠b
  bs:∀ b o,X.base.get? b=some o→X.s₀.heap.get? b=some o∧X.H₀ b=none
  bsz:X.base.objs.size≤X.s₀.heap.objs.size
  noex:∀ b o,X.base.get? b=some o→b∉X.ex
  exfs:∀ b∈X.ex,b∉X.fs
  funs:X.s₀.heap.FunFrames X.base X.outer
  frf:∀ b∈X.fs,X.H₀ b=none
structure Inv (X:Cx) (pins:List (Addr × Obj)) (σ:List (Option V)) (H:Hp) (s:Shared):Prop where
  ok:X.Ok
  os:s.os=X.s₀.os
  bare:AllBare s.gens
  base:Un X.fs X.ex X.H₀ H X.s₀.heap s.heap
  loc:∃ m,s.heap.Ns X.env.locals m ∧ ∀ (i:Nat) (x:Str) (v:V),X.N[i]? = some x → σ[i]? = some (some v)→Vis X.env.scope x → ∃ u,bR v u∧QO X.env s.heap m x u
  cell:∀ x c,X.env.cells.lookup x=some c → ∃ v,s.heap.IsCell c v
  free:H X.env.locals=none
  freeC:∀ x c,X.env.cells.lookup x=some c→H c=none
  pin:∀ p∈X.pn++pins,s.heap.get? p.1=some p.2∧H p.1=none∧p.1≠X.env.locals∧p.1∉X.fs ∧ ∀ v,p.2.data ≠ .cell v
  hok:HOk X.prog X.w H s.heap
  len : σ.length=X.N.length
section
variable {X:Cx} {pins:List (Addr × Obj)} {σ:List (Option V)} {H H':Hp} {s:Shared} {h':Heap}
theorem Cx.Ok.nofr (ok:X.Ok){b:Addr}{o:Obj}(e:X.base.get? b=some o):b∉X.fs:=fun hb=>by
  have:=(ok.funs.mem hb).1
  rw [e] at this;cases this
theorem Inv.bs (I:Inv X pins σ H s):∀ b o,X.base.get? b=some o→s.heap.get? b=some o∧H b=none:=fun b o e =>
  ⟨I.base.keep b o (I.ok.bs b o e).1 (I.ok.bs b o e).2 (I.ok.nofr e) (I.ok.noex b o e),I.base.free b o (I.ok.bs b o e).1 (I.ok.bs b o e).2 (I.ok.noex b o e)⟩
theorem Inv.bk (I:Inv X pins σ H s):∀ b o,X.base.get? b=some o→s.heap.get? b=some o:=fun b o e=>(I.bs b o e).1
theorem Inv.mod (I:Inv X pins σ H s):Mod X.K X.mg X.base:=I.ok.mod
theorem Inv.kIn (I:Inv X pins σ H s):X.K.In s.heap:=I.ok.mod.kin.keeps I.bk
theorem Inv.lt (I:Inv X pins σ H s):X.env.locals < s.heap.objs.size:=let ⟨_,hn,_⟩:=I.loc;hn.lt
theorem Inv.sz (I:Inv X pins σ H s):X.s₀.heap.objs.size≤s.heap.objs.size:=Nat.le_trans I.ok.above (Nat.le_of_lt I.lt)
theorem Inv.nofs (I:Inv X pins σ H s){a:Addr}(h:s.heap.objs.size≤a):a∉X.fs:=fun hb=>by
  obtain⟨_,o,ho,_⟩:=I.ok.funs.mem hb
  exact absurd (Nat.lt_of_lt_of_le (Heap.lt_size ho) (Nat.le_trans I.sz h)) (Nat.lt_irrefl _)
theorem Inv.cne (I:Inv X pins σ H s):∀ x c,X.env.cells.lookup x=some c→c≠X.env.locals:=fun x c e z=>by
  obtain⟨v,o,ho,hd⟩:=I.cell x c e
  obtain⟨m,⟨o',es,ep,ho',hd',_⟩,_⟩:=I.loc
  rw [z,ho'] at ho;cases ho;rw [hd'] at hd;cases hd
theorem Inv.funs (I:Inv X pins σ H s):s.heap.FunFrames X.base X.outer:=by
  have all:∀ (l:List Env),(∀ b∈frs l,b∈X.fs)→X.s₀.heap.FunFrames X.base l→s.heap.FunFrames X.base l:=by
    intro l
    induction l with
    | nil=>intro _ _;trivial
    | cons env r ih =>
      intro hs hl
      obtain⟨hk,⟨L,o,hf,hn,ho,hd⟩,hr⟩:=hl
      have hL:L∈X.fs:=hs L (by unfold frs;rw [List.filterMap_cons,hf];exact List.mem_cons_self)
      obtain⟨sl,e⟩:=I.base.slot L o ho (I.ok.frf L hL) hL fun z=>I.ok.exfs L z hL
      exact⟨hk,⟨L,_,hf,hn,e,hd⟩,ih (fun b hb=>hs b (by unfold frs;rw [List.filterMap_cons,hf];exact List.mem_cons_of_mem _ hb)) hr⟩
  exact all X.outer (fun _ hb=>hb) I.ok.funs
theorem Inv.stack (I:Inv X pins σ H s):s.heap.FunFrames X.base X.stack:=by
  rcases I.ok.stk with e|⟨e,hf⟩
  · rw [e];exact I.funs
  · rw [e]
    obtain⟨m,hn,_⟩:=I.loc
    refine .cons (by rw [I.ok.kind];decide) hf hn ?_ I.funs
    exact Heap.get?_none_of_le (Nat.le_trans I.ok.bsz I.ok.above)
theorem Inv.stkSub (I:Inv X pins σ H s):∀ b∈frs X.stack,b∈X.env.locals :: X.fs:=fun b hb=>by
  rcases I.ok.stk with e|⟨e,hf⟩
  · rw [e] at hb;exact List.mem_cons_of_mem _ hb
  · rw [e] at hb
    unfold frs at hb
    rw [List.filterMap_cons,hf] at hb
    exact hb
theorem Inv.stkFree (I:Inv X pins σ H s):∀ b∈frs X.stack,H b=none:=fun b hb=>by
  rcases List.mem_cons.mp (I.stkSub b hb) with e|hb
  · rw [e];exact I.free
  · obtain⟨_,o,ho,_⟩:=I.ok.funs.mem hb
    exact I.base.free b o ho (I.ok.frf b hb) fun z=>I.ok.exfs b z hb
theorem Inv.step {g':Array GenState}{t':Nat}{d':Drawn}{ch:List Addr}(I:Inv X pins σ H s)
    (hch:∀ b∈ch,(b∈X.ex∨X.s₀.heap.objs.size≤b)∧b≠X.env.locals∧(∀ x c,X.env.cells.lookup x=some c→c≠b) ∧ ∀ p∈X.pn++pins,p.1≠b)
    (keep:∀ b o,b≠X.env.locals→b∉X.fs→b∉ch→s.heap.get? b=some o→H b=none→h'.get? b=some o)
    (slot:∀ b o,b≠X.env.locals→b∈X.fs→b∉ch→s.heap.get? b=some o→H b=none → ∃ sl,h'.get? b=some { o with slots:=sl }) (free:∀ b o,b∉ch→s.heap.get? b=some o→H b=none→H' b=none)
    (there:∀ b o,b∉ch→s.heap.get? b=some o → ∃ o',h'.get? b=some o')
    (tups:∀ b xs,H b=some (.tup xs)→H' b=some (.tup xs)) (frzs:∀ b o u,H b=some (.frz o u)→H' b=some (.frz o u)) (tbls:∀ b ps,H b=some (.tbl ps) → ∃ more,H' b=some (.tbl (ps++more)))
    (ns:∀ m,s.heap.Ns X.env.locals m→h'.Ns X.env.locals m) (hok:HOk X.prog X.w H' h') (hg:AllBare g') :
    Inv X pins σ H' { s with heap:=h',gens:=g',drawn:=d',toks:=t' }:=by
  have neL:∀ b o,X.s₀.heap.get? b=some o→b≠X.env.locals:=fun b o e=>Nat.ne_of_lt (Nat.lt_of_lt_of_le (Heap.lt_size e) I.ok.above)
  have neC:∀ b o,X.s₀.heap.get? b=some o→b∉X.ex→b∉ch:=fun b o e hx hb=>by
    rcases (hch b hb).1 with z|z
    · exact hx z
    · exact absurd (Nat.lt_of_lt_of_le (Heap.lt_size e) z) (Nat.lt_irrefl _)
  have cellK:∀ x c,X.env.cells.lookup x=some c → ∀ v,s.heap.IsCell c v→h'.IsCell c v:=fun x c e v ⟨o,ho,hd⟩=>by
    have nch:c∉ch:=fun z=>(hch c z).2.2.1 x c e rfl
    by_cases hc:c∈X.fs
    · obtain⟨sl,q⟩:=slot c o (I.cne x c e) hc nch ho (I.freeC x c e)
      exact⟨_,q,hd⟩
    · exact⟨o,keep c o (I.cne x c e) hc nch ho (I.freeC x c e),hd⟩
  refine⟨I.ok,I.os,hg,⟨fun b o e n hb hx => ?_,fun b o e n hb hx => ?_,fun b o e n hx => ?_,fun b o e hx => ?_,fun b xs e=>tups b xs (I.base.tups b xs e),fun b o xs e=>frzs b o xs (I.base.frzs b o xs e),fun b ps e => ?_⟩,?_,fun x c e => ?_,?_,fun x c e => ?_,fun p hp => ?_,hok,I.len⟩
  · exact keep b o (neL b o e) hb (neC b o e hx) (I.base.keep b o e n hb hx) (I.base.free b o e n hx)
  · obtain⟨sl,e1⟩:=I.base.slot b o e n hb hx
    obtain⟨sl',e2⟩:=slot b _ (neL b o e) hb (neC b o e hx) e1 (I.base.free b o e n hx)
    exact⟨sl',e2⟩
  · obtain⟨o',e1⟩:=I.base.there b o e hx
    exact free b o' (neC b o e hx) e1 (I.base.free b o e n hx)
  · obtain⟨o',e1⟩:=I.base.there b o e hx
    exact there b o' (neC b o e hx) e1
  · obtain⟨m1,e1⟩:=I.base.tbls b ps e
    obtain⟨m2,e2⟩:=tbls b _ e1
    exact⟨m1++m2,by rw [e2,Array.append_assoc]⟩
  · obtain⟨m,hn,hl⟩:=I.loc
    refine⟨m,ns m hn,fun i x v e1 e2 e3 => ?_⟩
    obtain⟨u,r,l⟩:=hl i x v e1 e2 e3
    refine⟨u,r,?_⟩
    rcases l with l|⟨k,c,e,z⟩
    · exact .inl l
    · exact .inr ⟨k,c,e,cellK x c e _ z⟩
  · obtain⟨v,z⟩:=I.cell x c e
    exact⟨v,cellK x c e v z⟩
  · obtain⟨m,⟨o,_,_,ho,_⟩,_⟩:=I.loc
    exact free _ o (fun z=>(hch _ z).2.1 rfl) ho I.free
  · obtain⟨v,o,ho,hd⟩:=I.cell x c e
    exact free c o (fun z=>(hch c z).2.2.1 x c e rfl) ho (I.freeC x c e)
  · obtain⟨e,n,ne,nf,d⟩:=I.pin p hp
    have nch:p.1∉ch:=fun z=>(hch p.1 z).2.2.2 p hp rfl
    exact⟨keep p.1 p.2 ne nf nch e n,free p.1 p.2 nch e n,ne,nf,d⟩
theorem Inv.un {t':Nat}(I:Inv X pins σ H s)(u:Un X.fs [] H H' s.heap h')(hok:HOk X.prog X.w H' h'):Inv X pins σ H' { s with heap:=h',toks:=t' }:=by
  obtain⟨m,⟨o,es,ep,ho,r⟩,_⟩:=id I.loc
  obtain⟨sl,hL⟩:=u.any ho I.free (by simp)
  exact I.step (g':=s.gens) (d':=s.drawn) (ch:=[]) (fun _ z=>nomatch z) (fun b o _ hb _ e n=>u.keep b o e n hb (by simp)) (fun b o _ hb _ e n=>u.slot b o e n hb (by simp)) (fun b o _ e n=>u.free b o e n (by simp)) (fun b o _ e=>u.there b o e (by simp)) u.tups u.frzs u.tbls (fun m' hm=>by
    obtain⟨o',es',ep',ho',r'⟩:=hm
    rw [ho] at ho';cases ho'
    exact⟨_,es',ep',hL,r'⟩) hok I.bare
theorem Inv.call {g':Array GenState}{t':Nat}{d':Drawn}{ch:List Addr}(I:Inv X pins σ H s)(u:Un (frs X.stack) ch H H' s.heap h')(hok:HOk X.prog X.w H' h')(hg:AllBare g')
    (hch:∀ b∈ch,(b∈X.ex∨X.s₀.heap.objs.size≤b)∧b≠X.env.locals∧(∀ x c,X.env.cells.lookup x=some c→c≠b) ∧ ∀ p∈X.pn++pins,p.1≠b) :
    Inv X pins σ H' { s with heap:=h',gens:=g',drawn:=d',toks:=t' }:=by
  obtain⟨m,⟨o,es,ep,ho,r⟩,_⟩:=id I.loc
  obtain⟨sl,hL⟩:=u.any ho I.free fun z=>(hch _ z).2.1 rfl
  exact I.step (ch:=ch) hch (fun b o hL hb hc e n=>u.keep b o e n (fun z=>(List.mem_cons.mp (I.stkSub b z)).elim hL hb) hc) (fun b o _ _ hc e n=>u.any e n hc) (fun b o hc e n=>u.free b o e n hc) (fun b o hc e=>u.there b o e hc) u.tups u.frzs u.tbls (fun m' hm=>by
    obtain⟨o',es',ep',ho',r'⟩:=hm
    rw [ho] at ho';cases ho'
    exact⟨_,es',ep',hL,r'⟩) hok hg
theorem Inv.turned {t':Nat}{it:Addr}(I:Inv X pins σ H s)(k:∀ b o,b≠it→s.heap.get? b=some o→h'.get? b=some o)(hn:H it=none)(hL:it≠X.env.locals)
    (h1:it∈X.ex∨X.s₀.heap.objs.size≤it) (h2:∀ x c,X.env.cells.lookup x=some c→c≠it) (h3:∀ p∈X.pn++pins,p.1≠it):Inv X pins σ H { s with heap:=h',toks:=t' }:=by
  have nit:∀ b u,H b=some u→b≠it:=fun b u e z=>by rw [z,hn] at e;cases e
  refine I.step (g':=s.gens) (d':=s.drawn) (ch:=[it]) (fun b hb => ?_) (fun b o _ _ hc e _=>k b o (fun z=>hc (by simp [z])) e) (fun b o _ _ hc e _=>⟨o.slots,k b o (fun z=>hc (by simp [z])) e⟩) (fun _ _ _ _ n=>n)
    (fun b o hc e=>⟨o,k b o (fun z=>hc (by simp [z])) e⟩) (fun _ _ e=>e) (fun _ _ _ e=>e) (fun b ps e=>⟨#[],by rw [e];simp⟩) (fun m hm => ?_) (fun b u e => ?_) I.bare
  · have e:b=it:=by simpa using hb
    subst e
    exact⟨h1,hL,h2,h3⟩
  · obtain⟨o,es,ep,ho,r⟩:=hm
    exact⟨o,es,ep,k _ o (Ne.symm hL) ho,r⟩
  · refine (I.hok b u e).stay (fun c v hc q=>k c v ?_ q) (fun _ q=>q) fun _ _ q=>q
    rcases hc with z|z
    · rw [z];exact nit b u e
    · exact nit c _ z
theorem Inv.tok (I:Inv X pins σ H s)(t:Nat):Inv X pins σ H { s with toks:=t }:=I.un (h':=s.heap) (t':=t) Un.refl I.hok
theorem Inv.kept {t':Nat}(I:Inv X pins σ H s)(k:∀ b u,s.heap.get? b=some u→h'.get? b=some u):Inv X pins σ H { s with heap:=h',toks:=t' }:=I.un (Un.kept k) (I.hok.kept k)
theorem Inv.laid {a:Addr}{o:HO}{t':Nat}(I:Inv X pins σ H s)(k:∀ b u,s.heap.get? b=some u→h'.get? b=some u)(hp:s.heap.objs.size≤a)(new:ed X.prog X.w (upd H a o) h' a o) :
    Inv X pins σ (upd H a o) { s with heap:=h',toks:=t' }:=I.un (Un.laid k hp (I.hok.fresh hp)) (I.hok.laid k hp new)
theorem Inv.write {x e:Addr}{o:HO}{t':Nat}(I:Inv X pins σ H s)(mu:Mut (H x))(he:e=x∨H e=some (.own x))(k:∀ b u,b≠e→s.heap.get? b=some u→h'.get? b=some u)(heo:∃ u,h'.get? e=some u)
    (new:ed X.prog X.w (upd H x o) h' x o):Inv X pins σ (upd H x o) { s with heap:=h',toks:=t' }:=I.un (Un.write mu he k heo) (I.hok.write mu he k heo new)
theorem Inv.pins_of {pins':List (Addr × Obj)}(I:Inv X pins σ H s)(h:∀ p∈pins',s.heap.get? p.1=some p.2∧H p.1=none∧p.1≠X.env.locals∧p.1∉X.fs ∧ ∀ v,p.2.data ≠ .cell v):Inv X pins' σ H s :=
  ⟨I.ok,I.os,I.bare,I.base,I.loc,I.cell,I.free,I.freeC,fun p hp=>(List.mem_append.mp hp).elim (fun z=>I.pin p (List.mem_append_left _ z)) (h p),I.hok,I.len⟩
theorem sh {N:List Str}(hN:N.Nodup){i j:Nat}{x:Str}(a:N[i]? = some x)(b:N[j]? = some x):i=j:=by
  obtain⟨h1,e1⟩:=List.getElem?_eq_some_iff.mp a
  obtain⟨h2,e2⟩:=List.getElem?_eq_some_iff.mp b
  exact (List.getElem_inj hN).mp (e1.trans e2.symm)
theorem wR {M:Model}{A:Around}{E:Value→Shared→Prop}{i:Nat}{x:Str}{v:V}{u:Value}{Q:Unit→Shared→Prop}(I:Inv X pins σ H s)(hN:X.N.Nodup)(hi:X.N[i]? = some x)(hx:Loc X.env.scope x)(r:bR v u)
    (h:∀ s',Inv X pins (σ.set i (some v)) H s'→(∃ a,Heap.SameBut a s.heap s'.heap∧(a=X.env.locals∨X.env.cells.lookup x=some a))→Q () s') (hf:X.fn x=true∨X.env.scope.names.lookup x=some .local:=by first|exact .inl rfl|exact .inr rfl|assumption):wpAny M A (storeName X.env x u) Q E s:=by
  obtain⟨m,hn,hl⟩:=id I.loc
  have hcls:(X.env.scope.kind == .class || (X.env.scope.kind == .module && X.env.locals != X.env.globals))=false:=by rw [I.ok.kind];rfl
  have hiσ:i < σ.length:=by rw [I.len];exact (List.getElem?_eq_some_iff.mp hi).1
  have cne:=I.cne
  have tracked:∀ {a:Addr} {h':Heap},(∃ o,s.heap.get? a=some o∧H a=none)→Heap.SameBut a s.heap h'→HOk X.prog X.w H h':=fun {a h'} ha hs b ob e=>by
    obtain⟨_,_,hfree⟩:=ha
    refine (I.hok b ob e).stay (fun c w' hc q=>(hs.2 c ?_).trans q) (fun _ q=>q) fun _ _ q=>q
    rintro rfl
    rcases hc with rfl|hc
    · rw [hfree] at e;cases e
    · rw [hfree] at hc;cases hc
  rcases hx with hk|hk
  · refine wpAny_storeName_local hk hn (fun h' hn' hs => ?_) hcls
    obtain⟨oL,_,_,hoL,_⟩:=id hn
    refine h _ ⟨I.ok,I.os,I.bare,⟨fun b o e n hb hx => ?_,fun b o e n hb hx => ?_,I.base.free,fun b o e hx => ?_,I.base.tups,I.base.frzs,I.base.tbls⟩,⟨_,hn',fun j y v' e1 e2 e3 => ?_⟩,fun y c e => ?_,I.free,I.freeC,fun p hp => ?_,tracked ⟨oL,hoL,I.free⟩ hs,by simpa using I.len⟩ ⟨_,hs,.inl rfl⟩
    · exact (hs.2 b (Nat.ne_of_lt (Nat.lt_of_lt_of_le (Heap.lt_size e) I.ok.above))).trans (I.base.keep b o e n hb hx)
    · obtain⟨sl,e1⟩:=I.base.slot b o e n hb hx
      exact⟨sl,(hs.2 b (Nat.ne_of_lt (Nat.lt_of_lt_of_le (Heap.lt_size e) I.ok.above))).trans e1⟩
    · obtain⟨o',e1⟩:=I.base.there b o e hx
      exact⟨o',(hs.2 b (Nat.ne_of_lt (Nat.lt_of_lt_of_le (Heap.lt_size e) I.ok.above))).trans e1⟩
    · by_cases hj:j=i
      · subst hj
        rw [hi] at e1;cases e1
        rw [List.getElem?_set_self hiσ] at e2
        cases e2
        exact⟨u,r,.inl ⟨hk,by simp⟩⟩
      · rw [List.getElem?_set_ne (Ne.symm hj)] at e2
        obtain⟨u',r',q⟩:=hl j y v' e1 e2 e3
        refine⟨u',r',?_⟩
        rcases q with ⟨k,e⟩|⟨k,c,e,z⟩
        · refine .inl ⟨k,?_⟩
          have:y≠x:=fun e=>hj (sh hN e1 (e ▸ hi))
          simp [this,e]
        · exact .inr ⟨k,c,e,z.sameBut hs (cne y c e)⟩
    · obtain⟨w',z⟩:=I.cell y c e
      exact⟨w',z.sameBut hs (cne y c e)⟩
    · obtain⟨e,n,ne,nf,d⟩:=I.pin p hp
      exact⟨(hs.2 p.1 ne).trans e,n,ne,nf,d⟩
  · have hfn:X.fn x=true:=by
      rcases hf with z|z
      · exact z
      · rw [z] at hk;cases hk
    obtain⟨c,hc⟩:=I.ok.has x (.inl hk)
    obtain⟨w',z⟩:=I.cell x c hc
    refine wpAny_storeName_cell I.ok.kind hk hc z (fun h' hc' hs => ?_)
    obtain⟨oc,hoc,hocd⟩:=id z
    refine h { s with heap:=h' } ⟨I.ok,I.os,I.bare,⟨fun b o e n hb hx => ?_,fun b o e n hb hx => ?_,I.base.free,fun b o e hx => ?_,I.base.tups,I.base.frzs,I.base.tbls⟩,⟨m,hn.sameBut hs (Ne.symm (cne x c hc)),fun j y v' e1 e2 e3 => ?_⟩,fun y c' e => ?_,I.free,I.freeC,fun p hp => ?_,tracked ⟨oc,hoc,I.freeC x c hc⟩ hs,by simpa using I.len⟩ ⟨c,hs,.inr hc⟩
    · exact (hs.2 b (Nat.ne_of_lt (Nat.lt_of_lt_of_le (Heap.lt_size e) (I.ok.cab x c hfn hc)))).trans (I.base.keep b o e n hb hx)
    · obtain⟨sl,e1⟩:=I.base.slot b o e n hb hx
      exact⟨sl,(hs.2 b (Nat.ne_of_lt (Nat.lt_of_lt_of_le (Heap.lt_size e) (I.ok.cab x c hfn hc)))).trans e1⟩
    · obtain⟨o',e1⟩:=I.base.there b o e hx
      exact⟨o',(hs.2 b (Nat.ne_of_lt (Nat.lt_of_lt_of_le (Heap.lt_size e) (I.ok.cab x c hfn hc)))).trans e1⟩
    · by_cases hj:j=i
      · subst hj
        rw [hi] at e1;cases e1
        rw [List.getElem?_set_self hiσ] at e2
        cases e2
        exact⟨u,r,.inr ⟨.inl hk,c,hc,hc'⟩⟩
      · rw [List.getElem?_set_ne (Ne.symm hj)] at e2
        obtain⟨u',r',q⟩:=hl j y v' e1 e2 e3
        refine⟨u',r',?_⟩
        rcases q with q|⟨k,c',e,z'⟩
        · exact .inl q
        · refine .inr ⟨k,c',e,z'.sameBut hs ?_⟩
          rintro rfl
          exact hj (sh hN e1 (I.ok.inj _ _ _ e hc ▸ hi))
    · by_cases hcc:c'=c
      · subst hcc;exact⟨_,hc'⟩
      · obtain⟨w2,z2⟩:=I.cell y c' e
        exact⟨w2,z2.sameBut hs hcc⟩
    · obtain⟨e,n,ne,nf,d⟩:=I.pin p hp
      refine⟨(hs.2 p.1 ?_).trans e,n,ne,nf,d⟩
      intro q
      rw [q,hoc] at e
      have q':oc=p.2:=Option.some.inj e
      exact d w' (by rw [← q'];exact hocd)
theorem si {M:Model}{A:Around}{E:Value→Shared→Prop}{i:Nat}{x:Str}{v:V}{u:Value}{Q:Unit→Shared→Prop}(I:Inv X pins σ H s)(hN:X.N.Nodup)(hi:X.N[i]? = some x)(hx:Loc X.env.scope x)(r:bR v u)
    (h:∀ s',Inv X pins (σ.set i (some v)) H s'→Q () s') (hf:X.fn x=true∨X.env.scope.names.lookup x=some .local:=by first|exact .inl rfl|exact .inr rfl|assumption):wpAny M A (storeName X.env x u) Q E s :=
  wR I hN hi hx r (fun s' I' _=>h s' I') hf
theorem Inv.call' {s':Shared}{ch:List Addr}(I:Inv X pins σ H s)(ho:s'.os=s.os)(u:Un (frs X.stack) ch H H' s.heap s'.heap)(hok:HOk X.prog X.w H' s'.heap)(hg:AllBare s'.gens)
    (hch:∀ b∈ch,(b∈X.ex∨X.s₀.heap.objs.size≤b)∧b≠X.env.locals∧(∀ x c,X.env.cells.lookup x=some c→c≠b) ∧ ∀ p∈X.pn++pins,p.1≠b):Inv X pins σ H' s':=by
  obtain⟨h',g',d',t',o'⟩:=s'
  have e:o'=s.os:=ho
  subst e
  exact I.call (g':=g') (t':=t') (d':=d') u hok hg hch
end
abbrev XK:=Value→Option Addr→Hp→Prop
abbrev St:=List (Option V)
abbrev VK:=V→Hp→Prop
abbrev TE:=St→Hp→VK→Prop
abbrev TT:=St→Hp→(Bool→Hp→Prop)→Prop
abbrev TA:=St→Hp→(List V→Hp→Prop)→Prop
structure sj where
  nx:St→Hp→Prop
  rt:VK
  bk:St→Hp→Prop:=fun _ _=>False
  ct:St→Hp→Prop:=fun _ _=>False
abbrev TS:=sj→St→Hp→Prop
def EP (X:Cx) (pins:List (Addr × Obj)) (σ:St) (Q:VK) (u:Value) (s':Shared):Prop:=∃ v H',Inv X pins σ H' s'∧bR v u∧Q v H'
def TP (X:Cx) (pins:List (Addr × Obj)) (σ:St) (Q:Bool→Hp→Prop) (b:Bool) (s':Shared):Prop:=∃ H',Inv X pins σ H' s'∧Q b H'
def AP (X:Cx) (pins:List (Addr × Obj)) (σ:St) (Q:List V→Hp→Prop) (us:List Value) (s':Shared):Prop:=∃ vs H',Inv X pins σ H' s'∧bj vs us∧Q vs H'
def SP (X:Cx) (pins:List (Addr × Obj)) (D:sj) (f:Flow) (s':Shared):Prop :=
  match f with
  | .next=>∃ σ' H',Inv X pins σ' H' s'∧D.nx σ' H'
  | .brk=>∃ σ' H',Inv X pins σ' H' s'∧D.bk σ' H'
  | .cont=>∃ σ' H',Inv X pins σ' H' s'∧D.ct σ' H'
  | .ret u=>∃ v σ' H',Inv X pins σ' H' s'∧bR v u∧D.rt v H'
def PE (X:Cx) (e:Expr) (t:TE):Prop :=
  ∀ (pins:List (Addr × Obj)) (s:Shared) (σ:St) (H:Hp) (Q:VK),Inv X pins σ H s→t σ H Q→wpAny (model X.prog X.w) X.A (eval e X.env) (EP X pins σ Q) X.xe s
def PT (X:Cx) (e:Expr) (t:TT):Prop :=
  ∀ (pins:List (Addr × Obj)) (s:Shared) (σ:St) (H:Hp) (Q:Bool→Hp→Prop),Inv X pins σ H s→t σ H Q→wpAny (model X.prog X.w) X.A (isTrue e X.env (eval e X.env)) (TP X pins σ Q) X.xe s
def PW (X:Cx) (e:Expr) (t:TT):Prop :=
  ∀ (whole:Sem Value) (pins:List (Addr × Obj)) (s:Shared) (σ:St) (H:Hp) (Q:Bool→Hp→Prop),Inv X pins σ H s→t σ H Q→wpAny (model X.prog X.w) X.A (isTrue e X.env whole) (TP X pins σ Q) X.xe s
theorem PW.pt {X:Cx}{e:Expr}{t:TT}(h:PW X e t):PT X e t:=h _
def PA (X:Cx) (es:List Expr) (t:TA):Prop :=
  ∀ (pos:Pos) (pins:List (Addr × Obj)) (s:Shared) (σ:St) (H:Hp) (Q:List V→Hp→Prop),Inv X pins σ H s→t σ H Q→wpAny (model X.prog X.w) X.A (spliced (backTo pos (starEach es X.env))) (AP X pins σ Q) X.xe s
def PS (X:Cx) (st:Stmt) (t:TS):Prop :=
  ∀ (pins:List (Addr × Obj)) (s:Shared) (σ:St) (H:Hp) (D:sj),Inv X pins σ H s→t D σ H→wpAny (model X.prog X.w) X.A (exec st X.env) (SP X pins D) X.xe s
def PSs (X:Cx) (st:List Stmt) (t:TS):Prop :=
  ∀ (pins:List (Addr × Obj)) (s:Shared) (σ:St) (H:Hp) (D:sj),Inv X pins σ H s→t D σ H→wpAny (model X.prog X.w) X.A (execs st X.env) (SP X pins D) X.xe s
theorem thn {α : Type}{t:Sem α}{Q Q' : α → Shared→Prop}{M:Model}{A:Around}{E:Value→Shared→Prop}{s:Shared}(h:wpAny M A t Q E s)(hQ:∀ a s,Q a s→Q' a s):wpAny M A t Q' E s:=wpAny_mono h hQ fun _ _ x=>x
end L2
namespace L2
open PySem PySem.Spec PyProof.Rows
section
variable {X:Cx}
def PB (i:Nat):TE:=fun σ H Q=>∃ v,σ[i]? = some (some v)∧Q v H
def tC (v:V):TE:=fun _ H Q=>Q v H
theorem Ig {i:Nat} {x:Str} {pos:Pos} (hN:X.N[i]? = some x) (hv:Vis X.env.scope x) (hd:(x == ("__debug__" : Str))=false:=by decide) (hcd:(x == ("__classdict__" : Str))=false:=by decide):PE X (.Name x pos) (PB i):=by
  intro pins s σ H Q I h
  obtain⟨v,e,h⟩:=h
  obtain⟨m,hn,hl⟩:=I.loc
  obtain⟨u,r,l⟩:=hl i x v hN e hv
  have fin:EP X pins σ Q u s:=⟨v,H,I,r,h⟩
  rcases l with ⟨hk,hm⟩|⟨hk,c,hc,hcell⟩
  · exact wpAny_Name (wpAny_loadName_local I.ok.kind hk hn hm fin) hd
  · rcases hk with hk|hk
    · exact wpAny_Name (wpAny_loadName_cell I.ok.kind hk hc hcell fin) hd
    · exact wpAny_Name (wpAny_loadName_free I.ok.kind hk hc hcell fin hcd) hd
theorem Ih {i j pos}:PE X (.Constant (.int i) j pos) (tC (.int i)):=fun _ _ _ H _ I h=>wpAny_Constant_int ⟨.int i,H,I.tok _,⟨_,rfl⟩,h⟩
theorem PC {b j pos}:PE X (.Constant (.bool b) j pos) (tC (.bl b)):=fun _ _ _ H _ I h=>Constant_bool ⟨.bl b,H,I,rfl,h⟩
theorem NC {j pos}:PE X (.Constant .none j pos) (tC .non):=fun _ _ _ H _ I h=>Constant_none ⟨.non,H,I,rfl,h⟩
theorem Ii {x j pos}:PE X (.Constant (.str x) j pos) (tC (.str x)):=fun _ _ _ H _ I h=>Calls.Constant_str ⟨.str x,H,I.tok _,⟨_,rfl⟩,h⟩
def Gl (X:Cx) (x:Str):Prop:=X.env.kindOf x=some .globalImplicit
theorem xT {E:Value→Shared→Prop}{pins:List (Addr × Obj)}{s:Shared}{σ:St}{H:Hp}{x:Str}{u:Value}{pos:Pos}{Q:Value→Shared→Prop}(I:Inv X pins σ H s)(hg:Gl X x)(hm:X.mg x=some u)(h:Q u s)
    (hd:(x == ("__debug__" : Str))=false:=by decide):wpAny (model X.prog X.w) X.A (eval (.Name x pos) X.env) Q E s :=
  Calls.Name_function_global I.ok.kind hg (Calls.loadGlobal_global (by rw [I.ok.glob];exact I.mod.glob.keeps I.bk) hm h) hd
theorem kS {E:Value→Shared→Prop}{pins:List (Addr × Obj)}{s:Shared}{σ:St}{H:Hp}{x:Str}{u:Value}{pos:Pos}{Q:Value→Shared→Prop}(I:Inv X pins σ H s)(hg:Gl X x)(hm:X.mg x=none)(hv:bootBuiltins x=some u)(h:Q u s)
    (hn:x ≠ "__name__" := by decide) (hd:(x == ("__debug__" : Str))=false:=by decide):wpAny (model X.prog X.w) X.A (eval (.Name x pos) X.env) Q E s:=by
  obtain⟨mb,h1,h2⟩:=I.mod.blt
  exact Calls.Name_function_global I.ok.kind hg (Calls.loadGlobal_builtin (by rw [I.ok.glob];exact I.mod.glob.keeps I.bk) hm (by rw [I.ok.blt];exact h1.keeps I.bk) ((h2 x hn).trans hv) h) hd
theorem gv {x:Str} {v:V} {u:Value} {pos:Pos} (hg:Gl X x) (hm:X.mg x=some u) (r:bR v u) (hd:(x == ("__debug__" : Str))=false:=by decide):PE X (.Name x pos) (tC v) :=
  fun _ _ _ H _ I h=>xT I hg hm ⟨v,H,I,r,h⟩ hd
theorem E6 {x:Str} {v:V} {u:Value} {pos:Pos} (hg:Gl X x) (hm:X.mg x=none) (hv:bootBuiltins x=some u) (r:bR v u) (hn:x ≠ "__name__" := by decide) (hd:(x == ("__debug__" : Str))=false:=by decide):PE X (.Name x pos) (tC v) :=
  fun _ _ _ H _ I h=>kS I hg hm hv ⟨v,H,I,r,h⟩ hn hd
variable {a b:Expr} {ta tb:TE} {pos:Pos}
def tB (t:TE):TT:=fun σ H Q=>t σ H fun x H1=>∃ c,x=.bl c∧Q c H1
theorem ND {e:Expr}{t:TE}(h:PE X e t)(he:∀ whole,isTrue e X.env whole=(do let v ← whole;standAt e.pos;holding [v] (truthy v)):=by intro _;rfl):PT X e (tB t):=by
  intro pins s σ H Q I hw
  refine isTrue_plain (thn (h pins s σ H _ I hw) fun v s1 ⟨x,H1,I1,r1,q1⟩ => ?_) (he _)
  obtain⟨d,rfl,q⟩:=q1
  cases r1
  exact wpAny_truthy_bool ⟨H1,I1,q⟩
variable {tA tB':TT} {rest:List Expr}
def jx (t u:TT):TT:=fun σ H Q=>t σ H fun c H1=>if c=true then u σ H1 Q else Q false H1
def tOr (t u:TT):TT:=fun σ H Q=>t σ H fun c H1=>if c=true then Q true H1 else u σ H1 Q
def eD (t:TT):TT:=fun σ H Q=>t σ H fun c H1=>Q (!c) H1
theorem LA (ha:PT X a tA):PW X (.BoolOp .And [a] pos) tA:=by
  intro wh pins s σ H Q I h
  refine isTrue_and (thn (ha pins s σ H Q I h) fun c s1 e => ?_)
  cases c with
  | true=>exact isTrue_and_nil e
  | false=>exact e
theorem NG (ha:PT X a tA):PW X (.BoolOp .Or [a] pos) tA:=by
  intro wh pins s σ H Q I h
  refine isTrue_or (thn (ha pins s σ H Q I h) fun c s1 e => ?_)
  cases c with
  | false=>exact isTrue_or_nil e
  | true=>exact e
theorem NJ (ha:PT X a tA)(hb:PW X (.BoolOp .And (b :: rest) pos) tB'):PW X (.BoolOp .And (a :: b :: rest) pos) (jx tA tB'):=by
  intro wh pins s σ H Q I h
  refine isTrue_and (thn (ha pins s σ H _ I h) fun c s1 ⟨H1,I1,q1⟩ => ?_)
  cases c with
  | true=>exact hb wh pins s1 σ H1 Q I1 q1
  | false=>exact⟨H1,I1,q1⟩
theorem PD (ha:PT X a tA)(hb:PW X (.BoolOp .Or (b :: rest) pos) tB'):PW X (.BoolOp .Or (a :: b :: rest) pos) (tOr tA tB'):=by
  intro wh pins s σ H Q I h
  refine isTrue_or (thn (ha pins s σ H _ I h) fun c s1 ⟨H1,I1,q1⟩ => ?_)
  cases c with
  | true=>exact⟨H1,I1,q1⟩
  | false=>exact hb wh pins s1 σ H1 Q I1 q1
theorem NK (ha:PT X a tA):PT X (.UnaryOp .Not a pos) (eD tA):=by
  intro pins s σ H Q I h
  exact isTrue_not (ha pins s σ H (fun c H1=>Q (!c) H1) I h)
def PF (ta tb:TE):TE:=fun σ H Q=>ta σ H fun x H1=>∃ c,x=.bl c∧if c=true then tb σ H1 Q else Q (.bl false) H1
def QP (ta tb:TE):TE:=fun σ H Q=>ta σ H fun x H1=>∃ c,x=.bl c∧if c=true then Q (.bl true) H1 else tb σ H1 Q
def PJ (ta:TE):TE:=fun σ H Q=>ta σ H fun x H1=>∃ c,x=.bl c∧Q (.bl (!c)) H1
theorem NL {op}{t:TE}(h:PE X a t):PE X (.BoolOp op [a] pos) t:=fun pins s σ H Q I hw=>BoolOp_one (h pins s σ H Q I hw)
theorem NM (ha:PE X a ta)(hb:PE X (.BoolOp .And (b :: rest) pos) tb):PE X (.BoolOp .And (a :: b :: rest) pos) (PF ta tb):=by
  intro pins s σ H Q I h
  refine BoolOp_and (thn (ha pins s σ H _ I h) fun v s1 ⟨x,H1,I1,r1,q1⟩ => ?_)
  obtain⟨c,rfl,q1⟩:=q1
  cases r1
  refine wpAny_truthy_bool ?_
  cases c with
  | true=>exact hb pins s1 σ H1 Q I1 q1
  | false=>exact⟨.bl false,H1,I1,rfl,q1⟩
theorem PK (ha:PE X a ta)(hb:PE X (.BoolOp .Or (b :: rest) pos) tb):PE X (.BoolOp .Or (a :: b :: rest) pos) (QP ta tb):=by
  intro pins s σ H Q I h
  refine BoolOp_or (thn (ha pins s σ H _ I h) fun v s1 ⟨x,H1,I1,r1,q1⟩ => ?_)
  obtain⟨c,rfl,q1⟩:=q1
  cases r1
  refine wpAny_truthy_bool ?_
  cases c with
  | false=>exact hb pins s1 σ H1 Q I1 q1
  | true=>exact⟨.bl true,H1,I1,rfl,q1⟩
theorem NN (ha:PE X a ta):PE X (.UnaryOp .Not a pos) (PJ ta):=by
  intro pins s σ H Q I h
  refine UnaryOp_ (thn (ha pins s σ H _ I h) fun v s1 ⟨x,H1,I1,r1,q1⟩ => ?_)
  obtain⟨c,rfl,q1⟩:=q1
  cases r1
  exact not_of (wpAny_truthy_bool ⟨.bl (!c),H1,I1,rfl,q1⟩)
def tIf (t:TT) (ta tb:TE):TE:=fun σ H Q=>t σ H fun c H1=>if c=true then ta σ H1 Q else tb σ H1 Q
theorem Ij {c:Expr}(hc:PT X c tA)(ha:PE X a ta)(hb:PE X b tb):PE X (.IfExp c a b pos) (tIf tA ta tb):=by
  intro pins s σ H Q I h
  refine wpAny_IfExp (thn (hc pins s σ H _ I h) fun d s1 ⟨H1,I1,q1⟩ => ?_)
  cases d with
  | true=>exact ha pins s1 σ H1 Q I1 q1
  | false=>exact hb pins s1 σ H1 Q I1 q1
end
end L2
namespace L2
open PySem PySem.Spec PyProof.Rows
def SqL (K:PySem.W.Frag) (H:Hp) (a:Addr) (xs:List V):Prop :=
  Rd H a (.lst xs) ∨
    ∃ (o:Obj) (its:Array Value) (n:Nat),K.lookup a=some o∧o.cls=.type "list" ∧ o.dict=none∧o.data=.seq its n∧its.size≤sizeLine∧bj xs its.toList
def SqT (K:PySem.W.Frag) (H:Hp) (a:Addr) (xs:List V):Prop :=
  Rd H a (.tup xs) ∨
    ∃ (o:Obj) (its:Array Value) (n:Nat),K.lookup a=some o∧o.cls=.type "tuple" ∧ o.data=.seq its n∧its.size≤sizeLine∧bj xs its.toList
def QQ:Value→Option V
  | .none=>some .non
  | .bool b=>some (.bl b)
  | .int i _=>some (.int i)
  | .str x _=>some (.str x)
  | .bytes b _=>some (.byt b)
  | .float b _=>some (.flt b)
  | .ref a=>some (.ref a)
  | .type n=>some (.ty n)
  | _=>none
theorem bR.abs {x:V}{u:Value}(r:bR x u):QQ u=some x:=by
  cases x with
  | non=>cases r;rfl
  | bl _=>cases r;rfl
  | int _=>obtain⟨t,rfl⟩:=r;rfl
  | str _=>obtain⟨t,rfl⟩:=r;rfl
  | byt _=>obtain⟨t,rfl⟩:=r;rfl
  | flt _=>obtain⟨t,rfl⟩:=r;rfl
  | ref _=>cases r;rfl
  | ty _=>cases r;rfl
theorem bR.inj {x y:V}{u:Value}(r:bR x u)(q:bR y u):x=y:=Option.some.inj (r.abs.symm.trans q.abs)
theorem bj.inj:∀ {xs ys:List V} {us:List Value},bj xs us→bj ys us→xs=ys
  | _,_,_,.nil,.nil=>rfl
  | _,_,_,.cons r t,.cons r' t'=>by rw [r.inj r',bj.inj t t']
section
variable {X:Cx} {pins:List (Addr × Obj)} {σ:St} {H:Hp} {s:Shared} {a:Addr} {xs ys:List V}
theorem SqL.of {K:PySem.W.Frag}(h:H a=some (.lst xs)):SqL K H a xs:=.inl (.inl h)
theorem SqT.of {K:PySem.W.Frag}(h:H a=some (.tup xs)):SqT K H a xs:=.inl (.inl h)
theorem Inv.list (I:Inv X pins σ H s)(h:SqL X.K H a xs):∃ its:List Value,bj xs its∧PlainL s.heap a its.toArray∧xs.length≤sizeLine:=by
  rcases h with h|⟨o,its,n,hk,hc,hd,hs,hz,r⟩
  · obtain⟨z,its,n,r,e⟩:=h.ok I.hok
    exact⟨its,r,⟨_,n,e,rfl,rfl,rfl⟩,z⟩
  · refine⟨its.toList,r,⟨o,n,I.kIn a o hk,hc,hd,by simpa using hs⟩,?_⟩
    have e:=r.length
    simp only [Array.length_toList] at e
    omega
theorem Inv.tuple (I:Inv X pins σ H s)(h:SqT X.K H a xs):∃ its:List Value,bj xs its∧IsTup s.heap a its.toArray∧xs.length≤sizeLine:=by
  rcases h with h|⟨o,its,n,hk,hc,hs,hz,r⟩
  · obtain⟨z,its,r,p⟩:=h.ok I.hok
    exact⟨its,r,p,z⟩
  · refine⟨its.toList,r,⟨o,I.kIn a o hk,hc,n,by simpa using hs⟩,?_⟩
    have e:=r.length
    simp only [Array.length_toList] at e
    omega
theorem Inv.list_inj (I:Inv X pins σ H s)(h:SqL X.K H a xs)(h':SqL X.K H a ys):xs=ys:=by
  obtain⟨its,r,⟨o,n,e,_,_,d⟩,_⟩:=I.list h
  obtain⟨its',r',⟨o',n',e',_,_,d'⟩,_⟩:=I.list h'
  rw [e] at e';cases e'
  rw [d] at d'
  injection d' with d1 _
  have:its=its':=by simpa using congrArg Array.toList d1
  subst this
  exact r.inj r'
theorem Inv.tuple_inj (I:Inv X pins σ H s)(h:SqT X.K H a xs)(h':SqT X.K H a ys):xs=ys:=by
  obtain⟨its,r,⟨o,e,_,n,d⟩,_⟩:=I.tuple h
  obtain⟨its',r',⟨o',e',_,n',d'⟩,_⟩:=I.tuple h'
  rw [e] at e';cases e'
  rw [d] at d'
  injection d' with d1 _
  have:its=its':=by simpa using congrArg Array.toList d1
  subst this
  exact r.inj r'
end
abbrev Cx.wish (X:Cx) (E:Value→Shared→Prop):Cx:={ X with xe:=E }
abbrev Cx.nox (X:Cx):Cx:=X.wish fun _ _=>False
theorem Cx.Ok.wish {X:Cx}(ok:X.Ok)(E:Value→Shared→Prop):(X.wish E).Ok :=
  ⟨ok.mod,ok.kind,ok.glob,ok.blt,ok.above,ok.inj,ok.has,ok.cab,ok.hd,ok.frames,ok.stk,ok.exf,ok.bs,ok.bsz,ok.noex,ok.exfs,ok.funs,ok.frf⟩
theorem Cx.Ok.unwish {X:Cx}{E:Value→Shared→Prop}(ok:(X.wish E).Ok):X.Ok :=
  ⟨ok.mod,ok.kind,ok.glob,ok.blt,ok.above,ok.inj,ok.has,ok.cab,ok.hd,ok.frames,ok.stk,ok.exf,ok.bs,ok.bsz,ok.noex,ok.exfs,ok.funs,ok.frf⟩
section
variable {X:Cx} {pins:List (Addr × Obj)} {σ:St} {H:Hp} {s:Shared} {E:Value→Shared→Prop}
theorem Inv.wish (I:Inv X pins σ H s)(E:Value→Shared→Prop):Inv (X.wish E) pins σ H s:=⟨I.ok.wish E,I.os,I.bare,I.base,I.loc,I.cell,I.free,I.freeC,I.pin,I.hok,I.len⟩
theorem Inv.unwish (I:Inv (X.wish E) pins σ H s):Inv X pins σ H s:=⟨I.ok.unwish,I.os,I.bare,I.base,I.loc,I.cell,I.free,I.freeC,I.pin,I.hok,I.len⟩
theorem SP.unwish {D:sj}{f:Flow}{s':Shared}(h:SP (X.wish E) pins D f s'):SP X pins D f s':=by
  cases f with
  | next=>obtain⟨σ',H',I,q⟩:=h;exact⟨σ',H',I.unwish,q⟩
  | brk=>obtain⟨σ',H',I,q⟩:=h;exact⟨σ',H',I.unwish,q⟩
  | cont=>obtain⟨σ',H',I,q⟩:=h;exact⟨σ',H',I.unwish,q⟩
  | ret u=>obtain⟨v,σ',H',I,r,q⟩:=h;exact⟨v,σ',H',I.unwish,r,q⟩
theorem PSs.nox {st:List Stmt}{t:TS}(h:PSs X.nox st t):PSs X st t:=fun pins s σ H D I hw =>
  wpAny_mono (h pins s σ H D (I.wish _) hw) (fun _ _ q=>q.unwish) fun _ _ z=>False.elim z
end
section
variable {X:Cx} {st:Stmt} {rest:List Stmt} {t u:TS} {e:Expr} {te:TE} {pos:Pos}
def PM:TS:=fun D σ H=>D.nx σ H
def QR (t u:TS):TS:=fun D σ H=>t { D with nx:=u D } σ H
theorem xU:PSs X [] PM:=fun _ _ σ H _ I h=>wpAny_execs_nil ⟨σ,H,I,h⟩
theorem As (h1:PS X st t)(h2:PSs X rest u):PSs X (st :: rest) (QR t u):=by
  intro pins s σ H D I h
  refine wpAny_execs_cons (thn (h1 pins s σ H { D with nx:=u D } I h) fun f s1 q => ?_)
  cases f with
  | next =>
    obtain⟨σ',H',I',q⟩:=q
    exact h2 pins s1 σ' H' D I' q
  | ret v=>exact q
  | brk=>exact q
  | cont=>exact q
theorem xV (h1:PS X st t):PSs X [st] t:=by
  intro pins s σ H D I h
  refine wpAny_execs_cons (thn (h1 pins s σ H D I h) fun f s1 q => ?_)
  cases f with
  | next=>exact wpAny_execs_nil q
  | ret v=>exact q
  | brk=>exact q
  | cont=>exact q
theorem Inv.quiet {pins:List (Addr × Obj)}{σ:St}{H:Hp}{s:Shared}(I:Inv X pins σ H s):interactive X.env=false:=by simp [interactive,I.ok.kind]
def PN (te:TE):TS:=fun D σ H=>te σ H fun _ H1=>D.nx σ H1
theorem E7 (he:PE X e te)(hs:swapsWith e none pos.line X.env=pure false:=by rfl):PS X (.Expr e pos) (PN te):=by
  intro pins s σ H D I h
  exact wpAny_Expr_any (thn (he pins s σ H _ I h) fun v s1 ⟨x,H1,I1,r1,q1⟩=>⟨σ,H1,I1,q1⟩) I.quiet hs
def QS (te:TE):TS:=fun D σ H=>te σ H D.rt
theorem Ik (he:PE X e te):PS X (.Return (some e) pos) (QS te):=by
  intro pins s σ H D I h
  exact wpAny_Return_some (thn (he pins s σ H _ I h) fun v s1 ⟨x,H1,I1,r1,q1⟩=>⟨x,σ,H1,I1,r1,q1⟩)
def QT (c:TT) (t u:TS):TS:=fun D σ H=>c σ H fun b H1=>if b=true then t D σ H1 else u D σ H1
theorem Nf {c:Expr}{a b:List Stmt}{tc:TT}(hc:PT X c tc)(ha:PSs X a t)(hb:PSs X b u):PS X (.If c a b pos) (QT tc t u):=by
  intro pins s σ H D I h
  refine wpAny_If (thn (hc pins s σ H _ I h) fun d s1 ⟨H1,I1,q1⟩ => ?_)
  cases d with
  | true=>exact ha pins s1 σ H1 D I1 q1
  | false=>exact hb pins s1 σ H1 D I1 q1
def NO:TS:=fun _ _ _=>False
theorem Im:PS X st NO:=fun _ _ _ _ _ _ h=>h.elim
end
abbrev TG:=V→St→Hp→(St→Hp→Prop)→Prop
abbrev TGs:=List V→St→Hp→(St→Hp→Prop)→Prop
def PG (X:Cx) (target:Expr) (t:TG):Prop :=
  ∀ (pins:List (Addr × Obj)) (s:Shared) (σ:St) (H:Hp) (v:V) (u:Value) (Q:St→Hp→Prop),Inv X pins σ H s→bR v u→t v σ H Q →
    wpAny (model X.prog X.w) X.A (assign target X.env u) (fun _ s'=>∃ σ' H',Inv X pins σ' H' s'∧Q σ' H') X.xe s
def PGs (X:Cx) (ts:List Expr) (t:TGs):Prop :=
  ∀ (pins:List (Addr × Obj)) (s:Shared) (σ:St) (H:Hp) (vs:List V) (us:List Value) (Q:St→Hp→Prop),Inv X pins σ H s→bj vs us→t vs σ H Q →
    wpAny (model X.prog X.w) X.A (assignInOrder ((assignEach ts X.env).map (·.2)) us) (fun _ s'=>∃ σ' H',Inv X pins σ' H' s'∧Q σ' H') X.xe s
abbrev NP:=V→V→V→Hp→(Hp→Prop)→Prop
def NQ (X:Cx) (t:NP):Prop :=
  ∀ (pins:List (Addr × Obj)) (s:Shared) (σ:St) (H:Hp) (o i v:V) (ov iv u:Value) (Q:Hp→Prop),Inv X pins σ H s→bR o ov→bR i iv→bR v u→t o i v H Q →
    wpAny (model X.prog X.w) X.A (setItem ov iv u) (fun _ s'=>∃ H',Inv X pins σ H' s'∧Q H') X.xe s
section
variable {X:Cx} {pos:Pos}
def Io (i:Nat):TG:=fun v σ H Q=>Q (σ.set i (some v)) H
theorem LB {i:Nat}{x:Str}(hN:X.N.Nodup)(hi:X.N[i]? = some x)(hx:Loc X.env.scope x)(hf:X.fn x=true∨X.env.scope.names.lookup x=some .local:=by first|exact .inl rfl|exact .inr rfl|assumption):PG X (.Name x pos) (Io i):=by
  intro pins s σ H v u Q I r h
  exact wpAny_assign_Name (si I hN hi hx r (fun s' I'=>⟨_,H,I',h⟩) hf)
def QU:TGs:=fun vs σ H Q=>vs=[]∧Q σ H
def PP (t:TG) (u:TGs):TGs:=fun vs σ H Q=>∃ v r,vs=v :: r∧t v σ H fun σ' H'=>u r σ' H' Q
theorem LC:PGs X [] QU:=by
  intro pins s σ H vs us Q I r h
  obtain⟨e,h⟩:=h
  subst e
  cases r
  exact assignInOrder_nil ⟨σ,H,I,h⟩
theorem Ip {e:Expr}{es:List Expr}{t:TG}{u:TGs}(h1:PG X e t)(h2:PGs X es u)
    (hs:(assignEach (e :: es) X.env).map (·.2)=assign e X.env :: (assignEach es X.env).map (·.2):=by rfl):PGs X (e :: es) (PP t u):=by
  intro pins s σ H vs us Q I r h
  obtain⟨v,vr,e1,h⟩:=h
  subst e1
  cases r with
  | cons r rr =>
    rw [hs]
    refine assignInOrder_cons (thn (h1 pins s σ H _ _ _ I r h) fun _ s1 ⟨σ1,H1,I1,q1⟩ => ?_)
    exact h2 pins s1 σ1 H1 _ _ Q I1 rr q1
def QV (K:PySem.W.Frag) (n:Nat) (t:TGs):TG:=fun v σ H Q=>∃ a xs,v=.ref a∧SqT K H a xs∧xs.length=n∧t xs σ H Q
theorem NR {es:List Expr}{k:Nat}{t:TGs}{n:Nat}(hc:X.calm=true)(h:PGs X es t)
    (hn:(assignEach es X.env).length=n:=by rfl) (hst:(assignEach es X.env).findIdx? (·.1)=none:=by rfl):PG X (.Tuple es k pos) (QV X.K n t):=by
  intro pins s σ H v u Q I r hw
  obtain⟨a,xs,e1,hq,hl,hw⟩:=hw
  subst e1
  cases r
  obtain⟨its,rv,ht,hz⟩:=I.tuple hq
  refine assign_Tuple_tuple (I.ok.hd hc) ht (by simp [hn,← hl,rv.length]) hst fun h' hx => ?_
  have I1:Inv X pins σ H { s with heap:=h' }:=I.kept (t':=s.toks) fun b o e=>hx b o (Nat.ne_of_lt (Heap.lt_size e)) e
  exact h pins _ σ H xs _ Q I1 (by simpa using rv) hw
def QW (to ti:TE) (t:NP):TG:=fun v σ H Q=>to σ H fun o H1=>ti σ H1 fun i H2=>t o i v H2 fun H3=>Q σ H3
theorem Iq {o i:Expr}{to ti:TE}{t:NP}(ho:PE X o to)(hi:PE X i ti)(hs:NQ X t)
    (ha:∀ v,assign (.Subscript o i pos) X.env v=(do
      let ov ← holding [v] (eval o X.env)
      let iv ← holding [v,ov] (eval i X.env)
      standAt pos
      holding [v,ov,iv] (setItem ov iv v)
      release [v,ov,iv] []):=by intro _;rfl):PG X (.Subscript o i pos) (QW to ti t):=by
  intro pins s σ H v u Q I r h
  rw [ha]
  refine wpAny_bind (wpAny_holding (thn (ho pins s σ H _ I h) fun ov s1 ⟨x,H1,I1,r1,q1⟩ => ?_))
  refine wpAny_bind (wpAny_holding (thn (hi pins s1 σ H1 _ I1 q1) fun iv s2 ⟨y,H2,I2,r2,q2⟩ => ?_))
  refine wpAny_bind (wpAny_standAt (wpAny_bind (wpAny_holding (thn (hs pins s2 σ H2 x y v ov iv u _ I2 r1 r2 r q2) fun _ s3 ⟨H3,I3,q3⟩ => ?_))))
  exact wpAny_release ⟨σ,H3,I3,q3⟩
def NT (te:TE) (g:TG):TS:=fun D σ H=>te σ H fun x H1=>g x σ H1 D.nx
theorem CH {tg e:Expr}{te:TE}{g:TG}(he:PE X e te)(hg:PG X tg g)(hs:swapsWithSole [tg] e pos.line X.env=pure false:=by rfl)(hw:swappedStores [tg] e X.env=pure none:=by rfl)
    (h1:(assignEach [tg] X.env).map (·.2)=[assign tg X.env]:=by rfl):PS X (.Assign [tg] e pos) (NT te g):=by
  intro pins s σ H D I h
  refine wpAny_Assign_stores (thn (he pins s σ H _ I h) fun v s1 ⟨x,H1,I1,r1,q1⟩ => ?_) hs hw
  rw [h1]
  exact thn (hg pins s1 σ H1 x v _ I1 r1 q1) fun _ s2 q=>q
theorem Ir {i:Nat}{x:Str}{e:Expr}{te:TE}{pos':Pos}(hN:X.N.Nodup)(hi:X.N[i]? = some x)(hx:Loc X.env.scope x)(he:PE X e te)(hs:swapsWith e (some (.Name x pos')) pos.line X.env=pure false:=by rfl)(hf:X.fn x=true∨X.env.scope.names.lookup x=some .local:=by first|exact .inl rfl|exact .inr rfl|assumption) :
    PS X (.Assign [.Name x pos'] e pos) (NT te (Io i)):=by
  intro pins s σ H D I h
  refine wpAny_Assign_Name (thn (he pins s σ H _ I h) fun v s1 ⟨y,H1,I1,r1,q1⟩ => ?_) hs
  exact si I1 hN hi hx r1 (fun s2 I2=>⟨_,H1,I2,q1⟩) hf
end
section
variable {X:Cx} {pos:Pos}
def NU (c:TT) (tb:TS):TS:=fun D σ H=>∃ W:Nat→St→Hp→Prop,(∃ m,W m σ H) ∧ ∀ m σ H,W m σ H →
  c σ H fun b H1=>if b=true then ∃ N:St→Hp→Prop,(∀ σ' H',N σ' H' → ∃ m',m' < m∧W m' σ' H')∧tb { D with nx:=N,ct:=N,bk:=D.nx } σ H1 else D.nx σ H1
theorem Iu {c:Expr}{body:List Stmt}{tc:TT}{tb:TS}(hp:PassesOwn (model X.prog X.w) X.A X.env X.xe)(hc:PT X c tc)(hb:PSs X body tb):PS X (.While c body [] pos) (NU tc tb):=by
  intro pins s σ H D I h
  obtain⟨W,⟨m0,w0⟩,turn⟩:=h
  refine wpAny_While (codeAny_whileLoop (fun n s'=>∃ σ' H',Inv X pins σ' H' s'∧W n σ' H') ?_ m0 ⟨σ,H,I,w0⟩)
  rintro n s1 ⟨σ1,H1,I1,w1⟩
  refine wpAny_passesOwn hp (thn (hc pins s1 σ1 H1 _ I1 (turn n σ1 H1 w1)) fun b s2 ⟨H2,I2,q2⟩ => ?_)
  cases b with
  | true =>
    obtain⟨N,hN,q2⟩:=q2
    rw [if_pos rfl]
    refine wpAny_passesOwn hp (thn (hb pins s2 σ1 H2 _ I2 q2) fun f s3 q3 => ?_)
    cases f with
    | next =>
      obtain⟨σ3,H3,I3,n3⟩:=q3
      obtain⟨m',hm,w3⟩:=hN σ3 H3 n3
      exact⟨m',hm,σ3,H3,I3,w3⟩
    | cont =>
      obtain⟨σ3,H3,I3,n3⟩:=q3
      obtain⟨m',hm,w3⟩:=hN σ3 H3 n3
      exact⟨m',hm,σ3,H3,I3,w3⟩
    | brk=>exact q3
    | ret v=>exact q3
  | false =>
    rw [if_neg Bool.false_ne_true]
    exact wpAny_execs_nil ⟨σ1,H2,I2,q2⟩
end
structure It where
  go:Nat→Hp→Prop
  yld:Nat→Hp→V→Hp→Prop
  stop:Nat→Hp→Prop
def sr (X:Cx) (pins:List (Addr × Obj)) (H:Hp) (b:Addr):Prop :=
  H b=none∧b≠X.env.locals∧b∉X.fs∧(b∈X.ex∨X.s₀.heap.objs.size≤b)∧(∀ x c,X.env.cells.lookup x=some c→c≠b) ∧ ∀ p∈X.pn++pins,p.1≠b
theorem Inv.fpOk {X:Cx}{pins:List (Addr × Obj)}{σ:St}{H H':Hp}{s:Shared}{b:Addr}(I:Inv X pins σ H s)(hb:s.heap.objs.size≤b)(hn:H' b=none):sr X pins H' b:=by
  refine⟨hn,Nat.ne_of_gt (Nat.lt_of_lt_of_le I.lt hb),I.nofs hb,.inr (Nat.le_trans I.sz hb),fun x c e z => ?_,fun p hp z => ?_⟩
  · obtain⟨v,q⟩:=I.cell x c e
    exact absurd (Nat.lt_of_lt_of_le q.lt (by rw [z];exact hb)) (Nat.lt_irrefl _)
  · exact absurd (Nat.lt_of_lt_of_le (Heap.lt_size (I.pin p hp).1) (by rw [z];exact hb)) (Nat.lt_irrefl _)
structure At (P:Program) (w:World) (K:PySem.W.Frag) (tg:Expr) (J:It) (fp:List Addr) (it:Addr) (tn:Nat→Heap→Prop):Prop where
  mem:it∈fp
  obj:∀ i h,tn i h → ∀ b∈fp,∃ o,h.get? b=some o ∧ ∀ v,o.data ≠ .cell v
  keep:∀ i h h',tn i h→(∀ b∈fp,∀ o,h.get? b=some o→h'.get? b=some o)→tn i h'
  item:∀ (X:Cx),X.prog=P→X.w=w→X.K=K→X.calm=true → ∀ (i:Nat) (pins:List (Addr × Obj)) (s:Shared) (σ:St) (H:Hp) (E:Value→Shared→Prop),Inv X pins σ H s→(∀ b∈fp,sr X pins H b)→tn i s.heap→J.go i H →
    wpAny (model P w) X.A (pyNext (.ref it)) (fun r s1=>∃ u,r=some u ∧
      wpAny (model P w) X.A (letOwnedTupleGo tg (.ref it) u) (fun _ s2=>∃ x H',Inv X pins σ H' s2∧bR x u∧J.yld i H x H'∧tn (i + 1) s2.heap ∧ ∀ b∈fp,H' b=none) E s1) E s
  done:∀ (X:Cx),X.prog=P→X.w=w→X.K=K→X.calm=true → ∀ (i:Nat) (pins:List (Addr × Obj)) (s:Shared) (σ:St) (H:Hp) (E:Value→Shared→Prop),Inv X pins σ H s→(∀ b∈fp,sr X pins H b)→tn i s.heap→J.stop i H →
    wpAny (model P w) X.A (pyNext (.ref it)) (fun r s1=>r=none∧Inv X pins σ H s1) E s
  self:∀ (A:Around) (i:Nat) (s:Shared) (Q:Value→Shared→Prop) (E:Value→Shared→Prop),tn i s.heap→Q (.ref it) s→wpAny (model P w) A (pyIter (.ref it)) Q E s
abbrev TI:=St→Hp→(It→Hp→Prop)→Prop
def PIE (X:Cx) (pins:List (Addr × Obj)) (σ:St) (tg:Expr) (R:It→Hp→Prop) (itv:Value) (s2:Shared):Prop :=
  ∃ (it:Addr) (fp:List Addr) (tn:Nat→Heap→Prop) (J:It) (H':Hp),itv=.ref it∧Inv X pins σ H' s2∧At X.prog X.w X.K tg J fp it tn∧tn 0 s2.heap∧(∀ b∈fp,sr X pins H' b)∧R J H'
def PI (X:Cx) (tg iter:Expr) (wi:TI):Prop :=
  ∀ (pins:List (Addr × Obj)) (s:Shared) (σ:St) (H:Hp) (R:It→Hp→Prop),Inv X pins σ H s→wi σ H R →
    wpAny (model X.prog X.w) X.A (eval iter X.env) (fun v s1=>wpAny (model X.prog X.w) X.A (pyIter v) (PIE X pins σ tg R) X.xe s1) X.xe s
theorem Iv {M:Model}{A:Around}{E:Value→Shared→Prop}{s:Shared}{tg:Expr}{it:Addr}{u:Value}{o:Obj}{n:String}{vs:Array Value}{Q:Unit→Shared→Prop}(ho:s.heap.get? it=some o)(hc:o.cls=.type n)(hd:o.data=.fields vs)
    (hn : ["enumerate", "zip", "dict_itemiterator", "dict_reverseitemiterator", "odict_iterator", "itertools.zip_longest", "itertools.pairwise"].contains n=false) (hQ:Q () s):wpAny M A (letOwnedTupleGo tg (.ref it) u) Q E s:=by
  unfold letOwnedTupleGo
  cases tg<;>first
    | exact wpAny_pure hQ
    | (cases u<;>first
        | exact wpAny_pure hQ
        | (refine wpAny_bind (wpAny_load ho ?_)
           rw [hc,hd]
           show wpAny M A (if (["enumerate", "zip", "dict_itemiterator", "dict_reverseitemiterator", "odict_iterator", "itertools.zip_longest", "itertools.pairwise"].contains n && vs[0]? == some (rawInt _))=true then _ else _) Q E s
           rw [if_neg (by intro h;rw [hn,Bool.false_and] at h;cases h)]
           exact wpAny_pure hQ))
def Itl (K:PySem.W.Frag) (a:Addr):It :=
  ⟨fun i H=>∃ xs x,SqL K H a xs∧xs[i]? = some x,fun i H x H'=>H'=H ∧ ∀ xs,SqL K H a xs→xs[i]? = some x,fun i H=>∃ xs,SqL K H a xs∧xs.length≤i⟩
def Itt (K:PySem.W.Frag) (a:Addr):It :=
  ⟨fun i H=>∃ xs x,SqT K H a xs∧xs[i]? = some x,fun i H x H'=>H'=H ∧ ∀ xs,SqT K H a xs→xs[i]? = some x,fun i H=>∃ xs,SqT K H a xs∧xs.length≤i⟩
def Itr (lo:Int) (n:Nat):It:=⟨fun i _=>i < n,fun i H x H'=>H'=H∧x=.int (lo + i),fun i _=>n≤i⟩
theorem FZ {P:Program}{w:World}{K:PySem.W.Frag}{tg:Expr}(a it:Addr):At P w K tg (Itl K a) [it] it (fun i h=>h.IsListIter it a i) where
  mem:=by simp
  obj:=fun i h st b hb=>by
    have e:b=it:=by simpa using hb
    subst e
    obtain⟨o,e,c,d⟩:=st
    exact⟨o,e,fun v z=>by rw [d] at z;cases z⟩
  keep:=fun i h h' st k=>st.at fun o e=>k it (by simp) o e
  item:=by
    intro X hP hw hK hc i pins s σ H E I hf st hg
    subst hP hw hK
    obtain⟨xs,x,hq,hx⟩:=hg
    obtain⟨its,rv,p,hz⟩:=I.list hq
    obtain⟨u,hu,ru⟩:=rv.get hx
    obtain⟨f0,f1,f2,f3,f4,f5⟩:=hf it (by simp)
    refine wpAny_pyNext_list_item st p.isList (x:=u) (by simpa using hu) fun h' st' sb => ?_
    have I1:Inv X pins σ H { s with heap:=h' }:=I.turned (t':=s.toks) (fun b o hb e=>(sb.2 b hb).trans e) f0 f1 f3 f4 f5
    obtain⟨o,e,c,d⟩:=id st'
    exact⟨u,rfl,Iv (s:={ s with heap:=h' }) e c d (by decide) ⟨x,H,I1,ru,⟨rfl,fun ys hy=>by rw [I.list_inj hy hq];exact hx⟩,st',fun b hb=>(hf b hb).1⟩⟩
  done:=by
    intro X hP hw hK hc i pins s σ H E I hf st hg
    subst hP hw hK
    obtain⟨xs,hq,hx⟩:=hg
    obtain⟨its,rv,p,hz⟩:=I.list hq
    obtain⟨f0,f1,f2,f3,f4,f5⟩:=hf it (by simp)
    have hl:=rv.length
    exact wpAny_pyNext_list_end (I.ok.hd hc) st p.isList (by simp;omega) fun h' eb=>⟨rfl,I.turned (t':=s.toks) (fun b o hb e=>eb b o hb e) f0 f1 f3 f4 f5⟩
  self:=fun _ _ _ _ _ st h=>wpAny_pyIter_listiter st h
theorem CJ {P:Program}{w:World}{K:PySem.W.Frag}{tg:Expr}(a it:Addr):At P w K tg (Itt K a) [it] it (fun i h=>h.IsTupleIter it a i) where
  mem:=by simp
  obj:=fun i h st b hb=>by
    have e:b=it:=by simpa using hb
    subst e
    obtain⟨o,e,c,d⟩:=st
    exact⟨o,e,fun v z=>by rw [d] at z;cases z⟩
  keep:=fun i h h' st k=>st.at fun o e=>k it (by simp) o e
  item:=by
    intro X hP hw hK hc i pins s σ H E I hf st hg
    subst hP hw hK
    obtain⟨xs,x,hq,hx⟩:=hg
    obtain⟨its,rv,p,hz⟩:=I.tuple hq
    obtain⟨u,hu,ru⟩:=rv.get hx
    obtain⟨f0,f1,f2,f3,f4,f5⟩:=hf it (by simp)
    refine wpAny_pyNext_tuple_item st (show s.heap.IsTuple a its.toArray from p) (x:=u) (by simpa using hu) fun h' st' sb => ?_
    have I1:Inv X pins σ H { s with heap:=h' }:=I.turned (t':=s.toks) (fun b o hb e=>(sb.2 b hb).trans e) f0 f1 f3 f4 f5
    obtain⟨o,e,c,d⟩:=id st'
    exact⟨u,rfl,Iv (s:={ s with heap:=h' }) e c d (by decide) ⟨x,H,I1,ru,⟨rfl,fun ys hy=>by rw [I.tuple_inj hy hq];exact hx⟩,st',fun b hb=>(hf b hb).1⟩⟩
  done:=by
    intro X hP hw hK hc i pins s σ H E I hf st hg
    subst hP hw hK
    obtain⟨xs,hq,hx⟩:=hg
    obtain⟨its,rv,p,hz⟩:=I.tuple hq
    obtain⟨f0,f1,f2,f3,f4,f5⟩:=hf it (by simp)
    have hl:=rv.length
    exact wpAny_pyNext_tuple_end (I.ok.hd hc) st (show s.heap.IsTuple a its.toArray from p) (by simp;omega) fun h' eb=>⟨rfl,I.turned (t':=s.toks) (fun b o hb e=>eb b o hb e) f0 f1 f3 f4 f5⟩
  self:=fun _ _ _ _ _ st h=>wpAny_pyIter_tupleiter st h
theorem CK {P:Program}{w:World}{K:PySem.W.Frag}{tg:Expr}(it:Addr)(lo:Int)(n:Nat):At P w K tg (Itr lo n) [it] it (fun i h=>IsRangeIter h it (lo + (i:Nat) * 1) ((n:Int) - (i:Nat)) 1) where
  mem:=by simp
  obj:=fun i h st b hb=>by
    have e:b=it:=by simpa using hb
    subst e
    exact⟨_,st,fun v z=>by
      have z':Data.fields _=Data.cell v:=z
      cases z'⟩
  keep:=fun i h h' st k=>k it (by simp) _ st
  item:=by
    intro X hP hw hK hc i pins s σ H E I hf st hg
    subst hP hw hK
    obtain⟨f0,f1,f2,f3,f4,f5⟩:=hf it (by simp)
    have W:=Walks.range (prog:=X.prog) (w:=X.w) (I.ok.hd hc) it lo 1 n
    refine W.item i s _ _ hg st fun v h' tk hv st' kk => ?_
    obtain⟨t,rfl⟩:=hv
    have I1:Inv X pins σ H { s with heap:=h',toks:=tk }:=I.turned (fun b o hb e=>kk b o (by simpa using hb) e) f0 f1 f3 f4 f5
    refine⟨_,rfl,Iv (s:={ s with heap:=h',toks:=tk }) (n := "range_iterator") st' rfl rfl (by decide) ⟨.int (lo + i),H,I1,⟨t,?_⟩,⟨rfl,rfl⟩,st',fun b hb=>(hf b hb).1⟩⟩
    rw [Int.mul_one]
  done:=by
    intro X hP hw hK hc i pins s σ H E I hf st hg
    subst hP hw hK
    obtain⟨f0,f1,f2,f3,f4,f5⟩:=hf it (by simp)
    exact wpAny_pyNext_range_end (I.ok.hd hc) st (by have:n≤i:=hg;omega) fun h' eb=>⟨rfl,I.turned (t':=s.toks) (fun b o hb e=>eb b o hb e) f0 f1 f3 f4 f5⟩
  self:=fun _ _ _ _ _ st h=>wpAny_pyIter_rangeiter st h
end L2
namespace L2
open PySem PySem.Spec PyProof.Rows
section
variable {X:Cx} {tg:Expr}
theorem Au {pins:List (Addr × Obj)}{σ:St}{H:Hp}{s:Shared}{R:It→Hp→Prop}{E:Value→Shared→Prop}{lo hi:Int}{t u v:Tok}{tk:Nat}(I:Inv X pins σ H s)(h1 : -(2 ^ 62)≤lo)(h2:lo < 2 ^ 62)(h3 : -(2 ^ 62)≤hi)(h4:hi < 2 ^ 62)
    (q:R (Itr lo (hi - lo).toNat) H):wpAny (model X.prog X.w) X.A (pyIter (.ref s.heap.objs.size)) (PIE X pins σ tg R) E { s with heap:=s.heap.push { cls:=.type "range",data:=.fields #[.int lo t,.int hi u,.int 1 v] },toks:=tk }:=by
  refine wpAny_pyIter_range (IsRange.new ..) (small_one h1 h2 h3 h4) ?_
  have I1:Inv X pins σ H { s with heap:=s.heap.push { cls:=.type "range",data:=.fields #[.int lo t,.int hi u,.int 1 v] },toks:=tk }:=I.kept fun b o e=>Heap.get?_push_of_some _ e
  refine⟨(s.heap.push { cls:=.type "range",data:=.fields #[.int lo t,.int hi u,.int 1 v] }).objs.size,[(s.heap.push { cls:=.type "range",data:=.fields #[.int lo t,.int hi u,.int 1 v] }).objs.size],_,_,H,rfl,
    I1.kept (t':=tk) fun b o e=>Heap.get?_push_of_some _ e,CK _ lo (hi - lo).toNat,?_,fun b hb => ?_,q⟩
  · have e1:lo + ((0:Nat):Int) * 1=lo:=by simp
    have e2:(((hi - lo).toNat:Nat):Int) - ((0:Nat):Int)=Builtin.Range.rangeSize lo hi 1:=by rw [rangeSize_one];split<;>omega
    show IsRangeIter _ _ (lo + ((0:Nat):Int) * 1) ((((hi - lo).toNat:Nat):Int) - ((0:Nat):Int)) 1
    rw [e1,e2]
    exact Heap.get?_push_size _ rfl
  · have e:b=(s.heap.push { cls:=.type "range",data:=.fields #[.int lo t,.int hi u,.int 1 v] }).objs.size:=by simpa using hb
    subst e
    exact I1.fpOk (Nat.le_refl _) (I1.hok.fresh (Nat.le_refl _))
def PQ (ta:TA):TI:=fun σ H R=>ta σ H fun vs H1=>∃ j:Int,vs=[.int j] ∧ -(2 ^ 62)≤j∧j < 2 ^ 62∧R (Itr 0 j.toNat) H1
def PR (ta:TA):TI:=fun σ H R=>ta σ H fun vs H1=>∃ i j:Int,vs=[.int i,.int j]∧(-(2 ^ 62)≤i∧i < 2 ^ 62 ∧ -(2 ^ 62)≤j∧j < 2 ^ 62)∧R (Itr i (j - i).toNat) H1
theorem F3 {a:Expr} {ta:TA} {p pos:Pos} (hg:Gl X "range") (hm:X.mg "range" = none) (ha:PA X [a] ta) (hs:starEach [a] X.env=[(false,eval a X.env)]:=by rfl):PI X tg (.Call (.Name "range" p) [a] [] pos) (PQ ta):=by
  intro pins s σ H R I h
  refine Call_ (kS I hg hm boot_range (PyProof.Rows.callWith_type1 (thn (ha pos pins s σ H _ I h) fun us s1 ⟨vs,H1,I1,r1,q1⟩ => ?_) hs rfl))
  obtain⟨j,e,q1,q2,q⟩:=q1
  subst e
  cases r1 with
  | cons r rr =>
    cases rr
    obtain⟨t,rfl⟩:=r
    exact call_range_1 (Au I1 (by omega) (by omega) q1 q2 (by simpa using q))
theorem F4 {a b:Expr} {ta:TA} {p pos:Pos} (hg:Gl X "range") (hm:X.mg "range" = none) (ha:PA X [a,b] ta) (hs:starEach [a,b] X.env=[(false,eval a X.env),(false,eval b X.env)]:=by rfl) (hs2:starEach [b] X.env=[(false,eval b X.env)]:=by rfl) :
    PI X tg (.Call (.Name "range" p) [a,b] [] pos) (PR ta):=by
  intro pins s σ H R I h
  refine Call_ (kS I hg hm boot_range (PyProof.Rows.callWith_type1 (thn (ha pos pins s σ H _ I h) fun us s1 ⟨vs,H1,I1,r1,q1⟩ => ?_) (by rw [hs,hs2]) (by rw [hs2];rfl)))
  obtain⟨i,j,e,⟨q1,q2,q3,q4⟩,q⟩:=q1
  subst e
  cases r1 with
  | cons r rr =>
    cases rr with
    | cons r' rr =>
      cases rr
      obtain⟨t,rfl⟩:=r
      obtain⟨t',rfl⟩:=r'
      exact call_range_2 (Au I1 q1 q2 q3 q4 q)
def QX (wi:TI) (g:TG) (tb:TS):TS:=fun D σ H=>wi σ H fun J H1=>∃ W:Nat→Nat→St→Hp→Prop,(∃ m,W 0 m σ H1) ∧ ∀ i m σ H,W i m σ H →
  (J.stop i H∧D.nx σ H)∨(J.go i H ∧ ∃ N:St→Hp→Prop,(∀ σ' H',N σ' H' → ∃ m',m' < m∧W (i + 1) m' σ' H') ∧ ∀ x H',J.yld i H x H'→g x σ H' fun σ2 H2=>tb { D with nx:=N,ct:=N,bk:=D.nx } σ2 H2)
def sw (fp:List Addr) (h:Heap):List (Addr × Obj):=fp.filterMap fun b=>(h.get? b).map fun o=>(b,o)
theorem jT {fp:List Addr}{h:Heap}{b:Addr}{o:Obj}(hb:b∈fp)(e:h.get? b=some o):(b,o)∈sw fp h:=List.mem_filterMap.mpr ⟨b,hb,by rw [e];rfl⟩
theorem F5 {fp:List Addr}{h:Heap}{p:Addr × Obj}(hp:p∈sw fp h):p.1∈fp∧h.get? p.1=some p.2:=by
  obtain⟨b,hb,e⟩:=List.mem_filterMap.mp hp
  cases q:h.get? b with
  | none=>rw [q] at e;cases e
  | some o =>
    rw [q] at e
    have e':(b,o)=p:=Option.some.inj e
    subst e'
    exact⟨hb,q⟩
theorem Inv.pinned {pins:List (Addr × Obj)}{σ:St}{H:Hp}{s:Shared}{fp:List Addr}(I:Inv X pins σ H s)(hf:∀ b∈fp,sr X pins H b)(ho:∀ b∈fp,∃ o,s.heap.get? b=some o ∧ ∀ v,o.data ≠ .cell v):Inv X (pins++sw fp s.heap) σ H s :=
  I.pins_of fun p hp=>(List.mem_append.mp hp).elim (fun z=>I.pin p (List.mem_append_right _ z)) fun z=>by
    obtain⟨hb,e⟩:=F5 z
    obtain⟨f0,f1,f2,_⟩:=hf p.1 hb
    obtain⟨o,e',d⟩:=ho p.1 hb
    rw [e] at e';cases e'
    exact⟨e,f0,f1,f2,d⟩
theorem Inv.unpinned {pins pl:List (Addr × Obj)}{σ:St}{H:Hp}{s:Shared}(I:Inv X (pins++pl) σ H s):Inv X pins σ H s:=I.pins_of fun p hp=>I.pin p (List.mem_append_right _ (List.mem_append_left _ hp))
theorem Iw {iter:Expr}{body:List Stmt}{wi:TI}{g:TG}{tb:TS}{pos:Pos}(hp:PassesOwn (model X.prog X.w) X.A X.env X.xe)(hc:X.calm=true)(hi:PI X tg iter wi)(hg:PG X tg g)(hb:PSs X body tb)
    (hs:∀ x,foldedSetIterable iter X.env x=pure x:=by intro _;rfl):PS X (.For tg iter body [] pos) (QX wi g tb):=by
  intro pins s σ H D I h
  refine wpAny_For (thn (hi pins s σ H _ I h) fun v s1 h1=>thn h1 fun itv s2 h2 => ?_) hs
  obtain⟨it,fp,tn,J,H2,e,I2,T,st2,f2,W,⟨m0,w0⟩,turn⟩:=h2
  subst e
  have stat:∀ {H':Hp},(∀ b∈fp,H' b=none) → ∀ b∈fp,sr X pins H' b:=fun hn b hb=>⟨hn b hb,(f2 b hb).2⟩
  refine codeAny_forLoop_any (fun n s'=>∃ i σ' H',Inv X pins σ' H' s'∧tn i s'.heap∧(∀ b∈fp,H' b=none)∧W i n σ' H') ?_ m0 ⟨0,σ,H2,I2,st2,fun b hb=>(f2 b hb).1,w0⟩
  rintro n s3 ⟨i,σ3,H3,I3,st3,fr3,w3⟩
  rcases turn i n σ3 H3 w3 with ⟨stop,qn⟩|⟨go,N,hN,step⟩
  · refine wpAny_passesOwn hp (thn (T.done X rfl rfl rfl hc i pins s3 σ3 H3 X.xe I3 (stat fr3) st3 stop) fun r s4 ⟨hr,I4⟩ => ?_)
    subst hr
    exact wpAny_execs_nil ⟨σ3,H3,I4,qn⟩
  · refine wpAny_passesOwn hp (thn (T.item X rfl rfl rfl hc i pins s3 σ3 H3 X.xe I3 (stat fr3) st3 go) fun r s4 ⟨u,hr,h4⟩ => ?_)
    subst hr
    refine wpAny_passesOwn hp (thn h4 fun _ s5 ⟨x,H5,I5,r5,y5,st5,fr5⟩ => ?_)
    have I5':=I5.pinned (stat fr5) (T.obj _ _ st5)
    refine wpAny_passesOwn hp (thn (hg _ s5 σ3 H5 x u _ I5' r5 (step x H5 y5)) fun _ s6 ⟨σ6,H6,I6,q6⟩ => ?_)
    refine wpAny_passesOwn hp (thn (hb _ s6 σ6 H6 _ I6 q6) fun f s7 q7 => ?_)
    have again:∀ {σ7:St} {H7:Hp},Inv X (pins++sw fp s5.heap) σ7 H7 s7→N σ7 H7 → ∃ m,m < n ∧ ∃ i σ' H',Inv X pins σ' H' s7∧tn i s7.heap∧(∀ b∈fp,H' b=none)∧W i m σ' H':=fun {σ7 H7} I7 n7=>by
      obtain⟨m',hm,w7⟩:=hN σ7 H7 n7
      refine⟨m',hm,i + 1,σ7,H7,I7.unpinned,T.keep _ _ _ st5 fun b hb o e=>(I7.pin (b,o) (List.mem_append_right _ (List.mem_append_right _ (jT hb e)))).1,fun b hb => ?_,w7⟩
      obtain⟨o,e,d⟩:=T.obj _ _ st5 b hb
      exact (I7.pin (b,o) (List.mem_append_right _ (List.mem_append_right _ (jT hb e)))).2.1
    cases f with
    | next=>obtain⟨σ7,H7,I7,n7⟩:=q7;exact again I7 n7
    | cont=>obtain⟨σ7,H7,I7,n7⟩:=q7;exact again I7 n7
    | brk=>obtain⟨σ7,H7,I7,q7⟩:=q7;exact⟨σ7,H7,I7.unpinned,q7⟩
    | ret v=>obtain⟨x7,σ7,H7,I7,r7,q7⟩:=q7;exact⟨x7,σ7,H7,I7.unpinned,r7,q7⟩
end
end L2
namespace L2
open PySem PySem.Spec PyProof.Rows
abbrev R2:=V→V→Hp→VK→Prop
def OpR (X:Cx) (f:Value→Value→Sem Value) (r:R2):Prop :=
  ∀ (pins:List (Addr × Obj)) (s:Shared) (σ:St) (H:Hp) (x y:V) (v u:Value) (Q:VK),Inv X pins σ H s→bR x v→bR y u→r x y H Q →
    wpAny (model X.prog X.w) X.A (f v u) (EP X pins σ Q) X.xe s
def UnR (X:Cx) (f:Value→Sem Value) (r:V→Hp→VK→Prop):Prop :=
  ∀ (pins:List (Addr × Obj)) (s:Shared) (σ:St) (H:Hp) (x:V) (v:Value) (Q:VK),Inv X pins σ H s→bR x v→r x H Q →
    wpAny (model X.prog X.w) X.A (f v) (EP X pins σ Q) X.xe s
def iZ (X:Cx) (f:Value) (r:List V→Hp→VK→Prop):Prop :=
  ∀ (pins:List (Addr × Obj)) (s:Shared) (σ:St) (H:Hp) (xs:List V) (us:List Value) (Q:VK),Inv X pins σ H s→bj xs us→r xs H Q →
    wpAny (model X.prog X.w) X.A (call f us) (EP X pins σ Q) X.xe s
def tOp (r:R2) (ta tb:TE):TE:=fun σ H Q=>ta σ H fun x H1=>tb σ H1 fun y H2=>r x y H2 Q
def tUn (r:V→Hp→VK→Prop) (ta:TE):TE:=fun σ H Q=>ta σ H fun x H1=>r x H1 Q
def rI (C:Int→Int→Prop) (g:Int→Int→V):R2:=fun x y H Q=>∃ i j,x=.int i∧y=.int j∧C i j∧Q (g i j) H
def rI0 (g:Int→Int→V):R2:=fun x y H Q=>∃ i j,x=.int i∧y=.int j∧Q (g i j) H
def rU (g:Int→V):V→Hp→VK→Prop:=fun x H Q=>∃ i,x=.int i∧Q (g i) H
section
variable {X:Cx} {a b c:Expr} {ta tb tc:TE} {pos:Pos}
theorem NV (ha:PE X a ta)(hb:PE X b tb){pins:List (Addr × Obj)}{s:Shared}{σ:St}{H:Hp}{R:V→V→Hp→Prop}(I:Inv X pins σ H s)
    (h:ta σ H fun x H1=>tb σ H1 fun y H2=>R x y H2) {Q:Value→Shared→Prop} {f:Value→Value→Sem Value}
    (hf:∀ v u s2 x y H2,Inv X pins σ H2 s2→bR x v→bR y u→R x y H2→wpAny (model X.prog X.w) X.A (f v u) Q X.xe s2) :
    wpAny (model X.prog X.w) X.A (eval a X.env) (fun v s₁ => wpAny (model X.prog X.w) X.A (eval b X.env) (fun u s₂ => wpAny (model X.prog X.w) X.A (f v u) Q X.xe s₂) X.xe s₁) X.xe s:=by
  refine thn (ha pins s σ H _ I h) fun v s1 ⟨x,H1,I1,r1,q1⟩ => ?_
  refine thn (hb pins s1 σ H1 _ I1 q1) fun u s2 ⟨y,H2,I2,r2,q2⟩ => ?_
  exact hf v u s2 x y H2 I2 r1 r2 q2
theorem Ix {op:Operator}{r:R2}(ho:OpR X (binaryOp op) r)(ha:PE X a ta)(hb:PE X b tb):PE X (.BinOp a op b pos) (tOp r ta tb):=by
  intro pins s σ H Q I h
  exact wpAny_BinOp (NV ha hb I h fun v u s2 x y H2 I2 rx ry q=>ho pins s2 σ H2 x y v u Q I2 rx ry q)
theorem PU {op:UnaryOp}{r:V→Hp→VK→Prop}(ho:UnR X (unaryOp op) r)(ha:PE X a ta):PE X (.UnaryOp op a pos) (tUn r ta):=by
  intro pins s σ H Q I h
  exact UnaryOp_ (thn (ha pins s σ H _ I h) fun v s1 ⟨x,H1,I1,r1,q1⟩=>ho pins s1 σ H1 x v Q I1 r1 q1)
theorem opI {f:Value→Value→Sem Value}{C:Int→Int→Prop}{g:Int→Int→Int}
    (rule:∀ (i j:Int) (t u:Tok) (s:Shared) (Q:Value→Shared→Prop) (E:Value→Shared→Prop),C i j→Q (.int (g i j) s.toks) { s with toks:=s.toks + 1 } → wpAny (model X.prog X.w) X.A (f (.int i t) (.int j u)) Q E s) :
    OpR X f (rI C fun i j=>.int (g i j)):=by
  intro pins s σ H x y v u Q I rx ry h
  obtain⟨i,j,rfl,rfl,hc,q⟩:=h
  obtain⟨t,rfl⟩:=rx
  obtain⟨t',rfl⟩:=ry
  exact rule i j t t' s _ _ hc ⟨.int (g i j),H,I.tok _,⟨_,rfl⟩,q⟩
theorem PV {f:Value→Value→Sem Value}{g:Int→Int→Int}
    (rule:∀ (i j:Int) (t u:Tok) (s:Shared) (Q:Value→Shared→Prop) (E:Value→Shared→Prop),Q (.int (g i j) s.toks) { s with toks:=s.toks + 1 } → wpAny (model X.prog X.w) X.A (f (.int i t) (.int j u)) Q E s) :
    OpR X f (rI0 fun i j=>.int (g i j)):=by
  intro pins s σ H x y v u Q I rx ry h
  obtain⟨i,j,rfl,rfl,q⟩:=h
  obtain⟨t,rfl⟩:=rx
  obtain⟨t',rfl⟩:=ry
  exact rule i j t t' s _ _ ⟨.int (g i j),H,I.tok _,⟨_,rfl⟩,q⟩
theorem NW {f:Value→Value→Sem Value}{g:Int→Int→Bool}
    (rule:∀ (i j:Int) (t u:Tok) (s:Shared) (Q:Value→Shared→Prop) (E:Value→Shared→Prop),Q (.bool (g i j)) s→wpAny (model X.prog X.w) X.A (f (.int i t) (.int j u)) Q E s) :
    OpR X f (rI0 fun i j=>.bl (g i j)):=by
  intro pins s σ H x y v u Q I rx ry h
  obtain⟨i,j,rfl,rfl,q⟩:=h
  obtain⟨t,rfl⟩:=rx
  obtain⟨t',rfl⟩:=ry
  exact rule i j t t' s _ _ ⟨.bl (g i j),H,I,rfl,q⟩
def LD (i j:Int):Prop:=(-(2 ^ 64) < i∧i < 2 ^ 64)∨(-(2 ^ 64) < j∧j < 2 ^ 64)
theorem LD.ok {i j:Int}(h:LD i j):IntMulOk i j:=by
  rcases h with ⟨h1,h2⟩|⟨h1,h2⟩
  · exact .of_left (intBits_le_64 h1 h2)
  · exact .of_right (intBits_le_64 h1 h2)
theorem NX:OpR X (binaryOp .Add) (rI0 fun i j=>.int (i + j)):=PV fun _ _ _ _ _ _ _ q=>add_int q
theorem kT:OpR X (binaryOp .Sub) (rI0 fun i j=>.int (i - j)):=PV fun _ _ _ _ _ _ _ q=>sub_int q
theorem fM:OpR X (binaryOp .Mult) (rI LD fun i j=>.int (i * j)):=opI fun _ _ _ _ _ _ _ hc q=>mul_int q hc.ok
theorem dg:OpR X (binaryOp .Mod) (rI (fun _ j=>0 < j) fun i j=>.int (i % j)):=opI fun i j _ _ _ _ _ hc q=>by
  have h1:(0:Int) < j:=hc
  exact mod_int' (by omega) (by rw [Int.fmod_eq_emod_of_nonneg i (by omega)];exact q)
theorem unI {f:Value→Sem Value}{g:Int→Int}
    (rule:∀ (i:Int) (t:Tok) (s:Shared) (Q:Value→Shared→Prop) (E:Value→Shared→Prop),Q (.int (g i) s.toks) { s with toks:=s.toks + 1 } → wpAny (model X.prog X.w) X.A (f (.int i t)) Q E s) :
    UnR X f (rU fun i=>.int (g i)):=by
  intro pins s σ H x v Q I rx h
  obtain⟨i,rfl,q⟩:=h
  obtain⟨t,rfl⟩:=rx
  exact rule i t s _ _ ⟨.int (g i),H,I.tok _,⟨_,rfl⟩,q⟩
theorem NY:UnR X (unaryOp .USub) (rU fun i=>.int (-i)):=unI fun _ _ _ _ _ q=>neg_int q
end
section
variable {X:Cx} {a b c:Expr} {ta tb tc:TE} {pos:Pos}
theorem Iy {pins:List (Addr × Obj)}{σ:St}{H:Hp}{s:Shared}{Q:VK}{k k':Bool}(I:Inv X pins σ H s)(q:Q (.bl k) H)(e:k=k'):EP X pins σ Q (.bool k') s:=by
  subst e
  exact⟨.bl k,H,I,rfl,q⟩
theorem Ng:OpR X (compareOp .Lt) (rI0 fun i j=>.bl (decide (i < j))):=NW fun _ _ _ _ _ _ _ q=>lt_int q
theorem Nh:OpR X (compareOp .LtE) (rI0 fun i j=>.bl (decide (i≤j))):=NW fun _ _ _ _ _ _ _ q=>le_int q
theorem wS:OpR X (compareOp .Gt) (rI0 fun i j=>.bl (decide (j < i))):=NW fun _ _ _ _ _ _ _ q=>gt_int q
theorem mK:OpR X (compareOp .Is) (fun x y H Q=>y=.non∧Q (.bl (decide (x=.non))) H):=by
  intro pins s σ H x y v u Q I rx ry h
  obtain⟨rfl,q⟩:=h
  cases ry
  refine is_none_gen (Iy I q ?_)
  cases x<;>first
    | (cases rx;rfl)
    | (obtain⟨t,rfl⟩:=rx;rfl)
theorem xW:OpR X (compareOp .IsNot) (fun x y H Q=>y=.non∧Q (.bl (!decide (x=.non))) H):=by
  intro pins s σ H x y v u Q I rx ry h
  obtain⟨rfl,q⟩:=h
  cases ry
  refine isnot_none_gen (Iy I q ?_)
  cases x<;>first
    | (cases rx;rfl)
    | (obtain⟨t,rfl⟩:=rx;rfl)
theorem OpR.or {f:Value→Value→Sem Value}{r r':R2}(h:OpR X f r)(h':OpR X f r'):OpR X f (fun x y H Q=>r x y H Q∨r' x y H Q):=by
  intro pins s σ H x y v u Q I rx ry q
  rcases q with q|q
  · exact h pins s σ H x y v u Q I rx ry q
  · exact h' pins s σ H x y v u Q I rx ry q
theorem aV (b:Expr){op:CmpOp}(h:op ≠ .In:=by decide)(h2:op ≠ .NotIn:=by decide):behindInMarks op b=false:=by
  have e1:(op == CmpOp.In)=false:=by cases op<;>first|rfl|exact absurd rfl h
  have e2:(op == CmpOp.NotIn)=false:=by cases op<;>first|rfl|exact absurd rfl h2
  cases b<;>simp [behindInMarks,e1,e2]
theorem LE {op:CmpOp}{r:R2}(ho:OpR X (compareOp op) r)(ha:PE X a ta)(hb:PE X b tb)(hm:behindInMarks op b=false):PE X (.Compare a [op] [b] pos) (tOp r ta tb):=by
  intro pins s σ H Q I h
  exact wpAny_Compare1 (NV ha hb I h fun v u s2 x y H2 I2 rx ry q=>ho pins s2 σ H2 x y v u Q I2 rx ry q) hm
def PX (t:TE):TT:=fun σ H Q=>t σ H fun x H'=>∃ k,x=.bl k∧Q k H'
theorem LG {op:CmpOp}{r:R2}(ho:OpR X (compareOp op) r)(ha:PE X a ta)(hb:PE X b tb)(hm:behindInMarks op b=false):PT X (.Compare a [op] [b] pos) (PX (tOp r ta tb)):=by
  intro pins s σ H Q I h
  refine wpAny_isTrue_Compare1 (thn (ha pins s σ H _ I h) fun v s1 ⟨x,H1,I1,r1,q1⟩=>thn (hb pins s1 σ H1 _ I1 q1) fun u s2 ⟨y,H2,I2,r2,q2⟩ =>
    thn (ho pins s2 σ H2 x y v u _ I2 r1 r2 q2) fun c s3 ⟨z,H3,I3,r3,k,e,q3⟩ => ?_) hm
  subst e
  cases r3
  exact wpAny_truthy_bool ⟨H3,I3,q3⟩
def Iz (r r':R2) (ta tb tc:TE):TE:=fun σ H Q=>ta σ H fun x H1=>tb σ H1 fun y H2=>r x y H2 fun z H3=>∃ k,z=.bl k ∧
  (if k=true then tc σ H3 fun w' H4=>r' y w' H4 Q else Q (.bl false) H3)
theorem IA {op op':CmpOp}{r r':R2}(ho:OpR X (compareOp op) r)(ho':OpR X (compareOp op') r')(ha:PE X a ta)(hb:PE X b tb)(hc:PE X c tc)
    (hm:lastMarks [op,op'] [b,c] = false:=by with_unfolding_all rfl):PE X (.Compare a [op,op'] [b,c] pos) (Iz r r' ta tb tc):=by
  intro pins s σ H Q I h
  refine Compare_chain (thn (ha pins s σ H _ I h) fun v s1 ⟨x,H1,I1,r1,q1⟩=>chain_link (thn (hb pins s1 σ H1 _ I1 q1) fun u s2 ⟨y,H2,I2,r2,q2⟩ =>
    thn (ho pins s2 σ H2 x y v u _ I2 r1 r2 q2) fun d s3 ⟨z,H3,I3,r3,k,e,q3⟩ => ?_)) hm
  subst e
  cases r3
  refine wpAny_truthy_bool ?_
  cases k with
  | false=>exact ite_ff ⟨.bl false,H3,I3,rfl,q3⟩
  | true=>exact ite_tt (chain_last (thn (hc pins s3 σ H3 _ I3 q3) fun w' s4 ⟨z',H4,I4,r4,q4⟩=>ho' pins s4 σ H4 y z' u w' Q I4 r2 r4 q4))
theorem sx:(sizeLine:Nat) < 2 ^ 63:=by rw [sizeLine_eq];decide
theorem IB {x:V}{us:List Value}(r:bj [x] us):∃ u,us=[u]∧bR x u:=by
  cases r with
  | cons r1 r2=>cases r2;exact⟨_,rfl,r1⟩
theorem PY {x y:V}{us:List Value}(r:bj [x,y] us):∃ u w',us=[u,w']∧bR x u∧bR y w':=by
  cases r with
  | cons r1 r2 =>
    cases r2 with
    | cons r3 r4=>cases r4;exact⟨_,_,rfl,r1,r3⟩
theorem F6 (hc:X.calm=true):iZ X (.builtin "max") (fun xs H Q=>∃ i j,xs=[.int i,.int j]∧Q (.int (if j > i then j else i)) H):=by
  intro pins s σ H xs us Q I r h
  obtain⟨i,j,rfl,q⟩:=h
  obtain⟨u,w',rfl,⟨t,rfl⟩,⟨t',rfl⟩⟩:=PY r
  refine max_two_ints (I.ok.hd hc) fun h' tk k=>⟨_,H,I.kept k,?_,q⟩
  by_cases hj:j > i
  · rw [if_pos hj,if_pos hj];exact⟨_,rfl⟩
  · rw [if_neg hj,if_neg hj];exact⟨_,rfl⟩
end
end L2
namespace L2
open PySem PySem.Spec PyProof.Rows
structure Rk (h:Heap) (x dx C:Addr) (mA:Str→Option Value):Prop where
  obj:h.get? x=some (PySem.W.instObj C dx)
  ns:h.Ns1 dx mA
  ne:dx≠x
section
variable {prog:Program} {w:World} {A:Around} {E:Value→Shared→Prop} {s:Shared} {K:PySem.W.Frag} {x dx C f:Addr} {mA:Str→Option Value} {name:Str} {v:Value}
end
section
variable {P:Program} {w:World} {H H':Hp} {h h':Heap} {a C dx:Addr} {fs fs':List (Str × V)}
end
structure Cls (K:PySem.W.Frag) (C:Addr):Prop where
  pg:PySem.W.plainGet K C Str.empty=true
  hd:PySem.W.hasDictIn K C=true
  po:PySem.W.plainOver K C=true
  sa:PySem.W.findIn K (.ref C) "__setattr__" = some (some (.builtin "object.__setattr__"))
structure Con (K:PySem.W.Frag) (C:Addr) (f:Str) (v:V) (u:Value):Prop where
  at_:PySem.W.findIn K (.ref C) f=some (some u)
  rel:bR v u
  get:PySem.W.specialIn K u "__get__" = some none
  cp:PySem.W.copiedNames.contains f=false
structure Rl (K:PySem.W.Frag) (C:Addr) (m:Str) (f:Addr):Prop where
  at_:PySem.W.findIn K (.ref C) m=some (some (.ref f))
  fn:PySem.W.isFn K (.ref f)=true
  kp:PySem.W.keepIn K (.ref f)=true
section
variable {X:Cx} {pins:List (Addr × Obj)} {σ:St} {H:Hp} {s:Shared} {a C dx:Addr} {fs:List (Str × V)} {f:Str} {v:V} {A:Around} {E:Value→Shared→Prop}
end
section
variable {X:Cx} {o e value:Expr} {f:Str} {pos pos' tpos:Pos} {ta tv:TE}
end
section
variable {X:Cx} {pins:List (Addr × Obj)} {σ:St} {H:Hp} {s:Shared} {A:Around} {E:Value→Shared→Prop} {Q:Value→Shared→Prop} {c:Value} {b:Bool}
inductive sy (K:PySem.W.Frag) (H:Hp):V→Value→Prop where
  | non:sy K H .non (.type "NoneType")
  | bl (x:Bool):sy K H (.bl x) (.type "bool")
  | int (i:Int):sy K H (.int i) (.type "int")
  | str (x:Str):sy K H (.str x) (.type "str")
  | flt (x:UInt64):sy K H (.flt x) (.type "float")
  | lst {a:Addr} {xs:List V} (e:H a=some (.lst xs)):sy K H (.ref a) (.type "list")
  | frz {a:Addr} {o:Obj} {xs:List V} (e:H a=some (.frz o (.lst xs))):sy K H (.ref a) (.type "list")
  | tup {a:Addr} {xs:List V} (e:H a=some (.tup xs)):sy K H (.ref a) (.type "tuple")
  | dK {a:Addr} {kvs:List (Key × V)} (e:H a=some (.dK kvs)):sy K H (.ref a) (.type "dict")
  | dT {a:Addr} {kvs:List (List Key × V)} (e:H a=some (.dT kvs)):sy K H (.ref a) (.type "dict")
  | ins {a C dx:Addr} {fs:List (Str × V)} (e:H a=some (.ins C dx fs)) (cl:Cls K C) (ha:PySem.W.findIn K (.ref C) "__class__" = some (some (.builtin "object.__class__")))
      (hn:PySem.W.specialIn K (.builtin "object.__class__") "__get__" = some (some (.builtin "getset_descriptor.__get__"))) (htk:PySem.W.takesIn K (.builtin "object.__class__")=some true)
      (hm:PySem.W.mroIn K C (.type "object")=some true):sy K H (.ref a) (.ref C)
end
end L2
namespace L2
open PySem PySem.Spec PyProof.Rows
structure iC (k:Nat) (A:Around):Prop where
  hd:A.handled=none
  dp:A.depth + 3 * k + 5 < recursionLimit
  un:A.units + 16 * k + 200 < cLine
  gd:A.guards=some []
theorem iC.mono {j k:Nat}{A:Around}(r:iC k A)(h:j≤k):iC j A:=⟨r.hd,by have:=r.dp;omega,by have:=r.un;omega,r.gd⟩
theorem iC.deeper {k:Nat}{A:Around}(r:iC (k + 1) A)(env:Env):iC k (A.deeper env) :=
  ⟨r.hd,by have:=r.dp;show A.depth + 1 + 3 * k + 5 < _;omega,by have:=r.un;show A.units + 3 + 16 * k + 200 < _;omega,r.gd⟩
theorem iC.depth {k:Nat}{A:Around}(r:iC k A):A.depth < recursionLimit:=by have:=r.dp;omega
theorem iC.units0 {k:Nat}{A:Around}(r:iC k A):A.units < cLine:=by have:=r.un;omega
def QY:TA:=fun _ H Q=>Q [] H
def PZ (ta:TE) (tr:TA):TA:=fun σ H Q=>ta σ H fun x H1=>tr σ H1 fun xs H2=>Q (x :: xs) H2
section
variable {X:Cx} {e:Expr} {es:List Expr} {te:TE} {t:TA} {pos:Pos}
theorem eU:PA X [] QY:=fun _ _ _ _ H Q I h=>Calls.spliced_nil ⟨[],H,I,.nil,h⟩
theorem cC (ha:PE X e te)(hr:PA X es t)(hs:starEach (e :: es) X.env=(false,eval e X.env) :: starEach es X.env:=by rfl):PA X (e :: es) (PZ te t):=by
  intro pos pins s σ H Q I h
  rw [hs]
  show wpAny _ _ (spliced ((false,eval e X.env) :: backTo pos (starEach es X.env))) _ _ s
  refine Calls.spliced_cons (thn (ha pins s σ H _ I h) fun u s1 ⟨x,H1,I1,r1,q1⟩ => ?_)
  exact thn (hr pos pins s1 σ H1 _ I1 q1) fun us s2 ⟨xs,H2,I2,r2,q2⟩=>⟨x :: xs,H2,I2,.cons r1 r2,q2⟩
def QZ (t:TA):TE:=fun σ H Q=>t σ H fun xs H1=>xs.length≤sizeLine ∧ ∀ p,H1 p=none→Q (.ref p) (upd H1 p (.tup xs))
def Q0 (t:TA):TE:=fun σ H Q=>t σ H fun xs H1=>xs.length≤sizeLine ∧ ∀ p,H1 p=none→Q (.ref p) (upd H1 p (.lst xs))
theorem NZ {x1}(h:PA X es t):PE X (.Tuple es x1 pos) (QZ t):=by
  intro pins s σ H Q I hq
  refine wpAny_Tuple_spliced (thn (h pos pins s σ H _ I hq) fun us s1 ⟨xs,H1,I1,r,z,q⟩=>⟨by rw [← r.length];exact z,?_⟩)
  have hf:H1 s1.heap.objs.size=none:=I1.hok.fresh (Nat.le_refl _)
  refine⟨.ref s1.heap.objs.size,upd H1 s1.heap.objs.size (.tup xs),I1.laid (t':=s1.toks) (fun b u e=>Heap.get?_push_of_some _ e) (Nat.le_refl _) ?_,rfl,q _ hf⟩
  exact⟨z,us,r,⟨_,Heap.get?_push_size _ rfl,rfl,_,rfl⟩⟩
theorem N1 (h:PA X es t):PE X (.List es pos) (Q0 t):=by
  intro pins s σ H Q I hq
  refine wpAny_List_spliced (thn (h pos pins s σ H _ I hq) fun us s1 ⟨xs,H1,I1,r,z,q⟩=>⟨by rw [← r.length];exact z,?_⟩)
  have hf:H1 s1.heap.objs.size=none:=I1.hok.fresh (Nat.le_refl _)
  refine⟨.ref s1.heap.objs.size,upd H1 s1.heap.objs.size (.lst xs),I1.laid (t':=s1.toks) (fun b u e=>Heap.get?_push_of_some _ e) (Nat.le_refl _) ?_,rfl,q _ hf⟩
  exact⟨z,us,0,r,Heap.get?_push_size _ rfl⟩
end
abbrev Sp:=List V→Hp→VK→XK→Prop
abbrev CXT:=List Env→Hp→Shared→XK→Value→Shared→Prop
structure LH (P:Program) (w:World) (K:PySem.W.Frag) (mg:Str→Option Value) (base:Heap) (A:Around) (outer:List Env) (s:Shared) (H:Hp):Prop where
  frames:A.frames=some outer
  mod:Mod K mg base
  bs:∀ b o,base.get? b=some o→s.heap.get? b=some o∧H b=none
  bsz:base.objs.size≤s.heap.objs.size
  funs:s.heap.FunFrames base outer
  frf:∀ b∈frs outer,H b=none
  hok:HOk P w H s.heap
  bare:AllBare s.gens
def CE (outer:List Env) (P:Program) (w:World) (H:Hp) (s:Shared) (Q:VK) (u:Value) (s':Shared):Prop :=
  ∃ v H',s'.os=s.os∧AllBare s'.gens∧Un (frs outer) [] H H' s.heap s'.heap∧HOk P w H' s'.heap∧bR v u∧Q v H'
def CR (CX:CXT) (outer:List Env) (P:Program) (w:World) (H:Hp) (s:Shared) (Q:VK) (E:XK) (r:Result) (s':Shared):Prop :=
  match r with
  | .ok (.ret u)=>CE outer P w H s Q u s'
  | .ok _=>False
  | .error e=>CX outer H s E e s'
structure cf (P:Program) (w:World) (K:PySem.W.Frag) (mg:Str→Option Value) (base:Heap) (CX:CXT) (k:Nat) (f:Addr) (fd:FuncData) (ps:List Str) (sp:Sp):Prop where
  len:∀ vs H Q E,sp vs H Q E→vs.length=ps.length
  run:∀ (A:Around) (outer:List Env) (s:Shared) (H:Hp) (args:Args) (us:List Value) (vs:List V) (Q:VK) (E:XK),iC k A→LH P w K mg base A outer s H→BindsTo s fd args (ps.zip us)→bj vs us→sp vs H Q E →
    codeAny (model P w) A (.call (.ref f) args) (CR CX outer P w H s Q E) s
section
variable {X:Cx} {pins:List (Addr × Obj)} {σ:St} {H:Hp} {s s':Shared}
theorem Inv.env0 (I:Inv X pins σ H s):LH X.prog X.w X.K X.mg X.base X.A X.stack s H :=
  ⟨I.ok.frames,I.ok.mod,I.bs,Nat.le_trans I.ok.bsz I.sz,I.stack,I.stkFree,I.hok,I.bare⟩
theorem Inv.after {Q:VK}{u:Value}(I:Inv X pins σ H s)(h:CE X.stack X.prog X.w H s Q u s'):EP X pins σ Q u s':=by
  obtain⟨v,H',os,bare,un,hok,r,q⟩:=h
  obtain⟨hh,g,d,t,os'⟩:=s'
  obtain rfl:os'=s.os:=os
  exact⟨v,H',I.call (h':=hh) (g':=g) (d':=d) (t':=t) (ch:=[]) un hok bare (fun b z=>absurd z (by simp)),r,q⟩
end
def P0 (sp:Sp) (dvs:List V) (E:XK) (t:TA):TE:=fun σ H Q=>t σ H fun vs H1=>sp (vs++dvs) H1 Q E
def mm (K:PySem.W.Frag) (fd:FuncData) (ps:List Str) (ds:List Value):Prop :=
  ∀ (s:Shared) (us:List Value),K.In s.heap→(us++ds).length=ps.length→BindsTo s fd ⟨us,[]⟩ (ps.zip (us++ds))
theorem mm.all {K:PySem.W.Frag}{fd:FuncData}{ps:List Str}(h:∀ us:List Value,us.length=ps.length→bindArgs fd ⟨us,[]⟩ = pure (ps.zip us)):mm K fd ps []:=fun s us _ hl=>by
  rw [List.append_nil] at hl ⊢
  exact .of_eq (h us hl)
def sA (CX:CXT) (X:Cx) (E:XK):Prop:=∀ (pins:List (Addr × Obj)) (σ:St) (H:Hp) (s:Shared) (e:Value) (s':Shared),Inv X pins σ H s→CX X.stack H s E e s'→X.xe e s'
section
variable {X:Cx} {CX:CXT} {k:Nat} {f C:Addr} {fd:FuncData} {ps:List Str} {sp:Sp} {dvs:List V} {ds:List Value} {E:XK} {x m:Str} {p pos apos:Pos} {e o:Expr} {es:List Expr} {ta:TE} {t:TA}
theorem N4 {pins:List (Addr × Obj)}{σ:St}{H:Hp}{s:Shared}{Q:VK}{us:List Value}{vs:List V}(F:cf X.prog X.w X.K X.mg X.base CX k f fd ps sp)(hr:iC k X.A)(hb:mm X.K fd ps ds)(hd:bj dvs ds)(hx:sA CX X E)
    (I:Inv X pins σ H s) (r:bj vs us) (h:sp (vs++dvs) H Q E):wpAny (model X.prog X.w) X.A (call (.ref f) us) (EP X pins σ Q) X.xe s:=by
  have r2:bj (vs++dvs) (us++ds):=r.append hd
  have hl:(us++ds).length=ps.length:=by rw [← r2.length];exact F.len _ _ _ _ h
  refine wpAny_call (codeAny_mono (F.run X.A X.stack s H ⟨us,[]⟩ (us++ds) (vs++dvs) Q E hr I.env0 (hb s us I.kIn hl) r2 h) fun r s' hq => ?_)
  cases r with
  | error e=>exact hx pins σ H s e s' I hq
  | ok fl =>
    cases fl with
    | ret u=>exact I.after hq
    | next=>exact False.elim hq
    | brk=>exact False.elim hq
    | cont=>exact False.elim hq
theorem E8 (F:cf X.prog X.w X.K X.mg X.base CX k f fd ps sp)(hr:iC k X.A)(hg:Gl X x)(hm:X.mg x=some (.ref f))(hk:PySem.W.keepIn X.K (.ref f)=true)(hb:mm X.K fd ps ds)(hd:bj dvs ds)(hx:sA CX X E)
    (ha:PA X (e :: es) t) (hdb:(x == ("__debug__" : Str))=false:=by decide) (he:starEach (e :: es) X.env=(false,eval e X.env) :: starEach es X.env:=by rfl) (hpl:(backTo pos (starEach es X.env)).any (·.1)=false:=by rfl) :
    PE X (.Call (.Name x p) (e :: es) [] pos) (P0 sp dvs E t):=by
  intro pins s σ H Q I h
  refine wpAny_Call_Name_kw (xT I hg hm ?_ hdb)
  refine PySem.W.callWith_K (h₀ := X.base) I.ok.mod.kin hk (thn (ha pos pins s σ H _ I h) fun us s1 ⟨vs,H1,I1,r,q⟩=>⟨I1.kIn,?_⟩) he hpl
  exact N4 F hr hb hd hx I1 r q
structure Mk (K:PySem.W.Frag) (C f:Addr):Prop where
  makes:PySem.W.makesIn K C=true
  init:PySem.W.findIn K (.ref C) "__init__" = some (some (.ref f))
  fn:PySem.W.isFn K (.ref f)=true
  kp:PySem.W.keepIn K (.ref C)=true
end
section
variable {X:Cx} {CX:CXT} {k:Nat} {f C:Addr} {fd:FuncData} {ps ks:List Str} {sp:Sp} {E:XK} {x m:Str} {p pos apos kpos:Pos} {e o:Expr} {es:List Expr} {kws:List Keyword} {te ta:TE} {t tk:TA} {nm:Option Str}
structure Q1 (K:PySem.W.Frag) (fd:FuncData) (ps ks:List Str) (g:List Value→List Value→List Value) (gV:List V→List V→List V):Prop where
  to:∀ (s:Shared) (us ws:List Value),K.In s.heap→(g us ws).length=ps.length→BindsTo s fd ⟨us,ks.zip ws⟩ (ps.zip (g us ws))
  rel:∀ {vs:List V} {us:List Value} {zs:List V} {ws:List Value},bj vs us→bj zs ws→bj (gV vs zs) (g us ws)
variable {g:List Value→List Value→List Value} {gV:List V→List V→List V}
end
structure aL (N P:List Str) (sc:Scope):Prop where
  kind:sc.kind=.function
  co:sc.isCoroutine=false
  gen:sc.isGenerator=false
  nd:N.Nodup
  pre:N.take P.length=P
  par:∀ x∈P,sc.names.lookup x=some .local ∨sc.names.lookup x=some .cell
  nofree:∀ y∈sc.names,y.2 ≠ .free
theorem wT {kindOf:Str→Option NameKind}{x:Str}:∀ {binds:List (Str × Value)} {m:Str→Option Value},(∀ v,(x,v)∉binds)→bindL kindOf binds m x=m x
  | [],_,_=>rfl
  | (n,v) :: r,m,h=>by
    unfold bindL
    rw [wT fun w hw=>h w (List.mem_cons_of_mem _ hw)]
    split
    · have:x≠n:=by rintro rfl;exact h v List.mem_cons_self
      simp [this]
    · rfl
theorem wU {kindOf:Str→Option NameKind}{x:Str}:∀ {binds:List (Str × Value)} {m:Str→Option Value},(∀ v,(x,v)∉binds)→bindC kindOf binds m x=m x
  | [],_,_=>rfl
  | (n,v) :: r,m,h=>by
    unfold bindC
    rw [wU fun w hw=>h w (List.mem_cons_of_mem _ hw)]
    split
    · rfl
    · have:x≠n:=by rintro rfl;exact h v List.mem_cons_self
      simp [this]
theorem wV {kindOf:Str→Option NameKind}{x:Str}{v:Value}:∀ {P:List Str} {vs:List Value} {i:Nat} {m:Str→Option Value},P.Nodup→P[i]? = some x→vs[i]? = some v→kindOf x=some .local →
    bindL kindOf (P.zip vs) m x=some v
  | [],_,_,_,_,h,_,_=>by simp at h
  | _ :: _,[],_,_,_,_,h,_=>by simp at h
  | p :: P,w :: vs,0,m,nd,h1,h2,hk=>by
    simp at h1 h2;subst h1;subst h2
    show bindL kindOf ((p,w) :: P.zip vs) m p=_
    unfold bindL
    rw [wT fun v hv=>(List.nodup_cons.mp nd).1 (List.of_mem_zip hv).1,if_pos hk]
    simp
  | p :: P,w :: vs,i + 1,m,nd,h1,h2,hk=>by
    show bindL kindOf ((p,w) :: P.zip vs) m x=_
    unfold bindL
    exact wV (i:=i) (List.nodup_cons.mp nd).2 (by simpa using h1) (by simpa using h2) hk
theorem wW {kindOf:Str→Option NameKind}{x:Str}{v:Value}:∀ {P:List Str} {vs:List Value} {i:Nat} {m:Str→Option Value},P.Nodup→P[i]? = some x→vs[i]? = some v→kindOf x≠some .local →
    bindC kindOf (P.zip vs) m x=some v
  | [],_,_,_,_,h,_,_=>by simp at h
  | _ :: _,[],_,_,_,_,h,_=>by simp at h
  | p :: P,w :: vs,0,m,nd,h1,h2,hk=>by
    simp at h1 h2;subst h1;subst h2
    show bindC kindOf ((p,w) :: P.zip vs) m p=_
    unfold bindC
    rw [wU fun v hv=>(List.nodup_cons.mp nd).1 (List.of_mem_zip hv).1,if_neg hk]
    simp
  | p :: P,w :: vs,i + 1,m,nd,h1,h2,hk=>by
    show bindC kindOf ((p,w) :: P.zip vs) m x=_
    unfold bindC
    exact wW (i:=i) (List.nodup_cons.mp nd).2 (by simpa using h1) (by simpa using h2) hk
def kU (N:List Str) (vs:List V):St:=vs.map some++List.replicate (N.length - vs.length) none
def qN (CX:CXT) (P:Program) (w:World) (K:PySem.W.Frag) (mg:Str→Option Value) (base:Heap) (N:List Str) (qual:Str) (scope:Scope) (f:Addr) (cd:Value) (A:Around) (outer:List Env) (s:Shared) (H:Hp) (E:XK):Cx where
  prog:=P
  w:=w
  K:=K
  mg:=mg
  base:=base
  A:=A.deeper (envOfC qual scope s.heap.objs.size f cd)
  N:=N
  s₀ := s
  H₀ := H
  env:=envOfC qual scope s.heap.objs.size f cd
  outer:=outer
  stack:=envOfC qual scope s.heap.objs.size f cd :: outer
  ex:=[]
  calm:=true
  fn:=fun _=>true
  pn:=[]
  xe:=fun e s'=>wpAny (model P w) (A.deeper (envOfC qual scope s.heap.objs.size f cd)) (leaving (envOfC qual scope s.heap.objs.size f cd) e) (fun _ s''=>CX outer H s E e s'') (fun e' s''=>CX outer H s E e' s'') s'
theorem Av {sc:Scope}{n:Nat}{x:Str}(h:sc.names.lookup x=some .cell):∃ c,(cellsFrom n sc.names []).lookup x=some c:=by
  have q:=PySem.W.cellsFrom_some sc.names n [] (.inl h)
  exact Option.isSome_iff_exists.mp q
theorem F7 {CX:CXT}{P:Program}{w:World}{K:PySem.W.Frag}{mg:Str→Option Value}{base:Heap}{N ps:List Str}{qual:Str}{scope:Scope}{f:Addr}{cd:Value}{A:Around}{outer:List Env}{s s1:Shared}{H:Hp}{E:XK}{us:List Value}{vs:List V}
    (S:aL N ps scope) (hd:A.handled=none) (e0:LH P w K mg base A outer s H) (hl:vs.length=ps.length) (r:bj vs us)
    (x:InCallC s s.heap.objs.size (bindL (envOfC qual scope s.heap.objs.size f cd).kindOf (ps.zip us) fun _=>none) (cellsFrom (s.heap.objs.size + 1) scope.names []) (bindC (envOfC qual scope s.heap.objs.size f cd).kindOf (ps.zip us) fun _=>none) s1) :
    Inv (qN CX P w K mg base N qual scope f cd A outer s H E) [] (kU N vs) H s1:=by
  have hpl:ps.length≤N.length:=by have:=congrArg List.length S.pre;rw [List.length_take] at this;omega
  obtain⟨h1,tk,rfl,hk⟩:=x.done
  have noA:∀ b:Addr,b∉(qN CX P w K mg base N qual scope f cd A outer s H E).ex:=fun b z=>absurd (show b∈([] : List Addr) from z) (by simp)
  refine⟨⟨e0.mod,S.kind,rfl,rfl,Nat.le_refl _,fun y z c h1 h2 => ?_,fun y hy => ?_,fun y c _ h => ?_,fun _=>hd,Around.frames_deeper e0.frames,.inr ⟨rfl,rfl⟩,fun b z=>absurd z (noA b),e0.bs,e0.bsz,fun b _ _=>noA b,fun b z=>absurd z (noA b),e0.funs,e0.frf⟩,
    rfl,e0.bare,Un.kept hk,⟨_,x.toInCall.ns,fun i y v h1 h2 h3 => ?_⟩,fun y c h=>⟨_,x.cell y c h⟩,e0.hok.fresh (Nat.le_refl _),fun y c h => ?_,fun p hp=>absurd (show p∈([] : List (Addr × Obj)) from hp) (by simp),e0.hok.kept hk,?_⟩
  · exact name_of_addr x.apart (PySem.mem_of_lookup h1) (PySem.mem_of_lookup h2)
  · have hy:scope.names.lookup y=some .cell∨scope.names.lookup y=some .free:=hy
    rcases hy with hy|hy
    · exact Av hy
    · exact absurd rfl (S.nofree _ (PySem.mem_of_lookup hy))
  · exact Nat.le_of_lt (x.above y c (PySem.mem_of_lookup h))
  · have hi:i < vs.length:=by
      unfold kU at h2
      by_cases hi:i < vs.length
      · exact hi
      · rw [List.getElem?_append_right (by simpa using hi)] at h2
        rw [List.getElem?_replicate] at h2
        split at h2<;>cases h2
    have ha:vs[i]? = some v:=by
      unfold kU at h2
      rw [List.getElem?_append_left (by simpa using hi),List.getElem?_map] at h2
      cases e:vs[i]? with
      | none=>rw [e] at h2;cases h2
      | some a=>rw [e] at h2;cases h2;rfl
    obtain⟨u,hu,rv⟩:=r.get ha
    have hp:ps[i]? = some y:=by
      rw [← S.pre,List.getElem?_take_of_lt (by omega)];exact h1
    have ndP:ps.Nodup:=by rw [← S.pre];exact S.nd.sublist (List.take_sublist _ _)
    refine⟨u,rv,?_⟩
    rcases S.par y (List.mem_of_getElem? hp) with k|k
    · exact .inl ⟨k,wV ndP hp hu k⟩
    · obtain⟨c,e⟩:=Av (n:=s.heap.objs.size + 1) k
      refine .inr ⟨.inl k,c,e,?_⟩
      have q:=x.cell y c e
      rw [wW ndP hp hu (by show scope.names.lookup y≠_;rw [k];decide)] at q
      exact q
  · exact e0.hok.fresh (Nat.le_of_lt (x.above y c (PySem.mem_of_lookup h)))
  · unfold kU
    show _=N.length
    rw [List.length_append,List.length_map,List.length_replicate]
    omega
theorem Ni {CX:CXT}{P:Program}{w:World}{K:PySem.W.Frag}{mg:Str→Option Value}{base:Heap}{k:Nat}{f:Addr}{name qual:Str}{params:Arguments}{body:List Stmt}{scope:Scope}{dV kV doc pm cdv ct oc:Value}{an od:Option Addr}
    {osl:Array (Option Value)} {N ps:List Str} {sp:Sp} (lk:K.lookup f=some ⟨oc,od,.func (PySem.W.fnOf name qual params body scope dV kV doc pm an cdv ct),osl⟩) (hcd:PySem.W.codeIn K cdv qual=true) (S:aL N ps scope)
    (len:∀ vs H Q E,sp vs H Q E→vs.length=ps.length)
    (hbody:∀ (A:Around) (outer:List Env) (s:Shared) (H:Hp) (vs:List V) (Q:VK) (E:XK),iC k (A.deeper (envOfC qual scope s.heap.objs.size f cdv))→sp vs H Q E →
      ∃ t,PSs (qN CX P w K mg base N qual scope f cdv A outer s H E) body t∧t { nx:=fun _ H'=>Q .non H',rt:=Q } (kU N vs) H) :
    cf P w K mg base CX (k + 1) f (PySem.W.fnOf name qual params body scope dV kV doc pm an cdv ct) ps sp:=by
  refine⟨len,fun A outer s H args us vs Q E hr e0 hb r hsp => ?_⟩
  have hl:=len _ _ _ _ hsp
  have KX:K.In s.heap:=e0.mod.kin.keeps fun b o e=>(e0.bs b o e).1
  have lim:s.heap.NoLimit:=e0.mod.nolimit.keeps fun b o e=>(e0.bs b o e).1
  have hkind:∀ y∈ps.zip us,scope.names.lookup y.1=some .local ∨(scope.names.lookup y.1=some .cell∧((cellsFrom (s.heap.objs.size + 1) scope.names []).lookup y.1).isSome=true):=fun ⟨n,v⟩ hy=>by
    rcases S.par n (List.of_mem_zip hy).1 with q|q
    · exact .inl q
    · exact .inr ⟨q,PySem.W.cellsFrom_some _ _ _ (.inl q)⟩
  refine codeAny_call_function hr.depth (KX _ _ lk) rfl S.co S.gen rfl (PySem.W.codeRec_of KX hcd) (hb _ _ _ _ ?_)
  refine wpAny_newFunctionEnv_cells S.kind hkind fun env he s1 x => ?_
  subst he
  refine⟨lim.keeps x.toInCall.keep,codeAny_func ?_⟩
  obtain⟨t,ht,hq⟩:=hbody A outer s H vs Q E (hr.deeper _) hsp
  have I:Inv (qN CX P w K mg base N qual scope f cdv A outer s H E) [] (kU N vs) H s1:=F7 S hr.hd e0 hl r x
  refine wpAny_mono (ht [] s1 (kU N vs) H _ I hq) (fun fl s' hs => ?_) fun e s' hs=>hs
  have fin:∀ {σ':St} {H':Hp} {v:V} {u:Value},Inv (qN CX P w K mg base N qual scope f cdv A outer s H E) [] σ' H' s'→bR v u→Q v H'→CE outer P w H s Q u s' :=
    fun {σ' H' v u} J rv q=>⟨v,H',J.os,J.bare,J.base,J.hok,rv,q⟩
  cases fl with
  | ret u =>
    obtain⟨v,σ',H',J,rv,q⟩:=hs
    exact fin J rv q
  | next =>
    obtain⟨σ',H',J,q⟩:=hs
    exact fin (v:=V.non) (u:=Value.none) J rfl q
  | brk =>
    obtain⟨_,_,_,q⟩:=hs
    exact False.elim q
  | cont =>
    obtain⟨_,_,_,q⟩:=hs
    exact False.elim q
end L2
namespace L2
open PySem PySem.Spec PyProof.Rows
section
variable {X:Cx} {x:Str} {p pos:Pos} {e:Expr} {es:List Expr} {t:TA} {id T:String} {r:List V→Hp→VK→Prop}
def tCB (r:List V→Hp→VK→Prop) (t:TA):TE:=fun σ H Q=>t σ H fun vs H1=>r vs H1 Q
theorem jy (hc:iZ X (.builtin id) r) (hg:Gl X x) (hm:X.mg x=none) (hv:bootBuiltins x=some (.builtin id)) (ha:PA X (e :: es) t) (hn:x ≠ "__name__" := by decide) (hdb:(x == ("__debug__" : Str))=false:=by decide)
    (he:starEach (e :: es) X.env=(false,eval e X.env) :: starEach es X.env:=by rfl) (hpl:(backTo pos (starEach es X.env)).any (·.1)=false:=by rfl):PE X (.Call (.Name x p) (e :: es) [] pos) (tCB r t):=by
  intro pins s σ H Q I h
  refine wpAny_Call_Name_kw (kS I hg hm hv ?_ hn hdb)
  exact PyProof.Rows.callWith_builtin1 (thn (ha pos pins s σ H _ I h) fun us s1 ⟨vs,H1,I1,r1,q1⟩=>hc pins s1 σ H1 vs us Q I1 r1 q1) he hpl
theorem wX (hc:iZ X (.type T) r) (hg:Gl X x) (hm:X.mg x=none) (hv:bootBuiltins x=some (.type T)) (ha:PA X (e :: es) t) (hn:x ≠ "__name__" := by decide) (hdb:(x == ("__debug__" : Str))=false:=by decide)
    (he:starEach (e :: es) X.env=(false,eval e X.env) :: starEach es X.env:=by rfl) (hpl:(backTo pos (starEach es X.env)).any (·.1)=false:=by rfl):PE X (.Call (.Name x p) (e :: es) [] pos) (tCB r t):=by
  intro pins s σ H Q I h
  refine wpAny_Call_Name_kw (kS I hg hm hv ?_ hn hdb)
  exact PyProof.Rows.callWith_type1 (thn (ha pos pins s σ H _ I h) fun us s1 ⟨vs,H1,I1,r1,q1⟩=>hc pins s1 σ H1 vs us Q I1 r1 q1) he hpl
end
end L2
namespace HT
open PySem PyProof.Rows
def lexLt:List Int→List Int→Bool
  | [],[]=>false
  | [],_ :: _=>true
  | _ :: _,[]=>false
  | x :: xs,y :: ys=>if x=y then lexLt xs ys else decide (x < y)
theorem CL (x y:Int)(xs ys:List Int):lexLt (x :: xs) (y :: ys)=if x=y then lexLt xs ys else decide (x < y):=rfl
theorem uS:lexLt [] [] = false:=rfl
theorem sB (y:Int)(ys:List Int):lexLt [] (y :: ys)=true:=rfl
theorem sC (x:Int)(xs:List Int):lexLt (x :: xs) [] = false:=rfl
theorem IC (A:Around)(s:Shared)(a:Int)(t:Tok)(c:Int)(u:Tok):∃ e,SeqAt.EqAt A s (.int a t) (.int c u) e∧(e=true ↔ a=c) :=
  ⟨(a == c),SeqAt.EqAt.int_int a t c u,by simp⟩
theorem ID (A:Around)(s:Shared)(a:Int)(t:Tok)(c:Int)(u:Tok)(prog:Program)(w:World)(E:Value→Shared→Prop)(Q:Value→Shared→Prop)(h:Q (.bool (decide (a < c))) s) :
    wpAny (model prog w) A (richCompare .Lt (.int a t) (.int c u)) Q E s :=
  (PyProof.Rows.lt_int h:wpAny (model prog w) A (compareOp .Lt (.int a t) (.int c u)) Q E s)
section
open PySem.SeqAt
open PySem.AutoSeq1 (wpAny_loadPart')
open PySem.MeetsSeq PySem.MeetsSeq2 PySem.MeetsSeq3
theorem uT (l b:Addr)(items items2:Array Value)(n n2:Nat)(dd dd2:Option Addr)(sl sl2:Array (Option Value))(ns ms:List Int)(hi:IntsAre items.toList ns)(hj:IntsAre items2.toList ms) :
    Meets (Builtin.«tuple.__lt__» ⟨[.ref l,.ref b],[]⟩)
      (fun _ R s=>s.heap.get? l=some { cls:=.type "tuple",dict:=dd,data:=.seq items n,slots:=sl } ∧ s.heap.get? b=some { cls:=.type "tuple",dict:=dd2,data:=.seq items2 n2,slots:=sl2 } ∧
        R (.ok (.ret (.bool (lexLt ns ms)))) s) :=
  .of_wp fun prog w A R s h=>by
    obtain⟨hp,g,d,tk,os⟩:=s;obtain⟨hl,hb,h⟩:=h
    have f2:=AutoSeq1.sub_tuple_tuple
    have z1:items.size=ns.length:=by rw [← hi.length];simp
    have z2:items2.size=ms.length:=by rw [← hj.length];simp
    wp_walk using wpAny_loadPart' hl,wpAny_loadPart' hb,wpAny_forIn_list _ (fun rest b s'=>b.1=none∧s'=⟨hp,g,d,tk,os⟩ ∧ ∃ (vs ws:List Value) (ns' ms':List Int),rest=vs.zip ws ∧
      IntsAre vs ns'∧IntsAre ws ms'∧ns'.length + items2.size=ms'.length + items.size∧R (.ok (.ret (.bool (lexLt ns' ms')))) ⟨hp,g,d,tk,os⟩) _
    case turn =>
      rintro⟨y,x⟩ rest b s' ⟨hb',rfl,vs,ws,ns',ms',hz,hvi,hwi,hlen,hR⟩
      cases hvi with
      | nil=>rw [List.zip_nil_left] at hz;cases hz
      | cons a t hvi' =>
        cases hwi with
        | nil=>rw [List.zip_nil_right] at hz;cases hz
        | cons c u hwi' =>
          rw [List.zip_cons_cons] at hz
          injection hz with hyx hrest
          injection hyx with hy hx
          subst hy hx
          rw [CL] at hR
          simp only [List.length_cons] at hlen
          obtain⟨e,he,hiff⟩:=IC A.in1 ⟨hp,g,d,tk,os⟩ a t c u
          refine wpAny_bind (he prog w _ _ ?_)
          cases e with
          | true =>
            rw [if_pos (hiff.mp rfl)] at hR
            wp_walk
            exact⟨rfl,rfl,_,_,_,_,hrest,hvi',hwi',by omega,hR⟩
          | false =>
            rw [if_neg (fun q=>absurd (hiff.mpr q) Bool.false_ne_true)] at hR
            have hri:=ID A.in1 ⟨hp,g,d,tk,os⟩ a t c u prog w
            wp_walk using hri
            exact⟨_,rfl,by simpa using hR⟩
    case fin =>
      rintro⟨b1,b2⟩ s' ⟨hb',rfl,vs,ws,ns',ms',hz,hvi,hwi,hlen,hR⟩
      simp only at hb'
      subst hb'
      have hv:lexLt ns' ms'=decide (items.size < items2.size):=by
        cases hvi with
        | nil =>
          cases hwi with
          | nil =>
            simp only [List.length_nil] at hlen
            rw [uS]
            exact (decide_eq_false (by omega)).symm
          | cons c u hw =>
            simp only [List.length_nil,List.length_cons] at hlen
            rw [sB]
            exact (decide_eq_true (by omega)).symm
        | cons a t hv =>
          cases hwi with
          | nil =>
            simp only [List.length_nil,List.length_cons] at hlen
            rw [sC]
            exact (decide_eq_false (by omega)).symm
          | cons c u hw =>
            rw [List.zip_cons_cons] at hz
            cases hz
      rw [hv] at hR
      wp_walk
      exact⟨_,rfl,by simpa [Builtin.Tuple.tupleCompareSizes] using hR⟩
    case h =>
      exact⟨rfl,rfl,items.toList,items2.toList,ns,ms,rfl,hi,hj,by omega,h⟩
end
section
variable {prog:Program} {w:World} {A:Around} {E:Value→Shared→Prop} {s:Shared}
theorem lt_tupInts {l b:Addr}{items items2:Array Value}{ns ms:List Int}{Q:Value→Shared→Prop}(hl:IsTup s.heap l items)(hb:IsTup s.heap b items2)(hi:IntsAre items.toList ns)(hj:IntsAre items2.toList ms)
    (hu:A.units < cLine) (h:Q (.bool (lexLt ns ms)) s):wpAny (model prog w) A (compareOp .Lt (.ref l) (.ref b)) Q E s:=by
  obtain⟨⟨cls,dd,data,sl⟩,ho,hc,n,hd⟩:=id hl
  obtain⟨⟨cls2,dd2,data2,sl2⟩,ho2,hc2,n2,hd2⟩:=id hb
  simp only at hc hd hc2 hd2
  subst hc hd hc2 hd2
  exact richCompare_meets_room (op:=.Lt) ⟨_,ho,rfl⟩ ⟨_,ho2,rfl⟩ PySem.F.slot_tuple_lt PySem.F.entry_tuple_lt (PySem.F.args_tuple_lt_2 _ _) (uT l b items items2 n n2 dd dd2 sl sl2 ns ms hi hj)
    ⟨ho,ho2,show Value.bool (lexLt ns ms)≠Value.notImplemented∧Q (.bool (lexLt ns ms)) s from ⟨(fun x=>nomatch x),h⟩⟩ hu
theorem cat_tup {t b:Addr}{vs ws:List Value}{Q:Value→Shared→Prop}(ht:IsTup s.heap t vs.toArray)(hb:IsTup s.heap b ws.toArray)(hv:vs≠[])
    (h1:ws=[]→Q (.ref t) s) (h2:ws≠[]→Q (.ref s.heap.objs.size) { s with heap:=s.heap.push { cls:=.type "tuple",data:=.seq (vs++ws).toArray } })
    (hsz:vs.length + ws.length≤sizeLine):wpAny (model prog w) A (binaryOp .Add (.ref t) (.ref b)) Q E s:=by
  obtain⟨⟨cls,dd,data,sl⟩,ho,hc,n,hd⟩:=id ht
  obtain⟨⟨cls2,dd2,data2,sl2⟩,ho2,hc2,n2,hd2⟩:=id hb
  simp only at hc hd hc2 hd2
  subst hc hd hc2 hd2
  have e:vs.toArray++ws.toArray=(vs++ws).toArray:=by simp
  by_cases hw:ws=[]
  · exact concat_meets ⟨_,ho,rfl⟩ ⟨_,ho2,rfl⟩ noFill_tuple_add seq_tuple_add PySem.F.slot_tuple_add PySem.F.entry_tuple_add (PySem.F.args_tuple_add_2 _ _)
      (tuple_addW1 t b vs.toArray ws.toArray n n2 dd dd2 sl sl2 (by simpa using hv) (by simp [hw])) ⟨ho,ho2,h1 hw⟩
  · refine concat_meets ⟨_,ho,rfl⟩ ⟨_,ho2,rfl⟩ noFill_tuple_add seq_tuple_add PySem.F.slot_tuple_add PySem.F.entry_tuple_add (PySem.F.args_tuple_add_2 _ _)
      (tuple_addW2 t b vs.toArray ws.toArray n n2 dd dd2 sl sl2 (by simpa using hv) (by simpa using hw) (by rw [List.size_toArray,List.size_toArray];exact hsz)) ⟨ho,ho2,?_⟩
    rw [e]
    exact h2 hw
def sIx (n d:Nat):Option Int→Nat
  | none=>d
  | some v=>if v < 0 then (v + (n:Int)).toNat else min v.toNat n
end
end HT
namespace L2
open PySem PySem.Spec PyProof.Rows
abbrev TO:=St→Hp→(Option Int→Hp→Prop)→Prop
def PO (X:Cx) (e:Option Expr) (t:TO):Prop :=
  ∀ (pins:List (Addr × Obj)) (s:Shared) (σ:St) (H:Hp) (Q:Option Int→Hp→Prop),Inv X pins σ H s→t σ H Q →
    wpAny (model X.prog X.w) X.A (evalPart e X.env) (fun u s'=>∃ o H',Inv X pins σ H' s'∧IsPart u o∧Q o H') X.xe s
theorem mL {ns:List Int}:∀ {us:List Value},bj (ns.map V.int) us→IntsAre us ns:=by
  induction ns with
  | nil=>intro us r;rw [List.map_nil] at r;cases r;exact .nil
  | cons n ns ih =>
    intro us r
    rw [List.map_cons] at r
    cases r with
    | cons r1 r2 =>
      obtain⟨t,e⟩:=r1
      subst e
      exact .cons n t (ih r2)
section
variable {X:Cx} {e:Expr} {te:TE} {lo hi:Option Expr} {tl th:TO} {pos p2:Pos}
def P3 (K:PySem.W.Frag):R2:=fun x y H Q=>∃ a b ns ms,x=.ref a∧y=.ref b∧SqT K H a (ns.map V.int)∧SqT K H b (ms.map V.int)∧Q (.bl (HT.lexLt ns ms)) H
theorem CM (hu:X.A.units < cLine):OpR X (compareOp .Lt) (P3 X.K):=by
  intro pins s σ H x y v u Q I rx ry h
  obtain⟨a,b,ns,ms,rfl,rfl,ha,hb,q⟩:=h
  cases rx
  cases ry
  obtain⟨its,r1,p1,_⟩:=I.tuple ha
  obtain⟨its2,r2,p2,_⟩:=I.tuple hb
  have i1:IntsAre its.toArray.toList ns:=mL r1
  have i2:IntsAre its2.toArray.toList ms:=mL r2
  exact HT.lt_tupInts p1 p2 i1 i2 hu ⟨.bl (HT.lexLt ns ms),H,I,rfl,q⟩
def Aw (K:PySem.W.Frag):R2:=fun x y H Q=>∃ a b xs ys,x=.ref a∧y=.ref b∧SqT K H a xs∧SqT K H b ys∧xs≠[]∧xs.length + ys.length≤sizeLine ∧
  (ys=[]→Q (.ref a) H)∧(ys≠[] → ∀ p,H p=none→Q (.ref p) (upd H p (.tup (xs++ys))))
theorem bj.nil_iff {xs:List V}{us:List Value}(r:bj xs us):us=[] ↔ xs=[]:=by
  cases r with
  | nil=>simp
  | cons _ _=>simp
theorem E9:OpR X (binaryOp .Add) (Aw X.K):=by
  intro pins s σ H x y v u Q I rx ry h
  obtain⟨a,b,xs,ys,rfl,rfl,ha,hb,hx,hz,q1,q2⟩:=h
  cases rx
  cases ry
  obtain⟨its,r1,p1,_⟩:=I.tuple ha
  obtain⟨its2,r2,p2,_⟩:=I.tuple hb
  refine HT.cat_tup p1 p2 (fun z=>hx (r1.nil_iff.mp z)) (fun z=>⟨.ref a,H,I,rfl,q1 (r2.nil_iff.mp z)⟩) (fun z => ?_) (by rw [← r1.length,← r2.length];exact hz)
  refine⟨.ref s.heap.objs.size,_,I.laid (t':=s.toks) (o:=.tup (xs++ys)) (fun b ob q=>Heap.get?_push_of_some _ q) (Nat.le_refl _) ?_,rfl,q2 (fun w=>z (r2.nil_iff.mpr w)) _ (I.hok.fresh (Nat.le_refl _))⟩
  exact⟨by rw [List.length_append];exact hz,_,r1.append r2,IsTup.new _ _⟩
end
end L2
namespace L2
open PySem PySem.Spec PyProof.Rows
def ixN (n:Nat) (i:Int):Option Nat:=if 0≤i then (if i < n then some i.toNat else none) else if -(n:Int)≤i then some (i + n).toNat else none
def atI {α : Type} (xs:List α) (i:Int):Option α := (ixN xs.length i).bind fun j=>xs[j]?
theorem Fc {n:Nat}{i:Int}{j:Nat}(h:ixN n i=some j):seqIndex? i n=some j∧j < n ∧ -(n:Int)≤i∧i < n:=by
  unfold ixN at h
  by_cases h0:0≤i
  · rw [if_pos h0] at h
    by_cases h1:i < n
    · rw [if_pos h1] at h
      have e:i.toNat=j:=Option.some.inj h
      exact⟨by rw [seqIndex_of h0 h1,e],by omega,by omega,h1⟩
    · rw [if_neg h1] at h;cases h
  · rw [if_neg h0] at h
    by_cases h1 : -(n:Int)≤i
    · rw [if_pos h1] at h
      have e:(i + n).toNat=j:=Option.some.inj h
      exact⟨by rw [seqIndex_neg (by omega) h1,e],by omega,h1,by omega⟩
    · rw [if_neg h1] at h;cases h
theorem xX {α : Type}{xs:List α}{i:Int}{v : α}(h:atI xs i=some v):∃ j,seqIndex? i xs.length=some j∧xs[j]? = some v∧j < xs.length ∧ -(xs.length:Int)≤i∧i < xs.length:=by
  unfold atI at h
  cases e:ixN xs.length i with
  | none=>rw [e] at h;cases h
  | some j =>
    rw [e] at h
    obtain⟨h1,h2,h3,h4⟩:=Fc e
    exact⟨j,h1,h,h2,h3,h4⟩
theorem gw {α : Type}{xs:List α}{j:Nat}{v : α}(h:xs[j]? = some v):atI xs (j:Int)=some v:=by
  have hj:j < xs.length:=(List.getElem?_eq_some_iff.mp h).1
  have e:ixN xs.length (j:Int)=some j:=by
    unfold ixN
    rw [if_pos (by omega),if_pos (by omega)];simp
  unfold atI;rw [e];exact h
def xY (b:Expr):Prop:=∀ o i,subscripted b false o i=operate [o,i] (getItem o i)
def IxR (X:Cx) (r:R2):Prop :=
  ∀ (value slice:Expr) (pins:List (Addr × Obj)) (s:Shared) (σ:St) (H:Hp) (x y:V) (v u:Value) (Q:VK),Inv X pins σ H s→bR x v→bR y u→r x y H Q →
    subscripted slice false v u=operate [v,u] (getItem v u)→wpAny (model X.prog X.w) X.A (subscriptTail value slice v u) (EP X pins σ Q) X.xe s
def MtR (X:Cx) (id:String) (r:V→List V→Hp→VK→Prop):Prop :=
  ∀ (pins:List (Addr × Obj)) (s:Shared) (σ:St) (H:Hp) (x:V) (xs:List V) (v:Value) (us:List Value) (Q:VK),Inv X pins σ H s→bR x v→bj xs us→r x xs H Q →
    wpAny (model X.prog X.w) X.A (call (.builtin id) (v :: us)) (EP X pins σ Q) X.xe s
section
variable {X:Cx} {a b:Expr} {ta tb:TE} {pos:Pos}
theorem IxR.or {r r':R2}(h:IxR X r)(h':IxR X r'):IxR X (fun x y H Q=>r x y H Q∨r' x y H Q):=by
  intro value slice pins s σ H x y v u Q I rx ry q hs
  rcases q with q|q
  · exact h value slice pins s σ H x y v u Q I rx ry q hs
  · exact h' value slice pins s σ H x y v u Q I rx ry q hs
theorem Nj {r:R2}(hr:IxR X r)(ha:PE X a ta)(hb:PE X b tb)(hs:xY b):PE X (.Subscript a b pos) (tOp r ta tb):=by
  intro pins s σ H Q I h
  exact Subscript_ (NV ha hb I h fun v u s2 x y H2 I2 rx ry q=>hr a b pins s2 σ H2 x y v u Q I2 rx ry q (hs _ _))
def P4 (K:PySem.W.Frag):R2:=fun x y H Q=>∃ p xs i v,x=.ref p∧y=.int i∧SqL K H p xs∧atI xs i=some v∧Q v H
def P5 (K:PySem.W.Frag):R2:=fun x y H Q=>∃ p xs i v,x=.ref p∧y=.int i∧SqT K H p xs∧atI xs i=some v∧Q v H
def P6:R2:=fun x y H Q=>∃ z i c,x=.str z∧y=.int i∧z.length≤sizeLine∧atI z.cps.toList i=some c∧Q (.str ⟨#[c]⟩) H
theorem Fd:IxR X (P4 X.K):=by
  intro value slice pins s σ H x y v u Q I rx ry h hs
  obtain⟨p,xs,i,z,rfl,rfl,hq,he,q⟩:=h
  cases rx
  obtain⟨t,rfl⟩:=ry
  obtain⟨its,r,pl,hz⟩:=I.list hq
  obtain⟨j,h1,h2,h3,h4,h5⟩:=xX he
  obtain⟨w,ew,rw'⟩:=r.get h2
  have hl:=r.length
  have hn:=sx
  have fin:EP X pins σ Q w s:=⟨z,H,I,rw',q⟩
  by_cases h0:0≤i
  · have hj:i.toNat=j:=by
      rw [seqIndex_of h0 h5] at h1
      exact Option.some.inj h1
    exact item_listR pl.isList h0 (by omega) (by rw [hj];simpa using ew) fin hs
  · have hj:(i + (its.toArray.size:Int)).toNat=j:=by
      rw [seqIndex_neg (by omega) h4] at h1
      rw [List.size_toArray,← hl]
      exact Option.some.inj h1
    exact subscriptTail_builtinR (x:=w) pl.isList.typeIs slot_list_getitem.lookup
      (wpAny_getItem_list_neg (Q:=fun r s'=>r=w∧EP X pins σ Q r s') pl.isList (by omega) (by rw [List.size_toArray]<;>omega) (by omega) (by rw [hj];simpa using ew) ⟨rfl,fin⟩) hs
theorem N5:IxR X (P5 X.K):=by
  intro value slice pins s σ H x y v u Q I rx ry h hs
  obtain⟨p,xs,i,z,rfl,rfl,hq,he,q⟩:=h
  cases rx
  obtain⟨t,rfl⟩:=ry
  obtain⟨its,r,pl,hz⟩:=I.tuple hq
  obtain⟨j,h1,h2,h3,h4,h5⟩:=xX he
  obtain⟨w,ew,rw'⟩:=r.get h2
  have hl:=r.length
  have hn:=sx
  have fin:EP X pins σ Q w s:=⟨z,H,I,rw',q⟩
  exact subscriptTail_builtinR (x:=w) pl.typeIs slot_tuple_getitem.lookup
    (getItem_tuple (j:=j) (Q:=fun r s'=>r=w∧EP X pins σ Q r s') pl (by omega) (by omega) (by rw [List.size_toArray,← hl];exact h1) (by simpa using ew) ⟨rfl,fin⟩) hs
theorem N7:IxR X P6:=by
  intro value slice pins s σ H x y v u Q I rx ry h hs
  obtain⟨z,i,c,rfl,rfl,hz,he,q⟩:=h
  obtain⟨t,rfl⟩:=rx
  obtain⟨t',rfl⟩:=ry
  obtain⟨j,h1,h2,h3,h4,h5⟩:=xX he
  have hl:z.cps.toList.length=z.length:=by simp [Str.length]
  rw [hl] at h1 h4 h5
  have hn:=sx
  exact tail_any (typeIs_str s z t) slot_str_getitem.lookup (getItem_str (c:=c) (by
    have e1:decide (i < -(2 ^ 63:Int))=false:=decide_eq_false (by omega)
    have e2:decide (i ≥ 2 ^ 63)=false:=decide_eq_false (by omega)
    rw [e1,e2,Bool.or_false]) (by rw [h1];simpa using h2) ⟨.str ⟨#[c]⟩,H,I.tok _,⟨_,rfl⟩,q⟩) hs
def rIx (K:PySem.W.Frag):R2:=fun x y H Q=>P4 K x y H Q∨P5 K x y H Q∨P6 x y H Q
theorem N8:IxR X (rIx X.K):=Fd.or (N5.or N7)
theorem CN (its:List Value) (n j:Nat) (u:Value):Obj.mapSeq (·.setIfInBounds j u) { cls:=.type "list",data:=.seq its.toArray n } = { cls:=.type "list",data:=.seq (its.set j u).toArray n }:=by
  simp [Obj.mapSeq]
theorem Inv.lst {pins:List (Addr × Obj)}{σ:St}{H:Hp}{s:Shared}{p:Addr}{xs:List V}(I:Inv X pins σ H s)(h:H p=some (.lst xs)) :
    ∃ (its:List Value) (n:Nat),bj xs its∧s.heap.get? p=some { cls:=.type "list",data:=.seq its.toArray n } ∧ xs.length≤sizeLine:=by
  obtain⟨z,its,n,r,e⟩:=I.hok p _ h
  exact⟨its,n,r,e,z⟩
theorem Inv.lstUpd {pins:List (Addr × Obj)}{σ:St}{H:Hp}{s:Shared}{p:Addr}{xs ys:List V}{its its':List Value}{n n':Nat}{f:Obj→Obj}(I:Inv X pins σ H s)(h:H p=some (.lst xs))
    (ho:s.heap.get? p=some { cls:=.type "list",data:=.seq its.toArray n }) (hf:f { cls:=.type "list",data:=.seq its.toArray n } = { cls:=.type "list",data:=.seq its'.toArray n' }) (r:bj ys its') (hz:ys.length≤sizeLine) (t:Nat) :
    Inv X pins σ (upd H p (.lst ys)) { s with heap:=s.heap.update p f,toks:=t }:=by
  have e:(s.heap.update p f).get? p=some { cls:=.type "list",data:=.seq its'.toArray n' }:=by
    rw [Heap.get?_update_self f ho (by rw [hf]<;>rfl),hf]
  refine I.write (x:=p) (e:=p) (by rw [h];trivial) (.inl rfl) (fun b u hb q=>(Heap.get?_update_other _ _ (Ne.symm hb)).trans q) ⟨_,e⟩ ?_
  exact⟨hz,its',n',r,e⟩
def P7:V→V→V→Hp→(Hp→Prop)→Prop:=fun o i v H Q=>∃ p xs k j,o=.ref p∧i=.int k∧H p=some (.lst xs)∧ixN xs.length k=some j∧Q (upd H p (.lst (xs.set j v)))
theorem IE:NQ X P7:=by
  intro pins s σ H o i v ov iv u Q I ro ri rv h
  obtain⟨p,xs,k,j,rfl,rfl,hp,hj,q⟩:=h
  cases ro
  obtain⟨t,rfl⟩:=ri
  obtain⟨its,n,r,ho,hz⟩:=I.lst hp
  obtain⟨h1,h2,h3,h4⟩:=Fc hj
  have hl:=r.length
  have hn:=sx
  have I':Inv X pins σ (upd H p (.lst (xs.set j v))) { s with heap:=s.heap.update p (Obj.mapSeq (·.setIfInBounds j u)) } :=
    I.lstUpd hp ho (CN its n j u) (r.set rv j) (by rw [List.length_set];exact hz) s.toks
  by_cases h0:0≤k
  · have hk:k.toNat=j:=by
      rw [seqIndex_of h0 h4] at h1
      exact Option.some.inj h1
    exact PySem.W.ki_setAt ho h0 (by omega) (by rw [List.size_toArray,← hl];exact h4) (by rw [hk];exact⟨_,I',q⟩)
  · have hk:(k + (its.toArray.size:Int)).toNat=j:=by
      rw [seqIndex_neg (by omega) h3] at h1
      rw [List.size_toArray,← hl]
      exact Option.some.inj h1
    exact PySem.W.ki_setBack ho (by omega) (by rw [List.size_toArray,← hl];exact h3) (by omega) (by rw [hk];exact⟨_,I',q⟩)
theorem xZ:iZ X (.builtin "len") (fun xs H Q=>∃ p ys,xs=[.ref p]∧(SqL X.K H p ys∨SqT X.K H p ys)∧Q (.int ys.length) H):=by
  intro pins s σ H xs us Q I r h
  obtain⟨p,ys,rfl,hq,q⟩:=h
  obtain⟨u,rfl,rx⟩:=IB r
  cases rx
  have hn:=sx
  rcases hq with hq|hq
  · obtain⟨its,r',pl,hz⟩:=I.list hq
    have hlen:=r'.length
    exact Calls.call_len_list pl.isList (by simp only [List.size_toArray]<;>omega) ⟨.int ys.length,H,I.tok _,⟨s.toks + 1,by rw [List.size_toArray,hlen]⟩,q⟩
  · obtain⟨its,r',pl,hz⟩:=I.tuple hq
    have hlen:=r'.length
    exact len_tuple pl (by simp only [List.size_toArray]<;>omega) ⟨.int ys.length,H,I.tok _,⟨s.toks + 1,by rw [List.size_toArray,hlen]⟩,q⟩
theorem x9:iZ X (.type "list") (fun xs H Q=>∃ p ys,xs=[.ref p]∧(SqL X.K H p ys∨SqT X.K H p ys) ∧ ∀ l,H l=none→Q (.ref l) (upd H l (.lst ys))):=by
  intro pins s σ H xs us Q I r h
  obtain⟨p,ys,rfl,hq,q⟩:=h
  obtain⟨u,rfl,rx⟩:=IB r
  cases rx
  have fin:∀ (its:List Value),bj ys its→ys.length≤sizeLine → ∀ (h':Heap) (c':Nat),(∀ b o',s.heap.get? b=some o'→h'.get? b=some o') →
      h'.get? s.heap.objs.size=some { cls:=.type "list",dict:=none,data:=.seq its.toArray c',slots := #[] } → EP X pins σ Q (.ref s.heap.objs.size) { s with heap:=h' }:=fun its r' hz h' c' kp e =>
    ⟨.ref s.heap.objs.size,_,I.laid (t':=s.toks) kp (Nat.le_refl _) (show ed X.prog X.w _ h' _ (.lst ys) from ⟨hz,its,c',r',e⟩),rfl,q _ (I.hok.fresh (Nat.le_refl _))⟩
  rcases hq with hq|hq
  · obtain⟨its,r',pl,hz⟩:=I.list hq
    have hlen:=r'.length
    obtain⟨o,ho,hc,n,hd⟩:=pl.isList
    exact call_list_seq p (.inl rfl) ho hc hd (fun h' c' kp e=>fin its r' hz h' c' kp e) (by simp only [List.size_toArray]<;>omega)
  · obtain⟨its,r',pl,hz⟩:=I.tuple hq
    have hlen:=r'.length
    obtain⟨o,ho,hc,n,hd⟩:=pl
    exact call_list_seq p (.inr rfl) ho hc hd (fun h' c' kp e=>fin its r' hz h' c' kp e) (by simp only [List.size_toArray]<;>omega)
theorem uU:iZ X (.type "tuple") (fun xs H Q=>∃ p ys,xs=[.ref p]∧((SqL X.K H p ys ∧ ∀ l,H l=none→Q (.ref l) (upd H l (.tup ys)))∨(SqT X.K H p ys∧Q (.ref p) H))):=by
  intro pins s σ H xs us Q I r h
  obtain⟨p,ys,rfl,h⟩:=h
  obtain⟨u,rfl,rx⟩:=IB r
  cases rx
  rcases h with ⟨hq,q⟩|⟨hq,q⟩
  · obtain⟨its,r',pl,hz⟩:=I.list hq
    have hlen:=r'.length
    refine call_tuple_list pl.isList (fun h' kp => ?_) (by simp only [List.size_toArray]<;>omega)
    have I1:Inv X pins σ H { s with heap:=h' }:=I.kept (t':=s.toks) kp
    have I2:Inv X pins σ (upd H h'.objs.size (.tup ys)) { s with heap:=h'.push { cls:=.type "tuple",data:=.seq its.toArray } } :=
      I1.laid (t':=s.toks) (fun b o e=>Heap.get?_push_of_some _ e) (Nat.le_refl _) (show ed X.prog X.w _ _ _ (.tup ys) from ⟨hz,its,r',IsTup.new _ _⟩)
    exact⟨.ref h'.objs.size,_,I2,rfl,q _ (I1.hok.fresh (Nat.le_refl _))⟩
  · obtain⟨its,r',pl,hz⟩:=I.tuple hq
    exact call_tuple_same pl ⟨.ref p,H,I,rfl,q⟩
def tyV (K:PySem.W.Frag) (T:String) (x:V) (H:Hp):Prop:=match x with
  | .str _=>T = "str"
  | .int _=>T = "int"
  | .ref p=>(T = "list" ∧ ∃ xs,SqL K H p xs)∨(T = "tuple" ∧ ∃ o,K.lookup p=some o∧o.cls=.type "tuple" ∧ o.dict=none) ∨
      (T = "dict" ∧ ((∃ kvs,H p=some (.dK kvs)) ∨ ∃ kvs,H p=some (.dT kvs)))∨(T = "set" ∧ ∃ S n,H p=some (.set S n))
  | _=>False
theorem IG {pins:List (Addr × Obj)}{σ:St}{H:Hp}{s:Shared}{T:String}{x:V}{v:Value}(I:Inv X pins σ H s)(r:bR x v)(ty:tyV X.K T x H) :
    s.TypeIs v T ∧ ∀ a,v=.ref a → ∃ ob,s.heap.get? a=some ob∧ob.dict=none:=by
  cases x with
  | str z =>
    obtain⟨t,rfl⟩:=r
    cases (show T = "str" from ty)
    exact⟨typeIs_str s z t,fun _ e=>nomatch e⟩
  | int i =>
    obtain⟨t,rfl⟩:=r
    cases (show T = "int" from ty)
    exact⟨typeIs_int s i t,fun _ e=>nomatch e⟩
  | ref p =>
    cases r
    rcases ty with ⟨rfl,xs,hq⟩|⟨rfl,o,hk,hc,hd⟩|⟨rfl,hk⟩|⟨rfl,S,n,hk⟩
    · obtain⟨its,_,pl,_⟩:=I.list hq
      refine⟨pl.isList.typeIs,fun a e => ?_⟩
      cases e
      obtain⟨o,n,e,c,hd,_⟩:=pl
      exact⟨o,e,hd⟩
    · refine⟨⟨o,I.kIn p o hk,hc⟩,fun a e => ?_⟩
      cases e
      exact⟨o,I.kIn _ o hk,hd⟩
    · have z:∃ o,s.heap.get? p=some o∧o.ExactDict:=by
        rcases hk with ⟨kvs,hk⟩|⟨kvs,hk⟩
        · obtain⟨_,_,_,_,o,_,_,e,ex,_⟩:=I.hok p _ hk
          exact⟨o,e,ex⟩
        · obtain⟨_,_,_,_,o,_,_,e,ex,_⟩:=I.hok p _ hk
          exact⟨o,e,ex⟩
      obtain⟨o,e,ex⟩:=z
      refine⟨⟨o,e,ex.1⟩,fun a e2 => ?_⟩
      cases e2
      exact⟨o,e,ex.2.1⟩
    · obtain⟨o,_,_,_,e,ex,_⟩:=I.hok p _ hk
      refine⟨⟨o,e,ex.1⟩,fun a e2 => ?_⟩
      cases e2
      exact⟨o,e,ex.2.1⟩
  | _=>exact False.elim ty
def Q2 (K:PySem.W.Frag) (T:String) (r:V→List V→Hp→VK→Prop) (to:TE):TE:=fun σ H Q=>to σ H fun x H1=>tyV K T x H1∧r x [] H1 Q
def tBM (K:PySem.W.Frag) (T:String) (r:V→List V→Hp→VK→Prop) (to:TE) (t:TA):TE:=fun σ H Q=>to σ H fun x H1=>tyV K T x H1∧t σ H1 fun xs H2=>r x xs H2 Q
variable {o e:Expr} {es:List Expr} {to:TE} {t:TA} {name:Str} {apos cpos:Pos} {T id:String} {r:V→List V→Hp→VK→Prop}
theorem N9 (pa:PlainAttrs T) (slot:Slot T name id) (hty:typeOf (.builtin id)=pure (.type "method_descriptor")) (hm:MtR X id r) (ho:PE X o to)
    (hbase:attributeBase o name X.env (eval o X.env)=eval o X.env:=by rfl) (hline:(apos.endLine == cpos.line)=true:=by rfl):PE X (.Call (.Attribute o name apos) [] [] cpos) (Q2 X.K T r to):=by
  intro pins s σ H Q I h
  refine wpAny_Call_method0_late hbase hline (thn (ho pins s σ H _ I h) fun v s1 ⟨x,H1,I1,r1,ty,q1⟩ => ?_)
  obtain⟨h1,h2⟩:=IG I1 r1 ty
  exact⟨T,id,pa,slot,hty,h1,h2,Calls.callWith_builtin rfl (PySem.evalArgs_none (hm pins s1 σ H1 x [] v [] Q I1 r1 .nil q1))⟩
theorem Nk (pa:PlainAttrs T) (slot:Slot T name id) (hty:typeOf (.builtin id)=pure (.type "method_descriptor")) (hm:MtR X id r) (ho:PE X o to) (ha:PA X (e :: es) t)
    (hbase:attributeBase o name X.env (eval o X.env)=eval o X.env:=by rfl)
    (hfew:((backTo cpos (starEach (e :: es) X.env)).all (fun x => !x.1) && (backToKw cpos (keywordEach [] X.env)).all (fun x=>x.1.isSome)
      && decide ((e :: es).length + ([] : List Keyword).length + (if ([] : List Keyword).isEmpty then 0 else 1) < 30))=true:=by rfl)
    (hline:(apos.endLine == cpos.line)=true:=by rfl) (hs:starEach (e :: es) X.env=(false,eval e X.env) :: starEach es X.env:=by rfl) (hplain:(backTo cpos (starEach es X.env)).any (·.1)=false:=by rfl) :
    PE X (.Call (.Attribute o name apos) (e :: es) [] cpos) (tBM X.K T r to t):=by
  intro pins s σ H Q I h
  refine wpAny_Call_method_late hbase hfew hline rfl (thn (ho pins s σ H _ I h) fun v s1 ⟨x,H1,I1,r1,ty,q1⟩ => ?_)
  obtain⟨h1,h2⟩:=IG I1 r1 ty
  refine⟨T,id,pa,slot,hty,h1,h2,?_⟩
  have hA:=ha cpos pins s1 σ H1 _ I1 q1
  rw [hs] at hA ⊢
  refine Calls.callWith_builtin (by show (false || (backTo cpos (starEach es X.env)).any (·.1))=false;rw [hplain]<;>rfl) (Calls.evalArgs_plain ?_)
  exact thn hA fun us s2 ⟨vs,H2,I2,r2,q2⟩=>hm pins s2 σ H2 x vs v us Q I2 r1 r2 q2
end
end L2
namespace L2
open PySem PySem.Spec PyProof.Rows
def MtM (X:Cx) (id:String) (r:V→List V→Hp→VK→Prop):Prop :=
  ∀ (pins:List (Addr × Obj)) (s:Shared) (σ:St) (H:Hp) (x:V) (xs:List V) (v:Value) (us:List Value) (Q:VK),Inv X pins σ H s→bR x v→bj xs us→r x xs H Q →
    wpAny (model X.prog X.w) X.A (call (.builtin id) (v :: us)) (EP X pins σ Q) X.xe s
theorem bj.one:∀ {x:V} {us:List Value},bj [x] us → ∃ u,us=[u]∧bR x u
  | _,_,.cons r .nil=>⟨_,rfl,r⟩
theorem bj.two:∀ {x y:V} {us:List Value},bj [x,y] us → ∃ u v,us=[u,v]∧bR x u∧bR y v
  | _,_,_,.cons r (.cons q .nil)=>⟨_,_,rfl,r,q⟩
theorem bj.zero:∀ {us:List Value},bj [] us→us=[]
  | _,.nil=>rfl
theorem bj.rep {xs:List V}{us:List Value}(h:bj xs us):∀ k:Nat,bj (List.replicate k xs).flatten (List.replicate k us).flatten
  | 0=>.nil
  | k + 1=>by
    rw [List.replicate_succ,List.replicate_succ,List.flatten_cons,List.flatten_cons]
    exact bj.append h (bj.rep h k)
theorem wY (its:List Value):∀ (k:Nat) (acc:List Value),
    List.foldl (fun x1 x2=>x1++x2) acc.toArray (List.replicate k its.toArray)=(acc++(List.replicate k its).flatten).toArray
  | 0,acc=>by simp
  | k + 1,acc=>by
    have e:acc.toArray++its.toArray=(acc++its).toArray:=by simp
    have e2:(acc++its)++(List.replicate k its).flatten=acc++(List.replicate (k + 1) its).flatten:=by
      rw [List.replicate_succ,List.flatten_cons,List.append_assoc]
    rw [← e2,← wY its k (acc++its),← e,List.replicate_succ,List.foldl_cons]
section
variable {X:Cx} {pins:List (Addr × Obj)} {σ:St} {H:Hp} {s:Shared} {l b:Addr} {xs ys zs:List V}
theorem Inv.lset {its its':List Value}{n:Nat}{f:Array Value→Array Value}{t':Nat}(I:Inv X pins σ H s)(hH:H l=some (.lst xs))
    (e:s.heap.get? l=some { cls:=.type "list",data:=.seq its.toArray n }) (hf:f its.toArray=its'.toArray) (hv:bj ys its') (hz:ys.length≤sizeLine) :
    Inv X pins σ (upd H l (.lst ys)) { s with heap:=s.heap.update l (Obj.mapSeq f),toks:=t' }:=by
  have q:=PySem.IsL.update e f
  rw [hf] at q
  refine I.write (x:=l) (e:=l) (by rw [hH];exact trivial) (.inl rfl) (fun b' u hb hu=>(Heap.get?_update_other s.heap (Obj.mapSeq f) (Ne.symm hb)).trans hu) ⟨_,q⟩ ?_
  exact⟨hz,its',_,hv,q⟩
theorem Inv.lnew {its:List Value}{t':Nat}(I:Inv X pins σ H s)(hv:bj ys its)(hz:ys.length≤sizeLine) :
    Inv X pins σ (upd H s.heap.objs.size (.lst ys)) { s with heap:=s.heap.push { cls:=.type "list",data:=.seq its.toArray },toks:=t' } :=
  I.laid (fun _ _ q=>Heap.get?_push_of_some _ q) (Nat.le_refl _) ⟨hz,its,0,hv,Heap.get?_push_size _ rfl⟩
theorem Inv.fresh (I:Inv X pins σ H s):H s.heap.objs.size=none:=I.hok.fresh (Nat.le_refl _)
theorem Inv.lstM (I:Inv X pins σ H s) (hH:H l=some (.lst xs)):xs.length≤sizeLine ∧ ∃ (its:List Value) (n:Nat),bj xs its∧xs.length=its.length∧s.heap.get? l=some { cls:=.type "list",data:=.seq its.toArray n }:=by
  obtain⟨z,its,n,r,e⟩:=I.hok l _ hH
  exact⟨z,its,n,r,r.length,e⟩
theorem Ax {n:Nat}(h:n≤sizeLine):Builtin.List.listTooLong n=false:=by
  unfold Builtin.List.listTooLong
  exact decide_eq_false (by omega)
end
section
variable {X:Cx}
def LI:V→List V→Hp→VK→Prop:=fun x vs H Q=>∃ l xs y,x=.ref l∧vs=[y]∧H l=some (.lst xs)∧xs.length < sizeLine∧Q .non (upd H l (.lst (xs++[y])))
theorem wZ:MtM X "list.append" LI:=by
  intro pins s σ H x vs v us Q I rx rv h
  obtain⟨l,xs,y,rfl,rfl,hH,hz,q⟩:=h
  cases rx
  obtain⟨u,rfl,ru⟩:=rv.one
  obtain⟨z,its,n,r,hl,e⟩:=I.lstM hH
  refine call_meets F.slot_list_append ⟨_,e,rfl⟩ F.entry_list_append (F.args_list_append_2 _ _) (PySem.list_append l its.toArray n u (by rw [List.size_toArray];omega)) ⟨e,?_⟩
  refine⟨.non,_,I.lset (its':=its++[u]) hH e (by simp) (r.append (.cons ru .nil)) ?_,rfl,q⟩
  rw [List.length_append,List.length_singleton]
  omega
def LJ:V→List V→Hp→VK→Prop:=fun x vs H Q=>∃ l b xs zs,x=.ref l∧vs=[.ref b]∧H l=some (.lst xs)∧H b=some (.lst zs)∧xs.length + zs.length≤sizeLine∧Q .non (upd H l (.lst (xs++zs)))
theorem F8:MtM X "list.extend" LJ:=by
  intro pins s σ H x vs v us Q I rx rv h
  obtain⟨l,b,xs,zs,rfl,rfl,hH,hB,hz,q⟩:=h
  cases rx
  obtain⟨u,rfl,ru⟩:=rv.one
  cases ru
  obtain⟨z,its,n,r,hl,e⟩:=I.lstM hH
  obtain⟨z2,its2,n2,r2,hl2,e2⟩:=I.lstM hB
  have hsz:its.toArray.size + its2.toArray.size≤sizeLine:=by rw [List.size_toArray,List.size_toArray];omega
  have hlong : ¬ (!its.toArray.isEmpty && Builtin.List.listTooLong (its.toArray.size + its2.toArray.size))=true:=by
    rw [Ax hsz,Bool.and_false]
    exact Bool.false_ne_true
  refine call_meets F.slot_list_extend ⟨_,e,rfl⟩ F.entry_list_extend (F.args_list_extend_2 _ _)
    (AutoSeq1.list_extend_list_list_0 l its.toArray n b its2.toArray n2 hlong (by rw [List.size_toArray];omega) (by omega)) ⟨e,e2,?_⟩
  refine⟨.non,_,I.lset (its':=its++its2) hH e (by simp) (r.append r2) ?_,rfl,q⟩
  rw [List.length_append]
  omega
def Oa:V→List V→Hp→VK→Prop:=fun x vs H Q=>∃ l xs,x=.ref l∧vs=[]∧H l=some (.lst xs)∧Q .non (upd H l (.lst []))
theorem IH:MtM X "list.clear" Oa:=by
  intro pins s σ H x vs v us Q I rx rv h
  obtain⟨l,xs,rfl,rfl,hH,q⟩:=h
  cases rx
  have hus:=rv.zero
  subst hus
  obtain⟨z,its,n,r,hl,e⟩:=I.lstM hH
  refine call_meets F.slot_list_clear ⟨_,e,rfl⟩ F.entry_list_clear (F.args_list_clear_1 _) (AutoSeq1.list_clear_list_0 l its.toArray n (by rw [List.size_toArray];omega)) ⟨e,?_⟩
  exact⟨.non,_,I.lset (its':=[]) (ys:=[]) hH e rfl .nil (Nat.zero_le _),rfl,q⟩
def Q3:R2:=fun x y H Q=>∃ l b xs zs,x=.ref l∧y=.ref b∧H l=some (.lst xs)∧H b=some (.lst zs)∧xs.length + zs.length≤sizeLine ∧ ∀ p,H p=none→Q (.ref p) (upd H p (.lst (xs++zs)))
theorem Ob:OpR X (binaryOp .Add) Q3:=by
  intro pins s σ H x y v u Q I rx ry h
  obtain⟨l,b,xs,zs,rfl,rfl,hH,hB,hz,q⟩:=h
  cases rx
  cases ry
  obtain⟨z,its,n,r,hl,e⟩:=I.lstM hH
  obtain⟨z2,its2,n2,r2,hl2,e2⟩:=I.lstM hB
  refine PySem.P.add_list e e2 ?_ (by rw [List.size_toArray,List.size_toArray];omega)
  have ea:its.toArray++its2.toArray=(its++its2).toArray:=by simp
  rw [ea]
  exact⟨.ref _,_,I.lnew (t':=s.toks) (r.append r2) (by rw [List.length_append];omega),rfl,q _ I.fresh⟩
def Q4:R2:=fun x y H Q=>∃ l k xs,x=.ref l∧y=.int k∧H l=some (.lst xs) ∧ -(2 ^ 63)≤k∧k < 2 ^ 63∧xs.length * k.toNat≤sizeLine ∧
  ∀ p,H p=none→Q (.ref p) (upd H p (.lst (List.replicate k.toNat xs).flatten))
theorem LK {α : Type}(xs:List α)(k:Nat):(List.replicate k xs).flatten.length=k * xs.length:=by
  induction k with
  | zero=>simp
  | succ k ih=>rw [List.replicate_succ,List.flatten_cons,List.length_append,ih,Nat.succ_mul,Nat.add_comm]
theorem Oc:OpR X (binaryOp .Mult) Q4:=by
  intro pins s σ H x y v u Q I rx ry h
  obtain⟨l,k,xs,rfl,rfl,hH,h1,h2,hz,q⟩:=h
  cases rx
  obtain⟨t,rfl⟩:=ry
  obtain⟨z,its,n,r,hl,e⟩:=I.lstM hH
  have hlen:its.toArray.size * k.toNat≤sizeLine:=by rw [List.size_toArray,← hl];exact hz
  have hcap : ¬ its.toArray.size * k.toNat > (2 ^ 63 - 1) / 8:=by
    have:(sizeLine:Nat)≤(2 ^ 63 - 1) / 8:=by decide
    omega
  have hfit : ¬ (!Builtin.List.listFitsIndex k)=true:=by
    rw [fitsIndex_both h1 h2]
    exact Bool.false_ne_true
  have hlong : ¬ Builtin.List.listTooLong (its.toArray.size * k.toNat)=true:=by
    rw [Ax hlen]
    exact Bool.false_ne_true
  have hnew:List.foldl (fun x1 x2=>x1++x2) #[] (List.replicate (if its.toArray.isEmpty=true then 0 else k.toNat) its.toArray)=(List.replicate k.toNat its).flatten.toArray:=by
    have f0:∀ m:Nat,List.foldl (fun x1 x2=>x1++x2) #[] (List.replicate m its.toArray)=(List.replicate m its).flatten.toArray:=fun m=>by
      have:=wY its m []
      rw [List.nil_append] at this
      exact this
    rw [f0]
    cases its with
    | nil=>simp
    | cons a r'=>rw [if_neg (by simp)]
  refine wpAny_binaryOp_repeat_ref (T := "list") (U := "int") (by decide) ⟨_,e,rfl⟩ (fun s'=>typeIs_int s' k t) noFill_list_mul F.fills_int_mul F.slot_int_rmul repeat_list F.slot_int_index.lookup
    (call_meets F.slot_int_rmul (typeIs_int s k t) F.entry_int_rmul (F.args_int_rmul_2 _ _) (int___rmul___int_list k t l its.toArray n)
      ⟨e,rfl,⟨_,e,rfl⟩,call_meets F.slot_list_mul ⟨_,e,rfl⟩ F.entry_list_mul (F.args_list_mul_2 _ _) (AutoListH.list___mul___list_int_3 l its.toArray n k t hfit hcap hlong) ⟨e,?_⟩⟩)
  rw [hnew]
  exact⟨.ref _,_,I.lnew (t':=s.toks) (r.rep k.toNat) (by rw [LK,Nat.mul_comm];exact hz),rfl,q _ I.fresh⟩
end
section
variable {prog:Program} {w:World} {A:Around} {E:Value→Shared→Prop} {s:Shared}
end
section
variable {X:Cx}
end
end L2
namespace Att
open PySem PySem.W PySem.Calls PyProof.Rows
theorem qO {P:Params}{h:Heap}:∀ (ns:List Int) (vs:List Value),WellAll P h vs (ns.map WData.int)→IntsAre vs ns:=by
  intro ns
  induction ns with
  | nil =>
    intro vs w
    rw [List.map_nil] at w
    cases w
    exact .nil
  | cons n ns ih =>
    intro vs w
    rw [List.map_cons] at w
    cases w with
    | cons a b =>
      cases a
      exact .cons _ _ (ih _ b)
theorem F9 {l:OpenLaw}{n:Nat}(hn:l.most=some n){P:Params}{h:Heap}{args:List WData}{vals:List Value}
    (hpre:l.row.toRowW.claim.pre args=true) (hwl:WellAll P h vals args) :
    ∃ a vs ns,vals=[Value.ref a]∧args=[WData.list (ns.map WData.int)]∧h.get? a=some { cls:=.type "list",data:=.seq vs.toArray } ∧ IntsAre vs ns∧ns.length≤n:=by
  have hsh:WShape.hasAll [] args [.list .int] = true:=(pre_splitW hpre).1
  have hc:l.pre.holds [] { args:=args } = true:=(pre_splitW hpre).2
  obtain⟨d,r,rfl,h1,h2⟩:=hasAllW_cons hsh
  obtain rfl:=hasAllW_nil h2
  obtain⟨xs,rfl,h3⟩:=hasW_list h1
  obtain⟨ns,rfl⟩:=items_int h3
  have hlen:ns.length≤n:=by
    unfold OpenLaw.pre at hc
    have h4:(WTm.not (.lt (.lit (.int (n:Int))) (.len (.arg 0)))).holds [] { args:=[.list (ns.map .int)] } = true:=by
      have h4:=(holds_andW hc).1
      rw [hn] at h4
      exact h4
    have h5:=condW_of h4 (w_not (w_lt w_lit (w_len_list (w_arg rfl))))
    rw [List.length_map] at h5
    refine Nat.le_of_not_lt fun q => ?_
    have q':(n:Int) < ((ns.length:Nat):Int):=by omega
    first
      | (rw [decide_eq_true q'] at h5;exact absurd h5 (by decide))
      | (simp at h5;omega)
  cases hwl with
  | cons w1 w2 =>
    cases w2
    cases w1 with
    | list ho hall=>exact⟨_,_,ns,rfl,rfl,ho,qO ns _ hall,hlen⟩
theorem Ga (l:OpenLaw)(args:List WData):l.row.toRowW.claim.post args (.bool true) args=true :=
  postW_of (r:=l.row.toRowW) (X:=(true == true))
    (show WShape.has [] (.bool true) .bool=true by first|rfl|decide|simp [WShape.has,WShape.arms,WShape.armsAll])
    (show (WTm.eq .res (.lit (.bool true))).value [] { args:=args,res:=some (.bool true),after:=args } = some (.bool (true == true)) from w_eq_bool (w_res rfl) w_lit) rfl
theorem attach_call {l:OpenLaw}{n:Nat}{q:Program}{loose:List Str}{XP:(Str→Option Value)→Heap→Prop}{YP:World→Heap→Prop}{d:DefRec}
    (hn:l.most=some n) (hdf:d.params.defaults=[])
    (call:∀ (w:World) (s₀ s₁ : Shared) (mg mb:Str→Option Value) (fa:Addr) (o:Obj) (pm cd doc:Value) (a:Addr) (vs:List Value) (ns:List Int),
      Ground q loose [] XP w s₀ mg mb s₁.heap→YP w s₁.heap →
      s₁.heap.get? fa=some o→o.data=.func (docDef d.name d.params d.body d.scope pm cd doc)→s₁.heap.CodeRec cd d.name→mg d.name=some (.ref fa) →
      s₁.heap.get? a=some { cls:=.type "list",data:=.seq vs.toArray } → IntsAre vs ns→ns.length≤n→s₁.gens = #[] →
      codeAny (model l.prog w) callerA (.call (.ref fa) ⟨[.ref a],[]⟩) (fun r s'=>r=.ok (.ret (.bool true))∧OldK s₁.heap s'.heap∧s'.os=s₁.os∧AllBare s'.gens) s₁) :
    WalkO q loose XP YP l.row.toRowW d [] (fun f vs=>PySem.call f vs):=by
  intro w s₀ s₁ mg mb G Y fa o pm cd doc dV kV ho hd hcd hD hmg hg args vals as hpre hlay hrd hwl hlo
  obtain rfl:dV=.none:=Dflts.none hD hdf
  obtain rfl:kV=.none:=Dflts.noKw hD
  obtain⟨a,vs,ns,rfl,rfl,hobj,hints,hlen⟩:=F9 hn hpre hwl
  refine enter_call (codeAny_mono (call w s₀ s₁ mg mb fa o pm cd doc a vs ns G Y ho (fd_plain hd) hcd hmg hobj hints hlen hg) fun r s' hq => ?_)
  obtain⟨rfl,h2,h3,h4⟩:=hq
  exact⟨.inl ⟨.bool true,.bool true,[],rfl,fun _=>rfl,.bool true,Ga l _,fun _=>⟨List.Pairwise.nil,fun _ hm=>(nomatch hm)⟩⟩,h2,h3,h4⟩
section
variable {prog:Program} {w:World} {A:Around} {E:Value→Shared→Prop} {s:Shared} {K:Frag}
def noObjs (h:Heap):Heap:={ h with objs := #[] }
theorem noObjs_get (h:Heap)(b:Addr):(noObjs h).get? b=none:=by
  cases e:(noObjs h).get? b with
  | none=>rfl
  | some o=>exact absurd (Heap.lt_size e) (Nat.not_lt_zero _)
def ledger (h:Heap) (L d:Addr):List (Addr × Obj):=(List.range h.objs.size).filterMap fun a=>if a=L∨a=d then none else (h.get? a).map fun o=>(a,o)
theorem mem_ledger {h:Heap}{L d a:Addr}{o:Obj}:(a,o)∈ledger h L d ↔ a≠L∧a≠d∧h.get? a=some o:=by
  unfold ledger
  rw [List.mem_filterMap]
  constructor
  · rintro⟨b,_,e⟩
    split at e
    · cases e
    · rename_i hb
      obtain⟨o',ho,e'⟩:=Option.map_eq_some_iff.mp e
      cases e'
      exact⟨fun q=>hb (.inl q),fun q=>hb (.inr q),ho⟩
  · rintro⟨n1,n2,ho⟩
    refine⟨a,List.mem_range.mpr (Heap.lt_size ho),?_⟩
    rw [if_neg (show ¬ (a=L∨a=d) from fun q=>q.elim n1 n2),ho]<;>rfl
theorem fr_all {h:Heap}{L:Addr}{m:Str→Option Value}(n:h.Ns L m):Fr (noObjs h) L h m :=
  ⟨n,fun b o e=>(by rw [noObjs_get] at e;cases e),Nat.zero_le _⟩
end
end Att
namespace L2
open PySem PySem.Spec PyProof.Rows
theorem w4:∀ {vs:List Value} {ns:List Int},IntsAre vs ns→bj (ns.map V.int) vs
  | _,_,.nil=>.nil
  | _,_,.cons n t h=>.cons ⟨t,rfl⟩ (w4 h)
def Od (H:Hp):Prop:=∀ b,H b=none ∨ ∃ o xs,H b=some (.frz o (.lst xs))
theorem II {P:Program}{w:World}{K:PySem.W.Frag}{mg mb:Str→Option Value}{CX:CXT}{k:Nat}{fa a:Addr}{fd:FuncData}{x:Str}{sp:Sp}{s₁ : Shared}{vs:List Value}{ns:List Int}
    (KX:K.In s₁.heap) (hns:s₁.heap.Ns mainGlobals mg) (hb:s₁.heap.Ns builtinsNs mb) (hbb:∀ x:Str,x ≠ "__name__" → mb x=bootBuiltins x) (hlim:s₁.heap.NoLimit) (hg:s₁.gens = #[])
    (ha:s₁.heap.get? a=some { cls:=.type "list",data:=.seq vs.toArray }) (hi:IntsAre vs ns) (hl:ns.length≤sizeLine) (hr:iC k callerA)
    (F:∀ base:Heap,K.In base→base.Ns mainGlobals mg→cf P w K mg base CX k fa fd [x] sp) (hbind:∀ (s:Shared) (u:Value),BindsTo s fd ⟨[u],[]⟩ [(x,u)])
    (hsp:∀ H:Hp,Od H→SqL K H a (ns.map V.int)→sp [.ref a] H (fun v _=>v=.bl true) fun _ _ _=>False)
    (hCX:∀ H e s',CX [] H s₁ (fun _ _ _=>False) e s'→False) :
    codeAny (model P w) callerA (.call (.ref fa) ⟨[.ref a],[]⟩) (fun r s'=>r=.ok (.ret (.bool true))∧OldK s₁.heap s'.heap∧s'.os=s₁.os∧AllBare s'.gens) s₁ := by
  have rv:=w4 hi
  have lenV:=hi.length
  have core:∀ H:Hp,Od H→SqL K H a (ns.map V.int)→HOk P w H s₁.heap→(∀ b,H b≠none→b=a)→(H a≠none→K.lookup a=none) →
      codeAny (model P w) callerA (.call (.ref fa) ⟨[.ref a],[]⟩) (fun r s'=>r=.ok (.ret (.bool true))∧OldK s₁.heap s'.heap∧s'.os=s₁.os∧AllBare s'.gens) s₁ := by
    intro H hO hS hok hA hK
    have base_of:∀ {b:Addr} {o:Obj},s₁.heap.get? b=some o→H b=none→(xS s₁.heap H).get? b=some o:=fun e n=>Ie e n
    have noA:∀ {b:Addr} {o:Obj} {es:Array DictEntry} {ep:Nat},s₁.heap.get? b=some o→o.data=.dict es ep→H b=none:=fun {b o es ep} e d=>by
      cases q:H b with
      | none=>rfl
      | some u =>
        have e':b=a:=hA b (by rw [q];simp)
        subst e'
        rw [ha] at e;cases e
        have d':Data.seq vs.toArray _=Data.dict es ep:=d
        cases d'
    have nsK:∀ {b:Addr} {m:Str→Option Value},s₁.heap.Ns b m→(xS s₁.heap H).Ns b m:=fun {b m} ⟨o,es,ep,e,d,r⟩=>⟨o,es,ep,base_of e (noA e d),d,r⟩
    have hKb:K.In (xS s₁.heap H):=fun b o e=>base_of (KX b o e) (by
      cases q:H b with
      | none=>rfl
      | some u =>
        have e':b=a:=hA b (by rw [q];simp)
        subst e'
        rw [hK (by rw [q];simp)] at e;cases e)
    have hM:Mod K mg (xS s₁.heap H):=⟨hKb,nsK hns,⟨mb,nsK hb,hbb⟩,let ⟨mc,h1,h2⟩:=hlim;⟨mc,nsK h1,h2⟩⟩
    have e0:LH P w K mg (xS s₁.heap H) callerA [] s₁ H:=⟨rfl,hM,fun b o e=>Ly e,Nat.le_of_eq (FY _ _),trivial,fun b hb=>absurd (show b∈([] : List Addr) from hb) (by simp),hok,.of_eq hg⟩
    refine codeAny_mono ((F _ hKb (nsK hns)).run callerA [] s₁ H ⟨[.ref a],[]⟩ [.ref a] [.ref a] _ _ hr e0 (hbind s₁ (.ref a)) (.cons rfl .nil) (hsp H hO hS)) fun r s' h => ?_
    cases r with
    | error e=>exact (hCX H e s' h).elim
    | ok fl =>
      cases fl with
      | next=>exact False.elim h
      | brk=>exact False.elim h
      | cont=>exact False.elim h
      | ret u =>
        obtain⟨v,H',os,bare,un,hok',r',q⟩:=h
        have q':v=.bl true:=q
        subst q'
        obtain rfl:u=Value.bool true:=r'
        refine⟨rfl,OldK.of_keep fun b o e => ?_,os,bare⟩
        cases q:H b with
        | none=>exact un.keep b o e q (by intro z;exact absurd (show b∈([] : List Addr) from z) (by simp)) (by simp)
        | some u =>
          rcases hO b with z|⟨ob,xs,z⟩
          · rw [q] at z;cases z
          · have z2:=un.frzs b ob _ z
            obtain⟨e1,_⟩:=hok b _ z
            obtain⟨e2,_⟩:=hok' b _ z2
            rw [e] at e1;cases e1
            exact e2
  cases hk:K.lookup a with
  | some o =>
    have e:=KX a o hk
    rw [ha] at e
    cases e
    refine core (fun _=>none) (fun _=>.inl rfl) (.inr ⟨_,vs.toArray,_,hk,rfl,rfl,rfl,by rw [List.size_toArray,lenV];exact hl,by simpa using rv⟩) (fun b u z=>by have z':(none:Option HO)=some u:=z;cases z') (fun b z=>absurd rfl z) fun z=>absurd rfl z
  | none =>
    refine core (fun b=>if b=a then some (.frz { cls:=.type "list",data:=.seq vs.toArray } (.lst (ns.map V.int))) else none) (fun b => ?_) (.inl (.inr ⟨{ cls:=.type "list",data:=.seq vs.toArray },if_pos rfl⟩)) (fun b u z => ?_) (fun b z => ?_) fun _=>hk
    · by_cases hb:b=a
      · exact .inr ⟨_,_,if_pos hb⟩
      · exact .inl (if_neg hb)
    · by_cases hb:b=a
      · have z':=(if_pos hb).symm.trans z
        cases z'
        subst hb
        exact⟨ha,by rw [List.length_map];exact hl,vs,_,rv,ha⟩
      · have z':=(if_neg hb).symm.trans z
        cases z'
    · by_cases hb:b=a
      · exact hb
      · exact absurd (if_neg hb) z
end L2
namespace L2
open PySem PySem.Spec PyProof.Rows
theorem LM {l:PySem.W.OpenLaw}{n k:Nat}{q:Program}{loose:List Str}{XP:(Str→Option Value)→Heap→Prop}{YP:World→Heap→Prop}{d:DefRec}{K:Params→PySem.W.Frag}{CX:World→CXT}{sp:World→Sp}{x:Str}
    (hn:l.most=some n) (hn2:n≤sizeLine) (hdf:d.params.defaults=[]) (hr:iC k callerA)
    (hY:∀ (w:World) (h:Heap),YP w h→(K w.params).In h)
    (F:∀ (w:World) (mg:Str→Option Value) (fa:Addr) (h:Heap),(K w.params).In h→h.Ns mainGlobals mg→mg d.name=some (.ref fa) →
      ∃ fd:FuncData,(∀ (s:Shared) (u:Value),BindsTo s fd ⟨[u],[]⟩ [(x,u)]) ∧
        ∀ base:Heap,(K w.params).In base→base.Ns mainGlobals mg→cf l.prog w (K w.params) mg base (CX w) k fa fd [x] (sp w))
    (hsp:∀ (w:World) (H:Hp) (a:Addr) (ns:List Int),ns.length≤n→Od H→SqL (K w.params) H a (ns.map V.int)→sp w [.ref a] H (fun v _=>v=.bl true) fun _ _ _=>False)
    (hCX:∀ (w:World) (H:Hp) (s:Shared) (e:Value) (s':Shared),CX w [] H s (fun _ _ _=>False) e s'→False) :
    PySem.W.WalkO q loose XP YP l.row.toRowW d [] (fun f vs=>PySem.call f vs):=by
  refine Att.attach_call hn hdf fun w s₀ s₁ mg mb fa o pm cd doc a vs ns G Y ho hd hcd hmg hobj hints hlen hg => ?_
  have KX:=hY w _ Y
  obtain⟨fd,hb,hF⟩:=F w mg fa _ KX G.T.g hmg
  exact II KX G.T.g G.T.b G.T.builtins G.T.nolimit hg hobj hints (Nat.le_trans hlen hn2) hr hF hb (fun H hO hS=>hsp w H a ns hlen hO hS) fun H e s'=>hCX w H s₁ e s'
end L2
namespace L2
open PySem PySem.Spec PyProof.Rows
def aM (s:Stmt):Arguments:=match s with
  | .FunctionDef _ a _ _ _ _ _ _ _ _=>a
  | _=>{ posonlyargs:=[],args:=[],vararg:=none,kwonlyargs:=[],kw_defaults:=[],kwarg:=none,defaults:=[] }
def aH (s:Stmt):List Stmt:=match s with
  | .FunctionDef _ _ b _ _ _ _ _ _ _=>b
  | _=>[]
def aj (s:Stmt):Scope:=match s with
  | .FunctionDef _ _ _ _ _ _ sc _ _ _=>sc
  | _=>{ kind:=.function,names:=[],isGenerator:=false,isCoroutine:=false }
abbrev CX0:CXT:=fun _ _ _ _ _ _=>False
abbrev E0:XK:=fun _ _ _=>False
theorem P8 {X:Cx}:sA CX0 X E0:=fun _ _ _ _ _ _ _ h=>h.elim
structure Fun (K:PySem.W.Frag) (x qual:Str) (st:Stmt) (f:Addr) (fd:FuncData):Prop where
  ex:∃ (oc:Value) (od:Option Addr) (kV doc pm:Value) (an:Option Addr) (cdv ct:Value) (osl:Array (Option Value)),
    fd=PySem.W.fnOf x qual (aM st) (aH st) (aj st) .none kV doc pm an cdv ct∧K.lookup f=some ⟨oc,od,.func fd,osl⟩ ∧ PySem.W.codeIn K cdv qual=true
  kp:PySem.W.keepIn K (.ref f)=true
section
variable {P:Program} {w:World} {K:PySem.W.Frag} {mg:Str→Option Value} {base:Heap}
theorem Fun.ok {x qual:Str}{st:Stmt}{f:Addr}{fd:FuncData}{N ps:List Str}{k:Nat}{sp:Sp}(F:Fun K x qual st f fd)(S:aL N ps (aj st))(len:∀ vs H Q E,sp vs H Q E→vs.length=ps.length)
    (hbody:∀ (cdv:Value) (A:Around) (outer:List Env) (s:Shared) (H:Hp) (vs:List V) (Q:VK) (E:XK),iC k (A.deeper (envOfC qual (aj st) s.heap.objs.size f cdv))→sp vs H Q E →
      ∃ t,PSs (qN CX0 P w K mg base N qual (aj st) f cdv A outer s H E).nox (aH st) t∧t { nx:=fun _ H'=>Q .non H',rt:=Q } (kU N vs) H):cf P w K mg base CX0 (k + 1) f fd ps sp:=by
  obtain⟨oc,od,kV,doc,pm,an,cdv,ct,osl,rfl,lk,hcd⟩:=F.ex
  refine Ni lk hcd S len fun A outer s H vs Q E hr hsp => ?_
  obtain⟨t,h,q⟩:=hbody cdv A outer s H vs Q E hr hsp
  exact⟨t,h.nox,q⟩
theorem Fun.binds {x qual:Str}{st:Stmt}{f:Addr}{fd:FuncData}{ps:List Str}(F:Fun K x qual st f fd)
    (h:∀ (kV doc pm:Value) (an:Option Addr) (cdv ct:Value) (us:List Value),us.length=ps.length→bindArgs (PySem.W.fnOf x qual (aM st) (aH st) (aj st) .none kV doc pm an cdv ct) ⟨us,[]⟩ = pure (ps.zip us)):mm K fd ps []:=by
  obtain⟨oc,od,kV,doc,pm,an,cdv,ct,osl,rfl,lk,hcd⟩:=F.ex
  exact .all (h kV doc pm an cdv ct)
theorem bA {x qual:Str}{st:Stmt}{f:Addr}{oc:Value}{od an:Option Addr}{osl:Array (Option Value)}{kV doc pm cdv ct:Value}(l:K.lookup f=some ⟨oc,od,.func (PySem.W.fnOf x qual (aM st) (aH st) (aj st) .none kV doc pm an cdv ct),osl⟩)
    (c:PySem.W.codeIn K cdv qual=true) (k:PySem.W.keepIn K (.ref f)=true):Fun K x qual st f (PySem.W.fnOf x qual (aM st) (aH st) (aj st) .none kV doc pm an cdv ct):=⟨⟨oc,od,kV,doc,pm,an,cdv,ct,osl,rfl,l,c⟩,k⟩
end
section
variable {X:Cx}
end
def jU (H H':Hp):Prop:=∀ b o,H b=some o→H' b=some o
theorem jU.refl (H:Hp):jU H H:=fun _ _ h=>h
end L2
set_option linter.all false
namespace L2
open PySem PySem.Spec
structure sD (h:Heap) (a D:Addr) (o:Obj):Prop where
  at_:h.get? a=some o
  cls:o.cls=.ref D
def sE (a C:Addr):HO:=.ext fun h=>∃ o,sD h a C o
end L2
namespace Fm
inductive D where
  | non|bl (b:Bool)|int (i:Int)|str (x:List Nat)|tup (l:List D)|ref (n:Nat)|lit (l:List D)|exn (c:String) (l:List D)
deriving Inhabited
inductive cX where
  | lst (l:List D)|dct (l:List (Int × D))
abbrev Hd:=List cX
inductive Res (α : Type) where
  | ok (a : α) (h:Hd)|exc (x:D) (h:Hd)|bad
def Res.bind {α β : Type} (r:Res α) (f : α → Hd→Res β):Res β := match r with
  | .ok a h=>f a h | .exc x h=>.exc x h | .bad=>.bad
@[simp] theorem aG {α β : Type} (a : α) (h:Hd) (f : α → Hd→Res β):(Res.ok a h).bind f=f a h:=rfl
abbrev Sd:=List (Option D)
abbrev EF:=Sd→Hd→Res D
abbrev TF:=Sd→Hd→Res Bool
abbrev LF:=Sd→Hd→Res (List D)
inductive Out where
  | nx (σ:Sd) (h:Hd)|rt (d:D) (h:Hd)|bk (σ:Sd) (h:Hd)|ct (σ:Sd) (h:Hd)|exc (x:D) (σ:Sd) (h:Hd)|bad
abbrev SF:=Sd→Hd→Out
abbrev Fn:=List D→Hd→Res D
abbrev SZ:Nat:=1000000
@[simp] def slot (σ:Sd) (i:Nat):Option D:=match σ[i]? with|some (some d)=>some d|_=>none
@[simp] def aa (i:Nat):EF:=fun σ h=>match slot σ i with|some d=>.ok d h|none=>.bad
@[simp] def fC (d:D):EF:=fun _ h=>.ok d h
abbrev O2:=D→D→Hd→Res D
@[simp] def af (g:O2) (a b:EF):EF:=fun σ h=>(a σ h).bind fun x h=>(b σ h).bind fun y h=>g x y h
@[simp] def fUn (g:D→Hd→Res D) (a:EF):EF:=fun σ h=>(a σ h).bind fun x h=>g x h
@[simp] def oI (g:Int→Int→Int):O2:=fun x y h=>match x,y with | .int i,.int j=>.ok (.int (g i j)) h|_,_=>.bad
@[simp] def oB (g:Int→Int→Bool):O2:=fun x y h=>match x,y with | .int i,.int j=>.ok (.bl (g i j)) h|_,_=>.bad
@[simp] def oIc (c:Int→Int→Bool) (g:Int→Int→Int):O2:=fun x y h=>match x,y with | .int i,.int j=>if c i j then .ok (.int (g i j)) h else .bad|_,_=>.bad
def sml (i:Int):Bool:=decide (-18446744073709551616 < i) && decide (i < 18446744073709551616)
@[simp] def cV:O2:=fun x y h=>match x,y with
  | .int i,.int j=>.ok (.int (i + j)) h
  | .tup (x :: xs),.tup ys=>if (x :: xs).length + ys.length≤SZ then .ok (.tup (x :: xs++ys)) h else .bad
  | _,_=>.bad
@[simp] def jV:O2:=fun x y h=>(oI (· - ·)) x y h
@[simp] def cw:O2:=fun x y h=>(oIc (fun i j=>sml i || sml j) (· * ·)) x y h
@[simp] def bT:O2:=fun x y h=>(oIc (fun _ j=>decide (0 < j)) (· % ·)) x y h
@[simp] def fN:O2:=fun x y h=>(oIc (fun _ j=>decide (0 < j) && decide (j < 2 ^ 250)) (· / ·)) x y h
@[simp] def Q5:O2:=fun x y h=>(oIc (fun i j=>decide (0≤j) && decide (j≤1000000) && sml i) (fun i j=>i ^ j.toNat)) x y h
@[simp] def oLt:O2:=fun x y h=>(oB fun i j=>decide (i < j)) x y h
@[simp] def oLe:O2:=fun x y h=>(oB fun i j=>decide (i≤j)) x y h
@[simp] def oGt:O2:=fun x y h=>(oB fun i j=>decide (j < i)) x y h
@[simp] def Rm:D→Hd→Res D:=fun x h=>match x with | .int i=>.ok (.int (-i)) h|_=>.bad
@[simp] def nn:D→Bool | .non=>true|_=>false
@[simp] def iY:O2:=fun x y h=>if nn y then .ok (.bl (nn x)) h else .bad
@[simp] def jW:O2:=fun x y h=>if nn y then .ok (.bl (!nn x)) h else .bad
@[simp] def b2i (b:Bool):Int:=if b then 1 else 0
mutual
def peq:D→D→Option Bool
  | .int i,k=>match k with | .int j=>some (decide (i=j)) | .bl c=>some (decide (i=b2i c)) | .non=>some false | .tup _=>some false|_=>none
  | .bl c,k=>match k with | .int j=>some (decide (b2i c=j)) | .bl d=>some (decide (c=d))|_=>none
  | .str x,k=>match k with | .str y=>some (decide (x=y))|_=>none
  | .non,k=>match k with | .non=>some true | .int _=>some false | .tup _=>some false|_=>none
  | .tup xs,k=>match k with | .tup ys=>(gQ xs ys).map fun b=>b && decide (xs.length=ys.length) | .non=>some false | .int _=>some false|_=>none
  | .ref _,_=>none
  | .lit _,_=>none
  | .exn _ _,_=>none
def gQ:List D→List D→Option Bool
  | x :: xs,y :: ys=>match peq x y,gQ xs ys with
    | some a,some b=>some (a && b)
    | _,_=>none
  | _,_=>some true
end
mutual
def dep:D→Nat
  | .tup l=>kO l + 1
  | _=>0
def kO:List D→Nat
  | []=>0
  | x :: xs=>max (dep x) (kO xs)
end
def eqL (xs ys:List D):Option Bool:=if kO xs≤20 then (if xs.length=ys.length then gQ xs ys else some false) else none
@[simp] def eY (h:Hd):D→Option (List D)
  | .ref n=>match h[n]? with|some (.lst l)=>some l|_=>none
  | .lit l=>some l
  | _=>none
@[simp] def eqG (h:Hd) (x y:D):Option Bool:=match eY h x,eY h y with
  | some xs,some ys=>eqL xs ys
  | none,none=>if dep x≤20 then peq x y else none
  | _,_=>none
@[simp] def oEq:O2:=fun x y h=>match eqG h x y with|some b=>.ok (.bl b) h|none=>.bad
@[simp] def oNe:O2:=fun x y h=>match eqG h x y with|some b=>.ok (.bl (!b)) h|none=>.bad
@[simp] def asB (r:Res D):Res Bool:=r.bind fun x h=>match x with | .bl b=>.ok b h|_=>.bad
@[simp] def tE (a:EF):TF:=fun σ h=>asB (a σ h)
@[simp] def eD (t:TF):TF:=fun σ h=>(t σ h).bind fun b h=>.ok (!b) h
@[simp] def jx (t u:TF):TF:=fun σ h=>(t σ h).bind fun b h=>if b then u σ h else .ok false h
@[simp] def tOr (t u:TF):TF:=fun σ h=>(t σ h).bind fun b h=>if b then .ok true h else u σ h
@[simp] def fT (t:TF):EF:=fun σ h=>(t σ h).bind fun b h=>.ok (.bl b) h
@[simp] def fIf (t:TF) (a b:EF):EF:=fun σ h=>(t σ h).bind fun c h=>if c then a σ h else b σ h
@[simp] def sF (g k:O2) (a b c:EF):EF:=fun σ h=>(a σ h).bind fun x h=>(b σ h).bind fun y h=>(g x y h).bind fun z h=>match z with
  | .bl true=>(c σ h).bind fun w h=>k y w h
  | .bl false=>.ok (.bl false) h
  | _=>.bad
@[simp] def am:LF:=fun _ h=>.ok [] h
@[simp] def ad (a:EF) (r:LF):LF:=fun σ h=>(a σ h).bind fun x h=>(r σ h).bind fun xs h=>.ok (x :: xs) h
@[simp] def fj (r:LF):EF:=fun σ h=>(r σ h).bind fun xs h=>if xs.length≤SZ then .ok (.tup xs) h else .bad
@[simp] def aX (r:LF):EF:=fun σ h=>(r σ h).bind fun xs h=>if xs.length≤SZ then .ok (.ref h.length) (h++[.lst xs]) else .bad
@[simp] def mr (h:Hd):D→Option (List D)
  | .tup l=>some l
  | .lit l=>some l
  | .ref n=>match h[n]? with|some (.lst l)=>some l|_=>none
  | _=>none
@[simp] def lOf (a:EF):LF:=fun σ h=>(a σ h).bind fun x h=>match mr h x with|some l=>.ok l h|none=>.bad
def ixN (n:Nat) (i:Int):Option Nat:=if 0≤i then (if i < n then some i.toNat else none) else if -(n:Int)≤i then some (i + n).toNat else none
def atI (xs:List D) (i:Int):Option D:=(ixN xs.length i).bind fun j=>xs[j]?
@[simp] def fIx (a:LF) (b:EF):EF:=fun σ h=>(a σ h).bind fun l h=>(b σ h).bind fun y h=>match y with
  | .int i=>match atI l i with|some d=>.ok d h|none=>.bad
  | _=>.bad
@[simp] def oAt:O2:=fun x y h=>match mr h x,y with
  | some l,.int i=>match atI l i with|some d=>.ok d h|none=>.bad
  | _,_=>.bad
@[simp] def fAt (a b:EF):EF:=fun σ h=>af oAt a b σ h
@[simp] def el (a:LF):EF:=fun σ h=>(a σ h).bind fun l h=>.ok (.int l.length) h
def fO:List D→Option (List Int)
  | []=>some []
  | .int i :: r=>(fO r).map (i :: ·)
  | _=>none
@[simp] def sG (a:LF):EF:=fun σ h=>(a σ h).bind fun l h=>match fO l with|some is=>.ok (.int is.sum) h|none=>.bad
def kW:List D→Option (List Bool)
  | []=>some []
  | .bl b :: r=>(kW r).map (b :: ·)
  | _=>none
@[simp] def CO (a:LF):EF:=fun σ h=>(a σ h).bind fun l h=>match kW l with|some bs=>.ok (.bl (bs.all id)) h|none=>.bad
@[simp] def dP (a:LF):EF:=fun σ h=>(a σ h).bind fun l h=>.ok (.tup l) h
inductive Ty where|int|bool|tuple|list|str
deriving DecidableEq
@[simp] def Gb (h:Hd) (t:Ty):D→Option Bool
  | .non=>some false
  | .bl _=>some (t == .bool || t == .int)
  | .int _=>some (t == .int)
  | .str _=>some (t == .str)
  | .tup _=>some (t == .tuple)
  | .lit _=>some (t == .list)
  | .ref n=>match h[n]? with|some (.lst _)=>some (t == .list)|some (.dct _)=>some false|none=>none
  | .exn _ _=>none
@[simp] def fP (t:Ty) (a:EF):EF:=fun σ h=>(a σ h).bind fun x h=>match Gb h t x with|some b=>.ok (.bl b) h|none=>.bad
def sIx (n d:Nat):Option Int→Nat
  | none=>d
  | some i=>if i < 0 then (i + n).toNat else min i.toNat n
def cut (l:List D) (lo hi:Option Int):List D:=(l.drop (sIx l.length 0 lo)).take (sIx l.length l.length hi - sIx l.length 0 lo)
def lexLt:List Int→List Int→Bool
  | [],[]=>false
  | [],_ :: _=>true
  | _ :: _,[]=>false
  | x :: xs,y :: ys=>if x=y then lexLt xs ys else decide (x < y)
def Oe:List D→Option (List (List Int))
  | []=>some []
  | .tup l :: r=>match fO l,Oe r with|some a,some b=>some (a :: b)|_,_=>none
  | _=>none
@[simp] def ao (F:Fn) (r:LF):EF:=fun σ h=>(r σ h).bind fun xs h=>F xs h
abbrev IF:=Sd→Hd→Res (List D × Option Nat)
@[simp] def bw (a:EF):IF:=fun σ h=>(a σ h).bind fun x h=>match x with
  | .int n=>if -1000000≤n∧n≤1000000 then .ok ((List.range n.toNat).map (fun k:Nat=>.int k),none) h else .bad
  | _=>.bad
@[simp] def nr (a b:EF):IF:=fun σ h=>(a σ h).bind fun x h=>(b σ h).bind fun y h=>match x,y with
  | .int m,.int n=>if (-1000000≤m∧m≤1000000) ∧ -1000000≤n∧n≤1000000 then .ok ((List.range (n - m).toNat).map (fun k:Nat=>.int (m + k)),none) h else .bad
  | _,_=>.bad
@[simp] def dQ (a:EF):IF:=fun σ h=>(a σ h).bind fun x h=>match x with
  | .tup l=>.ok (l,none) h
  | .lit l=>.ok (l,none) h
  | .ref n=>match h[n]? with|some (.lst l)=>.ok (l,some n) h|_=>.bad
  | _=>.bad
@[simp] def IJ (a:EF):IF:=fun σ h=>(a σ h).bind fun x h=>match x with
  | .tup l=>.ok ((List.range l.length).zip l |>.map fun p=>.tup [.int (p.1:Nat),p.2],none) h
  | _=>.bad
noncomputable section
open Classical
def kX (g:Option Nat) (all:List D) (h:Hd):Prop:=match g with|none=>True|some n=>h[n]? = some (.lst all)
abbrev GF:=D→Sd→Option Sd
@[simp] def gN (i:Nat):GF:=fun d σ=>some (σ.set i (some d))
@[simp] def gT (l:List Nat):GF:=fun d σ=>match d with
  | .tup xs=>if xs.length=l.length then some ((l.zip xs).foldl (fun σ p => σ.set p.1 (some p.2)) σ) else none
  | _=>none
@[simp] def aC (a b:SF):SF:=fun σ h=>match a σ h with | .nx σ h=>b σ h|r=>r
@[simp] def bD:SF:=fun σ h=>.nx σ h
@[simp] def outE (r:Res D) (σ:Sd) (k:D→Hd→Out):Out:=match r with | .ok d h=>k d h | .exc x h=>.exc x σ h | .bad=>.bad
@[simp] def aE (g:GF) (a:EF):SF:=fun σ h=>outE (a σ h) σ fun d h=>match g d σ with|some σ=>.nx σ h|none=>.bad
@[simp] def bc (a:EF):SF:=fun σ h=>outE (a σ h) σ fun d h=>.rt d h
@[simp] def eV (a:EF):SF:=fun σ h=>outE (a σ h) σ fun _ h=>.nx σ h
@[simp] def sIf (t:TF) (a b:SF):SF:=fun σ h=>match t σ h with | .ok c h=>if c then a σ h else b σ h | .exc x h=>.exc x σ h | .bad=>.bad
def jX:SF:=fun _ _=>.bad
@[simp] def oM (x i e:EF):SF:=fun σ h=>outE (e σ h) σ fun d h=>outE (x σ h) σ fun p h=>outE (i σ h) σ fun j h=>match p,j with
  | .ref n,.int j=>match h[n]? with
    | some (.lst l)=>match ixN l.length j with
      | some k=>.nx σ (h.set n (.lst (l.set k d)))
      | none=>.bad
    | _=>.bad
  | _,_=>.bad
@[simp] def Of:O2:=fun p d h=>match p with
  | .ref n=>match h[n]? with
    | some (.lst l)=>if l.length < SZ then .ok .non (h.set n (.lst (l++[d]))) else .bad
    | _=>.bad
  | _=>.bad
@[simp] def jf (x e:EF):EF:=fun σ h=>(x σ h).bind fun p h=>match p with
  | .ref n=>match h[n]? with
    | some (.lst _)=>(e σ h).bind fun d h=>Of (.ref n) d h
    | _=>.bad
  | _=>.bad
@[simp] def CP:D→Hd→Res D:=fun p h=>match p with
  | .ref n=>match h[n]? with
    | some (.lst _)=>.ok .non (h.set n (.lst []))
    | _=>.bad
  | _=>.bad
@[simp] def oN (x:EF):EF:=fun σ h=>fUn CP x σ h
def gc (g:Option Nat) (all:List D) (tg:GF) (b:SF):List D→SF
  | [],σ,h=>if kX g all h then .nx σ h else .bad
  | x :: xs,σ,h=>if kX g all h then match tg x σ with
      | some σ=>match b σ h with
        | .nx σ h=>gc g all tg b xs σ h
        | .ct σ h=>gc g all tg b xs σ h
        | .bk σ h=>.nx σ h
        | r=>r
      | none=>.bad
    else .bad
@[simp] def dI (it:IF) (tg:GF) (b:SF):SF:=fun σ h=>match it σ h with
  | .ok (l,g) h=>gc g l tg b l σ h
  | .exc x h=>.exc x σ h
  | .bad=>.bad
def eW (t:TF) (b:SF):Nat→SF
  | 0,_,_=>.bad
  | n + 1,σ,h=>match t σ h with
    | .ok true h=>match b σ h with
      | .nx σ h=>eW t b n σ h
      | .ct σ h=>eW t b n σ h
      | .bk σ h=>.nx σ h
      | r=>r
    | .ok false h=>.nx σ h
    | .exc x h=>.exc x σ h
    | .bad=>.bad
def LN (t:TF) (b:SF):Sd→Hd→Nat:=fun σ h=>if ex:∃ n,eW t b n σ h ≠ .bad then Classical.choose ex else 0
def sH (t:TF) (b:SF):SF:=fun σ h=>eW t b (LN t b σ h) σ h
@[simp] def kB:List TF→TF
  | [],_,h=>.ok true h
  | t :: r,σ,h=>(t σ h).bind fun b h=>if b then kB r σ h else .ok false h
def cx (g:Option Nat) (all:List D) (tg:GF) (cs:List TF) (e:EF):List D→Sd→Hd→Res (List D)
  | [],_,h=>if kX g all h then .ok [] h else .bad
  | x :: xs,σ,h=>if kX g all h then match tg x σ with
      | some σ=>(kB cs σ h).bind fun b h=>if b then (e σ h).bind fun d h=>(cx g all tg cs e xs σ h).bind fun ds h=>.ok (d :: ds) h
        else cx g all tg cs e xs σ h
      | none=>.bad
    else .bad
@[simp] def fQ (nl:Nat) (caps:List Nat) (σ:Sd):Sd:=List.replicate nl none++caps.map fun i=>slot σ i
@[simp] def bN (nl:Nat) (caps:List Nat) (it:IF) (tg:GF) (cs:List TF) (e:EF):LF:=fun σ h=>(it σ h).bind fun p h =>
  cx p.2 p.1 tg cs e p.1 (fQ nl caps σ) h
mutual
def pure? : D→Bool
  | .ref _=>false
  | .tup l=>iD l
  | .lit l=>iD l
  | .exn _ l=>iD l
  | _=>true
def iD:List D→Bool
  | []=>true
  | x :: xs=>pure? x && iD xs
end
def Ay:cX→Bool
  | .lst l=>iD l
  | .dct l=>l.all fun p=>pure? p.2
def IK (h h':Hd):Prop:=∀ n c,n < h.length→h'[n]? = some c→h[n]? = some c∨Ay c=true
def letGo (h:Hd) (r:Res D):Res D:=match r with
  | .ok d h'=>if pure? d=true∧IK h h' then .ok d (h'.take h.length) else .ok d h'
  | r=>r
def runB (n:Nat) (b:SF):Fn:=fun ds h=>match b (ds.map some++List.replicate (n - ds.length) none) h with
  | .nx _ h=>.ok .non h
  | .rt d h=>.ok d h
  | .exc x _ h=>.exc x h
  | _=>.bad
def bE (np n:Nat) (b:SF):Fn:=fun ds h=>if ds.length=np then letGo h (runB n b ds h) else .bad
end
end Fm
set_option Elab.async false
set_option linter.all false
set_option maxRecDepth 100000
namespace Fm
open PySem PySem.Spec L2
def toS (x:List Nat):Str:=⟨x.toArray⟩
def qf (K:PySem.W.Frag) (H:Hp) (a:Addr) (xs:List V):Prop :=
  (∃ o,H a=some (.frz o (.lst xs))) ∨
    ∃ (o:Obj) (its:Array Value) (n:Nat),K.lookup a=some o∧o.cls=.type "list" ∧ o.dict=none∧o.data=.seq its n∧its.size≤sizeLine∧bj xs its.toList
section
variable (K:PySem.W.Frag) (ρ:List Addr) (H:Hp)
mutual
def RD:D→V→Prop
  | .non,v=>v=.non
  | .bl b,v=>v=.bl b
  | .int i,v=>v=.int i
  | .str x,v=>v=.str (toS x)
  | .tup l,v=>∃ p vs,v=.ref p∧H p=some (.tup vs)∧RDs l vs
  | .lit l,v=>∃ p vs,v=.ref p∧qf K H p vs∧RDs l vs
  | .ref n,v=>∃ a,ρ[n]? = some a∧v=.ref a
  | .exn c l,v=>l=[] ∧ ∃ a C,v=.ref a∧H a=some (sE a C)∧PySem.W.nsIn K mainGlobals (Str.ofString c)=some (some (.ref C))
def RDs:List D→List V→Prop
  | [],vs=>vs=[]
  | d :: ds,vs=>∃ v r,vs=v :: r∧RD d v∧RDs ds r
end
def RC:cX→Addr→Prop
  | .lst l,a=>∃ vs,H a=some (.lst vs)∧RDs K ρ H l vs
  | .dct l,a=>∃ kvs,H a=some (.dK kvs)∧kvs.map (·.1)=l.map (fun p=>(Sum.inl p.1:Key))∧RDs K ρ H (l.map (·.2)) (kvs.map (·.2))
structure RH (hd:Hd):Prop where
  len : ρ.length=hd.length
  nd : ρ.Nodup
  cel:∀ (n:Nat) c a,hd[n]? = some c → ρ[n]? = some a→RC K ρ H c a
structure RSt (σd:Sd) (σ:St):Prop where
  len : σd.length = σ.length
  at':∀ i d,slot σd i=some d → ∃ v,σ[i]? = some (some v)∧RD K ρ H d v
structure RS (σd:Sd) (hd:Hd) (σ:St):Prop where
  hp:RH K ρ H hd
  st:RSt K ρ H σd σ
end
structure Ext (ρ:List Addr) (H:Hp) (ρ':List Addr) (H':Hp):Prop where
  pre:∃ t,ρ' = ρ ++ t
  new:∀ a ∈ ρ',a ∈ ρ ∨H a=none
  frame:∀ p o,H p=some o→p ∉ ρ → H' p=some o
section
variable {K:PySem.W.Frag} {ρ ρ' ρ'':List Addr} {H H' H'':Hp} {hd hd':Hd} {σd σd':Sd} {σ σ':St}
theorem Ext.refl:Ext ρ H ρ H:=⟨⟨[],by simp⟩,fun _ h=>.inl h,fun _ _ h _=>h⟩
theorem Ext.out (e:Ext ρ H ρ' H'){p:Addr}{o:HO}(h:H p=some o)(n:p ∉ ρ):p ∉ ρ':=fun z=>by
  rcases e.new p z with q|q
  · exact n q
  · rw [h] at q;cases q
theorem Ext.trans (a:Ext ρ H ρ' H')(b:Ext ρ' H' ρ'' H''):Ext ρ H ρ'' H'' where
  pre:=by
    obtain⟨t,rfl⟩:=a.pre
    obtain⟨u,rfl⟩:=b.pre
    exact⟨t++u,by simp⟩
  new:=fun x hx=>by
    rcases b.new x hx with q|q
    · exact a.new x q
    · cases e:H x with
      | none=>exact .inr rfl
      | some o =>
        by_cases hn:x ∈ ρ
        · exact .inl hn
        · rw [a.frame x o e hn] at q;cases q
  frame:=fun p o h n=>b.frame p o (a.frame p o h n) (a.out h n)
theorem Ext.same (s:jU H H'):Ext ρ H ρ H':=⟨⟨[],by simp⟩,fun _ h=>.inl h,fun p o h _=>s p o h⟩
theorem Ext.get (e:Ext ρ H ρ' H'){n:Nat}{a:Addr}(h : ρ[n]? = some a) : ρ'[n]? = some a:=by
  obtain⟨t,rfl⟩:=e.pre
  rw [List.getElem?_append_left (List.getElem?_eq_some_iff.mp h).1]
  exact h
theorem RH.mut (r:RH K ρ H hd){a:Addr}(h:a ∈ ρ):(∃ vs,H a=some (.lst vs)) ∨ ∃ kvs,H a=some (.dK kvs):=by
  obtain⟨n,hn⟩:=List.getElem?_of_mem h
  have hl:=(List.getElem?_eq_some_iff.mp hn).1
  have hc:hd[n]? = some (hd[n]'(by rw [← r.len];exact hl)):=by simp
  have q:=r.cel n _ a hc hn
  cases e:hd[n]'(by rw [← r.len];exact hl) with
  | lst l=>rw [e] at q;obtain⟨vs,h1,_⟩:=q;exact .inl ⟨vs,h1⟩
  | dct l=>rw [e] at q;obtain⟨vs,h1,_⟩:=q;exact .inr ⟨vs,h1⟩
theorem RH.noTup (r:RH K ρ H hd){a:Addr}{vs:List V}(h:H a=some (.tup vs)):a ∉ ρ:=fun z=>by
  rcases r.mut z with ⟨_,q⟩|⟨_,q⟩<;>(rw [h] at q;cases q)
theorem RH.noFrz (r:RH K ρ H hd){a:Addr}{o:Obj}{u:HO}(h:H a=some (.frz o u)):a ∉ ρ:=fun z=>by
  rcases r.mut z with ⟨_,q⟩|⟨_,q⟩<;>(rw [h] at q;cases q)
theorem RH.noExt (r:RH K ρ H hd){a:Addr}{φ : Heap→Prop}(h:H a=some (.ext φ)):a ∉ ρ:=fun z=>by
  rcases r.mut z with ⟨_,q⟩|⟨_,q⟩<;>(rw [h] at q;cases q)
structure Kp (ρ:List Addr) (H:Hp) (ρ':List Addr) (H':Hp):Prop where
  get:∀ (n:Nat) a,ρ[n]? = some a → ρ'[n]? = some a
  tup:∀ a vs,H a=some (.tup vs)→H' a=some (.tup vs)
  frz:∀ a o u,H a=some (.frz o u)→H' a=some (.frz o u)
  ext:∀ a φ,H a=some (.ext φ)→H' a=some (.ext φ)
theorem RH.kp (r:RH K ρ H hd)(e:Ext ρ H ρ' H'):Kp ρ H ρ' H' :=
  ⟨fun _ _ h=>e.get h,fun _ _ h=>e.frame _ _ h (r.noTup h),fun _ _ _ h=>e.frame _ _ h (r.noFrz h),fun _ _ h=>e.frame _ _ h (r.noExt h)⟩
theorem Kp.same (s:jU H H'):Kp ρ H ρ H':=⟨fun _ _ h=>h,fun _ _ h=>s _ _ h,fun _ _ _ h=>s _ _ h,fun _ _ h=>s _ _ h⟩
theorem qf.mono {a:Addr}{xs:List V}(k:Kp ρ H ρ' H')(h:qf K H a xs):qf K H' a xs:=by
  rcases h with ⟨o,h⟩|h
  · exact .inl ⟨o,k.frz _ _ _ h⟩
  · exact .inr h
mutual
theorem RD.mono (k:Kp ρ H ρ' H'):∀ {d:D} {v:V},RD K ρ H d v→RD K ρ' H' d v
  | .non,_,h=>by simp only [RD] at h ⊢;exact h
  | .bl _,_,h=>by simp only [RD] at h ⊢;exact h
  | .int _,_,h=>by simp only [RD] at h ⊢;exact h
  | .str _,_,h=>by simp only [RD] at h ⊢;exact h
  | .tup l,_,h=>by
    simp only [RD] at h ⊢
    obtain⟨p,vs,e,h1,h2⟩:=h
    exact⟨p,vs,e,k.tup _ _ h1,RDs.mono k h2⟩
  | .lit l,_,h=>by
    simp only [RD] at h ⊢
    obtain⟨p,vs,e,h1,h2⟩:=h
    exact⟨p,vs,e,h1.mono k,RDs.mono k h2⟩
  | .ref n,_,h=>by
    simp only [RD] at h ⊢
    obtain⟨a,h1,h2⟩:=h
    exact⟨a,k.get _ _ h1,h2⟩
  | .exn _ _,_,h=>by
    simp only [RD] at h ⊢
    obtain⟨e0,a,C,e,h1,h2⟩:=h
    exact⟨e0,a,C,e,k.ext _ _ h1,h2⟩
theorem RDs.mono (k:Kp ρ H ρ' H'):∀ {l:List D} {vs:List V},RDs K ρ H l vs→RDs K ρ' H' l vs
  | [],_,h=>by simp only [RDs] at h ⊢;exact h
  | d :: ds,_,h=>by
    simp only [RDs] at h ⊢
    obtain⟨v,r,e,h1,h2⟩:=h
    exact⟨v,r,e,RD.mono k h1,RDs.mono k h2⟩
end
theorem RDs.nil:RDs K ρ H [] []:=by simp only [RDs]
theorem RDs.cons {d:D}{v:V}{ds:List D}{vs:List V}(h:RD K ρ H d v)(t:RDs K ρ H ds vs):RDs K ρ H (d :: ds) (v :: vs):=by
  simp only [RDs];exact⟨v,vs,rfl,h,t⟩
theorem RDs.length:∀ {l:List D} {vs:List V},RDs K ρ H l vs→l.length=vs.length
  | [],_,h=>by simp only [RDs] at h;subst h;rfl
  | d :: ds,_,h=>by
    simp only [RDs] at h
    obtain⟨v,r,e,h1,h2⟩:=h
    subst e
    simp [RDs.length h2]
theorem RDs.get:∀ {l:List D} {vs:List V} {i:Nat} {d:D},RDs K ρ H l vs→l[i]? = some d → ∃ v,vs[i]? = some v∧RD K ρ H d v
  | [],_,i,_,_,e=>by simp at e
  | d :: ds,_,0,_,h,e=>by
    simp only [RDs] at h
    obtain⟨v,r,e',h1,h2⟩:=h
    subst e'
    simp at e
    subst e
    exact⟨v,rfl,h1⟩
  | d :: ds,_,i + 1,x,h,e=>by
    simp only [RDs] at h
    obtain⟨v,r,e',h1,h2⟩:=h
    subst e'
    obtain⟨w,hw,q⟩:=RDs.get (i:=i) (d:=x) h2 (by simpa using e)
    exact⟨w,by simpa using hw,q⟩
theorem RDs.set {d:D}{v:V}(h:RD K ρ H d v):∀ {l:List D} {vs:List V} (i:Nat),RDs K ρ H l vs→RDs K ρ H (l.set i d) (vs.set i v)
  | [],_,_,q=>by simp only [RDs] at q;subst q;exact RDs.nil
  | x :: xs,_,i,q=>by
    simp only [RDs] at q
    obtain⟨w,r,e,h1,h2⟩:=q
    subst e
    cases i with
    | zero=>exact RDs.cons h h2
    | succ i=>exact RDs.cons h1 (RDs.set h i h2)
theorem RDs.append:∀ {l l':List D} {vs vs':List V},RDs K ρ H l vs→RDs K ρ H l' vs'→RDs K ρ H (l++l') (vs++vs')
  | [],_,_,_,h,q=>by simp only [RDs] at h;subst h;exact q
  | d :: ds,_,_,_,h,q=>by
    simp only [RDs] at h
    obtain⟨v,r,e,h1,h2⟩:=h
    subst e
    exact RDs.cons h1 (RDs.append h2 q)
theorem RC.mono {c:cX}{a:Addr}(k:Kp ρ H ρ' H')(e:H' a=H a)(h:RC K ρ H c a):RC K ρ' H' c a:=by
  cases c with
  | lst l=>obtain⟨vs,h1,h2⟩:=h;exact⟨vs,e.trans h1,h2.mono k⟩
  | dct l=>obtain⟨vs,h1,h2,h3⟩:=h;exact⟨vs,e.trans h1,h2,h3.mono k⟩
theorem RH.same (r:RH K ρ H hd)(s:jU H H'):RH K ρ H' hd :=
  ⟨r.len,r.nd,fun n c a h1 h2=>(r.cel n c a h1 h2).mono (Kp.same s) (by
    rcases r.mut (List.mem_of_getElem? h2) with ⟨_,q⟩|⟨_,q⟩<;>rw [q,s _ _ q])⟩
theorem RSt.mono (k:Kp ρ H ρ' H')(r:RSt K ρ H σd σ):RSt K ρ' H' σd σ :=
  ⟨r.len,fun i d h=>let ⟨v,h1,h2⟩:=r.at' i d h;⟨v,h1,h2.mono k⟩⟩
theorem RS.same (r:RS K ρ H σd hd σ)(s:jU H H'):RS K ρ H' σd hd σ:=⟨r.hp.same s,r.st.mono (Kp.same s)⟩
theorem cy {p:Addr}{o:HO}(h:H p=none):jU H (upd H p o):=fun b u e=>by
  rw [aB (aU e h)];exact e
theorem RH.alloc (r:RH K ρ H hd){p:Addr}{l:List D}{vs:List V}(hp:H p=some (.lst vs))(hn:p ∉ ρ)(h:RDs K ρ H l vs):RH K (ρ ++ [p]) H (hd++[.lst l]):=by
  have k:Kp ρ H (ρ ++ [p]) H:=⟨fun n a e=>by rw [List.getElem?_append_left (List.getElem?_eq_some_iff.mp e).1];exact e,fun _ _ h=>h,fun _ _ _ h=>h,fun _ _ h=>h⟩
  refine⟨by simp [r.len],?_,fun n c a h1 h2 => ?_⟩
  · rw [List.nodup_append]
    exact⟨r.nd,by simp,fun a ha b hb=>by simp at hb;subst hb;intro e;subst e;exact hn ha⟩
  · by_cases hlt:n < hd.length
    · rw [List.getElem?_append_left hlt] at h1
      rw [List.getElem?_append_left (by rw [r.len];exact hlt)] at h2
      exact (r.cel n c a h1 h2).mono k rfl
    · have e1:n=hd.length:=by
        have:=(List.getElem?_eq_some_iff.mp h1).1
        simp at this
        omega
      subst e1
      simp at h1
      subst h1
      rw [← r.len] at h2
      simp at h2
      subst h2
      exact⟨vs,hp,h.mono k⟩
theorem sI {α : Type}:∀ {l:List α},l.Nodup → ∀ {i j:Nat} {x : α},l[i]? = some x→l[j]? = some x→i=j
  | [],_,i,_,_,e,_=>by simp at e
  | a :: l,nd,0,0,_,_,_=>rfl
  | a :: l,nd,0,j + 1,x,e,e'=>by
    simp at e e'
    subst e
    exact absurd (List.mem_of_getElem? e') (List.nodup_cons.mp nd).1
  | a :: l,nd,i + 1,0,x,e,e'=>by
    simp at e e'
    subst e'
    exact absurd (List.mem_of_getElem? e) (List.nodup_cons.mp nd).1
  | a :: l,nd,i + 1,j + 1,x,e,e'=>by
    simp at e e'
    rw [sI (List.nodup_cons.mp nd).2 e e']
theorem RH.write (r:RH K ρ H hd){n:Nat}{p:Addr}{l:List D}{vs:List V}(hp : ρ[n]? = some p)(hn:n < hd.length)(h:RDs K ρ H l vs):RH K ρ (upd H p (.lst vs)) (hd.set n (.lst l)):=by
  have k:Kp ρ H ρ (upd H p (.lst vs)):=by
    have hm:=List.mem_of_getElem? hp
    refine⟨fun _ _ h=>h,fun a us e => ?_,fun a o u e => ?_,fun a φ e => ?_⟩
    · rw [aB (fun z=>r.noTup e (by rw [z];exact hm))];exact e
    · rw [aB (fun z=>r.noFrz e (by rw [z];exact hm))];exact e
    · rw [aB (fun z=>r.noExt e (by rw [z];exact hm))];exact e
  refine⟨by simp [r.len],r.nd,fun m c a h1 h2 => ?_⟩
  by_cases e:n=m
  · subst e
    rw [List.getElem?_set_self hn] at h1
    cases h1
    rw [hp] at h2
    cases h2
    exact⟨vs,bf,h.mono k⟩
  · rw [List.getElem?_set_ne e] at h1
    have ne:a≠p:=fun z=>by
      subst z
      exact e (sI r.nd hp h2)
    exact (r.cel m c a h1 h2).mono k (aB ne)
theorem Ext.write {p:Addr}{o:HO}(hp:p ∈ ρ):Ext ρ H ρ (upd H p o) :=
  ⟨⟨[],by simp⟩,fun _ h=>.inl h,fun q u e n=>by rw [aB (fun z=>n (by rw [z];exact hp))];exact e⟩
theorem Ext.alloc {p:Addr}(h:H p=none){o:HO}:Ext ρ H (ρ ++ [p]) (upd H p o) :=
  ⟨⟨[p],rfl⟩,fun a ha=>by
    rcases List.mem_append.mp ha with q|q
    · exact .inl q
    · simp at q;subst q;exact .inr h,fun q u e _=>cy h q u e⟩
theorem RS.ext (r:RS K ρ H σd hd σ)(e:Ext ρ H ρ' H')(h:RH K ρ' H' hd'):RS K ρ' H' σd hd' σ:=⟨h,r.st.mono (r.hp.kp e)⟩
end
end Fm
set_option Elab.async false
set_option linter.all false
set_option maxRecDepth 100000
namespace Fm
open PySem PySem.Spec L2
abbrev VR (α β : Type):=List Addr→Hp → α → β → Prop
section
variable (K:PySem.W.Frag)
def cj {α β : Type} (R:VR α β) (ρ:List Addr) (H:Hp) (σd:Sd) (σ:St) (r:Res α) (Q : β → Hp→Prop):Prop:=match r with
  | .ok a hd'=>∀ b H' ρ',Ext ρ H ρ' H'→RS K ρ' H' σd hd' σ → R ρ' H' a b→Q b H'
  | _=>False
def mM {α β : Type} (R:VR α β) (f:Sd→Hd→Res α):St→Hp→(β → Hp→Prop)→Prop:=fun σ H Q =>
  ∃ ρ σd hd,RS K ρ H σd hd σ ∧ cj K R ρ H σd σ (f σd hd) Q
abbrev rD:VR D V:=fun ρ H d v=>RD K ρ H d v
abbrev rDs:VR (List D) (List V):=fun ρ H d v=>RDs K ρ H d v
abbrev rB:VR Bool Bool:=fun _ _ a b=>a=b
def rQ:VR (List D) V:=fun ρ H l v=>∃ p vs,v=.ref p∧(SqL K H p vs∨H p=some (.tup vs))∧RDs K ρ H l vs
def Az (ρ:List Addr) (H:Hp) (σd:Sd) (σ:St) (r:Res (List D)) (Q:VK):Prop:=match r with
  | .ok l hd'=>∀ q vs H' ρ',Ext ρ H ρ' H'→RS K ρ' H' σd hd' σ → H q=none→H' q=some (.lst vs)→q ∉ ρ'→RDs K ρ' H' l vs→Q (.ref q) H'
  | _=>False
def P9 (f:LF):TE:=fun σ H Q=>∃ ρ σd hd,RS K ρ H σd hd σ ∧ Az K ρ H σd σ (f σd hd) Q
def bU (ρ:List Addr) (H:Hp) (o:Out) (E:sj):Prop:=match o with
  | .nx σd hd=>∀ σ H' ρ',Ext ρ H ρ' H'→RS K ρ' H' σd hd σ → E.nx σ H'
  | .bk σd hd=>∀ σ H' ρ',Ext ρ H ρ' H'→RS K ρ' H' σd hd σ → E.bk σ H'
  | .ct σd hd=>∀ σ H' ρ',Ext ρ H ρ' H'→RS K ρ' H' σd hd σ → E.ct σ H'
  | .rt d hd=>∀ v H' ρ',Ext ρ H ρ' H'→RH K ρ' H' hd→RD K ρ' H' d v→E.rt v H'
  | _=>False
def Nl (f:SF):TS:=fun E σ H=>∃ ρ σd hd,RS K ρ H σd hd σ ∧ bU K ρ H (f σd hd) E
end
def ME (X:Cx) (e:Expr) (f:EF):Prop:=PE X e (mM X.K (rD X.K) f)
def MQ (X:Cx) (e:Expr) (f:LF):Prop:=PE X e (mM X.K (rQ X.K) f)
def MF (X:Cx) (e:Expr) (f:LF):Prop:=PE X e (P9 X.K f)
def MT (X:Cx) (e:Expr) (f:TF):Prop:=PT X e (mM X.K rB f)
def MW (X:Cx) (e:Expr) (f:TF):Prop:=PW X e (mM X.K rB f)
def MA (X:Cx) (es:List Expr) (f:LF):Prop:=PA X es (mM X.K (rDs X.K) f)
def MS (X:Cx) (s:Stmt) (f:SF):Prop:=PS X s (Nl X.K f)
def MSs (X:Cx) (s:List Stmt) (f:SF):Prop:=PSs X s (Nl X.K f)
section
variable {X:Cx}
theorem PE.imp {e:Expr}{t u:TE}(h:PE X e t)(i:∀ σ H Q,u σ H Q→t σ H Q):PE X e u:=fun pins s σ H Q I q=>h pins s σ H Q I (i σ H Q q)
theorem PT.imp {e:Expr}{t u:TT}(h:PT X e t)(i:∀ σ H Q,u σ H Q→t σ H Q):PT X e u:=fun pins s σ H Q I q=>h pins s σ H Q I (i σ H Q q)
theorem PW.imp {e:Expr}{t u:TT}(h:PW X e t)(i:∀ σ H Q,u σ H Q→t σ H Q):PW X e u:=fun w pins s σ H Q I q=>h w pins s σ H Q I (i σ H Q q)
theorem PA.imp {e:List Expr}{t u:TA}(h:PA X e t)(i:∀ σ H Q,u σ H Q→t σ H Q):PA X e u:=fun p pins s σ H Q I q=>h p pins s σ H Q I (i σ H Q q)
theorem PS.imp {e:Stmt}{t u:TS}(h:PS X e t)(i:∀ D σ H,u D σ H→t D σ H):PS X e u:=fun pins s σ H D I q=>h pins s σ H D I (i D σ H q)
theorem PSs.imp {e:List Stmt}{t u:TS}(h:PSs X e t)(i:∀ D σ H,u D σ H→t D σ H):PSs X e u:=fun pins s σ H D I q=>h pins s σ H D I (i D σ H q)
end
section
variable {K:PySem.W.Frag} {ρ ρ':List Addr} {H H':Hp} {hd hd':Hd} {σd:Sd} {σ:St} {α β α' β':Type} {R:VR α β} {R':VR α' β'}
theorem cj.here {a : α}{b : β}{Q : β → Hp→Prop}(h:cj K R ρ H σd σ (.ok a hd) Q)(r:RS K ρ H σd hd σ)(q:R ρ H a b):Q b H:=h b H ρ Ext.refl r q
theorem cj.at {a : α}{b : β}{Q : β → Hp→Prop}(h:cj K R ρ H σd σ (.ok a hd) Q)(e:Ext ρ H ρ' H')(r:RS K ρ' H' σd hd σ)(q:R ρ' H' a b):Q b H':=h b H' ρ' e r q
theorem cj.imp {r:Res α}{Q Q' : β → Hp→Prop}(h:cj K R ρ H σd σ r Q)(i:∀ b H',Q b H'→Q' b H'):cj K R ρ H σd σ r Q':=by
  cases r with
  | ok a h'=>exact fun b H' ρ' e s q=>i b H' (h b H' ρ' e s q)
  | exc x h'=>exact h
  | bad=>exact h
theorem cj.ext {r:Res α}{Q : β → Hp→Prop}(e:Ext ρ H ρ' H')(h:cj K R ρ H σd σ r Q):cj K R ρ' H' σd σ r Q:=by
  cases r with
  | ok a h'=>exact fun b H'' ρ'' e' s q=>h b H'' ρ'' (e.trans e') s q
  | exc x h'=>exact h
  | bad=>exact h
theorem cj.bind {r:Res α}{k : α → Hd→Res α'}{Q : β'→Hp→Prop}(h:cj K R' ρ H σd σ (r.bind k) Q) :
    cj K R ρ H σd σ r (fun b H'=>∃ ρ' a hd',Ext ρ H ρ' H'∧RS K ρ' H' σd hd' σ ∧ R ρ' H' a b∧cj K R' ρ' H' σd σ (k a hd') Q):=by
  cases r with
  | ok a h'=>exact fun b H' ρ' e s q=>⟨ρ',a,h',e,s,q,cj.ext e h⟩
  | exc x h'=>exact h
  | bad=>exact h
theorem bU.ext {o:Out}{E:sj}(e:Ext ρ H ρ' H')(h:bU K ρ H o E):bU K ρ' H' o E:=by
  cases o with
  | nx σ h'=>exact fun σ' H'' ρ'' e' s=>h σ' H'' ρ'' (e.trans e') s
  | bk σ h'=>exact fun σ' H'' ρ'' e' s=>h σ' H'' ρ'' (e.trans e') s
  | ct σ h'=>exact fun σ' H'' ρ'' e' s=>h σ' H'' ρ'' (e.trans e') s
  | rt d h'=>exact fun v H'' ρ'' e' s q=>h v H'' ρ'' (e.trans e') s q
  | exc x σ h'=>exact h
  | bad=>exact h
end
section
variable {X:Cx} {pos:Pos}
theorem Oh {i:Nat} {x:Str} (hN:X.N[i]? = some x) (hv:Vis X.env.scope x) (hd:(x == ("__debug__" : Str))=false:=by decide) (hcd:(x == ("__classdict__" : Str))=false:=by decide):ME X (.Name x pos) (aa i):=by
  refine PE.imp (Ig hN hv hd hcd) fun σ H Q ⟨ρ,σd,hd,r,h⟩ => ?_
  unfold aa at h
  cases e:slot σd i with
  | none=>rw [e] at h;exact h.elim
  | some d =>
    rw [e] at h
    obtain⟨v,h1,h2⟩:=r.st.at' i d e
    exact⟨v,h1,h.here r h2⟩
theorem sJ {K:PySem.W.Frag}{d:D}{v:V}(hv:∀ ρ H,RD K ρ H d v):∀ σ H Q,mM K (rD K) (fC d) σ H Q→tC v σ H Q:=fun _ H _ ⟨ρ,_,_,r,h⟩=>h.here r (hv ρ H)
theorem aq {i:Int}{j}:ME X (.Constant (.int i) j pos) (fC (.int i)):=PE.imp Ih (sJ fun _ _=>by simp only [RD])
theorem qg {b j}:ME X (.Constant (.bool b) j pos) (fC (.bl b)):=PE.imp PC (sJ fun _ _=>by simp only [RD])
theorem dr {j}:ME X (.Constant .none j pos) (fC .non):=PE.imp NC (sJ fun _ _=>by simp only [RD])
theorem IL {x:Str}{j}(l:List Nat)(h:x=toS l):ME X (.Constant (.str x) j pos) (fC (.str l)):=PE.imp Ii (sJ fun _ _=>by simp only [RD];rw [h])
theorem nt {x:Str} {i:Int} {t:Tok} (hg:Gl X x) (hm:X.mg x=some (.int i t)) (hd:(x == ("__debug__" : Str))=false:=by decide):ME X (.Name x pos) (fC (.int i)) :=
  PE.imp (gv (v:=.int i) hg hm ⟨t,rfl⟩ hd) (sJ fun _ _=>by simp only [RD])
theorem me2 {a b:Expr}{fa fb:EF}{r:R2}{g:O2}{e:Expr}(h:PE X e (tOp r (mM X.K (rD X.K) fa) (mM X.K (rD X.K) fb)))
    (hg:∀ ρ H σd hd σ d k v w Q,RS X.K ρ H σd hd σ → RD X.K ρ H d v→RD X.K ρ H k w→cj X.K (rD X.K) ρ H σd σ (g d k hd) Q→r v w H Q):ME X e (af g fa fb):=by
  refine PE.imp h fun σ H Q ⟨ρ,σd,hd,rs,p⟩ => ?_
  refine⟨ρ,σd,hd,rs,(cj.bind (R:=rD X.K) p).imp fun v H1 ⟨ρ1,d,hd1,e1,rs1,rv,p1⟩ => ?_⟩
  refine⟨ρ1,σd,hd1,rs1,(cj.bind (R:=rD X.K) p1).imp fun w H2 ⟨ρ2,k,hd2,e2,rs2,rw',p2⟩ => ?_⟩
  exact hg ρ2 H2 σd hd2 σ d k v w Q rs2 (rv.mono (rs1.hp.kp e2)) rw' p2
def Og (K:PySem.W.Frag) (g:O2) (r:R2):Prop:=∀ ρ H σd hd σ d k v w Q,RS K ρ H σd hd σ → RD K ρ H d v→RD K ρ H k w→cj K (rD K) ρ H σd σ (g d k hd) Q→r v w H Q
theorem aQ {a b:Expr}{fa fb:EF}{op:Operator}{r:R2}{g:O2}(ho:OpR X (binaryOp op) r)(hg:Og X.K g r)(ha:ME X a fa)(hb:ME X b fb):ME X (.BinOp a op b pos) (af g fa fb) :=
  me2 (a:=a) (b:=b) (Ix ho ha hb) hg
theorem mO {a b:Expr}{fa fb:EF}{op:CmpOp}{r:R2}{g:O2}(ho:OpR X (compareOp op) r)(hg:Og X.K g r)(ha:ME X a fa)(hb:ME X b fb)(hm:behindInMarks op b=false):ME X (.Compare a [op] [b] pos) (af g fa fb) :=
  me2 (a:=a) (b:=b) (LE ho ha hb hm) hg
theorem AA {K:PySem.W.Frag}{g:Int→Int→Int}:Og K (oI g) (rI0 fun i j=>.int (g i j)):=by
  intro ρ H σd hd σ d k v w Q rs rv rw' p
  cases d<;>cases k<;>first|exact p.elim|skip
  simp only [RD] at rv rw'
  exact⟨_,_,rv,rw',p.here rs (by simp only [rD,RD])⟩
theorem uV {K:PySem.W.Frag}{g:Int→Int→Bool}:Og K (oB g) (rI0 fun i j=>.bl (g i j)):=by
  intro ρ H σd hd σ d k v w Q rs rv rw' p
  cases d<;>cases k<;>first|exact p.elim|skip
  simp only [RD] at rv rw'
  exact⟨_,_,rv,rw',p.here rs (by simp only [rD,RD])⟩
theorem IM {K:PySem.W.Frag}{c:Int→Int→Bool}{C:Int→Int→Prop}{g:Int→Int→Int}(hc:∀ i j,c i j=true→C i j):Og K (oIc c g) (rI C fun i j=>.int (g i j)):=by
  intro ρ H σd hd σ d k v w Q rs rv rw' p
  cases d<;>cases k<;>first|exact p.elim|skip
  rename_i i j
  simp only [RD] at rv rw'
  cases e:c i j with
  | false=>simp only [oIc,e] at p;exact p.elim
  | true =>
    simp only [oIc,e,if_true] at p
    exact⟨i,j,rv,rw',hc i j e,p.here rs (by simp only [rD,RD])⟩
theorem Fe {i:Int}(h:sml i=true) : -(2 ^ 64) < i∧i < 2 ^ 64:=by
  simp only [sml,Bool.and_eq_true,decide_eq_true_eq] at h;exact h
theorem fR {K:PySem.W.Frag}:Og K cw (rI LD fun i j=>.int (i * j)):=IM fun i j h=>by
  rcases (Bool.or_eq_true _ _).mp h with q|q
  · exact .inl (Fe q)
  · exact .inr (Fe q)
theorem dh {K:PySem.W.Frag}:Og K bT (rI (fun _ j=>0 < j) fun i j=>.int (i % j)):=IM fun i j h=>of_decide_eq_true h
def Qa (_ j:Int):Prop:=0 < j∧j < 2 ^ 250
theorem dR:OpR X (binaryOp .FloorDiv) (rI Qa fun i j=>.int (i / j)):=opI fun i j _ _ _ _ _ hc q=>by
  have h0:j≠0:=by have:=hc.1;omega
  refine PyProof.Rows.floordiv_int h0 (by rw [Int.fdiv_eq_ediv_of_nonneg _ (Int.le_of_lt hc.1)];exact q) (.inl (PyProof.noPylong_of_log2 ?_))
  have h2:j.natAbs < 2 ^ 250:=by have:=hc.2;have:=hc.1;omega
  have h3:j.natAbs≠0:=by omega
  have:=(Nat.log2_lt h3).mpr h2
  omega
theorem gR {K:PySem.W.Frag}:Og K fN (rI Qa fun i j=>.int (i / j)):=IM fun i j h=>by
  simp only [Bool.and_eq_true,decide_eq_true_eq] at h;exact h
theorem ya {K:PySem.W.Frag}{ρ:List Addr}{H:Hp}{d:D}{v:V}(h:RD K ρ H d v):nn d=decide (v=.non):=by
  cases d<;>simp only [RD] at h
  · subst h;rfl
  · subst h;rfl
  · subst h;rfl
  · subst h;rfl
  · obtain⟨p,vs,rfl,_⟩:=h;rfl
  · obtain⟨p,vs,rfl⟩:=h;rfl
  · obtain⟨p,vs,rfl,_⟩:=h;rfl
  · obtain⟨_,p,vs,rfl,_⟩:=h;rfl
theorem mP {K:PySem.W.Frag}:Og K iY (fun x y H Q=>y=.non∧Q (.bl (decide (x=.non))) H):=by
  intro ρ H σd hd σ d k v w Q rs rv rw' p
  unfold iY at p
  cases e:nn k with
  | false=>rw [e] at p;exact p.elim
  | true =>
    rw [e,if_pos rfl] at p
    refine⟨of_decide_eq_true ((ya rw').symm.trans e),?_⟩
    rw [← ya rv]
    exact p.here rs (by simp only [rD,RD])
theorem oO {K:PySem.W.Frag}:Og K jW (fun x y H Q=>y=.non∧Q (.bl (!decide (x=.non))) H):=by
  intro ρ H σd hd σ d k v w Q rs rv rw' p
  unfold jW at p
  cases e:nn k with
  | false=>rw [e] at p;exact p.elim
  | true =>
    rw [e,if_pos rfl] at p
    refine⟨of_decide_eq_true ((ya rw').symm.trans e),?_⟩
    rw [← ya rv]
    exact p.here rs (by simp only [rD,RD])
theorem oP {K:PySem.W.Frag}{ρ:List Addr}{H:Hp}{σd:Sd}{σ:St}{r:Res D}{Q:Bool→Hp→Prop}(h:cj K rB ρ H σd σ (asB r) Q):cj K (rD K) ρ H σd σ r (fun x H'=>∃ c,x=.bl c∧Q c H'):=by
  refine (cj.bind (R:=rD K) h).imp fun v H1 ⟨ρ1,d,hd1,e1,rs1,rv,p1⟩ => ?_
  cases d<;>first|exact p1.elim|skip
  simp only [rD,RD] at rv
  exact⟨_,rv,p1.here rs1 rfl⟩
theorem fk {e:Expr}{f:EF}(h:ME X e f)(he:∀ whole,isTrue e X.env whole=(do let v ← whole;standAt e.pos;holding [v] (truthy v)):=by intro _;rfl):MT X e (tE f) :=
  PT.imp (ND h he) fun σ H Q ⟨ρ,σd,hd,rs,p⟩=>⟨ρ,σd,hd,rs,oP p⟩
theorem bn {a b:Expr}{fa fb:EF}{op:CmpOp}{r:R2}{g:O2}(ho:OpR X (compareOp op) r)(hg:Og X.K g r)(ha:ME X a fa)(hb:ME X b fb)(hm:behindInMarks op b=false):MT X (.Compare a [op] [b] pos) (tE (af g fa fb)):=by
  refine PT.imp (LG ho ha hb hm) fun σ H Q ⟨ρ,σd,hd,rs,p⟩ => ?_
  have p:=oP p
  refine⟨ρ,σd,hd,rs,(cj.bind (R:=rD X.K) p).imp fun v H1 ⟨ρ1,d,hd1,e1,rs1,rv,p1⟩ => ?_⟩
  refine⟨ρ1,σd,hd1,rs1,(cj.bind (R:=rD X.K) p1).imp fun w H2 ⟨ρ2,k,hd2,e2,rs2,rw',p2⟩ => ?_⟩
  exact hg ρ2 H2 σd hd2 σ d k v w _ rs2 (rv.mono (rs1.hp.kp e2)) rw' p2
theorem fm {a:Expr}{t:TF}(h:MT X a t):MT X (.UnaryOp .Not a pos) (eD t):=by
  refine PT.imp (NK h) fun σ H Q ⟨ρ,σd,hd,rs,p⟩=>⟨ρ,σd,hd,rs,(cj.bind (R:=rB) p).imp fun c H1 ⟨ρ1,d,hd1,e1,rs1,rv,p1⟩ => ?_⟩
  cases rv
  exact p1.here rs1 rfl
theorem jg {op a}{t:TF}(h:MT X a t)(ho:op=BoolOp.And∨op=BoolOp.Or):MW X (.BoolOp op [a] pos) t:=by
  rcases ho with rfl|rfl
  · exact LA h
  · exact NG h
theorem yb {a b:Expr}{rest:List Expr}{t u:TF}(ha:MT X a t)(hb:MW X (.BoolOp .And (b :: rest) pos) u):MW X (.BoolOp .And (a :: b :: rest) pos) (jx t u):=by
  refine PW.imp (NJ ha hb) fun σ H Q ⟨ρ,σd,hd,rs,p⟩=>⟨ρ,σd,hd,rs,(cj.bind (R:=rB) p).imp fun c H1 ⟨ρ1,d,hd1,e1,rs1,rv,p1⟩ => ?_⟩
  cases rv
  cases c with
  | true=>simp only [if_true] at p1 ⊢;exact⟨ρ1,σd,hd1,rs1,p1⟩
  | false=>simp only [Bool.false_eq_true,if_false] at p1 ⊢;exact p1.here rs1 rfl
theorem sK {a b:Expr}{rest:List Expr}{t u:TF}(ha:MT X a t)(hb:MW X (.BoolOp .Or (b :: rest) pos) u):MW X (.BoolOp .Or (a :: b :: rest) pos) (tOr t u):=by
  refine PW.imp (PD ha hb) fun σ H Q ⟨ρ,σd,hd,rs,p⟩=>⟨ρ,σd,hd,rs,(cj.bind (R:=rB) p).imp fun c H1 ⟨ρ1,d,hd1,e1,rs1,rv,p1⟩ => ?_⟩
  cases rv
  cases c with
  | true=>simp only [if_true] at p1 ⊢;exact p1.here rs1 rfl
  | false=>simp only [Bool.false_eq_true,if_false] at p1 ⊢;exact⟨ρ1,σd,hd1,rs1,p1⟩
theorem MW.mt {e:Expr}{t:TF}(h:MW X e t):MT X e t:=h.pt
theorem LO {K:PySem.W.Frag}{t:TF}{σ:St}{H:Hp}{Q:VK}(h:mM K (rD K) (fT t) σ H Q):mM K rB t σ H (fun b H'=>Q (.bl b) H'):=by
  obtain⟨ρ,σd,hd,rs,p⟩:=h
  refine⟨ρ,σd,hd,rs,(cj.bind (R:=rB) p).imp fun c H1 ⟨ρ1,d,hd1,e1,rs1,rv,p1⟩ => ?_⟩
  cases rv
  exact p1.here rs1 (by simp only [rD,RD])
def MB (X:Cx) (e:Expr) (t:TF):Prop:=PE X e (fun σ H Q=>mM X.K rB t σ H fun b H'=>Q (.bl b) H')
theorem MB.me {e:Expr}{t:TF}(h:MB X e t):ME X e (fT t):=PE.imp h fun _ _ _ q=>LO q
theorem kC {e:Expr}{f:EF}(h:ME X e f):MB X e (tE f):=by
  refine PE.imp h fun σ H Q ⟨ρ,σd,hd,rs,p⟩=>⟨ρ,σd,hd,rs,(oP p).imp ?_⟩
  rintro v H1 ⟨c,rfl,q⟩
  exact q
theorem oQ {op a}{t:TF}(h:MB X a t):MB X (.BoolOp op [a] pos) t:=NL h
theorem yc {a b:Expr}{rest:List Expr}{t u:TF}(ha:MB X a t)(hb:MB X (.BoolOp .And (b :: rest) pos) u):MB X (.BoolOp .And (a :: b :: rest) pos) (jx t u):=by
  refine PE.imp (NM ha hb) fun σ H Q ⟨ρ,σd,hd,rs,p⟩=>⟨ρ,σd,hd,rs,(cj.bind (R:=rB) p).imp fun c H1 ⟨ρ1,d,hd1,e1,rs1,rv,p1⟩=>⟨c,rfl,?_⟩⟩
  cases rv
  cases c with
  | true=>simp only [if_true] at p1 ⊢;exact⟨ρ1,σd,hd1,rs1,p1⟩
  | false=>simp only [Bool.false_eq_true,if_false] at p1 ⊢;exact p1.here rs1 rfl
theorem Nm {a b:Expr}{rest:List Expr}{t u:TF}(ha:MB X a t)(hb:MB X (.BoolOp .Or (b :: rest) pos) u):MB X (.BoolOp .Or (a :: b :: rest) pos) (tOr t u):=by
  refine PE.imp (PK ha hb) fun σ H Q ⟨ρ,σd,hd,rs,p⟩=>⟨ρ,σd,hd,rs,(cj.bind (R:=rB) p).imp fun c H1 ⟨ρ1,d,hd1,e1,rs1,rv,p1⟩=>⟨c,rfl,?_⟩⟩
  cases rv
  cases c with
  | true=>simp only [if_true] at p1 ⊢;exact p1.here rs1 rfl
  | false=>simp only [Bool.false_eq_true,if_false] at p1 ⊢;exact⟨ρ1,σd,hd1,rs1,p1⟩
theorem Oi {a:Expr}{t:TF}(h:MB X a t):MB X (.UnaryOp .Not a pos) (eD t):=by
  refine PE.imp (NN h) fun σ H Q ⟨ρ,σd,hd,rs,p⟩=>⟨ρ,σd,hd,rs,(cj.bind (R:=rB) p).imp fun c H1 ⟨ρ1,d,hd1,e1,rs1,rv,p1⟩=>⟨c,rfl,?_⟩⟩
  cases rv
  exact p1.here rs1 rfl
theorem IN {c a b:Expr}{t:TF}{fa fb:EF}(hc:MT X c t)(ha:ME X a fa)(hb:ME X b fb):ME X (.IfExp c a b pos) (fIf t fa fb):=by
  refine PE.imp (Ij hc ha hb) fun σ H Q ⟨ρ,σd,hd,rs,p⟩=>⟨ρ,σd,hd,rs,(cj.bind (R:=rB) p).imp fun c H1 ⟨ρ1,d,hd1,e1,rs1,rv,p1⟩ => ?_⟩
  cases rv
  cases c with
  | true=>simp only [if_true] at p1 ⊢;exact⟨ρ1,σd,hd1,rs1,p1⟩
  | false=>simp only [Bool.false_eq_true,if_false] at p1 ⊢;exact⟨ρ1,σd,hd1,rs1,p1⟩
end
end Fm
set_option Elab.async false
set_option linter.all false
set_option maxRecDepth 100000
namespace Fm
open PySem PySem.Spec L2
section
variable {X:Cx} {pos:Pos}
theorem CQ {K:PySem.W.Frag}{ρ:List Addr}{H:Hp}{σd:Sd}{hd:Hd}{σ:St}{r r':R2}{g k:O2}{fa fb fc:EF}{Q:VK}(hg:Og K g r)(hk:Og K k r')(rs:RS K ρ H σd hd σ)
    (p:cj K (rD K) ρ H σd σ (sF g k fa fb fc σd hd) Q):Iz r r' (mM K (rD K) fa) (mM K (rD K) fb) (mM K (rD K) fc) σ H Q:=by
  refine⟨ρ,σd,hd,rs,(cj.bind (R:=rD K) p).imp fun v H1 ⟨ρ1,d,hd1,e1,rs1,rv,p1⟩ => ?_⟩
  refine⟨ρ1,σd,hd1,rs1,(cj.bind (R:=rD K) p1).imp fun w H2 ⟨ρ2,d2,hd2,e2,rs2,rw2,p2⟩ => ?_⟩
  refine hg ρ2 H2 σd hd2 σ d d2 v w _ rs2 (rv.mono (rs1.hp.kp e2)) rw2 ((cj.bind (R:=rD K) p2).imp fun z H3 ⟨ρ3,d3,hd3,e3,rs3,rz,p3⟩ => ?_)
  cases d3<;>first|exact p3.elim|skip
  rename_i b
  simp only [rD,RD] at rz
  refine⟨b,rz,?_⟩
  cases b with
  | false =>
    rw [if_neg Bool.false_ne_true]
    exact p3.here rs3 (by simp only [rD,RD])
  | true =>
    rw [if_pos rfl]
    refine⟨ρ3,σd,hd3,rs3,(cj.bind (R:=rD K) p3).imp fun u H4 ⟨ρ4,d4,hd4,e4,rs4,ru,p4⟩ => ?_⟩
    exact hk ρ4 H4 σd hd4 σ d2 d4 w u Q rs4 ((rw2.mono (rs2.hp.kp e3)).mono (rs3.hp.kp e4)) ru p4
theorem IO {a b c:Expr}{fa fb fc:EF}{op op':CmpOp}{r r':R2}{g k:O2}(ho:OpR X (compareOp op) r)(ho':OpR X (compareOp op') r')(hg:Og X.K g r)(hk:Og X.K k r')(ha:ME X a fa)(hb:ME X b fb)(hc:ME X c fc)
    (hm:lastMarks [op,op'] [b,c] = false:=by with_unfolding_all rfl):ME X (.Compare a [op,op'] [b,c] pos) (sF g k fa fb fc) :=
  PE.imp (IA ho ho' ha hb hc hm) fun _ _ _ ⟨_,_,_,rs,p⟩=>CQ hg hk rs p
theorem av:MA X [] am:=PA.imp eU fun _ _ _ ⟨_,_,_,rs,p⟩=>p.here rs RDs.nil
theorem ae {e:Expr}{es:List Expr}{f:EF}{r:LF}(he:ME X e f)(hr:MA X es r)(hs:starEach (e :: es) X.env=(false,eval e X.env) :: starEach es X.env:=by rfl):MA X (e :: es) (ad f r):=by
  refine PA.imp (cC he hr hs) fun σ H Q ⟨ρ,σd,hd,rs,p⟩ => ?_
  refine⟨ρ,σd,hd,rs,(cj.bind (R:=rD X.K) p).imp fun v H1 ⟨ρ1,d,hd1,e1,rs1,rv,p1⟩ => ?_⟩
  refine⟨ρ1,σd,hd1,rs1,(cj.bind (R:=rDs X.K) p1).imp fun vs H2 ⟨ρ2,ds,hd2,e2,rs2,rvs,p2⟩ => ?_⟩
  exact p2.here rs2 (RDs.cons (rv.mono (rs1.hp.kp e2)) rvs)
theorem nu {n:Nat}(h:n≤SZ):n≤sizeLine:=Nat.le_trans h (by show 1000000≤2 ^ 24;decide)
theorem fq {es:List Expr}{k}{r:LF}(h:MA X es r):ME X (.Tuple es k pos) (fj r):=by
  refine PE.imp (NZ h) fun σ H Q ⟨ρ,σd,hd,rs,p⟩ => ?_
  refine⟨ρ,σd,hd,rs,(cj.bind (R:=rDs X.K) p).imp fun vs H1 ⟨ρ1,ds,hd1,e1,rs1,rvs,p1⟩ => ?_⟩
  by_cases hz:ds.length≤SZ
  · rw [if_pos hz] at p1
    refine⟨by rw [← rvs.length];exact nu hz,fun q hq => ?_⟩
    have sm:=cy (o:=HO.tup vs) hq
    exact p1.at (Ext.same sm) (rs1.same sm) (by simp only [rD,RD];exact⟨q,vs,rfl,bf,rvs.mono (Kp.same sm)⟩)
  · rw [if_neg hz] at p1;exact p1.elim
theorem Ext.fresh {ρ ρ':List Addr}{H H':Hp}{q:Addr}(e:Ext ρ H ρ' H')(h:H' q=none)(n:q ∉ ρ'):H q=none:=by
  cases z:H q with
  | none=>rfl
  | some o =>
    by_cases hq:q ∈ ρ
    · obtain⟨t,rfl⟩:=e.pre
      exact absurd (List.mem_append_left t hq) n
    · rw [e.frame q o z hq] at h;cases h
theorem RH.free {K:PySem.W.Frag}{ρ:List Addr}{H:Hp}{hd:Hd}(r:RH K ρ H hd){q:Addr}(h:H q=none):q ∉ ρ:=fun z=>by
  rcases r.mut z with ⟨_,e⟩|⟨_,e⟩<;>(rw [h] at e;cases e)
theorem Az.mk {K:PySem.W.Frag}{ρ ρ1:List Addr}{H H1:Hp}{hd1:Hd}{σd:Sd}{σ:St}{l:List D}{vs:List V}{Q:VK}(p:Az K ρ H σd σ (.ok l hd1) Q)(e1:Ext ρ H ρ1 H1)(rs1:RS K ρ1 H1 σd hd1 σ)(r:RDs K ρ1 H1 l vs) :
    ∀ q,H1 q=none→Q (.ref q) (upd H1 q (.lst vs)):=fun q hq=>by
  have sm:=cy (o:=HO.lst vs) hq
  have nq:=rs1.hp.free hq
  exact p q vs _ ρ1 (e1.trans (Ext.same sm)) (rs1.same sm) (e1.fresh hq nq) bf nq (r.mono (Kp.same sm))
theorem cu {es:List Expr}{r:LF}(h:MA X es r)(hz:∀ σd hd ds hd',r σd hd=.ok ds hd'→ds.length≤SZ):MF X (.List es pos) r:=by
  refine PE.imp (N1 h) fun σ H Q ⟨ρ,σd,hd,rs,p⟩ => ?_
  refine⟨ρ,σd,hd,rs,?_⟩
  cases e:r σd hd with
  | exc x h'=>rw [e] at p;exact p
  | bad=>rw [e] at p;exact p
  | ok ds hd1 =>
    rw [e] at p
    intro vs H1 ρ1 e1 rs1 rvs
    exact⟨by rw [← RDs.length rvs];exact nu (hz _ _ _ _ e),p.mk e1 rs1 rvs⟩
theorem aD {f:EF}{r:LF}{n:Nat}(h:∀ σd hd ds hd',r σd hd=.ok ds hd'→ds.length=n):∀ σd hd ds hd',ad f r σd hd=.ok ds hd'→ds.length=n + 1:=by
  intro σd hd ds hd' e
  simp only [ad] at e
  cases e1:f σd hd with
  | exc x h'=>rw [e1] at e;cases e
  | bad=>rw [e1] at e;cases e
  | ok d h1 =>
    rw [e1] at e
    simp only [aG] at e
    cases e2:r σd h1 with
    | exc x h'=>rw [e2] at e;cases e
    | bad=>rw [e2] at e;cases e
    | ok ds2 h2 =>
      rw [e2] at e
      simp only [aG] at e
      cases e
      simp [h _ _ _ _ e2]
theorem br:∀ σd hd ds hd',am σd hd=.ok ds hd'→ds.length=0:=by
  intro σd hd ds hd' e
  simp only [am] at e
  cases e
  rfl
theorem bI {e:Expr}{r:LF}(h:MF X e r):ME X e (aX r):=by
  refine PE.imp h fun σ H Q ⟨ρ,σd,hd,rs,p⟩=>⟨ρ,σd,hd,rs,?_⟩
  unfold aX at p
  cases e:r σd hd with
  | exc x h'=>rw [e] at p;exact p
  | bad=>rw [e] at p;exact p
  | ok ds hd1 =>
    rw [e] at p
    simp only [aG] at p
    intro q vs H1 ρ1 e1 rs1 hq0 hq hn rvs
    by_cases hz:ds.length≤SZ
    · rw [if_pos hz] at p
      have rh:=rs1.hp.alloc hq hn rvs
      have ex:Ext ρ H (ρ1++[q]) H1:=⟨by obtain⟨t,rfl⟩:=e1.pre;exact⟨t++[q],by simp⟩,fun a ha=>by
        rcases List.mem_append.mp ha with z|z
        · exact e1.new a z
        · simp at z;subst z;exact .inr hq0,e1.frame⟩
      refine p.at ex (rs.ext ex rh) ?_
      simp only [rD,RD]
      refine⟨q,?_,rfl⟩
      rw [← rs1.hp.len]
      simp
    · rw [if_neg hz] at p;exact p.elim
theorem jh {e:Expr}{r:LF}(h:MF X e r):MQ X e r:=by
  refine PE.imp h fun σ H Q ⟨ρ,σd,hd,rs,p⟩=>⟨ρ,σd,hd,rs,?_⟩
  cases e:r σd hd with
  | exc x h'=>rw [e] at p;exact p
  | bad=>rw [e] at p;exact p
  | ok ds hd1 =>
    rw [e] at p
    intro q vs H1 ρ1 e1 rs1 hq0 hq hn rvs
    exact p (.ref q) H1 ρ1 e1 rs1 ⟨q,vs,rfl,.inl (SqL.of hq),rvs⟩
theorem qf.sq {K:PySem.W.Frag}{H:Hp}{a:Addr}{xs:List V}(h:qf K H a xs):SqL K H a xs:=by
  rcases h with ⟨o,h⟩|h
  · exact .inl (.inr ⟨o,h⟩)
  · exact .inr h
theorem Ff {K:PySem.W.Frag}{ρ:List Addr}{H:Hp}{hd:Hd}{d:D}{v:V}{l:List D}(r:RH K ρ H hd)(h:RD K ρ H d v)(e:mr hd d=some l):∃ p vs,v=.ref p∧(SqL K H p vs∨H p=some (.tup vs))∧RDs K ρ H l vs:=by
  cases d<;>simp only [mr] at e<;>try (cases e;done)
  · cases e
    simp only [RD] at h
    obtain⟨p,vs,e1,e2,e3⟩:=h
    exact⟨p,vs,e1,.inr e2,e3⟩
  · rename_i n
    simp only [RD] at h
    obtain⟨a,e1,e2⟩:=h
    cases c:hd[n]? with
    | none=>rw [c] at e;cases e
    | some x =>
      rw [c] at e
      cases x with
      | dct l=>cases e
      | lst l' =>
        cases e
        obtain⟨vs,q1,q2⟩:=r.cel n _ a c e1
        exact⟨a,vs,e2,.inl (SqL.of q1),q2⟩
  · cases e
    simp only [RD] at h
    obtain⟨p,vs,e1,e2,e3⟩:=h
    exact⟨p,vs,e1,.inl e2.sq,e3⟩
theorem eZ {e:Expr}{f:EF}(h:ME X e f):MQ X e (lOf f):=by
  refine PE.imp h fun σ H Q ⟨ρ,σd,hd,rs,p⟩=>⟨ρ,σd,hd,rs,(cj.bind (R:=rD X.K) p).imp fun v H1 ⟨ρ1,d,hd1,e1,rs1,rv,p1⟩ => ?_⟩
  cases e:mr hd1 d with
  | none=>rw [e] at p1;exact p1.elim
  | some l=>rw [e] at p1;exact p1.here rs1 (Ff rs1.hp rv e)
theorem Fg {K:PySem.W.Frag}{ρ:List Addr}{H:Hp}{l:List D}{vs:List V}{i:Int}{d:D}(r:RDs K ρ H l vs)(e:atI l i=some d):∃ v,L2.atI vs i=some v∧RD K ρ H d v:=by
  unfold atI at e
  unfold L2.atI
  have hl:=r.length
  have hx:ixN l.length i=L2.ixN vs.length i:=by rw [hl];rfl
  rw [hx] at e
  cases c:L2.ixN vs.length i with
  | none=>rw [c] at e;cases e
  | some j =>
    rw [c] at e
    simp only [Option.bind_some] at e ⊢
    exact r.get e
theorem bu {a b:Expr}{fa fb:EF}(ha:ME X a fa)(hb:ME X b fb)(hs:xY b):ME X (.Subscript a b pos) (fAt fa fb):=by
  refine me2 (a:=a) (b:=b) (g:=oAt) (Nj N8 ha hb hs) fun ρ H σd hd σ d k v w Q rs rv rw' p => ?_
  unfold oAt at p
  cases e:mr hd d with
  | none=>rw [e] at p;exact p.elim
  | some l =>
    rw [e] at p
    cases k<;>first|exact p.elim|skip
    rename_i i
    simp only at p
    cases e2:atI l i with
    | none=>rw [e2] at p;exact p.elim
    | some x =>
      rw [e2] at p
      simp only [RD] at rw'
      obtain⟨q,vs,hv,sq,rvs⟩:=Ff rs.hp rv e
      obtain⟨u,hu,ru⟩:=Fg rvs e2
      rcases sq with sq|sq
      · exact .inl ⟨q,vs,i,u,hv,rw',sq,hu,p.here rs ru⟩
      · exact .inr (.inl ⟨q,vs,i,u,hv,rw',SqT.of sq,hu,p.here rs ru⟩)
theorem IP {a b:Expr}{la:LF}{fb:EF}(ha:MF X a la)(hb:ME X b fb)(hs:xY b):ME X (.Subscript a b pos) (fIx la fb):=by
  refine PE.imp (Nj Fd ha hb hs) fun σ H Q ⟨ρ,σd,hd,rs,p⟩=>⟨ρ,σd,hd,rs,?_⟩
  unfold fIx at p
  cases e:la σd hd with
  | exc x h'=>rw [e] at p;exact p
  | bad=>rw [e] at p;exact p
  | ok l hd1 =>
    rw [e] at p
    simp only [aG] at p
    intro q vs H1 ρ1 e1 rs1 hq0 hq hn rvs
    refine⟨ρ1,σd,hd1,rs1,(cj.bind (R:=rD X.K) (p.ext e1)).imp fun w H2 ⟨ρ2,k,hd2,e2,rs2,rw',p2⟩ => ?_⟩
    cases k<;>first|exact p2.elim|skip
    rename_i i
    simp only at p2
    cases e3:atI l i with
    | none=>rw [e3] at p2;exact p2.elim
    | some x =>
      rw [e3] at p2
      simp only [rD,RD] at rw'
      obtain⟨u,hu,ru⟩:=Fg (rvs.mono (rs1.hp.kp e2)) e3
      exact⟨q,vs,i,u,rfl,rw',SqL.of (e2.frame q _ hq hn),hu,p2.here rs2 ru⟩
end
end Fm
set_option Elab.async false
set_option linter.all false
set_option maxRecDepth 100000
namespace Fm
open PySem PySem.Spec L2
section
variable {X:Cx} {pos:Pos}
def B1 (X:Cx) (r:List V→Hp→VK→Prop) (x:Str) (p pos:Pos) (a:Expr):Prop:=∀ t,PA X [a] t→PE X (.Call (.Name x p) [a] [] pos) (tCB r t)
theorem IQ {x:Str} {p:Pos} {a:Expr} {id:String} {r:List V→Hp→VK→Prop} (hc:iZ X (.builtin id) r) (hg:Gl X x) (hm:X.mg x=none) (hv:bootBuiltins x=some (.builtin id)) (hn:x ≠ "__name__" := by decide) (hdb:(x == ("__debug__" : Str))=false:=by decide)
    (he:starEach [a] X.env=(false,eval a X.env) :: starEach [] X.env:=by rfl):B1 X r x p pos a:=fun _ ha=>jy hc hg hm hv ha hn hdb he
theorem Qb {x:Str} {p:Pos} {a:Expr} {T:String} {r:List V→Hp→VK→Prop} (hc:iZ X (.type T) r) (hg:Gl X x) (hm:X.mg x=none) (hv:bootBuiltins x=some (.type T)) (hn:x ≠ "__name__" := by decide) (hdb:(x == ("__debug__" : Str))=false:=by decide)
    (he:starEach [a] X.env=(false,eval a X.env) :: starEach [] X.env:=by rfl):B1 X r x p pos a:=fun _ ha=>wX hc hg hm hv ha hn hdb he
theorem yd {x:Str}{p:Pos}{a:Expr}{la:LF}{r:List V→Hp→VK→Prop}{g:List D→Hd→Res D}(hb:B1 X r x p pos a)(ha:MQ X a la)
    (hg:∀ ρ H σd hd σ l q vs Q,RS X.K ρ H σd hd σ → (SqL X.K H q vs∨H q=some (.tup vs))→RDs X.K ρ H l vs→cj X.K (rD X.K) ρ H σd σ (g l hd) Q→r [.ref q] H Q)
    (hs:starEach [a] X.env=(false,eval a X.env) :: starEach [] X.env:=by rfl):ME X (.Call (.Name x p) [a] [] pos) (fun σ h=>(la σ h).bind fun l h=>g l h):=by
  refine PE.imp (hb _ (cC ha eU hs)) fun σ H Q ⟨ρ,σd,hd,rs,pp⟩=>⟨ρ,σd,hd,rs,(cj.bind (R:=rQ X.K) pp).imp fun v H1 ⟨ρ1,l,hd1,e1,rs1,⟨q,vs,hv,sq,rvs⟩,p1⟩ => ?_⟩
  subst hv
  exact hg ρ1 H1 σd hd1 σ l q vs Q rs1 sq rvs p1
theorem fS {p:Pos} {a:Expr} {la:LF} (hg:Gl X "len") (hm:X.mg "len" = none) (ha:MQ X a la) (hs:starEach [a] X.env=(false,eval a X.env) :: starEach [] X.env:=by rfl):ME X (.Call (.Name "len" p) [a] [] pos) (el la) :=
  yd (g:=fun l h=>.ok (.int l.length) h) (IQ xZ hg hm PySem.boot_len (he:=hs)) ha (fun ρ H σd hd σ l q vs Q rs sq rvs p=>⟨q,vs,rfl,sq.imp id SqT.of,by rw [← rvs.length];exact p.here rs (by simp only [rD,RD])⟩) hs
theorem ia {p:Pos} {a:Expr} {la:LF} (hg:Gl X "tuple") (hm:X.mg "tuple" = none) (ha:MQ X a la) (hs:starEach [a] X.env=(false,eval a X.env) :: starEach [] X.env:=by rfl):ME X (.Call (.Name "tuple" p) [a] [] pos) (dP la):=by
  refine yd (g:=fun l h=>.ok (.tup l) h) (Qb uU hg hm (by decide +kernel) (he:=hs)) ha (fun ρ H σd hd σ l q vs Q rs sq rvs p=>⟨q,vs,rfl,?_⟩) hs
  rcases sq with sq|sq
  · refine .inl ⟨sq,fun q' hq => ?_⟩
    have sm:=cy (o:=HO.tup vs) hq
    exact p.at (Ext.same sm) (rs.same sm) (by simp only [rD,RD];exact⟨q',vs,rfl,bf,rvs.mono (Kp.same sm)⟩)
  · exact .inr ⟨SqT.of sq,p.here rs (by simp only [rD,RD];exact⟨q,vs,rfl,sq,rvs⟩)⟩
theorem qh (ns:List Int):PySem.preSum (fun i=>ns.getD i 0) ns.length=ns.sum:=by
  have key:∀ k,k≤ns.length→PySem.preSum (fun i=>ns.getD i 0) k=(ns.take k).sum:=by
    intro k
    induction k with
    | zero=>intro _;simp [PySem.preSum]
    | succ k ih =>
      intro hk
      rw [PySem.preSum,ih (by omega),List.take_add_one,List.getElem?_eq_getElem (by omega),List.sum_append]
      simp [List.getD,List.getElem?_eq_getElem (show k < ns.length by omega)]
  rw [key _ (Nat.le_refl _),List.take_length]
theorem Fh {its:List Value}{ns:List Int}(r:bj (ns.map V.int) its)(i:Nat)(v:Value)(h:its.toArray[i]? = some v):∃ t,v=.int (ns.getD i 0) t:=by
  have h':its[i]? = some v:=by simpa using h
  have hl:=r.length
  have hi:i < its.length:=(List.getElem?_eq_some_iff.mp h').1
  have hn:i < ns.length:=by rw [← hl] at hi;simpa using hi
  obtain⟨u,hu,ru⟩:=r.get (i:=i) (x:=.int ns[i]) (by simp [hn])
  rw [h'] at hu
  cases hu
  obtain⟨t,e⟩:=ru
  exact⟨t,by rw [e];simp [List.getD,hn]⟩
theorem Gc (hc:X.calm=true):iZ X (.builtin "sum") (fun xs H Q=>∃ (p:Addr) (ns:List Int),xs=[.ref p]∧(SqL X.K H p (ns.map V.int)∨SqT X.K H p (ns.map V.int))∧Q (.int ns.sum) H):=by
  intro pins s σ H xs us Q I r q
  obtain⟨p,ns,rfl,sq,q⟩:=q
  obtain⟨u,rfl,ru⟩:=bj.one r
  cases (show u=Value.ref p from ru)
  have fin:∀ {it:Obj} {h':Heap} {tk:Nat} {t':Tok} {n:Nat},n=ns.length→(∀ b o,b∉[s.heap.objs.size]→(s.heap.push it).get? b=some o→h'.get? b=some o)→EP X pins σ Q (.int (PySem.preSum (fun i=>ns.getD i 0) n) t') { s with heap:=h',toks:=tk }:=by
    intro it h' tk t' n hn hk
    subst hn
    refine⟨.int ns.sum,H,I.kept (t':=tk) fun b o e=>hk b o (by simp;exact Nat.ne_of_lt (Heap.lt_size e)) (Heap.get?_push_of_some _ e),⟨t',by rw [qh]⟩,q⟩
  have hA:(X.A.in1).handled=none:=I.ok.hd hc
  rcases sq with sq|sq
  · obtain⟨its,rv,pl,hz⟩:=I.list sq
    have il:s.heap.IsList p its.toArray:=pl.isList
    have hlt:p < s.heap.objs.size:=by obtain⟨o,ho,_⟩:=il;exact Heap.lt_size ho
    refine PySem.call_sum_walkG (PySem.wpAny_pyIter_list il ?_)
    refine⟨s.heap.objs.size,_,[s.heap.objs.size],_,_,_,fun i=>ns.getD i 0,rfl,PySem.Walks.list hA s.heap.objs.size p (Nat.ne_of_lt hlt) its.toArray,⟨⟨_,Heap.get?_push_size _ rfl,rfl,rfl⟩,?_⟩,?_,Fh rv,?_⟩
    · obtain⟨o,ho,r⟩:=il;exact⟨o,Heap.get?_push_of_some _ ho,r⟩
    · intro b hb
      rcases List.mem_cons.mp hb with rfl|hb
      · rw [Heap.size_push];exact Nat.lt_succ_self _
      · simp at hb;subst hb;rw [Heap.size_push];exact Nat.lt_succ_of_lt hlt
    · exact fun h' tk t' hk=>fin (by simpa using rv.length.symm) hk
  · obtain⟨its,rv,pl,hz⟩:=I.tuple sq
    have il:s.heap.IsTuple p its.toArray:=pl
    have hlt:p < s.heap.objs.size:=by obtain⟨o,ho,_⟩:=il;exact Heap.lt_size ho
    refine PySem.call_sum_walkG (PySem.wpAny_pyIter_tuple il ?_)
    refine⟨s.heap.objs.size,_,[s.heap.objs.size],_,_,_,fun i=>ns.getD i 0,rfl,PySem.Walks.tuple hA s.heap.objs.size p (Nat.ne_of_lt hlt) its.toArray,⟨⟨_,Heap.get?_push_size _ rfl,rfl,rfl⟩,?_⟩,?_,Fh rv,?_⟩
    · obtain⟨o,ho,r⟩:=il;exact⟨o,Heap.get?_push_of_some _ ho,r⟩
    · intro b hb
      rcases List.mem_cons.mp hb with rfl|hb
      · rw [Heap.size_push];exact Nat.lt_succ_self _
      · simp at hb;subst hb;rw [Heap.size_push];exact Nat.lt_succ_of_lt hlt
    · exact fun h' tk t' hk=>fin (by simpa using rv.length.symm) hk
theorem nv {K:PySem.W.Frag}{ρ:List Addr}{H:Hp}:∀ {l:List D} {vs:List V} {is:List Int},RDs K ρ H l vs→fO l=some is→vs=is.map V.int
  | [],_,is,r,e=>by simp only [fO] at e;cases e;simp only [RDs] at r;subst r;rfl
  | d :: l,_,is,r,e=>by
    simp only [RDs] at r
    obtain⟨v,vs,rfl,h1,h2⟩:=r
    cases d<;>simp only [fO] at e<;>try (cases e;done)
    rename_i i
    cases c:fO l with
    | none=>rw [c] at e;cases e
    | some js =>
      rw [c] at e
      cases e
      simp only [RD] at h1
      rw [h1,nv h2 c]
      rfl
theorem CS {p:Pos} {a:Expr} {la:LF} (hc:X.calm=true) (hg:Gl X "sum") (hm:X.mg "sum" = none) (ha:MQ X a la) (hs:starEach [a] X.env=(false,eval a X.env) :: starEach [] X.env:=by rfl):ME X (.Call (.Name "sum" p) [a] [] pos) (sG la):=by
  refine yd (g:=fun l h=>match fO l with|some is=>.ok (.int is.sum) h|none=>.bad) (IQ (Gc hc) hg hm (by decide +kernel) (he:=hs)) ha (fun ρ H σd hd σ l q vs Q rs sq rvs p => ?_) hs
  cases c:fO l with
  | none=>simp only [c] at p;exact p.elim
  | some is =>
    simp only [c] at p
    have e:=nv rvs c
    subst e
    exact⟨q,is,rfl,sq.imp id SqT.of,p.here rs (by simp only [rD,RD])⟩
end
end Fm
set_option Elab.async false
set_option linter.all false
set_option maxRecDepth 100000
namespace Fm
open PySem PySem.Spec L2
section
variable {K:PySem.W.Frag} {ρ:List Addr} {H:Hp}
mutual
theorem AB:∀ {d k:D} {v:V} {b:Bool},RD K ρ H d v→RD K ρ H k v→peq d k=some b→b=true
  | .int i,k,v,b,h1,h2,e=>by
    simp only [RD] at h1;subst h1
    cases k<;>simp only [RD] at h2<;>try (cases h2;done)
    all_goals first
      | (cases h2;simp only [peq] at e;simpa using e.symm)
      | (obtain⟨_,_,z,_⟩:=h2;cases z;done)
      | (obtain⟨_,_,z⟩:=h2;cases z;done)
      | (obtain⟨_,_,_,z,_⟩:=h2;cases z;done)
  | .bl i,k,v,b,h1,h2,e=>by
    simp only [RD] at h1;subst h1
    cases k<;>simp only [RD] at h2<;>try (cases h2;done)
    all_goals first
      | (cases h2;simp only [peq] at e;simpa using e.symm)
      | (obtain⟨_,_,z,_⟩:=h2;cases z;done)
      | (obtain⟨_,_,z⟩:=h2;cases z;done)
      | (obtain⟨_,_,_,z,_⟩:=h2;cases z;done)
  | .str x,k,v,b,h1,h2,e=>by
    simp only [RD] at h1;subst h1
    cases k<;>simp only [RD] at h2<;>try (cases h2;done)
    all_goals first
      | (simp only [peq] at e;simp only [toS,V.str.injEq,PySem.Str.mk.injEq] at h2;have h3:=congrArg Array.toList h2;simp at h3;subst h3;simpa using e.symm)
      | (obtain⟨_,_,z,_⟩:=h2;cases z;done)
      | (obtain⟨_,_,z⟩:=h2;cases z;done)
      | (obtain⟨_,_,_,z,_⟩:=h2;cases z;done)
  | .non,k,v,b,h1,h2,e=>by
    simp only [RD] at h1;subst h1
    cases k<;>simp only [RD] at h2<;>try (cases h2;done)
    all_goals first
      | (simp only [peq] at e;simpa using e.symm)
      | (obtain⟨_,_,z,_⟩:=h2;cases z;done)
      | (obtain⟨_,_,z⟩:=h2;cases z;done)
      | (obtain⟨_,_,_,z,_⟩:=h2;cases z;done)
  | .tup xs,k,v,b,h1,h2,e=>by
    simp only [RD] at h1
    obtain⟨p,vs,rfl,hp,r1⟩:=h1
    cases k<;>simp only [peq] at e<;>try (cases e;done)
    · simp only [RD] at h2;cases h2
    · simp only [RD] at h2;cases h2
    · rename_i ys
      simp only [RD] at h2
      obtain⟨p',vs',z,hp',r2⟩:=h2
      cases z
      rw [hp] at hp';cases hp'
      cases c:gQ xs ys with
      | none=>rw [c] at e;cases e
      | some b' =>
        rw [c] at e
        simp only [Option.map_some,Option.some.injEq] at e
        have:=w5 r1 r2 c
        subst this
        rw [← e,r1.length,r2.length]
        simp
  | .ref n,k,v,b,h1,h2,e=>by cases k<;>simp only [peq] at e<;>cases e
  | .lit l,k,v,b,h1,h2,e=>by cases k<;>simp only [peq] at e<;>cases e
  | .exn c l,k,v,b,h1,h2,e=>by simp only [peq] at e<;>cases e
theorem w5:∀ {xs ys:List D} {vs:List V} {b:Bool},RDs K ρ H xs vs→RDs K ρ H ys vs→gQ xs ys=some b→b=true
  | [],_,_,_,_,_,e=>by simp only [gQ] at e;cases e;rfl
  | x :: xs,[],_,_,_,_,e=>by simp only [gQ] at e;cases e;rfl
  | x :: xs,y :: ys,_,b,h1,h2,e=>by
    simp only [RDs] at h1 h2
    obtain⟨v,r,rfl,a1,a2⟩:=h1
    obtain⟨v',r',z,b1,b2⟩:=h2
    cases z
    simp only [gQ] at e
    cases c:peq x y with
    | none=>rw [c] at e;cases e
    | some p =>
      cases c2:gQ xs ys with
      | none=>rw [c,c2] at e;cases e
      | some q =>
        rw [c,c2] at e
        simp only [Option.some.injEq] at e
        rw [← e,AB a1 b1 c,w5 a2 b2 c2];rfl
end
end
section
variable {K:PySem.W.Frag} {ρ:List Addr} {H:Hp} {P:Program} {w:World} {s:Shared}
theorem jY (hok:HOk P w H s.heap){p:Addr}{vs:List V}(h:H p=some (.tup vs)):∃ its:List Value,bj vs its∧s.heap.IsTuple p its.toArray:=by
  obtain⟨z,its,r,t⟩:=hok p _ h
  exact⟨its,r,t⟩
mutual
theorem IR (hok:HOk P w H s.heap):∀ {d k:D} {v v':V} {u u':Value} {b:Bool} {A:Around},RD K ρ H d v→RD K ρ H k v'→bR v u→bR v' u'→peq d k=some b→A.units + dep d < cLine→SeqAt.EqAt A s u u' b
  | .int i,k,v,v',u,u',b,A,h1,h2,r1,r2,e,hu=>by
    simp only [RD] at h1;subst h1
    obtain⟨t,rfl⟩:=r1
    cases k<;>simp only [peq] at e<;>try (cases e;done)
    all_goals cases e
    · simp only [RD] at h2;subst h2;cases r2;exact SeqAt.EqAt.int_none i t
    · simp only [RD] at h2;subst h2;cases r2;exact SeqAt.EqAt.int_bool i t _
    · simp only [RD] at h2;subst h2;obtain⟨t',rfl⟩:=r2;exact SeqAt.EqAt.int_int i t _ t'
    · simp only [RD] at h2;obtain⟨p,vs,rfl,hp,_⟩:=h2;cases r2
      obtain⟨its,_,il⟩:=jY hok hp
      exact SeqAt.EqAt.int_tuple i t il (Nat.lt_of_le_of_lt (Nat.le_add_right _ _) hu)
  | .bl i,k,v,v',u,u',b,A,h1,h2,r1,r2,e,hu=>by
    simp only [RD] at h1;subst h1
    cases r1
    cases k<;>simp only [peq] at e<;>try (cases e;done)
    all_goals cases e
    · simp only [RD] at h2;subst h2;cases r2;exact SeqAt.EqAt.bool_bool i _
    · simp only [RD] at h2;subst h2;obtain⟨t',rfl⟩:=r2;exact SeqAt.EqAt.bool_int i _ t'
  | .str x,k,v,v',u,u',b,A,h1,h2,r1,r2,e,hu=>by
    simp only [RD] at h1;subst h1
    obtain⟨t,rfl⟩:=r1
    cases k<;>simp only [peq] at e<;>try (cases e;done)
    all_goals cases e
    rename_i y
    simp only [RD] at h2;subst h2;obtain⟨t',rfl⟩:=r2
    have:decide (x=y)=(toS x == toS y):=by
      by_cases z:x=y
      · subst z;simp
      · have : ¬ toS x=toS y:=fun q=>z (by have:=congrArg (fun (s:Str)=>s.cps.toList) q;simpa [toS] using this)
        simp [z,this]
    rw [this]
    exact SeqAt.EqAt.str_str _ t _ t'
  | .non,k,v,v',u,u',b,A,h1,h2,r1,r2,e,hu=>by
    simp only [RD] at h1;subst h1
    cases r1
    cases k<;>simp only [peq] at e<;>try (cases e;done)
    all_goals cases e
    · simp only [RD] at h2;subst h2;cases r2;exact SeqAt.EqAt.same _
    · simp only [RD] at h2;subst h2;obtain⟨t',rfl⟩:=r2;exact SeqAt.EqAt.none_int _ t'
    · simp only [RD] at h2;obtain⟨p,vs,rfl,hp,_⟩:=h2;cases r2
      obtain⟨its,_,il⟩:=jY hok hp
      exact SeqAt.EqAt.none_tuple il (Nat.lt_of_le_of_lt (Nat.le_add_right _ _) hu)
  | .tup xs,k,v,v',u,u',b,A,h1,h2,r1,r2,e,hu=>by
    have h1':=h1
    simp only [RD] at h1
    obtain⟨p,vs,rfl,hp,q1⟩:=h1
    cases r1
    obtain⟨its,rv,il⟩:=jY hok hp
    have hu0:A.units < cLine:=Nat.lt_of_le_of_lt (Nat.le_add_right _ _) hu
    cases k<;>simp only [peq] at e<;>try (cases e;done)
    · cases e;simp only [RD] at h2;subst h2;cases r2;exact SeqAt.EqAt.tuple_none il hu0
    · cases e;simp only [RD] at h2;subst h2;obtain⟨t',rfl⟩:=r2;exact SeqAt.EqAt.tuple_int _ t' il hu0
    · rename_i ys
      have h2':=h2
      simp only [RD] at h2
      obtain⟨p',vs',rfl,hp',q2⟩:=h2
      cases r2
      by_cases hpp:p=p'
      · subst hpp
        have:b=true:=AB h1' h2' (by simp only [peq];exact e)
        subst this
        exact SeqAt.EqAt.same _
      · obtain⟨its',rv',il'⟩:=jY hok hp'
        cases c:gQ xs ys with
        | none=>rw [c] at e;cases e
        | some b' =>
          rw [c] at e
          simp only [Option.map_some,Option.some.injEq] at e
          obtain⟨f,hf,ha⟩:=nz hok (A:=A.in1) q1 q2 rv rv' c (by simp only [dep] at hu;show A.units + 1 + kO xs < cLine;omega)
          have:=SeqAt.RcAt.tuples (s:=s) (A:=A) (e:=f) il il' hu0 (fun j h1 h2=>by simpa using hf j (by simpa using h1) (by simpa using h2))
          rw [← e,← ha,q1.length,q2.length,rv.length,rv'.length]
          refine SeqAt.EqAt.of_refs hpp ?_
          rw [show (decide (its.length=its'.length))=(its.length == its'.length) from rfl]
          simpa using this
  | .ref n,k,v,v',u,u',b,A,h1,h2,r1,r2,e,hu=>by cases k<;>simp only [peq] at e<;>cases e
  | .lit l,k,v,v',u,u',b,A,h1,h2,r1,r2,e,hu=>by cases k<;>simp only [peq] at e<;>cases e
  | .exn c l,k,v,v',u,u',b,A,h1,h2,r1,r2,e,hu=>by simp only [peq] at e<;>cases e
theorem nz (hok:HOk P w H s.heap):∀ {xs ys:List D} {vs vs':List V} {us us':List Value} {b:Bool} {A:Around},RDs K ρ H xs vs→RDs K ρ H ys vs'→bj vs us→bj vs' us'→gQ xs ys=some b→A.units + kO xs < cLine →
    ∃ f:Nat→Bool,(∀ j (h1:j < us.length) (h2:j < us'.length),SeqAt.EqAt A s us[j] us'[j] (f j))∧(List.range (min us.length us'.length)).all f=b
  | [],ys,vs,vs',us,us',b,A,h1,h2,r1,r2,e,hu=>by
    simp only [RDs] at h1;subst h1;cases r1
    simp only [gQ] at e;cases e
    exact⟨fun _=>true,fun j h1=>by simp at h1,by simp⟩
  | x :: xs,[],vs,vs',us,us',b,A,h1,h2,r1,r2,e,hu=>by
    simp only [RDs] at h2;subst h2;cases r2
    simp only [gQ] at e;cases e
    exact⟨fun _=>true,fun j h1 h2=>by simp at h2,by simp⟩
  | x :: xs,y :: ys,vs,vs',us,us',b,A,h1,h2,r1,r2,e,hu=>by
    simp only [RDs] at h1 h2
    obtain⟨v,r,rfl,a1,a2⟩:=h1
    obtain⟨v',r',rfl,b1,b2⟩:=h2
    cases r1 with
    | cons p1 p2 =>
      cases r2 with
      | cons s1 s2 =>
        simp only [gQ] at e
        cases c:peq x y with
        | none=>rw [c] at e;cases e
        | some p =>
          cases c2:gQ xs ys with
          | none=>rw [c,c2] at e;cases e
          | some q =>
            rw [c,c2] at e
            simp only [Option.some.injEq] at e
            simp only [kO] at hu
            have g1:=IR hok (A:=A) a1 b1 p1 s1 c (by omega)
            obtain⟨f,hf,ha⟩:=nz hok (A:=A) a2 b2 p2 s2 c2 (by omega)
            refine⟨fun j=>match j with|0=>p|j + 1=>f j,fun j h1 h2 => ?_,?_⟩
            · cases j with
              | zero=>exact g1
              | succ j=>exact hf j (by simpa using h1) (by simpa using h2)
            · rw [← e,← ha,List.length_cons,List.length_cons,Nat.succ_min_succ,List.range_succ_eq_map,List.all_cons,List.all_map]
              rfl
end
theorem Oj (hok:HOk P w H s.heap){d k:D}{v v':V}{u u':Value}{b:Bool}{A:Around}(h1:RD K ρ H d v)(h2:RD K ρ H k v')(r1:bR v u)(r2:bR v' u')(e:peq d k=some b)(hu:A.units + dep d < cLine) :
    SeqAt.RcAt A s u u' b∧SeqAt.RcNeAt A s u u' (!b):=by
  have hu0:A.units < cLine:=Nat.lt_of_le_of_lt (Nat.le_add_right _ _) hu
  cases d<;>simp only [RD] at h1
  · subst h1;cases r1
    cases k<;>simp only [peq] at e<;>try (cases e;done)
    all_goals cases e
    · simp only [RD] at h2;subst h2;cases r2;exact⟨SeqAt.RcAt.none_none,SeqAt.RcNeAt.none_none⟩
    · simp only [RD] at h2;subst h2;obtain⟨t',rfl⟩:=r2;exact⟨SeqAt.RcAt.none_int _ t',SeqAt.RcNeAt.none_int _ t'⟩
    · simp only [RD] at h2;obtain⟨p,vs,rfl,hp,_⟩:=h2;cases r2
      obtain⟨its,_,il⟩:=jY hok hp
      exact⟨SeqAt.RcAt.none_tuple il hu0,SeqAt.RcNeAt.none_tuple il hu0⟩
  · subst h1;cases r1
    cases k<;>simp only [peq] at e<;>try (cases e;done)
    all_goals cases e
    · simp only [RD] at h2;subst h2;cases r2;exact⟨SeqAt.RcAt.bool_bool _ _,SeqAt.RcNeAt.bool_bool _ _⟩
    · simp only [RD] at h2;subst h2;obtain⟨t',rfl⟩:=r2;exact⟨SeqAt.RcAt.bool_int _ _ t',SeqAt.RcNeAt.bool_int _ _ t'⟩
  · subst h1;obtain⟨t,rfl⟩:=r1
    cases k<;>simp only [peq] at e<;>try (cases e;done)
    all_goals cases e
    · simp only [RD] at h2;subst h2;cases r2;exact⟨SeqAt.RcAt.int_none _ t,SeqAt.RcNeAt.int_none _ t⟩
    · simp only [RD] at h2;subst h2;cases r2;exact⟨SeqAt.RcAt.int_bool _ t _,SeqAt.RcNeAt.int_bool _ t _⟩
    · simp only [RD] at h2;subst h2;obtain⟨t',rfl⟩:=r2;exact⟨SeqAt.RcAt.int_int _ t _ t',SeqAt.RcNeAt.int_int _ t _ t'⟩
    · simp only [RD] at h2;obtain⟨p,vs,rfl,hp,_⟩:=h2;cases r2
      obtain⟨its,_,il⟩:=jY hok hp
      exact⟨SeqAt.RcAt.int_tuple _ t il hu0,SeqAt.RcNeAt.int_tuple _ t il hu0⟩
  · subst h1;obtain⟨t,rfl⟩:=r1
    cases k<;>simp only [peq] at e<;>try (cases e;done)
    all_goals cases e
    rename_i x y
    simp only [RD] at h2;subst h2;obtain⟨t',rfl⟩:=r2
    have:decide (x=y)=(toS x == toS y):=by
      by_cases z:x=y
      · subst z;simp
      · have : ¬ toS x=toS y:=fun q=>z (by have:=congrArg (fun (s:Str)=>s.cps.toList) q;simpa [toS] using this)
        simp [z,this]
    rw [this]
    exact⟨SeqAt.RcAt.str_str _ t _ t',SeqAt.RcNeAt.str_str _ t _ t'⟩
  · rename_i xs
    obtain⟨p,vs,rfl,hp,q1⟩:=h1
    cases r1
    obtain⟨its,rv,il⟩:=jY hok hp
    cases k<;>simp only [peq] at e<;>try (cases e;done)
    · cases e;simp only [RD] at h2;subst h2;cases r2;exact⟨SeqAt.RcAt.tuple_none il hu0,SeqAt.RcNeAt.tuple_none il hu0⟩
    · cases e;simp only [RD] at h2;subst h2;obtain⟨t',rfl⟩:=r2;exact⟨SeqAt.RcAt.tuple_int _ t' il hu0,SeqAt.RcNeAt.tuple_int _ t' il hu0⟩
    · rename_i ys
      simp only [RD] at h2
      obtain⟨p',vs',rfl,hp',q2⟩:=h2
      cases r2
      obtain⟨its',rv',il'⟩:=jY hok hp'
      cases c:gQ xs ys with
      | none=>rw [c] at e;cases e
      | some b' =>
        rw [c] at e
        simp only [Option.map_some,Option.some.injEq] at e
        obtain⟨f,hf,ha⟩:=nz hok (A:=A.in1) q1 q2 rv rv' c (by simp only [dep] at hu;show A.units + 1 + kO xs < cLine;omega)
        have g1:=SeqAt.RcAt.tuples (s:=s) (A:=A) (e:=f) il il' hu0 (fun j h1 h2=>by simpa using hf j (by simpa using h1) (by simpa using h2))
        have g2:=SeqAt.RcNeAt.tuples (s:=s) (A:=A) (e:=f) il il' hu0 (fun j h1 h2=>by simpa using hf j (by simpa using h1) (by simpa using h2))
        rw [← e,← ha,q1.length,q2.length,rv.length,rv'.length,show (decide (its.length=its'.length))=(its.length == its'.length) from rfl]
        exact⟨by simpa using g1,by simpa using g2⟩
  · cases k<;>simp only [peq] at e<;>cases e
  · cases k<;>simp only [peq] at e<;>cases e
  · simp only [peq] at e<;>cases e
end
section
variable {X:Cx}
theorem lW {K:PySem.W.Frag}{ρ:List Addr}{H:Hp}{hd:Hd}{d:D}{v:V}{l:List D}(r:RH K ρ H hd)(h:RD K ρ H d v)(e:eY hd d=some l):∃ p vs,v=.ref p∧SqL K H p vs∧RDs K ρ H l vs:=by
  cases d<;>simp only [eY] at e<;>try (cases e;done)
  · rename_i n
    simp only [RD] at h
    obtain⟨a,e1,e2⟩:=h
    cases c:hd[n]? with
    | none=>rw [c] at e;cases e
    | some x =>
      rw [c] at e
      cases x with
      | dct l=>cases e
      | lst l' =>
        cases e
        obtain⟨vs,q1,q2⟩:=r.cel n _ a c e1
        exact⟨a,vs,e2,SqL.of q1,q2⟩
  · cases e
    simp only [RD] at h
    obtain⟨p,vs,e1,e2,e3⟩:=h
    exact⟨p,vs,e1,e2.sq,e3⟩
theorem IS {pins:List (Addr × Obj)}{σ:St}{H:Hp}{s:Shared}{ρ:List Addr}{hd:Hd}{d k:D}{v v':V}{u u':Value}{b:Bool}(hu:X.A.units + 24 < cLine)(I:Inv X pins σ H s)(r:RH X.K ρ H hd)(h1:RD X.K ρ H d v)(h2:RD X.K ρ H k v')
    (r1:bR v u) (r2:bR v' u') (e:eqG hd d k=some b):SeqAt.RcAt X.A s u u' b∧SeqAt.RcNeAt X.A s u u' (!b):=by
  have hu0:X.A.units < cLine:=by omega
  simp only [eqG] at e
  cases c1:eY hd d with
  | none =>
    cases c2:eY hd k with
    | some l=>rw [c1,c2] at e;cases e
    | none =>
      rw [c1,c2] at e
      simp only at e
      split at e
      · rename_i hd20
        exact Oj I.hok h1 h2 r1 r2 e (by omega)
      · cases e
  | some xs =>
    cases c2:eY hd k with
    | none=>rw [c1,c2] at e;cases e
    | some ys =>
      rw [c1,c2] at e
      simp only [eqL] at e
      obtain⟨p,vs,rfl,s1,q1⟩:=lW r h1 c1
      obtain⟨p',vs',rfl,s2,q2⟩:=lW r h2 c2
      cases r1;cases r2
      obtain⟨its,rv,pl,_⟩:=I.list s1
      obtain⟨its',rv',pl',_⟩:=I.list s2
      have il:s.heap.IsList p its.toArray:=pl.isList
      have il':s.heap.IsList p' its'.toArray:=pl'.isList
      have l1:xs.length=its.length:=q1.length.trans rv.length
      have l2:ys.length=its'.length:=q2.length.trans rv'.length
      split at e
      · rename_i hd20
        split at e
        · rename_i hl
          obtain⟨f,hf,ha⟩:=nz I.hok (A:=X.A.in1) q1 q2 rv rv' e (by show X.A.units + 1 + kO xs < cLine;omega)
          have hs:its.toArray.size=its'.toArray.size:=by simp;omega
          have g1:=SeqAt.RcAt.lists (s:=s) (A:=X.A) (e:=f) il il' hs hu0 (fun j h1 h2=>by simpa using hf j (by simpa using h1) (by simpa using h2))
          have g2:=SeqAt.RcNeAt.lists (s:=s) (A:=X.A) (e:=f) il il' hs hu0 (fun j h1 h2=>by simpa using hf j (by simpa using h1) (by simpa using h2))
          have hm:min its.length its'.length=its.length:=by omega
          rw [hm] at ha
          rw [← ha]
          exact⟨by simpa using g1,by simpa using g2⟩
        · rename_i hl
          cases e
          have hs:(its.toArray.size != its'.toArray.size)=true:=by simp;omega
          exact⟨SeqAt.RcAt.lists_lengths il il' hs hu0,SeqAt.RcNeAt.lists_lengths il il' hs hu0⟩
      · cases e
def LQ (K:PySem.W.Frag) (f:Bool→Bool):R2:=fun x y H Q=>∃ ρ hd d k b,RH K ρ H hd∧RD K ρ H d x∧RD K ρ H k y∧eqG hd d k=some b∧Q (.bl (f b)) H
theorem du (hu:X.A.units + 24 < cLine):OpR X (compareOp .Eq) (LQ X.K id):=by
  intro pins s σ H x y v u Q I rx ry h
  obtain⟨ρ,hd,d,k,b,r,h1,h2,e,q⟩:=h
  exact (IS hu I r h1 h2 rx ry e).1 _ _ _ _ ⟨.bl b,H,I,rfl,q⟩
theorem mQ (hu:X.A.units + 24 < cLine):OpR X (compareOp .NotEq) (LQ X.K not):=by
  intro pins s σ H x y v u Q I rx ry h
  obtain⟨ρ,hd,d,k,b,r,h1,h2,e,q⟩:=h
  exact (IS hu I r h1 h2 rx ry e).2 _ _ _ _ ⟨.bl (!b),H,I,rfl,q⟩
theorem fv {K:PySem.W.Frag}:Og K oEq (LQ K id):=by
  intro ρ H σd hd σ d k v w Q rs rv rw' p
  unfold oEq at p
  cases e:eqG hd d k with
  | none=>rw [e] at p;exact p.elim
  | some b=>rw [e] at p;exact⟨ρ,hd,d,k,b,rs.hp,rv,rw',e,p.here rs (by simp only [rD,RD];rfl)⟩
theorem sL {K:PySem.W.Frag}:Og K oNe (LQ K not):=by
  intro ρ H σd hd σ d k v w Q rs rv rw' p
  unfold oNe at p
  cases e:eqG hd d k with
  | none=>rw [e] at p;exact p.elim
  | some b=>rw [e] at p;exact⟨ρ,hd,d,k,b,rs.hp,rv,rw',e,p.here rs (by simp only [rD,RD])⟩
end
end Fm
set_option Elab.async false
set_option linter.all false
set_option maxRecDepth 100000
namespace Fm
open PySem PySem.Spec L2
section
variable {K:PySem.W.Frag} {ρ ρ':List Addr} {H H':Hp} {hd hd':Hd} {σd:Sd} {σ:St}
theorem bU.outE {r:Res D}{k:D→Hd→Out}{En:sj}(p:bU K ρ H (outE r σd k) En) :
    cj K (rD K) ρ H σd σ r (fun v H'=>∃ ρ' d hd',Ext ρ H ρ' H'∧RS K ρ' H' σd hd' σ ∧ RD K ρ' H' d v∧bU K ρ' H' (k d hd') En):=by
  cases r with
  | ok d h'=>exact fun b H' ρ' ex rs q=>⟨ρ',d,h',ex,rs,q,bU.ext ex p⟩
  | exc x h'=>exact p
  | bad=>exact p
theorem RSt.set (r:RSt K ρ H σd σ){d:D}{v:V}(i:Nat)(h:RD K ρ H d v):RSt K ρ H (σd.set i (some d)) (σ.set i (some v)):=by
  refine⟨by simp [r.len],fun j x e => ?_⟩
  by_cases hj:i=j
  · subst hj
    by_cases hl:i < σd.length
    · simp only [slot,List.getElem?_set_self hl] at e
      cases e
      exact⟨v,by rw [List.getElem?_set_self (by rw [← r.len];exact hl)],h⟩
    · simp only [slot] at e
      rw [List.getElem?_eq_none (by simp;omega)] at e
      cases e
  · simp only [slot,List.getElem?_set_ne hj] at e
    rw [List.getElem?_set_ne hj]
    exact r.at' j x (by simpa only [slot] using e)
def Qc (K:PySem.W.Frag) (g:GF):TG:=fun v σ H Q=>∃ ρ σd hd d σd',RS K ρ H σd hd σ ∧ RD K ρ H d v∧g d σd=some σd' ∧ ∀ σ',RS K ρ H σd' hd σ'→Q σ' H
def Om (σ:Sd) (l:List Nat) (xs:List D):Sd:=(l.zip xs).foldl (fun σ p => σ.set p.1 (some p.2)) σ
def On (K:PySem.W.Frag) (l:List Nat):TGs:=fun vs σ H Q=>∃ ρ σd hd ds,RS K ρ H σd hd σ ∧ RDs K ρ H ds vs∧ds.length=l.length ∧ ∀ σ',RS K ρ H (Om σd l ds) hd σ'→Q σ' H
end
def MG (X:Cx) (tg:Expr) (g:GF):Prop:=PG X tg (Qc X.K g)
def MGs (X:Cx) (ts:List Expr) (l:List Nat):Prop:=PGs X ts (On X.K l)
section
variable {X:Cx} {pos:Pos}
theorem PG.imp {tg:Expr}{t u:TG}(h:PG X tg t)(i:∀ v σ H Q,u v σ H Q→t v σ H Q):PG X tg u:=fun pins s σ H v w Q I r q=>h pins s σ H v w Q I r (i v σ H Q q)
theorem PGs.imp {tg:List Expr}{t u:TGs}(h:PGs X tg t)(i:∀ v σ H Q,u v σ H Q→t v σ H Q):PGs X tg u:=fun pins s σ H v w Q I r q=>h pins s σ H v w Q I r (i v σ H Q q)
theorem aP {i:Nat}{x:Str}(hN:X.N.Nodup)(hi:X.N[i]? = some x)(hx:Loc X.env.scope x)(hf:X.fn x=true∨X.env.scope.names.lookup x=some .local:=by first|exact .inl rfl|exact .inr rfl|assumption):MG X (.Name x pos) (gN i):=by
  refine PG.imp (LB hN hi hx hf) fun v σ H Q ⟨ρ,σd,hd,d,σd',rs,rv,e,q⟩ => ?_
  simp only [gN,Option.some.injEq] at e
  subst e
  exact q _ ⟨rs.hp,rs.st.set i rv⟩
theorem nA:MGs X [] []:=by
  refine PGs.imp LC fun vs σ H Q ⟨ρ,σd,hd,ds,rs,rv,e,q⟩ => ?_
  have:ds=[]:=by simpa using e
  subst this
  simp only [RDs] at rv
  exact⟨rv,q σ rs⟩
theorem em {e:Expr}{es:List Expr}{i:Nat}{l:List Nat}(h1:MG X e (gN i))(h2:MGs X es l)
    (hs:(assignEach (e :: es) X.env).map (·.2)=assign e X.env :: (assignEach es X.env).map (·.2):=by rfl):MGs X (e :: es) (i :: l):=by
  refine PGs.imp (Ip h1 h2 hs) fun vs σ H Q ⟨ρ,σd,hd,ds,rs,rv,e,q⟩ => ?_
  cases ds with
  | nil=>simp at e
  | cons d ds =>
    simp only [RDs] at rv
    obtain⟨v,r,rfl,h1,h2⟩:=rv
    refine⟨v,r,rfl,ρ,σd,hd,d,_,rs,h1,rfl,fun σ' rs' => ?_⟩
    exact⟨ρ,_,hd,ds,rs',h2,by simpa using e,fun σ2 rs2=>q σ2 rs2⟩
theorem sM {es:List Expr}{k:Nat}{l:List Nat}(hc:X.calm=true)(h:MGs X es l)
    (hn:(assignEach es X.env).length=l.length:=by rfl) (hst:(assignEach es X.env).findIdx? (·.1)=none:=by rfl):MG X (.Tuple es k pos) (gT l):=by
  refine PG.imp (NR hc h hn hst) fun v σ H Q ⟨ρ,σd,hd,d,σd',rs,rv,e,q⟩ => ?_
  cases d<;>simp only [gT] at e<;>try (cases e;done)
  rename_i xs
  split at e
  · rename_i hl
    cases e
    simp only [RD] at rv
    obtain⟨p,vs,rfl,hp,r⟩:=rv
    exact⟨p,vs,rfl,SqT.of hp,by rw [← r.length];exact hl,ρ,σd,hd,xs,rs,r,hl,q⟩
  · cases e
theorem bq:MSs X [] bD:=PSs.imp xU fun En σ H ⟨ρ,σd,hd,rs,p⟩=>p σ H ρ Ext.refl rs
theorem ag {st:Stmt}{rest:List Stmt}{a b:SF}(h1:MS X st a)(h2:MSs X rest b):MSs X (st :: rest) (aC a b):=by
  refine PSs.imp (As h1 h2) fun En σ H ⟨ρ,σd,hd,rs,p⟩=>⟨ρ,σd,hd,rs,?_⟩
  unfold aC at p
  cases e:a σd hd with
  | nx σ1 h1=>rw [e] at p;exact fun σ' H' ρ' ex rs'=>⟨ρ',σ1,h1,rs',bU.ext ex p⟩
  | rt d h1=>rw [e] at p;exact p
  | bk σ1 h1=>rw [e] at p;exact p
  | ct σ1 h1=>rw [e] at p;exact p
  | exc x σ1 h1=>rw [e] at p;exact p
  | bad=>rw [e] at p;exact p
theorem ar {st:Stmt}{a:SF}(h:MS X st a):MSs X [st] a:=xV h
theorem ji {st:Stmt}:MS X st jX:=PS.imp Im fun En σ H ⟨ρ,σd,hd,rs,p⟩=>p.elim
theorem aR {e:Expr}{f:EF}(h:ME X e f):MS X (.Return (some e) pos) (bc f):=by
  refine PS.imp (Ik h) fun En σ H ⟨ρ,σd,hd,rs,p⟩=>⟨ρ,σd,hd,rs,(bU.outE p).imp fun v H1 ⟨ρ1,d,hd1,e1,rs1,rv,p1⟩ => ?_⟩
  exact p1 v H1 ρ1 Ext.refl rs1.hp rv
theorem dJ {e:Expr}{f:EF}(h:ME X e f)(hs:swapsWith e none pos.line X.env=pure false:=by rfl):MS X (.Expr e pos) (eV f):=by
  refine PS.imp (E7 h hs) fun En σ H ⟨ρ,σd,hd,rs,p⟩=>⟨ρ,σd,hd,rs,(bU.outE p).imp fun v H1 ⟨ρ1,d,hd1,e1,rs1,rv,p1⟩ => ?_⟩
  exact p1 σ H1 ρ1 Ext.refl rs1
theorem cz {c:Expr}{a b:List Stmt}{t:TF}{fa fb:SF}(hc:MT X c t)(ha:MSs X a fa)(hb:MSs X b fb):MS X (.If c a b pos) (sIf t fa fb):=by
  refine PS.imp (Nf hc ha hb) fun En σ H ⟨ρ,σd,hd,rs,p⟩=>⟨ρ,σd,hd,rs,?_⟩
  unfold sIf at p
  cases e:t σd hd with
  | ok c h1 =>
    rw [e] at p
    intro b H' ρ' ex rs' q
    cases q
    cases c with
    | true=>simp only [if_true] at p ⊢;exact⟨ρ',σd,h1,rs',bU.ext ex p⟩
    | false=>simp only [Bool.false_eq_true,if_false] at p ⊢;exact⟨ρ',σd,h1,rs',bU.ext ex p⟩
  | exc x h1=>rw [e] at p;exact p
  | bad=>rw [e] at p;exact p
theorem aJ {i:Nat}{x:Str}{e:Expr}{f:EF}{pos':Pos}(hN:X.N.Nodup)(hi:X.N[i]? = some x)(hx:Loc X.env.scope x)(he:ME X e f)(hs:swapsWith e (some (.Name x pos')) pos.line X.env=pure false:=by rfl)(hf:X.fn x=true∨X.env.scope.names.lookup x=some .local:=by first|exact .inl rfl|exact .inr rfl|assumption) :
    MS X (.Assign [.Name x pos'] e pos) (aE (gN i) f):=by
  refine PS.imp (Ir hN hi hx he hs hf) fun En σ H ⟨ρ,σd,hd,rs,p⟩=>⟨ρ,σd,hd,rs,(bU.outE p).imp fun v H1 ⟨ρ1,d,hd1,e1,rs1,rv,p1⟩ => ?_⟩
  exact p1 _ H1 ρ1 Ext.refl ⟨rs1.hp,rs1.st.set i rv⟩
theorem Oo {tg e:Expr}{f:EF}{g:GF}(he:ME X e f)(hg:MG X tg g)(hs:swapsWithSole [tg] e pos.line X.env=pure false:=by rfl)(hw:swappedStores [tg] e X.env=pure none:=by rfl)
    (h1:(assignEach [tg] X.env).map (·.2)=[assign tg X.env]:=by rfl):MS X (.Assign [tg] e pos) (aE g f):=by
  refine PS.imp (CH he hg hs hw h1) fun En σ H ⟨ρ,σd,hd,rs,p⟩=>⟨ρ,σd,hd,rs,(bU.outE p).imp fun v H1 ⟨ρ1,d,hd1,e1,rs1,rv,p1⟩ => ?_⟩
  cases c:g d σd with
  | none=>rw [c] at p1;exact p1.elim
  | some σ1=>rw [c] at p1;exact⟨ρ1,σd,hd1,d,σ1,rs1,rv,c,fun σ' rs'=>p1 σ' H1 ρ1 Ext.refl rs'⟩
theorem Op:Fm.ixN=L2.ixN:=rfl
theorem ye {o i e:Expr}{fo fi fe:EF}{p2:Pos}(he:ME X e fe)(ho:ME X o fo)(hi:ME X i fi)(hs:swapsWithSole [.Subscript o i p2] e pos.line X.env=pure false:=by rfl)(hw:swappedStores [.Subscript o i p2] e X.env=pure none:=by rfl)
    (h1:(assignEach [.Subscript o i p2] X.env).map (·.2)=[assign (.Subscript o i p2) X.env]:=by rfl) (ha:∀ v,assign (.Subscript o i p2) X.env v=(do
      let ov ← holding [v] (eval o X.env)
      let iv ← holding [v,ov] (eval i X.env)
      standAt p2
      holding [v,ov,iv] (setItem ov iv v)
      release [v,ov,iv] []):=by intro _;rfl):MS X (.Assign [.Subscript o i p2] e pos) (oM fo fi fe):=by
  refine PS.imp (CH he (Iq ho hi IE ha) hs hw h1) fun En σ H ⟨ρ,σd,hd,rs,p⟩=>⟨ρ,σd,hd,rs,(bU.outE p).imp fun v H1 ⟨ρ1,d,hd1,e1,rs1,rv,p1⟩ => ?_⟩
  refine⟨ρ1,σd,hd1,rs1,(bU.outE p1).imp fun vo H2 ⟨ρ2,dO,hd2,e2,rs2,ro,p2⟩ => ?_⟩
  refine⟨ρ2,σd,hd2,rs2,(bU.outE p2).imp fun vi H3 ⟨ρ3,di,hd3,e3,rs3,ri,p3⟩ => ?_⟩
  have rv3:=(rv.mono (rs1.hp.kp e2)).mono (rs2.hp.kp e3)
  have ro3:=ro.mono (rs2.hp.kp e3)
  cases dO with
  | ref n =>
    cases di with
    | int j =>
      simp only at p3
      cases c:hd3[n]? with
      | none=>rw [c] at p3;exact p3.elim
      | some cell =>
        rw [c] at p3
        cases cell with
        | dct l=>exact p3.elim
        | lst l =>
          simp only at p3
          cases c2:ixN l.length j with
          | none=>rw [c2] at p3;exact p3.elim
          | some k =>
            rw [c2] at p3
            simp only [RD] at ro3 ri
            obtain⟨a,ha,rfl⟩:=ro3
            obtain⟨vs,hv,rvs⟩:=rs3.hp.cel n _ a c ha
            refine⟨a,vs,j,k,rfl,ri,hv,by rw [← rvs.length,← Op];exact c2,?_⟩
            have hn:n < hd3.length:=(List.getElem?_eq_some_iff.mp c).1
            have rh:=rs3.hp.write ha hn (RDs.set rv3 k rvs)
            have ex:Ext ρ3 H3 ρ3 (upd H3 a (.lst (vs.set k v))):=Ext.write (List.mem_of_getElem? ha)
            exact p3 σ _ ρ3 ex (rs3.ext ex rh)
    | _=>exact p3.elim
  | _=>exact p3.elim
end
section
variable (K:PySem.W.Frag)
structure oR (ρ0:List Addr) (H0:Hp) (J:It) (l:List D) (g:Option Nat):Prop where
  go:∀ ρ H hd (i:Nat) d,Ext ρ0 H0 ρ H→RH K ρ H hd→kX g l hd→l[i]? = some d→J.go i H ∧ ∀ x H',J.yld i H x H'→jU H H'∧RD K ρ H' d x
  stop:∀ ρ H hd,Ext ρ0 H0 ρ H→RH K ρ H hd→kX g l hd→J.stop l.length H
  sz:l.length≤sizeLine
def Qd (ρ:List Addr) (H:Hp) (σd:Sd) (σ:St) (r:Res (List D × Option Nat)) (R:It→Hp→Prop):Prop:=match r with
  | .ok p hd'=>∀ J H' ρ',Ext ρ H ρ' H'→RS K ρ' H' σd hd' σ → oR K ρ' H' J p.1 p.2→R J H'
  | _=>False
def Qe (f:IF):TI:=fun σ H R=>∃ ρ σd hd,RS K ρ H σd hd σ ∧ Qd K ρ H σd σ (f σd hd) R
end
def MI (X:Cx) (tg e:Expr) (f:IF):Prop:=PI X tg e (Qe X.K f)
section
variable {X:Cx} {pos:Pos} {tg:Expr}
theorem PI.imp {e:Expr}{t u:TI}(h:PI X tg e t)(i:∀ σ H R,u σ H R→t σ H R):PI X tg e u:=fun pins s σ H R I q=>h pins s σ H R I (i σ H R q)
theorem eo {iter:Expr}{body:List Stmt}{f:IF}{g:GF}{b:SF}(hp:PassesOwn (model X.prog X.w) X.A X.env X.xe)(hc:X.calm=true)(hi:MI X tg iter f)(hg:MG X tg g)(hb:MSs X body b)
    (hs:∀ x,foldedSetIterable iter X.env x=pure x:=by intro _;rfl):MS X (.For tg iter body [] pos) (dI f g b):=by
  refine PS.imp (Iw hp hc hi hg hb hs) fun En σ H ⟨ρ,σd,hd,rs,p⟩=>⟨ρ,σd,hd,rs,?_⟩
  unfold dI at p
  cases e:f σd hd with
  | exc x h'=>rw [e] at p;exact p
  | bad=>rw [e] at p;exact p
  | ok q hd1 =>
    rw [e] at p
    obtain⟨l,gd⟩:=q
    intro J H1 ρ1 ex1 rs1 wk
    simp only at p wk
    refine⟨fun i m σ' H'=>∃ ρ' σd' hd',Ext ρ1 H1 ρ' H'∧RS X.K ρ' H' σd' hd' σ'∧i≤l.length∧m=l.length - i∧bU X.K ρ' H' (gc gd l g b (l.drop i) σd' hd') En,
      ⟨l.length,ρ1,σd,hd1,Ext.refl,rs1,Nat.zero_le _,by simp,by simpa using bU.ext ex1 p⟩,?_⟩
    rintro i m σ' H' ⟨ρ',σd',hd',ex,rs',hil,rfl,pp⟩
    by_cases hlt:i < l.length
    · have hdi:l[i]? = some l[i]:=by simp [hlt]
      rw [List.drop_eq_getElem_cons hlt] at pp
      unfold gc at pp
      by_cases hh:kX gd l hd'
      · rw [if_pos hh] at pp
        obtain⟨go,yl⟩:=wk.go ρ' H' hd' i _ ex rs'.hp hh hdi
        refine .inr ⟨go,fun σ2 H2=>∃ ρ2 σd2 hd2,Ext ρ1 H1 ρ2 H2∧RS X.K ρ2 H2 σd2 hd2 σ2∧bU X.K ρ2 H2 (gc gd l g b (l.drop (i + 1)) σd2 hd2) En,
          fun σ2 H2 ⟨ρ2,σd2,hd2,a1,a2,a3⟩=>⟨l.length - (i + 1),by omega,ρ2,σd2,hd2,a1,a2,hlt,rfl,a3⟩,fun x H2 y => ?_⟩
        obtain⟨sm,rx⟩:=yl x H2 y
        cases c:g l[i] σd' with
        | none=>rw [c] at pp;exact pp.elim
        | some σd2 =>
          rw [c] at pp
          simp only at pp
          refine⟨ρ',σd',hd',l[i],σd2,rs'.same sm,rx,c,fun σ2 rs2=>⟨ρ',σd2,hd',rs2,?_⟩⟩
          have e12:Ext ρ' H' ρ' H2:=Ext.same sm
          cases c2:b σd2 hd' with
          | nx σ3 h3=>rw [c2] at pp;exact fun σ4 H4 ρ4 ex4 rs4=>⟨ρ4,σ3,h3,ex.trans (e12.trans ex4),rs4,bU.ext (e12.trans ex4) pp⟩
          | ct σ3 h3=>rw [c2] at pp;exact fun σ4 H4 ρ4 ex4 rs4=>⟨ρ4,σ3,h3,ex.trans (e12.trans ex4),rs4,bU.ext (e12.trans ex4) pp⟩
          | bk σ3 h3=>rw [c2] at pp;exact fun σ4 H4 ρ4 ex4 rs4=>pp σ4 H4 ρ4 (e12.trans ex4) rs4
          | rt d h3=>rw [c2] at pp;exact fun v H4 ρ4 ex4 rs4 rv=>pp v H4 ρ4 (e12.trans ex4) rs4 rv
          | exc x σ3 h3=>rw [c2] at pp;exact pp
          | bad=>rw [c2] at pp;exact pp
      · rw [if_neg hh] at pp;exact pp.elim
    · have e0:i=l.length:=by omega
      subst e0
      rw [List.drop_length] at pp
      unfold gc at pp
      by_cases hh:kX gd l hd'
      · rw [if_pos hh] at pp
        exact .inl ⟨wk.stop ρ' H' hd' ex rs'.hp hh,pp σ' H' ρ' Ext.refl rs'⟩
      · rw [if_neg hh] at pp;exact pp.elim
theorem IT {c:Expr}{body:List Stmt}{t:TF}{b:SF}(hp:PassesOwn (model X.prog X.w) X.A X.env X.xe)(hc:MT X c t)(hb:MSs X body b):MS X (.While c body [] pos) (sH t b):=by
  refine PS.imp (Iu hp hc hb) fun En σ H ⟨ρ,σd,hd,rs,p⟩ => ?_
  unfold sH at p
  refine⟨fun m σ' H'=>∃ ρ' σd' hd',RS X.K ρ' H' σd' hd' σ'∧bU X.K ρ' H' (eW t b m σd' hd') En,⟨LN t b σd hd,ρ,σd,hd,rs,p⟩,?_⟩
  rintro m σ' H' ⟨ρ',σd',hd',rs',pp⟩
  cases m with
  | zero=>exact pp.elim
  | succ m =>
    unfold eW at pp
    refine⟨ρ',σd',hd',rs',?_⟩
    cases e:t σd' hd' with
    | exc x h1=>rw [e] at pp;exact pp
    | bad=>rw [e] at pp;exact pp
    | ok c h1 =>
      rw [e] at pp
      intro b' H2 ρ2 ex2 rs2 q
      cases q
      cases c with
      | false=>simp only [Bool.false_eq_true,if_false] at pp ⊢;exact pp σ' H2 ρ2 ex2 rs2
      | true =>
        simp only [if_true] at pp ⊢
        refine⟨fun σ3 H3=>∃ ρ3 σd3 hd3,RS X.K ρ3 H3 σd3 hd3 σ3∧bU X.K ρ3 H3 (eW t b m σd3 hd3) En,fun σ3 H3 q=>⟨m,Nat.lt_succ_self _,q⟩,ρ2,σd',h1,rs2,?_⟩
        cases c2:b σd' h1 with
        | nx σ3 h3=>rw [c2] at pp;exact fun σ4 H4 ρ4 ex4 rs4=>⟨ρ4,σ3,h3,rs4,bU.ext (ex2.trans ex4) pp⟩
        | ct σ3 h3=>rw [c2] at pp;exact fun σ4 H4 ρ4 ex4 rs4=>⟨ρ4,σ3,h3,rs4,bU.ext (ex2.trans ex4) pp⟩
        | bk σ3 h3=>rw [c2] at pp;exact fun σ4 H4 ρ4 ex4 rs4=>pp σ4 H4 ρ4 (ex2.trans ex4) rs4
        | rt d h3=>rw [c2] at pp;exact fun v H4 ρ4 ex4 rs4 rv=>pp v H4 ρ4 (ex2.trans ex4) rs4 rv
        | exc x σ3 h3=>rw [c2] at pp;exact pp
        | bad=>rw [c2] at pp;exact pp
theorem AC {K:PySem.W.Frag}{ρ:List Addr}{H:Hp}{hd:Hd}{q:Addr}{l:List D}{vs:List V}(r:RH K ρ H hd)(hq:H q=some (.tup vs))(rv:RDs K ρ H l vs)(hz:vs.length≤sizeLine):oR K ρ H (Itt K q) l none where
  go:=fun ρ' H' hd' i d ex rh _ hi=>by
    have k:=r.kp ex
    obtain⟨v,hv,rd⟩:=(rv.mono k).get hi
    have sq:SqT K H' q vs:=SqT.of (k.tup q vs hq)
    refine⟨⟨vs,v,sq,hv⟩,fun x H2 y => ?_⟩
    obtain⟨rfl,y⟩:=y
    have:=y vs sq
    rw [hv] at this
    cases this
    exact⟨jU.refl _,rd⟩
  stop:=fun ρ' H' hd' ex rh _=>⟨vs,SqT.of ((r.kp ex).tup q vs hq),by rw [rv.length];exact Nat.le_refl _⟩
  sz:=by rw [rv.length];exact hz
theorem AD {K:PySem.W.Frag}{ρ:List Addr}{H:Hp}{hd:Hd}{q:Addr}{l:List D}{vs:List V}(r:RH K ρ H hd)(hq:qf K H q vs)(rv:RDs K ρ H l vs)(hz:vs.length≤sizeLine):oR K ρ H (Itl K q) l none where
  go:=fun ρ' H' hd' i d ex rh _ hi=>by
    have k:=r.kp ex
    obtain⟨v,hv,rd⟩:=(rv.mono k).get hi
    have sq:SqL K H' q vs:=(hq.mono k).sq
    refine⟨⟨vs,v,sq,hv⟩,fun x H2 y => ?_⟩
    obtain⟨rfl,y⟩:=y
    have:=y vs sq
    rw [hv] at this
    cases this
    exact⟨jU.refl _,rd⟩
  stop:=fun ρ' H' hd' ex rh _=>⟨vs,(hq.mono (r.kp ex)).sq,by rw [rv.length];exact Nat.le_refl _⟩
  sz:=by rw [rv.length];exact hz
theorem AE {K:PySem.W.Frag}{ρ:List Addr}{H:Hp}{n:Nat}{q:Addr}{l:List D}(hq : ρ[n]? = some q)(hz:l.length≤sizeLine):oR K ρ H (Itl K q) l (some n) where
  sz:=hz
  go:=fun ρ' H' hd' i d ex rh hl hi=>by
    obtain⟨vs,e,rv⟩:=rh.cel n _ q hl (ex.get hq)
    obtain⟨v,hv,rd⟩:=rv.get hi
    have sq:SqL K H' q vs:=SqL.of e
    refine⟨⟨vs,v,sq,hv⟩,fun x H2 y => ?_⟩
    obtain⟨rfl,y⟩:=y
    have:=y vs sq
    rw [hv] at this
    cases this
    exact⟨jU.refl _,rd⟩
  stop:=fun ρ' H' hd' ex rh hl=>by
    obtain⟨vs,e,rv⟩:=rh.cel n _ q hl (ex.get hq)
    exact⟨vs,SqL.of e,by rw [rv.length];exact Nat.le_refl _⟩
theorem IU {l:Expr}{tl:TE}(hl:PE X l tl):PI X tg l (fun σ H R=>tl σ H fun x H1=>(∃ a xs,x=.ref a∧SqL X.K H1 a xs∧(xs.length≤sizeLine→R (Itl X.K a) H1)) ∨ ∃ a xs,x=.ref a∧SqT X.K H1 a xs∧(xs.length≤sizeLine→R (Itt X.K a) H1)):=by
  intro pins s σ H R I h
  refine thn (hl pins s σ H _ I h) fun v s1 ⟨x,H1,I1,r1,q1⟩ => ?_
  rcases q1 with ⟨a,xs,e,hq,q⟩|⟨a,xs,e,hq,q⟩
  · subst e
    cases r1
    obtain⟨its,rv,p,hz⟩:=I1.list hq
    refine wpAny_pyIter_list p.isList ?_
    refine⟨s1.heap.objs.size,[s1.heap.objs.size],_,_,H1,rfl,I1.kept (t':=s1.toks) fun b o e=>Heap.get?_push_of_some _ e,FZ a _,⟨_,Heap.get?_push_size _ rfl,rfl,rfl⟩,fun b hb => ?_,q hz⟩
    have e:b=s1.heap.objs.size:=by simpa using hb
    subst e
    exact I1.fpOk (Nat.le_refl _) (I1.hok.fresh (Nat.le_refl _))
  · subst e
    cases r1
    obtain⟨its,rv,p,hz⟩:=I1.tuple hq
    refine wpAny_pyIter_tuple (show s1.heap.IsTuple a its.toArray from p) ?_
    refine⟨s1.heap.objs.size,[s1.heap.objs.size],_,_,H1,rfl,I1.kept (t':=s1.toks) fun b o e=>Heap.get?_push_of_some _ e,CJ a _,⟨_,Heap.get?_push_size _ rfl,rfl,rfl⟩,fun b hb => ?_,q hz⟩
    have e:b=s1.heap.objs.size:=by simpa using hb
    subst e
    exact I1.fpOk (Nat.le_refl _) (I1.hok.fresh (Nat.le_refl _))
theorem ft {e:Expr}{f:EF}(h:ME X e f):MI X tg e (dQ f):=by
  refine PI.imp (IU h) fun σ H R ⟨ρ,σd,hd,rs,p⟩=>⟨ρ,σd,hd,rs,?_⟩
  unfold dQ at p
  cases e:f σd hd with
  | exc x h1=>rw [e] at p;exact p
  | bad=>rw [e] at p;exact p
  | ok d hd1 =>
    rw [e] at p
    simp only [aG] at p
    intro v H1 ρ1 ex1 rs1 rv
    cases d<;>try exact p.elim
    · rename_i l
      simp only [rD,RD] at rv
      obtain⟨q,vs,rfl,hq,rvs⟩:=rv
      exact .inr ⟨q,vs,rfl,SqT.of hq,fun hz=>p _ H1 ρ1 ex1 rs1 (AC rs1.hp hq rvs hz)⟩
    · rename_i n
      simp only [rD,RD] at rv
      obtain⟨a,ha,rfl⟩:=rv
      cases c:hd1[n]? with
      | none=>simp only [c] at p;exact p.elim
      | some cell =>
        cases cell with
        | dct l=>simp only [c] at p;exact p.elim
        | lst l =>
          simp only [c] at p
          obtain⟨vs,hv,rvs⟩:=rs1.hp.cel n _ a c ha
          exact .inl ⟨a,vs,rfl,SqL.of hv,fun hz=>p _ H1 ρ1 ex1 rs1 (AE ha (by rw [rvs.length];exact hz))⟩
    · rename_i l
      simp only [rD,RD] at rv
      obtain⟨q,vs,rfl,hq,rvs⟩:=rv
      exact .inl ⟨q,vs,rfl,hq.sq,fun hz=>p _ H1 ρ1 ex1 rs1 (AD rs1.hp hq rvs hz)⟩
theorem sN {K:PySem.W.Frag}{ρ:List Addr}{H:Hp}(lo:Int)(n:Nat)(hz:n≤2000000):oR K ρ H (Itr lo n) ((List.range n).map fun k:Nat=>.int (lo + k)) none where
  go:=fun ρ' H' hd' i d ex rh _ hi=>by
    have hin:i < n:=by
      have:=(List.getElem?_eq_some_iff.mp hi).1
      simpa using this
    refine⟨hin,fun x H2 y => ?_⟩
    obtain⟨rfl,rfl⟩:=y
    have e:d=.int (lo + i):=by simpa [hin] using hi.symm
    subst e
    exact⟨jU.refl _,by simp only [RD]⟩
  stop:=fun ρ' H' hd' ex rh _=>by
    show n≤_
    simp
  sz:=by
    have:(2000000:Nat)≤sizeLine:=by rw [sizeLine_eq];decide
    simp;omega
theorem cO {a:Expr} {f:EF} {p:Pos} (hg:Gl X "range") (hm:X.mg "range" = none) (ha:ME X a f) (hs:starEach [a] X.env=[(false,eval a X.env)]:=by rfl):MI X tg (.Call (.Name "range" p) [a] [] pos) (bw f):=by
  refine PI.imp (F3 hg hm (cC ha eU hs) hs) fun σ H R ⟨ρ,σd,hd,rs,pp⟩=>⟨ρ,σd,hd,rs,?_⟩
  unfold bw at pp
  cases e:f σd hd with
  | exc x h1=>rw [e] at pp;exact pp
  | bad=>rw [e] at pp;exact pp
  | ok d hd1 =>
    rw [e] at pp
    simp only [aG] at pp
    intro v H1 ρ1 ex1 rs1 rv
    cases d<;>try exact pp.elim
    rename_i n
    simp only at pp
    simp only [rD,RD] at rv
    subst rv
    split at pp
    · rename_i hb
      refine⟨n,rfl,by omega,by omega,pp _ H1 ρ1 ex1 rs1 ?_⟩
      have:=sN (K:=X.K) (ρ := ρ1) (H:=H1) 0 n.toNat (by omega)
      simpa using this
    · exact pp.elim
theorem Ge {a b:Expr} {f g:EF} {p:Pos} (hg:Gl X "range") (hm:X.mg "range" = none) (ha:ME X a f) (hb:ME X b g) (hs:starEach [a,b] X.env=[(false,eval a X.env),(false,eval b X.env)]:=by rfl) (hs2:starEach [b] X.env=[(false,eval b X.env)]:=by rfl):MI X tg (.Call (.Name "range" p) [a,b] [] pos) (nr f g):=by
  refine PI.imp (F4 hg hm (cC ha (cC hb eU hs2) (by rw [hs,hs2])) hs hs2) fun σ H R ⟨ρ,σd,hd,rs,pp⟩=>⟨ρ,σd,hd,rs,?_⟩
  unfold nr at pp
  cases e:f σd hd with
  | exc x h1=>rw [e] at pp;exact pp
  | bad=>rw [e] at pp;exact pp
  | ok d hd1 =>
    rw [e] at pp
    simp only [aG] at pp
    intro v H1 ρ1 ex1 rs1 rv
    refine⟨ρ1,σd,hd1,rs1,?_⟩
    cases e2:g σd hd1 with
    | exc x h1=>rw [e2] at pp;exact pp
    | bad=>rw [e2] at pp;exact pp
    | ok d2 hd2 =>
      rw [e2] at pp
      simp only [aG] at pp
      intro v2 H2 ρ2 ex2 rs2 rv2
      cases d<;>try exact pp.elim
      cases d2<;>try exact pp.elim
      rename_i i j
      simp only at pp
      simp only [rD,RD] at rv rv2
      subst rv rv2
      split at pp
      · rename_i hb
        exact⟨i,j,rfl,⟨by omega,by omega,by omega,by omega⟩,pp _ H2 ρ2 (ex1.trans ex2) rs2 (sN (K:=X.K) i (j - i).toNat (by omega))⟩
      · exact pp.elim
end
end Fm
set_option linter.all false
namespace Fm
noncomputable section
open Classical
def gF (G:Hd→Prop) (tg:GF) (cs:List TF) (e:EF):List D→Sd→Hd→Res (List D)
  | [],_,h=>if G h then .ok [] h else .bad
  | x :: xs,σ,h=>if G h then match tg x σ with
      | some σ=>(kB cs σ h).bind fun b h=>if b then (e σ h).bind fun d h=>(gF G tg cs e xs σ h).bind fun ds h=>.ok (d :: ds) h
        else gF G tg cs e xs σ h
      | none=>.bad
    else .bad
end
theorem rK {g:Option Nat}{all:List D}{tg:GF}{cs:List TF}{e:EF}:∀ (xs:List D) (σ:Sd) (h:Hd),cx g all tg cs e xs σ h=gF (kX g all) tg cs e xs σ h
  | [],_,h=>by unfold cx gF;rfl
  | x :: xs,σ,h=>by
    unfold cx gF
    by_cases hh:kX g all h
    · rw [if_pos hh,if_pos hh]
      cases tg x σ with
      | none=>rfl
      | some σ'=>simp only [rK xs]
    · rw [if_neg hh,if_neg hh]
end Fm
set_option Elab.async false
set_option linter.all false
set_option maxRecDepth 100000
namespace Fm
open PySem PySem.Spec L2
section
variable {prog:Program} {w:World} {A:Around} {R:Result→Shared→Prop} {s:Shared}
theorem yf {elt target iter:Expr}{ifs:List Expr}{scope:Scope}{pos:Pos}{it acc:Value}{env:Env}{E:Value→Shared→Prop}(hE:∀ e s,¬ E e s)(I:Nat→Shared→Prop)
    (turn:∀ n s,I n s→wpAny (model prog w) A (pyNext it) (fun r s₁ => match r with
      | none=>R (.ok .next) s₁
      | some v=>wpAny (model prog w) A (letOwnedTupleGo target it v) (fun _ s₁ => wpAny (model prog w) A (assign target env v) (fun _ s₂ =>
          wpAny (model prog w) A (forIn ifs true fun c r=>if r=true then do let ok ← isTrue c env (eval c env);pure (ForInStep.yield ok) else pure (ForInStep.yield r)) (fun ok s₃ =>
            if ok=true then wpAny (model prog w) A (eval elt env) (fun x s₄ =>
              wpAny (model prog w) A (call (.builtin "list.append") [acc,x]) (fun _ s₅ => ∃ m,m < n∧I m s₅) E s₄) E s₃
            else ∃ m,m < n∧I m s₃) E s₂) E s₁) E s₁) E s)
    (n:Nat) (h:I n s) :
    codeAny (model prog w) A (.compLoop (.ListComp elt [⟨target,iter,ifs,0⟩] scope pos) 0 it acc env) R s:=by
  refine codeAny_loop rfl I (fun n s hI => ?_) n h
  show wpAny _ A ((compTurn (.ListComp elt [⟨target,iter,ifs,0⟩] scope pos) 0 it acc env).onRaise (fun x=>do noteFrame x env;theTreesLotGoes x)) _ _ s
  refine wpAny_noted ?_
  rw [compTurn_list]
  have no:∀ {α : Type} {t:Sem α} {Q Q' : α → Shared→Prop} {E':Value→Shared→Prop} {s:Shared},wpAny (model prog w) A t Q E s→(∀ a s,Q a s→Q' a s)→wpAny (model prog w) A t Q' E' s:=fun h hq=>wpAny_mono h hq fun e s z=>(hE e s z).elim
  refine wpAny_bind (wpAny_standAt (wpAny_bind (no (turn n s hI) fun r s₁ h₁ => ?_)))
  cases r with
  | none=>exact wpAny_pure h₁
  | some v =>
    refine wpAny_bind (no h₁ fun _ s₁ h₁ => ?_)
    refine wpAny_bind (no h₁ fun _ s₂ h₂ => wpAny_bind (no h₂ fun ok s₃ h₃ => ?_))
    cases ok with
    | false=>exact wpAny_pure ⟨rfl,h₃⟩
    | true =>
      exact wpAny_bind (wpAny_bind (no h₃ fun x s₄ h₄ => wpAny_bind (no h₄ fun _ s₅ h₅ => wpAny_pure (wpAny_pure ⟨rfl,h₅⟩))))
end
theorem mR {env:Env}:∀ (l:List (Str × NameKind)) (cs:List (Str × Addr)),(∀ y∈l,y.2=.free → ∃ c,env.cells.lookup y.1=some c) →
    ∃ cl,(forIn l cs fun (x:Str × NameKind) (r:List (Str × Addr))=>if (x.2 == .free)=true then do let a ← cellOf env x.1;pure (ForInStep.yield ((x.1,a) :: r)) else pure (ForInStep.yield r))=(pure cl:Sem _) ∧
      (∀ x c,cl.lookup x=some c→cs.lookup x=some c∨env.cells.lookup x=some c)∧(∀ y∈l,y.2=.free → ∃ c,cl.lookup y.1=some c) ∧ ∀ x c,cs.lookup x=some c → ∃ c',cl.lookup x=some c'
  | [],cs,_=>⟨cs,by simp,fun x c h=>.inl h,fun y hy=>by simp at hy,fun x c h=>⟨c,h⟩⟩
  | (n,k) :: l,cs,hf=>by
    by_cases hk:k=.free
    · subst hk
      obtain⟨c,hc⟩:=hf (n,.free) (by simp) rfl
      obtain⟨cl,h1,h2,h3,h4⟩:=mR l ((n,c) :: cs) fun y hy=>hf y (by simp [hy])
      refine⟨cl,?_,fun x d h => ?_,fun y hy hyf => ?_,fun x d h => ?_⟩
      · rw [List.forIn_cons]
        simp only [beq_self_eq_true,if_true,cellOf,hc]
        exact h1
      · rcases h2 x d h with q|q
        · rw [List.lookup_cons] at q
          cases e:x == n with
          | true =>
            rw [e] at q
            have:x=n:=by simpa using e
            subst this
            cases q
            exact .inr hc
          | false=>rw [e] at q;exact .inl q
        · exact .inr q
      · rcases List.mem_cons.mp hy with e|e
        · subst e
          exact h4 n c (by simp [List.lookup_cons])
        · exact h3 y e hyf
      · by_cases e:x=n
        · subst e
          exact h4 x c (by simp [List.lookup_cons])
        · exact h4 x d (by rw [List.lookup_cons,beq_eq_false_iff_ne.mpr e];exact h)
    · obtain⟨cl,h1,h2,h3,h4⟩:=mR l cs fun y hy=>hf y (by simp [hy])
      refine⟨cl,?_,h2,fun y hy hyf => ?_,h4⟩
      · rw [List.forIn_cons]
        have:(k == NameKind.free)=false:=by simpa using hk
        simp only [this,Bool.false_eq_true,if_false]
        exact h1
      · rcases List.mem_cons.mp hy with e|e
        · subst e;exact absurd hyf hk
        · exact h3 y e hyf
theorem iE {scope:Scope}{env:Env}(hf:∀ y∈scope.names,y.2=.free → ∃ c,env.cells.lookup y.1=some c) :
    ∃ cl,closureFor scope env=pure cl∧(∀ x c,cl.lookup x=some c→env.cells.lookup x=some c) ∧ ∀ y∈scope.names,y.2=.free → ∃ c,cl.lookup y.1=some c:=by
  obtain⟨cl,h1,h2,h3,_⟩:=mR scope.names [] hf
  refine⟨cl,?_,fun x c h=>(h2 x c h).elim (fun z=>by simp at z) id,h3⟩
  unfold closureFor
  have e:(forIn scope.names ([] : List (Str × Addr)) fun (x:Str × NameKind) (r:List (Str × Addr))=>if (x.2 == .free)=true then do let a ← cellOf env x.1;pure (ForInStep.yield ((x.1,a) :: r)) else pure (ForInStep.yield r))=(pure cl:Sem _):=h1
  exact (congrArg (fun t:Sem (List (Str × Addr))=>t >>= fun r=>pure r) e).trans rfl
def cxC (X:Cx) (N:List Str) (scope:Scope) (cl:List (Str × Addr)) (C:Addr) (s:Shared) (H:Hp) (ex:List Addr):Cx where
  prog:=X.prog
  w:=X.w
  K:=X.K
  mg:=X.mg
  base:=X.base
  A:=X.A
  N:=N
  s₀ := s
  H₀ := H
  env:=compEnvC scope cl C X.env
  outer:=X.stack
  stack:=X.stack
  ex:=ex
  fn:=fun _=>false
  calm:=X.calm
  pn:=[]
  xe:=fun _ _=>False
def MTs (X:Cx) (ifs:List Expr) (cs:List TF):Prop :=
  ∀ (pins:List (Addr × Obj)) (s:Shared) (σ:St) (H:Hp) (Q:Bool→Hp→Prop),Inv X pins σ H s→mM X.K rB (kB cs) σ H Q →
    wpAny (model X.prog X.w) X.A (forIn ifs true fun c r=>if r=true then do let ok ← isTrue c X.env (eval c X.env);pure (ForInStep.yield ok) else pure (ForInStep.yield r)) (TP X pins σ Q) X.xe s
theorem dL {X:Cx}:MTs X [] []:=fun pins s σ H Q I ⟨ρ,σd,hd,rs,p⟩=>wpAny_tests_nil ⟨H,I,p.here rs rfl⟩
theorem rL {X:Cx}{c:Expr}{t:TF}(h:MT X c t):MTs X [c] [t]:=fun pins s σ H Q I ⟨ρ,σd,hd,rs,p⟩=>wpAny_tests_one (h pins s σ H Q I ⟨ρ,σd,hd,rs,by
  have e:kB [t] σd hd=t σd hd:=by
    simp only [kB]
    cases c:t σd hd with
    | ok b h'=>cases b<;>simp
    | exc x h'=>rfl
    | bad=>rfl
  rw [e] at p
  exact p⟩)
theorem kY {env:Env}{x:Str}:∀ {names:List (Str × NameKind)} {k:NameKind},(names.map fun (n,k)=>if (k == NameKind.free && env.scope.kind == .function && env.kindOf n == some .cell) then (n,NameKind.cell) else (n,k)).lookup x=some k →
    ∃ k0,names.lookup x=some k0∧(k=k0∨(k0=.free∧k=.cell))
  | [],_,h=>by simp at h
  | (n,k') :: r,k,h=>by
    have ih := @kY env x r k
    have h':List.lookup x ((if (k' == NameKind.free && env.scope.kind == .function && env.kindOf n == some .cell)=true then (n,NameKind.cell) else (n,k')) :: _)=some k:=h
    cases hx:x == n with
    | true =>
      refine⟨k',by simp [List.lookup_cons,hx],?_⟩
      by_cases hc:(k' == NameKind.free && env.scope.kind == .function && env.kindOf n == some .cell)=true
      · rw [if_pos hc] at h'
        simp only [List.lookup_cons,hx,Option.some.injEq] at h'
        simp only [Bool.and_eq_true,beq_iff_eq] at hc
        exact .inr ⟨hc.1.1,h'.symm⟩
      · rw [if_neg hc] at h'
        simp only [List.lookup_cons,hx,Option.some.injEq] at h'
        exact .inl h'.symm
    | false =>
      have:List.lookup x ((n,k') :: r)=List.lookup x r:=by simp [List.lookup_cons,hx]
      rw [this]
      refine ih ?_
      by_cases hc:(k' == NameKind.free && env.scope.kind == .function && env.kindOf n == some .cell)=true
      · rw [if_pos hc] at h';simpa only [List.lookup_cons,hx] using h'
      · rw [if_neg hc] at h';simpa only [List.lookup_cons,hx] using h'
theorem iF {x:Str}{k:NameKind}:∀ {l:List (Str × NameKind)},l.lookup x=some k→(x,k)∈l
  | [],h=>by simp at h
  | (n,k') :: r,h=>by
    rw [List.lookup_cons] at h
    cases e:x == n with
    | true =>
      rw [e] at h
      have:x=n:=by simpa using e
      subst this
      cases h
      exact List.mem_cons_self
    | false=>rw [e] at h;exact List.mem_cons_of_mem _ (iF h)
structure bX (X:Cx) (scope:Scope) (own capn:List Str) (caps:List Nat):Prop where
  kind:scope.kind=.function
  cell:∀ y∈scope.names,y.2 ≠ .cell
  names:∀ y∈scope.names,y.2=.local→scope.names.lookup y.1=some .local
  free:∀ y∈scope.names,y.2=.free→X.env.kindOf y.1=some .cell∨X.env.kindOf y.1=some .free
  cap:∀ (j:Nat) x,capn[j]? = some x → ∃ i,caps[j]? = some i∧X.N[i]? = some x∧scope.names.lookup x=some .free
  len:capn.length=caps.length
section
variable {X:Cx} {pins:List (Addr × Obj)} {σ:St} {H1:Hp} {s2:Shared} {scope:Scope} {own capn:List Str} {caps:List Nat} {cl:List (Str × Addr)} {C:Addr} {ex:List Addr}
def stC (own:List Str) (caps:List Nat) (σ:St):St:=List.replicate own.length none++caps.map fun i=>(σ[i]?).join
theorem Oq (I:Inv X pins σ H1 s2)(S:bX X scope own capn caps)(hC:s2.heap.objs.size≤C)(hcl1:∀ x c,cl.lookup x=some c→X.env.cells.lookup x=some c)(hcl2:∀ y∈scope.names,y.2=.free → ∃ c,cl.lookup y.1=some c)
    (hf:∀ b∈ex,sr X pins H1 b) (hlt:∀ b∈ex,b < s2.heap.objs.size):(cxC X (own++capn) scope cl C s2 H1 ex).Ok where
  mod:=I.ok.mod
  kind:=S.kind
  glob:=I.ok.glob
  blt:=I.ok.blt
  above:=hC
  inj:=fun x y c h1 h2=>I.ok.inj x y c (hcl1 x c h1) (hcl1 y c h2)
  has:=fun x hx=>by
    have key:∀ k,(relabel scope X.env).names.lookup x=some k→k=.cell∨k=.free → ∃ c,cl.lookup x=some c:=fun k h hk=>by
      obtain⟨k0,h0,q⟩:=kY h
      have hm:=iF h0
      have:k0=.free:=by
        rcases q with q|q
        · subst q
          rcases hk with e|e
          · exact absurd e (S.cell _ hm)
          · exact e
        · exact q.1
      exact hcl2 _ hm this
    rcases hx with h|h
    · exact key _ h (.inl rfl)
    · exact key _ h (.inr rfl)
  cab:=fun x c h=>by cases h
  hd:=I.ok.hd
  frames:=I.ok.frames
  stk:=.inl rfl
  exf:=fun b hb=>by
    obtain⟨f0,f1,f2,f3,f4,f5⟩:=hf b hb
    exact⟨fun z=>absurd (Nat.lt_of_lt_of_le (hlt b hb) hC) (by rw [z];exact Nat.lt_irrefl _),fun x c e=>f4 x c (hcl1 x c e)⟩
  bs:=I.bs
  bsz:=Nat.le_trans I.ok.bsz I.sz
  noex:=fun b o e hb=>by
    obtain⟨f0,f1,f2,f3,f4,f5⟩:=hf b hb
    rcases f3 with z|z
    · exact I.ok.noex b o e z
    · exact absurd (Nat.lt_of_lt_of_le (Heap.lt_size (I.ok.bs b o e).1) z) (Nat.lt_irrefl _)
  exfs:=fun b hb hs=>by
    obtain⟨f0,f1,f2,f3,f4,f5⟩:=hf b hb
    rcases List.mem_cons.mp (I.stkSub b hs) with z|z
    · exact f1 z
    · exact f2 z
  funs:=I.stack
  frf:=I.stkFree
theorem nB {env:Env}{x:Str}:∀ {names:List (Str × NameKind)},names.lookup x=some .free →
    (names.map fun (n,k)=>if (k == NameKind.free && env.scope.kind == .function && env.kindOf n == some .cell) then (n,NameKind.cell) else (n,k)).lookup x=some .cell ∨
    (names.map fun (n,k)=>if (k == NameKind.free && env.scope.kind == .function && env.kindOf n == some .cell) then (n,NameKind.cell) else (n,k)).lookup x=some .free
  | [],h=>by simp at h
  | (n,k') :: r,h=>by
    have ih := @nB env x r
    show List.lookup x ((if (k' == NameKind.free && env.scope.kind == .function && env.kindOf n == some .cell)=true then (n,NameKind.cell) else (n,k')) :: _)=_∨List.lookup x ((if (k' == NameKind.free && env.scope.kind == .function && env.kindOf n == some .cell)=true then (n,NameKind.cell) else (n,k')) :: _)=_
    cases hx:x == n with
    | true =>
      simp only [List.lookup_cons,hx,Option.some.injEq] at h
      subst h
      by_cases hc:(NameKind.free == NameKind.free && env.scope.kind == .function && env.kindOf n == some .cell)=true
      · rw [if_pos hc];exact .inl (by simp only [List.lookup_cons,hx])
      · rw [if_neg hc];exact .inr (by simp only [List.lookup_cons,hx])
    | false =>
      simp only [List.lookup_cons,hx] at h
      by_cases hc:(k' == NameKind.free && env.scope.kind == .function && env.kindOf n == some .cell)=true
      · rw [if_pos hc];simp only [List.lookup_cons,hx];exact ih h
      · rw [if_neg hc];simp only [List.lookup_cons,hx];exact ih h
theorem LR {i:Nat}{v:V}(h:(stC own caps σ)[i]? = some (some v)):∃ j k,i=own.length + j∧caps[j]? = some k ∧ σ[k]? = some (some v):=by
  unfold stC at h
  by_cases hi:i < own.length
  · rw [List.getElem?_append_left (by simpa using hi)] at h
    simp [hi] at h
  · rw [List.getElem?_append_right (by simpa using Nat.le_of_not_lt hi)] at h
    simp only [List.length_replicate,List.getElem?_map] at h
    cases c:caps[i - own.length]? with
    | none=>rw [c] at h;cases h
    | some k =>
      rw [c] at h
      simp only [Option.map_some,Option.some.injEq] at h
      refine⟨i - own.length,k,by omega,c,?_⟩
      cases e : σ[k]? with
      | none=>rw [e] at h;cases h
      | some o=>rw [e] at h;simp only [Option.join_some] at h;rw [h]
theorem Gf (I:Inv X pins σ H1 s2)(S:bX X scope own capn caps)(hC:s2.heap.objs.size < C)(hcl1:∀ x c,cl.lookup x=some c→X.env.cells.lookup x=some c)(hcl2:∀ y∈scope.names,y.2=.free → ∃ c,cl.lookup y.1=some c)
    (hf:∀ b∈ex,sr X pins H1 b) (hlt:∀ b∈ex,b < s2.heap.objs.size) {h1:Heap} {m:Str→Option Value} {tk:Nat} (hn:h1.Ns C m) (hk:∀ b o,s2.heap.get? b=some o→h1.get? b=some o)
    (hD:h1.get? s2.heap.objs.size=some { cls:=.type "list",data:=.seq #[] }) :
    Inv (cxC X (own++capn) scope cl C s2 H1 ex) [] (stC own caps σ) (upd H1 s2.heap.objs.size (.lst [])) { s2 with heap:=h1,toks:=tk } where
  ok:=Oq I S (Nat.le_of_lt hC) hcl1 hcl2 hf hlt
  os:=rfl
  bare:=I.bare
  base:=Un.laid hk (Nat.le_refl _) (I.hok.fresh (Nat.le_refl _))
  loc:=by
    refine⟨m,hn,fun i x v e1 e2 e3 => ?_⟩
    obtain⟨j,k,rfl,hj,hk'⟩:=LR e2
    have e1':capn[j]? = some x:=by
      have:(own++capn)[own.length + j]? = some x:=e1
      rw [List.getElem?_append_right (by omega)] at this
      simpa using this
    obtain⟨k2,q1,q2,q3⟩:=S.cap j x e1'
    rw [hj] at q1;cases q1
    have hm:=iF q3
    have kd:=S.free _ hm rfl
    obtain⟨m0,hn0,hl⟩:=I.loc
    obtain⟨u,r,lk⟩:=hl k x v q2 hk' (.inr kd)
    refine⟨u,r,.inr ⟨nB q3,?_⟩⟩
    rcases lk with ⟨z,_⟩|⟨_,c,hc,o,ho,hd⟩
    · rcases kd with e|e<;>(rw [z] at e;cases e)
    · obtain⟨c',hc'⟩:=hcl2 _ hm rfl
      have:=hcl1 _ _ hc'
      rw [hc] at this
      cases this
      exact⟨c,hc',o,hk c o ho,hd⟩
  cell:=fun x c e=>by
    obtain⟨v,o,ho,hd⟩:=I.cell x c (hcl1 x c e)
    exact⟨v,o,hk c o ho,hd⟩
  free:=by
    show upd H1 _ _ C=none
    rw [aB (Nat.ne_of_gt hC)]
    exact I.hok.fresh (Nat.le_of_lt hC)
  freeC:=fun x c e=>by
    obtain⟨v,o,ho,hd⟩:=I.cell x c (hcl1 x c e)
    rw [aB (Nat.ne_of_lt (Heap.lt_size ho))]
    exact I.freeC x c (hcl1 x c e)
  pin:=fun p hp=>absurd (show p∈([] : List (Addr × Obj)) from hp) (by simp)
  hok:=I.hok.laid hk (Nat.le_refl _) ⟨Nat.zero_le _,[],0,.nil,hD⟩
  len:=by
    show (stC own caps σ).length=(own++capn).length
    simp [stC,S.len]
end
theorem RS.other {K:PySem.W.Frag}{ρ:List Addr}{H:Hp}{σd:Sd}{hd:Hd}{σ:St}{d:Addr}{ys zs:List V}(r:RS K ρ H σd hd σ)(h:H d=some (.lst ys))(n:d ∉ ρ):RS K ρ (upd H d (.lst zs)) σd hd σ ∧ Kp ρ H ρ (upd H d (.lst zs)):=by
  have k:Kp ρ H ρ (upd H d (.lst zs)):=⟨fun _ _ h=>h,fun a us e=>by
    rw [aB (fun z=>by rw [z,h] at e;cases e)];exact e,fun a o u e=>by
    rw [aB (fun z=>by rw [z,h] at e;cases e)];exact e,fun a φ e=>by
    rw [aB (fun z=>by rw [z,h] at e;cases e)];exact e⟩
  refine⟨⟨⟨r.hp.len,r.hp.nd,fun m c a h1 h2=>(r.hp.cel m c a h1 h2).mono k (aB fun z=>n (by rw [← z];exact List.mem_of_getElem? h2))⟩,r.st.mono k⟩,k⟩
theorem Ext.other {ρ ρ':List Addr}{H H':Hp}{d:Addr}{o:HO}(e:Ext ρ H ρ' H')(h:H d=none):Ext ρ H ρ' (upd H' d o) :=
  ⟨e.pre,e.new,fun p u hp n=>by rw [aB (aU hp h)];exact e.frame p u hp n⟩
theorem AF {nl:Nat}{caps:List Nat}{σd:Sd}{i:Nat}{d:D}(h:slot (fQ nl caps σd) i=some d):∃ j k,i=nl + j∧caps[j]? = some k∧slot σd k=some d:=by
  unfold fQ at h
  simp only [slot] at h
  by_cases hi:i < nl
  · rw [List.getElem?_append_left (by simpa using hi)] at h
    simp [hi] at h
  · rw [List.getElem?_append_right (by simpa using Nat.le_of_not_lt hi)] at h
    simp only [List.length_replicate,List.getElem?_map] at h
    cases c:caps[i - nl]? with
    | none=>rw [c] at h;cases h
    | some k =>
      rw [c] at h
      simp only [Option.map_some] at h
      refine⟨i - nl,k,by omega,c,?_⟩
      simp only [slot]
      revert h
      cases e : σd[k]? with
      | none=>simp
      | some o=>cases o<;>simp
structure AG (K:PySem.W.Frag) (ρ0:List Addr) (H0:Hp) (J:It) (l:List D) (G:Hd→Prop):Prop where
  go:∀ ρ H hd (i:Nat) d,Ext ρ0 H0 ρ H→RH K ρ H hd→G hd→l[i]? = some d→J.go i H ∧ ∀ x H',J.yld i H x H'→jU H H'∧RD K ρ H' d x
  stop:∀ ρ H hd,Ext ρ0 H0 ρ H→RH K ρ H hd→G hd→J.stop l.length H
  sz:l.length≤sizeLine
theorem oR.g {K:PySem.W.Frag}{ρ:List Addr}{H:Hp}{J:It}{l:List D}{g:Option Nat}(w:oR K ρ H J l g):AG K ρ H J l (kX g l):=⟨w.go,w.stop,w.sz⟩
structure CD where
  i:Nat
  ys:List V
  acc:List D
  rest:List D
  ρ:List Addr
  σd:Sd
  hd:Hd
  H:Hp
  σ:St
structure CI (X:Cx) (own capn:List Str) (scope:Scope) (cl:List (Str × Addr)) (s2:Shared) (C:Addr) (H1:Hp) (ρ1:List Addr) (fp:List Addr) (tn:Nat→Heap→Prop) (G:Hd→Prop) (g:GF) (cs:List TF) (e:EF) (l:List D) (hdF:Hd) (ds:List D) (d:CD) (s':Shared):Prop where
  le:d.i≤l.length
  inv:Inv (cxC X (own++capn) scope cl C s2 H1 fp) [] d.σ d.H s'
  st:tn d.i s'.heap
  fr:∀ b∈fp,d.H b=none
  at':d.H s2.heap.objs.size=some (.lst d.ys)
  out:s2.heap.objs.size∉d.ρ
  yl:d.ys.length≤d.i
  ex:Ext ρ1 H1 d.ρ d.H
  rs:RS X.K d.ρ d.H d.σd d.hd d.σ
  ac:RDs X.K d.ρ d.H d.acc d.ys
  run:gF G g cs e (l.drop d.i) d.σd d.hd=.ok d.rest hdF
  eq:d.acc++d.rest=ds
section
variable {X:Cx} {pins:List (Addr × Obj)} {σ:St} {H1:Hp} {s2:Shared} {scope:Scope} {own capn:List Str} {caps:List Nat} {cl:List (Str × Addr)}
theorem CT {ρ1:List Addr}{σd:Sd}{hd1:Hd}(S:bX X scope own capn caps)(r:RS X.K ρ1 H1 σd hd1 σ){d:Addr}(hd:H1 d=none):RS X.K ρ1 (upd H1 d (.lst [])) (fQ own.length caps σd) hd1 (stC own caps σ):=by
  have sm:=cy (o:=HO.lst []) hd
  refine⟨r.hp.same sm,⟨by simp [stC,fQ],fun i x e => ?_⟩⟩
  obtain⟨j,k,rfl,hj,hs⟩:=AF e
  obtain⟨v,h1,h2⟩:=r.st.at' k x hs
  refine⟨v,?_,h2.mono (Kp.same sm)⟩
  unfold stC
  rw [List.getElem?_append_right (by simp)]
  simp [hj,h1]
theorem lZ {elt tg iter:Expr}{ifs:List Expr}{pos:Pos}{it:Addr}{fp:List Addr}{tn:Nat→Heap→Prop}{J:It}{l:List D}{G:Hd→Prop}{g:GF}{cs:List TF}{e:EF}{ρ1:List Addr}{σd:Sd}{hd1 hdF:Hd}{ds:List D}{E:Value→Shared→Prop}{RR:Value→Addr→Result→Shared→Prop}
    (hc:X.calm=true) (S:bX X scope own capn caps) (hin:∀ cl C s H ex,MG (cxC X (own++capn) scope cl C s H ex) tg g∧MTs (cxC X (own++capn) scope cl C s H ex) ifs cs∧ME (cxC X (own++capn) scope cl C s H ex) elt e)
    (I1:Inv X pins σ H1 s2) (T:At X.prog X.w X.K tg J fp it tn) (st0:tn 0 s2.heap) (hf:∀ b∈fp,sr X pins H1 b) (rs1:RS X.K ρ1 H1 σd hd1 σ) (wk:AG X.K ρ1 H1 J l G)
    (hcl1:∀ x c,cl.lookup x=some c→X.env.cells.lookup x=some c) (hcl2:∀ y∈scope.names,y.2=.free → ∃ c,cl.lookup y.1=some c)
    (run:gF G g cs e l (fQ own.length caps σd) hd1=.ok ds hdF)
    (hRR:∀ C s' m H' ρ' vs,s2.heap.objs.size < C→s'.heap.Ns C m→Inv X pins σ H' s'→H' C=none→Ext ρ1 H1 ρ' H'→RH X.K ρ' H' hdF→H1 s2.heap.objs.size=none→H' s2.heap.objs.size=some (.lst vs)→s2.heap.objs.size ∉ ρ'→RDs X.K ρ' H' ds vs →
      RR (.ref s2.heap.objs.size) C (.ok .next) s') :
    wpAny (model X.prog X.w) X.A (newList []) (fun acc s₃ => wpAny (model X.prog X.w) X.A (newFunctionEnv scope X.env.globals cl [] X.env.qual none .none (some X.env)) (fun cenv s₄ =>
      codeAny (model X.prog X.w) X.A (.compStart (.ListComp elt [⟨tg,iter,ifs,0⟩] scope pos) 0 (.ref it) acc { cenv with scope:=relabel scope X.env }) (RR acc cenv.locals) s₄) E s₃) E s2:=by
  refine wpAny_newObj_type (wpAny_newFunctionEnv S.cell (by intro y hy;simp at hy) (fun h₁ hns₁ hsb₁ => ?_) S.kind)
  dsimp only at hns₁ hsb₁ ⊢
  generalize hH2:s2.heap.push { cls:=.type "list",dict:=none,data:=.seq ([] : List Value).toArray } = H2 at hns₁ hsb₁ ⊢
  have hC:H2.objs.size=s2.heap.objs.size + 1:=by rw [← hH2,Heap.size_push]
  have hDC:s2.heap.objs.size≠H2.objs.size:=by rw [hC];exact Nat.ne_of_lt (Nat.lt_succ_self _)
  have old:∀ b o,s2.heap.get? b=some o→h₁.get? b=some o:=fun b o e=>hsb₁.extBut b o (by rw [hC];exact Nat.ne_of_lt (Nat.lt_succ_of_lt (Heap.lt_size e))) (Heap.get?_push_of_some _ (hH2 ▸ Heap.get?_push_of_some _ e))
  have hacc:h₁.get? s2.heap.objs.size=some { cls:=.type "list",data:=.seq #[] }:=hsb₁.extBut _ _ hDC (Heap.get?_push_of_some _ (hH2 ▸ Heap.get?_push_size _ rfl))
  have hlt:∀ b∈fp,b < s2.heap.objs.size:=fun b hb=>by
    obtain⟨o,ho,_⟩:=T.obj 0 _ st0 b hb
    exact Heap.lt_size ho
  have hCl:s2.heap.objs.size < H2.objs.size:=by rw [hC];exact Nat.lt_succ_self _
  have hD0:H1 s2.heap.objs.size=none:=I1.hok.fresh (Nat.le_refl _)
  have st1:tn 0 h₁ := T.keep 0 _ _ st0 fun b hb o e=>old b o e
  have hn1:s2.heap.objs.size ∉ ρ1:=rs1.hp.free hD0
  obtain⟨hG,hT,hE⟩:=hin cl H2.objs.size s2 H1 fp
  have I':=Gf (tk:=s2.toks + ([] : List (Str × Value)).length) I1 S hCl hcl1 hcl2 hf hlt hns₁ old hacc
  have fpC:∀ {pins':List (Addr × Obj)} {H':Hp},(∀ b∈fp,H' b=none) → ∀ b∈fp,sr (cxC X (own++capn) scope cl H2.objs.size s2 H1 fp) [] H' b:=fun {pins' H'} hn b hb=>by
    obtain⟨f0,f1,f2,f3,f4,f5⟩:=hf b hb
    have lt:=hlt b hb
    refine⟨hn b hb,fun z=>absurd lt (by rw [show b=H2.objs.size from z,hC];exact Nat.not_lt.mpr (Nat.le_succ _)),fun z => ?_,.inl hb,fun x c e=>f4 x c (hcl1 x c e),fun p hp=>absurd (show p∈([] : List (Addr × Obj)) from hp) (by simp)⟩
    rcases List.mem_cons.mp (I1.stkSub b z) with q|q
    · exact f1 q
    · exact f2 q
  have loop:∀ s₃ : Shared,s₃ = { s2 with heap:=h₁,toks:=s2.toks + ([] : List (Str × Value)).length } →
      codeAny (model X.prog X.w) X.A (.compLoop (.ListComp elt [⟨tg,iter,ifs,0⟩] scope pos) 0 (.ref it) (.ref s2.heap.objs.size) (compEnvC scope cl H2.objs.size X.env)) (RR (.ref s2.heap.objs.size) H2.objs.size) s₃ := by
    rintro s₃ rfl
    refine yf (E:=fun _ _=>False) (fun _ _ z=>z) (fun n s'=>∃ d:CD,n=l.length - d.i∧CI X own capn scope cl s2 H2.objs.size H1 ρ1 fp tn G g cs e l hdF ds d s') ?_ l.length
      ⟨⟨0,[],[],ds,ρ1,_,hd1,_,_⟩,by simp,Nat.zero_le _,I',st1,fun b hb => ?_,bf,hn1,Nat.le_refl _,Ext.same (cy hD0),CT S rs1 hD0,RDs.nil,by simpa using run,rfl⟩
    · rintro n s' ⟨⟨i,ys,acc,rest,ρ',σd',hd',H',σ'⟩,rfl,ci⟩
      have hil:i≤l.length:=ci.le
      have I':Inv (cxC X (own++capn) scope cl H2.objs.size s2 H1 fp) [] σ' H' s':=ci.inv
      have stn:tn i s'.heap:=ci.st
      have hfp:∀ b∈fp,H' b=none:=ci.fr
      have hDy:H' s2.heap.objs.size=some (.lst ys):=ci.at'
      have hnD:s2.heap.objs.size ∉ ρ':=ci.out
      have hyl:ys.length≤i:=ci.yl
      have ex:Ext ρ1 H1 ρ' H':=ci.ex
      have rs':RS X.K ρ' H' σd' hd' σ':=ci.rs
      have racc:RDs X.K ρ' H' acc ys:=ci.ac
      have hrun:gF G g cs e (l.drop i) σd' hd'=.ok rest hdF:=ci.run
      have hds:acc++rest=ds:=ci.eq
      by_cases hlt':i < l.length
      · have hdi:l[i]? = some l[i]:=by simp [hlt']
        rw [List.drop_eq_getElem_cons hlt'] at hrun
        unfold gF at hrun
        by_cases hh:G hd'
        · rw [if_pos hh] at hrun
          obtain⟨go,yl⟩:=wk.go ρ' H' hd' i _ ex rs'.hp hh hdi
          cases c:g l[i] σd' with
          | none=>rw [c] at hrun;cases hrun
          | some σd2 =>
            rw [c] at hrun
            simp only at hrun
            refine thn (T.item (cxC X (own++capn) scope cl H2.objs.size s2 H1 fp) rfl rfl rfl hc i [] s' σ' H' (fun _ _=>False) I' (fpC (pins':=[]) hfp) stn go) fun r s₁ ⟨u,hr,h4⟩ => ?_
            subst hr
            refine thn h4 fun _ s5 ⟨x,H5,I5,r5,y5,st5,fr5⟩ => ?_
            obtain⟨sm,rx⟩:=yl x H5 y5
            have I5':=I5.pinned (fpC (pins':=[]) fr5) (T.obj _ _ st5)
            have rs5:=rs'.same sm
            have hDy5:=sm _ _ hDy
            refine thn (hG _ s5 σ' H5 x u (fun σ6 H6=>H6=H5∧RS X.K ρ' H5 σd2 hd' σ6) I5' r5 ⟨ρ',σd',hd',l[i],σd2,rs5,rx,c,fun σ6 rs6=>⟨rfl,rs6⟩⟩) fun _ s6 ⟨σ6,H6,I6,hH6,rs6⟩ => ?_
            subst hH6
            cases c2:kB cs σd2 hd' with
            | exc z h7=>rw [c2] at hrun;cases hrun
            | bad=>rw [c2] at hrun;cases hrun
            | ok b hd7 =>
              rw [c2] at hrun
              simp only [aG] at hrun
              refine thn (hT _ s6 σ6 H6 (fun b' H7=>b'=b ∧ ∃ ρ7,Ext ρ' H6 ρ7 H7∧RS X.K ρ7 H7 σd2 hd7 σ6) I6 ⟨ρ',σd2,hd',rs6,by
                rw [c2]
                exact fun b' H7 ρ7 ex7 rs7 q=>⟨q.symm,ρ7,ex7,rs7⟩⟩) fun b' s7 ⟨H7,I7,hb',ρ7,ex7,rs7⟩ => ?_
              subst hb'
              have stay:∀ {σ8:St} {H8:Hp} {s8:Shared},Inv (cxC X (own++capn) scope cl H2.objs.size s2 H1 fp) ([]++sw fp s5.heap) σ8 H8 s8→tn (i + 1) s8.heap ∧ ∀ b∈fp,H8 b=none:=fun {σ8 H8 s8} I8 =>
                ⟨T.keep _ _ _ st5 fun b hb o e=>(I8.pin (b,o) (List.mem_append_right _ (List.mem_append_right _ (jT hb e)))).1,fun b hb=>by
                  obtain⟨o,e,d⟩:=T.obj _ _ st5 b hb
                  exact (I8.pin (b,o) (List.mem_append_right _ (List.mem_append_right _ (jT hb e)))).2.1⟩
              have ex5:Ext ρ' H' ρ7 H7:=(Ext.same sm).trans ex7
              have hDy7:H7 s2.heap.objs.size=some (.lst ys):=ex5.frame _ _ hDy hnD
              have hnD7:=ex5.out hDy hnD
              have racc7:=racc.mono (rs'.hp.kp ex5)
              cases b' with
              | false =>
                simp only [Bool.false_eq_true,if_false] at hrun ⊢
                obtain⟨st8,f8⟩:=stay I7
                exact⟨l.length - (i + 1),by omega,⟨i + 1,ys,acc,rest,ρ7,σd2,hd7,H7,σ6⟩,rfl,hlt',I7.unpinned,st8,f8,hDy7,hnD7,Nat.le_succ_of_le hyl,ex.trans ex5,rs7,racc7,hrun,hds⟩
              | true =>
                simp only [if_true] at hrun ⊢
                cases c3:e σd2 hd7 with
                | exc z h7=>rw [c3] at hrun;cases hrun
                | bad=>rw [c3] at hrun;cases hrun
                | ok d hd8 =>
                  rw [c3] at hrun
                  simp only [aG] at hrun
                  cases c4:gF G g cs e (l.drop (i + 1)) σd2 hd8 with
                  | exc z h7=>rw [c4] at hrun;cases hrun
                  | bad=>rw [c4] at hrun;cases hrun
                  | ok rest' hd9 =>
                    rw [c4] at hrun
                    simp only [aG,Res.ok.injEq] at hrun
                    obtain⟨hrest,hF⟩:=hrun
                    subst hrest hF
                    refine thn (hE _ s7 σ6 H7 (fun v H8=>∃ ρ8,Ext ρ7 H7 ρ8 H8∧RS X.K ρ8 H8 σd2 hd8 σ6∧RD X.K ρ8 H8 d v) I7 ⟨ρ7,σd2,hd7,rs7,by
                      rw [c3]
                      exact fun v H8 ρ8 ex8 rs8 q=>⟨ρ8,ex8,rs8,q⟩⟩) fun u8 s8 ⟨v8,H8,I8,r8,ρ8,ex8,rs8,rd8⟩ => ?_
                    have hDy8:H8 s2.heap.objs.size=some (.lst ys):=ex8.frame _ _ hDy7 hnD7
                    have hnD8:=ex8.out hDy7 hnD7
                    refine thn (wZ _ s8 σ6 H8 (.ref s2.heap.objs.size) [v8] (.ref s2.heap.objs.size) [u8] (fun _ H9=>H9=upd H8 s2.heap.objs.size (.lst (ys++[v8]))) I8 rfl (.cons r8 .nil) ⟨_,ys,v8,rfl,rfl,hDy8,by have:=wk.sz;omega,rfl⟩) fun u9 s9 ⟨v9,H9,I9,r9,q9⟩ => ?_
                    subst q9
                    obtain⟨st9,f9⟩:=stay I9
                    obtain⟨rs9,k9⟩:=rs8.other (zs:=ys++[v8]) hDy8 hnD8
                    exact⟨l.length - (i + 1),by omega,⟨i + 1,ys++[v8],acc++[d],rest',ρ8,σd2,hd8,_,σ6⟩,rfl,hlt',I9.unpinned,st9,f9,bf,hnD8,by simp;exact hyl,(ex.trans (ex5.trans ex8)).other hD0,rs9,
                      ((racc7.mono (rs7.hp.kp ex8)).mono k9).append (RDs.cons (rd8.mono k9) RDs.nil),c4,by rw [← hds];simp⟩
        · rw [if_neg hh] at hrun;cases hrun
      · have e0:i=l.length:=by omega
        subst e0
        rw [List.drop_length] at hrun
        unfold gF at hrun
        by_cases hh:G hd'
        · rw [if_pos hh] at hrun
          simp only [Res.ok.injEq] at hrun
          obtain⟨hrest,hF⟩:=hrun
          subst hrest hF
          rw [List.append_nil] at hds
          subst hds
          refine thn (T.done (cxC X (own++capn) scope cl H2.objs.size s2 H1 fp) rfl rfl rfl hc _ [] s' σ' H' (fun _ _=>False) I' (fpC (pins':=[]) hfp) stn (wk.stop ρ' H' hd' ex rs'.hp hh)) fun r s₁ ⟨hr,I4⟩ => ?_
          subst hr
          obtain⟨m,hm,_⟩:=I4.loc
          refine hRR H2.objs.size s₁ m H' ρ' ys hCl hm ?_ I4.free ex rs'.hp hD0 hDy hnD racc
          exact I1.call' I4.os I4.base I4.hok I4.bare fun b hb=>by
            obtain⟨f0,f1,f2,f3,f4,f5⟩:=hf b hb
            exact⟨f3,f1,f4,f5⟩
        · rw [if_neg hh] at hrun;cases hrun
    · show upd H1 _ _ b=none
      rw [aB (Nat.ne_of_lt (hlt b hb))]
      exact (hf b hb).1
  exact codeAny_compStart_list (loop _ rfl) (T.self _ 0 _ _ _ st1 (loop _ rfl))
end
section
variable {X:Cx} {pos:Pos} {scope:Scope} {own capn:List Str} {caps:List Nat}
theorem fh {elt tg iter:Expr}{ifs:List Expr}{f:IF}{g:GF}{cs:List TF}{e:EF}(hc:X.calm=true)(S:bX X scope own capn caps)(hi:MI X tg iter f)
    (hin:∀ cl C s H ex,MG (cxC X (own++capn) scope cl C s H ex) tg g∧MTs (cxC X (own++capn) scope cl C s H ex) ifs cs∧ME (cxC X (own++capn) scope cl C s H ex) elt e)
    (hs:∀ x,foldedSetIterable iter X.env x=pure x:=by intro _;rfl):MF X (.ListComp elt [⟨tg,iter,ifs,0⟩] scope pos) (bN own.length caps f g cs e):=by
  intro pins s σ H Q I ⟨ρ,σd,hd,rs,p⟩
  rw [eval_ListComp]
  unfold bN at p
  cases c:f σd hd with
  | exc z h7=>rw [c] at p;exact p.elim
  | bad=>rw [c] at p;exact p.elim
  | ok q hd1 =>
    obtain⟨l,gd⟩:=q
    rw [c] at p
    simp only [aG] at p
    obtain⟨cl,h1,hcl1,hcl2⟩:=iE (scope:=scope) (env:=X.env) fun y hy hyf=>I.ok.has y.1 (S.free y hy hyf)
    refine wpAny_comprehension_free (use:=none) rfl hs h1 S.kind S.names (thn (hi pins s σ H (fun J H1=>∃ ρ1,Ext ρ H ρ1 H1∧RS X.K ρ1 H1 σd hd1 σ ∧ oR X.K ρ1 H1 J l gd) I ⟨ρ,σd,hd,rs,by
      rw [c]
      exact fun J H' ρ' ex rs' wk=>⟨ρ',ex,rs',wk⟩⟩) fun v s1 h1=>thn h1 fun itv s2 h2 => ?_)
    obtain⟨it,fp,tn,J,H1,rfl,I1,T,st0,hf,ρ1,ex1,rs1,wk⟩:=h2
    cases c2:cx gd l g cs e l (fQ own.length caps σd) hd1 with
    | exc z h7=>rw [c2] at p;exact p.elim
    | bad=>rw [c2] at p;exact p.elim
    | ok ds hdF =>
      rw [c2] at p
      refine lZ (RR:=fun acc C=>compPost (model X.prog X.w) X.A X.xe none (EP X pins σ Q) acc C) hc S hin I1 T st0 hf rs1 wk.g hcl1 hcl2 ((rK _ _ _).symm.trans c2) fun C s' m H' ρ' vs hC hn I' hCn ex rh hD0 hD hnD rds => ?_
      refine⟨m,hn,fun h' sb=>⟨.ref s2.heap.objs.size,H',?_,rfl,?_⟩⟩
      · refine I'.turned (it:=C) (t':=s'.toks) (fun b o hb e=>(sb.2 b hb).trans e) hCn ?_ (.inr (Nat.le_of_lt (Nat.lt_of_le_of_lt I1.sz hC))) (fun x c e z => ?_) fun q hq z => ?_
        · exact Nat.ne_of_gt (Nat.lt_trans I1.lt hC)
        · obtain⟨v,o,ho,hd⟩:=I1.cell x c e
          exact absurd (Nat.lt_trans (Heap.lt_size ho) hC) (by rw [z];exact Nat.lt_irrefl _)
        · exact absurd (Nat.lt_trans (Heap.lt_size (I1.pin q hq).1) hC) (by rw [z];exact Nat.lt_irrefl _)
      · exact p _ vs H' ρ' (ex1.trans ex) (rs.ext (ex1.trans ex) rh) (ex1.fresh hD0 (rs1.hp.free hD0)) hD hnD rds
theorem nC {i:Nat}{x:Str}{pos':Pos}{elt tg iter:Expr}{ifs:List Expr}{f:IF}{g:GF}{cs:List TF}{e:EF}{cpos:Pos}(hN:X.N.Nodup)(hi':X.N[i]? = some x)(hx:Loc X.env.scope x)(hc:X.calm=true)(S:bX X scope own capn caps)(hi:MI X tg iter f)
    (hin:∀ cl C s H ex,MG (cxC X (own++capn) scope cl C s H ex) tg g∧MTs (cxC X (own++capn) scope cl C s H ex) ifs cs∧ME (cxC X (own++capn) scope cl C s H ex) elt e)
    (hsw:swapsWith (.ListComp elt [⟨tg,iter,ifs,0⟩] scope cpos) (some (.Name x pos')) pos.line X.env=pure true:=by rfl)
    (hs:∀ x,foldedSetIterable iter X.env x=pure x:=by intro _;rfl) (hf':X.fn x=true∨X.env.scope.names.lookup x=some .local:=by first|exact .inl rfl|exact .inr rfl|assumption) :
    MS X (.Assign [.Name x pos'] (.ListComp elt [⟨tg,iter,ifs,0⟩] scope cpos) pos) (aE (gN i) (aX (bN own.length caps f g cs e))):=by
  intro pins s σ H En I ⟨ρ,σd,hd,rs,p⟩
  rw [exec_Assign_Name_used _ _ _ _ hsw]
  refine wpAny_bind (wpAny_standAt ?_)
  show wpAny _ _ ((comprehension _ scope X.env _ (newList []) _ _ _ >>= fun _=>pure ()) >>= fun _=>pure Flow.next) _ _ _
  have p1:=bU.outE (σ := σ) p
  unfold aX bN at p1
  cases c:f σd hd with
  | exc z h7=>rw [c] at p1;exact p1.elim
  | bad=>rw [c] at p1;exact p1.elim
  | ok q hd1 =>
    obtain⟨l,gd⟩:=q
    rw [c] at p1
    simp only [aG] at p1
    obtain⟨cl,h1,hcl1,hcl2⟩:=iE (scope:=scope) (env:=X.env) fun y hy hyf=>I.ok.has y.1 (S.free y hy hyf)
    refine wpAny_bind (wpAny_bind (wpAny_comprehension_free (Q:=fun _ s'=>wpAny (model X.prog X.w) X.A (pure ()) (fun _ s'=>wpAny (model X.prog X.w) X.A (pure Flow.next) (SP X pins En) X.xe s') X.xe s') (use:=some (assign (.Name x pos') X.env)) rfl hs h1 S.kind S.names (thn (hi pins s σ H (fun J H1=>∃ ρ1,Ext ρ H ρ1 H1∧RS X.K ρ1 H1 σd hd1 σ ∧ oR X.K ρ1 H1 J l gd) I ⟨ρ,σd,hd,rs,by
      rw [c]
      exact fun J H' ρ' ex rs' wk=>⟨ρ',ex,rs',wk⟩⟩) fun v s1 h1=>thn h1 fun itv s2 h2 => ?_)))
    obtain⟨it,fp,tn,J,H1,rfl,I1,T,st0,hf,ρ1,ex1,rs1,wk⟩:=h2
    cases c2:cx gd l g cs e l (fQ own.length caps σd) hd1 with
    | exc z h7=>rw [c2] at p1;exact p1.elim
    | bad=>rw [c2] at p1;exact p1.elim
    | ok ds hdF =>
      rw [c2] at p1
      simp only [aG] at p1
      by_cases hz:ds.length≤SZ
      · rw [if_pos hz] at p1
        refine lZ (RR:=fun acc C=>compPost (model X.prog X.w) X.A X.xe (some (assign (.Name x pos') X.env)) _ acc C) hc S hin I1 T st0 hf rs1 wk.g hcl1 hcl2 ((rK _ _ _).symm.trans c2) fun C s' m H' ρ' vs hC hn I' hCn ex rh hD0 hD hnD rds => ?_
        refine wpAny_assign_Name (wR I' hN hi' hx (v:=.ref s2.heap.objs.size) rfl (fun s'' I'' hsb => ?_) hf')
        have hCl:C≠X.env.locals:=Nat.ne_of_gt (Nat.lt_trans I1.lt hC)
        have hCc:∀ y c,X.env.cells.lookup y=some c→c≠C:=fun y c e z=>by
          obtain⟨v,o,ho,hd⟩:=I1.cell y c e
          exact absurd (Nat.lt_trans (Heap.lt_size ho) hC) (by rw [z];exact Nat.lt_irrefl _)
        refine⟨m,?_,fun h' sb=>wpAny_pure (wpAny_pure ?_)⟩
        · obtain⟨a,sa,ha⟩:=hsb
          refine hn.sameBut sa ?_
          rcases ha with z|z
          · rw [z];exact hCl
          · exact Ne.symm (hCc _ _ z)
        · have I3:Inv X pins (σ.set i (some (.ref s2.heap.objs.size))) H' { s'' with heap:=h' }:=I''.turned (it:=C) (t':=s''.toks) (fun b o hb e=>(sb.2 b hb).trans e) hCn hCl (.inr (Nat.le_of_lt (Nat.lt_of_le_of_lt I1.sz hC))) hCc fun q hq z =>
            absurd (Nat.lt_trans (Heap.lt_size (I1.pin q hq).1) hC) (by rw [z];exact Nat.lt_irrefl _)
          have ex':Ext ρ H ρ' H':=ex1.trans ex
          have rh':=rh.alloc hD hnD rds
          have hH0:H s2.heap.objs.size=none:=ex1.fresh hD0 (rs1.hp.free hD0)
          have exA:Ext ρ H (ρ'++[s2.heap.objs.size]) H':=⟨by obtain⟨t,rfl⟩:=ex'.pre;exact⟨t++[s2.heap.objs.size],by simp⟩,fun a ha=>by
            rcases List.mem_append.mp ha with z|z
            · exact ex'.new a z
            · simp at z;subst z;exact .inr hH0,ex'.frame⟩
          obtain⟨ρ2,d2,hd2,e2,rs2,rd2,pn⟩:=p1 (.ref s2.heap.objs.size) H' (ρ'++[s2.heap.objs.size]) exA (rs.ext exA rh') (by
            simp only [rD,RD]
            refine⟨s2.heap.objs.size,?_,rfl⟩
            rw [← rh.len]
            simp)
          exact⟨_,H',I3,pn _ H' ρ2 Ext.refl ⟨rs2.hp,rs2.st.set i rd2⟩⟩
      · rw [if_neg hz] at p1;exact p1.elim
end
end Fm
set_option Elab.async false
set_option linter.all false
set_option maxRecDepth 100000
namespace Fm
open PySem PySem.Spec L2 PyProof.Rows
mutual
def rfs (k:Nat):D→Prop
  | .ref n=>n < k
  | .tup l=>kP k l
  | .lit l=>kP k l
  | .exn _ l=>kP k l
  | _=>True
def kP (k:Nat):List D→Prop
  | []=>True
  | x :: xs=>rfs k x∧kP k xs
end
section
variable {K:PySem.W.Frag} {ρ ρ' t:List Addr} {H H':Hp} {hd hd':Hd}
mutual
theorem RD.rfs:∀ {d:D} {v:V},RD K ρ H d v→Fm.rfs ρ.length d
  | .non,_,_=>by simp only [Fm.rfs]
  | .bl _,_,_=>by simp only [Fm.rfs]
  | .int _,_,_=>by simp only [Fm.rfs]
  | .str _,_,_=>by simp only [Fm.rfs]
  | .tup l,_,h=>by
    simp only [RD] at h;obtain⟨p,vs,_,_,h2⟩:=h
    simp only [Fm.rfs];exact RDs.rfs h2
  | .lit l,_,h=>by
    simp only [RD] at h;obtain⟨p,vs,_,_,h2⟩:=h
    simp only [Fm.rfs];exact RDs.rfs h2
  | .ref n,_,h=>by
    simp only [RD] at h;obtain⟨a,h1,_⟩:=h
    simp only [Fm.rfs];exact (List.getElem?_eq_some_iff.mp h1).1
  | .exn _ _,_,h=>by simp only [RD] at h;obtain⟨rfl,_⟩:=h;simp only [Fm.rfs,Fm.kP]
theorem RDs.rfs:∀ {l:List D} {vs:List V},RDs K ρ H l vs→Fm.kP ρ.length l
  | [],_,_=>by simp only [Fm.kP]
  | d :: ds,_,h=>by
    simp only [RDs] at h;obtain⟨v,r,_,h1,h2⟩:=h
    simp only [Fm.kP];exact⟨RD.rfs h1,RDs.rfs h2⟩
end
mutual
theorem RD.cut:∀ {d:D} {v:V},RD K (ρ ++ t) H d v→Fm.rfs ρ.length d→RD K ρ H d v
  | .non,_,h,_=>by simp only [RD] at h ⊢;exact h
  | .bl _,_,h,_=>by simp only [RD] at h ⊢;exact h
  | .int _,_,h,_=>by simp only [RD] at h ⊢;exact h
  | .str _,_,h,_=>by simp only [RD] at h ⊢;exact h
  | .tup l,_,h,q=>by
    simp only [RD] at h ⊢;simp only [Fm.rfs] at q
    obtain⟨p,vs,e,h1,h2⟩:=h
    exact⟨p,vs,e,h1,RDs.cut h2 q⟩
  | .lit l,_,h,q=>by
    simp only [RD] at h ⊢;simp only [Fm.rfs] at q
    obtain⟨p,vs,e,h1,h2⟩:=h
    exact⟨p,vs,e,h1,RDs.cut h2 q⟩
  | .ref n,_,h,q=>by
    simp only [RD] at h ⊢;simp only [Fm.rfs] at q
    obtain⟨a,h1,h2⟩:=h
    exact⟨a,by rwa [List.getElem?_append_left q] at h1,h2⟩
  | .exn _ _,_,h,_=>by simp only [RD] at h ⊢;exact h
theorem RDs.cut:∀ {l:List D} {vs:List V},RDs K (ρ ++ t) H l vs→Fm.kP ρ.length l→RDs K ρ H l vs
  | [],_,h,_=>by simp only [RDs] at h ⊢;exact h
  | d :: ds,_,h,q=>by
    simp only [RDs] at h ⊢;simp only [Fm.kP] at q
    obtain⟨v,r,e,h1,h2⟩:=h
    exact⟨v,r,e,RD.cut h1 q.1,RDs.cut h2 q.2⟩
end
mutual
theorem sO {k:Nat}:∀ {d:D},pure? d=true→Fm.rfs k d
  | .non,_=>by simp only [Fm.rfs]
  | .bl _,_=>by simp only [Fm.rfs]
  | .int _,_=>by simp only [Fm.rfs]
  | .str _,_=>by simp only [Fm.rfs]
  | .tup l,h=>by simp only [pure?] at h;simp only [Fm.rfs];exact jz h
  | .lit l,h=>by simp only [pure?] at h;simp only [Fm.rfs];exact jz h
  | .exn _ l,h=>by simp only [pure?] at h;simp only [Fm.rfs];exact jz h
  | .ref _,h=>by simp only [pure?] at h;cases h
theorem jz {k:Nat}:∀ {l:List D},iD l=true→Fm.kP k l
  | [],_=>by simp only [Fm.kP]
  | x :: xs,h=>by
    simp only [iD,Bool.and_eq_true] at h
    simp only [Fm.kP];exact⟨sO h.1,jz h.2⟩
end
def IV (k:Nat):cX→Prop
  | .lst l=>Fm.kP k l
  | .dct l=>Fm.kP k (l.map (·.2))
theorem RC.rfs {c:cX}{a:Addr}(h:RC K ρ H c a):IV ρ.length c:=by
  cases c with
  | lst l=>obtain⟨vs,_,h2⟩:=h;exact h2.rfs
  | dct l=>obtain⟨vs,_,_,h2⟩:=h;exact h2.rfs
theorem RC.cut {c:cX}{a:Addr}(h:RC K (ρ ++ t) H c a)(q:IV ρ.length c):RC K ρ H c a:=by
  cases c with
  | lst l=>obtain⟨vs,h1,h2⟩:=h;exact⟨vs,h1,h2.cut q⟩
  | dct l=>obtain⟨vs,h1,h2,h3⟩:=h;exact⟨vs,h1,h2,h3.cut q⟩
theorem yg {k:Nat}{c:cX}(h:Ay c=true):IV k c:=by
  cases c with
  | lst l=>exact jz h
  | dct l =>
    have:∀ l:List (Int × D),(l.all fun p=>pure? p.2)=true→Fm.kP k (l.map (·.2)):=by
      intro l
      induction l with
      | nil=>intro _;simp only [List.map_nil,Fm.kP]
      | cons x l ih=>intro h;simp only [List.all_cons,Bool.and_eq_true] at h;simp only [List.map_cons,Fm.kP];exact⟨sO h.1,ih h.2⟩
    exact this l h
theorem RH.back (r:RH K ρ H hd)(r':RH K (ρ ++ t) H' hd')(o:IK hd hd'):RH K ρ H' (hd'.take hd.length):=by
  have hl:(ρ ++ t).length=hd'.length:=r'.len
  refine⟨by rw [List.length_take,← hl,List.length_append,← r.len];omega,(List.nodup_append.mp r'.nd).1,fun n c a h1 h2 => ?_⟩
  have hn:n < hd.length:=by rw [← r.len];exact (List.getElem?_eq_some_iff.mp h2).1
  rw [List.getElem?_take_of_lt hn] at h1
  have q:=r'.cel n c a h1 (by rw [List.getElem?_append_left (by rw [r.len];exact hn)];exact h2)
  refine q.cut ?_
  rcases o n c hn h1 with z|z
  · exact (r.cel n c a z h2).rfs
  · exact yg z
def nD (K:PySem.W.Frag) (ρ:List Addr) (H:Hp) (r:Res D) (Q:VK):Prop:=match r with
  | .ok d hd'=>∀ v H' ρ',Ext ρ H ρ' H'→RH K ρ' H' hd'→RD K ρ' H' d v→Q v H'
  | _=>False
def spF (K:PySem.W.Frag) (F:Fn) (np:Nat):Sp:=fun vs H Q _=>∃ ρ hd ds,RH K ρ H hd∧RDs K ρ H ds vs∧ds.length=np∧nD K ρ H (F ds hd) Q
theorem Ext.short (e:Ext ρ H (ρ ++ t) H'):Ext ρ H ρ H':=⟨⟨[],by simp⟩,fun _ h=>.inl h,e.frame⟩
theorem nD.letGo {r:Res D}{Q:VK}(rh:RH K ρ H hd)(p:nD K ρ H (letGo hd r) Q):nD K ρ H r Q:=by
  cases r with
  | exc x h'=>exact p
  | bad=>exact p
  | ok d h' =>
    intro v H' ρ' ex rh' rd
    simp only [Fm.letGo] at p
    split at p
    · rename_i hc
      obtain⟨t,rfl⟩:=ex.pre
      exact p v H' ρ ex.short (rh.back rh' hc.2) (rd.cut (sO hc.1))
    · exact p v H' ρ' ex rh' rd
theorem nD.runB {n:Nat}{b:SF}{ds:List D}{Q:VK}(p:nD K ρ H (runB n b ds hd) Q):bU K ρ H (b (ds.map some++List.replicate (n - ds.length) none) hd) { nx:=fun _ H'=>Q .non H',rt:=Q }:=by
  unfold Fm.runB at p
  cases e:b (ds.map some++List.replicate (n - ds.length) none) hd with
  | nx σ h'=>rw [e] at p;exact fun σ' H' ρ' ex rs=>p .non H' ρ' ex rs.hp (by simp only [RD])
  | rt d h'=>rw [e] at p;exact p
  | bk σ h'=>rw [e] at p;exact p.elim
  | ct σ h'=>rw [e] at p;exact p.elim
  | exc x σ h'=>rw [e] at p;exact p.elim
  | bad=>rw [e] at p;exact p.elim
theorem w6 {N:List Str}{ds:List D}{vs:List V}(r:RDs K ρ H ds vs):RSt K ρ H (ds.map some++List.replicate (N.length - ds.length) none) (L2.kU N vs):=by
  have hl:=r.length
  refine⟨by simp [L2.kU,hl],fun i d e => ?_⟩
  simp only [slot] at e
  by_cases hi:i < ds.length
  · rw [List.getElem?_append_left (by simpa using hi)] at e
    simp only [List.getElem?_map,List.getElem?_eq_getElem hi,Option.map_some] at e
    cases e
    obtain⟨v,hv,q⟩:=r.get (i:=i) (d:=ds[i]) (by simp [hi])
    refine⟨v,?_,q⟩
    unfold L2.kU
    rw [List.getElem?_append_left (by simp;omega)]
    simp [hv]
  · rw [List.getElem?_append_right (by simpa using Nat.le_of_not_lt hi)] at e
    simp only [List.getElem?_replicate] at e
    by_cases hq:i - (List.map some ds).length < N.length - ds.length
    · simp only [hq,if_true] at e;cases e
    · simp only [hq,if_false] at e;cases e
end
structure Def (P:Program) (w:World) (K:PySem.W.Frag) (mg:Str→Option Value) (base:Heap) (x:Str) (k np:Nat) (F:Fn):Prop where
  ex:∃ f fd ps,mg x=some (.ref f)∧PySem.W.keepIn K (.ref f)=true∧mm K fd ps []∧cf P w K mg base CX0 k f fd ps (spF K F np)
section
variable {P:Program} {w:World} {K:PySem.W.Frag} {mg:Str→Option Value} {base:Heap}
theorem bV {x:Str}{st:Stmt}{f:Addr}{fd:FuncData}{N ps:List Str}{k:Nat}{b:SF}(F:Fun K x x st f fd)(S:aL N ps (aj st))
    (body:∀ (cdv:Value) (A:Around) (outer:List Env) (s:Shared) (H:Hp) (E:XK),iC k (A.deeper (envOfC x (aj st) s.heap.objs.size f cdv))→MSs (qN CX0 P w K mg base N x (aj st) f cdv A outer s H E).nox (aH st) b) :
    cf P w K mg base CX0 (k + 1) f fd ps (spF K (bE ps.length N.length b) ps.length):=by
  refine F.ok S (fun vs H Q E ⟨ρ,hd,ds,rh,rd,hl,p⟩=>by rw [← rd.length];exact hl) fun cdv A outer s H vs Q E hr ⟨ρ,hd,ds,rh,rd,hl,p⟩=>⟨_,body cdv A outer s H E hr,ρ,_,hd,⟨rh,w6 rd⟩,?_⟩
  simp only [bE,hl,if_true] at p
  exact (nD.letGo rh p).runB
theorem Def.mk' {x:Str}{f:Addr}{fd:FuncData}{ps:List Str}{k np:Nat}{F:Fn}(hm:mg x=some (.ref f))(hk:PySem.W.keepIn K (.ref f)=true)(hb:mm K fd ps [])(h:cf P w K mg base CX0 k f fd ps (spF K F np)):Def P w K mg base x k np F:=⟨f,fd,ps,hm,hk,hb,h⟩
end
section
variable {X:Cx} {pos p:Pos}
theorem ax {x:Str}{k np:Nat}{F:Fn}{e:Expr}{es:List Expr}{r:LF}(hd:Def X.prog X.w X.K X.mg X.base x k np F)(hr:iC k X.A)(hg:Gl X x)(ha:MA X (e :: es) r)(hnp:∀ ds h d h',F ds h=.ok d h'→ds.length=np)
    (hdb:(x == ("__debug__" : Str))=false:=by decide) (he:starEach (e :: es) X.env=(false,eval e X.env) :: starEach es X.env:=by rfl) (hpl:(backTo pos (starEach es X.env)).any (·.1)=false:=by rfl) :
    ME X (.Call (.Name x p) (e :: es) [] pos) (ao F r):=by
  obtain⟨f,fd,ps,h1,h2,h3,h4⟩:=hd.ex
  refine PE.imp (E8 h4 hr hg h1 h2 h3 .nil P8 ha hdb he hpl) fun σ H Q ⟨ρ,σd,hd,rs,pp⟩=>⟨ρ,σd,hd,rs,(cj.bind (R:=rDs X.K) pp).imp fun vs H1 ⟨ρ1,ds,hd1,e1,rs1,rv,p1⟩ => ?_⟩
  rw [List.append_nil]
  cases c:F ds hd1 with
  | exc z h'=>rw [c] at p1;exact p1.elim
  | bad=>rw [c] at p1;exact p1.elim
  | ok d hd2 =>
    rw [c] at p1
    refine⟨ρ1,hd1,ds,rs1.hp,rv,hnp _ _ _ _ c,?_⟩
    rw [c]
    exact fun v H' ρ' ex rh rd=>p1 v H' ρ' ex (rs1.ext ex rh) rd
theorem ay {np n:Nat}{b:SF}:∀ ds h d h',bE np n b ds h=.ok d h'→ds.length=np:=by
  intro ds h d h' e
  unfold bE at e
  split at e
  · assumption
  · cases e
end
theorem Qf {l:PySem.W.OpenLaw}{q:Program}{loose:List Str}{XP:(Str→Option Value)→Heap→Prop}{YP:World→Heap→Prop}{d:DefRec}{K:Params→PySem.W.Frag}{F:Fn}{k:Nat}{x:Str}(hn:l.most=some 63)(hdf:d.params.defaults=[])(hr:iC k callerA)
    (hY:∀ (w:World) (h:Heap),YP w h→(K w.params).In h)
    (hF:∀ (w:World) (mg:Str→Option Value) (fa:Addr) (h:Heap),(K w.params).In h→h.Ns mainGlobals mg→mg d.name=some (.ref fa) →
      ∃ fd:FuncData,(∀ (s:Shared) (u:Value),BindsTo s fd ⟨[u],[]⟩ [(x,u)]) ∧ ∀ base:Heap,(K w.params).In base→base.Ns mainGlobals mg→cf l.prog w (K w.params) mg base CX0 k fa fd [x] (spF (K w.params) F 1))
    (law:∀ ns:List Int,ns.length≤63 → ∃ h,F [.lit (ns.map .int)] []=.ok (.bl true) h) :
    PySem.W.WalkO q loose XP YP l.row.toRowW d [] (fun f vs=>PySem.call f vs):=by
  refine L2.LM (n:=63) (k:=k) (x:=x) (CX:=fun _=>CX0) (sp:=fun w=>spF (K w.params) F 1) hn (by decide) hdf hr hY hF (fun w H a ns hl hO hS => ?_) fun _ _ _ _ _ z=>z
  obtain⟨h,e⟩:=law ns hl
  have hL:qf (K w.params) H a (ns.map V.int):=by
    rcases hS with (z|⟨o,z⟩)|z
    · rcases hO a with y|⟨o,xs,y⟩<;>(rw [z] at y;cases y)
    · exact .inl ⟨o,z⟩
    · exact .inr z
  have hI:RDs (K w.params) [] H (ns.map D.int) (ns.map V.int):=by
    clear hl hS e hL law
    induction ns with
    | nil=>exact RDs.nil
    | cons n ns ih=>exact RDs.cons (by simp only [RD]) ih
  refine⟨[],[],[.lit (ns.map .int)],⟨rfl,List.nodup_nil,fun n c a h1=>by simp at h1⟩,RDs.cons (by simp only [RD];exact⟨a,_,rfl,hL,hI⟩) RDs.nil,rfl,?_⟩
  rw [e]
  intro v H' ρ' ex rh rd
  simpa only [RD] using rd
end Fm
set_option Elab.async false
set_option linter.all false
set_option maxRecDepth 100000
namespace Fm
open PySem PySem.Spec L2
open PyProof.Rows (Subscript_ tail_any)
def tyS:Ty→String
  | .int => "int" | .bool => "bool" | .tuple => "tuple" | .list => "list" | .str => "str"
theorem ib (t:Ty):typeOf (.type (tyS t))=pure (.type "type"):=by
  cases t
  · exact F.isi_meta_int
  · exact F.isi_meta_bool
  · exact F.isi_meta_tuple
  · exact F.isi_meta_list
  · exact F.isi_meta_str
theorem LS (t:Ty):isSubtype (.type "NoneType") (.type (tyS t))=pure false:=by cases t<;>(rw [isSubtype_type];kernel_rfl)
theorem Os {t:Ty} (h:t ≠ .int):isSubtype (.type "int") (.type (tyS t))=pure false:=by cases t<;>first|exact absurd rfl h|(rw [isSubtype_type];kernel_rfl)
theorem LT {t:Ty} (h:t ≠ .int) (h2:t ≠ .bool):isSubtype (.type "bool") (.type (tyS t))=pure false:=by cases t<;>first|exact absurd rfl h|exact absurd rfl h2|(rw [isSubtype_type];kernel_rfl)
theorem Ot {t:Ty} (h:t ≠ .str):isSubtype (.type "str") (.type (tyS t))=pure false:=by cases t<;>first|exact absurd rfl h|(rw [isSubtype_type];kernel_rfl)
theorem IW {t:Ty} (h:t ≠ .tuple):isSubtype (.type "tuple") (.type (tyS t))=pure false:=by cases t<;>first|exact absurd rfl h|(rw [isSubtype_type];kernel_rfl)
theorem Fi {t:Ty} (h:t ≠ .list):isSubtype (.type "list") (.type (tyS t))=pure false:=by cases t<;>first|exact absurd rfl h|(rw [isSubtype_type];kernel_rfl)
theorem LU (t:Ty):isSubtype (.type "dict") (.type (tyS t))=pure false:=by cases t<;>(rw [isSubtype_type];kernel_rfl)
theorem l8 (t:Ty):isSubtype (.type (tyS t)) (.type (tyS t))=pure true:=by cases t<;>(rw [isSubtype_type];kernel_rfl)
theorem AH:isSubtype (.type "bool") (.type (tyS .int))=pure true:=by rw [isSubtype_type];kernel_rfl
theorem qi {n:String}{t:Ty}(h:n≠tyS t):(Value.type n == Value.type (tyS t))=false:=by
  rw [beq_eq_false_iff_ne];intro e;cases e;exact h rfl
theorem CU {a b:Ty}(h:a≠b):(a == b)=false:=by cases a<;>cases b<;>first|rfl|exact absurd rfl h
section
variable {X:Cx} {pos p:Pos}
theorem Ou {pins:List (Addr × Obj)}{σ:St}{H:Hp}{s:Shared}{ρ:List Addr}{hd:Hd}{d:D}{v:V}{u:Value}{t:Ty}{b:Bool}{Q:Value→Shared→Prop}{E:Value→Shared→Prop}(I:Inv X pins σ H s)(rh:RH X.K ρ H hd)(rd:RD X.K ρ H d v)(r:bR v u)(e:Gb hd t d=some b)
    (q:∀ s',Inv X pins σ H s'→Q (.bool b) s'):wpAny (model X.prog X.w) X.A (call (.builtin "isinstance") [u,.type (tyS t)]) Q E s:=by
  have q0:=q s I
  have q1:=q { s with toks:=s.toks + 1 } (I.tok _)
  have yes:∀ {n:String},s.TypeIs u n→isSubtype (.type n) (.type (tyS t))=pure true→Q (.bool true) s→wpAny (model X.prog X.w) X.A (call (.builtin "isinstance") [u,.type (tyS t)]) Q E s:=fun h1 h2 h3=>call_isinstance (isinstance_true (ib t) h2) ⟨h1,h3⟩
  cases d<;>simp only [RD] at rd<;>simp only [Gb] at e
  · subst rd;cases r;cases e
    exact call_isinstance (isinstance_false_none (by cases t<;>exact qi (by decide)) (ib t) (LS t)) q1
  · subst rd;cases r
    by_cases h1:t=.int
    · subst h1;cases e;exact yes (n := "bool") rfl AH q0
    · by_cases h2:t=.bool
      · subst h2;cases e;exact yes (n := "bool") rfl (l8 .bool) q0
      · rw [CU h1,CU h2] at e;cases e
        exact call_isinstance (isinstance_false_bool (by cases t<;>first|exact absurd rfl h1|exact absurd rfl h2|exact qi (by decide)) (ib t) (LT h1 h2)) q1
  · subst rd;obtain⟨tk,rfl⟩:=r
    by_cases h1:t=.int
    · subst h1;cases e;exact yes (n := "int") rfl (l8 .int) q0
    · rw [CU h1] at e;cases e
      exact call_isinstance (isinstance_false_int (by cases t<;>first|exact absurd rfl h1|exact qi (by decide)) (ib t) (Os h1)) q1
  · subst rd;obtain⟨tk,rfl⟩:=r
    by_cases h1:t=.str
    · subst h1;cases e;exact yes (n := "str") rfl (l8 .str) q0
    · rw [CU h1] at e;cases e
      exact call_isinstance (isinstance_false_str (by cases t<;>first|exact absurd rfl h1|exact qi (by decide)) (ib t) (Ot h1)) q1
  · obtain⟨a,vs,rfl,ha,_⟩:=rd
    cases r
    obtain⟨its,_,o,ho,hc,_⟩:=jY I.hok ha
    by_cases h1:t=.tuple
    · subst h1;cases e;exact yes (n := "tuple") ⟨o,ho,hc⟩ (l8 .tuple) q0
    · rw [CU h1] at e;cases e
      exact call_isinstance (isinstance_false_tuple (by cases t<;>first|exact absurd rfl h1|exact qi (by decide)) (ib t) (IW h1)) ⟨⟨o,ho,hc⟩,q1⟩
  · rename_i n
    obtain⟨a,ha,rfl⟩:=rd
    cases r
    cases c:hd[n]? with
    | none=>rw [c] at e;cases e
    | some cell =>
      rw [c] at e
      cases cell with
      | lst l =>
        obtain⟨vs,hv,_⟩:=rh.cel n _ a c ha
        obtain⟨z,its,k,_,ho⟩:=I.hok a _ hv
        by_cases h1:t=.list
        · subst h1;cases e;exact yes (n := "list") ⟨_,ho,rfl⟩ (l8 .list) q0
        · simp only [CU h1] at e;cases e
          exact call_isinstance (isinstance_false_list (by cases t<;>first|exact absurd rfl h1|exact qi (by decide)) (ib t) (Fi h1)) ⟨⟨_,ho,rfl⟩,q1⟩
      | dct l =>
        obtain⟨vs,hv,_,_⟩:=rh.cel n _ a c ha
        obtain⟨_,_,_,_,o,_,_,ho,ex,_⟩:=I.hok a _ hv
        cases e
        exact call_isinstance (isinstance_false_dict (by cases t<;>exact qi (by decide)) (ib t) (LU t)) ⟨⟨o,ho,ex.1⟩,q1⟩
  · obtain⟨a,vs,rfl,ha,_⟩:=rd
    cases r
    obtain⟨its,_,pl,_⟩:=I.list ha.sq
    obtain⟨o,ho,hc,_⟩:=pl.isList
    by_cases h1:t=.list
    · subst h1;cases e;exact yes (n := "list") ⟨o,ho,hc⟩ (l8 .list) q0
    · simp only [CU h1] at e;cases e
      exact call_isinstance (isinstance_false_list (by cases t<;>first|exact absurd rfl h1|exact qi (by decide)) (ib t) (Fi h1)) ⟨⟨o,ho,hc⟩,q1⟩
  · cases e
def Q6 (K:PySem.W.Frag) (t:Ty):List V→Hp→VK→Prop:=fun xs H Q=>∃ ρ hd d v b,xs=[v,.ty (tyS t)]∧RH K ρ H hd∧RD K ρ H d v∧Gb hd t d=some b∧Q (.bl b) H
theorem IX (t:Ty):iZ X (.builtin "isinstance") (Q6 X.K t):=by
  intro pins s σ H xs us Q I r h
  obtain⟨ρ,hd,d,v,b,rfl,rh,rd,e,q⟩:=h
  obtain⟨u,u2,rfl,ru,ru2⟩:=bj.two r
  cases (show u2=Value.type (tyS t) from ru2)
  exact Ou I rh rd ru e fun s' I'=>⟨.bl b,H,I',rfl,q⟩
theorem ic {t:Ty} {a:Expr} {fa:EF} {p2:Pos} {n:Str} (hg:Gl X "isinstance") (hm:X.mg "isinstance" = none) (hg2:Gl X n) (hm2:X.mg n=none) (hv:bootBuiltins n=some (.type (tyS t))) (ha:ME X a fa)
    (hs:starEach [a,.Name n p2] X.env=(false,eval a X.env) :: starEach [.Name n p2] X.env:=by rfl) (hs2:starEach [.Name n p2] X.env=(false,eval (.Name n p2) X.env) :: starEach [] X.env:=by rfl) (hn:n ≠ "__name__" := by decide) (hd:(n == ("__debug__" : Str))=false:=by decide) :
    ME X (.Call (.Name "isinstance" p) [a,.Name n p2] [] pos) (fP t fa):=by
  refine PE.imp (jy (IX t) hg hm (by decide +kernel) (cC ha (cC (E6 (v:=.ty (tyS t)) hg2 hm2 hv rfl hn hd) eU hs2) hs) (he:=hs)) fun σ H Q ⟨ρ,σd,hd,rs,pp⟩=>⟨ρ,σd,hd,rs,(cj.bind (R:=rD X.K) pp).imp fun v H1 ⟨ρ1,d,hd1,e1,rs1,rv,p1⟩ => ?_⟩
  cases c:Gb hd1 t d with
  | none=>simp only [c] at p1;exact p1.elim
  | some b=>simp only [c] at p1;exact⟨ρ1,hd1,d,v,b,rfl,rs1.hp,rv,c,p1.here rs1 (by simp only [rD,RD])⟩
theorem ee:OpR X (binaryOp .Add) (fun x y H Q=>rI0 (fun i j=>.int (i + j)) x y H Q∨Aw X.K x y H Q):=NX.or E9
theorem fU {K:PySem.W.Frag}:Og K cV (fun x y H Q=>rI0 (fun i j=>.int (i + j)) x y H Q∨Aw K x y H Q):=by
  intro ρ H σd hd σ d k v w Q rs rv rw' pp
  cases d<;>try exact pp.elim
  · cases k<;>try exact pp.elim
    simp only [RD] at rv rw'
    exact .inl ⟨_,_,rv,rw',pp.here rs (by simp only [rD,RD])⟩
  · rename_i l
    cases l with
    | nil=>exact pp.elim
    | cons x xs =>
      cases k<;>try exact pp.elim
      rename_i ys
      simp only [cV] at pp
      split at pp
      · rename_i hz
        simp only [RD] at rv rw'
        obtain⟨a,vs,rfl,ha,rvs⟩:=rv
        obtain⟨b,ws,rfl,hb,rws⟩:=rw'
        refine .inr ⟨a,b,vs,ws,rfl,rfl,SqT.of ha,SqT.of hb,?_,?_,fun z => ?_,fun _ q hq => ?_⟩
        · intro z;subst z;have:=rvs.length;simp at this
        · rw [← rvs.length,← rws.length];exact nu hz
        · subst z
          have hy:ys=[]:=by have:=rws.length;simpa using this
          subst hy
          exact pp.here rs (by simp only [rD,RD];exact⟨a,vs,rfl,ha,by simpa using rvs⟩)
        · have sm:=cy (o:=HO.tup (vs++ws)) hq
          exact pp.at (Ext.same sm) (rs.same sm) (by simp only [rD,RD];exact⟨q,_,rfl,bf,(RDs.append rvs rws).mono (Kp.same sm)⟩)
      · exact pp.elim
theorem yh {a:Expr} {la:LF} (hg:Gl X "list") (hm:X.mg "list" = none) (ha:MQ X a la) (hs:starEach [a] X.env=(false,eval a X.env) :: starEach [] X.env:=by rfl):MF X (.Call (.Name "list" p) [a] [] pos) la:=by
  refine PE.imp (wX x9 hg hm (by decide +kernel) (cC ha eU hs) (he:=hs)) fun σ H Q ⟨ρ,σd,hd,rs,pp⟩=>⟨ρ,σd,hd,rs,?_⟩
  cases e:la σd hd with
  | exc x h'=>rw [e] at pp;exact pp
  | bad=>rw [e] at pp;exact pp
  | ok l hd1 =>
    rw [e] at pp
    intro v H1 ρ1 e1 rs1 ⟨q,vs,hv,sq,rvs⟩
    subst hv
    exact⟨q,vs,rfl,sq.imp id SqT.of,pp.mk e1 rs1 rvs⟩
theorem iG {o e:Expr} {fo fe:EF} {apos cpos:Pos} (ho:ME X o fo) (he:ME X e fe) (hbase:attributeBase o "append" X.env (eval o X.env)=eval o X.env:=by rfl)
    (hfew:((backTo cpos (starEach [e] X.env)).all (fun x => !x.1) && (backToKw cpos (keywordEach [] X.env)).all (fun x=>x.1.isSome)
      && decide (([e] : List Expr).length + ([] : List Keyword).length + (if ([] : List Keyword).isEmpty then 0 else 1) < 30))=true:=by rfl)
    (hline:(apos.endLine == cpos.line)=true:=by rfl) (hs:starEach [e] X.env=(false,eval e X.env) :: starEach [] X.env:=by rfl) :
    ME X (.Call (.Attribute o "append" apos) [e] [] cpos) (jf fo fe):=by
  refine PE.imp (Nk PySem.F.plainAttrs_list PySem.F.slot_list_append PySem.F.type_list_append wZ ho (cC he eU hs) hbase hfew hline hs) fun σ H Q ⟨ρ,σd,hd,rs,pp⟩=>⟨ρ,σd,hd,rs,?_⟩
  unfold jf at pp
  refine (cj.bind (R:=rD X.K) pp).imp fun v H1 ⟨ρ1,d,hd1,e1,rs1,rv,p1⟩ => ?_
  cases d<;>try exact p1.elim
  rename_i n
  simp only [rD,RD] at rv
  obtain⟨a,ha,rfl⟩:=rv
  simp only at p1
  cases c1:hd1[n]? with
  | none=>rw [c1] at p1;exact p1.elim
  | some cell1 =>
    rw [c1] at p1
    cases cell1 with
    | dct l=>exact p1.elim
    | lst l1 =>
      obtain⟨vs,hv,_⟩:=rs1.hp.cel n _ a c1 ha
      simp only at p1
      refine⟨.inl ⟨rfl,vs,SqL.of hv⟩,ρ1,σd,hd1,rs1,(cj.bind (R:=rD X.K) p1).imp fun w H2 ⟨ρ2,k,hd2,e2,rs2,rw',p2⟩ => ?_⟩
      simp only [Of] at p2
      cases c:hd2[n]? with
      | none=>rw [c] at p2;exact p2.elim
      | some cell =>
        rw [c] at p2
        cases cell with
        | dct l=>exact p2.elim
        | lst l =>
          simp only at p2
          split at p2
          · rename_i hz
            have ha2:=e2.get ha
            obtain⟨vs2,hv2,rvs2⟩:=rs2.hp.cel n _ a c ha2
            refine⟨a,vs2,w,rfl,rfl,hv2,?_,?_⟩
            · rw [← rvs2.length];exact Nat.lt_of_lt_of_le hz (by rw [sizeLine_eq];decide)
            · have hn:n < hd2.length:=(List.getElem?_eq_some_iff.mp c).1
              have rh:=rs2.hp.write ha2 hn (RDs.append rvs2 (RDs.cons rw' RDs.nil))
              have ex:Ext ρ2 H2 ρ2 (upd H2 a (.lst (vs2++[w]))):=Ext.write (List.mem_of_getElem? ha2)
              exact p2.at ex (rs2.ext ex rh) (by simp only [rD,RD])
          · exact p2.elim
theorem IY {o:Expr} {fo:EF} {apos cpos:Pos} (ho:ME X o fo) (hbase:attributeBase o "clear" X.env (eval o X.env)=eval o X.env:=by rfl) (hline:(apos.endLine == cpos.line)=true:=by rfl) :
    ME X (.Call (.Attribute o "clear" apos) [] [] cpos) (oN fo):=by
  refine PE.imp (N9 PySem.F.plainAttrs_list PySem.F.slot_list_clear PySem.F.type_list_clear IH ho hbase hline) fun σ H Q ⟨ρ,σd,hd,rs,pp⟩=>⟨ρ,σd,hd,rs,?_⟩
  unfold oN fUn at pp
  refine (cj.bind (R:=rD X.K) pp).imp fun v H1 ⟨ρ1,d,hd1,e1,rs1,rv,p1⟩ => ?_
  cases d<;>try exact p1.elim
  rename_i n
  simp only [rD,RD] at rv
  obtain⟨a,ha,rfl⟩:=rv
  simp only [CP] at p1
  cases c1:hd1[n]? with
  | none=>rw [c1] at p1;exact p1.elim
  | some cell1 =>
    rw [c1] at p1
    cases cell1 with
    | dct l=>exact p1.elim
    | lst l1 =>
      obtain⟨vs,hv,_⟩:=rs1.hp.cel n _ a c1 ha
      simp only at p1
      refine⟨.inl ⟨rfl,vs,SqL.of hv⟩,a,vs,rfl,rfl,hv,?_⟩
      have hn:n < hd1.length:=(List.getElem?_eq_some_iff.mp c1).1
      have rh:=rs1.hp.write ha hn RDs.nil
      have ex:Ext ρ1 H1 ρ1 (upd H1 a (.lst [])):=Ext.write (List.mem_of_getElem? ha)
      exact p1.at ex (rs1.ext ex rh) (by simp only [rD,RD])
end
end Fm
set_option Elab.async false
set_option linter.all false
set_option maxRecDepth 100000
namespace Fm
open PySem PySem.Spec L2
open AutoSeq1 (wpAny_loadPart')
open PyProof.Rows (Call_)
theorem AI {a b:String}(h:Value.type a=Value.type b)(n:a≠b):False:=by injection h with h;exact n h
theorem kZ (l:Addr)(items:Array Value)(n:Nat)(dct:Option Addr)(sl:Array (Option Value)) :
    Meets (Builtin.«enumerate.__new__» ⟨[.type "enumerate",.ref l],[]⟩) (fun _ R s=>s.heap.get? l=some { cls:=.type "tuple",dict:=dct,data:=.seq items n,slots:=sl } ∧
      R (.ok (.ret (.ref (s.heap.push { cls:=.type "tuple_iterator",data:=.fields #[.ref l,.int 0 0] }).objs.size)))
        { s with heap:=(s.heap.push { cls:=.type "tuple_iterator",data:=.fields #[.ref l,.int 0 0] }).push { cls:=.type "enumerate",data:=.fields #[.none,.bool false,.ref s.heap.objs.size,rawInt 0,.none,.none] } }) :=
  .of_wp fun prog w A R s h=>by
    obtain⟨hp,g,d,tk,os⟩:=s;obtain⟨hl,h⟩:=h
    have hsub:=sub_enumerate
    have hL:Heap.IsTuple (Shared.heap ⟨hp,g,d,tk,os⟩) l items:=⟨_,hl,rfl,n,rfl⟩
    wp_walk using wpAny_loadPart' hl
    refine wpAny_stack_any fun st=>wpAny_pure ?_
    split
    · rename_i c _ _ _ _ _
      cases (c == Value.type "enumerate")
      · wp_walk using wpAny_loadPart' hl,wpAny_pyIter_tuple hL
        exact⟨_,rfl,h⟩
      · wp_walk using wpAny_loadPart' hl,wpAny_pyIter_tuple hL
        exact⟨_,rfl,h⟩
    · wp_walk using wpAny_loadPart' hl,wpAny_pyIter_tuple hL
      exact⟨_,rfl,h⟩
section
variable {prog:Program} {w:World} {A:Around} {E:Value→Shared→Prop} {s:Shared}
theorem k7 {l:Addr}{items:Array Value}{Q:Value→Shared→Prop}(hL:s.heap.IsTuple l items)
    (h:∀ h',IsEnum h' (s.heap.objs.size + 1) s.heap.objs.size 0 .none→h'.IsTupleIter s.heap.objs.size l 0→h'.objs.size=s.heap.objs.size + 2 →
      (∀ b o,s.heap.get? b=some o→h'.get? b=some o)→Q (.ref (s.heap.objs.size + 1)) { s with heap:=h' }) :
    wpAny (model prog w) A (call (.type "enumerate") [.ref l]) Q E s:=by
  obtain⟨⟨c,dct,dt,sl⟩,hl,hc,n,hd⟩:=hL
  replace hc:c=.type "tuple" := hc
  replace hd:dt=.seq items n:=hd
  subst hc hd
  refine callType_new F.called_enumerate (by decide) (F.typeCall_enumerate_1 _) (F.newCall_enumerate_1 _) (fun obj=>F.args_object_init_2 obj _) F.entry_enumerate_new
    (kZ l items n dct sl) ⟨hl,?_⟩
  have hz:(s.heap.push { cls:=.type "tuple_iterator",data:=.fields #[.ref l,.int 0 0] }).objs.size=s.heap.objs.size + 1:=Heap.size_push ..
  show _∧_
  rw [hz]
  have he:IsEnum ((s.heap.push { cls:=.type "tuple_iterator",data:=.fields #[.ref l,.int 0 0] }).push
      { cls:=.type "enumerate",data:=.fields #[.none,.bool false,.ref s.heap.objs.size,rawInt 0,.none,.none] }) (s.heap.objs.size + 1) s.heap.objs.size 0 .none:=by
    have:=Heap.get?_push_size (s.heap.push { cls:=.type "tuple_iterator",data:=.fields #[.ref l,.int 0 0] })
      (o:={ cls:=.type "enumerate",data:=.fields #[.none,.bool false,.ref s.heap.objs.size,rawInt 0,.none,.none] }) rfl
    rw [hz] at this;exact this
  refine⟨⟨_,he,rfl⟩,h _ he ⟨_,Heap.get?_push_of_some _ (Heap.get?_push_size _ rfl),rfl,rfl⟩ (by rw [Heap.size_push,hz]) fun b o x=>Heap.get?_push_of_some _ (Heap.get?_push_of_some _ x)⟩
theorem eg {it l:Addr}{i:Nat}{items:Array Value}{x:Value}{Q:Value→Shared→Prop}(hit:s.heap.IsTupleIter it l i)
    (hl:s.heap.IsTuple l items) (hx:items[i]? = some x)
    (hQ:∀ h',h'.IsTupleIter it l (i + 1)→Heap.SameBut it s.heap h'→Q x { s with heap:=h' }) :
    wpAny (model prog w) A (Builtin.SmallTypes.nextOf (.ref it)) Q E s:=by
  obtain⟨o,ho,hc,hd⟩:=id hit
  obtain⟨ol,hol,_,nl,hdl⟩:=hl
  unfold Builtin.SmallTypes.nextOf
  refine wpAny_bind (wpAny_callSpecial?_slot (name:=Str.ofString "__next__") hit.typeIs F.slot_tuple_iterator_next
    (wpAny_call_entry F.slot_tuple_iterator_next hit.typeIs F.entry_tuple_iterator_next ?_ (F.args_tuple_iterator_next_1 _)))
  show wpAny _ _ (field (.ref it) 0 >>= _) _ _ s
  refine wpAny_bind (wpAny_field ho hd (x:=.ref l) rfl ?_)
  show wpAny _ _ (if (Value.ref l == Value.none)=true then _ else _) _ _ s
  rw [if_neg (show ¬ ((Value.ref l == Value.none)=true) from Bool.false_ne_true)]
  show wpAny _ _ (field (.ref it) 1 >>= _) _ _ s
  refine wpAny_bind (wpAny_field ho hd (x:=.int i 0) rfl ?_)
  show wpAny _ _ (seqItems? (.ref l) >>= _) _ _ s
  refine wpAny_bind (wpAny_seqItems hol hdl ?_)
  simp only [Int.toNat_natCast,hx]
  refine wpAny_bind (wpAny_setField ho hd (by simp) (wpAny_pure ⟨x,rfl,wpAny_pure (hQ _ ?_ (Heap.SameBut.update ..))⟩))
  exact⟨_,Heap.get?_update_self _ ho (Obj.isFreed_of_fields (Obj.data_mapFields hd _)),(Obj.cls_mapFields ..).trans hc,by
    rw [Obj.data_mapFields hd];simp [rawInt]⟩
theorem gh {it l:Addr}{i:Nat}{items:Array Value}{Q:Value→Shared→Prop}(hh:A.handled=none)
    (hit:s.heap.IsTupleIter it l i) (hl:s.heap.IsTuple l items) (hx:items[i]? = none)
    (hE:∀ h' e,Heap.ExtBut it s.heap h'→(∃ o,h'.get? e=some o∧o.cls=.type "StopIteration")→E (.ref e) { s with heap:=h' }) :
    wpAny (model prog w) A (Builtin.SmallTypes.nextOf (.ref it)) Q E s:=by
  obtain⟨o,ho,hc,hd⟩:=id hit
  obtain⟨ol,hol,_,nl,hdl⟩:=hl
  unfold Builtin.SmallTypes.nextOf
  refine wpAny_bind (wpAny_callSpecial?_slot (name:=Str.ofString "__next__") hit.typeIs F.slot_tuple_iterator_next
    (wpAny_call_entry F.slot_tuple_iterator_next hit.typeIs F.entry_tuple_iterator_next ?_ (F.args_tuple_iterator_next_1 _)))
  show wpAny _ _ (field (.ref it) 0 >>= _) _ _ s
  refine wpAny_bind (wpAny_field ho hd (x:=.ref l) rfl ?_)
  show wpAny _ _ (if (Value.ref l == Value.none)=true then _ else _) _ _ s
  rw [if_neg (show ¬ ((Value.ref l == Value.none)=true) from Bool.false_ne_true)]
  show wpAny _ _ (field (.ref it) 1 >>= _) _ _ s
  refine wpAny_bind (wpAny_field ho hd (x:=.int i 0) rfl ?_)
  show wpAny _ _ (seqItems? (.ref l) >>= _) _ _ s
  refine wpAny_bind (wpAny_seqItems hol hdl ?_)
  simp only [Int.toNat_natCast,hx]
  refine wpAny_bind (wpAny_rule (wpAny_bind (wpAny_setField ho hd (by simp) ?_)))
  show wpAny _ _ (newExc (.type "StopIteration") [] >>= _) _ _ _
  refine wpAny_bind ?_
  simp only [newExc,newTuple]
  refine wpAny_bind (wpAny_newObj_type ?_ (by size_fits))
  refine wpAny_bind (m:=firstArgMember _ _) (wpAny_of_eq (a:=Value.none) (by first|rfl|(simp only [firstArgMember];rfl)) ?_)
  refine wpAny_newObj_type ?_ (by size_fits)
  simp only [raiseNew]
  refine wpAny_bind (wpAny_handled ?_)
  first|rw [show A.in1.handled=none from hh] | rw [hh]
  refine wpAny_bind (wpAny_pure (wpAny_throw ?_))
  exact hE _ _ (((Heap.SameBut.update ..).extBut.push _).push _) ⟨_,Heap.get?_push_size _ rfl,rfl⟩
end
theorem qj {prog:Program}{w:World}{A:Around}(hh:A.handled=none)(it l:Addr)(hne:l≠it)(items:Array Value) :
    Draws prog w A it [it,l] items.size (fun i v=>items[i]? = some v) (fun i h=>h.IsTupleIter it l i∧h.IsTuple l items) where
  live:=fun _ _ st=>let ⟨o,ho,_⟩:=st.1;⟨o,ho⟩
  frame:=fun _ _ _ st hk=>⟨st.1.at fun o e=>hk it (by simp) o e,let ⟨o,ho,r⟩:=st.2;⟨o,hk l (by simp) o ho,r⟩⟩
  item:=fun i s Q E hi st hQ=>by
    have hx:items[i]? = some items[i]:=by simp [hi]
    refine eg st.1 st.2 hx fun h' hit' hs' => ?_
    refine hQ _ h' s.toks hx ⟨hit',?_⟩ hs'
    obtain⟨o,ho,r⟩:=st.2
    exact⟨o,(hs'.2 l hne).trans ho,r⟩
  done:=fun s Q E st hE=>gh hh st.1 st.2 (by simp) hE
def Ite (K:PySem.W.Frag) (a:Addr):It :=
  ⟨fun i H=>∃ xs x,SqT K H a xs∧xs[i]? = some x,fun i H x H'=>∃ q v,x=.ref q∧H q=none∧H'=upd H q (.tup [.int (i:Nat),v]) ∧ ∀ xs,SqT K H a xs→xs[i]? = some v,fun i H=>∃ xs,SqT K H a xs∧xs.length=i⟩
theorem Gg {P:Program}{w:World}{K:PySem.W.Frag}{elts:List Expr}{k:Nat}{pos:Pos}(e it a:Addr):At P w K (.Tuple elts k pos) (Ite K a) [e,it] e (fun i h=>(∃ old,IsEnum h e it (i:Nat) old)∧h.IsTupleIter it a i) where
  mem:=by simp
  obj:=fun i h st b hb=>by
    obtain⟨⟨old,he⟩,o,ho,hc,hd⟩:=st
    rcases List.mem_cons.mp hb with rfl|hb
    · exact⟨_,he,fun v z=>by
        have z':Data.fields _=Data.cell v:=z
        cases z'⟩
    · have:b=it:=by simpa using hb
      subst this
      exact⟨o,ho,fun v z=>by rw [hd] at z;cases z⟩
  keep:=fun i h h' st kk=>by
    obtain⟨⟨old,he⟩,st⟩:=st
    exact⟨⟨old,kk e (by simp) _ he⟩,st.at fun o x=>kk it (by simp) o x⟩
  item:=by
    intro X hP hw hK hc i pins s σ H E I hf st hg
    subst hP hw hK
    obtain⟨⟨old,he⟩,hit⟩:=st
    obtain⟨xs,x,hq,hx⟩:=hg
    obtain⟨its,rv,p,hz⟩:=I.tuple hq
    have ht:s.heap.IsTuple a its.toArray:=p
    obtain⟨oi,hoi,hci,hdi⟩:=id hit
    obtain⟨oa,hoa,hca,na,hda⟩:=id ht
    have hei:e≠it:=fun z=>by
      subst z
      have he':s.heap.get? e=_:=he
      rw [hoi] at he';cases he';exact AI hci (by decide)
    have hea:e≠a:=fun z=>by
      subst z
      have he':s.heap.get? e=_:=he
      rw [hoa] at he';cases he';exact AI hca (by decide)
    have hai:a≠it:=fun z=>by
      subst z
      rw [hoi] at hoa;cases hoa;rw [hci] at hca;exact AI hca (by decide)
    obtain⟨e0,e1,e2,e3,e4,e5⟩:=hf e (by simp)
    obtain⟨f0,f1,f2,f3,f4,f5⟩:=hf it (by simp)
    have hlt:i < its.toArray.size:=by
      have:=(List.getElem?_eq_some_iff.mp hx).1
      have hl:=rv.length
      simp;omega
    refine wpAny_pyNext_enum_itemD (qj (prog:=X.prog) (w:=X.w) (A:=X.A.in1) (I.ok.hd hc) it a hai its.toArray) he ⟨hit,ht⟩ hlt hei (by simp;exact⟨hei,hea⟩) fun y h' tk hy heo hst' htup hsz hk => ?_
    refine⟨_,rfl,wpAny_letOwnedTupleGo_enum heo fun h2 he2 hs2 => ?_⟩
    replace hs2:Heap.SameBut e h' h2:=hs2
    obtain⟨u,hu,ru⟩:=rv.get hx
    have hyu:y=u:=by
      have:its.toArray[i]? = some u:=by simpa using hu
      rw [hy] at this;exact Option.some.inj this
    subst hyu
    have elt:e < s.heap.objs.size:=Heap.lt_size he
    have ilt:it < s.heap.objs.size:=Heap.lt_size hoi
    have hN:H s.heap.objs.size=none:=I.hok.fresh (Nat.le_refl _)
    have keep:∀ b o,b≠e→b≠it→s.heap.get? b=some o→h2.get? b=some o:=fun b o b1 b2 q=>(hs2.2 b b1).trans (hk b o b1 b2 q)
    have htup2:h2.get? s.heap.objs.size=some { cls:=.type "tuple",data:=.seq #[.int i tk,y] }:=(hs2.2 _ (Nat.ne_of_gt elt)).trans htup
    have nch:∀ b,b∉([e,it] : List Addr)→b≠e∧b≠it:=fun b hb=>by simpa using hb
    refine⟨.ref s.heap.objs.size,upd H s.heap.objs.size (.tup [.int (i:Nat),x]),?_,rfl,⟨_,x,rfl,hN,rfl,fun ys hys=>by rw [I.tuple_inj hys hq];exact hx⟩,⟨⟨_,by simpa using he2⟩,hst'.1.extBut hs2.extBut (Ne.symm hei)⟩,fun b hb => ?_⟩
    · suffices I2:L2.Inv X pins σ (upd H s.heap.objs.size (.tup [.int (i:Nat),x])) { s with heap:=h2,gens:=s.gens,drawn:=s.drawn,toks:=tk + 1 } from I2
      refine I.step (g':=s.gens) (d':=s.drawn) (t':=tk + 1) (ch:=[e,it]) (fun b hb => ?_) (fun b o _ _ hb q _=>keep b o (nch b hb).1 (nch b hb).2 q) (fun b o _ _ hb q _=>⟨o.slots,keep b o (nch b hb).1 (nch b hb).2 q⟩) (fun b o _ q n => ?_) (fun b o hb q=>⟨o,keep b o (nch b hb).1 (nch b hb).2 q⟩)
        (fun b ys q => ?_) (fun b o u q => ?_) (fun b ps q=>⟨#[],?_⟩) (fun m hm => ?_) (fun b u q => ?_) I.bare
      · rcases List.mem_cons.mp hb with rfl|hb
        · exact⟨e3,e1,e4,e5⟩
        · have:b=it:=by simpa using hb
          subst this
          exact⟨f3,f1,f4,f5⟩
      · rw [aB (Nat.ne_of_lt (Heap.lt_size q))];exact n
      · rw [aB (aU q hN)];exact q
      · rw [aB (aU q hN)];exact q
      · rw [aB (aU q hN),q];simp
      · obtain⟨o,es,ep,ho,r⟩:=hm
        exact⟨o,es,ep,keep _ o (Ne.symm e1) (Ne.symm f1) ho,r⟩
      · by_cases hb:b=s.heap.objs.size
        · subst hb
          rw [bf] at q
          cases q
          exact⟨by show 2≤sizeLine;rw [sizeLine_eq];decide,[.int i tk,y],.cons ⟨tk,rfl⟩ (.cons ru .nil),_,htup2,rfl,_,rfl⟩
        · rw [aB hb] at q
          have ne1:∀ c v,H c=some v→c≠e:=fun c v z w=>by rw [w,e0] at z;cases z
          have ne2:∀ c v,H c=some v→c≠it:=fun c v z w=>by rw [w,f0] at z;cases z
          refine (I.hok b u q).stay (fun c v hc' z => ?_) (fun c z=>by rw [aB (aU z hN)];exact z) fun c ys z=>by rw [aB (aU z hN)];exact z
          rcases hc' with w|w
          · subst w;exact keep c v (ne1 c _ q) (ne2 c _ q) z
          · exact keep c v (ne1 c _ w) (ne2 c _ w) z
    · have:b≠s.heap.objs.size:=by
        rcases List.mem_cons.mp hb with rfl|hb
        · exact Nat.ne_of_lt elt
        · have:b=it:=by simpa using hb
          subst this
          exact Nat.ne_of_lt ilt
      rw [aB this]
      exact (hf b hb).1
  done:=by
    intro X hP hw hK hc i pins s σ H E I hf st hg
    subst hP hw hK
    obtain⟨⟨old,he⟩,hit⟩:=st
    obtain⟨xs,hq,hx⟩:=hg
    obtain⟨its,rv,p,hz⟩:=I.tuple hq
    have ht:s.heap.IsTuple a its.toArray:=p
    obtain⟨oi,hoi,hci,hdi⟩:=id hit
    obtain⟨oa,hoa,hca,na,hda⟩:=id ht
    have hai:a≠it:=fun z=>by
      subst z
      rw [hoi] at hoa;cases hoa;rw [hci] at hca;exact AI hca (by decide)
    obtain⟨f0,f1,f2,f3,f4,f5⟩:=hf it (by simp)
    have hsz:its.toArray.size=i:=by have:=rv.length;simp;omega
    refine wpAny_pyNext_enum_endD (qj (prog:=X.prog) (w:=X.w) (A:=X.A.in1) (I.ok.hd hc) it a hai its.toArray) he ⟨by rw [hsz];exact hit,ht⟩ fun h' hx'=>⟨rfl,I.turned (t':=s.toks) (fun b o hb e=>hx' b o hb e) f0 f1 f3 f4 f5⟩
  self:=fun _ _ _ _ _ st h=>by
    obtain⟨⟨old,he⟩,_⟩:=st
    exact wpAny_pyIter_enum he h
section
variable {X:Cx} {pos p tp:Pos} {elts:List Expr} {tk:Nat}
def iEn (K:PySem.W.Frag) (ta:TE):TI:=fun σ H R=>ta σ H fun x H1=>∃ a xs,x=.ref a∧SqT K H1 a xs∧(xs.length≤sizeLine→R (Ite K a) H1)
theorem LV {a:Expr} {ta:TE} (hg:Gl X "enumerate") (hm:X.mg "enumerate" = none) (ha:PE X a ta) (hs:starEach [a] X.env=[(false,eval a X.env)]:=by rfl):PI X (.Tuple elts tk tp) (.Call (.Name "enumerate" p) [a] [] pos) (iEn X.K ta):=by
  intro pins s σ H R I h
  have hpa:=cC ha eU hs
  refine Call_ (kS I hg hm PyProof.Rows.boot_enumerate (PyProof.Rows.callWith_type1 (thn (hpa pos pins s σ H (fun vs H1=>∃ a xs,vs=[.ref a]∧SqT X.K H1 a xs∧(xs.length≤sizeLine→R (Ite X.K a) H1)) I ?_) fun us s1 ⟨vs,H1,I1,r1,q1⟩ => ?_) hs rfl))
  · show ta σ H fun x H1=>_
    have key:∀ (x:V) (H1:Hp),(∃ a xs,x=.ref a∧SqT X.K H1 a xs∧(xs.length≤sizeLine→R (Ite X.K a) H1))=(∃ a xs,[x] = [.ref a]∧SqT X.K H1 a xs∧(xs.length≤sizeLine→R (Ite X.K a) H1)):=fun x H1=>by simp
    have h':ta σ H fun x H1=>∃ a xs,x=.ref a∧SqT X.K H1 a xs∧(xs.length≤sizeLine→R (Ite X.K a) H1):=h
    simp only [key] at h'
    exact h'
  · obtain⟨a,xs,e,hq,q⟩:=q1
    subst e
    obtain⟨u,rfl,ru⟩:=bj.one r1
    cases (show u=Value.ref a from ru)
    obtain⟨its,rv,pt,hz⟩:=I1.tuple hq
    refine k7 (show s1.heap.IsTuple a its.toArray from pt) fun h' he hit hsz hk => ?_
    refine wpAny_pyIter_enum (s:={ s1 with heap:=h' }) he ?_
    have I2:Inv X pins σ H1 { s1 with heap:=h' }:=I1.kept (t':=s1.toks) hk
    refine⟨s1.heap.objs.size + 1,[s1.heap.objs.size + 1,s1.heap.objs.size],_,_,H1,rfl,I2,Gg (s1.heap.objs.size + 1) s1.heap.objs.size a,⟨⟨_,by simpa using he⟩,hit⟩,fun b hb => ?_,q hz⟩
    have hb':s1.heap.objs.size≤b:=by
      rcases List.mem_cons.mp hb with e|hb
      · rw [e];exact Nat.le_succ _
      · have:b=s1.heap.objs.size:=by simpa using hb
        rw [this];exact Nat.le_refl _
    exact I1.fpOk hb' (I1.hok.fresh hb')
theorem Gh {K:PySem.W.Frag}{ρ:List Addr}{H:Hp}{hd:Hd}{q:Addr}{l:List D}{vs:List V}(r:RH K ρ H hd)(hq:H q=some (.tup vs))(rv:RDs K ρ H l vs)(hz:vs.length≤sizeLine) :
    oR K ρ H (Ite K q) ((List.range l.length).zip l |>.map fun p=>.tup [.int (p.1:Nat),p.2]) none where
  go:=fun ρ' H' hd' i d ex rh _ hi=>by
    have k:=r.kp ex
    obtain⟨hil,hi2⟩:=List.getElem?_eq_some_iff.mp hi
    have hl:i < l.length:=by simpa using hil
    have hd:d=.tup [.int (i:Nat),l[i]]:=by rw [← hi2];simp
    subst hd
    obtain⟨v,hv,rd⟩:=(rv.mono k).get (i:=i) (d:=l[i]) (by simp [hl])
    have sq:SqT K H' q vs:=SqT.of (k.tup q vs hq)
    refine⟨⟨vs,v,sq,hv⟩,fun x H2 y => ?_⟩
    obtain⟨q2,v2,rfl,hn,rfl,y⟩:=y
    have:=y vs sq
    rw [hv] at this
    cases this
    have sm:=cy (o:=HO.tup [.int (i:Nat),v]) hn
    refine⟨sm,?_⟩
    simp only [RD]
    exact⟨q2,_,rfl,bf,RDs.cons (by simp only [RD]) (RDs.cons (rd.mono (Kp.same sm)) RDs.nil)⟩
  stop:=fun ρ' H' hd' ex rh _=>⟨vs,SqT.of ((r.kp ex).tup q vs hq),by rw [← rv.length];simp⟩
  sz:=by
    have:=rv.length
    simp;omega
theorem LW {a:Expr} {f:EF} (hg:Gl X "enumerate") (hm:X.mg "enumerate" = none) (ha:ME X a f) (hs:starEach [a] X.env=[(false,eval a X.env)]:=by rfl):MI X (.Tuple elts tk tp) (.Call (.Name "enumerate" p) [a] [] pos) (IJ f):=by
  refine PI.imp (LV hg hm ha hs) fun σ H R ⟨ρ,σd,hd,rs,pp⟩=>⟨ρ,σd,hd,rs,?_⟩
  unfold IJ at pp
  cases e:f σd hd with
  | exc x h1=>rw [e] at pp;exact pp
  | bad=>rw [e] at pp;exact pp
  | ok d hd1 =>
    rw [e] at pp
    simp only [aG] at pp
    intro v H1 ρ1 ex1 rs1 rv
    cases d<;>try exact pp.elim
    rename_i l
    simp only [rD,RD] at rv
    obtain⟨q,vs,rfl,hq,rvs⟩:=rv
    exact⟨q,vs,rfl,SqT.of hq,fun hz=>pp _ H1 ρ1 ex1 rs1 (Gh rs1.hp hq rvs hz)⟩
end
end Fm
set_option Elab.async false
set_option linter.all false
set_option maxRecDepth 100000
namespace Fm
open PySem PySem.Spec L2 PySem.W PyProof.Rows
section
variable {prog:Program} {w:World} {A:Around} {E:Value→Shared→Prop} {s:Shared}
theorem CV {a:Addr} {vs:List Value} {n:Nat} {P:PySem.Fin→Shared→Prop} (ho:s.heap.get? a=some (seqObj "list" vs.toArray n)) (h2:vs.length < 2)
    (h:P (.done (.ret .none)) { s with heap:=sortedHeap s.heap a vs vs.toArray }):wpAny (model prog w) A (Builtin.«list.sort» ⟨[.ref a],[]⟩) P E s:=by
  rw [list_sort_plain]
  have ha:a < s.heap.objs.size:=Heap.lt_size ho
  refine wpAny_bind (listItems_at ho rfl ?_)
  refine wpAny_bind (listUpdate_at ho rfl ?_)
  obtain⟨e1,ho1⟩ : ∃ e1,(s.heap.update a (Obj.mapSeq fun _ => #[])).get? a=some (seqObj "list" #[] e1):=⟨_,get?_update_seq ho (fun _ => #[])⟩
  refine wpAny_bind (seqEpoch_at ho1 rfl ?_)
  refine wpAny_bind (wpAny_newTuple ?_)
  refine wpAny_bind (wpAny_newList ?_)
  refine wpAny_holding ?_
  have ho6:(((s.heap.update a (Obj.mapSeq fun _ => #[])).push (seqObj "tuple" vs.toArray 0)).push (seqObj "list" #[] 0)).get? a=some (seqObj "list" #[] e1):=by
    rw [Heap.get?_push_ne _ _ _ (by rw [size_push',Heap.size_update];exact Nat.ne_of_lt (Nat.lt_succ_of_lt ha)),Heap.get?_push_ne _ _ _ (by rw [Heap.size_update];exact Nat.ne_of_lt ha)]
    exact ho1
  show wpAny (model prog w) A _ P E { s with heap:=((s.heap.update a (Obj.mapSeq fun _ => #[])).push (seqObj "tuple" vs.toArray 0)).push (seqObj "list" #[] 0) }
  dsimp only
  have hsz:vs.toArray.size=vs.length:=by simp
  have h2':vs.toArray.size < 2:=by rw [hsz];exact h2
  rw [if_pos h2',if_pos h2']
  refine wpAny_bind (wpAny_pure ?_)
  rw [StateT.run_pure]
  refine wpAny_bind (wpAny_pure ?_)
  dsimp only
  refine wpAny_bind (seqEpoch_at ho6 rfl ?_)
  refine wpAny_bind (listUpdate_at ho6 rfl ?_ (hsz2:=by rw [Array.size_map];show (pairsOf vs).size≤_;rw [pairsOf_size,sizeLine_eq];omega))
  simp only [bne_self_eq_false,Bool.false_eq_true,if_false]
  have e:(arrOf (SortSt.mk' general' (vs.toArray.zip vs.toArray) #[] 7 none)).map (·.2)=vs.toArray:=by
    show (vs.toArray.zip vs.toArray).map (·.2)=vs.toArray
    apply Array.ext
    · simp
    · intro i h1 h2
      simp
  refine wpAny_pure ?_
  have h':=h
  unfold sortedHeap at h'
  rw [e]
  exact h'
theorem Ov {Q:Bool→Shared→Prop}:∀ (ns ms:List Int) {xs ys:List Value} (i:Nat),IntsAre xs ns→IntsAre ys ms→Q (Fm.lexLt ns ms) s→KatLex prog w A true (decide (xs.length < ys.length)) Q (xs.zip ys) i s:=by
  intro ns
  induction ns with
  | nil =>
    intro ms xs ys i hx hy h
    cases hx
    cases ms with
    | nil=>cases hy;exact h
    | cons m ms =>
      cases hy
      have h':Q true s:=h
      exact h'
  | cons n ns ih =>
    intro ms xs ys i hx hy h
    cases hx with
    | cons _ t r =>
      cases ms with
      | nil =>
        cases hy
        have h':Q false s:=h
        exact h'
      | cons m ms =>
        cases hy with
        | cons _ t' r' =>
          rename_i xs ys
          refine kat_cons (SeqAt.EqAt.int_int n t m t' prog w _ _ ?_)
          by_cases e:n=m
          · subst e
            rw [show (n == n)=true by simp]
            refine kat_yes ?_
            have h':Q (Fm.lexLt ns ms) s:=by simpa [Fm.lexLt] using h
            have:=ih ms (i + 1) r r' h'
            have e2:decide ((Value.int n t :: xs).length < (Value.int n t' :: ys).length)=decide (xs.length < ys.length):=by simp
            rw [e2]
            exact this
          · rw [show (n == m)=false by simpa using e]
            refine kat_no ?_
            have h':Q (decide (n < m)) s:=by simpa [Fm.lexLt,e] using h
            cases i with
            | zero=>exact oneLt_int h'
            | succ i =>
              have:(true && (i + 1 == 0))=false:=by simp
              rw [this]
              exact kat_one _ _ (lt_int (by first|exact⟨_,rfl,h'⟩|exact h'))
end
theorem Ow {h:Heap}{a:Addr}{m m':Str→Option Value}(x:h.Ns a m)(y:h.Ns a m'):m=m':=by
  obtain⟨o,es,ep,ho,hd,_,r⟩:=x
  obtain⟨o',es',ep',ho',hd',_,r'⟩:=y
  rw [ho] at ho';cases ho'
  rw [hd] at hd';cases hd'
  funext z
  rw [← r z,← r' z]
inductive dl (H:Hp):List V→List (List Int)→Prop
  | nil:dl H [] []
  | cons {a:Addr} {r:List Int} {vs:List V} {rs:List (List Int)}:H a=some (.tup (r.map V.int))→dl H vs rs→dl H (.ref a :: vs) (r :: rs)
theorem dl.get {H:Hp}:∀ {vs:List V} {rs:List (List Int)} {i:Nat} {v:V},dl H vs rs→vs[i]? = some v → ∃ a,v=.ref a∧H a=some (.tup ((rs.getD i []).map V.int))
  | _,_,_,_,.nil,e=>by simp at e
  | _,_,0,_,.cons h t,e=>by simp at e;subst e;exact⟨_,rfl,h⟩
  | _,_,i + 1,v,.cons h t,e=>by
    obtain⟨a,h1,h2⟩:=dl.get (i:=i) (v:=v) t (by simpa using e)
    exact⟨a,h1,by simpa using h2⟩
theorem dl.length {H:Hp}:∀ {vs:List V} {rs:List (List Int)},dl H vs rs→vs.length=rs.length
  | _,_,.nil=>rfl
  | _,_,.cons _ t=>by simp [dl.length t]
section
variable {X:Cx} {pos p:Pos}
theorem yi {i:Int}{u:Value}(r:bR (.int i) u):∃ t,u=.int i t:=r
end
end Fm
set_option Elab.async false
set_option linter.all false
set_option maxRecDepth 100000
namespace Fm
open PySem PySem.Spec L2
section
variable {X:Cx}
theorem mv (i:Nat) {x:Str} {pos:Pos} (hN:X.N[i]? = some x:=by rfl) (hv:Vis X.env.scope x:=by first|exact Or.inl rfl|exact Or.inr (Or.inl rfl)|exact Or.inr (Or.inr rfl)) (hd:(x == ("__debug__" : Str))=false:=by decide)
    (hcd:(x == ("__classdict__" : Str))=false:=by decide):ME X (.Name x pos) (aa i):=Oh hN hv hd hcd
end
theorem dj {k:Nat}{A:Around}(r:iC k A):A.units + 24 < cLine:=by have:=r.un;omega
def aY (X:Cx):List (Str × NameKind)→Prop
  | []=>True
  | y :: r=>(y.2=.free→X.env.kindOf y.1=some .cell∨X.env.kindOf y.1=some .free)∧aY X r
def bQ (X:Cx) (scope:Scope):List Str→List Nat→Prop
  | [],[]=>True
  | x :: xs,i :: is=>(X.N[i]? = some x∧scope.names.lookup x=some .free)∧bQ X scope xs is
  | _,_=>False
theorem aY.get {X:Cx}:∀ {l:List (Str × NameKind)},aY X l → ∀ y∈l,y.2=.free→X.env.kindOf y.1=some .cell∨X.env.kindOf y.1=some .free
  | [],_,y,hy=>by simp at hy
  | z :: r,h,y,hy=>by
    rcases List.mem_cons.mp hy with rfl|hy
    · exact h.1
    · exact aY.get h.2 y hy
theorem bQ.get {X:Cx}{scope:Scope}:∀ {capn:List Str} {caps:List Nat},bQ X scope capn caps→(∀ (j:Nat) x,capn[j]? = some x → ∃ i,caps[j]? = some i∧X.N[i]? = some x∧scope.names.lookup x=some .free)∧capn.length=caps.length
  | [],[],_=>⟨fun j x e=>by simp at e,rfl⟩
  | x :: xs,i :: is,h=>by
    obtain⟨h1,h2⟩:=bQ.get h.2
    refine⟨fun j y e => ?_,by simp [h2]⟩
    cases j with
    | zero=>simp at e;subst e;exact⟨i,rfl,h.1⟩
    | succ j=>exact h1 j y (by simpa using e)
  | [],_ :: _,h=>h.elim
  | _ :: _,[],h=>h.elim
theorem aY.nil {X:Cx}:aY X []:=trivial
theorem aY.cons {X:Cx}{y:Str × NameKind}{r:List (Str × NameKind)}(h:y.2=.free→X.env.kindOf y.1=some .cell∨X.env.kindOf y.1=some .free)(t:aY X r):aY X (y :: r):=⟨h,t⟩
theorem bQ.nil {X:Cx}{scope:Scope}:bQ X scope [] []:=trivial
theorem bQ.cons {X:Cx}{scope:Scope}{x:Str}{xs:List Str}{i:Nat}{is:List Nat}(h1:X.N[i]? = some x)(h2:scope.names.lookup x=some .free)(t:bQ X scope xs is):bQ X scope (x :: xs) (i :: is):=⟨⟨h1,h2⟩,t⟩
theorem bX.mk' {X:Cx}{scope:Scope}{own capn:List Str}{caps:List Nat}(k:scope.kind=.function)(c:∀ y∈scope.names,y.2 ≠ .cell)(n:∀ y∈scope.names,y.2=.local→scope.names.lookup y.1=some .local)(f:aY X scope.names)(cp:bQ X scope capn caps):bX X scope own capn caps :=
  ⟨k,c,n,f.get,cp.get.1,cp.get.2⟩
end Fm
set_option Elab.async false
set_option linter.all false
set_option maxRecDepth 100000
namespace Fm
open PySem PySem.Spec L2
section
variable {K:PySem.W.Frag} {ρ:List Addr} {H:Hp}
end
section
variable {X:Cx} {pos:Pos}
theorem rM {i:Int}{j:Nat}{p2:Pos}:ME X (.UnaryOp .USub (.Constant (.int i) j p2) pos) (fC (.int (-i))) :=
  PE.imp (PU NY Ih) fun σ H Q ⟨ρ,σd,hd,rs,p⟩=>⟨i,rfl,p.here rs (by simp only [rD,RD])⟩
end
end Fm
set_option Elab.async false
set_option linter.all false
set_option maxRecDepth 100000
namespace Fm
open PySem PySem.Spec L2 PySem.W PyProof.Rows
theorem Ox {l r:Nat}(h:l < r):l≤(l + r) / 2∧(l + r) / 2 < r:=by omega
section
variable {cmp:Nat→Nat→(Bool→Shared→Prop)→Shared→Prop} {n:Nat} {s:Shared} {lt:Nat→Nat→Bool}
structure Ord (lt:Nat→Nat→Bool) (n:Nat):Prop where
  asy:∀ i j,i < n→j < n→lt i j=true→lt j i=false
  tr:∀ i j k,i < n→j < n→k < n→lt i j=true→lt j k=true→lt i k=true
  tot:∀ i j,i < n→j < n→i≠j→lt i j=false→lt j i=true
structure Gd (n:Nat) (p:Array Nat):Prop where
  sz:p.size=n
  pm:p.Perm (List.toArray (List.range n))
theorem Gd.below (g:Gd n p){i:Nat}(hi:i < n):p.getD i 0 < n:=by
  have h1:i < p.size:=by rw [g.sz];exact hi
  have e:p.getD i 0=p[i]:=by simp [Array.getD,h1]
  rw [e]
  have m:p[i]∈p.toList:=by simp
  have:=(Array.perm_iff_toList_perm.mp g.pm).mem_iff.mp m
  simpa using this
theorem Gd.ne (g:Gd n p){i j:Nat}(hi:i < n)(hj:j < n)(h:i≠j):p.getD i 0≠p.getD j 0:=by
  have h1:i < p.size:=by rw [g.sz];exact hi
  have h2:j < p.size:=by rw [g.sz];exact hj
  have e:p.getD i 0=p[i]:=by simp [Array.getD,h1]
  have e':p.getD j 0=p[j]:=by simp [Array.getD,h2]
  rw [e,e']
  have nd:p.toList.Nodup:=(Array.perm_iff_toList_perm.mp g.pm).nodup_iff.mpr (by simpa using List.nodup_range)
  intro z
  have:=(List.getElem_inj (xs:=p.toList) nd (i:=i) (j:=j) (h₀ := by simpa using h1) (h₁ := by simpa using h2)).mp (by simpa using z)
  exact h this
def Srt (lt:Nat→Nat→Bool) (p:Array Nat) (m:Nat):Prop:=∀ i j,i < j→j < m→lt (p.getD i 0) (p.getD j 0)=true
def Dsc (lt:Nat→Nat→Bool) (p:Array Nat) (m:Nat):Prop:=∀ i j,i < j→j < m→lt (p.getD j 0) (p.getD i 0)=true
theorem iH:Gd n (List.toArray (List.range n)):=⟨by simp,Array.Perm.refl _⟩
theorem Srt.next {p:Array Nat}{m:Nat}(O:Ord lt n)(g:Gd n p)(h:Srt lt p m)(h1:1≤m)(hm:m < n)(c:lt (p.getD (m - 1) 0) (p.getD m 0)=true):Srt lt p (m + 1):=by
  intro i j hij hj
  by_cases e:j < m
  · exact h i j hij e
  · have:j=m:=by omega
    subst this
    by_cases e2:i=j - 1
    · subst e2;exact c
    · exact O.tr _ _ _ (g.below (by omega)) (g.below (by omega)) (g.below hm) (h i (j - 1) (by omega) (by omega)) c
theorem Dsc.next {p:Array Nat}{m:Nat}(O:Ord lt n)(g:Gd n p)(h:Dsc lt p m)(h1:1≤m)(hm:m < n)(c:lt (p.getD m 0) (p.getD (m - 1) 0)=true):Dsc lt p (m + 1):=by
  intro i j hij hj
  by_cases e:j < m
  · exact h i j hij e
  · have:j=m:=by omega
    subst this
    by_cases e2:i=j - 1
    · subst e2;exact c
    · exact O.tr _ _ _ (g.below hm) (g.below (by omega)) (g.below (by omega)) c (h i (j - 1) (by omega) (by omega))
variable (O:Ord lt n) (hc:∀ i j,i < n→j < n → ∀ C:Bool→Shared→Prop,C (lt i j) s→cmp i j C s)
include O hc
theorem mS {p:Array Nat}(g:Gd n p){Q:Nat→Shared→Prop}(q:∀ m,1≤m→m≤n→Srt lt p m→(m < n→lt (p.getD m 0) (p.getD (m - 1) 0)=true)→Q m s) :
    ∀ (f m:Nat),1≤m→m + f=n→Srt lt p m→(kas_asc p f m).kasWp cmp Q s
  | 0,m,h1,e,h=>q m h1 (by omega) h fun z=>by omega
  | f + 1,m,h1,e,h=>by
    refine hc _ _ (g.below (by omega)) (g.below (by omega)) _ ?_
    cases c:lt (p.getD m 0) (p.getD (m - 1) 0) with
    | true=>((try dsimp only);(try rw [if_pos rfl]));exact q m h1 (by omega) h fun _=>c
    | false =>
      ((try dsimp only);(try rw [if_neg Bool.false_ne_true]))
      have c':=O.tot _ _ (g.below (by omega)) (g.below (by omega)) (g.ne (i:=m) (j:=m - 1) (by omega) (by omega) (by omega)) c
      exact mS g q f (m + 1) (by omega) (by omega) (h.next O g h1 (by omega) c')
theorem qk {p:Array Nat}(g:Gd n p){Q:Array Nat × Nat × Nat→Shared→Prop}(q:∀ m,1≤m→m≤n→Dsc lt p m→Q (p,m,0) s) :
    ∀ (f m:Nat),1≤m→m + f=n→Dsc lt p m→(kas_desc f p m 0).kasWp cmp Q s
  | 0,m,h1,e,h=>q m h1 (by omega) h
  | f + 1,m,h1,e,h=>by
    refine hc _ _ (g.below (by omega)) (g.below (by omega)) _ ?_
    cases c:lt (p.getD m 0) (p.getD (m - 1) 0) with
    | true =>
      ((try dsimp only);(try rw [if_pos rfl]));(try rw [if_neg (by omega)])
      exact qk g q f (m + 1) (by omega) (by omega) (h.next O g h1 (by omega) c)
    | false =>
      ((try dsimp only);(try rw [if_neg Bool.false_ne_true]))
      have c':=O.tot _ _ (g.below (by omega)) (g.below (by omega)) (g.ne (i:=m) (j:=m - 1) (by omega) (by omega) (by omega)) c
      refine hc _ _ (g.below (by omega)) (g.below (by omega)) _ ?_
      rw [c'];((try dsimp only);(try rw [if_pos rfl]))
      exact q m h1 (by omega) h
omit hc in
theorem Oy {p:Array Nat}(g:Gd n p){m:Nat}(hm:m≤n)(h:Dsc lt p m):Gd n (kas_rev p 0 m)∧Srt lt (kas_rev p 0 m) m:=by
  have at':∀ k,k < m→(kas_rev p 0 m).getD k 0=p.getD (m - 1 - k) 0:=fun k hk=>by
    have e:=getElem?_mirror_all (xs:=p) (i:=0) (j:=m) (by rw [g.sz];exact hm) k
    rw [if_pos ⟨Nat.zero_le _,hk⟩] at e
    unfold kas_rev
    rw [Array.getD_eq_getD_getElem?,Array.getD_eq_getD_getElem?,e,Nat.zero_add]
  refine⟨⟨by unfold kas_rev;rw [mirror_size,g.sz],(mirror_perm _ _ _ _).trans g.pm⟩,fun i j hij hj => ?_⟩
  rw [at' i (by omega),at' j hj]
  exact h _ _ (by omega) (by omega)
theorem yj (h2:2≤n){Q:Nat × Array Nat→Shared→Prop}(q:∀ m p,Gd n p→1≤m→m≤n→Srt lt p m→Q (m,p) s):(kas_count n (List.toArray (List.range n))).kasWp cmp Q s:=by
  unfold kas_count
  rw [KasT.kasWp_bind]
  refine mS O hc iH (fun m h1 hm hs hd => ?_) (n - 1) 1 (Nat.le_refl _) (by omega) (fun i j hij hj=>by omega)
  by_cases e:m=n
  · subst e
    rw [if_pos (by simp)]
    exact q m _ iH h1 (Nat.le_refl _) hs
  · rw [if_neg (by simpa using e)]
    by_cases e1:m > 1
    · rw [if_pos e1]
      refine hc _ _ (iH.below (by omega)) (iH.below (by omega)) _ ?_
      have:=hs 0 (m - 1) (by omega) (by omega)
      rw [this];((try dsimp only);(try rw [if_pos rfl]))
      exact q m _ iH h1 hm hs
    · rw [if_neg e1]
      have:m=1:=by omega
      subst this
      have c:=hd (by omega)
      unfold kas_descPart
      rw [KasT.kasWp_bind]
      refine qk O hc iH (fun m h1 hm hs => ?_) (n - 2) 2 (by omega) (by omega) (fun i j hij hj => ?_)
      · rw [if_neg (by simp)]
        unfold kas_tail3
        rw [KasT.kasWp_bind]
        obtain⟨g',s'⟩:=Oy O iH hm hs
        exact mS O hc g' (fun m' h1' hm' hs' _=>q m' _ g' h1' hm' hs') (n - m) m h1 (by omega) s'
      · have hi:i=0:=by omega
        have hj:j=1:=by omega
        subst hi hj
        exact c
theorem jZ {p:Array Nat}(g:Gd n p){k:Nat}(hk:k < n)(hs:Srt lt p k){Q:Nat→Shared→Prop}(q:∀ l,l≤k→(∀ i,i < l→lt (p.getD i 0) (p.getD k 0)=true)→(∀ i,l≤i→i < k→lt (p.getD k 0) (p.getD i 0)=true)→Q l s) :
    ∀ (f l r:Nat),r - l≤f→l≤r→r≤k→(∀ i,i < l→lt (p.getD i 0) (p.getD k 0)=true)→(∀ i,r≤i→i < k→lt (p.getD k 0) (p.getD i 0)=true)→(kas_place p k f l r).kasWp cmp Q s
  | 0,l,r,hf,hl,hr,a,b=>q l (Nat.le_trans hl hr) a fun i h1 h2=>b i (Nat.le_trans (Nat.le_of_sub_eq_zero (Nat.le_zero.mp hf)) h1) h2
  | f + 1,l,r,hf,hl,hr,a,b=>by
    unfold kas_place
    by_cases e:l ≥ r
    · rw [if_pos e]
      exact q l (Nat.le_trans hl hr) a fun i h1 h2=>b i (Nat.le_trans e h1) h2
    · rw [if_neg e]
      have lr:l < r:=Nat.not_le.mp e
      have hh:=Ox lr
      generalize (l + r) / 2=M at hh
      have hm:M < k:=Nat.lt_of_lt_of_le hh.2 hr
      have hMn:M < n:=Nat.lt_trans hm hk
      refine hc _ _ (g.below hk) (g.below hMn) _ ?_
      cases c:lt (p.getD k 0) (p.getD M 0) with
      | true =>
        ((try dsimp only);(try rw [if_pos rfl]))
        refine jZ g hk hs q f l M (Nat.le_of_lt_succ (Nat.lt_of_lt_of_le (Nat.sub_lt_sub_right hh.1 hh.2) hf)) hh.1 (Nat.le_of_lt hm) a fun i h1 h2 => ?_
        by_cases z:i=M
        · subst z;exact c
        · exact O.tr _ _ _ (g.below hk) (g.below hMn) (g.below (Nat.lt_trans h2 hk)) c (hs _ i (Nat.lt_of_le_of_ne h1 (Ne.symm z)) h2)
      | false =>
        ((try dsimp only);(try rw [if_neg Bool.false_ne_true]))
        have c':=O.tot _ _ (g.below hk) (g.below hMn) (g.ne (i:=k) (j:=M) hk hMn (Nat.ne_of_gt hm)) c
        refine jZ g hk hs q f (M + 1) r (Nat.le_of_lt_succ (Nat.lt_of_lt_of_le (Nat.sub_lt_sub_left lr (Nat.lt_succ_of_le hh.1)) hf)) hh.2 hr (fun i h1 => ?_) b
        by_cases z:i=M
        · subst z;exact c'
        · have hi:i < M:=Nat.lt_of_le_of_ne (Nat.le_of_lt_succ h1) z
          exact O.tr _ _ _ (g.below (Nat.lt_trans hi hMn)) (g.below hMn) (g.below hk) (hs i _ hi hm) c'
theorem sP {Q:Array Nat→Shared→Prop}(q:∀ p,Gd n p→Srt lt p n→Q p s):∀ (f:Nat) (p:Array Nat) (k:Nat),Gd n p→k + f=n→Srt lt p k→(kas_bin f p k).kasWp cmp Q s
  | 0,p,k,g,e,h=>by
    have:k=n:=e
    subst this
    exact q p g h
  | f + 1,p,k,g,e,h=>by
    unfold kas_bin
    rw [KasT.kasWp_bind]
    have hk:k < n:=e ▸ Nat.lt_add_of_pos_right (Nat.succ_pos f)
    refine jZ O hc g hk h (fun l hl a b => ?_) k 0 k (Nat.le_refl _) (Nat.zero_le _) (Nat.le_refl _) (fun i z=>absurd z (Nat.not_lt_zero _)) (fun i z z'=>absurd z' (Nat.not_lt.mpr z))
    have hks:k < p.size:=by rw [g.sz];exact hk
    have at':∀ i,(bubble p k (k - l)).getD i 0=if i=l then p.getD k 0 else if l < i∧i≤k then p.getD (i - 1) 0 else p.getD i 0:=fun i=>by
      have:=getElem?_bubble hks (k - l) (Nat.sub_le _ _) i
      rw [Nat.sub_sub_self hl] at this
      simp only [Array.getD_eq_getD_getElem?]
      rw [this]
      by_cases c1:i=l
      · rw [if_pos c1,if_pos c1]
      · rw [if_neg c1,if_neg c1]
        by_cases c2:l < i∧i≤k
        · rw [if_pos c2,if_pos c2]
        · rw [if_neg c2,if_neg c2]
    refine sP q f _ (k + 1) ⟨by rw [bubble_size,g.sz],(bubble_perm _ _ _).trans g.pm⟩ (by rw [Nat.add_right_comm];exact e) fun i j hij hj => ?_
    have jk:j≤k:=Nat.le_of_lt_succ hj
    have j1:j - 1 < k:=Nat.sub_one_lt_of_le (Nat.zero_lt_of_lt hij) jk
    rw [at' i,at' j]
    by_cases c1:i=l
    · have lj:l < j:=c1 ▸ hij
      rw [if_pos c1,if_neg (Nat.ne_of_gt lj),if_pos ⟨lj,jk⟩]
      exact b _ (Nat.le_sub_one_of_lt lj) j1
    · rw [if_neg c1]
      by_cases c2:l < i∧i≤k
      · have lj:l < j:=Nat.lt_trans c2.1 hij
        rw [if_pos c2,if_neg (Nat.ne_of_gt lj),if_pos ⟨lj,jk⟩]
        exact h _ _ (Nat.sub_lt_sub_right (Nat.zero_lt_of_lt c2.1) hij) j1
      · rw [if_neg c2]
        have il:i < l:=Nat.lt_of_le_of_ne (Nat.not_lt.mp fun z=>c2 ⟨z,Nat.le_trans (Nat.le_of_lt hij) jk⟩) c1
        by_cases c3:j=l
        · rw [if_pos c3];exact a _ il
        · rw [if_neg c3]
          by_cases c4:l < j∧j≤k
          · rw [if_pos c4]
            exact h _ _ (Nat.lt_of_lt_of_le il (Nat.le_sub_one_of_lt c4.1)) j1
          · rw [if_neg c4]
            have jl:j < l:=Nat.lt_of_le_of_ne (Nat.not_lt.mp fun z=>c4 ⟨z,jk⟩) c3
            exact h _ _ hij (Nat.lt_of_lt_of_le jl hl)
theorem AJ (h2:2≤n){Q:Array Nat→Shared→Prop}(q:∀ p,Gd n p→Srt lt p n→Q p s):(kas_sort n).kasWp cmp Q s:=by
  unfold kas_sort
  rw [KasT.kasWp_bind]
  refine yj O hc h2 fun m p g h1 hm hs => ?_
  by_cases e:m < n
  · rw [if_pos e]
    have:max m 1=m:=by omega
    show KasT.kasWp cmp (kas_bin (n - max m 1) p (max m 1)) Q s
    rw [this]
    exact sP O hc q (n - m) p m g (by omega) hs
  · rw [if_neg e]
    have:m=n:=by omega
    subst this
    exact q p g hs
end
end Fm
set_option linter.all false
namespace Fm
def yk (x:List Int):List (List Int)→List (List Int)
  | []=>[x]
  | y :: r=>if lexLt x y=true then x :: y :: r else y :: yk x r
def dv:List (List Int)→List (List Int)
  | []=>[]
  | x :: r=>yk x (dv r)
def ym (r:List Int):D:=.tup (r.map .int)
@[simp] def Rj:O2:=fun x y h=>match x,y with
  | .tup (d :: l),.int n=>if 2≤n∧(d :: l).length * n.toNat≤1000 then .ok (.tup (List.replicate n.toNat (d :: l)).flatten) h else .bad
  | _,_=>.bad
@[simp] def Rn:D→Hd→Res D:=fun x h=>match x with
  | .ref n=>match h[n]? with|some (.lst l)=>.ok .non (h.set n (.lst l.reverse))|_=>.bad
  | _=>.bad
@[simp] def eqR (h:Hd) (x y:D):Option Bool:=match x,y with
  | .ref a,.ref b=>if a≠b then eqG h (.ref a) (.ref b) else none
  | x,y=>if dep x≤20 then peq x y else none
def sQ (h:Hd):List D→List D→Option Bool
  | x :: xs,y :: ys=>match eqR h x y,sQ h xs ys with
    | some a,some b=>some (a && b)
    | _,_=>none
  | _,_=>some true
theorem j0:∀ a,lexLt a a=false
  | []=>rfl
  | x :: a=>by simp [lexLt,j0 a]
theorem i0:∀ {a b c},lexLt a b=true→lexLt b c=true→lexLt a c=true
  | [],[],_,h,_=>by simp [lexLt] at h
  | [],_ :: _,[],_,h=>by simp [lexLt] at h
  | [],_ :: _,_ :: _,_,_=>rfl
  | _ :: _,[],_,h,_=>by simp [lexLt] at h
  | _ :: _,_ :: _,[],_,h=>by simp [lexLt] at h
  | x :: a,y :: b,z :: c,h,h'=>by
    simp only [lexLt] at h h' ⊢
    by_cases e:x=y
    · subst e
      rw [if_pos rfl] at h
      by_cases e2:x=z
      · subst e2
        rw [if_pos rfl] at h' ⊢
        exact i0 h h'
      · rw [if_neg e2] at h' ⊢;exact h'
    · rw [if_neg e] at h
      by_cases e2:y=z
      · subst e2
        rw [if_neg e];exact h
      · rw [if_neg e2] at h'
        simp at h h'
        rw [if_neg (by omega)]
        simp;omega
theorem oS:∀ {a b},a≠b→lexLt a b=false→lexLt b a=true
  | [],[],h,_=>absurd rfl h
  | [],_ :: _,_,h=>by simp [lexLt] at h
  | _ :: _,[],_,_=>rfl
  | x :: a,y :: b,h,h'=>by
    simp only [lexLt] at h' ⊢
    by_cases e:x=y
    · subst e
      rw [if_pos rfl] at h' ⊢
      exact oS (fun z=>h (by rw [z])) h'
    · rw [if_neg e] at h'
      rw [if_neg (Ne.symm e)]
      simp at h' ⊢;omega
theorem qm {a b:List Int}(h:lexLt a b=true):lexLt b a=false:=by
  cases c:lexLt b a with
  | false=>rfl
  | true=>have:=i0 h c;rw [j0] at this;cases this
theorem oT (x:List Int):∀ r,(yk x r).Perm (x :: r)
  | []=>.refl _
  | y :: r=>by
    simp only [yk]
    split
    · exact .refl _
    · exact ((oT x r).cons y).trans (.swap x y r)
theorem jj:∀ r,(dv r).Perm r
  | []=>.refl _
  | x :: r=>(oT x _).trans ((jj r).cons x)
theorem sR {x:List Int}:∀ {r:List (List Int)},x∉r→r.Pairwise (fun a b=>lexLt a b=true)→(yk x r).Pairwise (fun a b=>lexLt a b=true)
  | [],_,_=>by simp [yk]
  | y :: r,hx,h=>by
    simp only [yk]
    have hy : ¬ x=y:=fun z=>hx (by simp [z])
    have hr:x∉r:=fun z=>hx (by simp [z])
    obtain⟨h1,h2⟩:=List.pairwise_cons.mp h
    split
    · rename_i c
      refine List.pairwise_cons.mpr ⟨fun b hb => ?_,h⟩
      rcases List.mem_cons.mp hb with rfl|hb
      · exact c
      · exact i0 c (h1 b hb)
    · rename_i c
      have c':=oS hy (by simpa using c)
      refine List.pairwise_cons.mpr ⟨fun b hb => ?_,sR hr h2⟩
      rcases List.mem_cons.mp ((oT x r).mem_iff.mp hb) with rfl|hb
      · exact c'
      · exact h1 b hb
theorem k8:∀ {r:List (List Int)},r.Nodup→(dv r).Pairwise (fun a b=>lexLt a b=true)
  | [],_=>.nil
  | x :: r,h=>by
    obtain⟨h1,h2⟩:=List.nodup_cons.mp h
    exact sR (fun z=>h1 ((jj r).mem_iff.mp z)) (k8 h2)
theorem Gi {a b:List (List Int)}(p:a.Perm b)(ha:a.Pairwise (fun a b=>lexLt a b=true))(hb:b.Pairwise (fun a b=>lexLt a b=true)):a=b :=
  List.Perm.eq_of_pairwise (fun x y _ _ h h'=>by have:=qm h;rw [h'] at this;cases this) ha hb p
end Fm
set_option Elab.async false
set_option linter.all false
set_option maxRecDepth 100000
namespace Fm
open PySem PySem.Spec L2 PySem.W PyProof.Rows
section
variable {X:Cx} {pos p:Pos}
theorem dl.rds {K:PySem.W.Frag}{ρ:List Addr}{H:Hp}:∀ {vs:List V} {rs:List (List Int)},dl H vs rs→RDs K ρ H (rs.map ym) vs
  | _,_,.nil=>RDs.nil
  | _,_,.cons (a:=a) (r:=r) h t=>by
    refine RDs.cons ?_ (dl.rds t)
    unfold ym
    simp only [RD]
    refine⟨a,_,rfl,h,?_⟩
    clear h
    induction r with
    | nil=>exact RDs.nil
    | cons x r ih=>exact RDs.cons (by simp only [RD]) ih
theorem dl.pick {H:Hp}{vs:List V}{rs:List (List Int)}(h:dl H vs rs):∀ (l:List Nat),(∀ i∈l,i < vs.length)→dl H (l.map fun i=>vs.getD i .non) (l.map fun i=>rs.getD i [])
  | [],_=>.nil
  | i :: l,hl=>by
    have hi:i < vs.length:=hl i (by simp)
    obtain⟨a,e,ha⟩:=h.get (i:=i) (v:=vs[i]) (by simp [hi])
    have t:=dl.pick h l fun j hj=>hl j (by simp [hj])
    have:vs.getD i .non=.ref a:=by simp [List.getD,hi,e]
    simp only [List.map_cons,this]
    exact .cons ha t
theorem bj.pick {vs:List V}{us:List Value}(h:bj vs us):∀ (l:List Nat),(∀ i∈l,i < vs.length)→bj (l.map fun i=>vs.getD i .non) (l.map fun i=>us.getD i Value.none)
  | [],_=>.nil
  | i :: l,hl=>by
    have hi:i < vs.length:=hl i (by simp)
    obtain⟨u,e,ru⟩:=h.get (i:=i) (x:=vs[i]) (by simp [hi])
    have t:=bj.pick h l fun j hj=>hl j (by simp [hj])
    simp only [List.map_cons]
    refine .cons ?_ t
    simp [List.getD,hi,e]
    exact ru
end
end Fm
set_option Elab.async false
set_option linter.all false
set_option maxRecDepth 100000
namespace Fm
open PySem PySem.Spec L2 PySem.W PyProof.Rows
section
variable {X:Cx} {pos p:Pos}
theorem RDs.rep {K:PySem.W.Frag}{ρ:List Addr}{H:Hp}{l:List D}{vs:List V}(r:RDs K ρ H l vs):∀ k,RDs K ρ H (List.replicate k l).flatten (List.replicate k vs).flatten
  | 0=>RDs.nil
  | k + 1=>by
    rw [List.replicate_succ,List.replicate_succ,List.flatten_cons,List.flatten_cons]
    exact RDs.append r (RDs.rep r k)
theorem Oz {pins:List (Addr × Obj)}{σ:L2.St}{H:Hp}{s:Shared}{ρ:List Addr}{hd:Hd}{d k:D}{v v':V}{u u':Value}{b:Bool}{A:Around}(hu:A.units + 23 < cLine)(I:Inv X pins σ H s)(r:RH X.K ρ H hd)(h1:RD X.K ρ H d v)(h2:RD X.K ρ H k v')
    (r1:bR v u) (r2:bR v' u') (e:eqR hd d k=some b):SeqAt.EqAt A s u u' b:=by
  have hu0:A.units < cLine:=by omega
  have plain:(if dep d≤20 then peq d k else none)=some b→SeqAt.EqAt A s u u' b:=fun e=>by
    split at e
    · rename_i hd20
      exact IR I.hok h1 h2 r1 r2 e (by omega)
    · cases e
  unfold eqR at e
  split at e
  · rename_i a c
    split at e
    · rename_i hac
      have h1':=h1
      have h2':=h2
      simp only [RD] at h1' h2'
      obtain⟨p,hp,rfl⟩:=h1'
      obtain⟨p',hp',rfl⟩:=h2'
      have hpp:p≠p':=fun z=>by
        subst z
        obtain⟨l1,e1⟩:=List.getElem?_eq_some_iff.mp hp
        obtain⟨l2,e2⟩:=List.getElem?_eq_some_iff.mp hp'
        exact hac ((List.getElem_inj r.nd).mp (e1.trans e2.symm))
      simp only [eqG] at e
      cases c1:eY hd (.ref a) with
      | none =>
        rw [c1] at e
        cases c2:eY hd (.ref c) with
        | some l=>rw [c2] at e;cases e
        | none=>rw [c2] at e;simp only [peq] at e;split at e<;>cases e
      | some xs =>
        cases c2:eY hd (.ref c) with
        | none=>rw [c1,c2] at e;cases e
        | some ys =>
          rw [c1,c2] at e
          simp only [eqL] at e
          obtain⟨q,vs,hq,s1,q1⟩:=lW r h1 c1
          obtain⟨q',vs',hq',s2,q2⟩:=lW r h2 c2
          cases hq;cases hq'
          cases r1;cases r2
          obtain⟨its,rv,pl,_⟩:=I.list s1
          obtain⟨its',rv',pl',_⟩:=I.list s2
          have il:s.heap.IsList p its.toArray:=pl.isList
          have il':s.heap.IsList p' its'.toArray:=pl'.isList
          have l1:xs.length=its.length:=q1.length.trans rv.length
          have l2:ys.length=its'.length:=q2.length.trans rv'.length
          split at e
          · rename_i hd20
            refine SeqAt.EqAt.of_refs hpp ?_
            split at e
            · rename_i hl
              obtain⟨f,hf,ha⟩:=nz I.hok (A:=A.in1) q1 q2 rv rv' e (by show A.units + 1 + kO xs < cLine;omega)
              have hs:its.toArray.size=its'.toArray.size:=by simp;omega
              have g1:=SeqAt.RcAt.lists (s:=s) (A:=A) (e:=f) il il' hs hu0 (fun j h1 h2=>by simpa using hf j (by simpa using h1) (by simpa using h2))
              have hm:min its.length its'.length=its.length:=by omega
              rw [hm] at ha
              rw [← ha]
              simpa using g1
            · rename_i hl
              cases e
              have hs:(its.toArray.size != its'.toArray.size)=true:=by simp;omega
              exact SeqAt.RcAt.lists_lengths il il' hs hu0
          · cases e
    · cases e
  · exact plain e
theorem Fj {pins:List (Addr × Obj)}{σ:L2.St}{H:Hp}{s:Shared}{ρ:List Addr}{hd:Hd}(I:Inv X pins σ H s)(r:RH X.K ρ H hd):∀ {xs ys:List D} {vs vs':List V} {us us':List Value} {b:Bool} {A:Around},RDs X.K ρ H xs vs→RDs X.K ρ H ys vs'→bj vs us→bj vs' us'→sQ hd xs ys=some b→A.units + 23 < cLine →
    ∃ f:Nat→Bool,(∀ j (h1:j < us.length) (h2:j < us'.length),SeqAt.EqAt A s us[j] us'[j] (f j))∧(List.range (min us.length us'.length)).all f=b
  | [],ys,vs,vs',us,us',b,A,h1,h2,r1,r2,e,hu=>by
    simp only [RDs] at h1;subst h1;cases r1
    simp only [sQ] at e;cases e
    exact⟨fun _=>true,fun j h1=>by simp at h1,by simp⟩
  | x :: xs,[],vs,vs',us,us',b,A,h1,h2,r1,r2,e,hu=>by
    simp only [RDs] at h2;subst h2;cases r2
    simp only [sQ] at e;cases e
    exact⟨fun _=>true,fun j h1 h2=>by simp at h2,by simp⟩
  | x :: xs,y :: ys,vs,vs',us,us',b,A,h1,h2,r1,r2,e,hu=>by
    simp only [RDs] at h1 h2
    obtain⟨v,rr,rfl,a1,a2⟩:=h1
    obtain⟨v',rr',rfl,b1,b2⟩:=h2
    cases r1 with
    | cons p1 p2 =>
      cases r2 with
      | cons s1 s2 =>
        unfold sQ at e
        cases c:eqR hd x y with
        | none=>rw [c] at e;cases e
        | some p =>
          cases c2:sQ hd xs ys with
          | none=>rw [c,c2] at e;cases e
          | some q =>
            rw [c,c2] at e
            simp only [Option.some.injEq] at e
            have g1:=Oz (A:=A) hu I r a1 b1 p1 s1 c
            obtain⟨f,hf,ha⟩:=Fj I r (A:=A) a2 b2 p2 s2 c2 hu
            refine⟨fun j=>match j with|0=>p|j + 1=>f j,fun j h1 h2 => ?_,?_⟩
            · cases j with
              | zero=>exact g1
              | succ j=>exact hf j (by simpa using h1) (by simpa using h2)
            · rw [← e,← ha,List.length_cons,List.length_cons,Nat.succ_min_succ,List.range_succ_eq_map,List.all_cons,List.all_map]
              rfl
end
end Fm
set_option Elab.async false
set_option linter.all false
set_option maxRecDepth 100000
namespace L2
open PySem PySem.Spec PyProof.Rows
section
variable {κ : Type} [DecidableEq κ]
def kQ (kvs:List (κ × V)) (k : κ):Option V:=(kvs.find? fun kv=>decide (kv.1=k)).map (·.2)
def mT (kvs:List (κ × V)) (k : κ) (v:V):List (κ × V) :=
  if (kvs.any fun kv=>decide (kv.1=k))=true then kvs.map (fun kv=>if kv.1=k then (kv.1,v) else kv) else kvs++[(k,v)]
theorem sS {p : κ × V}{r:List (κ × V)}{k : κ}(e:p.1=k):kQ (p :: r) k=some p.2:=by simp [kQ,List.find?_cons,e]
theorem nE {p : κ × V}{r:List (κ × V)}{k : κ}(e : ¬ p.1=k):kQ (p :: r) k=kQ r k:=by simp [kQ,List.find?_cons,e]
theorem AK (k : κ):∀ kvs:List (κ × V),(kvs.any fun kv=>decide (kv.1=k))=(kQ kvs k).isSome
  | []=>rfl
  | p :: r=>by
    rw [List.any_cons]
    by_cases e:p.1=k
    · simp only [sS e,decide_eq_true e,Bool.true_or,Option.isSome_some]
    · rw [nE e,decide_eq_false e,Bool.false_or];exact AK k r
theorem qo (kvs:List (κ × V))(k : κ)(v:V):(mT kvs k v).length≤kvs.length + 1:=by
  unfold mT
  split
  · rw [List.length_map];omega
  · rw [List.length_append,List.length_cons,List.length_nil];omega
theorem FX.isSome_eq {o:Option V}{u:Option Value}(r:FX o u):o.isSome=u.isSome:=by
  cases o with
  | none=>cases u with
    | none=>rfl
    | some _=>exact (show False from r).elim
  | some _=>cases u with
    | none=>exact (show False from r).elim
    | some _=>rfl
theorem KV.val {kvs:List (κ × V)}{vs:List (κ × Value)}(r:KV kvs vs)(k : κ):FX (kQ kvs k) (valueAt vs k):=by
  unfold KV at r
  induction r with
  | nil=>exact True.intro
  | @cons p q ps qs h t ih =>
    obtain⟨h1,h2⟩:=h
    by_cases e:p.1=k
    · have e':q.1=k:=h1.symm.trans e
      have b:valueAt (q :: qs) k=some q.2:=by simp [valueAt,List.find?_cons,e']
      rw [sS e,b];exact h2
    · have e' : ¬ q.1=k:=fun z=>e (h1.trans z)
      have b:valueAt (q :: qs) k=valueAt qs k:=by simp [valueAt,List.find?_cons,e']
      rw [nE e,b];exact ih
theorem KV.any {kvs:List (κ × V)}{vs:List (κ × Value)}(r:KV kvs vs)(k : κ):(kvs.any fun kv=>decide (kv.1=k))=vs.any fun kv=>decide (kv.1=k):=by
  unfold KV at r
  induction r with
  | nil=>rfl
  | cons h t ih=>rw [List.any_cons,List.any_cons,ih,h.1]
theorem KV.repl {kvs:List (κ × V)}{vs:List (κ × Value)}(r:KV kvs vs)(k : κ){y:V}{u:Value}(ry:bR y u) :
    KV (kvs.map fun kv=>if kv.1=k then (kv.1,y) else kv) (vs.map fun kv=>if kv.1=k then (kv.1,u) else kv):=by
  unfold KV at r ⊢
  induction r with
  | nil=>exact .nil
  | @cons p q ps qs h t ih =>
    rw [List.map_cons,List.map_cons]
    refine .cons ?_ ih
    obtain⟨h1,h2⟩:=h
    by_cases e:p.1=k
    · rw [if_pos e,if_pos (h1.symm.trans e)];exact⟨h1,ry⟩
    · rw [if_neg e,if_neg (fun z=>e (h1.trans z))];exact⟨h1,h2⟩
theorem KV.put {kvs:List (κ × V)}{vs:List (κ × Value)}(r:KV kvs vs)(k : κ){y:V}{u:Value}(ry:bR y u):KV (mT kvs k y) (stored vs k u):=by
  unfold mT stored
  rw [r.any k]
  by_cases e:(vs.any fun kv=>decide (kv.1=k))=true
  · rw [if_pos e,if_pos e];exact r.repl k ry
  · rw [if_neg e,if_neg e];exact Paired.snoc r ⟨rfl,ry⟩
theorem KV.length {kvs:List (κ × V)}{vs:List (κ × Value)}(r:KV kvs vs):kvs.length=vs.length:=Paired.length r
end
theorem IZ {P:Program}{w:World}{k:Key}{u:Value}(r:bR (kV k) u):(cR P w).is k u=true:=by
  cases k with
  | inl i=>obtain⟨t,e⟩:=(show ∃ t,u=Value.int i t from r);subst e;exact Aq P w i t
  | inr x=>obtain⟨t,e⟩:=(show ∃ t,u=Value.str x t from r);subst e;exact Ar P w x t
theorem w8 {P:Program}{w:World}:∀ {ks:List Key} {us:List Value},bj (ks.map kV) us→ItemsAre (cR P w) ks us
  | [],_,r=>by rw [List.map_nil] at r;cases r;exact .nil
  | k :: ks,_,r=>by
    rw [List.map_cons] at r
    cases r with
    | cons h t=>exact .cons (IZ h) (w8 t)
abbrev KT (H:Hp):List (List Key × V)→List (List Key × Addr × Value)→Prop:=Paired fun p q=>p.1=q.1∧H q.2.1=some (.tup (p.1.map kV))∧bR p.2 q.2.2
theorem KT.val {H:Hp}{kvs:List (List Key × V)}{xs:List (List Key × Addr × Value)}(r:KT H kvs xs)(k:List Key):FX (kQ kvs k) ((atKey xs k).map (·.2)):=by
  induction r with
  | nil=>exact True.intro
  | @cons p q ps qs h t ih =>
    obtain⟨h1,_,h2⟩:=h
    by_cases e:p.1=k
    · have e':q.1=k:=h1.symm.trans e
      have b:atKey (q :: qs) k=some q.2:=by simp [atKey,List.find?_cons,e']
      rw [sS e,b];exact h2
    · have e' : ¬ q.1=k:=fun z=>e (h1.trans z)
      have b:atKey (q :: qs) k=atKey qs k:=by simp [atKey,List.find?_cons,e']
      rw [nE e,b];exact ih
theorem KT.repl {H:Hp}{kvs:List (List Key × V)}{xs:List (List Key × Addr × Value)}(r:KT H kvs xs)(k:List Key){y:V}{u:Value}(ry:bR y u) :
    KT H (kvs.map fun kv=>if kv.1=k then (kv.1,y) else kv) (xs.map (putAt k u)):=by
  induction r with
  | nil=>exact .nil
  | @cons p q ps qs h t ih =>
    rw [List.map_cons,List.map_cons]
    refine .cons ?_ ih
    obtain⟨h1,h2,h3⟩:=h
    unfold putAt
    by_cases e:p.1=k
    · rw [if_pos e,if_pos (h1.symm.trans e)];exact⟨h1,h2,ry⟩
    · rw [if_neg e,if_neg (fun z=>e (h1.trans z))];exact⟨h1,h2,h3⟩
theorem KT.put {H:Hp}{kvs:List (List Key × V)}{xs:List (List Key × Addr × Value)}(r:KT H kvs xs)(k:List Key){b:Addr}{y:V}{u:Value}(hb:H b=some (.tup (k.map kV)))(ry:bR y u) :
    KT H (mT kvs k y) (storedH xs k b u):=by
  have e:(kvs.any fun kv=>decide (kv.1=k))=(atKey xs k).isSome:=by
    rw [AK,(r.val k).isSome_eq,Option.isSome_map]
  unfold mT storedH
  rw [e]
  by_cases q:(atKey xs k).isSome=true
  · rw [if_pos q,if_pos q];exact r.repl k ry
  · rw [if_neg q,if_neg q];exact Paired.snoc r ⟨rfl,hb,ry⟩
theorem KT.keeps {H H':Hp}{kvs:List (List Key × V)}{xs:List (List Key × Addr × Value)}(r:KT H kvs xs)(ht:∀ b ys,H b=some (.tup ys)→H' b=some (.tup ys)):KT H' kvs xs :=
  Paired.mapP r fun _ _ z=>⟨z.1,ht _ _ z.2.1,z.2.2⟩
section
variable {P:Program} {w:World} {H:Hp} {h:Heap} {a:Addr}
theorem Nn {u:HO}(ok:HOk P w H h)(e:Rd H a u):ed P w H h a u:=e.ok ok
theorem Ja {kvs:List (Key × V)}(ok:HOk P w H h)(e:Rd H a (.dK kvs)):kvs.length≤sizeLine∧(a == sysModules)=false ∧ ∃ vs,KV kvs vs∧h.DictOf (cR P w) a vs :=
  show ed P w H h a (.dK kvs) from Nn ok e
theorem AL {kvs:List (Key × V)}(ok:HOk P w H h)(e:H a=some (.dK kvs)):kvs.length≤sizeLine∧(a == sysModules)=false ∧ ∃ vs,KV kvs vs∧h.DictOf (cR P w) a vs:=Ja ok (.inl e)
theorem CW {ks:List Key}(ok:HOk P w H h)(e:H a=some (.tup (ks.map kV))):(tupleKind (cR P w)).is h ks a:=by
  obtain⟨_,its,r,o,h1,h2,n,h3⟩:=(show ed P w H h a (.tup (ks.map kV)) from ok a _ e)
  exact⟨o,its.toArray,n,h1,h2,h3,by simpa using w8 r⟩
theorem Jb {kvs:List (List Key × V)}(ok:HOk P w H h)(e:Rd H a (.dT kvs)):kvs.length≤sizeLine∧(a == sysModules)=false ∧
    ∃ xs,KT H kvs xs∧h.DictOfH (tupleKind (cR P w)) a xs:=by
  obtain⟨z,y,xs,r,o,es,ep,h1,h2,h3,h4,h5⟩:=(show ed P w H h a (.dT kvs) from Nn ok e)
  refine⟨z,y,xs,r,o,es,ep,h1,h2,h3,h4,fun x hx => ?_,h5⟩
  have all:∀ {l:List (List Key × V)} {m:List (List Key × Addr × Value)},KT H l m → ∀ x∈m,(tupleKind (cR P w)).is h x.1 x.2.1:=by
    intro l m q
    induction q with
    | nil=>intro x hx;exact nomatch hx
    | @cons p q ps qs hq t ih =>
      intro x hx
      rcases List.mem_cons.mp hx with e|hx
      · subst e
        exact CW ok (by rw [← hq.1];exact hq.2.1)
      · exact ih x hx
  exact all r x hx
theorem Qg {kvs:List (List Key × V)}(ok:HOk P w H h)(e:H a=some (.dT kvs)):kvs.length≤sizeLine∧(a == sysModules)=false ∧
    ∃ xs,KT H kvs xs∧h.DictOfH (tupleKind (cR P w)) a xs:=Jb ok (.inl e)
end
def Jc (H:Hp) (a:Addr) (y:V) (r:Option V):Prop :=
  (∃ kvs k,Rd H a (.dK kvs)∧y=kV k∧r=kQ kvs k) ∨ ∃ kvs k b,Rd H a (.dT kvs)∧y=.ref b∧H b=some (.tup (k.map kV))∧r=kQ kvs k
def Jd (H:Hp) (a:Addr) (y v:V) (H':Hp):Prop :=
  (∃ kvs k,H a=some (.dK kvs)∧y=kV k∧kvs.length < sizeLine∧H'=upd H a (.dK (mT kvs k v))) ∨
  ∃ kvs k b,H a=some (.dT kvs)∧y=.ref b∧H b=some (.tup (k.map kV))∧kvs.length < sizeLine∧H'=upd H a (.dT (mT kvs k v))
theorem Jc.k {H:Hp}{a:Addr}{kvs:List (Key × V)}{k:Key}(e:H a=some (.dK kvs)):Jc H a (kV k) (kQ kvs k):=.inl ⟨kvs,k,.inl e,rfl,rfl⟩
theorem Jd.k {H:Hp}{a:Addr}{kvs:List (Key × V)}{k:Key}{v:V}(e:H a=some (.dK kvs))(hl:kvs.length < sizeLine):Jd H a (kV k) v (upd H a (.dK (mT kvs k v))):=.inl ⟨kvs,k,e,rfl,hl,rfl⟩
section
variable {X:Cx} {pins:List (Addr × Obj)} {σ:St} {H:Hp} {s:Shared} {a:Addr} {y v:V} {u r:Value} {o:Option V} {A:Around} {E:Value→Shared→Prop}
theorem Inv.big (I:Inv X pins σ H s):sysModules < s.heap.objs.size:=by
  have h:mainGlobals < s.heap.objs.size:=(I.mod.glob.keeps I.bk).lt
  exact Nat.lt_trans (by decide) h
theorem Q7 {Q:Value→Shared→Prop}(hu:A.units + 1 < cLine)(I:Inv X pins σ H s)(g:Jc H a y o)(ry:bR y u)(h:∀ s',Inv X pins σ H s'→Q (.bool o.isSome) s') :
    wpAny (model X.prog X.w) A (compareOp .In u (.ref a)) Q E s:=by
  rcases g with ⟨kvs,k,e,ey,l⟩|⟨kvs,k,b,e,ey,eb,l⟩
  · subst ey
    obtain⟨z,hd,vs,rel,dd⟩:=Ja I.hok e
    refine wpAny_in_of (IZ ry) hd dd.mapOf ?_
    rw [← (rel.val k).isSome_eq,← l]
    exact h _ (I.tok _)
  · subst ey
    cases (show u=Value.ref b from ry)
    obtain⟨z,hd,xs,rel,dd⟩:=Jb I.hok e
    refine wpAny_in_heap (tupleKind_room_in1 hu) (CW I.hok eb) hd dd ?_
    have q:=(rel.val k).isSome_eq
    rw [Option.isSome_map] at q
    rw [← q,← l]
    exact h _ (I.tok _)
theorem Fk {h':Heap}{t':Nat}{ob:HO}(I:Inv X pins σ H s)(mu:Mut (H a))(hs:Heap.SameBut a s.heap h')(he:∃ q,h'.get? a=some q)(new:ed X.prog X.w (upd H a ob) h' a ob) :
    Inv X pins σ (upd H a ob) { s with heap:=h',toks:=t' } :=
  I.write (x:=a) (e:=a) mu (.inl rfl) (fun b q hb z=>(hs.2 b hb).trans z) he new
theorem OA {P:Program}{w:World}{H':Hp}{h':Heap}{kvs:List (Key × V)}{vs:List (Key × Value)}(z:kvs.length≤sizeLine)(hd:(a == sysModules)=false)(rel:KV kvs vs)(dd:h'.DictOf (cR P w) a vs) :
    ed P w H' h' a (.dK kvs):=⟨z,hd,vs,rel,dd⟩
theorem Gj {H':Hp}{Q:Unit→Shared→Prop}(hu:A.units + 1 < cLine)(I:Inv X pins σ H s)(g:Jd H a y v H')(ry:bR y u)(rv:bR v r)(h:∀ s',Inv X pins σ H' s'→Q () s') :
    wpAny (model X.prog X.w) A (setItem (.ref a) u r) Q E s:=by
  rcases g with ⟨kvs,k,e,ey,l,eH⟩|⟨kvs,k,b,e,ey,eb,l,eH⟩
  · subst ey eH
    obtain⟨z,hd,vs,rel,dd⟩:=AL I.hok e
    have hz:vs.length≤sizeLine:=by rw [← rel.length];exact z
    have hl:(mT kvs k v).length≤sizeLine:=by have:=qo kvs k v;omega
    refine wpAny_setItem_pairs (hsz:=hz) (IZ ry) dd fun h' dd' hs=>h _ ?_
    have he:∃ q,h'.get? a=some q:=let ⟨q,_,_,hq,_⟩:=dd';⟨q,hq⟩
    exact Fk I (by rw [e];exact True.intro) hs he (OA hl hd (rel.put k rv) dd')
  · subst ey eH
    cases (show u=Value.ref b from ry)
    obtain⟨z,hd,xs,rel,dd⟩:=Qg I.hok e
    have hz:xs.length≤sizeLine:=by rw [← Paired.length rel];exact z
    have hl:(mT kvs k v).length≤sizeLine:=by have:=qo kvs k v;omega
    refine wpAny_setItem_heap (hsz:=hz) (tupleKind_room_in1 hu) (CW I.hok eb) dd fun h' dd' hs=>h _ ?_
    obtain⟨q,es,ep,hq,h2,h3,h4,_,h5⟩:=dd'
    refine Fk I (by rw [e];exact True.intro) hs ⟨q,hq⟩ ⟨hl,hd,_,(rel.put k eb rv).keeps fun c ys ec => ?_,q,es,ep,hq,h2,h3,h4,h5⟩
    rw [aB (Nd ec e (fun z=>nomatch z))]
    exact ec
end
section
variable {X:Cx} {pins:List (Addr × Obj)} {σ:St} {H:Hp} {s:Shared} {a:Addr} {kvs:List (Key × V)} {k:Key} {u:Value} {A:Around} {E:Value→Shared→Prop}
end
section
variable {X:Cx} {o i e value:Expr} {pos pos' tpos:Pos} {td ty tv:TE}
end
theorem Je {P:Program} {w:World} {H:Hp} (h:Heap) (hb:sysModules < h.objs.size):ed P w H (h.push { cls:=.type "dict",data:=.dict #[] }) h.objs.size (.dK []) :=
  ⟨Nat.zero_le _,beq_eq_false_iff_ne.mpr (Ne.symm (Nat.ne_of_lt hb)),[],.nil,Heap.DictOf.new h⟩
def OB:TE:=fun _ H Q=>∀ p,H p=none→Q (.ref p) (upd H p (.dK []))
section
variable {X:Cx} {pos:Pos}
theorem Jf:PE X (.Dict [] [] pos) OB:=fun pins s σ H Q I h =>
  wpAny_Dict_empty ⟨.ref s.heap.objs.size,_,I.laid (a:=s.heap.objs.size) (o:=.dK []) (t':=s.toks) (fun _ _ q=>Heap.get?_push_of_some _ q) (Nat.le_refl _) (Je s.heap I.big),rfl,h _ (I.hok.fresh (Nat.le_refl _))⟩
end
structure M1 (X:Cx) (o:Expr) (m:Str) (apos:Pos) (e:Expr) (cpos:Pos):Prop where
  base:attributeBase o m X.env (eval o X.env)=eval o X.env
  few:((backTo cpos (starEach [e] X.env)).all (fun x => !x.1) && (backToKw cpos (keywordEach [] X.env)).all (fun x=>x.1.isSome)
    && decide (([e] : List Expr).length + ([] : List Keyword).length + (if ([] : List Keyword).isEmpty then 0 else 1) < 30))=true
  line:(apos.endLine == cpos.line)=true
  trees:backTo cpos (starEach [e] X.env)=[(false,eval e X.env)]
structure M2 (X:Cx) (o:Expr) (m:Str) (apos:Pos) (e f:Expr) (cpos:Pos):Prop where
  base:attributeBase o m X.env (eval o X.env)=eval o X.env
  few:((backTo cpos (starEach [e,f] X.env)).all (fun x => !x.1) && (backToKw cpos (keywordEach [] X.env)).all (fun x=>x.1.isSome)
    && decide (([e,f] : List Expr).length + ([] : List Keyword).length + (if ([] : List Keyword).isEmpty then 0 else 1) < 30))=true
  line:(apos.endLine == cpos.line)=true
  trees:backTo cpos (starEach [e,f] X.env)=[(false,eval e X.env),(false,eval f X.env)]
def IsD (H:Hp) (a:Addr):Prop:=(∃ kvs,Rd H a (.dK kvs)) ∨ ∃ kvs,Rd H a (.dT kvs)
theorem Jg {X:Cx}{pins:List (Addr × Obj)}{σ:St}{H:Hp}{s:Shared}{a:Addr}(I:Inv X pins σ H s)(d:IsD H a) :
    s.TypeIs (.ref a) "dict" ∧ (∀ b,Value.ref a=.ref b → ∃ ob,s.heap.get? b=some ob∧ob.dict=none)∧(a == sysModules)=false:=by
  rcases d with ⟨kvs,e⟩|⟨kvs,e⟩
  · obtain⟨_,hd,vs,_,dd⟩:=Ja I.hok e
    refine⟨dd.typeIs,fun b q => ?_,hd⟩
    cases q
    obtain⟨ob,_,_,h1,h2,_⟩:=dd
    exact⟨ob,h1,h2.2.1⟩
  · obtain⟨_,hd,xs,_,dd⟩:=Jb I.hok e
    refine⟨dd.typeIs,fun b q => ?_,hd⟩
    cases q
    obtain⟨ob,_,_,h1,h2,_⟩:=dd
    exact⟨ob,h1,h2.2.1⟩
section
variable {X:Cx} {pins:List (Addr × Obj)} {σ:St} {H:Hp} {s:Shared} {a:Addr} {y d:V} {u r:Value} {o:Option V} {A:Around} {E:Value→Shared→Prop}
end
section
variable {X:Cx} {o e f:Expr} {apos cpos:Pos} {td ty tx:TE}
end
section
variable {X:Cx} {pins:List (Addr × Obj)} {σ:St} {H:Hp} {s:Shared} {a:Addr} {kvs:List (Key × V)} {A:Around} {E:Value→Shared→Prop}
end
section
variable {X:Cx} {pins:List (Addr × Obj)} {σ:St} {H:Hp} {s:Shared} {a:Addr} {y:V} {u:Value} {A:Around} {E:Value→Shared→Prop}
end
end L2
set_option linter.all false
namespace Fm
@[simp] def w9:EF:=fun _ h=>.ok (.ref h.length) (h++[.dct []])
def sT (l:List (Int × D)) (k:Int):Option D:=(l.find? fun p=>decide (p.1=k)).map (·.2)
def CY (l:List (Int × D)) (k:Int) (v:D):List (Int × D):=if (l.any fun p=>decide (p.1=k))=true then l.map (fun p=>if p.1=k then (p.1,v) else p) else l++[(k,v)]
@[simp] def Gk:O2:=fun x y h=>match x,y with
  | .int k,.ref n=>match h[n]? with|some (.dct l)=>.ok (.bl (sT l k).isSome) h|_=>.bad
  | _,_=>.bad
@[simp] def sU (x i e:EF):SF:=fun σ h=>outE (e σ h) σ fun d h=>outE (x σ h) σ fun p h=>outE (i σ h) σ fun j h=>match p,j with
  | .ref n,.int k=>match h[n]? with
    | some (.dct l)=>if l.length < SZ then .nx σ (h.set n (.dct (CY l k d))) else .bad
    | _=>.bad
  | _,_=>.bad
def er:List (Int × D)→Option (List (List Int))
  | []=>some []
  | (k,.int v) :: r=>(er r).map fun l=>[k,v] :: l
  | _=>none
@[simp] def lc (a:EF):LF:=fun σ h=>(a σ h).bind fun x h=>match x with
  | .ref n=>match h[n]? with
    | some (.dct l)=>match er l with
      | some r=>if r.length < 64∧r.Nodup then .ok ((dv r).map ym) h else .bad
      | none=>.bad
    | _=>.bad
  | _=>.bad
end Fm
set_option Elab.async false
set_option linter.all false
set_option maxRecDepth 100000
namespace Fm
open PySem PySem.Spec L2 PySem.W PyProof.Rows
section
variable {K:PySem.W.Frag} {ρ:List Addr} {H:Hp} {hd:Hd}
theorem RH.allocD (r:RH K ρ H hd){p:Addr}{l:List (Int × D)}(hp:RC K ρ H (.dct l) p)(hn:p ∉ ρ):RH K (ρ ++ [p]) H (hd++[.dct l]):=by
  have k:Kp ρ H (ρ ++ [p]) H:=⟨fun n a e=>by rw [List.getElem?_append_left (List.getElem?_eq_some_iff.mp e).1];exact e,fun _ _ h=>h,fun _ _ _ h=>h,fun _ _ h=>h⟩
  refine⟨by simp [r.len],?_,fun n c a h1 h2 => ?_⟩
  · rw [List.nodup_append]
    exact⟨r.nd,by simp,fun a ha b hb=>by simp at hb;subst hb;intro e;subst e;exact hn ha⟩
  · by_cases hlt:n < hd.length
    · rw [List.getElem?_append_left hlt] at h1
      rw [List.getElem?_append_left (by rw [r.len];exact hlt)] at h2
      exact (r.cel n c a h1 h2).mono k rfl
    · have e1:n=hd.length:=by
        have:=(List.getElem?_eq_some_iff.mp h1).1
        simp at this
        omega
      subst e1
      simp at h1
      subst h1
      rw [← r.len] at h2
      simp at h2
      subst h2
      obtain⟨kvs,q1,q2,q3⟩:=hp
      exact⟨kvs,q1,q2,q3.mono k⟩
theorem RH.writeD (r:RH K ρ H hd){n:Nat}{p:Addr}{l:List (Int × D)}{kvs:List (Key × V)}(hp : ρ[n]? = some p)(hn:n < hd.length)(h1:kvs.map (·.1)=l.map (fun p=>(Sum.inl p.1:Key)))(h2:RDs K ρ H (l.map (·.2)) (kvs.map (·.2))):RH K ρ (upd H p (.dK kvs)) (hd.set n (.dct l)):=by
  have k:Kp ρ H ρ (upd H p (.dK kvs)):=by
    have hm:=List.mem_of_getElem? hp
    refine⟨fun _ _ h=>h,fun a us e => ?_,fun a o u e => ?_,fun a φ e => ?_⟩
    · rw [aB (fun z=>r.noTup e (by rw [z];exact hm))];exact e
    · rw [aB (fun z=>r.noFrz e (by rw [z];exact hm))];exact e
    · rw [aB (fun z=>r.noExt e (by rw [z];exact hm))];exact e
  refine⟨by simp [r.len],r.nd,fun m c a q1 q2 => ?_⟩
  by_cases e:n=m
  · subst e
    rw [List.getElem?_set_self hn] at q1
    cases q1
    rw [hp] at q2
    cases q2
    exact⟨kvs,bf,h1,h2.mono k⟩
  · rw [List.getElem?_set_ne e] at q1
    have ne:a≠p:=fun z=>by
      subst z
      exact e (sI r.nd hp q2)
    exact (r.cel m c a q1 q2).mono k (aB ne)
theorem AM (k:Int):∀ {l:List (Int × D)} {kvs:List (Key × V)},kvs.map (·.1)=l.map (fun p=>(Sum.inl p.1:Key))→RDs K ρ H (l.map (·.2)) (kvs.map (·.2)) →
    (sT l k=none∧kQ kvs (Sum.inl k)=none) ∨ ∃ d v,sT l k=some d∧kQ kvs (Sum.inl k)=some v∧RD K ρ H d v
  | [],[],_,_=>.inl ⟨rfl,rfl⟩
  | [],_ :: _,h,_=>by simp at h
  | _ :: _,[],h,_=>by simp at h
  | (j,d) :: l,(kk,v) :: kvs,h1,h2=>by
    simp only [List.map_cons,List.cons.injEq] at h1
    simp only [List.map_cons,RDs] at h2
    obtain⟨v',r',e,q1,q2⟩:=h2
    cases e
    obtain⟨e1,e2⟩:=h1
    subst e1
    by_cases e:j=k
    · subst e
      exact .inr ⟨d,v,by simp [sT],by simp [kQ],q1⟩
    · have ih:=AM k e2 q2
      have a1:sT ((j,d) :: l) k=sT l k:=by simp [sT,e]
      have a2:kQ ((Sum.inl j,v) :: kvs) (Sum.inl k)=kQ kvs (Sum.inl k):=nE (fun z=>e (by cases z;rfl))
      rw [a1,a2]
      exact ih
theorem AN (k:Int):∀ {l:List (Int × D)} {kvs:List (Key × V)},kvs.map (·.1)=l.map (fun p=>(Sum.inl p.1:Key))→(kvs.any fun kv=>decide (kv.1=(Sum.inl k:Key)))=l.any fun p=>decide (p.1=k)
  | [],[],_=>rfl
  | [],_ :: _,h=>by simp at h
  | _ :: _,[],h=>by simp at h
  | (j,d) :: l,(kk,v) :: kvs,h1=>by
    simp only [List.map_cons,List.cons.injEq] at h1
    obtain⟨e1,e2⟩:=h1
    subst e1
    simp [AN k e2]
theorem AO (k:Int){d0:D}{v0:V}(hv:RD K ρ H d0 v0):∀ {l:List (Int × D)} {kvs:List (Key × V)},kvs.map (·.1)=l.map (fun p=>(Sum.inl p.1:Key))→RDs K ρ H (l.map (·.2)) (kvs.map (·.2)) →
    (kvs.map fun kv=>if kv.1=(Sum.inl k:Key) then (kv.1,v0) else kv).map (·.1)=(l.map fun p=>if p.1=k then (p.1,d0) else p).map (fun p=>(Sum.inl p.1:Key))∧RDs K ρ H ((l.map fun p=>if p.1=k then (p.1,d0) else p).map (·.2)) ((kvs.map fun kv=>if kv.1=(Sum.inl k:Key) then (kv.1,v0) else kv).map (·.2))
  | [],[],_,_=>⟨rfl,RDs.nil⟩
  | [],_ :: _,h,_=>by simp at h
  | _ :: _,[],h,_=>by simp at h
  | (j,d) :: l,(kk,v) :: kvs,h1,h2=>by
    simp only [List.map_cons,List.cons.injEq] at h1
    simp only [List.map_cons,RDs] at h2
    obtain⟨v',r',e,q1,q2⟩:=h2
    cases e
    obtain⟨e1,e2⟩:=h1
    subst e1
    obtain⟨i1,i2⟩:=AO k hv e2 q2
    by_cases e:j=k
    · subst e
      simp only [List.map_cons,if_true]
      exact⟨by rw [i1],RDs.cons hv i2⟩
    · have e' : ¬ (Sum.inl j:Key)=Sum.inl k:=fun z=>e (by cases z;rfl)
      simp only [List.map_cons,if_neg e,if_neg e']
      exact⟨by rw [i1],RDs.cons q1 i2⟩
theorem Jh (k:Int){d0:D}{v0:V}(hv:RD K ρ H d0 v0){l:List (Int × D)}{kvs:List (Key × V)}(h1:kvs.map (·.1)=l.map (fun p=>(Sum.inl p.1:Key)))(h2:RDs K ρ H (l.map (·.2)) (kvs.map (·.2))) :
    (mT kvs (Sum.inl k) v0).map (·.1)=(CY l k d0).map (fun p=>(Sum.inl p.1:Key))∧RDs K ρ H ((CY l k d0).map (·.2)) ((mT kvs (Sum.inl k) v0).map (·.2)):=by
  unfold mT CY
  rw [AN k h1]
  split
  · exact AO k hv h1 h2
  · refine⟨by simp [h1],?_⟩
    rw [List.map_append,List.map_append]
    exact RDs.append h2 (RDs.cons hv RDs.nil)
end
section
variable {X:Cx} {pos p:Pos}
theorem LX:ME X (.Dict [] [] pos) w9:=by
  refine PE.imp Jf fun σ H Q ⟨ρ,σd,hd,rs,pp⟩=>fun q hq => ?_
  have sm:=cy (o:=HO.dK []) hq
  have hn:=rs.hp.free hq
  have rh:=(rs.hp.same sm).allocD (p:=q) (l:=[]) ⟨[],bf,rfl,RDs.nil⟩ hn
  have ex:Ext ρ H (ρ ++ [q]) (upd H q (.dK [])):=Ext.alloc hq
  refine cj.at (R:=rD X.K) (a:=.ref hd.length) pp ex (rs.ext ex rh) ?_
  simp only [rD,RD]
  refine⟨q,?_,rfl⟩
  rw [← rs.hp.len]
  simp
def Qh (K:PySem.W.Frag):R2:=fun x y H Q=>∃ a o,y=.ref a∧Jc H a x o∧Q (.bl o.isSome) H
theorem OC (hu:X.A.units + 1 < cLine):OpR X (compareOp .In) (Qh X.K):=by
  intro pins s σ H x y v u Q I rx ry h
  obtain⟨a,o,rfl,g,q⟩:=h
  obtain rfl:u=Value.ref a:=ry
  exact Q7 hu I g rx fun s3 I3=>⟨.bl o.isSome,H,I3,rfl,q⟩
theorem OD {K:PySem.W.Frag}:Og K Gk (Qh K):=by
  intro ρ H σd hd σ d k v w Q rs rv rw' pp
  cases d<;>try exact pp.elim
  cases k<;>try exact pp.elim
  rename_i i n
  simp only [Gk] at pp
  simp only [RD] at rv rw'
  subst rv
  obtain⟨a,ha,rfl⟩:=rw'
  cases c:hd[n]? with
  | none=>rw [c] at pp;exact pp.elim
  | some cell =>
    rw [c] at pp
    cases cell with
    | lst l=>exact pp.elim
    | dct l =>
      simp only at pp
      obtain⟨kvs,q1,q2,q3⟩:=rs.hp.cel n _ a c ha
      refine⟨a,kQ kvs (Sum.inl i),rfl,Jc.k (k:=Sum.inl i) q1,?_⟩
      have e:(kQ kvs (Sum.inl i)).isSome=(sT l i).isSome:=by
        rcases AM i q2 q3 with ⟨e1,e2⟩|⟨d,v,e1,e2,_⟩<;>rw [e1,e2]<;>rfl
      rw [e]
      exact pp.here rs (by simp only [rD,RD])
def Qi:V→V→V→Hp→(Hp→Prop)→Prop:=fun o i v H Q=>∃ a H',o=.ref a∧Jd H a i v H'∧Q H'
theorem Ji (hu:X.A.units + 1 < cLine):NQ X Qi:=by
  intro pins s σ H o i v ov iv u Q I ro ri rv h
  obtain⟨a,H',rfl,g,q⟩:=h
  obtain rfl:ov=Value.ref a:=ro
  exact Gj hu I g ri rv fun s' I'=>⟨H',I',q⟩
theorem Fl {o i e:Expr}{fo fi fe:EF}{p2:Pos}(hu:X.A.units + 1 < cLine)(he:ME X e fe)(ho:ME X o fo)(hi:ME X i fi)(hs:swapsWithSole [.Subscript o i p2] e pos.line X.env=pure false:=by rfl)(hw:swappedStores [.Subscript o i p2] e X.env=pure none:=by rfl)
    (h1:(assignEach [.Subscript o i p2] X.env).map (·.2)=[assign (.Subscript o i p2) X.env]:=by rfl) (ha:∀ v,assign (.Subscript o i p2) X.env v=(do
      let ov ← holding [v] (eval o X.env)
      let iv ← holding [v,ov] (eval i X.env)
      standAt p2
      holding [v,ov,iv] (setItem ov iv v)
      release [v,ov,iv] []):=by intro _;rfl):MS X (.Assign [.Subscript o i p2] e pos) (sU fo fi fe):=by
  refine PS.imp (CH he (Iq ho hi (Ji hu) ha) hs hw h1) fun En σ H ⟨ρ,σd,hd,rs,p⟩=>⟨ρ,σd,hd,rs,(bU.outE p).imp fun v H1 ⟨ρ1,d,hd1,e1,rs1,rv,p1⟩ => ?_⟩
  refine⟨ρ1,σd,hd1,rs1,(bU.outE p1).imp fun vo H2 ⟨ρ2,dO,hd2,e2,rs2,ro,p2⟩ => ?_⟩
  refine⟨ρ2,σd,hd2,rs2,(bU.outE p2).imp fun vi H3 ⟨ρ3,di,hd3,e3,rs3,ri,p3⟩ => ?_⟩
  have rv3:=(rv.mono (rs1.hp.kp e2)).mono (rs2.hp.kp e3)
  have ro3:=ro.mono (rs2.hp.kp e3)
  cases dO with
  | ref n =>
    cases di with
    | int j =>
      simp only at p3
      cases c:hd3[n]? with
      | none=>rw [c] at p3;exact p3.elim
      | some cell =>
        rw [c] at p3
        cases cell with
        | lst l=>exact p3.elim
        | dct l =>
          simp only at p3
          split at p3
          · rename_i hz
            simp only [RD] at ro3 ri
            subst ri
            obtain⟨a,ha,rfl⟩:=ro3
            obtain⟨kvs,q1,q2,q3⟩:=rs3.hp.cel n _ a c ha
            have hl:kvs.length=l.length:=by have:=congrArg List.length q2;simpa using this
            refine⟨a,_,rfl,Jd.k (k:=Sum.inl j) q1 (by rw [hl];exact Nat.lt_of_lt_of_le hz (by rw [sizeLine_eq];decide)),?_⟩
            have hn:n < hd3.length:=(List.getElem?_eq_some_iff.mp c).1
            obtain⟨u1,u2⟩:=Jh j rv3 q2 q3
            have rh:=rs3.hp.writeD ha hn u1 u2
            have ex:Ext ρ3 H3 ρ3 (upd H3 a (.dK (mT kvs (Sum.inl j) v))):=Ext.write (List.mem_of_getElem? ha)
            exact p3 σ _ ρ3 ex (rs3.ext ex rh)
          · exact p3.elim
    | _=>exact p3.elim
  | _=>exact p3.elim
end
end Fm
set_option Elab.async false
set_option linter.all false
set_option maxRecDepth 100000
namespace Fm
open PySem PySem.Spec L2 PySem.W PyProof.Rows
section
variable {X:Cx} {pos p:Pos}
theorem xa {P:Program}{w:World}{H:Hp}{h h':Heap}(hok:HOk P w H h)(hk:∀ b o xs,H b=some (.tup xs)→h.get? b=some o→h'.get? b=some o):∀ {vs:List V} {rs:List (List Int)} {its:List Value},dl H vs rs→bj vs its→(rs.all fun x => !x.isEmpty)=true →
    ∃ fs,KatTups h' its fs∧fs.length=its.length ∧ ∀ v∈fs,∃ i t,v=Value.int i t
  | _,_,_,.nil,.nil,_=>⟨[],.nil,rfl,fun v hv=>by simp at hv⟩
  | _,_,_,.cons (a:=a) (r:=r) ha t,.cons rv rt,hne=>by
    simp only [List.all_cons,Bool.and_eq_true,Bool.not_eq_true'] at hne
    obtain⟨fs,h1,h2,h3⟩:=xa hok hk t rt hne.2
    obtain⟨z,its0,r0,o,ho,hc,n,hd⟩:=hok a _ ha
    cases r with
    | nil=>simp at hne
    | cons i r =>
      cases r0 with
      | cons q0 qr =>
        rename_i u us
        obtain⟨tk,rfl⟩:=yi q0
        cases rv
        refine⟨.int i tk :: fs,KatTups.cons (hk a o _ ha ho) hc hd (by simp) h1,by simp [h2],fun v hv => ?_⟩
        rcases List.mem_cons.mp hv with rfl|hv
        · exact⟨i,tk,rfl⟩
        · exact h3 v hv
theorem OE {pins:List (Addr × Obj)}{σ:L2.St}{H:Hp}{s:Shared}{B:Addr}{vs:List V}{rs:List (List Int)}{A:Around}{E:Value→Shared→Prop}{Q:Value→Shared→Prop}(I:Inv X pins σ H s)(hB:H B=some (.lst vs))(h64:vs.length < 64)(rv:dl H vs rs)(nd:rs.Nodup)(hne:(rs.all fun x => !x.isEmpty)=true)
    (q:∀ vs' s',dl H vs' (dv rs)→Inv X pins σ (upd H B (.lst vs')) s'→Q .none s'):wpAny (model X.prog X.w) A (call (.builtin "list.sort") [.ref B]) Q E s:=by
  obtain⟨hz,its,n0,rvs,ho⟩:=I.hok B _ hB
  have hlen:its.length=vs.length:=rvs.length.symm
  obtain⟨m,hm,_⟩:=id I.loc
  have nL:∀ b u,H b=some u→b≠X.env.locals:=fun b u e z=>by rw [z,I.free] at e;cases e
  have BL:=nL B _ hB
  have selfUpd:∀ vs',vs'=vs→upd H B (.lst vs')=H:=fun vs' e=>by
    subst e
    funext b
    by_cases z:b=B
    · subst z;rw [bf,hB]
    · rw [aB z]
  have after:∀ (h2:Heap) (its':List Value) (vs':List V) (c t':Nat),dl H vs' (dv rs)→bj vs' its'→vs'.length≤sizeLine→h2.get? B=some (PySem.W.listOf its'.toArray c)→(∀ b o,b≠X.env.locals→b≠B→s.heap.get? b=some o→h2.get? b=some o)→h2.Ns X.env.locals m→Inv X pins σ (upd H B (.lst vs')) { s with heap:=h2,toks:=t' }:=fun h2 its' vs' c t' rv' rvs' hz' hB2 keep2 ns2=>by
    have I2:L2.Inv X pins σ (upd H B (.lst vs')) { s with heap:=h2,gens:=s.gens,drawn:=s.drawn,toks:=t' }:=by
      refine I.step (g':=s.gens) (d':=s.drawn) (t':=t') (ch:=[]) (fun _ z=>nomatch z) (fun b o hb _ _ e n=>keep2 b o hb (fun z=>by subst z;rw [hB] at n;cases n) e) (fun b o hb _ _ e n=>⟨o.slots,keep2 b o hb (fun z=>by subst z;rw [hB] at n;cases n) e⟩) (fun b o _ e n=>by rw [aB (fun z=>by subst z;rw [hB] at n;cases n)];exact n) (fun b o _ e => ?_)
        (fun b ys e=>by rw [aB (fun z=>by subst z;rw [hB] at e;cases e)];exact e) (fun b o u e=>by rw [aB (fun z=>by subst z;rw [hB] at e;cases e)];exact e) (fun b ps e=>⟨#[],by rw [aB (fun z=>by subst z;rw [hB] at e;cases e),e];simp⟩) (fun m' hm'=>by rw [Ow hm' hm];exact ns2) (fun b u e => ?_) I.bare
      · by_cases hb:b=X.env.locals
        · obtain⟨o',_,_,ho',_⟩:=ns2
          rw [hb];exact⟨o',ho'⟩
        · by_cases hb2:b=B
          · subst hb2;exact⟨_,hB2⟩
          · exact⟨o,keep2 b o hb hb2 e⟩
      · by_cases hb:b=B
        · subst hb
          rw [bf] at e
          cases e
          exact⟨hz',its',c,rvs',hB2⟩
        · rw [aB hb] at e
          refine (I.hok b u e).stay (fun c v hc z => ?_) (fun c z=>by rw [aB (fun y=>by subst y;rw [hB] at z;cases z)];exact z) fun c ys z=>by rw [aB (fun y=>by subst y;rw [hB] at z;cases z)];exact z
          rcases hc with w|w
          · subst w;exact keep2 c v (nL c _ e) hb z
          · exact keep2 c v (nL c _ w) (fun y=>by subst y;rw [hB] at w;cases w) z
    exact I2
  by_cases h2:its.length < 2
  · have hs:dv rs=rs:=by
      have:rs.length < 2:=by rw [← rv.length];omega
      match rs,this with
      | [],_=>rfl
      | [_],_=>rfl
    have ha:B < s.heap.objs.size:=Heap.lt_size ho
    have ho':s.heap.get? B=some (seqObj "list" its.toArray n0):=ho
    refine wpAny_call_entry slot_list_sort ⟨_,ho,rfl⟩ entry_list_sort (CV ho' h2 ⟨_,rfl,?_⟩) (args_list_sort _)
    obtain⟨e1,ho1⟩ : ∃ e1,(s.heap.update B (Obj.mapSeq fun _ => #[])).get? B=some (seqObj "list" #[] e1):=⟨_,get?_update_seq ho' (fun _ => #[])⟩
    have ho6:(((s.heap.update B (Obj.mapSeq fun _ => #[])).push (seqObj "tuple" its.toArray 0)).push (seqObj "list" #[] 0)).get? B=some (seqObj "list" #[] e1):=by
      rw [Heap.get?_push_ne _ _ _ (by rw [size_push',Heap.size_update];exact Nat.ne_of_lt (Nat.lt_succ_of_lt ha)),Heap.get?_push_ne _ _ _ (by rw [Heap.size_update];exact Nat.ne_of_lt ha)]
      exact ho1
    have keepS:∀ b o,b≠B→s.heap.get? b=some o→(sortedHeap s.heap B its its.toArray).get? b=some o:=fun b o hb e=>by
      have hlt:b < s.heap.objs.size:=Heap.lt_size e
      unfold sortedHeap
      rw [Heap.get?_update_ne _ _ _ _ hb,Heap.get?_push_ne _ _ _ (by rw [size_push',Heap.size_update];exact Nat.ne_of_lt (Nat.lt_succ_of_lt hlt)),Heap.get?_push_ne _ _ _ (by rw [Heap.size_update];exact Nat.ne_of_lt hlt),Heap.get?_update_ne _ _ _ _ hb]
      exact e
    have ns2:(sortedHeap s.heap B its its.toArray).Ns X.env.locals m:=by
      obtain⟨o',es,ep,h1,r⟩:=hm
      exact⟨o',es,ep,keepS _ _ (Ne.symm BL) h1,r⟩
    refine q vs _ (by rw [hs];exact rv) (after _ its vs _ s.toks (by rw [hs];exact rv) rvs hz (get?_update_seq ho6 _) (fun b o _ hb e=>keepS b o hb e) ns2)
  · have N0:News (Att.noObjs s.heap) X.env.locals s.heap ((B,PySem.W.listOf its.toArray n0) :: Att.ledger s.heap X.env.locals B):=fun ⟨b,o⟩ hb=>by
      rcases List.mem_cons.mp hb with e|hb
      · cases e
        exact⟨ho,BL,Att.noObjs_get _ _⟩
      · obtain⟨n1,n2,e⟩:=Att.mem_ledger.mp hb
        exact⟨e,n1,Att.noObjs_get _ _⟩
    have hDn:∀ q∈Att.ledger s.heap X.env.locals B,q.1≠B:=fun ⟨b,o⟩ hq=>(Att.mem_ledger.mp hq).2.1
    refine kat_lsort (vs:=its) (Att.fr_all hm) N0 (UpdF.head hDn) (by simp) (by omega) (by omega) fun e1 h' F' N' => ?_
    have inN:∀ b o,b≠X.env.locals→b≠B→s.heap.get? b=some o→(b,o)∈Att.ledger s.heap X.env.locals B:=fun b o hb hb2 e=>Att.mem_ledger.mpr ⟨hb,hb2,e⟩
    have keep':∀ b o,b≠X.env.locals→b≠B→s.heap.get? b=some o→h'.get? b=some o:=fun b o hb hb2 e=>(N' (b,o) (List.mem_cons_of_mem _ (inN b o hb hb2 e))).1
    obtain⟨fs,t1,t2,t3⟩:=xa I.hok (h':=h') (fun b o xs hb e=>keep' b o (nL b _ hb) (fun z=>by subst z;rw [hB] at hb;cases hb) e) rv rvs hne
    refine kat_kind (s:={ s with heap:=h' }) (T:=.type "int") t1 (by omega) (fun v hv => ?_) rfl ?_
    · obtain⟨i,t,rfl⟩:=t3 v hv
      exact Looks.of_pure rfl
    · have hT:(Value.type "int" != Value.type "tuple")=true:=by decide
      rw [hT]
      have hrl:rs.length=its.length:=by rw [← rv.length,hlen]
      have dif:∀ i j,i < its.length→j < its.length→i≠j→rs.getD i []≠rs.getD j []:=fun i j hi hj hij z=>by
        have e1:rs.getD i [] = rs[i]'(by omega):=by simp [List.getD,show i < rs.length by omega]
        have e2:rs.getD j [] = rs[j]'(by omega):=by simp [List.getD,show j < rs.length by omega]
        rw [e1,e2] at z
        exact hij ((List.getElem_inj nd).mp z)
      have O:Ord (fun i j=>Fm.lexLt (rs.getD i []) (rs.getD j [])) its.length:=⟨fun i j _ _ h=>qm h,fun i j k _ _ _ h h'=>i0 h h',fun i j hi hj hij h=>oS (dif i j hi hj hij) h⟩
      refine AJ O (fun i j hi hj C hC => ?_) (by omega) fun pp g srt => ?_
      · unfold kas_ask
        have at':∀ i,i < its.length → ∃ b,its.getD i Value.none=.ref b ∧ ∃ (o:Obj) (zs:List Value) (n:Nat),h'.get? b=some o∧o.data=.seq zs.toArray n∧IntsAre zs (rs.getD i []):=fun i hi=>by
          have hv:vs[i]? = some (vs[i]'(by omega)):=by simp [show i < vs.length by omega]
          obtain⟨b,e1,e2⟩:=rv.get hv
          obtain⟨u,hu,ru⟩:=rvs.get hv
          rw [e1] at ru
          cases (show u=Value.ref b from ru)
          obtain⟨z,zs,r0,o,ho,hc,n,hd⟩:=I.hok b _ e2
          exact⟨b,by simp [List.getD,hu],o,zs,n,keep' b o (nL b _ e2) (fun z=>by subst z;rw [hB] at e2;cases e2) ho,hd,mL r0⟩
        obtain⟨b1,x1,o1,z1,n1,y1,d1,i1⟩:=at' i hi
        obtain⟨b2,x2,o2,z2,n2,y2,d2,i2⟩:=at' j hj
        rw [x1,x2]
        refine kat_lt (s:={ s with heap:=h' }) y1 d1 y2 d2 ?_
        have:=Ov (prog:=X.prog) (w:=X.w) (A:=A.in1) (s:={ s with heap:=h' }) (Q:=C) (rs.getD i []) (rs.getD j []) 0 i1 i2 hC
        simpa using this
      · have pmL:pp.toList.Perm (List.range its.length):=by simpa using Array.perm_iff_toList_perm.mp g.pm
        have inR:∀ i∈pp.toList,i < vs.length:=fun i hi=>by
          have:=pmL.mem_iff.mp hi
          rw [← hlen];simpa using this
        obtain⟨vs',hvs'⟩ : ∃ vs',vs'=pp.toList.map fun i=>vs.getD i .non:=⟨_,rfl⟩
        obtain⟨its',hits'⟩ : ∃ its',its'=pp.toList.map fun i=>its.getD i Value.none:=⟨_,rfl⟩
        have rv':dl H vs' (dv rs):=by
          have e:(pp.toList.map fun i=>rs.getD i [])=dv rs:=by
            refine Gi (?_:List.Perm _ _) ?_ (k8 nd)
            · refine ((pmL.map fun i=>rs.getD i []).trans ?_).trans (jj rs).symm
              have:((List.range its.length).map fun i=>rs.getD i [])=rs:=by
                apply List.ext_getElem?
                intro i
                by_cases hi:i < rs.length
                · have:i < its.length:=by omega
                  simp [List.getD,hi,this]
                · have : ¬ i < its.length:=by omega
                  simp [hi,this]
              rw [this]
            · rw [List.pairwise_map]
              rw [List.pairwise_iff_getElem]
              intro i j hi hj hij
              have s1:=srt i j hij (by rw [← g.sz];simpa using hj)
              have g1:pp.getD i 0=pp.toList[i]:=by simp [Array.getD,show i < pp.size by simpa using hi]
              have g2:pp.getD j 0=pp.toList[j]:=by simp [Array.getD,show j < pp.size by simpa using hj]
              rw [g1,g2] at s1
              exact s1
          have:=rv.pick pp.toList inR
          rw [e,← hvs'] at this
          exact this
        have rvs':bj vs' its':=by rw [hvs',hits'];exact bj.pick rvs pp.toList inR
        have hz':vs'.length≤sizeLine:=by
          have l1:vs'.length=its.length:=by rw [hvs',List.length_map,pmL.length_eq,List.length_range]
          rw [l1,hlen];exact hz
        rw [← hits']
        refine KasFin.intro F' N' (UpdF.head hDn) fun h2 c F2 N2 => ?_
        have hD2:h2.get? B=some (PySem.W.listOf its'.toArray c):=(N2 (B,_) (List.mem_cons_self ..)).1
        have keep2:∀ b o,b≠X.env.locals→b≠B→s.heap.get? b=some o→h2.get? b=some o:=fun b o hb hb2 e=>(N2 (b,o) (List.mem_cons_of_mem _ (inN b o hb hb2 e))).1
        exact q vs' _ rv' (after h2 its' vs' c s.toks rv' rvs' hz' hD2 keep2 F2.ns)
end
end Fm
set_option Elab.async false
set_option linter.all false
set_option maxRecDepth 100000
namespace Fm
open PySem PySem.Spec L2 PySem.W PyProof.Rows
section
variable {X:Cx} {pos p:Pos}
def yn (p d:Addr):Heap→Prop:=fun h=>h.get? p=some { cls:=.type "dict_items",data:=.fields #[.ref d] }
def OG (td:TE):TE:=fun σ H Q=>td σ H fun x H1=>∃ a kvs,x=.ref a∧H1 a=some (.dK kvs) ∧ ∀ p,H1 p=none→Q (.ref p) (upd H1 p (.ext (yn p a)))
theorem Jj {o:Expr} {td:TE} {apos cpos:Pos} (ho:PE X o td) (hbase:attributeBase o "items" X.env (eval o X.env)=eval o X.env:=by rfl) (hline:(apos.endLine == cpos.line)=true:=by rfl) :
    PE X (.Call (.Attribute o "items" apos) [] [] cpos) (OG td):=by
  intro pins s σ H Q I h
  refine wpAny_Call_method0_late hbase hline (thn (ho pins s σ H _ I h) fun v s1 ⟨x,H1,I1,r1,a,kvs,ex,e,q1⟩ => ?_)
  subst ex
  obtain rfl:v=Value.ref a:=r1
  obtain⟨t1,t2,hs⟩:=Jg I1 (.inl ⟨kvs,.inl e⟩)
  obtain⟨_,hd,vs,_,dd⟩:=AL I1.hok e
  refine⟨"dict", "dict.items",PySem.F.plainAttrs_dict,PySem.F.slot_dict_items,PySem.F.type_dict_items,t1,t2,Calls.callWith_builtin rfl (PySem.evalArgs_none ?_)⟩
  refine call_meetsIn PySem.F.slot_dict_items t1 PySem.F.entry_dict_items (PySem.F.args_dict_items_1 _) (meets_dict_items (cR X.prog X.w) a hd) ⟨⟨vs,dd⟩,?_⟩
  refine⟨.ref s1.heap.objs.size,_,I1.laid (t':=s1.toks) (o:=.ext (yn s1.heap.objs.size a)) (fun b ob q=>Heap.get?_push_of_some _ q) (Nat.le_refl _) ⟨Heap.get?_push_size _ rfl,⟨_,Heap.get?_push_size _ rfl⟩,fun h1 h2 f k=>k _ f⟩,rfl,q1 _ (I1.hok.fresh (Nat.le_refl _))⟩
theorem Jk {pins:List (Addr × Obj)}{σ:L2.St}{H H':Hp}{s:Shared}{h':Heap}{t':Nat}(I:Inv X pins σ H s)(keep:∀ b o,s.heap.get? b=some o→h'.get? b=some o)(sm:jU H H')(fresh:∀ b,b < s.heap.objs.size→H' b=H b)(new:∀ b u,s.heap.objs.size≤b→H' b=some u→ed X.prog X.w H' h' b u ∧ ∀ c,u ≠ .own c):Inv X pins σ H' { s with heap:=h',toks:=t' }:=by
  have I2:L2.Inv X pins σ H' { s with heap:=h',gens:=s.gens,drawn:=s.drawn,toks:=t' }:=by
    refine I.step (g':=s.gens) (d':=s.drawn) (t':=t') (ch:=[]) (fun _ z=>nomatch z) (fun b o _ _ _ e _=>keep b o e) (fun b o _ _ _ e _=>⟨o.slots,keep b o e⟩) (fun b o _ e n=>by rw [fresh b (Heap.lt_size e)];exact n) (fun b o _ e=>⟨o,keep b o e⟩)
      (fun b ys e=>sm _ _ e) (fun b o u e=>sm _ _ e) (fun b ps e=>⟨#[],by rw [sm _ _ e];simp⟩) (fun m hm => ?_) (fun b u e => ?_) I.bare
    · obtain⟨o',es,ep,h1,r⟩:=hm
      exact⟨o',es,ep,keep _ _ h1,r⟩
    · by_cases hb:b < s.heap.objs.size
      · rw [fresh b hb] at e
        refine (I.hok b u e).stay (fun c v hc z=>keep c v z) (fun c z=>sm _ _ z) fun c ys z=>sm _ _ z
      · exact (new b u (Nat.le_of_not_lt hb) e).1
  exact I2
def ov:List Addr→List (List Int)→Hp→Hp
  | a :: as,r :: rs,H=>upd (ov as rs H) a (.tup (r.map V.int))
  | _,_,H=>H
theorem Fo {b:Addr}{H:Hp}:∀ {as:List Addr} {rs:List (List Int)},b∉as→ov as rs H b=H b
  | [],_,_=>rfl
  | a :: as,[],_=>rfl
  | a :: as,r :: rs,h=>by
    have h1:b≠a:=fun z=>h (by simp [z])
    have h2:b∉as:=fun z=>h (by simp [z])
    show upd _ _ _ b=_
    rw [aB h1,Fo h2]
theorem Jl {H:Hp}:∀ {as:List Addr} {rs:List (List Int)} {j:Nat} {a:Addr} {r:List Int},as.Nodup→as[j]? = some a→rs[j]? = some r→ov as rs H a=some (.tup (r.map V.int))
  | [],_,_,_,_,_,e,_=>by simp at e
  | a :: as,[],_,_,_,_,_,e=>by simp at e
  | a :: as,r :: rs,0,_,_,_,e,e'=>by simp at e e';subst e e';exact bf
  | a :: as,r :: rs,j + 1,b,q,nd,e,e'=>by
    obtain⟨n1,n2⟩:=List.nodup_cons.mp nd
    have e:as[j]? = some b:=by simpa using e
    have hb:b≠a:=fun z=>n1 (by rw [← z];exact List.mem_of_getElem? e)
    show upd _ _ _ b=_
    rw [aB hb]
    exact Jl n2 e (by simpa using e')
theorem dl.mono {H H':Hp}(k:∀ a xs,H a=some (.tup xs)→H' a=some (.tup xs)):∀ {vs:List V} {rs:List (List Int)},dl H vs rs→dl H' vs rs
  | _,_,.nil=>.nil
  | _,_,.cons h t=>.cons (k _ _ h) (dl.mono k t)
theorem Fp {H':Hp}:∀ {as:List Addr} {rs:List (List Int)},as.length=rs.length→(∀ (j:Nat) a r,as[j]? = some a→rs[j]? = some r→H' a=some (.tup (r.map V.int)))→dl H' (as.map V.ref) rs
  | [],[],_,_=>.nil
  | [],_ :: _,h,_=>by simp at h
  | _ :: _,[],h,_=>by simp at h
  | a :: as,r :: rs,h,f=>.cons (f 0 a r rfl rfl) (Fp (by simpa using h) fun j b q e e'=>f (j + 1) b q (by simpa using e) (by simpa using e'))
def OH:List V→Hp→VK→Prop:=fun xs H Q=>∃ (p a:Addr) (ps:List (Int × Int)),xs=[.ref p]∧H p=some (.ext (yn p a))∧H a=some (.dK (ps.map fun q=>((Sum.inl q.1:Key),V.int q.2)))∧ps.length < 64∧(ps.map fun q=>[q.1,q.2]).Nodup ∧
  ∀ H' q vs',jU H H'→H q=none→H' q=some (.lst vs')→dl H' vs' (dv (ps.map fun q=>[q.1,q.2]))→Q (.ref q) H'
theorem No {κ : Type}{kvs:List (κ × V)}{vs:List (κ × Value)}(r:KV kvs vs):∀ {j:Nat} {k : κ} {x:Value} {k' : κ} {v:V},vs[j]? = some (k,x)→kvs[j]? = some (k',v)→k'=k∧bR v x:=by
  induction r with
  | nil=>intro j k x k' v e;simp at e
  | cons h t ih =>
    intro j k x k' v e e'
    cases j with
    | zero=>simp at e e';subst e e';exact h
    | succ j=>exact ih (by simpa using e) (by simpa using e')
theorem CZ (hc:X.calm=true):iZ X (.builtin "sorted") OH:=by
  intro pins s σ H xs us Q I r h
  obtain⟨p,a,ps,rfl,hp,ha,h64,nd,q⟩:=h
  obtain⟨u,rfl,ru⟩:=bj.one r
  cases (show u=Value.ref p from ru)
  obtain⟨rs,hrs⟩ : ∃ rs,rs=ps.map fun q=>[q.1,q.2]:=⟨_,rfl⟩
  rw [← hrs] at nd q
  have view:yn p a s.heap:=(I.hok p _ hp).1
  obtain⟨hz,_,vs,rel,dd⟩:=AL I.hok ha
  have lv:vs.length=ps.length:=by rw [← rel.length];simp
  obtain⟨o,es,ep,d1,d2⟩:=id dd
  have dat:s.heap.DictAt (cR X.prog X.w) a vs ep:=⟨o,es,d1,d2⟩
  refine Calls.call_function_entry kind_sorted plain_sorted entry_sorted (args_sorted1 _) ?_
  unfold Builtin.«sorted»
  refine wpAny_bind (m:=checkCount "sorted" 1 1 _) (wpAny_pure ?_)
  refine wpAny_bind (kdx_collect (A:=X.A.in1) (knd:=cR X.prog X.w) (kvs:=vs) (ep:=ep) (I.ok.hd hc) ⟨_,view,rfl,rfl⟩ dat (by rw [lv,sizeLine_eq];omega) fun h' tk as hk hl hG => ?_)
  have ndA:as.Nodup:=hG.rise.imp fun h=>Nat.ne_of_lt h
  have lr:as.length=rs.length:=by rw [hl,lv,hrs];simp
  have newA:∀ b∈as,s.heap.objs.size≤b:=fun b hb=>Nat.le_of_lt (hG.above b hb)
  have sm:jU H (ov as rs H):=fun b u e=>by
    rw [Fo]
    · exact e
    · intro z
      exact absurd (I.hok.lt e) (Nat.not_lt.mpr (newA b z))
  have I1:Inv X pins σ (ov as rs H) { s with heap:=h',toks:=tk }:=by
    refine Jk I hk sm (fun b hb=>Fo fun z=>absurd hb (Nat.not_lt.mpr (newA b z))) fun b u hb e => ?_
    by_cases hm:b∈as
    · obtain⟨j,hj⟩:=List.getElem?_of_mem hm
      have hjl:j < as.length:=(List.getElem?_eq_some_iff.mp hj).1
      obtain⟨key,k,x,e1,e2,e3⟩:=hG.pairs j b hj
      obtain⟨pq,hpq⟩ : ∃ pq,ps[j]? = some pq:=⟨ps[j]'(by omega),by simp [show j < ps.length by omega]⟩
      have hr:rs[j]? = some [pq.1,pq.2]:=by rw [hrs,List.getElem?_map,hpq];rfl
      rw [Jl ndA hj hr] at e
      cases e
      refine⟨?_,fun c z=>by cases z⟩
      obtain⟨hkk,rx⟩:=No rel e1 (show (ps.map fun q=>((Sum.inl q.1:Key),V.int q.2))[j]? = some (Sum.inl pq.1,V.int pq.2) by rw [List.getElem?_map,hpq];rfl)
      obtain⟨t,rfl⟩:=yi rx
      subst hkk
      have:∃ t',key=Value.int pq.1 t':=Value.isInt_shape e2
      obtain⟨t',rfl⟩:=this
      exact⟨by simp [sizeLine_eq],[_,_],.cons ⟨t',rfl⟩ (.cons ⟨t,rfl⟩ .nil),_,e3,rfl,_,rfl⟩
    · rw [Fo hm] at e
      exact absurd (I.hok.lt e) (Nat.not_lt.mpr hb)
  refine wpAny_bind (wpAny_newList ?_ (by rw [List.length_map,hl,lv,sizeLine_eq];omega))
  have rvA:bj (as.map V.ref) (as.map Value.ref):=by
    clear hl hG ndA lr newA sm I1 q
    induction as with
    | nil=>exact .nil
    | cons a as ih=>exact .cons rfl ih
  have I2:Inv X pins σ (upd (ov as rs H) h'.objs.size (.lst (as.map V.ref))) { s with heap:=h'.push { cls:=.type "list",data:=.seq (as.map Value.ref).toArray },toks:=tk }:=I1.lnew (t':=tk) rvA (by rw [List.length_map,hl,lv,sizeLine_eq];omega)
  have fr:ov as rs H h'.objs.size=none:=I1.hok.fresh (Nat.le_refl _)
  have sm2:jU (ov as rs H) (upd (ov as rs H) h'.objs.size (.lst (as.map V.ref))):=cy fr
  have rowsA:dl (upd (ov as rs H) h'.objs.size (.lst (as.map V.ref))) (as.map V.ref) rs:=Fp lr fun j b r e e'=>sm2 _ _ (Jl ndA e e')
  have hne:(rs.all fun x => !x.isEmpty)=true:=by rw [hrs,List.all_map,List.all_eq_true];intro q _;rfl
  refine wpAny_bind (wpAny_holding (OE (A:=X.A.in1) I2 bf (by rw [List.length_map,hl,lv];exact h64) rowsA nd hne fun vs' s' rv' I3=>wpAny_pure ⟨_,rfl,?_⟩))
  have uu:upd (upd (ov as rs H) h'.objs.size (.lst (as.map V.ref))) h'.objs.size (.lst vs')=upd (ov as rs H) h'.objs.size (.lst vs'):=by
    funext b
    by_cases z:b=h'.objs.size
    · subst z;rw [bf,bf]
    · rw [aB z,aB z,aB z]
  rw [uu] at I3
  refine⟨.ref h'.objs.size,_,I3,rfl,q _ _ vs' (fun b u e=>cy fr _ _ (sm _ _ e)) ?_ bf ?_⟩
  · cases e:H h'.objs.size with
    | none=>rfl
    | some u=>rw [sm _ _ e] at fr;cases fr
  · refine rv'.mono fun b ys e => ?_
    have hb:b≠h'.objs.size:=fun z=>by subst z;rw [bf] at e;cases e
    rw [aB hb] at e ⊢
    exact e
theorem lf:∀ {l:List (Int × D)} {r:List (List Int)},er l=some r → ∃ ps:List (Int × Int),l=ps.map (fun q=>(q.1,D.int q.2))∧r=ps.map fun q=>[q.1,q.2]
  | [],r,e=>by simp only [er] at e;cases e;exact⟨[],rfl,rfl⟩
  | (k,d) :: l,r,e=>by
    cases d<;>simp only [er] at e<;>try (cases e;done)
    rename_i v
    cases c:er l with
    | none=>rw [c] at e;cases e
    | some r' =>
      rw [c] at e
      cases e
      obtain⟨ps,rfl,rfl⟩:=lf c
      exact⟨(k,v) :: ps,rfl,rfl⟩
theorem C3 {K:PySem.W.Frag}{ρ:List Addr}{H:Hp}:∀ {ps:List (Int × Int)} {kvs:List (Key × V)},kvs.map (·.1)=(ps.map fun q=>(q.1,D.int q.2)).map (fun p=>(Sum.inl p.1:Key))→RDs K ρ H ((ps.map fun q=>(q.1,D.int q.2)).map (·.2)) (kvs.map (·.2))→kvs=ps.map fun q=>((Sum.inl q.1:Key),V.int q.2)
  | [],[],_,_=>rfl
  | [],_ :: _,h,_=>by simp at h
  | _ :: _,[],h,_=>by simp at h
  | (j,d) :: ps,(kk,v) :: kvs,h1,h2=>by
    simp only [List.map_cons,List.cons.injEq] at h1
    simp only [List.map_cons,RDs] at h2
    obtain⟨v',r',e,q1,q2⟩:=h2
    cases e
    obtain⟨e1,e2⟩:=h1
    subst e1
    simp only [RD] at q1
    subst q1
    rw [C3 e2 q2]
    rfl
theorem Jm {o:Expr} {fo:EF} {apos cpos:Pos} (hc:X.calm=true) (hg:Gl X "sorted") (hm:X.mg "sorted" = none) (ho:ME X o fo)
    (hs:starEach [.Call (.Attribute o "items" apos) [] [] cpos] X.env=(false,eval (.Call (.Attribute o "items" apos) [] [] cpos) X.env) :: starEach [] X.env:=by rfl)
    (hbase:attributeBase o "items" X.env (eval o X.env)=eval o X.env:=by rfl) (hline:(apos.endLine == cpos.line)=true:=by rfl) :
    MF X (.Call (.Name "sorted" p) [.Call (.Attribute o "items" apos) [] [] cpos] [] pos) (lc fo):=by
  refine PE.imp (jy (CZ hc) hg hm (by decide +kernel) (cC (Jj ho hbase hline) eU hs) (he:=hs)) fun σ H Q ⟨ρ,σd,hd,rs,pp⟩=>⟨ρ,σd,hd,rs,?_⟩
  unfold lc at pp
  cases e:fo σd hd with
  | exc x h'=>rw [e] at pp;exact pp
  | bad=>rw [e] at pp;exact pp
  | ok d hd1 =>
    rw [e] at pp
    simp only [aG] at pp
    intro v H1 ρ1 e1 rs1 rv
    cases d<;>try exact pp.elim
    rename_i n
    simp only at pp
    simp only [rD,RD] at rv
    obtain⟨a,ha,rfl⟩:=rv
    cases c:hd1[n]? with
    | none=>rw [c] at pp;exact pp.elim
    | some cell =>
      rw [c] at pp
      cases cell with
      | lst l=>exact pp.elim
      | dct l =>
        simp only at pp
        cases c2:er l with
        | none=>rw [c2] at pp;exact pp.elim
        | some r =>
          rw [c2] at pp
          simp only at pp
          split at pp
          · rename_i hz
            obtain⟨ps,rfl,rfl⟩:=lf c2
            obtain⟨kvs,q1,q2,q3⟩:=rs1.hp.cel n _ a c ha
            have hk:=C3 q2 q3
            subst hk
            refine⟨a,_,rfl,q1,fun q hq=>⟨q,a,ps,rfl,bf,by rw [aB (aU q1 hq)];exact q1,by simpa using hz.1,hz.2,fun H' q' vs' sm hq' hl' rv' => ?_⟩⟩
            have sm1:jU H1 H':=fun b u eb=>sm _ _ (cy hq _ _ eb)
            have nq:q'≠q:=fun z=>by subst z;rw [bf] at hq';cases hq'
            rw [aB nq] at hq'
            have hn:=rs1.hp.free hq'
            exact pp q' vs' H' ρ1 (e1.trans (Ext.same sm1)) (rs1.same sm1) (e1.fresh hq' hn) hl' hn rv'.rds
          · exact pp.elim
end
end Fm
set_option linter.all false
namespace Fm
@[simp] def oU (la:LF) (b:EF):LF:=fun σ h=>(la σ h).bind fun l h=>(b σ h).bind fun y h=>match y with
  | .int n=>if 0≤n∧n≤1000∧l.length * n.toNat≤1000 then .ok (List.replicate n.toNat l).flatten h else .bad
  | _=>.bad
@[simp] def Q8 (x i e:EF):EF:=fun σ h=>(x σ h).bind fun p h=>match p with
  | .ref n=>match h[n]? with
    | some (.lst _)=>(i σ h).bind fun j h=>(e σ h).bind fun d h=>match j with
      | .int k=>match h[n]? with
        | some (.lst l)=>if 0≤k∧k≤l.length∧l.length < SZ then .ok .non (h.set n (.lst (l.take k.toNat++[d]++l.drop k.toNat))) else .bad
        | _=>.bad
      | _=>.bad
    | _=>.bad
  | _=>.bad
@[simp] def C6 (a b:EF):EF:=fun σ h=>(a σ h).bind fun x h=>(b σ h).bind fun y h=>match x,y with
  | .int i,.int j=>.ok (.int (if j > i then j else i)) h
  | _,_=>.bad
@[simp] def kD (a b:EF):LF:=fun σ h=>(a σ h).bind fun x h=>(b σ h).bind fun y h=>match x,y with
  | .ref n,.ref m=>match h[n]?,h[m]? with
    | some (.lst l),some (.lst k)=>if l.length + k.length≤SZ then .ok (l++k) h else .bad
    | _,_=>.bad
  | _,_=>.bad
@[simp] def lh:O2:=fun x y h=>match x,y with
  | .tup xs,.tup ys=>if xs.length + ys.length≤SZ then .ok (.tup (xs++ys)) h else .bad
  | _,_=>.bad
end Fm
set_option Elab.async false
set_option linter.all false
set_option maxRecDepth 100000
namespace Fm
open PySem PySem.Spec L2 PySem.W PyProof.Rows
section
variable {X:Cx} {pos p:Pos}
theorem xb {K:PySem.W.Frag}{ρ:List Addr}{H:Hp}:∀ {l:List D} {vs:List V} {bs:List Bool},RDs K ρ H l vs→kW l=some bs→vs=bs.map V.bl
  | [],_,is,r,e=>by simp only [kW] at e;cases e;simp only [RDs] at r;subst r;rfl
  | d :: l,_,is,r,e=>by
    simp only [RDs] at r
    obtain⟨v,vs,rfl,h1,h2⟩:=r
    cases d<;>simp only [kW] at e<;>try (cases e;done)
    rename_i i
    cases c:kW l with
    | none=>rw [c] at e;cases e
    | some js =>
      rw [c] at e
      cases e
      simp only [RD] at h1
      rw [h1,xb h2 c]
      rfl
theorem Jn {bs:List Bool}{its:List Value}(r:bj (bs.map V.bl) its):∀ (i:Nat) (v:Value),its.toArray[i]? = some v→v=.bool (bs.getD i false):=by
  intro i v e
  have e':its[i]? = some v:=by simpa using e
  have hi:i < bs.length:=by
    have:=(List.getElem?_eq_some_iff.mp e').1
    have:=r.length
    simp at this
    omega
  obtain⟨u,hu,ru⟩:=r.get (i:=i) (x:=V.bl bs[i]) (by simp [hi])
  rw [hu] at e'
  cases e'
  rw [show v=Value.bool bs[i] from ru]
  simp [List.getD,hi]
theorem Jo (bs:List Bool):(List.range bs.length).all (fun i=>bs.getD i false)=bs.all id:=by
  have:bs=(List.range bs.length).map fun i=>bs.getD i false:=by
    apply List.ext_getElem?
    intro i
    by_cases hi:i < bs.length<;>simp [List.getD,hi]
  conv=>rhs;rw [this]
  rw [List.all_map]
  rfl
theorem Gm (hc:X.calm=true):iZ X (.builtin "all") (fun xs H Q=>∃ (p:Addr) (bs:List Bool),xs=[.ref p]∧(SqL X.K H p (bs.map V.bl)∨SqT X.K H p (bs.map V.bl))∧Q (.bl (bs.all id)) H):=by
  intro pins s σ H xs us Q I r q
  obtain⟨p,bs,rfl,sq,q⟩:=q
  obtain⟨u,rfl,ru⟩:=bj.one r
  cases (show u=Value.ref p from ru)
  have hA:(X.A.in1).handled=none:=I.ok.hd hc
  have tr:∀ (its:List Value),bj (bs.map V.bl) its→TruthOf X.prog X.w X.A.in1 (fun i v=>its.toArray[i]? = some v) (fun i=>bs.getD i false):=fun its rv i v s Q E hP hQ=>by
    rw [Jn rv i v hP]
    exact wpAny_truthy_bool hQ
  have fin:∀ {it:Obj} {h':Heap} {tk:Nat} {n:Nat},n=bs.length→(∀ b o,b∉[s.heap.objs.size]→(s.heap.push it).get? b=some o→h'.get? b=some o)→EP X pins σ Q (.bool ((List.range n).all fun i=>bs.getD i false)) { s with heap:=h',toks:=tk }:=by
    intro it h' tk n hn hk
    subst hn
    refine⟨.bl (bs.all id),H,I.kept (t':=tk) fun b o e=>hk b o (by simp;exact Nat.ne_of_lt (Heap.lt_size e)) (Heap.get?_push_of_some _ e),by rw [Jo];rfl,q⟩
  rcases sq with sq|sq
  · obtain⟨its,rv,pl,hz⟩:=I.list sq
    have il:s.heap.IsList p its.toArray:=pl.isList
    have hlt:p < s.heap.objs.size:=by obtain⟨o,ho,_⟩:=il;exact Heap.lt_size ho
    refine PySem.call_all_walk (PySem.wpAny_pyIter_list il ?_)
    refine⟨s.heap.objs.size,_,[s.heap.objs.size],_,_,_,fun i=>bs.getD i false,rfl,PySem.Walks.list hA s.heap.objs.size p (Nat.ne_of_lt hlt) its.toArray,⟨⟨_,Heap.get?_push_size _ rfl,rfl,rfl⟩,?_⟩,tr its rv,?_⟩
    · obtain⟨o,ho,r⟩:=il;exact⟨o,Heap.get?_push_of_some _ ho,r⟩
    · exact fun h' tk hk=>fin (by simpa using rv.length.symm) hk
  · obtain⟨its,rv,pl,hz⟩:=I.tuple sq
    have il:s.heap.IsTuple p its.toArray:=pl
    have hlt:p < s.heap.objs.size:=by obtain⟨o,ho,_⟩:=il;exact Heap.lt_size ho
    refine PySem.call_all_walk (PySem.wpAny_pyIter_tuple il ?_)
    refine⟨s.heap.objs.size,_,[s.heap.objs.size],_,_,_,fun i=>bs.getD i false,rfl,PySem.Walks.tuple hA s.heap.objs.size p (Nat.ne_of_lt hlt) its.toArray,⟨⟨_,Heap.get?_push_size _ rfl,rfl,rfl⟩,?_⟩,tr its rv,?_⟩
    · obtain⟨o,ho,r⟩:=il;exact⟨o,Heap.get?_push_of_some _ ho,r⟩
    · exact fun h' tk hk=>fin (by simpa using rv.length.symm) hk
theorem Jp {a:Expr} {la:LF} (hc:X.calm=true) (hg:Gl X "all") (hm:X.mg "all" = none) (ha:MQ X a la) (hs:starEach [a] X.env=(false,eval a X.env) :: starEach [] X.env:=by rfl):ME X (.Call (.Name "all" p) [a] [] pos) (CO la):=by
  refine yd (g:=fun l h=>match kW l with|some bs=>.ok (.bl (bs.all id)) h|none=>.bad) (IQ (Gm hc) hg hm (by decide +kernel) (he:=hs)) ha (fun ρ H σd hd σ l q vs Q rs sq rvs p => ?_) hs
  cases c:kW l with
  | none=>simp only [c] at p;exact p.elim
  | some is =>
    simp only [c] at p
    have e:=xb rvs c
    subst e
    exact⟨q,is,rfl,sq.imp id SqT.of,p.here rs (by simp only [rD,RD])⟩
theorem C7 {a b:Expr}{la:LF}{fb:EF}(ha:MF X a la)(hb:ME X b fb):MF X (.BinOp a .Mult b pos) (oU la fb):=by
  refine PE.imp (Ix Oc ha hb) fun σ H Q ⟨ρ,σd,hd,rs,pp⟩=>⟨ρ,σd,hd,rs,?_⟩
  unfold oU at pp
  cases e:la σd hd with
  | exc x h'=>rw [e] at pp;exact pp
  | bad=>rw [e] at pp;exact pp
  | ok l hd1 =>
    rw [e] at pp
    simp only [aG] at pp
    intro q vs H1 ρ1 e1 rs1 hq0 hq hn rvs
    refine⟨ρ1,σd,hd1,rs1,?_⟩
    cases e2:fb σd hd1 with
    | exc x h'=>rw [e2] at pp;exact pp
    | bad=>rw [e2] at pp;exact pp
    | ok y hd2 =>
      rw [e2] at pp
      simp only [aG] at pp
      intro v H2 ρ2 ex2 rs2 rv
      cases y<;>try exact pp.elim
      rename_i n
      simp only at pp
      split at pp
      · rename_i hz
        simp only [rD,RD] at rv
        subst rv
        have hq2:H2 q=some (.lst vs):=ex2.frame q _ hq hn
        have rvs2:=rvs.mono (rs1.hp.kp ex2)
        refine⟨q,n,vs,rfl,rfl,hq2,by omega,by omega,by rw [← rvs.length,sizeLine_eq];omega,fun p' hp' => ?_⟩
        exact Az.mk pp (e1.trans ex2) rs2 (RDs.rep rvs2 n.toNat) p' hp'
      · exact pp.elim
theorem OI {a b:Expr} {fa fb:EF} (hc:X.calm=true) (hg:Gl X "max") (hm:X.mg "max" = none) (ha:ME X a fa) (hb:ME X b fb) (hs:starEach [a,b] X.env=(false,eval a X.env) :: starEach [b] X.env:=by rfl) (hs2:starEach [b] X.env=(false,eval b X.env) :: starEach [] X.env:=by rfl) (hpl:(backTo pos (starEach [b] X.env)).any (fun x=>x.1)=false:=by rfl):ME X (.Call (.Name "max" p) [a,b] [] pos) (C6 fa fb):=by
  refine PE.imp (jy (F6 hc) hg hm (by decide +kernel) (cC ha (cC hb eU hs2) hs) (he:=hs) (hpl:=hpl)) fun σ H Q ⟨ρ,σd,hd,rs,pp⟩=>⟨ρ,σd,hd,rs,?_⟩
  unfold C6 at pp
  refine (cj.bind (R:=rD X.K) pp).imp fun v H1 ⟨ρ1,d,hd1,e1,rs1,rv,p1⟩ => ?_
  refine⟨ρ1,σd,hd1,rs1,(cj.bind (R:=rD X.K) p1).imp fun w H2 ⟨ρ2,k,hd2,e2,rs2,rw',p2⟩ => ?_⟩
  cases d<;>try exact p2.elim
  cases k<;>try exact p2.elim
  simp only [rD,RD] at rv rw'
  subst rv rw'
  exact⟨_,_,rfl,p2.here rs2 (by simp only [rD,RD])⟩
theorem rN {a b:Expr}{fa fb:EF}(ha:ME X a fa)(hb:ME X b fb):MF X (.BinOp a .Add b pos) (kD fa fb):=by
  refine PE.imp (Ix Ob ha hb) fun σ H Q ⟨ρ,σd,hd,rs,pp⟩=>⟨ρ,σd,hd,rs,?_⟩
  unfold kD at pp
  cases e:fa σd hd with
  | exc x h'=>rw [e] at pp;exact pp
  | bad=>rw [e] at pp;exact pp
  | ok d hd1 =>
    rw [e] at pp
    simp only [aG] at pp
    intro v H1 ρ1 e1 rs1 rv
    refine⟨ρ1,σd,hd1,rs1,?_⟩
    cases e2:fb σd hd1 with
    | exc x h'=>rw [e2] at pp;exact pp
    | bad=>rw [e2] at pp;exact pp
    | ok k hd2 =>
      rw [e2] at pp
      simp only [aG] at pp
      intro w H2 ρ2 ex2 rs2 rw'
      cases d with
      | ref n =>
        cases k with
        | ref m =>
          simp only at pp
          simp only [rD,RD] at rv rw'
          obtain⟨a1,ha1,rfl⟩:=rv
          obtain⟨b1,hb1,rfl⟩:=rw'
          have ha2:=ex2.get ha1
          cases c1:hd2[n]? with
          | none=>rw [c1] at pp;exact pp.elim
          | some x1 =>
            cases c2:hd2[m]? with
            | none=>rw [c1,c2] at pp;cases x1<;>exact pp.elim
            | some x2 =>
              rw [c1,c2] at pp
              cases x1 with
              | dct _=>exact pp.elim
              | lst l =>
                cases x2 with
                | dct _=>exact pp.elim
                | lst k =>
                  simp only at pp
                  split at pp
                  · rename_i hz
                    obtain⟨vs1,hv1,rvs1⟩:=rs2.hp.cel n _ a1 c1 ha2
                    obtain⟨vs2,hv2,rvs2⟩:=rs2.hp.cel m _ b1 c2 hb1
                    refine⟨a1,b1,vs1,vs2,rfl,rfl,hv1,hv2,by rw [← rvs1.length,← rvs2.length];exact nu hz,fun p' hp' => ?_⟩
                    exact Az.mk pp (e1.trans ex2) rs2 (RDs.append rvs1 rvs2) p' hp'
                  · exact pp.elim
        | _=>exact pp.elim
      | _=>exact pp.elim
theorem AQ (l b:Addr)(items items2:Array Value)(n n2:Nat)(dd dd2:Option Addr)(sl sl2:Array (Option Value))(hc0:items.isEmpty=true) :
    Meets (Builtin.«tuple.__add__» ⟨[.ref l,.ref b],[]⟩) (fun _ R s=>s.heap.get? l=some { cls:=.type "tuple",dict:=dd,data:=.seq items n,slots:=sl } ∧ s.heap.get? b=some { cls:=.type "tuple",dict:=dd2,data:=.seq items2 n2,slots:=sl2 } ∧ R (.ok (.ret (Value.ref b))) s) :=
  .of_wp fun prog w A R s h=>by obtain⟨hp,g,d,tk,os⟩:=s;obtain⟨hl,hb,h⟩:=h;have f1:=PySem.AutoSeq1.idx_int;have f2:=PySem.AutoSeq1.sub_tuple_tuple;wp_walk using wpAny_loadPart' hl,wpAny_loadPart' hb;exact⟨_,rfl,h⟩
def Jq (K:PySem.W.Frag):R2:=fun x y H Q=>∃ a b ys,x=.ref a∧y=.ref b∧SqT K H a []∧SqT K H b ys∧Q (.ref b) H
theorem LY:OpR X (binaryOp .Add) (Jq X.K):=by
  intro pins s σ H x y v u Q I rx ry h
  obtain⟨a,b,ys,rfl,rfl,ha,hb,q⟩:=h
  cases rx
  cases ry
  obtain⟨its,r1,p1,_⟩:=I.tuple ha
  obtain⟨its2,r2,p2,_⟩:=I.tuple hb
  cases r1
  obtain⟨⟨cls,dd,data,sl⟩,ho,hc,n,hd⟩:=id p1
  obtain⟨⟨cls2,dd2,data2,sl2⟩,ho2,hc2,n2,hd2⟩:=id p2
  simp only at hc hd hc2 hd2
  subst hc hd hc2 hd2
  exact concat_meets ⟨_,ho,rfl⟩ ⟨_,ho2,rfl⟩ noFill_tuple_add seq_tuple_add PySem.F.slot_tuple_add PySem.F.entry_tuple_add (PySem.F.args_tuple_add_2 _ _)
    (AQ a b _ its2.toArray n n2 dd dd2 sl sl2 rfl) ⟨ho,ho2,⟨.ref b,H,I,rfl,q⟩⟩
theorem rO:OpR X (binaryOp .Add) (fun x y H Q=>Jq X.K x y H Q∨Aw X.K x y H Q):=LY.or E9
theorem rP {K:PySem.W.Frag}:Og K lh (fun x y H Q=>Jq K x y H Q∨Aw K x y H Q):=by
  intro ρ H σd hd σ d k v w Q rs rv rw' pp
  cases d with
  | tup xs =>
    cases k with
    | tup ys =>
      simp only [lh] at pp
      split at pp
      · rename_i hz
        simp only [RD] at rv
        obtain⟨a,vs,rfl,ha,rvs⟩:=rv
        have rw2:=rw'
        simp only [RD] at rw'
        obtain⟨b,ws,rfl,hb,rws⟩:=rw'
        cases xs with
        | nil =>
          simp only [RDs] at rvs
          subst rvs
          exact .inl ⟨a,b,ws,rfl,rfl,SqT.of ha,SqT.of hb,pp.here rs (by simpa using rw2)⟩
        | cons x xs =>
          refine .inr ⟨a,b,vs,ws,rfl,rfl,SqT.of ha,SqT.of hb,?_,?_,fun z => ?_,fun _ q hq => ?_⟩
          · intro z;subst z;have:=rvs.length;simp at this
          · rw [← rvs.length,← rws.length];exact nu hz
          · subst z
            have hy:ys=[]:=by have:=rws.length;simpa using this
            subst hy
            exact pp.here rs (by simp only [rD,RD];exact⟨a,vs,rfl,ha,by simpa using rvs⟩)
          · have sm:=cy (o:=HO.tup (vs++ws)) hq
            exact pp.at (Ext.same sm) (rs.same sm) (by simp only [rD,RD];exact⟨q,_,rfl,bf,(RDs.append rvs rws).mono (Kp.same sm)⟩)
      · exact pp.elim
    | _=>exact pp.elim
  | _=>exact pp.elim
end
end Fm
set_option linter.all false
namespace Fm
@[simp] def LZ (a b:EF):IF:=fun σ h=>(a σ h).bind fun x h=>(b σ h).bind fun y h=>match x,y with
  | .tup l,.tup k=>.ok ((l.zip k).map fun p=>.tup [p.1,p.2],none) h
  | _,_=>.bad
noncomputable section
open Classical
def jA (l:List D):List D:=(List.range l.length).zip l |>.map fun p=>.tup [.int (p.1:Nat),p.2]
end
end Fm
set_option Elab.async false
set_option linter.all false
set_option maxRecDepth 100000
namespace Fm
open PySem PySem.Spec L2
open PyProof.Rows (Call_)
theorem ie {h h':Heap}{i l:Addr}{xs:Array Value}(t:h.IsTuple l xs)(e:Heap.ExtBut i h h')(n:l≠i):h'.IsTuple l xs:=by
  obtain⟨o,ho,r⟩:=t
  exact⟨o,e _ _ n ho,r⟩
section
variable {prog:Program} {w:World} {A:Around} {E:Value→Shared→Prop} {s:Shared} {z TI TO i1 i2 l1 l2:Addr} {k:Nat} {xs ys:Array Value} {a b:Value}
theorem Gn {x y:Value}{Q:Value→Shared→Prop}(Z:ZipApart z TI TO i1 i2 l1 l2)(gz:IsZip s.heap z TI TO .none)(gI:IsPair s.heap TI (.ref i1) (.ref i2))(gO:IsPair s.heap TO a b)
    (t1:s.heap.IsTupleIter i1 l1 k) (t2:s.heap.IsTupleIter i2 l2 k) (u1:s.heap.IsTuple l1 xs) (u2:s.heap.IsTuple l2 ys) (ex:xs[k]? = some x) (ey:ys[k]? = some y)
    (q:∀ h',IsZip h' z TI TO (rawInt s.heap.objs.size)→IsPair h' TO x y→h'.IsTupleIter i1 l1 (k + 1)→h'.IsTupleIter i2 l2 (k + 1)→IsPair h' s.heap.objs.size x y→h'.objs.size=s.heap.objs.size + 1 →
      (∀ c o,c≠z→c≠TO→c≠i1→c≠i2→s.heap.get? c=some o→h'.get? c=some o)→Q (.ref s.heap.objs.size) { s with heap:=h' }) :
    wpAny (model prog w) A (Builtin.«zip.__next__» ⟨[.ref z],[]⟩) (fun fin s'=>∃ v,fin=.done (.ret v)∧Q v s') E s:=by
  show wpAny _ _ (field (.ref z) 2 >>= fun _=>_) _ _ _
  refine wpAny_bind (wpAny_field gz rfl (x:=.bool false) rfl ?_)
  show wpAny _ _ (field (.ref z) 3 >>= fun _=>_) _ _ _
  refine wpAny_bind (wpAny_field gz rfl (x:=.ref TI) rfl (wpAny_bind (wpAny_seqItems gI rfl ?_)))
  show wpAny _ _ (Builtin.SmallTypes.ownedTupleIsFree (.ref z) >>= fun _=>_) _ _ _
  unfold Builtin.SmallTypes.ownedTupleIsFree
  refine wpAny_bind (wpAny_bind (wpAny_field gz rfl (x:=.none) rfl (wpAny_pure ?_)))
  simp only [if_true]
  refine wpAny_bind (wpAny_rule (wpAny_bind (wpAny_field gz rfl (x:=.ref TO) rfl (wpAny_bind (wpAny_setField_rec gz (by simp) fun g1 gz1 b1=>wpAny_bind ?_)))))
  replace gz1:IsZip g1 z TI TO .ellipsis:=gz1
  simp only [List.zipIdx_cons,List.zipIdx_nil,List.forIn_cons,List.forIn_nil]
  refine wpAny_bind (wpAny_bind (wpAny_onRaise ?_))
  show wpAny _ _ (Builtin.SmallTypes.nextOf (.ref i1) >>= fun _=>_) _ _ _
  refine wpAny_bind (eg (t1.extBut b1.extBut Z.i1z) (ie u1 b1.extBut Z.l1z) ex fun g2 t12 b2=>wpAny_pure ?_)
  have gO2:IsPair g2 TO a b:=b2.extBut _ _ Z.TOi1 (b1.extBut _ _ Z.TOz gO)
  refine wpAny_bind (wpAny_seqItems gO2 rfl (wpAny_bind (wpAny_updateSeq_pair gO2 fun g3 gO3 b3=>wpAny_bind (wpAny_letGo (wpAny_pure ?_)))))
  replace gO3:IsPair g3 TO x b:=gO3
  refine wpAny_bind (wpAny_bind (wpAny_onRaise ?_))
  show wpAny _ _ (Builtin.SmallTypes.nextOf (.ref i2) >>= fun _=>_) _ _ _
  refine wpAny_bind (eg (((t2.extBut b1.extBut Z.i2z).extBut b2.extBut Z.i12.symm).extBut b3.extBut Z.TOi2.symm) (ie (ie (ie u2 b1.extBut Z.l2z) b2.extBut Z.l2i1) b3.extBut Z.l2TO) ey fun g4 t24 b4=>wpAny_pure ?_)
  have gO4:IsPair g4 TO x b:=b4.extBut _ _ Z.TOi2 gO3
  refine wpAny_bind (wpAny_seqItems gO4 rfl (wpAny_bind (wpAny_updateSeq_pair gO4 fun g5 gO5 b5=>wpAny_bind (wpAny_letGo (wpAny_pure (wpAny_pure ?_))))))
  replace gO5:IsPair g5 TO x y:=gO5
  refine wpAny_bind (wpAny_seqItems gO5 rfl (wpAny_bind (wpAny_newTuple ?_)))
  have sz:g5.objs.size=s.heap.objs.size:=by rw [b5.1,b4.1,b3.1,b2.1,b1.1]
  have gz5:IsZip g5 z TI TO .ellipsis:=b5.extBut _ _ Z.TOz.symm (b4.extBut _ _ Z.i2z.symm (b3.extBut _ _ Z.TOz.symm (b2.extBut _ _ Z.i1z.symm gz1)))
  have kp:∀ c o,c≠z→c≠TO→c≠i1→c≠i2→s.heap.get? c=some o→g5.get? c=some o:=fun c o n1 n2 n3 n4 e=>b5.extBut _ _ n2 (b4.extBut _ _ n4 (b3.extBut _ _ n2 (b2.extBut _ _ n3 (b1.extBut _ _ n1 e))))
  have t15:g5.IsTupleIter i1 l1 (k + 1):=((t12.extBut b3.extBut Z.TOi1.symm).extBut b4.extBut Z.i12).extBut b5.extBut Z.TOi1.symm
  have t25:g5.IsTupleIter i2 l2 (k + 1):=t24.extBut b5.extBut Z.TOi2.symm
  have zl:z < g5.objs.size:=Heap.lt_size gz5
  show wpAny _ _ (Builtin.SmallTypes.ownedTupleHandOut (.ref z) (.ref g5.objs.size) >>= fun _=>_) _ _ _
  unfold Builtin.SmallTypes.ownedTupleHandOut
  have gz6:IsZip (g5.push { cls:=.type "tuple",data:=.seq #[x,y] }) z TI TO .ellipsis:=Heap.get?_push_of_some _ gz5
  refine wpAny_bind (wpAny_bind (wpAny_setField_rec gz6 (by simp) fun g7 gz7 b7 => ?_))
  replace gz7:IsZip g7 z TI TO (rawInt g5.objs.size):=gz7
  refine wpAny_setField_rec gz7 (by simp) fun g8 gz8 b8 => ?_
  replace gz8:IsZip g8 z TI TO (rawInt g5.objs.size):=gz8
  have up:∀ c o,c≠z→g5.get? c=some o→g8.get? c=some o:=fun c o n1 e=>b8.extBut _ _ n1 (b7.extBut _ _ n1 (Heap.get?_push_of_some _ e))
  have gT:IsPair g8 g5.objs.size x y:=b8.extBut _ _ (Nat.ne_of_gt zl) (b7.extBut _ _ (Nat.ne_of_gt zl) (Heap.get?_push_size _ rfl))
  have s8:g8.objs.size=g5.objs.size + 1:=by rw [b8.1,b7.1,Heap.size_push]
  rw [sz] at gz8 gT s8
  refine wpAny_pure ⟨_,rfl,?_⟩
  show Q (.ref g5.objs.size) _
  rw [sz]
  exact q g8 gz8 (up _ _ Z.TOz gO5) (let ⟨o,e,r⟩:=t15;⟨o,up _ o Z.i1z e,r⟩) (let ⟨o,e,r⟩:=t25;⟨o,up _ o Z.i2z e,r⟩) gT s8 fun c o n1 n2 n3 n4 e=>up c o n1 (kp c o n1 n2 n3 n4 e)
theorem Jr {Q:Fin→Shared→Prop}(hh:A.handled=none)(Z:ZipApart z TI TO i1 i2 l1 l2)(gz:IsZip s.heap z TI TO .none)(gI:IsPair s.heap TI (.ref i1) (.ref i2))(gO:IsPair s.heap TO a b)
    (t1:s.heap.IsTupleIter i1 l1 k) (t2:s.heap.IsTupleIter i2 l2 k) (u1:s.heap.IsTuple l1 xs) (u2:s.heap.IsTuple l2 ys) (nd:xs[k]? = none∨ys[k]? = none)
    (q:∀ h' e,(∀ c o,c≠z→c≠TO→c≠i1→c≠i2→s.heap.get? c=some o→h'.get? c=some o)→(∃ o,h'.get? e=some o∧o.cls=.type "StopIteration")→E (.ref e) { s with heap:=h' }) :
    wpAny (model prog w) A (Builtin.«zip.__next__» ⟨[.ref z],[]⟩) Q E s:=by
  show wpAny _ _ (field (.ref z) 2 >>= fun _=>_) _ _ _
  refine wpAny_bind (wpAny_field gz rfl (x:=.bool false) rfl ?_)
  show wpAny _ _ (field (.ref z) 3 >>= fun _=>_) _ _ _
  refine wpAny_bind (wpAny_field gz rfl (x:=.ref TI) rfl (wpAny_bind (wpAny_seqItems gI rfl ?_)))
  show wpAny _ _ (Builtin.SmallTypes.ownedTupleIsFree (.ref z) >>= fun _=>_) _ _ _
  unfold Builtin.SmallTypes.ownedTupleIsFree
  refine wpAny_bind (wpAny_bind (wpAny_field gz rfl (x:=.none) rfl (wpAny_pure ?_)))
  simp only [if_true]
  refine wpAny_bind (wpAny_rule (wpAny_bind (wpAny_field gz rfl (x:=.ref TO) rfl (wpAny_bind (wpAny_setField_rec gz (by simp) fun g1 gz1 b1=>wpAny_bind ?_)))))
  replace gz1:IsZip g1 z TI TO .ellipsis:=gz1
  simp only [List.zipIdx_cons,List.zipIdx_nil,List.forIn_cons,List.forIn_nil]
  refine wpAny_bind (wpAny_bind (wpAny_onRaise ?_))
  show wpAny _ _ (Builtin.SmallTypes.nextOf (.ref i1) >>= fun _=>_) _ _ _
  cases ex:xs[k]? with
  | none =>
    refine wpAny_bind (gh hh (t1.extBut b1.extBut Z.i1z) (ie u1 b1.extBut Z.l1z) ex fun g2 e b2 he => ?_)
    obtain⟨oe,ho,hc⟩:=he
    have gz2:IsZip g2 z TI TO .ellipsis:=b2 _ _ Z.i1z.symm gz1
    have ne:e≠z:=fun v=>by subst v;rw [gz2] at ho;cases ho;simp at hc
    exact wpAny_setField_rec gz2 (by simp) fun g3 _ b3=>q g3 e (fun c o n1 _ n3 _ v=>b3.extBut _ _ n1 (b2 _ _ n3 (b1.extBut _ _ n1 v))) ⟨oe,b3.extBut _ _ ne ho,hc⟩
  | some x =>
    have ey:ys[k]? = none:=nd.resolve_left (by rw [ex];exact Option.some_ne_none _)
    refine wpAny_bind (eg (t1.extBut b1.extBut Z.i1z) (ie u1 b1.extBut Z.l1z) ex fun g2 t12 b2=>wpAny_pure ?_)
    have gO2:IsPair g2 TO a b:=b2.extBut _ _ Z.TOi1 (b1.extBut _ _ Z.TOz gO)
    refine wpAny_bind (wpAny_seqItems gO2 rfl (wpAny_bind (wpAny_updateSeq_pair gO2 fun g3 gO3 b3=>wpAny_bind (wpAny_letGo (wpAny_pure ?_)))))
    refine wpAny_bind (wpAny_bind (wpAny_onRaise ?_))
    show wpAny _ _ (Builtin.SmallTypes.nextOf (.ref i2) >>= fun _=>_) _ _ _
    refine wpAny_bind (gh hh (((t2.extBut b1.extBut Z.i2z).extBut b2.extBut Z.i12.symm).extBut b3.extBut Z.TOi2.symm) (ie (ie (ie u2 b1.extBut Z.l2z) b2.extBut Z.l2i1) b3.extBut Z.l2TO) ey fun g4 e b4 he => ?_)
    obtain⟨oe,ho,hc⟩:=he
    have gz4:IsZip g4 z TI TO .ellipsis:=b4 _ _ Z.i2z.symm (b3.extBut _ _ Z.TOz.symm (b2.extBut _ _ Z.i1z.symm gz1))
    have ne:e≠z:=fun v=>by subst v;rw [gz4] at ho;cases ho;simp at hc
    exact wpAny_setField_rec gz4 (by simp) fun g5 _ b5=>q g5 e (fun c o n1 n2 n3 n4 v=>b5.extBut _ _ n1 (b4 _ _ n4 (b3.extBut _ _ n2 (b2.extBut _ _ n3 (b1.extBut _ _ n1 v))))) ⟨oe,b5.extBut _ _ ne ho,hc⟩
theorem yo {x y:Value}{Q:Option Value→Shared→Prop}(Z:ZipApart z TI TO i1 i2 l1 l2)(gz:IsZip s.heap z TI TO .none)(gI:IsPair s.heap TI (.ref i1) (.ref i2))(gO:IsPair s.heap TO a b)
    (t1:s.heap.IsTupleIter i1 l1 k) (t2:s.heap.IsTupleIter i2 l2 k) (u1:s.heap.IsTuple l1 xs) (u2:s.heap.IsTuple l2 ys) (ex:xs[k]? = some x) (ey:ys[k]? = some y)
    (q:∀ h',IsZip h' z TI TO (rawInt s.heap.objs.size)→IsPair h' TO x y→h'.IsTupleIter i1 l1 (k + 1)→h'.IsTupleIter i2 l2 (k + 1)→IsPair h' s.heap.objs.size x y→h'.objs.size=s.heap.objs.size + 1 →
      (∀ c o,c≠z→c≠TO→c≠i1→c≠i2→s.heap.get? c=some o→h'.get? c=some o)→Q (some (.ref s.heap.objs.size)) { s with heap:=h' }) :
    wpAny (model prog w) A (pyNext (.ref z)) Q E s:=by
  have ty:s.TypeIs (.ref z) "zip" := ⟨_,gz,rfl⟩
  unfold pyNext
  refine wpAny_bind (wpAny_attempt (wpAny_callSpecial?_slot (name:=Str.ofString "__next__") ty F.slot_zip_next (wpAny_call_entry F.slot_zip_next ty F.entry_zip_next ?_ (F.args_zip_next_1 _))))
  exact Gn Z gz gI gO t1 t2 u1 u2 ex ey fun h' a1 a2 a3 a4 a5 a6 a7=>wpAny_pure (q h' a1 a2 a3 a4 a5 a6 a7)
theorem AR {Q:Option Value→Shared→Prop}(hh:A.handled=none)(Z:ZipApart z TI TO i1 i2 l1 l2)(gz:IsZip s.heap z TI TO .none)(gI:IsPair s.heap TI (.ref i1) (.ref i2))(gO:IsPair s.heap TO a b)
    (t1:s.heap.IsTupleIter i1 l1 k) (t2:s.heap.IsTupleIter i2 l2 k) (u1:s.heap.IsTuple l1 xs) (u2:s.heap.IsTuple l2 ys) (nd:xs[k]? = none∨ys[k]? = none)
    (q:∀ h',(∀ c o,c≠z→c≠TO→c≠i1→c≠i2→s.heap.get? c=some o→h'.get? c=some o)→Q none { s with heap:=h' }):wpAny (model prog w) A (pyNext (.ref z)) Q E s:=by
  have ty:s.TypeIs (.ref z) "zip" := ⟨_,gz,rfl⟩
  unfold pyNext
  refine wpAny_bind (wpAny_attempt (wpAny_callSpecial?_slot (name:=Str.ofString "__next__") ty F.slot_zip_next (wpAny_call_entry F.slot_zip_next ty F.entry_zip_next ?_ (F.args_zip_next_1 _))))
  refine Jr hh Z gz gI gO t1 t2 u1 u2 nd fun h' e kk he => ?_
  obtain⟨o,ho,hc⟩:=he
  exact wpAny_bind (wpAny_isInstance (T := "StopIteration") (b:=true) ⟨o,ho,hc⟩ isSubtype_stop (wpAny_pure (q _ kk)))
end
def zt1 (h:Heap) (l1:Addr):Heap:=h.push { cls:=.type "tuple_iterator",data:=.fields #[.ref l1,.int 0 0] }
def zt2 (h:Heap) (l1 l2:Addr):Heap:=(zt1 h l1).push { cls:=.type "tuple_iterator",data:=.fields #[.ref l2,.int 0 0] }
def zt3 (h:Heap) (l1 l2:Addr):Heap:=(zt2 h l1 l2).push { cls:=.type "tuple",data:=.seq #[.ref h.objs.size,.ref (zt1 h l1).objs.size] }
def zt4 (h:Heap) (l1 l2:Addr):Heap:=(zt3 h l1 l2).push { cls:=.type "tuple",data:=.seq #[.none,.none] }
def zt5 (h:Heap) (l1 l2:Addr):Heap:=(zt4 h l1 l2).push { cls:=.type "zip",data:=.fields #[.none,.bool false,.bool false,.ref (zt2 h l1 l2).objs.size,.ref (zt3 h l1 l2).objs.size] }
theorem C8 (l1 l2:Addr)(xs ys:Array Value) :
    Meets (Builtin.«zip.__new__» ⟨[.type "zip",.ref l1,.ref l2],[]⟩) (fun _ R s=>s.heap.IsTuple l1 xs∧s.heap.IsTuple l2 ys∧R (.ok (.ret (.ref (zt4 s.heap l1 l2).objs.size))) { s with heap:=zt5 s.heap l1 l2 }) :=
  .of_wp fun prog w A R s h=>by
    obtain⟨hp,g,d,tk,os⟩:=s;obtain⟨u1,u2,h⟩:=h
    have hsub:=sub_zip
    have T1:Heap.IsTuple (Shared.heap ⟨hp,g,d,tk,os⟩) l1 xs:=u1
    have T2:Heap.IsTuple (Shared.heap ⟨hp.push { cls:=.type "tuple_iterator",data:=.fields #[.ref l1,.int 0 0] },g,d,tk,os⟩) l2 ys:=by
      obtain⟨o,ho,r⟩:=u2
      exact⟨o,Heap.get?_push_of_some _ ho,r⟩
    wp_walk using wpAny_pyIter_tuple T1,wpAny_pyIter_tuple T2
    exact⟨_,rfl,h⟩
section
variable {prog:Program} {w:World} {A:Around} {E:Value→Shared→Prop} {s:Shared}
theorem Go {l1 l2:Addr}{xs ys:Array Value}{Q:Value→Shared→Prop}(u1:s.heap.IsTuple l1 xs)(u2:s.heap.IsTuple l2 ys)
    (q:∀ h',IsZip h' (s.heap.objs.size + 4) (s.heap.objs.size + 2) (s.heap.objs.size + 3) .none→IsPair h' (s.heap.objs.size + 2) (.ref s.heap.objs.size) (.ref (s.heap.objs.size + 1)) →
      IsPair h' (s.heap.objs.size + 3) .none .none→h'.IsTupleIter s.heap.objs.size l1 0→h'.IsTupleIter (s.heap.objs.size + 1) l2 0→h'.objs.size=s.heap.objs.size + 5 →
      (∀ c o,s.heap.get? c=some o→h'.get? c=some o)→Q (.ref (s.heap.objs.size + 4)) { s with heap:=h' }) :
    wpAny (model prog w) A (call (.type "zip") [.ref l1,.ref l2]) Q E s:=by
  refine callType_new F.called_zip (by decide) (F.typeCall_zip_2 _ _) (F.newCall_zip_2 _ _) (fun obj=>F.args_object_init_3 obj _ _) F.entry_zip_new (C8 l1 l2 xs ys) ⟨u1,u2,?_⟩
  have z1:(zt1 s.heap l1).objs.size=s.heap.objs.size + 1:=Heap.size_push ..
  have z2:(zt2 s.heap l1 l2).objs.size=s.heap.objs.size + 2:=(Heap.size_push ..).trans (by rw [z1])
  have z3:(zt3 s.heap l1 l2).objs.size=s.heap.objs.size + 3:=(Heap.size_push ..).trans (by rw [z2])
  have z4:(zt4 s.heap l1 l2).objs.size=s.heap.objs.size + 4:=(Heap.size_push ..).trans (by rw [z3])
  have z5:(zt5 s.heap l1 l2).objs.size=s.heap.objs.size + 5:=(Heap.size_push ..).trans (by rw [z4])
  have p1:∀ {c o},(zt1 s.heap l1).get? c=some o→(zt5 s.heap l1 l2).get? c=some o:=fun e=>Heap.get?_push_of_some _ (Heap.get?_push_of_some _ (Heap.get?_push_of_some _ (Heap.get?_push_of_some _ e)))
  have p2:∀ {c o},(zt2 s.heap l1 l2).get? c=some o→(zt5 s.heap l1 l2).get? c=some o:=fun e=>Heap.get?_push_of_some _ (Heap.get?_push_of_some _ (Heap.get?_push_of_some _ e))
  have p3:∀ {c o},(zt3 s.heap l1 l2).get? c=some o→(zt5 s.heap l1 l2).get? c=some o:=fun e=>Heap.get?_push_of_some _ (Heap.get?_push_of_some _ e)
  have g1:(zt5 s.heap l1 l2).get? s.heap.objs.size=some { cls:=.type "tuple_iterator",data:=.fields #[.ref l1,.int 0 0] }:=p1 (Heap.get?_push_size _ rfl)
  have g2:(zt5 s.heap l1 l2).get? (s.heap.objs.size + 1)=some { cls:=.type "tuple_iterator",data:=.fields #[.ref l2,.int 0 0] }:=by rw [← z1];exact p2 (Heap.get?_push_size _ rfl)
  have g3:(zt5 s.heap l1 l2).get? (s.heap.objs.size + 2)=some { cls:=.type "tuple",data:=.seq #[.ref s.heap.objs.size,.ref (s.heap.objs.size + 1)] }:=by rw [← z2,← z1];exact p3 (Heap.get?_push_size _ rfl)
  have g4:(zt5 s.heap l1 l2).get? (s.heap.objs.size + 3)=some { cls:=.type "tuple",data:=.seq #[.none,.none] }:=by rw [← z3];exact Heap.get?_push_of_some _ (Heap.get?_push_size _ rfl)
  have g5:(zt5 s.heap l1 l2).get? (s.heap.objs.size + 4)=some { cls:=.type "zip",data:=.fields #[.none,.bool false,.bool false,.ref (s.heap.objs.size + 2),.ref (s.heap.objs.size + 3)] }:=by rw [← z4,← z2,← z3];exact Heap.get?_push_size _ rfl
  show _∧_
  rw [z4]
  exact⟨⟨_,g5,rfl⟩,q _ g5 g3 g4 ⟨_,g1,rfl,rfl⟩ ⟨_,g2,rfl,rfl⟩ z5 fun c o e=>p1 (Heap.get?_push_of_some _ e)⟩
end
theorem L4 {X:Cx}{pins:List (Addr × Obj)}{σ:St}{H:Hp}{s:Shared}{h':Heap}{t':Nat}{ch:List Addr}(I:L2.Inv X pins σ H s)(k:∀ b o,b∉ch→s.heap.get? b=some o→h'.get? b=some o)(hf:∀ b∈ch,sr X pins H b) :
    L2.Inv X pins σ H { s with heap:=h',toks:=t' }:=by
  have nit:∀ b u,H b=some u→b∉ch:=fun b u e z=>by rw [(hf b z).1] at e;cases e
  refine I.step (g':=s.gens) (d':=s.drawn) (ch:=ch) (fun b hb=>⟨(hf b hb).2.2.2.1,(hf b hb).2.1,(hf b hb).2.2.2.2.1,(hf b hb).2.2.2.2.2⟩) (fun b o _ _ hc e _=>k b o hc e) (fun b o _ _ hc e _=>⟨o.slots,k b o hc e⟩) (fun _ _ _ _ n=>n)
    (fun b o hc e=>⟨o,k b o hc e⟩) (fun _ _ e=>e) (fun _ _ _ e=>e) (fun b ps e=>⟨#[],by rw [e];simp⟩) (fun m hm => ?_) (fun b u e => ?_) I.bare
  · obtain⟨o,es,ep,ho,r⟩:=hm
    exact⟨o,es,ep,k _ o (fun z=>(hf _ z).2.1 rfl) ho,r⟩
  · refine (I.hok b u e).stay (fun c v hc q=>k c v ?_ q) (fun _ q=>q) fun _ _ q=>q
    rcases hc with z|z
    · rw [z];exact nit b u e
    · exact nit c _ z
def Itz (K:PySem.W.Frag) (a b:Addr):It :=
  ⟨fun i H=>∃ xs ys x y,SqT K H a xs∧SqT K H b ys∧xs[i]? = some x∧ys[i]? = some y,fun i H x H'=>∃ q v u,x=.ref q∧H q=none∧H'=upd H q (.tup [v,u])∧(∀ xs,SqT K H a xs→xs[i]? = some v) ∧ ∀ ys,SqT K H b ys→ys[i]? = some u,fun i H=>∃ xs ys,SqT K H a xs∧SqT K H b ys∧min xs.length ys.length=i⟩
theorem Js {P:Program}{w:World}{K:PySem.W.Frag}{elts:List Expr}{k:Nat}{pos:Pos}(z TI TO i1 i2 a b:Addr)(Z:ZipApart z TI TO i1 i2 a b) :
    At P w K (.Tuple elts k pos) (Itz K a b) [z,TI,TO,i1,i2] z (fun i h=>IsZip h z TI TO .none∧IsPair h TI (.ref i1) (.ref i2)∧(∃ x y,IsPair h TO x y)∧h.IsTupleIter i1 a i∧h.IsTupleIter i2 b i) where
  mem:=by simp
  obj:=fun i h st c hc=>by
    obtain⟨gz,gI,⟨x,y,gO⟩,⟨o1,q1,c1,d1⟩,⟨o2,q2,c2,d2⟩⟩:=st
    have hc':c=z∨c=TI∨c=TO∨c=i1∨c=i2:=by simpa using hc
    rcases hc' with rfl|rfl|rfl|rfl|rfl
    · exact⟨_,gz,fun v e=>by
        have e':Data.fields _=Data.cell v:=e
        cases e'⟩
    · exact⟨_,gI,fun v e=>by
        have e':Data.seq _ _=Data.cell v:=e
        cases e'⟩
    · exact⟨_,gO,fun v e=>by
        have e':Data.seq _ _=Data.cell v:=e
        cases e'⟩
    · exact⟨o1,q1,fun v e=>by rw [d1] at e;cases e⟩
    · exact⟨o2,q2,fun v e=>by rw [d2] at e;cases e⟩
  keep:=fun i h h' st kk=>by
    obtain⟨gz,gI,⟨x,y,gO⟩,⟨o1,q1,r1⟩,⟨o2,q2,r2⟩⟩:=st
    exact⟨kk z (by simp) _ gz,kk TI (by simp) _ gI,⟨x,y,kk TO (by simp) _ gO⟩,⟨o1,kk i1 (by simp) _ q1,r1⟩,⟨o2,kk i2 (by simp) _ q2,r2⟩⟩
  item:=by
    intro X hP hw hK hc i pins s σ H E I hf st hg
    subst hP hw hK
    obtain⟨gz,gI,⟨x0,y0,gO⟩,t1,t2⟩:=st
    obtain⟨xs,ys,x,y,hq1,hq2,hx,hy⟩:=hg
    obtain⟨is1,rv1,p1,hz1⟩:=I.tuple hq1
    obtain⟨is2,rv2,p2,hz2⟩:=I.tuple hq2
    obtain⟨u,hu,ru⟩:=rv1.get hx
    obtain⟨v,hv,rv⟩:=rv2.get hy
    have T1:s.heap.IsTuple a is1.toArray:=p1
    have T2:s.heap.IsTuple b is2.toArray:=p2
    have ld:=fun c (h:c∈[z,TI,TO,i1,i2])=>hf c h
    refine yo Z gz gI gO t1 t2 T1 T2 (by simpa using hu) (by simpa using hv) fun h' az aO a1 a2 aN asz kk=>⟨_,rfl,wpAny_letOwnedTupleGo_zip az fun h2 az2 b2 => ?_⟩
    have zl:z < s.heap.objs.size:=Heap.lt_size gz
    have Il:TI < s.heap.objs.size:=Heap.lt_size gI
    have Ol:TO < s.heap.objs.size:=Heap.lt_size gO
    have l1:i1 < s.heap.objs.size:=by obtain⟨_,e,_⟩:=t1;exact Heap.lt_size e
    have l2:i2 < s.heap.objs.size:=by obtain⟨_,e,_⟩:=t2;exact Heap.lt_size e
    have hN:H s.heap.objs.size=none:=I.hok.fresh (Nat.le_refl _)
    have keep:∀ c o,c∉[z,TO,i1,i2]→s.heap.get? c=some o→h2.get? c=some o:=fun c o hc e=>by
      have hc':c≠z∧c≠TO∧c≠i1∧c≠i2:=by simpa using hc
      exact (b2.2 c hc'.1).trans (kk c o hc'.1 hc'.2.1 hc'.2.2.1 hc'.2.2.2 e)
    have nw:IsPair h2 s.heap.objs.size u v:=(b2.2 _ (Nat.ne_of_gt zl)).trans aN
    have sub:∀ c∈[z,TO,i1,i2],c∈[z,TI,TO,i1,i2]:=fun c hc=>by simp at hc ⊢;rcases hc with e|e|e|e<;>simp [e]
    have hTI2:IsPair h2 TI (.ref i1) (.ref i2):=keep TI _ (by simp;exact⟨Z.TIz,Z.TITO,Z.TIi1,Z.TIi2⟩) gI
    refine⟨.ref s.heap.objs.size,upd H s.heap.objs.size (.tup [x,y]),?_,rfl,⟨_,x,y,rfl,hN,rfl,fun zs hzs=>by rw [I.tuple_inj hzs hq1];exact hx,fun zs hzs=>by rw [I.tuple_inj hzs hq2];exact hy⟩,
      ⟨az2,hTI2,⟨_,_,(b2.2 _ Z.TOz).trans aO⟩,(let ⟨o,e,r⟩:=a1;⟨o,(b2.2 _ Z.i1z).trans e,r⟩),(let ⟨o,e,r⟩:=a2;⟨o,(b2.2 _ Z.i2z).trans e,r⟩)⟩,fun c hc => ?_⟩
    · suffices I2:L2.Inv X pins σ (upd H s.heap.objs.size (.tup [x,y])) { s with heap:=h2,gens:=s.gens,drawn:=s.drawn,toks:=s.toks } from I2
      have nch:∀ c u',H c=some u'→c∉[z,TO,i1,i2]:=fun c u' e q=>by rw [(hf c (sub c q)).1] at e;cases e
      refine I.step (g':=s.gens) (d':=s.drawn) (t':=s.toks) (ch:=[z,TO,i1,i2]) (fun c hc => ?_) (fun c o _ _ hc q _=>keep c o hc q) (fun c o _ _ hc q _=>⟨o.slots,keep c o hc q⟩) (fun c o _ q n => ?_) (fun c o hc q=>⟨o,keep c o hc q⟩)
        (fun c zs q => ?_) (fun c o u' q => ?_) (fun c ps q=>⟨#[],?_⟩) (fun m hm => ?_) (fun c u' q => ?_) I.bare
      · have:=hf c (sub c hc)
        exact⟨this.2.2.2.1,this.2.1,this.2.2.2.2.1,this.2.2.2.2.2⟩
      · rw [aB (Nat.ne_of_lt (Heap.lt_size q))];exact n
      · rw [aB (aU q hN)];exact q
      · rw [aB (aU q hN)];exact q
      · rw [aB (aU q hN),q];simp
      · obtain⟨o,es,ep,ho,r⟩:=hm
        exact⟨o,es,ep,keep _ o (fun q=>(hf _ (sub _ q)).2.1 rfl) ho,r⟩
      · by_cases hb:c=s.heap.objs.size
        · subst hb
          rw [bf] at q
          cases q
          exact⟨by show 2≤sizeLine;rw [sizeLine_eq];decide,[u,v],.cons ru (.cons rv .nil),_,nw,rfl,_,rfl⟩
        · rw [aB hb] at q
          refine (I.hok c u' q).stay (fun d v' hd' e => ?_) (fun d e=>by rw [aB (aU e hN)];exact e) fun d zs e=>by rw [aB (aU e hN)];exact e
          rcases hd' with e'|e'
          · subst e';exact keep d v' (nch d _ q) e
          · exact keep d v' (nch d _ e') e
    · have hc':c=z∨c=TI∨c=TO∨c=i1∨c=i2:=by simpa using hc
      have:c≠s.heap.objs.size:=by rcases hc' with e|e|e|e|e<;>rw [e]<;>exact Nat.ne_of_lt (by assumption)
      rw [aB this]
      exact (hf c hc).1
  done:=by
    intro X hP hw hK hc i pins s σ H E I hf st hg
    subst hP hw hK
    obtain⟨gz,gI,⟨x0,y0,gO⟩,t1,t2⟩:=st
    obtain⟨xs,ys,hq1,hq2,hi⟩:=hg
    obtain⟨is1,rv1,p1,hz1⟩:=I.tuple hq1
    obtain⟨is2,rv2,p2,hz2⟩:=I.tuple hq2
    have T1:s.heap.IsTuple a is1.toArray:=p1
    have T2:s.heap.IsTuple b is2.toArray:=p2
    have e1:=rv1.length
    have e2:=rv2.length
    have nd:is1.toArray[i]? = none∨is2.toArray[i]? = none:=by
      rcases Nat.le_total xs.length ys.length with h|h
      · exact .inl (Array.getElem?_eq_none (by simp;omega))
      · exact .inr (Array.getElem?_eq_none (by simp;omega))
    have sub:∀ c∈[z,TO,i1,i2],c∈[z,TI,TO,i1,i2]:=fun c hc=>by simp at hc ⊢;rcases hc with e|e|e|e<;>simp [e]
    refine AR (I.ok.hd hc) Z gz gI gO t1 t2 T1 T2 nd fun h' kk=>⟨rfl,L4 (t':=s.toks) (ch:=[z,TO,i1,i2]) I (fun c o hc e => ?_) fun c hc=>hf c (sub c hc)⟩
    have hc':c≠z∧c≠TO∧c≠i1∧c≠i2:=by simpa using hc
    exact kk c o hc'.1 hc'.2.1 hc'.2.2.1 hc'.2.2.2 e
  self:=fun _ _ _ _ _ st h=>wpAny_pyIter_zip st.1 h
section
variable {X:Cx} {pos p tp:Pos} {elts:List Expr} {tk:Nat}
def iZp (K:PySem.W.Frag) (ta:TA):TI:=fun σ H R=>ta σ H fun vs H1=>∃ a b xs ys,vs=[.ref a,.ref b]∧SqT K H1 a xs∧SqT K H1 b ys∧(xs.length≤sizeLine→ys.length≤sizeLine→R (Itz K a b) H1)
theorem OJ {a b:Expr} {ta:TA} (hg:Gl X "zip") (hm:X.mg "zip" = none) (ha:PA X [a,b] ta) (hs:starEach [a,b] X.env=[(false,eval a X.env),(false,eval b X.env)]:=by rfl) (hs2:starEach [b] X.env=[(false,eval b X.env)]:=by rfl):PI X (.Tuple elts tk tp) (.Call (.Name "zip" p) [a,b] [] pos) (iZp X.K ta):=by
  intro pins s σ H R I h
  refine Call_ (kS I hg hm PyProof.Rows.boot_zip (PyProof.Rows.callWith_type1 (thn (ha pos pins s σ H _ I h) fun us s1 ⟨vs,H1,I1,r1,q1⟩ => ?_) (by rw [hs,hs2]) (by rw [hs2];rfl)))
  obtain⟨a1,b1,xs,ys,e,hq1,hq2,q⟩:=q1
  subst e
  cases r1 with
  | cons r rr =>
    cases rr with
    | cons r' rr =>
      cases rr
      cases r
      cases r'
      obtain⟨is1,rv1,p1,hz1⟩:=I1.tuple hq1
      obtain⟨is2,rv2,p2,hz2⟩:=I1.tuple hq2
      have T1:s1.heap.IsTuple a1 is1.toArray:=p1
      have T2:s1.heap.IsTuple b1 is2.toArray:=p2
      have la:a1 < s1.heap.objs.size:=by obtain⟨_,e,_⟩:=T1;exact Heap.lt_size e
      have lb:b1 < s1.heap.objs.size:=by obtain⟨_,e,_⟩:=T2;exact Heap.lt_size e
      refine Go T1 T2 fun h' gz gI gO t1 t2 hsz hk => ?_
      refine wpAny_pyIter_zip (s:={ s1 with heap:=h' }) gz ?_
      have I2:Inv X pins σ H1 { s1 with heap:=h' }:=I1.kept (t':=s1.toks) hk
      have Z:ZipApart (s1.heap.objs.size + 4) (s1.heap.objs.size + 2) (s1.heap.objs.size + 3) s1.heap.objs.size (s1.heap.objs.size + 1) a1 b1:=by
        constructor<;>simp only [Addr] at *<;>omega
      refine⟨s1.heap.objs.size + 4,[s1.heap.objs.size + 4,s1.heap.objs.size + 2,s1.heap.objs.size + 3,s1.heap.objs.size,s1.heap.objs.size + 1],_,_,H1,rfl,I2,Js _ _ _ _ _ a1 b1 Z,⟨gz,gI,⟨_,_,gO⟩,t1,t2⟩,fun c hc => ?_,q hz1 hz2⟩
      have hc':s1.heap.objs.size≤c:=by
        have:c=s1.heap.objs.size + 4∨c=s1.heap.objs.size + 2∨c=s1.heap.objs.size + 3∨c=s1.heap.objs.size∨c=s1.heap.objs.size + 1:=by simpa using hc
        rcases this with e|e|e|e|e<;>rw [e]<;>first|exact Nat.le_add_right _ _|exact Nat.le_refl _
      exact I1.fpOk hc' (I1.hok.fresh hc')
theorem Jt {K:PySem.W.Frag}{ρ:List Addr}{H:Hp}{hd:Hd}{q q':Addr}{l l':List D}{vs vs':List V}(r:RH K ρ H hd)(hq:H q=some (.tup vs))(rv:RDs K ρ H l vs)(hz:vs.length≤sizeLine)(hq':H q'=some (.tup vs'))(rv':RDs K ρ H l' vs') :
    oR K ρ H (Itz K q q') ((l.zip l').map fun p=>.tup [p.1,p.2]) none where
  go:=fun ρ' H' hd' i d ex rh _ hi=>by
    have k:=r.kp ex
    obtain⟨hil,hi2⟩:=List.getElem?_eq_some_iff.mp hi
    have hl:i < l.length:=by simp at hil;omega
    have hl':i < l'.length:=by simp at hil;omega
    have hd:d=.tup [l[i],l'[i]]:=by rw [← hi2];simp
    subst hd
    obtain⟨v,hv,rd⟩:=(rv.mono k).get (i:=i) (d:=l[i]) (by simp [hl])
    obtain⟨v',hv',rd'⟩:=(rv'.mono k).get (i:=i) (d:=l'[i]) (by simp [hl'])
    have sq:SqT K H' q vs:=SqT.of (k.tup q vs hq)
    have sq':SqT K H' q' vs':=SqT.of (k.tup q' vs' hq')
    refine⟨⟨vs,vs',v,v',sq,sq',hv,hv'⟩,fun x H2 y => ?_⟩
    obtain⟨q2,v2,v3,rfl,hn,rfl,y,y'⟩:=y
    have e1:=y vs sq
    have e2:=y' vs' sq'
    rw [hv] at e1
    rw [hv'] at e2
    cases e1
    cases e2
    have sm:=cy (o:=HO.tup [v,v']) hn
    refine⟨sm,?_⟩
    simp only [RD]
    exact⟨q2,_,rfl,bf,RDs.cons (rd.mono (Kp.same sm)) (RDs.cons (rd'.mono (Kp.same sm)) RDs.nil)⟩
  stop:=fun ρ' H' hd' ex rh _=>⟨vs,vs',SqT.of ((r.kp ex).tup q vs hq),SqT.of ((r.kp ex).tup q' vs' hq'),by rw [← rv.length,← rv'.length];simp⟩
  sz:=by
    have:=rv.length
    simp;omega
theorem OK {a b:Expr} {f g:EF} (hg:Gl X "zip") (hm:X.mg "zip" = none) (ha:ME X a f) (hb:ME X b g) (hs:starEach [a,b] X.env=[(false,eval a X.env),(false,eval b X.env)]:=by rfl) (hs2:starEach [b] X.env=[(false,eval b X.env)]:=by rfl):MI X (.Tuple elts tk tp) (.Call (.Name "zip" p) [a,b] [] pos) (LZ f g):=by
  refine PI.imp (OJ hg hm (cC ha (cC hb eU hs2) (by rw [hs,hs2])) hs hs2) fun σ H R ⟨ρ,σd,hd,rs,pp⟩=>⟨ρ,σd,hd,rs,?_⟩
  unfold LZ at pp
  cases e:f σd hd with
  | exc x h1=>rw [e] at pp;exact pp
  | bad=>rw [e] at pp;exact pp
  | ok d hd1 =>
    rw [e] at pp
    simp only [aG] at pp
    intro v H1 ρ1 ex1 rs1 rv
    refine⟨ρ1,σd,hd1,rs1,?_⟩
    cases e2:g σd hd1 with
    | exc x h1=>rw [e2] at pp;exact pp
    | bad=>rw [e2] at pp;exact pp
    | ok d2 hd2 =>
      rw [e2] at pp
      simp only [aG] at pp
      intro v2 H2 ρ2 ex2 rs2 rv2
      cases d<;>try exact pp.elim
      cases d2<;>try exact pp.elim
      rename_i l l'
      simp only at pp
      have rv:=RD.mono (rs1.hp.kp ex2) rv
      simp only [rD,RD] at rv rv2
      obtain⟨q,vs,rfl,hq,rvs⟩:=rv
      obtain⟨q',vs',rfl,hq',rvs'⟩:=rv2
      exact⟨q,q',vs,vs',rfl,SqT.of hq,SqT.of hq',fun hz hz'=>pp _ H2 ρ2 (ex1.trans ex2) rs2 (Jt rs2.hp hq rvs hz hq' rvs')⟩
end
end Fm
set_option Elab.async false
set_option linter.all false
set_option maxRecDepth 100000
namespace Fm
open PySem PySem.Spec L2 PySem.W PyProof.Rows
section
variable {X:Cx} {pos p:Pos}
end
section
variable {prog:Program} {w:World} {A:Around} {E:Value→Shared→Prop} {s:Shared}
end
section
variable {X:Cx} {pos p:Pos}
end
end Fm
set_option Elab.async false
set_option linter.all false
set_option maxRecDepth 100000
namespace Fm
open PySem PySem.Spec L2
open AutoSeq1 (wpAny_loadPart')
open PyProof.Rows (Call_)
def ItL (K:PySem.W.Frag) (a:Addr):It :=
  ⟨fun i H=>∃ xs x,SqL K H a xs∧xs[i]? = some x,fun i H x H'=>∃ q v,x=.ref q∧H q=none∧H'=upd H q (.tup [.int (i:Nat),v]) ∧ ∀ xs,SqL K H a xs→xs[i]? = some v,fun i H=>∃ xs,SqL K H a xs∧xs.length=i⟩
theorem C9 {P:Program}{w:World}{K:PySem.W.Frag}{elts:List Expr}{k:Nat}{pos:Pos}(e it a:Addr):At P w K (.Tuple elts k pos) (ItL K a) [e,it] e (fun i h=>(∃ old,IsEnum h e it (i:Nat) old)∧h.IsListIter it a i) where
  mem:=by simp
  obj:=fun i h st b hb=>by
    obtain⟨⟨old,he⟩,o,ho,hc,hd⟩:=st
    rcases List.mem_cons.mp hb with rfl|hb
    · exact⟨_,he,fun v z=>by
        have z':Data.fields _=Data.cell v:=z
        cases z'⟩
    · have:b=it:=by simpa using hb
      subst this
      exact⟨o,ho,fun v z=>by rw [hd] at z;cases z⟩
  keep:=fun i h h' st kk=>by
    obtain⟨⟨old,he⟩,st⟩:=st
    exact⟨⟨old,kk e (by simp) _ he⟩,st.at fun o x=>kk it (by simp) o x⟩
  item:=by
    intro X hP hw hK hc i pins s σ H E I hf st hg
    subst hP hw hK
    obtain⟨⟨old,he⟩,hit⟩:=st
    obtain⟨xs,x,hq,hx⟩:=hg
    obtain⟨its,rv,p,hz⟩:=I.list hq
    have ht:s.heap.IsList a its.toArray:=p.isList
    obtain⟨oi,hoi,hci,hdi⟩:=id hit
    obtain⟨oa,hoa,hca,na,hda⟩:=id ht
    have hei:e≠it:=fun z=>by
      subst z
      have he':s.heap.get? e=_:=he
      rw [hoi] at he';cases he';exact AI hci (by decide)
    have hea:e≠a:=fun z=>by
      subst z
      have he':s.heap.get? e=_:=he
      rw [hoa] at he';cases he';exact AI hca (by decide)
    have hai:a≠it:=fun z=>by
      subst z
      rw [hoi] at hoa;cases hoa;rw [hci] at hca;exact AI hca (by decide)
    obtain⟨e0,e1,e2,e3,e4,e5⟩:=hf e (by simp)
    obtain⟨f0,f1,f2,f3,f4,f5⟩:=hf it (by simp)
    have hlt:i < its.toArray.size:=by
      have:=(List.getElem?_eq_some_iff.mp hx).1
      have hl:=rv.length
      simp;omega
    refine wpAny_pyNext_enum_itemD (Draws.list (prog:=X.prog) (w:=X.w) (A:=X.A.in1) (I.ok.hd hc) it a hai its.toArray) he ⟨hit,ht⟩ hlt hei (by simp;exact⟨hei,hea⟩) fun y h' tk hy heo hst' htup hsz hk => ?_
    refine⟨_,rfl,wpAny_letOwnedTupleGo_enum heo fun h2 he2 hs2 => ?_⟩
    replace hs2:Heap.SameBut e h' h2:=hs2
    obtain⟨u,hu,ru⟩:=rv.get hx
    have hyu:y=u:=by
      have:its.toArray[i]? = some u:=by simpa using hu
      rw [hy] at this;exact Option.some.inj this
    subst hyu
    have elt:e < s.heap.objs.size:=Heap.lt_size he
    have ilt:it < s.heap.objs.size:=Heap.lt_size hoi
    have hN:H s.heap.objs.size=none:=I.hok.fresh (Nat.le_refl _)
    have keep:∀ b o,b≠e→b≠it→s.heap.get? b=some o→h2.get? b=some o:=fun b o b1 b2 q=>(hs2.2 b b1).trans (hk b o b1 b2 q)
    have htup2:h2.get? s.heap.objs.size=some { cls:=.type "tuple",data:=.seq #[.int i tk,y] }:=(hs2.2 _ (Nat.ne_of_gt elt)).trans htup
    have nch:∀ b,b∉([e,it] : List Addr)→b≠e∧b≠it:=fun b hb=>by simpa using hb
    refine⟨.ref s.heap.objs.size,upd H s.heap.objs.size (.tup [.int (i:Nat),x]),?_,rfl,⟨_,x,rfl,hN,rfl,fun ys hys=>by rw [I.list_inj hys hq];exact hx⟩,⟨⟨_,by simpa using he2⟩,hst'.1.extBut hs2.extBut (Ne.symm hei)⟩,fun b hb => ?_⟩
    · suffices I2:L2.Inv X pins σ (upd H s.heap.objs.size (.tup [.int (i:Nat),x])) { s with heap:=h2,gens:=s.gens,drawn:=s.drawn,toks:=tk + 1 } from I2
      refine I.step (g':=s.gens) (d':=s.drawn) (t':=tk + 1) (ch:=[e,it]) (fun b hb => ?_) (fun b o _ _ hb q _=>keep b o (nch b hb).1 (nch b hb).2 q) (fun b o _ _ hb q _=>⟨o.slots,keep b o (nch b hb).1 (nch b hb).2 q⟩) (fun b o _ q n => ?_) (fun b o hb q=>⟨o,keep b o (nch b hb).1 (nch b hb).2 q⟩)
        (fun b ys q => ?_) (fun b o u q => ?_) (fun b ps q=>⟨#[],?_⟩) (fun m hm => ?_) (fun b u q => ?_) I.bare
      · rcases List.mem_cons.mp hb with rfl|hb
        · exact⟨e3,e1,e4,e5⟩
        · have:b=it:=by simpa using hb
          subst this
          exact⟨f3,f1,f4,f5⟩
      · rw [aB (Nat.ne_of_lt (Heap.lt_size q))];exact n
      · rw [aB (aU q hN)];exact q
      · rw [aB (aU q hN)];exact q
      · rw [aB (aU q hN),q];simp
      · obtain⟨o,es,ep,ho,r⟩:=hm
        exact⟨o,es,ep,keep _ o (Ne.symm e1) (Ne.symm f1) ho,r⟩
      · by_cases hb:b=s.heap.objs.size
        · subst hb
          rw [bf] at q
          cases q
          exact⟨by show 2≤sizeLine;rw [sizeLine_eq];decide,[.int i tk,y],.cons ⟨tk,rfl⟩ (.cons ru .nil),_,htup2,rfl,_,rfl⟩
        · rw [aB hb] at q
          have ne1:∀ c v,H c=some v→c≠e:=fun c v z w=>by rw [w,e0] at z;cases z
          have ne2:∀ c v,H c=some v→c≠it:=fun c v z w=>by rw [w,f0] at z;cases z
          refine (I.hok b u q).stay (fun c v hc' z => ?_) (fun c z=>by rw [aB (aU z hN)];exact z) fun c ys z=>by rw [aB (aU z hN)];exact z
          rcases hc' with w|w
          · subst w;exact keep c v (ne1 c _ q) (ne2 c _ q) z
          · exact keep c v (ne1 c _ w) (ne2 c _ w) z
    · have:b≠s.heap.objs.size:=by
        rcases List.mem_cons.mp hb with rfl|hb
        · exact Nat.ne_of_lt elt
        · have:b=it:=by simpa using hb
          subst this
          exact Nat.ne_of_lt ilt
      rw [aB this]
      exact (hf b hb).1
  done:=by
    intro X hP hw hK hc i pins s σ H E I hf st hg
    subst hP hw hK
    obtain⟨⟨old,he⟩,hit⟩:=st
    obtain⟨xs,hq,hx⟩:=hg
    obtain⟨its,rv,p,hz⟩:=I.list hq
    have ht:s.heap.IsList a its.toArray:=p.isList
    obtain⟨oi,hoi,hci,hdi⟩:=id hit
    obtain⟨oa,hoa,hca,na,hda⟩:=id ht
    have hai:a≠it:=fun z=>by
      subst z
      rw [hoi] at hoa;cases hoa;rw [hci] at hca;exact AI hca (by decide)
    obtain⟨f0,f1,f2,f3,f4,f5⟩:=hf it (by simp)
    have hsz:its.toArray.size=i:=by have:=rv.length;simp;omega
    refine wpAny_pyNext_enum_endD (Draws.list (prog:=X.prog) (w:=X.w) (A:=X.A.in1) (I.ok.hd hc) it a hai its.toArray) he ⟨by rw [hsz];exact hit,ht⟩ fun h' hx'=>⟨rfl,I.turned (t':=s.toks) (fun b o hb e=>hx' b o hb e) f0 f1 f3 f4 f5⟩
  self:=fun _ _ _ _ _ st h=>by
    obtain⟨⟨old,he⟩,_⟩:=st
    exact wpAny_pyIter_enum he h
section
variable {X:Cx} {pos p tp:Pos} {elts:List Expr} {tk:Nat}
def Q9 (K:PySem.W.Frag) (ta:TE):TI:=fun σ H R=>ta σ H fun x H1=>∃ a xs,x=.ref a∧SqL K H1 a xs∧(xs.length≤sizeLine→R (ItL K a) H1)
theorem Ju {a:Expr} {ta:TE} (hg:Gl X "enumerate") (hm:X.mg "enumerate" = none) (ha:PE X a ta) (hs:starEach [a] X.env=[(false,eval a X.env)]:=by rfl):PI X (.Tuple elts tk tp) (.Call (.Name "enumerate" p) [a] [] pos) (Q9 X.K ta):=by
  intro pins s σ H R I h
  have hpa:=cC ha eU hs
  refine Call_ (kS I hg hm PyProof.Rows.boot_enumerate (PyProof.Rows.callWith_type1 (thn (hpa pos pins s σ H (fun vs H1=>∃ a xs,vs=[.ref a]∧SqL X.K H1 a xs∧(xs.length≤sizeLine→R (ItL X.K a) H1)) I ?_) fun us s1 ⟨vs,H1,I1,r1,q1⟩ => ?_) hs rfl))
  · show ta σ H fun x H1=>_
    have key:∀ (x:V) (H1:Hp),(∃ a xs,x=.ref a∧SqL X.K H1 a xs∧(xs.length≤sizeLine→R (ItL X.K a) H1))=(∃ a xs,[x] = [.ref a]∧SqL X.K H1 a xs∧(xs.length≤sizeLine→R (ItL X.K a) H1)):=fun x H1=>by simp
    have h':ta σ H fun x H1=>∃ a xs,x=.ref a∧SqL X.K H1 a xs∧(xs.length≤sizeLine→R (ItL X.K a) H1):=h
    simp only [key] at h'
    exact h'
  · obtain⟨a,xs,e,hq,q⟩:=q1
    subst e
    obtain⟨u,rfl,ru⟩:=bj.one r1
    cases (show u=Value.ref a from ru)
    obtain⟨its,rv,pt,hz⟩:=I1.list hq
    refine call_enumerate_list (show s1.heap.IsList a its.toArray from pt.isList) fun h' he hit hsz hk => ?_
    refine wpAny_pyIter_enum (s:={ s1 with heap:=h' }) he ?_
    have I2:Inv X pins σ H1 { s1 with heap:=h' }:=I1.kept (t':=s1.toks) hk
    refine⟨s1.heap.objs.size + 1,[s1.heap.objs.size + 1,s1.heap.objs.size],_,_,H1,rfl,I2,C9 (s1.heap.objs.size + 1) s1.heap.objs.size a,⟨⟨_,by simpa using he⟩,hit⟩,fun b hb => ?_,q hz⟩
    have hb':s1.heap.objs.size≤b:=by
      rcases List.mem_cons.mp hb with e|hb
      · rw [e];exact Nat.le_succ _
      · have:b=s1.heap.objs.size:=by simpa using hb
        rw [this];exact Nat.le_refl _
    exact I1.fpOk hb' (I1.hok.fresh hb')
theorem Da {K:PySem.W.Frag}{ρ:List Addr}{H:Hp}{n:Nat}{q:Addr}{l:List D}(hq : ρ[n]? = some q)(hz:(jA l).length≤sizeLine):AG K ρ H (ItL K q) (jA l) (fun h=>h[n]? = some (.lst l)) where
  go:=fun ρ' H' hd' i d ex rh hh hi=>by
    have hq':=ex.get hq
    obtain⟨vs,hv,rvs⟩:=rh.cel n _ q hh hq'
    unfold jA at hi
    obtain⟨hil,hi2⟩:=List.getElem?_eq_some_iff.mp hi
    have hl:i < l.length:=by simpa using hil
    have hd:d=.tup [.int (i:Nat),l[i]]:=by rw [← hi2];simp
    subst hd
    obtain⟨v,hvi,rd⟩:=rvs.get (i:=i) (d:=l[i]) (by simp [hl])
    have sq:SqL K H' q vs:=SqL.of hv
    refine⟨⟨vs,v,sq,hvi⟩,fun x H2 y => ?_⟩
    obtain⟨q2,v2,rfl,hn,rfl,y⟩:=y
    have:=y vs sq
    rw [hvi] at this
    cases this
    have sm:=cy (o:=HO.tup [.int (i:Nat),v]) hn
    refine⟨sm,?_⟩
    simp only [RD]
    exact⟨q2,_,rfl,bf,RDs.cons (by simp only [RD]) (RDs.cons (rd.mono (Kp.same sm)) RDs.nil)⟩
  stop:=fun ρ' H' hd' ex rh hh=>by
    have hq':=ex.get hq
    obtain⟨vs,hv,rvs⟩:=rh.cel n _ q hh hq'
    exact⟨vs,SqL.of hv,by rw [← rvs.length];simp [jA]⟩
  sz:=hz
def Jv (K:PySem.W.Frag) (ρ:List Addr) (H:Hp) (σd:Sd) (σ:St) (r:Res D) (R:It→Hp→Prop):Prop:=match r with
  | .ok (.ref n) hd'=>match hd'[n]? with
    | some (.lst l)=>∀ J H' ρ',Ext ρ H ρ' H'→RS K ρ' H' σd hd' σ → AG K ρ' H' J (jA l) (fun h=>h[n]? = some (.lst l))→R J H'
    | _=>False
  | _=>False
def Qj (K:PySem.W.Frag) (f:EF):TI:=fun σ H R=>∃ ρ σd hd,RS K ρ H σd hd σ ∧ Jv K ρ H σd σ (f σd hd) R
def MIE (X:Cx) (tg e:Expr) (f:EF):Prop:=PI X tg e (Qj X.K f)
theorem Jw {a:Expr} {f:EF} (hg:Gl X "enumerate") (hm:X.mg "enumerate" = none) (ha:ME X a f) (hs:starEach [a] X.env=[(false,eval a X.env)]:=by rfl):MIE X (.Tuple elts tk tp) (.Call (.Name "enumerate" p) [a] [] pos) f:=by
  refine PI.imp (Ju hg hm ha hs) fun σ H R ⟨ρ,σd,hd,rs,pp⟩=>⟨ρ,σd,hd,rs,?_⟩
  unfold Jv at pp
  cases e:f σd hd with
  | exc x h1=>rw [e] at pp;exact pp
  | bad=>rw [e] at pp;exact pp
  | ok d hd1 =>
    rw [e] at pp
    intro v H1 ρ1 ex1 rs1 rv
    cases d<;>try exact pp.elim
    rename_i n
    cases c1:hd1[n]? with
    | none=>simp only [c1] at pp
    | some cell =>
      simp only [c1] at pp
      cases cell with
      | dct l=>exact pp.elim
      | lst l =>
        simp only at pp
        simp only [rD,RD] at rv
        obtain⟨q,hq,rfl⟩:=rv
        obtain⟨vs,hv,rvs⟩:=rs1.hp.cel n _ q c1 hq
        exact⟨q,vs,rfl,SqL.of hv,fun hz=>pp _ H1 ρ1 ex1 rs1 (Da hq (by rw [show (jA l).length=vs.length by rw [← rvs.length];simp [jA]];exact hz))⟩
end
section
variable {X:Cx} {pos:Pos} {tg:Expr}
end
end Fm
set_option linter.all false
namespace Fm
end Fm
set_option Elab.async false
set_option linter.all false
set_option maxRecDepth 100000
namespace Fm
open PySem PySem.Spec L2
open PyProof.Rows (Call_)
section
variable {X:Cx} {pos p p2 pos2:Pos}
end
end Fm
set_option linter.all false
namespace Fm
@[simp] def nF (a:EF):EF:=fun σ h=>(a σ h).bind fun x h=>match x with
  | .ref n=>match h[n]? with
    | some (.dct l)=>match er l with
      | some r=>.ok (.int (r.map fun x=>x.getD 1 0).sum) h
      | none=>.bad
    | _=>.bad
  | _=>.bad
@[simp] def Gp:O2:=fun x y h=>match eY h x,eY h y with
  | some xs,some ys=>if xs.length=ys.length then (match sQ h xs ys with|some b=>.ok (.bl (!b)) h|none=>.bad) else .bad
  | _,_=>.bad
end Fm
set_option Elab.async false
set_option linter.all false
set_option maxRecDepth 100000
namespace Fm
open PySem PySem.Spec L2 PySem.W PyProof.Rows
section
variable {X:Cx} {pos p:Pos}
def nG (p d:Addr):Heap→Prop:=fun h=>h.get? p=some { cls:=.type "dict_values",data:=.fields #[.ref d] }
def Qk (td:TE):TE:=fun σ H Q=>td σ H fun x H1=>∃ a kvs,x=.ref a∧H1 a=some (.dK kvs) ∧ ∀ p,H1 p=none→Q (.ref p) (upd H1 p (.ext (nG p a)))
theorem Gq {o:Expr} {td:TE} {apos cpos:Pos} (ho:PE X o td) (hbase:attributeBase o "values" X.env (eval o X.env)=eval o X.env:=by rfl) (hline:(apos.endLine == cpos.line)=true:=by rfl) :
    PE X (.Call (.Attribute o "values" apos) [] [] cpos) (Qk td):=by
  intro pins s σ H Q I h
  refine wpAny_Call_method0_late hbase hline (thn (ho pins s σ H _ I h) fun v s1 ⟨x,H1,I1,r1,a,kvs,ex,e,q1⟩ => ?_)
  subst ex
  obtain rfl:v=Value.ref a:=r1
  obtain⟨t1,t2,hs⟩:=Jg I1 (.inl ⟨kvs,.inl e⟩)
  obtain⟨_,hd,vs,_,dd⟩:=AL I1.hok e
  refine⟨"dict", "dict.values",PySem.F.plainAttrs_dict,PySem.F.slot_dict_values,PySem.F.type_dict_values,t1,t2,Calls.callWith_builtin rfl (PySem.evalArgs_none ?_)⟩
  refine call_meetsIn PySem.F.slot_dict_values t1 PySem.F.entry_dict_values (PySem.F.args_dict_values_1 _) (meets_dict_values (cR X.prog X.w) a hd) ⟨⟨vs,dd⟩,?_⟩
  refine⟨.ref s1.heap.objs.size,_,I1.laid (t':=s1.toks) (o:=.ext (nG s1.heap.objs.size a)) (fun b ob q=>Heap.get?_push_of_some _ q) (Nat.le_refl _) ⟨Heap.get?_push_size _ rfl,⟨_,Heap.get?_push_size _ rfl⟩,fun h1 h2 f k=>k _ f⟩,rfl,q1 _ (I1.hok.fresh (Nat.le_refl _))⟩
def Ql:List V→Hp→VK→Prop:=fun xs H Q=>∃ (p a:Addr) (ps:List (Int × Int)),xs=[.ref p]∧H p=some (.ext (nG p a))∧H a=some (.dK (ps.map fun q=>((Sum.inl q.1:Key),V.int q.2)))∧Q (.int (ps.map (·.2)).sum) H
theorem Gr (hc:X.calm=true):iZ X (.builtin "sum") Ql:=by
  intro pins s σ H xs us Q I r h
  obtain⟨p,a,ps,rfl,hp,ha,q⟩:=h
  obtain⟨u,rfl,ru⟩:=bj.one r
  cases (show u=Value.ref p from ru)
  have view:nG p a s.heap:=(I.hok p _ hp).1
  obtain⟨hz,_,vs,rel,dd⟩:=AL I.hok ha
  have lv:vs.length=ps.length:=by rw [← rel.length];simp
  obtain⟨o,es,ep,d1,d2⟩:=id dd
  have dat:s.heap.DictAt (cR X.prog X.w) a vs ep:=⟨o,es,d1,d2⟩
  have hA:(X.A.in1).handled=none:=I.ok.hd hc
  have K:=kdl_values (prog:=X.prog) (w:=X.w) (knd:=cR X.prog X.w) (r:=p) (d:=a) (kvs:=vs) (ep:=ep)
  refine call_sum_walkAnyS ?_
  obtain⟨oI,St,hit,W,st⟩:=K.iter X.A.in1 s hA ⟨⟨_,view,rfl,rfl⟩,dat⟩
  refine hit _ _ ⟨s.heap.objs.size,_,_,_,vs.length,_,_,fun i=>(ps.map (·.2)).getD i 0,rfl,W.toS,st,fun b hb => ?_,fun i v hv => ?_,fun s' t' hm => ?_⟩
  · show b < (s.heap.push oI).objs.size
    rw [size_push']
    rcases List.mem_cons.mp hb with e|hb
    · rw [e];exact Nat.lt_succ_self _
    · rw [List.mem_singleton.mp hb];exact Nat.lt_succ_of_lt (K.there _ ⟨⟨_,view,rfl,rfl⟩,dat⟩).2
  · obtain⟨k,e⟩:=hv
    have hi:i < ps.length:=by rw [← lv];exact (List.getElem?_eq_some_iff.mp e).1
    obtain⟨_,rx⟩:=No rel e (show (ps.map fun q=>((Sum.inl q.1:Key),V.int q.2))[i]? = some (Sum.inl ps[i].1,V.int ps[i].2) by simp [hi])
    obtain⟨t,e2⟩:=yi rx
    exact⟨t,by rw [e2];simp [List.getD,hi]⟩
  · have hk:∀ b o,s.heap.get? b=some o→s'.heap.get? b=some o:=fun b o e =>
      hm.heap b o (fun hI=>absurd (Heap.lt_size e) (by rw [List.mem_singleton.mp hI];exact Nat.lt_irrefl _)) (Heap.get?_push_of_some _ e)
    rw [Moved.eq_with hm]
    refine⟨.int (ps.map (·.2)).sum,H,I.kept (t':=s'.toks) hk,⟨t',?_⟩,q⟩
    rw [← qh,lv,List.length_map]
theorem L5 {o:Expr} {fo:EF} {apos cpos:Pos} (hc:X.calm=true) (hg:Gl X "sum") (hm:X.mg "sum" = none) (ho:ME X o fo)
    (hs:starEach [.Call (.Attribute o "values" apos) [] [] cpos] X.env=(false,eval (.Call (.Attribute o "values" apos) [] [] cpos) X.env) :: starEach [] X.env:=by rfl)
    (hbase:attributeBase o "values" X.env (eval o X.env)=eval o X.env:=by rfl) (hline:(apos.endLine == cpos.line)=true:=by rfl) :
    ME X (.Call (.Name "sum" p) [.Call (.Attribute o "values" apos) [] [] cpos] [] pos) (nF fo):=by
  refine PE.imp (jy (Gr hc) hg hm (by decide +kernel) (cC (Gq ho hbase hline) eU hs) (he:=hs)) fun σ H Q ⟨ρ,σd,hd,rs,pp⟩=>⟨ρ,σd,hd,rs,?_⟩
  unfold nF at pp
  cases e:fo σd hd with
  | exc x h'=>rw [e] at pp;exact pp
  | bad=>rw [e] at pp;exact pp
  | ok d hd1 =>
    rw [e] at pp
    simp only [aG] at pp
    intro v H1 ρ1 e1 rs1 rv
    cases d<;>try exact pp.elim
    rename_i n
    simp only at pp
    simp only [rD,RD] at rv
    obtain⟨a,ha,rfl⟩:=rv
    cases c:hd1[n]? with
    | none=>rw [c] at pp;exact pp.elim
    | some cell =>
      rw [c] at pp
      cases cell with
      | lst l=>exact pp.elim
      | dct l =>
        simp only at pp
        cases c2:er l with
        | none=>rw [c2] at pp;exact pp.elim
        | some r =>
          rw [c2] at pp
          simp only at pp
          obtain⟨ps,rfl,rfl⟩:=lf c2
          obtain⟨kvs,q1,q2,q3⟩:=rs1.hp.cel n _ a c ha
          have hk:=C3 q2 q3
          subst hk
          refine⟨a,_,rfl,q1,fun q hq=>⟨q,a,ps,rfl,bf,by rw [aB (aU q1 hq)];exact q1,?_⟩⟩
          have sm1:=cy (o:=HO.ext (nG q a)) hq
          have es:(ps.map (·.2)).sum=((ps.map fun q=>[q.1,q.2]).map fun x=>x.getD 1 0).sum:=by rw [List.map_map];rfl
          rw [es]
          exact cj.at (R:=rD X.K) pp (e1.trans (Ext.same sm1)) (rs1.same sm1) (by simp only [rD,RD])
def Qm (K:PySem.W.Frag):R2:=fun x y H Q=>∃ ρ hd d k xs ys b,RH K ρ H hd∧RD K ρ H d x∧RD K ρ H k y∧eY hd d=some xs∧eY hd k=some ys∧xs.length=ys.length∧sQ hd xs ys=some b∧Q (.bl (!b)) H
theorem OL (hu:X.A.units + 24 < cLine):OpR X (compareOp .NotEq) (Qm X.K):=by
  intro pins s σ H x y v u Q I rx ry h
  obtain⟨ρ,hd,d,k,xs,ys,b,r,h1,h2,c1,c2,hl,e,q⟩:=h
  have hu0:X.A.units < cLine:=by omega
  obtain⟨p,vs,rfl,s1,q1⟩:=lW r h1 c1
  obtain⟨p',vs',rfl,s2,q2⟩:=lW r h2 c2
  cases rx;cases ry
  obtain⟨its,rv,pl,_⟩:=I.list s1
  obtain⟨its',rv',pl',_⟩:=I.list s2
  have il:s.heap.IsList p its.toArray:=pl.isList
  have il':s.heap.IsList p' its'.toArray:=pl'.isList
  have l1:xs.length=its.length:=q1.length.trans rv.length
  have l2:ys.length=its'.length:=q2.length.trans rv'.length
  obtain⟨f,hf,ha⟩:=Fj I r (A:=X.A.in1) q1 q2 rv rv' e (by show X.A.units + 1 + 23 < cLine;omega)
  have hs:its.toArray.size=its'.toArray.size:=by simp;omega
  have g2:=SeqAt.RcNeAt.lists (s:=s) (A:=X.A) (e:=f) il il' hs hu0 (fun j h1 h2=>by simpa using hf j (by simpa using h1) (by simpa using h2))
  have hm:min its.length its'.length=its.length:=by omega
  rw [hm] at ha
  rw [← ha] at q
  exact (show SeqAt.RcNeAt X.A s _ _ (!(List.range its.length).all f) by simpa using g2) _ _ _ _ ⟨.bl _,H,I,rfl,q⟩
theorem OM {K:PySem.W.Frag}:Og K Gp (Qm K):=by
  intro ρ H σd hd σ d k v w Q rs rv rw' p
  unfold Gp at p
  cases c1:eY hd d with
  | none=>rw [c1] at p;exact p.elim
  | some xs =>
    cases c2:eY hd k with
    | none=>rw [c1,c2] at p;exact p.elim
    | some ys =>
      rw [c1,c2] at p
      simp only at p
      split at p
      · rename_i hl
        cases e:sQ hd xs ys with
        | none=>rw [e] at p;exact p.elim
        | some b =>
          rw [e] at p
          exact⟨ρ,hd,d,k,xs,ys,b,rs.hp,rv,rw',c1,c2,hl,e,p.here rs (by simp only [rD,RD])⟩
      · exact p.elim
end
end Fm
set_option linter.all false
namespace Fm
noncomputable section
open Classical
@[simp] def sV (nl:Nat) (caps:List Nat) (a:EF) (tg:GF) (cs:List TF) (e:EF):LF:=fun σ h=>match a σ h with
  | .ok (.ref n) h=>match h[n]? with
    | some (.lst l)=>gF (fun h=>h[n]? = some (.lst l)) tg cs e (jA l) (fQ nl caps σ) h
    | _=>.bad
  | .ok _ _=>.bad
  | .exc x h=>.exc x h
  | .bad=>.bad
end
@[simp] def xc (x:EF) (L:LF):EF:=fun σ h=>(x σ h).bind fun p h=>match p with
  | .ref n=>match h[n]? with
    | some (.lst _)=>(L σ h).bind fun ds h=>match h[n]? with
      | some (.lst l)=>if l.length + ds.length≤SZ then .ok .non (h.set n (.lst (l++ds))) else .bad
      | _=>.bad
    | _=>.bad
  | _=>.bad
end Fm
set_option Elab.async false
set_option linter.all false
set_option maxRecDepth 100000
namespace Fm
open PySem PySem.Spec L2
section
variable {X:Cx} {pos:Pos} {scope:Scope} {own capn:List Str} {caps:List Nat}
theorem Jx {elt tg iter:Expr}{ifs:List Expr}{f:EF}{g:GF}{cs:List TF}{e:EF}(hc:X.calm=true)(S:bX X scope own capn caps)(hi:MIE X tg iter f)
    (hin:∀ cl C s H ex,MG (cxC X (own++capn) scope cl C s H ex) tg g∧MTs (cxC X (own++capn) scope cl C s H ex) ifs cs∧ME (cxC X (own++capn) scope cl C s H ex) elt e)
    (hs:∀ x,foldedSetIterable iter X.env x=pure x:=by intro _;rfl):MF X (.ListComp elt [⟨tg,iter,ifs,0⟩] scope pos) (sV own.length caps f g cs e):=by
  intro pins s σ H Q I ⟨ρ,σd,hd,rs,p⟩
  rw [eval_ListComp]
  unfold sV at p
  cases c:f σd hd with
  | exc z h7=>rw [c] at p;exact p.elim
  | bad=>rw [c] at p;exact p.elim
  | ok d hd1 =>
    rw [c] at p
    cases d<;>try exact p.elim
    rename_i n
    simp only at p
    cases c1:hd1[n]? with
    | none=>rw [c1] at p;exact p.elim
    | some cell =>
      rw [c1] at p
      cases cell with
      | dct l=>exact p.elim
      | lst l0 =>
        simp only at p
        obtain⟨cl,h1,hcl1,hcl2⟩:=iE (scope:=scope) (env:=X.env) fun y hy hyf=>I.ok.has y.1 (S.free y hy hyf)
        refine wpAny_comprehension_free (use:=none) rfl hs h1 S.kind S.names (thn (hi pins s σ H (fun J H1=>∃ ρ1,Ext ρ H ρ1 H1∧RS X.K ρ1 H1 σd hd1 σ ∧ AG X.K ρ1 H1 J (jA l0) (fun h=>h[n]? = some (.lst l0))) I ⟨ρ,σd,hd,rs,by
          unfold Jv
          rw [c]
          simp only [c1]
          exact fun J H' ρ' ex rs' wk=>⟨ρ',ex,rs',wk⟩⟩) fun v s1 h1=>thn h1 fun itv s2 h2 => ?_)
        obtain⟨it,fp,tn,J,H1,rfl,I1,T,st0,hf,ρ1,ex1,rs1,wk⟩:=h2
        generalize hG:(fun h:Hd=>h[n]? = some (.lst l0))=G at p wk
        cases c2:gF G g cs e (jA l0) (fQ own.length caps σd) hd1 with
        | exc z h7=>rw [c2] at p;exact p.elim
        | bad=>rw [c2] at p;exact p.elim
        | ok ds hdF =>
          rw [c2] at p
          refine lZ (RR:=fun acc C=>compPost (model X.prog X.w) X.A X.xe none (EP X pins σ Q) acc C) hc S hin I1 T st0 hf rs1 wk hcl1 hcl2 c2 fun C s' m H' ρ' vs hC hn I' hCn ex rh hD0 hD hnD rds => ?_
          refine⟨m,hn,fun h' sb=>⟨.ref s2.heap.objs.size,H',?_,rfl,?_⟩⟩
          · refine I'.turned (it:=C) (t':=s'.toks) (fun b o hb e=>(sb.2 b hb).trans e) hCn ?_ (.inr (Nat.le_of_lt (Nat.lt_of_le_of_lt I1.sz hC))) (fun x c e z => ?_) fun q hq z => ?_
            · exact Nat.ne_of_gt (Nat.lt_trans I1.lt hC)
            · obtain⟨v,o,ho,hd⟩:=I1.cell x c e
              exact absurd (Nat.lt_trans (Heap.lt_size ho) hC) (by rw [z];exact Nat.lt_irrefl _)
            · exact absurd (Nat.lt_trans (Heap.lt_size (I1.pin q hq).1) hC) (by rw [z];exact Nat.lt_irrefl _)
          · exact p _ vs H' ρ' (ex1.trans ex) (rs.ext (ex1.trans ex) rh) (ex1.fresh hD0 (rs1.hp.free hD0)) hD hnD rds
end
section
variable {X:Cx}
theorem Fq {o e:Expr} {fo:EF} {L:LF} {apos cpos:Pos} (ho:ME X o fo) (he:MF X e L) (hbase:attributeBase o "extend" X.env (eval o X.env)=eval o X.env:=by rfl)
    (hfew:((backTo cpos (starEach [e] X.env)).all (fun x => !x.1) && (backToKw cpos (keywordEach [] X.env)).all (fun x=>x.1.isSome)
      && decide (([e] : List Expr).length + ([] : List Keyword).length + (if ([] : List Keyword).isEmpty then 0 else 1) < 30))=true:=by rfl)
    (hline:(apos.endLine == cpos.line)=true:=by rfl) (hs:starEach [e] X.env=(false,eval e X.env) :: starEach [] X.env:=by rfl) :
    ME X (.Call (.Attribute o "extend" apos) [e] [] cpos) (xc fo L):=by
  refine PE.imp (Nk PySem.F.plainAttrs_list PySem.F.slot_list_extend PySem.F.type_list_extend F8 ho (cC he eU hs) hbase hfew hline hs) fun σ H Q ⟨ρ,σd,hd,rs,pp⟩=>⟨ρ,σd,hd,rs,?_⟩
  unfold xc at pp
  refine (cj.bind (R:=rD X.K) pp).imp fun v H1 ⟨ρ1,d,hd1,e1,rs1,rv,p1⟩ => ?_
  cases d<;>try exact p1.elim
  rename_i n
  simp only [rD,RD] at rv
  obtain⟨a,ha,rfl⟩:=rv
  simp only at p1
  cases c1:hd1[n]? with
  | none=>rw [c1] at p1;exact p1.elim
  | some cell1 =>
    rw [c1] at p1
    cases cell1 with
    | dct l=>exact p1.elim
    | lst l1 =>
      obtain⟨vs,hv,_⟩:=rs1.hp.cel n _ a c1 ha
      simp only at p1
      refine⟨.inl ⟨rfl,vs,SqL.of hv⟩,ρ1,σd,hd1,rs1,?_⟩
      cases c2:L σd hd1 with
      | exc z h7=>rw [c2] at p1;exact p1.elim
      | bad=>rw [c2] at p1;exact p1.elim
      | ok ds hd2 =>
        rw [c2] at p1
        simp only [aG] at p1
        intro q ws H2 ρ2 e2 rs2 hq0 hq hn rws
        cases c:hd2[n]? with
        | none=>rw [c] at p1;exact p1.elim
        | some cell =>
          rw [c] at p1
          cases cell with
          | dct l=>exact p1.elim
          | lst l =>
            simp only at p1
            split at p1
            · rename_i hz
              have ha2:=e2.get ha
              obtain⟨vs2,hv2,rvs2⟩:=rs2.hp.cel n _ a c ha2
              refine⟨a,q,vs2,ws,rfl,rfl,hv2,hq,?_,?_⟩
              · rw [← rvs2.length,← rws.length];exact Nat.le_trans hz (by rw [sizeLine_eq];decide)
              · have hn:n < hd2.length:=(List.getElem?_eq_some_iff.mp c).1
                have rh:=rs2.hp.write ha2 hn (RDs.append rvs2 rws)
                have ex:Ext ρ2 H2 ρ2 (upd H2 a (.lst (vs2++ws))):=Ext.write (List.mem_of_getElem? ha2)
                exact (p1.ext e2).at ex (rs2.ext ex rh) (by simp only [rD,RD])
            · exact p1.elim
end
end Fm
set_option Elab.async false
set_option linter.all false
set_option maxRecDepth 100000
namespace L2
open PySem PySem.Spec PyProof.Rows PySem.W PySem.Builtin PySem.Builtin.ObjectAttr PySem.Builtin.Getset_descriptor
structure uW (K:PySem.W.Frag) (D:Addr):Prop where
  ga:PySem.W.findIn K (.ref D) "__getattribute__" = some (some (.builtin "BaseException.__getattribute__"))
  gt:PySem.W.findIn K (.ref D) "__getattr__" = some none
  cl:PySem.W.findIn K (.ref D) "__class__" = some (some (.builtin "object.__class__"))
  be:PySem.W.subIn K (.ref D) (.type "BaseException")=some true
  ob:PySem.W.mroIn K D (.type "object")=some true
  is:(PySem.W.clsIn K D).isSome=true
section
variable {prog:Program} {w:World} {A:Around} {E:Value→Shared→Prop} {K:PySem.W.Frag} {D:Addr} {h:Heap} {g:Array GenState} {d:Drawn} {t:Nat} {os:OsState} {a:Addr} {o:Obj} {vs:Array Value}
theorem sD.type {M:Model}(I:sD h a D o):PySem.W.Looks M h (typeOf (.ref a)) (.ref D):=I.cls ▸ (PySem.W.Looks.ld I.at_).andThen .now
theorem ON {R:Result→Shared→Prop} {tp:Value} (X:K.In h) (I:sD h a D o) (hm:PySem.W.mroIn K D (.type "object")=some true) (hq:R (.ok (.ret (.ref D))) ⟨h,g,d,t,os⟩) :
    codeAny (model prog w) A (.call (.builtin "getset_descriptor.__get__") ⟨[.builtin "object.__class__",.ref a,tp],[]⟩) R ⟨h,g,d,t,os⟩:=by
  have hT5:(⟨h,g,d,t,os⟩ : Shared).TypeIs (.builtin "object.__class__") "getset_descriptor" := F.typeOf_object_class
  have L0:=I.type (M:=model prog w)
  have L1:=PySem.W.looks_mroIn (M:=model prog w) X hm
  refine codeAny_call_builtin F.slot_gs_get.plain F.entry_gs_get (F.slot_gs_get.check _ _ _ _ _ _ _ _ hT5 (F.args_gs_get _ _ _) ?_)
  unfold Builtin.«getset_descriptor.__get__» descrGet
  rw [PySem.W.dga_obj]
  refine wpAny_bind (wpAny_pure ?_);unfold descrGetter descrCheckInstance descrNameAndClass isInstance
  simp only [KF.owner_class]
  repeat (first|with_reducible refine L0.at ?_|with_reducible refine L1.at ?_|lk)
  refine⟨Code.quiet_builtin _ (by decide +kernel),codeAny_builtin F.entry_object_class ?_⟩
  unfold Builtin.«object.__class__» shownTypeOf
  repeat (first|with_reducible refine L0.at ?_|lk)
  exact hq
theorem Jy {tk:Tok}{Q:Fin→Shared→Prop}(Z:uW K D)(X:K.In h)(I:sD h a D o)(hq:Q (.done (.ret (.ref D))) ⟨h,g,d,t,os⟩) :
    wpAny (model prog w) A (Builtin.«object.__getattribute__» ⟨[.ref a,.str "__class__" tk],[]⟩) Q E ⟨h,g,d,t,os⟩:=by
  have L0:=I.type (M:=model prog w)
  have L1:=PySem.W.looks_findIn (M:=model prog w) X Z.cl
  have hT5:(⟨h,g,d,t,os⟩ : Shared).TypeIs (.builtin "object.__class__") "getset_descriptor" := F.typeOf_object_class
  have f5:=F.typeOf_object_class
  have f6:=F.slot_gs_get.lookup
  have f7:=F.slot_gs_set.lookup
  repeat (any_goals (first|assumption|with_reducible refine L0.at ?_|with_reducible refine L1.at ?_|wp_step))
  refine ON X I Z.ob ?_
  repeat (any_goals (first|assumption|wp_step))
theorem Jz {M:Model}{nameV:Value}{Q:Unit→Shared→Prop}(Z:uW K D)(X:K.In h)(I:sD h a D o)(hq:Q () ⟨h,g,d,t,os⟩) :
    wpAny M A (checkBuiltinCall "BaseException.__getattribute__" ⟨[.ref a,nameV],[]⟩) Q E ⟨h,g,d,t,os⟩:=by
  have hk:builtinKind "BaseException.__getattribute__" = some .slot:=by decide +kernel
  have hsplit:splitId "BaseException.__getattribute__" = some ("BaseException", "__getattribute__"):=by decide +kernel
  have ha:=F.args_bexc_ga (.ref a) nameV
  have L0:=I.type (M:=M)
  have L1:=PySem.W.looks_subIn (M:=M) X Z.be
  simp only [checkBuiltinCall,hk,hsplit]
  refine wpAny_bind ?_
  unfold isInstance
  repeat (first|with_reducible refine L0.at ?_|with_reducible refine L1.at ?_|wp_step)
  exact hq
theorem L6 {tk:Tok}{R:Result→Shared→Prop}(Z:uW K D)(X:K.In h)(I:sD h a D o)(hq:R (.ok (.ret (.ref D))) ⟨h,g,d,t,os⟩) :
    codeAny (model prog w) A (.call (.builtin "BaseException.__getattribute__") ⟨[.ref a,.str "__class__" tk],[]⟩) R ⟨h,g,d,t,os⟩ :=
  codeAny_call_builtin F.attr_ValueError.ga.plain F.entry_bexc_ga (Jz Z X I (Jy Z X I hq))
theorem Qn {tk:Tok}{fill expr:Bool}{Q:Value→Shared→Prop}(Z:uW K D)(X:K.In h)(I:sD h a D o)(hq:Q (.ref D) ⟨h,g,d,t,os⟩) :
    wpAny (model prog w) A (getAttrBy (.ref a) (.str "__class__" tk) fill expr) Q E ⟨h,g,d,t,os⟩:=by
  have f3:=F.attr_ValueError.ga.bind (.ref a)
  have hx0:(expr && onTheHeap (Value.builtin "BaseException.__getattribute__"))=false:=by cases expr<;>rfl
  have hx2:(Value.builtin "BaseException.__getattribute__" == Value.builtin "object.__getattribute__")=false:=by decide +kernel
  have hx1:(onTheHeap (Value.ref D) && Value.builtin "BaseException.__getattribute__" == Value.builtin "object.__getattribute__")=false:=by rw [hx2];rfl
  have L0:=I.type (M:=model prog w)
  have L1:=PySem.W.looks_findIn (M:=model prog w) X Z.ga
  have L2:=PySem.W.looks_findIn (M:=model prog w) X Z.gt
  repeat (any_goals (first|assumption|with_reducible refine L0.at ?_|with_reducible refine L1.at ?_|with_reducible refine L2.at ?_|wp_step))
  refine L6 Z X I ?_
  repeat (any_goals (first|assumption|wp_step))
theorem L7 {Q:Option Value→Shared→Prop}(Z:uW K D)(X:K.In h)(I:sD h a D o)(hq:Q (some (.ref D)) ⟨h,g,d,t + 1,os⟩) :
    wpAny (model prog w) A (getAttr? (.ref a) "__class__") Q E ⟨h,g,d,t,os⟩:=by
  unfold getAttr? getAttrBy?
  repeat (any_goals (first|assumption|with_reducible apply Qn Z X I|wp_step))
theorem OO (Z:uW K D):PySem.W.KitX K (.ref a) (.ref D) (fun h=>∃ o,sD h a D o) where
  ty:=fun _ _ _ ⟨o,I⟩=>I.type
  it:=fun _ _ X _=>by
    obtain⟨cd,hc⟩:=Option.isSome_iff_exists.mp Z.is
    unfold PySem.W.clsIn at hc
    split at hc
    · rename_i c' d' cd' sl' ho
      intro A' Q' E' s' k q
      unfold isType loadHead
      exact wpAny_bind (wpAny_loadPart (k _ _ (X _ _ ho)) (wpAny_pure q))
    · cases hc
  ne:=fun h tp dd its n sl X htp=>by
    obtain⟨cd,hc⟩:=Option.isSome_iff_exists.mp Z.is
    refine Bool.eq_false_iff.mpr fun q => ?_
    have e:D=tp:=Value.ref.inj (beq_iff_eq.mp q)
    subst e
    unfold PySem.W.clsIn at hc
    split at hc
    · rename_i c' d' cd' sl' ho
      have z:=(X _ _ ho).symm.trans htp
      cases z
    · cases hc
  ca:=fun {_ _ _ _ _ s} X ⟨o,I⟩ k=>by obtain⟨h,g,d,t,os⟩:=s;exact L7 Z X I k
theorem JA {M:Model} {B:Addr} {Q:Bool→Shared→Prop} (X:K.In h) (I:sD h a D o) (hs:PySem.W.subIn K (.ref D) (.ref B)=some true) (hb:PySem.W.subIn K (.ref B) (.type "BaseException")=some true)
    (hc:(PySem.W.clsIn K B).isSome=true) (ht:PySem.W.typeIn K (.ref B)=some (.type "type")) (hq:Q true ⟨h,g,d,t,os⟩):wpAny M A (excMatches (.ref a) (.ref B)) Q E ⟨h,g,d,t,os⟩:=by
  have L0:=I.type (M:=M)
  have L1:=PySem.W.looks_subIn (M:=M) X hs
  have L2:=PySem.W.looks_subIn (M:=M) X hb
  have L3:=PySem.W.looks_typeIn (M:=M) X ht
  have f:=tc_notTuple
  obtain⟨cd,hcd⟩:=Option.isSome_iff_exists.mp hc
  unfold PySem.W.clsIn at hcd
  split at hcd
  · rename_i c' d' cd' sl' ho
    have hB:=X _ _ ho
    unfold excMatches
    repeat (first|with_reducible refine L0.at ?_|with_reducible refine L1.at ?_|with_reducible refine L2.at ?_|with_reducible refine L3.at ?_|with_reducible refine wpAny_loadPart_at hB ?_|wp_step)
    exact hq
  · cases hcd
end
end L2
set_option Elab.async false
set_option linter.all false
set_option maxRecDepth 100000
namespace L2
open PySem PySem.Spec PyProof.Rows
section
variable {P:Program} {w:World} {H:Hp} {h:Heap} {a:Addr} {o:HO}
theorem ed.obj (x:ed P w H h a o):∃ ob,h.get? a=some ob:=by
  induction o with
  | lst xs=>obtain⟨_,_,_,_,e⟩:=x;exact⟨_,e⟩
  | tup xs=>obtain⟨_,_,_,ob,e,_⟩:=x;exact⟨_,e⟩
  | dK kvs=>obtain⟨_,_,_,_,o,_,_,e,_⟩:=x;exact⟨_,e⟩
  | dT kvs=>obtain⟨_,_,_,_,o,_,_,e,_⟩:=x;exact⟨_,e⟩
  | set S n=>obtain⟨o,_,_,_,e,_⟩:=x;exact⟨_,e⟩
  | ins C dx fs=>obtain⟨_,_,_,e,_⟩:=x;exact⟨_,e⟩
  | own y=>obtain⟨_,e⟩:=x;exact⟨_,e⟩
  | xd fs=>obtain⟨_,⟨ob,_,_,e,_⟩,_⟩:=x;exact⟨_,e⟩
  | rng lo hi=>obtain⟨_,_,_,e⟩:=x;exact⟨_,e⟩
  | frz ob u ih=>obtain⟨e,_⟩:=x;exact⟨_,e⟩
  | tbl ps=>exact⟨_,x⟩
  | met f y=>exact⟨_,x⟩
  | ext φ => obtain⟨_,⟨ob,e⟩,_⟩:=x;exact⟨_,e⟩
end
structure Cov (X:Cx) (pins:List (Addr × Obj)) (H:Hp) (B:Heap):Prop where
  trk:∀ b u,H b=some u → ∃ o,B.get? b=some o
  old:∀ b o,X.s₀.heap.get? b=some o→b∉frs X.stack→b∉X.ex → ∃ o,B.get? b=some o
  pin:∀ p∈X.pn++pins,∃ o,B.get? p.1=some o
section
variable {X:Cx} {pins:List (Addr × Obj)} {σ:St} {H:Hp} {s:Shared} {B h':Heap}
theorem Inv.flown (I:Inv X pins σ H s)(b1:B.StaysIn s.heap)(b2:B.StaysIn h')(sm:s.heap.UpToSlots h')(c:Cov X pins H B)(t':Nat):Inv X pins σ H { s with heap:=h',toks:=t' }:=by
  have same:∀ b o,(∃ u,B.get? b=some u)→s.heap.get? b=some o→h'.get? b=some o:=fun b o ⟨u,e⟩ q=>by
    have:=b1 b u e
    rw [q] at this;cases this
    exact b2 b _ e
  have nst:∀ b o,X.s₀.heap.get? b=some o→b∉X.fs→b∉frs X.stack:=fun b o e hb hs=>by
    rcases List.mem_cons.mp (I.stkSub b hs) with z|z
    · exact absurd z (Nat.ne_of_lt (Nat.lt_of_lt_of_le (Heap.lt_size e) I.ok.above))
    · exact hb z
  have fsl:∀ b o,b∈X.fs→s.heap.get? b=some o → ∃ sl,h'.get? b=some { o with slots:=sl }:=fun b o hb e=>by
    obtain⟨_,o',ho',nf⟩:=I.funs.mem hb
    rw [e] at ho';cases ho'
    exact sm b o e nf
  have cellK:∀ c v,s.heap.IsCell c v→h'.IsCell c v:=fun c v ⟨o,ho,hd⟩=>by
    obtain⟨sl,q⟩:=sm c o ho (fun vs z=>by rw [hd] at z;cases z)
    exact⟨_,q,hd⟩
  refine⟨I.ok,I.os,I.bare,⟨fun b o e n hb hx => ?_,fun b o e n hb hx => ?_,I.base.free,fun b o e hx => ?_,I.base.tups,I.base.frzs,I.base.tbls⟩,?_,fun x c e => ?_,I.free,I.freeC,fun p hp => ?_,fun b u e => ?_,I.len⟩
  · exact same b o (c.old b o e (nst b o e hb) hx) (I.base.keep b o e n hb hx)
  · obtain⟨sl,e1⟩:=I.base.slot b o e n hb hx
    obtain⟨sl',e2⟩:=fsl b _ hb e1
    exact⟨sl',e2⟩
  · obtain⟨o',e1⟩:=I.base.there b o e hx
    by_cases hb:b∈X.fs
    · obtain⟨sl,e2⟩:=fsl b o' hb e1;exact⟨_,e2⟩
    · exact⟨o',same b o' (c.old b o e (nst b o e hb) hx) e1⟩
  · obtain⟨m,hn,hl⟩:=I.loc
    refine⟨m,sm.ns hn,fun i x v e1 e2 e3 => ?_⟩
    obtain⟨u,r,l⟩:=hl i x v e1 e2 e3
    refine⟨u,r,?_⟩
    rcases l with l|⟨k,c,e,z⟩
    · exact .inl l
    · exact .inr ⟨k,c,e,cellK c _ z⟩
  · obtain⟨v,z⟩:=I.cell x c e
    exact⟨v,cellK c v z⟩
  · obtain⟨e,n,ne,nf,d⟩:=I.pin p hp
    exact⟨same _ _ (c.pin p hp) e,n,ne,nf,d⟩
  · refine (I.hok b u e).stay (fun c' v hc q=>same c' v ?_ q) (fun _ q=>q) fun _ _ q=>q
    rcases hc with z|z
    · rw [z];exact c.trk b u e
    · exact c.trk c' _ z
def XF (X:Cx) (E:Addr→Hp→Prop) (e:Value) (s':Shared):Prop:=∃ pins σ H a C B t,e=.ref a∧Inv X pins σ H s'∧Heap.FlyingW B X.stack a (.ref C) (.ref t) s'.heap∧Cov X pins H B∧E C H
def XAt (X:Cx) (pins:List (Addr × Obj)) (σ:St) (H:Hp) (a C:Addr) (s':Shared):Prop :=
  (∃ s1 h' vs,Inv X pins σ H s1∧Heap.MadeExcOf s1.heap h' a (.ref C) vs∧s' = { s1 with heap:=h' }) ∨
  (∃ B t,Inv X pins σ H s'∧Heap.FlyingW B X.stack a (.ref C) (.ref t) s'.heap∧Cov X pins H B)
def XP (X:Cx) (E:Addr→Hp→Prop) (e:Value) (s':Shared):Prop:=∃ pins σ H a C,e=.ref a∧XAt X pins σ H a C s'∧E C H
def CX1 (P:Program) (w:World):CXT:=fun outer H s E e s'=>∃ a C B t H',e=.ref a∧s'.os=s.os∧AllBare s'.gens∧Un (frs outer) [] H H' s.heap s'.heap∧HOk P w H' s'.heap ∧
  Heap.FlyingW B outer a (.ref C) (.ref t) s'.heap∧(∀ b u,H' b=some u → ∃ o,B.get? b=some o)∧(∀ b o,s.heap.get? b=some o→b∉frs outer → ∃ o,B.get? b=some o)∧E (.ref C) none H'
theorem XF.xp {E:Addr→Hp→Prop}{e:Value}{s':Shared}:XF X E e s'→XP X E e s':=fun ⟨pins,σ,H,a,C,B,t,he,I,fl,c,q⟩=>⟨pins,σ,H,a,C,he,.inr ⟨B,t,I,fl,c⟩,q⟩
theorem Qo {E:XK}{E':Addr→Hp→Prop}{R:Value→Shared→Prop}(h:∀ C H,E (.ref C) none H→E' C H)(hR:∀ e s',XF X E' e s'→R e s'):sA (CX1 X.prog X.w) (X.wish R) E:=by
  rintro pins σ H s e s' I ⟨a,C,B,t,H',he,os,bare,un,hok,fl,trk,old,q⟩
  have I0:=I.unwish
  have I':Inv X pins σ H' s':=I0.call' (ch:=[]) os un hok bare (fun b z=>absurd z (by simp))
  refine hR _ _ ⟨pins,σ,H',a,C,B,t,he,I',fl,⟨trk,fun b o e hb hx => ?_,fun p hp => ?_⟩,h C H' q⟩
  · obtain⟨o',e'⟩:=I0.base.there b o e hx
    exact old b o' e' hb
  · obtain⟨e,n,ne,nf,_⟩:=I0.pin p hp
    exact old p.1 p.2 e fun z=>(List.mem_cons.mp (I0.stkSub p.1 z)).elim ne nf
theorem JB (I:Inv X pins σ H s):Cov X pins H (PySem.W.hideAll s.heap (frs X.stack)) where
  trk:=fun b u e=>by
    obtain⟨o,q⟩:=(I.hok b u e).obj
    refine⟨o,PySem.W.hideAll_get _ q fun z => ?_⟩
    rw [I.stkFree b z] at e;cases e
  old:=fun b o e hb hx=>by
    obtain⟨o',e'⟩:=I.base.there b o e hx
    exact⟨o',PySem.W.hideAll_get _ e' hb⟩
  pin:=fun p hp=>by
    obtain⟨e,n,ne,nf,_⟩:=I.pin p hp
    exact⟨_,PySem.W.hideAll_get _ e fun z=>(List.mem_cons.mp (I.stkSub p.1 z)).elim ne nf⟩
end
theorem Db {P:Program}{w:World}{K:PySem.W.Frag}{mg:Str→Option Value}{base:Heap}{N:List Str}{qual:Str}{scope:Scope}{f:Addr}{cd:Value}{A:Around}{outer:List Env}{s:Shared}{H:Hp}{E:XK}{e:Value}{s':Shared}
    (h:XP (qN (CX1 P w) P w K mg base N qual scope f cd A outer s H E) (fun C H'=>E (.ref C) none H') e s'):(qN (CX1 P w) P w K mg base N qual scope f cd A outer s H E).xe e s':=by
  obtain⟨pins,σ,H',a,C,rfl,hx,q⟩:=h
  have fin:∀ {s1:Shared} {B:Heap} {h':Heap} {t:Addr},Inv (qN (CX1 P w) P w K mg base N qual scope f cd A outer s H E) pins σ H' s1→B.StaysIn s1.heap→s1.heap.UpToSlots h' →
      Cov (qN (CX1 P w) P w K mg base N qual scope f cd A outer s H E) pins H' B→Heap.FlyingW B outer a (.ref C) (.ref t) h'→CX1 P w outer H s E (.ref a) { s1 with heap:=h' }:=by
    intro s1 B h' t I b1 sm c fl
    have J:=I.flown (h':=h') b1 fl.1 sm c s1.toks
    refine⟨a,C,B,t,H',rfl,J.os,J.bare,J.base,J.hok,fl,c.trk,fun b o e hb=>c.old b o e (fun z => ?_) (fun z=>absurd (show b∈([] : List Addr) from z) (by simp)),q⟩
    rcases List.mem_cons.mp (I.stkSub b z) with y|y
    · exact absurd y (Nat.ne_of_lt (Nat.lt_of_lt_of_le (Heap.lt_size e) I.ok.above))
    · exact hb y
  rcases hx with ⟨s1,h1,vs,I,mk,rfl⟩|⟨B,t,I,fl,c⟩
  · have hin:∀ env∈(envOfC qual scope s.heap.objs.size f cd :: outer),∀ b,env.frame=some b→b∈frs (envOfC qual scope s.heap.objs.size f cd :: outer):=fun env he b hb=>List.mem_filterMap.mpr ⟨env,he,hb⟩
    refine wpAny_leaves_madeW (base:=PySem.W.hideAll s1.heap (frs (envOfC qual scope s.heap.objs.size f cd :: outer))) (I.ok.frames) rfl (fun b o q=>PySem.W.of_hideAll _ q) (PySem.W.funFrames_hide I.stack hin) mk fun h' t x1 x2 x3 x4 => ?_
    exact fin (s1:=s1) (h':=h') (t:=t) I (fun b o q=>PySem.W.of_hideAll _ q) ((Heap.UpToSlots.of_keeps mk.keeps).trans x4) (JB I) x1
  · exact wpAny_leaves_onW I.ok.frames rfl fl fun h' x1 x2=>fin I fl.1 x2 c x1
end L2
set_option Elab.async false
set_option linter.all false
set_option maxRecDepth 100000
namespace L2
open PySem PySem.Spec PyProof.Rows
section
variable {X:Cx} {E:Addr→Hp→Prop} {x:Str} {C:Addr} {bm:List Value} {B newId initId:String} {np cpos pos:Pos} {e₀ : Expr} {rest:List Expr} {ta:TA}
def OP (C:Addr) (E:Addr→Hp→Prop) (ta:TA):TS:=fun _ σ H=>ta σ H fun vs H1=>vs.length≤sizeLine∧E C H1
theorem JC (O:OwnCls x C bm newId X.mg X.base) (FB:ExcBaseFacts B newId initId bm) (hc:X.calm=true) (hg:Gl X x) (ha:PA (X.wish (XP X E)) (e₀ :: rest) ta) (hdb:(x == ("__debug__" : Str))=false:=by decide)
    (he:starEach (e₀ :: rest) X.env=(false,eval e₀ X.env) :: starEach rest X.env:=by rfl) (hpl:(backTo cpos (starEach rest X.env)).any (·.1)=false:=by rfl) :
    PS (X.wish (XP X E)) (.Raise (some (.Call (.Name x np) (e₀ :: rest) [] cpos)) none pos) (OP C E ta):=by
  intro pins s σ H D I h
  obtain⟨tl,N,nm,q,bs,hdct,sn,sub,ab,col,dd,k0,k1,k2,k3,k5,mN,hC,hN,hni,T⟩:=O.obj
  have hp2:(backTo cpos (starEach (e₀ :: rest) X.env)).any (·.1)=false:=by
    rw [he];show (false || (backTo cpos (starEach rest X.env)).any (·.1))=false;rw [hpl];rfl
  refine wpAny_Raise_call_subT (C:=C) (nm:=nm) (q:=q) (N:=N) (bs:=bs) (bm:=tl) (hdct:=hdct) (sn:=sn) (sub:=sub) (ab:=ab) (col:=col) (dd:=dd) (k0:=k0) (k1:=k1) (k2:=k2) (k3:=k3) (k5:=k5) (mN:=mN)
    FB (T.hasType FB.hasBase) (I.ok.hd hc) hp2 hni (xT I hg O.bound ⟨rfl,?_⟩ hdb)
  have h2:=ha cpos pins s σ H _ I h
  have he':starEach (e₀ :: rest) (X.wish (XP X E)).env=(false,eval e₀ X.env) :: starEach rest X.env:=he
  rw [he'] at h2 ⊢
  exact Calls.evalArgs_plain (wpAny_mono h2 (fun us s2 ⟨vs,H1,I1,r,q1⟩=>⟨rfl,by rw [← r.length];exact q1.1,I1.bk _ _ hC,hN.keeps I1.bk,T.keeps I1.bk,fun h' e mk=>⟨pins,σ,H1,e,C,rfl,.inl ⟨s2,h',us,I1.unwish,mk,rfl⟩,q1.2⟩⟩) fun _ _ z=>z)
end
section
variable {P:Program} {w:World} {K:PySem.W.Frag} {mg:Str→Option Value} {base:Heap}
end
section
variable {X:Cx} {pins:List (Addr × Obj)} {σ:St} {H:Hp} {s:Shared}
theorem Inv.exc {B:Heap}{a C t:Addr}(I:Inv X pins σ H s)(fl:Heap.FlyingW B X.stack a (.ref C) (.ref t) s.heap)(c:Cov X pins H B):Inv X pins σ (upd H a (sE a C)) s:=by
  obtain⟨oe,vs,hoe,hcl,hdt,_⟩:=fl.first
  have hB:=fl.2.1
  have hn:H a=none:=by
    cases e:H a with
    | none=>rfl
    | some u=>obtain⟨o,q⟩:=c.trk a u e;rw [hB] at q;cases q
  have nfr:a∉frs X.stack:=fun z=>by
    obtain⟨_,o,ho,nf⟩:=I.stack.mem z
    rw [hoe] at ho;cases ho;exact nf vs hdt
  have nold:∀ b o,X.s₀.heap.get? b=some o→b∉X.ex→b≠a:=fun b o e hx z=>by
    subst z
    obtain⟨o',q⟩:=c.old _ o e nfr hx
    rw [hB] at q;cases q
  have keepH:∀ b u,H b=some u→upd H a (sE a C) b=some u:=fun b u e=>by rw [aB (aU e hn)];exact e
  refine⟨I.ok,I.os,I.bare,⟨I.base.keep,I.base.slot,fun b o e n hx => ?_,I.base.there,fun b xs e=>keepH b _ (I.base.tups b xs e),fun b o u e=>keepH b _ (I.base.frzs b o u e),fun b ps e => ?_⟩,I.loc,I.cell,?_,fun x c' e => ?_,fun p hp => ?_,fun b u e => ?_,I.len⟩
  · rw [aB (nold b o e hx)];exact I.base.free b o e n hx
  · obtain⟨m,q⟩:=I.base.tbls b ps e
    exact⟨m,keepH b _ q⟩
  · rw [aB]
    · exact I.free
    · intro z
      obtain⟨m,⟨o,es,ep,ho,hd,_⟩,_⟩:=I.loc
      rw [z,hoe] at ho;cases ho;rw [hdt] at hd;cases hd
  · rw [aB]
    · exact I.freeC x c' e
    · intro z
      obtain⟨v,o,ho,hd⟩:=I.cell x c' e
      rw [z,hoe] at ho;cases ho;rw [hdt] at hd;cases hd
  · obtain⟨e,n,ne,nf,d⟩:=I.pin p hp
    refine⟨e,?_,ne,nf,d⟩
    rw [aB]
    · exact n
    · intro z
      obtain⟨o,q⟩:=c.pin p hp
      rw [z,hB] at q;cases q
  · by_cases hb:b=a
    · subst hb
      rw [bf] at e;cases e
      exact⟨⟨oe,hoe,hcl⟩,⟨oe,hoe⟩,fun h1 h2 ⟨o,ho,hc⟩ k=>⟨o,k o ho,hc⟩⟩
    · rw [aB hb] at e
      exact (I.hok b u e).stay (fun _ _ _ q=>q) (fun b' q=>keepH b' _ q) fun b' xs q=>keepH b' _ q
theorem Inv.goes {M:Model}{A:Around}{E:Value→Shared→Prop}{j:Nat}{n:Str}{pos:Pos}{Q:Unit→Shared→Prop}(I:Inv X pins σ H s)(hN:X.N.Nodup)(hj:X.N[j]? = some n)(hl:X.env.kindOf n=some .local)
    (h:∀ s',Inv X pins (σ.set j none) H s'→Q () s'):wpAny M A (do bindName X.env n .none;unbindBehindTheSuite X.env n pos) Q E s:=by
  obtain⟨m,hn,hlo⟩:=id I.loc
  have hcls:(X.env.scope.kind == .class || (X.env.scope.kind == .module && X.env.locals != X.env.globals))=false:=by rw [I.ok.kind];rfl
  obtain⟨oL,_,_,hoL,_⟩:=id hn
  refine wpAny_nameGoes_keeps hl hn hcls fun h' v hn' hs => ?_
  have old:∀ b o,X.s₀.heap.get? b=some o→b≠X.env.locals:=fun b o e=>Nat.ne_of_lt (Nat.lt_of_lt_of_le (Heap.lt_size e) I.ok.above)
  refine h _ ⟨I.ok,I.os,I.bare,⟨fun b o e n hb hx=>(hs.2 b (old b o e)).trans (I.base.keep b o e n hb hx),fun b o e n hb hx => ?_,I.base.free,fun b o e hx => ?_,I.base.tups,I.base.frzs,I.base.tbls⟩,⟨_,hn',fun i y v' e1 e2 e3 => ?_⟩,fun y c e => ?_,I.free,I.freeC,fun p hp => ?_,fun b u e => ?_,by simpa using I.len⟩
  · obtain⟨sl,e1⟩:=I.base.slot b o e n hb hx
    exact⟨sl,(hs.2 b (old b o e)).trans e1⟩
  · obtain⟨o',e1⟩:=I.base.there b o e hx
    exact⟨o',(hs.2 b (old b o e)).trans e1⟩
  · by_cases hi:i=j
    · subst hi
      by_cases hlt:i < σ.length
      · rw [List.getElem?_set_self hlt] at e2;cases e2
      · rw [List.getElem?_eq_none (by simpa using hlt)] at e2;cases e2
    · rw [List.getElem?_set_ne (Ne.symm hi)] at e2
      obtain⟨u',r',q⟩:=hlo i y v' e1 e2 e3
      refine⟨u',r',?_⟩
      rcases q with ⟨k,e⟩|⟨k,c,e,z⟩
      · refine .inl ⟨k,?_⟩
        have:y≠n:=fun e=>hi (sh hN e1 (e ▸ hj))
        simp [this,e]
      · exact .inr ⟨k,c,e,z.sameBut hs (I.cne y c e)⟩
  · obtain⟨w',z⟩:=I.cell y c e
    exact⟨w',z.sameBut hs (I.cne y c e)⟩
  · obtain⟨e,n,ne,nf,d⟩:=I.pin p hp
    exact⟨(hs.2 p.1 ne).trans e,n,ne,nf,d⟩
  · refine (I.hok b u e).stay (fun c w' hc q=>(hs.2 c ?_).trans q) (fun _ q=>q) fun _ _ q=>q
    rintro rfl
    rcases hc with z|z
    · rw [← z,I.free] at e;cases e
    · rw [I.free] at z;cases z
abbrev Cx.sui (X:Cx) (a:Addr):Cx:={ X with A:=X.A.mark (some (.ref a)),calm:=false,xe:=fun _ _=>False }
theorem Inv.marked (I:Inv X pins σ H s)(a:Addr):Inv (X.sui a) pins σ H s :=
  ⟨⟨I.ok.mod,I.ok.kind,I.ok.glob,I.ok.blt,I.ok.above,I.ok.inj,I.ok.has,I.ok.cab,(fun z=>by cases z),I.ok.frames,I.ok.stk,I.ok.exf,I.ok.bs,I.ok.bsz,I.ok.noex,I.ok.exfs,I.ok.funs,I.ok.frf⟩,I.os,I.bare,I.base,I.loc,I.cell,I.free,I.freeC,I.pin,I.hok,I.len⟩
theorem Inv.unmark (hh:X.calm=true→X.A.handled=none){a:Addr}(I:Inv (X.sui a) pins σ H s):Inv X pins σ H s :=
  ⟨⟨I.ok.mod,I.ok.kind,I.ok.glob,I.ok.blt,I.ok.above,I.ok.inj,I.ok.has,I.ok.cab,hh,I.ok.frames,I.ok.stk,I.ok.exf,I.ok.bs,I.ok.bsz,I.ok.noex,I.ok.exfs,I.ok.funs,I.ok.frf⟩,I.os,I.bare,I.base,I.loc,I.cell,I.free,I.freeC,I.pin,I.hok,I.len⟩
abbrev Cx.pin (X:Cx) (q:List (Addr × Obj)):Cx:={ X with pn:=q }
theorem Inv.pinq (I:Inv X pins σ H s):Inv (X.pin (X.pn++pins)) [] σ H s :=
  ⟨⟨I.ok.mod,I.ok.kind,I.ok.glob,I.ok.blt,I.ok.above,I.ok.inj,I.ok.has,I.ok.cab,I.ok.hd,I.ok.frames,I.ok.stk,I.ok.exf,I.ok.bs,I.ok.bsz,I.ok.noex,I.ok.exfs,I.ok.funs,I.ok.frf⟩,I.os,I.bare,I.base,I.loc,I.cell,I.free,I.freeC,fun p hp=>I.pin p (by simpa using hp),I.hok,I.len⟩
theorem Inv.unpin {pins':List (Addr × Obj)}(I:Inv (X.pin (X.pn++pins)) pins' σ H s):Inv X pins σ H s :=
  ⟨⟨I.ok.mod,I.ok.kind,I.ok.glob,I.ok.blt,I.ok.above,I.ok.inj,I.ok.has,I.ok.cab,I.ok.hd,I.ok.frames,I.ok.stk,I.ok.exf,I.ok.bs,I.ok.bsz,I.ok.noex,I.ok.exfs,I.ok.funs,I.ok.frf⟩,I.os,I.bare,I.base,I.loc,I.cell,I.free,I.freeC,fun p hp=>I.pin p (List.mem_append_left _ hp),I.hok,I.len⟩
end
section
variable {X:Cx} {body:List Stmt} {x n c:Str} {M:Addr} {i j:Nat} {np cp vp ap hp pos:Pos} {tb:(Addr→Hp→Prop)→TS}
end
end L2
namespace Fm
@[simp] def sW (c:String):SF:=fun σ h=>.exc (.exn c []) σ h
@[simp] def qP (t:TF) (a b:SF):SF:=fun σ h=>match t σ h with | .ok c h'=>if c then a σ h' else b σ h'|_=>.bad
end Fm
set_option Elab.async false
set_option linter.all false
set_option maxRecDepth 100000
namespace Fm
open PySem PySem.Spec L2 PyProof.Rows
section
variable (K:PySem.W.Frag) (mg:Str→Option Value)
def fV (ρ:List Addr) (H:Hp) (o:Out) (E:Addr→Hp→Prop) (En:sj):Prop:=match o with
  | .exc x _ hd=>∃ c l C,x=.exn c l∧mg (Str.ofString c)=some (.ref C) ∧ ∀ H' ρ',Ext ρ H ρ' H'→RH K ρ' H' hd→E C H'
  | .nx σ hd=>bU K ρ H (.nx σ hd) En
  | .rt d hd=>bU K ρ H (.rt d hd) En
  | .bk σ hd=>bU K ρ H (.bk σ hd) En
  | .ct σ hd=>bU K ρ H (.ct σ hd) En
  | .bad=>False
def AS (E:Addr→Hp→Prop) (f:SF):TS:=fun En σ H=>∃ ρ σd hd,RS K ρ H σd hd σ ∧ fV K mg ρ H (f σd hd) E En
def spX (F:Fn) (np:Nat):Sp:=fun vs H _ E=>∃ ρ hd ds,RH K ρ H hd∧RDs K ρ H ds vs∧ds.length=np ∧
  ∃ c l hd' C,F ds hd=.exc (.exn c l) hd'∧mg (Str.ofString c)=some (.ref C) ∧ ∀ H' ρ',Ext ρ H ρ' H'→RH K ρ' H' hd'→E (.ref C) none H'
end
section
variable {K:PySem.W.Frag} {mg:Str→Option Value} {ρ ρ':List Addr} {H H':Hp} {E:Addr→Hp→Prop} {En:sj}
theorem fV.ext {o:Out}(e:Ext ρ H ρ' H')(p:fV K mg ρ H o E En):fV K mg ρ' H' o E En:=by
  cases o with
  | exc x σ hd=>obtain⟨c,l,C,h1,h2,h3⟩:=p;exact⟨c,l,C,h1,h2,fun H2 ρ2 e2 r=>h3 H2 ρ2 (e.trans e2) r⟩
  | nx σ hd=>exact bU.ext (o:=.nx σ hd) e p
  | rt d hd=>exact bU.ext (o:=.rt d hd) e p
  | bk σ hd=>exact bU.ext (o:=.bk σ hd) e p
  | ct σ hd=>exact bU.ext (o:=.ct σ hd) e p
  | bad=>exact p
theorem Ext.sm {H2:Hp}(e:Ext ρ H ρ' H')(s:jU H' H2):Ext ρ H ρ' H2:=⟨e.pre,e.new,fun q u h n=>s q u (e.frame q u h n)⟩
end
abbrev Wi:=(Addr→Hp→Prop)→Value→Shared→Prop
def MX (X:Cx) (R:Wi) (s:Stmt) (f:SF):Prop:=∀ E,PS (X.wish (R E)) s (AS X.K X.mg E f)
def MXs (X:Cx) (R:Wi) (s:List Stmt) (f:SF):Prop:=∀ E,PSs (X.wish (R E)) s (AS X.K X.mg E f)
structure Ro (P:Program) (w:World) (K:PySem.W.Frag) (mg:Str→Option Value) (base:Heap) (x:Str) (k np:Nat) (F:Fn):Prop where
  ex:∃ f fd ps,mg x=some (.ref f)∧PySem.W.keepIn K (.ref f)=true∧mm K fd ps []∧cf P w K mg base (CX1 P w) k f fd ps (spX K mg F np)
section
variable {X:Cx} {R:Wi} {pos p:Pos}
theorem JD {n:String}{C:Addr}{bm:List Value}{B newId initId:String}{np cpos cp:Pos}{txt:Str}{j}(O:OwnCls (Str.ofString n) C bm newId X.mg X.base)(FB:ExcBaseFacts B newId initId bm)(hc:X.calm=true)(hg:Gl X (Str.ofString n))
    (hdb:(Str.ofString n == ("__debug__" : Str))=false:=by decide):MX X (XP X) (.Raise (some (.Call (.Name (Str.ofString n) np) [.Constant (.str txt) j cp] [] cpos)) none pos) (sW n):=fun E=>by
  refine PS.imp (JC O FB hc hg (cC Ii eU) hdb) fun En σ H ⟨ρ,σd,hd,rs,q⟩ => ?_
  obtain⟨c,l,C',h1,h2,h3⟩:=q
  cases h1
  rw [O.bound] at h2;cases h2
  exact⟨by show 1≤sizeLine;decide,h3 H ρ Ext.refl rs.hp⟩
end
section
variable {P:Program} {w:World} {K:PySem.W.Frag} {mg:Str→Option Value} {base:Heap}
end
end Fm
set_option Elab.async false
set_option linter.all false
set_option maxRecDepth 100000
namespace Fm
open PySem PySem.Spec L2 PyProof.Rows
def iI:V→Value | .ref a=>.ref a | .ty n=>.type n|_=>.none
def JE:V→Bool | .ref _=>true | .ty _=>true|_=>false
theorem L8 {v:V}{u:Value}(h:JE v=true)(r:bR v u):u=iI v:=by
  cases v<;>first|exact r|cases h
section
variable {X:Cx} {pos p:Pos}
def Ra (K:PySem.W.Frag):List V→Hp→VK→Prop:=fun xs H Q=>∃ a C v b,xs=[.ref a,v]∧JE v=true∧H a=some (sE a C)∧uW K C∧PySem.W.kitOne K (.ref C) (iI v)=some b∧Q (.bl b) H
theorem JF:iZ X (.builtin "isinstance") (Ra X.K):=by
  rintro pins s σ H xs us Q I r ⟨a,C,v,b,rfl,hc,ha,Z,e,q⟩
  obtain⟨u,u2,rfl,ru,ru2⟩:=bj.two r
  cases (show u=Value.ref a from ru)
  rw [L8 hc ru2]
  have p0:=(I.hok a _ ha).1
  exact PySem.W.kia_one (OO Z) I.kIn p0 e (by intro z;cases z) fun tk=>⟨.bl b,H,I.tok tk,rfl,q⟩
end
end Fm
set_option Elab.async false
set_option linter.all false
set_option maxRecDepth 100000
namespace Fm
open PySem PySem.Spec L2 PyProof.Rows
abbrev Rb:List Value:=[.type "ValueError",.type "Exception",.type "BaseException",.type "object"]
theorem OQ {K:PySem.W.Frag}{h:Heap}{mg:Str→Option Value}{x:Str}{C:Addr}{bm:List Value}{id:String}(X:K.In h)(e:mg x=some (.ref C))(q:PySem.W.excIn K C bm id=true):OwnCls x C bm id mg h:=by
  refine⟨e,?_⟩
  unfold PySem.W.excIn at q;split at q
  · rename_i dd cd sl ho;split at q
    · rename_i C' bm' k0 k1 k2 k3 n k5 hm hs
      simp only [Bool.and_eq_true,beq_iff_eq,Bool.not_eq_true'] at q;obtain⟨⟨⟨⟨⟨rfl,rfl⟩,hdel⟩,ht⟩,hok⟩,hni⟩:=q
      obtain⟨nm,bs,mro,ns,qn,hd,sn,sub,ab,col,del⟩:=cd
      dsimp only at hm hdel hok hni;subst hm hdel
      have hsl:sl = #[k0,k1,k2,k3,some (.builtin n),k5]:=by obtain⟨l⟩:=sl;simp only at hs;rw [hs]
      subst hsl
      exact⟨bm',ns,nm,qn,bs,hd,sn,sub,ab,col,dd,k0,k1,k2,k3,k5,_,X _ _ ho,.of_isNs (PySem.W.isNs_of_in X hok),PySem.W.nsMap_none_of_in X hok hni,PySem.W.tail_of_in X ht⟩
    · cases q
  · cases q
end Fm
namespace Fm
def noX {α : Type}:Res α → Res α
  | .exc _ _=>.bad
  | r=>r
def fPl {α : Type} (f:Sd→Hd→Res α):Sd→Hd→Res α := fun σ h=>noX (f σ h)
def sPl (f:SF):SF:=fun σ h=>match f σ h with | .exc _ _ _=>.bad|o=>o
end Fm
set_option Elab.async false
set_option linter.all false
set_option maxRecDepth 100000
namespace L2
open PySem PySem.Spec PyProof.Rows
theorem Qp {X:Cx}{E:XK}{E':Addr→Hp→Prop}(h:∀ C H,E (.ref C) none H→E' C H)(hR:∀ e s',XF X E' e s'→X.xe e s'):sA (CX1 X.prog X.w) X E:=by
  intro pins σ H s e s' I q
  have:=Qo (X:=X) (R:=X.xe) h hR pins σ H s e s' (I.wish _) q
  exact this
end L2
namespace Fm
open PySem PySem.Spec L2 PyProof.Rows
section
variable (K:PySem.W.Frag) (mg:Str→Option Value)
def XC (ρ:List Addr) (H:Hp) (E:Addr→Hp→Prop) (x:D) (hd:Hd):Prop:=∃ c l C,x=.exn c l∧mg (Str.ofString c)=some (.ref C) ∧ ∀ H' ρ',Ext ρ H ρ' H'→RH K ρ' H' hd→E C H'
def hW {α β : Type} (R:VR α β) (ρ:List Addr) (H:Hp) (σd:Sd) (σ:L2.St) (r:Res α) (E:Addr→Hp→Prop) (Q : β → Hp→Prop):Prop:=match r with
  | .ok a hd'=>∀ b H' ρ',Ext ρ H ρ' H'→RS K ρ' H' σd hd' σ → R ρ' H' a b→Q b H'
  | .exc x hd'=>XC K mg ρ H E x hd'
  | .bad=>False
def Np {α β : Type} (R:VR α β) (E:Addr→Hp→Prop) (f:Sd→Hd→Res α):L2.St→Hp→(β → Hp→Prop)→Prop:=fun σ H Q=>∃ ρ σd hd,RS K ρ H σd hd σ ∧ hW K mg R ρ H σd σ (f σd hd) E Q
def spY (F:Fn) (np:Nat):Sp:=fun vs H Q E=>∃ ρ hd ds,RH K ρ H hd∧RDs K ρ H ds vs∧ds.length=np∧match F ds hd with
  | .ok d hd'=>∀ v H' ρ',Ext ρ H ρ' H'→RH K ρ' H' hd'→RD K ρ' H' d v→Q v H'
  | .exc x hd'=>XC K mg ρ H (fun C H'=>E (.ref C) none H') x hd'
  | .bad=>False
end
section
variable {K:PySem.W.Frag} {mg:Str→Option Value} {ρ ρ':List Addr} {H H':Hp} {E:Addr→Hp→Prop} {σd:Sd} {σ:L2.St} {hd:Hd} {α β α' β':Type} {R:VR α β} {R':VR α' β'}
theorem XC.ext {x:D}(e:Ext ρ H ρ' H')(p:XC K mg ρ H E x hd):XC K mg ρ' H' E x hd:=by
  obtain⟨c,l,C,h1,h2,h3⟩:=p
  exact⟨c,l,C,h1,h2,fun H2 ρ2 e2 r=>h3 H2 ρ2 (e.trans e2) r⟩
theorem hW.ext {r:Res α}{Q : β → Hp→Prop}(e:Ext ρ H ρ' H')(h:hW K mg R ρ H σd σ r E Q):hW K mg R ρ' H' σd σ r E Q:=by
  cases r with
  | ok a h'=>exact fun b H2 ρ2 e2 s q=>h b H2 ρ2 (e.trans e2) s q
  | exc x h'=>exact XC.ext e h
  | bad=>exact h
theorem hW.imp {r:Res α}{Q Q' : β → Hp→Prop}(h:hW K mg R ρ H σd σ r E Q)(i:∀ b H',Q b H'→Q' b H'):hW K mg R ρ H σd σ r E Q':=by
  cases r with
  | ok a h'=>exact fun b H' ρ' e s q=>i b H' (h b H' ρ' e s q)
  | exc x h'=>exact h
  | bad=>exact h
theorem hW.bind {r:Res α}{k : α → Hd→Res α'}{Q : β'→Hp→Prop}(h:hW K mg R' ρ H σd σ (r.bind k) E Q) :
    hW K mg R ρ H σd σ r E (fun b H'=>∃ ρ' a hd',Ext ρ H ρ' H'∧RS K ρ' H' σd hd' σ ∧ R ρ' H' a b∧hW K mg R' ρ' H' σd σ (k a hd') E Q):=by
  cases r with
  | ok a h'=>exact fun b H' ρ' e s q=>⟨ρ',a,h',e,s,q,hW.ext e h⟩
  | exc x h'=>exact h
  | bad=>exact h
theorem fV.outE {r:Res D}{k:D→Hd→Out}{En:sj}(p:fV K mg ρ H (outE r σd k) E En) :
    hW K mg (rD K) ρ H σd σ r E (fun v H'=>∃ ρ' d hd',Ext ρ H ρ' H'∧RS K ρ' H' σd hd' σ ∧ RD K ρ' H' d v∧fV K mg ρ' H' (k d hd') E En):=by
  cases r with
  | ok d h'=>exact fun b H' ρ' ex rs q=>⟨ρ',d,h',ex,rs,q,fV.ext ex p⟩
  | exc x h'=>exact p
  | bad=>exact p
theorem hW.of_pl {r:Res α}{Q : β → Hp→Prop}(p:hW K mg R ρ H σd σ (noX r) E Q):cj K R ρ H σd σ r Q:=by
  cases r with
  | ok a h'=>exact p
  | exc x h'=>exact p
  | bad=>exact p
end
def NE (X:Cx) (E:Addr→Hp→Prop) (e:Expr) (f:EF):Prop:=PE X e (Np X.K X.mg (rD X.K) E f)
def NA (X:Cx) (E:Addr→Hp→Prop) (es:List Expr) (f:LF):Prop:=PA X es (Np X.K X.mg (rDs X.K) E f)
def NS (X:Cx) (E:Addr→Hp→Prop) (s:Stmt) (f:SF):Prop:=PS X s (AS X.K X.mg E f)
def NSs (X:Cx) (E:Addr→Hp→Prop) (s:List Stmt) (f:SF):Prop:=PSs X s (AS X.K X.mg E f)
structure oV (P:Program) (w:World) (K:PySem.W.Frag) (mg:Str→Option Value) (base:Heap) (x:Str) (k np:Nat) (F:Fn):Prop where
  ex:∃ f fd ps,mg x=some (.ref f)∧PySem.W.keepIn K (.ref f)=true∧mm K fd ps []∧cf P w K mg base (CX1 P w) k f fd ps (spY K mg F np)
section
variable {X:Cx} {E:Addr→Hp→Prop} {pos p:Pos}
theorem Nd {e:Expr}{f:EF}(h:ME X e f):NE X E e (fPl f):=PE.imp h fun σ H Q ⟨ρ,σd,hd,rs,q⟩=>⟨ρ,σd,hd,rs,q.of_pl⟩
theorem Fs {es:List Expr}{f:LF}(h:MA X es f):NA X E es (fPl f):=PA.imp h fun σ H Q ⟨ρ,σd,hd,rs,q⟩=>⟨ρ,σd,hd,rs,q.of_pl⟩
theorem rR {x:Str}{k np:Nat}{F:Fn}{e:Expr}{es:List Expr}{r:LF}(hd:oV X.prog X.w X.K X.mg X.base x k np F)(hr:iC k X.A)(hg:Gl X x)(ha:NA X E (e :: es) r)(hR:∀ v s',XF X E v s'→X.xe v s')
    (hnp:∀ ds h,F ds h ≠ .bad→ds.length=np) (hdb:(x == ("__debug__" : Str))=false:=by decide) (he:starEach (e :: es) X.env=(false,eval e X.env) :: starEach es X.env:=by rfl) (hpl:(backTo pos (starEach es X.env)).any (·.1)=false:=by rfl) :
    NE X E (.Call (.Name x p) (e :: es) [] pos) (ao F r):=by
  obtain⟨f,fd,ps,h1,h2,h3,h4⟩:=hd.ex
  refine PE.imp (E8 (E:=fun v _ H=>∃ C,v=.ref C∧E C H) h4 hr hg h1 h2 h3 .nil (Qp (E':=E) (fun C H ⟨C',e,q⟩=>by cases e;exact q) hR) ha hdb he hpl) fun σ H Q ⟨ρ,σd,hd,rs,pp⟩=>⟨ρ,σd,hd,rs,(hW.bind (R:=rDs X.K) pp).imp fun vs H1 ⟨ρ1,ds,hd1,e1,rs1,rv,p1⟩ => ?_⟩
  rw [List.append_nil]
  refine⟨ρ1,hd1,ds,rs1.hp,rv,?_,?_⟩
  · refine hnp ds hd1 fun z => ?_
    rw [z] at p1;exact p1
  · cases c:F ds hd1 with
    | bad=>rw [c] at p1;exact p1
    | exc z h' =>
      rw [c] at p1
      obtain⟨cn,l,C,q1,q2,q3⟩:=p1
      exact⟨cn,l,C,q1,q2,fun H2 ρ2 e2 r2=>⟨C,rfl,q3 H2 ρ2 e2 r2⟩⟩
    | ok d hd2 =>
      rw [c] at p1
      exact fun v H' ρ' ex rh rd=>p1 v H' ρ' ex (rs1.ext ex rh) rd
theorem rS {np n:Nat}{b:SF}:∀ ds h,bE np n b ds h ≠ .bad→ds.length=np:=by
  intro ds h e
  unfold bE at e
  split at e
  · assumption
  · exact absurd rfl e
theorem AT {s:Stmt}{f:SF}(h:MS X s f):NS X E s (sPl f):=PS.imp h fun En σ H ⟨ρ,σd,hd,rs,q⟩=>⟨ρ,σd,hd,rs,by
  unfold sPl at q
  cases e:f σd hd<;>rw [e] at q<;>exact q⟩
theorem Ma:NSs X E [] bD:=PSs.imp xU fun En σ H ⟨ρ,σd,hd,rs,p⟩=>p σ H ρ Ext.refl rs
theorem i3 {st:Stmt}{a:SF}(h:NS X E st a):NSs X E [st] a:=xV h
theorem nH {st:Stmt}{rest:List Stmt}{a b:SF}(h1:NS X E st a)(h2:NSs X E rest b):NSs X E (st :: rest) (aC a b):=by
  refine PSs.imp (As h1 h2) fun En σ H ⟨ρ,σd,hd,rs,q⟩=>⟨ρ,σd,hd,rs,?_⟩
  unfold aC at q
  cases e:a σd hd with
  | nx σ1 h1=>rw [e] at q;exact fun σ' H' ρ' ex rs'=>⟨ρ',σ1,h1,rs',fV.ext ex q⟩
  | rt d h1=>rw [e] at q;exact q
  | bk σ1 h1=>rw [e] at q;exact q
  | ct σ1 h1=>rw [e] at q;exact q
  | exc x σ1 h1=>rw [e] at q;exact q
  | bad=>rw [e] at q;exact q
theorem Nq {c:Expr}{a b:List Stmt}{t:TF}{fa fb:SF}(hc:MT X c t)(ha:NSs X E a fa)(hb:NSs X E b fb):NS X E (.If c a b pos) (qP t fa fb):=by
  refine PS.imp (Nf hc ha hb) fun En σ H ⟨ρ,σd,hd,rs,q⟩=>⟨ρ,σd,hd,rs,?_⟩
  unfold qP at q
  cases e:t σd hd with
  | exc x h'=>rw [e] at q;exact q
  | bad=>rw [e] at q;exact q
  | ok c h' =>
    rw [e] at q
    intro b H' ρ' ex rs' hb
    cases hb
    cases c with
    | true=>rw [if_pos rfl];exact⟨ρ',σd,h',rs',fV.ext ex q⟩
    | false=>rw [if_neg Bool.false_ne_true];exact⟨ρ',σd,h',rs',fV.ext ex q⟩
theorem OR {e:Expr}{f:EF}(h:NE X E e f):NS X E (.Return (some e) pos) (bc f):=by
  refine PS.imp (Ik h) fun En σ H ⟨ρ,σd,hd,rs,p⟩=>⟨ρ,σd,hd,rs,(fV.outE p).imp fun v H1 ⟨ρ1,d,hd1,e1,rs1,rv,p1⟩ => ?_⟩
  exact p1 v H1 ρ1 Ext.refl rs1.hp rv
theorem Ft {e:Expr}{f:EF}(h:NE X E e f)(hs:swapsWith e none pos.line X.env=pure false:=by rfl):NS X E (.Expr e pos) (eV f):=by
  refine PS.imp (E7 h hs) fun En σ H ⟨ρ,σd,hd,rs,p⟩=>⟨ρ,σd,hd,rs,(fV.outE p).imp fun v H1 ⟨ρ1,d,hd1,e1,rs1,rv,p1⟩ => ?_⟩
  exact p1 σ H1 ρ1 Ext.refl rs1
end
end Fm
set_option Elab.async false
set_option linter.all false
set_option maxRecDepth 100000
namespace L2
open PySem PySem.Spec PyProof.Rows
section
variable {X:Cx} {E:Addr→Hp→Prop} {e:Value} {s':Shared} {R:Value→Shared→Prop}
theorem Cov.unwish {pins:List (Addr × Obj)}{H:Hp}{B:Heap}(c:Cov (X.wish R) pins H B):Cov X pins H B:=⟨c.trk,c.old,c.pin⟩
theorem XF.unwish (h:XF (X.wish R) E e s'):XF X E e s':=by
  obtain⟨pins,σ,H,a,C,B,t,he,I,fl,c,q⟩:=h
  exact⟨pins,σ,H,a,C,B,t,he,I.unwish,fl,c.unwish,q⟩
theorem PS.xe {st:Stmt}{t:TS}(hx:∀ e s',R e s'→X.xe e s')(h:PS (X.wish R) st t):PS X st t:=fun pins s σ H D I hw =>
  wpAny_mono (h pins s σ H D (I.wish _) hw) (fun _ _ q=>q.unwish) hx
end
end L2
namespace Fm
open PySem PySem.Spec L2 PyProof.Rows
section
variable {X:Cx} {E:Addr→Hp→Prop} {pos p:Pos}
theorem JG {n:String}{C:Addr}{bm:List Value}{B newId initId:String}{np cpos cp:Pos}{txt:Str}{j}(O:OwnCls (Str.ofString n) C bm newId X.mg X.base)(FB:ExcBaseFacts B newId initId bm)(hc:X.calm=true)(hg:Gl X (Str.ofString n))(hx:∀ e s',XP X E e s'→X.xe e s')
    (hdb:(Str.ofString n == ("__debug__" : Str))=false:=by decide):NS X E (.Raise (some (.Call (.Name (Str.ofString n) np) [.Constant (.str txt) j cp] [] cpos)) none pos) (sW n):=PS.xe hx (JD O FB hc hg hdb E)
end
section
variable {P:Program} {w:World} {K:PySem.W.Frag} {mg:Str→Option Value} {base:Heap}
def AU (K:PySem.W.Frag) (mg:Str→Option Value) (ρ:List Addr) (H:Hp) (r:Res D) (E:XK) (Q:VK):Prop:=match r with
  | .ok d hd'=>∀ v H' ρ',Ext ρ H ρ' H'→RH K ρ' H' hd'→RD K ρ' H' d v→Q v H'
  | .exc x hd'=>XC K mg ρ H (fun C H'=>E (.ref C) none H') x hd'
  | .bad=>False
theorem AU.letGo {ρ:List Addr}{H:Hp}{hd:Hd}{r:Res D}{E:XK}{Q:VK}(rh:RH K ρ H hd)(p:AU K mg ρ H (letGo hd r) E Q):AU K mg ρ H r E Q:=by
  cases r with
  | exc x h'=>exact p
  | bad=>exact p
  | ok d h' =>
    have q:nD K ρ H (Fm.letGo hd (.ok d h')) Q:=by
      simp only [Fm.letGo] at p ⊢
      split at p<;>rename_i c
      · rw [if_pos c];exact p
      · rw [if_neg c];exact p
    exact nD.letGo rh q
theorem Dc {x:Str}{st:Stmt}{f:Addr}{fd:FuncData}{N ps:List Str}{k:Nat}{b:SF}(F:Fun K x x st f fd)(S:aL N ps (aj st))
    (body:∀ (cdv:Value) (A:Around) (outer:List Env) (s:Shared) (H:Hp) (E:XK),iC k (A.deeper (envOfC x (aj st) s.heap.objs.size f cdv)) →
      NSs (qN (CX1 P w) P w K mg base N x (aj st) f cdv A outer s H E) (fun C H'=>E (.ref C) none H') (aH st) b) :
    cf P w K mg base (CX1 P w) (k + 1) f fd ps (spY K mg (bE ps.length N.length b) ps.length):=by
  obtain⟨oc,od,kV,doc,pm,an,cdv,ct,osl,rfl,lk,hcd⟩:=F.ex
  refine Ni lk hcd S (fun vs H Q E ⟨ρ,hd,ds,rh,rd,hl,p⟩=>by rw [← rd.length];exact hl) fun A outer s H vs Q E hr ⟨ρ,hd,ds,rh,rd,hl,p⟩=>⟨_,body cdv A outer s H E hr,ρ,_,hd,⟨rh,w6 rd⟩,?_⟩
  have p0:AU K mg ρ H (bE ps.length N.length b ds hd) E Q:=p
  unfold bE at p0
  rw [if_pos hl] at p0
  have p1:=AU.letGo rh p0
  unfold runB at p1
  cases e2:b (ds.map some++List.replicate (N.length - ds.length) none) hd with
  | nx σ1 h1=>rw [e2] at p1;exact fun σ' H' ρ' ex rs'=>p1 .non H' ρ' ex rs'.hp (by simp only [RD])
  | rt d h1=>rw [e2] at p1;exact p1
  | bk _ _=>rw [e2] at p1;exact p1.elim
  | ct _ _=>rw [e2] at p1;exact p1.elim
  | bad=>rw [e2] at p1;exact p1.elim
  | exc y σ1 h1=>rw [e2] at p1;exact p1
theorem oV.mk' {x:Str}{f:Addr}{fd:FuncData}{ps:List Str}{k np:Nat}{F:Fn}(hm:mg x=some (.ref f))(hk:PySem.W.keepIn K (.ref f)=true)(hb:mm K fd ps [])(h:cf P w K mg base (CX1 P w) k f fd ps (spY K mg F np)):oV P w K mg base x k np F:=⟨f,fd,ps,hm,hk,hb,h⟩
end
end Fm
set_option Elab.async false
set_option linter.all false
set_option maxRecDepth 100000
namespace Fm
open PySem PySem.Spec L2 PyProof.Rows
section
variable {X:Cx} {pos p:Pos}
end
end Fm
namespace Fm
def AV (n i:Nat) (cs:List String) (b:SF):SF:=fun σ h=>match b σ h with
  | .nx σ' h'=>.nx σ' h'
  | .exc (.exn c []) _ h'=>if c∈cs then .nx ((List.replicate n none).set i (some (.exn c []))) h' else .bad
  | _=>.bad
def isX (tb:List (String × Bool)):D→Option Bool
  | .exn c _=>tb.lookup c
  | _=>none
def ge (tb:List (String × Bool)) (a:EF):EF:=fun σ h=>(a σ h).bind fun x h=>match isX tb x with|some b=>.ok (.bl b) h|none=>.bad
end Fm
set_option Elab.async false
set_option linter.all false
set_option maxRecDepth 100000
namespace L2
open PySem PySem.Spec PyProof.Rows
def Qq (K:PySem.W.Frag) (M:Addr) (i L:Nat) (tb:(Addr→Hp→Prop)→TS):TS:=fun D σ H=>∃ E:Addr→Hp→Prop,tb E { nx:=D.nx,rt:=fun _ _=>False } σ H ∧
  ∀ C H' a σ',E C H'→H' a=none → σ'.length=L → σ'[i]? = some (some (.ref a))→PySem.W.subIn K (.ref C) (.ref M)=some true∧D.nx σ' (upd H' a (sE a C))
section
variable {X:Cx} {body:List Stmt} {x n c:Str} {M:Addr} {i j:Nat} {np cp vp ap hp pos:Pos} {tb:(Addr→Hp→Prop)→TS}
theorem Gs (hb:∀ q E,PSs ((X.pin q).wish (XF (X.pin q) E)) body (tb E))(hxe:X.xe=fun _ _=>False)(hstk:X.stack=X.env :: X.outer)(hfr:X.env.frame=some X.env.locals)(hm:X.mg x=some (.ref M))(hg:Gl X x)
    (hbe:PySem.W.subIn X.K (.ref M) (.type "BaseException")=some true) (his:(PySem.W.clsIn X.K M).isSome=true) (hty:PySem.W.typeIn X.K (.ref M)=some (.type "type")) (hN:X.N.Nodup) (hij:i≠j) (hj:X.N[j]? = some n) (hjl:X.env.scope.names.lookup n=some .local)
    (hi:X.N[i]? = some c) (hil:X.env.scope.names.lookup c=some .local) (hdb:(x == ("__debug__" : Str))=false:=by decide) (hd1:(n == ("__debug__" : Str))=false:=by decide) (hd2:(n == ("__classdict__" : Str))=false:=by decide)
    (hs:swapsWith (.Name n vp) (some (.Name c cp)) ap.line X.env=pure false:=by rfl) :
    PS X (.Try body [.ExceptHandler (some (.Name x np)) (some n) [.Assign [.Name c cp] (.Name n vp) ap] hp] [] [] pos) (Qq X.K M i X.N.length tb):=by
  rintro pins s σ H D I ⟨E,h1,h2⟩
  refine wpAny_Try_except (wpAny_mono (hb (X.pn++pins) E [] s σ H _ ((I.pinq).wish _) h1) (fun f s1 q => ?_) (fun e s1 q => ?_))
  · cases f with
    | next=>obtain⟨σ1,H1,J,q⟩:=q;exact xU pins s1 σ1 H1 D J.unwish.unpin q
    | brk=>obtain⟨_,_,_,q⟩:=q;exact q.elim
    | cont=>obtain⟨_,_,_,q⟩:=q;exact q.elim
    | ret u=>obtain⟨_,_,_,_,_,q⟩:=q;exact q.elim
  · obtain⟨pins',σ',H',a,C,B,t,rfl,J,fl,cv,q⟩:=q
    have hf:X.A.frames=some (X.env :: X.outer):=by rw [← hstk];exact I.ok.frames
    have fl':Heap.FlyingW B (X.env :: X.outer) a (.ref C) (.ref t) s1.heap:=by rw [← hstk];exact fl
    have hn:H' a=none:=by
      cases e:H' a with
      | none=>rfl
      | some u=>obtain⟨o,z⟩:=cv.trk a u e;rw [fl.2.1] at z;cases z
    refine wpAny_looks_onW hf hfr fl' fun h4 hl4 sm4=>wpAny_landsW hl4 fun h5 fl5 sm5 => ?_
    have J5:=J.flown (h':=h5) fl.1 fl5.1 (sm4.trans sm5) cv s1.toks
    obtain⟨oe,vs,hoe,hcl,hdt,_⟩:=fl5.first
    have hw:∀ σ'',σ''.length=X.N.length → σ''[i]? = some (some (.ref a))→PySem.W.subIn X.K (.ref C) (.ref M)=some true∧D.nx σ'' (upd H' a (sE a C)):=fun σ'' e1 e2=>h2 C H' a σ'' q hn e1 e2
    have hls : σ'.length=X.N.length:=J.len
    have hit:i < X.N.length:=(List.getElem?_eq_some_iff.mp hi).1
    have hsub:PySem.W.subIn X.K (.ref C) (.ref M)=some true:=(hw (σ'.set i (some (.ref a))) (by simpa using hls) (by rw [List.getElem?_set_self (by omega)])).1
    refine wpAny_handleBy_cons (codeAny_handlers_test (Calls.Name_function_global J.ok.kind hg (Calls.loadGlobal_global (by rw [J.ok.glob];exact J5.mod.glob.keeps J5.bk) hm ?_) hdb)) (by intro q;cases q)
    refine JA J5.kIn ⟨hoe,hcl⟩ hsub hbe his hty (codeAny_handlers_suite_as ?_)
    refine lands_againW fl5 fun h6 fl6 sm6 => ?_
    have J6:=J5.flown (h':=h6) fl5.1 fl6.1 sm6 cv s1.toks
    have J7:=J6.exc (by rw [show (X.pin (X.pn++pins)).stack=X.env :: X.outer from hstk];exact fl6) cv
    refine si (X:=X.pin (X.pn++pins)) J7 hN hj (.inl hjl) (v:=.ref a) rfl (fun s8 J8 => ?_) (.inr hjl)
    have ps:PSs ((X.pin (X.pn++pins)).sui a) [.Assign [.Name c cp] (.Name n vp) ap] (NT (PB j) (Io i)):=xV (Ir hN hi (.inl hil) (Ig hj (.inl hjl) hd1 hd2) hs (.inr hil))
    refine wpAny_mono (ps pins' s8 _ _ { nx:=fun σ9 H9 => σ9=(σ'.set j (some (.ref a))).set i (some (.ref a))∧H9=upd H' a (sE a C),rt:=fun _ _=>False } (J8.marked a) ⟨.ref a,by rw [List.getElem?_set_self (by rw [J.len];exact (List.getElem?_eq_some_iff.mp hj).1)],rfl,rfl⟩) (fun f s9 q => ?_) (fun _ _ z=>z.elim)
    cases f with
    | brk=>obtain⟨_,_,_,q⟩:=q;exact q.elim
    | cont=>obtain⟨_,_,_,q⟩:=q;exact q.elim
    | ret u=>obtain⟨_,_,_,_,_,q⟩:=q;exact q.elim
    | next =>
      obtain⟨σ9,H9,J9,rfl,rfl⟩:=q
      refine Inv.goes (X:=X.pin (X.pn++pins)) (J9.unmark I.ok.hd) hN hj hjl fun s10 J10=>⟨_,_,J10.unpin,(hw _ ?_ ?_).2⟩
      · simpa using hls
      · rw [List.getElem?_set_ne (Ne.symm hij),List.getElem?_set_self (by simp only [List.length_set];omega)]
end
end L2
namespace Fm
open PySem PySem.Spec L2 PyProof.Rows
def ig (K:PySem.W.Frag) (f:Addr→Bool→Prop) (tb:List (String × Bool)):Prop:=∀ c b,(c,b)∈tb → ∃ C,PySem.W.nsIn K mainGlobals (Str.ofString c)=some (some (.ref C))∧uW K C∧f C b
theorem jm {K:PySem.W.Frag}{f:Addr→Bool→Prop}:ig K f []:=fun _ _ h=>absurd h (List.not_mem_nil)
theorem gx {K:PySem.W.Frag}{f:Addr→Bool→Prop}{c:String}{b:Bool}{tb:List (String × Bool)}{C:Addr}(n:PySem.W.nsIn K mainGlobals (Str.ofString c)=some (some (.ref C)))(Z:uW K C)(k:f C b)(r:ig K f tb):ig K f ((c,b) :: tb):=fun c' b' h=>by
  rcases List.mem_cons.mp h with e|e
  · cases e;exact⟨C,n,Z,k⟩
  · exact r c' b' e
theorem sX {c:String}{b:Bool}:∀ {tb:List (String × Bool)},tb.lookup c=some b→(c,b)∈tb
  | [],h=>by cases h
  | (c',b') :: r,h=>by
    rw [List.lookup_cons] at h
    cases e:c == c' with
    | true =>
      rw [e] at h
      have:=eq_of_beq e
      subst this
      cases h
      exact List.mem_cons_self
    | false=>rw [e] at h;exact List.mem_cons_of_mem _ (sX h)
def Gu (K:PySem.W.Frag) (mg:Str→Option Value) (M:Addr) (cs:List String):Prop:=∀ c∈cs,∃ C,mg (Str.ofString c)=some (.ref C)∧PySem.W.nsIn K mainGlobals (Str.ofString c)=some (some (.ref C))∧PySem.W.subIn K (.ref C) (.ref M)=some true
theorem OS {K:PySem.W.Frag}{mg:Str→Option Value}{M:Addr}:Gu K mg M []:=fun _ h=>absurd h (List.not_mem_nil)
theorem Mb {K:PySem.W.Frag}{mg:Str→Option Value}{M C:Addr}{c:String}{cs:List String}(g:mg (Str.ofString c)=some (.ref C))(n:PySem.W.nsIn K mainGlobals (Str.ofString c)=some (some (.ref C)))(s:PySem.W.subIn K (.ref C) (.ref M)=some true)(r:Gu K mg M cs):Gu K mg M (c :: cs):=fun c' h=>by
  rcases List.mem_cons.mp h with e|e
  · subst e;exact⟨C,g,n,s⟩
  · exact r c' e
section
variable {X:Cx} {pos p:Pos}
theorem OT {i j L:Nat}{c n x:Str}{M:Addr}{tb:List Stmt}{bt:SF}{cs:List String}{np cp vp ap hp:Pos}(hL:X.N.length=L)(hxe:X.xe=fun _ _=>False)(hb:∀ q,MXs (X.pin q) (XF (X.pin q)) tb bt)(hstk:X.stack=X.env :: X.outer)
    (hfr:X.env.frame=some X.env.locals) (hm:X.mg x=some (.ref M)) (hg:Gl X x) (hbe:PySem.W.subIn X.K (.ref M) (.type "BaseException")=some true) (his:(PySem.W.clsIn X.K M).isSome=true)
    (hty:PySem.W.typeIn X.K (.ref M)=some (.type "type")) (hN:X.N.Nodup) (hij:i≠j) (hj:X.N[j]? = some n) (hjl:X.env.scope.names.lookup n=some .local) (hi:X.N[i]? = some c) (hil:X.env.scope.names.lookup c=some .local)
    (hcs:Gu X.K X.mg M cs)
    (hdb:(x == ("__debug__" : Str))=false:=by decide) (hd1:(n == ("__debug__" : Str))=false:=by decide) (hd2:(n == ("__classdict__" : Str))=false:=by decide)
    (hs:swapsWith (.Name n vp) (some (.Name c cp)) ap.line X.env=pure false:=by rfl) :
    MS X (.Try tb [.ExceptHandler (some (.Name x np)) (some n) [.Assign [.Name c cp] (.Name n vp) ap] hp] [] [] pos) (AV L i cs bt):=by
  refine PS.imp (Gs (tb:=fun E=>AS X.K X.mg E bt) (fun q E=>hb q E) hxe hstk hfr hm hg hbe his hty hN hij hj hjl hi hil hdb hd1 hd2 hs) fun En σ H ⟨ρ,σd,hd,rs,pp⟩ => ?_
  unfold AV at pp
  cases e:bt σd hd with
  | nx σ1 h1=>rw [e] at pp;exact⟨fun _ _=>False,⟨ρ,σd,hd,rs,by rw [e];exact pp⟩,fun _ _ _ _ z=>z.elim⟩
  | rt _ _=>rw [e] at pp;exact pp.elim
  | bk _ _=>rw [e] at pp;exact pp.elim
  | ct _ _=>rw [e] at pp;exact pp.elim
  | bad=>rw [e] at pp;exact pp.elim
  | exc y σ1 h1 =>
    rw [e] at pp
    cases y with
    | exn cn l =>
      cases l with
      | cons _ _=>exact pp.elim
      | nil =>
        simp only at pp
        split at pp
        · rename_i hcn
          obtain⟨C,m1,m2,m3⟩:=hcs cn hcn
          refine⟨fun C' H'=>C'=C ∧ ∃ ρ',Ext ρ H ρ' H'∧RH X.K ρ' H' h1,⟨ρ,σd,hd,rs,by rw [e];exact⟨cn,[],C,rfl,m1,fun H' ρ' ex r=>⟨rfl,ρ',ex,r⟩⟩⟩,?_⟩
          rintro C' H' a σ' ⟨rfl,ρ',ex,r⟩ hn hl hi'
          refine⟨m3,pp σ' _ ρ' (ex.sm (cy hn)) ⟨r.same (cy hn),?_,fun k d hk => ?_⟩⟩
          · rw [List.length_set,List.length_replicate,hl,hL]
          · by_cases hki:k=i
            · subst hki
              have hlt:k < L:=by rw [← hL];exact (List.getElem?_eq_some_iff.mp hi).1
              simp only [slot,List.getElem?_set_self (show k < (List.replicate L (none:Option D)).length by rw [List.length_replicate];exact hlt)] at hk
              cases hk
              exact⟨.ref a,hi',by simp only [RD];exact⟨trivial,a,C',rfl,bf,m2⟩⟩
            · exfalso
              simp only [slot,List.getElem?_set_ne (Ne.symm hki)] at hk
              by_cases hlt:k < L
              · rw [List.getElem?_replicate_of_lt hlt] at hk;cases hk
              · rw [List.getElem?_eq_none (by rw [List.length_replicate];omega)] at hk;cases hk
        · exact pp.elim
    | _=>exact pp.elim
theorem gy {tb:List (String × Bool)} {a:Expr} {fa:EF} {n:Str} {p2:Pos} {v:V} (hc:JE v=true) (hg:Gl X "isinstance") (hm:X.mg "isinstance" = none) (hv:PE X (.Name n p2) (tC v))
    (htb:ig X.K (fun C b=>PySem.W.kitOne X.K (.ref C) (iI v)=some b) tb) (ha:ME X a fa)
    (hs:starEach [a,.Name n p2] X.env=(false,eval a X.env) :: starEach [.Name n p2] X.env:=by rfl) (hs2:starEach [.Name n p2] X.env=(false,eval (.Name n p2) X.env) :: starEach [] X.env:=by rfl) :
    ME X (.Call (.Name "isinstance" p) [a,.Name n p2] [] pos) (ge tb fa):=by
  refine PE.imp (jy JF hg hm (by decide +kernel) (cC ha (cC hv eU hs2) hs) (he:=hs)) fun σ H Q ⟨ρ,σd,hd,rs,pp⟩=>⟨ρ,σd,hd,rs,(cj.bind (R:=rD X.K) pp).imp fun v1 H1 ⟨ρ1,d,hd1,e1,rs1,rv,p1⟩ => ?_⟩
  cases d<;>try exact p1.elim
  rename_i c l
  simp only [isX] at p1
  cases e:tb.lookup c with
  | none=>rw [e] at p1;exact p1.elim
  | some b =>
    rw [e] at p1
    simp only [rD,RD] at rv
    obtain⟨rfl,q,C,rfl,hq,hn⟩:=rv
    obtain⟨C',n',Z,k⟩:=htb c b (sX e)
    rw [hn] at n'
    cases n'
    exact⟨q,C,v,b,rfl,hc,hq,Z,k,p1.here rs1 (by simp only [rD,RD])⟩
end
end Fm
namespace Fm
@[simp] noncomputable def oW (nl:Nat) (caps:List Nat) (it:IF) (tg:GF) (cs:List TF) (e:EF):LF:=fun σ h=>(it σ h).bind fun p h=>noX (cx p.2 p.1 tg cs e p.1 (fQ nl caps σ) h)
def ltT:D→D→Option Bool
  | .tup xs,.tup ys=>match fO xs,fO ys with
    | some ns,some ms=>some (lexLt ns ms)
    | _,_=>none
  | _,_=>none
@[simp] def qQ:O2:=fun x y h=>match ltT x y with|some b=>.ok (.bl b) h|none=>.bad
end Fm
set_option Elab.async false
set_option linter.all false
set_option maxRecDepth 100000
namespace Fm
open PySem PySem.Spec L2 PyProof.Rows
section
variable (K:PySem.W.Frag) (mg:Str→Option Value)
def OU (ρ:List Addr) (H:Hp) (σd:Sd) (σ:L2.St) (r:Res (List D × Option Nat)) (E:Addr→Hp→Prop) (R:It→Hp→Prop):Prop:=match r with
  | .ok p hd'=>∀ J H' ρ',Ext ρ H ρ' H'→RS K ρ' H' σd hd' σ → oR K ρ' H' J p.1 p.2→R J H'
  | .exc x hd'=>XC K mg ρ H E x hd'
  | .bad=>False
def OV (E:Addr→Hp→Prop) (f:IF):TI:=fun σ H R=>∃ ρ σd hd,RS K ρ H σd hd σ ∧ OU K mg ρ H σd σ (f σd hd) E R
def OW (ρ:List Addr) (H:Hp) (σd:Sd) (σ:L2.St) (r:Res (List D)) (E:Addr→Hp→Prop) (Q:VK):Prop:=match r with
  | .ok l hd'=>∀ q vs H' ρ',Ext ρ H ρ' H'→RS K ρ' H' σd hd' σ → H q=none→H' q=some (.lst vs)→q ∉ ρ'→RDs K ρ' H' l vs→Q (.ref q) H'
  | .exc x hd'=>XC K mg ρ H E x hd'
  | .bad=>False
def OX (E:Addr→Hp→Prop) (f:LF):TE:=fun σ H Q=>∃ ρ σd hd,RS K ρ H σd hd σ ∧ OW K mg ρ H σd σ (f σd hd) E Q
end
def NIt (X:Cx) (E:Addr→Hp→Prop) (tg e:Expr) (f:IF):Prop:=PI X tg e (OV X.K X.mg E f)
def NF (X:Cx) (E:Addr→Hp→Prop) (e:Expr) (f:LF):Prop:=PE X e (OX X.K X.mg E f)
section
variable {X:Cx} {E:Addr→Hp→Prop} {pos p:Pos} {scope:Scope} {own capn:List Str} {caps:List Nat}
theorem JH {tg e:Expr}{f:EF}(h:NE X E e f):NIt X E tg e (dQ f):=by
  refine PI.imp (IU h) fun σ H R ⟨ρ,σd,hd,rs,p⟩=>⟨ρ,σd,hd,rs,?_⟩
  unfold dQ at p
  cases e:f σd hd with
  | exc x h1=>rw [e] at p;exact p
  | bad=>rw [e] at p;exact p
  | ok d hd1 =>
    rw [e] at p
    simp only [aG] at p
    intro v H1 ρ1 ex1 rs1 rv
    cases d<;>try exact p.elim
    · rename_i l
      simp only [rD,RD] at rv
      obtain⟨q,vs,rfl,hq,rvs⟩:=rv
      exact .inr ⟨q,vs,rfl,SqT.of hq,fun hz=>p _ H1 ρ1 ex1 rs1 (AC rs1.hp hq rvs hz)⟩
    · rename_i n
      simp only [rD,RD] at rv
      obtain⟨a,ha,rfl⟩:=rv
      cases c:hd1[n]? with
      | none=>simp only [c] at p;exact p.elim
      | some cell =>
        cases cell with
        | dct l=>simp only [c] at p;exact p.elim
        | lst l =>
          simp only [c] at p
          obtain⟨vs,hv,rvs⟩:=rs1.hp.cel n _ a c ha
          exact .inl ⟨a,vs,rfl,SqL.of hv,fun hz=>p _ H1 ρ1 ex1 rs1 (AE ha (by rw [rvs.length];exact hz))⟩
    · rename_i l
      simp only [rD,RD] at rv
      obtain⟨q,vs,rfl,hq,rvs⟩:=rv
      exact .inl ⟨q,vs,rfl,hq.sq,fun hz=>p _ H1 ρ1 ex1 rs1 (AD rs1.hp hq rvs hz)⟩
theorem Mc {elt tg iter:Expr}{ifs:List Expr}{f:IF}{g:GF}{cs:List TF}{e:EF}(hc:X.calm=true)(S:bX X scope own capn caps)(hi:NIt X E tg iter f)
    (hin:∀ cl C s H ex,MG (cxC X (own++capn) scope cl C s H ex) tg g∧MTs (cxC X (own++capn) scope cl C s H ex) ifs cs∧ME (cxC X (own++capn) scope cl C s H ex) elt e)
    (hs:∀ x,foldedSetIterable iter X.env x=pure x:=by intro _;rfl):NF X E (.ListComp elt [⟨tg,iter,ifs,0⟩] scope pos) (oW own.length caps f g cs e):=by
  intro pins s σ H Q I ⟨ρ,σd,hd,rs,p⟩
  rw [eval_ListComp]
  unfold oW at p
  cases c:f σd hd with
  | exc z h7 =>
    rw [c] at p
    obtain⟨cl,h1,hcl1,hcl2⟩:=iE (scope:=scope) (env:=X.env) fun y hy hyf=>I.ok.has y.1 (S.free y hy hyf)
    refine wpAny_comprehension_free (use:=none) rfl hs h1 S.kind S.names (thn (hi pins s σ H (fun J H1=>False) I ⟨ρ,σd,hd,rs,by
      rw [c];exact p⟩) fun v s1 h1=>thn h1 fun itv s2 h2 => ?_)
    obtain⟨it,fp,tn,J,H1,rfl,I1,T,st0,hf,ff⟩:=h2
    exact ff.elim
  | bad=>rw [c] at p;exact p.elim
  | ok q hd1 =>
    obtain⟨l,gd⟩:=q
    rw [c] at p
    simp only [aG] at p
    obtain⟨cl,h1,hcl1,hcl2⟩:=iE (scope:=scope) (env:=X.env) fun y hy hyf=>I.ok.has y.1 (S.free y hy hyf)
    refine wpAny_comprehension_free (use:=none) rfl hs h1 S.kind S.names (thn (hi pins s σ H (fun J H1=>∃ ρ1,Ext ρ H ρ1 H1∧RS X.K ρ1 H1 σd hd1 σ ∧ oR X.K ρ1 H1 J l gd) I ⟨ρ,σd,hd,rs,by
      rw [c]
      exact fun J H' ρ' ex rs' wk=>⟨ρ',ex,rs',wk⟩⟩) fun v s1 h1=>thn h1 fun itv s2 h2 => ?_)
    obtain⟨it,fp,tn,J,H1,rfl,I1,T,st0,hf,ρ1,ex1,rs1,wk⟩:=h2
    cases c2:cx gd l g cs e l (fQ own.length caps σd) hd1 with
    | exc z h7=>rw [c2] at p;exact p.elim
    | bad=>rw [c2] at p;exact p.elim
    | ok ds hdF =>
      rw [c2] at p
      refine lZ (RR:=fun acc C=>compPost (model X.prog X.w) X.A X.xe none (EP X pins σ Q) acc C) hc S hin I1 T st0 hf rs1 wk.g hcl1 hcl2 ((rK _ _ _).symm.trans c2) fun C s' m H' ρ' vs hC hn I' hCn ex rh hD0 hD hnD rds => ?_
      refine⟨m,hn,fun h' sb=>⟨.ref s2.heap.objs.size,H',?_,rfl,?_⟩⟩
      · refine I'.turned (it:=C) (t':=s'.toks) (fun b o hb e=>(sb.2 b hb).trans e) hCn ?_ (.inr (Nat.le_of_lt (Nat.lt_of_le_of_lt I1.sz hC))) (fun x c e z => ?_) fun q hq z => ?_
        · exact Nat.ne_of_gt (Nat.lt_trans I1.lt hC)
        · obtain⟨v,o,ho,hd⟩:=I1.cell x c e
          exact absurd (Nat.lt_trans (Heap.lt_size ho) hC) (by rw [z];exact Nat.lt_irrefl _)
        · exact absurd (Nat.lt_trans (Heap.lt_size (I1.pin q hq).1) hC) (by rw [z];exact Nat.lt_irrefl _)
      · exact p _ vs H' ρ' (ex1.trans ex) (rs.ext (ex1.trans ex) rh) (ex1.fresh hD0 (rs1.hp.free hD0)) hD hnD rds
theorem OY {e:Expr}{r:LF}(h:NF X E e r):NE X E e (aX r):=by
  refine PE.imp h fun σ H Q ⟨ρ,σd,hd,rs,p⟩=>⟨ρ,σd,hd,rs,?_⟩
  unfold aX at p
  cases e:r σd hd with
  | exc x h'=>rw [e] at p;exact p
  | bad=>rw [e] at p;exact p
  | ok ds hd1 =>
    rw [e] at p
    simp only [aG] at p
    intro q vs H1 ρ1 e1 rs1 hq0 hq hn rvs
    by_cases hz:ds.length≤SZ
    · rw [if_pos hz] at p
      have rh:=rs1.hp.alloc hq hn rvs
      have ex:Ext ρ H (ρ1++[q]) H1:=⟨by obtain⟨t,rfl⟩:=e1.pre;exact⟨t++[q],by simp⟩,fun a ha=>by
        rcases List.mem_append.mp ha with z|z
        · exact e1.new a z
        · simp at z;subst z;exact .inr hq0,e1.frame⟩
      refine p _ _ _ ex (rs.ext ex rh) ?_
      simp only [rD,RD]
      refine⟨q,?_,rfl⟩
      rw [← rs1.hp.len]
      simp
    · rw [if_neg hz] at p;exact p.elim
theorem Me {tg:Expr}{iter:Expr}{body:List Stmt}{f:IF}{g:GF}{b:SF}(hp:PassesOwn (model X.prog X.w) X.A X.env X.xe)(hc:X.calm=true)(hi:NIt X E tg iter f)(hg:MG X tg g)(hb:NSs X E body b)
    (hs:∀ x,foldedSetIterable iter X.env x=pure x:=by intro _;rfl):NS X E (.For tg iter body [] pos) (dI f g b):=by
  refine PS.imp (Iw hp hc hi hg hb hs) fun En σ H ⟨ρ,σd,hd,rs,p⟩=>⟨ρ,σd,hd,rs,?_⟩
  unfold dI at p
  cases e:f σd hd with
  | exc x h'=>rw [e] at p;exact p
  | bad=>rw [e] at p;exact p
  | ok q hd1 =>
    rw [e] at p
    obtain⟨l,gd⟩:=q
    intro J H1 ρ1 ex1 rs1 wk
    simp only at p wk
    refine⟨fun i m σ' H'=>∃ ρ' σd' hd',Ext ρ1 H1 ρ' H'∧RS X.K ρ' H' σd' hd' σ'∧i≤l.length∧m=l.length - i∧fV X.K X.mg ρ' H' (gc gd l g b (l.drop i) σd' hd') E En,
      ⟨l.length,ρ1,σd,hd1,Ext.refl,rs1,Nat.zero_le _,by simp,by simpa using fV.ext ex1 p⟩,?_⟩
    rintro i m σ' H' ⟨ρ',σd',hd',ex,rs',hil,rfl,pp⟩
    by_cases hlt:i < l.length
    · have hdi:l[i]? = some l[i]:=by simp [hlt]
      rw [List.drop_eq_getElem_cons hlt] at pp
      unfold gc at pp
      by_cases hh:kX gd l hd'
      · rw [if_pos hh] at pp
        obtain⟨go,yl⟩:=wk.go ρ' H' hd' i _ ex rs'.hp hh hdi
        refine .inr ⟨go,fun σ2 H2=>∃ ρ2 σd2 hd2,Ext ρ1 H1 ρ2 H2∧RS X.K ρ2 H2 σd2 hd2 σ2∧fV X.K X.mg ρ2 H2 (gc gd l g b (l.drop (i + 1)) σd2 hd2) E En,
          fun σ2 H2 ⟨ρ2,σd2,hd2,a1,a2,a3⟩=>⟨l.length - (i + 1),by omega,ρ2,σd2,hd2,a1,a2,hlt,rfl,a3⟩,fun x H2 y => ?_⟩
        obtain⟨sm,rx⟩:=yl x H2 y
        cases c:g l[i] σd' with
        | none=>rw [c] at pp;exact pp.elim
        | some σd2 =>
          rw [c] at pp
          simp only at pp
          refine⟨ρ',σd',hd',l[i],σd2,rs'.same sm,rx,c,fun σ2 rs2=>⟨ρ',σd2,hd',rs2,?_⟩⟩
          have e12:Ext ρ' H' ρ' H2:=Ext.same sm
          cases c2:b σd2 hd' with
          | nx σ3 h3=>rw [c2] at pp;exact fun σ4 H4 ρ4 ex4 rs4=>⟨ρ4,σ3,h3,ex.trans (e12.trans ex4),rs4,fV.ext (e12.trans ex4) pp⟩
          | ct σ3 h3=>rw [c2] at pp;exact fun σ4 H4 ρ4 ex4 rs4=>⟨ρ4,σ3,h3,ex.trans (e12.trans ex4),rs4,fV.ext (e12.trans ex4) pp⟩
          | bk σ3 h3=>rw [c2] at pp;exact fun σ4 H4 ρ4 ex4 rs4=>pp σ4 H4 ρ4 (e12.trans ex4) rs4
          | rt d h3=>rw [c2] at pp;exact fun v H4 ρ4 ex4 rs4 rv=>pp v H4 ρ4 (e12.trans ex4) rs4 rv
          | exc x σ3 h3=>rw [c2] at pp;exact fV.ext (o:=.exc x σ3 h3) e12 pp
          | bad=>rw [c2] at pp;exact pp
      · rw [if_neg hh] at pp;exact pp.elim
    · have e0:i=l.length:=by omega
      subst e0
      rw [List.drop_length] at pp
      unfold gc at pp
      by_cases hh:kX gd l hd'
      · rw [if_pos hh] at pp
        exact .inl ⟨wk.stop ρ' H' hd' ex rs'.hp hh,pp σ' H' ρ' Ext.refl rs'⟩
      · rw [if_neg hh] at pp;exact pp.elim
theorem AW:∀ (a b:List Int),HT.lexLt a b=lexLt a b
  | [],[]=>rfl
  | [],_ :: _=>rfl
  | _ :: _,[]=>rfl
  | x :: xs,y :: ys=>by
    show (if x=y then HT.lexLt xs ys else decide (x < y))=_
    rw [AW xs ys];rfl
theorem Dd {K:PySem.W.Frag}:Og K qQ (P3 K):=by
  intro ρ H σd hd σ d k v w Q rs rv rw' p
  unfold qQ at p
  cases d<;>try exact p.elim
  cases k<;>try exact p.elim
  rename_i xs ys
  simp only [ltT] at p
  cases e1:fO xs with
  | none=>rw [e1] at p;exact p.elim
  | some ns =>
    cases e2:fO ys with
    | none=>rw [e1,e2] at p;exact p.elim
    | some ms =>
      rw [e1,e2] at p
      simp only [RD] at rv rw'
      obtain⟨a,vs,rfl,ha,rvs⟩:=rv
      obtain⟨b,ws,rfl,hb,rws⟩:=rw'
      refine⟨a,b,ns,ms,rfl,rfl,SqT.of (by rw [ha,nv rvs e1]),SqT.of (by rw [hb,nv rws e2]),?_⟩
      rw [AW]
      exact p.here rs (by simp only [rD,RD])
end
end Fm
set_option linter.all false
namespace Fm
end Fm
namespace Fm
noncomputable def inR (h:Hd) (x y:D):Option Bool:=match eY h y with
  | some l=>match Oe l with
    | some rs=>match Oe [x] with
      | some [r]=>if ∀ z∈rs,z.length=r.length then some (decide (r∈rs)) else none
      | _=>none
    | none=>none
  | none=>none
end Fm
set_option linter.all false
namespace Fm
end Fm
set_option Elab.async false
set_option linter.all false
set_option maxRecDepth 100000
namespace Fm
open PySem PySem.Spec L2 PySem.W PyProof.Rows
section
variable {prog:Program} {w:World} {A:Around} {E:Value→Shared→Prop} {s:Shared}
end
section
variable {X:Cx} {pos p:Pos}
end
end Fm
set_option linter.all false
namespace Fm
noncomputable section
open Classical
end
end Fm
set_option Elab.async false
set_option linter.all false
set_option maxRecDepth 100000
namespace Fm
open PySem PySem.Spec L2
open PyProof.Rows (Call_)
section
variable {prog:Program} {w:World} {A:Around} {E:Value→Shared→Prop} {s:Shared}
end
section
variable {La Lb:Bool} {prog:Program} {w:World} {A:Around} {E:Value→Shared→Prop} {s:Shared} {z TI TO i1 i2 l1 l2:Addr} {k:Nat} {xs ys:Array Value} {a b:Value}
end
section
variable {La Lb:Bool} {prog:Program} {w:World} {A:Around} {E:Value→Shared→Prop} {s:Shared}
end
section
variable {X:Cx} {pos p tp:Pos} {elts:List Expr} {tk:Nat}
end
section
variable {X:Cx} {pos:Pos} {tg:Expr}
end
end Fm
namespace Fm
theorem Gv {h h':Hd}{d:D}(e:h'.length≤h.length):letGo h (.ok d h')=.ok d h':=by
  simp only [letGo];split
  · rw [List.take_of_length_le e]
  · rfl
@[simp] theorem bL {h:Hd} {d:D}:letGo h (.ok d h)=.ok d h:=Gv (Nat.le_refl _)
theorem xf {h h':Hd}{d:D}(e:pure? d=false):letGo h (.ok d h')=.ok d h':=by
  simp [letGo,e]
@[simp] theorem bG {h h':Hd} {n:Nat}:letGo h (.ok (.ref n) h')=.ok (.ref n) h':=xf rfl
theorem dk {h g:Hd}{d:D}(e:pure? d=true):letGo h (.ok d (h++g))=.ok d h:=by
  have:IK h (h++g):=fun n c hn hc=>.inl (by rwa [List.getElem?_append_left hn] at hc)
  simp [letGo,e,this]
structure Web where
  ties:List (List (Nat × Int))
  bars:List Int
  stays:List (Option Int)
def aZ:Option Int→D
  | none=>.non
  | some i=>.int i
def De (p:Nat × Int):D:=.tup [.int p.1,.int p.2]
def qR (r:List (Nat × Int)):D:=.tup (r.map De)
def ah (l:List Int):D:=.tup (l.map .int)
def Web.enc (w:Web):D:=.tup [.tup (w.ties.map qR),.tup (w.bars.map .int),.tup (w.stays.map aZ)]
structure Web.Ok (w:Web) (n:Nat):Prop where
  t:w.ties.length=n
  b:w.bars.length=n
  s:w.stays.length=n
  lt:∀ r∈w.ties,∀ p∈r,p.1 < n
  sz:n≤1000
structure c6 (w:Web) (n:Nat) (s:List Int):Prop where
  len:s.length=n
  op:∀ x∈s,x=0∨x=1
  st:∀ (i:Nat) (x:Int),w.stays[i]? = some (some x)→s[i]? = some x
theorem gw {l:List D}{i:Nat}{d:D}(e:l[i]? = some d):atI l (i:Int)=some d:=by
  have:=(List.getElem?_eq_some_iff.mp e).1
  simp [atI,ixN,this]
  simpa [List.getElem?_eq_getElem this] using e
theorem bM {g:Option Nat}{all:List D}{tg:GF}{cs:List TF}{e:EF}{h:Hd}(I:Sd→Prop)(p:D→Bool)(f:D→D)(hh:kX g all h) :
    ∀ {xs:List D} {σ:Sd},(∀ x∈xs,∀ σ,I σ → ∃ σ',tg x σ = some σ'∧I σ'∧kB cs σ' h=.ok (p x) h∧(p x=true→e σ' h=.ok (f x) h))→I σ →
      cx g all tg cs e xs σ h=.ok ((xs.filter p).map f) h
  | [],_,_,_=>by simp [cx,hh]
  | x :: xs,σ,st,i=>by
    obtain⟨σ',h1,h2,h3,h4⟩:=st x (by simp) σ i
    have ih:=bM I p f hh (xs:=xs) (σ := σ') (fun y hy=>st y (by simp [hy])) h2
    cases hp:p x with
    | true=>simp [cx,hh,h1,h3,hp,h4 hp,ih]
    | false=>simp [cx,hh,h1,h3,hp,ih]
theorem oX {g:Option Nat}{all:List D}{tg:GF}{b:SF}{rest:List D}(P:Nat→Sd→Hd→Prop)(hh:∀ i σ h,P i σ h→kX g all h) :
    ∀ {xs:List D} {k:Nat} {σ:Sd} {h:Hd},(∀ (i:Nat) x σ h,xs[i]? = some x→P (k + i) σ h → ∃ σ',tg x σ = some σ' ∧ ∃ σ'' h'',b σ' h=.nx σ'' h''∧P (k + i + 1) σ'' h'')→P k σ h →
      ∃ σ' h',gc g all tg b (xs++rest) σ h=gc g all tg b rest σ' h'∧P (k + xs.length) σ' h'
  | [],k,σ,h,_,p=>⟨σ,h,rfl,by simpa using p⟩
  | x :: xs,k,σ,h,st,p=>by
    obtain⟨σ',h1,σ2,h2,h3,h4⟩:=st 0 x σ h (by simp) (by simpa using p)
    have st':∀ (i:Nat) y σ h,xs[i]? = some y→P (k + 1 + i) σ h → ∃ σ',tg y σ = some σ' ∧ ∃ σ'' h'',b σ' h=.nx σ'' h''∧P (k + 1 + i + 1) σ'' h'':=fun i y σ h e q=>by
      have e1:k + 1 + i=k + (i + 1):=by omega
      rw [e1] at q ⊢
      exact st (i + 1) y σ h (by simpa using e) q
    obtain⟨σ3,h5,h6,h7⟩:=oX P hh st' (by simpa using h4)
    refine⟨σ3,h5,?_,?_⟩
    · rw [← h6,List.cons_append,gc,if_pos (hh _ _ _ p),h1]
      simp only [h3]
    · have e1:k + (x :: xs).length=k + 1 + xs.length:=by simp;omega
      rw [e1];exact h7
theorem ce {g:Option Nat}{all:List D}{tg:GF}{b:SF}(P:Nat→Sd→Hd→Prop)(hh:∀ i σ h,P i σ h→kX g all h)
    {xs:List D} {k:Nat} {σ:Sd} {h:Hd} (st:∀ (i:Nat) x σ h,xs[i]? = some x→P (k + i) σ h → ∃ σ',tg x σ = some σ' ∧ ∃ σ'' h'',b σ' h=.nx σ'' h''∧P (k + i + 1) σ'' h'') (p:P k σ h) :
      ∃ σ' h',gc g all tg b xs σ h=.nx σ' h'∧P (k + xs.length) σ' h':=by
  obtain⟨σ',h',q,z⟩:=oX (rest:=[]) P hh st p
  rw [List.append_nil] at q
  exact⟨σ',h',q.trans (by unfold gc;exact if_pos (hh _ _ _ z)),z⟩
theorem mU {g:Option Nat}{all:List D}{tg:GF}{e:EF}(P:Nat→Sd→Hd→Prop)(V:Nat→D→Prop)(hh:∀ i σ h,P i σ h→kX g all h) :
    ∀ {xs:List D} {k:Nat} {σ:Sd} {h:Hd},(∀ (i:Nat) x σ h,xs[i]? = some x→P (k + i) σ h → ∃ σ',tg x σ = some σ' ∧ ∃ d h'',e σ' h=.ok d h''∧V (k + i) d∧P (k + i + 1) σ' h'')→P k σ h →
      ∃ ds h',cx g all tg [] e xs σ h=.ok ds h'∧ds.length=xs.length∧(∀ (i:Nat) d,ds[i]? = some d→V (k + i) d) ∧ ∃ σ',P (k + xs.length) σ' h'
  | [],k,σ,h,_,p=>⟨[],h,by simp [cx,hh _ _ _ p],rfl,by simp,σ,by simpa using p⟩
  | x :: xs,k,σ,h,st,p=>by
    obtain⟨σ',h1,d,h2,h3,hv,h4⟩:=st 0 x σ h (by simp) (by simpa using p)
    have st':∀ (i:Nat) y σ h,xs[i]? = some y→P (k + 1 + i) σ h → ∃ σ',tg y σ = some σ' ∧ ∃ d h'',e σ' h=.ok d h''∧V (k + 1 + i) d∧P (k + 1 + i + 1) σ' h'':=fun i y σ h e q=>by
      have e1:k + 1 + i=k + (i + 1):=by omega
      rw [e1] at q ⊢
      exact st (i + 1) y σ h (by simpa using e) q
    obtain⟨ds,h5,h6,hl,hvs,σ3,h7⟩:=mU P V hh st' (by simpa using h4)
    refine⟨d :: ds,h5,?_,by simp [hl],fun i d' hd => ?_,σ3,?_⟩
    · simp [cx,hh _ _ _ p,h1,kB,h3,h6]
    · cases i with
      | zero=>simp at hd;subst hd;simpa using hv
      | succ i =>
        have:=hvs i d' (by simpa using hd)
        rwa [show k + 1 + i=k + (i + 1) by omega] at this
    · have e1:k + (x :: xs).length=k + 1 + xs.length:=by simp;omega
      rw [e1];exact h7
theorem sY {α : Type}{n:Nat}{ds:List α}{f:Nat → α}(hl:ds.length=n)(h:∀ (i:Nat) d,ds[i]? = some d→d=f i):ds=(List.range n).map f:=by
  apply List.ext_getElem?
  intro i
  by_cases hi:i < n
  · have:ds[i]? = some (ds[i]'(by omega)):=by simp [hl,hi]
    rw [this,h i _ this]
    simp [hi]
  · simp [hi,hl]
theorem i4 {t:TF}{b:SF}:∀ {n:Nat} {σ:Sd} {h:Hd} {r:Out},eW t b n σ h=r→r ≠ .bad → ∀ {m:Nat},n≤m→eW t b m σ h=r
  | 0,σ,h,r,e,hr,m,_=>by simp only [eW] at e;exact absurd e.symm hr
  | n + 1,σ,h,r,e,hr,m,hm=>by
    cases m with
    | zero=>omega
    | succ m =>
      simp only [eW] at e ⊢
      cases c:t σ h with
      | bad=>rw [c] at e;exact e
      | exc x h1=>rw [c] at e;exact e
      | ok cb h1 =>
        rw [c] at e
        cases cb with
        | false=>exact e
        | true =>
          simp only at e ⊢
          cases c2:b σ h1 with
          | nx σ2 h2=>rw [c2] at e;exact i4 e hr (by omega)
          | ct σ2 h2=>rw [c2] at e;exact i4 e hr (by omega)
          | bk σ2 h2=>rw [c2] at e;exact e
          | rt d h2=>rw [c2] at e;exact e
          | exc x σ2 h2=>rw [c2] at e;exact e
          | bad=>rw [c2] at e;exact e
theorem Gw {t:TF}{b:SF}{n:Nat}{σ:Sd}{h:Hd}{r:Out}(e:eW t b n σ h=r)(hr:r ≠ .bad):sH t b σ h=r:=by
  have ex:∃ n,eW t b n σ h ≠ .bad:=⟨n,by rw [e];exact hr⟩
  have hf:LN t b σ h=Classical.choose ex:=by simp [LN,ex]
  have h2:=Classical.choose_spec ex
  unfold sH
  rw [hf]
  by_cases hle:n≤Classical.choose ex
  · exact i4 e hr hle
  · have:=i4 (n:=Classical.choose ex) rfl h2 (m:=n) (by omega)
    rw [← this,e]
end Fm
set_option linter.all false
namespace Fm
theorem aw {F:Fn}{r:LF}{σ:Sd}{h h1 h':Hd}{ds:List D}{d:D}(a:r σ h=.ok ds h1)(b:F ds h1=.ok d h'):ao F r σ h=.ok d h':=by
  show Res.bind _ _=_;rw [a];exact b
theorem au {a:EF}{r:LF}{σ:Sd}{h h1 h2:Hd}{d:D}{ds:List D}(p:a σ h=.ok d h1)(q:r σ h1=.ok ds h2):ad a r σ h=.ok (d :: ds) h2:=by
  show Res.bind _ _=_;rw [p,aG,q];rfl
theorem ak {g:O2}{a b:EF}{σ:Sd}{h h1 h2 h3:Hd}{x y z:D}(p:a σ h=.ok x h1)(q:b σ h1=.ok y h2)(r:g x y h2=.ok z h3):af g a b σ h=.ok z h3:=by
  show Res.bind _ _=_;rw [p,aG,q];exact r
theorem gS {r:LF}{σ:Sd}{h h':Hd}{xs:List D}(p:r σ h=.ok xs h')(q:xs.length≤SZ:=by exact of_decide_eq_true rfl):fj r σ h=.ok (.tup xs) h':=by
  show Res.bind _ _=_;rw [p];exact if_pos q
theorem dw {r:LF}{σ:Sd}{h h':Hd}{xs:List D}(p:r σ h=.ok xs h')(q:xs.length≤SZ:=by exact of_decide_eq_true rfl):aX r σ h=.ok (.ref h'.length) (h'++[.lst xs]):=by
  show Res.bind _ _=_;rw [p];exact if_pos q
theorem JI {a:LF}{b:EF}{σ:Sd}{h h1 h2:Hd}{l:List D}{i:Int}{d:D}(p:a σ h=.ok l h1)(q:b σ h1=.ok (.int i) h2)(r:atI l i=some d):fIx a b σ h=.ok d h2:=by
  show Res.bind _ _=_;rw [p,aG,q];simp only [aG,r]
theorem bh {a b:EF}{σ:Sd}{h h1 h2:Hd}{x:D}{l:List D}{i:Int}{d:D}(p:a σ h=.ok x h1)(q:b σ h1=.ok (.int i) h2)(s:mr h2 x=some l)(r:atI l i=some d):fAt a b σ h=.ok d h2:=by
  show af _ _ _ _ _=_;exact ak p q (by simp only [oAt,s,r])
theorem bg {h:Hd}{n:Nat}{l:List D}(p:h[n]? = some (.lst l)):mr h (.ref n)=some l:=by simp only [mr,p]
theorem aF {i:Nat}{e:EF}{σ:Sd}{h h':Hd}{d:D}(p:e σ h=.ok d h'):aE (gN i) e σ h=.nx (σ.set i (some d)) h':=by
  show outE _ _ _=_;rw [p];rfl
theorem bo {e:EF}{σ:Sd}{h h':Hd}{d:D}(p:e σ h=.ok d h'):bc e σ h=.rt d h':=by
  show outE _ _ _=_;rw [p];rfl
theorem eX {e:EF}{σ:Sd}{h h':Hd}{d:D}(p:e σ h=.ok d h'):eV e σ h=.nx σ h':=by
  show outE _ _ _=_;rw [p];rfl
theorem mj {t:TF}{a b:SF}{σ:Sd}{h h1:Hd}(p:t σ h=.ok true h1):sIf t a b σ h=a σ h1:=by
  unfold sIf;rw [p];rfl
theorem fW {t:TF}{a b:SF}{σ:Sd}{h h1:Hd}(p:t σ h=.ok false h1):sIf t a b σ h=b σ h1:=by
  unfold sIf;rw [p];rfl
theorem bB {a:EF}{σ:Sd}{h h':Hd}{b:Bool}(p:a σ h=.ok (.bl b) h'):tE a σ h=.ok b h':=by
  show asB _=_;rw [p];rfl
theorem gU {t:TF}{σ:Sd}{h h':Hd}{b:Bool}(p:t σ h=.ok b h'):eD t σ h=.ok (!b) h':=by
  show Res.bind _ _=_;rw [p];rfl
theorem oY {t u:TF}{σ:Sd}{h h1 h':Hd}{b:Bool}(p:t σ h=.ok true h1)(q:u σ h1=.ok b h'):jx t u σ h=.ok b h':=by
  show Res.bind _ _=_;rw [p];exact q
theorem yp {t u:TF}{σ:Sd}{h h1:Hd}(p:t σ h=.ok false h1):jx t u σ h=.ok false h1:=by
  show Res.bind _ _=_;rw [p];rfl
theorem nI {t u:TF}{σ:Sd}{h h1 h':Hd}{b:Bool}(p:t σ h=.ok false h1)(q:u σ h1=.ok b h'):tOr t u σ h=.ok b h':=by
  show Res.bind _ _=_;rw [p];exact q
theorem JJ {t u:TF}{σ:Sd}{h h1:Hd}(p:t σ h=.ok true h1):tOr t u σ h=.ok true h1:=by
  show Res.bind _ _=_;rw [p];rfl
theorem AX {i j:Int}{h:Hd}:oEq (.int i) (.int j) h=.ok (.bl (decide (i=j))) h:=rfl
theorem iJ {a:LF}{σ:Sd}{h h1:Hd}{l:List D}(p:a σ h=.ok l h1):el a σ h=.ok (.int l.length) h1:=by
  show Res.bind _ _=_;rw [p];rfl
theorem d7 {a:EF}{σ:Sd}{h h1:Hd}{x:D}{l:List D}(p:a σ h=.ok x h1)(s:mr h1 x=some l):lOf a σ h=.ok l h1:=by
  show Res.bind _ _=_;rw [p];simp only [aG,s]
theorem sZ {x i e:EF}{σ:Sd}{h h1 h2 h3:Hd}{d:D}{n k:Nat}{j:Int}{l:List D}(p:e σ h=.ok d h1)(q:x σ h1=.ok (.ref n) h2)(r:i σ h2=.ok (.int j) h3)(s:h3[n]? = some (.lst l))(t:ixN l.length j=some k):oM x i e σ h=.nx σ (h3.set n (.lst (l.set k d))):=by
  simp only [oM,p,q,r,outE,s,t]
theorem jn {x e:EF}{σ:Sd}{h h1 h2:Hd}{d:D}{n:Nat}{l l0:List D}(p:x σ h=.ok (.ref n) h1)(q:h1[n]? = some (.lst l0))(r:e σ h1=.ok d h2)(s:h2[n]? = some (.lst l))(t:l.length < SZ):jf x e σ h=.ok .non (h2.set n (.lst (l++[d]))):=by
  simp only [jf,p,aG,q,r,Of,s,if_pos t]
theorem cK {i j:Int}{h:Hd}(p:0 < j):bT (.int i) (.int j) h=.ok (.int (i % j)) h:=by
  simp only [bT,oIc,decide_eq_true p,if_true]
theorem gj {i j:Int}{h:Hd}(p:0 < j)(q:j < 2 ^ 250):fN (.int i) (.int j) h=.ok (.int (i / j)) h:=by
  simp only [fN,oIc,decide_eq_true p,decide_eq_true q,Bool.and_self,if_true]
theorem oZ {i j:Int}{h:Hd}(e:i=j):oEq (.int i) (.int j) h=.ok (.bl true) h:=by rw [AX,decide_eq_true e]
theorem mV {i j:Int}{h:Hd}(e : ¬ i=j):oEq (.int i) (.int j) h=.ok (.bl false) h:=by rw [AX,decide_eq_false e]
theorem OZ {i j:Int}{h:Hd}(e : ¬ i < j):oLt (.int i) (.int j) h=.ok (.bl false) h:=by show Res.ok (D.bl (decide (i < j))) h=_;rw [decide_eq_false e]
theorem O0 {i j:Int}{h:Hd}(e:i < j):oLt (.int i) (.int j) h=.ok (.bl true) h:=by show Res.ok (D.bl (decide (i < j))) h=_;rw [decide_eq_true e]
theorem JK {i j:Int}{h:Hd}(p:(sml i || sml j)=true):cw (.int i) (.int j) h=.ok (.int (i * j)) h:=by
  show (if (sml i || sml j)=true then _ else _)=_
  exact if_pos p
theorem ma {i j:Int}{h:Hd}(p:sml i=true):cw (.int i) (.int j) h=.ok (.int (i * j)) h:=JK (by rw [p];rfl)
theorem Mf {i j:Int}{h:Hd}(p:sml j=true):cw (.int i) (.int j) h=.ok (.int (i * j)) h:=JK (by rw [p,Bool.or_true])
theorem qp {t:TF}{σ:Sd}{h h':Hd}{b:Bool}(p:t σ h=.ok b h'):fT t σ h=.ok (.bl b) h':=by
  show Res.bind _ _=_;rw [p];rfl
theorem gB {r:LF}{σ:Sd}{h0 h g:Hd}{xs:List D}{A:Nat}(hA:A=h0.length)(p:r σ h=.ok xs (h0++g))(q:xs.length≤SZ):aX r σ h=.ok (.ref (A + g.length)) (h0++(g++[.lst xs])):=by
  rw [dw p q,hA,List.length_append,List.append_assoc]
theorem i5 {h0 g:Hd}{A:Nat}(hA:A=h0.length)(k:Nat)(c:cX):(h0++g).set (A + k) c=h0++g.set k c:=by
  subst hA
  rw [List.set_append_right _ _ (by omega)]
  congr 2;omega
theorem cI {h0 g:Hd}{A:Nat}(hA:A=h0.length)(k:Nat):(h0++g)[A + k]? = g[k]? := by
  subst hA
  rw [List.getElem?_append_right (by omega),Nat.add_sub_cancel_left]
theorem cE {h0:Hd}{j:Nat}{c:cX}(g:Hd)(e:h0[j]? = some c):(h0++g)[j]? = some c:=(List.getElem?_append_left (List.getElem?_eq_some_iff.mp e).1).trans e
theorem cY {a:EF}{σ:Sd}{h h1:Hd}{n:Nat}(p:a σ h=.ok (.int n) h1)(hn:n≤1000):bw a σ h=.ok ((List.range n).map (fun k:Nat=>D.int k),none) h1:=by
  show Res.bind _ _=_
  rw [p]
  exact if_pos ⟨Int.le_trans (by decide) (Int.natCast_nonneg n),Int.le_trans (Int.ofNat_le.mpr hn) (by decide)⟩
theorem d8 {it:IF}{tg:GF}{b:SF}{σ:Sd}{h h1:Hd}{l:List D}{g:Option Nat}{o:Out}(p:it σ h=.ok (l,g) h1)(q:gc g l tg b l σ h1=o):dI it tg b σ h=o:=by
  unfold dI;rw [p];exact q
theorem eE {nl:Nat}{caps:List Nat}{it:IF}{tg:GF}{cs:List TF}{e:EF}{σ:Sd}{h h1 h2:Hd}{l ds:List D}{g:Option Nat}(p:it σ h=.ok (l,g) h1)(q:cx g l tg cs e l (fQ nl caps σ) h1=.ok ds h2):bN nl caps it tg cs e σ h=.ok ds h2:=by
  show Res.bind _ _=_;rw [p];exact q
theorem O4 {la:LF}{b:EF}{σ:Sd}{h h1 h2:Hd}{l:List D}{n:Int}(p:la σ h=.ok l h1)(q:b σ h1=.ok (.int n) h2)(r:0≤n∧n≤1000∧l.length * n.toNat≤1000):oU la b σ h=.ok (List.replicate n.toNat l).flatten h2:=by
  simp only [oU,p,aG,q,if_pos r]
theorem O6 {k:Int}{n:Nat}{h:Hd}{l:List (Int × D)}(p:h[n]? = some (.dct l)):Gk (.int k) (.ref n) h=.ok (.bl (sT l k).isSome) h:=by simp only [Gk,p]
theorem Fu {x i e:EF}{σ:Sd}{h h1 h2 h3:Hd}{d:D}{n:Nat}{j:Int}{l:List (Int × D)}(p:e σ h=.ok d h1)(q:x σ h1=.ok (.ref n) h2)(r:i σ h2=.ok (.int j) h3)(s:h3[n]? = some (.dct l))(t:l.length < SZ):sU x i e σ h=.nx σ (h3.set n (.dct (CY l j d))):=by
  simp only [sU,p,q,r,outE,s,if_pos t]
theorem yq {a:EF}{σ:Sd}{h h1:Hd}{n:Nat}{l:List D}(p:a σ h=.ok (.ref n) h1)(q:h1[n]? = some (.lst l)):fP .list a σ h=.ok (.bl true) h1:=by
  simp only [fP,p,aG,Gb,q];rfl
theorem eF {a:EF}{σ:Sd}{h h1:Hd}{n:Nat}{l:List D}(p:a σ h=.ok (.ref n) h1)(q:h1[n]? = some (.lst l)):dQ a σ h=.ok (l,some n) h1:=by
  simp only [dQ,p,aG,q]
theorem O7 {a b:EF}{σ:Sd}{h h1 h2:Hd}{i j:Int}(p:a σ h=.ok (.int i) h1)(q:b σ h1=.ok (.int j) h2):C6 a b σ h=.ok (.int (if j > i then j else i)) h2:=by
  simp only [C6,p,aG,q]
theorem Df {a:LF}{σ:Sd}{h h1:Hd}{l:List D}{is:List Int}(p:a σ h=.ok l h1)(q:fO l=some is):sG a σ h=.ok (.int is.sum) h1:=by
  simp only [sG,p,aG,q]
theorem rT {a:LF}{σ:Sd}{h h1:Hd}{l:List D}(p:a σ h=.ok l h1):dP a σ h=.ok (.tup l) h1:=by
  show Res.bind _ _=_;rw [p];rfl
theorem Dg {i j:Int}{h:Hd}(e:j < i):oGt (.int i) (.int j) h=.ok (.bl true) h:=by show Res.ok (D.bl (decide (j < i))) h=_;rw [decide_eq_true e]
theorem yr {i j:Int}{h:Hd}(e : ¬ j < i):oGt (.int i) (.int j) h=.ok (.bl false) h:=by show Res.ok (D.bl (decide (j < i))) h=_;rw [decide_eq_false e]
theorem eG {h:Hd}{A:Nat}(hA:A=h.length)(c:cX):(h++[c])[A]? = some c:=by rw [hA];exact List.getElem?_concat_length
theorem i6 {h:Hd}{A:Nat}(hA:A=h.length)(c d:cX):(h++[c]).set A d=h++[d]:=by
  have:=i5 (g:=[c]) hA 0 d
  rwa [Nat.add_zero] at this
theorem fX {r:LF}{σ:Sd}{h h':Hd}{xs:List D}{A:Nat}(hA:A=h'.length)(p:r σ h=.ok xs h')(q:xs.length≤SZ):aX r σ h=.ok (.ref A) (h'++[.lst xs]):=by rw [hA];exact dw p q
theorem rV {l:List Int}{i:Nat}(h:i < l.length):atI (l.map D.int) (i:Int)=some (.int (l.getD i 0)):=gw (by rw [List.getElem?_map,List.getElem?_eq_getElem h,List.getD_eq_getElem?_getD,List.getElem?_eq_getElem h];rfl)
theorem Dh {t:TF}{a b:EF}{σ:Sd}{h h1:Hd}(p:t σ h=.ok true h1):fIf t a b σ h=a σ h1:=by
  show Res.bind _ _=_;rw [p];rfl
theorem Di {t:TF}{a b:EF}{σ:Sd}{h h1:Hd}(p:t σ h=.ok false h1):fIf t a b σ h=b σ h1:=by
  show Res.bind _ _=_;rw [p];rfl
theorem bi {a b:SF}{σ σ':Sd}{h h':Hd}(e:a σ h=.nx σ' h'):aC a b σ h=b σ' h':=by simp only [aC,e]
theorem AY {a b:SF}{σ:Sd}{h h':Hd}{d:D}(e:a σ h=.rt d h'):aC a b σ h=.rt d h':=by simp only [aC,e]
theorem cJ {np n:Nat}{b:SF}{ds:List D}{σ:Sd}{h h':Hd}{d:D}(hl:ds.length=np)(st:(ds.map some++List.replicate (n - ds.length) none:Sd) = σ)(e:b σ h=.rt d h'):bE np n b ds h=letGo h (.ok d h'):=by
  unfold bE runB;rw [if_pos hl,st,e]
theorem Qr {np n:Nat}{b:SF}{ds:List D}{σ σ':Sd}{h h':Hd}(hl:ds.length=np)(st:(ds.map some++List.replicate (n - ds.length) none:Sd) = σ)(e:b σ h=.nx σ' h'):bE np n b ds h=letGo h (.ok .non h'):=by
  unfold bE runB;rw [if_pos hl,st,e]
theorem o0 {t:TF}{σ:Sd}{h:Hd}{b:Bool}(p:t σ h=.ok b h):kB [t] σ h=.ok b h:=by
  simp only [kB,p,aG];cases b<;>rfl
theorem JL {a:EF}{σ:Sd}{h h1:Hd}{l:List D}(p:a σ h=.ok (.tup l) h1):dQ a σ h=.ok (l,none) h1:=by
  show Res.bind _ _=_;rw [p];rfl
theorem O8 {a:LF}{σ:Sd}{h h1:Hd}{l:List D}{bs:List Bool}(p:a σ h=.ok l h1)(q:kW l=some bs):CO a σ h=.ok (.bl (bs.all id)) h1:=by
  simp only [CO,p,aG,q]
theorem Dj (a b:Int)(h:Hd):oNe (.int a) (.int b) h=.ok (.bl (!decide (a=b))) h:=rfl
theorem c5 {a b:EF}{σ:Sd}{h h1 h2:Hd}{d e:D}(p:a σ h=.ok d h1)(q:b σ h1=.ok e h2):ad a (ad b am) σ h=.ok [d,e] h2:=au p (au q rfl)
theorem jB {n m:Nat}(h:n≤30)(q:30≤m:=by decide):n≤m:=Nat.le_trans h q
end Fm
set_option linter.all false
namespace Fm
noncomputable def cL:Fn:=bE 1 1 (bc (fT (jx (tE (fP .int (aa 0))) (eD (tE (fP .bool (aa 0)))))))
noncomputable def bx:Fn:=bE 3 3 (bc (fT (jx (tE (ao cL (ad (aa 0) am))) (tE (sF oLe oLe (aa 1) (aa 0) (aa 2))))))
noncomputable def bP:Fn:=bE 1 1 (bc (ao bx (ad (aa 0) (ad (fC (.int 0)) (ad (fC (.int 1)) am)))))
noncomputable def eI:Fn:=bE 1 1 (bc (el (lOf (fAt (aa 0) (fC (.int 0))))))
noncomputable def jC:Fn:=bE 2 2 (bc (fAt (fAt (aa 0) (fC (.int 0))) (aa 1)))
noncomputable def jD:Fn:=bE 2 2 (bc (fAt (fAt (aa 0) (fC (.int 1))) (aa 1)))
noncomputable def fw:Fn:=bE 2 2 (bc (fAt (fAt (aa 0) (fC (.int 2))) (aa 1)))
noncomputable abbrev Fv:SF:=(aC (sIf (eD (tE (ao bP (ad (aa 3) am)))) (bc (fC (.bl false))) bD)
    (aC (aE (gN 4) (ao fw (ad (aa 0) (ad (aa 2) am))))
    (sIf (jx (tE (af jW (aa 4) (fC .non))) (tE (af oNe (aa 3) (aa 4)))) (bc (fC (.bl false))) bD)))
noncomputable def tj:Fn:=bE 2 5 (aC (sIf (tOr (eD (tE (fP .tuple (aa 1)))) (tE (af oNe (el (lOf (aa 1))) (ao eI (ad (aa 0) am))))) (bc (fC (.bl false))) bD)
    (aC (dI (IJ (aa 1)) (gT [2,3]) Fv)
    (bc (fC (.bl true)))))
noncomputable def dW:Fn:=bE 2 2 (sIf (eD (tE (ao tj (ad (aa 0) (ad (aa 1) am))))) jX bD)
noncomputable def ik:Fn:=bE 3 3 (bc (af cw (fC (.int 2)) (sG (bN 2 [1] (dQ (ao jC (ad (aa 0) (ad (aa 2) am)))) (gT [0,1]) [(tE (af oEq (fAt (aa 2) (aa 0)) (fC (.int 1))))] (aa 1)))))
theorem nJ (i:Int)(h:Hd):cL [.int i] h=.ok (.bl true) h:=(cJ (d:=.bl true) (h':=h) rfl rfl rfl).trans bL
theorem iK (i a b:Int)(h:Hd):bx [.int i,.int a,.int b] h=.ok (.bl (decide (a≤i) && decide (i≤b))) h:=by
  have ch:sF oLe oLe (aa 1) (aa 0) (aa 2) [some (.int i),some (.int a),some (.int b)] h=.ok (.bl (decide (a≤i) && decide (i≤b))) h:=by
    show (match D.bl (decide (a≤i)) with | .bl true=>Res.ok (D.bl (decide (i≤b))) h | .bl false=>.ok (.bl false) h|_=>.bad)=_
    cases decide (a≤i)<;>rfl
  have t:jx (tE (ao cL (ad (aa 0) am))) (tE (sF oLe oLe (aa 1) (aa 0) (aa 2))) [some (.int i),some (.int a),some (.int b)] h=.ok (decide (a≤i) && decide (i≤b)) h:=oY (bB (aw (au rfl rfl) (nJ i h))) (bB ch)
  exact (cJ rfl rfl (bo (qp t))).trans bL
theorem iL (i:Int)(h:Hd):bP [.int i] h=.ok (.bl (decide (0≤i) && decide (i≤1))) h:=by
  exact (cJ rfl rfl (bo (aw (au rfl (c5 rfl rfl)) (iK i 0 1 h)))).trans bL
theorem qq (w:Web)(h:Hd):eI [w.enc] h=.ok (.int w.ties.length) h:=by
  have:=(cJ (np:=1) (n:=1) (b:=bc (el (lOf (fAt (aa 0) (fC (.int 0)))))) (ds:=[w.enc]) (h:=h) rfl rfl (bo (iJ (d7 (bh rfl rfl rfl rfl) rfl)))).trans bL
  rwa [List.length_map] at this
theorem AZ (w:Web)(h:Hd){p:Nat}{r:List (Nat × Int)}(e:w.ties[p]? = some r):jC [w.enc,.int p] h=.ok (qR r) h:=by
  have q:atI (w.ties.map qR) (p:Int)=some (qR r):=gw (by simp [e])
  exact (cJ rfl rfl (bo (bh (bh rfl rfl rfl rfl) rfl rfl q))).trans bL
theorem Dk (w:Web)(h:Hd){p:Nat}{r:Int}(e:w.bars[p]? = some r):jD [w.enc,.int p] h=.ok (.int r) h:=by
  have q:atI (w.bars.map .int) (p:Int)=some (.int r):=gw (by simp [e])
  exact (cJ rfl rfl (bo (bh (bh rfl rfl rfl rfl) rfl rfl q))).trans bL
theorem li (w:Web)(h:Hd){p:Nat}{r:Option Int}(e:w.stays[p]? = some r):fw [w.enc,.int p] h=.ok (aZ r) h:=by
  have q:atI (w.stays.map aZ) (p:Int)=some (aZ r):=gw (by simp [e])
  exact (cJ rfl rfl (bo (bh (bh rfl rfl rfl rfl) rfl rfl q))).trans bL
theorem Mg {w:Web}{n:Nat}{s:List Int}(W:w.Ok n)(F:c6 w n s)(h:Hd):tj [w.enc,ah s] h=.ok (.bl true) h:=by
  obtain⟨σ',h',h1,h2,a,b,c,h3⟩:=ce (P:=fun _ σ h'=>h'=h ∧ ∃ a b c,σ = [some w.enc,some (ah s),a,b,c]) (g:=none) (k:=0)
      (all:=((List.range (s.map D.int).length).zip (s.map D.int)).map fun p=>D.tup [.int (p.1:Nat),p.2]) (fun _ _ _ _=>trivial)
      (xs:=((List.range (s.map D.int).length).zip (s.map D.int)).map fun p=>D.tup [.int (p.1:Nat),p.2]) (tg:=gT [2,3]) (σ:=[some w.enc,some (ah s),none,none,none]) (h:=h)
      (b:=Fv) (by
      rintro i x σ h0 hx ⟨rfl,a,b,c,rfl⟩
      have hi:i < s.length:=by
        have:=(List.getElem?_eq_some_iff.mp hx).1
        simpa using this
      have hx':x=.tup [.int (i:Nat),.int s[i]]:=by simpa [hi,List.getElem?_eq_getElem] using hx.symm
      subst hx'
      have hs:w.stays[i]? = some (w.stays[i]'(by rw [W.s,← F.len];exact hi)):=List.getElem?_eq_getElem _
      generalize w.stays[i]'(by rw [W.s,← F.len];exact hi)=st at hs
      have op:bP [.int s[i]] h0=.ok (.bl true) h0:=by
        rw [iL];rcases F.op _ (List.getElem_mem hi) with e|e<;>rw [e]<;>rfl
      have s1:sIf (eD (tE (ao bP (ad (aa 3) am)))) (bc (fC (.bl false))) bD [some w.enc,some (ah s),some (.int i),some (.int s[i]),c] h0=.nx [some w.enc,some (ah s),some (.int i),some (.int s[i]),c] h0:=fW (gU (bB (aw (au rfl rfl) op)))
      have sv:=li w h0 hs
      cases st with
      | none=>exact⟨_,rfl,_,h0,(bi s1).trans ((bi (aF (aw (c5 rfl rfl) sv))).trans (fW (yp (bB (ak rfl rfl rfl))))),rfl,_,_,_,rfl⟩
      | some y =>
        have hy:s[i] = y:=by have:=F.st i y hs;rw [List.getElem?_eq_getElem hi] at this;exact Option.some.inj this
        exact⟨_,rfl,_,h0,(bi s1).trans ((bi (aF (aw (c5 rfl rfl) sv))).trans (fW (oY (bB (ak rfl rfl rfl)) (bB (ak rfl rfl (by rw [show aZ (some y)=D.int y from rfl,Dj,decide_eq_true hy];rfl)))))),rfl,_,_,_,rfl⟩) ⟨rfl,_,_,_,rfl⟩
  rw [h2,h3] at h1
  have s1:sIf (tOr (eD (tE (fP .tuple (aa 1)))) (tE (af oNe (el (lOf (aa 1))) (ao eI (ad (aa 0) am))))) (bc (fC (.bl false))) bD [some w.enc,some (ah s),none,none,none] h=.nx [some w.enc,some (ah s),none,none,none] h :=
    fW (nI (gU (b:=true) (bB rfl)) (bB (ak (iJ (d7 rfl rfl)) (aw (au rfl rfl) (qq w h)) (by rw [Dj,List.length_map,F.len,W.t,decide_eq_true rfl];rfl))))
  exact (cJ rfl rfl ((bi s1).trans ((bi (d8 rfl h1)).trans (bo rfl)))).trans bL
theorem JM {w:Web}{n:Nat}{s:List Int}(W:w.Ok n)(F:c6 w n s)(h:Hd):dW [w.enc,ah s] h=.ok .non h:=by
  exact (Qr rfl rfl (fW (gU (bB (aw (c5 rfl rfl) (Mg W F h)))))).trans bL
theorem o3 (l:List Int):fO (l.map .int)=some l:=by
  induction l with
  | nil=>rfl
  | cons x xs ih=>simp [fO,ih]
theorem O9 {s:List Int}{i:Nat}(h:i < s.length):atI (s.map .int) (i:Int)=some (.int s[i]):=gw (by simp [h])
def ii (r:List (Nat × Int)) (s:List Int):List Int:=(r.filter fun p=>decide (s.getD p.1 0=1)).map (·.2)
def bS (r:List (Nat × Int)) (s:List Int):Int:=(ii r s).sum
theorem JN {r:List (Nat × Int)}{s:List Int}(hr:∀ q∈r,q.1 < s.length)(h:Hd):cx none (r.map De) (gT [0,1]) [(tE (af oEq (fAt (aa 2) (aa 0)) (fC (.int 1))))] (aa 1) (r.map De) [none,none,some (ah s)] h=.ok ((ii r s).map D.int) h:=by
  have key:cx none (r.map De) (gT [0,1]) [(tE (af oEq (fAt (aa 2) (aa 0)) (fC (.int 1))))] (aa 1) (r.map De) [none,none,some (ah s)] h
      = .ok (((r.map De).filter fun d=>match d with | .tup [.int i,_]=>decide (s.getD i.toNat 0=1)|_=>false).map fun d=>match d with | .tup [_,x]=>x|_=>.non) h:=by
    refine bM (g:=none) (I:=fun σ=>∃ a b,σ = [a,b,some (ah s)]) _ _ trivial ?_ ⟨_,_,rfl⟩
    rintro x hx σ ⟨a,b,rfl⟩
    obtain⟨⟨q,wt⟩,hq,rfl⟩:=List.mem_map.mp hx
    exact⟨_,rfl,⟨_,_,rfl⟩,o0 (bB (ak (bh rfl rfl rfl (rV (hr _ hq))) rfl AX)),fun _=>rfl⟩
  rw [key,ii,List.filter_map,List.map_map,List.map_map]
  rfl
theorem Dl {w:Web}{n:Nat}{s:List Int}(W:w.Ok n)(hs:s.length=n){p:Nat}{r:List (Nat × Int)}(e:w.ties[p]? = some r)(h:Hd) :
    ik [w.enc,ah s,.int p] h=.ok (.int (2 * bS r s)) h:=by
  have hr:∀ q∈r,q.1 < s.length:=fun q hq=>by rw [hs];exact W.lt r (List.mem_of_getElem? e) q hq
  exact (cJ rfl rfl (bo (ak rfl (Df (eE (JL (aw (c5 rfl rfl) (AZ w h e))) (JN hr h)) (o3 _)) (ma (by decide))))).trans bL
theorem Mh {x:Int}(h:x=0∨x=1):sml x=true:=by rcases h with e|e<;>subst e<;>decide
end Fm
set_option linter.all false
namespace Fm
noncomputable def gk:Fn:=bE 3 6 (aC (aE (gN 3) (ao fw (ad (aa 0) (ad (aa 2) am))))
    (aC (sIf (tE (af jW (aa 3) (fC .non))) (bc (aa 3)) bD)
    (aC (aE (gN 4) (ao ik (ad (aa 0) (ad (aa 1) (ad (aa 2) am)))))
    (aC (aE (gN 5) (ao jD (ad (aa 0) (ad (aa 2) am))))
    (aC (sIf (tE (af oEq (aa 4) (aa 5))) (bc (fAt (aa 1) (aa 2))) bD)
    (bc (fIf (tE (af oGt (aa 4) (aa 5))) (fC (.int 1)) (fC (.int 0)))))))))
noncomputable def a0:Fn:=bE 2 2 (bc (dP (bN 1 [0,1] (bw (ao eI (ad (aa 0) am))) (gN 0) [] (ao gk (ad (aa 1) (ad (aa 2) (ad (aa 0) am)))))))
noncomputable abbrev tm:SF:=(aC (eV (jf (aa 2) (aa 3)))
    (aE (gN 3) (ao a0 (ad (aa 0) (ad (aa 3) am)))))
noncomputable def i7:Fn:=bE 2 5 (aC (eV (ao dW (ad (aa 0) (ad (aa 1) am))))
    (aC (aE (gN 2) (aX (ad (aa 1) (ad (ao a0 (ad (aa 0) (ad (aa 1) am))) am))))
    (aC (aE (gN 3) (ao a0 (ad (aa 0) (ad (fAt (aa 2) (fC (.int 1))) am))))
    (aC (sH (tE (af oNe (aa 3) (fAt (aa 2) (fC (.int (-2)))))) tm)
    (aC (aE (gN 4) (fIf (tE (af oEq (fAt (aa 2) (fC (.int (-1)))) (fAt (aa 2) (fC (.int (-2)))))) (fC (.str [114,101,115,116])) (fC (.str [112,97,105,114]))))
    (bc (fj (ad (af jV (el (lOf (aa 2))) (fC (.int 2))) (ad (aa 4) (ad (aa 2) am))))))))))
def cP (w:Web) (s:List Int) (p:Nat):Int:=match w.stays.getD p none with
  | some x=>x
  | none=>if 2 * bS (w.ties.getD p []) s=w.bars.getD p 0 then s.getD p 0 else if w.bars.getD p 0 < 2 * bS (w.ties.getD p []) s then 1 else 0
def aS (w:Web) (n:Nat) (s:List Int):List Int:=(List.range n).map (cP w s)
theorem Dm {w:Web}{n:Nat}{s:List Int}(W:w.Ok n)(F:c6 w n s){p:Nat}(hp:p < n)(h:Hd):gk [w.enc,ah s,.int p] h=.ok (.int (cP w s p)) h:=by
  have ht:p < w.ties.length:=by rw [W.t];exact hp
  have hb:p < w.bars.length:=by rw [W.b];exact hp
  have hst:p < w.stays.length:=by rw [W.s];exact hp
  have hs:p < s.length:=by rw [F.len];exact hp
  have et:w.ties[p]? = some w.ties[p]:=by simp [ht]
  have eb:w.bars[p]? = some w.bars[p]:=by simp [hb]
  have es:w.stays[p]? = some w.stays[p]:=by simp [hst]
  have pull:=Dl W F.len et h
  have gt:w.ties.getD p [] = w.ties[p]:=by simp [List.getD,ht]
  have gb:w.bars.getD p 0=w.bars[p]:=by simp [List.getD,hb]
  have gs:w.stays.getD p none=w.stays[p]:=by simp [List.getD,hst]
  have gi:s.getD p 0=s[p]:=by simp [List.getD,hs]
  have ai:=O9 hs
  cases c:w.stays[p] with
  | some x =>
    rw [c] at es
    have nx:cP w s p=x:=by unfold cP;rw [gs,c]
    rw [nx]
    exact (cJ rfl rfl ((bi (aF (aw (c5 rfl rfl) (li w h es)))).trans (AY ((mj (bB (ak rfl rfl rfl))).trans (bo rfl))))).trans bL
  | none =>
    rw [c] at es
    have sv:=li w h es
    have bv:=Dk w h eb
    simp only [cP,gs,c,gt,gb,gi]
    have s1:aE (gN 3) (ao fw (ad (aa 0) (ad (aa 2) am))) [some w.enc,some (ah s),some (.int p),none,none,none] h=.nx [some w.enc,some (ah s),some (.int p),some .non,none,none] h:=aF (aw (c5 rfl rfl) sv)
    have s2:sIf (tE (af jW (aa 3) (fC .non))) (bc (aa 3)) bD [some w.enc,some (ah s),some (.int p),some .non,none,none] h=.nx [some w.enc,some (ah s),some (.int p),some .non,none,none] h:=fW (bB (ak rfl rfl rfl))
    generalize 2 * bS w.ties[p] s=P at pull
    have s3:aE (gN 4) (ao ik (ad (aa 0) (ad (aa 1) (ad (aa 2) am)))) [some w.enc,some (ah s),some (.int p),some .non,none,none] h=.nx [some w.enc,some (ah s),some (.int p),some .non,some (.int P),none] h:=aF (aw (au rfl (c5 rfl rfl)) pull)
    have s4:aE (gN 5) (ao jD (ad (aa 0) (ad (aa 2) am))) [some w.enc,some (ah s),some (.int p),some .non,some (.int P),none] h=.nx [some w.enc,some (ah s),some (.int p),some .non,some (.int P),some (.int w.bars[p])] h:=aF (aw (c5 rfl rfl) bv)
    have go:∀ {v:Int},aC (sIf (tE (af oEq (aa 4) (aa 5))) (bc (fAt (aa 1) (aa 2))) bD) (bc (fIf (tE (af oGt (aa 4) (aa 5))) (fC (.int 1)) (fC (.int 0)))) [some w.enc,some (ah s),some (.int p),some .non,some (.int P),some (.int w.bars[p])] h=.rt (.int v) h→gk [w.enc,ah s,.int p] h=.ok (.int v) h:=fun e=>(cJ rfl rfl ((bi s1).trans ((bi s2).trans ((bi s3).trans ((bi s4).trans e))))).trans bL
    by_cases e1:P=w.bars[p]
    · rw [if_pos e1];exact go (AY ((mj (bB (ak rfl rfl (oZ e1)))).trans (bo (bh rfl rfl rfl ai))))
    · rw [if_neg e1]
      by_cases e2:w.bars[p] < P
      · rw [if_pos e2];exact go ((bi (fW (bB (ak rfl rfl (mV e1))))).trans (bo ((Dh (bB (ak rfl rfl (Dg e2)))).trans rfl)))
      · rw [if_neg e2];exact go ((bi (fW (bB (ak rfl rfl (mV e1))))).trans (bo ((Di (bB (ak rfl rfl (yr e2)))).trans rfl)))
theorem fu {w:Web}{n:Nat}{s:List Int}(W:w.Ok n)(F:c6 w n s)(h:Hd):a0 [w.enc,ah s] h=.ok (ah (aS w n s)) h:=by
  have key:cx none ((List.range n).map fun k:Nat=>D.int k) (gN 0) [] (ao gk (ad (aa 1) (ad (aa 2) (ad (aa 0) am)))) ((List.range n).map fun k:Nat=>D.int k) [none,some w.enc,some (ah s)] h
      = .ok (((((List.range n).map fun k:Nat=>D.int k).filter fun _=>true)).map fun d=>match d with | .int i=>.int (cP w s i.toNat)|_=>.non) h:=by
    refine bM (g:=none) (I:=fun σ=>∃ a,σ = [a,some w.enc,some (ah s)]) _ _ trivial ?_ ⟨_,rfl⟩
    rintro x hx σ ⟨a,rfl⟩
    obtain⟨i,hi,rfl⟩:=List.mem_map.mp hx
    have hi:=List.mem_range.mp hi
    exact⟨_,rfl,⟨_,rfl⟩,by simp,fun _=>aw (au rfl (c5 rfl rfl)) (Dm W F hi h)⟩
  have k2:((((List.range n).map fun k:Nat=>D.int k).filter fun _=>true)).map (fun d=>match d with | .int i=>D.int (cP w s i.toNat)|_=>.non)=(aS w n s).map D.int:=by
    rw [List.filter_eq_self.mpr (by simp),List.map_map,aS,List.map_map];rfl
  rw [k2] at key
  have mq:eI [w.enc] h=.ok (.int n) h:=W.t ▸ qq w h
  exact (cJ rfl rfl (bo (rT (eE (cY (aw (au rfl rfl) mq) W.sz) key)))).trans bL
def cF (w:Web):Prop:=∀ x∈w.stays,x=none∨x=some 0∨x=some 1
theorem A0 {w:Web}{n:Nat}{s:List Int}(F:c6 w n s)(i:Nat):s.getD i 0=0∨s.getD i 0=1:=by
  by_cases hi:i < s.length
  · rw [List.getD,List.getElem?_eq_getElem hi];exact F.op _ (List.getElem_mem hi)
  · rw [List.getD,List.getElem?_eq_none (by omega)];exact .inl rfl
theorem tu {w:Web}{n:Nat}{s:List Int}(F:c6 w n s)(S:cF w)(p:Nat):cP w s p=0∨cP w s p=1:=by
  unfold cP
  cases c:w.stays.getD p none with
  | some x =>
    have:some x∈w.stays:=by
      rw [List.getD] at c
      cases e:w.stays[p]? with
      | none=>rw [e] at c;cases c
      | some y=>rw [e] at c;simp at c;subst c;exact List.mem_of_getElem? e
    have:=S _ this
    simp at this
    exact this
  | none =>
    simp only
    split
    · exact A0 F p
    · split<;>simp
theorem im {w:Web}{n:Nat}{s:List Int}(W:w.Ok n)(S:cF w)(F:c6 w n s):c6 w n (aS w n s) where
  len:=by simp [aS]
  op:=fun x hx=>by
    obtain⟨p,hp,rfl⟩:=List.mem_map.mp hx
    exact tu F S p
  st:=fun i x e=>by
    have hi:i < n:=by rw [← W.s];exact (List.getElem?_eq_some_iff.mp e).1
    have:w.stays.getD i none=some x:=by simp [List.getD,e]
    have hn:cP w s i=x:=by unfold cP;rw [this]
    simp [aS,hi,hn]
def aK (w:Web) (n:Nat) (s:List Int):Nat→List Int
  | 0=>s
  | k + 1=>aS w n (aK w n s k)
theorem bO {w:Web}{n:Nat}{s:List Int}(W:w.Ok n)(S:cF w)(F:c6 w n s):∀ k,c6 w n (aK w n s k)
  | 0=>F
  | k + 1=>im W S (bO W S F k)
def bW (w:Web) (n:Nat) (s:List Int) (m:Nat):List (List Int):=(List.range m).map (aK w n s)
theorem Dn {w:Web}{n:Nat}{s:List Int}(m:Nat):bW w n s (m + 1)=bW w n s m++[aK w n s m]:=by simp [bW,List.range_succ]
theorem md {w:Web}{n:Nat}{s:List Int}(m:Nat):(bW w n s m).length=m:=by simp [bW]
theorem JO {w:Web}{n:Nat}{s:List Int}{m i:Nat}(h:i < m):atI ((bW w n s m).map ah) (i:Int)=some (ah (aK w n s i)):=gw (by simp [bW,h])
end Fm
set_option linter.all false
namespace Fm
noncomputable def lm:Fn:=bE 2 4 (aC (sIf (tOr (eD (tE (fP .tuple (aa 1)))) (tE (af oNe (el (lOf (aa 1))) (fC (.int 3))))) (bc (fC (.bl false))) bD)
    (aC (aE (gN 2) (fAt (aa 1) (fC (.int 0))))
    (aC (aE (gN 3) (fAt (aa 1) (fC (.int 1))))
    (aC (sIf (tOr (eD (tE (ao bx (ad (aa 2) (ad (fC (.int 0)) (ad (af jV (aa 0) (fC (.int 1))) am)))))) (eD (tE (ao bx (ad (aa 3) (ad (fC (.int 0)) (ad (af jV (aa 0) (fC (.int 1))) am))))))) (bc (fC (.bl false))) bD)
    (bc (fT (jx (tE (af oNe (aa 2) (aa 3))) (tE (ao bx (ad (fAt (aa 1) (fC (.int 2))) (ad (fC (.int 1)) (ad (fC (.int 400)) am))))))))))))
noncomputable abbrev dX:SF:=(aC (sIf (eD (tE (ao lm (ad (aa 0) (ad (aa 3) am))))) jX bD)
    (aC (aE (gN 4) (fAt (aa 3) (fC (.int 0))))
    (aC (aE (gN 5) (fAt (aa 3) (fC (.int 1))))
    (aC (sIf (tE (af Gk (aa 5) (fAt (aa 2) (aa 4)))) jX bD)
    (aC (sU (fAt (aa 2) (aa 4)) (aa 5) (fAt (aa 3) (fC (.int 2))))
    (sU (fAt (aa 2) (aa 5)) (aa 4) (fAt (aa 3) (fC (.int 2)))))))))
noncomputable def dM:Fn:=bE 2 6 (aC (sIf (eD (tE (fP .list (aa 1)))) jX bD)
    (aC (aE (gN 2) (aX (bN 1 [] (bw (aa 0)) (gN 0) [] w9)))
    (aC (dI (dQ (aa 1)) (gN 3) dX)
    (bc (aa 2)))))
noncomputable def cS:Fn:=bE 2 2 (aC (sIf (tE (af iY (aa 1) (fC .non))) (bc (dP (bN 1 [] (bw (aa 0)) (gN 0) [] (fC .non)))) bD)
    (aC (sIf (tOr (eD (tE (fP .list (aa 1)))) (tE (af oNe (el (lOf (aa 1))) (aa 0)))) jX bD)
    (aC (sIf (eD (tE (CO (bN 1 [] (dQ (aa 1)) (gN 0) [] (fT (tOr (tE (af iY (aa 0) (fC .non))) (tE (ao bP (ad (aa 0) am))))))))) jX bD)
    (bc (dP (lOf (aa 1)))))))
noncomputable def xg:Fn:=bE 2 4 (aC (aE (gN 2) (fC (.int 0)))
    (aC (sIf (tE (af oLt (aa 1) (el (lOf (aa 0))))) (aE (gN 2) (fAt (aa 0) (aa 1))) bD)
    (aC (aE (gN 3) (fT (tOr (tE (af oEq (el (lOf (aa 0))) (fC (.int 0)))) (tE (af oEq (af bT (fAt (aa 0) (fC (.int 0))) (fC (.int 2))) (fC (.int 1)))))))
    (aC (sIf (tE (aa 3)) (aE (gN 2) (af cV (af bT (aa 2) (fC (.int 2147483647))) (af cw (fC (.int 1000003)) (aa 1)))) bD)
    (bc (aX (ad (aa 2) (ad (fC (.int 0)) (ad (aa 3) am)))))))))
noncomputable def dy:Fn:=bE 2 4 (aC (oM (aa 0) (fC (.int 1)) (af cV (fAt (aa 0) (fC (.int 1))) (fC (.int 1))))
    (aC (sIf (tE (fAt (aa 0) (fC (.int 2)))) (aC (aE (gN 2) (af bT (af cw (af cV (af cV (fAt (aa 0) (fC (.int 0))) (af cw (fC (.int 7919)) (fAt (aa 0) (fC (.int 1))))) (fC (.int 1))) (fC (.int 48271))) (fC (.int 2147483647))))
    (aC (aE (gN 2) (af bT (af cw (aa 2) (af cV (af bT (aa 2) (fC (.int 65521))) (fAt (aa 0) (fC (.int 1))))) (fC (.int 2147483629))))
    (bc (af bT (af bT (af cV (af cw (aa 2) (aa 2)) (af cw (fC (.int 69621)) (aa 2))) (fC (.int 2147483563))) (aa 1))))) bD)
    (aC (aE (gN 3) (af bT (fAt (aa 0) (fC (.int 0))) (aa 1)))
    (aC (oM (aa 0) (fC (.int 0)) (af fN (fAt (aa 0) (fC (.int 0))) (aa 1)))
    (bc (aa 3))))))
noncomputable def Mi:Fn:=bE 3 3 (aC (sIf (tE (af oEq (aa 0) (fC (.int 0)))) (bc (aa 2)) bD)
    (aC (sIf (tE (af oEq (aa 0) (fC (.int 1)))) (bc (af jV (aa 1) (fC (.int 60)))) bD)
    (aC (sIf (tE (af oEq (aa 0) (fC (.int 2)))) (bc (af jV (af cV (aa 2) (af bT (aa 1) (fC (.int 5)))) (fC (.int 2)))) bD)
    (aC (sIf (tE (af oEq (aa 0) (fC (.int 3)))) (bc (af cw (fC (.int 2)) (af bT (aa 1) (af cV (aa 2) (fC (.int 1)))))) bD)
    (bc (af cw (af cV (af Q5 (fC (.int 10)) (fC (.int 59))) (aa 1)) (fIx (ad (fC (.int 1)) (ad (fC (.int (-1))) am)) (af bT (aa 1) (fC (.int 2))))))))))
noncomputable abbrev A1:SF:=(sIf (tE (af oEq (ao dy (ad (aa 9) (ad (aa 3) am))) (fC (.int 0)))) (aC (aE (gN 11) (af cV (fC (.int 1)) (ao dy (ad (aa 9) (ad (fIx (ad (fC (.int 3)) (ad (fC (.int 400)) am)) (ao dy (ad (aa 9) (ad (fC (.int 2)) am)))) am)))))
    (aC (eV (Q8 (aa 4) (ao dy (ad (aa 9) (ad (af cV (el (lOf (aa 4))) (fC (.int 1))) am))) (fIx (ad (fj (ad (aa 8) (ad (aa 10) (ad (aa 11) am)))) (ad (fj (ad (aa 10) (ad (aa 8) (ad (aa 11) am)))) am)) (af bT (aa 11) (fC (.int 2))))))
    (aC (oM (aa 7) (aa 8) (af cV (fAt (aa 7) (aa 8)) (aa 11)))
    (oM (aa 7) (aa 10) (af cV (fAt (aa 7) (aa 10)) (aa 11)))))) bD)
noncomputable abbrev A2:SF:=(aC (aE (gN 9) (ao xg (ad (aa 0) (ad (af cV (fC (.int 1)) (aa 8)) am))))
    (aC (eV (jf (aa 6) (fIx (ad (fC .non) (ad (fC .non) (ad (fC .non) (ad (fC (.int 0)) (ad (fC (.int 1)) am))))) (ao dy (ad (aa 9) (ad (fC (.int 5)) am))))))
    (aC (eV (jf (aa 5) (fj (ad (ao dy (ad (aa 9) (ad (fC (.int 5)) am))) (ad (ao dy (ad (aa 9) (ad (fC (.int 200)) am))) am)))))
    (dI (bw (aa 8)) (gN 10) A1))))
noncomputable def Do:Fn:=bE 1 12 (aC (aE (gN 1) (ao xg (ad (aa 0) (ad (fC (.int 0)) am))))
    (aC (eV (ao dy (ad (aa 1) (ad (fC (.int 2)) am))))
    (aC (aE (gN 2) (af cV (fC (.int 1)) (ao dy (ad (aa 1) (ad (fIx (ad (fC (.int 6)) (ad (fC (.int 12)) (ad (fC (.int 30)) am))) (ao dy (ad (aa 1) (ad (fC (.int 3)) am)))) am)))))
    (aC (aE (gN 3) (fIx (ad (fC (.int 1)) (ad (fC (.int 2)) (ad (fC (.int 5)) am))) (ao dy (ad (aa 1) (ad (fC (.int 3)) am)))))
    (aC (aE (gN 4) (aX am))
    (aC (aE (gN 5) (aX am))
    (aC (aE (gN 6) (aX am))
    (aC (aE (gN 7) (aX (oU (ad (fC (.int 0)) am) (aa 2))))
    (aC (dI (bw (aa 2)) (gN 8) A2)
    (aC (aE (gN 5) (aX (bN 1 [7,5] (bw (aa 2)) (gN 0) [] (ao Mi (ad (fAt (fAt (aa 2) (aa 0)) (fC (.int 0))) (ad (fAt (fAt (aa 2) (aa 0)) (fC (.int 1))) (ad (fAt (aa 1) (aa 0)) am)))))))
    (bc (fj (ad (aa 2) (ad (aa 4) (ad (aa 5) (ad (aa 6) (ad (aa 7) am)))))))))))))))))
end Fm
set_option linter.all false
namespace Fm
theorem aI {a b:SF}{σ σ':Sd}{h h':Hd}(e:a σ h=.nx σ' h'):aC a b σ h=b σ' h':=by simp [aC,e]
theorem Fw {a b:SF}{σ:Sd}{h h':Hd}{d:D}(e:a σ h=.rt d h'):aC a b σ h=.rt d h':=by simp [aC,e]
theorem rW {x:Int}(h0:0≤x)(h1:x < 4611686018427387904):sml x=true:=by
  simp only [sml,Bool.and_eq_true,decide_eq_true_eq];omega
theorem j5 {α : Type}{f : α → D}{l:List α}{i:Nat}(h:i < l.length):atI (l.map f) (i:Int)=some (f l[i]):=gw (by simp [h])
end Fm
set_option linter.all false
namespace Fm
theorem dY {n i:Nat}{x:D}(hx:((List.range n).map fun k:Nat=>D.int k)[i]? = some x):i < n∧x=.int (i:Nat):=by
  have hi:i < n:=by
    have:=(List.getElem?_eq_some_iff.mp hx).1
    simpa using this
  exact⟨hi,by simpa [hi,List.getElem?_eq_getElem] using hx.symm⟩
theorem Qs {α : Type}(f : α → D)(l:List α){x:Int}(h0:0≤x)(h:x < l.length):∃ v∈l,atI (l.map f) x=some (f v):=by
  have h3:x.toNat < l.length:=by omega
  refine⟨l[x.toNat],List.getElem_mem h3,?_⟩
  have:=j5 (f:=f) h3
  rwa [show ((x.toNat:Nat):Int)=x by omega] at this
structure Tie where
  a:Nat
  b:Nat
  w:Int
def cT (t:Tie):D:=.tup [.int t.a,.int t.b,.int t.w]
def far (i:Nat) (t:Tie):Option Nat:=if t.a=i then some t.b else if t.b=i then some t.a else none
def wOf (i:Nat) (t:Tie):Int:=if t.a=i∨t.b=i then t.w else 0
def mw (T:List Tie) (i:Nat):Int:=(T.map (wOf i)).sum
def Qt (one other:Nat) (t:Tie):Prop:=(t.a < one∧t.b < one)∨(t.a=one∧t.b < other)∨(t.b=one∧t.a < other)
def j6 (s t:Tie):Prop:=¬ (s.a=t.a∧s.b=t.b) ∧ ¬ (s.a=t.b∧s.b=t.a)
structure TOk (n one other:Nat) (T:List Tie):Prop where
  ne:∀ t∈T,t.a≠t.b
  lt:∀ t∈T,t.a < n∧t.b < n
  wt:∀ t∈T,1≤t.w∧t.w≤400
  be:∀ t∈T,Qt one other t
  un:T.Pairwise j6
  len:T.length≤30 * one + other
theorem j6.symm {s t:Tie}(h:j6 s t):j6 t s:=⟨fun z=>h.1 ⟨z.1.symm,z.2.symm⟩,fun z=>h.2 ⟨z.2.symm,z.1.symm⟩⟩
theorem TOk.skip {n one other:Nat}{T:List Tie}(o:TOk n one other T):TOk n one (other + 1) T :=
  ⟨o.ne,o.lt,o.wt,fun t ht=>by
    rcases o.be t ht with h|h|h
    · exact .inl h
    · exact .inr (.inl ⟨h.1,Nat.lt_succ_of_lt h.2⟩)
    · exact .inr (.inr ⟨h.1,Nat.lt_succ_of_lt h.2⟩),o.un,Nat.le_succ_of_le o.len⟩
theorem TOk.step {n one:Nat}{T:List Tie}(o:TOk n one one T)(h:one < n)(hn:n≤30):TOk n (one + 1) 0 T :=
  ⟨o.ne,o.lt,o.wt,fun t ht=>by
    rcases o.be t ht with h|h|h
    · exact .inl ⟨Nat.lt_succ_of_lt h.1,Nat.lt_succ_of_lt h.2⟩
    · exact .inl ⟨Nat.lt_succ_of_le (Nat.le_of_eq h.1),Nat.lt_succ_of_lt h.2⟩
    · exact .inl ⟨Nat.lt_succ_of_lt h.2,Nat.lt_succ_of_le (Nat.le_of_eq h.1)⟩,o.un,Nat.le_trans o.len (Nat.add_le_add_left (Nat.le_trans (Nat.le_of_lt h) hn) _)⟩
theorem rX {α : Type}{x y : α}{l:List α}{k:Nat}(h:y∈l.take k++[x]++l.drop k):y=x∨y∈l:=by
  simp only [List.append_assoc,List.mem_append,List.mem_singleton] at h
  rcases h with h|h|h
  · exact .inr (List.mem_of_mem_take h)
  · exact .inl h
  · exact .inr (List.mem_of_mem_drop h)
theorem JP {α : Type}{R : α → α → Prop}(sym:∀ a b,R a b→R b a){x : α}{l:List α}(k:Nat)(h:l.Pairwise R)(hx:∀ y∈l,R x y):(l.take k++[x]++l.drop k).Pairwise R:=by
  have hl:(l.take k++l.drop k).Pairwise R:=by rw [List.take_append_drop];exact h
  rw [List.pairwise_append] at hl
  obtain⟨h1,h2,h3⟩:=hl
  rw [List.append_assoc,List.pairwise_append]
  refine⟨h1,?_,fun a ha b hb => ?_⟩
  · rw [List.singleton_append,List.pairwise_cons]
    exact⟨fun y hy=>hx y (List.mem_of_mem_drop hy),h2⟩
  · rcases List.mem_append.mp hb with hb|hb
    · simp at hb;subst hb;exact sym _ _ (hx a (List.mem_of_mem_take ha))
    · exact h3 a ha b hb
theorem TOk.put {n one other:Nat}{T:List Tie}(o:TOk n one other T)(h1:one < n)(h2:other < one){w:Int}(w1:1≤w)(w2:w≤400){t:Tie}(ht:t=⟨one,other,w⟩ ∨t=⟨other,one,w⟩)(k:Nat):TOk n one (other + 1) (T.take k++[t]++T.drop k) where
  ne:=fun s hs=>by
    rcases rX hs with rfl|hs
    · rcases ht with e|e<;>subst e
      · exact Nat.ne_of_gt h2
      · exact Nat.ne_of_lt h2
    · exact o.ne s hs
  lt:=fun s hs=>by
    rcases rX hs with rfl|hs
    · rcases ht with e|e<;>subst e
      · exact⟨h1,Nat.lt_trans h2 h1⟩
      · exact⟨Nat.lt_trans h2 h1,h1⟩
    · exact o.lt s hs
  wt:=fun s hs=>by
    rcases rX hs with rfl|hs
    · rcases ht with e|e<;>subst e<;>exact⟨w1,w2⟩
    · exact o.wt s hs
  be:=fun s hs=>by
    rcases rX hs with rfl|hs
    · rcases ht with e|e<;>subst e
      · exact .inr (.inl ⟨rfl,Nat.lt_succ_self _⟩)
      · exact .inr (.inr ⟨rfl,Nat.lt_succ_self _⟩)
    · exact o.skip.be s hs
  un:=JP (fun _ _=>j6.symm) k o.un fun s hs=>by
    have hb:=o.be s hs
    rcases ht with e|e<;>subst e<;>rcases hb with hb|hb|hb
    · exact⟨fun z=>Nat.ne_of_gt hb.1 z.1,fun z=>Nat.ne_of_gt hb.2 z.1⟩
    · exact⟨fun z=>Nat.ne_of_gt hb.2 z.2,fun z=>Nat.ne_of_gt (Nat.lt_trans hb.2 h2) z.1⟩
    · exact⟨fun z=>Nat.ne_of_gt (Nat.lt_trans hb.2 h2) z.1,fun z=>Nat.ne_of_gt hb.2 z.2⟩
    · exact⟨fun z=>Nat.ne_of_gt hb.2 z.2,fun z=>Nat.ne_of_gt hb.1 z.2⟩
    · exact⟨fun z=>Nat.ne_of_gt (Nat.lt_trans hb.2 h2) z.2,fun z=>Nat.ne_of_gt hb.2 z.1⟩
    · exact⟨fun z=>Nat.ne_of_gt hb.2 z.1,fun z=>Nat.ne_of_gt (Nat.lt_trans hb.2 h2) z.2⟩
  len:=by
    have e:(T.take k).length + (T.drop k).length=T.length:=by rw [← List.length_append,List.take_append_drop]
    rw [List.length_append,List.length_append,List.length_singleton,Nat.add_right_comm,e]
    exact Nat.succ_le_succ o.len
end Fm
set_option linter.all false
namespace Fm
def Rc (p:Int × Int):D:=.tup [.int p.1,.int p.2]
structure PH (n i:Nat) (T:List Tie) (bs:List (Int × Int)) (ss:List (Option Int)) (h:Hd):Prop where
  ti:h[1]? = some (.lst (T.map cT))
  ba:h[2]? = some (.lst (bs.map Rc))
  st:h[3]? = some (.lst (ss.map aZ))
  to:h[4]? = some (.lst (((List.range n).map (mw T)).map .int))
  len:h.length=5 + i
  lb:bs.length=i
  ls:ss.length=i
  os:∀ x∈ss,x=none∨x=some 0∨x=some 1
theorem Pa {g:Hd}{k:Nat}{c:cX}(cc:cX)(h:g[k]? = some c):(g.set k cc)[k]? = some cc:=List.getElem?_set_self (List.getElem?_eq_some_iff.mp h).1
theorem rY {j n:Nat}(h:j < n):ixN n (j:Int)=some j:=by simp [ixN,h]
noncomputable abbrev XP (lit:D) (hd:Option D) (n thin one:Nat) (a b:Option D):Sd:=[some lit,hd,some (.int n),some (.int thin),some (.ref 1),some (.ref 2),some (.ref 3),some (.ref 4),some (.int one),some (.ref (5 + one)),a,b]
abbrev SC (c t:Int) (b:Bool):cX:=.lst [.int c,.int t,.bl b]
inductive PI (lit:D) (hd:Option D) (n thin one:Nat) (bs:List (Int × Int)) (ss:List (Option Int)) (m:Bool):Nat→Sd→Hd→Prop
  | mk {i:Nat} {h:Hd} {T:List Tie} {a b:Option D} {c t:Int} (P:PH n (one + 1) T bs ss h) (O:TOk n one i T) (hs:h[5 + one]? = some (SC c t m)):PI lit hd n thin one bs ss m i (XP lit hd n thin one a b) h
theorem few {l one n i:Nat}(h:l≤30 * one + i)(h1:one < n)(hn:n≤30)(hi:i < one):l < 1000:=by omega
end Fm
set_option linter.all false
namespace Fm
noncomputable abbrev XQ (lit:D) (hd:Option D) (n thin:Nat) (a b c d:Option D):Sd:=[some lit,hd,some (.int n),some (.int thin),some (.ref 1),some (.ref 2),some (.ref 3),some (.ref 4),a,b,c,d]
theorem QM {u:Option Int}(h:u∈[none,none,none,some 0,some 1]):u=none∨u=some 0∨u=some 1:=by
  simp at h;exact h
inductive PO (ns:List Int) (hd:Option D) (n thin:Nat):Nat→Sd→Hd→Prop
  | mk {i:Nat} {h:Hd} {a b c d:Option D} {T:List Tie} {bs:List (Int × Int)} {ss:List (Option Int)} (P:PH n i T bs ss h) (O:TOk n i 0 T):PO ns hd n thin i (XQ (.lit (ns.map .int)) hd n thin a b c d) h
structure Re (ns:List Int) (n:Nat) (T:List Tie) (bs:List Int) (ss:List (Option Int)) (h:Hd):Prop where
  run:Do [.lit (ns.map .int)] []=.ok (.tup [.int n,.ref 1,.ref (5 + n),.ref 3,.ref 4]) h
  n1:1≤n
  n30:n≤30
  ok:TOk n n 0 T
  ti:h[1]? = some (.lst (T.map cT))
  ba:h[5 + n]? = some (.lst (bs.map .int))
  st:h[3]? = some (.lst (ss.map aZ))
  to:h[4]? = some (.lst (((List.range n).map (mw T)).map .int))
  len:h.length=6 + n
  lb:bs.length=n
  ls:ss.length=n
  os:∀ x∈ss,x=none∨x=some 0∨x=some 1
end Fm
set_option linter.all false
namespace Fm
theorem fx {α : Type}{f : α → D}:∀ {l:List α},(∀ x∈l,pure? (f x)=true)→iD (l.map f)=true
  | [],_=>rfl
  | x :: l,h=>by
    simp only [List.map_cons,iD,Bool.and_eq_true]
    exact⟨h x (by simp),fx fun y hy=>h y (by simp [hy])⟩
theorem A3 (w:Web):pure? w.enc=true:=by
  have h1:∀ r:List (Nat × Int),pure? (qR r)=true:=fun r=>by
    unfold qR
    simp only [pure?]
    exact fx fun p _=>rfl
  have h2:iD (w.ties.map qR)=true:=fx fun r _=>h1 r
  have h3:iD (w.bars.map D.int)=true:=fx fun r _=>rfl
  have h4:iD (w.stays.map aZ)=true:=fx fun r _=>by cases r<;>rfl
  unfold Web.enc
  simp only [pure?,iD,h2,h3,h4]
  rfl
def qS (p:Nat × Int):List Int:=[(p.1:Int),p.2]
def uX (x:Nat × Int):List (Nat × Int)→List (Nat × Int)
  | []=>[x]
  | y :: r=>if lexLt (qS x) (qS y)=true then x :: y :: r else y :: uX x r
def gG:List (Nat × Int)→List (Nat × Int)
  | []=>[]
  | x :: r=>uX x (gG r)
theorem A4 (x:Nat × Int):∀ r,(uX x r).map qS=yk (qS x) (r.map qS)
  | []=>rfl
  | y :: r=>by
    simp only [uX,yk,List.map_cons]
    split
    · rfl
    · simp [A4 x r]
theorem xh:∀ r,(gG r).map qS=dv (r.map qS)
  | []=>rfl
  | x :: r=>by simp only [gG,dv,List.map_cons,A4,xh r]
theorem A5 {x p:Nat × Int}:∀ {r},p∈uX x r ↔ p=x∨p∈r
  | []=>by simp [uX]
  | y :: r=>by
    simp only [uX]
    split
    · simp
    · simp only [List.mem_cons,A5 (r:=r)]
      constructor
      · rintro (h|h|h)
        · exact .inr (.inl h)
        · exact .inl h
        · exact .inr (.inr h)
      · rintro (h|h|h)
        · exact .inr (.inl h)
        · exact .inl h
        · exact .inr (.inr h)
theorem o4 {p:Nat × Int}:∀ {r},p∈gG r ↔ p∈r
  | []=>by simp [gG]
  | x :: r=>by simp only [gG,A5,o4 (r:=r),List.mem_cons]
theorem A6 (f:Nat × Int→Int)(x:Nat × Int):∀ r,((uX x r).map f).sum=f x + (r.map f).sum
  | []=>by simp [uX]
  | y :: r=>by
    simp only [uX]
    split
    · simp
    · simp [A6 f x r];omega
theorem xi (f:Nat × Int→Int):∀ r,((gG r).map f).sum=(r.map f).sum
  | []=>rfl
  | x :: r=>by simp [gG,A6,xi f r]
def nbs (T:List Tie) (i:Nat):List (Nat × Int):=T.filterMap fun t=>(far i t).map fun j=>(j,t.w)
def qT (p:Nat × Int):Int × D:=((p.1:Int),.int p.2)
theorem A7 (T:List Tie)(t:Tie)(i:Nat):nbs (T++[t]) i=nbs T i++(match far i t with|some j=>[(j,t.w)] | none=>[]):=by
  unfold nbs
  rw [List.filterMap_append]
  congr 1
  cases e:far i t<;>simp [e]
theorem Gx {l:List (Nat × Int)}{k:Nat}(h:∀ p∈l,p.1≠k):sT (l.map qT) k=none:=by
  unfold sT
  rw [List.find?_eq_none.mpr]
  · rfl
  · intro x hx
    obtain⟨p,hp,rfl⟩:=List.mem_map.mp hx
    have hne:=h p hp
    have : ¬ ((p.1:Int)=(k:Int)):=fun z=>hne (by omega)
    show ¬ (decide ((p.1:Int)=(k:Int))=true)
    rw [decide_eq_true_eq]
    exact this
theorem A8 {l:List (Nat × Int)}{k:Nat}{v:Int}(h:∀ p∈l,p.1≠k):CY (l.map qT) k (.int v)=(l++[(k,v)]).map qT:=by
  unfold CY
  rw [if_neg]
  · simp [qT]
  · simp only [List.any_eq_true,List.mem_map,decide_eq_true_eq]
    rintro⟨x,⟨p,hp,rfl⟩,e⟩
    have hne:=h p hp
    have e:(p.1:Int)=(k:Int):=e
    exact hne (by omega)
theorem A9 {i j:Nat}{t:Tie}(h:far i t=some j):(t.a=i∧t.b=j)∨(t.b=i∧t.a=j):=by
  unfold far at h
  by_cases a:t.a=i
  · rw [if_pos a] at h;exact .inl ⟨a,Option.some.inj h⟩
  · rw [if_neg a] at h
    by_cases b:t.b=i
    · rw [if_pos b] at h;exact .inr ⟨b,Option.some.inj h⟩
    · rw [if_neg b] at h;cases h
theorem Dp {T:List Tie}{t:Tie}{i j:Nat}(hf:far i t=some j)(un:∀ s∈T,j6 s t):∀ p∈nbs T i,p.1≠j:=fun p hp e=>by
  obtain⟨s,hs,q⟩:=List.mem_filterMap.mp hp
  obtain⟨k,hk,rfl⟩:=Option.map_eq_some_iff.mp q
  have u:=un s hs
  rw [show k=j from e] at hk
  rcases A9 hf with ⟨a1,a2⟩|⟨a1,a2⟩<;>rcases A9 hk with ⟨b1,b2⟩|⟨b1,b2⟩
  · exact u.1 ⟨b1.trans a1.symm,b2.trans a2.symm⟩
  · exact u.2 ⟨b2.trans a2.symm,b1.trans a1.symm⟩
  · exact u.2 ⟨b1.trans a1.symm,b2.trans a2.symm⟩
  · exact u.1 ⟨b2.trans a2.symm,b1.trans a1.symm⟩
theorem Gy {n:Nat}{t:Tie}(h1:t.a≠t.b)(h2:t.a < n)(h3:t.b < n)(h4:1≤t.w∧t.w≤400)(h:Hd):lm [.int n,cT t] h=.ok (.bl true) h:=by
  have e1:(t.a:Int)≤n - 1:=Int.le_sub_one_of_lt (Int.ofNat_lt.mpr h2)
  have e2:(t.b:Int)≤n - 1:=Int.le_sub_one_of_lt (Int.ofNat_lt.mpr h3)
  have e3 : ¬ (t.a:Int)=t.b:=fun z=>h1 (Int.ofNat.inj z)
  have bt:∀ {i a b:Int},a≤i→i≤b→bx [.int i,.int a,.int b] h=.ok (.bl true) h:=fun x y=>by rw [iK,decide_eq_true x,decide_eq_true y];rfl
  have s1:sIf (tOr (eD (tE (fP .tuple (aa 1)))) (tE (af oNe (el (lOf (aa 1))) (fC (.int 3))))) (bc (fC (.bl false))) bD [some (.int n),some (cT t),none,none] h=.nx [some (.int n),some (cT t),none,none] h:=fW (nI (gU (b:=true) (bB rfl)) (bB (ak (iJ (d7 rfl rfl)) rfl rfl)))
  have s4:sIf (tOr (eD (tE (ao bx (ad (aa 2) (ad (fC (.int 0)) (ad (af jV (aa 0) (fC (.int 1))) am)))))) (eD (tE (ao bx (ad (aa 3) (ad (fC (.int 0)) (ad (af jV (aa 0) (fC (.int 1))) am))))))) (bc (fC (.bl false))) bD [some (.int n),some (cT t),some (.int t.a),some (.int t.b)] h=.nx [some (.int n),some (cT t),some (.int t.a),some (.int t.b)] h:=fW (nI (gU (b:=true) (bB (aw (au rfl (au rfl (au (ak rfl rfl rfl) rfl))) (bt (Int.natCast_nonneg _) e1)))) (gU (b:=true) (bB (aw (au rfl (au rfl (au (ak rfl rfl rfl) rfl))) (bt (Int.natCast_nonneg _) e2)))))
  have s5:bc (fT (jx (tE (af oNe (aa 2) (aa 3))) (tE (ao bx (ad (fAt (aa 1) (fC (.int 2))) (ad (fC (.int 1)) (ad (fC (.int 400)) am))))))) [some (.int n),some (cT t),some (.int t.a),some (.int t.b)] h=.rt (.bl true) h:=bo (qp (oY (bB (ak rfl rfl (by rw [Dj,decide_eq_false e3];rfl))) (bB (aw (au (bh rfl rfl rfl rfl) (au rfl (au rfl rfl))) (bt h4.1 h4.2)))))
  exact (cJ rfl rfl ((bi s1).trans ((bi (aF (bh rfl rfl rfl rfl))).trans ((bi (aF (bh rfl rfl rfl rfl))).trans ((bi s4).trans s5))))).trans bL
structure NH (n A:Nat) (h0:Hd) (T:List Tie) (h:Hd):Prop where
  pre:∃ g,h=h0++g∧g.length=n + 1
  dc:∀ j,j < n→h[A + j]? = some (.dct ((nbs T j).map qT))
  rf:h[A + n]? = some (.lst ((List.range n).map fun i=>.ref (A + i)))
theorem NH.put {n A:Nat}{h0:Hd}{T:List Tie}{h:Hd}(hA:A=h0.length)(N:NH n A h0 T h){j:Nat}(hj:j < n)(c:cX):(∃ g,h.set (A + j) c=h0++g∧g.length=n + 1)∧(h.set (A + j) c)[A + j]? = some c∧(∀ k,k≠j→(h.set (A + j) c)[A + k]? = h[A + k]?):=by
  obtain⟨g,e,l⟩:=N.pre
  have lt:=(List.getElem?_eq_some_iff.mp (N.dc j hj)).1
  exact⟨⟨g.set j c,by rw [e,i5 hA],by rw [List.length_set];exact l⟩,List.getElem?_set_self lt,fun k hk=>List.getElem?_set_ne fun z=>hk (Nat.add_left_cancel z).symm⟩
def SNx (a b:SF):Prop:=∀ {σ h σ' h'},a σ h=.nx σ' h'→b σ h=.nx σ' h'
theorem SNx.refl {a:SF}:SNx a a:=fun e=>e
theorem JQ {n i j:Nat}{T:List Tie}(hn:n≤30)(O:TOk n n 0 T):((nbs (T.take i) j).map qT).length < SZ:=by
  rw [List.length_map]
  exact Nat.lt_of_le_of_lt (Nat.le_trans (List.length_filterMap_le _ _) (Nat.le_trans (List.length_take_le' _ _) (Nat.le_trans O.len (Nat.add_le_add_right (Nat.mul_le_mul_left 30 hn) 0)))) (by decide)
noncomputable abbrev XN (n tk A:Nat) (a b c:Option D):Sd:=[some (.int n),some (.ref tk),some (.ref (A + n)),a,b,c]
theorem Mj {n A tk i:Nat}(hn:n≤30){T:List Tie}(O:TOk n n 0 T){h h0:Hd}(hA:A=h.length)(N:NH n A h (T.take i) h0){t:Tie}(mt:t∈T)(un:∀ s∈T.take i,j6 s t)(tk1:T.take (i + 1)=T.take i++[t])(b c:Option D) :
    ∃ h6,dX (XN n tk A (some (cT t)) b c) h0=.nx (XN n tk A (some (cT t)) (some (.int t.a)) (some (.int t.b))) h6∧NH n A h (T.take (i + 1)) h6:=by
  have tne:=O.ne t mt
  have tlt:=O.lt t mt
  have fa:far t.a t=some t.b:=if_pos rfl
  have fb:far t.b t=some t.a:=(if_neg tne).trans (if_pos rfl)
  have na:=Dp fa un
  have nb:=Dp fb un
  have rat:∀ j:Nat,j < n→atI ((List.range n).map fun i=>D.ref (A + i)) (j:Int)=some (.ref (A + j)):=fun j hj=>gw (by rw [List.getElem?_map,List.getElem?_range hj];rfl)
  have ra:=rat t.a tlt.1
  have rb:=rat t.b tlt.2
  have da:=N.dc t.a tlt.1
  obtain⟨p1,p2,p3⟩:=N.put hA tlt.1 (.dct ((nbs (T.take i) t.a++[(t.b,t.w)]).map qT))
  obtain⟨h5,hh5⟩ : ∃ h5,h5=h0.set (A + t.a) (.dct ((nbs (T.take i) t.a++[(t.b,t.w)]).map qT)):=⟨_,rfl⟩
  rw [← hh5] at p1 p2 p3
  have rf5:h5[A + n]? = some (.lst ((List.range n).map fun i=>.ref (A + i))):=(p3 n (Nat.ne_of_gt tlt.1)).trans N.rf
  have db:h5[A + t.b]? = some (.dct ((nbs (T.take i) t.b).map qT)):=(p3 t.b (Ne.symm tne)).trans (N.dc t.b tlt.2)
  obtain⟨h6,hh6⟩ : ∃ h6,h6=h5.set (A + t.b) (.dct ((nbs (T.take i) t.b++[(t.a,t.w)]).map qT)):=⟨_,rfl⟩
  have s4:sIf (tE (af Gk (aa 5) (fAt (aa 2) (aa 4)))) jX bD (XN n tk A (some (cT t)) (some (.int t.a)) (some (.int t.b))) h0=.nx (XN n tk A (some (cT t)) (some (.int t.a)) (some (.int t.b))) h0:=by
    refine fW (bB (ak rfl (bh rfl rfl (bg N.rf) ra) ?_))
    rw [O6 da,Gx na];rfl
  have s5:sU (fAt (aa 2) (aa 4)) (aa 5) (fAt (aa 3) (fC (.int 2))) (XN n tk A (some (cT t)) (some (.int t.a)) (some (.int t.b))) h0=.nx (XN n tk A (some (cT t)) (some (.int t.a)) (some (.int t.b))) h5:=by
    rw [hh5,← A8 na]
    exact Fu (bh rfl rfl rfl rfl) (bh rfl rfl (bg N.rf) ra) rfl da (JQ hn O)
  have s6:sU (fAt (aa 2) (aa 5)) (aa 4) (fAt (aa 3) (fC (.int 2))) (XN n tk A (some (cT t)) (some (.int t.a)) (some (.int t.b))) h5=.nx (XN n tk A (some (cT t)) (some (.int t.a)) (some (.int t.b))) h6:=by
    rw [hh6,← A8 nb]
    exact Fu (bh rfl rfl rfl rfl) (bh rfl rfl (bg rf5) rb) rfl db (JQ hn O)
  refine⟨h6,(aI (fW (gU (bB (aw (au rfl (au rfl rfl)) (Gy tne tlt.1 tlt.2 (O.wt t mt) h0)))))).trans ((aI (aF (bh rfl rfl rfl rfl))).trans ((aI (aF (bh rfl rfl rfl rfl))).trans ((aI s4).trans ((aI s5).trans s6)))),?_,fun j hj => ?_,?_⟩
  · obtain⟨g,e,l⟩:=p1
    exact⟨_,by rw [hh6,e,i5 hA],by rw [List.length_set];exact l⟩
  · rw [tk1,A7]
    by_cases e1:t.b=j
    · subst e1
      rw [hh6,Pa _ db,fb]
    · rw [hh6,List.getElem?_set_ne (fun z=>e1 (Nat.add_left_cancel z))]
      by_cases e2:t.a=j
      · subst e2
        rw [p2,fa]
      · have:far j t=none:=(if_neg e2).trans (if_neg e1)
        rw [p3 j (Ne.symm e2),this,N.dc j hj]
        simp only [List.append_nil]
  · rw [hh6];exact (List.getElem?_set_ne (fun z=>Nat.ne_of_lt tlt.2 (Nat.add_left_cancel z))).trans rf5
theorem Gz {n:Nat}{h:Hd}{A:Nat}(hA:A=h.length):∃ h1 g,cx none ((List.range n).map fun k:Nat=>D.int k) (gN 0) [] w9 ((List.range n).map fun k:Nat=>D.int k) [none] h=.ok ((List.range n).map fun i=>.ref (A + i)) h1∧h1=h++g∧g.length=n ∧ ∀ j,j < n→h1[A + j]? = some (.dct []):=by
  obtain⟨ds,h1,k1,l1,v1,σ1,-,g,hg,lg,g1⟩:=mU (g:=none) (all:=(List.range n).map fun k:Nat=>D.int k) (tg:=gN 0) (xs:=(List.range n).map fun k:Nat=>D.int k) (k:=0)
    (e:=w9) (σ:=[none]) (h:=h)
    (P:=fun i σ h'=>(∃ a,σ = [a]) ∧ ∃ g,h'=h++g∧g.length=i ∧ ∀ j,j < i→h'[A + j]? = some (.dct [])) (V:=fun i d=>d=.ref (A + i)) (fun _ _ _ _=>trivial) (by
      rintro i x σ h0 hx ⟨⟨a,rfl⟩,g,e0,lg,e1⟩
      obtain⟨hi,rfl⟩:=dY hx
      rw [Nat.zero_add] at lg e1 ⊢
      have hl:h0.length=A + i:=by rw [e0,List.length_append,lg,hA]
      refine⟨_,rfl,.ref h0.length,h0++[.dct []],rfl,by rw [hl],⟨_,rfl⟩,g++[.dct []],by rw [e0,List.append_assoc],by rw [List.length_append,lg];rfl,fun j hj => ?_⟩
      by_cases hji:j < i
      · exact cE _ (e1 j hji)
      · rw [Nat.le_antisymm (Nat.le_of_lt_succ hj) (Nat.not_lt.mp hji),← hl];exact List.getElem?_concat_length) ⟨⟨_,rfl⟩,[],(List.append_nil _).symm,rfl,fun j hj=>absurd hj (Nat.not_lt_zero _)⟩
  rw [List.length_map,List.length_range] at l1
  rw [Nat.zero_add,List.length_map,List.length_range] at lg g1
  have e1:ds=(List.range n).map fun i=>.ref (A + i):=sY l1 fun i d hd=>by have:=v1 i d hd;rwa [Nat.zero_add] at this
  exact⟨h1,g,by rw [k1,e1],hg,lg,g1⟩
inductive NI (n A tk:Nat) (h:Hd) (T:List Tie):Nat→Sd→Hd→Prop
  | mk {i:Nat} {h':Hd} {a b c:Option D} (N:NH n A h (T.take i) h'):NI n A tk h T i (XN n tk A a b c) h'
theorem Pb {n:Nat}(hn1:1≤n)(hn:n≤30){T:List Tie}(O:TOk n n 0 T){B:SF}(hB:SNx dX B){rest:List D}{h:Hd}{tk:Nat}(ht:h[tk]? = some (.lst (T.map cT++rest))) :
    ∃ h2 h3 a3 b3 c3,aE (gN 2) (aX (bN 1 [] (bw (aa 0)) (gN 0) [] w9)) [some (.int n),some (.ref tk),none,none,none,none] h=.nx [some (.int n),some (.ref tk),some (.ref (h.length + n)),none,none,none] h2∧h2[tk]? = some (.lst (T.map cT++rest)) ∧
      gc (some tk) (T.map cT++rest) (gN 3) B (T.map cT++rest) [some (.int n),some (.ref tk),some (.ref (h.length + n)),none,none,none] h2=gc (some tk) (T.map cT++rest) (gN 3) B rest [some (.int n),some (.ref tk),some (.ref (h.length + n)),a3,b3,c3] h3 ∧
      h3[tk]? = some (.lst (T.map cT++rest))∧NH n h.length h T h3:=by
  obtain⟨A,hA⟩ : ∃ A,A=h.length:=⟨_,rfl⟩
  obtain⟨h1,g,k1,hg,lg,g1⟩:=Gz (n:=n) hA
  obtain⟨h2,hh2⟩ : ∃ h2,h2=h1++[.lst ((List.range n).map fun i=>.ref (A + i))]:=⟨_,rfl⟩
  have l1':h1.length=A + n:=by rw [hg,List.length_append,lg,hA]
  have N0:NH n A h [] h2:=⟨⟨g++[.lst ((List.range n).map fun i=>.ref (A + i))],by rw [hh2,hg,List.append_assoc],by rw [List.length_append,lg];rfl⟩,fun j hj=>by rw [hh2];exact cE _ (g1 j hj),by rw [hh2,← l1'];exact List.getElem?_concat_length⟩
  obtain⟨_,h3,k3,@⟨_,a3,b3,c3,N3⟩⟩:=oX (rest:=rest) (P:=NI n A tk h T) (g:=some tk) (k:=0)
      (all:=T.map cT++rest) (fun _ _ h' q=>by
        obtain⟨N⟩:=q
        obtain⟨g,e,_⟩:=N.pre
        show h'[tk]? = _
        rw [e];exact cE _ ht)
      (xs:=T.map cT) (tg:=gN 3) (σ:=XN n tk A none none none) (h:=h2) (b:=B) (by
      intro i x σ h0 hx z
      rw [Nat.zero_add] at z ⊢
      obtain @⟨_,a,b,c,N⟩:=z
      have hiT:i < T.length:=by have:=(List.getElem?_eq_some_iff.mp hx).1;rwa [List.length_map] at this
      rw [List.getElem?_map,List.getElem?_eq_getElem hiT] at hx
      cases hx
      have mt:T[i]∈T:=List.getElem_mem hiT
      have un:∀ s∈T.take i,j6 s T[i]:=fun s hs=>by
        obtain⟨k,hk,rfl⟩:=List.getElem_of_mem hs
        rw [List.length_take] at hk
        rw [List.getElem_take]
        exact List.pairwise_iff_getElem.mp O.un k i _ hiT (Nat.lt_of_lt_of_le hk (Nat.min_le_left _ _))
      obtain⟨h6,q6,N6⟩:=Mj (tk:=tk) hn O hA N mt un (List.take_succ_eq_append_getElem hiT) b c
      exact⟨_,rfl,_,h6,hB q6,.mk N6⟩) (.mk N0)
  rw [Nat.zero_add,List.length_map,List.take_length] at N3
  have s2:aE (gN 2) (aX (bN 1 [] (bw (aa 0)) (gN 0) [] w9)) [some (.int n),some (.ref tk),none,none,none,none] h=.nx [some (.int n),some (.ref tk),some (.ref (A + n)),none,none,none] h2:=by
    rw [hh2,← l1']
    exact aF (dw (eE (cY rfl (Nat.le_trans hn (by decide))) k1) (by rw [List.length_map,List.length_range];exact Nat.le_trans hn (by decide)))
  have t2:h2[tk]? = some (.lst (T.map cT++rest)):=by rw [hh2,hg];exact cE _ (cE _ ht)
  obtain⟨g3,e3,_⟩:=N3.pre
  refine⟨h2,h3,a3,b3,c3,by rw [← hA];exact s2,t2,by rw [← hA];exact k3,?_,by rw [← hA];exact N3⟩
  rw [e3];exact cE _ ht
theorem uY {n:Nat}(hn1:1≤n)(hn:n≤30){T:List Tie}(O:TOk n n 0 T){h:Hd}{tk:Nat}(ht:h[tk]? = some (.lst (T.map cT))) :
    ∃ h',dM [.int n,.ref tk] h=.ok (.ref (h.length + n)) h'∧NH n h.length h T h':=by
  obtain⟨h2,h3,a3,b3,c3,s2,t2,k3,t3,N3⟩:=Pb hn1 hn O (B:=dX) SNx.refl (rest:=[]) (h:=h) (tk:=tk) (by rw [List.append_nil];exact ht)
  rw [List.append_nil] at t2 t3 k3
  refine⟨h3,?_,N3⟩
  have s1:sIf (eD (tE (fP .list (aa 1)))) jX bD [some (.int n),some (.ref tk),none,none,none,none] h=.nx [some (.int n),some (.ref tk),none,none,none,none] h:=fW (gU (bB (yq rfl ht)))
  have s3:dI (dQ (aa 1)) (gN 3) dX [some (.int n),some (.ref tk),some (.ref (h.length + n)),none,none,none] h2=.nx [some (.int n),some (.ref tk),some (.ref (h.length + n)),a3,b3,c3] h3:=by
    have e:gc (some tk) (T.map cT) (gN 3) dX [] [some (.int n),some (.ref tk),some (.ref (h.length + n)),a3,b3,c3] h3=.nx [some (.int n),some (.ref tk),some (.ref (h.length + n)),a3,b3,c3] h3:=by
      unfold gc
      exact if_pos t3
    rw [e] at k3
    exact d8 (eF rfl t2) k3
  have st:([D.int n,D.ref tk].map some++List.replicate (6 - [D.int n,D.ref tk].length) none:Sd)=[some (.int n),some (.ref tk),none,none,none,none]:=rfl
  unfold dM bE runB
  rw [if_pos (show [D.int n,D.ref tk].length=2 from rfl),st,aI s1,aI s2,aI s3]
  simp [letGo,pure?]
end Fm
set_option linter.all false
namespace Fm
theorem Qu (a b:Int)(h:Hd):oNe (.int a) (.int b) h=.ok (.bl (!decide (a=b))) h:=rfl
theorem Pc {l:List Nat}{n:Nat}(nd:l.Nodup)(h:∀ x∈l,x < n):l.length≤n:=by
  induction n generalizing l with
  | zero=>match l,h with
    | [],_=>exact Nat.le_refl _
    | x :: _,h=>exact absurd (h x List.mem_cons_self) (Nat.not_lt_zero _)
  | succ n ih =>
    by_cases m:n∈l
    · have:=ih (nd.erase n) fun x hx=>by
        have z:=(List.Nodup.mem_erase_iff nd).mp hx
        exact Nat.lt_of_le_of_ne (Nat.le_of_lt_succ (h x z.2)) z.1
      rw [List.length_erase_of_mem m] at this
      exact Nat.le_add_of_sub_le this
    · exact Nat.le_succ_of_le (ih nd fun x hx=>Nat.lt_of_le_of_ne (Nat.le_of_lt_succ (h x hx)) fun z=>m (z ▸ hx))
def fy (n:Nat) (T:List Tie) (bs:List Int) (ss:List (Option Int)):Web:=⟨(List.range n).map fun i=>gG (nbs T i),bs,ss⟩
theorem j7:∀ l:List (Nat × Int),er (l.map qT)=some (l.map qS)
  | []=>rfl
  | p :: l=>by
    have ih:=j7 l
    simp only [List.map_cons]
    show (er (l.map qT)).map _=_
    rw [ih]
    rfl
theorem Pd {T:List Tie}(un:T.Pairwise j6)(i:Nat):((nbs T i).map (·.1)).Nodup:=by
  unfold nbs
  induction T with
  | nil=>simp
  | cons t T ih =>
    obtain⟨h1,h2⟩:=List.pairwise_cons.mp un
    have ih:=ih h2
    cases e:far i t with
    | none=>simp only [List.filterMap_cons,e,Option.map_none];exact ih
    | some j =>
      simp only [List.filterMap_cons,e,Option.map_some,List.map_cons,List.nodup_cons]
      refine⟨fun z => ?_,ih⟩
      obtain⟨p,hp,hpj⟩:=List.mem_map.mp z
      exact Dp (T:=T) e (fun s hs=>(h1 s hs).symm) p hp hpj
theorem Ml {l:List (Nat × Int)}(nd:(l.map (·.1)).Nodup):(l.map qS).Nodup:=by
  rw [List.nodup_iff_pairwise_ne,List.pairwise_map] at nd ⊢
  exact nd.imp fun {a b} h e=>h (by have:=(List.cons.inj e).1;omega)
theorem xj {α : Type}{l:List α}:kW (l.map fun _=>D.bl true)=some (l.map fun _=>true):=by
  induction l with
  | nil=>rfl
  | cons x l ih=>simp [kW,ih]
theorem uZ {n:Nat}{h:Hd}{sk:Nat}{ss:List (Option Int)}(hs:h[sk]? = some (.lst (ss.map aZ)))(ls:ss.length=n)(os:∀ x∈ss,x=none∨x=some 0∨x=some 1):cS [.int n,.ref sk] h=.ok (.tup (ss.map aZ)) h:=by
  have c:cx (some sk) (ss.map aZ) (gN 0) [] (fT (tOr (tE (af iY (aa 0) (fC .non))) (tE (ao bP (ad (aa 0) am))))) (ss.map aZ) [none] h=.ok ((ss.map aZ).map fun _=>D.bl true) h:=by
    have:=bM (g:=some sk) (all:=ss.map aZ) (tg:=gN 0) (cs:=[]) (e:=fT (tOr (tE (af iY (aa 0) (fC .non))) (tE (ao bP (ad (aa 0) am))))) (h:=h) (I:=fun σ=>∃ a,σ = [a]) (fun _=>true) (fun _=>.bl true) hs (xs:=ss.map aZ) (σ:=[none]) (by
      rintro x hx σ ⟨a,rfl⟩
      obtain⟨i,hi,rfl⟩:=List.mem_map.mp hx
      refine⟨_,rfl,⟨_,rfl⟩,rfl,fun _ => ?_⟩
      rcases os i hi with e|e|e<;>subst e
      · exact qp (JJ (bB (ak rfl rfl rfl)))
      · exact qp (nI (bB (ak rfl rfl rfl)) (bB (aw (au rfl rfl) (iL 0 h))))
      · exact qp (nI (bB (ak rfl rfl rfl)) (bB (aw (au rfl rfl) (iL 1 h))))) ⟨_,rfl⟩
    rw [this,List.filter_eq_self.mpr (by simp)]
  have lg:=dk (h:=h) (g:=[]) (d:=.tup (ss.map aZ)) (by simp only [pure?];exact fx fun x _=>by cases x<;>rfl)
  rw [List.append_nil] at lg
  have s1:sIf (tE (af iY (aa 1) (fC .non))) (bc (dP (bN 1 [] (bw (aa 0)) (gN 0) [] (fC .non)))) bD [some (.int n),some (.ref sk)] h=.nx [some (.int n),some (.ref sk)] h:=fW (bB (ak rfl rfl rfl))
  have s2:sIf (tOr (eD (tE (fP .list (aa 1)))) (tE (af oNe (el (lOf (aa 1))) (aa 0)))) jX bD [some (.int n),some (.ref sk)] h=.nx [some (.int n),some (.ref sk)] h:=by
    exact fW (nI (gU (b:=true) (bB (yq rfl hs))) (bB (ak (iJ (d7 rfl (bg hs))) rfl (by rw [Qu,List.length_map,ls,decide_eq_true rfl];rfl))))
  have s3:sIf (eD (tE (CO (bN 1 [] (dQ (aa 1)) (gN 0) [] (fT (tOr (tE (af iY (aa 0) (fC .non))) (tE (ao bP (ad (aa 0) am))))))))) jX bD [some (.int n),some (.ref sk)] h=.nx [some (.int n),some (.ref sk)] h:=by
    have al:((ss.map aZ).map fun _=>true).all id=true:=by simp
    exact fW (gU (b:=true) (bB ((O8 (eE (eF rfl hs) c) xj).trans (by rw [al]))))
  have s4:bc (dP (lOf (aa 1))) [some (.int n),some (.ref sk)] h=.rt (.tup (ss.map aZ)) h:=bo (rT (d7 rfl (bg hs)))
  have st:([D.int n,D.ref sk].map some++List.replicate (2 - [D.int n,D.ref sk].length) none:Sd)=[some (.int n),some (.ref sk)]:=rfl
  unfold cS bE runB
  rw [if_pos (show [D.int n,D.ref sk].length=2 from rfl),st,aI s1,aI s2,aI s3,s4]
  exact lg
end Fm
set_option linter.all false
namespace Fm
theorem mW (s:List Int):∀ r:List (Nat × Int),bS r s=(r.map fun p=>if s.getD p.1 0=1 then p.2 else 0).sum
  | []=>rfl
  | p :: r=>by
    have ih:=mW s r
    simp only [bS,ii,List.filter_cons,List.map_cons,List.sum_cons] at ih ⊢
    by_cases e:s.getD p.1 0=1
    · simp only [e,decide_true,if_true,List.map_cons,List.sum_cons];rw [ih]
    · simp only [e,decide_false,if_false,Bool.false_eq_true];rw [ih];omega
theorem Ba (s:List Int)(r:List (Nat × Int)):bS (gG r) s=bS r s:=by rw [mW,mW,xi]
theorem Pe {n:Nat}{T:List Tie}(lt:∀ t∈T,t.a < n∧t.b < n){i:Nat}:∀ p∈nbs T i,p.1 < n:=fun p hp=>by
  unfold nbs at hp
  obtain⟨t,ht',q⟩:=List.mem_filterMap.mp hp
  have:=lt t ht'
  unfold far at q
  by_cases a1:t.a=i
  · rw [if_pos a1] at q;simp at q;subst q;exact this.2
  · rw [if_neg a1] at q
    by_cases a2:t.b=i
    · rw [if_pos a2] at q;simp at q;subst q;exact this.1
    · rw [if_neg a2] at q;cases q
theorem Bb {n:Nat}(hn:n≤30){T:List Tie}(O:TOk n n 0 T){bs:List Int}{ss:List (Option Int)}(lb:bs.length=n)(ls:ss.length=n):(fy n T bs ss).Ok n:=by
  refine⟨by simp [fy],lb,ls,fun r hr p hp => ?_,by omega⟩
  obtain⟨i,_,rfl⟩:=List.mem_map.mp hr
  exact Pe O.lt p (o4.mp hp)
structure Rp (n:Nat) (T:List Tie) (bs:List Int) (ss:List (Option Int)) (tk bk sk:Nat) (h:Hd):Prop where
  ti:h[tk]? = some (.lst (T.map cT))
  ba:h[bk]? = some (.lst (bs.map .int))
  st:h[sk]? = some (.lst (ss.map aZ))
theorem Dq {n:Nat}{T:List Tie}{bs:List Int}{ss:List (Option Int)}{s:List Int}{one:Nat}(h1:one < n):cP (fy n T bs ss) s one=match ss.getD one none with
    | some x=>x
    | none=>if 2 * bS (nbs T one) s=bs.getD one 0 then s.getD one 0 else if bs.getD one 0 < 2 * bS (nbs T one) s then 1 else 0:=by
  have e:((fy n T bs ss).ties.getD one [])=gG (nbs T one):=by simp [fy,List.getD,h1]
  unfold cP
  rw [e,Ba]
  rfl
structure Rq (n:Nat) (ss:List (Option Int)) (s:List Int):Prop where
  len:s.length=n
  op:∀ x∈s,x=0∨x=1
  st:∀ (i:Nat) x,ss[i]? = some (some x)→s[i]? = some x
end Fm
set_option linter.all false
namespace Fm
def LeS (a b:List Int):Prop:=∀ i:Nat,a.getD i 0≤b.getD i 0
def u0 (a:List Int):Prop:=∀ i:Nat,a.getD i 0=0∨a.getD i 0=1
theorem fz (p:Nat × Int)(r:List (Nat × Int))(s:List Int):bS (p :: r) s=(if s.getD p.1 0=1 then p.2 else 0) + bS r s:=by
  unfold bS ii
  by_cases e:s.getD p.1 0=1
  · rw [List.filter_cons,if_pos (by simp only [decide_eq_true_eq];exact e),if_pos e];rfl
  · rw [List.filter_cons,if_neg (by simp only [decide_eq_true_eq];exact e),if_neg e];omega
theorem qt {a b:List Int}(B:u0 b)(l:LeS a b):∀ {r:List (Nat × Int)},(∀ p∈r,0≤p.2)→bS r a≤bS r b
  | [],_=>Int.le_refl _
  | p :: r,h=>by
    have ih:=qt B l (r:=r) fun q hq=>h q (by simp [hq])
    have h0:=h p (by simp)
    have l0:=l p.1
    have b0:=B p.1
    rw [fz,fz]
    by_cases e:a.getD p.1 0=1
    · have e2:b.getD p.1 0=1:=by omega
      rw [if_pos e,if_pos e2];omega
    · rw [if_neg e]
      by_cases e2:b.getD p.1 0=1
      · rw [if_pos e2];omega
      · rw [if_neg e2];omega
theorem Mm {P1 P2 c1 c2 x y:Int}(hp:P1≤P2)(hb:c2≤c1)(l:x≤y)(b1:x=0∨x=1)(b2:y=0∨y=1):(if 2 * P1=c1 then x else if c1 < 2 * P1 then 1 else 0)≤(if 2 * P2=c2 then y else if c2 < 2 * P2 then (1:Int) else 0):=by
  have y0:0≤y:=by rcases b2 with rfl|rfl<;>decide
  have x1:x≤1:=by rcases b1 with rfl|rfl<;>decide
  have q:2 * P1≤2 * P2:=Int.mul_le_mul_of_nonneg_left hp (by decide)
  generalize 2 * P1=A at q
  generalize 2 * P2=B at q
  by_cases e1:A=c1
  · rw [if_pos e1]
    by_cases e2:B=c2
    · rw [if_pos e2];exact l
    · rw [if_neg e2,if_pos (Int.lt_iff_le_and_ne.mpr ⟨Int.le_trans hb (e1 ▸ q),Ne.symm e2⟩)];exact x1
  · rw [if_neg e1]
    by_cases e3:c1 < A
    · have e4:c2 < B:=Int.lt_of_le_of_lt hb (Int.lt_of_lt_of_le e3 q)
      rw [if_pos e3,if_neg (Int.ne_of_gt e4),if_pos e4];exact Int.le_refl _
    · rw [if_neg e3]
      by_cases e2:B=c2
      · rw [if_pos e2];exact y0
      · rw [if_neg e2]
        split
        · decide
        · exact Int.le_refl _
theorem Dr {w1 w2:Web}{a b:List Int}{p:Nat}(hp:bS (w1.ties.getD p []) a≤bS (w2.ties.getD p []) b)(hb:w2.bars.getD p 0≤w1.bars.getD p 0)(B1:u0 a)(B2:u0 b)(le:LeS a b)
    (st:(w1.stays.getD p none=none∧w2.stays.getD p none=none)∨w1.stays.getD p none=some 0∨w2.stays.getD p none=some 1) (n1:cP w1 a p=0∨cP w1 a p=1) (n2:cP w2 b p=0∨cP w2 b p=1):cP w1 a p≤cP w2 b p:=by
  rcases st with ⟨s1,s2⟩|s|s
  · have b1:=B1 p
    have b2:=B2 p
    have l:=le p
    unfold cP
    rw [s1,s2]
    generalize bS (w1.ties.getD p []) a=P1 at *
    generalize bS (w2.ties.getD p []) b=P2 at *
    generalize w1.bars.getD p 0=c1 at *
    generalize w2.bars.getD p 0=c2 at *
    generalize a.getD p 0=x at *
    generalize b.getD p 0=y at *
    exact Mm hp hb l b1 b2
  · have:cP w1 a p=0:=by unfold cP;rw [s]
    omega
  · have:cP w2 b p=1:=by unfold cP;rw [s]
    omega
theorem xk (w:Web)(n:Nat)(s:List Int)(i:Nat):(aS w n s).getD i 0=if i < n then cP w s i else 0:=by
  unfold aS
  by_cases h:i < n<;>simp [List.getD,h]
theorem c6.bits {w:Web}{n:Nat}{s:List Int}(F:c6 w n s):u0 s:=fun i=>A0 F i
structure o5 (w1 w2:Web) (n:Nat):Prop where
  go:∀ a b,c6 w1 n a→c6 w2 n b→LeS a b→LeS (aS w1 n a) (aS w2 n b)
theorem Mn {w1 w2:Web}{n:Nat}(S1:cF w1)(S2:cF w2)(hp:∀ p,p < n → ∀ a b,u0 a→u0 b→LeS a b→bS (w1.ties.getD p []) a≤bS (w2.ties.getD p []) b)(hb:∀ p,p < n→w2.bars.getD p 0≤w1.bars.getD p 0)
    (st:∀ p,p < n→(w1.stays.getD p none=none∧w2.stays.getD p none=none)∨w1.stays.getD p none=some 0∨w2.stays.getD p none=some 1):o5 w1 w2 n :=
  ⟨fun a b Fa Fb le i=>by
    rw [xk,xk]
    by_cases h:i < n
    · rw [if_pos h,if_pos h]
      exact Dr (hp i h a b Fa.bits Fb.bits le) (hb i h) Fa.bits Fb.bits le (st i h) (tu Fa S1 i) (tu Fb S2 i)
    · rw [if_neg h,if_neg h];exact Int.le_refl _⟩
theorem mf {w1 w2:Web}{n:Nat}(W1:w1.Ok n)(W2:w2.Ok n)(S1:cF w1)(S2:cF w2)(M:o5 w1 w2 n){a b:List Int}(Fa:c6 w1 n a)(Fb:c6 w2 n b)(le:LeS a b):∀ k,LeS (aK w1 n a k) (aK w2 n b k)
  | 0=>le
  | k + 1=>M.go _ _ (bO W1 S1 Fa k) (bO W2 S2 Fb k) (mf W1 W2 S1 S2 M Fa Fb le k)
end Fm
set_option linter.all false
namespace Fm
def S2 (R:Nat→List (Nat × Int)) (f s:Nat→Int):Nat→Int
  | 0=>0
  | k + 1=>S2 R f s k + ((R k).map fun p=>p.2 * f p.1 * s k).sum
def kR (g:Nat→Int):Nat→Int
  | 0=>0
  | n + 1=>kR g n + g n
theorem GA (g:Nat→Int)(n:Nat):((List.range n).map g).sum=kR g n:=by
  induction n with
  | zero=>rfl
  | succ n ih=>rw [List.range_succ,List.map_append,List.sum_append,ih];simp [kR]
end Fm
set_option linter.all false
namespace Fm
theorem xl:∀ (a b:List Int),a.length=b.length→gQ (a.map .int) (b.map .int)=some (decide (a=b))
  | [],[],_=>by simp [gQ]
  | x :: a,y :: b,h=>by
    have ih:=xl a b (by simpa using h)
    simp only [List.map_cons,gQ,peq,ih]
    by_cases e:x=y<;>by_cases e2:a=b<;>simp [e,e2]
  | [],_ :: _,h=>by simp at h
  | _ :: _,[],h=>by simp at h
theorem GB (l:List Int):kO (l.map .int)=0:=by
  induction l with
  | nil=>rfl
  | cons x l ih=>simp [kO,dep,ih]
theorem yt (l:List Int):dep (ah l)=1:=by simp [ah,dep,GB]
theorem rZ {a b:List Int}(h:a.length=b.length):peq (ah a) (ah b)=some (decide (a=b)):=by
  simp only [ah,peq,xl a b h,Option.map_some,List.length_map,h]
  simp
theorem Fx {a b:List Int}(h:a.length=b.length)(hd:Hd):eqG hd (ah a) (ah b)=some (decide (a=b)):=by
  have e1:∀ l,eY hd (ah l)=none:=fun l=>rfl
  simp only [eqG,e1,yt,rZ h]
  rfl
theorem Fy {a b:List Int}(h:a.length=b.length)(hd:Hd):oNe (ah a) (ah b) hd=.ok (.bl (!decide (a=b))) hd:=by
  unfold oNe;rw [Fx h]
theorem nK {a b:List Int}(h:a.length=b.length)(hd:Hd):oEq (ah a) (ah b) hd=.ok (.bl (decide (a=b))) hd:=by
  unfold oEq;rw [Fx h]
theorem Qv {k n:Nat}(h1:1≤k)(h2:k≤n) : ¬ 0 ≤ -(k:Int) ∧ -(n:Int) ≤ -(k:Int)∧(-(k:Int) + (n:Int)).toNat=n - k:=by omega
theorem Mo {l:List D}{k:Nat}(h1:1≤k)(h2:k≤l.length):atI l (-(k:Int))=l[l.length - k]? := by
  have q:=Qv h1 h2
  unfold atI ixN
  rw [if_neg q.1,if_pos q.2.1,q.2.2];rfl
theorem lq {w:Web}{n:Nat}{s:List Int}(k j:Nat)(h1:1≤j):atI ((bW w n s (k + j)).map ah) (-(j:Int))=some (ah (aK w n s k)):=by
  rw [Mo h1 (by rw [List.length_map,md];exact Nat.le_add_left j k),List.length_map,md,Nat.add_sub_cancel,List.getElem?_map,bW,List.getElem?_map,List.getElem?_range (Nat.lt_add_of_pos_right h1)];rfl
theorem o6 {a b:SF}{σ σ':Sd}{h h':Hd}(e:a σ h=.nx σ' h'):aC a b σ h=b σ' h':=by simp [aC,e]
theorem JR {w:Web}{n:Nat}{s:List Int}(W:w.Ok n)(S:cF w)(F:c6 w n s){t:Nat}(ht:aK w n s (t + 2)=aK w n s t)(hm:∀ k,k < t→aK w n s (k + 2)≠aK w n s k)(hz:t≤900000)(h:Hd) :
    i7 [w.enc,ah s] h=.ok (.tup [.int t,.str (if aK w n s (t + 1)=aK w n s t then [114,101,115,116] else [112,97,105,114]),.ref h.length]) (h++[.lst ((bW w n s (t + 2)).map ah)]):=by
  have L:∀ k,(aK w n s k).length=n:=fun k=>(bO W S F k).len
  have loop:∀ j k,k + j=t→eW (tE (af oNe (aa 3) (fAt (aa 2) (fC (.int (-2)))))) tm (j + 1) [some w.enc,some (ah s),some (.ref h.length),some (ah (aK w n s (k + 2))),none] (h++[.lst ((bW w n s (k + 2)).map ah)])
      = .nx [some w.enc,some (ah s),some (.ref h.length),some (ah (aK w n s (t + 2))),none] (h++[.lst ((bW w n s (t + 2)).map ah)]):=by
    intro j
    induction j with
    | zero =>
      intro k hk
      have:k=t:=hk
      subst this
      have b':atI ((bW w n s (k + 2)).map ah) (-2)=some (ah (aK w n s k)):=lq k 2 (by decide)
      have test:tE (af oNe (aa 3) (fAt (aa 2) (fC (.int (-2))))) [some w.enc,some (ah s),some (.ref h.length),some (ah (aK w n s (k + 2))),none] (h++[.lst ((bW w n s (k + 2)).map ah)])=.ok false (h++[.lst ((bW w n s (k + 2)).map ah)]):=by
        rw [ht]
        exact bB (ak rfl (bh rfl rfl (bg List.getElem?_concat_length) b') (by rw [Fy rfl,decide_eq_true rfl];rfl))
      simp only [eW,test]
    | succ j ih =>
      intro k hk
      have b':atI ((bW w n s (k + 2)).map ah) (-2)=some (ah (aK w n s k)):=lq k 2 (by decide)
      have test:tE (af oNe (aa 3) (fAt (aa 2) (fC (.int (-2))))) [some w.enc,some (ah s),some (.ref h.length),some (ah (aK w n s (k + 2))),none] (h++[.lst ((bW w n s (k + 2)).map ah)])=.ok true (h++[.lst ((bW w n s (k + 2)).map ah)]):=by
        exact bB (ak rfl (bh rfl rfl (bg List.getElem?_concat_length) b') (by rw [Fy ((L (k + 2)).trans (L k).symm),decide_eq_false (hm k (hk ▸ Nat.lt_add_of_pos_right (Nat.succ_pos j)))];rfl))
      have lz:((bW w n s (k + 2)).map ah).length < SZ:=by rw [List.length_map,md];exact Nat.lt_of_le_of_lt (Nat.add_le_add_right (Nat.le_trans (hk ▸ Nat.le_add_right k (j + 1)) hz) 2) (by decide)
      have tk:=fu W (bO W S F (k + 2)) (h++[.lst ((bW w n s (k + 3)).map ah)])
      have body:tm [some w.enc,some (ah s),some (.ref h.length),some (ah (aK w n s (k + 2))),none] (h++[.lst ((bW w n s (k + 2)).map ah)])=.nx [some w.enc,some (ah s),some (.ref h.length),some (ah (aK w n s (k + 3))),none] (h++[.lst ((bW w n s (k + 3)).map ah)]):=by
        have st1:eV (jf (aa 2) (aa 3)) [some w.enc,some (ah s),some (.ref h.length),some (ah (aK w n s (k + 2))),none] (h++[.lst ((bW w n s (k + 2)).map ah)])=.nx [some w.enc,some (ah s),some (.ref h.length),some (ah (aK w n s (k + 2))),none] (h++[.lst ((bW w n s (k + 3)).map ah)]):=by
          rw [show bW w n s (k + 3)=bW w n s (k + 2)++[aK w n s (k + 2)] from Dn (k + 2),List.map_append]
          exact (eX (jn rfl List.getElem?_concat_length rfl List.getElem?_concat_length lz)).trans (by rw [i6 rfl];rfl)
        exact (o6 st1).trans (aF (aw (c5 rfl rfl) tk))
      rw [eW,test]
      simp only [body]
      exact ih (k + 1) (by rw [Nat.add_right_comm];exact hk)
  have wl:=Gw (loop t 0 (Nat.zero_add t)) (by simp)
  have t0:=fu W F h
  have t1:=fu W (bO W S F 1) (h++[.lst ((bW w n s 2).map ah)])
  have e1 : [ah s,ah (aS w n s)] = (bW w n s 2).map ah:=by simp [bW,List.range_succ,aK]
  have a1:atI ((bW w n s 2).map ah) 1=some (ah (aK w n s 1)):=JO (w:=w) (n:=n) (s:=s) (m:=2) (i:=1) (by decide)
  have b1':atI ((bW w n s (t + 2)).map ah) (-1)=some (ah (aK w n s (t + 1))):=lq (t + 1) 1 (by decide)
  have b2':atI ((bW w n s (t + 2)).map ah) (-2)=some (ah (aK w n s t)):=lq t 2 (by decide)
  have ln:(bW w n s (t + 2)).length=t + 2:=md _
  have eqw:=nK (a:=aK w n s (t + 1)) (b:=aK w n s t) ((L (t + 1)).trans (L t).symm) (h++[.lst ((bW w n s (t + 2)).map ah)])
  simp only [aK] at t1
  simp only [aK] at a1
  have hh1:aK w n s (0 + 2)=aS w n (aS w n s):=rfl
  rw [hh1,show 0 + 2=2 from rfl] at wl
  have s1:aE (gN 2) (aX (ad (aa 1) (ad (ao a0 (ad (aa 0) (ad (aa 1) am))) am))) [some w.enc,some (ah s),none,none,none] h
      = .nx [some w.enc,some (ah s),some (.ref h.length),none,none] (h++[.lst ((bW w n s 2).map ah)]):=by
    rw [← e1];exact aF (dw (au rfl (au (aw (c5 rfl rfl) t0) rfl)))
  have s2:aE (gN 3) (ao a0 (ad (aa 0) (ad (fAt (aa 2) (fC (.int 1))) am))) [some w.enc,some (ah s),some (.ref h.length),none,none] (h++[.lst ((bW w n s 2).map ah)])
      = .nx [some w.enc,some (ah s),some (.ref h.length),some (ah (aS w n (aS w n s))),none] (h++[.lst ((bW w n s 2).map ah)]):=by
    exact aF (aw (au rfl (au (bh rfl rfl (bg List.getElem?_concat_length) a1) rfl)) t1)
  have s3:aE (gN 4) (fIf (tE (af oEq (fAt (aa 2) (fC (.int (-1)))) (fAt (aa 2) (fC (.int (-2)))))) (fC (.str [114,101,115,116])) (fC (.str [112,97,105,114]))) [some w.enc,some (ah s),some (.ref h.length),some (ah (aK w n s (t + 2))),none] (h++[.lst ((bW w n s (t + 2)).map ah)])
      = .nx [some w.enc,some (ah s),some (.ref h.length),some (ah (aK w n s (t + 2))),some (.str (if aK w n s (t + 1)=aK w n s t then [114,101,115,116] else [112,97,105,114]))] (h++[.lst ((bW w n s (t + 2)).map ah)]):=by
    by_cases q:aK w n s (t + 1)=aK w n s t
    · rw [if_pos q];rw [decide_eq_true q] at eqw
      exact aF ((Dh (bB (ak (bh rfl rfl (bg List.getElem?_concat_length) b1') (bh rfl rfl (bg List.getElem?_concat_length) b2') eqw))).trans rfl)
    · rw [if_neg q];rw [decide_eq_false q] at eqw
      exact aF ((Di (bB (ak (bh rfl rfl (bg List.getElem?_concat_length) b1') (bh rfl rfl (bg List.getElem?_concat_length) b2') eqw))).trans rfl)
  have ck:eV (ao dW (ad (aa 0) (ad (aa 1) am))) [some w.enc,some (ah s),none,none,none] h=.nx [some w.enc,some (ah s),none,none,none] h:=eX (aw (c5 rfl rfl) (JM W F h))
  have st:([w.enc,ah s].map some++List.replicate (5 - [w.enc,ah s].length) none:Sd)=[some w.enc,some (ah s),none,none,none]:=rfl
  unfold i7 bE runB
  rw [if_pos (show [w.enc,ah s].length=2 from rfl),st,o6 ck,o6 s1,o6 s2,o6 wl,o6 s3]
  have z:((t:Int) + 2) - 2=t:=by omega
  simp [ln,SZ,z,letGo,pure?,iD]
end Fm
set_option linter.all false
namespace Fm
noncomputable def iM:Fn:=bE 2 2 (bc (fAt (fAt (ao i7 (ad (aa 0) (ad (aa 1) am))) (fC (.int 2))) (fC (.int (-1)))))
noncomputable def cZ:Fn:=bE 1 1 (bc (aX (lOf (fAt (aa 0) (fC (.int 2))))))
noncomputable def cG:Fn:=bE 2 2 (bc (dP (bN 1 [1] (dQ (ao cZ (ad (aa 0) am))) (gN 0) [] (fIf (tE (af iY (aa 0) (fC .non))) (aa 1) (aa 0)))))
noncomputable def cD:Fn:=bE 1 1 (bc (ao iM (ad (aa 0) (ad (ao cG (ad (aa 0) (ad (fC (.int 0)) am))) am))))
noncomputable def bH:Fn:=bE 1 1 (bc (ao iM (ad (aa 0) (ad (ao cG (ad (aa 0) (ad (fC (.int 1)) am))) am))))
end Fm
set_option linter.all false
namespace Fm
theorem o7 (l:List Int):pure? (ah l)=true:=by
  unfold ah;simp only [pure?]
  induction l with
  | nil=>rfl
  | cons x l ih=>simp [iD,pure?,ih]
def d9 (ss:List (Option Int)):List Int:=ss.map fun u=>if u=some 1 then 1 else 0
def eu (ss:List (Option Int)):List Int:=ss.map fun u=>if u=some 0 then 0 else 1
theorem o8 {w:Web}{n:Nat}(W:w.Ok n)(S:cF w):c6 w n (d9 w.stays):=by
  refine⟨by simp [d9,W.s],fun x hx => ?_,fun i x hx => ?_⟩
  · obtain⟨u,_,rfl⟩:=List.mem_map.mp hx
    split<;>simp
  · have:=S _ (List.mem_of_getElem? hx)
    simp at this
    rcases this with e|e<;>subst e<;>simp [d9,hx]
theorem o9 {w:Web}{n:Nat}(W:w.Ok n)(S:cF w):c6 w n (eu w.stays):=by
  refine⟨by simp [eu,W.s],fun x hx => ?_,fun i x hx => ?_⟩
  · obtain⟨u,_,rfl⟩:=List.mem_map.mp hx
    split<;>simp
  · have:=S _ (List.mem_of_getElem? hx)
    simp at this
    rcases this with e|e<;>subst e<;>simp [eu,hx]
theorem tw {w:Web}{n:Nat}{s:List Int}(F:c6 w n s):LeS (d9 w.stays) s:=fun i=>by
  have b:=F.bits i
  cases e:w.stays[i]? with
  | none =>
    have z:(d9 w.stays).getD i 0=0:=by simp [d9,List.getD,e]
    omega
  | some u =>
    by_cases c:u=some 1
    · subst c
      have:=F.st i 1 e
      simp [d9,List.getD,e,this]
    · simp only [d9,List.getD,List.getElem?_map,e,Option.map_some,Option.getD_some,if_neg c] at b ⊢;omega
theorem Bc {w:Web}{n:Nat}{s:List Int}(W:w.Ok n)(F:c6 w n s):LeS s (eu w.stays):=fun i=>by
  have b:=F.bits i
  cases e:w.stays[i]? with
  | none =>
    have l:w.stays.length≤i:=List.getElem?_eq_none_iff.mp e
    have l2:s.length≤i:=by rw [F.len,← W.s];exact l
    simp [eu,List.getD,e,List.getElem?_eq_none l2]
  | some u =>
    by_cases c:u=some 0
    · subst c
      have:=F.st i 0 e
      simp [eu,List.getD,e,this]
    · simp only [eu,List.getD,List.getElem?_map,e,Option.map_some,Option.getD_some,if_neg c] at b ⊢;omega
def mX (s:List Int):Nat→Int
  | 0=>0
  | n + 1=>mX s n + s.getD n 0
theorem nM {s:List Int}(B:u0 s):∀ n,0≤mX s n∧mX s n≤n
  | 0=>by simp [mX]
  | n + 1=>by have:=nM B n;have:=B n;rw [mX];omega
theorem Fz {a b:List Int}(l:LeS a b):∀ n,mX a n≤mX b n
  | 0=>Int.le_refl _
  | n + 1=>by have:=Fz l n;have:=l n;rw [mX,mX];omega
theorem ol1 {A B x y:Int}(h:A≤B)(l:x≤y)(ne:x≠y):A + x + 1≤B + y:=by omega
theorem ol2 {A B x y:Int}(h:A + 1≤B)(l:x≤y):A + x + 1≤B + y:=by omega
theorem yu {a b:List Int}(l:LeS a b):∀ {n:Nat},(∃ p,p < n∧a.getD p 0≠b.getD p 0)→mX a n + 1≤mX b n
  | 0,h=>by obtain⟨p,hp,_⟩:=h;exact absurd hp (Nat.not_lt_zero _)
  | n + 1,h=>by
    obtain⟨p,hp,ne⟩:=h
    have l0:=l n
    rw [mX,mX]
    by_cases e:p=n
    · subst e
      exact ol1 (Fz l p) l0 ne
    · exact ol2 (yu l (n:=n) ⟨p,Nat.lt_of_le_of_ne (Nat.le_of_lt_succ hp) e,ne⟩) l0
theorem Nr {a b:List Int}{n:Nat}(ha:a.length=n)(hb:b.length=n)(h:a≠b):∃ p,p < n∧a.getD p 0≠b.getD p 0:=by
  by_cases c:∃ p,p < n∧a.getD p 0≠b.getD p 0
  · exact c
  · exfalso
    apply h
    apply List.ext_getElem (by omega)
    intro i h1 h2
    by_cases e:a.getD i 0=b.getD i 0
    · simpa [List.getD,h1,h2] using e
    · exact absurd ⟨i,by omega,e⟩ c
section
variable {w:Web} {n:Nat} {s:List Int}
theorem xm (W:w.Ok n)(S:cF w)(M:o5 w w n)(F:c6 w n s)(r:LeS s (aS w n s)):∀ k,LeS (aK w n s k) (aK w n s (k + 1))
  | 0=>r
  | k + 1=>M.go _ _ (bO W S F k) (bO W S F (k + 1)) (xm W S M F r k)
theorem xn (W:w.Ok n)(S:cF w)(M:o5 w w n)(F:c6 w n s)(r:LeS (aS w n s) s):∀ k,LeS (aK w n s (k + 1)) (aK w n s k)
  | 0=>r
  | k + 1=>M.go _ _ (bO W S F (k + 1)) (bO W S F k) (xn W S M F r k)
theorem eJ {t:Nat}(h:aK w n s (t + 1)=aK w n s t):∀ k,t≤k→aK w n s k=aK w n s t
  | 0,hk=>by rw [Nat.le_zero.mp hk]
  | k + 1,hk=>by
    by_cases e:t=k + 1
    · subst e;rfl
    · rw [aK,eJ h k (Nat.le_of_lt_succ (Nat.lt_of_le_of_ne hk e))];exact h
theorem Ds (W:w.Ok n)(S:cF w)(M:o5 w w n)(F:c6 w n s)(r:LeS s (aS w n s)):∃ t,t≤n∧aK w n s (t + 1)=aK w n s t:=by
  by_cases c:∃ t,t≤n∧aK w n s (t + 1)=aK w n s t
  · exact c
  · exfalso
    have up:∀ k:Nat,k≤n + 1→(k:Int)≤mX (aK w n s k) n:=fun k=>by
      induction k with
      | zero=>intro _;have:=nM F.bits n;simp [aK];omega
      | succ k ih =>
        intro hk
        have i1:=ih (by omega)
        have ne:aK w n s k≠aK w n s (k + 1):=fun z=>c ⟨k,by omega,z.symm⟩
        have:=yu (xm W S M F r k) (Nr (bO W S F k).len (bO W S F (k + 1)).len ne)
        omega
    have:=up (n + 1) (Nat.le_refl _)
    have:=nM (bO W S F (n + 1)).bits n
    omega
theorem Dt (W:w.Ok n)(S:cF w)(M:o5 w w n)(F:c6 w n s)(r:LeS (aS w n s) s):∃ t,t≤n∧aK w n s (t + 1)=aK w n s t:=by
  by_cases c:∃ t,t≤n∧aK w n s (t + 1)=aK w n s t
  · exact c
  · exfalso
    have dn:∀ k:Nat,k≤n + 1→mX (aK w n s k) n + k≤n:=fun k=>by
      induction k with
      | zero=>intro _;have:=nM F.bits n;simp [aK];omega
      | succ k ih =>
        intro hk
        have i1:=ih (by omega)
        have ne:aK w n s (k + 1)≠aK w n s k:=fun z=>c ⟨k,by omega,z⟩
        have:=yu (xn W S M F r k) (Nr (bO W S F (k + 1)).len (bO W S F k).len ne)
        omega
    have:=dn (n + 1) (Nat.le_refl _)
    have:=nM (bO W S F (n + 1)).bits n
    omega
theorem lt2 (a t:Nat):t≤a + 2 * t∧t≤a + 2 * t + 1:=by omega
theorem Rf {t:Nat}(h:aK w n s (t + 1)=aK w n s t):∃ t0,t0≤t∧aK w n s (t0 + 2)=aK w n s t0∧(∀ k,k < t0→aK w n s (k + 2)≠aK w n s k)∧aK w n s t0=aK w n s t∧aK w n s (t0 + 1)=aK w n s t:=by
  have ex:∃ k,aK w n s (k + 2)=aK w n s k:=⟨t,by rw [eJ h (t + 2) (Nat.le_add_right t 2)]⟩
  have mn:∃ k,aK w n s (k + 2)=aK w n s k ∧ ∀ j,j < k→aK w n s (j + 2)≠aK w n s j:=by
    obtain⟨k,hk⟩:=ex
    induction k using Nat.strongRecOn with
    | _ k ih =>
      by_cases c:∃ j,j < k∧aK w n s (j + 2)=aK w n s j
      · obtain⟨j,hj,e⟩:=c
        exact ih j hj e
      · exact⟨k,hk,fun j hj e=>c ⟨j,hj,e⟩⟩
  obtain⟨t0,e0,m0⟩:=mn
  have le:t0≤t:=by
    by_cases z:t0≤t
    · exact z
    · exact absurd (by rw [eJ h (t + 2) (Nat.le_add_right t 2)]) (m0 t (Nat.not_le.mp z))
  have per:∀ m,aK w n s (t0 + 2 * m)=aK w n s t0∧aK w n s (t0 + 2 * m + 1)=aK w n s (t0 + 1):=fun m=>by
    induction m with
    | zero=>exact⟨rfl,rfl⟩
    | succ m ih =>
      have e1:t0 + 2 * (m + 1)=(t0 + 2 * m + 1) + 1:=rfl
      have a:aK w n s (t0 + 2 * (m + 1))=aK w n s t0:=by
        rw [e1,aK,ih.2,← e0];rfl
      refine⟨a,?_⟩
      rw [aK,a];rfl
  refine⟨t0,le,e0,m0,?_,?_⟩
  · rw [← (per t).1];exact eJ h _ (lt2 t0 t).1
  · rw [← (per t).2];exact eJ h _ (lt2 t0 t).2
theorem GC (W:w.Ok n)(S:cF w)(F:c6 w n s){t:Nat}(h:aK w n s (t + 1)=aK w n s t)(hz:t≤900000)(g:Hd) :
    ∃ (t0:Nat) (L:List D),i7 [w.enc,ah s] g=.ok (.tup [.int t0,.str [114,101,115,116],.ref g.length]) (g++[.lst L])∧atI L (-1)=some (ah (aK w n s t)):=by
  obtain⟨t0,le,e0,m0,a1,a2⟩:=Rf h
  have q:=JR W S F e0 m0 (Nat.le_trans le hz) g
  have e1:aK w n s (t0 + 1)=aK w n s t0:=by rw [a1,a2]
  refine⟨t0,(bW w n s (t0 + 2)).map ah,?_,?_⟩
  · rw [q,if_pos e1]
  · rw [← a2];exact lq (t0 + 1) 1 (by decide)
theorem xo (W:w.Ok n)(S:cF w)(F:c6 w n s){t:Nat}(h:aK w n s (t + 1)=aK w n s t)(hz:t≤900000)(g:Hd):iM [w.enc,ah s] g=.ok (ah (aK w n s t)) g:=by
  obtain⟨t0,L,q,a⟩:=GC W S F h hz g
  have i2:atI [D.int t0,.str [114,101,115,116],.ref g.length] 2=some (.ref g.length):=rfl
  have gl:(g++[cX.lst L])[g.length]? = some (.lst L):=by simp
  have e:bc (fAt (fAt (ao i7 (ad (aa 0) (ad (aa 1) am))) (fC (.int 2))) (fC (.int (-1)))) [some w.enc,some (ah s)] g=.rt (ah (aK w n s t)) (g++[.lst L]):=by
    exact bo (bh (bh (aw (c5 rfl rfl) q) rfl rfl i2) rfl (bg gl) a)
  exact (cJ rfl rfl e).trans (dk (o7 _))
end
end Fm
set_option linter.all false
namespace Fm
section
variable {w:Web} {n:Nat} {s:List Int}
theorem JS (S:cF w){v:Int}(hv:v=0∨v=1){h:Hd}{k:Nat}(hk:h[k]? = some (.lst (w.stays.map aZ)))(a:Option D):cx (some k) (w.stays.map aZ) (gN 0) [] (fIf (tE (af iY (aa 0) (fC .non))) (aa 1) (aa 0)) (w.stays.map aZ) [a,some (.int v)] h=.ok ((if v=0 then d9 w.stays else eu w.stays).map .int) h:=by
  have:=bM (g:=some k) (all:=w.stays.map aZ) (tg:=gN 0) (cs:=[]) (e:=fIf (tE (af iY (aa 0) (fC .non))) (aa 1) (aa 0)) (h:=h) (I:=fun σ=>∃ a,σ = [a,some (.int v)]) (fun _=>true) (fun d=>match d with | .int i=>.int i|_=>.int v) hk
    (xs:=w.stays.map aZ) (σ:=[a,some (.int v)]) (by
      rintro x hx σ ⟨c,rfl⟩
      obtain⟨u,hu,rfl⟩:=List.mem_map.mp hx
      refine⟨_,rfl,⟨_,rfl⟩,rfl,fun _ => ?_⟩
      cases u with
      | none=>exact (Dh (bB (ak rfl rfl rfl))).trans rfl
      | some z=>exact (Di (bB (ak rfl rfl rfl))).trans rfl) ⟨_,rfl⟩
  rw [this,List.filter_eq_self.mpr (by simp),List.map_map]
  congr 1
  rcases hv with e|e
  · subst e
    rw [if_pos rfl,d9,List.map_map]
    apply List.map_congr_left
    intro u hu
    rcases S u hu with z|z|z<;>subst z<;>rfl
  · subst e
    rw [if_neg (by decide),eu,List.map_map]
    apply List.map_congr_left
    intro u hu
    rcases S u hu with z|z|z<;>subst z<;>rfl
theorem nN (W:w.Ok n)(S:cF w){v:Int}(hv:v=0∨v=1)(h:Hd):cG [w.enc,.int v] h=.ok (ah (if v=0 then d9 w.stays else eu w.stays)) h:=by
  have c2:=JS S hv (h:=h++[.lst (w.stays.map aZ)]) (k:=h.length) List.getElem?_concat_length none
  have lz:(w.stays.map aZ).length≤SZ:=by rw [List.length_map,W.s];exact Nat.le_trans W.sz (by decide)
  have so:cZ [w.enc] h=.ok (.ref h.length) (h++[.lst (w.stays.map aZ)]):=(cJ rfl rfl (bo (dw (d7 (bh rfl rfl rfl rfl) rfl) lz))).trans bG
  generalize (if v=0 then d9 w.stays else eu w.stays)=l at c2 ⊢
  have s2:bc (dP (bN 1 [1] (dQ (ao cZ (ad (aa 0) am))) (gN 0) [] (fIf (tE (af iY (aa 0) (fC .non))) (aa 1) (aa 0)))) [some w.enc,some (.int v)] h=.rt (ah l) (h++[.lst (w.stays.map aZ)]):=by
    exact bo (rT (eE (eF (aw (au rfl rfl) so) List.getElem?_concat_length) c2))
  have st:([w.enc,D.int v].map some++List.replicate (2 - [w.enc,D.int v].length) none:Sd)=[some w.enc,some (.int v)]:=rfl
  unfold cG bE runB
  rw [if_pos (by rfl),st,s2]
  exact dk (o7 _)
theorem Be (W:w.Ok n)(S:cF w)(M:o5 w w n):∃ t,t≤n∧aK w n (d9 w.stays) (t + 1)=aK w n (d9 w.stays) t:=by
  have F:=o8 W S
  exact Ds W S M F (tw (im W S F))
theorem Bf (W:w.Ok n)(S:cF w)(M:o5 w w n):∃ t,t≤n∧aK w n (eu w.stays) (t + 1)=aK w n (eu w.stays) t:=by
  have F:=o9 W S
  exact Dt W S M F (Bc W (im W S F))
theorem u3 (W:w.Ok n)(S:cF w){t:Nat}(ht:t≤1000)(e:aK w n (d9 w.stays) (t + 1)=aK w n (d9 w.stays) t)(h:Hd):cD [w.enc] h=.ok (ah (aK w n (d9 w.stays) t)) h:=by
  have q1:=nN W S (v:=0) (.inl rfl) h
  rw [if_pos rfl] at q1
  have q2:=xo W S (o8 W S) e (Nat.le_trans ht (by decide)) h
  exact (cJ rfl rfl (bo (aw (au rfl (au (aw (c5 rfl rfl) q1) rfl)) q2))).trans bL
theorem u4 (W:w.Ok n)(S:cF w){t:Nat}(ht:t≤1000)(e:aK w n (eu w.stays) (t + 1)=aK w n (eu w.stays) t)(h:Hd):bH [w.enc] h=.ok (ah (aK w n (eu w.stays) t)) h:=by
  have q1:=nN W S (v:=1) (.inr rfl) h
  rw [if_neg (by decide)] at q1
  have q2:=xo W S (o9 W S) e (Nat.le_trans ht (by decide)) h
  exact (cJ rfl rfl (bo (aw (au rfl (au (aw (c5 rfl rfl) q1) rfl)) q2))).trans bL
end
section
variable {w:Web} {n:Nat} {a b:List Int}
end
end Fm
set_option linter.all false
namespace Fm
noncomputable def bC:Fn:=bE 2 2 (aC (sIf (tE (af oLt (aa 1) (el (lOf (aa 0))))) (bc (fAt (aa 0) (aa 1))) bD)
    (bc (af cV (af cw (af cw (fC (.int 71)) (aa 1)) (aa 1)) (af cw (fC (.int 7)) (aa 1)))))
noncomputable abbrev tD:SF:=(sIf (tE (af oEq (af bT (aa 1) (fC (.int 2))) (fC (.int 1)))) (aC (aE (gN 5) (af bT (af cV (af cV (af cV (af cw (aa 5) (aa 5)) (af cw (fC (.int 69621)) (aa 5))) (af cw (fC (.int 11)) (aa 6))) (fC (.int 5))) (fC (.int 2147483549))))
    (eV (jf (aa 4) (af bT (af fN (aa 5) (fC (.int 7))) (aa 3))))) (aC (eV (jf (aa 4) (af bT (aa 5) (aa 3))))
    (aE (gN 5) (af fN (aa 5) (aa 3)))))
noncomputable def dm:Fn:=bE 4 7 (aC (aE (gN 4) (aX am))
    (aC (aE (gN 5) (aa 0))
    (aC (sIf (tE (af oEq (af bT (aa 1) (fC (.int 2))) (fC (.int 1)))) (aE (gN 5) (af bT (af cw (af bT (aa 0) (fC (.int 2147483629))) (fC (.int 48271))) (fC (.int 2147483647)))) bD)
    (aC (dI (bw (aa 2)) (gN 6) tD)
    (bc (aa 4))))))
noncomputable abbrev iN:SF:=(oM (aa 9) (aa 6) (fIx (ad (af jV (fAt (aa 10) (aa 6)) (fC (.int 1000))) (ad (af jV (af cV (fAt (aa 9) (aa 6)) (af bT (fAt (aa 10) (aa 6)) (fC (.int 7)))) (fC (.int 3))) am)) (af bT (af fN (aa 2) (fC (.int 256))) (fC (.int 2)))))
noncomputable abbrev mY:SF:=(aC (aE (gN 8) (C6 (fC (.int 0)) (af jV (fAt (aa 5) (af cV (af cw (aa 6) (aa 3)) (aa 7))) (fC (.int 402)))))
    (aC (sIf (tE (af oEq (af bT (af fN (aa 2) (fC (.int 64))) (fC (.int 2))) (fC (.int 1)))) (aE (gN 8) (fIx (ad (fC (.int 0)) (ad (fC (.int 0)) (ad (fC (.int 1)) (ad (fC (.int 1)) (ad (fC (.int 2)) (ad (fC (.int 3)) (ad (fC (.int 1)) am))))))) (af bT (fAt (aa 5) (af cV (af cw (aa 6) (aa 3)) (aa 7))) (fC (.int 7))))) bD)
    (aC (oM (fAt (aa 4) (aa 6)) (aa 7) (aa 8))
    (oM (fAt (aa 4) (aa 7)) (aa 6) (aa 8)))))
noncomputable abbrev j8:SF:=(dI (bw (aa 6)) (gN 7) mY)
noncomputable def io:Fn:=bE 2 12 (aC (aE (gN 2) (ao bC (ad (aa 0) (ad (fC (.int 0)) am))))
    (aC (aE (gN 3) (af cV (fC (.int 1)) (af bT (af fN (aa 2) (fC (.int 2))) (aa 1))))
    (aC (aE (gN 4) (aX (bN 1 [3] (bw (aa 3)) (gN 0) [] (aX (oU (ad (fC (.int 0)) am) (aa 1))))))
    (aC (aE (gN 5) (ao dm (ad (ao bC (ad (aa 0) (ad (fC (.int 1)) am))) (ad (aa 2) (ad (af cw (aa 3) (aa 3)) (ad (fC (.int 803)) am))))))
    (aC (dI (bw (aa 3)) (gN 6) j8)
    (aC (aE (gN 9) (aX (bN 1 [] (dQ (aa 4)) (gN 0) [] (sG (lOf (aa 0))))))
    (aC (sIf (tE (af oEq (af bT (af fN (aa 2) (fC (.int 128))) (fC (.int 2))) (fC (.int 1)))) (aC (aE (gN 10) (ao dm (ad (ao bC (ad (aa 0) (ad (fC (.int 2)) am))) (ad (aa 2) (ad (aa 3) (ad (fC (.int 2001)) am))))))
    (dI (bw (aa 3)) (gN 6) iN)) bD)
    (aC (aE (gN 11) (aX (oU (ad (fC .non) am) (aa 3))))
    (aC (sIf (tE (af oEq (af bT (af fN (aa 2) (fC (.int 512))) (fC (.int 2))) (fC (.int 1)))) (aC (aE (gN 5) (ao dm (ad (ao bC (ad (aa 0) (ad (fC (.int 3)) am))) (ad (aa 2) (ad (aa 3) (ad (fC (.int 7)) am))))))
    (aE (gN 11) (aX (bN 1 [] (dQ (aa 5)) (gN 0) [] (fIx (ad (fC (.int 0)) (ad (fC (.int 1)) (ad (fC .non) (ad (fC .non) (ad (fC .non) (ad (fC .non) (ad (fC .non) am))))))) (aa 0)))))) bD)
    (bc (fj (ad (aa 4) (ad (aa 9) (ad (aa 11) am))))))))))))))
noncomputable abbrev tF:SF:=(sIf (tE (af oGt (fAt (fAt (fAt (aa 0) (fC (.int 0))) (aa 2)) (aa 3)) (fC (.int 0)))) (eV (jf (aa 1) (fj (ad (aa 3) (ad (aa 2) (ad (fAt (fAt (fAt (aa 0) (fC (.int 0))) (aa 2)) (aa 3)) am)))))) bD)
noncomputable abbrev mZ:SF:=(dI (bw (aa 2)) (gN 3) tF)
noncomputable def fA:Fn:=bE 1 4 (aC (aE (gN 1) (aX am))
    (aC (dI (bw (el (lOf (fAt (aa 0) (fC (.int 1)))))) (gN 2) mZ)
    (bc (aa 1))))
noncomputable abbrev pc:SF:=(aC (aE (gN 7) (af cw (fC (.int 2)) (sG (bN 1 [1,2,6] (bw (el (lOf (aa 3)))) (gN 0) [] (af cw (fAt (fAt (aa 2) (aa 3)) (aa 0)) (fAt (aa 1) (aa 0)))))))
    (aC (aE (gN 8) (fAt (aa 1) (aa 6)))
    (aC (sIf (tE (af oGt (aa 7) (fAt (aa 3) (aa 6)))) (aE (gN 8) (fC (.int 1))) bD)
    (aC (sIf (tE (af oLt (aa 7) (fAt (aa 3) (aa 6)))) (aE (gN 8) (fC (.int 0))) bD)
    (aC (sIf (tE (af jW (fAt (aa 4) (aa 6)) (fC .non))) (aE (gN 8) (fAt (aa 4) (aa 6))) bD)
    (eV (jf (aa 5) (aa 8))))))))
noncomputable def dz:Fn:=bE 2 9 (aC (aE (gT [2,3,4]) (aa 0))
    (aC (aE (gN 5) (aX am))
    (aC (dI (bw (el (lOf (aa 3)))) (gN 6) pc)
    (bc (dP (lOf (aa 5)))))))
end Fm
set_option linter.all false
namespace Fm
theorem Qw {t:TF}{a b:SF}{σ:Sd}{h h':Hd}(e:t σ h=.ok true h'):sIf t a b σ h=a σ h':=by simp [sIf,e]
theorem Mp {t:TF}{a b:SF}{σ:Sd}{h h':Hd}(e:t σ h=.ok false h'):sIf t a b σ h=b σ h':=by simp [sIf,e]
theorem yc1 (ns:List Int)(k:Nat)(e:k < ns.length)(h:Hd):bC [.lit (ns.map .int),.int k] h=.ok (.int ns[k]) h:=by
  have pk:=j5 (f:=D.int) e
  simp [bC,bE,runB,e,pk]
theorem GD {x y:Int}(e:(sml x || sml y)=true)(h:Hd):cw (.int x) (.int y) h=.ok (.int (x * y)) h:=by
  simp only [cw,oIc,e,if_true]
theorem yc2 (ns:List Int)(K:Int)(e : ¬ K < (ns.length:Int))(s3:sml K=true)(h:Hd):bC [.lit (ns.map .int),.int K] h=.ok (.int (71 * K * K + 7 * K)) h:=by
  have m1:∀ h,cw (.int 71) (.int K) h=.ok (.int (71 * K)) h:=fun h=>GD (by rw [s3,Bool.or_true]) h
  have m2:∀ h,cw (.int (71 * K)) (.int K) h=.ok (.int (71 * K * K)) h:=fun h=>GD (by rw [s3,Bool.or_true]) h
  have m3:∀ h,cw (.int 7) (.int K) h=.ok (.int (7 * K)) h:=fun h=>GD (by rw [s3,Bool.or_true]) h
  generalize 71 * K=a at m1 m2 ⊢
  generalize a * K=b at m2 ⊢
  generalize 7 * K=c at m3 ⊢
  simp [-cw,bC,bE,runB,e,m1,m2,m3]
theorem Bg (ns:List Int)(k:Nat)(hk:k≤63):∃ v,∀ h,bC [.lit (ns.map .int),.int k] h=.ok (.int v) h:=by
  by_cases e:k < ns.length
  · exact⟨_,yc1 ns k e⟩
  · exact⟨_,yc2 ns k (by omega) (rW (by omega) (by omega))⟩
theorem Pf (c way base:Int)(m:Nat)(hm:m≤1000)(b0:0 < base)(b1:base < 2 ^ 250)(h:Hd):∃ l:List Int,dm [.int c,.int way,.int m,.int base] h=.ok (.ref h.length) (h++[.lst (l.map .int)])∧l.length=m ∧ ∀ x∈l,0≤x∧x < base:=by
  obtain⟨A,hA⟩ : ∃ A,A=h.length:=⟨_,rfl⟩
  obtain⟨z0,hz0⟩ : ∃ z0:Int,z0=if way % 2=1 then c % 2147483629 * 48271 % 2147483647 else c:=⟨_,rfl⟩
  have zb:way % 2=1→0≤z0∧z0 < 4611686018427387904:=fun e=>by
    rw [hz0,if_pos e]
    exact⟨Int.emod_nonneg _ (by decide),Int.lt_trans (Int.emod_lt_of_pos _ (by decide)) (by decide)⟩
  obtain⟨σ',h',k1,l,z,y,k2,k3,k4,k5,k6⟩:=ce (P:=fun i σ h'=>∃ (l:List Int) (z:Int) (y:Option D),σ = [some (.int c),some (.int way),some (.int m),some (.int base),some (.ref A),some (.int z),y]∧h'=h++[.lst (l.map .int)]∧l.length=i∧(∀ x∈l,0≤x∧x < base)∧(way % 2=1→0≤z∧z < 4611686018427387904)) (g:=none) (k:=0)
      (all:=(List.range m).map fun k:Nat=>D.int k) (fun _ _ _ _=>trivial)
      (xs:=(List.range m).map fun k:Nat=>D.int k) (tg:=gN 6) (σ:=[some (.int c),some (.int way),some (.int m),some (.int base),some (.ref A),some (.int z0),none]) (h:=h++[.lst []]) (b:=tD) (by
      rintro i x σ h0 hx ⟨l,z,y,rfl,hh0,ll,bl,bz⟩
      obtain⟨hi,rfl⟩:=dY hx
      rw [Nat.zero_add] at ll ⊢
      have gA:h0[A]? = some (.lst (l.map .int)):=by rw [hh0];exact eG hA _
      have lz:(l.map D.int).length < SZ:=by rw [List.length_map,ll];exact Nat.lt_trans hi (Nat.lt_of_le_of_lt hm (by decide))
      have st:∀ v:Int,h0.set A (.lst (l.map .int++[.int v]))=h++[.lst ((l++[v]).map .int)]:=fun v=>by rw [hh0,i6 hA,List.map_append];rfl
      have nb:∀ q:Int,(0≤q % base∧q % base < base):=fun q=>⟨Int.emod_nonneg q (Int.ne_of_gt b0),Int.emod_lt_of_pos q b0⟩
      by_cases e:way % 2=1
      · have bz':=bz e
        have sz:sml z=true:=rW bz'.1 bz'.2
        have s9:sml 69621=true:=by decide
        have s11:sml 11=true:=by decide
        obtain⟨z',hz'⟩ : ∃ z',z'=(z * z + 69621 * z + 11 * i + 5) % 2147483549:=⟨_,rfl⟩
        have c1:0≤z':=by rw [hz'];exact Int.emod_nonneg _ (by decide)
        have c2:z' < 2147483549:=by rw [hz'];exact Int.emod_lt_of_pos _ (by decide)
        refine⟨_,rfl,[some (.int c),some (.int way),some (.int m),some (.int base),some (.ref A),some (.int z'),some (.int i)],_,?_,l++[z' / 7 % base],z',_,rfl,rfl,by simp [ll],fun x hx => ?_,fun _=>⟨c1,Int.lt_trans c2 (by decide)⟩⟩
        · rw [← st]
          have t1:aE (gN 5) (af bT (af cV (af cV (af cV (af cw (aa 5) (aa 5)) (af cw (fC (.int 69621)) (aa 5))) (af cw (fC (.int 11)) (aa 6))) (fC (.int 5))) (fC (.int 2147483549))) [some (.int c),some (.int way),some (.int m),some (.int base),some (.ref A),some (.int z),some (.int i)] h0=.nx [some (.int c),some (.int way),some (.int m),some (.int base),some (.ref A),some (.int z'),some (.int i)] h0:=by
            rw [hz'];exact aF (ak (ak (ak (ak (ak rfl rfl (ma sz)) (ak rfl rfl (ma s9)) rfl) (ak rfl rfl (ma s11)) rfl) rfl rfl) rfl (cK (by decide)))
          have tt:tE (af oEq (af bT (aa 1) (fC (.int 2))) (fC (.int 1))) [some (.int c),some (.int way),some (.int m),some (.int base),some (.ref A),some (.int z),some (.int i)] h0=.ok true h0:=bB (ak (ak rfl rfl (cK (by decide))) rfl (oZ e))
          show sIf _ _ _ [some (.int c),some (.int way),some (.int m),some (.int base),some (.ref A),some (.int z),some (.int i)] h0=_
          rw [Qw tt,aI t1]
          exact eX (jn rfl gA (ak (ak rfl rfl (gj (by decide) (by decide))) rfl (cK b0)) gA lz)
        · rcases List.mem_append.mp hx with hx|hx
          · exact bl x hx
          · simp at hx;subst hx;exact nb _
      · refine⟨_,rfl,[some (.int c),some (.int way),some (.int m),some (.int base),some (.ref A),some (.int (z / base)),some (.int i)],_,?_,l++[z % base],z / base,_,rfl,rfl,by simp [ll],fun x hx => ?_,fun q=>absurd q e⟩
        · rw [← st]
          have tt:tE (af oEq (af bT (aa 1) (fC (.int 2))) (fC (.int 1))) [some (.int c),some (.int way),some (.int m),some (.int base),some (.ref A),some (.int z),some (.int i)] h0=.ok false h0:=bB (ak (ak rfl rfl (cK (by decide))) rfl (mV e))
          show sIf _ _ _ [some (.int c),some (.int way),some (.int m),some (.int base),some (.ref A),some (.int z),some (.int i)] h0=_
          rw [Mp tt]
          exact (aI (eX (jn rfl gA (ak rfl rfl (cK b0)) gA lz))).trans (aF (ak rfl rfl (gj b0 b1)))
        · rcases List.mem_append.mp hx with hx|hx
          · exact bl x hx
          · simp at hx;subst hx;exact nb _) ⟨[],z0,none,rfl,rfl,rfl,by simp,zb⟩
  have e0:0 + ((List.range m).map fun k:Nat=>D.int k).length=m:=by simp
  rw [e0] at k4
  refine⟨l,?_,k4,k5⟩
  have s1:aE (gN 4) (aX am) [some (.int c),some (.int way),some (.int m),some (.int base),none,none,none] h=.nx [some (.int c),some (.int way),some (.int m),some (.int base),some (.ref A),none,none] (h++[.lst []]):=aF (fX hA rfl (Nat.zero_le _))
  have s2:aE (gN 5) (aa 0) [some (.int c),some (.int way),some (.int m),some (.int base),some (.ref A),none,none] (h++[.lst []])=.nx [some (.int c),some (.int way),some (.int m),some (.int base),some (.ref A),some (.int c),none] (h++[.lst []]):=rfl
  have s3:sIf (tE (af oEq (af bT (aa 1) (fC (.int 2))) (fC (.int 1)))) (aE (gN 5) (af bT (af cw (af bT (aa 0) (fC (.int 2147483629))) (fC (.int 48271))) (fC (.int 2147483647)))) bD [some (.int c),some (.int way),some (.int m),some (.int base),some (.ref A),some (.int c),none] (h++[.lst []])=.nx [some (.int c),some (.int way),some (.int m),some (.int base),some (.ref A),some (.int z0),none] (h++[.lst []]):=by
    have s48:sml 48271=true:=by decide
    rw [hz0]
    by_cases e:way % 2=1
    · rw [if_pos e];exact (mj (bB (ak (ak rfl rfl (cK (by decide))) rfl (oZ e)))).trans (aF (ak (ak (ak rfl rfl (cK (by decide))) rfl (Mf s48)) rfl (cK (by decide))))
    · rw [if_neg e];exact fW (bB (ak (ak rfl rfl (cK (by decide))) rfl (mV e)))
  have s4:dI (bw (aa 2)) (gN 6) tD [some (.int c),some (.int way),some (.int m),some (.int base),some (.ref A),some (.int z0),none] (h++[.lst []])=.nx [some (.int c),some (.int way),some (.int m),some (.int base),some (.ref A),some (.int z),y] (h++[.lst (l.map .int)]):=by
    rw [k2,k3] at k1
    exact d8 (cY rfl hm) k1
  have s5:bc (aa 4) [some (.int c),some (.int way),some (.int m),some (.int base),some (.ref A),some (.int z),y] (h++[.lst (l.map .int)])=.rt (.ref A) (h++[.lst (l.map .int)]):=bo rfl
  have st:([D.int c,D.int way,D.int m,D.int base].map some++List.replicate (7 - [D.int c,D.int way,D.int m,D.int base].length) none:Sd)=[some (.int c),some (.int way),some (.int m),some (.int base),none,none,none]:=rfl
  unfold dm bE runB
  rw [if_pos (by rfl),st,aI s1,aI s2,aI s3,aI s4,s5,← hA]
  exact bG
end Fm
set_option linter.all false
namespace Fm
def gH (M:Nat→Nat→Int) (n i:Nat):List Int:=(List.range n).map (M i)
def pd (M:Nat→Nat→Int) (a b:Nat) (v:Int):Nat→Nat→Int:=fun i j=>if i=a∧j=b then v else M i j
structure iO (A n:Nat) (M:Nat→Nat→Int) (h:Hd):Prop where
  ro:∀ i,i < n→h[A + i]? = some (.lst ((gH M n i).map .int))
  ti:h[A + n]? = some (.lst ((List.range n).map fun i=>.ref (A + i)))
structure MOk (M:Nat→Nat→Int):Prop where
  sym:∀ i j,M i j=M j i
  bd:∀ i j,0≤M i j∧M i j≤400
  no:∀ i,M i i=0
theorem JT (M:Nat→Nat→Int)(n a b:Nat)(v:Int)(i:Nat):gH (pd M a b v) n i=if i=a then (gH M n a).set b v else gH M n i:=by
  by_cases e:i=a
  · subst e
    rw [if_pos rfl]
    apply List.ext_getElem?
    intro j
    by_cases hj:j < n
    · by_cases ej:j=b
      · subst ej
        rw [List.getElem?_set_self (by simp [gH,hj])]
        simp [gH,pd,hj]
      · rw [List.getElem?_set_ne (by omega)]
        simp [gH,pd,hj,ej]
    · rw [List.getElem?_eq_none (by simp [gH];omega),List.getElem?_eq_none (by simp [gH];omega)]
  · rw [if_neg e]
    apply List.map_congr_left
    intro j _
    simp [pd,e]
theorem iO.put {A n:Nat}{M:Nat→Nat→Int}{h:Hd}(m:iO A n M h){a b:Nat}(ha:a < n)(v:Int):iO A n (pd M a b v) (h.set (A + a) (.lst (((gH M n a).map .int).set b (.int v)))) where
  ro:=fun i hi=>by
    rw [JT]
    by_cases e:i=a
    · subst e
      rw [if_pos rfl,List.getElem?_set_self (List.getElem?_eq_some_iff.mp (m.ro i hi)).1,List.map_set]
    · rw [if_neg e,List.getElem?_set_ne (fun z=>e (Nat.add_left_cancel z).symm)];exact m.ro i hi
  ti:=by rw [List.getElem?_set_ne (fun z=>Nat.ne_of_lt ha (Nat.add_left_cancel z))];exact m.ti
theorem iO.more {A n:Nat}{M:Nat→Nat→Int}{h:Hd}(m:iO A n M h)(g:Hd):iO A n M (h++g):=by
  have k:∀ {i:Nat} {x:cX},h[i]? = some x→(h++g)[i]? = some x:=fun {i x} e=>by
    rw [List.getElem?_append_left (List.getElem?_eq_some_iff.mp e).1];exact e
  exact⟨fun i hi=>k (m.ro i hi),k m.ti⟩
theorem iO.set {A n:Nat}{M:Nat→Nat→Int}{h:Hd}(m:iO A n M h){k:Nat}(hk:A + n < k)(c:cX):iO A n M (h.set k c) :=
  ⟨fun i hi=>by rw [List.getElem?_set_ne (by omega)];exact m.ro i hi,by rw [List.getElem?_set_ne (by omega)];exact m.ti⟩
theorem MOk.put {M:Nat→Nat→Int}(o:MOk M){a b:Nat}(ne:a≠b){v:Int}(h0:0≤v)(h1:v≤400):MOk (pd (pd M a b v) b a v) where
  sym:=fun i j=>by
    simp only [pd]
    by_cases q:i=b∧j=a
    · rw [if_pos q]
      by_cases r:j=b∧i=a
      · rw [if_pos r]
      · rw [if_neg r,if_pos ⟨q.2,q.1⟩]
    · rw [if_neg q]
      by_cases p:i=a∧j=b
      · rw [if_pos p,if_pos ⟨p.2,p.1⟩]
      · rw [if_neg p,if_neg fun z=>p ⟨z.2,z.1⟩,if_neg fun z=>q ⟨z.2,z.1⟩];exact o.sym i j
  bd:=fun i j=>by
    simp only [pd]
    split
    · exact⟨h0,h1⟩
    · split
      · exact⟨h0,h1⟩
      · exact o.bd i j
  no:=fun i=>by
    simp only [pd]
    rw [if_neg fun z=>ne (z.2.symm.trans z.1),if_neg fun z=>ne (z.1.symm.trans z.2)]
    exact o.no i
theorem Rg {t:Int}(h:0≤t∧t < 803):0≤(if t - 402 > 0 then t - 402 else 0)∧(if t - 402 > 0 then t - 402 else 0)≤400:=by split<;>omega
theorem JU {M:Nat→Nat→Int}{n i j:Nat}(hj:j < n):atI ((gH M n i).map D.int) (j:Int)=some (.int (M i j)):=by
  rw [j5 (by simp [gH,hj])];simp [gH]
theorem FA {A n i:Nat}(hi:i < n):atI ((List.range n).map fun i=>D.ref (A + i)) (i:Int)=some (.ref (A + i)):=by
  refine gw ?_
  simp [hi]
theorem Nt {x0 x1 x2 x4 x5:Option D}{r:Sd}{N O:Int}(e:(sml O || sml N)=true)(h:Hd):af cw (aa 6) (aa 3) (x0 :: x1 :: x2 :: some (.int N) :: x4 :: x5 :: some (.int O) :: r) h=.ok (.int (O * N)) h:=by
  rw [show af cw (aa 6) (aa 3) (x0 :: x1 :: x2 :: some (.int N) :: x4 :: x5 :: some (.int O) :: r) h=cw (.int O) (.int N) h from rfl]
  exact GD e h
theorem q1 {tk n one i:Nat}{S0 p1:D}{way t q:Int}{td:List D}{c b:Option D}{h0:Hd}{E:EF}(pr:E [some S0,some p1,some (.int way),some (.int n),c,some (.ref tk),some (.int one),some (.int i),b,none,none,none] h0=.ok (.int q) h0)(t1:h0[tk]? = some (.lst td))(at1:atI td (q + i)=some (.int t)):aE (gN 8) (C6 (fC (.int 0)) (af jV (fAt (aa 5) (af cV E (aa 7))) (fC (.int 402)))) [some S0,some p1,some (.int way),some (.int n),c,some (.ref tk),some (.int one),some (.int i),b,none,none,none] h0=.nx [some S0,some p1,some (.int way),some (.int n),c,some (.ref tk),some (.int one),some (.int i),some (.int (if t - 402 > 0 then t - 402 else 0)),none,none,none] h0:=by
  exact aF (O7 rfl (ak (bh rfl (ak pr rfl rfl) (bg t1) at1) rfl rfl))
theorem q2 {tk n one i:Nat}{S0 p1:D}{way t y q v0:Int}{td:List D}{c:Option D}{h0:Hd}{E:EF}(pr:E [some S0,some p1,some (.int way),some (.int n),c,some (.ref tk),some (.int one),some (.int i),some (.int v0),none,none,none] h0=.ok (.int q) h0)(t1:h0[tk]? = some (.lst td))(at1:atI td (q + i)=some (.int t))(e:way / 64 % 2=1)(py:atI [D.int 0,.int 0,.int 1,.int 1,.int 2,.int 3,.int 1] (t % 7)=some (.int y)):sIf (tE (af oEq (af bT (af fN (aa 2) (fC (.int 64))) (fC (.int 2))) (fC (.int 1)))) (aE (gN 8) (fIx (ad (fC (.int 0)) (ad (fC (.int 0)) (ad (fC (.int 1)) (ad (fC (.int 1)) (ad (fC (.int 2)) (ad (fC (.int 3)) (ad (fC (.int 1)) am))))))) (af bT (fAt (aa 5) (af cV E (aa 7))) (fC (.int 7))))) bD [some S0,some p1,some (.int way),some (.int n),c,some (.ref tk),some (.int one),some (.int i),some (.int v0),none,none,none] h0=.nx [some S0,some p1,some (.int way),some (.int n),c,some (.ref tk),some (.int one),some (.int i),some (.int y),none,none,none] h0:=by
  exact (mj (bB (ak (ak (ak rfl rfl (gj (by decide) (by decide))) rfl (cK (by decide))) rfl (oZ e)))).trans (aF (JI (au rfl (au rfl (au rfl (au rfl (au rfl (c5 rfl rfl)))))) (ak (bh rfl (ak pr rfl rfl) (bg t1) at1) rfl (cK (by decide))) py))
theorem q3 {tk n one i:Nat}{S0 p1:D}{way v0:Int}{c:Option D}{h0:Hd}{B:SF}(e : ¬ way / 64 % 2=1):sIf (tE (af oEq (af bT (af fN (aa 2) (fC (.int 64))) (fC (.int 2))) (fC (.int 1)))) B bD [some S0,some p1,some (.int way),some (.int n),c,some (.ref tk),some (.int one),some (.int i),some (.int v0),none,none,none] h0=.nx [some S0,some p1,some (.int way),some (.int n),c,some (.ref tk),some (.int one),some (.int i),some (.int v0),none,none,none] h0:=by
  exact fW (bB (ak (ak (ak rfl rfl (gj (by decide) (by decide))) rfl (cK (by decide))) rfl (mV e)))
theorem Mq {A n one tk:Nat}{way:Int}{td:List Int}(h1:one < n)(hn:n≤30)(tl:td.length=n * n)(tb:∀ x∈td,0≤x∧x < 803)(hA:A + n < tk){M:Nat→Nat→Int}(O:MOk M){h:Hd}(m:iO A n M h)(ht:h[tk]? = some (.lst (td.map .int))){S0 p1:D}{a b:Option D}{L:Nat}(hL:h.length=L) :
    ∃ M' h' a' b',gc none ((List.range one).map fun k:Nat=>D.int k) (gN 7) mY ((List.range one).map fun k:Nat=>D.int k) [some S0,some p1,some (.int way),some (.int n),some (.ref (A + n)),some (.ref tk),some (.int one),a,b,none,none,none] h
      = .nx [some S0,some p1,some (.int way),some (.int n),some (.ref (A + n)),some (.ref tk),some (.int one),a',b',none,none,none] h'∧MOk M'∧iO A n M' h'∧h'[tk]? = some (.lst (td.map .int))∧h'.length=L:=by
  obtain⟨σ',h',k1,M',a',b',k2,k3,k4,k5,k6⟩:=ce (P:=fun i σ h'=>∃ (M':Nat→Nat→Int) (a b:Option D),σ = [some S0,some p1,some (.int way),some (.int n),some (.ref (A + n)),some (.ref tk),some (.int one),a,b,none,none,none]∧MOk M'∧iO A n M' h'∧h'[tk]? = some (.lst (td.map .int))∧h'.length=L) (g:=none) (k:=0)
      (all:=(List.range one).map fun k:Nat=>D.int k) (fun _ _ _ _=>trivial)
      (xs:=(List.range one).map fun k:Nat=>D.int k) (tg:=gN 7) (σ:=[some S0,some p1,some (.int way),some (.int n),some (.ref (A + n)),some (.ref tk),some (.int one),a,b,none,none,none]) (h:=h) (b:=mY) (by
      rintro i x σ h0 hx ⟨M1,a,b,rfl,O1,m1,t1,l1⟩
      obtain⟨hi,rfl⟩:=dY hx
      have hin:i < n:=Nat.lt_trans hi h1
      have lt:one * n + i < td.length:=by
        rw [tl]
        exact Nat.lt_of_lt_of_le (Nat.add_lt_add_left hin _) (by rw [← Nat.succ_mul];exact Nat.mul_le_mul_right n h1)
      have at1:atI (td.map D.int) ((one:Int) * n + i)=some (.int td[one * n + i]):=by
        have:=j5 (f:=D.int) lt
        rw [show (one:Int) * n + i=((one * n + i:Nat):Int) by rw [Int.natCast_add,Int.natCast_mul]]
        exact this
      have tb1:=tb _ (List.getElem_mem lt)
      generalize td[one * n + i] = t at at1 tb1
      have sn:sml (n:Int)=true:=rW (Int.natCast_nonneg n) (Int.lt_of_le_of_lt (Int.ofNat_le.mpr hn) (by decide))
      obtain⟨v0,hv0⟩ : ∃ v0:Int,v0=if t - 402 > 0 then t - 402 else 0:=⟨_,rfl⟩
      have v0b:0≤v0∧v0≤400:=by rw [hv0];exact Rg tb1
      have s1:aE (gN 8) (C6 (fC (.int 0)) (af jV (fAt (aa 5) (af cV (af cw (aa 6) (aa 3)) (aa 7))) (fC (.int 402)))) [some S0,some p1,some (.int way),some (.int n),some (.ref (A + n)),some (.ref tk),some (.int one),some (.int i),b,none,none,none] h0=.nx [some S0,some p1,some (.int way),some (.int n),some (.ref (A + n)),some (.ref tk),some (.int one),some (.int i),some (.int v0),none,none,none] h0:=by
        rw [hv0];exact q1 (E:=af cw (aa 6) (aa 3)) (Nt (by rw [sn,Bool.or_true]) h0) t1 at1
      obtain⟨v,vb,s2⟩ : ∃ v:Int,(0≤v∧v≤400)∧sIf (tE (af oEq (af bT (af fN (aa 2) (fC (.int 64))) (fC (.int 2))) (fC (.int 1)))) (aE (gN 8) (fIx (ad (fC (.int 0)) (ad (fC (.int 0)) (ad (fC (.int 1)) (ad (fC (.int 1)) (ad (fC (.int 2)) (ad (fC (.int 3)) (ad (fC (.int 1)) am))))))) (af bT (fAt (aa 5) (af cV (af cw (aa 6) (aa 3)) (aa 7))) (fC (.int 7))))) bD [some S0,some p1,some (.int way),some (.int n),some (.ref (A + n)),some (.ref tk),some (.int one),some (.int i),some (.int v0),none,none,none] h0=.nx [some S0,some p1,some (.int way),some (.int n),some (.ref (A + n)),some (.ref tk),some (.int one),some (.int i),some (.int v),none,none,none] h0:=by
        by_cases e:way / 64 % 2=1
        · obtain⟨y,hy,py⟩:=Qs D.int [0,0,1,1,2,3,1] (x:=t % 7) (Int.emod_nonneg t (by decide)) (Int.emod_lt_of_pos t (by decide))
          simp only [List.map_cons,List.map_nil] at py
          refine⟨y,by simp at hy;rcases hy with rfl|rfl|rfl|rfl|rfl<;>decide,?_⟩
          exact q2 (E:=af cw (aa 6) (aa 3)) (Nt (by rw [sn,Bool.or_true]) h0) t1 at1 e py
        · refine⟨v0,v0b,?_⟩
          exact q3 e
      have lr:∀ (M:Nat→Nat→Int) (i:Nat),(gH M n i).length=n:=fun M i=>by simp [gH]
      have ne:one≠i:=Nat.ne_of_gt hi
      have m2:=m1.put (b:=i) h1 v
      have m3:=m2.put (b:=one) hin v
      have ro1:=m1.ro one h1
      have ro2:=m2.ro i hin
      have a1:=FA (A:=A) h1
      have a2:=FA (A:=A) hin
      have s3:oM (fAt (aa 4) (aa 6)) (aa 7) (aa 8) [some S0,some p1,some (.int way),some (.int n),some (.ref (A + n)),some (.ref tk),some (.int one),some (.int i),some (.int v),none,none,none] h0=.nx [some S0,some p1,some (.int way),some (.int n),some (.ref (A + n)),some (.ref tk),some (.int one),some (.int i),some (.int v),none,none,none] (h0.set (A + one) (.lst (((gH M1 n one).map .int).set i (.int v)))):=by
        exact sZ rfl (bh rfl rfl (bg m1.ti) a1) rfl ro1 (rY (by rw [List.length_map,lr];exact hin))
      have s4:oM (fAt (aa 4) (aa 7)) (aa 6) (aa 8) [some S0,some p1,some (.int way),some (.int n),some (.ref (A + n)),some (.ref tk),some (.int one),some (.int i),some (.int v),none,none,none] (h0.set (A + one) (.lst (((gH M1 n one).map .int).set i (.int v))))=.nx [some S0,some p1,some (.int way),some (.int n),some (.ref (A + n)),some (.ref tk),some (.int one),some (.int i),some (.int v),none,none,none] ((h0.set (A + one) (.lst (((gH M1 n one).map .int).set i (.int v)))).set (A + i) (.lst (((gH (pd M1 one i v) n i).map .int).set one (.int v)))):=by
        exact sZ rfl (bh rfl rfl (bg m2.ti) a2) rfl ro2 (rY (by rw [List.length_map,lr];exact h1))
      refine⟨_,rfl,[some S0,some p1,some (.int way),some (.int n),some (.ref (A + n)),some (.ref tk),some (.int one),some (.int i),some (.int v),none,none,none],_,?_,pd (pd M1 one i v) i one v,_,_,rfl,O1.put ne vb.1 vb.2,m3,?_,by simp [l1]⟩
      · show aC _ _ [some S0,some p1,some (.int way),some (.int n),some (.ref (A + n)),some (.ref tk),some (.int one),some (.int i),b,none,none,none] h0=_
        rw [aI s1,aI s2,aI s3,s4]
      · exact (List.getElem?_set_ne (Nat.ne_of_lt (Nat.lt_trans (Nat.add_lt_add_left hin A) hA))).trans ((List.getElem?_set_ne (Nat.ne_of_lt (Nat.lt_trans (Nat.add_lt_add_left h1 A) hA))).trans t1)) ⟨M,a,b,rfl,O,m,ht,hL⟩
  exact⟨M',h',a',b',by rw [k1,k2],k3,k4,k5,k6⟩
theorem Mr {A n tk:Nat}{way:Int}{td:List Int}(hn:n≤30)(tl:td.length=n * n)(tb:∀ x∈td,0≤x∧x < 803)(hA:A + n < tk){M:Nat→Nat→Int}(O:MOk M){h:Hd}(m:iO A n M h)(ht:h[tk]? = some (.lst (td.map .int))){S0 p1:D}{L:Nat}(hL:h.length=L) :
    ∃ M' h' c a b,gc none ((List.range n).map fun k:Nat=>D.int k) (gN 6) j8 ((List.range n).map fun k:Nat=>D.int k) [some S0,some p1,some (.int way),some (.int n),some (.ref (A + n)),some (.ref tk),none,none,none,none,none,none] h
      = .nx [some S0,some p1,some (.int way),some (.int n),some (.ref (A + n)),some (.ref tk),c,a,b,none,none,none] h'∧MOk M'∧iO A n M' h'∧h'.length=L:=by
  obtain⟨σ',h',k1,M',c',a',b',k2,k3,k4,k5,k6⟩:=ce (P:=fun i σ h'=>∃ (M':Nat→Nat→Int) (c a b:Option D),σ = [some S0,some p1,some (.int way),some (.int n),some (.ref (A + n)),some (.ref tk),c,a,b,none,none,none]∧MOk M'∧iO A n M' h'∧h'[tk]? = some (.lst (td.map .int))∧h'.length=L) (g:=none) (k:=0)
      (all:=(List.range n).map fun k:Nat=>D.int k) (fun _ _ _ _=>trivial)
      (xs:=(List.range n).map fun k:Nat=>D.int k) (tg:=gN 6) (σ:=[some S0,some p1,some (.int way),some (.int n),some (.ref (A + n)),some (.ref tk),none,none,none,none,none,none]) (h:=h) (b:=j8) (by
      rintro i x σ h0 hx ⟨M1,c,a,b,rfl,O1,m1,t1,l1⟩
      obtain⟨hi,rfl⟩:=dY hx
      obtain⟨M2,h2,a2,b2,q,O2,m2,t2,l2⟩:=Mq hi hn tl tb hA O1 m1 t1 (S0:=S0) (p1:=p1) (way:=way) (a:=a) (b:=b) l1
      refine⟨_,rfl,_,h2,?_,M2,some (.int i),a2,b2,rfl,O2,m2,t2,l2⟩
      show dI _ _ _ [some S0,some p1,some (.int way),some (.int n),some (.ref (A + n)),some (.ref tk),some (.int i),a,b,none,none,none] h0=_
      exact d8 (cY rfl (Nat.le_trans (Nat.le_of_lt hi) (jB hn))) q) ⟨M,none,none,none,rfl,O,m,ht,hL⟩
  exact⟨M',h',c',a',b',by rw [k1,k2],k3,k4,k6⟩
end Fm
set_option linter.all false
namespace Fm
structure Mdl (ns:List Int) (n:Nat) (M:Nat→Nat→Int) (bs:List Int) (ss:List (Option Int)) (bk sk:Nat) (h:Hd):Prop where
  run:io [.lit (ns.map .int),.int 8] []=.ok (.tup [.ref (0 + n),.ref bk,.ref sk]) h
  n1:1≤n
  n30:n≤30
  n7:n≤8
  mt:iO 0 n M h
  mo:MOk M
  ba:h[bk]? = some (.lst (bs.map .int))
  st:h[sk]? = some (.lst (ss.map aZ))
  lb:bs.length=n
  ls:ss.length=n
  os:∀ x∈ss,x=none∨x=some 0∨x=some 1
  bb:∀ x∈bs,-20000≤x∧x≤20000
theorem Bh {way d:Int}{σ:Sd}{h:Hd}{i:Nat}(hi : σ[i]? = some (some (.int way)))(d0:0 < d)(d1:d < 2 ^ 250):tE (af oEq (af bT (af fN (aa i) (fC (.int d))) (fC (.int 2))) (fC (.int 1))) σ h=.ok (decide (way / d % 2=1)) h:=by
  have v:aa i σ h=.ok (.int way) h:=by simp only [aa,slot,hi]
  exact bB (ak (ak (ak v rfl (gj d0 d1)) rfl (cK (by decide))) rfl AX)
theorem Pg (x:Int):x % 2=0∨x % 2=1:=Int.emod_two_eq x
theorem lv1 {x:Int}(h:0≤x∧x < 2001) : -20000≤x - 1000∧x - 1000≤20000:=by omega
theorem lv2 {x y:Int}(h:0≤x∧x≤12000) : -20000≤x + y % 7 - 3∧x + y % 7 - 3≤20000:=by omega
theorem lv3 {x:Int}(h:0≤x∧x≤12000) : -20000≤x∧x≤20000:=by omega
theorem JV {A n lk tk:Nat}{way:Int}{stp:List Int}(hn:n≤30)(sl:stp.length=n)(ne:lk≠tk){h:Hd}{bs:List Int}(lb:bs.length=n)(sb:∀ x∈stp,0≤x∧x < 2001)(bb:∀ x∈bs,0≤x∧x≤12000)(hl:h[lk]? = some (.lst (bs.map .int)))(ht:h[tk]? = some (.lst (stp.map .int))){S0 p1 q4 q5:D}{a b c:Option D} :
    ∃ (bs':List Int) (c':Option D),gc none ((List.range n).map fun k:Nat=>D.int k) (gN 6) iN ((List.range n).map fun k:Nat=>D.int k) [some S0,some p1,some (.int way),some (.int n),some q4,some q5,c,a,b,some (.ref lk),some (.ref tk),none] h
      = .nx [some S0,some p1,some (.int way),some (.int n),some q4,some q5,c',a,b,some (.ref lk),some (.ref tk),none] (h.set lk (.lst (bs'.map .int)))∧bs'.length=n ∧ ∀ x∈bs',-20000≤x∧x≤20000:=by
  have hlt:lk < h.length:=(List.getElem?_eq_some_iff.mp hl).1
  obtain⟨σ',h',k1,bs',c',k2,k3,k4,k5⟩:=ce (P:=fun i σ h'=>∃ (bs':List Int) (c':Option D),σ = [some S0,some p1,some (.int way),some (.int n),some q4,some q5,c',a,b,some (.ref lk),some (.ref tk),none]∧h'=h.set lk (.lst (bs'.map .int))∧bs'.length=n ∧ ∀ (j:Nat) x,bs'[j]? = some x→(-20000≤x∧x≤20000)∧(i≤j→0≤x∧x≤12000)) (g:=none) (k:=0)
      (all:=(List.range n).map fun k:Nat=>D.int k) (fun _ _ _ _=>trivial)
      (xs:=(List.range n).map fun k:Nat=>D.int k) (tg:=gN 6) (σ:=[some S0,some p1,some (.int way),some (.int n),some q4,some q5,c,a,b,some (.ref lk),some (.ref tk),none]) (h:=h) (b:=iN) (by
      rintro i x σ h0 hx ⟨b1,c1,rfl,hh0,l1,bd1⟩
      rw [Nat.zero_add] at bd1 ⊢
      obtain⟨hi,rfl⟩:=dY hx
      have g1:h0[lk]? = some (.lst (b1.map .int)):=by rw [hh0,List.getElem?_set_self hlt]
      have g2:h0[tk]? = some (.lst (stp.map .int)):=by rw [hh0,List.getElem?_set_ne ne];exact ht
      have hi1:i < b1.length:=l1 ▸ hi
      have a1:atI (b1.map D.int) (i:Int)=some (.int b1[i]):=j5 hi1
      have a2:atI (stp.map D.int) (i:Int)=some (.int stp[i]):=j5 (sl ▸ hi)
      have bx1:=(bd1 i b1[i] (by simp [hi1])).2 (Nat.le_refl _)
      have bx2:=sb stp[i] (List.getElem_mem _)
      generalize b1[i] = x1 at a1 bx1
      generalize stp[i] = x2 at a2 bx2
      have e2:=Pg (way / 256)
      have ix:ixN (b1.map D.int).length (i:Int)=some i:=rY (by rw [List.length_map];exact hi1)
      obtain⟨y,hy,s1⟩ : ∃ y:Int,(-20000≤y∧y≤20000)∧iN [some S0,some p1,some (.int way),some (.int n),some q4,some q5,some (.int i),a,b,some (.ref lk),some (.ref tk),none] h0=.nx [some S0,some p1,some (.int way),some (.int n),some q4,some q5,some (.int i),a,b,some (.ref lk),some (.ref tk),none] (h0.set lk (.lst ((b1.map .int).set i (.int y)))):=by
        rcases e2 with e|e
        · exact⟨x2 - 1000,lv1 bx2,(sZ (JI (au (ak (bh rfl rfl (bg g2) a2) rfl rfl) (au (ak (ak (bh rfl rfl (bg g1) a1) (ak (bh rfl rfl (bg g2) a2) rfl (cK (by decide))) rfl) rfl rfl) rfl)) (ak (ak rfl rfl (gj (by decide) (by decide))) rfl (cK (by decide))) (by rw [e];rfl)) rfl rfl g1 ix)⟩
        · exact⟨x1 + x2 % 7 - 3,lv2 bx1,(sZ (JI (au (ak (bh rfl rfl (bg g2) a2) rfl rfl) (au (ak (ak (bh rfl rfl (bg g1) a1) (ak (bh rfl rfl (bg g2) a2) rfl (cK (by decide))) rfl) rfl rfl) rfl)) (ak (ak rfl rfl (gj (by decide) (by decide))) rfl (cK (by decide))) (by rw [e];rfl)) rfl rfl g1 ix)⟩
      refine⟨_,rfl,_,_,s1,b1.set i y,some (.int i),rfl,?_,by simp [l1],fun j z hz => ?_⟩
      · rw [hh0,List.set_set,List.map_set]
      · by_cases e:i=j
        · subst e
          rw [List.getElem?_set_self hi1] at hz
          cases hz
          exact⟨hy,fun q=>absurd q (Nat.not_succ_le_self _)⟩
        · rw [List.getElem?_set_ne e] at hz
          have q:=bd1 j z hz
          exact⟨q.1,fun le=>q.2 (Nat.le_of_succ_le le)⟩) ⟨bs,c,rfl,by
        apply List.ext_getElem?
        intro j
        by_cases e:lk=j
        · subst e;rw [List.getElem?_set_self hlt];exact hl
        · rw [List.getElem?_set_ne e],lb,fun j z hz=>by
          have q:=bb z (List.mem_of_getElem? hz)
          exact⟨lv3 q,fun _=>q⟩⟩
  exact⟨bs',c',by rw [k1,k2,k3],k4,fun z hz=>by
    obtain⟨j,hj⟩:=List.getElem?_of_mem hz
    exact (k5 j z hj).1⟩
theorem FC (v:D):∀ n,(List.replicate n [v]).flatten=List.replicate n v
  | 0=>rfl
  | n + 1=>by rw [List.replicate_succ,List.replicate_succ,List.flatten_cons,FC v n];rfl
theorem GE {l:List Int}(hb:∀ x∈l,0≤x∧x < 7){h:Hd}{k:Nat}(hk:h[k]? = some (.lst (l.map .int)))(a:Option D):∃ ss:List (Option Int),cx (some k) (l.map .int) (gN 0) [] (fIx (ad (fC (.int 0)) (ad (fC (.int 1)) (ad (fC .non) (ad (fC .non) (ad (fC .non) (ad (fC .non) (ad (fC .non) am))))))) (aa 0)) (l.map .int) [a] h=.ok (ss.map aZ) h∧ss.length=l.length ∧ ∀ x∈ss,x=none∨x=some 0∨x=some 1:=by
  have:=bM (g:=some k) (all:=l.map .int) (tg:=gN 0) (cs:=[]) (e:=fIx (ad (fC (.int 0)) (ad (fC (.int 1)) (ad (fC .non) (ad (fC .non) (ad (fC .non) (ad (fC .non) (ad (fC .non) am))))))) (aa 0)) (h:=h) (I:=fun σ=>∃ a,σ = [a]) (fun _=>true) (fun d=>match d with | .int x=>aZ (if x=0 then some 0 else if x=1 then some 1 else none)|_=>.non) hk
    (xs:=l.map .int) (σ:=[a]) (by
      rintro x hx σ ⟨c,rfl⟩
      obtain⟨u,hu,rfl⟩:=List.mem_map.mp hx
      have b:=hb u hu
      refine⟨_,rfl,⟨_,rfl⟩,rfl,fun _ => ?_⟩
      obtain⟨u,rfl⟩:=Int.eq_ofNat_of_zero_le b.1
      match u,Int.ofNat_lt.mp b.2 with
      | 0,_|1,_|2,_|3,_|4,_|5,_|6,_=>rfl
      | k + 7,z=>exact absurd z (Nat.not_lt.mpr (Nat.le_add_left 7 k))) ⟨_,rfl⟩
  refine⟨l.map fun x=>if x=0 then some 0 else if x=1 then some 1 else none,?_,by simp,fun x hx => ?_⟩
  · rw [this,List.filter_eq_self.mpr (by simp),List.map_map,List.map_map];rfl
  · obtain⟨u,_,rfl⟩:=List.mem_map.mp hx
    split
    · exact .inr (.inl rfl)
    · split
      · exact .inr (.inr rfl)
      · exact .inl rfl
theorem Qx {x0 x1 x2:Option D}{r:Sd}{N:Int}(e:(sml N || sml N)=true)(h:Hd):af cw (aa 3) (aa 3) (x0 :: x1 :: x2 :: some (.int N) :: r) h=.ok (.int (N * N)) h:=by
  rw [show af cw (aa 3) (aa 3) (x0 :: x1 :: x2 :: some (.int N) :: r) h=cw (.int N) (.int N) h from rfl]
  exact GD e h
theorem Ph {S0:D}{x1 x3 x4:D}{way c1 q:Int}{k:Nat}{E:EF}{h3 h4:Hd}(hc1:bC [S0,.int 1] h3=.ok (.int c1) h3)(pr:E [some S0,some x1,some (.int way),some x3,some x4,none,none,none,none,none,none,none] h3=.ok (.int q) h3)(q4:dm [.int c1,.int way,.int q,.int 803] h3=.ok (.ref k) h4) :
    aE (gN 5) (ao dm (ad (ao bC (ad (aa 0) (ad (fC (.int 1)) am))) (ad (aa 2) (ad E (ad (fC (.int 803)) am))))) [some S0,some x1,some (.int way),some x3,some x4,none,none,none,none,none,none,none] h3=.nx [some S0,some x1,some (.int way),some x3,some x4,some (.ref k),none,none,none,none,none,none] h4:=by
  exact aF (aw (au (aw (c5 rfl rfl) hc1) (au rfl (au pr (au rfl rfl)))) q4)
theorem JW {n:Nat}(hn:n≤30){v:D}{σ:Sd}{h:Hd}{b:EF}(hb:b σ h=.ok (.int n) h):aX (oU (ad (fC v) am) b) σ h=.ok (.ref h.length) (h++[.lst (List.replicate n v)]) :=
  dw (by rw [O4 (l:=[v]) rfl hb ⟨Int.natCast_nonneg n,Int.le_trans (Int.ofNat_le.mpr hn) (by decide),by rw [Int.toNat_natCast];exact Nat.le_trans (Nat.le_of_eq (Nat.one_mul n)) (jB hn)⟩,Int.toNat_natCast,FC]) (by rw [List.length_replicate];exact jB hn)
theorem Pi (way:Int):∃ n:Nat,(n:Int)=1 + way / 2 % 8∧1≤n∧n≤30∧n≤8:=by
  have h0:=Int.emod_nonneg (way / 2) (show (8:Int)≠0 by decide)
  have h1:=Int.emod_lt_of_pos (way / 2) (show (0:Int) < 8 by decide)
  generalize way / 2 % 8=x at h0 h1
  obtain⟨k,rfl⟩:=Int.eq_ofNat_of_zero_le h0
  have h2:k < 8:=Int.ofNat_lt.mp h1
  exact⟨1 + k,rfl,Nat.le_add_right 1 k,by omega,by omega⟩
theorem Nu:∀ l:List Int,(∀ y∈l,0≤y∧y≤400)→0≤l.sum∧l.sum≤400 * l.length
  | [],_=>⟨Int.le_refl _,Int.le_refl _⟩
  | y :: l,h=>by
    have a:=h y List.mem_cons_self
    have b:=Nu l fun z hz=>h z (List.mem_cons_of_mem _ hz)
    rw [List.sum_cons,List.length_cons]
    omega
theorem Rh {n:Nat}{x:Int}(hn:n≤30)(h:0≤x∧x≤400 * n):0≤x∧x≤12000:=⟨h.1,Int.le_trans h.2 (Int.mul_le_mul_of_nonneg_left (Int.ofNat_le.mpr hn) (by decide))⟩
noncomputable abbrev XM (S0:D) (way:Int) (n:Nat) (a5 a6 a7 a8 a9 a10 a11:Option D):Sd:=[some S0,some (.int 8),some (.int way),some (.int n),some (.ref (0 + n)),a5,a6,a7,a8,a9,a10,a11]
theorem JX (ns:List Int):∃ n M bs ss bk sk h,Mdl ns n M bs ss bk sk h:=by
  obtain⟨way,hway⟩:=Bg ns 0 (by decide)
  obtain⟨c1,hc1⟩:=Bg ns 1 (by decide)
  obtain⟨c2,hc2⟩:=Bg ns 2 (by decide)
  obtain⟨c3,hc3⟩:=Bg ns 3 (by decide)
  obtain⟨S0,hS0⟩ : ∃ S0:D,S0=.lit (ns.map .int):=⟨_,rfl⟩
  have hway:∀ h,bC [S0,.int 0] h=.ok (.int way) h:=by rw [hS0];exact hway
  have hc1:∀ h,bC [S0,.int 1] h=.ok (.int c1) h:=by rw [hS0];exact hc1
  have hc2:∀ h,bC [S0,.int 2] h=.ok (.int c2) h:=by rw [hS0];exact hc2
  have hc3:∀ h,bC [S0,.int 3] h=.ok (.int c3) h:=by rw [hS0];exact hc3
  obtain⟨n,hn,n1,n30,n7⟩:=Pi way
  have e0:aE (gN 2) (ao bC (ad (aa 0) (ad (fC (.int 0)) am))) [some S0,some (.int 8),none,none,none,none,none,none,none,none,none,none] []=.nx [some S0,some (.int 8),some (.int way),none,none,none,none,none,none,none,none,none] []:=aF (aw (c5 rfl rfl) (hway _))
  have e1:aE (gN 3) (af cV (fC (.int 1)) (af bT (af fN (aa 2) (fC (.int 2))) (aa 1))) [some S0,some (.int 8),some (.int way),none,none,none,none,none,none,none,none,none] []=.nx [some S0,some (.int 8),some (.int way),some (.int n),none,none,none,none,none,none,none,none] []:=by rw [hn];exact aF (ak rfl (ak (ak rfl rfl (gj (by decide) (by decide))) rfl (cK (by decide))) rfl)
  obtain⟨ds,h2,k2,l2,v2,σ2,q2,hh2,g2⟩:=mU (g:=none) (all:=(List.range n).map fun k:Nat=>D.int k) (tg:=gN 0) (xs:=(List.range n).map fun k:Nat=>D.int k) (k:=0)
    (e:=aX (oU (ad (fC (.int 0)) am) (aa 1))) (σ:=[none,some (.int n)]) (h:=[])
    (P:=fun i σ h=>(∃ a,σ = [a,some (.int n)])∧h.length=i ∧ ∀ j,j < i→h[j]? = some (.lst ((List.replicate n 0).map .int))) (V:=fun i d=>d=.ref i) (fun _ _ _ _=>trivial) (by
      rintro i x σ h0 hx ⟨⟨a,rfl⟩,hl,e1⟩
      obtain⟨hi,rfl⟩:=dY hx
      rw [Nat.zero_add] at hl e1 ⊢
      refine⟨_,rfl,.ref h0.length,h0++[.lst ((List.replicate n 0).map .int)],?_,by rw [hl],⟨_,rfl⟩,by simp [hl],fun j hj => ?_⟩
      · rw [List.map_replicate];exact JW n30 rfl
      · by_cases hji:j < i
        · exact cE _ (e1 j hji)
        · have:j=i:=Nat.le_antisymm (Nat.le_of_lt_succ hj) (Nat.not_lt.mp hji)
          subst this
          rw [← hl];exact List.getElem?_concat_length) ⟨⟨_,rfl⟩,rfl,fun j hj=>absurd hj (Nat.not_lt_zero _)⟩
  simp at l2 hh2 g2
  have e2':ds=(List.range n).map fun i=>.ref (0 + i):=sY l2 fun i d hd=>by simpa using v2 i d hd
  subst e2'
  obtain⟨h3,hh3⟩ : ∃ h3,h3=h2++[cX.lst ((List.range n).map fun i=>.ref (0 + i))]:=⟨_,rfl⟩
  have l3:h3.length=n + 1:=by rw [hh3];simp [hh2]
  have e2:aE (gN 4) (aX (bN 1 [3] (bw (aa 3)) (gN 0) [] (aX (oU (ad (fC (.int 0)) am) (aa 1))))) [some S0,some (.int 8),some (.int way),some (.int n),none,none,none,none,none,none,none,none] []=.nx (XM S0 way n none none none none none none none) h3:=by
    rw [hh3]
    show _=Out.nx [some S0,some (.int 8),some (.int way),some (.int n),some (.ref (0 + n)),none,none,none,none,none,none,none] _
    rw [show D.ref (0 + n)=.ref h2.length by rw [hh2,Nat.zero_add]]
    exact aF (dw (eE (cY rfl (jB n30)) k2) (by rw [List.length_map,List.length_range];exact (jB n30)))
  have m3:iO 0 n (fun _ _=>0) h3:=by
    refine⟨fun i hi => ?_,?_⟩
    · rw [hh3,Nat.zero_add,cE _ (g2 i hi)]
      congr 2
      simp only [gH,List.map_map]
      apply List.ext_getElem?
      intro j
      by_cases hj:j < n<;>simp [hj]
    · rw [hh3,Nat.zero_add,← hh2];exact List.getElem?_concat_length
  have O3:MOk (fun _ _=>0):=⟨fun _ _=>rfl,fun _ _=>⟨Int.le_refl _,by decide⟩,fun _=>rfl⟩
  obtain⟨td,q4,tl,tb⟩:=Pf c1 way 803 (n * n) (Nat.le_trans (Nat.mul_le_mul n30 n30) (by decide)) (by decide) (by decide) h3
  obtain⟨h4,hh4⟩ : ∃ h4,h4=h3++[cX.lst (td.map .int)]:=⟨_,rfl⟩
  rw [← hh4,l3] at q4
  have sn:sml (n:Int)=true:=rW (Int.natCast_nonneg n) (Int.lt_of_le_of_lt (Int.ofNat_le.mpr n30) (by decide))
  have e3:aE (gN 5) (ao dm (ad (ao bC (ad (aa 0) (ad (fC (.int 1)) am))) (ad (aa 2) (ad (af cw (aa 3) (aa 3)) (ad (fC (.int 803)) am))))) (XM S0 way n none none none none none none none) h3=.nx (XM S0 way n (some (.ref (n + 1))) none none none none none none) h4:=by
    have q4':dm [.int c1,.int way,.int ((n:Int) * n),.int 803] h3=.ok (.ref (n + 1)) h4:=by rw [← Int.natCast_mul];exact q4
    exact Ph (E:=af cw (aa 3) (aa 3)) (hc1 h3) (Qx (by rw [sn,Bool.or_self]) h3) q4'
  have m4:iO 0 n (fun _ _=>0) h4:=by rw [hh4];exact m3.more _
  have t4:h4[n + 1]? = some (.lst (td.map .int)):=by rw [hh4,← l3];exact List.getElem?_concat_length
  obtain⟨M,h5,x6,x7,x8,q5,O5,m5,l5⟩:=Mr (A:=0) (tk:=n + 1) (way:=way) n30 tl tb (by omega) O3 m4 t4 (S0:=S0) (p1:=.int 8) (L:=n + 2) (by rw [hh4];simp [l3])
  have e4:dI (bw (aa 3)) (gN 6) j8 (XM S0 way n (some (.ref (n + 1))) none none none none none none) h4=.nx (XM S0 way n (some (.ref (n + 1))) x6 x7 x8 none none none) h5:=d8 (cY rfl (jB n30)) q5
  have cs:cx (some (0 + n)) ((List.range n).map fun i=>.ref (0 + i)) (gN 0) [] (sG (lOf (aa 0))) ((List.range n).map fun i=>.ref (0 + i)) [none] h5=.ok (((List.range n).map fun i=>(gH M n i).sum).map D.int) h5:=by
    have:=bM (g:=some (0 + n)) (all:=(List.range n).map fun i=>.ref (0 + i)) (tg:=gN 0) (cs:=[]) (e:=sG (lOf (aa 0))) (h:=h5) (I:=fun σ=>∃ a,σ = [a]) (fun _=>true) (fun d=>match d with | .ref k=>.int (gH M n k).sum|_=>.non) m5.ti (xs:=(List.range n).map fun i=>.ref (0 + i)) (σ:=[none]) (by
      rintro x hx σ ⟨a,rfl⟩
      obtain⟨i,hi,rfl⟩:=List.mem_map.mp hx
      have hi:=List.mem_range.mp hi
      have r:=m5.ro i hi
      simp only [Nat.zero_add] at r ⊢
      refine⟨_,rfl,⟨_,rfl⟩,rfl,fun _ => ?_⟩
      exact Df (d7 rfl (bg r)) (o3 _)) ⟨_,rfl⟩
    rw [this,List.filter_eq_self.mpr (by simp),List.map_map,List.map_map]
    refine congrArg (fun l=>Res.ok l h5) ?_
    apply List.map_congr_left
    intro i _
    simp
  obtain⟨bs0,hbs0⟩ : ∃ bs0,bs0=(List.range n).map fun i=>(gH M n i).sum:=⟨_,rfl⟩
  rw [← hbs0] at cs
  have lb0:bs0.length=n:=by rw [hbs0];simp
  have bb0:∀ x∈bs0,0≤x∧x≤12000:=fun x hx=>by
    rw [hbs0] at hx
    obtain⟨i,_,rfl⟩:=List.mem_map.mp hx
    have:=Nu (gH M n i) fun y hy=>by
      obtain⟨j,_,rfl⟩:=List.mem_map.mp hy
      exact O5.bd i j
    have ll:(gH M n i).length=n:=by simp [gH]
    rw [ll] at this
    exact Rh n30 this
  obtain⟨h6,hh6⟩ : ∃ h6,h6=h5++[cX.lst (bs0.map .int)]:=⟨_,rfl⟩
  have l6:h6.length=n + 3:=by rw [hh6];simp [l5]
  have e5:aE (gN 9) (aX (bN 1 [] (dQ (aa 4)) (gN 0) [] (sG (lOf (aa 0))))) (XM S0 way n (some (.ref (n + 1))) x6 x7 x8 none none none) h5=.nx (XM S0 way n (some (.ref (n + 1))) x6 x7 x8 (some (.ref (n + 2))) none none) h6:=by
    rw [hh6,← l5]
    exact aF (dw (eE (eF rfl m5.ti) cs) (by rw [List.length_map,lb0];exact (jB n30)))
  have m6:iO 0 n M h6:=by rw [hh6];exact m5.more _
  have b6:h6[n + 2]? = some (.lst (bs0.map .int)):=by rw [hh6,← l5];exact List.getElem?_concat_length
  have e6:∃ (bs:List Int) (x6' x10:Option D) (h7:Hd),sIf (tE (af oEq (af bT (af fN (aa 2) (fC (.int 128))) (fC (.int 2))) (fC (.int 1)))) (aC (aE (gN 10) (ao dm (ad (ao bC (ad (aa 0) (ad (fC (.int 2)) am))) (ad (aa 2) (ad (aa 3) (ad (fC (.int 2001)) am))))))
    (dI (bw (aa 3)) (gN 6) iN)) bD (XM S0 way n (some (.ref (n + 1))) x6 x7 x8 (some (.ref (n + 2))) none none) h6=.nx (XM S0 way n (some (.ref (n + 1))) x6' x7 x8 (some (.ref (n + 2))) x10 none) h7∧iO 0 n M h7∧h7[n + 2]? = some (.lst (bs.map .int))∧bs.length=n∧n + 3≤h7.length ∧ ∀ x∈bs,-20000≤x∧x≤20000:=by
    have bt:=Bh (way:=way) (d:=128) (σ:=(XM S0 way n (some (.ref (n + 1))) x6 x7 x8 (some (.ref (n + 2))) none none)) (h:=h6) (i:=2) rfl (by decide) (by decide)
    by_cases e:way / 128 % 2=1
    · rw [decide_eq_true e] at bt
      obtain⟨stp,q7,sl,sb⟩:=Pf c2 way 2001 n (jB n30) (by decide) (by decide) h6
      rw [l6] at q7
      have t1:aE (gN 10) (ao dm (ad (ao bC (ad (aa 0) (ad (fC (.int 2)) am))) (ad (aa 2) (ad (aa 3) (ad (fC (.int 2001)) am))))) (XM S0 way n (some (.ref (n + 1))) x6 x7 x8 (some (.ref (n + 2))) none none) h6=.nx (XM S0 way n (some (.ref (n + 1))) x6 x7 x8 (some (.ref (n + 2))) (some (.ref (n + 3))) none) (h6++[.lst (stp.map .int)]):=by
        exact aF (aw (au (aw (c5 rfl rfl) (hc2 _)) (au rfl (c5 rfl rfl))) q7)
      obtain⟨bs',c',q8,lb',bb'⟩:=JV (A:=0) (lk:=n + 2) (tk:=n + 3) (way:=way) n30 sl (Nat.ne_of_lt (Nat.lt_succ_self _)) (h:=h6++[.lst (stp.map .int)]) lb0 sb bb0 (cE _ b6) (by rw [← l6];exact List.getElem?_concat_length) (S0:=S0) (p1:=.int 8) (q4:=.ref (0 + n)) (q5:=.ref (n + 1)) (a:=x7) (b:=x8) (c:=x6)
      refine⟨bs',c',some (.ref (n + 3)),_,?_,(m6.more [.lst (stp.map .int)]).set (k:=n + 2) (by omega) (.lst (bs'.map .int)),?_,lb',by simp [l6],bb'⟩
      · exact (mj bt).trans ((aI t1).trans (d8 (cY rfl (jB n30)) q8))
      · rw [List.getElem?_set_self (by simp [l6])]
    · rw [decide_eq_false e] at bt
      exact⟨bs0,x6,none,h6,by rw [Mp bt];rfl,m6,b6,lb0,Nat.le_of_eq l6.symm,fun x hx=>lv3 (bb0 x hx)⟩
  obtain⟨bs,x6',x10,h7,e6,m7,b7,lb7,l7,bb7⟩:=e6
  obtain⟨h8,hh8⟩ : ∃ h8,h8=h7++[cX.lst ((List.replicate n (none:Option Int)).map aZ)]:=⟨_,rfl⟩
  have e7:aE (gN 11) (aX (oU (ad (fC .non) am) (aa 3))) (XM S0 way n (some (.ref (n + 1))) x6' x7 x8 (some (.ref (n + 2))) x10 none) h7=.nx (XM S0 way n (some (.ref (n + 1))) x6' x7 x8 (some (.ref (n + 2))) x10 (some (.ref h7.length))) h8:=by
    rw [hh8,List.map_replicate]
    exact aF (JW n30 rfl)
  have m8:iO 0 n M h8:=by rw [hh8];exact m7.more _
  have b8:h8[n + 2]? = some (.lst (bs.map .int)):=by rw [hh8];exact cE _ b7
  have s8:h8[h7.length]? = some (.lst ((List.replicate n (none:Option Int)).map aZ)):=by rw [hh8];simp
  have e8:∃ (ss:List (Option Int)) (x5:D) (sk:Nat) (h9:Hd),sIf (tE (af oEq (af bT (af fN (aa 2) (fC (.int 512))) (fC (.int 2))) (fC (.int 1)))) (aC (aE (gN 5) (ao dm (ad (ao bC (ad (aa 0) (ad (fC (.int 3)) am))) (ad (aa 2) (ad (aa 3) (ad (fC (.int 7)) am))))))
    (aE (gN 11) (aX (bN 1 [] (dQ (aa 5)) (gN 0) [] (fIx (ad (fC (.int 0)) (ad (fC (.int 1)) (ad (fC .non) (ad (fC .non) (ad (fC .non) (ad (fC .non) (ad (fC .non) am))))))) (aa 0)))))) bD (XM S0 way n (some (.ref (n + 1))) x6' x7 x8 (some (.ref (n + 2))) x10 (some (.ref h7.length))) h8=.nx (XM S0 way n (some x5) x6' x7 x8 (some (.ref (n + 2))) x10 (some (.ref sk))) h9∧iO 0 n M h9∧h9[n + 2]? = some (.lst (bs.map .int))∧h9[sk]? = some (.lst (ss.map aZ))∧ss.length=n ∧ ∀ x∈ss,x=none∨x=some 0∨x=some 1:=by
    have bt:=Bh (way:=way) (d:=512) (σ:=(XM S0 way n (some (.ref (n + 1))) x6' x7 x8 (some (.ref (n + 2))) x10 (some (.ref h7.length)))) (h:=h8) (i:=2) rfl (by decide) (by decide)
    by_cases e:way / 512 % 2=1
    · rw [decide_eq_true e] at bt
      obtain⟨tl3,q9,sl,sb⟩:=Pf c3 way 7 n (jB n30) (by decide) (by decide) h8
      obtain⟨hA,hhA⟩ : ∃ hA,hA=h8++[cX.lst (tl3.map .int)]:=⟨_,rfl⟩
      rw [← hhA] at q9
      have g9:hA[h8.length]? = some (.lst (tl3.map .int)):=by rw [hhA];simp
      obtain⟨ss,cq,lss,oss⟩:=GE sb g9 none
      have t1:aE (gN 5) (ao dm (ad (ao bC (ad (aa 0) (ad (fC (.int 3)) am))) (ad (aa 2) (ad (aa 3) (ad (fC (.int 7)) am))))) (XM S0 way n (some (.ref (n + 1))) x6' x7 x8 (some (.ref (n + 2))) x10 (some (.ref h7.length))) h8=.nx (XM S0 way n (some (.ref h8.length)) x6' x7 x8 (some (.ref (n + 2))) x10 (some (.ref h7.length))) hA:=by
        exact aF (aw (au (aw (c5 rfl rfl) (hc3 _)) (au rfl (c5 rfl rfl))) q9)
      have t2:aE (gN 11) (aX (bN 1 [] (dQ (aa 5)) (gN 0) [] (fIx (ad (fC (.int 0)) (ad (fC (.int 1)) (ad (fC .non) (ad (fC .non) (ad (fC .non) (ad (fC .non) (ad (fC .non) am))))))) (aa 0)))) (XM S0 way n (some (.ref h8.length)) x6' x7 x8 (some (.ref (n + 2))) x10 (some (.ref h7.length))) hA=.nx (XM S0 way n (some (.ref h8.length)) x6' x7 x8 (some (.ref (n + 2))) x10 (some (.ref hA.length))) (hA++[.lst (ss.map aZ)]):=by
        exact aF (dw (eE (eF rfl g9) cq) (by rw [List.length_map,lss,sl];exact (jB n30)))
      refine⟨ss,.ref h8.length,hA.length,hA++[.lst (ss.map aZ)],?_,by rw [hhA];exact (m8.more _).more _,?_,by simp,lss.trans sl,oss⟩
      · exact (mj bt).trans ((aI t1).trans t2)
      · exact cE _ (by rw [hhA];exact cE _ b8)
    · rw [decide_eq_false e] at bt
      exact⟨List.replicate n none,.ref (n + 1),h7.length,h8,by rw [Mp bt];rfl,m8,b8,s8,by simp,fun x hx=>.inl (List.eq_of_mem_replicate hx)⟩
  obtain⟨ss,x5,sk,h9,e8,m9,b9,s9,ls9,os9⟩:=e8
  have e9:bc (fj (ad (aa 4) (ad (aa 9) (ad (aa 11) am)))) (XM S0 way n (some x5) x6' x7 x8 (some (.ref (n + 2))) x10 (some (.ref sk))) h9=.rt (.tup [.ref (0 + n),.ref (n + 2),.ref sk]) h9:=bo (gS (au rfl (c5 rfl rfl)))
  refine⟨n,M,bs,ss,n + 2,sk,h9,?_,n1,n30,n7,m9,O5,b9,s9,lb7,ls9,os9,bb7⟩
  have st:([S0,D.int 8].map some++List.replicate (12 - [S0,D.int 8].length) none:Sd)=[some S0,some (.int 8),none,none,none,none,none,none,none,none,none,none]:=rfl
  rw [← hS0]
  unfold io bE runB
  rw [if_pos (by rfl),st,aI e0,aI e1,aI e2,aI e3,aI e4,aI e5,aI e6,aI e7,aI e8,e9]
  exact xf rfl
end Fm
set_option linter.all false
namespace Fm
def ml (one other i j:Nat):Prop:=(i < one∧j < one)∨(i=one∧j < other)∨(j=one∧i < other)
instance (one other i j:Nat):Decidable (ml one other i j):=by unfold ml;infer_instance
def hZ (M:Nat→Nat→Int) (s:List Int) (one other i j:Nat):Int:=if ml one other i j∧s.getD j 0=1 then M i j else 0
structure LP (n:Nat) (M:Nat→Nat→Int) (one other:Nat) (T:List Tie):Prop where
  ok:TOk n one other T
  pl:∀ i,i < n → ∀ s,bS (nbs T i) s=kR (hZ M s one other i) n
theorem pa1 (a b c:Int):a + (b + c)=a + b + c:=(Int.add_assoc a b c).symm
theorem Du (r r':List (Nat × Int))(s:List Int):bS (r++r') s=bS r s + bS r' s:=by
  induction r with
  | nil=>simp [bS,ii]
  | cons p r ih=>rw [List.cons_append,fz,fz,ih];exact pa1 _ _ _
theorem sr1 (S x y:Int):S + 0 + x=S + y + (x - y):=by omega
theorem yv {f g:Nat→Int}{p:Nat}(h:∀ j,j≠p→f j=g j):∀ n,kR f n=kR g n + if p < n then f p - g p else 0
  | 0=>by simp [kR]
  | n + 1=>by
    rw [kR,kR,yv h n]
    by_cases e:n=p
    · subst e
      rw [if_neg (Nat.lt_irrefl _),if_pos (Nat.lt_succ_self _)];exact sr1 _ _ _
    · rw [h n e]
      by_cases l:p < n
      · rw [if_pos l,if_pos (Nat.lt_succ_of_lt l)];exact Int.add_right_comm _ _ _
      · rw [if_neg l,if_neg fun z=>(Nat.lt_succ_iff_lt_or_eq.mp z).elim l fun z=>e z.symm,Int.add_zero,Int.add_zero]
theorem j9 {f g:Nat→Int}:∀ n,(∀ j,j < n→f j=g j)→kR f n=kR g n
  | 0,_=>rfl
  | n + 1,h=>by rw [kR,kR,j9 n fun j hj=>h j (by omega),h n (by omega)]
theorem GG {one other i j:Nat}:ml one (other + 1) i j ↔ ml one other i j∨(i=one∧j=other)∨(j=one∧i=other):=by
  constructor
  · rintro (h|⟨a,b⟩|⟨a,b⟩)
    · exact .inl (.inl h)
    · exact (Nat.lt_succ_iff_lt_or_eq.mp b).elim (fun b=>.inl (.inr (.inl ⟨a,b⟩))) fun b=>.inr (.inl ⟨a,b⟩)
    · exact (Nat.lt_succ_iff_lt_or_eq.mp b).elim (fun b=>.inl (.inr (.inr ⟨a,b⟩))) fun b=>.inr (.inr ⟨a,b⟩)
  · rintro ((h|⟨a,b⟩|⟨a,b⟩)|⟨a,b⟩|⟨a,b⟩)
    · exact .inl h
    · exact .inr (.inl ⟨a,Nat.lt_succ_of_lt b⟩)
    · exact .inr (.inr ⟨a,Nat.lt_succ_of_lt b⟩)
    · exact .inr (.inl ⟨a,b ▸ Nat.lt_succ_self _⟩)
    · exact .inr (.inr ⟨a,b ▸ Nat.lt_succ_self _⟩)
theorem pe {one other i j:Nat}(h1 : ¬ (i=one∧j=other))(h2 : ¬ (j=one∧i=other)):ml one (other + 1) i j ↔ ml one other i j :=
  GG.trans ⟨fun z=>z.elim id fun z=>z.elim (fun z=>absurd z h1) fun z=>absurd z h2,.inl⟩
theorem FD {one other:Nat}(ho:other < one) : ¬ ml one other one other ∧ ¬ ml one other other one:=by
  refine⟨?_,?_⟩
  · rintro (h|h|h)
    · exact Nat.lt_irrefl _ h.1
    · exact Nat.lt_irrefl _ h.2
    · exact Nat.lt_irrefl _ (h.1 ▸ ho)
  · rintro (h|h|h)
    · exact Nat.lt_irrefl _ h.2
    · exact Nat.lt_irrefl _ (h.1 ▸ ho)
    · exact Nat.lt_irrefl _ h.2
theorem GH {one i j:Nat}(e : ¬ (i=one∧j=one)):ml one one i j ↔ ml (one + 1) 0 i j:=by
  constructor
  · rintro (h|h|h)
    · exact .inl ⟨Nat.lt_succ_of_lt h.1,Nat.lt_succ_of_lt h.2⟩
    · exact .inl ⟨h.1 ▸ Nat.lt_succ_self _,Nat.lt_succ_of_lt h.2⟩
    · exact .inl ⟨Nat.lt_succ_of_lt h.2,h.1 ▸ Nat.lt_succ_self _⟩
  · rintro (⟨a,b⟩|h|h)
    · rcases Nat.lt_succ_iff_lt_or_eq.mp a with a|a<;>rcases Nat.lt_succ_iff_lt_or_eq.mp b with b|b
      · exact .inl ⟨a,b⟩
      · exact .inr (.inr ⟨b,a⟩)
      · exact .inr (.inl ⟨a,b⟩)
      · exact absurd ⟨a,b⟩ e
    · exact absurd h.2 (Nat.not_lt_zero _)
    · exact absurd h.2 (Nat.not_lt_zero _)
theorem xq {n:Nat}{M:Nat→Nat→Int}(O:MOk M){one other:Nat}(ho:other < one)(hn:one < n)(i:Nat)(s:List Int) :
    kR (hZ M s one (other + 1) i) n=kR (hZ M s one other i) n + (if i=one then (if s.getD other 0=1 then M one other else 0) else if i=other then (if s.getD one 0=1 then M one other else 0) else 0):=by
  by_cases e1:i=one
  · subst e1
    rw [if_pos rfl,yv (p:=other) (g:=hZ M s i other i) (fun j hj => ?_),if_pos (Nat.lt_trans ho hn)]
    · have p1:ml i (other + 1) i other:=.inr (.inl ⟨rfl,Nat.lt_succ_self _⟩)
      have p2:=(FD ho).1
      simp only [hZ,p1,p2,true_and,false_and,if_false,Int.sub_zero]
    · have:=pe (one:=i) (i:=i) (fun z=>hj z.2) fun z=>Nat.ne_of_gt ho z.2
      simp only [hZ,this]
  · rw [if_neg e1]
    by_cases e2:i=other
    · subst e2
      rw [if_pos rfl,yv (p:=one) (g:=hZ M s one i i) (fun j hj => ?_),if_pos hn]
      · have p1:ml one (i + 1) i one:=.inr (.inr ⟨rfl,Nat.lt_succ_self _⟩)
        have p2:=(FD ho).2
        simp only [hZ,p1,p2,true_and,false_and,if_false,O.sym i one,Int.sub_zero]
      · have:=pe (i:=i) (other:=i) (fun z=>e1 z.1) fun z=>hj z.1
        simp only [hZ,this]
    · rw [if_neg e2,j9 n (g:=hZ M s one other i) fun j _ => ?_]
      · exact (Int.add_zero _).symm
      · have:=pe (i:=i) (j:=j) (fun z=>e1 z.1) fun z=>e2 z.2
        simp only [hZ,this]
theorem LP.skip {n:Nat}{M:Nat→Nat→Int}(O:MOk M){one other:Nat}{T:List Tie}(L:LP n M one other T)(ho:other < one)(hn:one < n)(z:M one other=0):LP n M one (other + 1) T :=
  ⟨L.ok.skip,fun i hi s=>by
    rw [L.pl i hi s,xq O ho hn i s,z]
    split<;>(try split)<;>(try split)<;>omega⟩
theorem LP.put {n:Nat}{M:Nat→Nat→Int}(O:MOk M){one other:Nat}{T:List Tie}(L:LP n M one other T)(ho:other < one)(hn:one < n)(z:0 < M one other):LP n M one (other + 1) (T++[⟨other,one,M one other⟩]):=by
  have b:=O.bd one other
  refine⟨?_,fun i hi s => ?_⟩
  · have:=L.ok.put hn ho (w:=M one other) z b.2 (t:=⟨other,one,M one other⟩) (.inr rfl) T.length
    simpa using this
  · rw [A7,Du,L.pl i hi s,xq O ho hn i s]
    congr 1
    by_cases e1:i=one
    · have f:far i ⟨other,one,M one other⟩ = some other:=by
        unfold far;rw [if_neg (fun z:other=i=>Nat.ne_of_lt ho (z.trans e1)),if_pos e1.symm]
      rw [f,if_pos e1]
      simp only
      rw [fz]
      simp [bS,ii]
    · rw [if_neg e1]
      by_cases e2:i=other
      · have f:far i ⟨other,one,M one other⟩ = some one:=by unfold far;rw [if_pos e2.symm]
        rw [f,if_pos e2]
        simp only
        rw [fz]
        simp [bS,ii]
      · have f:far i ⟨other,one,M one other⟩ = none:=by
          unfold far;rw [if_neg (fun z:other=i=>e2 z.symm),if_neg (fun z:one=i=>e1 z.symm)]
        rw [f,if_neg e2]
        simp [bS,ii]
theorem LP.step {n:Nat}{M:Nat→Nat→Int}(O:MOk M){one:Nat}{T:List Tie}(L:LP n M one one T)(h:one < n)(hn:n≤30):LP n M (one + 1) 0 T :=
  ⟨L.ok.step h hn,fun i hi s=>by
    rw [L.pl i hi s]
    refine j9 n fun j _ => ?_
    unfold hZ
    by_cases e:i=one∧j=one
    · rw [e.1,e.2,O.no one];split<;>split<;>rfl
    · have:=GH e
      simp only [this]⟩
structure Md (Z n:Nat) (M:Nat→Nat→Int) (bs:List Int) (ss:List (Option Int)) (bk sk:Nat) (h:Hd):Prop where
  n1:1≤n
  n30:n≤30
  mt:iO Z n M h
  mo:MOk M
  ba:h[bk]? = some (.lst (bs.map .int))
  st:h[sk]? = some (.lst (ss.map aZ))
  lb:bs.length=n
  ls:ss.length=n
  os:∀ x∈ss,x=none∨x=some 0∨x=some 1
theorem Md.more {Z n:Nat}{M:Nat→Nat→Int}{bs:List Int}{ss:List (Option Int)}{bk sk:Nat}{h:Hd}(m:Md Z n M bs ss bk sk h)(g:Hd):Md Z n M bs ss bk sk (h++g):=by
  have k:∀ {i:Nat} {x:cX},h[i]? = some x→(h++g)[i]? = some x:=fun {i x} e=>by
    rw [List.getElem?_append_left (List.getElem?_eq_some_iff.mp e).1];exact e
  exact⟨m.n1,m.n30,m.mt.more g,m.mo,k m.ba,k m.st,m.lb,m.ls,m.os⟩
theorem JY {Z n:Nat}{M:Nat→Nat→Int}{bs:List Int}{ss:List (Option Int)}{bk sk:Nat}{h:Hd}(m:Md Z n M bs ss bk sk h) :
    ∃ T,fA [.tup [.ref (Z + n),.ref bk,.ref sk]] h=.ok (.ref h.length) (h++[.lst (T.map cT)])∧LP n M n 0 T:=by
  have n30:=m.n30
  obtain⟨td,htd⟩ : ∃ td:D,td=.tup [.ref (Z + n),.ref bk,.ref sk]:=⟨_,rfl⟩
  obtain⟨A,hA⟩ : ∃ A,A=h.length:=⟨_,rfl⟩
  have t0:∀ g,fAt (aa 0) (fC (.int 0)) (some td :: g)=fun h=>.ok (.ref (Z + n)) h:=fun g=>by
    funext h;rw [htd]
    exact bh rfl rfl rfl rfl
  obtain⟨σ',h',k1,T,a,b,k2,k3,k4⟩:=ce (P:=fun i σ h'=>∃ (T:List Tie) (a b:Option D),σ = [some td,some (.ref A),a,b]∧h'=h++[.lst (T.map cT)]∧LP n M i 0 T) (g:=none) (k:=0)
      (all:=(List.range n).map fun k:Nat=>D.int k) (fun _ _ _ _=>trivial)
      (xs:=(List.range n).map fun k:Nat=>D.int k) (tg:=gN 2) (σ:=[some td,some (.ref A),none,none]) (h:=h++[.lst []]) (b:=mZ) (by
      rintro i x σ h0 hx ⟨T,a,b,rfl,hh0,L⟩
      obtain⟨hi,rfl⟩:=dY hx
      rw [Nat.zero_add] at L ⊢
      obtain⟨σ2,h2,j1,T2,b2,j2,j3,j4⟩:=ce (P:=fun j σ h'=>∃ (T:List Tie) (b:Option D),σ = [some td,some (.ref A),some (.int i),b]∧h'=h++[.lst (T.map cT)]∧LP n M i j T) (g:=none) (k:=0)
          (all:=(List.range i).map fun k:Nat=>D.int k) (fun _ _ _ _=>trivial)
          (xs:=(List.range i).map fun k:Nat=>D.int k) (tg:=gN 3) (σ:=[some td,some (.ref A),some (.int i),b]) (h:=h0) (b:=tF) (by
          rintro j x σ h1 hx ⟨T1,b1,rfl,hh1,L1⟩
          obtain⟨hj,rfl⟩:=dY hx
          rw [Nat.zero_add] at L1 ⊢
          have m1:Md Z n M bs ss bk sk h1:=by rw [hh1];exact m.more _
          have a1:=FA (A:=Z) hi
          have r1:=m1.mt.ro i hi
          have v1:=JU (M:=M) (n:=n) (i:=i) (j:=j) (Nat.lt_trans hj hi)
          have ti1:=m1.mt.ti
          have cellE:fAt (fAt (fAt (aa 0) (fC (.int 0))) (aa 2)) (aa 3) [some td,some (.ref A),some (.int i),some (.int j)] h1=.ok (.int (M i j)) h1:=by
            have e0:=congrFun (t0 [some (.ref A),some (.int i),some (.int j)]) h1
            exact bh (bh e0 rfl (bg ti1) a1) rfl (bg r1) v1
          have gA:h1[A]? = some (.lst (T1.map cT)):=by rw [hh1];exact eG hA _
          have tz:(T1.map cT).length < SZ:=by rw [List.length_map];exact Nat.lt_trans (few L1.ok.len hi n30 hj) (by decide)
          have tt:tE (af oGt (fAt (fAt (fAt (aa 0) (fC (.int 0))) (aa 2)) (aa 3)) (fC (.int 0))) [some td,some (.ref A),some (.int i),some (.int j)] h1=.ok (decide (0 < M i j)) h1:=by
            exact bB (ak cellE rfl rfl)
          by_cases c:0 < M i j
          · refine⟨_,rfl,[some td,some (.ref A),some (.int i),some (.int j)],h++[.lst ((T1++[(⟨j,i,M i j⟩ : Tie)]).map cT)],?_,T1++[(⟨j,i,M i j⟩ : Tie)],_,rfl,rfl,L1.put m.mo hj hi c⟩
            rw [decide_eq_true c] at tt
            show sIf _ _ _ [some td,some (.ref A),some (.int i),some (.int j)] h1=_
            rw [Qw tt]
            have st:h1.set A (.lst (T1.map cT++[.tup [.int j,.int i,.int (M i j)]]))=h++[.lst ((T1++[(⟨j,i,M i j⟩ : Tie)]).map cT)]:=by rw [hh1,i6 hA,List.map_append];rfl
            rw [← st]
            exact eX (jn rfl gA (gS (au rfl (au rfl (au cellE rfl)))) gA tz)
          · have z:M i j=0:=Int.le_antisymm (Int.not_lt.mp c) (m.mo.bd i j).1
            refine⟨_,rfl,[some td,some (.ref A),some (.int i),some (.int j)],h1,?_,T1,_,rfl,hh1,L1.skip m.mo hj hi z⟩
            rw [decide_eq_false c] at tt
            show sIf _ _ _ [some td,some (.ref A),some (.int i),some (.int j)] h1=_
            rw [Mp tt];rfl) ⟨T,b,rfl,hh0,L⟩
      have e0:0 + ((List.range i).map fun k:Nat=>D.int k).length=i:=by simp
      rw [e0] at j4
      refine⟨_,rfl,[some td,some (.ref A),some (.int i),b2],h2,?_,T2,_,_,rfl,j3,j4.step m.mo hi n30⟩
      show dI _ _ _ [some td,some (.ref A),some (.int i),b] h0=_
      exact (d8 (cY rfl (Nat.le_trans (Nat.le_of_lt hi) (jB n30))) j1).trans (by rw [j2])) ⟨[],none,none,rfl,rfl,⟨⟨by simp,by simp,by simp,by simp,List.Pairwise.nil,by simp⟩,fun i hi s=>by
        have:∀ k,kR (hZ M s 0 0 i) k=0:=fun k=>by
          induction k with
          | zero=>rfl
          | succ k ih =>
            rw [kR,ih]
            have : ¬ ml 0 0 i k:=by unfold ml;omega
            simp [hZ,this]
        rw [this];rfl⟩⟩
  have e0:0 + ((List.range n).map fun k:Nat=>D.int k).length=n:=by simp
  rw [e0] at k4
  refine⟨T,?_,k4⟩
  have s1:aE (gN 1) (aX am) [some td,none,none,none] h=.nx [some td,some (.ref A),none,none] (h++[.lst []]):=aF (fX hA rfl (Nat.zero_le _))
  have b1:=(m.more [.lst []]).ba
  have ln:el (lOf (fAt (aa 0) (fC (.int 1)))) [some td,some (.ref A),none,none] (h++[.lst []])=.ok (.int n) (h++[.lst []]):=by
    rw [htd]
    exact (iJ (d7 (bh rfl rfl rfl rfl) (bg b1))).trans (by rw [List.length_map,m.lb])
  have s2:dI (bw (el (lOf (fAt (aa 0) (fC (.int 1)))))) (gN 2) mZ [some td,some (.ref A),none,none] (h++[.lst []])=.nx [some td,some (.ref A),a,b] (h++[.lst (T.map cT)]):=by
    rw [k2,k3] at k1
    exact d8 (cY ln (jB n30)) k1
  have s3:bc (aa 1) [some td,some (.ref A),a,b] (h++[.lst (T.map cT)])=.rt (.ref A) (h++[.lst (T.map cT)]):=bo rfl
  have st:([td].map some++List.replicate (4 - [td].length) none:Sd)=[some td,none,none,none]:=rfl
  rw [← htd]
  unfold fA bE runB
  rw [if_pos (by rfl),st,aI s1,aI s2,s3,← hA]
  exact bG
end Fm
set_option linter.all false
namespace Fm
section
variable {Z n:Nat} {M:Nat→Nat→Int} {bs:List Int} {ss:List (Option Int)} {bk sk:Nat} {h:Hd}
noncomputable abbrev XT (td:D) (s:List Int) (Z n bk sk:Nat) (a5 a6 a7 a8:Option D):Sd:=[some td,some (ah s),some (.ref (Z + n)),some (.ref bk),some (.ref sk),a5,a6,a7,a8]
theorem JZ {T:List Tie}(L:LP n M n 0 T){s:List Int}(B:u0 s){i:Nat}(hi:i < n):kR (fun j=>M i j * s.getD j 0) n=bS (nbs T i) s:=by
  rw [L.pl i hi s]
  refine j9 n fun j hj => ?_
  have p:ml n 0 i j:=.inl ⟨hi,hj⟩
  rcases B j with e|e
  · simp only [hZ,e];simp
  · simp only [hZ,p,e];simp
theorem Ri {x y:Int}(e:y=0∨y=1)(h:Hd):cw (.int x) (.int y) h=.ok (.int (x * y)) h:=GD (by rw [Mh e,Bool.or_true]) h
theorem Dv (m:Md Z n M bs ss bk sk h){s:List Int}(ls:s.length=n)(B:u0 s){i:Nat}(hi:i < n)(a:Option D) :
    cx none ((List.range n).map fun k:Nat=>D.int k) (gN 0) [] (af cw (fAt (fAt (aa 2) (aa 3)) (aa 0)) (fAt (aa 1) (aa 0))) ((List.range n).map fun k:Nat=>D.int k) [a,some (ah s),some (.ref (Z + n)),some (.int i)] h=.ok (((List.range n).map fun j=>M i j * s.getD j 0).map .int) h:=by
  have:=bM (g:=none) (all:=(List.range n).map fun k:Nat=>D.int k) (tg:=gN 0) (cs:=[]) (e:=af cw (fAt (fAt (aa 2) (aa 3)) (aa 0)) (fAt (aa 1) (aa 0))) (h:=h) (I:=fun σ=>∃ a,σ = [a,some (ah s),some (.ref (Z + n)),some (.int i)]) (fun _=>true) (fun d=>match d with | .int j=>.int (M i j.toNat * s.getD j.toNat 0)|_=>.non) trivial
    (xs:=(List.range n).map fun k:Nat=>D.int k) (σ:=[a,some (ah s),some (.ref (Z + n)),some (.int i)]) (by
      rintro x hx σ ⟨c,rfl⟩
      obtain⟨j,hj,rfl⟩:=List.mem_map.mp hx
      have hj:=List.mem_range.mp hj
      refine⟨_,rfl,⟨_,rfl⟩,rfl,fun _ => ?_⟩
      have a1:=FA (A:=Z) hi
      have r1:=m.mt.ro i hi
      have v1:=JU (M:=M) (n:=n) (i:=i) hj
      have ti1:=m.mt.ti
      have v2:=rV (l:=s) (i:=j) (ls ▸ hj)
      have e1:fAt (fAt (aa 2) (aa 3)) (aa 0) [some (.int (j:Nat)),some (ah s),some (.ref (Z + n)),some (.int i)] h=.ok (.int (M i j)) h:=by
        exact bh (bh rfl rfl (bg ti1) a1) rfl (bg r1) v1
      have e2:fAt (aa 1) (aa 0) [some (.int (j:Nat)),some (ah s),some (.ref (Z + n)),some (.int i)] h=.ok (.int (s.getD j 0)) h:=by
        exact bh rfl rfl rfl v2
      show af cw (fAt (fAt (aa 2) (aa 3)) (aa 0)) (fAt (aa 1) (aa 0)) [some (.int (j:Nat)),some (ah s),some (.ref (Z + n)),some (.int i)] h=_
      exact ak e1 e2 (Ri (B j) h)) ⟨_,rfl⟩
  rw [this,List.filter_eq_self.mpr (by simp),List.map_map,List.map_map]
  rfl
theorem Pj (m:Md Z n M bs ss bk sk h){T:List Tie}(L:LP n M n 0 T){s:List Int}(ls:s.length=n)(B:u0 s) :
    dz [.tup [.ref (Z + n),.ref bk,.ref sk],ah s] h=.ok (ah (aS (fy n T bs ss) n s)) h:=by
  have n30:=m.n30
  obtain⟨w,hw⟩ : ∃ w,w=fy n T bs ss:=⟨_,rfl⟩
  obtain⟨td,htd⟩ : ∃ td:D,td=.tup [.ref (Z + n),.ref bk,.ref sk]:=⟨_,rfl⟩
  obtain⟨A,hA⟩ : ∃ A,A=h.length:=⟨_,rfl⟩
  obtain⟨σ',h',k1,x6,x7,x8,k2,k3⟩:=ce (P:=fun i σ h'=>∃ (a b c:Option D),σ = (XT td s Z n bk sk (some (.ref A)) a b c)∧h'=h++[.lst (((List.range i).map (cP w s)).map .int)]) (g:=none) (k:=0)
      (all:=(List.range n).map fun k:Nat=>D.int k) (fun _ _ _ _=>trivial)
      (xs:=(List.range n).map fun k:Nat=>D.int k) (tg:=gN 6) (σ:=(XT td s Z n bk sk (some (.ref A)) none none none)) (h:=h++[.lst []]) (b:=pc) (by
      rintro i x σ h0 hx ⟨a,b,c,rfl,hh0⟩
      obtain⟨hi,rfl⟩:=dY hx
      rw [Nat.zero_add] at hh0 ⊢
      have m0:Md Z n M bs ss bk sk h0:=by rw [hh0];exact m.more _
      have fc:=Dv m0 ls B hi none
      have v2:=rV (l:=s) (i:=i) (ls ▸ hi)
      have l3:i < ss.length:=by rw [m.ls];exact hi
      have v3:=rV (l:=bs) (i:=i) (m.lb ▸ hi)
      have v4:atI (ss.map aZ) (i:Int)=some (aZ (ss.getD i none)):=by rw [j5 l3];simp [List.getD,l3]
      have ba:=m0.ba
      have st:=m0.st
      have nx:=Dq (T:=T) (bs:=bs) (ss:=ss) (s:=s) hi
      rw [← hw] at nx
      obtain⟨P,hP⟩ : ∃ P,P=bS (nbs T i) s:=⟨_,rfl⟩
      have fe:=JZ L B hi
      rw [← hP] at fe nx
      have sm:fO (((List.range n).map fun j=>M i j * s.getD j 0).map .int)=some ((List.range n).map fun j=>M i j * s.getD j 0):=o3 _
      have su:((List.range n).map fun j=>M i j * s.getD j 0).sum=P:=by rw [GA];exact fe
      generalize (List.range n).map (fun j=>M i j * s.getD j 0)=FL at fc sm su
      have s1:aE (gN 7) (af cw (fC (.int 2)) (sG (bN 1 [1,2,6] (bw (el (lOf (aa 3)))) (gN 0) [] (af cw (fAt (fAt (aa 2) (aa 3)) (aa 0)) (fAt (aa 1) (aa 0)))))) (XT td s Z n bk sk (some (.ref A)) (some (.int i)) b c) h0=.nx (XT td s Z n bk sk (some (.ref A)) (some (.int i)) (some (.int (2 * P))) c) h0:=by
        have ss2:sG (bN 1 [1,2,6] (bw (el (lOf (aa 3)))) (gN 0) [] (af cw (fAt (fAt (aa 2) (aa 3)) (aa 0)) (fAt (aa 1) (aa 0)))) (XT td s Z n bk sk (some (.ref A)) (some (.int i)) b c) h0=.ok (.int P) h0:=by
          rw [← su]
          have ln:=iJ (d7 (a:=aa 3) (σ:=(XT td s Z n bk sk (some (.ref A)) (some (.int i)) b c)) rfl (bg ba))
          rw [List.length_map,m.lb] at ln
          exact Df (eE (cY ln (jB n30)) fc) sm
        exact aF (ak rfl ss2 (ma (by decide)))
      generalize ss.getD i none=u at v4 nx
      generalize bs.getD i 0=bb at v3 nx
      generalize s.getD i 0=x at v2 nx
      generalize 2 * P=F at s1 nx
      obtain⟨y1,hy1⟩ : ∃ y1:Int,y1=if bb < F then 1 else x:=⟨_,rfl⟩
      obtain⟨y2,hy2⟩ : ∃ y2:Int,y2=if F < bb then 0 else y1:=⟨_,rfl⟩
      obtain⟨y3,hy3⟩ : ∃ y3:Int,y3=u.getD y2:=⟨_,rfl⟩
      have ny:cP w s i=y3:=by
        rw [nx,hy3]
        cases u with
        | some z=>rfl
        | none =>
          simp only [Option.getD_none]
          rw [hy2,hy1]
          split<;>split<;>(try split)<;>omega
      have s2:aE (gN 8) (fAt (aa 1) (aa 6)) (XT td s Z n bk sk (some (.ref A)) (some (.int i)) (some (.int F)) c) h0=.nx (XT td s Z n bk sk (some (.ref A)) (some (.int i)) (some (.int F)) (some (.int x))) h0:=aF (bh rfl rfl rfl v2)
      have s3:sIf (tE (af oGt (aa 7) (fAt (aa 3) (aa 6)))) (aE (gN 8) (fC (.int 1))) bD (XT td s Z n bk sk (some (.ref A)) (some (.int i)) (some (.int F)) (some (.int x))) h0=.nx (XT td s Z n bk sk (some (.ref A)) (some (.int i)) (some (.int F)) (some (.int y1))) h0:=by
        rw [hy1]
        by_cases e:bb < F
        · rw [if_pos e];exact (mj (bB (ak rfl (bh rfl rfl (bg ba) v3) (Dg e)))).trans (aF rfl)
        · rw [if_neg e];exact fW (bB (ak rfl (bh rfl rfl (bg ba) v3) (yr e)))
      have s4:sIf (tE (af oLt (aa 7) (fAt (aa 3) (aa 6)))) (aE (gN 8) (fC (.int 0))) bD (XT td s Z n bk sk (some (.ref A)) (some (.int i)) (some (.int F)) (some (.int y1))) h0=.nx (XT td s Z n bk sk (some (.ref A)) (some (.int i)) (some (.int F)) (some (.int y2))) h0:=by
        rw [hy2]
        by_cases e:F < bb
        · rw [if_pos e];exact (mj (bB (ak rfl (bh rfl rfl (bg ba) v3) (O0 e)))).trans (aF rfl)
        · rw [if_neg e];exact fW (bB (ak rfl (bh rfl rfl (bg ba) v3) (OZ e)))
      have s5:sIf (tE (af jW (fAt (aa 4) (aa 6)) (fC .non))) (aE (gN 8) (fAt (aa 4) (aa 6))) bD (XT td s Z n bk sk (some (.ref A)) (some (.int i)) (some (.int F)) (some (.int y2))) h0=.nx (XT td s Z n bk sk (some (.ref A)) (some (.int i)) (some (.int F)) (some (.int y3))) h0:=by
        rw [hy3]
        cases u with
        | none=>exact fW (bB (ak (bh rfl rfl (bg st) v4) rfl rfl))
        | some z=>exact (mj (bB (ak (bh rfl rfl (bg st) v4) rfl rfl))).trans (aF (bh rfl rfl (bg st) v4))
      have gA:h0[A]? = some (.lst (((List.range i).map (cP w s)).map .int)):=by rw [hh0];exact eG hA _
      have lz:(((List.range i).map (cP w s)).map D.int).length < SZ:=by rw [List.length_map,List.length_map,List.length_range];exact Nat.lt_trans hi (Nat.lt_of_le_of_lt n30 (by decide))
      have st6:h0.set A (.lst (((List.range i).map (cP w s)).map .int++[.int y3]))=h++[.lst (((List.range (i + 1)).map (cP w s)).map .int)]:=by
        rw [hh0,i6 hA,List.range_succ,← ny,List.map_append,List.map_append];rfl
      have s6:eV (jf (aa 5) (aa 8)) (XT td s Z n bk sk (some (.ref A)) (some (.int i)) (some (.int F)) (some (.int y3))) h0=.nx (XT td s Z n bk sk (some (.ref A)) (some (.int i)) (some (.int F)) (some (.int y3))) (h++[.lst (((List.range (i + 1)).map (cP w s)).map .int)]):=by
        rw [← st6]
        exact eX (jn rfl gA rfl gA lz)
      refine⟨_,rfl,(XT td s Z n bk sk (some (.ref A)) (some (.int i)) (some (.int F)) (some (.int y3))),_,?_,_,_,_,rfl,rfl⟩
      show aC _ _ (XT td s Z n bk sk (some (.ref A)) (some (.int i)) b c) h0=_
      rw [aI s1,aI s2,aI s3,aI s4,aI s5,s6]) ⟨none,none,none,rfl,by simp⟩
  have e0:0 + ((List.range n).map fun k:Nat=>D.int k).length=n:=by simp
  rw [e0] at k3
  have b1:=(m.more [.lst []]).ba
  have s1:aE (gT [2,3,4]) (aa 0) [some td,some (ah s),none,none,none,none,none,none,none] h=.nx (XT td s Z n bk sk none none none none) h:=by rw [htd];rfl
  have s2:aE (gN 5) (aX am) (XT td s Z n bk sk none none none none) h=.nx (XT td s Z n bk sk (some (.ref A)) none none none) (h++[.lst []]):=aF (fX hA rfl (Nat.zero_le _))
  have s3:dI (bw (el (lOf (aa 3)))) (gN 6) pc (XT td s Z n bk sk (some (.ref A)) none none none) (h++[.lst []])=.nx (XT td s Z n bk sk (some (.ref A)) x6 x7 x8) (h++[.lst ((aS w n s).map .int)]):=by
    rw [k2,k3] at k1
    have ln:el (lOf (aa 3)) (XT td s Z n bk sk (some (.ref A)) none none none) (h++[.lst []])=.ok (.int n) (h++[.lst []]):=by
      exact (iJ (d7 rfl (bg b1))).trans (by rw [List.length_map,m.lb])
    exact d8 (cY ln (jB n30)) k1
  have s4:bc (dP (lOf (aa 5))) (XT td s Z n bk sk (some (.ref A)) x6 x7 x8) (h++[.lst ((aS w n s).map .int)])=.rt (ah (aS w n s)) (h++[.lst ((aS w n s).map .int)]):=by
    exact bo (rT (d7 rfl (bg (eG hA _))))
  have st:([td,ah s].map some++List.replicate (9 - [td,ah s].length) none:Sd)=[some td,some (ah s),none,none,none,none,none,none,none]:=rfl
  rw [← htd,← hw]
  unfold dz bE runB
  rw [if_pos (by rfl),st,aI s1,aI s2,aI s3,s4]
  exact dk (o7 _)
end
end Fm
set_option linter.all false
namespace Fm
noncomputable def df:Fn:=bE 2 2 (aC (sIf (tE (af iY (aa 1) (fC .non))) (bc (dP (bN 1 [] (dQ (aa 0)) (gN 0) [] (nF (aa 0))))) bD)
    (aC (sIf (tOr (eD (tE (fP .list (aa 1)))) (tE (af oNe (el (lOf (aa 1))) (el (lOf (aa 0)))))) jX bD)
    (aC (sIf (eD (tE (CO (bN 1 [] (dQ (aa 1)) (gN 0) [] (ao cL (ad (aa 0) am)))))) jX bD)
    (bc (dP (lOf (aa 1)))))))
noncomputable def dA:Fn:=bE 4 6 (aC (sIf (eD (tE (ao bx (ad (aa 0) (ad (fC (.int 1)) (ad (fC (.int 30)) am)))))) jX bD)
    (aC (aE (gN 4) (ao dM (ad (aa 0) (ad (aa 1) am))))
    (aC (aE (gN 5) (dP (bN 1 [] (dQ (aa 4)) (gN 0) [] (dP (lc (aa 0))))))
    (bc (fj (ad (aa 5) (ad (ao df (ad (aa 4) (ad (aa 2) am))) (ad (ao cS (ad (aa 0) (ad (aa 3) am))) am))))))))
noncomputable def eK:Fn:=bE 1 1 (bc (aX (sV 2 [] (ao cZ (ad (aa 0) am)) (gT [0,1]) [(tE (af iY (aa 1) (fC .non)))] (aa 0))))
noncomputable abbrev eh:SF:=(eV (xc (aa 5) (bN 1 [6] (nr (aa 3) (af cV (aa 4) (fC (.int 1)))) (gN 0) [] (af lh (aa 1) (fj (ad (aa 0) am))))))
noncomputable abbrev i8:SF:=(aC (aE (gN 5) (aX am))
    (aC (dI (dQ (aa 2)) (gN 6) eh)
    (aE (gN 2) (aa 5))))
noncomputable def bJ:Fn:=bE 2 7 (aC (aE (gN 2) (aX (ad (fj am) am)))
    (aC (dI (LZ (aa 0) (aa 1)) (gT [3,4]) i8)
    (bc (aa 2))))
noncomputable def cM:Fn:=bE 1 1 (aC (sIf (tE (af oGt (el (lOf (ao eK (ad (aa 0) am)))) (fC (.int 12)))) jX bD)
    (bc (ao bJ (ad (ao cD (ad (aa 0) am)) (ad (ao bH (ad (aa 0) am)) am)))))
noncomputable def mh:Fn:=bE 1 1 (bc (aX (bN 1 [0] (dQ (ao cM (ad (aa 0) am))) (gN 0) [(tE (af oEq (ao a0 (ad (aa 1) (ad (aa 0) am))) (aa 0)))] (aa 0))))
noncomputable abbrev tG:SF:=(aC (aE (gN 3) (ao a0 (ad (aa 0) (ad (aa 2) am))))
    (sIf (jx (tE (af qQ (aa 2) (aa 3))) (tE (af oEq (ao a0 (ad (aa 0) (ad (aa 3) am))) (aa 2)))) (eV (jf (aa 1) (fj (ad (aa 2) (ad (aa 3) am))))) bD))
noncomputable def ka:Fn:=bE 1 4 (aC (aE (gN 1) (aX am))
    (aC (dI (dQ (ao cM (ad (aa 0) am))) (gN 2) tG)
    (bc (aa 1))))
noncomputable def ip:Fn:=bE 1 1 (bc (ao dA (ad (el (lOf (fAt (aa 0) (fC (.int 1))))) (ad (ao fA (ad (aa 0) am)) (ad (aX (lOf (fAt (aa 0) (fC (.int 1))))) (ad (aX (lOf (fAt (aa 0) (fC (.int 2))))) am))))))
noncomputable abbrev i9:SF:=(sIf (tE (af iY (aa 2) (fC .non))) (eV (xc (aa 3) (ad (af lh (aa 4) (fj (ad (fC (.int 0)) am))) (ad (af lh (aa 4) (fj (ad (fC (.int 1)) am))) am)))) (eV (jf (aa 3) (af lh (aa 4) (fj (ad (aa 2) am))))))
noncomputable abbrev qu:SF:=(aC (aE (gN 3) (aX am))
    (aC (dI (dQ (aa 1)) (gN 4) i9)
    (aE (gN 1) (aa 3))))
noncomputable def iP:Fn:=bE 1 5 (aC (aE (gN 1) (aX (ad (fj am) am)))
    (aC (dI (dQ (fAt (aa 0) (fC (.int 2)))) (gN 2) qu)
    (bc (aa 1))))
noncomputable def iq:Fn:=bE 1 2 (aC (sIf (tE (af iY (aa 0) (fC .non))) (bc (aX am)) bD)
    (aC (aE (gN 1) (aX (ad (ge [("TooMuch",false)] (aa 0)) (ad (ge [("TooMuch",false)] (aa 0)) (ad (ge [("TooMuch",true)] (aa 0)) am)))))
    (aC (aE (gN 1) (aX (kD (aa 1) (aX (ad (ge [("TooMuch",false)] (aa 0)) (ad (ge [("TooMuch",false)] (aa 0)) (ad (ge [("TooMuch",false)] (aa 0)) am)))))))
    (aC (aE (gN 1) (aX (kD (aa 1) (aX (ad (ge [("TooMuch",false)] (aa 0)) (ad (ge [("TooMuch",false)] (aa 0)) (ad (ge [("TooMuch",false)] (aa 0)) am)))))))
    (bc (aX (kD (aa 1) (aX (ad (ge [("TooMuch",true)] (aa 0)) am)))))))))
noncomputable def ja:Fn:=bE 1 1 (bc (aX (kD (aX (bN 1 [0] (bw (fC (.int 9))) (gN 0) [] (af oEq (aa 0) (aa 1)))) (aX (ad (fC (.bl true)) am)))))
noncomputable def bF:Fn:=bE 1 1 (aC (qP (tE (af oGt (el (lOf (ao eK (ad (aa 0) am)))) (fC (.int 12)))) (sW "TooMuch") bD)
    (sPl (bc (ao bJ (ad (ao cD (ad (aa 0) am)) (ad (ao bH (ad (aa 0) am)) am))))))
noncomputable def iQ:Fn:=bE 1 1 (bc (aX (oW 1 [0] (dQ (ao bF (fPl (ad (aa 0) am)))) (gN 0) [(tE (af oEq (ao a0 (ad (aa 1) (ad (aa 0) am))) (aa 0)))] (aa 0))))
noncomputable def iR:Fn:=bE 1 4 (aC (sPl (aE (gN 1) (aX am)))
    (aC (dI (dQ (ao bF (fPl (ad (aa 0) am)))) (gN 2) (aC (sPl (aE (gN 3) (ao a0 (ad (aa 0) (ad (aa 2) am)))))
    (sPl (sIf (jx (tE (af qQ (aa 2) (aa 3))) (tE (af oEq (ao a0 (ad (aa 0) (ad (aa 3) am))) (aa 2)))) (eV (jf (aa 1) (fj (ad (aa 2) (ad (aa 3) am))))) bD))))
    (sPl (bc (aa 1)))))
noncomputable def cH:Fn:=bE 2 4 (aC (aE (gN 2) (fC .non))
    (aC (AV 4 2 ["TooMuch"] (qP (tE (af oEq (aa 1) (fC (.int 0)))) (eV (ao iQ (fPl (ad (aa 0) am)))) (eV (ao iR (fPl (ad (aa 0) am))))))
    (bc (ao iq (ad (aa 2) am)))))
noncomputable abbrev pf:SF:=(oM (aa 3) (af bT (af cV (af fN (aa 0) (fC (.int 12))) (af cw (fC (.int 5)) (aa 4))) (aa 1)) (af bT (af fN (aa 0) (fC (.int 7))) (fC (.int 2))))
noncomputable def lu:Fn:=bE 1 7 (aC (aE (gN 1) (af cV (fC (.int 13)) (af bT (aa 0) (fC (.int 4)))))
    (aC (aE (gN 2) (af cV (fC (.int 12)) (af bT (af fN (aa 0) (fC (.int 4))) (fC (.int 2)))))
    (aC (aE (gN 3) (aX (oU (ad (fC .non) am) (aa 1))))
    (aC (dI (bw (af jV (aa 1) (aa 2))) (gN 4) pf)
    (aC (aE (gN 5) (aX (bN 1 [0] (bw (af jV (aa 1) (fC (.int 1)))) (gN 0) [] (fj (ad (aa 0) (ad (af cV (aa 0) (fC (.int 1))) (ad (af cV (fC (.int 1)) (af bT (aa 1) (fC (.int 3)))) am)))))))
    (aC (aE (gN 6) (ao dA (ad (aa 1) (ad (aa 5) (ad (fC .non) (ad (aa 3) am))))))
    (aC (sIf (tE (af oEq (aa 2) (fC (.int 12)))) (bc (fT (tOr (tE (af oGt (af bT (af fN (aa 0) (fC (.int 64))) (fC (.int 8))) (fC (.int 0)))) (tE (af oEq (ao cH (ad (aa 6) (ad (af bT (af fN (aa 0) (fC (.int 512))) (fC (.int 2))) am))) (aX am)))))) bD)
    (bc (fT (jx (tE (af oEq (ao cH (ad (aa 6) (ad (fC (.int 0)) am))) (ao ja (ad (fC (.int 2)) am)))) (tE (af oEq (ao cH (ad (aa 6) (ad (fC (.int 1)) am))) (ao ja (ad (fC (.int 2)) am))))))))))))))
noncomputable abbrev J0:SF:=(aE (gN 1) (ao io (ad (aa 0) (ad (fC (.int 8)) am))))
noncomputable abbrev J1:SF:=(aE (gN 2) (ao ip (ad (aa 1) am)))
noncomputable abbrev J2:SF:=(aE (gN 3) (aX am))
noncomputable abbrev J3:SF:=(aE (gN 4) (aX am))
noncomputable abbrev yw:SF:=(aC (aE (gN 6) (ao dz (ad (aa 1) (ad (aa 5) am))))
    (sIf (tE (af oEq (aa 6) (aa 5))) (eV (jf (aa 3) (aa 5))) (sIf (jx (tE (af qQ (aa 5) (aa 6))) (tE (af oEq (ao dz (ad (aa 1) (ad (aa 6) am))) (aa 5)))) (eV (jf (aa 4) (fj (ad (aa 5) (ad (aa 6) am))))) bD)))
noncomputable abbrev J4:SF:=(dI (dQ (ao iP (ad (aa 1) am))) (gN 5) yw)
noncomputable abbrev Dw:SF:=(aC (aE (gN 8) (aX (ad (ao mh (ad (aa 2) am)) (ad (ao ka (ad (aa 2) am)) am))))
    (aC (sIf (tOr (eD (tE (fP .list (fAt (aa 8) (fC (.int 0)))))) (tOr (eD (tE (fP .list (fAt (aa 8) (fC (.int 1)))))) (tE (af Gp (aa 8) (aX (ad (aa 3) (ad (aa 4) am))))))) (bc (fC (.bl false))) bD)
    (aC (eV (jf (fAt (aa 8) (fC (.int 0))) (fj am)))
    (eV (oN (fAt (aa 8) (fC (.int 1))))))))
noncomputable abbrev Ka:SF:=(dI (bw (fC (.int 2))) (gN 7) Dw)
noncomputable abbrev Kb:SF:=(bc (ao lu (ad (ao bC (ad (aa 0) (ad (fC (.int 4)) am))) am)))
noncomputable def FE:Fn:=bE 1 9 (aC J0 (aC J1 (aC J2 (aC J3 (aC J4 (aC Ka Kb))))))
end Fm
set_option linter.all false
namespace Fm
theorem Dx {n np:Nat}{b:SF}{ds:List D}{h h':Hd}{σ σ':Sd}{x:D}(hl:ds.length=np)(st:(ds.map some++List.replicate (n - ds.length) none:Sd) = σ)(e:b σ h=.exc x σ' h'):bE np n b ds h=.exc x h':=by
  unfold bE runB
  rw [if_pos hl,st,e]
  rfl
theorem FF {a b:SF}{σ σ':Sd}{h h':Hd}{x:D}(e:a σ h=.exc x σ' h'):aC a b σ h=.exc x σ' h':=by simp only [aC,e]
theorem Dy {t:TF}{a b:SF}{σ:Sd}{h h':Hd}(e:t σ h=.ok false h'):qP t a b σ h=b σ h':=by unfold qP;rw [e];rfl
theorem Ms {t:TF}{c:String}{b:SF}{σ:Sd}{h h':Hd}(e:t σ h=.ok true h'):qP t (sW c) b σ h=.exc (.exn c []) σ h':=by unfold qP;rw [e];rfl
theorem nO {F:Fn}{r:LF}{σ:Sd}{h h1 h':Hd}{ds:List D}{x:D}(a:r σ h=.ok ds h1)(b:F ds h1=.exc x h'):ao F r σ h=.exc x h':=by
  show Res.bind _ _=_;rw [a];exact b
theorem FG {e:EF}{σ:Sd}{h h':Hd}{x:D}(p:e σ h=.exc x h'):eV e σ h=.exc x σ h':=by show outE _ _ _=_;rw [p];rfl
theorem Nv {t:TF}{a b:SF}{σ:Sd}{h h':Hd}(e:t σ h=.ok true h'):qP t a b σ h=a σ h':=by unfold qP;rw [e];rfl
theorem Mt {xs ys:List D}{h:Hd}(p:xs.length + ys.length≤SZ):lh (.tup xs) (.tup ys) h=.ok (.tup (xs++ys)) h:=by simp only [lh,if_pos p]
theorem r6 {a b:EF}{σ:Sd}{h h1 h2:Hd}{n m:Nat}{l k:List D}(p:a σ h=.ok (.ref n) h1)(q:b σ h1=.ok (.ref m) h2)(r:h2[n]? = some (.lst l))(s:h2[m]? = some (.lst k))(t:l.length + k.length≤SZ):kD a b σ h=.ok (l++k) h2:=by
  simp only [kD,p,aG,q,r,s,if_pos t]
theorem qv {α : Type}{f:Sd→Hd→Res α}{σ:Sd}{h h':Hd}{x : α}(p:f σ h=.ok x h'):fPl f σ h=.ok x h':=by unfold fPl;rw [p];rfl
theorem FH {f:SF}{σ σ':Sd}{h h':Hd}(p:f σ h=.nx σ' h'):sPl f σ h=.nx σ' h':=by unfold sPl;rw [p]
theorem Nw {f:SF}{σ:Sd}{h h':Hd}{d:D}(p:f σ h=.rt d h'):sPl f σ h=.rt d h':=by unfold sPl;rw [p]
theorem Pk {n i:Nat}{cs:List String}{b:SF}{σ σ':Sd}{h h':Hd}(p:b σ h=.nx σ' h'):AV n i cs b σ h=.nx σ' h':=by unfold AV;rw [p]
theorem Pl {n i:Nat}{cs:List String}{b:SF}{σ σ':Sd}{h h':Hd}{c:String}(p:b σ h=.exc (.exn c []) σ' h')(q:c∈cs):AV n i cs b σ h=.nx ((List.replicate n none).set i (some (.exn c []))) h':=by unfold AV;rw [p];exact if_pos q
theorem Pm {tb:List (String × Bool)}{a:EF}{σ:Sd}{h h1:Hd}{c:String}{l:List D}{b:Bool}(p:a σ h=.ok (.exn c l) h1)(q:tb.lookup c=some b):ge tb a σ h=.ok (.bl b) h1:=by
  unfold ge;rw [p,aG];simp only [isX,q]
end Fm
set_option linter.all false
namespace Fm
theorem Kc {x:EF}{L:LF}{σ:Sd}{h h1 h2:Hd}{n:Nat}{l l0 ds:List D}(p:x σ h=.ok (.ref n) h1)(q:h1[n]? = some (.lst l0))(r:L σ h1=.ok ds h2)(s:h2[n]? = some (.lst l))(t:l.length + ds.length≤SZ):xc x L σ h=.ok .non (h2.set n (.lst (l++ds))):=by
  simp only [xc,p,aG,q,r,s,if_pos t]
def Mu (o:Option Int) (s:List Int):List (List Int):=match o with|none=>[s++[0],s++[1]] | some v=>[s++[v]]
def gf (E:List (List Int)) (o:Option Int):List (List Int):=E.flatMap (Mu o)
def eL (ss:List (Option Int)):List (List Int):=ss.foldl gf [[]]
theorem lw {ss:List (Option Int)}{k:Nat}{o:Option Int}(h:ss[k]? = some o):eL (ss.take (k + 1))=gf (eL (ss.take k)) o:=by
  unfold eL
  rw [List.take_succ,h,List.foldl_append];rfl
theorem Bi (E:List (List Int))(o:Option Int):(gf E o).length≤2 * E.length:=by
  unfold gf
  induction E with
  | nil=>exact Nat.le_refl _
  | cons s E ih =>
    rw [List.flatMap_cons,List.length_append,List.length_cons]
    have:(Mu o s).length≤2:=by
      cases o with
      | none=>exact Nat.le_refl 2
      | some v=>exact Nat.le_succ 1
    omega
theorem yx (ss:List (Option Int)):∀ k,k≤ss.length→(eL (ss.take k)).length≤2 ^ k
  | 0,_=>by rw [List.take_zero];exact Nat.le_refl _
  | k + 1,hk=>by
    rw [lw (List.getElem?_eq_getElem (show k < ss.length by omega)),Nat.pow_succ]
    have:=Bi (eL (ss.take k)) (ss[k]'(by omega))
    have:=yx ss k (by omega)
    omega
structure InK (ss:List (Option Int)) (k:Nat) (s:List Int):Prop where
  len:s.length=k
  op:∀ x∈s,x=0∨x=1
  st:∀ (i:Nat) x,i < k→ss[i]? = some (some x)→s[i]? = some x
theorem sd {ss:List (Option Int)}(os:∀ x∈ss,x=none∨x=some 0∨x=some 1):∀ k,k≤ss.length → ∀ s,s∈eL (ss.take k) ↔ InK ss k s
  | 0,_,s=>by
    rw [List.take_zero]
    constructor
    · intro h
      have h:s=[]:=List.mem_singleton.mp h
      subst h
      exact⟨rfl,(fun x hx=>absurd hx List.not_mem_nil),fun i x hi=>absurd hi (Nat.not_lt_zero i)⟩
    · intro h
      rw [List.eq_nil_of_length_eq_zero h.len];exact List.mem_singleton.mpr rfl
  | k + 1,hk,s=>by
    have hk':k < ss.length:=hk
    have e:ss[k]? = some ss[k]:=List.getElem?_eq_getElem hk'
    have ok:=os _ (List.getElem_mem hk')
    obtain⟨o,ho⟩ : ∃ o,o=ss[k]:=⟨_,rfl⟩
    rw [← ho] at e ok
    rw [lw e]
    unfold gf
    rw [List.mem_flatMap]
    have ih:=sd os k (Nat.le_of_lt hk')
    constructor
    · rintro⟨t,ht,hs⟩
      have T:=(ih t).mp ht
      have:∃ v,s=t++[v]∧(v=0∨v=1)∧(∀ x,o=some x→v=x):=by
        cases o with
        | none =>
          rcases List.mem_cons.mp hs with z|z
          · exact⟨0,z,.inl rfl,fun x q=>by cases q⟩
          · exact⟨1,List.mem_singleton.mp z,.inr rfl,fun x q=>by cases q⟩
        | some v=>exact⟨v,List.mem_singleton.mp hs,by simpa using ok,fun x q=>by cases q;rfl⟩
      obtain⟨v,rfl,vb,vo⟩:=this
      refine⟨by rw [List.length_append,T.len];rfl,fun x hx => ?_,fun i x hi q => ?_⟩
      · rcases List.mem_append.mp hx with z|z
        · exact T.op x z
        · rw [List.mem_singleton.mp z];exact vb
      · by_cases hik:i < k
        · rw [List.getElem?_append_left (by rw [T.len];exact hik)];exact T.st i x hik q
        · have:i=k:=by omega
          subst this
          rw [e] at q
          rw [List.getElem?_append_right (by rw [T.len];exact Nat.le_refl _),T.len,Nat.sub_self,vo x (Option.some.inj q)];rfl
    · intro S
      have ls:k < s.length:=by rw [S.len];exact Nat.lt_succ_self k
      have dec:s=s.take k++[s[k]]:=by
        conv=>lhs;rw [← List.take_append_drop k s]
        rw [List.drop_eq_getElem_cons ls,List.drop_of_length_le (by rw [S.len];exact Nat.le_refl _)]
      refine⟨s.take k,(ih _).mpr ⟨by rw [List.length_take];omega,fun x hx=>S.op x (List.mem_of_mem_take hx),fun i x hi q=>by rw [List.getElem?_take_of_lt hi];exact S.st i x (Nat.lt_succ_of_lt hi) q⟩,?_⟩
      have vb:=S.op _ (List.getElem_mem ls)
      obtain⟨t,ht⟩ : ∃ t,t=s.take k:=⟨_,rfl⟩
      obtain⟨v,hv⟩ : ∃ v,v=s[k]:=⟨_,rfl⟩
      have sv:=fun x q=>S.st k x (Nat.lt_succ_self k) q
      rw [List.getElem?_eq_getElem ls] at sv
      rw [← hv] at vb sv
      rw [← ht,← hv] at dec
      rw [← ht,dec]
      cases o with
      | none =>
        rcases vb with z|z
        · rw [z];exact List.mem_cons_self
        · rw [z];exact List.mem_cons_of_mem _ List.mem_cons_self
      | some w =>
        rw [Option.some.inj (sv w e)];exact List.mem_cons_self
theorem se (s:List Int)(v:Int)(ls:s.length≤30)(h:Hd):lh (ah s) (.tup [.int v]) h=.ok (ah (s++[v])) h:=by
  have:=Mt (xs:=s.map D.int) (ys:=[.int v]) (h:=h) (by rw [List.length_map];exact Nat.le_trans (Nat.add_le_add_right ls 1) (by decide))
  unfold ah
  rw [List.map_append];exact this
theorem Kd {td:D}{k A:Nat}{E:List (List Int)}{o:Option Int}(lE:E.length≤256)(ls:∀ s∈E,s.length≤30){h:Hd}(hk:h[k]? = some (.lst (E.map ah)))(hA:A=h.length)(c:Option D) :
    ∃ c',gc (some k) (E.map ah) (gN 4) i9 (E.map ah) [some td,some (.ref k),some (aZ o),some (.ref A),c] (h++[.lst []])=.nx [some td,some (.ref k),some (aZ o),some (.ref A),c'] (h++[.lst ((gf E o).map ah)]):=by
  obtain⟨σ',h',q,c',e1,e2⟩:=ce (P:=fun i σ h'=>∃ c,σ = [some td,some (.ref k),some (aZ o),some (.ref A),c]∧h'=h++[.lst ((gf (E.take i) o).map ah)]) (g:=some k) (k:=0) (all:=E.map ah) (fun i σ h' ⟨_,_,e⟩=>by show h'[k]? = _;rw [e];exact cE _ hk)
    (xs:=E.map ah) (tg:=gN 4) (σ:=[some td,some (.ref k),some (aZ o),some (.ref A),c]) (h:=h++[.lst []]) (b:=i9) (by
      rintro i x σ h0 hx ⟨c,rfl,rfl⟩
      rw [Nat.zero_add]
      have hx':E[i]?.map ah=some x:=by rw [← List.getElem?_map];exact hx
      obtain⟨s,hs,rfl⟩:=Option.map_eq_some_iff.mp hx'
      have l30:=ls s (List.mem_of_getElem? hs)
      have gA:=eG hA (.lst ((gf (E.take i) o).map ah))
      have tk:E.take (i + 1)=E.take i++[s]:=by rw [List.take_succ,hs];rfl
      have st:gf (E.take (i + 1)) o=gf (E.take i) o++Mu o s:=by rw [tk];unfold gf;rw [List.flatMap_append];simp only [List.flatMap_cons,List.flatMap_nil,List.append_nil]
      have lz:((gf (E.take i) o).map ah).length≤512:=by
        rw [List.length_map]
        have:=Bi (E.take i) o
        have:(E.take i).length≤E.length:=List.length_take_le' _ _
        omega
      refine⟨_,rfl,[some td,some (.ref k),some (aZ o),some (.ref A),some (ah s)],h++[.lst ((gf (E.take (i + 1)) o).map ah)],?_,_,rfl,rfl⟩
      rw [st,List.map_append]
      cases o with
      | none =>
        refine (mj (bB (ak rfl rfl rfl))).trans ((eX (Kc rfl gA (c5 (ak rfl (gS (au rfl rfl)) (se s 0 l30 _)) (ak rfl (gS (au rfl rfl)) (se s 1 l30 _))) gA (Nat.le_trans (Nat.add_le_add_right lz 2) (by decide)))).trans ?_)
        rw [i6 hA];rfl
      | some v =>
        refine (fW (bB (ak rfl rfl rfl))).trans ((eX (jn rfl gA (ak rfl (gS (au rfl rfl)) (se s v l30 _)) gA (Nat.lt_of_le_of_lt lz (by decide)))).trans ?_)
        rw [i6 hA];rfl) ⟨_,rfl,by rw [List.take_zero];rfl⟩
  have l0:0 + (E.map ah).length=E.length:=by rw [List.length_map,Nat.zero_add]
  rw [l0,List.take_length] at e2
  rw [e1,e2] at q
  exact⟨c',q⟩
theorem GI {Z n:Nat}{M:Nat→Nat→Int}{bs:List Int}{ss:List (Option Int)}{bk sk:Nat}{h:Hd}(m:Md Z n M bs ss bk sk h)(n8:n≤8){td:D}(htd:td=.tup [.ref (Z + n),.ref bk,.ref sk]) :
    ∃ k g,iP [td] h=.ok (.ref k) (h++g)∧(h++g)[k]? = some (.lst ((eL ss).map ah))∧h.length≤k:=by
  obtain⟨A,hA⟩ : ∃ A,A=h.length:=⟨_,rfl⟩
  obtain⟨σ',h',q,k,g,a,b,c,e1,e2,e3,e4⟩:=ce (P:=fun i σ h'=>∃ (k:Nat) (g:Hd) (a b c:Option D),σ = [some td,some (.ref k),a,b,c]∧h'=h++g∧h'[k]? = some (.lst ((eL (ss.take i)).map ah))∧h.length≤k) (g:=some sk) (k:=0) (all:=ss.map aZ) (fun i σ h' ⟨_,_,_,_,_,_,e,_,_⟩=>by show h'[sk]? = _;rw [e];exact cE _ m.st)
    (xs:=ss.map aZ) (tg:=gN 2) (σ:=[some td,some (.ref A),none,none,none]) (h:=h++[.lst [.tup []]]) (b:=qu) (by
      rintro i x σ h0 hx ⟨k,g,a,b,c,rfl,rfl,hk,_⟩
      rw [Nat.zero_add] at hk ⊢
      have hx':ss[i]?.map aZ=some x:=by rw [← List.getElem?_map];exact hx
      obtain⟨o,ho,rfl⟩:=Option.map_eq_some_iff.mp hx'
      have hi:i < ss.length:=(List.getElem?_eq_some_iff.mp ho).1
      have hi7:i≤7:=by have:=m.ls;omega
      have lE:(eL (ss.take i)).length≤256:=by
        have h1:=yx ss i (Nat.le_of_lt hi)
        have h2:2 ^ i≤2 ^ 7:=Nat.pow_le_pow_right (by decide) hi7
        omega
      have l30:∀ s∈eL (ss.take i),s.length≤30:=fun s hs=>by rw [((sd m.os i (Nat.le_of_lt hi) s).mp hs).len];omega
      obtain⟨c',lp⟩:=Kd (td:=td) (A:=(h++g).length) (o:=o) lE l30 hk rfl c
      have s1:aE (gN 3) (aX am) [some td,some (.ref k),some (aZ o),b,c] (h++g)=.nx [some td,some (.ref k),some (aZ o),some (.ref (h++g).length),c] (h++g++[.lst []]):=aF (dw (xs:=[]) rfl (Nat.zero_le _))
      have s2:dI (dQ (aa 1)) (gN 4) i9 [some td,some (.ref k),some (aZ o),some (.ref (h++g).length),c] (h++g++[.lst []])=.nx [some td,some (.ref k),some (aZ o),some (.ref (h++g).length),c'] (h++g++[.lst ((gf (eL (ss.take i)) o).map ah)]):=d8 (eF rfl (cE _ hk)) lp
      refine⟨_,rfl,_,_,(bi s1).trans ((bi s2).trans (aF rfl)),(h++g).length,g++[.lst ((gf (eL (ss.take i)) o).map ah)],_,_,_,rfl,by rw [List.append_assoc],?_,by rw [List.length_append];exact Nat.le_add_right _ _⟩
      rw [lw ho];exact List.getElem?_concat_length) ⟨A,[.lst [.tup []]],none,none,none,rfl,rfl,by rw [List.take_zero];exact eG hA _,Nat.le_of_eq hA.symm⟩
  have l0:0 + (ss.map aZ).length=ss.length:=by rw [List.length_map,Nat.zero_add]
  rw [l0,List.take_length] at e3
  rw [e1,e2] at q
  rw [e2] at e3
  refine⟨k,g,?_,e3,e4⟩
  have a2:fAt (aa 0) (fC (.int 2)) [some td,some (.ref A),none,none,none] (h++[.lst [.tup []]])=.ok (.ref sk) (h++[.lst [.tup []]]):=by rw [htd];exact bh rfl rfl rfl rfl
  exact (cJ rfl rfl ((bi (aF (fX hA (au (gS (xs:=[]) rfl (Nat.zero_le _)) rfl) (by exact of_decide_eq_true rfl)))).trans ((bi (d8 (eF a2 (cE _ m.st)) q)).trans (bo rfl)))).trans bG
end Fm
set_option linter.all false
namespace Fm
def gg (E:List (List Int)) (p:Int × Int):List (List Int):=E.flatMap fun s=>(List.range (p.2 + 1 - p.1).toNat).map fun k:Nat=>s++[p.1 + k]
def ij (l:List (Int × Int)):List (List Int):=l.foldl gg [[]]
theorem ph {l:List (Int × Int)}{k:Nat}{p:Int × Int}(h:l[k]? = some p):ij (l.take (k + 1))=gg (ij (l.take k)) p:=by
  unfold ij
  rw [List.take_succ,h,List.foldl_append];rfl
def btw (l:List (Int × Int)) (s:List Int):Bool:=(l.zip s).all fun q=>decide (q.1.1≤q.2) && decide (q.2≤q.1.2)
theorem nP {l:List (Int × Int)}{p:Int × Int}{s:List Int}{v:Int}(h:s.length=l.length):btw (l++[p]) (s++[v])=(btw l s && (decide (p.1≤v) && decide (v≤p.2))):=by
  unfold btw
  rw [List.zip_append h.symm,List.all_append]
  simp only [List.zip_cons_cons,List.zip_nil_right,List.all_cons,List.all_nil,Bool.and_true]
theorem Bj {α β : Type}(E:List α)(q : α → Bool)(f g : α → List β)(p : β → Bool)(h:∀ s∈E,(f s).filter p=if q s then g s else []):(E.flatMap f).filter p=(E.filter q).flatMap g:=by
  induction E with
  | nil=>rfl
  | cons s E ih =>
    have ih:=ih fun x hx=>h x (List.mem_cons_of_mem _ hx)
    have hs:=h s List.mem_cons_self
    rw [List.flatMap_cons,List.filter_append,ih,hs]
    cases c:q s with
    | true=>rw [List.filter_cons_of_pos c,List.flatMap_cons,if_pos rfl]
    | false=>rw [List.filter_cons_of_neg (by rw [c];decide),if_neg (by decide)];rfl
structure Bd (ss:List (Option Int)) (l:List (Int × Int)):Prop where
  len:l.length=ss.length
  bit:∀ p∈l,(p.1=0∨p.1=1)∧(p.2=0∨p.2=1)∧p.1≤p.2
  st:∀ (i:Nat) x p,ss[i]? = some (some x)→l[i]? = some p→p=(x,x)
theorem lx {ss:List (Option Int)}(os:∀ x∈ss,x=none∨x=some 0∨x=some 1){l:List (Int × Int)}(B:Bd ss l):∀ k,k≤ss.length→ij (l.take k)=(eL (ss.take k)).filter (btw (l.take k))
  | 0,_=>rfl
  | k + 1,hk=>by
    have hk':k < ss.length:=hk
    have hl':k < l.length:=by rw [B.len];exact hk'
    obtain⟨o,ho⟩ : ∃ o,ss[k]? = some o:=⟨_,List.getElem?_eq_getElem hk'⟩
    obtain⟨p,hp⟩ : ∃ p,l[k]? = some p:=⟨_,List.getElem?_eq_getElem hl'⟩
    rw [ph hp,lw ho,lx os B k (Nat.le_of_lt hk')]
    have lt:l.take (k + 1)=l.take k++[p]:=by rw [List.take_succ,hp];rfl
    have lk:(l.take k).length=k:=by rw [List.length_take];exact Nat.min_eq_left (Nat.le_of_lt hl')
    unfold gg gf
    symm
    refine Bj _ _ _ _ _ fun s hs => ?_
    have ls:s.length=(l.take k).length:=by rw [lk];exact ((sd os k (Nat.le_of_lt hk') s).mp hs).len
    obtain⟨b1,b2,b3⟩:=B.bit p (List.mem_of_getElem? hp)
    rw [lt]
    cases c:btw (l.take k) s with
    | false =>
      rw [if_neg (by decide),List.filter_eq_nil_iff]
      intro t ht
      have:∃ v,t=s++[v]:=by
        cases o with
        | none =>
          rcases List.mem_cons.mp ht with z|z
          · exact⟨0,z⟩
          · exact⟨1,List.mem_singleton.mp z⟩
        | some v=>exact⟨v,List.mem_singleton.mp ht⟩
      obtain⟨v,rfl⟩:=this
      rw [nP ls,c,Bool.false_and];decide
    | true =>
      rw [if_pos rfl]
      cases o with
      | some v =>
        have e:=B.st k v p ho hp
        rw [e]
        show ([s++[v]]).filter _=_
        rw [List.filter_cons_of_pos (by rw [nP ls,c];simp),List.filter_nil]
        have e1:(v + 1 - v).toNat=1:=by omega
        show _=(List.range (v + 1 - v).toNat).map _
        rw [e1]
        show [s++[v]] = [s++[v + ((0:Nat):Int)]]
        rw [show v + ((0:Nat):Int)=v from Int.add_zero v]
      | none =>
        obtain⟨x,y⟩:=p
        show ([s++[0],s++[1]]).filter _=_
        have f0:btw (l.take k++[(x,y)]) (s++[0])=(decide (x≤0) && decide (0≤y)):=by rw [nP ls,c,Bool.true_and]
        have f1:btw (l.take k++[(x,y)]) (s++[1])=(decide (x≤1) && decide (1≤y)):=by rw [nP ls,c,Bool.true_and]
        simp only at b1 b2 b3
        rcases b1 with rfl|rfl<;>rcases b2 with rfl|rfl
        · rw [List.filter_cons_of_pos (by rw [f0];decide),List.filter_cons_of_neg (by rw [f1];decide)];rfl
        · rw [List.filter_cons_of_pos (by rw [f0];decide),List.filter_cons_of_pos (by rw [f1];decide)];rfl
        · exact absurd b3 (by decide)
        · rw [List.filter_cons_of_neg (by rw [f0];decide),List.filter_cons_of_pos (by rw [f1];decide)];rfl
end Fm
set_option linter.all false
namespace Fm
theorem GJ {a b:EF}{σ:Sd}{h h1 h2:Hd}{m n:Int}(p:a σ h=.ok (.int m) h1)(q:b σ h1=.ok (.int n) h2)(c:(-1000000≤m∧m≤1000000) ∧ -1000000≤n∧n≤1000000):nr a b σ h=.ok ((List.range (n - m).toNat).map (fun k:Nat=>D.int (m + k)),none) h2:=by
  simp only [nr,p,q,aG,if_pos c]
theorem GK {p:Int × Int}(pb:(p.1=0∨p.1=1)∧(p.2=0∨p.2=1))(E:List (List Int)):(gg E p).length≤2 * E.length:=by
  unfold gg
  induction E with
  | nil=>exact Nat.le_refl _
  | cons s E ih =>
    rw [List.flatMap_cons,List.length_append,List.length_cons,List.length_map,List.length_range]
    omega
theorem Ke {x y:D}{k A:Nat}{E:List (List Int)}{p:Int × Int}(pb:(p.1=0∨p.1=1)∧(p.2=0∨p.2=1))(lE:E.length≤100000)(ls:∀ s∈E,s.length≤30){h:Hd}(hk:h[k]? = some (.lst (E.map ah)))(hA:A=h.length)(c:Option D) :
    ∃ c',gc (some k) (E.map ah) (gN 6) eh (E.map ah) [some x,some y,some (.ref k),some (.int p.1),some (.int p.2),some (.ref A),c] (h++[.lst []])=.nx [some x,some y,some (.ref k),some (.int p.1),some (.int p.2),some (.ref A),c'] (h++[.lst ((gg E p).map ah)]):=by
  obtain⟨σ',h',q,c',e1,e2⟩:=ce (P:=fun i σ h'=>∃ c,σ = [some x,some y,some (.ref k),some (.int p.1),some (.int p.2),some (.ref A),c]∧h'=h++[.lst ((gg (E.take i) p).map ah)]) (g:=some k) (k:=0) (all:=E.map ah) (fun i σ h' ⟨_,_,e⟩=>by show h'[k]? = _;rw [e];exact cE _ hk)
    (xs:=E.map ah) (tg:=gN 6) (σ:=[some x,some y,some (.ref k),some (.int p.1),some (.int p.2),some (.ref A),c]) (h:=h++[.lst []]) (b:=eh) (by
      rintro i x' σ h0 hx ⟨c,rfl,rfl⟩
      rw [Nat.zero_add]
      have hx':E[i]?.map ah=some x':=by rw [← List.getElem?_map];exact hx
      obtain⟨s,hs,rfl⟩:=Option.map_eq_some_iff.mp hx'
      have l30:=ls s (List.mem_of_getElem? hs)
      have gA:=eG hA (.lst ((gg (E.take i) p).map ah))
      have tk:E.take (i + 1)=E.take i++[s]:=by rw [List.take_succ,hs];rfl
      have st:gg (E.take (i + 1)) p=gg (E.take i) p++(List.range (p.2 + 1 - p.1).toNat).map fun k:Nat=>s++[p.1 + k]:=by rw [tk];unfold gg;rw [List.flatMap_append];simp only [List.flatMap_cons,List.flatMap_nil,List.append_nil]
      have lz:((gg (E.take i) p).map ah).length≤200000:=by
        rw [List.length_map]
        have:=GK pb (E.take i)
        have:(E.take i).length≤E.length:=List.length_take_le' _ _
        omega
      obtain⟨H0,hH0⟩ : ∃ H0:Hd,H0=h++[.lst ((gg (E.take i) p).map ah)]:=⟨_,rfl⟩
      have cp:cx none ((List.range (p.2 + 1 - p.1).toNat).map fun k:Nat=>D.int (p.1 + k)) (gN 0) [] (af lh (aa 1) (fj (ad (aa 0) am))) ((List.range (p.2 + 1 - p.1).toNat).map fun k:Nat=>D.int (p.1 + k)) [none,some (ah s)] H0=.ok (((List.range (p.2 + 1 - p.1).toNat).map fun k:Nat=>s++[p.1 + k]).map ah) H0:=by
        have:=bM (g:=none) (all:=(List.range (p.2 + 1 - p.1).toNat).map fun k:Nat=>D.int (p.1 + k)) (tg:=gN 0) (cs:=[]) (e:=af lh (aa 1) (fj (ad (aa 0) am))) (h:=H0) (I:=fun σ=>∃ x,σ = [x,some (ah s)]) (fun _=>true) (fun d=>match d with | .int v=>ah (s++[v])|_=>.non) trivial (xs:=(List.range (p.2 + 1 - p.1).toNat).map fun k:Nat=>D.int (p.1 + k)) (σ:=[none,some (ah s)]) (by
          rintro d hd σ ⟨u,rfl⟩
          obtain⟨j,hj,rfl⟩:=List.mem_map.mp hd
          exact⟨_,rfl,⟨_,rfl⟩,rfl,fun _=>ak rfl (gS (au rfl rfl)) (se s _ l30 _)⟩) ⟨_,rfl⟩
        rw [this,List.filter_eq_self.mpr (fun _ _=>rfl),List.map_map,List.map_map];rfl
      refine⟨_,rfl,[some x,some y,some (.ref k),some (.int p.1),some (.int p.2),some (.ref A),some (ah s)],h++[.lst ((gg (E.take (i + 1)) p).map ah)],?_,_,rfl,rfl⟩
      rw [st,List.map_append]
      rw [← hH0] at gA ⊢
      have z:((gg (E.take i) p).map ah).length + (((List.range (p.2 + 1 - p.1).toNat).map fun k:Nat=>s++[p.1 + k]).map ah).length≤SZ:=by
        rw [List.length_map] at lz
        rw [List.length_map,List.length_map,List.length_map,List.length_range]
        show _≤1000000
        omega
      refine (eX (Kc rfl gA (eE (GJ rfl (ak rfl rfl rfl) (by show (-1000000≤p.1∧p.1≤1000000) ∧ -1000000≤p.2 + 1∧p.2 + 1≤1000000;omega)) cp) gA z)).trans ?_
      rw [hH0,i6 hA];rfl) ⟨_,rfl,by rw [List.take_zero];rfl⟩
  have l0:0 + (E.map ah).length=E.length:=by rw [List.length_map,Nat.zero_add]
  rw [l0,List.take_length] at e2
  rw [e1,e2] at q
  exact⟨c',q⟩
theorem Bk {l:List (Int × Int)}:∀ k,k≤l.length → ∀ s∈ij (l.take k),s.length=k
  | 0,_,s,h=>by rw [List.take_zero] at h;rw [List.mem_singleton.mp h];rfl
  | k + 1,hk,s,h=>by
    rw [ph (List.getElem?_eq_getElem (show k < l.length from hk))] at h
    unfold gg at h
    obtain⟨t,ht,hs⟩:=List.mem_flatMap.mp h
    obtain⟨j,_,rfl⟩:=List.mem_map.mp hs
    rw [List.length_append,Bk k (Nat.le_of_succ_le hk) t ht];rfl
theorem tH {low high:List Int}(pb:∀ p∈low.zip high,(p.1=0∨p.1=1)∧(p.2=0∨p.2=1))(hn:(low.zip high).length≤30)(hz:∀ k,k≤(low.zip high).length→(ij ((low.zip high).take k)).length≤100000)(h:Hd) :
    ∃ k g,bJ [ah low,ah high] h=.ok (.ref k) (h++g)∧(h++g)[k]? = some (.lst ((ij (low.zip high)).map ah))∧h.length≤k:=by
  obtain⟨A,hA⟩ : ∃ A,A=h.length:=⟨_,rfl⟩
  obtain⟨l,hl⟩ : ∃ l,l=low.zip high:=⟨_,rfl⟩
  rw [← hl] at pb hn hz ⊢
  have zp:∀ (a b c d e:Option D) (H:Hd),LZ (aa 0) (aa 1) [some (ah low),some (ah high),a,b,c,d,e] H=.ok (l.map (fun p=>D.tup [.int p.1,.int p.2]),none) H:=fun a b c d e H=>by
    show Res.ok (((low.map D.int).zip (high.map D.int)).map fun p=>D.tup [p.1,p.2],none) H=_
    rw [hl,List.zip_map,List.map_map];rfl
  obtain⟨σ',h',q,k,g,b3,b4,b5,b6,e1,e2,e3,e4⟩:=ce (P:=fun i σ h'=>∃ (k:Nat) (g:Hd) (b3 b4 b5 b6:Option D),σ = [some (ah low),some (ah high),some (.ref k),b3,b4,b5,b6]∧h'=h++g∧h'[k]? = some (.lst ((ij (l.take i)).map ah))∧h.length≤k) (g:=none) (k:=0) (all:=l.map fun p=>D.tup [.int p.1,.int p.2]) (fun _ _ _ _=>trivial)
    (xs:=l.map fun p=>D.tup [.int p.1,.int p.2]) (tg:=gT [3,4]) (σ:=[some (ah low),some (ah high),some (.ref A),none,none,none,none]) (h:=h++[.lst [.tup []]]) (b:=i8) (by
      rintro i x σ h0 hx ⟨k,g,b3,b4,b5,b6,rfl,rfl,hk,_⟩
      rw [Nat.zero_add] at hk ⊢
      have hx':l[i]?.map (fun p=>D.tup [.int p.1,.int p.2])=some x:=by rw [← List.getElem?_map];exact hx
      obtain⟨p,hp,rfl⟩:=Option.map_eq_some_iff.mp hx'
      have hi:i < l.length:=(List.getElem?_eq_some_iff.mp hp).1
      have l30:∀ s∈ij (l.take i),s.length≤30:=fun s hs=>by rw [Bk i (Nat.le_of_lt hi) s hs];omega
      obtain⟨c',lp⟩:=Ke (x:=ah low) (y:=ah high) (A:=(h++g).length) (pb p (List.mem_of_getElem? hp)) (hz i (Nat.le_of_lt hi)) l30 hk rfl b6
      have s1:aE (gN 5) (aX am) [some (ah low),some (ah high),some (.ref k),some (.int p.1),some (.int p.2),b5,b6] (h++g)=.nx [some (ah low),some (ah high),some (.ref k),some (.int p.1),some (.int p.2),some (.ref (h++g).length),b6] (h++g++[.lst []]):=aF (dw (xs:=[]) rfl (Nat.zero_le _))
      have s2:dI (dQ (aa 2)) (gN 6) eh [some (ah low),some (ah high),some (.ref k),some (.int p.1),some (.int p.2),some (.ref (h++g).length),b6] (h++g++[.lst []])=.nx [some (ah low),some (ah high),some (.ref k),some (.int p.1),some (.int p.2),some (.ref (h++g).length),c'] (h++g++[.lst ((gg (ij (l.take i)) p).map ah)]):=d8 (eF rfl (cE _ hk)) lp
      refine⟨_,rfl,_,_,(bi s1).trans ((bi s2).trans (aF rfl)),(h++g).length,g++[.lst ((gg (ij (l.take i)) p).map ah)],_,_,_,_,rfl,by rw [List.append_assoc],?_,by rw [List.length_append];exact Nat.le_add_right _ _⟩
      rw [ph hp];exact List.getElem?_concat_length) ⟨A,[.lst [.tup []]],none,none,none,none,rfl,rfl,by rw [List.take_zero];exact eG hA _,Nat.le_of_eq hA.symm⟩
  have l0:0 + (l.map fun p=>D.tup [.int p.1,.int p.2]).length=l.length:=by rw [List.length_map,Nat.zero_add]
  rw [l0,List.take_length] at e3
  rw [e1,e2] at q
  rw [e2] at e3
  refine⟨k,g,?_,e3,e4⟩
  exact (cJ rfl rfl ((bi (aF (fX hA (au (gS (xs:=[]) rfl (Nat.zero_le _)) rfl) (by exact of_decide_eq_true rfl)))).trans ((bi (d8 (zp _ _ _ _ _ _) q)).trans (bo rfl)))).trans bG
end Fm
set_option linter.all false
namespace Fm
theorem qw {G:Hd→Prop}{tg:GF}{cs:List TF}{e:EF}{h:Hd}(I:Sd→Prop)(p:D→Bool)(f:D→D)(hh:G h) :
    ∀ {xs:List D} {σ:Sd},(∀ x∈xs,∀ σ,I σ → ∃ σ',tg x σ = some σ'∧I σ'∧kB cs σ' h=.ok (p x) h∧(p x=true→e σ' h=.ok (f x) h))→I σ → gF G tg cs e xs σ h=.ok ((xs.filter p).map f) h
  | [],_,_,_=>by unfold gF;rw [if_pos hh];rfl
  | x :: xs,σ,st,i=>by
    obtain⟨σ',h1,h2,h3,h4⟩:=st x List.mem_cons_self σ i
    have ih:=qw I p f hh (xs:=xs) (σ := σ') (fun y hy=>st y (List.mem_cons_of_mem _ hy)) h2
    unfold gF
    rw [if_pos hh,h1]
    simp only [h3,aG]
    cases c:p x with
    | true=>rw [List.filter_cons_of_pos c,List.map_cons,h4 c];simp [ih]
    | false=>rw [List.filter_cons_of_neg (by rw [c];decide),ih];simp
def ek (ss:List (Option Int)):Nat:=(ss.filter fun o=>o.isNone).length
theorem Kf (ss:List (Option Int)):∀ k,((((List.range' k ss.length).zip (ss.map aZ)).map fun p=>D.tup [.int (p.1:Nat),p.2]).filter fun d=>match d with | .tup [_,x]=>nn x|_=>false).length=ek ss:=by
  induction ss with
  | nil=>intro k;rfl
  | cons o ss ih =>
    intro k
    rw [List.length_cons,List.range'_succ,List.map_cons,List.zip_cons_cons,List.map_cons]
    have ih:=ih (k + 1)
    unfold ek at ih ⊢
    cases o with
    | none =>
      rw [List.filter_cons_of_pos (by rfl),List.filter_cons_of_pos (by rfl),List.length_cons,List.length_cons,ih]
    | some v =>
      rw [List.filter_cons_of_neg (by show ¬ false=true;decide),List.filter_cons_of_neg (by show ¬ false=true;decide),ih]
section
variable {w:Web} {n:Nat}
theorem yy (W:w.Ok n)(hn:n≤30)(h:Hd):∃ l g,eK [w.enc] h=.ok (.ref (h++g).length) (h++g++[.lst l])∧l.length=ek w.stays:=by
  obtain⟨K,hK⟩ : ∃ K,K=h.length:=⟨_,rfl⟩
  have lz:(w.stays.map aZ).length≤SZ:=by rw [List.length_map,W.s];exact jB hn
  have so:cZ [w.enc] h=.ok (.ref h.length) (h++[.lst (w.stays.map aZ)]):=(cJ rfl rfl (bo (dw (d7 (bh rfl rfl rfl rfl) rfl) lz))).trans bG
  obtain⟨l,hl⟩ : ∃ l:List D,l=((jA (w.stays.map aZ)).filter fun d=>match d with | .tup [_,x]=>nn x|_=>false).map fun d=>match d with | .tup [x,_]=>x|_=>.non:=⟨_,rfl⟩
  have gK:(h++[.lst (w.stays.map aZ)])[h.length]? = some (.lst (w.stays.map aZ)):=List.getElem?_concat_length
  have cg:gF (fun h'=>h'[h.length]? = some (.lst (w.stays.map aZ))) (gT [0,1]) [(tE (af iY (aa 1) (fC .non)))] (aa 0) (jA (w.stays.map aZ)) [none,none] (h++[.lst (w.stays.map aZ)])=.ok l (h++[.lst (w.stays.map aZ)]):=by
    rw [hl]
    refine qw (I:=fun σ=>∃ a b,σ = [a,b]) _ _ gK (fun x hx σ ⟨a,b,e⟩ => ?_) ⟨_,_,rfl⟩
    subst e
    obtain⟨p,hp,rfl⟩:=List.mem_map.mp hx
    exact⟨_,rfl,⟨_,_,rfl⟩,o0 (bB (ak rfl rfl rfl)),fun _=>rfl⟩
  have cp:sV 2 [] (ao cZ (ad (aa 0) am)) (gT [0,1]) [(tE (af iY (aa 1) (fC .non)))] (aa 0) [some w.enc] h=.ok l (h++[.lst (w.stays.map aZ)]):=by
    have e:ao cZ (ad (aa 0) am) [some w.enc] h=.ok (.ref h.length) (h++[.lst (w.stays.map aZ)]):=aw (au rfl rfl) so
    unfold sV
    rw [e]
    simp only [gK]
    exact cg
  have ll:l.length=ek w.stays:=by
    rw [hl,List.length_map]
    have:=Kf w.stays 0
    rw [← List.range_eq_range'] at this
    rw [← this]
    unfold jA
    rw [List.length_map]
  refine⟨l,[.lst (w.stays.map aZ)],(cJ rfl rfl (bo (dw cp ?_))).trans bG,ll⟩
  rw [ll]
  exact Nat.le_trans (List.length_filter_le _ _) (by rw [W.s];exact jB hn)
end
end Fm
set_option linter.all false
namespace Fm
def Mv:D→List Int
  | .tup l=>l.map fun d=>match d with | .int i=>i|_=>0
  | _=>[]
theorem FI (s:List Int):Mv (ah s)=s:=by
  show (s.map D.int).map _=s
  rw [List.map_map];exact List.map_id' s
theorem GL {E:List (List Int)}{k:Nat}{t:TF}{cp:Sd}{h:Hd}(p:List Int→Bool)(hk:h[k]? = some (.lst (E.map ah)))(ht:∀ s∈E,t (some (ah s) :: cp) h=.ok (p s) h)(a:Option D):cx (some k) (E.map ah) (gN 0) [t] (aa 0) (E.map ah) (a :: cp) h=.ok ((E.filter p).map ah) h:=by
  have:=bM (g:=some k) (all:=E.map ah) (tg:=gN 0) (cs:=[t]) (e:=aa 0) (h:=h) (I:=fun σ=>∃ x,σ = x :: cp) (fun d=>p (Mv d)) (fun d=>d) hk (xs:=E.map ah) (σ:=a :: cp) (by
    rintro x hx σ ⟨u,rfl⟩
    obtain⟨s,hs,rfl⟩:=List.mem_map.mp hx
    refine⟨_,rfl,⟨_,rfl⟩,o0 ?_,fun _=>rfl⟩
    rw [FI];exact ht s hs) ⟨_,rfl⟩
  rw [this,List.map_id',List.filter_map]
  have e:((fun d=>p (Mv d)) ∘ ah)=p:=funext fun s=>by show p (Mv (ah s))=p s;rw [FI]
  rw [e]
theorem xr (ss:List (Option Int)):∀ k,k≤ss.length→(eL (ss.take k)).length≤2 ^ ek (ss.take k)
  | 0,_=>by rw [List.take_zero];exact Nat.le_refl _
  | k + 1,hk=>by
    have hk':k < ss.length:=hk
    obtain⟨o,ho⟩ : ∃ o,ss[k]? = some o:=⟨_,List.getElem?_eq_getElem hk'⟩
    have ih:=xr ss k (Nat.le_of_lt hk')
    have tk:ss.take (k + 1)=ss.take k++[o]:=by rw [List.take_succ,ho];rfl
    rw [lw ho,tk]
    unfold ek at ih ⊢
    rw [List.filter_append,List.length_append]
    generalize (eL (ss.take k))=E at ih ⊢
    generalize ((ss.take k).filter fun o=>o.isNone).length=m at ih ⊢
    have st:∀ (c:Nat) (E:List (List Int)),(∀ s,(Mu o s).length=c)→(gf E o).length=E.length * c:=fun c E hc=>by
      unfold gf
      induction E with
      | nil=>rw [List.flatMap_nil,List.length_nil,Nat.zero_mul]
      | cons s E ih=>rw [List.flatMap_cons,List.length_append,ih,hc,List.length_cons,Nat.succ_mul,Nat.add_comm]
    cases o with
    | none =>
      rw [st 2 E (fun s=>rfl)]
      show E.length * 2≤2 ^ (m + 1)
      rw [Nat.pow_succ];exact Nat.mul_le_mul_right 2 ih
    | some v =>
      rw [st 1 E (fun s=>rfl),Nat.mul_one];exact ih
theorem Dz (ss:List (Option Int))(k:Nat):ek (ss.take k)≤ek ss:=by
  unfold ek
  exact ((List.take_sublist k ss).filter _).length_le
structure Rr (w:Web) (n:Nat) (a:List Int):Prop where
  fit:c6 w n a
  rest:aS w n a=a
theorem yz {w:Web}{n:Nat}{ss:List (Option Int)}(W:w.Ok n)(wst:w.stays=ss)(ls:ss.length=n)(os:∀ x∈ss,x=none∨x=some 0∨x=some 1)(s:List Int):s∈eL ss ↔ c6 w n s:=by
  have:=sd os n (Nat.le_of_eq ls.symm) s
  rw [List.take_of_length_le (Nat.le_of_eq ls)] at this
  rw [this]
  constructor
  · intro k
    exact⟨k.len,k.op,fun i x e=>k.st i x (by rw [wst] at e;rw [← ls];exact (List.getElem?_eq_some_iff.mp e).1) (by rw [← wst];exact e)⟩
  · intro F
    exact⟨F.len,F.op,fun i x _ e=>F.st i x (by rw [wst];exact e)⟩
structure G23 (w:Web) (n:Nat) (lo hi:List Int):Prop where
  W:w.Ok n
  hn:n≤30
  S:cF w
  M:o5 w w n
  f12:ek w.stays≤12
  lo_is:∀ h,cD [w.enc] h=.ok (ah lo) h
  hi_is:∀ h,bH [w.enc] h=.ok (ah hi) h
  loF:c6 w n lo
  hiF:c6 w n hi
  le:LeS lo hi
  mid:∀ s,c6 w n s→aS w n (aS w n s)=s→LeS lo s∧LeS s hi
section
variable {w:Web} {n:Nat} {lo hi:List Int}
theorem G23.bd (G:G23 w n lo hi):Bd w.stays (lo.zip hi):=by
  have l1:=G.loF.len
  have l2:=G.hiF.len
  refine⟨by rw [List.length_zip,l1,l2,G.W.s];exact Nat.min_self n,fun p hp => ?_,fun i x p e1 e2 => ?_⟩
  · obtain⟨i,hi'⟩:=List.mem_iff_getElem?.mp hp
    obtain⟨h1,h2⟩:=List.getElem?_zip_eq_some.mp hi'
    have le:=G.le i
    rw [List.getD_eq_getElem?_getD,List.getD_eq_getElem?_getD,h1,h2] at le
    exact⟨G.loF.op _ (List.mem_of_getElem? h1),G.hiF.op _ (List.mem_of_getElem? h2),le⟩
  · obtain⟨h1,h2⟩:=List.getElem?_zip_eq_some.mp e2
    have a:=G.loF.st i x e1
    have b:=G.hiF.st i x e1
    rw [h1] at a
    rw [h2] at b
    exact Prod.ext (Option.some.inj a) (Option.some.inj b)
theorem G23.btw (G:G23 w n lo hi):ij (lo.zip hi)=(eL w.stays).filter (btw (lo.zip hi)):=by
  have:=lx G.S G.bd w.stays.length (Nat.le_refl _)
  rw [List.take_length,List.take_of_length_le (Nat.le_of_eq G.bd.len)] at this
  exact this
theorem G23.sz (G:G23 w n lo hi)(k:Nat)(hk:k≤(lo.zip hi).length):(ij ((lo.zip hi).take k)).length≤100000:=by
  have hk':k≤w.stays.length:=by rw [← G.bd.len];exact hk
  rw [lx G.S G.bd k hk']
  refine Nat.le_trans (List.length_filter_le _ _) (Nat.le_trans (xr w.stays k hk') ?_)
  exact Nat.le_trans (Nat.pow_le_pow_right (by decide) (Nat.le_trans (Dz _ _) G.f12)) (by decide)
theorem Pn {s:List Int}(l1:lo.length=n)(l2:hi.length=n)(l3:s.length=n)(a:LeS lo s)(b:LeS s hi):btw (lo.zip hi) s=true:=by
  unfold btw
  rw [List.all_eq_true]
  intro x hx
  obtain⟨i,hi'⟩:=List.mem_iff_getElem?.mp hx
  obtain⟨h1,h2⟩:=List.getElem?_zip_eq_some.mp hi'
  obtain⟨h3,h4⟩:=List.getElem?_zip_eq_some.mp h1
  have q1:=a i
  have q2:=b i
  rw [List.getD_eq_getElem?_getD,List.getD_eq_getElem?_getD,h3,h2] at q1
  rw [List.getD_eq_getElem?_getD,List.getD_eq_getElem?_getD,h2,h4] at q2
  rw [Bool.and_eq_true]
  exact⟨decide_eq_true q1,decide_eq_true q2⟩
theorem G23.pick (G:G23 w n lo hi)(p:List Int→Bool)(hp:∀ s,c6 w n s→p s=true→LeS lo s∧LeS s hi):(ij (lo.zip hi)).filter p=(eL w.stays).filter p:=by
  rw [G.btw,List.filter_filter]
  refine List.filter_congr fun s hs => ?_
  have F:=(yz G.W rfl G.W.s G.S s).mp hs
  cases c:p s with
  | false=>rfl
  | true =>
    obtain⟨a,b⟩:=hp s F c
    rw [Pn G.loF.len G.hiF.len F.len a b];rfl
theorem Kg (G:G23 w n lo hi)(h:Hd):∃ k g,cM [w.enc] h=.ok (.ref k) (h++g)∧(h++g)[k]? = some (.lst ((ij (lo.zip hi)).map ah))∧h.length≤k:=by
  obtain⟨l,g1,f1,f2⟩:=yy G.W G.hn h
  obtain⟨k,g,b1,b2,b3⟩:=tH (low:=lo) (high:=hi) (fun p hp=>⟨(G.bd.bit p hp).1,(G.bd.bit p hp).2.1⟩) (by rw [G.bd.len,G.W.s];exact G.hn) G.sz (h++g1++[.lst l])
  have s1:sIf (tE (af oGt (el (lOf (ao eK (ad (aa 0) am)))) (fC (.int 12)))) jX bD [some w.enc] h=.nx [some w.enc] (h++g1++[.lst l]) :=
    fW (bB (ak (iJ (d7 (aw (au rfl rfl) f1) (bg (eG rfl _)))) rfl (yr (by rw [f2];have:=G.f12;omega))))
  have s2:bc (ao bJ (ad (ao cD (ad (aa 0) am)) (ad (ao bH (ad (aa 0) am)) am))) [some w.enc] (h++g1++[.lst l])=.rt (.ref k) (h++g1++[.lst l]++g):=bo (aw (c5 (aw (au rfl rfl) (G.lo_is _)) (aw (au rfl rfl) (G.hi_is _))) b1)
  refine⟨k,g1++[.lst l]++g,?_,?_,?_⟩
  · have:=(cJ (np:=1) (n:=1) (ds:=[w.enc]) (h:=h) rfl rfl ((bi s1).trans s2)).trans bG
    rw [← List.append_assoc,← List.append_assoc]
    exact this
  · rw [← List.append_assoc,← List.append_assoc];exact b2
  · rw [List.length_append,List.length_append] at b3;omega
theorem FJ (G:G23 w n lo hi)(h:Hd):∃ k g,bF [w.enc] h=.ok (.ref k) (h++g)∧(h++g)[k]? = some (.lst ((ij (lo.zip hi)).map ah))∧h.length≤k:=by
  obtain⟨l,g1,f1,f2⟩:=yy G.W G.hn h
  obtain⟨k,g,b1,b2,b3⟩:=tH (low:=lo) (high:=hi) (fun p hp=>⟨(G.bd.bit p hp).1,(G.bd.bit p hp).2.1⟩) (by rw [G.bd.len,G.W.s];exact G.hn) G.sz (h++g1++[.lst l])
  have s1:qP (tE (af oGt (el (lOf (ao eK (ad (aa 0) am)))) (fC (.int 12)))) (sW "TooMuch") bD [some w.enc] h=.nx [some w.enc] (h++g1++[.lst l]) :=
    Dy (bB (ak (iJ (d7 (aw (au rfl rfl) f1) (bg (eG rfl _)))) rfl (yr (by rw [f2];have:=G.f12;omega))))
  have s2:bc (ao bJ (ad (ao cD (ad (aa 0) am)) (ad (ao bH (ad (aa 0) am)) am))) [some w.enc] (h++g1++[.lst l])=.rt (.ref k) (h++g1++[.lst l]++g):=bo (aw (c5 (aw (au rfl rfl) (G.lo_is _)) (aw (au rfl rfl) (G.hi_is _))) b1)
  refine⟨k,g1++[.lst l]++g,?_,?_,?_⟩
  · have:=(cJ (np:=1) (n:=1) (ds:=[w.enc]) (h:=h) rfl rfl ((bi s1).trans (Nw s2))).trans bG
    rw [← List.append_assoc,← List.append_assoc]
    exact this
  · rw [← List.append_assoc,← List.append_assoc];exact b2
  · rw [List.length_append,List.length_append] at b3;omega
abbrev TMx:D:=.exn "TooMuch" []
theorem FK (W:w.Ok n)(hn:n≤30)(f13:12 < ek w.stays)(h:Hd):∃ g,bF [w.enc] h=.exc TMx (h++g):=by
  obtain⟨l,g1,f1,f2⟩:=yy W hn h
  exact⟨g1++[.lst l],(Dx rfl rfl (FF (Ms (bB (ak (iJ (d7 (aw (au rfl rfl) f1) (bg (eG rfl _)))) rfl (Dg (by rw [f2];omega))))))).trans (by rw [List.append_assoc])⟩
end
end Fm
set_option linter.all false
namespace Fm
theorem Kh {nl:Nat}{caps:List Nat}{it:IF}{tg:GF}{cs:List TF}{e:EF}{σ:Sd}{h h1 h2:Hd}{l ds:List D}{g:Option Nat}(p:it σ h=.ok (l,g) h1)(q:cx g l tg cs e l (fQ nl caps σ) h1=.ok ds h2):oW nl caps it tg cs e σ h=.ok ds h2:=by
  simp only [oW,p,aG,q,noX]
theorem GM (l:List Int):fO (l.map D.int)=some l:=by
  induction l with
  | nil=>rfl
  | cons x l ih=>rw [List.map_cons,fO,ih];rfl
theorem Ki (a b:List Int)(h:Hd):qQ (ah a) (ah b) h=.ok (.bl (lexLt a b)) h:=by
  have:ltT (ah a) (ah b)=some (lexLt a b):=by
    unfold ah ltT
    simp only [GM]
  simp only [qQ,this]
section
variable {w:Web} {n:Nat} {lo hi:List Int}
def isR (w:Web) (n:Nat) (s:List Int):Bool:=decide (aS w n s=s)
def isP (w:Web) (n:Nat) (s:List Int):Bool:=lexLt s (aS w n s) && decide (aS w n (aS w n s)=s)
def gm (w:Web) (n:Nat) (s:List Int):D:=.tup [ah s,ah (aS w n s)]
theorem G23.mem (G:G23 w n lo hi){s:List Int}(h:s∈ij (lo.zip hi)):c6 w n s:=by
  rw [G.btw] at h
  exact (yz G.W rfl G.W.s G.S s).mp (List.mem_filter.mp h).1
theorem G23.rs (G:G23 w n lo hi):(ij (lo.zip hi)).filter (isR w n)=(eL w.stays).filter (isR w n):=G.pick _ fun s F e=>G.mid s F (by have:=of_decide_eq_true e;rw [this,this])
theorem G23.ps (G:G23 w n lo hi):(ij (lo.zip hi)).filter (isP w n)=(eL w.stays).filter (isP w n):=G.pick _ fun s F e=>by
  unfold isP at e
  rw [Bool.and_eq_true] at e
  exact G.mid s F (of_decide_eq_true e.2)
theorem G23.zB (G:G23 w n lo hi):(ij (lo.zip hi)).length≤100000:=by
  have:=G.sz (lo.zip hi).length (Nat.le_refl _)
  rwa [List.take_length] at this
theorem xt (G:G23 w n lo hi){h:Hd}{k:Nat}(hk:h[k]? = some (.lst ((ij (lo.zip hi)).map ah))):cx (some k) ((ij (lo.zip hi)).map ah) (gN 0) [(tE (af oEq (ao a0 (ad (aa 1) (ad (aa 0) am))) (aa 0)))] (aa 0) ((ij (lo.zip hi)).map ah) [none,some w.enc] h=.ok (((eL w.stays).filter (isR w n)).map ah) h:=by
  rw [← G.rs]
  exact GL (cp:=[some w.enc]) (isR w n) hk (fun s hs=>bB (ak (aw (c5 rfl rfl) (fu G.W (G.mem hs) h)) rfl (nK (by rw [(G.mem hs).len];simp [aS]) h))) none
theorem zR (G:G23 w n lo hi):(((eL w.stays).filter (isR w n)).map ah).length≤SZ:=by
  rw [List.length_map,← G.rs]
  exact Nat.le_trans (List.length_filter_le _ _) (Nat.le_trans G.zB (by decide))
theorem Kj (G:G23 w n lo hi)(h:Hd):∃ g,mh [w.enc] h=.ok (.ref (h++g).length) (h++g++[.lst (((eL w.stays).filter (isR w n)).map ah)]):=by
  obtain⟨k,g,t1,hk,_⟩:=Kg G h
  exact⟨g,(cJ rfl rfl (bo (dw (eE (eF (aw (au rfl rfl) t1) hk) (xt G hk)) (zR G)))).trans bG⟩
theorem GN (G:G23 w n lo hi)(h:Hd):∃ d g,iQ [w.enc] h=.ok d (h++g):=by
  obtain⟨k,g,t1,hk,_⟩:=FJ G h
  exact⟨_,g++[.lst (((eL w.stays).filter (isR w n)).map ah)],((cJ rfl rfl (bo (dw (Kh (eF (aw (qv (au rfl rfl)) t1) hk) (xt G hk)) (zR G)))).trans bG).trans (by rw [List.append_assoc])⟩
theorem FM (W:w.Ok n){A:Nat}{s:List Int}(F:c6 w n s)(F2:c6 w n (aS w n s)){X:List D}{H:Hd}(hA:H[A]? = some (.lst X))(lX:X.length < SZ)(c:Option D) :
    tG [some w.enc,some (.ref A),some (ah s),c] H=.nx [some w.enc,some (.ref A),some (ah s),some (ah (aS w n s))] (if isP w n s then H.set A (.lst (X++[gm w n s])) else H):=by
  have s1:aE (gN 3) (ao a0 (ad (aa 0) (ad (aa 2) am))) [some w.enc,some (.ref A),some (ah s),c] H=.nx [some w.enc,some (.ref A),some (ah s),some (ah (aS w n s))] H:=aF (aw (c5 rfl rfl) (fu W F H))
  have t1:tE (af qQ (aa 2) (aa 3)) [some w.enc,some (.ref A),some (ah s),some (ah (aS w n s))] H=.ok (lexLt s (aS w n s)) H:=bB (ak rfl rfl (Ki _ _ H))
  have t2:tE (af oEq (ao a0 (ad (aa 0) (ad (aa 3) am))) (aa 2)) [some w.enc,some (.ref A),some (ah s),some (ah (aS w n s))] H=.ok (decide (aS w n (aS w n s)=s)) H:=bB (ak (aw (c5 rfl rfl) (fu W F2 H)) rfl (nK (by rw [F.len];simp [aS]) H))
  have t:jx (tE (af qQ (aa 2) (aa 3))) (tE (af oEq (ao a0 (ad (aa 0) (ad (aa 3) am))) (aa 2))) [some w.enc,some (.ref A),some (ah s),some (ah (aS w n s))] H=.ok (isP w n s) H:=by
    unfold isP
    cases c:lexLt s (aS w n s) with
    | true=>rw [c] at t1;rw [Bool.true_and];exact oY t1 t2
    | false=>rw [c] at t1;rw [Bool.false_and];exact yp t1
  refine (bi s1).trans ?_
  cases c:isP w n s with
  | true =>
    rw [c] at t
    rw [if_pos rfl]
    exact (mj t).trans (eX (jn rfl hA (gS (c5 rfl rfl)) hA lX))
  | false =>
    rw [c] at t
    rw [if_neg (by decide)]
    exact fW t
theorem tI {B:SF}{A k:Nat}{h g:Hd}(hA:A=h.length){E:List (List Int)}(lE:E.length≤100000)(hk:∀ X,(h++(.lst X :: g))[k]? = some (.lst (E.map ah)))
    (hB:∀ s∈E,∀ (X:List D) (H:Hd) (c:Option D),H[A]? = some (.lst X)→X.length < SZ→B [some w.enc,some (.ref A),some (ah s),c] H=.nx [some w.enc,some (.ref A),some (ah s),some (ah (aS w n s))] (if isP w n s then H.set A (.lst (X++[gm w n s])) else H)) :
    ∃ a b,gc (some k) (E.map ah) (gN 2) B (E.map ah) [some w.enc,some (.ref A),none,none] (h++(.lst [] :: g))=.nx [some w.enc,some (.ref A),a,b] (h++(.lst ((E.filter (isP w n)).map (gm w n)) :: g)):=by
  obtain⟨σ',h',q,a,b,e1,e2⟩:=ce (P:=fun i σ h'=>∃ a b,σ = [some w.enc,some (.ref A),a,b]∧h'=h++(.lst (((E.take i).filter (isP w n)).map (gm w n)) :: g)) (g:=some k) (k:=0) (all:=E.map ah) (fun i σ h' ⟨_,_,_,e⟩=>by show h'[k]? = _;rw [e];exact hk _)
    (xs:=E.map ah) (tg:=gN 2) (σ:=[some w.enc,some (.ref A),none,none]) (h:=h++(.lst [] :: g)) (b:=B) (by
      rintro i x σ h0 hx ⟨a,b,rfl,rfl⟩
      rw [Nat.zero_add]
      have hx':E[i]?.map ah=some x:=by rw [← List.getElem?_map];exact hx
      obtain⟨s,hs,rfl⟩:=Option.map_eq_some_iff.mp hx'
      have gA:(h++(.lst (((E.take i).filter (isP w n)).map (gm w n)) :: g))[A]? = some (.lst (((E.take i).filter (isP w n)).map (gm w n))):=cI hA 0
      have lX:(((E.take i).filter (isP w n)).map (gm w n)).length < SZ:=by
        rw [List.length_map]
        exact Nat.lt_of_le_of_lt (Nat.le_trans (List.length_filter_le _ _) (Nat.le_trans (List.length_take_le' _ _) lE)) (by decide)
      have tk:E.take (i + 1)=E.take i++[s]:=by rw [List.take_succ,hs];rfl
      refine⟨_,rfl,_,_,hB s (List.mem_of_getElem? hs) _ _ b gA lX,_,_,rfl,?_⟩
      rw [tk,List.filter_append,List.map_append]
      cases c:isP w n s with
      | true =>
        rw [if_pos rfl,List.filter_cons_of_pos c]
        exact i5 hA 0 _
      | false=>rw [if_neg (by decide),List.filter_cons_of_neg (by rw [c];decide),List.filter_nil,List.map_nil,List.append_nil]) ⟨_,_,rfl,by rw [List.take_zero];rfl⟩
  have l0:0 + (E.map ah).length=E.length:=by rw [List.length_map,Nat.zero_add]
  rw [l0,List.take_length] at e2
  rw [e1,e2] at q
  exact⟨a,b,q⟩
theorem FN {h g:Hd}{k:Nat}{c:cX}(lk:(h++[cX.lst []]).length≤k)(hk:(h++[.lst []]++g)[k]? = some c)(X:List D):(h++(.lst X :: g))[k]? = some c:=by
  rw [List.getElem?_append_right lk] at hk
  rw [List.length_append] at lk hk
  have lk:h.length + 1≤k:=lk
  rw [List.getElem?_append_right (Nat.le_of_succ_le lk)]
  have:k - h.length=(k - (h.length + 1)) + 1:=by omega
  rw [this,List.getElem?_cons_succ]
  exact hk
theorem Kk (G:G23 w n lo hi)(h:Hd):∃ g,ka [w.enc] h=.ok (.ref h.length) (h++(.lst (((eL w.stays).filter (isP w n)).map (gm w n)) :: g)):=by
  obtain⟨A,hA⟩ : ∃ A,A=h.length:=⟨_,rfl⟩
  obtain⟨k,g,t1,hk,lk⟩:=Kg G (h++[.lst []])
  obtain⟨a,b,lp⟩:=tI (w:=w) (n:=n) (B:=tG) (A:=A) hA G.zB (fun X=>FN lk hk X) fun s hs X H c e1 e2=>FM G.W (G.mem hs) (im G.W G.S (G.mem hs)) e1 e2 c
  rw [G.ps] at lp
  have ap:h++[.lst []]++g=h++(.lst [] :: g):=by rw [List.append_assoc];rfl
  rw [ap] at t1 hk
  refine⟨g,?_⟩
  rw [← hA]
  exact (cJ rfl rfl ((bi (aF (fX hA (xs:=[]) rfl (Nat.zero_le _)))).trans ((bi (d8 (eF (aw (au rfl rfl) t1) hk) lp)).trans (bo rfl)))).trans bG
theorem GO (G:G23 w n lo hi)(h:Hd):∃ d g,iR [w.enc] h=.ok d (h++g):=by
  obtain⟨A,hA⟩ : ∃ A,A=h.length:=⟨_,rfl⟩
  obtain⟨k,g,t1,hk,lk⟩:=FJ G (h++[.lst []])
  obtain⟨a,b,lp⟩:=tI (w:=w) (n:=n) (B:=aC (sPl (aE (gN 3) (ao a0 (ad (aa 0) (ad (aa 2) am)))))
    (sPl (sIf (jx (tE (af qQ (aa 2) (aa 3))) (tE (af oEq (ao a0 (ad (aa 0) (ad (aa 3) am))) (aa 2)))) (eV (jf (aa 1) (fj (ad (aa 2) (ad (aa 3) am))))) bD))) (A:=A) hA G.zB (fun X=>FN lk hk X) fun s hs X H c e1 e2=>by
      have q:=FM G.W (G.mem hs) (im G.W G.S (G.mem hs)) e1 e2 c
      have s1:aE (gN 3) (ao a0 (ad (aa 0) (ad (aa 2) am))) [some w.enc,some (.ref A),some (ah s),c] H=.nx [some w.enc,some (.ref A),some (ah s),some (ah (aS w n s))] H:=aF (aw (c5 rfl rfl) (fu G.W (G.mem hs) H))
      exact (bi (FH s1)).trans (FH ((bi s1).symm.trans q))
  have ap:h++[.lst []]++g=h++(.lst [] :: g):=by rw [List.append_assoc];rfl
  rw [ap] at t1 hk
  refine⟨.ref A,.lst (((ij (lo.zip hi)).filter (isP w n)).map (gm w n)) :: g,?_⟩
  exact (cJ rfl rfl ((bi (FH (aF (fX hA (xs:=[]) rfl (Nat.zero_le _))))).trans ((bi (d8 (eF (aw (qv (au rfl rfl)) t1) hk) lp)).trans (Nw (bo rfl))))).trans bG
end
end Fm
set_option linter.all false
namespace Fm
def BL (j:Int):List D:=((List.range 9).map fun k:Nat=>D.bl (decide ((k:Int)=j)))++[.bl true]
theorem Kl (j:Int)(h:Hd):∃ k g,ja [.int j] h=.ok (.ref k) (h++g)∧(h++g)[k]? = some (.lst (BL j)):=by
  obtain⟨A,hA⟩ : ∃ A,A=h.length:=⟨_,rfl⟩
  obtain⟨L9,hL9⟩ : ∃ L9:List D,L9=(List.range 9).map fun k:Nat=>D.bl (decide ((k:Int)=j)):=⟨_,rfl⟩
  have l9:L9.length=9:=by rw [hL9,List.length_map,List.length_range]
  have cp:cx none ((List.range 9).map fun k:Nat=>D.int k) (gN 0) [] (af oEq (aa 0) (aa 1)) ((List.range 9).map fun k:Nat=>D.int k) [none,some (.int j)] h=.ok L9 h:=by
    have:=bM (g:=none) (all:=(List.range 9).map fun k:Nat=>D.int k) (tg:=gN 0) (cs:=[]) (e:=af oEq (aa 0) (aa 1)) (h:=h) (I:=fun σ=>∃ x,σ = [x,some (.int j)]) (fun _=>true) (fun d=>match d with | .int i=>.bl (decide (i=j))|_=>.non) trivial (xs:=(List.range 9).map fun k:Nat=>D.int k) (σ:=[none,some (.int j)]) (by
      rintro x hx σ ⟨u,rfl⟩
      obtain⟨i,hi,rfl⟩:=List.mem_map.mp hx
      exact⟨_,rfl,⟨_,rfl⟩,rfl,fun _=>rfl⟩) ⟨_,rfl⟩
    rw [this,List.filter_eq_self.mpr (fun _ _=>rfl),List.map_map,hL9];rfl
  have e1:aX (bN 1 [0] (bw (fC (.int 9))) (gN 0) [] (af oEq (aa 0) (aa 1))) [some (.int j)] h=.ok (.ref A) (h++[.lst L9]):=fX hA (eE (cY (n:=9) rfl (by decide)) cp) (by rw [l9];decide)
  have e2:aX (ad (fC (.bl true)) am) [some (.int j)] (h++[.lst L9])=.ok (.ref (A + 1)) (h++[.lst L9,.lst [.bl true]]):=gB (g:=[.lst L9]) hA (au rfl rfl) (by exact of_decide_eq_true rfl)
  have e3:kD (aX (bN 1 [0] (bw (fC (.int 9))) (gN 0) [] (af oEq (aa 0) (aa 1)))) (aX (ad (fC (.bl true)) am)) [some (.int j)] h=.ok (L9++[.bl true]) (h++[.lst L9,.lst [.bl true]]):=r6 e1 e2 (cI hA 0) (cI hA 1) (by rw [l9];decide)
  refine⟨A + 2,[.lst L9,.lst [.bl true],.lst (L9++[.bl true])],?_,(cI hA 2).trans (by rw [hL9];rfl)⟩
  exact (cJ rfl rfl (bo (gB (g:=[.lst L9,.lst [.bl true]]) hA e3 (by rw [List.length_append,l9];decide)))).trans bG
theorem Km:eqL (BL 2) (BL 2)=some true:=by
  simp [BL,eqL,gQ,peq,kO,dep,List.range,List.range.loop]
theorem yA {h:Hd}{a c:Nat}{l k:List D}{b:Bool}(h1:h[a]? = some (.lst l))(h2:h[c]? = some (.lst k))(e:eqL l k=some b):oEq (.ref a) (.ref c) h=.ok (.bl b) h:=by
  simp only [oEq,eqG,eY,h1,h2,e]
theorem Kn (h:Hd):iq [.non] h=.ok (.ref h.length) (h++[.lst []]) :=
  (cJ rfl rfl (AY ((mj (bB (ak (x:=.non) rfl rfl rfl))).trans (bo (dw (xs:=[]) rfl (Nat.zero_le _)))))).trans bG
theorem Ko (h:Hd):∃ k g,iq [TMx] h=.ok (.ref k) (h++g)∧(h++g)[k]? = some (.lst (BL 2)):=by
  obtain⟨A,hA⟩ : ∃ A,A=h.length:=⟨_,rfl⟩
  obtain⟨x,hx⟩ : ∃ x:D,x=TMx:=⟨_,rfl⟩
  have l0 : [("TooMuch",false)].lookup "TooMuch" = some false:=by decide
  have l1 : [("TooMuch",true)].lookup "TooMuch" = some true:=by decide
  have iX:∀ {tb:List (String × Bool)} {b:Bool} (y:Option D) (g:Hd),tb.lookup "TooMuch" = some b→ge tb (aa 0) [some x,y] g=.ok (.bl b) g:=fun y g q=>Pm (c := "TooMuch") (l:=[]) (by rw [hx];rfl) q
  have bl:BL 2=[.bl false,.bl false,.bl true]++[.bl false,.bl false,.bl false]++[.bl false,.bl false,.bl false]++[.bl true]:=rfl
  have s0:sIf (tE (af iY (aa 0) (fC .non))) (bc (aX am)) bD [some x,none] h=.nx [some x,none] h:=fW (bB (ak (x:=x) rfl rfl (by rw [hx];rfl)))
  obtain⟨C0,hC0⟩ : ∃ C0:cX,C0=.lst [.bl false,.bl false,.bl true]:=⟨_,rfl⟩
  obtain⟨C1,hC1⟩ : ∃ C1:cX,C1=.lst [.bl false,.bl false,.bl false]:=⟨_,rfl⟩
  obtain⟨C2,hC2⟩ : ∃ C2:cX,C2=.lst ([.bl false,.bl false,.bl true]++[.bl false,.bl false,.bl false]):=⟨_,rfl⟩
  obtain⟨C4,hC4⟩ : ∃ C4:cX,C4=.lst ([.bl false,.bl false,.bl true]++[.bl false,.bl false,.bl false]++[.bl false,.bl false,.bl false]):=⟨_,rfl⟩
  obtain⟨C5,hC5⟩ : ∃ C5:cX,C5=.lst [.bl true]:=⟨_,rfl⟩
  have s1:aE (gN 1) (aX (ad (ge [("TooMuch",false)] (aa 0)) (ad (ge [("TooMuch",false)] (aa 0)) (ad (ge [("TooMuch",true)] (aa 0)) am)))) [some x,none] h=.nx [some x,some (.ref A)] (h++[C0]):=by
    rw [hC0];exact aF (fX hA (au (iX _ _ l0) (c5 (iX _ _ l0) (iX _ _ l1))) (by exact of_decide_eq_true rfl))
  have n3:∀ (k:Nat) (g:Hd),aX (ad (ge [("TooMuch",false)] (aa 0)) (ad (ge [("TooMuch",false)] (aa 0)) (ad (ge [("TooMuch",false)] (aa 0)) am))) [some x,some (.ref k)] (h++g)=.ok (.ref (A + g.length)) (h++(g++[C1])):=fun k g=>by
    rw [hC1];exact gB hA (au (iX _ _ l0) (c5 (iX _ _ l0) (iX _ _ l0))) (by exact of_decide_eq_true rfl)
  have s2:aE (gN 1) (aX (kD (aa 1) (aX (ad (ge [("TooMuch",false)] (aa 0)) (ad (ge [("TooMuch",false)] (aa 0)) (ad (ge [("TooMuch",false)] (aa 0)) am)))))) [some x,some (.ref A)] (h++[C0])=.nx [some x,some (.ref (A + 2))] (h++[C0,C1,C2]):=by
    rw [hC2]
    exact aF (gB (g:=[C0,C1]) hA (r6 rfl (n3 A [C0]) (by rw [hC0];exact cI hA 0) (by rw [hC1];exact cI hA 1) (by exact of_decide_eq_true rfl)) (by exact of_decide_eq_true rfl))
  have s3:aE (gN 1) (aX (kD (aa 1) (aX (ad (ge [("TooMuch",false)] (aa 0)) (ad (ge [("TooMuch",false)] (aa 0)) (ad (ge [("TooMuch",false)] (aa 0)) am)))))) [some x,some (.ref (A + 2))] (h++[C0,C1,C2])=.nx [some x,some (.ref (A + 4))] (h++[C0,C1,C2,C1,C4]):=by
    rw [hC4]
    exact aF (gB (g:=[C0,C1,C2,C1]) hA (r6 rfl (n3 (A + 2) [C0,C1,C2]) (by rw [hC2];exact cI hA 2) (by rw [hC1];exact cI hA 3) (by exact of_decide_eq_true rfl)) (by exact of_decide_eq_true rfl))
  have n1:aX (ad (ge [("TooMuch",true)] (aa 0)) am) [some x,some (.ref (A + 4))] (h++[C0,C1,C2,C1,C4])=.ok (.ref (A + 5)) (h++[C0,C1,C2,C1,C4,C5]):=by
    rw [hC5];exact gB (g:=[C0,C1,C2,C1,C4]) hA (au (iX _ _ l1) rfl) (by exact of_decide_eq_true rfl)
  have s4:bc (aX (kD (aa 1) (aX (ad (ge [("TooMuch",true)] (aa 0)) am)))) [some x,some (.ref (A + 4))] (h++[C0,C1,C2,C1,C4])=.rt (.ref (A + 6)) (h++[C0,C1,C2,C1,C4,C5,.lst (BL 2)]):=by
    rw [bl]
    exact bo (gB (g:=[C0,C1,C2,C1,C4,C5]) hA (r6 rfl n1 (by rw [hC4];exact cI hA 4) (by rw [hC5];exact cI hA 5) (by exact of_decide_eq_true rfl)) (by exact of_decide_eq_true rfl))
  refine⟨A + 6,[C0,C1,C2,C1,C4,C5,.lst (BL 2)],?_,cI hA 6⟩
  rw [← hx]
  exact (cJ (σ:=[some x,none]) rfl rfl ((bi s0).trans ((bi s1).trans ((bi s2).trans ((bi s3).trans s4))))).trans bG
section
variable {w:Web} {n:Nat} {lo hi:List Int}
theorem Mw {it:IF}{tg:GF}{b:SF}{σ:Sd}{h h':Hd}{x:D}(p:it σ h=.exc x h'):dI it tg b σ h=.exc x σ h':=by simp only [dI,p]
theorem Bl {e:EF}{σ:Sd}{h h':Hd}{x:D}(p:e σ h=.exc x h'):dQ e σ h=.exc x h':=by
  show Res.bind _ _=_;rw [p];rfl
theorem GP (W:w.Ok n)(hn:n≤30)(f13:12 < ek w.stays)(h:Hd):∃ g,iQ [w.enc] h=.exc TMx (h++g):=by
  obtain⟨g,q⟩:=FK W hn f13 h
  refine⟨g,Dx (σ:=[some w.enc]) (σ':=[some w.enc]) rfl rfl ?_⟩
  have e:=Bl (nO (F:=bF) (σ:=[some w.enc]) (qv (au (a:=aa 0) (r:=am) rfl rfl)) q)
  show outE _ _ _=_
  have:aX (oW 1 [0] (dQ (ao bF (fPl (ad (aa 0) am)))) (gN 0) [(tE (af oEq (ao a0 (ad (aa 1) (ad (aa 0) am))) (aa 0)))] (aa 0)) [some w.enc] h=.exc TMx (h++g):=by
    show Res.bind (Res.bind _ _) _=_
    rw [e];rfl
  rw [this];rfl
theorem GQ (W:w.Ok n)(hn:n≤30)(f13:12 < ek w.stays)(h:Hd):∃ g,iR [w.enc] h=.exc TMx (h++g):=by
  obtain⟨g,q⟩:=FK W hn f13 (h++[.lst []])
  have s1:sPl (aE (gN 1) (aX am)) [some w.enc,none,none,none] h=.nx [some w.enc,some (.ref h.length),none,none] (h++[.lst []]):=FH (aF (dw (xs:=[]) rfl (Nat.zero_le _)))
  refine⟨[.lst []]++g,(Dx (σ:=[some w.enc,none,none,none]) rfl rfl ((bi s1).trans (FF (Mw (Bl (nO (qv (au rfl rfl)) q)))))).trans (by rw [List.append_assoc])⟩
noncomputable abbrev REF:SF:=qP (tE (af oEq (aa 1) (fC (.int 0)))) (eV (ao iQ (fPl (ad (aa 0) am)))) (eV (ao iR (fPl (ad (aa 0) am))))
theorem DA (G:G23 w n lo hi){v:Int}(hv:v=0∨v=1)(h:Hd):∃ k g,cH [w.enc,.int v] h=.ok (.ref k) (h++g)∧(h++g)[k]? = some (.lst []):=by
  have t:∃ g,REF [some w.enc,some (.int v),some .non,none] h=.nx [some w.enc,some (.int v),some .non,none] (h++g):=by
    rcases hv with rfl|rfl
    · obtain⟨d,g,q⟩:=GN G h
      exact⟨g,(Nv (bB (ak rfl rfl (oZ rfl)))).trans (eX (aw (qv (au rfl rfl)) q))⟩
    · obtain⟨d,g,q⟩:=GO G h
      exact⟨g,(Dy (bB (ak rfl rfl (mV (by decide))))).trans (eX (aw (qv (au rfl rfl)) q))⟩
  obtain⟨g,t⟩:=t
  refine⟨(h++g).length,g++[.lst []],?_,?_⟩
  · exact ((cJ (σ:=[some w.enc,some (.int v),none,none]) rfl rfl ((bi (aF (d:=.non) rfl)).trans ((bi (Pk t)).trans (bo (aw (au rfl rfl) (Kn _)))))).trans bG).trans (by rw [List.append_assoc])
  · rw [← List.append_assoc];exact List.getElem?_concat_length
theorem tJ (W:w.Ok n)(hn:n≤30)(f13:12 < ek w.stays){v:Int}(hv:v=0∨v=1)(h:Hd):∃ k g,cH [w.enc,.int v] h=.ok (.ref k) (h++g)∧(h++g)[k]? = some (.lst (BL 2)):=by
  have t:∃ g,REF [some w.enc,some (.int v),some .non,none] h=.exc TMx [some w.enc,some (.int v),some .non,none] (h++g):=by
    rcases hv with rfl|rfl
    · obtain⟨g,q⟩:=GP W hn f13 h
      exact⟨g,(Nv (bB (ak rfl rfl (oZ rfl)))).trans (FG (nO (qv (au rfl rfl)) q))⟩
    · obtain⟨g,q⟩:=GQ W hn f13 h
      exact⟨g,(Dy (bB (ak rfl rfl (mV (by decide))))).trans (FG (nO (qv (au rfl rfl)) q))⟩
  obtain⟨g,t⟩:=t
  obtain⟨k,g',c1,c2⟩:=Ko (h++g)
  have s3:AV 4 2 ["TooMuch"] REF [some w.enc,some (.int v),some .non,none] h=.nx [none,none,some TMx,none] (h++g):=Pl t List.mem_cons_self
  refine⟨k,g++g',?_,?_⟩
  · exact ((cJ (σ:=[some w.enc,some (.int v),none,none]) rfl rfl ((bi (aF (d:=.non) rfl)).trans ((bi s3).trans (bo (aw (au rfl rfl) c1))))).trans bG).trans (by rw [List.append_assoc])
  · rw [← List.append_assoc];exact c2
end
end Fm
set_option linter.all false
namespace Fm
theorem Kq {w:Web}{n:Nat}(W:w.Ok n)(hn:n≤30)(S:cF w)(M:o5 w w n)(f12:ek w.stays≤12):∃ lo hi,G23 w n lo hi:=by
  obtain⟨t0,l0,e0⟩:=Be W S M
  obtain⟨t1,l1,e1⟩:=Bf W S M
  have F0:=o8 W S
  have F1:=o9 W S
  have two:∀ s,aS w n (aS w n s)=s → ∀ k,aK w n s (2 * k)=s:=fun s h k=>by
    induction k with
    | zero=>rfl
    | succ k ih =>
      show aS w n (aS w n (aK w n s (2 * k)))=s
      rw [ih,h]
  refine⟨aK w n (d9 w.stays) t0,aK w n (eu w.stays) t1,W,hn,S,M,f12,fun h=>u3 W S (by omega) e0 h,fun h=>u4 W S (by omega) e1 h,bO W S F0 t0,bO W S F1 t1,?_,fun s F h=>⟨?_,?_⟩⟩
  · have:=mf W W S S M F0 F1 (tw F1) (t0 + t1)
    rwa [eJ e0 _ (Nat.le_add_right _ _),eJ e1 _ (Nat.le_add_left _ _)] at this
  · have:=mf W W S S M F0 F (tw F) (2 * t0)
    rwa [eJ e0 _ (by omega),two s h] at this
  · have:=mf W W S S M F F1 (Bc W F) (2 * t1)
    rwa [eJ e1 _ (by omega),two s h] at this
section
variable {Z n:Nat} {M:Nat→Nat→Int} {bs:List Int} {ss:List (Option Int)} {bk sk:Nat} {h:Hd} {T:List Tie} {w:Web} {td S0:D}
noncomputable abbrev X23 (S0 td:D) (w:Web) (A:Nat) (a5 a6 a7 a8:Option D):Sd:=[some S0,some td,some w.enc,some (.ref A),some (.ref (A + 1)),a5,a6,a7,a8]
theorem Kr (tq:∀ (H:Hd) (s:List Int),Md Z n M bs ss bk sk H→c6 w n s→dz [td,ah s] H=.ok (ah (aS w n s)) H)(tf:∀ s,c6 w n s→c6 w n (aS w n s)){A:Nat}{s:List Int}(F:c6 w n s){X Y:List D}{H:Hd}(m:Md Z n M bs ss bk sk H)(hX:H[A]? = some (.lst X))(hY:H[A + 1]? = some (.lst Y))(lX:X.length < SZ)(lY:Y.length < SZ)(a6 a7 a8:Option D) :
    yw (X23 S0 td w A (some (ah s)) a6 a7 a8) H=.nx (X23 S0 td w A (some (ah s)) (some (ah (aS w n s))) a7 a8) (if isR w n s then H.set A (.lst (X++[ah s])) else if isP w n s then H.set (A + 1) (.lst (Y++[gm w n s])) else H):=by
  have F2:=tf s F
  have s1:aE (gN 6) (ao dz (ad (aa 1) (ad (aa 5) am))) (X23 S0 td w A (some (ah s)) a6 a7 a8) H=.nx (X23 S0 td w A (some (ah s)) (some (ah (aS w n s))) a7 a8) H:=aF (aw (c5 rfl rfl) (tq H s m F))
  have t0:tE (af oEq (aa 6) (aa 5)) (X23 S0 td w A (some (ah s)) (some (ah (aS w n s))) a7 a8) H=.ok (isR w n s) H:=bB (ak rfl rfl (nK (by rw [F.len,F2.len]) H))
  have t1:tE (af qQ (aa 5) (aa 6)) (X23 S0 td w A (some (ah s)) (some (ah (aS w n s))) a7 a8) H=.ok (lexLt s (aS w n s)) H:=bB (ak rfl rfl (Ki _ _ H))
  have t2:tE (af oEq (ao dz (ad (aa 1) (ad (aa 6) am))) (aa 5)) (X23 S0 td w A (some (ah s)) (some (ah (aS w n s))) a7 a8) H=.ok (decide (aS w n (aS w n s)=s)) H:=bB (ak (aw (c5 rfl rfl) (tq H _ m F2)) rfl (nK (by rw [(tf _ F2).len,F.len]) H))
  have t:jx (tE (af qQ (aa 5) (aa 6))) (tE (af oEq (ao dz (ad (aa 1) (ad (aa 6) am))) (aa 5))) (X23 S0 td w A (some (ah s)) (some (ah (aS w n s))) a7 a8) H=.ok (isP w n s) H:=by
    unfold isP
    cases c:lexLt s (aS w n s) with
    | true=>rw [c] at t1;rw [Bool.true_and];exact oY t1 t2
    | false=>rw [c] at t1;rw [Bool.false_and];exact yp t1
  refine (bi s1).trans ?_
  cases c0:isR w n s with
  | true =>
    rw [c0] at t0
    rw [if_pos rfl]
    exact (mj t0).trans (eX (jn rfl hX rfl hX lX))
  | false =>
    rw [c0] at t0
    rw [if_neg (by decide)]
    refine (fW t0).trans ?_
    cases c:isP w n s with
    | true =>
      rw [c] at t
      rw [if_pos rfl]
      exact (mj t).trans (eX (jn rfl hY (gS (c5 rfl rfl)) hY lY))
    | false =>
      rw [c] at t
      rw [if_neg (by decide)]
      exact fW t
theorem Ks (tq:∀ (H:Hd) (s:List Int),Md Z n M bs ss bk sk H→c6 w n s→dz [td,ah s] H=.ok (ah (aS w n s)) H)(tf:∀ s,c6 w n s→c6 w n (aS w n s)){A k:Nat}{g:Hd}(hA:A=h.length)(m:Md Z n M bs ss bk sk h){E:List (List Int)}(hE:∀ s∈E,c6 w n s)(lE:E.length≤100000)(hk:∀ X Y,(h++(.lst X :: .lst Y :: g))[k]? = some (.lst (E.map ah)))(a7 a8:Option D) :
    ∃ a b,gc (some k) (E.map ah) (gN 5) yw (E.map ah) (X23 S0 td w A none none a7 a8) (h++(.lst [] :: .lst [] :: g))=.nx (X23 S0 td w A a b a7 a8) (h++(.lst ((E.filter (isR w n)).map ah) :: .lst ((E.filter (isP w n)).map (gm w n)) :: g)):=by
  obtain⟨σ',h',q,a,b,e1,e2⟩:=ce (P:=fun i σ h'=>∃ a b,σ = X23 S0 td w A a b a7 a8∧h'=h++(.lst (((E.take i).filter (isR w n)).map ah) :: .lst (((E.take i).filter (isP w n)).map (gm w n)) :: g)) (g:=some k) (k:=0) (all:=E.map ah) (fun i σ h' ⟨_,_,_,e⟩=>by show h'[k]? = _;rw [e];exact hk _ _)
    (xs:=E.map ah) (tg:=gN 5) (σ:=X23 S0 td w A none none a7 a8) (h:=h++(.lst [] :: .lst [] :: g)) (b:=yw) (by
      rintro i x σ h0 hx ⟨a,b,rfl,rfl⟩
      rw [Nat.zero_add]
      have hx':E[i]?.map ah=some x:=by rw [← List.getElem?_map];exact hx
      obtain⟨s,hs,rfl⟩:=Option.map_eq_some_iff.mp hx'
      have F:=hE s (List.mem_of_getElem? hs)
      obtain⟨X,hX⟩ : ∃ X,X=((E.take i).filter (isR w n)).map ah:=⟨_,rfl⟩
      obtain⟨Y,hY⟩ : ∃ Y,Y=((E.take i).filter (isP w n)).map (gm w n):=⟨_,rfl⟩
      have lX:X.length < SZ:=by
        rw [hX,List.length_map]
        exact Nat.lt_of_le_of_lt (Nat.le_trans (List.length_filter_le _ _) (Nat.le_trans (List.length_take_le' _ _) lE)) (by decide)
      have lY:Y.length < SZ:=by
        rw [hY,List.length_map]
        exact Nat.lt_of_le_of_lt (Nat.le_trans (List.length_filter_le _ _) (Nat.le_trans (List.length_take_le' _ _) lE)) (by decide)
      have tk:E.take (i + 1)=E.take i++[s]:=by rw [List.take_succ,hs];rfl
      rw [← hX,← hY]
      refine⟨_,rfl,_,_,Kr tq tf F (m.more _) (cI hA 0) (cI hA 1) lX lY b a7 a8,_,_,rfl,?_⟩
      rw [tk,List.filter_append,List.map_append,List.filter_append,List.map_append,← hX,← hY]
      have fp:∀ {q:List Int→Bool},q s=true→[s].filter q=[s]:=fun e=>by rw [List.filter_cons_of_pos e];rfl
      have fn:∀ {q:List Int→Bool},q s=false→[s].filter q=[]:=fun e=>by rw [List.filter_cons_of_neg (by rw [e];decide)];rfl
      cases c0:isR w n s with
      | true =>
        have c1:isP w n s=false:=by
          unfold isP
          have e:aS w n s=s:=of_decide_eq_true c0
          rw [e,j0];rfl
        rw [if_pos rfl,fp c0,fn c1,List.map_nil,List.append_nil]
        exact i5 hA 0 _
      | false =>
        rw [if_neg (by decide),fn c0,List.map_nil,List.append_nil]
        cases c1:isP w n s with
        | true =>
          rw [if_pos rfl,fp c1]
          exact i5 hA 1 _
        | false=>rw [if_neg (by decide),fn c1,List.map_nil,List.append_nil]) ⟨_,_,rfl,by rw [List.take_zero];rfl⟩
  have l0:0 + (E.map ah).length=E.length:=by rw [List.length_map,Nat.zero_add]
  rw [l0,List.take_length] at e2
  rw [e1,e2] at q
  exact⟨a,b,q⟩
end
end Fm
set_option linter.all false
namespace Fm
theorem Kt (t:Tie)(T:List Tie)(i:Nat):nbs (t :: T) i=(match far i t with|some j=>[(j,t.w)] | none=>[])++nbs T i:=by
  unfold nbs
  rw [List.filterMap_cons]
  cases far i t<;>rfl
theorem xu (i:Nat):∀ T:List Tie,((nbs T i).map (·.2)).sum=mw T i
  | []=>rfl
  | t :: T=>by
    have ih:=xu i T
    rw [Kt,List.map_append,List.sum_append,ih]
    have:mw (t :: T) i=wOf i t + mw T i:=by simp [mw]
    rw [this]
    congr 1
    unfold far wOf
    by_cases a:t.a=i
    · simp [a]
    · by_cases b:t.b=i
      · simp [a,b]
      · simp [a,b]
def Bm (n:Nat) (T:List Tie) (b:D) (bs:List Int) (h:Hd):Prop:=(b=.non∧bs=(List.range n).map (mw T)) ∨ ∃ k,b=.ref k∧h[k]? = some (.lst (bs.map .int))∧bs.length=n
def tK (n:Nat) (b:D) (ss:List (Option Int)) (h:Hd):Prop:=(b=.non∧ss=List.replicate n none) ∨ ∃ k,b=.ref k∧h[k]? = some (.lst (ss.map aZ))∧ss.length=n ∧ ∀ x∈ss,x=none∨x=some 0∨x=some 1
theorem u5 {n A:Nat}{h0 h:Hd}{T:List Tie}(N:NH n A h0 T h){b:D}{bs:List Int}(B:Bm n T b bs h):df [.ref (A + n),b] h=.ok (.tup (bs.map .int)) h:=by
  have lg:=dk (h:=h) (g:=[]) (d:=.tup (bs.map D.int)) (by simp only [pure?];exact fx fun _ _=>rfl)
  rw [List.append_nil] at lg
  have rf:=N.rf
  rcases B with ⟨rfl,e⟩|⟨bk,rfl,hb,lb⟩
  · have comp:cx (some (A + n)) ((List.range n).map fun i=>.ref (A + i)) (gN 0) [] (nF (aa 0)) ((List.range n).map fun i=>.ref (A + i)) [none] h=.ok (bs.map .int) h:=by
      have:=bM (g:=some (A + n)) (all:=(List.range n).map fun i=>.ref (A + i)) (tg:=gN 0) (cs:=[]) (e:=nF (aa 0)) (h:=h) (I:=fun σ=>∃ a,σ = [a]) (fun _=>true)
        (fun d=>match d with | .ref k=>.int (mw T (k - A))|_=>.non) N.rf (xs:=(List.range n).map fun i=>.ref (A + i)) (σ:=[none]) (by
          rintro x hx σ ⟨a,rfl⟩
          obtain⟨i,hi,rfl⟩:=List.mem_map.mp hx
          have hi:=List.mem_range.mp hi
          refine⟨_,rfl,⟨_,rfl⟩,rfl,fun _ => ?_⟩
          have es:(((nbs T i).map qS).map fun x=>x.getD 1 0).sum=mw T i:=by
            rw [← xu,List.map_map];rfl
          simp only [List.set_cons_zero,nF,aa,slot,List.getElem?_cons_zero,aG,N.dc i hi,j7,es,Nat.add_sub_cancel_left]) ⟨_,rfl⟩
      rw [this,List.filter_eq_self.mpr (by simp),List.map_map,e,List.map_map]
      congr 1
      apply List.map_congr_left
      intro i _
      simp
    have s1:sIf (tE (af iY (aa 1) (fC .non))) (bc (dP (bN 1 [] (dQ (aa 0)) (gN 0) [] (nF (aa 0))))) bD [some (.ref (A + n)),some .non] h=.rt (.tup (bs.map .int)) h:=by
      generalize nF (aa 0)=E at comp ⊢
      simp [-List.map_map,rf,comp]
    have st:([D.ref (A + n),D.non].map some++List.replicate (2 - [D.ref (A + n),D.non].length) none:Sd)=[some (.ref (A + n)),some .non]:=rfl
    unfold df bE runB
    rw [if_pos (show [D.ref (A + n),D.non].length=2 from rfl),st,Fw s1]
    exact lg
  · have c:cx (some bk) (bs.map D.int) (gN 0) [] (ao cL (ad (aa 0) am)) (bs.map D.int) [none] h=.ok ((bs.map D.int).map fun _=>D.bl true) h:=by
      have:=bM (g:=some bk) (all:=bs.map D.int) (tg:=gN 0) (cs:=[]) (e:=ao cL (ad (aa 0) am)) (h:=h) (I:=fun σ=>∃ a,σ = [a]) (fun _=>true) (fun _=>.bl true) hb (xs:=bs.map D.int) (σ:=[none]) (by
        rintro x hx σ ⟨a,rfl⟩
        obtain⟨i,_,rfl⟩:=List.mem_map.mp hx
        exact⟨_,rfl,⟨_,rfl⟩,rfl,fun _=>by simp [nJ]⟩) ⟨_,rfl⟩
      rw [this,List.filter_eq_self.mpr (by simp)]
    have s1:sIf (tE (af iY (aa 1) (fC .non))) (bc (dP (bN 1 [] (dQ (aa 0)) (gN 0) [] (nF (aa 0))))) bD [some (.ref (A + n)),some (.ref bk)] h=.nx [some (.ref (A + n)),some (.ref bk)] h:=by simp
    have s2:sIf (tOr (eD (tE (fP .list (aa 1)))) (tE (af oNe (el (lOf (aa 1))) (el (lOf (aa 0)))))) jX bD [some (.ref (A + n)),some (.ref bk)] h=.nx [some (.ref (A + n)),some (.ref bk)] h:=by
      simp [-oNe,-eqG,hb,rf,lb,Qu]
    have s3:sIf (eD (tE (CO (bN 1 [] (dQ (aa 1)) (gN 0) [] (ao cL (ad (aa 0) am)))))) jX bD [some (.ref (A + n)),some (.ref bk)] h=.nx [some (.ref (A + n)),some (.ref bk)] h:=by
      generalize (ao cL (ad (aa 0) am))=E at c ⊢
      simp [-List.map_map,hb,c,xj]
    have s4:bc (dP (lOf (aa 1))) [some (.ref (A + n)),some (.ref bk)] h=.rt (.tup (bs.map .int)) h:=by simp [hb]
    have st:([D.ref (A + n),D.ref bk].map some++List.replicate (2 - [D.ref (A + n),D.ref bk].length) none:Sd)=[some (.ref (A + n)),some (.ref bk)]:=rfl
    unfold df bE runB
    rw [if_pos (show [D.ref (A + n),D.ref bk].length=2 from rfl),st,aI s1,aI s2,aI s3,s4]
    exact lg
theorem tL {n:Nat}(hn:n≤30){h:Hd}{b:D}{ss:List (Option Int)}(B:tK n b ss h):cS [.int n,b] h=.ok (.tup (ss.map aZ)) h:=by
  rcases B with ⟨rfl,e⟩|⟨sk,rfl,hs,ls,os⟩
  · have lg:=dk (h:=h) (g:=[]) (d:=.tup (ss.map aZ)) (by simp only [pure?];exact fx fun x _=>by cases x<;>rfl)
    rw [List.append_nil] at lg
    have comp:cx none ((List.range n).map fun k:Nat=>D.int k) (gN 0) [] (fC .non) ((List.range n).map fun k:Nat=>D.int k) [none] h=.ok (ss.map aZ) h:=by
      have:=bM (g:=none) (all:=(List.range n).map fun k:Nat=>D.int k) (tg:=gN 0) (cs:=[]) (e:=fC .non) (h:=h) (I:=fun σ=>∃ a,σ = [a]) (fun _=>true) (fun _=>.non) trivial (xs:=(List.range n).map fun k:Nat=>D.int k) (σ:=[none]) (by
        rintro x hx σ ⟨a,rfl⟩
        exact⟨_,rfl,⟨_,rfl⟩,rfl,fun _=>rfl⟩) ⟨_,rfl⟩
      rw [this,List.filter_eq_self.mpr (by simp),List.map_map,e,List.map_replicate]
      congr 1
      apply List.ext_getElem<;>simp [aZ]
    have z1:(n:Int)≤1000000:=by omega
    have z2 : -1000000≤(n:Int):=by omega
    have s1:sIf (tE (af iY (aa 1) (fC .non))) (bc (dP (bN 1 [] (bw (aa 0)) (gN 0) [] (fC .non)))) bD [some (.int n),some .non] h=.rt (.tup (ss.map aZ)) h:=by
      generalize ht:bN 1 [] (bw (aa 0)) (gN 0) [] (fC .non)=C
      have:C [some (.int n),some .non] h=.ok (ss.map aZ) h:=by
        rw [← ht]
        have e2:bw (aa 0) [some (.int n),some .non] h=.ok ((List.range n).map fun k:Nat=>D.int k,none) h:=by simp [z1,z2]
        generalize bw (aa 0)=I at e2 ⊢
        simp only [bN,e2,aG]
        exact comp
      simp [this]
    have st:([D.int n,D.non].map some++List.replicate (2 - [D.int n,D.non].length) none:Sd)=[some (.int n),some .non]:=rfl
    unfold cS bE runB
    rw [if_pos (show [D.int n,D.non].length=2 from rfl),st,Fw s1]
    exact lg
  · exact uZ hs ls os
theorem Bm.more {n:Nat}{T:List Tie}{b:D}{bs:List Int}{h:Hd}(B:Bm n T b bs h)(g:Hd):Bm n T b bs (h++g):=by
  rcases B with e|⟨k,e1,e2,e3⟩
  · exact .inl e
  · exact .inr ⟨k,e1,by rw [List.getElem?_append_left (List.getElem?_eq_some_iff.mp e2).1];exact e2,e3⟩
theorem tK.more {n:Nat}{b:D}{ss:List (Option Int)}{h:Hd}(B:tK n b ss h)(g:Hd):tK n b ss (h++g):=by
  rcases B with e|⟨k,e1,e2,e3⟩
  · exact .inl e
  · exact .inr ⟨k,e1,by rw [List.getElem?_append_left (List.getElem?_eq_some_iff.mp e2).1];exact e2,e3⟩
theorem tM {n:Nat}(hn1:1≤n)(hn:n≤30){T:List Tie}(O:TOk n n 0 T){bs:List Int}{ss:List (Option Int)}{h:Hd}{tk:Nat}{b s:D}
    (ht:h[tk]? = some (.lst (T.map cT))) (hb:Bm n T b bs h) (hs:tK n s ss h):dA [.int n,.ref tk,b,s] h=.ok (fy n T bs ss).enc h:=by
  obtain⟨h1,r1,N⟩:=uY hn1 hn O ht
  obtain⟨A,hA⟩ : ∃ A,A=h.length:=⟨_,rfl⟩
  rw [← hA] at r1 N
  obtain⟨g,hg,lg⟩:=N.pre
  have old:∀ {k:Nat} {c:cX},h[k]? = some c→h1[k]? = some c:=fun {k c} e=>by rw [hg,List.getElem?_append_left (List.getElem?_eq_some_iff.mp e).1];exact e
  have comp:cx (some (A + n)) ((List.range n).map fun i=>.ref (A + i)) (gN 0) [] (dP (lc (aa 0))) ((List.range n).map fun i=>.ref (A + i)) [none] h1=.ok (((List.range n).map fun i=>gG (nbs T i)).map qR) h1:=by
    have:=bM (g:=some (A + n)) (all:=(List.range n).map fun i=>.ref (A + i)) (tg:=gN 0) (cs:=[]) (e:=dP (lc (aa 0))) (h:=h1) (I:=fun σ=>∃ a,σ = [a]) (fun _=>true)
      (fun d=>match d with | .ref k=>qR (gG (nbs T (k - A)))|_=>.non) N.rf (xs:=(List.range n).map fun i=>.ref (A + i)) (σ:=[none]) (by
        rintro x hx σ ⟨a,rfl⟩
        obtain⟨i,hi,rfl⟩:=List.mem_map.mp hx
        have hi:=List.mem_range.mp hi
        refine⟨_,rfl,⟨_,rfl⟩,rfl,fun _ => ?_⟩
        have nd:=Pd O.un i
        have l64:((nbs T i).map qS).length < 64:=by
          have lt:∀ p∈nbs T i,p.1 < n:=fun p hp=>by
            unfold nbs at hp
            obtain⟨t,ht',q⟩:=List.mem_filterMap.mp hp
            have:=O.lt t ht'
            unfold far at q
            by_cases a1:t.a=i
            · rw [if_pos a1] at q;simp at q;subst q;exact this.2
            · rw [if_neg a1] at q
              by_cases a2:t.b=i
              · rw [if_pos a2] at q;simp at q;subst q;exact this.1
              · rw [if_neg a2] at q;cases q
          have:=Pc nd (n:=n) (fun x hx=>by
            obtain⟨p,hp,rfl⟩:=List.mem_map.mp hx
            exact lt p hp)
          simp at this ⊢
          omega
        have e:((dv ((nbs T i).map qS)).map ym)=(gG (nbs T i)).map De:=by rw [← xh,List.map_map];rfl
        simp only [List.set_cons_zero,dP,lc,aa,slot,List.getElem?_cons_zero,aG,N.dc i hi,j7,if_pos (And.intro l64 (Ml nd)),e,qR,Nat.add_sub_cancel_left]) ⟨_,rfl⟩
    rw [this,List.filter_eq_self.mpr (by simp),List.map_map,List.map_map]
    congr 1
    apply List.map_congr_left
    intro i _
    simp
  have bt:=u5 N (hg ▸ hb.more g)
  have stt:=tL hn (hg ▸ hs.more g)
  have i1:(1:Int)≤n:=by omega
  have i2:(n:Int)≤30:=by omega
  have rf:=N.rf
  have s1:sIf (eD (tE (ao bx (ad (aa 0) (ad (fC (.int 1)) (ad (fC (.int 30)) am)))))) jX bD [some (.int n),some (.ref tk),some b,some s,none,none] h=.nx [some (.int n),some (.ref tk),some b,some s,none,none] h:=by simp [iK,i1,i2,hn1]
  have s2:aE (gN 4) (ao dM (ad (aa 0) (ad (aa 1) am))) [some (.int n),some (.ref tk),some b,some s,none,none] h=.nx [some (.int n),some (.ref tk),some b,some s,some (.ref (A + n)),none] h1:=by simp [r1]
  have s3:aE (gN 5) (dP (bN 1 [] (dQ (aa 4)) (gN 0) [] (dP (lc (aa 0))))) [some (.int n),some (.ref tk),some b,some s,some (.ref (A + n)),none] h1=.nx [some (.int n),some (.ref tk),some b,some s,some (.ref (A + n)),some (.tup (((List.range n).map fun i=>gG (nbs T i)).map qR))] h1:=by
    generalize (dP (lc (aa 0)))=E at comp ⊢
    simp [-List.map_map,rf,comp]
  have s4:bc (fj (ad (aa 5) (ad (ao df (ad (aa 4) (ad (aa 2) am))) (ad (ao cS (ad (aa 0) (ad (aa 3) am))) am)))) [some (.int n),some (.ref tk),some b,some s,some (.ref (A + n)),some (.tup (((List.range n).map fun i=>gG (nbs T i)).map qR))] h1=.rt (fy n T bs ss).enc h1:=by
    simp [-List.map_map,bt,stt,SZ,fy,Web.enc]
  have st:([D.int n,D.ref tk,b,s].map some++List.replicate (6 - [D.int n,D.ref tk,b,s].length) none:Sd)=[some (.int n),some (.ref tk),some b,some s,none,none]:=rfl
  unfold dA bE runB
  rw [if_pos (show [D.int n,D.ref tk,b,s].length=4 from rfl),st,aI s1,aI s2,aI s3,s4]
  show letGo h (.ok _ h1)=_
  rw [hg]
  exact dk (A3 _)
end Fm
set_option linter.all false
namespace Fm
section
variable {Z n:Nat} {M:Nat→Nat→Int} {bs:List Int} {ss:List (Option Int)} {bk sk:Nat} {h:Hd}
theorem Ku (m:Md Z n M bs ss bk sk h){T:List Tie}(q:fA [.tup [.ref (Z + n),.ref bk,.ref sk]] h=.ok (.ref h.length) (h++[.lst (T.map cT)]))(L:LP n M n 0 T) :
    ip [.tup [.ref (Z + n),.ref bk,.ref sk]] h=.ok (fy n T bs ss).enc h:=by
  have n30:=m.n30
  obtain⟨td,htd⟩ : ∃ td:D,td=.tup [.ref (Z + n),.ref bk,.ref sk]:=⟨_,rfl⟩
  have f1:∀ g,fAt (aa 0) (fC (.int 1)) [some td] g=.ok (.ref bk) g:=fun g=>by
    rw [htd];exact (bh rfl rfl rfl rfl)
  have f2:∀ g,fAt (aa 0) (fC (.int 2)) [some td] g=.ok (.ref sk) g:=fun g=>by
    rw [htd];exact (bh rfl rfl rfl rfl)
  obtain⟨h1,hh1⟩ : ∃ h1,h1=h++[cX.lst (T.map cT)]:=⟨_,rfl⟩
  have m1:Md Z n M bs ss bk sk h1:=by rw [hh1];exact m.more _
  obtain⟨h2,hh2⟩ : ∃ h2,h2=h1++[cX.lst (bs.map .int)]:=⟨_,rfl⟩
  have m2:Md Z n M bs ss bk sk h2:=by rw [hh2];exact m1.more _
  obtain⟨h3,hh3⟩ : ∃ h3,h3=h2++[cX.lst (ss.map aZ)]:=⟨_,rfl⟩
  have old1:∀ {k:Nat} {x:cX},h1[k]? = some x→h3[k]? = some x:=fun {k x} e=>by
    have z:=(List.getElem?_eq_some_iff.mp e).1
    rw [hh3,hh2,List.append_assoc,List.getElem?_append_left z];exact e
  have g1:h3[h.length]? = some (.lst (T.map cT)):=old1 (by rw [hh1];simp)
  have g2:h3[h1.length]? = some (.lst (bs.map .int)):=by rw [hh3,hh2];exact cE _ List.getElem?_concat_length
  have g3:h3[h2.length]? = some (.lst (ss.map aZ)):=by rw [hh3];simp
  have wq:=tM m.n1 n30 L.ok g1 (.inr ⟨_,rfl,g2,m.lb⟩) (.inr ⟨_,rfl,g3,m.ls,m.os⟩)
  have lb:(bs.map D.int).length≤SZ:=by rw [List.length_map,m.lb];exact (jB n30)
  have ls:(ss.map aZ).length≤SZ:=by rw [List.length_map,m.ls];exact (jB n30)
  have ba:=m.ba
  have ba1:=m1.ba
  have st2:=m2.st
  rw [← htd,← hh1] at q
  have r:ao dA (ad (el (lOf (fAt (aa 0) (fC (.int 1))))) (ad (ao fA (ad (aa 0) am)) (ad (aX (lOf (fAt (aa 0) (fC (.int 1))))) (ad (aX (lOf (fAt (aa 0) (fC (.int 2))))) am)))) [some td] h=.ok (fy n T bs ss).enc h3:=by
    have e1:aX (lOf (fAt (aa 0) (fC (.int 1)))) [some td] h1=.ok (.ref h1.length) h2:=by rw [hh2];exact dw (d7 (f1 _) (bg ba1)) lb
    have e2:aX (lOf (fAt (aa 0) (fC (.int 2)))) [some td] h2=.ok (.ref h2.length) h3:=by rw [hh3];exact dw (d7 (f2 _) (bg st2)) ls
    have e3:el (lOf (fAt (aa 0) (fC (.int 1)))) [some td] h=.ok (.int n) h:=by
      have:=iJ (d7 (f1 h) (bg ba))
      rwa [List.length_map,m.lb] at this
    exact aw (au e3 (au (aw (au rfl rfl) q) (au e1 (au e2 rfl)))) wq
  have fin:letGo h (.ok (fy n T bs ss).enc h3)=.ok (fy n T bs ss).enc h:=by
    rw [hh3,hh2,hh1,List.append_assoc,List.append_assoc];exact dk (A3 _)
  rw [← htd]
  unfold ip bE runB
  rw [if_pos (by rfl)]
  show letGo h (match outE (ao dA _ [some td] h) _ _ with | .nx _ h=>_ | .rt d h=>_ | .exc x _ h=>_|_=>_)=_
  rw [r]
  exact fin
end
def qx (n:Nat) (x:Int):List Tie:=(List.range (n - 1)).map fun k=>⟨k,k + 1,x⟩
theorem Mx {n:Nat}{x:Int}(hn:n≤30)(hx:1≤x∧x≤400):TOk n n 0 (qx n x):=by
  have mem:∀ t∈qx n x,∃ k,k < n - 1∧t=⟨k,k + 1,x⟩:=fun t ht=>by
    obtain⟨k,hk,rfl⟩:=List.mem_map.mp ht
    exact⟨k,List.mem_range.mp hk,rfl⟩
  refine⟨fun t ht => ?_,fun t ht => ?_,fun t ht => ?_,fun t ht => ?_,?_,?_⟩
  · obtain⟨k,_,rfl⟩:=mem t ht
    exact Nat.ne_of_lt (Nat.lt_succ_self k)
  · obtain⟨k,hk,rfl⟩:=mem t ht
    exact⟨by show k < n;omega,by show k + 1 < n;omega⟩
  · obtain⟨k,hk,rfl⟩:=mem t ht
    exact hx
  · obtain⟨k,hk,rfl⟩:=mem t ht
    exact .inl ⟨by show k < n;omega,by show k + 1 < n;omega⟩
  · unfold qx
    rw [List.pairwise_map]
    refine List.Pairwise.imp ?_ (List.nodup_range (n:=n - 1))
    intro a b ne
    exact⟨fun z=>ne z.1,fun z=>by have h1:a=b + 1:=z.1;have h2:a + 1=b:=z.2;omega⟩
  · unfold qx
    rw [List.length_map,List.length_range];omega
end Fm
set_option linter.all false
namespace Fm
theorem xv {v:Int}:∀ {ss:List (Option Int)} {p:Nat},ss[p]? = some none→ek (ss.set p (some v)) + 1=ek ss
  | [],_,h=>by cases h
  | o :: ss,0,h=>by
    cases h
    unfold ek
    rw [List.set_cons_zero,List.filter_cons_of_neg (by show ¬ false=true;decide),List.filter_cons_of_pos (by rfl),List.length_cons]
  | o :: ss,p + 1,h=>by
    have ih:=xv (v:=v) (ss:=ss) (p:=p) h
    unfold ek at ih ⊢
    rw [List.set_cons_succ]
    cases o with
    | none=>rw [List.filter_cons_of_pos (by rfl),List.filter_cons_of_pos (by rfl),List.length_cons,List.length_cons];omega
    | some x=>rw [List.filter_cons_of_neg (by show ¬ false=true;decide),List.filter_cons_of_neg (by show ¬ false=true;decide)];exact ih
structure HI (n:Nat) (q:Int) (j:Nat) (ss:List (Option Int)):Prop where
  len:ss.length=n
  fr:ek ss + j=n
  os:∀ x∈ss,x=none∨x=some 0∨x=some 1
  at':∀ p:Nat,p < n→(∀ i:Nat,i < j→(q + 5 * i) % n≠p)→ss[p]? = some none
theorem Kv (n:Nat)(q:Int):HI n q 0 (List.replicate n none):=by
  refine⟨List.length_replicate,?_,fun x hx=>.inl (List.eq_of_mem_replicate hx),fun p hp _ => ?_⟩
  · unfold ek
    rw [List.filter_eq_self.mpr (fun x hx=>by rw [List.eq_of_mem_replicate hx];rfl),List.length_replicate];rfl
  · rw [List.getElem?_replicate,if_pos hp]
theorem apart {n:Nat}(h1:13≤n)(h2:n≤16)(q:Int){i j:Nat}(hij:i < j)(hj:j + 12 < n):(q + 5 * (i:Int)) % n≠(q + 5 * (j:Int)) % n:=by
  have:n=13∨n=14∨n=15∨n=16:=by omega
  rcases this with rfl|rfl|rfl|rfl
  · omega
  · show (q + 5 * (i:Int)) % 14≠(q + 5 * (j:Int)) % 14;omega
  · show (q + 5 * (i:Int)) % 15≠(q + 5 * (j:Int)) % 15;omega
  · show (q + 5 * (i:Int)) % 16≠(q + 5 * (j:Int)) % 16;omega
theorem My {n:Nat}(h1:13≤n)(h2:n≤16){q:Int}{j:Nat}(hj:j + 12 < n){ss:List (Option Int)}(H:HI n q j ss){v:Int}(hv:v=0∨v=1){p:Nat}(hp:(q + 5 * (j:Int)) % n=p)(pn:p < n):HI n q (j + 1) (ss.set p (some v)):=by
  have np:ss[p]? = some none:=H.at' p pn fun i hi=>by rw [← hp];exact apart h1 h2 q hi hj
  refine⟨by rw [List.length_set];exact H.len,by have:=xv (v:=v) np;have:=H.fr;omega,fun x hx => ?_,fun p' hp' ne => ?_⟩
  · rcases List.mem_or_eq_of_mem_set hx with z|z
    · exact H.os x z
    · rw [z];rcases hv with rfl|rfl
      · exact .inr (.inl rfl)
      · exact .inr (.inr rfl)
  · have ne':p≠p':=fun z=>ne j (Nat.lt_succ_self j) (by rw [hp,z])
    rw [List.getElem?_set_ne ne']
    exact H.at' p' hp' fun i hi=>ne i (Nat.lt_succ_of_lt hi)
end Fm
set_option linter.all false
namespace Fm
theorem tN {n:Nat}{T:List Tie}(O:TOk n n 0 T){bs:List Int}{ss:List (Option Int)}(os:∀ x∈ss,x=none∨x=some 0∨x=some 1):o5 (fy n T bs ss) (fy n T bs ss) n:=by
  refine Mn os os (fun p hp a b _ B l=>qt B l fun q hq => ?_) (fun _ _=>Int.le_refl _) fun p _ => ?_
  · have e:(fy n T bs ss).ties.getD p [] = gG (nbs T p):=by simp [fy,List.getD,hp]
    rw [e] at hq
    have hq:=o4.mp hq
    unfold nbs at hq
    obtain⟨t,ht',z⟩:=List.mem_filterMap.mp hq
    have:=O.wt t ht'
    cases e:far p t with
    | none=>rw [e] at z;cases z
    | some j=>rw [e] at z;simp at z;subst z;simp only;omega
  · show (ss.getD p none=none∧ss.getD p none=none)∨ss.getD p none=some 0∨ss.getD p none=some 1
    by_cases h:p < ss.length
    · have:=os _ (List.getElem_mem h)
      rw [show ss.getD p none=ss[p] by simp [List.getD,h]]
      rcases this with e|e|e
      · exact .inl ⟨e,e⟩
      · exact .inr (.inl e)
      · exact .inr (.inr e)
    · left;simp [List.getD,List.getElem?_eq_none (show ss.length≤p by omega)]
theorem sf (x:Int){m:Nat}(hm:1≤m):∃ q:Nat,x % m=q∧q < m:=⟨(x % m).toNat,by have:=Int.emod_nonneg x (show (m:Int)≠0 by omega);omega,by have:=Int.emod_lt_of_pos x (show (0:Int) < m by omega);omega⟩
noncomputable abbrev XW (c:Int) (n f:Nat) (a3 a4 a5 a6:Option D):Sd:=[some (.int c),some (.int n),some (.int f),a3,a4,a5,a6]
theorem GR {c:Int}{n f:Nat}(h1:13≤n)(h2:n≤16)(f12:12≤f)(hf:f≤n){h:Hd}{A:Nat}(hA:A=h.length):∃ ss a,HI n (c / 12) (n - f) ss ∧
    dI (bw (af jV (aa 1) (aa 2))) (gN 4) pf (XW c n f (some (.ref A)) none none none) (h++[.lst ((List.replicate n none).map aZ)])=.nx (XW c n f (some (.ref A)) a none none) (h++[.lst (ss.map aZ)]):=by
  obtain⟨σ',h',q,ss,a,e1,e2,e3⟩:=ce (P:=fun i σ h'=>∃ ss a,σ = XW c n f (some (.ref A)) a none none∧h'=h++[.lst (ss.map aZ)]∧HI n (c / 12) i ss) (g:=none) (k:=0) (all:=(List.range (n - f)).map fun k:Nat=>D.int k) (fun _ _ _ _=>trivial)
    (xs:=(List.range (n - f)).map fun k:Nat=>D.int k) (tg:=gN 4) (σ:=XW c n f (some (.ref A)) none none none) (h:=h++[.lst ((List.replicate n none).map aZ)]) (b:=pf) (by
      rintro i x σ h0 hx ⟨ss,a,rfl,rfl,H⟩
      obtain⟨hi,rfl⟩:=dY hx
      rw [Nat.zero_add] at H ⊢
      obtain⟨p,hp,pn⟩:=sf (c / 12 + 5 * (i:Int)) (show 1≤n by omega)
      obtain⟨v,hv,v2⟩:=sf (c / 7) (show 1≤2 by omega)
      have gA:=eG hA (.lst (ss.map aZ))
      have ev:af bT (af fN (aa 0) (fC (.int 7))) (fC (.int 2)) (XW c n f (some (.ref A)) (some (.int (i:Nat))) none none) (h++[.lst (ss.map aZ)])=.ok (.int (v:Int)) (h++[.lst (ss.map aZ)]):=by
        rw [← hv];exact ak (ak rfl rfl (gj (by decide) (by decide))) rfl (cK (by decide))
      have ei:af bT (af cV (af fN (aa 0) (fC (.int 12))) (af cw (fC (.int 5)) (aa 4))) (aa 1) (XW c n f (some (.ref A)) (some (.int (i:Nat))) none none) (h++[.lst (ss.map aZ)])=.ok (.int (p:Int)) (h++[.lst (ss.map aZ)]):=by
        rw [← hp];exact ak (ak (ak rfl rfl (gj (by decide) (by decide))) (ak rfl rfl (ma (by decide))) rfl) rfl (cK (by omega))
      refine⟨_,rfl,_,_,(sZ ev rfl ei gA (rY (by rw [List.length_map,H.len];exact pn))),ss.set p (some (v:Int)),some (.int (i:Nat)),rfl,?_,My h1 h2 (by omega) H (by omega) hp pn⟩
      rw [i6 hA,List.map_set];rfl) ⟨_,_,rfl,rfl,Kv n _⟩
  have l0:0 + ((List.range (n - f)).map fun k:Nat=>D.int k).length=n - f:=by rw [List.length_map,List.length_range,Nat.zero_add]
  rw [l0] at e3
  rw [e1,e2] at q
  refine⟨ss,a,e3,?_⟩
  have sb:af jV (aa 1) (aa 2) (XW c n f (some (.ref A)) none none none) (h++[.lst ((List.replicate n none).map aZ)])=.ok (.int ((n:Int) - f)) (h++[.lst ((List.replicate n none).map aZ)]):=ak rfl rfl rfl
  have it:bw (af jV (aa 1) (aa 2)) (XW c n f (some (.ref A)) none none none) (h++[.lst ((List.replicate n none).map aZ)])=.ok ((List.range (n - f)).map (fun k:Nat=>D.int k),none) (h++[.lst ((List.replicate n none).map aZ)]):=by
    have e:((n:Int) - f)=((n - f:Nat):Int):=by omega
    rw [e] at sb
    exact cY sb (by omega)
  exact d8 it q
end Fm
set_option linter.all false
namespace Fm
theorem GS {n:Nat}(c:Int){x:Int}(hx:1 + c % 3=x)(h:Hd):cx none ((List.range (n - 1)).map fun k:Nat=>D.int k) (gN 0) [] (fj (ad (aa 0) (ad (af cV (aa 0) (fC (.int 1))) (ad (af cV (fC (.int 1)) (af bT (aa 1) (fC (.int 3)))) am)))) ((List.range (n - 1)).map fun k:Nat=>D.int k) [none,some (.int c)] h=.ok ((qx n x).map cT) h:=by
  have:=bM (g:=none) (all:=(List.range (n - 1)).map fun k:Nat=>D.int k) (tg:=gN 0) (cs:=[]) (e:=fj (ad (aa 0) (ad (af cV (aa 0) (fC (.int 1))) (ad (af cV (fC (.int 1)) (af bT (aa 1) (fC (.int 3)))) am)))) (h:=h) (I:=fun σ=>∃ a,σ = [a,some (.int c)]) (fun _=>true) (fun d=>match d with | .int i=>.tup [.int i,.int (i + 1),.int x] | _=>.non) trivial (xs:=(List.range (n - 1)).map fun k:Nat=>D.int k) (σ:=[none,some (.int c)]) (by
    rintro d hd σ ⟨u,rfl⟩
    obtain⟨j,hj,rfl⟩:=List.mem_map.mp hd
    refine⟨_,rfl,⟨_,rfl⟩,rfl,fun _ => ?_⟩
    show fj _ [some (.int (j:Int)),some (.int c)] h=.ok (.tup [.int (j:Int),.int ((j:Int) + 1),.int x]) h
    rw [← hx]
    exact gS (au rfl (c5 (ak rfl rfl rfl) (ak rfl (ak rfl rfl (cK (by decide))) rfl)))) ⟨_,rfl⟩
  rw [this,List.filter_eq_self.mpr (fun _ _=>rfl),List.map_map]
  unfold qx
  rw [List.map_map];rfl
theorem Mz (c:Int)(h:Hd):lu [.int c] h=.ok (.bl true) h:=by
  obtain⟨A,hA⟩ : ∃ A,A=h.length:=⟨_,rfl⟩
  obtain⟨r4,hr4,l4⟩:=sf c (show 1≤4 by omega)
  obtain⟨r2,hr2,l2⟩:=sf (c / 4) (show 1≤2 by omega)
  obtain⟨n,hn⟩ : ∃ n:Nat,n=13 + r4:=⟨_,rfl⟩
  obtain⟨f,hf⟩ : ∃ f:Nat,f=12 + r2:=⟨_,rfl⟩
  obtain⟨x,hx⟩ : ∃ x:Int,1 + c % 3=x:=⟨_,rfl⟩
  have n1:13≤n:=by omega
  have n2:n≤16:=by omega
  have n30:n≤30:=by omega
  have en:(13:Int) + c % 4=n:=by rw [hn,show c % 4=r4 from hr4];omega
  have ef:(12:Int) + c / 4 % 2=f:=by rw [hf,show c / 4 % 2=r2 from hr2];omega
  have s1:aE (gN 1) (af cV (fC (.int 13)) (af bT (aa 0) (fC (.int 4)))) [some (.int c),none,none,none,none,none,none] h=.nx [some (.int c),some (.int n),none,none,none,none,none] h:=by
    rw [← en];exact aF (ak rfl (ak rfl rfl (cK (by decide))) rfl)
  have s2:aE (gN 2) (af cV (fC (.int 12)) (af bT (af fN (aa 0) (fC (.int 4))) (fC (.int 2)))) [some (.int c),some (.int n),none,none,none,none,none] h=.nx [some (.int c),some (.int n),some (.int f),none,none,none,none] h:=by
    rw [← ef];exact aF (ak rfl (ak (ak rfl rfl (gj (by decide) (by decide))) rfl (cK (by decide))) rfl)
  have s3:aE (gN 3) (aX (oU (ad (fC .non) am) (aa 1))) (XW c n f none none none none) h=.nx (XW c n f (some (.ref A)) none none none) (h++[.lst ((List.replicate n none).map aZ)]):=by
    rw [List.map_replicate,hA];exact aF (JW n30 rfl)
  obtain⟨ss,a,H,s4⟩:=GR (c:=c) n1 n2 (show 12≤f by omega) (show f≤n by omega) hA
  obtain⟨T,hT⟩ : ∃ T,T=qx n x:=⟨_,rfl⟩
  have O:TOk n n 0 T:=by rw [hT];exact Mx n30 (by omega)
  have lT:(T.map cT).length≤SZ:=by rw [hT,List.length_map];unfold qx;rw [List.length_map,List.length_range];exact Nat.le_trans (Nat.sub_le _ _) (jB n30)
  have s5:aE (gN 5) (aX (bN 1 [0] (bw (af jV (aa 1) (fC (.int 1)))) (gN 0) [] (fj (ad (aa 0) (ad (af cV (aa 0) (fC (.int 1))) (ad (af cV (fC (.int 1)) (af bT (aa 1) (fC (.int 3)))) am)))))) (XW c n f (some (.ref A)) a none none) (h++[.lst (ss.map aZ)])=.nx (XW c n f (some (.ref A)) a (some (.ref (A + 1))) none) (h++[.lst (ss.map aZ),.lst (T.map cT)]):=by
    have sb:af jV (aa 1) (fC (.int 1)) (XW c n f (some (.ref A)) a none none) (h++[.lst (ss.map aZ)])=.ok (.int ((n - 1:Nat):Int)) (h++[.lst (ss.map aZ)]):=by
      rw [show ((n - 1:Nat):Int)=(n:Int) - 1 by omega];exact ak rfl rfl rfl
    rw [hT] at lT ⊢
    exact aF (gB (g:=[.lst (ss.map aZ)]) hA (eE (cY sb (by omega)) (GS c hx _)) lT)
  obtain⟨bs,hbs⟩ : ∃ bs,bs=(List.range n).map (mw T):=⟨_,rfl⟩
  obtain⟨w,hw⟩ : ∃ w,w=fy n T bs ss:=⟨_,rfl⟩
  obtain⟨h5,hh5⟩ : ∃ h5,h5=h++[.lst (ss.map aZ),.lst (T.map cT)]:=⟨_,rfl⟩
  have g0:h5[A]? = some (.lst (ss.map aZ)):=by rw [hh5];exact cI hA 0
  have g1:h5[A + 1]? = some (.lst (T.map cT)):=by rw [hh5];exact cI hA 1
  have lb:bs.length=n:=by rw [hbs,List.length_map,List.length_range]
  have wq:=tM (show 1≤n by omega) n30 O g1 (b:=.non) (.inl ⟨rfl,hbs⟩) (.inr ⟨A,rfl,g0,H.len,H.os⟩)
  rw [← hw] at wq
  rw [← hh5] at s5
  have s6:aE (gN 6) (ao dA (ad (aa 1) (ad (aa 5) (ad (fC .non) (ad (aa 3) am))))) (XW c n f (some (.ref A)) a (some (.ref (A + 1))) none) h5=.nx (XW c n f (some (.ref A)) a (some (.ref (A + 1))) (some w.enc)) h5:=aF (aw (au rfl (au rfl (c5 rfl rfl))) wq)
  have W:w.Ok n:=by rw [hw];exact Bb n30 O lb H.len
  have S:cF w:=by rw [hw];exact H.os
  have M:o5 w w n:=by rw [hw];exact tN O H.os
  have wst:w.stays=ss:=by rw [hw];rfl
  have fr:=H.fr
  have t7:tE (af oEq (aa 2) (fC (.int 12))) (XW c n f (some (.ref A)) a (some (.ref (A + 1))) (some w.enc)) h5=.ok (decide ((f:Int)=12)) h5:=bB (ak rfl rfl AX)
  suffices s7:∃ g,aC (sIf (tE (af oEq (aa 2) (fC (.int 12)))) (bc (fT (tOr (tE (af oGt (af bT (af fN (aa 0) (fC (.int 64))) (fC (.int 8))) (fC (.int 0)))) (tE (af oEq (ao cH (ad (aa 6) (ad (af bT (af fN (aa 0) (fC (.int 512))) (fC (.int 2))) am))) (aX am)))))) bD)
    (bc (fT (jx (tE (af oEq (ao cH (ad (aa 6) (ad (fC (.int 0)) am))) (ao ja (ad (fC (.int 2)) am)))) (tE (af oEq (ao cH (ad (aa 6) (ad (fC (.int 1)) am))) (ao ja (ad (fC (.int 2)) am))))))) (XW c n f (some (.ref A)) a (some (.ref (A + 1))) (some w.enc)) h5=.rt (.bl true) (h5++g) by
    obtain⟨g,s7⟩:=s7
    have hg:h5++g=h++([.lst (ss.map aZ),.lst (T.map cT)]++g):=by rw [hh5,List.append_assoc]
    rw [hg] at s7
    exact (cJ (σ:=[some (.int c),none,none,none,none,none,none]) rfl rfl ((bi s1).trans ((bi s2).trans ((bi s3).trans ((bi s4).trans ((bi s5).trans ((bi s6).trans s7))))))).trans (dk rfl)
  by_cases f12:f=12
  · have F12:ek w.stays≤12:=by rw [wst];omega
    obtain⟨lo,hi,G⟩:=Kq W n30 S M F12
    rw [decide_eq_true (by rw [f12];rfl)] at t7
    have t8:tE (af oGt (af bT (af fN (aa 0) (fC (.int 64))) (fC (.int 8))) (fC (.int 0))) (XW c n f (some (.ref A)) a (some (.ref (A + 1))) (some w.enc)) h5=.ok (decide (0 < c / 64 % 8)) h5:=bB (ak (ak (ak rfl rfl (gj (by decide) (by decide))) rfl (cK (by decide))) rfl rfl)
    by_cases c8:0 < c / 64 % 8
    · rw [decide_eq_true c8] at t8
      exact⟨[],AY ((mj t7).trans ((bo (qp (JJ t8))).trans (by rw [List.append_nil])))⟩
    · rw [decide_eq_false c8] at t8
      obtain⟨k,g,r1,r2⟩:=DA G (v:=c / 512 % 2) (by omega) h5
      have n2:aX am (XW c n f (some (.ref A)) a (some (.ref (A + 1))) (some w.enc)) (h5++g)=.ok (.ref (h5++g).length) (h5++g++[.lst []]):=dw (xs:=[]) rfl (Nat.zero_le _)
      have o:=yA (h:=h5++g++[.lst []]) (a:=k) (c:=(h5++g).length) (l:=[]) (k:=[]) (b:=true) (cE _ r2) (eG rfl _) (by unfold eqL;rw [if_pos (show kO []≤20 from Nat.zero_le _),if_pos rfl];rfl)
      exact⟨g++[.lst []],AY ((mj t7).trans ((bo (qp (nI t8 (bB (ak (aw (c5 rfl (ak (ak rfl rfl (gj (by decide) (by decide))) rfl (cK (by decide)))) r1) n2 o))))).trans (by rw [List.append_assoc])))⟩
  · have F13:12 < ek w.stays:=by rw [wst];omega
    rw [decide_eq_false (by omega)] at t7
    obtain⟨k,g,r1,r2⟩:=tJ W n30 F13 (v:=0) (.inl rfl) h5
    obtain⟨k',g',d1,d2⟩:=Kl 2 (h5++g)
    obtain⟨k2,g2,r3,r4⟩:=tJ W n30 F13 (v:=1) (.inr rfl) (h5++g++g')
    obtain⟨k3,g3,d3,d4⟩:=Kl 2 (h5++g++g'++g2)
    have o1:=yA (cE g' r2) d2 Km
    have o2:=yA (cE g3 r4) d4 Km
    exact⟨g++g'++g2++g3,(bi (fW t7)).trans ((bo (qp (oY (bB (ak (aw (c5 rfl rfl) r1) (aw (au rfl rfl) d1) o1)) (bB (ak (aw (c5 rfl rfl) r3) (aw (au rfl rfl) d3) o2))))).trans (by simp only [List.append_assoc]))⟩
end Fm
set_option linter.all false
namespace Fm
theorem GT (ss:List (List Int)):eqL (ss.map ah) (ss.map ah)=some true:=by
  have p:∀ l:List (List Int),gQ (l.map ah) (l.map ah)=some true:=fun l=>by
    induction l with
    | nil=>rfl
    | cons x l ih =>
      have h:=rZ (a:=x) (b:=x) rfl
      rw [decide_eq_true rfl] at h
      simp only [List.map_cons,gQ,ih,h];rfl
  have d:∀ l:List (List Int),kO (l.map ah)≤20:=fun l=>by
    induction l with
    | nil=>exact Nat.zero_le _
    | cons x l ih=>simp only [List.map_cons,kO,yt];exact Nat.max_le.mpr ⟨by decide,ih⟩
  unfold eqL
  rw [if_pos (d ss),if_pos rfl,p]
theorem Qy (w:Web)(n:Nat)(ss:List (List Int)):eqL (ss.map (gm w n)) (ss.map (gm w n))=some true:=by
  have pq:∀ x,peq (gm w n x) (gm w n x)=some true:=fun x=>by
    have h1:=rZ (a:=x) (b:=x) rfl
    have h2:=rZ (a:=aS w n x) (b:=aS w n x) rfl
    rw [decide_eq_true rfl] at h1 h2
    unfold gm
    simp only [peq,gQ,h1,h2];rfl
  have dq:∀ x,dep (gm w n x)≤20:=fun x=>by unfold gm;simp only [dep,kO,yt];decide
  have p:∀ l:List (List Int),gQ (l.map (gm w n)) (l.map (gm w n))=some true:=fun l=>by
    induction l with
    | nil=>rfl
    | cons x l ih=>simp only [List.map_cons,gQ,ih,pq];rfl
  have d:∀ l:List (List Int),kO (l.map (gm w n))≤20:=fun l=>by
    induction l with
    | nil=>exact Nat.zero_le _
    | cons x l ih=>simp only [List.map_cons,kO];exact Nat.max_le.mpr ⟨dq x,ih⟩
  unfold eqL
  rw [if_pos (d ss),if_pos rfl,p]
section
variable {S0 td:D} {w:Web} {n A:Nat} {lo hi:List Int} {h:Hd}
theorem Qz (G:G23 w n lo hi)(gX:h[A]? = some (.lst (((eL w.stays).filter (isR w n)).map ah)))(gY:h[A + 1]? = some (.lst (((eL w.stays).filter (isP w n)).map (gm w n))))(a5 a6 a7 a8:Option D) :
    ∃ b8 g,Dw (X23 S0 td w A a5 a6 a7 a8) h=.nx (X23 S0 td w A a5 a6 a7 b8) (h++g):=by
  obtain⟨RL,hRL⟩ : ∃ RL,RL=((eL w.stays).filter (isR w n)).map ah:=⟨_,rfl⟩
  obtain⟨PL,hPL⟩ : ∃ PL,PL=((eL w.stays).filter (isP w n)).map (gm w n):=⟨_,rfl⟩
  obtain⟨g1,r1⟩:=Kj G h
  obtain⟨g2,r2⟩:=Kk G (h++g1++[.lst RL])
  rw [← hRL] at r1 gX
  rw [← hPL] at r2 gY
  obtain⟨B,hB⟩ : ∃ B,B=(h++g1).length:=⟨_,rfl⟩
  have e2:(h++g1++[cX.lst RL]).length=B + 1:=by rw [List.length_append,hB];rfl
  rw [← hB] at r1
  rw [e2,List.append_assoc (h++g1)] at r2
  obtain⟨h0,hh0⟩ : ∃ h0,h0=h++g1:=⟨_,rfl⟩
  rw [← hh0] at r1 r2 hB
  have r2:ka [w.enc] (h0++[.lst RL])=.ok (.ref (B + 1)) (h0++(.lst RL :: .lst PL :: g2)):=r2
  obtain⟨FL,hFL⟩ : ∃ FL:List D,FL=[.ref B,.ref (B + 1)]:=⟨_,rfl⟩
  obtain⟨L,hL⟩ : ∃ L,L=g2.length:=⟨_,rfl⟩
  have s1:aE (gN 8) (aX (ad (ao mh (ad (aa 2) am)) (ad (ao ka (ad (aa 2) am)) am))) (X23 S0 td w A a5 a6 a7 a8) h=.nx (X23 S0 td w A a5 a6 a7 (some (.ref (B + (L + 2))))) (h0++(.lst RL :: .lst PL :: (g2++[.lst FL]))):=by
    rw [hFL]
    have:=gB (h0:=h0) (g:=.lst RL :: .lst PL :: g2) (σ:=X23 S0 td w A a5 a6 a7 a8) hB (c5 (aw (au (a:=aa 2) (r:=am) rfl rfl) r1) (aw (au (a:=aa 2) (r:=am) rfl rfl) r2)) (by exact of_decide_eq_true rfl)
    rw [hL]
    exact aF this
  have at0:∀ (X Y:List D) (g:Hd),(h0++(.lst X :: .lst Y :: g))[B]? = some (.lst X):=fun X Y g=>cI hB 0
  have at1:∀ (X Y:List D) (g:Hd),(h0++(.lst X :: .lst Y :: g))[B + 1]? = some (.lst Y):=fun X Y g=>cI hB 1
  have atF:∀ (X Y:List D) (g:Hd),(h0++(.lst X :: .lst Y :: (g2 ++ .lst FL :: g)))[B + (L + 2)]? = some (.lst FL):=fun X Y g=>by
    rw [cI hB,List.getElem?_cons_succ,List.getElem?_cons_succ,hL,List.getElem?_append_right (Nat.le_refl _),Nat.sub_self];rfl
  have f0:∀ (X Y:List D) (g:Hd),fAt (aa 8) (fC (.int 0)) (X23 S0 td w A a5 a6 a7 (some (.ref (B + (L + 2))))) (h0++(.lst X :: .lst Y :: (g2 ++ .lst FL :: g)))=.ok (.ref B) (h0++(.lst X :: .lst Y :: (g2 ++ .lst FL :: g))):=fun X Y g=>bh rfl rfl (bg (atF X Y g)) (by rw [hFL];rfl)
  have f1:∀ (X Y:List D) (g:Hd),fAt (aa 8) (fC (.int 1)) (X23 S0 td w A a5 a6 a7 (some (.ref (B + (L + 2))))) (h0++(.lst X :: .lst Y :: (g2 ++ .lst FL :: g)))=.ok (.ref (B + 1)) (h0++(.lst X :: .lst Y :: (g2 ++ .lst FL :: g))):=fun X Y g=>bh rfl rfl (bg (atF X Y g)) (by rw [hFL];rfl)
  have gl:h.length≤B:=by rw [hB,hh0,List.length_append];exact Nat.le_add_right _ _
  have lA:A < h.length:=(List.getElem?_eq_some_iff.mp gX).1
  have lA1:A + 1 < h.length:=(List.getElem?_eq_some_iff.mp gY).1
  have gX':∀ g,(h0++g)[A]? = some (.lst RL):=fun g=>by rw [hh0,List.append_assoc];exact cE _ gX
  have gY':∀ g,(h0++g)[A + 1]? = some (.lst PL):=fun g=>by rw [hh0,List.append_assoc];exact cE _ gY
  obtain⟨C,hC⟩ : ∃ C,C=(h0++(cX.lst RL :: cX.lst PL :: (g2++[cX.lst FL]))).length:=⟨_,rfl⟩
  have n2:aX (ad (aa 3) (ad (aa 4) am)) (X23 S0 td w A a5 a6 a7 (some (.ref (B + (L + 2))))) (h0++(.lst RL :: .lst PL :: (g2++[.lst FL])))=.ok (.ref C) (h0++(.lst RL :: .lst PL :: (g2 ++ .lst FL :: [.lst [.ref A,.ref (A + 1)]]))):=by
    have:=fX (σ:=X23 S0 td w A a5 a6 a7 (some (.ref (B + (L + 2))))) (h:=h0++(.lst RL :: .lst PL :: (g2++[.lst FL]))) hC (c5 (a:=aa 3) (b:=aa 4) rfl rfl) (by exact of_decide_eq_true rfl)
    rw [this,List.append_assoc]
    simp only [List.cons_append,List.append_assoc,List.nil_append]
  obtain⟨H,hH⟩ : ∃ H:Hd,H=h0++(.lst RL :: .lst PL :: (g2 ++ .lst FL :: [.lst [.ref A,.ref (A + 1)]])):=⟨_,rfl⟩
  have gC:H[C]? = some (.lst [.ref A,.ref (A + 1)]):=by
    have:H=h0++(.lst RL :: .lst PL :: (g2++[.lst FL]))++[.lst [.ref A,.ref (A + 1)]]:=by rw [hH,List.append_assoc];simp only [List.cons_append,List.append_assoc,List.nil_append]
    rw [this,hC];exact List.getElem?_concat_length
  have o2:Gp (.ref (B + (L + 2))) (.ref C) H=.ok (.bl false) H:=by
    have e1:H[B + (L + 2)]? = some (.lst FL):=by rw [hH];exact atF _ _ _
    have e3:H[B]? = some (.lst RL):=by rw [hH];exact at0 _ _ _
    have e4:H[B + 1]? = some (.lst PL):=by rw [hH];exact at1 _ _ _
    have e5:H[A]? = some (.lst RL):=by rw [hH];exact gX' _
    have e6:H[A + 1]? = some (.lst PL):=by rw [hH];exact gY' _
    have q1:eqL RL RL=some true:=by rw [hRL];exact GT _
    have q2:eqL PL PL=some true:=by rw [hPL];exact Qy w n _
    have n1:B≠A:=by omega
    have n3:B + 1≠A + 1:=by omega
    have es:sQ H FL [.ref A,.ref (A + 1)] = some true:=by
      rw [hFL]
      simp only [sQ,eqR,eqG,eY,e3,e4,e5,e6,q1,q2,if_pos n1,if_pos n3];rfl
    simp only [Gp,eY,e1,gC,es]
    rw [hFL];rfl
  have s2:sIf (tOr (eD (tE (fP .list (fAt (aa 8) (fC (.int 0)))))) (tOr (eD (tE (fP .list (fAt (aa 8) (fC (.int 1)))))) (tE (af Gp (aa 8) (aX (ad (aa 3) (ad (aa 4) am))))))) (bc (fC (.bl false))) bD (X23 S0 td w A a5 a6 a7 (some (.ref (B + (L + 2))))) (h0++(.lst RL :: .lst PL :: (g2++[.lst FL])))=.nx (X23 S0 td w A a5 a6 a7 (some (.ref (B + (L + 2))))) H:=by
    rw [← hH] at n2
    exact fW (nI (gU (b:=true) (bB (yq (f0 RL PL []) (at0 _ _ _)))) (nI (gU (b:=true) (bB (yq (f1 RL PL []) (at1 _ _ _)))) (bB (ak rfl n2 o2))))
  have lR:RL.length < SZ:=by rw [hRL,List.length_map,← G.rs];exact Nat.lt_of_le_of_lt (Nat.le_trans (List.length_filter_le _ _) G.zB) (by decide)
  have s3:eV (jf (fAt (aa 8) (fC (.int 0))) (fj am)) (X23 S0 td w A a5 a6 a7 (some (.ref (B + (L + 2))))) H=.nx (X23 S0 td w A a5 a6 a7 (some (.ref (B + (L + 2))))) (h0++(.lst (RL++[.tup []]) :: .lst PL :: (g2 ++ .lst FL :: [.lst [.ref A,.ref (A + 1)]]))):=by
    rw [hH]
    refine (eX (jn (f0 _ _ _) (at0 _ _ _) (gS (xs:=[]) rfl (Nat.zero_le _)) (at0 _ _ _) lR)).trans ?_
    exact congrArg (Out.nx _) (i5 hB 0 _)
  have s4:eV (oN (fAt (aa 8) (fC (.int 1)))) (X23 S0 td w A a5 a6 a7 (some (.ref (B + (L + 2))))) (h0++(.lst (RL++[.tup []]) :: .lst PL :: (g2 ++ .lst FL :: [.lst [.ref A,.ref (A + 1)]])))=.nx (X23 S0 td w A a5 a6 a7 (some (.ref (B + (L + 2))))) (h0++(.lst (RL++[.tup []]) :: .lst [] :: (g2 ++ .lst FL :: [.lst [.ref A,.ref (A + 1)]]))):=by
    have q:=f1 (RL++[.tup []]) PL [.lst [.ref A,.ref (A + 1)]]
    have g:=at1 (RL++[.tup []]) PL (g2 ++ .lst FL :: [.lst [.ref A,.ref (A + 1)]])
    have cl:oN (fAt (aa 8) (fC (.int 1))) (X23 S0 td w A a5 a6 a7 (some (.ref (B + (L + 2))))) (h0++(.lst (RL++[.tup []]) :: .lst PL :: (g2 ++ .lst FL :: [.lst [.ref A,.ref (A + 1)]])))=.ok .non ((h0++(cX.lst (RL++[.tup []]) :: cX.lst PL :: (g2++cX.lst FL :: [cX.lst [.ref A,.ref (A + 1)]]))).set (B + 1) (.lst [])):=by
      simp only [oN,fUn,q,aG,CP,g]
    refine (eX cl).trans ?_
    rw [i5 hB 1];rfl
  refine⟨some (.ref (B + (L + 2))),g1++(.lst (RL++[.tup []]) :: .lst [] :: (g2 ++ .lst FL :: [.lst [.ref A,.ref (A + 1)]])),(bi s1).trans ((bi s2).trans ((bi s3).trans (s4.trans ?_)))⟩
  rw [hh0,List.append_assoc]
end
theorem QA {h g:Hd}{k:Nat}{c:cX}(lk:h.length + 2≤k)(hk:(h++[cX.lst [],.lst []]++g)[k]? = some c)(X Y:List D):(h++(.lst X :: .lst Y :: g))[k]? = some c:=by
  rw [List.append_assoc,List.getElem?_append_right (by omega)] at hk
  rw [List.getElem?_append_right (by omega)]
  have:k - h.length=(k - (h.length + 2)) + 2:=by omega
  rw [this] at hk ⊢
  exact hk
theorem Po (ns:List Int)(hns:ns.length≤63):∃ h,FE [.lit (ns.map .int)] []=.ok (.bl true) h:=by
  obtain⟨n,M,bs,ss,bk,sk,h1,P⟩:=JX ns
  have n30:=P.n30
  have m:Md 0 n M bs ss bk sk h1:=⟨P.n1,P.n30,P.mt,P.mo,P.ba,P.st,P.lb,P.ls,P.os⟩
  obtain⟨td,htd⟩ : ∃ td:D,td=.tup [.ref (0 + n),.ref bk,.ref sk]:=⟨_,rfl⟩
  obtain⟨S0,hS0⟩ : ∃ S0:D,S0=.lit (ns.map .int):=⟨_,rfl⟩
  obtain⟨T,ql,LL⟩:=JY m
  have mq:=Ku m ql LL
  obtain⟨w,hw⟩ : ∃ w,w=fy n T bs ss:=⟨_,rfl⟩
  rw [← htd,← hw] at mq
  have W:w.Ok n:=by rw [hw];exact Bb n30 LL.ok P.lb P.ls
  have S:cF w:=by rw [hw];exact P.os
  have MM:o5 w w n:=by rw [hw];exact tN LL.ok P.os
  have wst:w.stays=ss:=by rw [hw];rfl
  have run:=P.run
  rw [← htd,← hS0] at run
  have f12:ek w.stays≤12:=by
    rw [wst]
    refine Nat.le_trans (List.length_filter_le _ _) ?_
    rw [P.ls];have:=P.n7;omega
  obtain⟨lo,hi,G⟩:=Kq W n30 S MM f12
  obtain⟨A,hA⟩ : ∃ A,A=h1.length:=⟨_,rfl⟩
  have e0:J0 [some S0,none,none,none,none,none,none,none,none] []=.nx [some S0,some td,none,none,none,none,none,none,none] h1:=aF (aw (c5 rfl rfl) run)
  have e1:J1 [some S0,some td,none,none,none,none,none,none,none] h1=.nx [some S0,some td,some w.enc,none,none,none,none,none,none] h1:=aF (aw (au rfl rfl) mq)
  have e2:J2 [some S0,some td,some w.enc,none,none,none,none,none,none] h1=.nx [some S0,some td,some w.enc,some (.ref A),none,none,none,none,none] (h1++[.lst []]):=aF (fX hA (xs:=[]) rfl (Nat.zero_le _))
  have e3:J3 [some S0,some td,some w.enc,some (.ref A),none,none,none,none,none] (h1++[.lst []])=.nx (X23 S0 td w A none none none none) (h1++[.lst [],.lst []]):=aF (gB (g:=[.lst []]) (xs:=[]) hA rfl (Nat.zero_le _))
  obtain⟨k,g,qs,gs,lk⟩:=GI (m.more [.lst [],.lst []]) P.n7 htd
  have tq:∀ (H:Hd) (s:List Int),Md 0 n M bs ss bk sk H→c6 w n s→dz [td,ah s] H=.ok (ah (aS w n s)) H:=fun H s m F=>by
    have:=Pj m LL F.len F.bits
    rw [← htd,← hw] at this
    exact this
  have zA:(eL ss).length≤100000:=by
    have h1:=yx ss n (Nat.le_of_eq P.ls.symm)
    rw [List.take_of_length_le (Nat.le_of_eq P.ls)] at h1
    have h2:2 ^ n≤2 ^ 8:=Nat.pow_le_pow_right (by decide) P.n7
    omega
  obtain⟨x5,x6,lp⟩:=Ks (S0:=S0) (td:=td) (w:=w) tq (fun s F=>im W S F) hA m (fun s hs=>(yz W wst P.ls P.os s).mp hs) zA (QA (by rw [List.length_append] at lk;exact lk) gs) none none
  have ap:h1++[.lst [],.lst []]++g=h1++(.lst [] :: .lst [] :: g):=by rw [List.append_assoc];rfl
  rw [ap] at qs gs
  obtain⟨H,hH⟩ : ∃ H:Hd,H=h1++(.lst (((eL ss).filter (isR w n)).map ah) :: .lst (((eL ss).filter (isP w n)).map (gm w n)) :: g):=⟨_,rfl⟩
  rw [← hH] at lp
  have e4:J4 (X23 S0 td w A none none none none) (h1++[.lst [],.lst []])=.nx (X23 S0 td w A x5 x6 none none) H:=d8 (eF (aw (au rfl rfl) qs) gs) lp
  have gX:H[A]? = some (.lst (((eL w.stays).filter (isR w n)).map ah)):=by rw [hH,wst];exact cI hA 0
  have gY:H[A + 1]? = some (.lst (((eL w.stays).filter (isP w n)).map (gm w n))):=by rw [hH,wst];exact cI hA 1
  obtain⟨σ5,h5,q5,y7,y8,g5,z1,z2⟩:=ce (P:=fun _ σ h'=>∃ a7 a8 g,σ = X23 S0 td w A x5 x6 a7 a8∧h'=H++g) (g:=none) (k:=0)
    (all:=(List.range 2).map fun k:Nat=>D.int k) (fun _ _ _ _=>trivial) (xs:=(List.range 2).map fun k:Nat=>D.int k) (tg:=gN 7) (σ:=X23 S0 td w A x5 x6 none none) (h:=H) (b:=Dw) (by
      rintro i x σ h0 hx ⟨a7,a8,g,rfl,rfl⟩
      obtain⟨b8,g',q⟩:=Qz (S0:=S0) (td:=td) G (cE g gX) (cE g gY) x5 x6 (some x) a8
      exact⟨_,rfl,_,_,q,_,_,g++g',rfl,by rw [List.append_assoc]⟩) ⟨_,_,[],rfl,by rw [List.append_nil]⟩
  rw [z1,z2] at q5
  have e5:Ka (X23 S0 td w A x5 x6 none none) H=.nx (X23 S0 td w A x5 x6 y7 y8) (H++g5):=d8 (cY (n:=2) rfl (by decide)) q5
  obtain⟨c,hc⟩:=Bg ns 4 (by omega)
  rw [← hS0] at hc
  have e6:Kb (X23 S0 td w A x5 x6 y7 y8) (H++g5)=.rt (.bl true) (H++g5):=bo (aw (au (aw (c5 rfl rfl) (hc _)) rfl) (Mz c _))
  rw [← hS0]
  exact⟨[],(cJ (σ:=[some S0,none,none,none,none,none,none,none,none]) rfl rfl ((bi e0).trans ((bi e1).trans ((bi e2).trans ((bi e3).trans ((bi e4).trans ((bi e5).trans e6))))))).trans (dk (h:=[]) (g:=H++g5) rfl)⟩
end Fm
set_option Elab.async false
set_option linter.all false
set_option maxRecDepth 100000
set_option maxHeartbeats 4000000
namespace Fm
open PySem PySem.Spec L2
section
abbrev dG (i : Nat) : Stmt := PySem.Challenge.pw_followmost_k23_all_rests_and_pairs.main.body.getD i (.Pass ⟨0, 0, 0, 0⟩)
abbrev gn:Stmt:=dG 12
abbrev eM:Stmt:=dG 13
abbrev eN:Stmt:=dG 14
abbrev jE:Stmt:=dG 26
abbrev eO:Stmt:=dG 25
abbrev fB:Stmt:=dG 27
abbrev eP:Stmt:=dG 28
abbrev jF:Stmt:=dG 18
abbrev ir:Stmt:=dG 19
abbrev iu:Stmt:=dG 20
abbrev jG:Stmt:=dG 21
abbrev iw:Stmt:=dG 22
abbrev gp:Stmt:=dG 23
abbrev iy:Stmt:=dG 24
abbrev pi:Stmt:=dG 30
abbrev dZ:Stmt:=dG 31
abbrev iz:Stmt:=dG 32
abbrev iA:Stmt:=dG 33
abbrev iB:Stmt:=dG 34
abbrev mi:Stmt:=dG 36
abbrev jH:Stmt:=dG 44
abbrev dB:Stmt:=dG 43
abbrev eQ:Stmt:=dG 39
abbrev c7:Stmt:=dG 40
abbrev cW:Stmt:=dG 46
abbrev cN:Stmt:=dG 45
abbrev kb:Stmt:=dG 41
abbrev kc:Stmt:=dG 42
abbrev fD:Stmt:=dG 48
abbrev gq:Stmt:=dG 49
abbrev eR:Stmt:=dG 50
abbrev eS:Stmt:=dG 51
abbrev fE:Stmt:=dG 52
abbrev fF:Stmt:=dG 54
abbrev d5:Stmt:=dG 55
abbrev eT:Stmt:=dG 56
abbrev gr:Stmt:=dG 57
abbrev dC:Stmt:=dG 58
abbrev fG:Stmt:=dG 59
abbrev nQ:Stmt:=dG 60
variable {P:Program} {w:World} {K:PySem.W.Frag} {mg:Str→Option Value} {base:Heap} {f:Addr} {fd:FuncData}
theorem Bn:aL ["thing"] ["thing"] (aj gn):=⟨rfl,rfl,rfl,by decide +kernel,rfl,by decide +kernel,by decide +kernel⟩
theorem Bo (F:Fun K "is_whole" "is_whole" gn f fd) (aA:mg "isinstance" = none) (DO:mg "bool" = none) (Kz:mg "int" = none):cf P w K mg base CX0 1 f fd ["thing"] (spF K cL 1):=by
  refine bV F Bn fun cdv A outer s H E hr => ?_
  have hu:=dj hr
  exact (ar (aR (MB.me (yc (kC (ic (t:=.int) rfl aA rfl Kz (by decide +kernel) (mv 0))) (oQ (Oi (kC (ic (t:=.bool) rfl aA rfl DO (by decide +kernel) (mv 0)))))))))
theorem u6:aL ["thing", "least", "most"] ["thing", "least", "most"] (aj eM):=⟨rfl,rfl,rfl,by decide +kernel,rfl,by decide +kernel,by decide +kernel⟩
theorem u7 (F:Fun K "is_between" "is_between" eM f fd) (iS:Def P w K mg base "is_whole" 1 1 cL):cf P w K mg base CX0 2 f fd ["thing", "least", "most"] (spF K bx 3):=by
  refine bV F u6 fun cdv A outer s H E hr => ?_
  have hu:=dj hr
  exact (ar (aR (MB.me (yc (kC (ax iS (hr.mono (by decide)) rfl (ae (mv 0) av) ay)) (oQ (kC (IO Nh Nh uV uV (mv 1) (mv 0) (mv 2))))))))
theorem va:aL ["thing"] ["thing"] (aj eN):=⟨rfl,rfl,rfl,by decide +kernel,rfl,by decide +kernel,by decide +kernel⟩
theorem vc (F:Fun K "is_opinion" "is_opinion" eN f fd) (cU:Def P w K mg base "is_between" 2 3 bx):cf P w K mg base CX0 3 f fd ["thing"] (spF K bP 1):=by
  refine bV F va fun cdv A outer s H E hr => ?_
  have hu:=dj hr
  exact (ar (aR (ax cU (hr.mono (by decide)) rfl (ae (mv 0) (ae aq (ae aq av))) ay)))
theorem pj:aL ["many", "thing", "one", "other"] ["many", "thing"] (aj jE):=⟨rfl,rfl,rfl,by decide +kernel,rfl,by decide +kernel,by decide +kernel⟩
theorem GU (F:Fun K "is_tie" "is_tie" jE f fd) (cm:mg "len" = none) (aA:mg "isinstance" = none) (bK:mg "tuple" = none) {jo:Tok} (jp:mg "MOST_WEIGHT" = some (.int 400 jo)) (cU:Def P w K mg base "is_between" 2 3 bx):cf P w K mg base CX0 3 f fd ["many", "thing"] (spF K lm 2):=by
  refine bV F pj fun cdv A outer s H E hr => ?_
  have hu:=dj hr
  exact (ag (cz (MW.mt (sK (fm (fk (ic (t:=.tuple) rfl aA rfl bK (by decide +kernel) (mv 1)))) (jg (bn (mQ hu) sL (fS rfl cm (eZ (mv 1))) aq (aV _)) (.inr rfl)))) (ar (aR qg)) bq)
    (ag (aJ (i:=2) pj.nd rfl (by first|exact .inl rfl|exact .inr rfl) (bu (mv 1) aq (fun _ _=>rfl)))
    (ag (aJ (i:=3) pj.nd rfl (by first|exact .inl rfl|exact .inr rfl) (bu (mv 1) aq (fun _ _=>rfl)))
    (ag (cz (MW.mt (sK (fm (fk (ax cU (hr.mono (by decide)) rfl (ae (mv 2) (ae aq (ae (aQ kT AA (mv 0) aq) av))) ay))) (jg (fm (fk (ax cU (hr.mono (by decide)) rfl (ae (mv 3) (ae aq (ae (aQ kT AA (mv 0) aq) av))) ay))) (.inr rfl)))) (ar (aR qg)) bq)
    (ar (aR (MB.me (yc (kC (mO (mQ hu) sL (mv 2) (mv 3) (aV _))) (oQ (kC (ax cU (hr.mono (by decide)) rfl (ae (bu (mv 1) aq (fun _ _=>rfl)) (ae aq (ae (nt rfl jp) av))) ay)))))))))))
theorem fg:aL ["many", "ties", "near", "tie", "one", "other"] ["many", "ties"] (aj eO):=⟨rfl,rfl,rfl,by decide +kernel,rfl,by decide +kernel,by decide +kernel⟩
theorem vd (F:Fun K "neighbours" "neighbours" eO f fd) (aW:mg "range" = none) (aA:mg "isinstance" = none) (dE:mg "list" = none) (tS:Def P w K mg base "is_tie" 3 2 lm):cf P w K mg base CX0 4 f fd ["many", "ties"] (spF K dM 2):=by
  refine bV F fg fun cdv A outer s H E hr => ?_
  have hu:=dj hr
  exact (ag (cz (fm (fk (ic (t:=.list) rfl aA rfl dE (by decide +kernel) (mv 1)))) (ar ji) bq)
    (ag (nC (i:=2) fg.nd rfl (by first|exact .inl rfl|exact .inr rfl) (own:=["person"]) (capn:=[]) (caps:=[]) rfl (bX.mk' rfl (by decide +kernel) (by decide +kernel) (by repeat' (first|exact aY.nil|refine aY.cons (by first|exact (fun _=>.inl rfl)|exact (fun _=>.inr rfl)|(intro z;cases z;done)) ?_)) bQ.nil) (cO rfl aW (mv 0))
      (fun cl C s H ex=>⟨(aP (i:=0) (show ((["person"] : List Str)++([] : List Str)).Nodup by decide +kernel) rfl (by first|exact .inl rfl|exact .inr rfl)),dL,LX⟩))
    (ag (eo PassesOwn.never rfl (ft (mv 1)) (aP (i:=3) fg.nd rfl (by first|exact .inl rfl|exact .inr rfl)) (ag (cz (fm (fk (ax tS (hr.mono (by decide)) rfl (ae (mv 0) (ae (mv 3) av)) ay))) (ar ji) bq)
    (ag (aJ (i:=4) fg.nd rfl (by first|exact .inl rfl|exact .inr rfl) (bu (mv 3) aq (fun _ _=>rfl)))
    (ag (aJ (i:=5) fg.nd rfl (by first|exact .inl rfl|exact .inr rfl) (bu (mv 3) aq (fun _ _=>rfl)))
    (ag (cz (bn (OC (Nat.lt_of_le_of_lt (Nat.add_le_add_left (by decide) _) hu)) OD (mv 5) (bu (mv 2) (mv 4) (fun _ _=>rfl)) rfl) (ar ji) bq)
    (ag (Fl (Nat.lt_of_le_of_lt (Nat.add_le_add_left (by decide) _) hu) (bu (mv 3) aq (fun _ _=>rfl)) (bu (mv 2) (mv 4) (fun _ _=>rfl)) (mv 5))
    (ar (Fl (Nat.lt_of_le_of_lt (Nat.add_le_add_left (by decide) _) hu) (bu (mv 3) aq (fun _ _=>rfl)) (bu (mv 2) (mv 5) (fun _ _=>rfl)) (mv 4)))))))))
    (ar (aR (mv 2))))))
theorem yB:aL ["near", "bars"] ["near", "bars"] (aj fB):=⟨rfl,rfl,rfl,by decide +kernel,rfl,by decide +kernel,by decide +kernel⟩
theorem yC (F:Fun K "bars_told" "bars_told" fB f fd) (bK:mg "tuple" = none) (xw:mg "all" = none) (cm:mg "len" = none) (aA:mg "isinstance" = none) (dE:mg "list" = none) (kE:mg "sum" = none) (iS:Def P w K mg base "is_whole" 1 1 cL):cf P w K mg base CX0 2 f fd ["near", "bars"] (spF K df 2):=by
  refine bV F yB fun cdv A outer s H E hr => ?_
  have hu:=dj hr
  exact (ag (cz (bn mK mP (mv 1) dr (aV _)) (ar (aR (ia rfl bK (jh (fh (own:=["row"]) (capn:=[]) (caps:=[]) rfl (bX.mk' rfl (by decide +kernel) (by decide +kernel) (by repeat' (first|exact aY.nil|refine aY.cons (by first|exact (fun _=>.inl rfl)|exact (fun _=>.inr rfl)|(intro z;cases z;done)) ?_)) bQ.nil) (ft (mv 0))
      (fun cl C s H ex=>⟨(aP (i:=0) (show ((["row"] : List Str)++([] : List Str)).Nodup by decide +kernel) rfl (by first|exact .inl rfl|exact .inr rfl)),dL,(L5 rfl rfl kE (mv 0))⟩)))))) bq)
    (ag (cz (MW.mt (sK (fm (fk (ic (t:=.list) rfl aA rfl dE (by decide +kernel) (mv 1)))) (jg (bn (mQ hu) sL (fS rfl cm (eZ (mv 1))) (fS rfl cm (eZ (mv 0))) (aV _)) (.inr rfl)))) (ar ji) bq)
    (ag (cz (fm (fk (Jp rfl rfl xw (jh (fh (own:=["bar"]) (capn:=[]) (caps:=[]) rfl (bX.mk' rfl (by decide +kernel) (by decide +kernel) (by repeat' (first|exact aY.nil|refine aY.cons (by first|exact (fun _=>.inl rfl)|exact (fun _=>.inr rfl)|(intro z;cases z;done)) ?_)) bQ.nil) (ft (mv 1))
      (fun cl C s H ex=>⟨(aP (i:=0) (show ((["bar"] : List Str)++([] : List Str)).Nodup by decide +kernel) rfl (by first|exact .inl rfl|exact .inr rfl)),dL,(ax iS (hr.mono (by decide)) rfl (ae (mv 0) av) ay)⟩)))))) (ar ji) bq)
    (ar (aR (ia rfl bK (eZ (mv 1))))))))
theorem ve:aL ["many", "stays"] ["many", "stays"] (aj eP):=⟨rfl,rfl,rfl,by decide +kernel,rfl,by decide +kernel,by decide +kernel⟩
theorem vf (F:Fun K "stays_told" "stays_told" eP f fd) (bK:mg "tuple" = none) (xw:mg "all" = none) (cm:mg "len" = none) (aA:mg "isinstance" = none) (dE:mg "list" = none) (aW:mg "range" = none) (fY:Def P w K mg base "is_opinion" 3 1 bP):cf P w K mg base CX0 4 f fd ["many", "stays"] (spF K cS 2):=by
  refine bV F ve fun cdv A outer s H E hr => ?_
  have hu:=dj hr
  exact (ag (cz (bn mK mP (mv 1) dr (aV _)) (ar (aR (ia rfl bK (jh (fh (own:=["person"]) (capn:=[]) (caps:=[]) rfl (bX.mk' rfl (by decide +kernel) (by decide +kernel) (by repeat' (first|exact aY.nil|refine aY.cons (by first|exact (fun _=>.inl rfl)|exact (fun _=>.inr rfl)|(intro z;cases z;done)) ?_)) bQ.nil) (cO rfl aW (mv 0))
      (fun cl C s H ex=>⟨(aP (i:=0) (show ((["person"] : List Str)++([] : List Str)).Nodup by decide +kernel) rfl (by first|exact .inl rfl|exact .inr rfl)),dL,dr⟩)))))) bq)
    (ag (cz (MW.mt (sK (fm (fk (ic (t:=.list) rfl aA rfl dE (by decide +kernel) (mv 1)))) (jg (bn (mQ hu) sL (fS rfl cm (eZ (mv 1))) (mv 0) (aV _)) (.inr rfl)))) (ar ji) bq)
    (ag (cz (fm (fk (Jp rfl rfl xw (jh (fh (own:=["stay"]) (capn:=[]) (caps:=[]) rfl (bX.mk' rfl (by decide +kernel) (by decide +kernel) (by repeat' (first|exact aY.nil|refine aY.cons (by first|exact (fun _=>.inl rfl)|exact (fun _=>.inr rfl)|(intro z;cases z;done)) ?_)) bQ.nil) (ft (mv 1))
      (fun cl C s H ex=>⟨(aP (i:=0) (show ((["stay"] : List Str)++([] : List Str)).Nodup by decide +kernel) rfl (by first|exact .inl rfl|exact .inr rfl)),dL,(MB.me (Nm (kC (mO mK mP (mv 0) dr (aV _))) (oQ (kC (ax fY (hr.mono (by decide)) rfl (ae (mv 0) av) ay)))))⟩)))))) (ar ji) bq)
    (ar (aR (ia rfl bK (eZ (mv 1))))))))
theorem pu:aL ["many", "ties", "bars", "stays", "near", "rows"] ["many", "ties", "bars", "stays"] (aj jF):=⟨rfl,rfl,rfl,by decide +kernel,rfl,by decide +kernel,by decide +kernel⟩
theorem GV (F:Fun K "web_of" "web_of" jF f fd) (bK:mg "tuple" = none) (tT:mg "sorted" = none) {jq:Tok} (jr:mg "MOST_PEOPLE" = some (.int 30 jq)) (kg:Def P w K mg base "stays_told" 4 2 cS) (lB:Def P w K mg base "bars_told" 2 2 df) (kh:Def P w K mg base "neighbours" 4 2 dM) (cU:Def P w K mg base "is_between" 2 3 bx):cf P w K mg base CX0 5 f fd ["many", "ties", "bars", "stays"] (spF K dA 4):=by
  refine bV F pu fun cdv A outer s H E hr => ?_
  have hu:=dj hr
  exact (ag (cz (fm (fk (ax cU (hr.mono (by decide)) rfl (ae (mv 0) (ae aq (ae (nt rfl jr) av))) ay))) (ar ji) bq)
    (ag (aJ (i:=4) pu.nd rfl (by first|exact .inl rfl|exact .inr rfl) (ax kh (hr.mono (by decide)) rfl (ae (mv 0) (ae (mv 1) av)) ay))
    (ag (aJ (i:=5) pu.nd rfl (by first|exact .inl rfl|exact .inr rfl) (ia rfl bK (jh (fh (own:=["row"]) (capn:=[]) (caps:=[]) rfl (bX.mk' rfl (by decide +kernel) (by decide +kernel) (by repeat' (first|exact aY.nil|refine aY.cons (by first|exact (fun _=>.inl rfl)|exact (fun _=>.inr rfl)|(intro z;cases z;done)) ?_)) bQ.nil) (ft (mv 4))
      (fun cl C s H ex=>⟨(aP (i:=0) (show ((["row"] : List Str)++([] : List Str)).Nodup by decide +kernel) rfl (by first|exact .inl rfl|exact .inr rfl)),dL,(ia rfl bK (jh (Jm rfl rfl tT (mv 0))))⟩)))))
    (ar (aR (fq (ae (mv 5) (ae (ax lB (hr.mono (by decide)) rfl (ae (mv 4) (ae (mv 2) av)) ay) (ae (ax kg (hr.mono (by decide)) rfl (ae (mv 0) (ae (mv 3) av)) ay) av)))))))))
theorem DB:aL ["web"] ["web"] (aj ir):=⟨rfl,rfl,rfl,by decide +kernel,rfl,by decide +kernel,by decide +kernel⟩
theorem DC (F:Fun K "many_of" "many_of" ir f fd) (cm:mg "len" = none):cf P w K mg base CX0 1 f fd ["web"] (spF K eI 1):=by
  refine bV F DB fun cdv A outer s H E hr => ?_
  have hu:=dj hr
  exact (ar (aR (fS rfl cm (eZ (bu (mv 0) aq (fun _ _=>rfl))))))
theorem DD:aL ["web", "person"] ["web", "person"] (aj iu):=⟨rfl,rfl,rfl,by decide +kernel,rfl,by decide +kernel,by decide +kernel⟩
theorem DE (F:Fun K "ties_of" "ties_of" iu f fd):cf P w K mg base CX0 1 f fd ["web", "person"] (spF K jC 2):=by
  refine bV F DD fun cdv A outer s H E hr => ?_
  have hu:=dj hr
  exact (ar (aR (bu (bu (mv 0) aq (fun _ _=>rfl)) (mv 1) (fun _ _=>rfl))))
theorem GW:aL ["web", "person"] ["web", "person"] (aj jG):=⟨rfl,rfl,rfl,by decide +kernel,rfl,by decide +kernel,by decide +kernel⟩
theorem GX (F:Fun K "bar_of" "bar_of" jG f fd):cf P w K mg base CX0 1 f fd ["web", "person"] (spF K jD 2):=by
  refine bV F GW fun cdv A outer s H E hr => ?_
  have hu:=dj hr
  exact (ar (aR (bu (bu (mv 0) aq (fun _ _=>rfl)) (mv 1) (fun _ _=>rfl))))
theorem DF:aL ["web", "person"] ["web", "person"] (aj iw):=⟨rfl,rfl,rfl,by decide +kernel,rfl,by decide +kernel,by decide +kernel⟩
theorem DG (F:Fun K "stay_of" "stay_of" iw f fd):cf P w K mg base CX0 1 f fd ["web", "person"] (spF K fw 2):=by
  refine bV F DF fun cdv A outer s H E hr => ?_
  have hu:=dj hr
  exact (ar (aR (bu (bu (mv 0) aq (fun _ _=>rfl)) (mv 1) (fun _ _=>rfl))))
theorem Bp:aL ["web"] ["web"] (aj gp):=⟨rfl,rfl,rfl,by decide +kernel,rfl,by decide +kernel,by decide +kernel⟩
theorem Bq (F:Fun K "stays_of" "stays_of" gp f fd) (dE:mg "list" = none):cf P w K mg base CX0 1 f fd ["web"] (spF K cZ 1):=by
  refine bV F Bp fun cdv A outer s H E hr => ?_
  have hu:=dj hr
  exact (ar (aR (bI (yh rfl dE (eZ (bu (mv 0) aq (fun _ _=>rfl)))))))
theorem DH:aL ["web"] ["web"] (aj iy):=⟨rfl,rfl,rfl,by decide +kernel,rfl,by decide +kernel,by decide +kernel⟩
theorem DI (F:Fun K "free_of" "free_of" iy f fd) (fH:mg "enumerate" = none) (iT:Def P w K mg base "stays_of" 1 1 cZ):cf P w K mg base CX0 2 f fd ["web"] (spF K eK 1):=by
  refine bV F DH fun cdv A outer s H E hr => ?_
  have hu:=dj hr
  exact (ar (aR (bI (Jx (own:=["person", "stay"]) (capn:=[]) (caps:=[]) rfl (bX.mk' rfl (by decide +kernel) (by decide +kernel) (by repeat' (first|exact aY.nil|refine aY.cons (by first|exact (fun _=>.inl rfl)|exact (fun _=>.inr rfl)|(intro z;cases z;done)) ?_)) bQ.nil) (Jw rfl fH (ax iT (hr.mono (by decide)) rfl (ae (mv 0) av) ay))
      (fun cl C s H ex=>⟨(sM rfl (em (aP (i:=0) (show ((["person", "stay"] : List Str)++([] : List Str)).Nodup by decide +kernel) rfl (by first|exact .inl rfl|exact .inr rfl)) (em (aP (i:=1) (show ((["person", "stay"] : List Str)++([] : List Str)).Nodup by decide +kernel) rfl (by first|exact .inl rfl|exact .inr rfl)) nA))),(rL (bn mK mP (mv 1) dr (aV _))),(mv 0)⟩)))))
theorem sg:aL ["web", "thing", "person", "opinion", "stay"] ["web", "thing"] (aj pi):=⟨rfl,rfl,rfl,by decide +kernel,rfl,by decide +kernel,by decide +kernel⟩
theorem MC (F:Fun K "fits" "fits" pi f fd) (fH:mg "enumerate" = none) (cm:mg "len" = none) (aA:mg "isinstance" = none) (bK:mg "tuple" = none) (jJ:Def P w K mg base "stay_of" 1 2 fw) (fY:Def P w K mg base "is_opinion" 3 1 bP) (jK:Def P w K mg base "many_of" 1 1 eI):cf P w K mg base CX0 4 f fd ["web", "thing"] (spF K tj 2):=by
  refine bV F sg fun cdv A outer s H E hr => ?_
  have hu:=dj hr
  exact (ag (cz (MW.mt (sK (fm (fk (ic (t:=.tuple) rfl aA rfl bK (by decide +kernel) (mv 1)))) (jg (bn (mQ hu) sL (fS rfl cm (eZ (mv 1))) (ax jK (hr.mono (by decide)) rfl (ae (mv 0) av) ay) (aV _)) (.inr rfl)))) (ar (aR qg)) bq)
    (ag (eo PassesOwn.never rfl (LW rfl fH (mv 1)) (sM rfl (em (aP (i:=2) sg.nd rfl (by first|exact .inl rfl|exact .inr rfl)) (em (aP (i:=3) sg.nd rfl (by first|exact .inl rfl|exact .inr rfl)) nA))) (ag (cz (fm (fk (ax fY (hr.mono (by decide)) rfl (ae (mv 3) av) ay))) (ar (aR qg)) bq)
    (ag (aJ (i:=4) sg.nd rfl (by first|exact .inl rfl|exact .inr rfl) (ax jJ (hr.mono (by decide)) rfl (ae (mv 0) (ae (mv 2) av)) ay))
    (ar (cz (MW.mt (yb (bn xW oO (mv 4) dr (aV _)) (jg (bn (mQ hu) sL (mv 3) (mv 4) (aV _)) (.inl rfl)))) (ar (aR qg)) bq)))))
    (ar (aR qg))))
theorem tO:aL ["web", "thing"] ["web", "thing"] (aj dZ):=⟨rfl,rfl,rfl,by decide +kernel,rfl,by decide +kernel,by decide +kernel⟩
theorem tP (F:Fun K "check_stand" "check_stand" dZ f fd) (DP:Def P w K mg base "fits" 4 2 tj):cf P w K mg base CX0 5 f fd ["web", "thing"] (spF K dW 2):=by
  refine bV F tO fun cdv A outer s H E hr => ?_
  have hu:=dj hr
  exact (ar (cz (fm (fk (ax DP (hr.mono (by decide)) rfl (ae (mv 0) (ae (mv 1) av)) ay))) (ar ji) bq))
theorem DJ:aL ["web", "stand", "person"] ["web", "stand", "person"] (aj iz):=⟨rfl,rfl,rfl,by decide +kernel,rfl,by decide +kernel,by decide +kernel⟩
theorem DK (F:Fun K "pull_at" "pull_at" iz f fd) (kE:mg "sum" = none) (pz:Def P w K mg base "ties_of" 1 2 jC):cf P w K mg base CX0 2 f fd ["web", "stand", "person"] (spF K ik 3):=by
  refine bV F DJ fun cdv A outer s H E hr => ?_
  have hu:=dj hr
  exact (ar (aR (aQ fM fR aq (CS rfl rfl kE (jh (fh (own:=["other", "weight"]) (capn:=["stand"]) (caps:=[1]) rfl (bX.mk' rfl (by decide +kernel) (by decide +kernel) (by repeat' (first|exact aY.nil|refine aY.cons (by first|exact (fun _=>.inl rfl)|exact (fun _=>.inr rfl)|(intro z;cases z;done)) ?_)) (bQ.cons rfl rfl bQ.nil)) (ft (ax pz (hr.mono (by decide)) rfl (ae (mv 0) (ae (mv 2) av)) ay))
      (fun cl C s H ex=>⟨(sM rfl (em (aP (i:=0) (show ((["other", "weight"] : List Str)++(["stand"] : List Str)).Nodup by decide +kernel) rfl (by first|exact .inl rfl|exact .inr rfl)) (em (aP (i:=1) (show ((["other", "weight"] : List Str)++(["stand"] : List Str)).Nodup by decide +kernel) rfl (by first|exact .inl rfl|exact .inr rfl)) nA))),(rL (bn (du hu) fv (bu (mv 2) (mv 0) (fun _ _=>rfl)) aq (aV _))),(mv 1)⟩)))))))
theorem ke:aL ["web", "stand", "person", "stay", "strength", "bar"] ["web", "stand", "person"] (aj iA):=⟨rfl,rfl,rfl,by decide +kernel,rfl,by decide +kernel,by decide +kernel⟩
theorem DL (F:Fun K "next_at" "next_at" iA f fd) (tU:Def P w K mg base "bar_of" 1 2 jD) (pA:Def P w K mg base "pull_at" 2 3 ik) (jJ:Def P w K mg base "stay_of" 1 2 fw):cf P w K mg base CX0 3 f fd ["web", "stand", "person"] (spF K gk 3):=by
  refine bV F ke fun cdv A outer s H E hr => ?_
  have hu:=dj hr
  exact (ag (aJ (i:=3) ke.nd rfl (by first|exact .inl rfl|exact .inr rfl) (ax jJ (hr.mono (by decide)) rfl (ae (mv 0) (ae (mv 2) av)) ay))
    (ag (cz (bn xW oO (mv 3) dr (aV _)) (ar (aR (mv 3))) bq)
    (ag (aJ (i:=4) ke.nd rfl (by first|exact .inl rfl|exact .inr rfl) (ax pA (hr.mono (by decide)) rfl (ae (mv 0) (ae (mv 1) (ae (mv 2) av))) ay))
    (ag (aJ (i:=5) ke.nd rfl (by first|exact .inl rfl|exact .inr rfl) (ax tU (hr.mono (by decide)) rfl (ae (mv 0) (ae (mv 2) av)) ay))
    (ag (cz (bn (du hu) fv (mv 4) (mv 5) (aV _)) (ar (aR (bu (mv 1) (mv 2) (fun _ _=>rfl)))) bq)
    (ar (aR (IN (bn wS uV (mv 4) (mv 5) (aV _)) aq aq))))))))
theorem DM:aL ["web", "stand"] ["web", "stand"] (aj iB):=⟨rfl,rfl,rfl,by decide +kernel,rfl,by decide +kernel,by decide +kernel⟩
theorem DN (F:Fun K "turn_at" "turn_at" iB f fd) (bK:mg "tuple" = none) (aW:mg "range" = none) (jK:Def P w K mg base "many_of" 1 1 eI) (pB:Def P w K mg base "next_at" 3 3 gk):cf P w K mg base CX0 4 f fd ["web", "stand"] (spF K a0 2):=by
  refine bV F DM fun cdv A outer s H E hr => ?_
  have hu:=dj hr
  exact (ar (aR (ia rfl bK (jh (fh (own:=["person"]) (capn:=["web", "stand"]) (caps:=[0,1]) rfl (bX.mk' rfl (by decide +kernel) (by decide +kernel) (by repeat' (first|exact aY.nil|refine aY.cons (by first|exact (fun _=>.inl rfl)|exact (fun _=>.inr rfl)|(intro z;cases z;done)) ?_)) (bQ.cons rfl rfl (bQ.cons rfl rfl bQ.nil))) (cO rfl aW (ax jK (hr.mono (by decide)) rfl (ae (mv 0) av) ay))
      (fun cl C s H ex=>⟨(aP (i:=0) (show ((["person"] : List Str)++(["web", "stand"] : List Str)).Nodup by decide +kernel) rfl (by first|exact .inl rfl|exact .inr rfl)),dL,(ax pB (hr.mono (by decide)) rfl (ae (mv 1) (ae (mv 2) (ae (mv 0) av))) ay)⟩))))))
theorem ly:aL ["web", "stand", "stands", "later", "word"] ["web", "stand"] (aj mi):=⟨rfl,rfl,rfl,by decide +kernel,rfl,by decide +kernel,by decide +kernel⟩
theorem Kw (F:Fun K "ended" "ended" mi f fd) (cm:mg "len" = none) (cB:Def P w K mg base "turn_at" 4 2 a0) (jt:Def P w K mg base "check_stand" 5 2 dW):cf P w K mg base CX0 6 f fd ["web", "stand"] (spF K i7 2):=by
  refine bV F ly fun cdv A outer s H E hr => ?_
  have hu:=dj hr
  exact (ag (dJ (ax jt (hr.mono (by decide)) rfl (ae (mv 0) (ae (mv 1) av)) ay))
    (ag (aJ (i:=2) ly.nd rfl (by first|exact .inl rfl|exact .inr rfl) (bI (cu (ae (mv 1) (ae (ax cB (hr.mono (by decide)) rfl (ae (mv 0) (ae (mv 1) av)) ay) av)) (fun _ _ _ _ z=>by rw [(aD (aD br)) _ _ _ _ z];decide))))
    (ag (aJ (i:=3) ly.nd rfl (by first|exact .inl rfl|exact .inr rfl) (ax cB (hr.mono (by decide)) rfl (ae (mv 0) (ae (bu (mv 2) aq (fun _ _=>rfl)) av)) ay))
    (ag (IT PassesOwn.never (bn (mQ hu) sL (mv 3) (bu (mv 2) rM (fun _ _=>rfl)) (aV _)) (ag (dJ (iG (mv 2) (mv 3)))
    (ar (aJ (i:=3) ly.nd rfl (by first|exact .inl rfl|exact .inr rfl) (ax cB (hr.mono (by decide)) rfl (ae (mv 0) (ae (mv 3) av)) ay)))))
    (ag (aJ (i:=4) ly.nd rfl (by first|exact .inl rfl|exact .inr rfl) (IN (bn (du hu) fv (bu (mv 2) rM (fun _ _=>rfl)) (bu (mv 2) rM (fun _ _=>rfl)) (aV _)) (IL [114,101,115,116] rfl) (IL [112,97,105,114] rfl)))
    (ar (aR (fq (ae (aQ kT AA (fS rfl cm (eZ (mv 2))) aq) (ae (mv 4) (ae (mv 2) av)))))))))))
theorem GY:aL ["web", "stand"] ["web", "stand"] (aj jH):=⟨rfl,rfl,rfl,by decide +kernel,rfl,by decide +kernel,by decide +kernel⟩
theorem GZ (F:Fun K "end_of" "end_of" jH f fd) (yJ:Def P w K mg base "ended" 6 2 i7):cf P w K mg base CX0 7 f fd ["web", "stand"] (spF K iM 2):=by
  refine bV F GY fun cdv A outer s H E hr => ?_
  have hu:=dj hr
  exact (ar (aR (bu (bu (ax yJ (hr.mono (by decide)) rfl (ae (mv 0) (ae (mv 1) av)) ay) aq (fun _ _=>rfl)) rM (fun _ _=>rfl))))
theorem qU:aL ["web", "opinion"] ["web", "opinion"] (aj dB):=⟨rfl,rfl,rfl,by decide +kernel,rfl,by decide +kernel,by decide +kernel⟩
theorem qV (F:Fun K "stand_of_all" "stand_of_all" dB f fd) (bK:mg "tuple" = none) (iT:Def P w K mg base "stays_of" 1 1 cZ):cf P w K mg base CX0 2 f fd ["web", "opinion"] (spF K cG 2):=by
  refine bV F qU fun cdv A outer s H E hr => ?_
  have hu:=dj hr
  exact (ar (aR (ia rfl bK (jh (fh (own:=["stay"]) (capn:=["opinion"]) (caps:=[1]) rfl (bX.mk' rfl (by decide +kernel) (by decide +kernel) (by repeat' (first|exact aY.nil|refine aY.cons (by first|exact (fun _=>.inl rfl)|exact (fun _=>.inr rfl)|(intro z;cases z;done)) ?_)) (bQ.cons rfl rfl bQ.nil)) (ft (ax iT (hr.mono (by decide)) rfl (ae (mv 0) av) ay))
      (fun cl C s H ex=>⟨(aP (i:=0) (show ((["stay"] : List Str)++(["opinion"] : List Str)).Nodup by decide +kernel) rfl (by first|exact .inl rfl|exact .inr rfl)),dL,(IN (bn mK mP (mv 0) dr (aV _)) (mv 1) (mv 0))⟩))))))
theorem vg:aL ["web"] ["web"] (aj eQ):=⟨rfl,rfl,rfl,by decide +kernel,rfl,by decide +kernel,by decide +kernel⟩
theorem vh (F:Fun K "least_rest" "least_rest" eQ f fd) (lC:Def P w K mg base "end_of" 7 2 iM) (eA:Def P w K mg base "stand_of_all" 2 2 cG):cf P w K mg base CX0 8 f fd ["web"] (spF K cD 1):=by
  refine bV F vg fun cdv A outer s H E hr => ?_
  have hu:=dj hr
  exact (ar (aR (ax lC (hr.mono (by decide)) rfl (ae (mv 0) (ae (ax eA (hr.mono (by decide)) rfl (ae (mv 0) (ae aq av)) ay) av)) ay)))
theorem pv:aL ["web"] ["web"] (aj c7):=⟨rfl,rfl,rfl,by decide +kernel,rfl,by decide +kernel,by decide +kernel⟩
theorem pw (F:Fun K "greatest_rest" "greatest_rest" c7 f fd) (lC:Def P w K mg base "end_of" 7 2 iM) (eA:Def P w K mg base "stand_of_all" 2 2 cG):cf P w K mg base CX0 8 f fd ["web"] (spF K bH 1):=by
  refine bV F pv fun cdv A outer s H E hr => ?_
  have hu:=dj hr
  exact (ar (aR (ax lC (hr.mono (by decide)) rfl (ae (mv 0) (ae (ax eA (hr.mono (by decide)) rfl (ae (mv 0) (ae aq av)) ay) av)) ay)))
theorem bY:aL ["low", "high", "stands", "least", "greatest", "longer", "stand"] ["low", "high"] (aj cW):=⟨rfl,rfl,rfl,by decide +kernel,rfl,by decide +kernel,by decide +kernel⟩
theorem nR (F:Fun K "stands_between" "stands_between" cW f fd) (KA:mg "zip" = none) (aW:mg "range" = none):cf P w K mg base CX0 1 f fd ["low", "high"] (spF K bJ 2):=by
  refine bV F bY fun cdv A outer s H E hr => ?_
  have hu:=dj hr
  exact (ag (aJ (i:=2) bY.nd rfl (by first|exact .inl rfl|exact .inr rfl) (bI (cu (ae (fq av) av) (fun _ _ _ _ z=>by rw [(aD br) _ _ _ _ z];decide))))
    (ag (eo PassesOwn.never rfl (OK rfl KA (mv 0) (mv 1)) (sM rfl (em (aP (i:=3) bY.nd rfl (by first|exact .inl rfl|exact .inr rfl)) (em (aP (i:=4) bY.nd rfl (by first|exact .inl rfl|exact .inr rfl)) nA))) (ag (aJ (i:=5) bY.nd rfl (by first|exact .inl rfl|exact .inr rfl) (bI (cu av (fun _ _ _ _ z=>by rw [br _ _ _ _ z];decide))))
    (ag (eo PassesOwn.never rfl (ft (mv 2)) (aP (i:=6) bY.nd rfl (by first|exact .inl rfl|exact .inr rfl)) (ar (dJ (Fq (mv 5) (fh (own:=["opinion"]) (capn:=["stand"]) (caps:=[6]) rfl (bX.mk' rfl (by decide +kernel) (by decide +kernel) (by repeat' (first|exact aY.nil|refine aY.cons (by first|exact (fun _=>.inl rfl)|exact (fun _=>.inr rfl)|(intro z;cases z;done)) ?_)) (bQ.cons rfl rfl bQ.nil)) (Ge rfl aW (mv 3) (aQ ee fU (mv 4) aq))
      (fun cl C s H ex=>⟨(aP (i:=0) (show ((["opinion"] : List Str)++(["stand"] : List Str)).Nodup by decide +kernel) rfl (by first|exact .inl rfl|exact .inr rfl)),dL,(aQ rO rP (mv 1) (fq (ae (mv 0) av)))⟩))))))
    (ar (aJ (i:=2) bY.nd rfl (by first|exact .inl rfl|exact .inr rfl) (mv 5))))))
    (ar (aR (mv 2)))))
theorem jI:aL ["web"] ["web"] (aj cN):=⟨rfl,rfl,rfl,by decide +kernel,rfl,by decide +kernel,by decide +kernel⟩
theorem px (F:Fun K "stands_to_try" "stands_to_try" cN f fd) (cm:mg "len" = none) {gL:Tok} (fI:mg "MOST_FREE" = some (.int 12 gL)) (dF:Def P w K mg base "stands_between" 1 2 bJ) (dS:Def P w K mg base "greatest_rest" 8 1 bH) (fZ:Def P w K mg base "least_rest" 8 1 cD) (jL:Def P w K mg base "free_of" 2 1 eK):cf P w K mg base CX0 9 f fd ["web"] (spF K cM 1):=by
  refine bV F jI fun cdv A outer s H E hr => ?_
  have hu:=dj hr
  exact (ag (cz (bn wS uV (fS rfl cm (eZ (ax jL (hr.mono (by decide)) rfl (ae (mv 0) av) ay))) (nt rfl fI) (aV _)) (ar ji) bq)
    (ar (aR (ax dF (hr.mono (by decide)) rfl (ae (ax fZ (hr.mono (by decide)) rfl (ae (mv 0) av) ay) (ae (ax dS (hr.mono (by decide)) rfl (ae (mv 0) av) ay) av)) ay))))
theorem Br:aL ["web"] ["web"] (aj kb):=⟨rfl,rfl,rfl,by decide +kernel,rfl,by decide +kernel,by decide +kernel⟩
theorem Kx (F:Fun K "rests" "rests" kb f fd) (cB:Def P w K mg base "turn_at" 4 2 a0) (dU:Def P w K mg base "stands_to_try" 9 1 cM):cf P w K mg base CX0 10 f fd ["web"] (spF K mh 1):=by
  refine bV F Br fun cdv A outer s H E hr => ?_
  have hu:=dj hr
  exact (ar (aR (bI (fh (own:=["stand"]) (capn:=["web"]) (caps:=[0]) rfl (bX.mk' rfl (by decide +kernel) (by decide +kernel) (by repeat' (first|exact aY.nil|refine aY.cons (by first|exact (fun _=>.inl rfl)|exact (fun _=>.inr rfl)|(intro z;cases z;done)) ?_)) (bQ.cons rfl rfl bQ.nil)) (ft (ax dU (hr.mono (by decide)) rfl (ae (mv 0) av) ay))
      (fun cl C s H ex=>⟨(aP (i:=0) (show ((["stand"] : List Str)++(["web"] : List Str)).Nodup by decide +kernel) rfl (by first|exact .inl rfl|exact .inr rfl)),(rL (bn (du hu) fv (ax cB (hr.mono (by decide)) rfl (ae (mv 1) (ae (mv 0) av)) ay) (mv 0) (aV _))),(mv 0)⟩)))))
theorem gJ:aL ["web", "found", "one", "other"] ["web"] (aj kc):=⟨rfl,rfl,rfl,by decide +kernel,rfl,by decide +kernel,by decide +kernel⟩
theorem Ky (F:Fun K "pairs" "pairs" kc f fd) (dU:Def P w K mg base "stands_to_try" 9 1 cM) (cB:Def P w K mg base "turn_at" 4 2 a0):cf P w K mg base CX0 10 f fd ["web"] (spF K ka 1):=by
  refine bV F gJ fun cdv A outer s H E hr => ?_
  have hu:=dj hr
  exact (ag (aJ (i:=1) gJ.nd rfl (by first|exact .inl rfl|exact .inr rfl) (bI (cu av (fun _ _ _ _ z=>by rw [br _ _ _ _ z];decide))))
    (ag (eo PassesOwn.never rfl (ft (ax dU (hr.mono (by decide)) rfl (ae (mv 0) av) ay)) (aP (i:=2) gJ.nd rfl (by first|exact .inl rfl|exact .inr rfl)) (ag (aJ (i:=3) gJ.nd rfl (by first|exact .inl rfl|exact .inr rfl) (ax cB (hr.mono (by decide)) rfl (ae (mv 0) (ae (mv 2) av)) ay))
    (ar (cz (MW.mt (yb (bn (CM hr.units0) Dd (mv 2) (mv 3) (aV _)) (jg (bn (du hu) fv (ax cB (hr.mono (by decide)) rfl (ae (mv 0) (ae (mv 3) av)) ay) (mv 2) (aV _)) (.inl rfl)))) (ar (dJ (iG (mv 1) (fq (ae (mv 2) (ae (mv 3) av)))))) bq))))
    (ar (aR (mv 1)))))
theorem yD:aL ["_law_script", "_law_k"] ["_law_script", "_law_k"] (aj fD):=⟨rfl,rfl,rfl,by decide +kernel,rfl,by decide +kernel,by decide +kernel⟩
theorem yE (F:Fun K "_law_cell" "_law_cell" fD f fd) (cm:mg "len" = none):cf P w K mg base CX0 1 f fd ["_law_script", "_law_k"] (spF K bC 2):=by
  refine bV F yD fun cdv A outer s H E hr => ?_
  have hu:=dj hr
  exact (ag (cz (bn Ng uV (mv 1) (fS rfl cm (eZ (mv 0))) (aV _)) (ar (aR (bu (mv 0) (mv 1) (fun _ _=>rfl)))) bq)
    (ar (aR (aQ ee fU (aQ fM fR (aQ fM fR aq (mv 1)) (mv 1)) (aQ fM fR aq (mv 1))))))
theorem ez:aL ["_law_cell_here", "_law_way", "_law_many", "_law_base", "_law_found", "_law_number", "_law_k"] ["_law_cell_here", "_law_way", "_law_many", "_law_base"] (aj gq):=⟨rfl,rfl,rfl,by decide +kernel,rfl,by decide +kernel,by decide +kernel⟩
theorem Bs (F:Fun K "_law_row" "_law_row" gq f fd) (aW:mg "range" = none):cf P w K mg base CX0 1 f fd ["_law_cell_here", "_law_way", "_law_many", "_law_base"] (spF K dm 4):=by
  refine bV F ez fun cdv A outer s H E hr => ?_
  have hu:=dj hr
  exact (ag (aJ (i:=4) ez.nd rfl (by first|exact .inl rfl|exact .inr rfl) (bI (cu av (fun _ _ _ _ z=>by rw [br _ _ _ _ z];decide))))
    (ag (aJ (i:=5) ez.nd rfl (by first|exact .inl rfl|exact .inr rfl) (mv 0))
    (ag (cz (bn (du hu) fv (aQ dg dh (mv 1) aq) aq (aV _)) (ar (aJ (i:=5) ez.nd rfl (by first|exact .inl rfl|exact .inr rfl) (aQ dg dh (aQ fM fR (aQ dg dh (mv 0) aq) aq) aq))) bq)
    (ag (eo PassesOwn.never rfl (cO rfl aW (mv 2)) (aP (i:=6) ez.nd rfl (by first|exact .inl rfl|exact .inr rfl)) (ar (cz (bn (du hu) fv (aQ dg dh (mv 1) aq) aq (aV _)) (ag (aJ (i:=5) ez.nd rfl (by first|exact .inl rfl|exact .inr rfl) (aQ dg dh (aQ ee fU (aQ ee fU (aQ ee fU (aQ fM fR (mv 5) (mv 5)) (aQ fM fR aq (mv 5))) (aQ fM fR aq (mv 6))) aq) aq))
    (ar (dJ (iG (mv 4) (aQ dg dh (aQ dR gR (mv 5) aq) (mv 3)))))) (ag (dJ (iG (mv 4) (aQ dg dh (mv 5) (mv 3))))
    (ar (aJ (i:=5) ez.nd rfl (by first|exact .inl rfl|exact .inr rfl) (aQ dR gR (mv 5) (mv 3))))))))
    (ar (aR (mv 4)))))))
theorem bp:aL ["_law_script", "_law_most", "_law_way", "_law_many", "_law_tied", "_law_told", "_law_one", "_law_other", "_law_heavy", "_law_levels", "_law_steps", "_law_holders"] ["_law_script", "_law_most"] (aj eR):=⟨rfl,rfl,rfl,by decide +kernel,rfl,by decide +kernel,by decide +kernel⟩
theorem vj (F:Fun K "_law_model" "_law_model" eR f fd) (aW:mg "range" = none) (kE:mg "sum" = none) (KC:mg "max" = none) (iU:Def P w K mg base "_law_row" 1 4 dm) (dH:Def P w K mg base "_law_cell" 1 2 bC):cf P w K mg base CX0 2 f fd ["_law_script", "_law_most"] (spF K io 2):=by
  refine bV F bp fun cdv A outer s H E hr => ?_
  have hu:=dj hr
  exact (ag (aJ (i:=2) bp.nd rfl (by first|exact .inl rfl|exact .inr rfl) (ax dH (hr.mono (by decide)) rfl (ae (mv 0) (ae aq av)) ay))
    (ag (aJ (i:=3) bp.nd rfl (by first|exact .inl rfl|exact .inr rfl) (aQ ee fU aq (aQ dg dh (aQ dR gR (mv 2) aq) (mv 1))))
    (ag (nC (i:=4) bp.nd rfl (by first|exact .inl rfl|exact .inr rfl) (own:=["_law_one"]) (capn:=["_law_many"]) (caps:=[3]) rfl (bX.mk' rfl (by decide +kernel) (by decide +kernel) (by repeat' (first|exact aY.nil|refine aY.cons (by first|exact (fun _=>.inl rfl)|exact (fun _=>.inr rfl)|(intro z;cases z;done)) ?_)) (bQ.cons rfl rfl bQ.nil)) (cO rfl aW (mv 3))
      (fun cl C s H ex=>⟨(aP (i:=0) (show ((["_law_one"] : List Str)++(["_law_many"] : List Str)).Nodup by decide +kernel) rfl (by first|exact .inl rfl|exact .inr rfl)),dL,(bI (C7 (cu (ae aq av) (fun _ _ _ _ z=>by rw [(aD br) _ _ _ _ z];decide)) (mv 1)))⟩))
    (ag (aJ (i:=5) bp.nd rfl (by first|exact .inl rfl|exact .inr rfl) (ax iU (hr.mono (by decide)) rfl (ae (ax dH (hr.mono (by decide)) rfl (ae (mv 0) (ae aq av)) ay) (ae (mv 2) (ae (aQ fM fR (mv 3) (mv 3)) (ae aq av)))) ay))
    (ag (eo PassesOwn.never rfl (cO rfl aW (mv 3)) (aP (i:=6) bp.nd rfl (by first|exact .inl rfl|exact .inr rfl)) (ar (eo PassesOwn.never rfl (cO rfl aW (mv 6)) (aP (i:=7) bp.nd rfl (by first|exact .inl rfl|exact .inr rfl)) (ag (aJ (i:=8) bp.nd rfl (by first|exact .inl rfl|exact .inr rfl) (OI rfl rfl KC aq (aQ kT AA (bu (mv 5) (aQ ee fU (aQ fM fR (mv 6) (mv 3)) (mv 7)) (fun _ _=>rfl)) aq)))
    (ag (cz (bn (du hu) fv (aQ dg dh (aQ dR gR (mv 2) aq) aq) aq (aV _)) (ar (aJ (i:=8) bp.nd rfl (by first|exact .inl rfl|exact .inr rfl) (IP (cu (ae aq (ae aq (ae aq (ae aq (ae aq (ae aq (ae aq av))))))) (fun _ _ _ _ z=>by rw [(aD (aD (aD (aD (aD (aD (aD br))))))) _ _ _ _ z];decide)) (aQ dg dh (bu (mv 5) (aQ ee fU (aQ fM fR (mv 6) (mv 3)) (mv 7)) (fun _ _=>rfl)) aq) (fun _ _=>rfl)))) bq)
    (ag (ye (mv 8) (bu (mv 4) (mv 6) (fun _ _=>rfl)) (mv 7))
    (ar (ye (mv 8) (bu (mv 4) (mv 7) (fun _ _=>rfl)) (mv 6)))))))))
    (ag (nC (i:=9) bp.nd rfl (by first|exact .inl rfl|exact .inr rfl) (own:=["_law_row_here"]) (capn:=[]) (caps:=[]) rfl (bX.mk' rfl (by decide +kernel) (by decide +kernel) (by repeat' (first|exact aY.nil|refine aY.cons (by first|exact (fun _=>.inl rfl)|exact (fun _=>.inr rfl)|(intro z;cases z;done)) ?_)) bQ.nil) (ft (mv 4))
      (fun cl C s H ex=>⟨(aP (i:=0) (show ((["_law_row_here"] : List Str)++([] : List Str)).Nodup by decide +kernel) rfl (by first|exact .inl rfl|exact .inr rfl)),dL,(CS rfl rfl kE (eZ (mv 0)))⟩))
    (ag (cz (bn (du hu) fv (aQ dg dh (aQ dR gR (mv 2) aq) aq) aq (aV _)) (ag (aJ (i:=10) bp.nd rfl (by first|exact .inl rfl|exact .inr rfl) (ax iU (hr.mono (by decide)) rfl (ae (ax dH (hr.mono (by decide)) rfl (ae (mv 0) (ae aq av)) ay) (ae (mv 2) (ae (mv 3) (ae aq av)))) ay))
    (ar (eo PassesOwn.never rfl (cO rfl aW (mv 3)) (aP (i:=6) bp.nd rfl (by first|exact .inl rfl|exact .inr rfl)) (ar (ye (IP (cu (ae (aQ kT AA (bu (mv 10) (mv 6) (fun _ _=>rfl)) aq) (ae (aQ kT AA (aQ ee fU (bu (mv 9) (mv 6) (fun _ _=>rfl)) (aQ dg dh (bu (mv 10) (mv 6) (fun _ _=>rfl)) aq)) aq) av)) (fun _ _ _ _ z=>by rw [(aD (aD br)) _ _ _ _ z];decide)) (aQ dg dh (aQ dR gR (mv 2) aq) aq) (fun _ _=>rfl)) (mv 9) (mv 6)))))) bq)
    (ag (aJ (i:=11) bp.nd rfl (by first|exact .inl rfl|exact .inr rfl) (bI (C7 (cu (ae dr av) (fun _ _ _ _ z=>by rw [(aD br) _ _ _ _ z];decide)) (mv 3))))
    (ag (cz (bn (du hu) fv (aQ dg dh (aQ dR gR (mv 2) aq) aq) aq (aV _)) (ag (aJ (i:=5) bp.nd rfl (by first|exact .inl rfl|exact .inr rfl) (ax iU (hr.mono (by decide)) rfl (ae (ax dH (hr.mono (by decide)) rfl (ae (mv 0) (ae aq av)) ay) (ae (mv 2) (ae (mv 3) (ae aq av)))) ay))
    (ar (nC (i:=11) bp.nd rfl (by first|exact .inl rfl|exact .inr rfl) (own:=["_law_number"]) (capn:=[]) (caps:=[]) rfl (bX.mk' rfl (by decide +kernel) (by decide +kernel) (by repeat' (first|exact aY.nil|refine aY.cons (by first|exact (fun _=>.inl rfl)|exact (fun _=>.inr rfl)|(intro z;cases z;done)) ?_)) bQ.nil) (ft (mv 5))
      (fun cl C s H ex=>⟨(aP (i:=0) (show ((["_law_number"] : List Str)++([] : List Str)).Nodup by decide +kernel) rfl (by first|exact .inl rfl|exact .inr rfl)),dL,(IP (cu (ae aq (ae aq (ae dr (ae dr (ae dr (ae dr (ae dr av))))))) (fun _ _ _ _ z=>by rw [(aD (aD (aD (aD (aD (aD (aD br))))))) _ _ _ _ z];decide)) (mv 0) (fun _ _=>rfl))⟩)))) bq)
    (ar (aR (fq (ae (mv 4) (ae (mv 9) (ae (mv 11) av)))))))))))))))
theorem gD:aL ["_law_model_here", "_law_found", "_law_one", "_law_other"] ["_law_model_here"] (aj eS):=⟨rfl,rfl,rfl,by decide +kernel,rfl,by decide +kernel,by decide +kernel⟩
theorem vk (F:Fun K "_law_lines" "_law_lines" eS f fd) (aW:mg "range" = none) (cm:mg "len" = none):cf P w K mg base CX0 1 f fd ["_law_model_here"] (spF K fA 1):=by
  refine bV F gD fun cdv A outer s H E hr => ?_
  have hu:=dj hr
  exact (ag (aJ (i:=1) gD.nd rfl (by first|exact .inl rfl|exact .inr rfl) (bI (cu av (fun _ _ _ _ z=>by rw [br _ _ _ _ z];decide))))
    (ag (eo PassesOwn.never rfl (cO rfl aW (fS rfl cm (eZ (bu (mv 0) aq (fun _ _=>rfl))))) (aP (i:=2) gD.nd rfl (by first|exact .inl rfl|exact .inr rfl)) (ar (eo PassesOwn.never rfl (cO rfl aW (mv 2)) (aP (i:=3) gD.nd rfl (by first|exact .inl rfl|exact .inr rfl)) (ar (cz (bn wS uV (bu (bu (bu (mv 0) aq (fun _ _=>rfl)) (mv 2) (fun _ _=>rfl)) (mv 3) (fun _ _=>rfl)) aq (aV _)) (ar (dJ (iG (mv 1) (fq (ae (mv 3) (ae (mv 2) (ae (bu (bu (bu (mv 0) aq (fun _ _=>rfl)) (mv 2) (fun _ _=>rfl)) (mv 3) (fun _ _=>rfl)) av))))))) bq)))))
    (ar (aR (mv 1)))))
theorem bZ:aL ["_law_model_here", "_law_stand", "_law_tied", "_law_levels", "_law_holders", "_law_found", "_law_one", "_law_force", "_law_held"] ["_law_model_here", "_law_stand"] (aj fE):=⟨rfl,rfl,rfl,by decide +kernel,rfl,by decide +kernel,by decide +kernel⟩
theorem yF (F:Fun K "_law_turn" "_law_turn" fE f fd) (bK:mg "tuple" = none) (aW:mg "range" = none) (cm:mg "len" = none) (kE:mg "sum" = none):cf P w K mg base CX0 1 f fd ["_law_model_here", "_law_stand"] (spF K dz 2):=by
  refine bV F bZ fun cdv A outer s H E hr => ?_
  have hu:=dj hr
  exact (ag (Oo (mv 0) (sM rfl (em (aP (i:=2) bZ.nd rfl (by first|exact .inl rfl|exact .inr rfl)) (em (aP (i:=3) bZ.nd rfl (by first|exact .inl rfl|exact .inr rfl)) (em (aP (i:=4) bZ.nd rfl (by first|exact .inl rfl|exact .inr rfl)) nA)))))
    (ag (aJ (i:=5) bZ.nd rfl (by first|exact .inl rfl|exact .inr rfl) (bI (cu av (fun _ _ _ _ z=>by rw [br _ _ _ _ z];decide))))
    (ag (eo PassesOwn.never rfl (cO rfl aW (fS rfl cm (eZ (mv 3)))) (aP (i:=6) bZ.nd rfl (by first|exact .inl rfl|exact .inr rfl)) (ag (aJ (i:=7) bZ.nd rfl (by first|exact .inl rfl|exact .inr rfl) (aQ fM fR aq (CS rfl rfl kE (jh (fh (own:=["_law_other"]) (capn:=["_law_stand", "_law_tied", "_law_one"]) (caps:=[1,2,6]) rfl (bX.mk' rfl (by decide +kernel) (by decide +kernel) (by repeat' (first|exact aY.nil|refine aY.cons (by first|exact (fun _=>.inl rfl)|exact (fun _=>.inr rfl)|(intro z;cases z;done)) ?_)) (bQ.cons rfl rfl (bQ.cons rfl rfl (bQ.cons rfl rfl bQ.nil)))) (cO rfl aW (fS rfl cm (eZ (mv 3))))
      (fun cl C s H ex=>⟨(aP (i:=0) (show ((["_law_other"] : List Str)++(["_law_stand", "_law_tied", "_law_one"] : List Str)).Nodup by decide +kernel) rfl (by first|exact .inl rfl|exact .inr rfl)),dL,(aQ fM fR (bu (bu (mv 2) (mv 3) (fun _ _=>rfl)) (mv 0) (fun _ _=>rfl)) (bu (mv 1) (mv 0) (fun _ _=>rfl)))⟩))))))
    (ag (aJ (i:=8) bZ.nd rfl (by first|exact .inl rfl|exact .inr rfl) (bu (mv 1) (mv 6) (fun _ _=>rfl)))
    (ag (cz (bn wS uV (mv 7) (bu (mv 3) (mv 6) (fun _ _=>rfl)) (aV _)) (ar (aJ (i:=8) bZ.nd rfl (by first|exact .inl rfl|exact .inr rfl) aq)) bq)
    (ag (cz (bn Ng uV (mv 7) (bu (mv 3) (mv 6) (fun _ _=>rfl)) (aV _)) (ar (aJ (i:=8) bZ.nd rfl (by first|exact .inl rfl|exact .inr rfl) aq)) bq)
    (ag (cz (bn xW oO (bu (mv 4) (mv 6) (fun _ _=>rfl)) dr (aV _)) (ar (aJ (i:=8) bZ.nd rfl (by first|exact .inl rfl|exact .inr rfl) (bu (mv 4) (mv 6) (fun _ _=>rfl)))) bq)
    (ar (dJ (iG (mv 5) (mv 8))))))))))
    (ar (aR (ia rfl bK (eZ (mv 5))))))))
theorem yG:aL ["_law_model_here"] ["_law_model_here"] (aj fF):=⟨rfl,rfl,rfl,by decide +kernel,rfl,by decide +kernel,by decide +kernel⟩
theorem yH (F:Fun K "_law_made" "_law_made" fF f fd) (dE:mg "list" = none) (cm:mg "len" = none) (lD:Def P w K mg base "web_of" 5 4 dA) (ki:Def P w K mg base "_law_lines" 1 1 fA):cf P w K mg base CX0 6 f fd ["_law_model_here"] (spF K ip 1):=by
  refine bV F yG fun cdv A outer s H E hr => ?_
  have hu:=dj hr
  exact (ar (aR (ax lD (hr.mono (by decide)) rfl (ae (fS rfl cm (eZ (bu (mv 0) aq (fun _ _=>rfl)))) (ae (ax ki (hr.mono (by decide)) rfl (ae (mv 0) av) ay) (ae (bI (yh rfl dE (eZ (bu (mv 0) aq (fun _ _=>rfl))))) (ae (bI (yh rfl dE (eZ (bu (mv 0) aq (fun _ _=>rfl))))) av)))) ay)))
theorem dD:aL ["_law_model_here", "_law_found", "_law_holder", "_law_longer", "_law_stand"] ["_law_model_here"] (aj d5):=⟨rfl,rfl,rfl,by decide +kernel,rfl,by decide +kernel,by decide +kernel⟩
theorem tQ (F:Fun K "_law_stands" "_law_stands" d5 f fd):cf P w K mg base CX0 1 f fd ["_law_model_here"] (spF K iP 1):=by
  refine bV F dD fun cdv A outer s H E hr => ?_
  have hu:=dj hr
  exact (ag (aJ (i:=1) dD.nd rfl (by first|exact .inl rfl|exact .inr rfl) (bI (cu (ae (fq av) av) (fun _ _ _ _ z=>by rw [(aD br) _ _ _ _ z];decide))))
    (ag (eo PassesOwn.never rfl (ft (bu (mv 0) aq (fun _ _=>rfl))) (aP (i:=2) dD.nd rfl (by first|exact .inl rfl|exact .inr rfl)) (ag (aJ (i:=3) dD.nd rfl (by first|exact .inl rfl|exact .inr rfl) (bI (cu av (fun _ _ _ _ z=>by rw [br _ _ _ _ z];decide))))
    (ag (eo PassesOwn.never rfl (ft (mv 1)) (aP (i:=4) dD.nd rfl (by first|exact .inl rfl|exact .inr rfl)) (ar (cz (bn mK mP (mv 2) dr (aV _)) (ar (dJ (Fq (mv 3) (cu (ae (aQ rO rP (mv 4) (fq (ae aq av))) (ae (aQ rO rP (mv 4) (fq (ae aq av))) av)) (fun _ _ _ _ z=>by rw [(aD (aD br)) _ _ _ _ z];decide))))) (ar (dJ (iG (mv 3) (aQ rO rP (mv 4) (fq (ae (mv 2) av)))))))))
    (ar (aJ (i:=1) dD.nd rfl (by first|exact .inl rfl|exact .inr rfl) (mv 3))))))
    (ar (aR (mv 1)))))
theorem gE:aL ["_law_error", "_law_some"] ["_law_error"] (aj eT):=⟨rfl,rfl,rfl,by decide +kernel,rfl,by decide +kernel,by decide +kernel⟩
theorem vl (F:Fun K "_law_class" "_law_class" eT f fd) (aA:mg "isinstance" = none) (kj:mg "ValueError" = none) {fJ:Addr} (pC:mg "TooLong" = some (.ref fJ)) {fK:Addr} (pD:mg "NoOrder" = some (.ref fK)) {jb:Addr} (yK:mg "NoWeb" = some (.ref jb)) {gM:Addr} (tV:mg "NoText" = some (.ref gM)) {jc:Addr} (yL:mg "NoRow" = some (.ref jc)) {eB:Addr} (nc:mg "NoPeople" = some (.ref eB)) {aT:Addr} (jM:mg "TooMuch" = some (.ref aT)) {gP:Addr} (tW:mg "NoRest" = some (.ref gP)) {fL:Addr} (pE:mg "NoStand" = some (.ref fL)) (kl:ig K (fun C b=>PySem.W.kitOne K (.ref C) (iI (.ty "ValueError"))=some b) [("TooMuch",true)]) (pF:ig K (fun C b=>PySem.W.kitOne K (.ref C) (iI (.ref fJ))=some b) [("TooMuch",false)]) (pG:ig K (fun C b=>PySem.W.kitOne K (.ref C) (iI (.ref fK))=some b) [("TooMuch",false)]) (yM:ig K (fun C b=>PySem.W.kitOne K (.ref C) (iI (.ref jb))=some b) [("TooMuch",false)]) (tX:ig K (fun C b=>PySem.W.kitOne K (.ref C) (iI (.ref gM))=some b) [("TooMuch",false)]) (yN:ig K (fun C b=>PySem.W.kitOne K (.ref C) (iI (.ref jc))=some b) [("TooMuch",false)]) (ng:ig K (fun C b=>PySem.W.kitOne K (.ref C) (iI (.ref eB))=some b) [("TooMuch",false)]) (pH:ig K (fun C b=>PySem.W.kitOne K (.ref C) (iI (.ref aT))=some b) [("TooMuch",true)]) (tY:ig K (fun C b=>PySem.W.kitOne K (.ref C) (iI (.ref gP))=some b) [("TooMuch",false)]) (pI:ig K (fun C b=>PySem.W.kitOne K (.ref C) (iI (.ref fL))=some b) [("TooMuch",false)]):cf P w K mg base CX0 1 f fd ["_law_error"] (spF K iq 1):=by
  refine bV F gE fun cdv A outer s H E hr => ?_
  have hu:=dj hr
  exact (ag (cz (bn mK mP (mv 0) dr (aV _)) (ar (aR (bI (cu av (fun _ _ _ _ z=>by rw [br _ _ _ _ z];decide))))) bq)
    (ag (aJ (i:=1) gE.nd rfl (by first|exact .inl rfl|exact .inr rfl) (bI (cu (ae (gy (tb:=[("TooMuch",false)]) (v:=.ref fL) rfl rfl aA (gv (v:=.ref fL) rfl pE rfl (by decide)) pI (mv 0)) (ae (gy (tb:=[("TooMuch",false)]) (v:=.ref gP) rfl rfl aA (gv (v:=.ref gP) rfl tW rfl (by decide)) tY (mv 0)) (ae (gy (tb:=[("TooMuch",true)]) (v:=.ref aT) rfl rfl aA (gv (v:=.ref aT) rfl jM rfl (by decide)) pH (mv 0)) av))) (fun _ _ _ _ z=>by rw [(aD (aD (aD br))) _ _ _ _ z];decide))))
    (ag (aJ (i:=1) gE.nd rfl (by first|exact .inl rfl|exact .inr rfl) (bI (rN (mv 1) (bI (cu (ae (gy (tb:=[("TooMuch",false)]) (v:=.ref eB) rfl rfl aA (gv (v:=.ref eB) rfl nc rfl (by decide)) ng (mv 0)) (ae (gy (tb:=[("TooMuch",false)]) (v:=.ref jc) rfl rfl aA (gv (v:=.ref jc) rfl yL rfl (by decide)) yN (mv 0)) (ae (gy (tb:=[("TooMuch",false)]) (v:=.ref gM) rfl rfl aA (gv (v:=.ref gM) rfl tV rfl (by decide)) tX (mv 0)) av))) (fun _ _ _ _ z=>by rw [(aD (aD (aD br))) _ _ _ _ z];decide))))))
    (ag (aJ (i:=1) gE.nd rfl (by first|exact .inl rfl|exact .inr rfl) (bI (rN (mv 1) (bI (cu (ae (gy (tb:=[("TooMuch",false)]) (v:=.ref jb) rfl rfl aA (gv (v:=.ref jb) rfl yK rfl (by decide)) yM (mv 0)) (ae (gy (tb:=[("TooMuch",false)]) (v:=.ref fK) rfl rfl aA (gv (v:=.ref fK) rfl pD rfl (by decide)) pG (mv 0)) (ae (gy (tb:=[("TooMuch",false)]) (v:=.ref fJ) rfl rfl aA (gv (v:=.ref fJ) rfl pC rfl (by decide)) pF (mv 0)) av))) (fun _ _ _ _ z=>by rw [(aD (aD (aD br))) _ _ _ _ z];decide))))))
    (ar (aR (bI (rN (mv 1) (bI (cu (ae (gy (tb:=[("TooMuch",true)]) (v:=.ty "ValueError") rfl rfl aA (E6 (v:=.ty "ValueError") (u:=.type "ValueError") rfl kj (by decide +kernel) rfl) kl (mv 0)) av) (fun _ _ _ _ z=>by rw [(aD br) _ _ _ _ z];decide)))))))))))
theorem Bt:aL ["_law_k"] ["_law_k"] (aj gr):=⟨rfl,rfl,rfl,by decide +kernel,rfl,by decide +kernel,by decide +kernel⟩
theorem Bu (F:Fun K "_law_due" "_law_due" gr f fd) (aW:mg "range" = none):cf P w K mg base CX0 1 f fd ["_law_k"] (spF K ja 1):=by
  refine bV F Bt fun cdv A outer s H E hr => ?_
  have hu:=dj hr
  exact (ar (aR (bI (rN (bI (fh (own:=["_law_j"]) (capn:=["_law_k"]) (caps:=[0]) rfl (bX.mk' rfl (by decide +kernel) (by decide +kernel) (by repeat' (first|exact aY.nil|refine aY.cons (by first|exact (fun _=>.inl rfl)|exact (fun _=>.inr rfl)|(intro z;cases z;done)) ?_)) (bQ.cons rfl rfl bQ.nil)) (cO rfl aW aq)
      (fun cl C s H ex=>⟨(aP (i:=0) (show ((["_law_j"] : List Str)++(["_law_k"] : List Str)).Nodup by decide +kernel) rfl (by first|exact .inl rfl|exact .inr rfl)),dL,(mO (du hu) fv (mv 0) (mv 1) (aV _))⟩))) (bI (cu (ae qg av) (fun _ _ _ _ z=>by rw [(aD br) _ _ _ _ z];decide)))))))
theorem gW:aL ["_law_web", "_law_way", "_law_caught", "_law_error"] ["_law_web", "_law_way"] (aj dC):=⟨rfl,rfl,rfl,by decide +kernel,rfl,by decide +kernel,by decide +kernel⟩
theorem nS (F0:Fun K "stands_to_try" "stands_to_try" cN f fd) (cm:mg "len" = none) (dF:Def P w K mg base "stands_between" 1 2 bJ) (dS:Def P w K mg base "greatest_rest" 8 1 bH) (fZ:Def P w K mg base "least_rest" 8 1 cD) (jL:Def P w K mg base "free_of" 2 1 eK) {gL:Tok} (fI:mg "MOST_FREE" = some (.int 12 gL)) {aT:Addr} (pJ:PyProof.Rows.OwnCls (Str.ofString "TooMuch") aT Rb "ValueError.__new__" mg base):cf P w K mg base (CX1 P w) 9 f fd ["web"] (spY K mg bF 1):=by
  refine Dc F0 jI fun cdv A outer s H E hr => ?_
  have hu:=dj hr
  exact (nH (Nq (bn wS uV (fS rfl cm (eZ (ax jL (hr.mono (by decide)) rfl (ae (mv 0) av) ay))) (nt rfl fI) (aV _)) (i3 (JG (n := "TooMuch") pJ F.excBase_ValueError rfl rfl (fun e s' h=>Db h))) Ma)
    (i3 (AT (aR (ax dF (hr.mono (by decide)) rfl (ae (ax fZ (hr.mono (by decide)) rfl (ae (mv 0) av) ay) (ae (ax dS (hr.mono (by decide)) rfl (ae (mv 0) av) ay) av)) ay)))))
theorem G0 (F0:Fun K "rests" "rests" kb f fd) (cB:Def P w K mg base "turn_at" 4 2 a0) (gZ:oV P w K mg base "stands_to_try" 9 1 bF):cf P w K mg base (CX1 P w) 10 f fd ["web"] (spY K mg iQ 1):=by
  refine Dc F0 Br fun cdv A outer s H E hr => ?_
  have hu:=dj hr
  exact (i3 (OR (OY (Mc (own:=["stand"]) (capn:=["web"]) (caps:=[0]) rfl (bX.mk' rfl (by decide +kernel) (by decide +kernel) (by repeat' (first|exact aY.nil|refine aY.cons (by first|exact (fun _=>.inl rfl)|exact (fun _=>.inr rfl)|(intro z;cases z;done)) ?_)) (bQ.cons rfl rfl bQ.nil)) (JH (rR gZ (hr.mono (by decide)) rfl (Fs (ae (mv 0) av)) (fun v s' h=>Db h.xp) rS))
      (fun cl C s H ex=>⟨(aP (i:=0) (show ((["stand"] : List Str)++(["web"] : List Str)).Nodup by decide +kernel) rfl (by first|exact .inl rfl|exact .inr rfl)),(rL (bn (du hu) fv (ax cB (hr.mono (by decide)) rfl (ae (mv 1) (ae (mv 0) av)) ay) (mv 0) (aV _))),(mv 0)⟩)))))
theorem G1 (F0:Fun K "pairs" "pairs" kc f fd) (cB:Def P w K mg base "turn_at" 4 2 a0) (gZ:oV P w K mg base "stands_to_try" 9 1 bF):cf P w K mg base (CX1 P w) 10 f fd ["web"] (spY K mg iR 1):=by
  refine Dc F0 gJ fun cdv A outer s H E hr => ?_
  have hu:=dj hr
  exact (nH (AT (aJ (i:=1) gJ.nd rfl (by first|exact .inl rfl|exact .inr rfl) (bI (cu av (fun _ _ _ _ z=>by rw [br _ _ _ _ z];decide)))))
    (nH (Me PassesOwn.leaving rfl (JH (rR gZ (hr.mono (by decide)) rfl (Fs (ae (mv 0) av)) (fun v s' h=>Db h.xp) rS)) (aP (i:=2) gJ.nd rfl (by first|exact .inl rfl|exact .inr rfl)) (nH (AT (aJ (i:=3) gJ.nd rfl (by first|exact .inl rfl|exact .inr rfl) (ax cB (hr.mono (by decide)) rfl (ae (mv 0) (ae (mv 2) av)) ay)))
    (i3 (AT (cz (MW.mt (yb (bn (CM hr.units0) Dd (mv 2) (mv 3) (aV _)) (jg (bn (du hu) fv (ax cB (hr.mono (by decide)) rfl (ae (mv 0) (ae (mv 3) av)) ay) (mv 2) (aV _)) (.inl rfl)))) (ar (dJ (iG (mv 1) (fq (ae (mv 2) (ae (mv 3) av)))))) bq)))))
    (i3 (AT (aR (mv 1))))))
theorem qW (F:Fun K "_law_refused" "_law_refused" dC f fd) {cr:Addr} (lF:mg "MostError" = some (.ref cr)) (h_be:PySem.W.subIn K (.ref cr) (.type "BaseException")=some true) (h_is:(PySem.W.clsIn K cr).isSome=true) (h_ty:PySem.W.typeIn K (.ref cr)=some (.type "type")) (h_cs:Gu K mg cr ["TooMuch"]) (MD:oV P w K mg base "rests" 10 1 iQ) (MH:oV P w K mg base "pairs" 10 1 iR) (km:Def P w K mg base "_law_class" 1 1 iq):cf P w K mg base CX0 11 f fd ["_law_web", "_law_way"] (spF K cH 2):=by
  refine bV F gW fun cdv A outer s H E hr => ?_
  have hu:=dj hr
  exact (ag (aJ (i:=2) gW.nd rfl (by first|exact .inl rfl|exact .inr rfl) dr)
    (ag (OT (i:=2) (j:=3) (cs:=["TooMuch"]) rfl rfl (fun q E=>(i3 (Nq (bn (du hu) fv (mv 1) aq (aV _)) (i3 (Ft (rR MD (hr.mono (by decide)) rfl (Fs (ae (mv 0) av)) (fun v s' h=>h.unwish) rS))) (i3 (Ft (rR MH (hr.mono (by decide)) rfl (Fs (ae (mv 0) av)) (fun v s' h=>h.unwish) rS)))))) rfl rfl lF rfl h_be h_is h_ty gW.nd (by decide) rfl rfl rfl rfl h_cs)
    (ar (aR (ax km (hr.mono (by decide)) rfl (ae (mv 2) av) ay)))))
theorem dN:aL ["_law_cell_here", "_law_many", "_law_free", "_law_holders", "_law_k", "_law_lines_here", "_law_web"] ["_law_cell_here"] (aj fG):=⟨rfl,rfl,rfl,by decide +kernel,rfl,by decide +kernel,by decide +kernel⟩
theorem yI (F:Fun K "_law_wide" "_law_wide" fG f fd) (aW:mg "range" = none) (eC:Def P w K mg base "_law_refused" 11 2 cH) (kn:Def P w K mg base "_law_due" 1 1 ja) (lD:Def P w K mg base "web_of" 5 4 dA):cf P w K mg base CX0 12 f fd ["_law_cell_here"] (spF K lu 1):=by
  refine bV F dN fun cdv A outer s H E hr => ?_
  have hu:=dj hr
  exact (ag (aJ (i:=1) dN.nd rfl (by first|exact .inl rfl|exact .inr rfl) (aQ ee fU aq (aQ dg dh (mv 0) aq)))
    (ag (aJ (i:=2) dN.nd rfl (by first|exact .inl rfl|exact .inr rfl) (aQ ee fU aq (aQ dg dh (aQ dR gR (mv 0) aq) aq)))
    (ag (aJ (i:=3) dN.nd rfl (by first|exact .inl rfl|exact .inr rfl) (bI (C7 (cu (ae dr av) (fun _ _ _ _ z=>by rw [(aD br) _ _ _ _ z];decide)) (mv 1))))
    (ag (eo PassesOwn.never rfl (cO rfl aW (aQ kT AA (mv 1) (mv 2))) (aP (i:=4) dN.nd rfl (by first|exact .inl rfl|exact .inr rfl)) (ar (ye (aQ dg dh (aQ dR gR (mv 0) aq) aq) (mv 3) (aQ dg dh (aQ ee fU (aQ dR gR (mv 0) aq) (aQ fM fR aq (mv 4))) (mv 1)))))
    (ag (nC (i:=5) dN.nd rfl (by first|exact .inl rfl|exact .inr rfl) (own:=["_law_k"]) (capn:=["_law_cell_here"]) (caps:=[0]) rfl (bX.mk' rfl (by decide +kernel) (by decide +kernel) (by repeat' (first|exact aY.nil|refine aY.cons (by first|exact (fun _=>.inl rfl)|exact (fun _=>.inr rfl)|(intro z;cases z;done)) ?_)) (bQ.cons rfl rfl bQ.nil)) (cO rfl aW (aQ kT AA (mv 1) aq))
      (fun cl C s H ex=>⟨(aP (i:=0) (show ((["_law_k"] : List Str)++(["_law_cell_here"] : List Str)).Nodup by decide +kernel) rfl (by first|exact .inl rfl|exact .inr rfl)),dL,(fq (ae (mv 0) (ae (aQ ee fU (mv 0) aq) (ae (aQ ee fU aq (aQ dg dh (mv 1) aq)) av))))⟩))
    (ag (aJ (i:=6) dN.nd rfl (by first|exact .inl rfl|exact .inr rfl) (ax lD (hr.mono (by decide)) rfl (ae (mv 1) (ae (mv 5) (ae dr (ae (mv 3) av)))) ay))
    (ag (cz (bn (du hu) fv (mv 2) aq (aV _)) (ar (aR (MB.me (Nm (kC (mO wS uV (aQ dg dh (aQ dR gR (mv 0) aq) aq) aq (aV _))) (oQ (kC (mO (du hu) fv (ax eC (hr.mono (by decide)) rfl (ae (mv 6) (ae (aQ dg dh (aQ dR gR (mv 0) aq) aq) av)) ay) (bI (cu av (fun _ _ _ _ z=>by rw [br _ _ _ _ z];decide))) (aV _)))))))) bq)
    (ar (aR (MB.me (yc (kC (mO (du hu) fv (ax eC (hr.mono (by decide)) rfl (ae (mv 6) (ae aq av)) ay) (ax kn (hr.mono (by decide)) rfl (ae aq av) ay) (aV _))) (oQ (kC (mO (du hu) fv (ax eC (hr.mono (by decide)) rfl (ae (mv 6) (ae aq av)) ay) (ax kn (hr.mono (by decide)) rfl (ae aq av) ay) (aV _)))))))))))))))
theorem kf:aL ["_law_script", "_law_model_here", "_law_web", "_law_own_rests", "_law_own_pairs", "_law_stand", "_law_later", "_law_k", "_law_found"] ["_law_script"] (aj nQ):=⟨rfl,rfl,rfl,by decide +kernel,rfl,by decide +kernel,by decide +kernel⟩
theorem Pp (F:Fun K "law" "law" nQ f fd) (aW:mg "range" = none) (aA:mg "isinstance" = none) (dE:mg "list" = none) (lG:Def P w K mg base "_law_wide" 12 1 lu) (dH:Def P w K mg base "_law_cell" 1 2 bC) (yO:Def P w K mg base "pairs" 10 1 ka) (yP:Def P w K mg base "rests" 10 1 mh) (ju:Def P w K mg base "_law_stands" 1 1 iP) (jd:Def P w K mg base "_law_turn" 1 2 dz) (lH:Def P w K mg base "_law_made" 6 1 ip) (ko:Def P w K mg base "_law_model" 2 2 io):cf P w K mg base CX0 13 f fd ["_law_script"] (spF K FE 1):=by
  refine bV F kf fun cdv A outer s H E hr => ?_
  have hu:=dj hr
  exact (ag (aJ (i:=1) kf.nd rfl (by first|exact .inl rfl|exact .inr rfl) (ax ko (hr.mono (by decide)) rfl (ae (mv 0) (ae aq av)) ay))
    (ag (aJ (i:=2) kf.nd rfl (by first|exact .inl rfl|exact .inr rfl) (ax lH (hr.mono (by decide)) rfl (ae (mv 1) av) ay))
    (ag (aJ (i:=3) kf.nd rfl (by first|exact .inl rfl|exact .inr rfl) (bI (cu av (fun _ _ _ _ z=>by rw [br _ _ _ _ z];decide))))
    (ag (aJ (i:=4) kf.nd rfl (by first|exact .inl rfl|exact .inr rfl) (bI (cu av (fun _ _ _ _ z=>by rw [br _ _ _ _ z];decide))))
    (ag (eo PassesOwn.never rfl (ft (ax ju (hr.mono (by decide)) rfl (ae (mv 1) av) ay)) (aP (i:=5) kf.nd rfl (by first|exact .inl rfl|exact .inr rfl)) (ag (aJ (i:=6) kf.nd rfl (by first|exact .inl rfl|exact .inr rfl) (ax jd (hr.mono (by decide)) rfl (ae (mv 1) (ae (mv 5) av)) ay))
    (ar (cz (bn (du hu) fv (mv 6) (mv 5) (aV _)) (ar (dJ (iG (mv 3) (mv 5)))) (ar (cz (MW.mt (yb (bn (CM hr.units0) Dd (mv 5) (mv 6) (aV _)) (jg (bn (du hu) fv (ax jd (hr.mono (by decide)) rfl (ae (mv 1) (ae (mv 6) av)) ay) (mv 5) (aV _)) (.inl rfl)))) (ar (dJ (iG (mv 4) (fq (ae (mv 5) (ae (mv 6) av)))))) bq))))))
    (ag (eo PassesOwn.never rfl (cO rfl aW aq) (aP (i:=7) kf.nd rfl (by first|exact .inl rfl|exact .inr rfl)) (ag (aJ (i:=8) kf.nd rfl (by first|exact .inl rfl|exact .inr rfl) (bI (cu (ae (ax yP (hr.mono (by decide)) rfl (ae (mv 2) av) ay) (ae (ax yO (hr.mono (by decide)) rfl (ae (mv 2) av) ay) av)) (fun _ _ _ _ z=>by rw [(aD (aD br)) _ _ _ _ z];decide))))
    (ag (cz (MW.mt (sK (fm (fk (ic (t:=.list) rfl aA rfl dE (by decide +kernel) (bu (mv 8) aq (fun _ _=>rfl))))) (sK (fm (fk (ic (t:=.list) rfl aA rfl dE (by decide +kernel) (bu (mv 8) aq (fun _ _=>rfl))))) (jg (bn (OL hu) OM (mv 8) (bI (cu (ae (mv 3) (ae (mv 4) av)) (fun _ _ _ _ z=>by rw [(aD (aD br)) _ _ _ _ z];decide))) (aV _)) (.inr rfl))))) (ar (aR qg)) bq)
    (ag (dJ (iG (bu (mv 8) aq (fun _ _=>rfl)) (fq av)))
    (ar (dJ (IY (bu (mv 8) aq (fun _ _=>rfl)))))))))
    (ar (aR (ax lG (hr.mono (by decide)) rfl (ae (ax dH (hr.mono (by decide)) rfl (ae (mv 0) (ae aq av)) ay) av) ay)))))))))
end
theorem cQ {α : Type}(us:List α)(hl:us.length=1):∃ x0,us=[x0]:=match us,hl with | [x0],_=>⟨x0,rfl⟩
theorem cA {α : Type}(us:List α)(hl:us.length=2):∃ x0 x1,us=[x0,x1]:=match us,hl with | [x0,x1],_=>⟨x0,x1,rfl⟩
theorem tR {α : Type}(us:List α)(hl:us.length=3):∃ x0 x1 x2,us=[x0,x1,x2]:=match us,hl with | [x0,x1,x2],_=>⟨x0,x1,x2,rfl⟩
theorem Bv {α : Type}(us:List α)(hl:us.length=4):∃ x0 x1 x2 x3,us=[x0,x1,x2,x3]:=match us,hl with | [x0,x1,x2,x3],_=>⟨x0,x1,x2,x3,rfl⟩
theorem Pq {l:PySem.W.OpenLaw} {w:World} {K:PySem.W.Frag} {h:Heap} {mg:Str→Option Value} {fa nh kq kr tZ kt lI ku t5 pK pL t6 pM ni pN DQ jv pO pP pQ yQ t9 iV kw g6 gu hJ yR yS lJ nj kx ky lK lL jw kz nk iW lM KD cr aT fJ fK jb gM jc eB gP fL:Addr} (X:K.In h) (G:h.Ns mainGlobals mg) (hfa:mg "law" = some (.ref fa))
    {Bw Bx:Option Addr} {By:Array (Option Value)} {Bz BA BB BC qy BD:Value}
    (DR:PySem.W.nsIn K mainGlobals "is_whole" = some (some (.ref nh))) (DS:K.lookup nh=some ⟨Bz,Bw,.func (PySem.W.fnOf "is_whole" "is_whole" (aM gn) (aH gn) (aj gn) .none BA BB BC Bx qy BD),By⟩) (iS:PySem.W.codeIn K qy "is_whole" = true) (ua:PySem.W.keepIn K (.ref nh)=true)
    {vm vn:Option Addr} {vq:Array (Option Value)} {vt vu vv vw mx vx:Value}
    (yT:PySem.W.nsIn K mainGlobals "is_between" = some (some (.ref kq))) (yU:K.lookup kq=some ⟨vt,vm,.func (PySem.W.fnOf "is_between" "is_between" (aM eM) (aH eM) (aj eM) .none vu vv vw vn mx vx),vq⟩) (cU:PySem.W.codeIn K mx "is_between" = true) (nT:PySem.W.keepIn K (.ref kq)=true)
    {vy vz:Option Addr} {vA:Array (Option Value)} {vB vC vD vE my vF:Value}
    (yV:PySem.W.nsIn K mainGlobals "is_opinion" = some (some (.ref kr))) (yW:K.lookup kr=some ⟨vB,vy,.func (PySem.W.fnOf "is_opinion" "is_opinion" (aM eN) (aH eN) (aj eN) .none vC vD vE vz my vF),vA⟩) (fY:PySem.W.codeIn K my "is_opinion" = true) (nU:PySem.W.keepIn K (.ref kr)=true)
    {G2 G3:Option Addr} {G4:Array (Option Value)} {G5 G6 G7 G8 xx G9:Value}
    (KG:PySem.W.nsIn K mainGlobals "is_tie" = some (some (.ref tZ))) (KH:K.lookup tZ=some ⟨G5,G2,.func (PySem.W.fnOf "is_tie" "is_tie" (aM jE) (aH jE) (aj jE) .none G6 G7 G8 G3 xx G9),G4⟩) (tS:PySem.W.codeIn K xx "is_tie" = true) (BE:PySem.W.keepIn K (.ref tZ)=true)
    {vG vH:Option Addr} {vI:Array (Option Value)} {vJ vK vL vM mz vN:Value}
    (yX:PySem.W.nsIn K mainGlobals "neighbours" = some (some (.ref kt))) (yY:K.lookup kt=some ⟨vJ,vG,.func (PySem.W.fnOf "neighbours" "neighbours" (aM eO) (aH eO) (aj eO) .none vK vL vM vH mz vN),vI⟩) (kh:PySem.W.codeIn K mz "neighbours" = true) (nV:PySem.W.keepIn K (.ref kt)=true)
    {yZ y4:Option Addr} {y6:Array (Option Value)} {y9 za zc zd nW ze:Value}
    (BF:PySem.W.nsIn K mainGlobals "bars_told" = some (some (.ref lI))) (BG:K.lookup lI=some ⟨y9,yZ,.func (PySem.W.fnOf "bars_told" "bars_told" (aM fB) (aH fB) (aj fB) .none za zc zd y4 nW ze),y6⟩) (lB:PySem.W.codeIn K nW "bars_told" = true) (qz:PySem.W.keepIn K (.ref lI)=true)
    {vO vP:Option Addr} {vQ:Array (Option Value)} {vR vS vT vU mB vV:Value}
    (zf:PySem.W.nsIn K mainGlobals "stays_told" = some (some (.ref ku))) (zg:K.lookup ku=some ⟨vR,vO,.func (PySem.W.fnOf "stays_told" "stays_told" (aM eP) (aH eP) (aj eP) .none vS vT vU vP mB vV),vQ⟩) (kg:PySem.W.codeIn K mB "stays_told" = true) (nX:PySem.W.keepIn K (.ref ku)=true)
    {Ha Hb:Option Addr} {Hc:Array (Option Value)} {He Hf Hg Hh xy Hi:Value}
    (KI:PySem.W.nsIn K mainGlobals "web_of" = some (some (.ref t5))) (KJ:K.lookup t5=some ⟨He,Ha,.func (PySem.W.fnOf "web_of" "web_of" (aM jF) (aH jF) (aj jF) .none Hf Hg Hh Hb xy Hi),Hc⟩) (lD:PySem.W.codeIn K xy "web_of" = true) (BH:PySem.W.keepIn K (.ref t5)=true)
    {DT DU:Option Addr} {DV:Array (Option Value)} {DW DX DY DZ ub D0:Value}
    (Hj:PySem.W.nsIn K mainGlobals "many_of" = some (some (.ref pK))) (Hk:K.lookup pK=some ⟨DW,DT,.func (PySem.W.fnOf "many_of" "many_of" (aM ir) (aH ir) (aj ir) .none DX DY DZ DU ub D0),DV⟩) (jK:PySem.W.codeIn K ub "many_of" = true) (xz:PySem.W.keepIn K (.ref pK)=true)
    {D1 D2:Option Addr} {D3:Array (Option Value)} {D4 D5 D6 D7 uc D8:Value}
    (Hl:PySem.W.nsIn K mainGlobals "ties_of" = some (some (.ref pL))) (Hm:K.lookup pL=some ⟨D4,D1,.func (PySem.W.fnOf "ties_of" "ties_of" (aM iu) (aH iu) (aj iu) .none D5 D6 D7 D2 uc D8),D3⟩) (pz:PySem.W.codeIn K uc "ties_of" = true) (xA:PySem.W.keepIn K (.ref pL)=true)
    {Hn Ho:Option Addr} {Hq:Array (Option Value)} {Hr Hs Ht Hu xB Hv:Value}
    (KK:PySem.W.nsIn K mainGlobals "bar_of" = some (some (.ref t6))) (KL:K.lookup t6=some ⟨Hr,Hn,.func (PySem.W.fnOf "bar_of" "bar_of" (aM jG) (aH jG) (aj jG) .none Hs Ht Hu Ho xB Hv),Hq⟩) (tU:PySem.W.codeIn K xB "bar_of" = true) (BI:PySem.W.keepIn K (.ref t6)=true)
    {D9 Ea:Option Addr} {Eb:Array (Option Value)} {Ec Ed Ee Ef ud Eg:Value}
    (Hw:PySem.W.nsIn K mainGlobals "stay_of" = some (some (.ref pM))) (Hx:K.lookup pM=some ⟨Ec,D9,.func (PySem.W.fnOf "stay_of" "stay_of" (aM iw) (aH iw) (aj iw) .none Ed Ee Ef Ea ud Eg),Eb⟩) (jJ:PySem.W.codeIn K ud "stay_of" = true) (xC:PySem.W.keepIn K (.ref pM)=true)
    {BJ BK:Option Addr} {BM:Array (Option Value)} {BN BO BP BQ qA BR:Value}
    (Eh:PySem.W.nsIn K mainGlobals "stays_of" = some (some (.ref ni))) (Ei:K.lookup ni=some ⟨BN,BJ,.func (PySem.W.fnOf "stays_of" "stays_of" (aM gp) (aH gp) (aj gp) .none BO BP BQ BK qA BR),BM⟩) (iT:PySem.W.codeIn K qA "stays_of" = true) (ue:PySem.W.keepIn K (.ref ni)=true)
    {Ej Ek:Option Addr} {El:Array (Option Value)} {Em Eo Ep Er uf Es:Value}
    (Hy:PySem.W.nsIn K mainGlobals "free_of" = some (some (.ref pN))) (Hz:K.lookup pN=some ⟨Em,Ej,.func (PySem.W.fnOf "free_of" "free_of" (aM iy) (aH iy) (aj iy) .none Eo Ep Er Ek uf Es),El⟩) (jL:PySem.W.codeIn K uf "free_of" = true) (xD:PySem.W.keepIn K (.ref pN)=true)
    {MJ MK:Option Addr} {ML:Array (Option Value)} {MN MO MP MR FO MU:Value}
    (Pr:PySem.W.nsIn K mainGlobals "fits" = some (some (.ref DQ))) (Ps:K.lookup DQ=some ⟨MN,MJ,.func (PySem.W.fnOf "fits" "fits" (aM pi) (aH pi) (aj pi) .none MO MP MR MK FO MU),ML⟩) (DP:PySem.W.codeIn K FO "fits" = true) (KM:PySem.W.keepIn K (.ref DQ)=true)
    {ug uh:Option Addr} {ui:Array (Option Value)} {uj uk ul um lN uo:Value}
    (vW:PySem.W.nsIn K mainGlobals "check_stand" = some (some (.ref jv))) (vX:K.lookup jv=some ⟨uj,ug,.func (PySem.W.fnOf "check_stand" "check_stand" (aM dZ) (aH dZ) (aj dZ) .none uk ul um uh lN uo),ui⟩) (jt:PySem.W.codeIn K lN "check_stand" = true) (mC:PySem.W.keepIn K (.ref jv)=true)
    {Et Eu:Option Addr} {Ev:Array (Option Value)} {Ew Ex Ey Ez uq EA:Value}
    (HA:PySem.W.nsIn K mainGlobals "pull_at" = some (some (.ref pO))) (HB:K.lookup pO=some ⟨Ew,Et,.func (PySem.W.fnOf "pull_at" "pull_at" (aM iz) (aH iz) (aj iz) .none Ex Ey Ez Eu uq EA),Ev⟩) (pA:PySem.W.codeIn K uq "pull_at" = true) (xE:PySem.W.keepIn K (.ref pO)=true)
    {EB EC:Option Addr} {ED:Array (Option Value)} {EE EG EH EI ur EJ:Value}
    (HC:PySem.W.nsIn K mainGlobals "next_at" = some (some (.ref pP))) (HD:K.lookup pP=some ⟨EE,EB,.func (PySem.W.fnOf "next_at" "next_at" (aM iA) (aH iA) (aj iA) .none EG EH EI EC ur EJ),ED⟩) (pB:PySem.W.codeIn K ur "next_at" = true) (xF:PySem.W.keepIn K (.ref pP)=true)
    {EK EL:Option Addr} {EM:Array (Option Value)} {EN EO EQ ER ut ES:Value}
    (HE:PySem.W.nsIn K mainGlobals "turn_at" = some (some (.ref pQ))) (HF:K.lookup pQ=some ⟨EN,EK,.func (PySem.W.fnOf "turn_at" "turn_at" (aM iB) (aH iB) (aj iB) .none EO EQ ER EL ut ES),EM⟩) (cB:PySem.W.codeIn K ut "turn_at" = true) (xG:PySem.W.keepIn K (.ref pQ)=true)
    {KN KO:Option Addr} {KP:Array (Option Value)} {KQ KR KS KU BS KW:Value}
    (MV:PySem.W.nsIn K mainGlobals "ended" = some (some (.ref yQ))) (MY:K.lookup yQ=some ⟨KQ,KN,.func (PySem.W.fnOf "ended" "ended" (aM mi) (aH mi) (aj mi) .none KR KS KU KO BS KW),KP⟩) (yJ:PySem.W.codeIn K BS "ended" = true) (FP:PySem.W.keepIn K (.ref yQ)=true)
    {HG HH:Option Addr} {HJ:Array (Option Value)} {HK HL HM HN xH HP:Value}
    (KY:PySem.W.nsIn K mainGlobals "end_of" = some (some (.ref t9))) (KZ:K.lookup t9=some ⟨HK,HG,.func (PySem.W.fnOf "end_of" "end_of" (aM jH) (aH jH) (aj jH) .none HL HM HN HH xH HP),HJ⟩) (lC:PySem.W.codeIn K xH "end_of" = true) (BT:PySem.W.keepIn K (.ref t9)=true)
    {qX qY:Option Addr} {qZ:Array (Option Value)} {rc re rg rj kF rk:Value}
    (uv:PySem.W.nsIn K mainGlobals "stand_of_all" = some (some (.ref iV))) (uw:K.lookup iV=some ⟨rc,qX,.func (PySem.W.fnOf "stand_of_all" "stand_of_all" (aM dB) (aH dB) (aj dB) .none re rg rj qY kF rk),qZ⟩) (eA:PySem.W.codeIn K kF "stand_of_all" = true) (lO:PySem.W.keepIn K (.ref iV)=true)
    {vY vZ:Option Addr} {v5:Array (Option Value)} {v6 v7 wa wb mD wc:Value}
    (zh:PySem.W.nsIn K mainGlobals "least_rest" = some (some (.ref kw))) (zi:K.lookup kw=some ⟨v6,vY,.func (PySem.W.fnOf "least_rest" "least_rest" (aM eQ) (aH eQ) (aj eQ) .none v7 wa wb vZ mD wc),v5⟩) (fZ:PySem.W.codeIn K mD "least_rest" = true) (nY:PySem.W.keepIn K (.ref kw)=true)
    {pR pS:Option Addr} {pT:Array (Option Value)} {pU pV pW pX jN pY:Value}
    (rl:PySem.W.nsIn K mainGlobals "greatest_rest" = some (some (.ref g6))) (rm:K.lookup g6=some ⟨pU,pR,.func (PySem.W.fnOf "greatest_rest" "greatest_rest" (aM c7) (aH c7) (aj c7) .none pV pW pX pS jN pY),pT⟩) (dS:PySem.W.codeIn K jN "greatest_rest" = true) (kG:PySem.W.keepIn K (.ref g6)=true)
    {nZ n5:Option Addr} {n6:Array (Option Value)} {n9 og oh oj je om:Value}
    (pZ:PySem.W.nsIn K mainGlobals "stands_between" = some (some (.ref gu))) (p5:K.lookup gu=some ⟨n9,nZ,.func (PySem.W.fnOf "stands_between" "stands_between" (aM cW) (aH cW) (aj cW) .none og oh oj n5 je om),n6⟩) (dF:PySem.W.codeIn K je "stands_between" = true) (jO:PySem.W.keepIn K (.ref gu)=true)
    {p6 p7:Option Addr} {p8:Array (Option Value)} {p9 qa qb qc jP qd:Value}
    (kH:PySem.W.nsIn K mainGlobals "stands_to_try" = some (some (.ref hJ))) (rn:K.lookup hJ=some ⟨p9,p6,.func (PySem.W.fnOf "stands_to_try" "stands_to_try" (aM cN) (aH cN) (aj cN) .none qa qb qc p7 jP qd),p8⟩) (dU:PySem.W.codeIn K jP "stands_to_try" = true) (hU:PySem.W.keepIn K (.ref hJ)=true)
    {K0 K1:Option Addr} {K2:Array (Option Value)} {K3 K4 K5 K6 BU K7:Value}
    (FQ:PySem.W.nsIn K mainGlobals "rests" = some (some (.ref yR))) (MZ:K.lookup yR=some ⟨K3,K0,.func (PySem.W.fnOf "rests" "rests" (aM kb) (aH kb) (aj kb) .none K4 K5 K6 K1 BU K7),K2⟩) (yP:PySem.W.codeIn K BU "rests" = true) (zj:PySem.W.keepIn K (.ref yR)=true)
    {K8 K9:Option Addr} {Lc:Array (Option Value)} {Ld Le Lf Lg BV Lh:Value}
    (FR:PySem.W.nsIn K mainGlobals "pairs" = some (some (.ref yS))) (M0:K.lookup yS=some ⟨Ld,K8,.func (PySem.W.fnOf "pairs" "pairs" (aM kc) (aH kc) (aj kc) .none Le Lf Lg K9 BV Lh),Lc⟩) (yO:PySem.W.codeIn K BV "pairs" = true) (zk:PySem.W.keepIn K (.ref yS)=true)
    {zm zn:Option Addr} {zo:Array (Option Value)} {zq zr zt zu oo zv:Value}
    (BW:PySem.W.nsIn K mainGlobals "_law_cell" = some (some (.ref lJ))) (BX:K.lookup lJ=some ⟨zq,zm,.func (PySem.W.fnOf "_law_cell" "_law_cell" (aM fD) (aH fD) (aj fD) .none zr zt zu zn oo zv),zo⟩) (dH:PySem.W.codeIn K oo "_law_cell" = true) (qB:PySem.W.keepIn K (.ref lJ)=true)
    {BY BZ:Option Addr} {B0:Array (Option Value)} {B3 B4 B5 B6 qC B7:Value}
    (ET:PySem.W.nsIn K mainGlobals "_law_row" = some (some (.ref nj))) (EU:K.lookup nj=some ⟨B3,BY,.func (PySem.W.fnOf "_law_row" "_law_row" (aM gq) (aH gq) (aj gq) .none B4 B5 B6 BZ qC B7),B0⟩) (iU:PySem.W.codeIn K qC "_law_row" = true) (ux:PySem.W.keepIn K (.ref nj)=true)
    {wd we:Option Addr} {wf:Array (Option Value)} {wg wj wm wn mE wo:Value}
    (zw:PySem.W.nsIn K mainGlobals "_law_model" = some (some (.ref kx))) (zx:K.lookup kx=some ⟨wg,wd,.func (PySem.W.fnOf "_law_model" "_law_model" (aM eR) (aH eR) (aj eR) .none wj wm wn we mE wo),wf⟩) (ko:PySem.W.codeIn K mE "_law_model" = true) (oq:PySem.W.keepIn K (.ref kx)=true)
    {wp wr:Option Addr} {wu:Array (Option Value)} {wv ww wx wy mF wz:Value}
    (zy:PySem.W.nsIn K mainGlobals "_law_lines" = some (some (.ref ky))) (zz:K.lookup ky=some ⟨wv,wp,.func (PySem.W.fnOf "_law_lines" "_law_lines" (aM eS) (aH eS) (aj eS) .none ww wx wy wr mF wz),wu⟩) (ki:PySem.W.codeIn K mF "_law_lines" = true) (ot:PySem.W.keepIn K (.ref ky)=true)
    {zC zD:Option Addr} {zE:Array (Option Value)} {zF zG zH zI ou zJ:Value}
    (B8:PySem.W.nsIn K mainGlobals "_law_turn" = some (some (.ref lK))) (B9:K.lookup lK=some ⟨zF,zC,.func (PySem.W.fnOf "_law_turn" "_law_turn" (aM fE) (aH fE) (aj fE) .none zG zH zI zD ou zJ),zE⟩) (jd:PySem.W.codeIn K ou "_law_turn" = true) (qD:PySem.W.keepIn K (.ref lK)=true)
    {zK zL:Option Addr} {zM:Array (Option Value)} {zN zO zP zQ ow zS:Value}
    (Ca:PySem.W.nsIn K mainGlobals "_law_made" = some (some (.ref lL))) (Cb:K.lookup lL=some ⟨zN,zK,.func (PySem.W.fnOf "_law_made" "_law_made" (aM fF) (aH fF) (aj fF) .none zO zP zQ zL ow zS),zM⟩) (lH:PySem.W.codeIn K ow "_law_made" = true) (qE:PySem.W.keepIn K (.ref lL)=true)
    {uy uz:Option Addr} {uA:Array (Option Value)} {uB uC uD uE lP uF:Value}
    (wA:PySem.W.nsIn K mainGlobals "_law_stands" = some (some (.ref jw))) (wB:K.lookup jw=some ⟨uB,uy,.func (PySem.W.fnOf "_law_stands" "_law_stands" (aM d5) (aH d5) (aj d5) .none uC uD uE uz lP uF),uA⟩) (ju:PySem.W.codeIn K lP "_law_stands" = true) (mG:PySem.W.keepIn K (.ref jw)=true)
    {wC wD:Option Addr} {wE:Array (Option Value)} {wF wG wH wI mH wJ:Value}
    (zT:PySem.W.nsIn K mainGlobals "_law_class" = some (some (.ref kz))) (zU:K.lookup kz=some ⟨wF,wC,.func (PySem.W.fnOf "_law_class" "_law_class" (aM eT) (aH eT) (aj eT) .none wG wH wI wD mH wJ),wE⟩) (km:PySem.W.codeIn K mH "_law_class" = true) (ox:PySem.W.keepIn K (.ref kz)=true)
    {Cc Cd:Option Addr} {Ce:Array (Option Value)} {Cf Cg Ch Ci qF Cj:Value}
    (EV:PySem.W.nsIn K mainGlobals "_law_due" = some (some (.ref nk))) (EW:K.lookup nk=some ⟨Cf,Cc,.func (PySem.W.fnOf "_law_due" "_law_due" (aM gr) (aH gr) (aj gr) .none Cg Ch Ci Cd qF Cj),Ce⟩) (kn:PySem.W.codeIn K qF "_law_due" = true) (uG:PySem.W.keepIn K (.ref nk)=true)
    {rp rq:Option Addr} {rA:Array (Option Value)} {rC rE rF rG kI rH:Value}
    (uH:PySem.W.nsIn K mainGlobals "_law_refused" = some (some (.ref iW))) (uI:K.lookup iW=some ⟨rC,rp,.func (PySem.W.fnOf "_law_refused" "_law_refused" (aM dC) (aH dC) (aj dC) .none rE rF rG rq kI rH),rA⟩) (eC:PySem.W.codeIn K kI "_law_refused" = true) (lQ:PySem.W.keepIn K (.ref iW)=true)
    {zV zW:Option Addr} {zX:Array (Option Value)} {zY zZ z6 z7 oy z8:Value}
    (Ck:PySem.W.nsIn K mainGlobals "_law_wide" = some (some (.ref lM))) (Cl:K.lookup lM=some ⟨zY,zV,.func (PySem.W.fnOf "_law_wide" "_law_wide" (aM fG) (aH fG) (aj fG) .none zZ z6 z7 zW oy z8),zX⟩) (lG:PySem.W.codeIn K oy "_law_wide" = true) (qG:PySem.W.keepIn K (.ref lM)=true)
    {Pt Li:Option Addr} {Pu:Array (Option Value)} {Pv Lj Lk Ll EX Lm:Value}
    (QB:PySem.W.nsIn K mainGlobals "law" = some (some (.ref KD))) (QC:K.lookup KD=some ⟨Pv,Pt,.func (PySem.W.fnOf "law" "law" (aM nQ) (aH nQ) (aj nQ) .none Lj Lk Ll Li EX Lm),Pu⟩) (QD:PySem.W.codeIn K EX "law" = true) (QE:PySem.W.keepIn K (.ref KD)=true)
    (z9:PySem.W.nsIn K mainGlobals "isinstance" = some none)
    (Pw:PySem.W.nsIn K mainGlobals "bool" = some none)
    (QF:PySem.W.nsIn K mainGlobals "int" = some none)
    (QG:PySem.W.nsIn K mainGlobals "len" = some none)
    (M3:PySem.W.nsIn K mainGlobals "tuple" = some none)
    (M4:PySem.W.nsIn K mainGlobals "range" = some none)
    (Px:PySem.W.nsIn K mainGlobals "list" = some none)
    (QH:PySem.W.nsIn K mainGlobals "all" = some none)
    (QI:PySem.W.nsIn K mainGlobals "sum" = some none)
    (Ln:PySem.W.nsIn K mainGlobals "sorted" = some none)
    (Cm:PySem.W.nsIn K mainGlobals "enumerate" = some none)
    (QJ:PySem.W.nsIn K mainGlobals "zip" = some none)
    (QK:PySem.W.nsIn K mainGlobals "max" = some none)
    (Aa:PySem.W.nsIn K mainGlobals "ValueError" = some none)
    {jo:Tok} (wK:PySem.W.nsIn K mainGlobals "MOST_WEIGHT" = some (some (.int 400 jo)))
    {jq:Tok} (wL:PySem.W.nsIn K mainGlobals "MOST_PEOPLE" = some (some (.int 30 jq)))
    {gL:Tok} (Cn:PySem.W.nsIn K mainGlobals "MOST_FREE" = some (some (.int 12 gL)))
    {cd_M cd_A_TooMuch:ClassData}
    (Co:PySem.W.nsIn K mainGlobals "MostError" = some (some (.ref cr)))
    (c9:PySem.W.nsIn K mainGlobals "TooMuch" = some (some (.ref aT)))
    (HQ:PySem.W.nsIn K mainGlobals "TooLong" = some (some (.ref fJ)))
    (HR:PySem.W.nsIn K mainGlobals "NoOrder" = some (some (.ref fK)))
    (M5:PySem.W.nsIn K mainGlobals "NoWeb" = some (some (.ref jb)))
    (Lo:PySem.W.nsIn K mainGlobals "NoText" = some (some (.ref gM)))
    (M6:PySem.W.nsIn K mainGlobals "NoRow" = some (some (.ref jc)))
    (EY:PySem.W.nsIn K mainGlobals "NoPeople" = some (some (.ref eB)))
    (Lp:PySem.W.nsIn K mainGlobals "NoRest" = some (some (.ref gP)))
    (HS:PySem.W.nsIn K mainGlobals "NoStand" = some (some (.ref fL)))
    (w_be:PySem.W.subIn K (.ref cr) (.type "BaseException")=some true)
    (w_is:PySem.W.clsIn K cr=some cd_M)
    (w_ty:PySem.W.typeIn K (.ref cr)=some (.type "type"))
    (w_own_TooMuch:PySem.W.excIn K aT [.type "ValueError",.type "Exception",.type "BaseException",.type "object"] "ValueError.__new__" = true)
    (w_sub_TooMuch:PySem.W.subIn K (.ref aT) (.ref cr)=some true)
    (w_z1_TooMuch:PySem.W.findIn K (.ref aT) "__getattribute__" = some (some (.builtin "BaseException.__getattribute__")))
    (w_z2_TooMuch:PySem.W.findIn K (.ref aT) "__getattr__" = some none)
    (w_z3_TooMuch:PySem.W.findIn K (.ref aT) "__class__" = some (some (.builtin "object.__class__")))
    (w_z4_TooMuch:PySem.W.subIn K (.ref aT) (.type "BaseException")=some true)
    (w_z5_TooMuch:PySem.W.mroIn K aT (.type "object")=some true)
    (w_z6_TooMuch:PySem.W.clsIn K aT=some cd_A_TooMuch)
    (w_kA_TooMuch_ValueError:PySem.W.kitOne K (.ref aT) (.type "ValueError")=some true)
    (w_kA_TooMuch_TooLong:PySem.W.kitOne K (.ref aT) (.ref fJ)=some false)
    (w_kA_TooMuch_NoOrder:PySem.W.kitOne K (.ref aT) (.ref fK)=some false)
    (w_kA_TooMuch_NoWeb:PySem.W.kitOne K (.ref aT) (.ref jb)=some false)
    (w_kA_TooMuch_NoText:PySem.W.kitOne K (.ref aT) (.ref gM)=some false)
    (w_kA_TooMuch_NoRow:PySem.W.kitOne K (.ref aT) (.ref jc)=some false)
    (w_kA_TooMuch_NoPeople:PySem.W.kitOne K (.ref aT) (.ref eB)=some false)
    (w_kA_TooMuch_TooMuch:PySem.W.kitOne K (.ref aT) (.ref aT)=some true)
    (w_kA_TooMuch_NoRest:PySem.W.kitOne K (.ref aT) (.ref gP)=some false)
    (w_kA_TooMuch_NoStand:PySem.W.kitOne K (.ref aT) (.ref fL)=some false)
    : ∃ fd:FuncData,(∀ (s:Shared) (v:Value),BindsTo s fd ⟨[v],[]⟩ [("_law_script",v)]) ∧ ∀ base:Heap,K.In base→base.Ns mainGlobals mg→cf l.prog w K mg base CX0 13 fa fd ["_law_script"] (spF K FE 1):=by
  have e:=hfa.symm.trans (PySem.W.mg_of X G QB)
  cases e
  have aA:=PySem.W.mg_none_of X G z9
  have DO:=PySem.W.mg_none_of X G Pw
  have Kz:=PySem.W.mg_none_of X G QF
  have cm:=PySem.W.mg_none_of X G QG
  have bK:=PySem.W.mg_none_of X G M3
  have aW:=PySem.W.mg_none_of X G M4
  have dE:=PySem.W.mg_none_of X G Px
  have xw:=PySem.W.mg_none_of X G QH
  have kE:=PySem.W.mg_none_of X G QI
  have tT:=PySem.W.mg_none_of X G Ln
  have fH:=PySem.W.mg_none_of X G Cm
  have KA:=PySem.W.mg_none_of X G QJ
  have KC:=PySem.W.mg_none_of X G QK
  have kj:=PySem.W.mg_none_of X G Aa
  have jp:=PySem.W.mg_of X G wK
  have jr:=PySem.W.mg_of X G wL
  have fI:=PySem.W.mg_of X G Cn
  have lF:=PySem.W.mg_of X G Co
  have jM:=PySem.W.mg_of X G c9
  have pC:=PySem.W.mg_of X G HQ
  have pD:=PySem.W.mg_of X G HR
  have yK:=PySem.W.mg_of X G M5
  have tV:=PySem.W.mg_of X G Lo
  have yL:=PySem.W.mg_of X G M6
  have nc:=PySem.W.mg_of X G EY
  have tW:=PySem.W.mg_of X G Lp
  have pE:=PySem.W.mg_of X G HS
  have uJ:=bA (st:=gn) DS iS ua
  have EZ:=uJ.binds (ps:=["thing"]) fun _ _ _ _ _ _ us hl=>by obtain⟨_,rfl⟩:=cQ us hl;rfl
  have oz:=bA (st:=eM) yU cU nT
  have Ab:=oz.binds (ps:=["thing", "least", "most"]) fun _ _ _ _ _ _ us hl=>by obtain⟨_,_,_,rfl⟩:=tR us hl;rfl
  have oA:=bA (st:=eN) yW fY nU
  have Ac:=oA.binds (ps:=["thing"]) fun _ _ _ _ _ _ us hl=>by obtain⟨_,rfl⟩:=cQ us hl;rfl
  have Cp:=bA (st:=jE) KH tS BE
  have Lq:=Cp.binds (ps:=["many", "thing"]) fun _ _ _ _ _ _ us hl=>by obtain⟨_,_,rfl⟩:=cA us hl;rfl
  have oC:=bA (st:=eO) yY kh nV
  have Ad:=oC.binds (ps:=["many", "ties"]) fun _ _ _ _ _ _ us hl=>by obtain⟨_,_,rfl⟩:=cA us hl;rfl
  have qH:=bA (st:=fB) BG lB qz
  have Cq:=qH.binds (ps:=["near", "bars"]) fun _ _ _ _ _ _ us hl=>by obtain⟨_,_,rfl⟩:=cA us hl;rfl
  have oD:=bA (st:=eP) zg kg nX
  have Ae:=oD.binds (ps:=["many", "stays"]) fun _ _ _ _ _ _ us hl=>by obtain⟨_,_,rfl⟩:=cA us hl;rfl
  have Cr:=bA (st:=jF) KJ lD BH
  have Lr:=Cr.binds (ps:=["many", "ties", "bars", "stays"]) fun _ _ _ _ _ _ us hl=>by obtain⟨_,_,_,_,rfl⟩:=Bv us hl;rfl
  have xI:=bA (st:=ir) Hk jK xz
  have HU:=xI.binds (ps:=["web"]) fun _ _ _ _ _ _ us hl=>by obtain⟨_,rfl⟩:=cQ us hl;rfl
  have xJ:=bA (st:=iu) Hm pz xA
  have HV:=xJ.binds (ps:=["web", "person"]) fun _ _ _ _ _ _ us hl=>by obtain⟨_,_,rfl⟩:=cA us hl;rfl
  have Cs:=bA (st:=jG) KL tU BI
  have Ls:=Cs.binds (ps:=["web", "person"]) fun _ _ _ _ _ _ us hl=>by obtain⟨_,_,rfl⟩:=cA us hl;rfl
  have xK:=bA (st:=iw) Hx jJ xC
  have HW:=xK.binds (ps:=["web", "person"]) fun _ _ _ _ _ _ us hl=>by obtain⟨_,_,rfl⟩:=cA us hl;rfl
  have uK:=bA (st:=gp) Ei iT ue
  have E1:=uK.binds (ps:=["web"]) fun _ _ _ _ _ _ us hl=>by obtain⟨_,rfl⟩:=cQ us hl;rfl
  have xL:=bA (st:=iy) Hz jL xD
  have HX:=xL.binds (ps:=["web"]) fun _ _ _ _ _ _ us hl=>by obtain⟨_,rfl⟩:=cQ us hl;rfl
  have Lu:=bA (st:=pi) Ps DP KM
  have Py:=Lu.binds (ps:=["web", "thing"]) fun _ _ _ _ _ _ us hl=>by obtain⟨_,_,rfl⟩:=cA us hl;rfl
  have mI:=bA (st:=dZ) vX jt mC
  have wM:=mI.binds (ps:=["web", "thing"]) fun _ _ _ _ _ _ us hl=>by obtain⟨_,_,rfl⟩:=cA us hl;rfl
  have xM:=bA (st:=iz) HB pA xE
  have HY:=xM.binds (ps:=["web", "stand", "person"]) fun _ _ _ _ _ _ us hl=>by obtain⟨_,_,_,rfl⟩:=tR us hl;rfl
  have xN:=bA (st:=iA) HD pB xF
  have HZ:=xN.binds (ps:=["web", "stand", "person"]) fun _ _ _ _ _ _ us hl=>by obtain⟨_,_,_,rfl⟩:=tR us hl;rfl
  have xO:=bA (st:=iB) HF cB xG
  have Ia:=xO.binds (ps:=["web", "stand"]) fun _ _ _ _ _ _ us hl=>by obtain⟨_,_,rfl⟩:=cA us hl;rfl
  have FS:=bA (st:=mi) MY yJ FP
  have M7:=FS.binds (ps:=["web", "stand"]) fun _ _ _ _ _ _ us hl=>by obtain⟨_,_,rfl⟩:=cA us hl;rfl
  have Ct:=bA (st:=jH) KZ lC BT
  have Lv:=Ct.binds (ps:=["web", "stand"]) fun _ _ _ _ _ _ us hl=>by obtain⟨_,_,rfl⟩:=cA us hl;rfl
  have lS:=bA (st:=dB) uw eA lO
  have uL:=lS.binds (ps:=["web", "opinion"]) fun _ _ _ _ _ _ us hl=>by obtain⟨_,_,rfl⟩:=cA us hl;rfl
  have oE:=bA (st:=eQ) zi fZ nY
  have Af:=oE.binds (ps:=["web"]) fun _ _ _ _ _ _ us hl=>by obtain⟨_,rfl⟩:=cQ us hl;rfl
  have kJ:=bA (st:=c7) rm dS kG
  have rJ:=kJ.binds (ps:=["web"]) fun _ _ _ _ _ _ us hl=>by obtain⟨_,rfl⟩:=cQ us hl;rfl
  have jQ:=bA (st:=cW) p5 dF jO
  have qe:=jQ.binds (ps:=["low", "high"]) fun _ _ _ _ _ _ us hl=>by obtain⟨_,_,rfl⟩:=cA us hl;rfl
  have hV:=bA (st:=cN) rn dU hU
  have kK:=hV.binds (ps:=["web"]) fun _ _ _ _ _ _ us hl=>by obtain⟨_,rfl⟩:=cQ us hl;rfl
  have Ag:=bA (st:=kb) MZ yP zj
  have FT:=Ag.binds (ps:=["web"]) fun _ _ _ _ _ _ us hl=>by obtain⟨_,rfl⟩:=cQ us hl;rfl
  have Ah:=bA (st:=kc) M0 yO zk
  have FU:=Ah.binds (ps:=["web"]) fun _ _ _ _ _ _ us hl=>by obtain⟨_,rfl⟩:=cQ us hl;rfl
  have qI:=bA (st:=fD) BX dH qB
  have Cu:=qI.binds (ps:=["_law_script", "_law_k"]) fun _ _ _ _ _ _ us hl=>by obtain⟨_,_,rfl⟩:=cA us hl;rfl
  have uM:=bA (st:=gq) EU iU ux
  have E2:=uM.binds (ps:=["_law_cell_here", "_law_way", "_law_many", "_law_base"]) fun _ _ _ _ _ _ us hl=>by obtain⟨_,_,_,_,rfl⟩:=Bv us hl;rfl
  have oF:=bA (st:=eR) zx ko oq
  have Ai:=oF.binds (ps:=["_law_script", "_law_most"]) fun _ _ _ _ _ _ us hl=>by obtain⟨_,_,rfl⟩:=cA us hl;rfl
  have oG:=bA (st:=eS) zz ki ot
  have Aj:=oG.binds (ps:=["_law_model_here"]) fun _ _ _ _ _ _ us hl=>by obtain⟨_,rfl⟩:=cQ us hl;rfl
  have qJ:=bA (st:=fE) B9 jd qD
  have Cv:=qJ.binds (ps:=["_law_model_here", "_law_stand"]) fun _ _ _ _ _ _ us hl=>by obtain⟨_,_,rfl⟩:=cA us hl;rfl
  have qK:=bA (st:=fF) Cb lH qE
  have Cw:=qK.binds (ps:=["_law_model_here"]) fun _ _ _ _ _ _ us hl=>by obtain⟨_,rfl⟩:=cQ us hl;rfl
  have mJ:=bA (st:=d5) wB ju mG
  have wN:=mJ.binds (ps:=["_law_model_here"]) fun _ _ _ _ _ _ us hl=>by obtain⟨_,rfl⟩:=cQ us hl;rfl
  have oH:=bA (st:=eT) zU km ox
  have Ak:=oH.binds (ps:=["_law_error"]) fun _ _ _ _ _ _ us hl=>by obtain⟨_,rfl⟩:=cQ us hl;rfl
  have uN:=bA (st:=gr) EW kn uG
  have E3:=uN.binds (ps:=["_law_k"]) fun _ _ _ _ _ _ us hl=>by obtain⟨_,rfl⟩:=cQ us hl;rfl
  have lU:=bA (st:=dC) uI eC lQ
  have uO:=lU.binds (ps:=["_law_web", "_law_way"]) fun _ _ _ _ _ _ us hl=>by obtain⟨_,_,rfl⟩:=cA us hl;rfl
  have qL:=bA (st:=fG) Cl lG qG
  have Cy:=qL.binds (ps:=["_law_cell_here"]) fun _ _ _ _ _ _ us hl=>by obtain⟨_,rfl⟩:=cQ us hl;rfl
  have QL:=bA (st:=nQ) QC QD QE
  refine⟨PySem.W.fnOf "law" "law" (aM nQ) (aH nQ) (aj nQ) .none Lj Lk Ll Li EX Lm,fun s v=>.of_eq rfl,fun base KB _ => ?_⟩
  have pJ:=OQ (mg:=mg) KB jM w_own_TooMuch
  have d6:uW K aT:=⟨w_z1_TooMuch,w_z2_TooMuch,w_z3_TooMuch,w_z4_TooMuch,w_z5_TooMuch,by rw [w_z6_TooMuch];rfl⟩
  have kl:ig K (fun C b=>PySem.W.kitOne K (.ref C) (iI (.ty "ValueError"))=some b) [("TooMuch",true)]:=(gx c9 d6 w_kA_TooMuch_ValueError jm)
  have pF:ig K (fun C b=>PySem.W.kitOne K (.ref C) (iI (.ref fJ))=some b) [("TooMuch",false)]:=(gx c9 d6 w_kA_TooMuch_TooLong jm)
  have pG:ig K (fun C b=>PySem.W.kitOne K (.ref C) (iI (.ref fK))=some b) [("TooMuch",false)]:=(gx c9 d6 w_kA_TooMuch_NoOrder jm)
  have yM:ig K (fun C b=>PySem.W.kitOne K (.ref C) (iI (.ref jb))=some b) [("TooMuch",false)]:=(gx c9 d6 w_kA_TooMuch_NoWeb jm)
  have tX:ig K (fun C b=>PySem.W.kitOne K (.ref C) (iI (.ref gM))=some b) [("TooMuch",false)]:=(gx c9 d6 w_kA_TooMuch_NoText jm)
  have yN:ig K (fun C b=>PySem.W.kitOne K (.ref C) (iI (.ref jc))=some b) [("TooMuch",false)]:=(gx c9 d6 w_kA_TooMuch_NoRow jm)
  have ng:ig K (fun C b=>PySem.W.kitOne K (.ref C) (iI (.ref eB))=some b) [("TooMuch",false)]:=(gx c9 d6 w_kA_TooMuch_NoPeople jm)
  have pH:ig K (fun C b=>PySem.W.kitOne K (.ref C) (iI (.ref aT))=some b) [("TooMuch",true)]:=(gx c9 d6 w_kA_TooMuch_TooMuch jm)
  have tY:ig K (fun C b=>PySem.W.kitOne K (.ref C) (iI (.ref gP))=some b) [("TooMuch",false)]:=(gx c9 d6 w_kA_TooMuch_NoRest jm)
  have pI:ig K (fun C b=>PySem.W.kitOne K (.ref C) (iI (.ref fL))=some b) [("TooMuch",false)]:=(gx c9 d6 w_kA_TooMuch_NoStand jm)
  have h_cs:Gu K mg cr ["TooMuch"]:=(Mb jM c9 w_sub_TooMuch OS)
  have uP:Def l.prog w K mg base "is_whole" 1 1 cL:=Def.mk' (PySem.W.mg_of X G DR) ua EZ (Bo (P:=l.prog) (w:=w) (base:=base) uJ aA DO Kz)
  have kA:Def l.prog w K mg base "is_between" 2 3 bx:=Def.mk' (PySem.W.mg_of X G yT) nT Ab (u7 (P:=l.prog) (w:=w) (base:=base) oz uP)
  have oJ:Def l.prog w K mg base "is_opinion" 3 1 bP:=Def.mk' (PySem.W.mg_of X G yV) nU Ac (vc (P:=l.prog) (w:=w) (base:=base) oA kA)
  have Lw:Def l.prog w K mg base "is_tie" 3 2 lm:=Def.mk' (PySem.W.mg_of X G KG) BE Lq (GU (P:=l.prog) (w:=w) (base:=base) Cp cm aA bK jp kA)
  have Al:Def l.prog w K mg base "neighbours" 4 2 dM:=Def.mk' (PySem.W.mg_of X G yX) nV Ad (vd (P:=l.prog) (w:=w) (base:=base) oC aW aA dE Lw)
  have Cz:Def l.prog w K mg base "bars_told" 2 2 df:=Def.mk' (PySem.W.mg_of X G BF) qz Cq (yC (P:=l.prog) (w:=w) (base:=base) qH bK xw cm aA dE kE uP)
  have Am:Def l.prog w K mg base "stays_told" 4 2 cS:=Def.mk' (PySem.W.mg_of X G zf) nX Ae (vf (P:=l.prog) (w:=w) (base:=base) oD bK xw cm aA dE aW oJ)
  have CA:Def l.prog w K mg base "web_of" 5 4 dA:=Def.mk' (PySem.W.mg_of X G KI) BH Lr (GV (P:=l.prog) (w:=w) (base:=base) Cr bK tT jr Am Cz Al kA)
  have xP:Def l.prog w K mg base "many_of" 1 1 eI:=Def.mk' (PySem.W.mg_of X G Hj) xz HU (DC (P:=l.prog) (w:=w) (base:=base) xI cm)
  have Ib:Def l.prog w K mg base "ties_of" 1 2 jC:=Def.mk' (PySem.W.mg_of X G Hl) xA HV (DE (P:=l.prog) (w:=w) (base:=base) xJ)
  have Lx:Def l.prog w K mg base "bar_of" 1 2 jD:=Def.mk' (PySem.W.mg_of X G KK) BI Ls (GX (P:=l.prog) (w:=w) (base:=base) Cs)
  have xQ:Def l.prog w K mg base "stay_of" 1 2 fw:=Def.mk' (PySem.W.mg_of X G Hw) xC HW (DG (P:=l.prog) (w:=w) (base:=base) xK)
  have uQ:Def l.prog w K mg base "stays_of" 1 1 cZ:=Def.mk' (PySem.W.mg_of X G Eh) ue E1 (Bq (P:=l.prog) (w:=w) (base:=base) uK dE)
  have xR:Def l.prog w K mg base "free_of" 2 1 eK:=Def.mk' (PySem.W.mg_of X G Hy) xD HX (DI (P:=l.prog) (w:=w) (base:=base) xL fH uQ)
  have Pz:Def l.prog w K mg base "fits" 4 2 tj:=Def.mk' (PySem.W.mg_of X G Pr) KM Py (MC (P:=l.prog) (w:=w) (base:=base) Lu fH cm aA bK xQ oJ xP)
  have wO:Def l.prog w K mg base "check_stand" 5 2 dW:=Def.mk' (PySem.W.mg_of X G vW) mC wM (tP (P:=l.prog) (w:=w) (base:=base) mI Pz)
  have Ic:Def l.prog w K mg base "pull_at" 2 3 ik:=Def.mk' (PySem.W.mg_of X G HA) xE HY (DK (P:=l.prog) (w:=w) (base:=base) xM kE Ib)
  have Id:Def l.prog w K mg base "next_at" 3 3 gk:=Def.mk' (PySem.W.mg_of X G HC) xF HZ (DL (P:=l.prog) (w:=w) (base:=base) xN Lx Ic xQ)
  have jR:Def l.prog w K mg base "turn_at" 4 2 a0:=Def.mk' (PySem.W.mg_of X G HE) xG Ia (DN (P:=l.prog) (w:=w) (base:=base) xO bK aW xP Id)
  have M8:Def l.prog w K mg base "ended" 6 2 i7:=Def.mk' (PySem.W.mg_of X G MV) FP M7 (Kw (P:=l.prog) (w:=w) (base:=base) FS cm jR wO)
  have CB:Def l.prog w K mg base "end_of" 7 2 iM:=Def.mk' (PySem.W.mg_of X G KY) BT Lv (GZ (P:=l.prog) (w:=w) (base:=base) Ct M8)
  have lV:Def l.prog w K mg base "stand_of_all" 2 2 cG:=Def.mk' (PySem.W.mg_of X G uv) lO uL (qV (P:=l.prog) (w:=w) (base:=base) lS bK uQ)
  have oK:Def l.prog w K mg base "least_rest" 8 1 cD:=Def.mk' (PySem.W.mg_of X G zh) nY Af (vh (P:=l.prog) (w:=w) (base:=base) oE CB lV)
  have kL:Def l.prog w K mg base "greatest_rest" 8 1 bH:=Def.mk' (PySem.W.mg_of X G rl) kG rJ (pw (P:=l.prog) (w:=w) (base:=base) kJ CB lV)
  have jS:Def l.prog w K mg base "stands_between" 1 2 bJ:=Def.mk' (PySem.W.mg_of X G pZ) jO qe (nR (P:=l.prog) (w:=w) (base:=base) jQ KA aW)
  have kM:Def l.prog w K mg base "stands_to_try" 9 1 cM:=Def.mk' (PySem.W.mg_of X G kH) hU kK (px (P:=l.prog) (w:=w) (base:=base) hV cm fI jS kL oK xR)
  have M9:Def l.prog w K mg base "rests" 10 1 mh:=Def.mk' (PySem.W.mg_of X G FQ) zj FT (Kx (P:=l.prog) (w:=w) (base:=base) Ag jR kM)
  have Na:Def l.prog w K mg base "pairs" 10 1 ka:=Def.mk' (PySem.W.mg_of X G FR) zk FU (Ky (P:=l.prog) (w:=w) (base:=base) Ah kM jR)
  have qM:Def l.prog w K mg base "_law_cell" 1 2 bC:=Def.mk' (PySem.W.mg_of X G BW) qB Cu (yE (P:=l.prog) (w:=w) (base:=base) qI cm)
  have E4:Def l.prog w K mg base "_law_row" 1 4 dm:=Def.mk' (PySem.W.mg_of X G ET) ux E2 (Bs (P:=l.prog) (w:=w) (base:=base) uM aW)
  have An:Def l.prog w K mg base "_law_model" 2 2 io:=Def.mk' (PySem.W.mg_of X G zw) oq Ai (vj (P:=l.prog) (w:=w) (base:=base) oF aW kE KC E4 qM)
  have Ao:Def l.prog w K mg base "_law_lines" 1 1 fA:=Def.mk' (PySem.W.mg_of X G zy) ot Aj (vk (P:=l.prog) (w:=w) (base:=base) oG aW cm)
  have CC:Def l.prog w K mg base "_law_turn" 1 2 dz:=Def.mk' (PySem.W.mg_of X G B8) qD Cv (yF (P:=l.prog) (w:=w) (base:=base) qJ bK aW cm kE)
  have CF:Def l.prog w K mg base "_law_made" 6 1 ip:=Def.mk' (PySem.W.mg_of X G Ca) qE Cw (yH (P:=l.prog) (w:=w) (base:=base) qK dE cm CA Ao)
  have wP:Def l.prog w K mg base "_law_stands" 1 1 iP:=Def.mk' (PySem.W.mg_of X G wA) mG wN (tQ (P:=l.prog) (w:=w) (base:=base) mJ)
  have Ap:Def l.prog w K mg base "_law_class" 1 1 iq:=Def.mk' (PySem.W.mg_of X G zT) ox Ak (vl (P:=l.prog) (w:=w) (base:=base) oH aA kj pC pD yK tV yL nc jM tW pE kl pF pG yM tX yN ng pH tY pI)
  have E5:Def l.prog w K mg base "_law_due" 1 1 ja:=Def.mk' (PySem.W.mg_of X G EV) uG E3 (Bu (P:=l.prog) (w:=w) (base:=base) uN aW)
  have kN:oV l.prog w K mg base "stands_to_try" 9 1 bF:=oV.mk' (PySem.W.mg_of X G kH) hU kK (nS (P:=l.prog) (w:=w) (base:=base) hV cm jS kL oK xR fI pJ)
  have Nb:oV l.prog w K mg base "rests" 10 1 iQ:=oV.mk' (PySem.W.mg_of X G FQ) zj FT (G0 (P:=l.prog) (w:=w) (base:=base) Ag jR kN)
  have Nc:oV l.prog w K mg base "pairs" 10 1 iR:=oV.mk' (PySem.W.mg_of X G FR) zk FU (G1 (P:=l.prog) (w:=w) (base:=base) Ah jR kN)
  have uR:Def l.prog w K mg base "_law_refused" 11 2 cH:=Def.mk' (PySem.W.mg_of X G uH) lQ uO (qW (P:=l.prog) (w:=w) (base:=base) lU lF w_be (by rw [w_is];rfl) w_ty h_cs Nb Nc Ap)
  have CG:Def l.prog w K mg base "_law_wide" 12 1 lu:=Def.mk' (PySem.W.mg_of X G Ck) qG Cy (yI (P:=l.prog) (w:=w) (base:=base) qL aW uR E5 CA)
  exact Pp (P:=l.prog) (w:=w) (base:=base) QL aW aA dE CG qM Na M9 wP CC CF An
end Fm
set_option Elab.async false
set_option linter.all false
set_option maxRecDepth 100000
def PySem.W.Fast.tw90343872475197607 : Type := PySem.Params
theorem PySem.W.Fast.te90343872475197607 : PySem.Params = PySem.W.Fast.tw90343872475197607 := rfl
open PySem PySem.W PyProof.Rows
set_option maxRecDepth 100000 in
set_option maxHeartbeats 0 in
theorem PySem.Challenge.cw_followmost_k23_all_rests_and_pairs_holds : PySem.Challenge.rw_followmost_k23_all_rests_and_pairs.Holds := by
  w_on;o_law;k_head;(case hw=>w_witness2)
  k_fill
  refine Fm.Qf (l := PySem.Challenge.rw_followmost_k23_all_rests_and_pairs) (F := Fm.FE) (k := 13) (x := "_law_script") rfl rfl ⟨rfl, by decide, by decide, rfl⟩ (fun w h Y => PySem.W.kIn_of Y) ?F Fm.Po
  case F =>
    intro w mg fa h KX G hmg
    refine' Fm.Pq KX G hmg ?_ ?_ ?_ ?_ ?_ ?_ ?_ ?_ ?_ ?_ ?_ ?_ ?_ ?_ ?_ ?_ ?_ ?_ ?_ ?_ ?_ ?_ ?_ ?_ ?_ ?_ ?_ ?_ ?_ ?_ ?_ ?_ ?_ ?_ ?_ ?_ ?_ ?_ ?_ ?_ ?_ ?_ ?_ ?_ ?_ ?_ ?_ ?_ ?_ ?_ ?_ ?_ ?_ ?_ ?_ ?_ ?_ ?_ ?_ ?_ ?_ ?_ ?_ ?_ ?_ ?_ ?_ ?_ ?_ ?_ ?_ ?_ ?_ ?_ ?_ ?_ ?_ ?_ ?_ ?_ ?_ ?_ ?_ ?_ ?_ ?_ ?_ ?_ ?_ ?_ ?_ ?_ ?_ ?_ ?_ ?_ ?_ ?_ ?_ ?_ ?_ ?_ ?_ ?_ ?_ ?_ ?_ ?_ ?_ ?_ ?_ ?_ ?_ ?_ ?_ ?_ ?_ ?_ ?_ ?_ ?_ ?_ ?_ ?_ ?_ ?_ ?_ ?_ ?_ ?_ ?_ ?_ ?_ ?_ ?_ ?_ ?_ ?_ ?_ ?_ ?_ ?_ ?_ ?_ ?_ ?_ ?_ ?_ ?_ ?_ ?_ ?_ ?_ ?_ ?_ ?_ ?_ ?_ ?_ ?_ ?_ ?_ ?_ ?_ ?_ ?_ ?_ ?_ ?_ ?_ ?_ ?_ ?_ ?_ ?_ ?_ ?_ ?_ ?_ ?_ ?_ ?_ ?_ ?_ ?_ ?_ ?_ ?_ ?_ ?_ ?_ ?_ ?_ ?_ ?_ ?_ ?_ ?_ ?_ ?_ ?_ ?_ ?_ ?_ ?_ ?_ ?_ ?_
    all_goals try first|k_is|k_exc|kit_is
