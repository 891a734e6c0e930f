import PyProof.Rows.All
import Wide.All
import OpenK.AllK
import Wide.FinOn
import Lean
import PyProof.EqAt
import PyProof.EqKinds
import PyProof.TupleCall
import PyProof.NeKinds
import PyProof.IsInstanceH
import PyProof.IsiNone
import PyProof.EnumMake
import PyProof.Draws
import PyProof.ZipIter
import PyProof.ListRange
import KE.RegKIsAll
import PyProof.ExcAttrAll.ValueError
import PyProof.NsDelKeeps
import PyProof.Rows.StrJoin2
import KE.KTops
import KE.KIntText
import KE.IntTextLaws
import PyProof.Rows.StrSplitCount
import PyProof.Rows.SortRuns
import PySem.Challenge.RW_followmost_k48_webs_written
set_option Elab.async false
set_option linter.all false
set_option maxRecDepth 100000
namespace L2
open PySem PySem.Spec PyProof.Rows
abbrev Key:=Sum Int Str
def tH:Key→Value→Bool
  | .inl k,v=>Value.isInt k v
  | .inr x,v=>Value.isStrOf x v
def L5 (w:World):Key→Int
  | .inl k=>hashInt k
  | .inr x=>hashStr w x
theorem ca:∀ {k:Key} {v:Value},tH k v=true→(∃ i t,k=Sum.inl i∧v=Value.int i t)∨(∃ x t,k=Sum.inr x∧v=Value.str x t)
  | .inl i,v,h=>by
    obtain⟨t,e⟩:=Value.isInt_shape (k:=i) (v:=v) h
    exact .inl ⟨i,t,rfl,e⟩
  | .inr x,v,h=>by
    obtain⟨t,e⟩:=Value.isStrOf_shape (x:=x) (v:=v) h
    exact .inr ⟨x,t,rfl,e⟩
theorem C6 (i:Int)(t:Tok):tH (.inl i) (.int i t)=true:=by simp [tH,Value.isInt]
theorem C7 (x:Str)(t:Tok):tH (.inr x) (.str x t)=true:=by simp [tH,Value.isStrOf]
theorem IN (a b:Int):decide ((Sum.inl a:Key)=Sum.inl b)=(a == b):=by
  by_cases e:a=b
  · subst e;simp
  · have h : ¬ (Sum.inl a:Key)=Sum.inl b:=fun q=>e (Sum.inl.inj q)
    rw [decide_eq_false h]
    exact (beq_eq_false_iff_ne.mpr e).symm
theorem IO (a b:Str):decide ((Sum.inr a:Key)=Sum.inr b)=decide (a=b):=by
  by_cases e:a=b
  · subst e;simp
  · have h : ¬ (Sum.inr a:Key)=Sum.inr b:=fun q=>e (Sum.inr.inj q)
    rw [decide_eq_false h,decide_eq_false e]
theorem IP (a:Int)(b:Str):decide ((Sum.inl a:Key)=Sum.inr b)=false:=decide_eq_false (fun q=>nomatch q)
theorem IQ (a:Str)(b:Int):decide ((Sum.inr a:Key)=Sum.inl b)=false:=decide_eq_false (fun q=>nomatch q)
def cw (prog:Program) (w:World):PySem.KeyKind prog w Key where
  is:=tH
  hash:=L5 w
  inj:=fun v a b ha hb=>by
    rcases ca ha with ⟨i,t,rfl,rfl⟩|⟨x,t,rfl,rfl⟩
    · rcases ca hb with ⟨j,u,rfl,e⟩|⟨y,u,rfl,e⟩
      · injection e with e1 _;rw [e1]
      · exact nomatch e
    · rcases ca hb with ⟨j,u,rfl,e⟩|⟨y,u,rfl,e⟩
      · exact nomatch e
      · injection e with e1 _;rw [e1]
  byValue:=fun k v h=>by
    rcases ca h with ⟨i,t,rfl,rfl⟩|⟨x,t,rfl,rfl⟩<;>rfl
  pyHash:=fun hv h=>by
    rcases ca hv with ⟨i,t,rfl,rfl⟩|⟨x,t,rfl,rfl⟩
    · exact wpAny_pyHash_int h
    · exact wpAny_pyHash_str h
  eqBool:=fun hu hv h=>by
    rcases ca hu with ⟨i,t,rfl,rfl⟩|⟨x,t,rfl,rfl⟩
    · rcases ca hv with ⟨j,u,rfl,rfl⟩|⟨y,u,rfl,rfl⟩
      · rw [IN] at h;exact wpAny_eqBool_int h
      · rw [IP] at h;exact SeqAt.EqAt.int_str i t y u _ _ _ _ h
    · rcases ca hv with ⟨j,u,rfl,rfl⟩|⟨y,u,rfl,rfl⟩
      · rw [IQ] at h;exact SeqAt.EqAt.str_int x t j u _ _ _ _ h
      · rw [IO] at h;exact wpAny_eqBool_str h
  «strs» := fun k x t v h=>by
    rcases ca h with ⟨i,u,rfl,e⟩|⟨y,u,rfl,e⟩
    · exact nomatch e
    · injection e with e1 _
      subst e1
      cases v<;>rfl
theorem xS (prog:Program)(w:World)(i:Int)(t:Tok):(cw prog w).is (.inl i) (.int i t)=true:=C6 i t
theorem xT (prog:Program)(w:World)(x:Str)(t:Tok):(cw prog w).is (.inr x) (.str x t)=true:=C7 x t
end L2
namespace L2
open PySem PySem.Spec PyProof.Rows
inductive V where
  | non|bl (b:Bool)|int (i:Int)|str (x:Str)|byt (b:Array UInt8)|flt (b:UInt64)|ref (a:Addr)|ty (n:String)
  deriving DecidableEq
def bq:V→Value→Prop
  | .non,u=>u=Value.none
  | .bl b,u=>u=Value.bool b
  | .int i,u=>∃ t,u=Value.int i t
  | .str x,u=>∃ t,u=Value.str x t
  | .byt b,u=>∃ t,u=Value.bytes b t
  | .flt b,u=>∃ t,u=Value.float b t
  | .ref a,u=>u=Value.ref a
  | .ty n,u=>u=Value.type n
abbrev aN:List V→List Value→Prop:=Paired bq
theorem aN.length {xs:List V}{us:List Value}(r:aN xs us):xs.length=us.length:=Paired.length r
theorem aN.get:∀ {xs:List V} {us:List Value} {i:Nat} {x:V},aN xs us→xs[i]? = some x → ∃ u,us[i]? = some u∧bq x u
  | _,_,_,_,.nil,e=>by simp at e
  | _,_,0,_,.cons r _,e=>by simp at e;subst e;exact⟨_,rfl,r⟩
  | _,_,i + 1,x,.cons _ t,e=>by
    obtain⟨u,h1,h2⟩:=aN.get (i:=i) (x:=x) t (by simpa using e)
    exact⟨u,by simpa using h1,h2⟩
theorem aN.set {x:V}{u:Value}(r:bq x u):∀ {xs:List V} {us:List Value} (i:Nat),aN xs us→aN (xs.set i x) (us.set i u)
  | _,_,_,.nil=>.nil
  | _,_,0,.cons _ t=>.cons r t
  | _,_,i + 1,.cons q t=>.cons q (aN.set r i t)
theorem aN.append:∀ {xs ys:List V} {us ws:List Value},aN xs us→aN ys ws→aN (xs++ys) (us++ws)
  | _,_,_,_,.nil,s=>s
  | _,_,_,_,.cons r t,s=>.cons r (aN.append t s)
theorem aN.take:∀ {xs:List V} {us:List Value} (n:Nat),aN xs us→aN (xs.take n) (us.take n)
  | _,_,0,_=>.nil
  | _,_,_ + 1,.nil=>.nil
  | _,_,n + 1,.cons r t=>.cons r (aN.take n t)
theorem aN.drop:∀ {xs:List V} {us:List Value} (n:Nat),aN xs us→aN (xs.drop n) (us.drop n)
  | _,_,0,r=>r
  | _,_,_ + 1,.nil=>.nil
  | _,_,n + 1,.cons _ t=>aN.drop n t
def C8:Option V→Option Value→Prop
  | some v,some u=>bq v u
  | none,none=>True
  | _,_=>False
def KV {κ : Type}:List (κ × V)→List (κ × Value)→Prop:=Paired fun (p : κ × V) (q : κ × Value)=>p.1=q.1∧bq p.2 q.2
def kV:Key→V
  | .inl i=>.int i
  | .inr x=>.str x
inductive HO where
    | lst (xs:List V)
    | tup (xs:List V)
    | dK (kvs:List (Key × V))|dT (kvs:List (List Key × V))
    | set (S:Int→Bool) (n:Nat)
    | ins (C dx:Addr) (fs:List (Str × V))
    | own (x:Addr)
    | xd (fs:List (Str × V))
    | met (f x:Addr)
    | rng (lo hi:Int)
    | frz (o:Obj) (u:HO)
    | tbl (ps:Array Value)
    | ext (φ : Heap→Prop)
abbrev Hp:=Addr→Option HO
def upd (H:Hp) (a:Addr) (o:HO):Hp:=fun b=>if b=a then some o else H b
theorem a6 {H:Hp}{a:Addr}{o:HO}:upd H a o a=some o:=by unfold upd;rw [if_pos rfl]
theorem aI {H:Hp}{a b:Addr}{o:HO}(h:b≠a):upd H a o b=H b:=by unfold upd;rw [if_neg h]
theorem Iz {H:Hp}{a b:Addr}{o u:HO}(h:H a=some o)(h':H b=some u)(d:o≠u):a≠b:=by
  intro e;subst e;rw [h] at h';exact d (Option.some.inj h')
theorem cW {H:Hp}{a b:Addr}{o:HO}(h:H a=some o)(h':H b=none):a≠b:=by
  intro e;subst e;rw [h] at h';cases h'
section
variable (P:Program) (w:World)
def dE (H:Hp) (h:Heap) (a:Addr):HO→Prop
  | .lst xs=>xs.length≤sizeLine ∧ ∃ (its:List Value) (n:Nat),aN xs its∧h.get? a=some { cls:=.type "list",data:=.seq its.toArray n }
  | .tup xs=>xs.length≤sizeLine ∧ ∃ its:List Value,aN xs its∧IsTup h a its.toArray
  | .dK kvs=>kvs.length≤sizeLine∧(a == sysModules)=false ∧ ∃ vs,KV kvs vs∧h.DictOf (cw P w) a vs
  | .dT kvs=>kvs.length≤sizeLine∧(a == sysModules)=false ∧ ∃ xs:List (List Key × Addr × Value),
      Paired (fun (p:List Key × V) (q:List Key × Addr × Value)=>p.1=q.1∧H q.2.1=some (.tup (p.1.map kV))∧bq p.2 q.2.2) kvs xs ∧
      ∃ o es ep,h.get? a=some o∧o.ExactDict∧o.data=.dict es ep∧es.toList=xs.map (entryOfKey (tupleKind (cw P w)))∧(xs.map (·.1)).Nodup
  | .set S n=>h.SetOf (intKind P w) a S n
  | .ins C dx fs=>H dx=some (.own a)∧fs.length≤1000∧dx≠a∧h.get? a=some (PySem.W.instObj C dx) ∧
      ∃ mA,h.Ns1 dx mA∧(∀ f,C8 (fs.lookup f) (mA f))∧PySem.Within mA (fs.map (·.1))
  | .own _=>∃ o,h.get? a=some o
  | .xd fs=>∃ mA,h.Ns1 a mA ∧ ∀ f,C8 (fs.lookup f) (mA f)
  | .rng lo hi=>∃ t u v,h.get? a=some { cls:=.type "range",data:=.fields #[.int lo t,.int hi u,.int 1 v] }
  | .frz o u=>h.get? a=some o∧dE H h a u
  | .tbl ps=>h.get? a=some { cls:=.none,data:=.fields ps }
  | .met f x=>h.get? a=some (PySem.W.methodObj (.ref f) (.ref x))
  | .ext φ => φ h∧(∃ o,h.get? a=some o) ∧ ∀ h1 h2:Heap,φ h1→(∀ o,h1.get? a=some o→h2.get? a=some o) → φ h2
def HOk (H:Hp) (h:Heap):Prop:=∀ a o,H a=some o→dE P w H h a o
end
section
variable {P:Program} {w:World} {H H':Hp} {h h':Heap} {a:Addr} {o:HO}
theorem dE.lt (x:dE P w H h a o):a < h.objs.size:=by
  cases o with
  | lst xs=>obtain⟨_,_,_,_,e⟩:=x;exact Heap.lt_size e
  | tup xs=>obtain⟨_,_,_,p⟩:=x;exact p.lt
  | dK kvs=>obtain⟨_,_,_,_,o,_,_,e,_⟩:=x;exact Heap.lt_size e
  | dT kvs=>obtain⟨_,_,_,_,o,_,_,e,_⟩:=x;exact Heap.lt_size e
  | set S n=>obtain⟨o,_,_,_,e,_⟩:=x;exact Heap.lt_size e
  | ins C dx fs=>obtain⟨_,_,_,e,_⟩:=x;exact Heap.lt_size e
  | own y=>obtain⟨_,e⟩:=x;exact Heap.lt_size e
  | xd fs=>obtain⟨_,⟨_,_,_,e,_⟩,_⟩:=x;exact Heap.lt_size e
  | rng lo hi=>obtain⟨_,_,_,e⟩:=x;exact Heap.lt_size e
  | frz ob u=>obtain⟨e,_⟩:=x;exact Heap.lt_size e
  | tbl ps=>exact Heap.lt_size (show h.get? a=some _ from x)
  | met f y=>exact Heap.lt_size (show h.get? a=some _ from x)
  | ext φ => obtain⟨_,⟨_,e⟩,_⟩:=x;exact Heap.lt_size e
theorem Paired.mapP {α β : Type}{F G : α → β → Prop}:∀ {l₁ : List α} {l₂ : List β},Paired F l₁ l₂ → (∀ a b,F a b→G a b)→Paired G l₁ l₂
  | _,_,.nil,_=>.nil
  | _,_,.cons r t,f=>.cons (f _ _ r) (Paired.mapP t f)
theorem dE.stay (x:dE P w H h a o)(k:∀ b u,(b=a∨H b=some (.own a))→h.get? b=some u→h'.get? b=some u)
    (ho:∀ b,H b=some (.own a)→H' b=some (.own a)) (ht:∀ b xs,H b=some (.tup xs)→H' b=some (.tup xs)):dE P w H' h' a o:=by
  induction o with
  | lst xs=>obtain⟨z,its,n,r,e⟩:=x;exact⟨z,its,n,r,k _ _ (.inl rfl) e⟩
  | tup xs=>obtain⟨z,its,r,ob,e,c⟩:=x;exact⟨z,its,r,ob,k _ _ (.inl rfl) e,c⟩
  | dK kvs=>obtain⟨z,y,vs,r,ob,es,ep,e,c⟩:=x;exact⟨z,y,vs,r,ob,es,ep,k _ _ (.inl rfl) e,c⟩
  | dT kvs =>
    obtain⟨z,y,xs,r,ob,es,ep,e,c⟩:=x
    exact⟨z,y,xs,Paired.mapP r fun p q z=>⟨z.1,ht _ _ z.2.1,z.2.2⟩,ob,es,ep,k _ _ (.inl rfl) e,c⟩
  | set S n=>obtain⟨ob,es,ep,t,e,c⟩:=x;exact⟨ob,es,ep,t,k _ _ (.inl rfl) e,c⟩
  | ins C dx fs =>
    obtain⟨d,z,ne,e,mA,⟨od,es,ep,e2,c⟩,r⟩:=x
    exact⟨ho _ d,z,ne,k _ _ (.inl rfl) e,mA,⟨od,es,ep,k _ _ (.inr d) e2,c⟩,r⟩
  | own y=>obtain⟨ob,e⟩:=x;exact⟨ob,k _ _ (.inl rfl) e⟩
  | xd fs=>obtain⟨mA,⟨od,es,ep,e,c⟩,r⟩:=x;exact⟨mA,⟨od,es,ep,k _ _ (.inl rfl) e,c⟩,r⟩
  | rng lo hi=>obtain⟨t,u,v,e⟩:=x;exact⟨t,u,v,k _ _ (.inl rfl) e⟩
  | frz ob u ih=>obtain⟨e,q⟩:=x;exact⟨k _ _ (.inl rfl) e,ih q⟩
  | tbl ps =>
    have e:h.get? a=some { cls:=.none,data:=.fields ps }:=x
    show h'.get? a=some { cls:=.none,data:=.fields ps }
    exact k a _ (.inl rfl) e
  | met f y =>
    have e:h.get? a=some (PySem.W.methodObj (.ref f) (.ref y)):=x
    show h'.get? a=some (PySem.W.methodObj (.ref f) (.ref y))
    exact k a _ (.inl rfl) e
  | ext φ => obtain⟨p,⟨o,e⟩,st⟩:=x;exact⟨st _ _ p fun o q=>k _ _ (.inl rfl) q,⟨o,k _ _ (.inl rfl) e⟩,st⟩
theorem HOk.lt (x:HOk P w H h)(e:H a=some o):a < h.objs.size:=(x a o e).lt
theorem HOk.fresh (x:HOk P w H h)(e:h.objs.size≤a):H a=none:=by
  cases q:H a with
  | none=>rfl
  | some u=>exact absurd (Nat.lt_of_lt_of_le (x.lt q) e) (Nat.lt_irrefl _)
theorem HOk.kept (x:HOk P w H h)(k:∀ b u,h.get? b=some u→h'.get? b=some u):HOk P w H h':=fun a o e =>
  (x a o e).stay (fun b u _ q=>k b u q) (fun _ q=>q) fun _ _ q=>q
theorem HOk.laid (x:HOk P w H h)(k:∀ b u,h.get? b=some u→h'.get? b=some u)(hp:h.objs.size≤a)(new:dE P w (upd H a o) h' a o):HOk P w (upd H a o) h':=fun b u e=>by
  have hn:=x.fresh hp
  by_cases hb:b=a
  · subst hb;rw [a6] at e;cases e;exact new
  · rw [aI hb] at e
    exact (x b u e).stay (fun c v _ q=>k c v q) (fun c q=>by rw [aI (cW q hn)];exact q) fun c xs q=>by rw [aI (cW q hn)];exact q
end
def Rd (H:Hp) (a:Addr) (u:HO):Prop:=H a=some u ∨ ∃ o,H a=some (.frz o u)
theorem Rd.ok {P:Program}{w:World}{H:Hp}{h:Heap}{a:Addr}{u:HO}(r:Rd H a u)(x:HOk P w H h):dE P w H h a u:=by
  rcases r with r|⟨o,r⟩
  · exact x a u r
  · obtain⟨_,q⟩:=x a _ r
    exact q
def Mut:Option HO→Prop
  | some (.lst _)=>True
  | some (.dK _)=>True
  | some (.dT _)=>True
  | some (.set _ _)=>True
  | some (.ins _ _ _)=>True
  | some (.ext _)=>True
  | _=>False
section
variable {P:Program} {w:World} {H:Hp} {h h':Heap} {x e:Addr} {o':HO}
theorem HOk.write (ok:HOk P w H h)(mu:Mut (H x))(he:e=x∨H e=some (.own x))(k:∀ b u,b≠e→h.get? b=some u→h'.get? b=some u)(heo:∃ u,h'.get? e=some u)
    (new:dE P w (upd H x o') h' x o'):HOk P w (upd H x o') h':=fun b u q=>by
  have nown:∀ c y,H c=some (.own y)→c≠x:=fun c y r z=>by subst z;rw [r] at mu;exact mu
  have ntup:∀ c xs,H c=some (.tup xs)→c≠x:=fun c xs r z=>by subst z;rw [r] at mu;exact mu
  by_cases hb:b=x
  · subst hb;rw [a6] at q;cases q;exact new
  · rw [aI hb] at q
    by_cases hbe:b=e
    · have q':H b=some (.own x):=by
        rcases he with z|z
        · exact absurd (hbe.trans z) hb
        · rw [hbe];exact z
      rw [q] at q';cases q'
      obtain⟨v,hv⟩:=heo
      exact⟨v,by rw [hbe];exact hv⟩
    · refine (ok b u q).stay (fun c v hc r=>k c v ?_ r) (fun c r=>by rw [aI (nown c b r)];exact r) fun c xs r=>by rw [aI (ntup c xs r)];exact r
      rcases hc with rfl|hc
      · exact hbe
      · rintro rfl
        rcases he with z|z
        · exact nown c b hc z
        · rw [hc] at z;cases z;exact hb rfl
end
structure Un (fs ex:List Addr) (H H':Hp) (h h':Heap):Prop where
  keep:∀ b o,h.get? b=some o→H b=none→b∉fs→b∉ex→h'.get? b=some o
  slot:∀ b o,h.get? b=some o→H b=none→b∈fs→b∉ex → ∃ sl,h'.get? b=some { o with slots:=sl }
  free:∀ b o,h.get? b=some o→H b=none→b∉ex→H' b=none
  there:∀ b o,h.get? b=some o→b∉ex → ∃ o',h'.get? b=some o'
  tups:∀ b xs,H b=some (.tup xs)→H' b=some (.tup xs)
  frzs:∀ b o u,H b=some (.frz o u)→H' b=some (.frz o u)
  tbls:∀ b ps,H b=some (.tbl ps) → ∃ more,H' b=some (.tbl (ps++more))
section
variable {fs fs' ex ex':List Addr} {H H1 H2:Hp} {h h1 h2 h':Heap} {a x e:Addr} {o:HO}
theorem Un.any (u:Un fs ex H H1 h h1){b:Addr}{ob:Obj}(q:h.get? b=some ob)(n:H b=none)(hx:b∉ex):∃ sl,h1.get? b=some { ob with slots:=sl }:=by
  by_cases hb:b∈fs
  · exact u.slot b ob q n hb hx
  · exact⟨ob.slots,u.keep b ob q n hb hx⟩
theorem Un.kept (k:∀ b u,h.get? b=some u→h'.get? b=some u):Un fs ex H H h h' :=
  ⟨fun b ob q _ _ _=>k b ob q,fun b ob q _ _ _=>⟨ob.slots,k b ob q⟩,fun _ _ _ n _=>n,fun b ob q _=>⟨ob,k b ob q⟩,fun _ _ q=>q,fun _ _ _ q=>q,fun _ ps q=>⟨#[],by rw [q];simp⟩⟩
theorem Un.refl:Un fs ex H H h h:=Un.kept fun _ _ q=>q
theorem Un.laid (k:∀ b u,h.get? b=some u→h'.get? b=some u)(hp:h.objs.size≤a)(hn:H a=none):Un fs ex H (upd H a o) h h' where
  keep:=fun b u q _ _ _=>k b u q
  slot:=fun b u q _ _ _=>⟨u.slots,k b u q⟩
  free:=fun b u q n _=>by rw [aI (Nat.ne_of_lt (Nat.lt_of_lt_of_le (Heap.lt_size q) hp))];exact n
  there:=fun b u q _=>⟨u,k b u q⟩
  tups:=fun b xs q=>by rw [aI (cW q hn)];exact q
  frzs:=fun b u xs q=>by rw [aI (cW q hn)];exact q
  tbls:=fun b ps q=>⟨#[],by rw [aI (cW q hn),q];simp⟩
theorem Un.write (mu:Mut (H x))(he:e=x∨H e=some (.own x))(k:∀ b u,b≠e→h.get? b=some u→h'.get? b=some u)(heo:∃ u,h'.get? e=some u):Un fs ex H (upd H x o) h h':=by
  have hx:∀ b,H b=none→b≠x:=fun b n z=>by subst z;rw [n] at mu;exact mu
  have hb:∀ b,H b=none→b≠e:=fun b n z=>by
    subst z
    rcases he with r|r
    · exact hx b n r
    · rw [n] at r;cases r
  have hm:∀ b u,H b=some u → ¬ Mut (some u)→b≠x:=fun b u q nm z=>by subst z;rw [q] at mu;exact nm mu
  refine⟨fun b u q n _ _=>k b u (hb b n) q,fun b u q n _ _=>⟨u.slots,k b u (hb b n) q⟩,fun b u q n _=>by rw [aI (hx b n)];exact n,fun b u q _ => ?_,
    fun b xs q=>by rw [aI (hm b _ q fun z=>z)];exact q,fun b u xs q=>by rw [aI (hm b _ q fun z=>z)];exact q,fun b ps q=>⟨#[],by rw [aI (hm b _ q fun z=>z),q];simp⟩⟩
  by_cases hbe:b=e
  · subst hbe;exact heo
  · exact⟨u,k b u hbe q⟩
end
def trk (h:Heap) (H:Hp):List Addr:=(List.range h.objs.size).filter fun a=>(H a).isSome
def uI (h:Heap) (H:Hp):Heap:=PySem.W.hideAll h (trk h H)
theorem C9 (h:Heap)(H:Hp):(uI h H).objs.size=h.objs.size:=PySem.W.hideAll_size _ _
theorem EC {h:Heap}{H:Hp}{b:Addr}{o:Obj}(e:h.get? b=some o)(n:H b=none):(uI h H).get? b=some o :=
  PySem.W.hideAll_get _ e fun hm=>by
    have q:(H b).isSome=true:=(List.mem_filter.mp hm).2
    rw [n] at q;simp at q
theorem G4 {h:Heap}{H:Hp}{b:Addr}{o:Obj}(e:(uI h H).get? b=some o):h.get? b=some o∧H b=none:=by
  have e':h.get? b=some o:=PySem.W.of_hideAll (trk h H) e
  refine⟨e',?_⟩
  cases q:H b with
  | none=>rfl
  | some x =>
    have hm:b∈trk h H:=List.mem_filter.mpr ⟨List.mem_range.mpr (Heap.lt_size e'),by simp [q]⟩
    have z:(uI h H).get? b=none:=PySem.W.hideAll_none (trk h H) hm
    rw [z] at e;cases e
def G5 (g h:Heap) (L:Addr):List (Addr × Obj):=(List.range h.objs.size).filterMap fun a=>if a=L∨(g.get? a).isSome=true then none else (h.get? a).map fun o=>(a,o)
def rest (g h:Heap) (L d:Addr):List (Addr × Obj):=(G5 g h L).filter fun p=>decide (p.1≠d)
end L2
namespace L2
open PySem PySem.Spec PyProof.Rows
structure Mod (K:PySem.W.Frag) (mg:Str→Option Value) (base:Heap):Prop where
  kin:K.In base
  glob:base.Ns mainGlobals mg
  blt:∃ mb,base.Ns builtinsNs mb ∧ ∀ x:Str,x ≠ "__name__" → mb x=bootBuiltins x
  nolimit:base.NoLimit
structure Cx where
  prog:Program
  w:World
  K:PySem.W.Frag
  mg:Str→Option Value
  base:Heap
  A:Around
  N:List Str
  s₀ : Shared
  H₀ : Hp
  env:Env
  outer:List Env
  stack:List Env
  ex:List Addr
  fn:Str→Bool
  calm:Bool
  pn:List (Addr × Obj)
  xe:Value→Shared→Prop
def frs (l:List Env):List Addr:=l.filterMap (·.frame)
abbrev Cx.fs (X:Cx):List Addr:=frs X.outer
def Vis (sc:Scope) (x:Str):Prop:=sc.names.lookup x=some .local ∨sc.names.lookup x=some .cell∨sc.names.lookup x=some .free
def Loc (sc:Scope) (x:Str):Prop:=sc.names.lookup x=some .local ∨sc.names.lookup x=some .cell
def L6 (env:Env) (h:Heap) (m:Str→Option Value) (x:Str) (u:Value):Prop :=
  (env.kindOf x=some .local∧m x=some u)∨((env.kindOf x=some .cell∨env.kindOf x=some .free) ∧ ∃ c,env.cells.lookup x=some c∧h.IsCell c (some u))
structure Cx.Ok (X:Cx):Prop where
  mod:Mod X.K X.mg X.base
  kind:X.env.scope.kind=.function
  glob:X.env.globals=mainGlobals
  blt:X.env.builtins=builtinsNs
  above:X.s₀.heap.objs.size≤X.env.locals
  inj:∀ x y c,X.env.cells.lookup x=some c→X.env.cells.lookup y=some c→x=y
  has:∀ x,(X.env.kindOf x=some .cell∨X.env.kindOf x=some .free) → ∃ c,X.env.cells.lookup x=some c
  cab:∀ x c,X.fn x=true→X.env.cells.lookup x=some c→X.s₀.heap.objs.size≤c
  hd:X.calm=true→X.A.handled=none
  frames:X.A.frames=some X.stack
  stk:X.stack=X.outer∨(X.stack=X.env :: X.outer∧X.env.frame=some X.env.locals)
  exf:∀ b∈X.ex,b≠X.env.locals ∧ ∀ x c,X.env.cells.lookup x=some c→c≠b
  bs:∀ b o,X.base.get? b=some o→X.s₀.heap.get? b=some o∧X.H₀ b=none
  bsz:X.base.objs.size≤X.s₀.heap.objs.size
  noex:∀ b o,X.base.get? b=some o→b∉X.ex
  exfs:∀ b∈X.ex,b∉X.fs
  funs:X.s₀.heap.FunFrames X.base X.outer
  frf:∀ b∈X.fs,X.H₀ b=none
structure Inv (X:Cx) (pins:List (Addr × Obj)) (σ:List (Option V)) (H:Hp) (s:Shared):Prop where
  ok:X.Ok
  os:s.os=X.s₀.os
  bare:AllBare s.gens
  base:Un X.fs X.ex X.H₀ H X.s₀.heap s.heap
  loc:∃ m,s.heap.Ns X.env.locals m ∧ ∀ (i:Nat) (x:Str) (v:V),X.N[i]? = some x → σ[i]? = some (some v)→Vis X.env.scope x → ∃ u,bq v u∧L6 X.env s.heap m x u
  cell:∀ x c,X.env.cells.lookup x=some c → ∃ v,s.heap.IsCell c v
  free:H X.env.locals=none
  freeC:∀ x c,X.env.cells.lookup x=some c→H c=none
  pin:∀ p∈X.pn++pins,s.heap.get? p.1=some p.2∧H p.1=none∧p.1≠X.env.locals∧p.1∉X.fs ∧ ∀ v,p.2.data ≠ .cell v
  hok:HOk X.prog X.w H s.heap
  len : σ.length=X.N.length
section
variable {X:Cx} {pins:List (Addr × Obj)} {σ:List (Option V)} {H H':Hp} {s:Shared} {h':Heap}
theorem Cx.Ok.nofr (ok:X.Ok){b:Addr}{o:Obj}(e:X.base.get? b=some o):b∉X.fs:=fun hb=>by
  have:=(ok.funs.mem hb).1
  rw [e] at this;cases this
theorem Inv.bs (I:Inv X pins σ H s):∀ b o,X.base.get? b=some o→s.heap.get? b=some o∧H b=none:=fun b o e =>
  ⟨I.base.keep b o (I.ok.bs b o e).1 (I.ok.bs b o e).2 (I.ok.nofr e) (I.ok.noex b o e),I.base.free b o (I.ok.bs b o e).1 (I.ok.bs b o e).2 (I.ok.noex b o e)⟩
theorem Inv.bk (I:Inv X pins σ H s):∀ b o,X.base.get? b=some o→s.heap.get? b=some o:=fun b o e=>(I.bs b o e).1
theorem Inv.mod (I:Inv X pins σ H s):Mod X.K X.mg X.base:=I.ok.mod
theorem Inv.kIn (I:Inv X pins σ H s):X.K.In s.heap:=I.ok.mod.kin.keeps I.bk
theorem Inv.lt (I:Inv X pins σ H s):X.env.locals < s.heap.objs.size:=let ⟨_,hn,_⟩:=I.loc;hn.lt
theorem Inv.sz (I:Inv X pins σ H s):X.s₀.heap.objs.size≤s.heap.objs.size:=Nat.le_trans I.ok.above (Nat.le_of_lt I.lt)
theorem Inv.nofs (I:Inv X pins σ H s){a:Addr}(h:s.heap.objs.size≤a):a∉X.fs:=fun hb=>by
  obtain⟨_,o,ho,_⟩:=I.ok.funs.mem hb
  exact absurd (Nat.lt_of_lt_of_le (Heap.lt_size ho) (Nat.le_trans I.sz h)) (Nat.lt_irrefl _)
theorem Inv.cne (I:Inv X pins σ H s):∀ x c,X.env.cells.lookup x=some c→c≠X.env.locals:=fun x c e z=>by
  obtain⟨v,o,ho,hd⟩:=I.cell x c e
  obtain⟨m,⟨o',es,ep,ho',hd',_⟩,_⟩:=I.loc
  rw [z,ho'] at ho;cases ho;rw [hd'] at hd;cases hd
theorem Inv.funs (I:Inv X pins σ H s):s.heap.FunFrames X.base X.outer:=by
  have all:∀ (l:List Env),(∀ b∈frs l,b∈X.fs)→X.s₀.heap.FunFrames X.base l→s.heap.FunFrames X.base l:=by
    intro l
    induction l with
    | nil=>intro _ _;trivial
    | cons env r ih =>
      intro hs hl
      obtain⟨hk,⟨L,o,hf,hn,ho,hd⟩,hr⟩:=hl
      have hL:L∈X.fs:=hs L (by unfold frs;rw [List.filterMap_cons,hf];exact List.mem_cons_self)
      obtain⟨sl,e⟩:=I.base.slot L o ho (I.ok.frf L hL) hL fun z=>I.ok.exfs L z hL
      exact⟨hk,⟨L,_,hf,hn,e,hd⟩,ih (fun b hb=>hs b (by unfold frs;rw [List.filterMap_cons,hf];exact List.mem_cons_of_mem _ hb)) hr⟩
  exact all X.outer (fun _ hb=>hb) I.ok.funs
theorem Inv.stack (I:Inv X pins σ H s):s.heap.FunFrames X.base X.stack:=by
  rcases I.ok.stk with e|⟨e,hf⟩
  · rw [e];exact I.funs
  · rw [e]
    obtain⟨m,hn,_⟩:=I.loc
    refine .cons (by rw [I.ok.kind];decide) hf hn ?_ I.funs
    exact Heap.get?_none_of_le (Nat.le_trans I.ok.bsz I.ok.above)
theorem Inv.stkSub (I:Inv X pins σ H s):∀ b∈frs X.stack,b∈X.env.locals :: X.fs:=fun b hb=>by
  rcases I.ok.stk with e|⟨e,hf⟩
  · rw [e] at hb;exact List.mem_cons_of_mem _ hb
  · rw [e] at hb
    unfold frs at hb
    rw [List.filterMap_cons,hf] at hb
    exact hb
theorem Inv.stkFree (I:Inv X pins σ H s):∀ b∈frs X.stack,H b=none:=fun b hb=>by
  rcases List.mem_cons.mp (I.stkSub b hb) with e|hb
  · rw [e];exact I.free
  · obtain⟨_,o,ho,_⟩:=I.ok.funs.mem hb
    exact I.base.free b o ho (I.ok.frf b hb) fun z=>I.ok.exfs b z hb
theorem Inv.step {g':Array GenState}{t':Nat}{d':Drawn}{ch:List Addr}(I:Inv X pins σ H s)
    (hch:∀ b∈ch,(b∈X.ex∨X.s₀.heap.objs.size≤b)∧b≠X.env.locals∧(∀ x c,X.env.cells.lookup x=some c→c≠b) ∧ ∀ p∈X.pn++pins,p.1≠b)
    (keep:∀ b o,b≠X.env.locals→b∉X.fs→b∉ch→s.heap.get? b=some o→H b=none→h'.get? b=some o)
    (slot:∀ b o,b≠X.env.locals→b∈X.fs→b∉ch→s.heap.get? b=some o→H b=none → ∃ sl,h'.get? b=some { o with slots:=sl }) (free:∀ b o,b∉ch→s.heap.get? b=some o→H b=none→H' b=none)
    (there:∀ b o,b∉ch→s.heap.get? b=some o → ∃ o',h'.get? b=some o')
    (tups:∀ b xs,H b=some (.tup xs)→H' b=some (.tup xs)) (frzs:∀ b o u,H b=some (.frz o u)→H' b=some (.frz o u)) (tbls:∀ b ps,H b=some (.tbl ps) → ∃ more,H' b=some (.tbl (ps++more)))
    (ns:∀ m,s.heap.Ns X.env.locals m→h'.Ns X.env.locals m) (hok:HOk X.prog X.w H' h') (hg:AllBare g') :
    Inv X pins σ H' { s with heap:=h',gens:=g',drawn:=d',toks:=t' }:=by
  have neL:∀ b o,X.s₀.heap.get? b=some o→b≠X.env.locals:=fun b o e=>Nat.ne_of_lt (Nat.lt_of_lt_of_le (Heap.lt_size e) I.ok.above)
  have neC:∀ b o,X.s₀.heap.get? b=some o→b∉X.ex→b∉ch:=fun b o e hx hb=>by
    rcases (hch b hb).1 with z|z
    · exact hx z
    · exact absurd (Nat.lt_of_lt_of_le (Heap.lt_size e) z) (Nat.lt_irrefl _)
  have cellK:∀ x c,X.env.cells.lookup x=some c → ∀ v,s.heap.IsCell c v→h'.IsCell c v:=fun x c e v ⟨o,ho,hd⟩=>by
    have nch:c∉ch:=fun z=>(hch c z).2.2.1 x c e rfl
    by_cases hc:c∈X.fs
    · obtain⟨sl,q⟩:=slot c o (I.cne x c e) hc nch ho (I.freeC x c e)
      exact⟨_,q,hd⟩
    · exact⟨o,keep c o (I.cne x c e) hc nch ho (I.freeC x c e),hd⟩
  refine⟨I.ok,I.os,hg,⟨fun b o e n hb hx => ?_,fun b o e n hb hx => ?_,fun b o e n hx => ?_,fun b o e hx => ?_,fun b xs e=>tups b xs (I.base.tups b xs e),fun b o xs e=>frzs b o xs (I.base.frzs b o xs e),fun b ps e => ?_⟩,?_,fun x c e => ?_,?_,fun x c e => ?_,fun p hp => ?_,hok,I.len⟩
  · exact keep b o (neL b o e) hb (neC b o e hx) (I.base.keep b o e n hb hx) (I.base.free b o e n hx)
  · obtain⟨sl,e1⟩:=I.base.slot b o e n hb hx
    obtain⟨sl',e2⟩:=slot b _ (neL b o e) hb (neC b o e hx) e1 (I.base.free b o e n hx)
    exact⟨sl',e2⟩
  · obtain⟨o',e1⟩:=I.base.there b o e hx
    exact free b o' (neC b o e hx) e1 (I.base.free b o e n hx)
  · obtain⟨o',e1⟩:=I.base.there b o e hx
    exact there b o' (neC b o e hx) e1
  · obtain⟨m1,e1⟩:=I.base.tbls b ps e
    obtain⟨m2,e2⟩:=tbls b _ e1
    exact⟨m1++m2,by rw [e2,Array.append_assoc]⟩
  · obtain⟨m,hn,hl⟩:=I.loc
    refine⟨m,ns m hn,fun i x v e1 e2 e3 => ?_⟩
    obtain⟨u,r,l⟩:=hl i x v e1 e2 e3
    refine⟨u,r,?_⟩
    rcases l with l|⟨k,c,e,z⟩
    · exact .inl l
    · exact .inr ⟨k,c,e,cellK x c e _ z⟩
  · obtain⟨v,z⟩:=I.cell x c e
    exact⟨v,cellK x c e v z⟩
  · obtain⟨m,⟨o,_,_,ho,_⟩,_⟩:=I.loc
    exact free _ o (fun z=>(hch _ z).2.1 rfl) ho I.free
  · obtain⟨v,o,ho,hd⟩:=I.cell x c e
    exact free c o (fun z=>(hch c z).2.2.1 x c e rfl) ho (I.freeC x c e)
  · obtain⟨e,n,ne,nf,d⟩:=I.pin p hp
    have nch:p.1∉ch:=fun z=>(hch p.1 z).2.2.2 p hp rfl
    exact⟨keep p.1 p.2 ne nf nch e n,free p.1 p.2 nch e n,ne,nf,d⟩
theorem Inv.un {t':Nat}(I:Inv X pins σ H s)(u:Un X.fs [] H H' s.heap h')(hok:HOk X.prog X.w H' h'):Inv X pins σ H' { s with heap:=h',toks:=t' }:=by
  obtain⟨m,⟨o,es,ep,ho,r⟩,_⟩:=id I.loc
  obtain⟨sl,hL⟩:=u.any ho I.free (by simp)
  exact I.step (g':=s.gens) (d':=s.drawn) (ch:=[]) (fun _ z=>nomatch z) (fun b o _ hb _ e n=>u.keep b o e n hb (by simp)) (fun b o _ hb _ e n=>u.slot b o e n hb (by simp)) (fun b o _ e n=>u.free b o e n (by simp)) (fun b o _ e=>u.there b o e (by simp)) u.tups u.frzs u.tbls (fun m' hm=>by
    obtain⟨o',es',ep',ho',r'⟩:=hm
    rw [ho] at ho';cases ho'
    exact⟨_,es',ep',hL,r'⟩) hok I.bare
theorem Inv.call {g':Array GenState}{t':Nat}{d':Drawn}{ch:List Addr}(I:Inv X pins σ H s)(u:Un (frs X.stack) ch H H' s.heap h')(hok:HOk X.prog X.w H' h')(hg:AllBare g')
    (hch:∀ b∈ch,(b∈X.ex∨X.s₀.heap.objs.size≤b)∧b≠X.env.locals∧(∀ x c,X.env.cells.lookup x=some c→c≠b) ∧ ∀ p∈X.pn++pins,p.1≠b) :
    Inv X pins σ H' { s with heap:=h',gens:=g',drawn:=d',toks:=t' }:=by
  obtain⟨m,⟨o,es,ep,ho,r⟩,_⟩:=id I.loc
  obtain⟨sl,hL⟩:=u.any ho I.free fun z=>(hch _ z).2.1 rfl
  exact I.step (ch:=ch) hch (fun b o hL hb hc e n=>u.keep b o e n (fun z=>(List.mem_cons.mp (I.stkSub b z)).elim hL hb) hc) (fun b o _ _ hc e n=>u.any e n hc) (fun b o hc e n=>u.free b o e n hc) (fun b o hc e=>u.there b o e hc) u.tups u.frzs u.tbls (fun m' hm=>by
    obtain⟨o',es',ep',ho',r'⟩:=hm
    rw [ho] at ho';cases ho'
    exact⟨_,es',ep',hL,r'⟩) hok hg
theorem Inv.turned {t':Nat}{it:Addr}(I:Inv X pins σ H s)(k:∀ b o,b≠it→s.heap.get? b=some o→h'.get? b=some o)(hn:H it=none)(hL:it≠X.env.locals)
    (h1:it∈X.ex∨X.s₀.heap.objs.size≤it) (h2:∀ x c,X.env.cells.lookup x=some c→c≠it) (h3:∀ p∈X.pn++pins,p.1≠it):Inv X pins σ H { s with heap:=h',toks:=t' }:=by
  have nit:∀ b u,H b=some u→b≠it:=fun b u e z=>by rw [z,hn] at e;cases e
  refine I.step (g':=s.gens) (d':=s.drawn) (ch:=[it]) (fun b hb => ?_) (fun b o _ _ hc e _=>k b o (fun z=>hc (by simp [z])) e) (fun b o _ _ hc e _=>⟨o.slots,k b o (fun z=>hc (by simp [z])) e⟩) (fun _ _ _ _ n=>n)
    (fun b o hc e=>⟨o,k b o (fun z=>hc (by simp [z])) e⟩) (fun _ _ e=>e) (fun _ _ _ e=>e) (fun b ps e=>⟨#[],by rw [e];simp⟩) (fun m hm => ?_) (fun b u e => ?_) I.bare
  · have e:b=it:=by simpa using hb
    subst e
    exact⟨h1,hL,h2,h3⟩
  · obtain⟨o,es,ep,ho,r⟩:=hm
    exact⟨o,es,ep,k _ o (Ne.symm hL) ho,r⟩
  · refine (I.hok b u e).stay (fun c v hc q=>k c v ?_ q) (fun _ q=>q) fun _ _ q=>q
    rcases hc with z|z
    · rw [z];exact nit b u e
    · exact nit c _ z
theorem Inv.tok (I:Inv X pins σ H s)(t:Nat):Inv X pins σ H { s with toks:=t }:=I.un (h':=s.heap) (t':=t) Un.refl I.hok
theorem Inv.kept {t':Nat}(I:Inv X pins σ H s)(k:∀ b u,s.heap.get? b=some u→h'.get? b=some u):Inv X pins σ H { s with heap:=h',toks:=t' }:=I.un (Un.kept k) (I.hok.kept k)
theorem Inv.laid {a:Addr}{o:HO}{t':Nat}(I:Inv X pins σ H s)(k:∀ b u,s.heap.get? b=some u→h'.get? b=some u)(hp:s.heap.objs.size≤a)(new:dE X.prog X.w (upd H a o) h' a o) :
    Inv X pins σ (upd H a o) { s with heap:=h',toks:=t' }:=I.un (Un.laid k hp (I.hok.fresh hp)) (I.hok.laid k hp new)
theorem Inv.write {x e:Addr}{o:HO}{t':Nat}(I:Inv X pins σ H s)(mu:Mut (H x))(he:e=x∨H e=some (.own x))(k:∀ b u,b≠e→s.heap.get? b=some u→h'.get? b=some u)(heo:∃ u,h'.get? e=some u)
    (new:dE X.prog X.w (upd H x o) h' x o):Inv X pins σ (upd H x o) { s with heap:=h',toks:=t' }:=I.un (Un.write mu he k heo) (I.hok.write mu he k heo new)
theorem Inv.pins_of {pins':List (Addr × Obj)}(I:Inv X pins σ H s)(h:∀ p∈pins',s.heap.get? p.1=some p.2∧H p.1=none∧p.1≠X.env.locals∧p.1∉X.fs ∧ ∀ v,p.2.data ≠ .cell v):Inv X pins' σ H s :=
  ⟨I.ok,I.os,I.bare,I.base,I.loc,I.cell,I.free,I.freeC,fun p hp=>(List.mem_append.mp hp).elim (fun z=>I.pin p (List.mem_append_left _ z)) (h p),I.hok,I.len⟩
theorem xU {N:List Str}(hN:N.Nodup){i j:Nat}{x:Str}(a:N[i]? = some x)(b:N[j]? = some x):i=j:=by
  obtain⟨h1,e1⟩:=List.getElem?_eq_some_iff.mp a
  obtain⟨h2,e2⟩:=List.getElem?_eq_some_iff.mp b
  exact (List.getElem_inj hN).mp (e1.trans e2.symm)
theorem tI {M:Model}{A:Around}{E:Value→Shared→Prop}{i:Nat}{x:Str}{v:V}{u:Value}{Q:Unit→Shared→Prop}(I:Inv X pins σ H s)(hN:X.N.Nodup)(hi:X.N[i]? = some x)(hx:Loc X.env.scope x)(r:bq v u)
    (h:∀ s',Inv X pins (σ.set i (some v)) H s'→(∃ a,Heap.SameBut a s.heap s'.heap∧(a=X.env.locals∨X.env.cells.lookup x=some a))→Q () s') (hf:X.fn x=true∨X.env.scope.names.lookup x=some .local:=by first|exact .inl rfl|exact .inr rfl|assumption):wpAny M A (storeName X.env x u) Q E s:=by
  obtain⟨m,hn,hl⟩:=id I.loc
  have hcls:(X.env.scope.kind == .class || (X.env.scope.kind == .module && X.env.locals != X.env.globals))=false:=by rw [I.ok.kind];rfl
  have hiσ:i < σ.length:=by rw [I.len];exact (List.getElem?_eq_some_iff.mp hi).1
  have cne:=I.cne
  have tracked:∀ {a:Addr} {h':Heap},(∃ o,s.heap.get? a=some o∧H a=none)→Heap.SameBut a s.heap h'→HOk X.prog X.w H h':=fun {a h'} ha hs b ob e=>by
    obtain⟨_,_,hfree⟩:=ha
    refine (I.hok b ob e).stay (fun c w' hc q=>(hs.2 c ?_).trans q) (fun _ q=>q) fun _ _ q=>q
    rintro rfl
    rcases hc with rfl|hc
    · rw [hfree] at e;cases e
    · rw [hfree] at hc;cases hc
  rcases hx with hk|hk
  · refine wpAny_storeName_local hk hn (fun h' hn' hs => ?_) hcls
    obtain⟨oL,_,_,hoL,_⟩:=id hn
    refine h _ ⟨I.ok,I.os,I.bare,⟨fun b o e n hb hx => ?_,fun b o e n hb hx => ?_,I.base.free,fun b o e hx => ?_,I.base.tups,I.base.frzs,I.base.tbls⟩,⟨_,hn',fun j y v' e1 e2 e3 => ?_⟩,fun y c e => ?_,I.free,I.freeC,fun p hp => ?_,tracked ⟨oL,hoL,I.free⟩ hs,by simpa using I.len⟩ ⟨_,hs,.inl rfl⟩
    · exact (hs.2 b (Nat.ne_of_lt (Nat.lt_of_lt_of_le (Heap.lt_size e) I.ok.above))).trans (I.base.keep b o e n hb hx)
    · obtain⟨sl,e1⟩:=I.base.slot b o e n hb hx
      exact⟨sl,(hs.2 b (Nat.ne_of_lt (Nat.lt_of_lt_of_le (Heap.lt_size e) I.ok.above))).trans e1⟩
    · obtain⟨o',e1⟩:=I.base.there b o e hx
      exact⟨o',(hs.2 b (Nat.ne_of_lt (Nat.lt_of_lt_of_le (Heap.lt_size e) I.ok.above))).trans e1⟩
    · by_cases hj:j=i
      · subst hj
        rw [hi] at e1;cases e1
        rw [List.getElem?_set_self hiσ] at e2
        cases e2
        exact⟨u,r,.inl ⟨hk,by simp⟩⟩
      · rw [List.getElem?_set_ne (Ne.symm hj)] at e2
        obtain⟨u',r',q⟩:=hl j y v' e1 e2 e3
        refine⟨u',r',?_⟩
        rcases q with ⟨k,e⟩|⟨k,c,e,z⟩
        · refine .inl ⟨k,?_⟩
          have:y≠x:=fun e=>hj (xU hN e1 (e ▸ hi))
          simp [this,e]
        · exact .inr ⟨k,c,e,z.sameBut hs (cne y c e)⟩
    · obtain⟨w',z⟩:=I.cell y c e
      exact⟨w',z.sameBut hs (cne y c e)⟩
    · obtain⟨e,n,ne,nf,d⟩:=I.pin p hp
      exact⟨(hs.2 p.1 ne).trans e,n,ne,nf,d⟩
  · have hfn:X.fn x=true:=by
      rcases hf with z|z
      · exact z
      · rw [z] at hk;cases hk
    obtain⟨c,hc⟩:=I.ok.has x (.inl hk)
    obtain⟨w',z⟩:=I.cell x c hc
    refine wpAny_storeName_cell I.ok.kind hk hc z (fun h' hc' hs => ?_)
    obtain⟨oc,hoc,hocd⟩:=id z
    refine h { s with heap:=h' } ⟨I.ok,I.os,I.bare,⟨fun b o e n hb hx => ?_,fun b o e n hb hx => ?_,I.base.free,fun b o e hx => ?_,I.base.tups,I.base.frzs,I.base.tbls⟩,⟨m,hn.sameBut hs (Ne.symm (cne x c hc)),fun j y v' e1 e2 e3 => ?_⟩,fun y c' e => ?_,I.free,I.freeC,fun p hp => ?_,tracked ⟨oc,hoc,I.freeC x c hc⟩ hs,by simpa using I.len⟩ ⟨c,hs,.inr hc⟩
    · exact (hs.2 b (Nat.ne_of_lt (Nat.lt_of_lt_of_le (Heap.lt_size e) (I.ok.cab x c hfn hc)))).trans (I.base.keep b o e n hb hx)
    · obtain⟨sl,e1⟩:=I.base.slot b o e n hb hx
      exact⟨sl,(hs.2 b (Nat.ne_of_lt (Nat.lt_of_lt_of_le (Heap.lt_size e) (I.ok.cab x c hfn hc)))).trans e1⟩
    · obtain⟨o',e1⟩:=I.base.there b o e hx
      exact⟨o',(hs.2 b (Nat.ne_of_lt (Nat.lt_of_lt_of_le (Heap.lt_size e) (I.ok.cab x c hfn hc)))).trans e1⟩
    · by_cases hj:j=i
      · subst hj
        rw [hi] at e1;cases e1
        rw [List.getElem?_set_self hiσ] at e2
        cases e2
        exact⟨u,r,.inr ⟨.inl hk,c,hc,hc'⟩⟩
      · rw [List.getElem?_set_ne (Ne.symm hj)] at e2
        obtain⟨u',r',q⟩:=hl j y v' e1 e2 e3
        refine⟨u',r',?_⟩
        rcases q with q|⟨k,c',e,z'⟩
        · exact .inl q
        · refine .inr ⟨k,c',e,z'.sameBut hs ?_⟩
          rintro rfl
          exact hj (xU hN e1 (I.ok.inj _ _ _ e hc ▸ hi))
    · by_cases hcc:c'=c
      · subst hcc;exact⟨_,hc'⟩
      · obtain⟨w2,z2⟩:=I.cell y c' e
        exact⟨w2,z2.sameBut hs hcc⟩
    · obtain⟨e,n,ne,nf,d⟩:=I.pin p hp
      refine⟨(hs.2 p.1 ?_).trans e,n,ne,nf,d⟩
      intro q
      rw [q,hoc] at e
      have q':oc=p.2:=Option.some.inj e
      exact d w' (by rw [← q'];exact hocd)
theorem xV {M:Model}{A:Around}{E:Value→Shared→Prop}{i:Nat}{x:Str}{v:V}{u:Value}{Q:Unit→Shared→Prop}(I:Inv X pins σ H s)(hN:X.N.Nodup)(hi:X.N[i]? = some x)(hx:Loc X.env.scope x)(r:bq v u)
    (h:∀ s',Inv X pins (σ.set i (some v)) H s'→Q () s') (hf:X.fn x=true∨X.env.scope.names.lookup x=some .local:=by first|exact .inl rfl|exact .inr rfl|assumption):wpAny M A (storeName X.env x u) Q E s :=
  tI I hN hi hx r (fun s' I' _=>h s' I') hf
theorem Inv.call' {s':Shared}{ch:List Addr}(I:Inv X pins σ H s)(ho:s'.os=s.os)(u:Un (frs X.stack) ch H H' s.heap s'.heap)(hok:HOk X.prog X.w H' s'.heap)(hg:AllBare s'.gens)
    (hch:∀ b∈ch,(b∈X.ex∨X.s₀.heap.objs.size≤b)∧b≠X.env.locals∧(∀ x c,X.env.cells.lookup x=some c→c≠b) ∧ ∀ p∈X.pn++pins,p.1≠b):Inv X pins σ H' s':=by
  obtain⟨h',g',d',t',o'⟩:=s'
  have e:o'=s.os:=ho
  subst e
  exact I.call (g':=g') (t':=t') (d':=d') u hok hg hch
end
abbrev XK:=Value→Option Addr→Hp→Prop
abbrev St:=List (Option V)
abbrev VK:=V→Hp→Prop
abbrev TE:=St→Hp→VK→Prop
abbrev TT:=St→Hp→(Bool→Hp→Prop)→Prop
abbrev TA:=St→Hp→(List V→Hp→Prop)→Prop
structure uJ where
  nx:St→Hp→Prop
  rt:VK
  bk:St→Hp→Prop:=fun _ _=>False
  ct:St→Hp→Prop:=fun _ _=>False
abbrev TS:=uJ→St→Hp→Prop
def EP (X:Cx) (pins:List (Addr × Obj)) (σ:St) (Q:VK) (u:Value) (s':Shared):Prop:=∃ v H',Inv X pins σ H' s'∧bq v u∧Q v H'
def TP (X:Cx) (pins:List (Addr × Obj)) (σ:St) (Q:Bool→Hp→Prop) (b:Bool) (s':Shared):Prop:=∃ H',Inv X pins σ H' s'∧Q b H'
def AP (X:Cx) (pins:List (Addr × Obj)) (σ:St) (Q:List V→Hp→Prop) (us:List Value) (s':Shared):Prop:=∃ vs H',Inv X pins σ H' s'∧aN vs us∧Q vs H'
def SP (X:Cx) (pins:List (Addr × Obj)) (D:uJ) (f:Flow) (s':Shared):Prop :=
  match f with
  | .next=>∃ σ' H',Inv X pins σ' H' s'∧D.nx σ' H'
  | .brk=>∃ σ' H',Inv X pins σ' H' s'∧D.bk σ' H'
  | .cont=>∃ σ' H',Inv X pins σ' H' s'∧D.ct σ' H'
  | .ret u=>∃ v σ' H',Inv X pins σ' H' s'∧bq v u∧D.rt v H'
def PE (X:Cx) (e:Expr) (t:TE):Prop :=
  ∀ (pins:List (Addr × Obj)) (s:Shared) (σ:St) (H:Hp) (Q:VK),Inv X pins σ H s→t σ H Q→wpAny (model X.prog X.w) X.A (eval e X.env) (EP X pins σ Q) X.xe s
def PT (X:Cx) (e:Expr) (t:TT):Prop :=
  ∀ (pins:List (Addr × Obj)) (s:Shared) (σ:St) (H:Hp) (Q:Bool→Hp→Prop),Inv X pins σ H s→t σ H Q→wpAny (model X.prog X.w) X.A (isTrue e X.env (eval e X.env)) (TP X pins σ Q) X.xe s
def PW (X:Cx) (e:Expr) (t:TT):Prop :=
  ∀ (whole:Sem Value) (pins:List (Addr × Obj)) (s:Shared) (σ:St) (H:Hp) (Q:Bool→Hp→Prop),Inv X pins σ H s→t σ H Q→wpAny (model X.prog X.w) X.A (isTrue e X.env whole) (TP X pins σ Q) X.xe s
theorem PW.pt {X:Cx}{e:Expr}{t:TT}(h:PW X e t):PT X e t:=h _
def PA (X:Cx) (es:List Expr) (t:TA):Prop :=
  ∀ (pos:Pos) (pins:List (Addr × Obj)) (s:Shared) (σ:St) (H:Hp) (Q:List V→Hp→Prop),Inv X pins σ H s→t σ H Q→wpAny (model X.prog X.w) X.A (spliced (backTo pos (starEach es X.env))) (AP X pins σ Q) X.xe s
def PS (X:Cx) (st:Stmt) (t:TS):Prop :=
  ∀ (pins:List (Addr × Obj)) (s:Shared) (σ:St) (H:Hp) (D:uJ),Inv X pins σ H s→t D σ H→wpAny (model X.prog X.w) X.A (exec st X.env) (SP X pins D) X.xe s
def PSs (X:Cx) (st:List Stmt) (t:TS):Prop :=
  ∀ (pins:List (Addr × Obj)) (s:Shared) (σ:St) (H:Hp) (D:uJ),Inv X pins σ H s→t D σ H→wpAny (model X.prog X.w) X.A (execs st X.env) (SP X pins D) X.xe s
theorem thn {α : Type}{t:Sem α}{Q Q' : α → Shared→Prop}{M:Model}{A:Around}{E:Value→Shared→Prop}{s:Shared}(h:wpAny M A t Q E s)(hQ:∀ a s,Q a s→Q' a s):wpAny M A t Q' E s:=wpAny_mono h hQ fun _ _ x=>x
end L2
namespace L2
open PySem PySem.Spec PyProof.Rows
section
variable {X:Cx}
theorem bin {a b:Expr}{ta tb:TE}(ha:PE X a ta)(hb:PE X b tb){pins:List (Addr × Obj)}{s:Shared}{σ:St}{H:Hp}{R:V→V→Hp→Prop}(I:Inv X pins σ H s)(h:ta σ H fun x H1=>tb σ H1 fun y H2=>R x y H2)
    {α : Type} {Q : α → Shared→Prop} {f:Value→Value→Sem α}
    (hf:∀ v u s2 x y H2,Inv X pins σ H2 s2→bq x v→bq y u→R x y H2→wpAny (model X.prog X.w) X.A (f v u) Q X.xe s2) :
    wpAny (model X.prog X.w) X.A (eval a X.env) (fun v s₁ => wpAny (model X.prog X.w) X.A (eval b X.env) (fun u s₂ => wpAny (model X.prog X.w) X.A (f v u) Q X.xe s₂) X.xe s₁) X.xe s:=by
  refine thn (ha pins s σ H _ I h) fun v s1 ⟨x,H1,I1,r1,q1⟩ => ?_
  refine thn (hb pins s1 σ H1 _ I1 q1) fun u s2 ⟨y,H2,I2,r2,q2⟩ => ?_
  exact hf v u s2 x y H2 I2 r1 r2 q2
def KY (i:Nat):TE:=fun σ H Q=>∃ v,σ[i]? = some (some v)∧Q v H
def tC (v:V):TE:=fun _ H Q=>Q v H
theorem ED {i:Nat} {x:Str} {pos:Pos} (hN:X.N[i]? = some x) (hv:Vis X.env.scope x) (hd:(x == ("__debug__" : Str))=false:=by decide) (hcd:(x == ("__classdict__" : Str))=false:=by decide):PE X (.Name x pos) (KY i):=by
  intro pins s σ H Q I h
  obtain⟨v,e,h⟩:=h
  obtain⟨m,hn,hl⟩:=I.loc
  obtain⟨u,r,l⟩:=hl i x v hN e hv
  have fin:EP X pins σ Q u s:=⟨v,H,I,r,h⟩
  rcases l with ⟨hk,hm⟩|⟨hk,c,hc,hcell⟩
  · exact wpAny_Name (wpAny_loadName_local I.ok.kind hk hn hm fin) hd
  · rcases hk with hk|hk
    · exact wpAny_Name (wpAny_loadName_cell I.ok.kind hk hc hcell fin) hd
    · exact wpAny_Name (wpAny_loadName_free I.ok.kind hk hc hcell fin hcd) hd
theorem EE {i j pos}:PE X (.Constant (.int i) j pos) (tC (.int i)):=fun _ _ _ H _ I h=>wpAny_Constant_int ⟨.int i,H,I.tok _,⟨_,rfl⟩,h⟩
theorem KZ {b j pos}:PE X (.Constant (.bool b) j pos) (tC (.bl b)):=fun _ _ _ H _ I h=>Constant_bool ⟨.bl b,H,I,rfl,h⟩
theorem IR {j pos}:PE X (.Constant .none j pos) (tC .non):=fun _ _ _ H _ I h=>Constant_none ⟨.non,H,I,rfl,h⟩
theorem Au {x j pos}:PE X (.Constant (.str x) j pos) (tC (.str x)):=fun _ _ _ H _ I h=>Calls.Constant_str ⟨.str x,H,I.tok _,⟨_,rfl⟩,h⟩
def Gl (X:Cx) (x:Str):Prop:=X.env.kindOf x=some .globalImplicit
theorem Cl {E:Value→Shared→Prop}{pins:List (Addr × Obj)}{s:Shared}{σ:St}{H:Hp}{x:Str}{u:Value}{pos:Pos}{Q:Value→Shared→Prop}(I:Inv X pins σ H s)(hg:Gl X x)(hm:X.mg x=some u)(h:Q u s)
    (hd:(x == ("__debug__" : Str))=false:=by decide):wpAny (model X.prog X.w) X.A (eval (.Name x pos) X.env) Q E s :=
  Calls.Name_function_global I.ok.kind hg (Calls.loadGlobal_global (by rw [I.ok.glob];exact I.mod.glob.keeps I.bk) hm h) hd
theorem oq {E:Value→Shared→Prop}{pins:List (Addr × Obj)}{s:Shared}{σ:St}{H:Hp}{x:Str}{u:Value}{pos:Pos}{Q:Value→Shared→Prop}(I:Inv X pins σ H s)(hg:Gl X x)(hm:X.mg x=none)(hv:bootBuiltins x=some u)(h:Q u s)
    (hn:x ≠ "__name__" := by decide) (hd:(x == ("__debug__" : Str))=false:=by decide):wpAny (model X.prog X.w) X.A (eval (.Name x pos) X.env) Q E s:=by
  obtain⟨mb,h1,h2⟩:=I.mod.blt
  exact Calls.Name_function_global I.ok.kind hg (Calls.loadGlobal_builtin (by rw [I.ok.glob];exact I.mod.glob.keeps I.bk) hm (by rw [I.ok.blt];exact h1.keeps I.bk) ((h2 x hn).trans hv) h) hd
theorem nT {x:Str} {v:V} {u:Value} {pos:Pos} (hg:Gl X x) (hm:X.mg x=some u) (r:bq v u) (hd:(x == ("__debug__" : Str))=false:=by decide):PE X (.Name x pos) (tC v) :=
  fun _ _ _ H _ I h=>Cl I hg hm ⟨v,H,I,r,h⟩ hd
theorem G6 {x:Str} {v:V} {u:Value} {pos:Pos} (hg:Gl X x) (hm:X.mg x=none) (hv:bootBuiltins x=some u) (r:bq v u) (hn:x ≠ "__name__" := by decide) (hd:(x == ("__debug__" : Str))=false:=by decide):PE X (.Name x pos) (tC v) :=
  fun _ _ _ H _ I h=>oq I hg hm hv ⟨v,H,I,r,h⟩ hn hd
variable {a b:Expr} {ta tb:TE} {pos:Pos}
def tB (t:TE):TT:=fun σ H Q=>t σ H fun x H1=>∃ c,x=.bl c∧Q c H1
theorem IS {e:Expr}{t:TE}(h:PE X e t)(he:∀ whole,isTrue e X.env whole=(do let v ← whole;standAt e.pos;holding [v] (truthy v)):=by intro _;rfl):PT X e (tB t):=by
  intro pins s σ H Q I hw
  refine isTrue_plain (thn (h pins s σ H _ I hw) fun v s1 ⟨x,H1,I1,r1,q1⟩ => ?_) (he _)
  obtain⟨d,rfl,q⟩:=q1
  cases r1
  exact wpAny_truthy_bool ⟨H1,I1,q⟩
variable {tA tB':TT} {rest:List Expr}
def uK (t u:TT):TT:=fun σ H Q=>t σ H fun c H1=>if c=true then u σ H1 Q else Q false H1
def tOr (t u:TT):TT:=fun σ H Q=>t σ H fun c H1=>if c=true then Q true H1 else u σ H1 Q
def bx (t:TT):TT:=fun σ H Q=>t σ H fun c H1=>Q (!c) H1
theorem G7 (ha:PT X a tA):PW X (.BoolOp .And [a] pos) tA:=by
  intro wh pins s σ H Q I h
  refine isTrue_and (thn (ha pins s σ H Q I h) fun c s1 e => ?_)
  cases c with
  | true=>exact isTrue_and_nil e
  | false=>exact e
theorem IT (ha:PT X a tA):PW X (.BoolOp .Or [a] pos) tA:=by
  intro wh pins s σ H Q I h
  refine isTrue_or (thn (ha pins s σ H Q I h) fun c s1 e => ?_)
  cases c with
  | false=>exact isTrue_or_nil e
  | true=>exact e
theorem K0 (ha:PT X a tA)(hb:PW X (.BoolOp .Or (b :: rest) pos) tB'):PW X (.BoolOp .Or (a :: b :: rest) pos) (tOr tA tB'):=by
  intro wh pins s σ H Q I h
  refine isTrue_or (thn (ha pins s σ H _ I h) fun c s1 ⟨H1,I1,q1⟩ => ?_)
  cases c with
  | true=>exact⟨H1,I1,q1⟩
  | false=>exact hb wh pins s1 σ H1 Q I1 q1
theorem IU (ha:PT X a tA):PT X (.UnaryOp .Not a pos) (bx tA):=by
  intro pins s σ H Q I h
  exact isTrue_not (ha pins s σ H (fun c H1=>Q (!c) H1) I h)
def K1 (ta tb:TE):TE:=fun σ H Q=>ta σ H fun x H1=>∃ c,x=.bl c∧if c=true then tb σ H1 Q else Q (.bl false) H1
def L7 (ta tb:TE):TE:=fun σ H Q=>ta σ H fun x H1=>∃ c,x=.bl c∧if c=true then Q (.bl true) H1 else tb σ H1 Q
def K2 (ta:TE):TE:=fun σ H Q=>ta σ H fun x H1=>∃ c,x=.bl c∧Q (.bl (!c)) H1
theorem IV {op}{t:TE}(h:PE X a t):PE X (.BoolOp op [a] pos) t:=fun pins s σ H Q I hw=>BoolOp_one (h pins s σ H Q I hw)
theorem IW (ha:PE X a ta)(hb:PE X (.BoolOp .And (b :: rest) pos) tb):PE X (.BoolOp .And (a :: b :: rest) pos) (K1 ta tb):=by
  intro pins s σ H Q I h
  refine BoolOp_and (thn (ha pins s σ H _ I h) fun v s1 ⟨x,H1,I1,r1,q1⟩ => ?_)
  obtain⟨c,rfl,q1⟩:=q1
  cases r1
  refine wpAny_truthy_bool ?_
  cases c with
  | true=>exact hb pins s1 σ H1 Q I1 q1
  | false=>exact⟨.bl false,H1,I1,rfl,q1⟩
theorem K3 (ha:PE X a ta)(hb:PE X (.BoolOp .Or (b :: rest) pos) tb):PE X (.BoolOp .Or (a :: b :: rest) pos) (L7 ta tb):=by
  intro pins s σ H Q I h
  refine BoolOp_or (thn (ha pins s σ H _ I h) fun v s1 ⟨x,H1,I1,r1,q1⟩ => ?_)
  obtain⟨c,rfl,q1⟩:=q1
  cases r1
  refine wpAny_truthy_bool ?_
  cases c with
  | false=>exact hb pins s1 σ H1 Q I1 q1
  | true=>exact⟨.bl true,H1,I1,rfl,q1⟩
theorem IX (ha:PE X a ta):PE X (.UnaryOp .Not a pos) (K2 ta):=by
  intro pins s σ H Q I h
  refine UnaryOp_ (thn (ha pins s σ H _ I h) fun v s1 ⟨x,H1,I1,r1,q1⟩ => ?_)
  obtain⟨c,rfl,q1⟩:=q1
  cases r1
  exact not_of (wpAny_truthy_bool ⟨.bl (!c),H1,I1,rfl,q1⟩)
def tIf (t:TT) (ta tb:TE):TE:=fun σ H Q=>t σ H fun c H1=>if c=true then ta σ H1 Q else tb σ H1 Q
theorem EG {c:Expr}(hc:PT X c tA)(ha:PE X a ta)(hb:PE X b tb):PE X (.IfExp c a b pos) (tIf tA ta tb):=by
  intro pins s σ H Q I h
  refine wpAny_IfExp (thn (hc pins s σ H _ I h) fun d s1 ⟨H1,I1,q1⟩ => ?_)
  cases d with
  | true=>exact ha pins s1 σ H1 Q I1 q1
  | false=>exact hb pins s1 σ H1 Q I1 q1
end
end L2
namespace L2
open PySem PySem.Spec PyProof.Rows
def SqL (K:PySem.W.Frag) (H:Hp) (a:Addr) (xs:List V):Prop :=
  Rd H a (.lst xs) ∨
    ∃ (o:Obj) (its:Array Value) (n:Nat),K.lookup a=some o∧o.cls=.type "list" ∧ o.dict=none∧o.data=.seq its n∧its.size≤sizeLine∧aN xs its.toList
def SqT (K:PySem.W.Frag) (H:Hp) (a:Addr) (xs:List V):Prop :=
  Rd H a (.tup xs) ∨
    ∃ (o:Obj) (its:Array Value) (n:Nat),K.lookup a=some o∧o.cls=.type "tuple" ∧ o.data=.seq its n∧its.size≤sizeLine∧aN xs its.toList
def L8:Value→Option V
  | .none=>some .non
  | .bool b=>some (.bl b)
  | .int i _=>some (.int i)
  | .str x _=>some (.str x)
  | .bytes b _=>some (.byt b)
  | .float b _=>some (.flt b)
  | .ref a=>some (.ref a)
  | .type n=>some (.ty n)
  | _=>none
theorem bq.abs {x:V}{u:Value}(r:bq x u):L8 u=some x:=by
  cases x with
  | non=>cases r;rfl
  | bl _=>cases r;rfl
  | int _=>obtain⟨t,rfl⟩:=r;rfl
  | str _=>obtain⟨t,rfl⟩:=r;rfl
  | byt _=>obtain⟨t,rfl⟩:=r;rfl
  | flt _=>obtain⟨t,rfl⟩:=r;rfl
  | ref _=>cases r;rfl
  | ty _=>cases r;rfl
theorem bq.inj {x y:V}{u:Value}(r:bq x u)(q:bq y u):x=y:=Option.some.inj (r.abs.symm.trans q.abs)
theorem aN.inj:∀ {xs ys:List V} {us:List Value},aN xs us→aN ys us→xs=ys
  | _,_,_,.nil,.nil=>rfl
  | _,_,_,.cons r t,.cons r' t'=>by rw [r.inj r',aN.inj t t']
section
variable {X:Cx} {pins:List (Addr × Obj)} {σ:St} {H:Hp} {s:Shared} {a:Addr} {xs ys:List V}
theorem SqL.of {K:PySem.W.Frag}(h:H a=some (.lst xs)):SqL K H a xs:=.inl (.inl h)
theorem SqT.of {K:PySem.W.Frag}(h:H a=some (.tup xs)):SqT K H a xs:=.inl (.inl h)
theorem Inv.list (I:Inv X pins σ H s)(h:SqL X.K H a xs):∃ its:List Value,aN xs its∧PlainL s.heap a its.toArray∧xs.length≤sizeLine:=by
  rcases h with h|⟨o,its,n,hk,hc,hd,hs,hz,r⟩
  · obtain⟨z,its,n,r,e⟩:=h.ok I.hok
    exact⟨its,r,⟨_,n,e,rfl,rfl,rfl⟩,z⟩
  · refine⟨its.toList,r,⟨o,n,I.kIn a o hk,hc,hd,by simpa using hs⟩,?_⟩
    have e:=r.length
    simp only [Array.length_toList] at e
    omega
theorem Inv.tuple (I:Inv X pins σ H s)(h:SqT X.K H a xs):∃ its:List Value,aN xs its∧IsTup s.heap a its.toArray∧xs.length≤sizeLine:=by
  rcases h with h|⟨o,its,n,hk,hc,hs,hz,r⟩
  · obtain⟨z,its,r,p⟩:=h.ok I.hok
    exact⟨its,r,p,z⟩
  · refine⟨its.toList,r,⟨o,I.kIn a o hk,hc,n,by simpa using hs⟩,?_⟩
    have e:=r.length
    simp only [Array.length_toList] at e
    omega
theorem Inv.list_inj (I:Inv X pins σ H s)(h:SqL X.K H a xs)(h':SqL X.K H a ys):xs=ys:=by
  obtain⟨its,r,⟨o,n,e,_,_,d⟩,_⟩:=I.list h
  obtain⟨its',r',⟨o',n',e',_,_,d'⟩,_⟩:=I.list h'
  rw [e] at e';cases e'
  rw [d] at d'
  injection d' with d1 _
  have:its=its':=by simpa using congrArg Array.toList d1
  subst this
  exact r.inj r'
theorem Inv.tuple_inj (I:Inv X pins σ H s)(h:SqT X.K H a xs)(h':SqT X.K H a ys):xs=ys:=by
  obtain⟨its,r,⟨o,e,_,n,d⟩,_⟩:=I.tuple h
  obtain⟨its',r',⟨o',e',_,n',d'⟩,_⟩:=I.tuple h'
  rw [e] at e';cases e'
  rw [d] at d'
  injection d' with d1 _
  have:its=its':=by simpa using congrArg Array.toList d1
  subst this
  exact r.inj r'
end
abbrev Cx.wish (X:Cx) (E:Value→Shared→Prop):Cx:={ X with xe:=E }
abbrev Cx.nox (X:Cx):Cx:=X.wish fun _ _=>False
theorem Cx.Ok.wish {X:Cx}(ok:X.Ok)(E:Value→Shared→Prop):(X.wish E).Ok :=
  ⟨ok.mod,ok.kind,ok.glob,ok.blt,ok.above,ok.inj,ok.has,ok.cab,ok.hd,ok.frames,ok.stk,ok.exf,ok.bs,ok.bsz,ok.noex,ok.exfs,ok.funs,ok.frf⟩
theorem Cx.Ok.unwish {X:Cx}{E:Value→Shared→Prop}(ok:(X.wish E).Ok):X.Ok :=
  ⟨ok.mod,ok.kind,ok.glob,ok.blt,ok.above,ok.inj,ok.has,ok.cab,ok.hd,ok.frames,ok.stk,ok.exf,ok.bs,ok.bsz,ok.noex,ok.exfs,ok.funs,ok.frf⟩
section
variable {X:Cx} {pins:List (Addr × Obj)} {σ:St} {H:Hp} {s:Shared} {E:Value→Shared→Prop}
theorem Inv.wish (I:Inv X pins σ H s)(E:Value→Shared→Prop):Inv (X.wish E) pins σ H s:=⟨I.ok.wish E,I.os,I.bare,I.base,I.loc,I.cell,I.free,I.freeC,I.pin,I.hok,I.len⟩
theorem Inv.unwish (I:Inv (X.wish E) pins σ H s):Inv X pins σ H s:=⟨I.ok.unwish,I.os,I.bare,I.base,I.loc,I.cell,I.free,I.freeC,I.pin,I.hok,I.len⟩
theorem SP.unwish {D:uJ}{f:Flow}{s':Shared}(h:SP (X.wish E) pins D f s'):SP X pins D f s':=by
  cases f with
  | next=>obtain⟨σ',H',I,q⟩:=h;exact⟨σ',H',I.unwish,q⟩
  | brk=>obtain⟨σ',H',I,q⟩:=h;exact⟨σ',H',I.unwish,q⟩
  | cont=>obtain⟨σ',H',I,q⟩:=h;exact⟨σ',H',I.unwish,q⟩
  | ret u=>obtain⟨v,σ',H',I,r,q⟩:=h;exact⟨v,σ',H',I.unwish,r,q⟩
theorem PSs.nox {st:List Stmt}{t:TS}(h:PSs X.nox st t):PSs X st t:=fun pins s σ H D I hw =>
  wpAny_mono (h pins s σ H D (I.wish _) hw) (fun _ _ q=>q.unwish) fun _ _ z=>False.elim z
end
section
variable {X:Cx} {st:Stmt} {rest:List Stmt} {t u:TS} {e:Expr} {te:TE} {pos:Pos}
def K4:TS:=fun D σ H=>D.nx σ H
def Ma (t u:TS):TS:=fun D σ H=>t { D with nx:=u D } σ H
theorem G8:PSs X [] K4:=fun _ _ σ H _ I h=>wpAny_execs_nil ⟨σ,H,I,h⟩
theorem EH (h1:PS X st t)(h2:PSs X rest u):PSs X (st :: rest) (Ma t u):=by
  intro pins s σ H D I h
  refine wpAny_execs_cons (thn (h1 pins s σ H { D with nx:=u D } I h) fun f s1 q => ?_)
  cases f with
  | next =>
    obtain⟨σ',H',I',q⟩:=q
    exact h2 pins s1 σ' H' D I' q
  | ret v=>exact q
  | brk=>exact q
  | cont=>exact q
theorem G9 (h1:PS X st t):PSs X [st] t:=by
  intro pins s σ H D I h
  refine wpAny_execs_cons (thn (h1 pins s σ H D I h) fun f s1 q => ?_)
  cases f with
  | next=>exact wpAny_execs_nil q
  | ret v=>exact q
  | brk=>exact q
  | cont=>exact q
def IY:TS:=fun D σ H=>D.bk σ H
theorem EI:PS X (.Break pos) IY:=fun _ _ σ H _ I h=>wpAny_Break ⟨σ,H,I,h⟩
theorem Inv.quiet {pins:List (Addr × Obj)}{σ:St}{H:Hp}{s:Shared}(I:Inv X pins σ H s):interactive X.env=false:=by simp [interactive,I.ok.kind]
def K5 (te:TE):TS:=fun D σ H=>te σ H fun _ H1=>D.nx σ H1
theorem Ha (he:PE X e te)(hs:swapsWith e none pos.line X.env=pure false:=by rfl):PS X (.Expr e pos) (K5 te):=by
  intro pins s σ H D I h
  exact wpAny_Expr_any (thn (he pins s σ H _ I h) fun v s1 ⟨x,H1,I1,r1,q1⟩=>⟨σ,H1,I1,q1⟩) I.quiet hs
def Mb (te:TE):TS:=fun D σ H=>te σ H D.rt
theorem IZ (he:PE X e te):PS X (.Return (some e) pos) (Mb te):=by
  intro pins s σ H D I h
  exact wpAny_Return_some (thn (he pins s σ H _ I h) fun v s1 ⟨x,H1,I1,r1,q1⟩=>⟨x,σ,H1,I1,r1,q1⟩)
def Mc (c:TT) (t u:TS):TS:=fun D σ H=>c σ H fun b H1=>if b=true then t D σ H1 else u D σ H1
theorem K6 {c:Expr}{a b:List Stmt}{tc:TT}(hc:PT X c tc)(ha:PSs X a t)(hb:PSs X b u):PS X (.If c a b pos) (Mc tc t u):=by
  intro pins s σ H D I h
  refine wpAny_If (thn (hc pins s σ H _ I h) fun d s1 ⟨H1,I1,q1⟩ => ?_)
  cases d with
  | true=>exact ha pins s1 σ H1 D I1 q1
  | false=>exact hb pins s1 σ H1 D I1 q1
def I0:TS:=fun _ _ _=>False
theorem EJ:PS X st I0:=fun _ _ _ _ _ _ h=>h.elim
end
abbrev TG:=V→St→Hp→(St→Hp→Prop)→Prop
abbrev TGs:=List V→St→Hp→(St→Hp→Prop)→Prop
def PG (X:Cx) (target:Expr) (t:TG):Prop :=
  ∀ (pins:List (Addr × Obj)) (s:Shared) (σ:St) (H:Hp) (v:V) (u:Value) (Q:St→Hp→Prop),Inv X pins σ H s→bq v u→t v σ H Q →
    wpAny (model X.prog X.w) X.A (assign target X.env u) (fun _ s'=>∃ σ' H',Inv X pins σ' H' s'∧Q σ' H') X.xe s
def PGs (X:Cx) (ts:List Expr) (t:TGs):Prop :=
  ∀ (pins:List (Addr × Obj)) (s:Shared) (σ:St) (H:Hp) (vs:List V) (us:List Value) (Q:St→Hp→Prop),Inv X pins σ H s→aN vs us→t vs σ H Q →
    wpAny (model X.prog X.w) X.A (assignInOrder ((assignEach ts X.env).map (·.2)) us) (fun _ s'=>∃ σ' H',Inv X pins σ' H' s'∧Q σ' H') X.xe s
abbrev Ja:=V→V→V→Hp→(Hp→Prop)→Prop
def Jb (X:Cx) (t:Ja):Prop :=
  ∀ (pins:List (Addr × Obj)) (s:Shared) (σ:St) (H:Hp) (o i v:V) (ov iv u:Value) (Q:Hp→Prop),Inv X pins σ H s→bq o ov→bq i iv→bq v u→t o i v H Q →
    wpAny (model X.prog X.w) X.A (setItem ov iv u) (fun _ s'=>∃ H',Inv X pins σ H' s'∧Q H') X.xe s
section
variable {X:Cx} {pos:Pos}
def IA (i:Nat):TG:=fun v σ H Q=>Q (σ.set i (some v)) H
theorem Hb {i:Nat}{x:Str}(hN:X.N.Nodup)(hi:X.N[i]? = some x)(hx:Loc X.env.scope x)(hf:X.fn x=true∨X.env.scope.names.lookup x=some .local:=by first|exact .inl rfl|exact .inr rfl|assumption):PG X (.Name x pos) (IA i):=by
  intro pins s σ H v u Q I r h
  exact wpAny_assign_Name (xV I hN hi hx r (fun s' I'=>⟨_,H,I',h⟩) hf)
def Md:TGs:=fun vs σ H Q=>vs=[]∧Q σ H
def K7 (t:TG) (u:TGs):TGs:=fun vs σ H Q=>∃ v r,vs=v :: r∧t v σ H fun σ' H'=>u r σ' H' Q
theorem Hc:PGs X [] Md:=by
  intro pins s σ H vs us Q I r h
  obtain⟨e,h⟩:=h
  subst e
  cases r
  exact assignInOrder_nil ⟨σ,H,I,h⟩
theorem EK {e:Expr}{es:List Expr}{t:TG}{u:TGs}(h1:PG X e t)(h2:PGs X es u)
    (hs:(assignEach (e :: es) X.env).map (·.2)=assign e X.env :: (assignEach es X.env).map (·.2):=by rfl):PGs X (e :: es) (K7 t u):=by
  intro pins s σ H vs us Q I r h
  obtain⟨v,vr,e1,h⟩:=h
  subst e1
  cases r with
  | cons r rr =>
    rw [hs]
    refine assignInOrder_cons (thn (h1 pins s σ H _ _ _ I r h) fun _ s1 ⟨σ1,H1,I1,q1⟩ => ?_)
    exact h2 pins s1 σ1 H1 _ _ Q I1 rr q1
def Me (K:PySem.W.Frag) (n:Nat) (t:TGs):TG:=fun v σ H Q=>∃ a xs,v=.ref a∧SqT K H a xs∧xs.length=n∧t xs σ H Q
theorem Jc {es:List Expr}{k:Nat}{t:TGs}{n:Nat}(hc:X.calm=true)(h:PGs X es t)
    (hn:(assignEach es X.env).length=n:=by rfl) (hst:(assignEach es X.env).findIdx? (·.1)=none:=by rfl):PG X (.Tuple es k pos) (Me X.K n t):=by
  intro pins s σ H v u Q I r hw
  obtain⟨a,xs,e1,hq,hl,hw⟩:=hw
  subst e1
  cases r
  obtain⟨its,rv,ht,hz⟩:=I.tuple hq
  refine assign_Tuple_tuple (I.ok.hd hc) ht (by simp [hn,← hl,rv.length]) hst fun h' hx => ?_
  have I1:Inv X pins σ H { s with heap:=h' }:=I.kept (t':=s.toks) fun b o e=>hx b o (Nat.ne_of_lt (Heap.lt_size e)) e
  exact h pins _ σ H xs _ Q I1 (by simpa using rv) hw
def Mf (to ti:TE) (t:Ja):TG:=fun v σ H Q=>to σ H fun o H1=>ti σ H1 fun i H2=>t o i v H2 fun H3=>Q σ H3
theorem EL {o i:Expr}{to ti:TE}{t:Ja}(ho:PE X o to)(hi:PE X i ti)(hs:Jb X t)
    (ha:∀ v,assign (.Subscript o i pos) X.env v=(do
      let ov ← holding [v] (eval o X.env)
      let iv ← holding [v,ov] (eval i X.env)
      standAt pos
      holding [v,ov,iv] (setItem ov iv v)
      release [v,ov,iv] []):=by intro _;rfl):PG X (.Subscript o i pos) (Mf to ti t):=by
  intro pins s σ H v u Q I r h
  rw [ha]
  refine wpAny_bind (wpAny_holding (thn (ho pins s σ H _ I h) fun ov s1 ⟨x,H1,I1,r1,q1⟩ => ?_))
  refine wpAny_bind (wpAny_holding (thn (hi pins s1 σ H1 _ I1 q1) fun iv s2 ⟨y,H2,I2,r2,q2⟩ => ?_))
  refine wpAny_bind (wpAny_standAt (wpAny_bind (wpAny_holding (thn (hs pins s2 σ H2 x y v ov iv u _ I2 r1 r2 r q2) fun _ s3 ⟨H3,I3,q3⟩ => ?_))))
  exact wpAny_release ⟨σ,H3,I3,q3⟩
def K8 (te:TE) (g:TG):TS:=fun D σ H=>te σ H fun x H1=>g x σ H1 D.nx
theorem Av {tg e:Expr}{te:TE}{g:TG}(he:PE X e te)(hg:PG X tg g)(hs:swapsWithSole [tg] e pos.line X.env=pure false:=by rfl)(hw:swappedStores [tg] e X.env=pure none:=by rfl)
    (h1:(assignEach [tg] X.env).map (·.2)=[assign tg X.env]:=by rfl):PS X (.Assign [tg] e pos) (K8 te g):=by
  intro pins s σ H D I h
  refine wpAny_Assign_stores (thn (he pins s σ H _ I h) fun v s1 ⟨x,H1,I1,r1,q1⟩ => ?_) hs hw
  rw [h1]
  exact thn (hg pins s1 σ H1 x v _ I1 r1 q1) fun _ s2 q=>q
theorem Jd {i:Nat}{x:Str}{e:Expr}{te:TE}{pos':Pos}(hN:X.N.Nodup)(hi:X.N[i]? = some x)(hx:Loc X.env.scope x)(he:PE X e te)(hs:swapsWith e (some (.Name x pos')) pos.line X.env=pure false:=by rfl)(hf:X.fn x=true∨X.env.scope.names.lookup x=some .local:=by first|exact .inl rfl|exact .inr rfl|assumption) :
    PS X (.Assign [.Name x pos'] e pos) (K8 te (IA i)):=by
  intro pins s σ H D I h
  refine wpAny_Assign_Name (thn (he pins s σ H _ I h) fun v s1 ⟨y,H1,I1,r1,q1⟩ => ?_) hs
  exact xV I1 hN hi hx r1 (fun s2 I2=>⟨_,H1,I2,q1⟩) hf
end
section
variable {X:Cx} {pos:Pos}
end
structure It where
  go:Nat→Hp→Prop
  yld:Nat→Hp→V→Hp→Prop
  stop:Nat→Hp→Prop
def qm (X:Cx) (pins:List (Addr × Obj)) (H:Hp) (b:Addr):Prop :=
  H b=none∧b≠X.env.locals∧b∉X.fs∧(b∈X.ex∨X.s₀.heap.objs.size≤b)∧(∀ x c,X.env.cells.lookup x=some c→c≠b) ∧ ∀ p∈X.pn++pins,p.1≠b
theorem Inv.fpOk {X:Cx}{pins:List (Addr × Obj)}{σ:St}{H H':Hp}{s:Shared}{b:Addr}(I:Inv X pins σ H s)(hb:s.heap.objs.size≤b)(hn:H' b=none):qm X pins H' b:=by
  refine⟨hn,Nat.ne_of_gt (Nat.lt_of_lt_of_le I.lt hb),I.nofs hb,.inr (Nat.le_trans I.sz hb),fun x c e z => ?_,fun p hp z => ?_⟩
  · obtain⟨v,q⟩:=I.cell x c e
    exact absurd (Nat.lt_of_lt_of_le q.lt (by rw [z];exact hb)) (Nat.lt_irrefl _)
  · exact absurd (Nat.lt_of_lt_of_le (Heap.lt_size (I.pin p hp).1) (by rw [z];exact hb)) (Nat.lt_irrefl _)
structure Da (P:Program) (w:World) (K:PySem.W.Frag) (tg:Expr) (J:It) (fp:List Addr) (it:Addr) (tn:Nat→Heap→Prop):Prop where
  mem:it∈fp
  obj:∀ i h,tn i h → ∀ b∈fp,∃ o,h.get? b=some o ∧ ∀ v,o.data ≠ .cell v
  keep:∀ i h h',tn i h→(∀ b∈fp,∀ o,h.get? b=some o→h'.get? b=some o)→tn i h'
  item:∀ (X:Cx),X.prog=P→X.w=w→X.K=K→X.calm=true → ∀ (i:Nat) (pins:List (Addr × Obj)) (s:Shared) (σ:St) (H:Hp) (E:Value→Shared→Prop),Inv X pins σ H s→(∀ b∈fp,qm X pins H b)→tn i s.heap→J.go i H →
    wpAny (model P w) X.A (pyNext (.ref it)) (fun r s1=>∃ u,r=some u ∧
      wpAny (model P w) X.A (letOwnedTupleGo tg (.ref it) u) (fun _ s2=>∃ x H',Inv X pins σ H' s2∧bq x u∧J.yld i H x H'∧tn (i + 1) s2.heap ∧ ∀ b∈fp,H' b=none) E s1) E s
  done:∀ (X:Cx),X.prog=P→X.w=w→X.K=K→X.calm=true → ∀ (i:Nat) (pins:List (Addr × Obj)) (s:Shared) (σ:St) (H:Hp) (E:Value→Shared→Prop),Inv X pins σ H s→(∀ b∈fp,qm X pins H b)→tn i s.heap→J.stop i H →
    wpAny (model P w) X.A (pyNext (.ref it)) (fun r s1=>r=none∧Inv X pins σ H s1) E s
  self:∀ (A:Around) (i:Nat) (s:Shared) (Q:Value→Shared→Prop) (E:Value→Shared→Prop),tn i s.heap→Q (.ref it) s→wpAny (model P w) A (pyIter (.ref it)) Q E s
abbrev TI:=St→Hp→(It→Hp→Prop)→Prop
def PIE (X:Cx) (pins:List (Addr × Obj)) (σ:St) (tg:Expr) (R:It→Hp→Prop) (itv:Value) (s2:Shared):Prop :=
  ∃ (it:Addr) (fp:List Addr) (tn:Nat→Heap→Prop) (J:It) (H':Hp),itv=.ref it∧Inv X pins σ H' s2∧Da X.prog X.w X.K tg J fp it tn∧tn 0 s2.heap∧(∀ b∈fp,qm X pins H' b)∧R J H'
def PI (X:Cx) (tg iter:Expr) (wi:TI):Prop :=
  ∀ (pins:List (Addr × Obj)) (s:Shared) (σ:St) (H:Hp) (R:It→Hp→Prop),Inv X pins σ H s→wi σ H R →
    wpAny (model X.prog X.w) X.A (eval iter X.env) (fun v s1=>wpAny (model X.prog X.w) X.A (pyIter v) (PIE X pins σ tg R) X.xe s1) X.xe s
theorem Cm {M:Model}{A:Around}{E:Value→Shared→Prop}{s:Shared}{tg:Expr}{it:Addr}{u:Value}{o:Obj}{n:String}{vs:Array Value}{Q:Unit→Shared→Prop}(ho:s.heap.get? it=some o)(hc:o.cls=.type n)(hd:o.data=.fields vs)
    (hn : ["enumerate", "zip", "dict_itemiterator", "dict_reverseitemiterator", "odict_iterator", "itertools.zip_longest", "itertools.pairwise"].contains n=false) (hQ:Q () s):wpAny M A (letOwnedTupleGo tg (.ref it) u) Q E s:=by
  unfold letOwnedTupleGo
  cases tg<;>first
    | exact wpAny_pure hQ
    | (cases u<;>first
        | exact wpAny_pure hQ
        | (refine wpAny_bind (wpAny_load ho ?_)
           rw [hc,hd]
           show wpAny M A (if (["enumerate", "zip", "dict_itemiterator", "dict_reverseitemiterator", "odict_iterator", "itertools.zip_longest", "itertools.pairwise"].contains n && vs[0]? == some (rawInt _))=true then _ else _) Q E s
           rw [if_neg (by intro h;rw [hn,Bool.false_and] at h;cases h)]
           exact wpAny_pure hQ))
def Itl (K:PySem.W.Frag) (a:Addr):It :=
  ⟨fun i H=>∃ xs x,SqL K H a xs∧xs[i]? = some x,fun i H x H'=>H'=H ∧ ∀ xs,SqL K H a xs→xs[i]? = some x,fun i H=>∃ xs,SqL K H a xs∧xs.length≤i⟩
def Itt (K:PySem.W.Frag) (a:Addr):It :=
  ⟨fun i H=>∃ xs x,SqT K H a xs∧xs[i]? = some x,fun i H x H'=>H'=H ∧ ∀ xs,SqT K H a xs→xs[i]? = some x,fun i H=>∃ xs,SqT K H a xs∧xs.length≤i⟩
def Itr (lo:Int) (n:Nat):It:=⟨fun i _=>i < n,fun i H x H'=>H'=H∧x=.int (lo + i),fun i _=>n≤i⟩
theorem Db {P:Program}{w:World}{K:PySem.W.Frag}{tg:Expr}(a it:Addr):Da P w K tg (Itl K a) [it] it (fun i h=>h.IsListIter it a i) where
  mem:=by simp
  obj:=fun i h st b hb=>by
    have e:b=it:=by simpa using hb
    subst e
    obtain⟨o,e,c,d⟩:=st
    exact⟨o,e,fun v z=>by rw [d] at z;cases z⟩
  keep:=fun i h h' st k=>st.at fun o e=>k it (by simp) o e
  item:=by
    intro X hP hw hK hc i pins s σ H E I hf st hg
    subst hP hw hK
    obtain⟨xs,x,hq,hx⟩:=hg
    obtain⟨its,rv,p,hz⟩:=I.list hq
    obtain⟨u,hu,ru⟩:=rv.get hx
    obtain⟨f0,f1,f2,f3,f4,f5⟩:=hf it (by simp)
    refine wpAny_pyNext_list_item st p.isList (x:=u) (by simpa using hu) fun h' st' sb => ?_
    have I1:Inv X pins σ H { s with heap:=h' }:=I.turned (t':=s.toks) (fun b o hb e=>(sb.2 b hb).trans e) f0 f1 f3 f4 f5
    obtain⟨o,e,c,d⟩:=id st'
    exact⟨u,rfl,Cm (s:={ s with heap:=h' }) e c d (by decide) ⟨x,H,I1,ru,⟨rfl,fun ys hy=>by rw [I.list_inj hy hq];exact hx⟩,st',fun b hb=>(hf b hb).1⟩⟩
  done:=by
    intro X hP hw hK hc i pins s σ H E I hf st hg
    subst hP hw hK
    obtain⟨xs,hq,hx⟩:=hg
    obtain⟨its,rv,p,hz⟩:=I.list hq
    obtain⟨f0,f1,f2,f3,f4,f5⟩:=hf it (by simp)
    have hl:=rv.length
    exact wpAny_pyNext_list_end (I.ok.hd hc) st p.isList (by simp;omega) fun h' eb=>⟨rfl,I.turned (t':=s.toks) (fun b o hb e=>eb b o hb e) f0 f1 f3 f4 f5⟩
  self:=fun _ _ _ _ _ st h=>wpAny_pyIter_listiter st h
theorem Aw {P:Program}{w:World}{K:PySem.W.Frag}{tg:Expr}(a it:Addr):Da P w K tg (Itt K a) [it] it (fun i h=>h.IsTupleIter it a i) where
  mem:=by simp
  obj:=fun i h st b hb=>by
    have e:b=it:=by simpa using hb
    subst e
    obtain⟨o,e,c,d⟩:=st
    exact⟨o,e,fun v z=>by rw [d] at z;cases z⟩
  keep:=fun i h h' st k=>st.at fun o e=>k it (by simp) o e
  item:=by
    intro X hP hw hK hc i pins s σ H E I hf st hg
    subst hP hw hK
    obtain⟨xs,x,hq,hx⟩:=hg
    obtain⟨its,rv,p,hz⟩:=I.tuple hq
    obtain⟨u,hu,ru⟩:=rv.get hx
    obtain⟨f0,f1,f2,f3,f4,f5⟩:=hf it (by simp)
    refine wpAny_pyNext_tuple_item st (show s.heap.IsTuple a its.toArray from p) (x:=u) (by simpa using hu) fun h' st' sb => ?_
    have I1:Inv X pins σ H { s with heap:=h' }:=I.turned (t':=s.toks) (fun b o hb e=>(sb.2 b hb).trans e) f0 f1 f3 f4 f5
    obtain⟨o,e,c,d⟩:=id st'
    exact⟨u,rfl,Cm (s:={ s with heap:=h' }) e c d (by decide) ⟨x,H,I1,ru,⟨rfl,fun ys hy=>by rw [I.tuple_inj hy hq];exact hx⟩,st',fun b hb=>(hf b hb).1⟩⟩
  done:=by
    intro X hP hw hK hc i pins s σ H E I hf st hg
    subst hP hw hK
    obtain⟨xs,hq,hx⟩:=hg
    obtain⟨its,rv,p,hz⟩:=I.tuple hq
    obtain⟨f0,f1,f2,f3,f4,f5⟩:=hf it (by simp)
    have hl:=rv.length
    exact wpAny_pyNext_tuple_end (I.ok.hd hc) st (show s.heap.IsTuple a its.toArray from p) (by simp;omega) fun h' eb=>⟨rfl,I.turned (t':=s.toks) (fun b o hb e=>eb b o hb e) f0 f1 f3 f4 f5⟩
  self:=fun _ _ _ _ _ st h=>wpAny_pyIter_tupleiter st h
theorem Ax {P:Program}{w:World}{K:PySem.W.Frag}{tg:Expr}(it:Addr)(lo:Int)(n:Nat):Da P w K tg (Itr lo n) [it] it (fun i h=>IsRangeIter h it (lo + (i:Nat) * 1) ((n:Int) - (i:Nat)) 1) where
  mem:=by simp
  obj:=fun i h st b hb=>by
    have e:b=it:=by simpa using hb
    subst e
    exact⟨_,st,fun v z=>by
      have z':Data.fields _=Data.cell v:=z
      cases z'⟩
  keep:=fun i h h' st k=>k it (by simp) _ st
  item:=by
    intro X hP hw hK hc i pins s σ H E I hf st hg
    subst hP hw hK
    obtain⟨f0,f1,f2,f3,f4,f5⟩:=hf it (by simp)
    have W:=Walks.range (prog:=X.prog) (w:=X.w) (I.ok.hd hc) it lo 1 n
    refine W.item i s _ _ hg st fun v h' tk hv st' kk => ?_
    obtain⟨t,rfl⟩:=hv
    have I1:Inv X pins σ H { s with heap:=h',toks:=tk }:=I.turned (fun b o hb e=>kk b o (by simpa using hb) e) f0 f1 f3 f4 f5
    refine⟨_,rfl,Cm (s:={ s with heap:=h',toks:=tk }) (n := "range_iterator") st' rfl rfl (by decide) ⟨.int (lo + i),H,I1,⟨t,?_⟩,⟨rfl,rfl⟩,st',fun b hb=>(hf b hb).1⟩⟩
    rw [Int.mul_one]
  done:=by
    intro X hP hw hK hc i pins s σ H E I hf st hg
    subst hP hw hK
    obtain⟨f0,f1,f2,f3,f4,f5⟩:=hf it (by simp)
    exact wpAny_pyNext_range_end (I.ok.hd hc) st (by have:n≤i:=hg;omega) fun h' eb=>⟨rfl,I.turned (t':=s.toks) (fun b o hb e=>eb b o hb e) f0 f1 f3 f4 f5⟩
  self:=fun _ _ _ _ _ st h=>wpAny_pyIter_rangeiter st h
end L2
namespace L2
open PySem PySem.Spec PyProof.Rows
section
variable {X:Cx} {tg:Expr}
theorem xW {pins:List (Addr × Obj)}{σ:St}{H:Hp}{s:Shared}{R:It→Hp→Prop}{E:Value→Shared→Prop}{lo hi:Int}{t u v:Tok}{tk:Nat}(I:Inv X pins σ H s)(h1 : -(2 ^ 62)≤lo)(h2:lo < 2 ^ 62)(h3 : -(2 ^ 62)≤hi)(h4:hi < 2 ^ 62)
    (q:R (Itr lo (hi - lo).toNat) H):wpAny (model X.prog X.w) X.A (pyIter (.ref s.heap.objs.size)) (PIE X pins σ tg R) E { s with heap:=s.heap.push { cls:=.type "range",data:=.fields #[.int lo t,.int hi u,.int 1 v] },toks:=tk }:=by
  refine wpAny_pyIter_range (IsRange.new ..) (small_one h1 h2 h3 h4) ?_
  have I1:Inv X pins σ H { s with heap:=s.heap.push { cls:=.type "range",data:=.fields #[.int lo t,.int hi u,.int 1 v] },toks:=tk }:=I.kept fun b o e=>Heap.get?_push_of_some _ e
  refine⟨(s.heap.push { cls:=.type "range",data:=.fields #[.int lo t,.int hi u,.int 1 v] }).objs.size,[(s.heap.push { cls:=.type "range",data:=.fields #[.int lo t,.int hi u,.int 1 v] }).objs.size],_,_,H,rfl,
    I1.kept (t':=tk) fun b o e=>Heap.get?_push_of_some _ e,Ax _ lo (hi - lo).toNat,?_,fun b hb => ?_,q⟩
  · have e1:lo + ((0:Nat):Int) * 1=lo:=by simp
    have e2:(((hi - lo).toNat:Nat):Int) - ((0:Nat):Int)=Builtin.Range.rangeSize lo hi 1:=by rw [rangeSize_one];split<;>omega
    show IsRangeIter _ _ (lo + ((0:Nat):Int) * 1) ((((hi - lo).toNat:Nat):Int) - ((0:Nat):Int)) 1
    rw [e1,e2]
    exact Heap.get?_push_size _ rfl
  · have e:b=(s.heap.push { cls:=.type "range",data:=.fields #[.int lo t,.int hi u,.int 1 v] }).objs.size:=by simpa using hb
    subst e
    exact I1.fpOk (Nat.le_refl _) (I1.hok.fresh (Nat.le_refl _))
def K9 (ta:TA):TI:=fun σ H R=>ta σ H fun vs H1=>∃ j:Int,vs=[.int j] ∧ -(2 ^ 62)≤j∧j < 2 ^ 62∧R (Itr 0 j.toNat) H1
def La (ta:TA):TI:=fun σ H R=>ta σ H fun vs H1=>∃ i j:Int,vs=[.int i,.int j]∧(-(2 ^ 62)≤i∧i < 2 ^ 62 ∧ -(2 ^ 62)≤j∧j < 2 ^ 62)∧R (Itr i (j - i).toNat) H1
theorem Dc {a:Expr} {ta:TA} {p pos:Pos} (hg:Gl X "range") (hm:X.mg "range" = none) (ha:PA X [a] ta) (hs:starEach [a] X.env=[(false,eval a X.env)]:=by rfl):PI X tg (.Call (.Name "range" p) [a] [] pos) (K9 ta):=by
  intro pins s σ H R I h
  refine Call_ (oq I hg hm boot_range (PyProof.Rows.callWith_type1 (thn (ha pos pins s σ H _ I h) fun us s1 ⟨vs,H1,I1,r1,q1⟩ => ?_) hs rfl))
  obtain⟨j,e,q1,q2,q⟩:=q1
  subst e
  cases r1 with
  | cons r rr =>
    cases rr
    obtain⟨t,rfl⟩:=r
    exact call_range_1 (xW I1 (by omega) (by omega) q1 q2 (by simpa using q))
theorem Dd {a b:Expr} {ta:TA} {p pos:Pos} (hg:Gl X "range") (hm:X.mg "range" = none) (ha:PA X [a,b] ta) (hs:starEach [a,b] X.env=[(false,eval a X.env),(false,eval b X.env)]:=by rfl) (hs2:starEach [b] X.env=[(false,eval b X.env)]:=by rfl) :
    PI X tg (.Call (.Name "range" p) [a,b] [] pos) (La ta):=by
  intro pins s σ H R I h
  refine Call_ (oq I hg hm boot_range (PyProof.Rows.callWith_type1 (thn (ha pos pins s σ H _ I h) fun us s1 ⟨vs,H1,I1,r1,q1⟩ => ?_) (by rw [hs,hs2]) (by rw [hs2];rfl)))
  obtain⟨i,j,e,⟨q1,q2,q3,q4⟩,q⟩:=q1
  subst e
  cases r1 with
  | cons r rr =>
    cases rr with
    | cons r' rr =>
      cases rr
      obtain⟨t,rfl⟩:=r
      obtain⟨t',rfl⟩:=r'
      exact call_range_2 (xW I1 q1 q2 q3 q4 q)
def Mg (wi:TI) (g:TG) (tb:TS):TS:=fun D σ H=>wi σ H fun J H1=>∃ W:Nat→Nat→St→Hp→Prop,(∃ m,W 0 m σ H1) ∧ ∀ i m σ H,W i m σ H →
  (J.stop i H∧D.nx σ H)∨(J.go i H ∧ ∃ N:St→Hp→Prop,(∀ σ' H',N σ' H' → ∃ m',m' < m∧W (i + 1) m' σ' H') ∧ ∀ x H',J.yld i H x H'→g x σ H' fun σ2 H2=>tb { D with nx:=N,ct:=N,bk:=D.nx } σ2 H2)
def ot (fp:List Addr) (h:Heap):List (Addr × Obj):=fp.filterMap fun b=>(h.get? b).map fun o=>(b,o)
theorem hZ {fp:List Addr}{h:Heap}{b:Addr}{o:Obj}(hb:b∈fp)(e:h.get? b=some o):(b,o)∈ot fp h:=List.mem_filterMap.mpr ⟨b,hb,by rw [e];rfl⟩
theorem De {fp:List Addr}{h:Heap}{p:Addr × Obj}(hp:p∈ot fp h):p.1∈fp∧h.get? p.1=some p.2:=by
  obtain⟨b,hb,e⟩:=List.mem_filterMap.mp hp
  cases q:h.get? b with
  | none=>rw [q] at e;cases e
  | some o =>
    rw [q] at e
    have e':(b,o)=p:=Option.some.inj e
    subst e'
    exact⟨hb,q⟩
theorem Inv.pinned {pins:List (Addr × Obj)}{σ:St}{H:Hp}{s:Shared}{fp:List Addr}(I:Inv X pins σ H s)(hf:∀ b∈fp,qm X pins H b)(ho:∀ b∈fp,∃ o,s.heap.get? b=some o ∧ ∀ v,o.data ≠ .cell v):Inv X (pins++ot fp s.heap) σ H s :=
  I.pins_of fun p hp=>(List.mem_append.mp hp).elim (fun z=>I.pin p (List.mem_append_right _ z)) fun z=>by
    obtain⟨hb,e⟩:=De z
    obtain⟨f0,f1,f2,_⟩:=hf p.1 hb
    obtain⟨o,e',d⟩:=ho p.1 hb
    rw [e] at e';cases e'
    exact⟨e,f0,f1,f2,d⟩
theorem Inv.unpinned {pins pl:List (Addr × Obj)}{σ:St}{H:Hp}{s:Shared}(I:Inv X (pins++pl) σ H s):Inv X pins σ H s:=I.pins_of fun p hp=>I.pin p (List.mem_append_right _ (List.mem_append_left _ hp))
theorem Je {iter:Expr}{body:List Stmt}{wi:TI}{g:TG}{tb:TS}{pos:Pos}(hp:PassesOwn (model X.prog X.w) X.A X.env X.xe)(hc:X.calm=true)(hi:PI X tg iter wi)(hg:PG X tg g)(hb:PSs X body tb)
    (hs:∀ x,foldedSetIterable iter X.env x=pure x:=by intro _;rfl):PS X (.For tg iter body [] pos) (Mg wi g tb):=by
  intro pins s σ H D I h
  refine wpAny_For (thn (hi pins s σ H _ I h) fun v s1 h1=>thn h1 fun itv s2 h2 => ?_) hs
  obtain⟨it,fp,tn,J,H2,e,I2,T,st2,f2,W,⟨m0,w0⟩,turn⟩:=h2
  subst e
  have stat:∀ {H':Hp},(∀ b∈fp,H' b=none) → ∀ b∈fp,qm X pins H' b:=fun hn b hb=>⟨hn b hb,(f2 b hb).2⟩
  refine codeAny_forLoop_any (fun n s'=>∃ i σ' H',Inv X pins σ' H' s'∧tn i s'.heap∧(∀ b∈fp,H' b=none)∧W i n σ' H') ?_ m0 ⟨0,σ,H2,I2,st2,fun b hb=>(f2 b hb).1,w0⟩
  rintro n s3 ⟨i,σ3,H3,I3,st3,fr3,w3⟩
  rcases turn i n σ3 H3 w3 with ⟨stop,qn⟩|⟨go,N,hN,step⟩
  · refine wpAny_passesOwn hp (thn (T.done X rfl rfl rfl hc i pins s3 σ3 H3 X.xe I3 (stat fr3) st3 stop) fun r s4 ⟨hr,I4⟩ => ?_)
    subst hr
    exact wpAny_execs_nil ⟨σ3,H3,I4,qn⟩
  · refine wpAny_passesOwn hp (thn (T.item X rfl rfl rfl hc i pins s3 σ3 H3 X.xe I3 (stat fr3) st3 go) fun r s4 ⟨u,hr,h4⟩ => ?_)
    subst hr
    refine wpAny_passesOwn hp (thn h4 fun _ s5 ⟨x,H5,I5,r5,y5,st5,fr5⟩ => ?_)
    have I5':=I5.pinned (stat fr5) (T.obj _ _ st5)
    refine wpAny_passesOwn hp (thn (hg _ s5 σ3 H5 x u _ I5' r5 (step x H5 y5)) fun _ s6 ⟨σ6,H6,I6,q6⟩ => ?_)
    refine wpAny_passesOwn hp (thn (hb _ s6 σ6 H6 _ I6 q6) fun f s7 q7 => ?_)
    have again:∀ {σ7:St} {H7:Hp},Inv X (pins++ot fp s5.heap) σ7 H7 s7→N σ7 H7 → ∃ m,m < n ∧ ∃ i σ' H',Inv X pins σ' H' s7∧tn i s7.heap∧(∀ b∈fp,H' b=none)∧W i m σ' H':=fun {σ7 H7} I7 n7=>by
      obtain⟨m',hm,w7⟩:=hN σ7 H7 n7
      refine⟨m',hm,i + 1,σ7,H7,I7.unpinned,T.keep _ _ _ st5 fun b hb o e=>(I7.pin (b,o) (List.mem_append_right _ (List.mem_append_right _ (hZ hb e)))).1,fun b hb => ?_,w7⟩
      obtain⟨o,e,d⟩:=T.obj _ _ st5 b hb
      exact (I7.pin (b,o) (List.mem_append_right _ (List.mem_append_right _ (hZ hb e)))).2.1
    cases f with
    | next=>obtain⟨σ7,H7,I7,n7⟩:=q7;exact again I7 n7
    | cont=>obtain⟨σ7,H7,I7,n7⟩:=q7;exact again I7 n7
    | brk=>obtain⟨σ7,H7,I7,q7⟩:=q7;exact⟨σ7,H7,I7.unpinned,q7⟩
    | ret v=>obtain⟨x7,σ7,H7,I7,r7,q7⟩:=q7;exact⟨x7,σ7,H7,I7.unpinned,r7,q7⟩
end
end L2
namespace L2
open PySem PySem.Spec PyProof.Rows
abbrev R2:=V→V→Hp→VK→Prop
def OpR (X:Cx) (f:Value→Value→Sem Value) (r:R2):Prop :=
  ∀ (pins:List (Addr × Obj)) (s:Shared) (σ:St) (H:Hp) (x y:V) (v u:Value) (Q:VK),Inv X pins σ H s→bq x v→bq y u→r x y H Q →
    wpAny (model X.prog X.w) X.A (f v u) (EP X pins σ Q) X.xe s
def UnR (X:Cx) (f:Value→Sem Value) (r:V→Hp→VK→Prop):Prop :=
  ∀ (pins:List (Addr × Obj)) (s:Shared) (σ:St) (H:Hp) (x:V) (v:Value) (Q:VK),Inv X pins σ H s→bq x v→r x H Q →
    wpAny (model X.prog X.w) X.A (f v) (EP X pins σ Q) X.xe s
def fF (X:Cx) (f:Value) (r:List V→Hp→VK→Prop):Prop :=
  ∀ (pins:List (Addr × Obj)) (s:Shared) (σ:St) (H:Hp) (xs:List V) (us:List Value) (Q:VK),Inv X pins σ H s→aN xs us→r xs H Q →
    wpAny (model X.prog X.w) X.A (call f us) (EP X pins σ Q) X.xe s
def tOp (r:R2) (ta tb:TE):TE:=fun σ H Q=>ta σ H fun x H1=>tb σ H1 fun y H2=>r x y H2 Q
def tUn (r:V→Hp→VK→Prop) (ta:TE):TE:=fun σ H Q=>ta σ H fun x H1=>r x H1 Q
def rI (C:Int→Int→Prop) (g:Int→Int→V):R2:=fun x y H Q=>∃ i j,x=.int i∧y=.int j∧C i j∧Q (g i j) H
def rI0 (g:Int→Int→V):R2:=fun x y H Q=>∃ i j,x=.int i∧y=.int j∧Q (g i j) H
def rU (g:Int→V):V→Hp→VK→Prop:=fun x H Q=>∃ i,x=.int i∧Q (g i) H
section
variable {X:Cx} {a b c:Expr} {ta tb tc:TE} {pos:Pos}
theorem xX (ha:PE X a ta)(hb:PE X b tb){pins:List (Addr × Obj)}{s:Shared}{σ:St}{H:Hp}{R:V→V→Hp→Prop}(I:Inv X pins σ H s)
    (h:ta σ H fun x H1=>tb σ H1 fun y H2=>R x y H2) {Q:Value→Shared→Prop} {f:Value→Value→Sem Value}
    (hf:∀ v u s2 x y H2,Inv X pins σ H2 s2→bq x v→bq y u→R x y H2→wpAny (model X.prog X.w) X.A (f v u) Q X.xe s2) :
    wpAny (model X.prog X.w) X.A (eval a X.env) (fun v s₁ => wpAny (model X.prog X.w) X.A (eval b X.env) (fun u s₂ => wpAny (model X.prog X.w) X.A (f v u) Q X.xe s₂) X.xe s₁) X.xe s:=by
  refine thn (ha pins s σ H _ I h) fun v s1 ⟨x,H1,I1,r1,q1⟩ => ?_
  refine thn (hb pins s1 σ H1 _ I1 q1) fun u s2 ⟨y,H2,I2,r2,q2⟩ => ?_
  exact hf v u s2 x y H2 I2 r1 r2 q2
theorem EM {op:Operator}{r:R2}(ho:OpR X (binaryOp op) r)(ha:PE X a ta)(hb:PE X b tb):PE X (.BinOp a op b pos) (tOp r ta tb):=by
  intro pins s σ H Q I h
  exact wpAny_BinOp (xX ha hb I h fun v u s2 x y H2 I2 rx ry q=>ho pins s2 σ H2 x y v u Q I2 rx ry q)
theorem Lb {op:UnaryOp}{r:V→Hp→VK→Prop}(ho:UnR X (unaryOp op) r)(ha:PE X a ta):PE X (.UnaryOp op a pos) (tUn r ta):=by
  intro pins s σ H Q I h
  exact UnaryOp_ (thn (ha pins s σ H _ I h) fun v s1 ⟨x,H1,I1,r1,q1⟩=>ho pins s1 σ H1 x v Q I1 r1 q1)
theorem opI {f:Value→Value→Sem Value}{C:Int→Int→Prop}{g:Int→Int→Int}
    (rule:∀ (i j:Int) (t u:Tok) (s:Shared) (Q:Value→Shared→Prop) (E:Value→Shared→Prop),C i j→Q (.int (g i j) s.toks) { s with toks:=s.toks + 1 } → wpAny (model X.prog X.w) X.A (f (.int i t) (.int j u)) Q E s) :
    OpR X f (rI C fun i j=>.int (g i j)):=by
  intro pins s σ H x y v u Q I rx ry h
  obtain⟨i,j,rfl,rfl,hc,q⟩:=h
  obtain⟨t,rfl⟩:=rx
  obtain⟨t',rfl⟩:=ry
  exact rule i j t t' s _ _ hc ⟨.int (g i j),H,I.tok _,⟨_,rfl⟩,q⟩
theorem Lc {f:Value→Value→Sem Value}{g:Int→Int→Int}
    (rule:∀ (i j:Int) (t u:Tok) (s:Shared) (Q:Value→Shared→Prop) (E:Value→Shared→Prop),Q (.int (g i j) s.toks) { s with toks:=s.toks + 1 } → wpAny (model X.prog X.w) X.A (f (.int i t) (.int j u)) Q E s) :
    OpR X f (rI0 fun i j=>.int (g i j)):=by
  intro pins s σ H x y v u Q I rx ry h
  obtain⟨i,j,rfl,rfl,q⟩:=h
  obtain⟨t,rfl⟩:=rx
  obtain⟨t',rfl⟩:=ry
  exact rule i j t t' s _ _ ⟨.int (g i j),H,I.tok _,⟨_,rfl⟩,q⟩
theorem Jf {f:Value→Value→Sem Value}{g:Int→Int→Bool}
    (rule:∀ (i j:Int) (t u:Tok) (s:Shared) (Q:Value→Shared→Prop) (E:Value→Shared→Prop),Q (.bool (g i j)) s→wpAny (model X.prog X.w) X.A (f (.int i t) (.int j u)) Q E s) :
    OpR X f (rI0 fun i j=>.bl (g i j)):=by
  intro pins s σ H x y v u Q I rx ry h
  obtain⟨i,j,rfl,rfl,q⟩:=h
  obtain⟨t,rfl⟩:=rx
  obtain⟨t',rfl⟩:=ry
  exact rule i j t t' s _ _ ⟨.bl (g i j),H,I,rfl,q⟩
def Ld (i j:Int):Prop:=0≤j∧j≤1000000∧i.natAbs < 2 ^ 64
def He (i j:Int):Prop:=(-(2 ^ 64) < i∧i < 2 ^ 64)∨(-(2 ^ 64) < j∧j < 2 ^ 64)
theorem He.ok {i j:Int}(h:He i j):IntMulOk i j:=by
  rcases h with ⟨h1,h2⟩|⟨h1,h2⟩
  · exact .of_left (intBits_le_64 h1 h2)
  · exact .of_right (intBits_le_64 h1 h2)
theorem Jg:OpR X (binaryOp .Add) (rI0 fun i j=>.int (i + j)):=Lc fun _ _ _ _ _ _ _ q=>add_int q
theorem uL:OpR X (binaryOp .Sub) (rI0 fun i j=>.int (i - j)):=Lc fun _ _ _ _ _ _ _ q=>sub_int q
theorem ia:OpR X (binaryOp .Mult) (rI He fun i j=>.int (i * j)):=opI fun _ _ _ _ _ _ _ hc q=>mul_int q hc.ok
theorem fw:OpR X (binaryOp .Mod) (rI (fun _ j=>0 < j) fun i j=>.int (i % j)):=opI fun i j _ _ _ _ _ hc q=>by
  have h1:(0:Int) < j:=hc
  exact mod_int' (by omega) (by rw [Int.fmod_eq_emod_of_nonneg i (by omega)];exact q)
theorem Jh:OpR X (binaryOp .Pow) (rI Ld fun i j=>.int (i ^ j.toNat)):=opI fun _ _ _ _ _ _ _ hc q=>pow_int_small hc.1 hc.2.1 hc.2.2 q
theorem unI {f:Value→Sem Value}{g:Int→Int}
    (rule:∀ (i:Int) (t:Tok) (s:Shared) (Q:Value→Shared→Prop) (E:Value→Shared→Prop),Q (.int (g i) s.toks) { s with toks:=s.toks + 1 } → wpAny (model X.prog X.w) X.A (f (.int i t)) Q E s) :
    UnR X f (rU fun i=>.int (g i)):=by
  intro pins s σ H x v Q I rx h
  obtain⟨i,rfl,q⟩:=h
  obtain⟨t,rfl⟩:=rx
  exact rule i t s _ _ ⟨.int (g i),H,I.tok _,⟨_,rfl⟩,q⟩
theorem Ji:UnR X (unaryOp .USub) (rU fun i=>.int (-i)):=unI fun _ _ _ _ _ q=>neg_int q
end
section
variable {X:Cx} {a b c:Expr} {ta tb tc:TE} {pos:Pos}
theorem Ay {pins:List (Addr × Obj)}{σ:St}{H:Hp}{s:Shared}{Q:VK}{k k':Bool}(I:Inv X pins σ H s)(q:Q (.bl k) H)(e:k=k'):EP X pins σ Q (.bool k') s:=by
  subst e
  exact⟨.bl k,H,I,rfl,q⟩
theorem EN:OpR X (compareOp .Lt) (rI0 fun i j=>.bl (decide (i < j))):=Jf fun _ _ _ _ _ _ _ q=>lt_int q
theorem IB:OpR X (compareOp .LtE) (rI0 fun i j=>.bl (decide (i≤j))):=Jf fun _ _ _ _ _ _ _ q=>le_int q
theorem EO:OpR X (compareOp .Gt) (rI0 fun i j=>.bl (decide (j < i))):=Jf fun _ _ _ _ _ _ _ q=>gt_int q
theorem Df:OpR X (compareOp .In) (fun x y H Q=>∃ i j,x=.str i∧y=.str j∧Q (.bl (!(Builtin.Str.occurrences j i 0 j.length 1).isEmpty)) H):=by
  intro pins s σ H x y v u Q I rx ry h
  obtain⟨i,j,rfl,rfl,q⟩:=h
  obtain⟨t,rfl⟩:=rx
  obtain⟨t',rfl⟩:=ry
  exact in_str (Ay I q rfl)
theorem ou:OpR X (compareOp .Is) (fun x y H Q=>y=.non∧Q (.bl (decide (x=.non))) H):=by
  intro pins s σ H x y v u Q I rx ry h
  obtain⟨rfl,q⟩:=h
  cases ry
  refine is_none_gen (Ay I q ?_)
  cases x<;>first
    | (cases rx;rfl)
    | (obtain⟨t,rfl⟩:=rx;rfl)
theorem Hf:OpR X (compareOp .IsNot) (fun x y H Q=>y=.non∧Q (.bl (!decide (x=.non))) H):=by
  intro pins s σ H x y v u Q I rx ry h
  obtain⟨rfl,q⟩:=h
  cases ry
  refine isnot_none_gen (Ay I q ?_)
  cases x<;>first
    | (cases rx;rfl)
    | (obtain⟨t,rfl⟩:=rx;rfl)
theorem OpR.or {f:Value→Value→Sem Value}{r r':R2}(h:OpR X f r)(h':OpR X f r'):OpR X f (fun x y H Q=>r x y H Q∨r' x y H Q):=by
  intro pins s σ H x y v u Q I rx ry q
  rcases q with q|q
  · exact h pins s σ H x y v u Q I rx ry q
  · exact h' pins s σ H x y v u Q I rx ry q
theorem a5 (b:Expr){op:CmpOp}(h:op ≠ .In:=by decide)(h2:op ≠ .NotIn:=by decide):behindInMarks op b=false:=by
  have e1:(op == CmpOp.In)=false:=by cases op<;>first|rfl|exact absurd rfl h
  have e2:(op == CmpOp.NotIn)=false:=by cases op<;>first|rfl|exact absurd rfl h2
  cases b<;>simp [behindInMarks,e1,e2]
theorem Hg {op:CmpOp}{r:R2}(ho:OpR X (compareOp op) r)(ha:PE X a ta)(hb:PE X b tb)(hm:behindInMarks op b=false):PE X (.Compare a [op] [b] pos) (tOp r ta tb):=by
  intro pins s σ H Q I h
  exact wpAny_Compare1 (xX ha hb I h fun v u s2 x y H2 I2 rx ry q=>ho pins s2 σ H2 x y v u Q I2 rx ry q) hm
def Le (t:TE):TT:=fun σ H Q=>t σ H fun x H'=>∃ k,x=.bl k∧Q k H'
theorem Cn {op:CmpOp}{r:R2}(ho:OpR X (compareOp op) r)(ha:PE X a ta)(hb:PE X b tb)(hm:behindInMarks op b=false):PT X (.Compare a [op] [b] pos) (Le (tOp r ta tb)):=by
  intro pins s σ H Q I h
  refine wpAny_isTrue_Compare1 (thn (ha pins s σ H _ I h) fun v s1 ⟨x,H1,I1,r1,q1⟩=>thn (hb pins s1 σ H1 _ I1 q1) fun u s2 ⟨y,H2,I2,r2,q2⟩ =>
    thn (ho pins s2 σ H2 x y v u _ I2 r1 r2 q2) fun c s3 ⟨z,H3,I3,r3,k,e,q3⟩ => ?_) hm
  subst e
  cases r3
  exact wpAny_truthy_bool ⟨H3,I3,q3⟩
def EQ (r r':R2) (ta tb tc:TE):TE:=fun σ H Q=>ta σ H fun x H1=>tb σ H1 fun y H2=>r x y H2 fun z H3=>∃ k,z=.bl k ∧
  (if k=true then tc σ H3 fun w' H4=>r' y w' H4 Q else Q (.bl false) H3)
theorem ER {op op':CmpOp}{r r':R2}(ho:OpR X (compareOp op) r)(ho':OpR X (compareOp op') r')(ha:PE X a ta)(hb:PE X b tb)(hc:PE X c tc)
    (hm:lastMarks [op,op'] [b,c] = false:=by with_unfolding_all rfl):PE X (.Compare a [op,op'] [b,c] pos) (EQ r r' ta tb tc):=by
  intro pins s σ H Q I h
  refine Compare_chain (thn (ha pins s σ H _ I h) fun v s1 ⟨x,H1,I1,r1,q1⟩=>chain_link (thn (hb pins s1 σ H1 _ I1 q1) fun u s2 ⟨y,H2,I2,r2,q2⟩ =>
    thn (ho pins s2 σ H2 x y v u _ I2 r1 r2 q2) fun d s3 ⟨z,H3,I3,r3,k,e,q3⟩ => ?_)) hm
  subst e
  cases r3
  refine wpAny_truthy_bool ?_
  cases k with
  | false=>exact ite_ff ⟨.bl false,H3,I3,rfl,q3⟩
  | true=>exact ite_tt (chain_last (thn (hc pins s3 σ H3 _ I3 q3) fun w' s4 ⟨z',H4,I4,r4,q4⟩=>ho' pins s4 σ H4 y z' u w' Q I4 r2 r4 q4))
theorem mi:(sizeLine:Nat) < 2 ^ 63:=by rw [sizeLine_eq];decide
theorem Az:OpR X (binaryOp .Add) (fun x y H Q=>∃ i j,x=.str i∧y=.str j∧i.length + j.length≤sizeLine∧Q (.str (i++j)) H):=by
  intro pins s σ H x y v u Q I rx ry h
  obtain⟨i,j,rfl,rfl,hz,q⟩:=h
  obtain⟨t,rfl⟩:=rx
  obtain⟨t',rfl⟩:=ry
  exact add_str (fun t' tk=>⟨.str (i++j),H,I.tok _,⟨_,rfl⟩,q⟩) hz
theorem xY {x:V}{us:List Value}(r:aN [x] us):∃ u,us=[u]∧bq x u:=by
  cases r with
  | cons r1 r2=>cases r2;exact⟨_,rfl,r1⟩
theorem IC {x y:V}{us:List Value}(r:aN [x,y] us):∃ u w',us=[u,w']∧bq x u∧bq y w':=by
  cases r with
  | cons r1 r2 =>
    cases r2 with
    | cons r3 r4=>cases r4;exact⟨_,_,rfl,r1,r3⟩
theorem Dg (hc:X.calm=true):fF X (.builtin "max") (fun xs H Q=>∃ i j,xs=[.int i,.int j]∧Q (.int (if j > i then j else i)) H):=by
  intro pins s σ H xs us Q I r h
  obtain⟨i,j,rfl,q⟩:=h
  obtain⟨u,w',rfl,⟨t,rfl⟩,⟨t',rfl⟩⟩:=IC r
  refine max_two_ints (I.ok.hd hc) fun h' tk k=>⟨_,H,I.kept k,?_,q⟩
  by_cases hj:j > i
  · rw [if_pos hj,if_pos hj];exact⟨_,rfl⟩
  · rw [if_neg hj,if_neg hj];exact⟨_,rfl⟩
theorem Dh (hc:X.calm=true):fF X (.builtin "min") (fun xs H Q=>∃ i j,xs=[.int i,.int j]∧Q (.int (if j < i then j else i)) H):=by
  intro pins s σ H xs us Q I r h
  obtain⟨i,j,rfl,q⟩:=h
  obtain⟨u,w',rfl,⟨t,rfl⟩,⟨t',rfl⟩⟩:=IC r
  refine min_two_ints (I.ok.hd hc) fun h' tk k=>⟨_,H,I.kept k,?_,q⟩
  by_cases hj:j < i
  · rw [if_pos hj,if_pos hj];exact⟨_,rfl⟩
  · rw [if_neg hj,if_neg hj];exact⟨_,rfl⟩
theorem uM:fF X (.type "str") (fun xs H Q=>∃ i,xs=[.int i]∧i.natAbs.log2 < 1920∧Q (.str (toString i)) H):=by
  intro pins s σ H xs us Q I r h
  obtain⟨i,rfl,hz,q⟩:=h
  obtain⟨u,rfl,t,rfl⟩:=xY r
  exact PySem.P.str_of_int hz ⟨.str _,H,I.tok _,⟨_,rfl⟩,q⟩
end
end L2
namespace L2
open PySem PySem.Spec PyProof.Rows
structure MD (h:Heap) (x dx C:Addr) (mA:Str→Option Value):Prop where
  obj:h.get? x=some (PySem.W.instObj C dx)
  ns:h.Ns1 dx mA
  ne:dx≠x
section
variable {prog:Program} {w:World} {A:Around} {E:Value→Shared→Prop} {s:Shared} {K:PySem.W.Frag} {x dx C f:Addr} {mA:Str→Option Value} {name:Str} {v:Value}
end
section
variable {P:Program} {w:World} {H H':Hp} {h h':Heap} {a C dx:Addr} {fs fs':List (Str × V)}
end
structure Cls (K:PySem.W.Frag) (C:Addr):Prop where
  pg:PySem.W.plainGet K C Str.empty=true
  hd:PySem.W.hasDictIn K C=true
  po:PySem.W.plainOver K C=true
  sa:PySem.W.findIn K (.ref C) "__setattr__" = some (some (.builtin "object.__setattr__"))
structure Con (K:PySem.W.Frag) (C:Addr) (f:Str) (v:V) (u:Value):Prop where
  at_:PySem.W.findIn K (.ref C) f=some (some u)
  rel:bq v u
  get:PySem.W.specialIn K u "__get__" = some none
  cp:PySem.W.copiedNames.contains f=false
structure MK (K:PySem.W.Frag) (C:Addr) (m:Str) (f:Addr):Prop where
  at_:PySem.W.findIn K (.ref C) m=some (some (.ref f))
  fn:PySem.W.isFn K (.ref f)=true
  kp:PySem.W.keepIn K (.ref f)=true
section
variable {X:Cx} {pins:List (Addr × Obj)} {σ:St} {H:Hp} {s:Shared} {a C dx:Addr} {fs:List (Str × V)} {f:Str} {v:V} {A:Around} {E:Value→Shared→Prop}
end
section
variable {X:Cx} {o e value:Expr} {f:Str} {pos pos' tpos:Pos} {ta tv:TE}
end
section
variable {X:Cx} {pins:List (Addr × Obj)} {σ:St} {H:Hp} {s:Shared} {A:Around} {E:Value→Shared→Prop} {Q:Value→Shared→Prop} {c:Value} {b:Bool}
inductive ow (K:PySem.W.Frag) (H:Hp):V→Value→Prop where
  | non:ow K H .non (.type "NoneType")
  | bl (x:Bool):ow K H (.bl x) (.type "bool")
  | int (i:Int):ow K H (.int i) (.type "int")
  | str (x:Str):ow K H (.str x) (.type "str")
  | flt (x:UInt64):ow K H (.flt x) (.type "float")
  | lst {a:Addr} {xs:List V} (e:H a=some (.lst xs)):ow K H (.ref a) (.type "list")
  | frz {a:Addr} {o:Obj} {xs:List V} (e:H a=some (.frz o (.lst xs))):ow K H (.ref a) (.type "list")
  | tup {a:Addr} {xs:List V} (e:H a=some (.tup xs)):ow K H (.ref a) (.type "tuple")
  | dK {a:Addr} {kvs:List (Key × V)} (e:H a=some (.dK kvs)):ow K H (.ref a) (.type "dict")
  | dT {a:Addr} {kvs:List (List Key × V)} (e:H a=some (.dT kvs)):ow K H (.ref a) (.type "dict")
  | ins {a C dx:Addr} {fs:List (Str × V)} (e:H a=some (.ins C dx fs)) (cl:Cls K C) (ha:PySem.W.findIn K (.ref C) "__class__" = some (some (.builtin "object.__class__")))
      (hn:PySem.W.specialIn K (.builtin "object.__class__") "__get__" = some (some (.builtin "getset_descriptor.__get__"))) (htk:PySem.W.takesIn K (.builtin "object.__class__")=some true)
      (hm:PySem.W.mroIn K C (.type "object")=some true):ow K H (.ref a) (.ref C)
end
end L2
namespace L2
open PySem PySem.Spec PyProof.Rows
structure gs (k:Nat) (A:Around):Prop where
  hd:A.handled=none
  dp:A.depth + 3 * k + 5 < recursionLimit
  un:A.units + 16 * k + 200 < cLine
  gd:A.guards=some []
theorem gs.mono {j k:Nat}{A:Around}(r:gs k A)(h:j≤k):gs j A:=⟨r.hd,by have:=r.dp;omega,by have:=r.un;omega,r.gd⟩
theorem gs.deeper {k:Nat}{A:Around}(r:gs (k + 1) A)(env:Env):gs k (A.deeper env) :=
  ⟨r.hd,by have:=r.dp;show A.depth + 1 + 3 * k + 5 < _;omega,by have:=r.un;show A.units + 3 + 16 * k + 200 < _;omega,r.gd⟩
theorem gs.depth {k:Nat}{A:Around}(r:gs k A):A.depth < recursionLimit:=by have:=r.dp;omega
theorem gs.units0 {k:Nat}{A:Around}(r:gs k A):A.units < cLine:=by have:=r.un;omega
def Mh:TA:=fun _ H Q=>Q [] H
def Lf (ta:TE) (tr:TA):TA:=fun σ H Q=>ta σ H fun x H1=>tr σ H1 fun xs H2=>Q (x :: xs) H2
section
variable {X:Cx} {e:Expr} {es:List Expr} {te:TE} {t:TA} {pos:Pos}
theorem cR:PA X [] Mh:=fun _ _ _ _ H Q I h=>Calls.spliced_nil ⟨[],H,I,.nil,h⟩
theorem bz (ha:PE X e te)(hr:PA X es t)(hs:starEach (e :: es) X.env=(false,eval e X.env) :: starEach es X.env:=by rfl):PA X (e :: es) (Lf te t):=by
  intro pos pins s σ H Q I h
  rw [hs]
  show wpAny _ _ (spliced ((false,eval e X.env) :: backTo pos (starEach es X.env))) _ _ s
  refine Calls.spliced_cons (thn (ha pins s σ H _ I h) fun u s1 ⟨x,H1,I1,r1,q1⟩ => ?_)
  exact thn (hr pos pins s1 σ H1 _ I1 q1) fun us s2 ⟨xs,H2,I2,r2,q2⟩=>⟨x :: xs,H2,I2,.cons r1 r2,q2⟩
def Mi (t:TA):TE:=fun σ H Q=>t σ H fun xs H1=>xs.length≤sizeLine ∧ ∀ p,H1 p=none→Q (.ref p) (upd H1 p (.tup xs))
def Mj (t:TA):TE:=fun σ H Q=>t σ H fun xs H1=>xs.length≤sizeLine ∧ ∀ p,H1 p=none→Q (.ref p) (upd H1 p (.lst xs))
theorem Jj {x1}(h:PA X es t):PE X (.Tuple es x1 pos) (Mi t):=by
  intro pins s σ H Q I hq
  refine wpAny_Tuple_spliced (thn (h pos pins s σ H _ I hq) fun us s1 ⟨xs,H1,I1,r,z,q⟩=>⟨by rw [← r.length];exact z,?_⟩)
  have hf:H1 s1.heap.objs.size=none:=I1.hok.fresh (Nat.le_refl _)
  refine⟨.ref s1.heap.objs.size,upd H1 s1.heap.objs.size (.tup xs),I1.laid (t':=s1.toks) (fun b u e=>Heap.get?_push_of_some _ e) (Nat.le_refl _) ?_,rfl,q _ hf⟩
  exact⟨z,us,r,⟨_,Heap.get?_push_size _ rfl,rfl,_,rfl⟩⟩
theorem Jk (h:PA X es t):PE X (.List es pos) (Mj t):=by
  intro pins s σ H Q I hq
  refine wpAny_List_spliced (thn (h pos pins s σ H _ I hq) fun us s1 ⟨xs,H1,I1,r,z,q⟩=>⟨by rw [← r.length];exact z,?_⟩)
  have hf:H1 s1.heap.objs.size=none:=I1.hok.fresh (Nat.le_refl _)
  refine⟨.ref s1.heap.objs.size,upd H1 s1.heap.objs.size (.lst xs),I1.laid (t':=s1.toks) (fun b u e=>Heap.get?_push_of_some _ e) (Nat.le_refl _) ?_,rfl,q _ hf⟩
  exact⟨z,us,0,r,Heap.get?_push_size _ rfl⟩
end
abbrev Sp:=List V→Hp→VK→XK→Prop
abbrev CXT:=List Env→Hp→Shared→XK→Value→Shared→Prop
structure Hi (P:Program) (w:World) (K:PySem.W.Frag) (mg:Str→Option Value) (base:Heap) (A:Around) (outer:List Env) (s:Shared) (H:Hp):Prop where
  frames:A.frames=some outer
  mod:Mod K mg base
  bs:∀ b o,base.get? b=some o→s.heap.get? b=some o∧H b=none
  bsz:base.objs.size≤s.heap.objs.size
  funs:s.heap.FunFrames base outer
  frf:∀ b∈frs outer,H b=none
  hok:HOk P w H s.heap
  bare:AllBare s.gens
def CE (outer:List Env) (P:Program) (w:World) (H:Hp) (s:Shared) (Q:VK) (u:Value) (s':Shared):Prop :=
  ∃ v H',s'.os=s.os∧AllBare s'.gens∧Un (frs outer) [] H H' s.heap s'.heap∧HOk P w H' s'.heap∧bq v u∧Q v H'
def CR (CX:CXT) (outer:List Env) (P:Program) (w:World) (H:Hp) (s:Shared) (Q:VK) (E:XK) (r:Result) (s':Shared):Prop :=
  match r with
  | .ok (.ret u)=>CE outer P w H s Q u s'
  | .ok _=>False
  | .error e=>CX outer H s E e s'
structure b7 (P:Program) (w:World) (K:PySem.W.Frag) (mg:Str→Option Value) (base:Heap) (CX:CXT) (k:Nat) (f:Addr) (fd:FuncData) (ps:List Str) (sp:Sp):Prop where
  len:∀ vs H Q E,sp vs H Q E→vs.length=ps.length
  run:∀ (A:Around) (outer:List Env) (s:Shared) (H:Hp) (args:Args) (us:List Value) (vs:List V) (Q:VK) (E:XK),gs k A→Hi P w K mg base A outer s H→BindsTo s fd args (ps.zip us)→aN vs us→sp vs H Q E →
    codeAny (model P w) A (.call (.ref f) args) (CR CX outer P w H s Q E) s
section
variable {X:Cx} {pins:List (Addr × Obj)} {σ:St} {H:Hp} {s s':Shared}
theorem Inv.env0 (I:Inv X pins σ H s):Hi X.prog X.w X.K X.mg X.base X.A X.stack s H :=
  ⟨I.ok.frames,I.ok.mod,I.bs,Nat.le_trans I.ok.bsz I.sz,I.stack,I.stkFree,I.hok,I.bare⟩
theorem Inv.after {Q:VK}{u:Value}(I:Inv X pins σ H s)(h:CE X.stack X.prog X.w H s Q u s'):EP X pins σ Q u s':=by
  obtain⟨v,H',os,bare,un,hok,r,q⟩:=h
  obtain⟨hh,g,d,t,os'⟩:=s'
  obtain rfl:os'=s.os:=os
  exact⟨v,H',I.call (h':=hh) (g':=g) (d':=d) (t':=t) (ch:=[]) un hok bare (fun b z=>absurd z (by simp)),r,q⟩
end
def Lg (sp:Sp) (dvs:List V) (E:XK) (t:TA):TE:=fun σ H Q=>t σ H fun vs H1=>sp (vs++dvs) H1 Q E
def jP (K:PySem.W.Frag) (fd:FuncData) (ps:List Str) (ds:List Value):Prop :=
  ∀ (s:Shared) (us:List Value),K.In s.heap→(us++ds).length=ps.length→BindsTo s fd ⟨us,[]⟩ (ps.zip (us++ds))
theorem jP.all {K:PySem.W.Frag}{fd:FuncData}{ps:List Str}(h:∀ us:List Value,us.length=ps.length→bindArgs fd ⟨us,[]⟩ = pure (ps.zip us)):jP K fd ps []:=fun s us _ hl=>by
  rw [List.append_nil] at hl ⊢
  exact .of_eq (h us hl)
def AA (CX:CXT) (X:Cx) (E:XK):Prop:=∀ (pins:List (Addr × Obj)) (σ:St) (H:Hp) (s:Shared) (e:Value) (s':Shared),Inv X pins σ H s→CX X.stack H s E e s'→X.xe e s'
section
variable {X:Cx} {CX:CXT} {k:Nat} {f C:Addr} {fd:FuncData} {ps:List Str} {sp:Sp} {dvs:List V} {ds:List Value} {E:XK} {x m:Str} {p pos apos:Pos} {e o:Expr} {es:List Expr} {ta:TE} {t:TA}
theorem Jl {pins:List (Addr × Obj)}{σ:St}{H:Hp}{s:Shared}{Q:VK}{us:List Value}{vs:List V}(F:b7 X.prog X.w X.K X.mg X.base CX k f fd ps sp)(hr:gs k X.A)(hb:jP X.K fd ps ds)(hd:aN dvs ds)(hx:AA CX X E)
    (I:Inv X pins σ H s) (r:aN vs us) (h:sp (vs++dvs) H Q E):wpAny (model X.prog X.w) X.A (call (.ref f) us) (EP X pins σ Q) X.xe s:=by
  have r2:aN (vs++dvs) (us++ds):=r.append hd
  have hl:(us++ds).length=ps.length:=by rw [← r2.length];exact F.len _ _ _ _ h
  refine wpAny_call (codeAny_mono (F.run X.A X.stack s H ⟨us,[]⟩ (us++ds) (vs++dvs) Q E hr I.env0 (hb s us I.kIn hl) r2 h) fun r s' hq => ?_)
  cases r with
  | error e=>exact hx pins σ H s e s' I hq
  | ok fl =>
    cases fl with
    | ret u=>exact I.after hq
    | next=>exact False.elim hq
    | brk=>exact False.elim hq
    | cont=>exact False.elim hq
theorem Hj (F:b7 X.prog X.w X.K X.mg X.base CX k f fd ps sp)(hr:gs k X.A)(hg:Gl X x)(hm:X.mg x=some (.ref f))(hk:PySem.W.keepIn X.K (.ref f)=true)(hb:jP X.K fd ps ds)(hd:aN dvs ds)(hx:AA CX X E)
    (ha:PA X (e :: es) t) (hdb:(x == ("__debug__" : Str))=false:=by decide) (he:starEach (e :: es) X.env=(false,eval e X.env) :: starEach es X.env:=by rfl) (hpl:(backTo pos (starEach es X.env)).any (·.1)=false:=by rfl) :
    PE X (.Call (.Name x p) (e :: es) [] pos) (Lg sp dvs E t):=by
  intro pins s σ H Q I h
  refine wpAny_Call_Name_kw (Cl I hg hm ?_ hdb)
  refine PySem.W.callWith_K (h₀ := X.base) I.ok.mod.kin hk (thn (ha pos pins s σ H _ I h) fun us s1 ⟨vs,H1,I1,r,q⟩=>⟨I1.kIn,?_⟩) he hpl
  exact Jl F hr hb hd hx I1 r q
structure Mk (K:PySem.W.Frag) (C f:Addr):Prop where
  makes:PySem.W.makesIn K C=true
  init:PySem.W.findIn K (.ref C) "__init__" = some (some (.ref f))
  fn:PySem.W.isFn K (.ref f)=true
  kp:PySem.W.keepIn K (.ref C)=true
end
section
variable {X:Cx} {CX:CXT} {k:Nat} {f C:Addr} {fd:FuncData} {ps ks:List Str} {sp:Sp} {E:XK} {x m:Str} {p pos apos kpos:Pos} {e o:Expr} {es:List Expr} {kws:List Keyword} {te ta:TE} {t tk:TA} {nm:Option Str}
structure Ml (K:PySem.W.Frag) (fd:FuncData) (ps ks:List Str) (g:List Value→List Value→List Value) (gV:List V→List V→List V):Prop where
  to:∀ (s:Shared) (us ws:List Value),K.In s.heap→(g us ws).length=ps.length→BindsTo s fd ⟨us,ks.zip ws⟩ (ps.zip (g us ws))
  rel:∀ {vs:List V} {us:List Value} {zs:List V} {ws:List Value},aN vs us→aN zs ws→aN (gV vs zs) (g us ws)
variable {g:List Value→List Value→List Value} {gV:List V→List V→List V}
end
structure aR (N P:List Str) (sc:Scope):Prop where
  kind:sc.kind=.function
  co:sc.isCoroutine=false
  gen:sc.isGenerator=false
  nd:N.Nodup
  pre:N.take P.length=P
  par:∀ x∈P,sc.names.lookup x=some .local ∨sc.names.lookup x=some .cell
  nofree:∀ y∈sc.names,y.2 ≠ .free
theorem tJ {kindOf:Str→Option NameKind}{x:Str}:∀ {binds:List (Str × Value)} {m:Str→Option Value},(∀ v,(x,v)∉binds)→bindL kindOf binds m x=m x
  | [],_,_=>rfl
  | (n,v) :: r,m,h=>by
    unfold bindL
    rw [tJ fun w hw=>h w (List.mem_cons_of_mem _ hw)]
    split
    · have:x≠n:=by rintro rfl;exact h v List.mem_cons_self
      simp [this]
    · rfl
theorem tK {kindOf:Str→Option NameKind}{x:Str}:∀ {binds:List (Str × Value)} {m:Str→Option Value},(∀ v,(x,v)∉binds)→bindC kindOf binds m x=m x
  | [],_,_=>rfl
  | (n,v) :: r,m,h=>by
    unfold bindC
    rw [tK fun w hw=>h w (List.mem_cons_of_mem _ hw)]
    split
    · rfl
    · have:x≠n:=by rintro rfl;exact h v List.mem_cons_self
      simp [this]
theorem tL {kindOf:Str→Option NameKind}{x:Str}{v:Value}:∀ {P:List Str} {vs:List Value} {i:Nat} {m:Str→Option Value},P.Nodup→P[i]? = some x→vs[i]? = some v→kindOf x=some .local →
    bindL kindOf (P.zip vs) m x=some v
  | [],_,_,_,_,h,_,_=>by simp at h
  | _ :: _,[],_,_,_,_,h,_=>by simp at h
  | p :: P,w :: vs,0,m,nd,h1,h2,hk=>by
    simp at h1 h2;subst h1;subst h2
    show bindL kindOf ((p,w) :: P.zip vs) m p=_
    unfold bindL
    rw [tJ fun v hv=>(List.nodup_cons.mp nd).1 (List.of_mem_zip hv).1,if_pos hk]
    simp
  | p :: P,w :: vs,i + 1,m,nd,h1,h2,hk=>by
    show bindL kindOf ((p,w) :: P.zip vs) m x=_
    unfold bindL
    exact tL (i:=i) (List.nodup_cons.mp nd).2 (by simpa using h1) (by simpa using h2) hk
theorem tM {kindOf:Str→Option NameKind}{x:Str}{v:Value}:∀ {P:List Str} {vs:List Value} {i:Nat} {m:Str→Option Value},P.Nodup→P[i]? = some x→vs[i]? = some v→kindOf x≠some .local →
    bindC kindOf (P.zip vs) m x=some v
  | [],_,_,_,_,h,_,_=>by simp at h
  | _ :: _,[],_,_,_,_,h,_=>by simp at h
  | p :: P,w :: vs,0,m,nd,h1,h2,hk=>by
    simp at h1 h2;subst h1;subst h2
    show bindC kindOf ((p,w) :: P.zip vs) m p=_
    unfold bindC
    rw [tK fun v hv=>(List.nodup_cons.mp nd).1 (List.of_mem_zip hv).1,if_neg hk]
    simp
  | p :: P,w :: vs,i + 1,m,nd,h1,h2,hk=>by
    show bindC kindOf ((p,w) :: P.zip vs) m x=_
    unfold bindC
    exact tM (i:=i) (List.nodup_cons.mp nd).2 (by simpa using h1) (by simpa using h2) hk
def i0 (N:List Str) (vs:List V):St:=vs.map some++List.replicate (N.length - vs.length) none
def AB (CX:CXT) (P:Program) (w:World) (K:PySem.W.Frag) (mg:Str→Option Value) (base:Heap) (N:List Str) (qual:Str) (scope:Scope) (f:Addr) (cd:Value) (A:Around) (outer:List Env) (s:Shared) (H:Hp) (E:XK):Cx where
  prog:=P
  w:=w
  K:=K
  mg:=mg
  base:=base
  A:=A.deeper (envOfC qual scope s.heap.objs.size f cd)
  N:=N
  s₀ := s
  H₀ := H
  env:=envOfC qual scope s.heap.objs.size f cd
  outer:=outer
  stack:=envOfC qual scope s.heap.objs.size f cd :: outer
  ex:=[]
  calm:=true
  fn:=fun _=>true
  pn:=[]
  xe:=fun e s'=>wpAny (model P w) (A.deeper (envOfC qual scope s.heap.objs.size f cd)) (leaving (envOfC qual scope s.heap.objs.size f cd) e) (fun _ s''=>CX outer H s E e s'') (fun e' s''=>CX outer H s E e' s'') s'
theorem xZ {sc:Scope}{n:Nat}{x:Str}(h:sc.names.lookup x=some .cell):∃ c,(cellsFrom n sc.names []).lookup x=some c:=by
  have q:=PySem.W.cellsFrom_some sc.names n [] (.inl h)
  exact Option.isSome_iff_exists.mp q
theorem Di {CX:CXT}{P:Program}{w:World}{K:PySem.W.Frag}{mg:Str→Option Value}{base:Heap}{N ps:List Str}{qual:Str}{scope:Scope}{f:Addr}{cd:Value}{A:Around}{outer:List Env}{s s1:Shared}{H:Hp}{E:XK}{us:List Value}{vs:List V}
    (S:aR N ps scope) (hd:A.handled=none) (e0:Hi P w K mg base A outer s H) (hl:vs.length=ps.length) (r:aN vs us)
    (x:InCallC s s.heap.objs.size (bindL (envOfC qual scope s.heap.objs.size f cd).kindOf (ps.zip us) fun _=>none) (cellsFrom (s.heap.objs.size + 1) scope.names []) (bindC (envOfC qual scope s.heap.objs.size f cd).kindOf (ps.zip us) fun _=>none) s1) :
    Inv (AB CX P w K mg base N qual scope f cd A outer s H E) [] (i0 N vs) H s1:=by
  have hpl:ps.length≤N.length:=by have:=congrArg List.length S.pre;rw [List.length_take] at this;omega
  obtain⟨h1,tk,rfl,hk⟩:=x.done
  have noA:∀ b:Addr,b∉(AB CX P w K mg base N qual scope f cd A outer s H E).ex:=fun b z=>absurd (show b∈([] : List Addr) from z) (by simp)
  refine⟨⟨e0.mod,S.kind,rfl,rfl,Nat.le_refl _,fun y z c h1 h2 => ?_,fun y hy => ?_,fun y c _ h => ?_,fun _=>hd,Around.frames_deeper e0.frames,.inr ⟨rfl,rfl⟩,fun b z=>absurd z (noA b),e0.bs,e0.bsz,fun b _ _=>noA b,fun b z=>absurd z (noA b),e0.funs,e0.frf⟩,
    rfl,e0.bare,Un.kept hk,⟨_,x.toInCall.ns,fun i y v h1 h2 h3 => ?_⟩,fun y c h=>⟨_,x.cell y c h⟩,e0.hok.fresh (Nat.le_refl _),fun y c h => ?_,fun p hp=>absurd (show p∈([] : List (Addr × Obj)) from hp) (by simp),e0.hok.kept hk,?_⟩
  · exact name_of_addr x.apart (PySem.mem_of_lookup h1) (PySem.mem_of_lookup h2)
  · have hy:scope.names.lookup y=some .cell∨scope.names.lookup y=some .free:=hy
    rcases hy with hy|hy
    · exact xZ hy
    · exact absurd rfl (S.nofree _ (PySem.mem_of_lookup hy))
  · exact Nat.le_of_lt (x.above y c (PySem.mem_of_lookup h))
  · have hi:i < vs.length:=by
      unfold i0 at h2
      by_cases hi:i < vs.length
      · exact hi
      · rw [List.getElem?_append_right (by simpa using hi)] at h2
        rw [List.getElem?_replicate] at h2
        split at h2<;>cases h2
    have ha:vs[i]? = some v:=by
      unfold i0 at h2
      rw [List.getElem?_append_left (by simpa using hi),List.getElem?_map] at h2
      cases e:vs[i]? with
      | none=>rw [e] at h2;cases h2
      | some a=>rw [e] at h2;cases h2;rfl
    obtain⟨u,hu,rv⟩:=r.get ha
    have hp:ps[i]? = some y:=by
      rw [← S.pre,List.getElem?_take_of_lt (by omega)];exact h1
    have ndP:ps.Nodup:=by rw [← S.pre];exact S.nd.sublist (List.take_sublist _ _)
    refine⟨u,rv,?_⟩
    rcases S.par y (List.mem_of_getElem? hp) with k|k
    · exact .inl ⟨k,tL ndP hp hu k⟩
    · obtain⟨c,e⟩:=xZ (n:=s.heap.objs.size + 1) k
      refine .inr ⟨.inl k,c,e,?_⟩
      have q:=x.cell y c e
      rw [tM ndP hp hu (by show scope.names.lookup y≠_;rw [k];decide)] at q
      exact q
  · exact e0.hok.fresh (Nat.le_of_lt (x.above y c (PySem.mem_of_lookup h)))
  · unfold i0
    show _=N.length
    rw [List.length_append,List.length_map,List.length_replicate]
    omega
theorem Lh {CX:CXT}{P:Program}{w:World}{K:PySem.W.Frag}{mg:Str→Option Value}{base:Heap}{k:Nat}{f:Addr}{name qual:Str}{params:Arguments}{body:List Stmt}{scope:Scope}{dV kV doc pm cdv ct oc:Value}{an od:Option Addr}
    {osl:Array (Option Value)} {N ps:List Str} {sp:Sp} (lk:K.lookup f=some ⟨oc,od,.func (PySem.W.fnOf name qual params body scope dV kV doc pm an cdv ct),osl⟩) (hcd:PySem.W.codeIn K cdv qual=true) (S:aR N ps scope)
    (len:∀ vs H Q E,sp vs H Q E→vs.length=ps.length)
    (hbody:∀ (A:Around) (outer:List Env) (s:Shared) (H:Hp) (vs:List V) (Q:VK) (E:XK),gs k (A.deeper (envOfC qual scope s.heap.objs.size f cdv))→sp vs H Q E →
      ∃ t,PSs (AB CX P w K mg base N qual scope f cdv A outer s H E) body t∧t { nx:=fun _ H'=>Q .non H',rt:=Q } (i0 N vs) H) :
    b7 P w K mg base CX (k + 1) f (PySem.W.fnOf name qual params body scope dV kV doc pm an cdv ct) ps sp:=by
  refine⟨len,fun A outer s H args us vs Q E hr e0 hb r hsp => ?_⟩
  have hl:=len _ _ _ _ hsp
  have KX:K.In s.heap:=e0.mod.kin.keeps fun b o e=>(e0.bs b o e).1
  have lim:s.heap.NoLimit:=e0.mod.nolimit.keeps fun b o e=>(e0.bs b o e).1
  have hkind:∀ y∈ps.zip us,scope.names.lookup y.1=some .local ∨(scope.names.lookup y.1=some .cell∧((cellsFrom (s.heap.objs.size + 1) scope.names []).lookup y.1).isSome=true):=fun ⟨n,v⟩ hy=>by
    rcases S.par n (List.of_mem_zip hy).1 with q|q
    · exact .inl q
    · exact .inr ⟨q,PySem.W.cellsFrom_some _ _ _ (.inl q)⟩
  refine codeAny_call_function hr.depth (KX _ _ lk) rfl S.co S.gen rfl (PySem.W.codeRec_of KX hcd) (hb _ _ _ _ ?_)
  refine wpAny_newFunctionEnv_cells S.kind hkind fun env he s1 x => ?_
  subst he
  refine⟨lim.keeps x.toInCall.keep,codeAny_func ?_⟩
  obtain⟨t,ht,hq⟩:=hbody A outer s H vs Q E (hr.deeper _) hsp
  have I:Inv (AB CX P w K mg base N qual scope f cdv A outer s H E) [] (i0 N vs) H s1:=Di S hr.hd e0 hl r x
  refine wpAny_mono (ht [] s1 (i0 N vs) H _ I hq) (fun fl s' hs => ?_) fun e s' hs=>hs
  have fin:∀ {σ':St} {H':Hp} {v:V} {u:Value},Inv (AB CX P w K mg base N qual scope f cdv A outer s H E) [] σ' H' s'→bq v u→Q v H'→CE outer P w H s Q u s' :=
    fun {σ' H' v u} J rv q=>⟨v,H',J.os,J.bare,J.base,J.hok,rv,q⟩
  cases fl with
  | ret u =>
    obtain⟨v,σ',H',J,rv,q⟩:=hs
    exact fin J rv q
  | next =>
    obtain⟨σ',H',J,q⟩:=hs
    exact fin (v:=V.non) (u:=Value.none) J rfl q
  | brk =>
    obtain⟨_,_,_,q⟩:=hs
    exact False.elim q
  | cont =>
    obtain⟨_,_,_,q⟩:=hs
    exact False.elim q
end L2
namespace L2
open PySem PySem.Spec PyProof.Rows
section
variable {X:Cx} {x:Str} {p pos:Pos} {e:Expr} {es:List Expr} {t:TA} {id T:String} {r:List V→Hp→VK→Prop}
def tCB (r:List V→Hp→VK→Prop) (t:TA):TE:=fun σ H Q=>t σ H fun vs H1=>r vs H1 Q
theorem gF (hc:fF X (.builtin id) r) (hg:Gl X x) (hm:X.mg x=none) (hv:bootBuiltins x=some (.builtin id)) (ha:PA X (e :: es) t) (hn:x ≠ "__name__" := by decide) (hdb:(x == ("__debug__" : Str))=false:=by decide)
    (he:starEach (e :: es) X.env=(false,eval e X.env) :: starEach es X.env:=by rfl) (hpl:(backTo pos (starEach es X.env)).any (·.1)=false:=by rfl):PE X (.Call (.Name x p) (e :: es) [] pos) (tCB r t):=by
  intro pins s σ H Q I h
  refine wpAny_Call_Name_kw (oq I hg hm hv ?_ hn hdb)
  exact PyProof.Rows.callWith_builtin1 (thn (ha pos pins s σ H _ I h) fun us s1 ⟨vs,H1,I1,r1,q1⟩=>hc pins s1 σ H1 vs us Q I1 r1 q1) he hpl
theorem tN (hc:fF X (.type T) r) (hg:Gl X x) (hm:X.mg x=none) (hv:bootBuiltins x=some (.type T)) (ha:PA X (e :: es) t) (hn:x ≠ "__name__" := by decide) (hdb:(x == ("__debug__" : Str))=false:=by decide)
    (he:starEach (e :: es) X.env=(false,eval e X.env) :: starEach es X.env:=by rfl) (hpl:(backTo pos (starEach es X.env)).any (·.1)=false:=by rfl):PE X (.Call (.Name x p) (e :: es) [] pos) (tCB r t):=by
  intro pins s σ H Q I h
  refine wpAny_Call_Name_kw (oq I hg hm hv ?_ hn hdb)
  exact PyProof.Rows.callWith_type1 (thn (ha pos pins s σ H _ I h) fun us s1 ⟨vs,H1,I1,r1,q1⟩=>hc pins s1 σ H1 vs us Q I1 r1 q1) he hpl
end
end L2
namespace HT
open PySem PyProof.Rows
def lexLt:List Int→List Int→Bool
  | [],[]=>false
  | [],_ :: _=>true
  | _ :: _,[]=>false
  | x :: xs,y :: ys=>if x=y then lexLt xs ys else decide (x < y)
theorem AC (x y:Int)(xs ys:List Int):lexLt (x :: xs) (y :: ys)=if x=y then lexLt xs ys else decide (x < y):=rfl
theorem qo:lexLt [] [] = false:=rfl
theorem ox (y:Int)(ys:List Int):lexLt [] (y :: ys)=true:=rfl
theorem oy (x:Int)(xs:List Int):lexLt (x :: xs) [] = false:=rfl
theorem ES (A:Around)(s:Shared)(a:Int)(t:Tok)(c:Int)(u:Tok):∃ e,SeqAt.EqAt A s (.int a t) (.int c u) e∧(e=true ↔ a=c) :=
  ⟨(a == c),SeqAt.EqAt.int_int a t c u,by simp⟩
theorem ET (A:Around)(s:Shared)(a:Int)(t:Tok)(c:Int)(u:Tok)(prog:Program)(w:World)(E:Value→Shared→Prop)(Q:Value→Shared→Prop)(h:Q (.bool (decide (a < c))) s) :
    wpAny (model prog w) A (richCompare .Lt (.int a t) (.int c u)) Q E s :=
  (PyProof.Rows.lt_int h:wpAny (model prog w) A (compareOp .Lt (.int a t) (.int c u)) Q E s)
section
open PySem.SeqAt
open PySem.AutoSeq1 (wpAny_loadPart')
open PySem.MeetsSeq PySem.MeetsSeq2 PySem.MeetsSeq3
theorem qp (l b:Addr)(items items2:Array Value)(n n2:Nat)(dd dd2:Option Addr)(sl sl2:Array (Option Value))(ns ms:List Int)(hi:IntsAre items.toList ns)(hj:IntsAre items2.toList ms) :
    Meets (Builtin.«tuple.__lt__» ⟨[.ref l,.ref b],[]⟩)
      (fun _ R s=>s.heap.get? l=some { cls:=.type "tuple",dict:=dd,data:=.seq items n,slots:=sl } ∧ s.heap.get? b=some { cls:=.type "tuple",dict:=dd2,data:=.seq items2 n2,slots:=sl2 } ∧
        R (.ok (.ret (.bool (lexLt ns ms)))) s) :=
  .of_wp fun prog w A R s h=>by
    obtain⟨hp,g,d,tk,os⟩:=s;obtain⟨hl,hb,h⟩:=h
    have f2:=AutoSeq1.sub_tuple_tuple
    have z1:items.size=ns.length:=by rw [← hi.length];simp
    have z2:items2.size=ms.length:=by rw [← hj.length];simp
    wp_walk using wpAny_loadPart' hl,wpAny_loadPart' hb,wpAny_forIn_list _ (fun rest b s'=>b.1=none∧s'=⟨hp,g,d,tk,os⟩ ∧ ∃ (vs ws:List Value) (ns' ms':List Int),rest=vs.zip ws ∧
      IntsAre vs ns'∧IntsAre ws ms'∧ns'.length + items2.size=ms'.length + items.size∧R (.ok (.ret (.bool (lexLt ns' ms')))) ⟨hp,g,d,tk,os⟩) _
    case turn =>
      rintro⟨y,x⟩ rest b s' ⟨hb',rfl,vs,ws,ns',ms',hz,hvi,hwi,hlen,hR⟩
      cases hvi with
      | nil=>rw [List.zip_nil_left] at hz;cases hz
      | cons a t hvi' =>
        cases hwi with
        | nil=>rw [List.zip_nil_right] at hz;cases hz
        | cons c u hwi' =>
          rw [List.zip_cons_cons] at hz
          injection hz with hyx hrest
          injection hyx with hy hx
          subst hy hx
          rw [AC] at hR
          simp only [List.length_cons] at hlen
          obtain⟨e,he,hiff⟩:=ES A.in1 ⟨hp,g,d,tk,os⟩ a t c u
          refine wpAny_bind (he prog w _ _ ?_)
          cases e with
          | true =>
            rw [if_pos (hiff.mp rfl)] at hR
            wp_walk
            exact⟨rfl,rfl,_,_,_,_,hrest,hvi',hwi',by omega,hR⟩
          | false =>
            rw [if_neg (fun q=>absurd (hiff.mpr q) Bool.false_ne_true)] at hR
            have hri:=ET A.in1 ⟨hp,g,d,tk,os⟩ a t c u prog w
            wp_walk using hri
            exact⟨_,rfl,by simpa using hR⟩
    case fin =>
      rintro⟨b1,b2⟩ s' ⟨hb',rfl,vs,ws,ns',ms',hz,hvi,hwi,hlen,hR⟩
      simp only at hb'
      subst hb'
      have hv:lexLt ns' ms'=decide (items.size < items2.size):=by
        cases hvi with
        | nil =>
          cases hwi with
          | nil =>
            simp only [List.length_nil] at hlen
            rw [qo]
            exact (decide_eq_false (by omega)).symm
          | cons c u hw =>
            simp only [List.length_nil,List.length_cons] at hlen
            rw [ox]
            exact (decide_eq_true (by omega)).symm
        | cons a t hv =>
          cases hwi with
          | nil =>
            simp only [List.length_nil,List.length_cons] at hlen
            rw [oy]
            exact (decide_eq_false (by omega)).symm
          | cons c u hw =>
            rw [List.zip_cons_cons] at hz
            cases hz
      rw [hv] at hR
      wp_walk
      exact⟨_,rfl,by simpa [Builtin.Tuple.tupleCompareSizes] using hR⟩
    case h =>
      exact⟨rfl,rfl,items.toList,items2.toList,ns,ms,rfl,hi,hj,by omega,h⟩
end
section
variable {prog:Program} {w:World} {A:Around} {E:Value→Shared→Prop} {s:Shared}
theorem lt_tupInts {l b:Addr}{items items2:Array Value}{ns ms:List Int}{Q:Value→Shared→Prop}(hl:IsTup s.heap l items)(hb:IsTup s.heap b items2)(hi:IntsAre items.toList ns)(hj:IntsAre items2.toList ms)
    (hu:A.units < cLine) (h:Q (.bool (lexLt ns ms)) s):wpAny (model prog w) A (compareOp .Lt (.ref l) (.ref b)) Q E s:=by
  obtain⟨⟨cls,dd,data,sl⟩,ho,hc,n,hd⟩:=id hl
  obtain⟨⟨cls2,dd2,data2,sl2⟩,ho2,hc2,n2,hd2⟩:=id hb
  simp only at hc hd hc2 hd2
  subst hc hd hc2 hd2
  exact richCompare_meets_room (op:=.Lt) ⟨_,ho,rfl⟩ ⟨_,ho2,rfl⟩ PySem.F.slot_tuple_lt PySem.F.entry_tuple_lt (PySem.F.args_tuple_lt_2 _ _) (qp l b items items2 n n2 dd dd2 sl sl2 ns ms hi hj)
    ⟨ho,ho2,show Value.bool (lexLt ns ms)≠Value.notImplemented∧Q (.bool (lexLt ns ms)) s from ⟨(fun x=>nomatch x),h⟩⟩ hu
theorem cat_tup {t b:Addr}{vs ws:List Value}{Q:Value→Shared→Prop}(ht:IsTup s.heap t vs.toArray)(hb:IsTup s.heap b ws.toArray)(hv:vs≠[])
    (h1:ws=[]→Q (.ref t) s) (h2:ws≠[]→Q (.ref s.heap.objs.size) { s with heap:=s.heap.push { cls:=.type "tuple",data:=.seq (vs++ws).toArray } })
    (hsz:vs.length + ws.length≤sizeLine):wpAny (model prog w) A (binaryOp .Add (.ref t) (.ref b)) Q E s:=by
  obtain⟨⟨cls,dd,data,sl⟩,ho,hc,n,hd⟩:=id ht
  obtain⟨⟨cls2,dd2,data2,sl2⟩,ho2,hc2,n2,hd2⟩:=id hb
  simp only at hc hd hc2 hd2
  subst hc hd hc2 hd2
  have e:vs.toArray++ws.toArray=(vs++ws).toArray:=by simp
  by_cases hw:ws=[]
  · exact concat_meets ⟨_,ho,rfl⟩ ⟨_,ho2,rfl⟩ noFill_tuple_add seq_tuple_add PySem.F.slot_tuple_add PySem.F.entry_tuple_add (PySem.F.args_tuple_add_2 _ _)
      (tuple_addW1 t b vs.toArray ws.toArray n n2 dd dd2 sl sl2 (by simpa using hv) (by simp [hw])) ⟨ho,ho2,h1 hw⟩
  · refine concat_meets ⟨_,ho,rfl⟩ ⟨_,ho2,rfl⟩ noFill_tuple_add seq_tuple_add PySem.F.slot_tuple_add PySem.F.entry_tuple_add (PySem.F.args_tuple_add_2 _ _)
      (tuple_addW2 t b vs.toArray ws.toArray n n2 dd dd2 sl sl2 (by simpa using hv) (by simpa using hw) (by rw [List.size_toArray,List.size_toArray];exact hsz)) ⟨ho,ho2,?_⟩
    rw [e]
    exact h2 hw
def sIx (n d:Nat):Option Int→Nat
  | none=>d
  | some v=>if v < 0 then (v + (n:Int)).toNat else min v.toNat n
theorem Jm (n d:Nat)(hd:d≤n)(o:Option Int):sIx n d o≤n:=by
  cases o with
  | none=>exact hd
  | some v =>
    show (if v < 0 then (v + (n:Int)).toNat else min v.toNat n)≤n
    by_cases hv:v < 0
    · rw [if_pos hv];omega
    · rw [if_neg hv];exact Nat.min_le_right _ _
theorem Co (v:Int)(n d:Nat):(if v < 0 then max (v + (n:Int)) 0 else min v (n:Int))=((sIx n d (some v):Nat):Int):=by
  show (if v < 0 then max (v + (n:Int)) 0 else min v (n:Int))=(((if v < 0 then (v + (n:Int)).toNat else min v.toNat n):Nat):Int)
  by_cases hv:v < 0
  · simp only [if_pos hv];omega
  · simp only [if_neg hv];omega
theorem AD (lo hi:Option Int)(n:Nat):Builtin.Slice.sliceAdjust lo hi 1 (n:Int)=(((sIx n 0 lo:Nat):Int),((sIx n n hi:Nat):Int)):=by
  have h1 : ¬ ((1:Int) < 0):=by omega
  unfold Builtin.Slice.sliceAdjust
  simp only [h1,if_false]
  refine Prod.ext ?_ ?_
  · cases lo with
    | none=>rfl
    | some v=>exact Co v n 0
  · cases hi with
    | none=>rfl
    | some v=>exact Co v n n
theorem AE (i j:Nat):Builtin.Slice.slicePlaces (i:Int) (j:Int) 1=j - i:=by
  unfold Builtin.Slice.slicePlaces
  have h1:(1:Int) > 0:=by omega
  simp only [h1,if_true,Int.ediv_one]
  split<;>omega
theorem oz {v:Value}{o:Option Int}{Q:Option Int→Shared→Prop}(p:IsPart v o)(h:Q o s):wpAny (model prog w) A (Builtin.Slice.slicePartIndex v) Q E s:=by
  cases p with
  | none=>exact slicePart_none h
  | int i t=>exact slicePart_int h
theorem gG {sl:Addr}{vl vu:Value}{lo hi:Option Int}{n:Nat}{Q:Int × Int × Nat→Shared→Prop}(hs:s.heap.IsSliceOf sl vl vu .none)(pl:IsPart vl lo)(pu:IsPart vu hi)
    (h:Q (((sIx n 0 lo:Nat):Int),1,sIx n n hi - sIx n 0 lo) s):wpAny (model prog w) A (Builtin.Slice.sliceApplied (.ref sl) (pure (n:Int))) Q E s:=by
  obtain⟨os,hos,hcs,hds⟩:=id hs
  unfold Builtin.Slice.sliceApplied Builtin.Slice.sliceFields
  refine wpAny_bind (wpAny_bind (wpAny_field hos hds (x:=vl) rfl (wpAny_bind (wpAny_field hos hds (x:=vu) rfl (wpAny_bind (wpAny_field hos hds (x:=.none) rfl (wpAny_pure ?_)))))))
  refine wpAny_bind (slicePart_none ?_)
  show wpAny _ _ (if ((1:Int) == 0)=true then _ else _) _ _ s
  rw [if_neg (by decide)]
  refine wpAny_bind (oz pl (wpAny_bind (oz pu (wpAny_bind (wpAny_pure ?_)))))
  show wpAny _ _ (match Builtin.Slice.sliceAdjust lo hi 1 (n:Int) with|(lo,hi)=>pure (lo,(1:Int),Builtin.Slice.slicePlaces lo hi 1)) _ _ s
  rw [AD lo hi n]
  show wpAny _ _ (pure (((sIx n 0 lo:Nat):Int),(1:Int),Builtin.Slice.slicePlaces ((sIx n 0 lo:Nat):Int) ((sIx n n hi:Nat):Int) 1)) _ _ s
  rw [AE]
  exact wpAny_pure h
theorem EU (xs:Array Value)(i k:Nat):((List.range k).filterMap fun (m:Nat)=>xs[((i:Int) + (m:Int) * 1).toNat]?).toArray=((xs.toList.drop i).take k).toArray:=by
  have e:(fun (m:Nat)=>xs[((i:Int) + (m:Int) * 1).toNat]?)=fun m=>xs[i + m]? := by
    funext m
    have:((i:Int) + (m:Int) * 1).toNat=i + m:=by omega
    rw [this]
  rw [e]
  have:=pick_run xs i k
  rw [List.filterMap_map] at this
  have e2:((fun x=>xs[x]?) ∘ fun x=>i + x)=fun m=>xs[i + m]? := rfl
  rw [e2] at this
  rw [this]
theorem getItem_tuple_cut {t sl:Addr}{items:Array Value}{vl vu:Value}{lo hi:Option Int}{Q:Value→Shared→Prop}(ht:IsTup s.heap t items)(hs:s.heap.IsSliceOf sl vl vu .none)(pl:IsPart vl lo)(pu:IsPart vu hi)
    (hw : ¬ (sIx items.size 0 lo=0∧sIx items.size items.size hi=items.size))
    (h:Q (.ref s.heap.objs.size) { s with heap:=s.heap.push { cls:=.type "tuple",data:=.seq ((items.toList.drop (sIx items.size 0 lo)).take (sIx items.size items.size hi - sIx items.size 0 lo)).toArray } })
    (hsz:items.size≤sizeLine):wpAny (model prog w) A (getItem (.ref t) (.ref sl)) Q E s:=by
  have htake:sizeOk (.seq ((items.toList.drop (sIx items.size 0 lo)).take (sIx items.size items.size hi - sIx items.size 0 lo)).toArray):=by
    show ((items.toList.drop (sIx items.size 0 lo)).take (sIx items.size items.size hi - sIx items.size 0 lo)).toArray.size≤sizeLine
    rw [List.size_toArray,List.length_take,List.length_drop,Array.length_toList]
    omega
  have hj:sIx items.size items.size hi≤items.size:=Jm _ _ (Nat.le_refl _) hi
  obtain⟨os,hos,hcs,hds⟩:=id hs
  have hTs:s.TypeIs (.ref sl) "slice" := ⟨os,hos,hcs⟩
  unfold getItem
  try with_reducible refine wpAny_holding ?_
  first|refine wpAny_bind (wpAny_pure ?_)|skip
  refine wpAny_bind (wpAny_sequenceKey ht.typeIs (by decide) ?_)
  refine wpAny_bind (wpAny_callSpecial?_slot (name:=Str.ofString "__getitem__") ht.typeIs PyProof.Rows.slot_tuple_getitem
    (wpAny_call_entry PyProof.Rows.slot_tuple_getitem ht.typeIs entry_tuple_getitem ?_ (args_tuple_getitem _ _)))
  show wpAny _ _ (Builtin.Tuple.tupleItemsOf (.ref t) >>= _) _ _ s
  refine wpAny_bind (tupleItemsOf_ ht ?_)
  refine wpAny_bind (wpAny_typeOf hTs ?_)
  rw [if_pos (by decide)]
  refine wpAny_bind (gG hs pl pu ?_)
  have hno : ¬ ((((sIx items.size 0 lo:Nat):Int) == 0 && (1:Int) == 1 && (sIx items.size items.size hi - sIx items.size 0 lo) == items.size)=true):=by
    intro q
    rw [Bool.and_eq_true,Bool.and_eq_true] at q
    have q1:((sIx items.size 0 lo:Nat):Int)=0:=eq_of_beq q.1.1
    have q2:sIx items.size items.size hi - sIx items.size 0 lo=items.size:=eq_of_beq q.2
    exact hw ⟨by omega,by omega⟩
  show wpAny _ _ (if (((sIx items.size 0 lo:Nat):Int) == 0 && (1:Int) == 1 && (sIx items.size items.size hi - sIx items.size 0 lo) == items.size)=true then _ else _) _ _ s
  rw [if_neg hno,EU]
  first
    | exact wpAny_bind (m:=Builtin.Tuple.tupleExact _) (wpAny_newObj_type (wpAny_pure ⟨_,rfl,wpAny_pure h⟩) htake)
    | exact wpAny_bind (m:=Builtin.Tuple.tupleExact _) (wpAny_newObj_type (wpAny_bind (wpAny_pure (wpAny_pure ⟨_,rfl,wpAny_pure h⟩))) htake)
    | exact wpAny_bind (wpAny_bind (m:=Builtin.Tuple.tupleExact _) (wpAny_newObj_type (wpAny_pure (wpAny_pure ⟨_,rfl,wpAny_pure h⟩)) htake))
    | exact wpAny_bind (wpAny_bind (m:=Builtin.Tuple.tupleExact _) (wpAny_newObj_type (wpAny_pure ⟨_,rfl,wpAny_pure h⟩) htake))
end
end HT
namespace L2
open PySem PySem.Spec PyProof.Rows
abbrev TO:=St→Hp→(Option Int→Hp→Prop)→Prop
def PO (X:Cx) (e:Option Expr) (t:TO):Prop :=
  ∀ (pins:List (Addr × Obj)) (s:Shared) (σ:St) (H:Hp) (Q:Option Int→Hp→Prop),Inv X pins σ H s→t σ H Q →
    wpAny (model X.prog X.w) X.A (evalPart e X.env) (fun u s'=>∃ o H',Inv X pins σ H' s'∧IsPart u o∧Q o H') X.xe s
def Hk:TO:=fun _ H Q=>Q none H
def Li (t:TE):TO:=fun σ H Q=>t σ H fun x H1=>∃ i,x=.int i∧Q (some i) H1
theorem ib {ns:List Int}:∀ {us:List Value},aN (ns.map V.int) us→IntsAre us ns:=by
  induction ns with
  | nil=>intro us r;rw [List.map_nil] at r;cases r;exact .nil
  | cons n ns ih =>
    intro us r
    rw [List.map_cons] at r
    cases r with
    | cons r1 r2 =>
      obtain⟨t,e⟩:=r1
      subst e
      exact .cons n t (ih r2)
section
variable {X:Cx} {e:Expr} {te:TE} {lo hi:Option Expr} {tl th:TO} {pos p2:Pos}
theorem Hl:PO X none Hk:=by
  intro pins s σ H Q I h
  rw [evalPart_none]
  exact wpAny_pure ⟨none,H,I,.none,h⟩
theorem Hm (h:PE X e te):PO X (some e) (Li te):=by
  intro pins s σ H Q I hw
  rw [evalPart_some]
  refine thn (h pins s σ H _ I hw) fun u s1 ⟨x,H1,I1,r1,q1⟩ => ?_
  obtain⟨i,rfl,q⟩:=q1
  obtain⟨t,rfl⟩:=r1
  exact⟨some i,H1,I1,.int i t,q⟩
def SlR (X:Cx) (r:V→Option Int→Option Int→Hp→VK→Prop):Prop :=
  ∀ (pins:List (Addr × Obj)) (s:Shared) (σ:St) (H:Hp) (x:V) (v vl vu:Value) (lo hi:Option Int) (sl:Addr) (Q:VK),Inv X pins σ H s→bq x v→s.heap.IsSliceOf sl vl vu .none→IsPart vl lo→IsPart vu hi→r x lo hi H Q →
    ∃ T id,typeLookup (.type T) "__getitem__" = pure (some (.builtin id))∧s.TypeIs v T∧wpAny (model X.prog X.w) X.A (getItem v (.ref sl)) (EP X pins σ Q) X.xe s
theorem SlR.or {r r':V→Option Int→Option Int→Hp→VK→Prop}(h:SlR X r)(h':SlR X r'):SlR X (fun x lo hi H Q=>r x lo hi H Q∨r' x lo hi H Q):=by
  intro pins s σ H x v vl vu lo hi sl Q I rx hs pl pu q
  rcases q with q|q
  · exact h pins s σ H x v vl vu lo hi sl Q I rx hs pl pu q
  · exact h' pins s σ H x v vl vu lo hi sl Q I rx hs pl pu q
def tSl (r:V→Option Int→Option Int→Hp→VK→Prop) (te:TE) (tl th:TO):TE:=fun σ H Q=>te σ H fun x H1=>tl σ H1 fun l H2=>th σ H2 fun u H3=>r x l u H3 Q
theorem oA {r:V→Option Int→Option Int→Hp→VK→Prop}(hr:SlR X r)(he:PE X e te)(hl:PO X lo tl)(hu:PO X hi th):PE X (.Subscript e (.Slice lo hi none p2) pos) (tSl r te tl th):=by
  intro pins s σ H Q I h
  refine Subscript_ (thn (he pins s σ H _ I h) fun v s1 ⟨x,H1,I1,r1,q1⟩ => ?_)
  refine wpAny_Slice (thn (hl pins s1 σ H1 _ I1 q1) fun vl s2 ⟨l,H2,I2,pl,q2⟩=>thn (hu pins s2 σ H2 _ I2 q2) fun vu s3 ⟨u,H3,I3,pu,q3⟩ => ?_)
  rw [evalPart_none]
  refine wpAny_pure ?_
  have I4:Inv X pins σ H3 { s3 with heap:=s3.heap.push { cls:=.type "slice",data:=.fields #[vl,vu,.none] } }:=I3.kept (t':=s3.toks) fun b ob q=>Heap.get?_push_of_some _ q
  obtain⟨T,id,hT,ht,hg⟩:=hr pins { s3 with heap:=s3.heap.push { cls:=.type "slice",data:=.fields #[vl,vu,.none] } } σ H3 x v vl vu l u s3.heap.objs.size Q I4 r1 (Heap.IsSliceOf.new ..) pl pu q3
  show wpAny (model X.prog X.w) X.A (subscriptTail e (.Slice lo hi none p2) v (.ref s3.heap.objs.size)) (EP X pins σ Q) X.xe { s3 with heap:=s3.heap.push { cls:=.type "slice",data:=.fields #[vl,vu,.none] } }
  exact tail_any (ops:=[.ref s3.heap.objs.size,v]) ht hT hg (by with_unfolding_all rfl)
def mj (xs:List V) (lo hi:Option Int):List V:=(xs.drop (HT.sIx xs.length 0 lo)).take (HT.sIx xs.length xs.length hi - HT.sIx xs.length 0 lo)
theorem ng (xs:List V)(lo hi:Option Int):(mj xs lo hi).length≤xs.length:=by
  unfold mj
  rw [List.length_take,List.length_drop]
  omega
def Mm (K:PySem.W.Frag):V→Option Int→Option Int→Hp→VK→Prop:=fun x lo hi H Q=>∃ a xs,x=.ref a∧SqT K H a xs ∧
  ¬ (HT.sIx xs.length 0 lo=0∧HT.sIx xs.length xs.length hi=xs.length) ∧ ∀ p,H p=none→Q (.ref p) (upd H p (.tup (mj xs lo hi)))
theorem EV:SlR X (Mm X.K):=by
  intro pins s σ H x v vl vu lo hi sl Q I rx hs pl pu h
  obtain⟨a,xs,rfl,hx,hw,q⟩:=h
  cases rx
  obtain⟨its,r,ht,hz⟩:=I.tuple hx
  have hlen:its.toArray.size=xs.length:=by rw [List.size_toArray];exact r.length.symm
  refine⟨"tuple",_,PyProof.Rows.slot_tuple_getitem.lookup,ht.typeIs,?_⟩
  refine HT.getItem_tuple_cut ht hs pl pu (by rw [hlen];exact hw) ?_ (by rw [hlen];exact hz)
  rw [hlen]
  refine⟨.ref s.heap.objs.size,_,I.laid (t':=s.toks) (o:=.tup (mj xs lo hi)) (fun b ob q=>Heap.get?_push_of_some _ q) (Nat.le_refl _) ?_,rfl,q _ (I.hok.fresh (Nat.le_refl _))⟩
  exact⟨Nat.le_trans (ng xs lo hi) hz,_,(r.drop (HT.sIx xs.length 0 lo)).take (HT.sIx xs.length xs.length hi - HT.sIx xs.length 0 lo),IsTup.new _ _⟩
def Lj (K:PySem.W.Frag):R2:=fun x y H Q=>∃ a b ns ms,x=.ref a∧y=.ref b∧SqT K H a (ns.map V.int)∧SqT K H b (ms.map V.int)∧Q (.bl (HT.lexLt ns ms)) H
theorem Jn (hu:X.A.units < cLine):OpR X (compareOp .Lt) (Lj X.K):=by
  intro pins s σ H x y v u Q I rx ry h
  obtain⟨a,b,ns,ms,rfl,rfl,ha,hb,q⟩:=h
  cases rx
  cases ry
  obtain⟨its,r1,p1,_⟩:=I.tuple ha
  obtain⟨its2,r2,p2,_⟩:=I.tuple hb
  have i1:IntsAre its.toArray.toList ns:=ib r1
  have i2:IntsAre its2.toArray.toList ms:=ib r2
  exact HT.lt_tupInts p1 p2 i1 i2 hu ⟨.bl (HT.lexLt ns ms),H,I,rfl,q⟩
def EW (K:PySem.W.Frag):R2:=fun x y H Q=>∃ a b xs ys,x=.ref a∧y=.ref b∧SqT K H a xs∧SqT K H b ys∧xs≠[]∧xs.length + ys.length≤sizeLine ∧
  (ys=[]→Q (.ref a) H)∧(ys≠[] → ∀ p,H p=none→Q (.ref p) (upd H p (.tup (xs++ys))))
theorem aN.nil_iff {xs:List V}{us:List Value}(r:aN xs us):us=[] ↔ xs=[]:=by
  cases r with
  | nil=>simp
  | cons _ _=>simp
theorem Hn:OpR X (binaryOp .Add) (EW X.K):=by
  intro pins s σ H x y v u Q I rx ry h
  obtain⟨a,b,xs,ys,rfl,rfl,ha,hb,hx,hz,q1,q2⟩:=h
  cases rx
  cases ry
  obtain⟨its,r1,p1,_⟩:=I.tuple ha
  obtain⟨its2,r2,p2,_⟩:=I.tuple hb
  refine HT.cat_tup p1 p2 (fun z=>hx (r1.nil_iff.mp z)) (fun z=>⟨.ref a,H,I,rfl,q1 (r2.nil_iff.mp z)⟩) (fun z => ?_) (by rw [← r1.length,← r2.length];exact hz)
  refine⟨.ref s.heap.objs.size,_,I.laid (t':=s.toks) (o:=.tup (xs++ys)) (fun b ob q=>Heap.get?_push_of_some _ q) (Nat.le_refl _) ?_,rfl,q2 (fun w=>z (r2.nil_iff.mpr w)) _ (I.hok.fresh (Nat.le_refl _))⟩
  exact⟨by rw [List.length_append];exact hz,_,r1.append r2,IsTup.new _ _⟩
end
end L2
namespace L2
open PySem PySem.Spec PyProof.Rows
def ixN (n:Nat) (i:Int):Option Nat:=if 0≤i then (if i < n then some i.toNat else none) else if -(n:Int)≤i then some (i + n).toNat else none
def atI {α : Type} (xs:List α) (i:Int):Option α := (ixN xs.length i).bind fun j=>xs[j]?
theorem Cp {n:Nat}{i:Int}{j:Nat}(h:ixN n i=some j):seqIndex? i n=some j∧j < n ∧ -(n:Int)≤i∧i < n:=by
  unfold ixN at h
  by_cases h0:0≤i
  · rw [if_pos h0] at h
    by_cases h1:i < n
    · rw [if_pos h1] at h
      have e:i.toNat=j:=Option.some.inj h
      exact⟨by rw [seqIndex_of h0 h1,e],by omega,by omega,h1⟩
    · rw [if_neg h1] at h;cases h
  · rw [if_neg h0] at h
    by_cases h1 : -(n:Int)≤i
    · rw [if_pos h1] at h
      have e:(i + n).toNat=j:=Option.some.inj h
      exact⟨by rw [seqIndex_neg (by omega) h1,e],by omega,h1,by omega⟩
    · rw [if_neg h1] at h;cases h
theorem uN {α : Type}{xs:List α}{i:Int}{v : α}(h:atI xs i=some v):∃ j,seqIndex? i xs.length=some j∧xs[j]? = some v∧j < xs.length ∧ -(xs.length:Int)≤i∧i < xs.length:=by
  unfold atI at h
  cases e:ixN xs.length i with
  | none=>rw [e] at h;cases h
  | some j =>
    rw [e] at h
    obtain⟨h1,h2,h3,h4⟩:=Cp e
    exact⟨j,h1,h,h2,h3,h4⟩
theorem c9 {α : Type}{xs:List α}{j:Nat}{v : α}(h:xs[j]? = some v):atI xs (j:Int)=some v:=by
  have hj:j < xs.length:=(List.getElem?_eq_some_iff.mp h).1
  have e:ixN xs.length (j:Int)=some j:=by
    unfold ixN
    rw [if_pos (by omega),if_pos (by omega)];simp
  unfold atI;rw [e];exact h
theorem x4 {α : Type}(xs:List α)(v : α):atI (xs++[v]) (-1)=some v:=by
  have hl:(xs++[v]).length=xs.length + 1:=by simp
  have e:ixN (xs++[v]).length (-1)=some xs.length:=by
    unfold ixN
    rw [hl,if_neg (by decide),if_pos (by omega)]
    congr 1
    omega
  unfold atI
  rw [e]
  show (xs++[v])[xs.length]? = some v
  simp
def nU (b:Expr):Prop:=∀ o i,subscripted b false o i=operate [o,i] (getItem o i)
def IxR (X:Cx) (r:R2):Prop :=
  ∀ (value slice:Expr) (pins:List (Addr × Obj)) (s:Shared) (σ:St) (H:Hp) (x y:V) (v u:Value) (Q:VK),Inv X pins σ H s→bq x v→bq y u→r x y H Q →
    subscripted slice false v u=operate [v,u] (getItem v u)→wpAny (model X.prog X.w) X.A (subscriptTail value slice v u) (EP X pins σ Q) X.xe s
def MtR (X:Cx) (id:String) (r:V→List V→Hp→VK→Prop):Prop :=
  ∀ (pins:List (Addr × Obj)) (s:Shared) (σ:St) (H:Hp) (x:V) (xs:List V) (v:Value) (us:List Value) (Q:VK),Inv X pins σ H s→bq x v→aN xs us→r x xs H Q →
    wpAny (model X.prog X.w) X.A (call (.builtin id) (v :: us)) (EP X pins σ Q) X.xe s
section
variable {X:Cx} {a b:Expr} {ta tb:TE} {pos:Pos}
theorem IxR.or {r r':R2}(h:IxR X r)(h':IxR X r'):IxR X (fun x y H Q=>r x y H Q∨r' x y H Q):=by
  intro value slice pins s σ H x y v u Q I rx ry q hs
  rcases q with q|q
  · exact h value slice pins s σ H x y v u Q I rx ry q hs
  · exact h' value slice pins s σ H x y v u Q I rx ry q hs
theorem EX {r:R2}(hr:IxR X r)(ha:PE X a ta)(hb:PE X b tb)(hs:nU b):PE X (.Subscript a b pos) (tOp r ta tb):=by
  intro pins s σ H Q I h
  exact Subscript_ (xX ha hb I h fun v u s2 x y H2 I2 rx ry q=>hr a b pins s2 σ H2 x y v u Q I2 rx ry q (hs _ _))
def Lk (K:PySem.W.Frag):R2:=fun x y H Q=>∃ p xs i v,x=.ref p∧y=.int i∧SqL K H p xs∧atI xs i=some v∧Q v H
def Ll (K:PySem.W.Frag):R2:=fun x y H Q=>∃ p xs i v,x=.ref p∧y=.int i∧SqT K H p xs∧atI xs i=some v∧Q v H
def Lm:R2:=fun x y H Q=>∃ z i c,x=.str z∧y=.int i∧z.length≤sizeLine∧atI z.cps.toList i=some c∧Q (.str ⟨#[c]⟩) H
theorem Cq:IxR X (Lk X.K):=by
  intro value slice pins s σ H x y v u Q I rx ry h hs
  obtain⟨p,xs,i,z,rfl,rfl,hq,he,q⟩:=h
  cases rx
  obtain⟨t,rfl⟩:=ry
  obtain⟨its,r,pl,hz⟩:=I.list hq
  obtain⟨j,h1,h2,h3,h4,h5⟩:=uN he
  obtain⟨w,ew,rw'⟩:=r.get h2
  have hl:=r.length
  have hn:=mi
  have fin:EP X pins σ Q w s:=⟨z,H,I,rw',q⟩
  by_cases h0:0≤i
  · have hj:i.toNat=j:=by
      rw [seqIndex_of h0 h5] at h1
      exact Option.some.inj h1
    exact item_listR pl.isList h0 (by omega) (by rw [hj];simpa using ew) fin hs
  · have hj:(i + (its.toArray.size:Int)).toNat=j:=by
      rw [seqIndex_neg (by omega) h4] at h1
      rw [List.size_toArray,← hl]
      exact Option.some.inj h1
    exact subscriptTail_builtinR (x:=w) pl.isList.typeIs slot_list_getitem.lookup
      (wpAny_getItem_list_neg (Q:=fun r s'=>r=w∧EP X pins σ Q r s') pl.isList (by omega) (by rw [List.size_toArray]<;>omega) (by omega) (by rw [hj];simpa using ew) ⟨rfl,fin⟩) hs
theorem Jo:IxR X (Ll X.K):=by
  intro value slice pins s σ H x y v u Q I rx ry h hs
  obtain⟨p,xs,i,z,rfl,rfl,hq,he,q⟩:=h
  cases rx
  obtain⟨t,rfl⟩:=ry
  obtain⟨its,r,pl,hz⟩:=I.tuple hq
  obtain⟨j,h1,h2,h3,h4,h5⟩:=uN he
  obtain⟨w,ew,rw'⟩:=r.get h2
  have hl:=r.length
  have hn:=mi
  have fin:EP X pins σ Q w s:=⟨z,H,I,rw',q⟩
  exact subscriptTail_builtinR (x:=w) pl.typeIs slot_tuple_getitem.lookup
    (getItem_tuple (j:=j) (Q:=fun r s'=>r=w∧EP X pins σ Q r s') pl (by omega) (by omega) (by rw [List.size_toArray,← hl];exact h1) (by simpa using ew) ⟨rfl,fin⟩) hs
theorem EY:IxR X Lm:=by
  intro value slice pins s σ H x y v u Q I rx ry h hs
  obtain⟨z,i,c,rfl,rfl,hz,he,q⟩:=h
  obtain⟨t,rfl⟩:=rx
  obtain⟨t',rfl⟩:=ry
  obtain⟨j,h1,h2,h3,h4,h5⟩:=uN he
  have hl:z.cps.toList.length=z.length:=by simp [Str.length]
  rw [hl] at h1 h4 h5
  have hn:=mi
  exact tail_any (typeIs_str s z t) slot_str_getitem.lookup (getItem_str (c:=c) (by
    have e1:decide (i < -(2 ^ 63:Int))=false:=decide_eq_false (by omega)
    have e2:decide (i ≥ 2 ^ 63)=false:=decide_eq_false (by omega)
    rw [e1,e2,Bool.or_false]) (by rw [h1];simpa using h2) ⟨.str ⟨#[c]⟩,H,I.tok _,⟨_,rfl⟩,q⟩) hs
def rIx (K:PySem.W.Frag):R2:=fun x y H Q=>Lk K x y H Q∨Ll K x y H Q∨Lm x y H Q
theorem Jp:IxR X (rIx X.K):=Cq.or (Jo.or EY)
theorem AF (its:List Value) (n j:Nat) (u:Value):Obj.mapSeq (·.setIfInBounds j u) { cls:=.type "list",data:=.seq its.toArray n } = { cls:=.type "list",data:=.seq (its.set j u).toArray n }:=by
  simp [Obj.mapSeq]
theorem Inv.lst {pins:List (Addr × Obj)}{σ:St}{H:Hp}{s:Shared}{p:Addr}{xs:List V}(I:Inv X pins σ H s)(h:H p=some (.lst xs)) :
    ∃ (its:List Value) (n:Nat),aN xs its∧s.heap.get? p=some { cls:=.type "list",data:=.seq its.toArray n } ∧ xs.length≤sizeLine:=by
  obtain⟨z,its,n,r,e⟩:=I.hok p _ h
  exact⟨its,n,r,e,z⟩
theorem Inv.lstUpd {pins:List (Addr × Obj)}{σ:St}{H:Hp}{s:Shared}{p:Addr}{xs ys:List V}{its its':List Value}{n n':Nat}{f:Obj→Obj}(I:Inv X pins σ H s)(h:H p=some (.lst xs))
    (ho:s.heap.get? p=some { cls:=.type "list",data:=.seq its.toArray n }) (hf:f { cls:=.type "list",data:=.seq its.toArray n } = { cls:=.type "list",data:=.seq its'.toArray n' }) (r:aN ys its') (hz:ys.length≤sizeLine) (t:Nat) :
    Inv X pins σ (upd H p (.lst ys)) { s with heap:=s.heap.update p f,toks:=t }:=by
  have e:(s.heap.update p f).get? p=some { cls:=.type "list",data:=.seq its'.toArray n' }:=by
    rw [Heap.get?_update_self f ho (by rw [hf]<;>rfl),hf]
  refine I.write (x:=p) (e:=p) (by rw [h];trivial) (.inl rfl) (fun b u hb q=>(Heap.get?_update_other _ _ (Ne.symm hb)).trans q) ⟨_,e⟩ ?_
  exact⟨hz,its',n',r,e⟩
def Ln:V→V→V→Hp→(Hp→Prop)→Prop:=fun o i v H Q=>∃ p xs k j,o=.ref p∧i=.int k∧H p=some (.lst xs)∧ixN xs.length k=some j∧Q (upd H p (.lst (xs.set j v)))
theorem EZ:Jb X Ln:=by
  intro pins s σ H o i v ov iv u Q I ro ri rv h
  obtain⟨p,xs,k,j,rfl,rfl,hp,hj,q⟩:=h
  cases ro
  obtain⟨t,rfl⟩:=ri
  obtain⟨its,n,r,ho,hz⟩:=I.lst hp
  obtain⟨h1,h2,h3,h4⟩:=Cp hj
  have hl:=r.length
  have hn:=mi
  have I':Inv X pins σ (upd H p (.lst (xs.set j v))) { s with heap:=s.heap.update p (Obj.mapSeq (·.setIfInBounds j u)) } :=
    I.lstUpd hp ho (AF its n j u) (r.set rv j) (by rw [List.length_set];exact hz) s.toks
  by_cases h0:0≤k
  · have hk:k.toNat=j:=by
      rw [seqIndex_of h0 h4] at h1
      exact Option.some.inj h1
    exact PySem.W.ki_setAt ho h0 (by omega) (by rw [List.size_toArray,← hl];exact h4) (by rw [hk];exact⟨_,I',q⟩)
  · have hk:(k + (its.toArray.size:Int)).toNat=j:=by
      rw [seqIndex_neg (by omega) h3] at h1
      rw [List.size_toArray,← hl]
      exact Option.some.inj h1
    exact PySem.W.ki_setBack ho (by omega) (by rw [List.size_toArray,← hl];exact h3) (by omega) (by rw [hk];exact⟨_,I',q⟩)
theorem uO (lo hi:Option Int)(n:Nat):(sliceBounds lo hi none n).1=((HT.sIx n 0 lo:Nat):Int)∧(sliceBounds lo hi none n).2.1=((HT.sIx n n hi:Nat):Int)∧(sliceBounds lo hi none n).2.2=1:=by
  refine⟨?_,?_,rfl⟩
  · cases lo with
    | none=>simp [sliceBounds,HT.sIx]
    | some i =>
      simp only [sliceBounds,HT.sIx,Option.getD_none,show (1:Int) > 0 by decide,if_true]
      by_cases h:i < 0
      · simp only [h,if_true]<;>omega
      · simp only [h,if_false]<;>omega
  · cases hi with
    | none=>simp [sliceBounds,HT.sIx]
    | some i =>
      simp only [sliceBounds,HT.sIx,Option.getD_none,show (1:Int) > 0 by decide,if_true]
      by_cases h:i < 0
      · simp only [h,if_true]<;>omega
      · simp only [h,if_false]<;>omega
theorem qq (its:List Value)(lo hi:Option Int):slicePick its.toArray lo hi none=((its.drop (HT.sIx its.length 0 lo)).take (HT.sIx its.length its.length hi - HT.sIx its.length 0 lo)).toArray:=by
  obtain⟨h1,h2,h3⟩:=uO lo hi its.toArray.size
  unfold slicePick
  rw [h1,h2,h3]
  simp only [sliceRange_one,pick_run,List.size_toArray]<;>rfl
def Lo (K:PySem.W.Frag):V→Option Int→Option Int→Hp→VK→Prop:=fun x lo hi H Q=>∃ a xs,x=.ref a∧SqL K H a xs ∧ ∀ p,H p=none→Q (.ref p) (upd H p (.lst (mj xs lo hi)))
theorem Ho:SlR X (Lo X.K):=by
  intro pins s σ H x v vl vu lo hi sl Q I rx hs pl pu h
  obtain⟨a,xs,rfl,hx,q⟩:=h
  cases rx
  obtain⟨its,r,ht,hz⟩:=I.list hx
  have hlen:=r.length
  refine⟨"list",_,slot_list_getitem.lookup,ht.isList.typeIs,?_⟩
  refine wpAny_getItem_list_slice ht.isList hs pl pu .none (by simp) ?_ (by rw [List.size_toArray]<;>omega)
  rw [qq,← hlen]
  refine⟨.ref s.heap.objs.size,_,I.laid (t':=s.toks) (o:=.lst (mj xs lo hi)) (fun b ob q=>Heap.get?_push_of_some _ q) (Nat.le_refl _) ?_,rfl,q _ (I.hok.fresh (Nat.le_refl _))⟩
  exact⟨Nat.le_trans (ng xs lo hi) hz,_,0,(r.drop (HT.sIx xs.length 0 lo)).take (HT.sIx xs.length xs.length hi - HT.sIx xs.length 0 lo),Heap.get?_push_size _ rfl⟩
theorem uP:fF X (.builtin "len") (fun xs H Q=>∃ p ys,xs=[.ref p]∧(SqL X.K H p ys∨SqT X.K H p ys)∧Q (.int ys.length) H):=by
  intro pins s σ H xs us Q I r h
  obtain⟨p,ys,rfl,hq,q⟩:=h
  obtain⟨u,rfl,rx⟩:=xY r
  cases rx
  have hn:=mi
  rcases hq with hq|hq
  · obtain⟨its,r',pl,hz⟩:=I.list hq
    have hlen:=r'.length
    exact Calls.call_len_list pl.isList (by simp only [List.size_toArray]<;>omega) ⟨.int ys.length,H,I.tok _,⟨s.toks + 1,by rw [List.size_toArray,hlen]⟩,q⟩
  · obtain⟨its,r',pl,hz⟩:=I.tuple hq
    have hlen:=r'.length
    exact len_tuple pl (by simp only [List.size_toArray]<;>omega) ⟨.int ys.length,H,I.tok _,⟨s.toks + 1,by rw [List.size_toArray,hlen]⟩,q⟩
theorem uQ:fF X (.builtin "len") (fun xs H Q=>∃ z,xs=[.str z]∧z.length≤sizeLine∧Q (.int z.length) H):=by
  intro pins s σ H xs us Q I r h
  obtain⟨z,rfl,hz,q⟩:=h
  obtain⟨u,rfl,t,rfl⟩:=xY r
  have hn:=mi
  exact len_str (by omega) ⟨.int z.length,H,I.tok _,⟨_,rfl⟩,q⟩
theorem uR:fF X (.type "list") (fun xs H Q=>∃ p ys,xs=[.ref p]∧(SqL X.K H p ys∨SqT X.K H p ys) ∧ ∀ l,H l=none→Q (.ref l) (upd H l (.lst ys))):=by
  intro pins s σ H xs us Q I r h
  obtain⟨p,ys,rfl,hq,q⟩:=h
  obtain⟨u,rfl,rx⟩:=xY r
  cases rx
  have fin:∀ (its:List Value),aN ys its→ys.length≤sizeLine → ∀ (h':Heap) (c':Nat),(∀ b o',s.heap.get? b=some o'→h'.get? b=some o') →
      h'.get? s.heap.objs.size=some { cls:=.type "list",dict:=none,data:=.seq its.toArray c',slots := #[] } → EP X pins σ Q (.ref s.heap.objs.size) { s with heap:=h' }:=fun its r' hz h' c' kp e =>
    ⟨.ref s.heap.objs.size,_,I.laid (t':=s.toks) kp (Nat.le_refl _) (show dE X.prog X.w _ h' _ (.lst ys) from ⟨hz,its,c',r',e⟩),rfl,q _ (I.hok.fresh (Nat.le_refl _))⟩
  rcases hq with hq|hq
  · obtain⟨its,r',pl,hz⟩:=I.list hq
    have hlen:=r'.length
    obtain⟨o,ho,hc,n,hd⟩:=pl.isList
    exact call_list_seq p (.inl rfl) ho hc hd (fun h' c' kp e=>fin its r' hz h' c' kp e) (by simp only [List.size_toArray]<;>omega)
  · obtain⟨its,r',pl,hz⟩:=I.tuple hq
    have hlen:=r'.length
    obtain⟨o,ho,hc,n,hd⟩:=pl
    exact call_list_seq p (.inr rfl) ho hc hd (fun h' c' kp e=>fin its r' hz h' c' kp e) (by simp only [List.size_toArray]<;>omega)
theorem qt:fF X (.type "tuple") (fun xs H Q=>∃ p ys,xs=[.ref p]∧((SqL X.K H p ys ∧ ∀ l,H l=none→Q (.ref l) (upd H l (.tup ys)))∨(SqT X.K H p ys∧Q (.ref p) H))):=by
  intro pins s σ H xs us Q I r h
  obtain⟨p,ys,rfl,h⟩:=h
  obtain⟨u,rfl,rx⟩:=xY r
  cases rx
  rcases h with ⟨hq,q⟩|⟨hq,q⟩
  · obtain⟨its,r',pl,hz⟩:=I.list hq
    have hlen:=r'.length
    refine call_tuple_list pl.isList (fun h' kp => ?_) (by simp only [List.size_toArray]<;>omega)
    have I1:Inv X pins σ H { s with heap:=h' }:=I.kept (t':=s.toks) kp
    have I2:Inv X pins σ (upd H h'.objs.size (.tup ys)) { s with heap:=h'.push { cls:=.type "tuple",data:=.seq its.toArray } } :=
      I1.laid (t':=s.toks) (fun b o e=>Heap.get?_push_of_some _ e) (Nat.le_refl _) (show dE X.prog X.w _ _ _ (.tup ys) from ⟨hz,its,r',IsTup.new _ _⟩)
    exact⟨.ref h'.objs.size,_,I2,rfl,q _ (I1.hok.fresh (Nat.le_refl _))⟩
  · obtain⟨its,r',pl,hz⟩:=I.tuple hq
    exact call_tuple_same pl ⟨.ref p,H,I,rfl,q⟩
def tyV (K:PySem.W.Frag) (T:String) (x:V) (H:Hp):Prop:=match x with
  | .str _=>T = "str"
  | .int _=>T = "int"
  | .ref p=>(T = "list" ∧ ∃ xs,SqL K H p xs)∨(T = "tuple" ∧ ∃ o,K.lookup p=some o∧o.cls=.type "tuple" ∧ o.dict=none) ∨
      (T = "dict" ∧ ((∃ kvs,H p=some (.dK kvs)) ∨ ∃ kvs,H p=some (.dT kvs)))∨(T = "set" ∧ ∃ S n,H p=some (.set S n))
  | _=>False
theorem Jq {pins:List (Addr × Obj)}{σ:St}{H:Hp}{s:Shared}{T:String}{x:V}{v:Value}(I:Inv X pins σ H s)(r:bq x v)(ty:tyV X.K T x H) :
    s.TypeIs v T ∧ ∀ a,v=.ref a → ∃ ob,s.heap.get? a=some ob∧ob.dict=none:=by
  cases x with
  | str z =>
    obtain⟨t,rfl⟩:=r
    cases (show T = "str" from ty)
    exact⟨typeIs_str s z t,fun _ e=>nomatch e⟩
  | int i =>
    obtain⟨t,rfl⟩:=r
    cases (show T = "int" from ty)
    exact⟨typeIs_int s i t,fun _ e=>nomatch e⟩
  | ref p =>
    cases r
    rcases ty with ⟨rfl,xs,hq⟩|⟨rfl,o,hk,hc,hd⟩|⟨rfl,hk⟩|⟨rfl,S,n,hk⟩
    · obtain⟨its,_,pl,_⟩:=I.list hq
      refine⟨pl.isList.typeIs,fun a e => ?_⟩
      cases e
      obtain⟨o,n,e,c,hd,_⟩:=pl
      exact⟨o,e,hd⟩
    · refine⟨⟨o,I.kIn p o hk,hc⟩,fun a e => ?_⟩
      cases e
      exact⟨o,I.kIn _ o hk,hd⟩
    · have z:∃ o,s.heap.get? p=some o∧o.ExactDict:=by
        rcases hk with ⟨kvs,hk⟩|⟨kvs,hk⟩
        · obtain⟨_,_,_,_,o,_,_,e,ex,_⟩:=I.hok p _ hk
          exact⟨o,e,ex⟩
        · obtain⟨_,_,_,_,o,_,_,e,ex,_⟩:=I.hok p _ hk
          exact⟨o,e,ex⟩
      obtain⟨o,e,ex⟩:=z
      refine⟨⟨o,e,ex.1⟩,fun a e2 => ?_⟩
      cases e2
      exact⟨o,e,ex.2.1⟩
    · obtain⟨o,_,_,_,e,ex,_⟩:=I.hok p _ hk
      refine⟨⟨o,e,ex.1⟩,fun a e2 => ?_⟩
      cases e2
      exact⟨o,e,ex.2.1⟩
  | _=>exact False.elim ty
def tBM (K:PySem.W.Frag) (T:String) (r:V→List V→Hp→VK→Prop) (to:TE) (t:TA):TE:=fun σ H Q=>to σ H fun x H1=>tyV K T x H1∧t σ H1 fun xs H2=>r x xs H2 Q
variable {o e:Expr} {es:List Expr} {to:TE} {t:TA} {name:Str} {apos cpos:Pos} {T id:String} {r:V→List V→Hp→VK→Prop}
theorem oC (pa:PlainAttrs T) (slot:Slot T name id) (hty:typeOf (.builtin id)=pure (.type "method_descriptor")) (hm:MtR X id r) (ho:PE X o to) (ha:PA X (e :: es) t)
    (hbase:attributeBase o name X.env (eval o X.env)=eval o X.env:=by rfl)
    (hfew:((backTo cpos (starEach (e :: es) X.env)).all (fun x => !x.1) && (backToKw cpos (keywordEach [] X.env)).all (fun x=>x.1.isSome)
      && decide ((e :: es).length + ([] : List Keyword).length + (if ([] : List Keyword).isEmpty then 0 else 1) < 30))=true:=by rfl)
    (hline:(apos.endLine == cpos.line)=true:=by rfl) (hs:starEach (e :: es) X.env=(false,eval e X.env) :: starEach es X.env:=by rfl) (hplain:(backTo cpos (starEach es X.env)).any (·.1)=false:=by rfl) :
    PE X (.Call (.Attribute o name apos) (e :: es) [] cpos) (tBM X.K T r to t):=by
  intro pins s σ H Q I h
  refine wpAny_Call_method_late hbase hfew hline rfl (thn (ho pins s σ H _ I h) fun v s1 ⟨x,H1,I1,r1,ty,q1⟩ => ?_)
  obtain⟨h1,h2⟩:=Jq I1 r1 ty
  refine⟨T,id,pa,slot,hty,h1,h2,?_⟩
  have hA:=ha cpos pins s1 σ H1 _ I1 q1
  rw [hs] at hA ⊢
  refine Calls.callWith_builtin (by show (false || (backTo cpos (starEach es X.env)).any (·.1))=false;rw [hplain]<;>rfl) (Calls.evalArgs_plain ?_)
  exact thn hA fun us s2 ⟨vs,H2,I2,r2,q2⟩=>hm pins s2 σ H2 x vs v us Q I2 r1 r2 q2
end
end L2
namespace L2
open PySem PySem.Spec PyProof.Rows
def MtM (X:Cx) (id:String) (r:V→List V→Hp→VK→Prop):Prop :=
  ∀ (pins:List (Addr × Obj)) (s:Shared) (σ:St) (H:Hp) (x:V) (xs:List V) (v:Value) (us:List Value) (Q:VK),Inv X pins σ H s→bq x v→aN xs us→r x xs H Q →
    wpAny (model X.prog X.w) X.A (call (.builtin id) (v :: us)) (EP X pins σ Q) X.xe s
theorem aN.one:∀ {x:V} {us:List Value},aN [x] us → ∃ u,us=[u]∧bq x u
  | _,_,.cons r .nil=>⟨_,rfl,r⟩
theorem aN.two:∀ {x y:V} {us:List Value},aN [x,y] us → ∃ u v,us=[u,v]∧bq x u∧bq y v
  | _,_,_,.cons r (.cons q .nil)=>⟨_,_,rfl,r,q⟩
theorem aN.rep {xs:List V}{us:List Value}(h:aN xs us):∀ k:Nat,aN (List.replicate k xs).flatten (List.replicate k us).flatten
  | 0=>.nil
  | k + 1=>by
    rw [List.replicate_succ,List.replicate_succ,List.flatten_cons,List.flatten_cons]
    exact aN.append h (aN.rep h k)
theorem tO (its:List Value):∀ (k:Nat) (acc:List Value),
    List.foldl (fun x1 x2=>x1++x2) acc.toArray (List.replicate k its.toArray)=(acc++(List.replicate k its).flatten).toArray
  | 0,acc=>by simp
  | k + 1,acc=>by
    have e:acc.toArray++its.toArray=(acc++its).toArray:=by simp
    have e2:(acc++its)++(List.replicate k its).flatten=acc++(List.replicate (k + 1) its).flatten:=by
      rw [List.replicate_succ,List.flatten_cons,List.append_assoc]
    rw [← e2,← tO its k (acc++its),← e,List.replicate_succ,List.foldl_cons]
section
variable {X:Cx} {pins:List (Addr × Obj)} {σ:St} {H:Hp} {s:Shared} {l b:Addr} {xs ys zs:List V}
theorem Inv.lset {its its':List Value}{n:Nat}{f:Array Value→Array Value}{t':Nat}(I:Inv X pins σ H s)(hH:H l=some (.lst xs))
    (e:s.heap.get? l=some { cls:=.type "list",data:=.seq its.toArray n }) (hf:f its.toArray=its'.toArray) (hv:aN ys its') (hz:ys.length≤sizeLine) :
    Inv X pins σ (upd H l (.lst ys)) { s with heap:=s.heap.update l (Obj.mapSeq f),toks:=t' }:=by
  have q:=PySem.IsL.update e f
  rw [hf] at q
  refine I.write (x:=l) (e:=l) (by rw [hH];exact trivial) (.inl rfl) (fun b' u hb hu=>(Heap.get?_update_other s.heap (Obj.mapSeq f) (Ne.symm hb)).trans hu) ⟨_,q⟩ ?_
  exact⟨hz,its',_,hv,q⟩
theorem Inv.lnew {its:List Value}{t':Nat}(I:Inv X pins σ H s)(hv:aN ys its)(hz:ys.length≤sizeLine) :
    Inv X pins σ (upd H s.heap.objs.size (.lst ys)) { s with heap:=s.heap.push { cls:=.type "list",data:=.seq its.toArray },toks:=t' } :=
  I.laid (fun _ _ q=>Heap.get?_push_of_some _ q) (Nat.le_refl _) ⟨hz,its,0,hv,Heap.get?_push_size _ rfl⟩
theorem Inv.fresh (I:Inv X pins σ H s):H s.heap.objs.size=none:=I.hok.fresh (Nat.le_refl _)
theorem Inv.lstM (I:Inv X pins σ H s) (hH:H l=some (.lst xs)):xs.length≤sizeLine ∧ ∃ (its:List Value) (n:Nat),aN xs its∧xs.length=its.length∧s.heap.get? l=some { cls:=.type "list",data:=.seq its.toArray n }:=by
  obtain⟨z,its,n,r,e⟩:=I.hok l _ hH
  exact⟨z,its,n,r,r.length,e⟩
theorem x5 {n:Nat}(h:n≤sizeLine):Builtin.List.listTooLong n=false:=by
  unfold Builtin.List.listTooLong
  exact decide_eq_false (by omega)
end
section
variable {X:Cx}
def Hq:V→List V→Hp→VK→Prop:=fun x vs H Q=>∃ l xs y,x=.ref l∧vs=[y]∧H l=some (.lst xs)∧xs.length < sizeLine∧Q .non (upd H l (.lst (xs++[y])))
theorem tP:MtM X "list.append" Hq:=by
  intro pins s σ H x vs v us Q I rx rv h
  obtain⟨l,xs,y,rfl,rfl,hH,hz,q⟩:=h
  cases rx
  obtain⟨u,rfl,ru⟩:=rv.one
  obtain⟨z,its,n,r,hl,e⟩:=I.lstM hH
  refine call_meets F.slot_list_append ⟨_,e,rfl⟩ F.entry_list_append (F.args_list_append_2 _ _) (PySem.list_append l its.toArray n u (by rw [List.size_toArray];omega)) ⟨e,?_⟩
  refine⟨.non,_,I.lset (its':=its++[u]) hH e (by simp) (r.append (.cons ru .nil)) ?_,rfl,q⟩
  rw [List.length_append,List.length_singleton]
  omega
def Hr:V→List V→Hp→VK→Prop:=fun x vs H Q=>∃ l b xs zs,x=.ref l∧vs=[.ref b]∧H l=some (.lst xs)∧H b=some (.lst zs)∧xs.length + zs.length≤sizeLine∧Q .non (upd H l (.lst (xs++zs)))
theorem tQ:MtM X "list.extend" Hr:=by
  intro pins s σ H x vs v us Q I rx rv h
  obtain⟨l,b,xs,zs,rfl,rfl,hH,hB,hz,q⟩:=h
  cases rx
  obtain⟨u,rfl,ru⟩:=rv.one
  cases ru
  obtain⟨z,its,n,r,hl,e⟩:=I.lstM hH
  obtain⟨z2,its2,n2,r2,hl2,e2⟩:=I.lstM hB
  have hsz:its.toArray.size + its2.toArray.size≤sizeLine:=by rw [List.size_toArray,List.size_toArray];omega
  have hlong : ¬ (!its.toArray.isEmpty && Builtin.List.listTooLong (its.toArray.size + its2.toArray.size))=true:=by
    rw [x5 hsz,Bool.and_false]
    exact Bool.false_ne_true
  refine call_meets F.slot_list_extend ⟨_,e,rfl⟩ F.entry_list_extend (F.args_list_extend_2 _ _)
    (AutoSeq1.list_extend_list_list_0 l its.toArray n b its2.toArray n2 hlong (by rw [List.size_toArray];omega) (by omega)) ⟨e,e2,?_⟩
  refine⟨.non,_,I.lset (its':=its++its2) hH e (by simp) (r.append r2) ?_,rfl,q⟩
  rw [List.length_append]
  omega
def Mn:R2:=fun x y H Q=>∃ l b xs zs,x=.ref l∧y=.ref b∧H l=some (.lst xs)∧H b=some (.lst zs)∧xs.length + zs.length≤sizeLine ∧ ∀ p,H p=none→Q (.ref p) (upd H p (.lst (xs++zs)))
theorem Jr:OpR X (binaryOp .Add) Mn:=by
  intro pins s σ H x y v u Q I rx ry h
  obtain⟨l,b,xs,zs,rfl,rfl,hH,hB,hz,q⟩:=h
  cases rx
  cases ry
  obtain⟨z,its,n,r,hl,e⟩:=I.lstM hH
  obtain⟨z2,its2,n2,r2,hl2,e2⟩:=I.lstM hB
  refine PySem.P.add_list e e2 ?_ (by rw [List.size_toArray,List.size_toArray];omega)
  have ea:its.toArray++its2.toArray=(its++its2).toArray:=by simp
  rw [ea]
  exact⟨.ref _,_,I.lnew (t':=s.toks) (r.append r2) (by rw [List.length_append];omega),rfl,q _ I.fresh⟩
def Mo:R2:=fun x y H Q=>∃ l k xs,x=.ref l∧y=.int k∧H l=some (.lst xs) ∧ -(2 ^ 63)≤k∧k < 2 ^ 63∧xs.length * k.toNat≤sizeLine ∧
  ∀ p,H p=none→Q (.ref p) (upd H p (.lst (List.replicate k.toNat xs).flatten))
theorem Hs {α : Type}(xs:List α)(k:Nat):(List.replicate k xs).flatten.length=k * xs.length:=by
  induction k with
  | zero=>simp
  | succ k ih=>rw [List.replicate_succ,List.flatten_cons,List.length_append,ih,Nat.succ_mul,Nat.add_comm]
theorem Js:OpR X (binaryOp .Mult) Mo:=by
  intro pins s σ H x y v u Q I rx ry h
  obtain⟨l,k,xs,rfl,rfl,hH,h1,h2,hz,q⟩:=h
  cases rx
  obtain⟨t,rfl⟩:=ry
  obtain⟨z,its,n,r,hl,e⟩:=I.lstM hH
  have hlen:its.toArray.size * k.toNat≤sizeLine:=by rw [List.size_toArray,← hl];exact hz
  have hcap : ¬ its.toArray.size * k.toNat > (2 ^ 63 - 1) / 8:=by
    have:(sizeLine:Nat)≤(2 ^ 63 - 1) / 8:=by decide
    omega
  have hfit : ¬ (!Builtin.List.listFitsIndex k)=true:=by
    rw [fitsIndex_both h1 h2]
    exact Bool.false_ne_true
  have hlong : ¬ Builtin.List.listTooLong (its.toArray.size * k.toNat)=true:=by
    rw [x5 hlen]
    exact Bool.false_ne_true
  have hnew:List.foldl (fun x1 x2=>x1++x2) #[] (List.replicate (if its.toArray.isEmpty=true then 0 else k.toNat) its.toArray)=(List.replicate k.toNat its).flatten.toArray:=by
    have f0:∀ m:Nat,List.foldl (fun x1 x2=>x1++x2) #[] (List.replicate m its.toArray)=(List.replicate m its).flatten.toArray:=fun m=>by
      have:=tO its m []
      rw [List.nil_append] at this
      exact this
    rw [f0]
    cases its with
    | nil=>simp
    | cons a r'=>rw [if_neg (by simp)]
  refine wpAny_binaryOp_repeat_ref (T := "list") (U := "int") (by decide) ⟨_,e,rfl⟩ (fun s'=>typeIs_int s' k t) noFill_list_mul F.fills_int_mul F.slot_int_rmul repeat_list F.slot_int_index.lookup
    (call_meets F.slot_int_rmul (typeIs_int s k t) F.entry_int_rmul (F.args_int_rmul_2 _ _) (int___rmul___int_list k t l its.toArray n)
      ⟨e,rfl,⟨_,e,rfl⟩,call_meets F.slot_list_mul ⟨_,e,rfl⟩ F.entry_list_mul (F.args_list_mul_2 _ _) (AutoListH.list___mul___list_int_3 l its.toArray n k t hfit hcap hlong) ⟨e,?_⟩⟩)
  rw [hnew]
  exact⟨.ref _,_,I.lnew (t':=s.toks) (r.rep k.toNat) (by rw [Hs,Nat.mul_comm];exact hz),rfl,q _ I.fresh⟩
end
section
variable {prog:Program} {w:World} {A:Around} {E:Value→Shared→Prop} {s:Shared}
end
section
variable {X:Cx}
end
end L2
namespace Att
open PySem PySem.W PySem.Calls PyProof.Rows
theorem nR {P:Params}{h:Heap}:∀ (ns:List Int) (vs:List Value),WellAll P h vs (ns.map WData.int)→IntsAre vs ns:=by
  intro ns
  induction ns with
  | nil =>
    intro vs w
    rw [List.map_nil] at w
    cases w
    exact .nil
  | cons n ns ih =>
    intro vs w
    rw [List.map_cons] at w
    cases w with
    | cons a b =>
      cases a
      exact .cons _ _ (ih _ b)
theorem Dj {l:OpenLaw}{n:Nat}(hn:l.most=some n){P:Params}{h:Heap}{args:List WData}{vals:List Value}
    (hpre:l.row.toRowW.claim.pre args=true) (hwl:WellAll P h vals args) :
    ∃ a vs ns,vals=[Value.ref a]∧args=[WData.list (ns.map WData.int)]∧h.get? a=some { cls:=.type "list",data:=.seq vs.toArray } ∧ IntsAre vs ns∧ns.length≤n:=by
  have hsh:WShape.hasAll [] args [.list .int] = true:=(pre_splitW hpre).1
  have hc:l.pre.holds [] { args:=args } = true:=(pre_splitW hpre).2
  obtain⟨d,r,rfl,h1,h2⟩:=hasAllW_cons hsh
  obtain rfl:=hasAllW_nil h2
  obtain⟨xs,rfl,h3⟩:=hasW_list h1
  obtain⟨ns,rfl⟩:=items_int h3
  have hlen:ns.length≤n:=by
    unfold OpenLaw.pre at hc
    have h4:(WTm.not (.lt (.lit (.int (n:Int))) (.len (.arg 0)))).holds [] { args:=[.list (ns.map .int)] } = true:=by
      have h4:=(holds_andW hc).1
      rw [hn] at h4
      exact h4
    have h5:=condW_of h4 (w_not (w_lt w_lit (w_len_list (w_arg rfl))))
    rw [List.length_map] at h5
    refine Nat.le_of_not_lt fun q => ?_
    have q':(n:Int) < ((ns.length:Nat):Int):=by omega
    first
      | (rw [decide_eq_true q'] at h5;exact absurd h5 (by decide))
      | (simp at h5;omega)
  cases hwl with
  | cons w1 w2 =>
    cases w2
    cases w1 with
    | list ho hall=>exact⟨_,_,ns,rfl,rfl,ho,nR ns _ hall,hlen⟩
theorem Dk (l:OpenLaw)(args:List WData):l.row.toRowW.claim.post args (.bool true) args=true :=
  postW_of (r:=l.row.toRowW) (X:=(true == true))
    (show WShape.has [] (.bool true) .bool=true by first|rfl|decide|simp [WShape.has,WShape.arms,WShape.armsAll])
    (show (WTm.eq .res (.lit (.bool true))).value [] { args:=args,res:=some (.bool true),after:=args } = some (.bool (true == true)) from w_eq_bool (w_res rfl) w_lit) rfl
theorem attach_call {l:OpenLaw}{n:Nat}{q:Program}{loose:List Str}{XP:(Str→Option Value)→Heap→Prop}{YP:World→Heap→Prop}{d:DefRec}
    (hn:l.most=some n) (hdf:d.params.defaults=[])
    (call:∀ (w:World) (s₀ s₁ : Shared) (mg mb:Str→Option Value) (fa:Addr) (o:Obj) (pm cd doc:Value) (a:Addr) (vs:List Value) (ns:List Int),
      Ground q loose [] XP w s₀ mg mb s₁.heap→YP w s₁.heap →
      s₁.heap.get? fa=some o→o.data=.func (docDef d.name d.params d.body d.scope pm cd doc)→s₁.heap.CodeRec cd d.name→mg d.name=some (.ref fa) →
      s₁.heap.get? a=some { cls:=.type "list",data:=.seq vs.toArray } → IntsAre vs ns→ns.length≤n→s₁.gens = #[] →
      codeAny (model l.prog w) callerA (.call (.ref fa) ⟨[.ref a],[]⟩) (fun r s'=>r=.ok (.ret (.bool true))∧OldK s₁.heap s'.heap∧s'.os=s₁.os∧AllBare s'.gens) s₁) :
    WalkO q loose XP YP l.row.toRowW d [] (fun f vs=>PySem.call f vs):=by
  intro w s₀ s₁ mg mb G Y fa o pm cd doc dV kV ho hd hcd hD hmg hg args vals as hpre hlay hrd hwl hlo
  obtain rfl:dV=.none:=Dflts.none hD hdf
  obtain rfl:kV=.none:=Dflts.noKw hD
  obtain⟨a,vs,ns,rfl,rfl,hobj,hints,hlen⟩:=Dj hn hpre hwl
  refine enter_call (codeAny_mono (call w s₀ s₁ mg mb fa o pm cd doc a vs ns G Y ho (fd_plain hd) hcd hmg hobj hints hlen hg) fun r s' hq => ?_)
  obtain⟨rfl,h2,h3,h4⟩:=hq
  exact⟨.inl ⟨.bool true,.bool true,[],rfl,fun _=>rfl,.bool true,Dk l _,fun _=>⟨List.Pairwise.nil,fun _ hm=>(nomatch hm)⟩⟩,h2,h3,h4⟩
section
variable {prog:Program} {w:World} {A:Around} {E:Value→Shared→Prop} {s:Shared} {K:Frag}
def noObjs (h:Heap):Heap:={ h with objs := #[] }
theorem noObjs_get (h:Heap)(b:Addr):(noObjs h).get? b=none:=by
  cases e:(noObjs h).get? b with
  | none=>rfl
  | some o=>exact absurd (Heap.lt_size e) (Nat.not_lt_zero _)
def ledger (h:Heap) (L d:Addr):List (Addr × Obj):=(List.range h.objs.size).filterMap fun a=>if a=L∨a=d then none else (h.get? a).map fun o=>(a,o)
theorem mem_ledger {h:Heap}{L d a:Addr}{o:Obj}:(a,o)∈ledger h L d ↔ a≠L∧a≠d∧h.get? a=some o:=by
  unfold ledger
  rw [List.mem_filterMap]
  constructor
  · rintro⟨b,_,e⟩
    split at e
    · cases e
    · rename_i hb
      obtain⟨o',ho,e'⟩:=Option.map_eq_some_iff.mp e
      cases e'
      exact⟨fun q=>hb (.inl q),fun q=>hb (.inr q),ho⟩
  · rintro⟨n1,n2,ho⟩
    refine⟨a,List.mem_range.mpr (Heap.lt_size ho),?_⟩
    rw [if_neg (show ¬ (a=L∨a=d) from fun q=>q.elim n1 n2),ho]<;>rfl
theorem fr_all {h:Heap}{L:Addr}{m:Str→Option Value}(n:h.Ns L m):Fr (noObjs h) L h m :=
  ⟨n,fun b o e=>(by rw [noObjs_get] at e;cases e),Nat.zero_le _⟩
end
end Att
namespace L2
open PySem PySem.Spec PyProof.Rows
theorem tR:∀ {vs:List Value} {ns:List Int},IntsAre vs ns→aN (ns.map V.int) vs
  | _,_,.nil=>.nil
  | _,_,.cons n t h=>.cons ⟨t,rfl⟩ (tR h)
def Jt (H:Hp):Prop:=∀ b,H b=none ∨ ∃ o xs,H b=some (.frz o (.lst xs))
theorem E3 {P:Program}{w:World}{K:PySem.W.Frag}{mg mb:Str→Option Value}{CX:CXT}{k:Nat}{fa a:Addr}{fd:FuncData}{x:Str}{sp:Sp}{s₁ : Shared}{vs:List Value}{ns:List Int}
    (KX:K.In s₁.heap) (hns:s₁.heap.Ns mainGlobals mg) (hb:s₁.heap.Ns builtinsNs mb) (hbb:∀ x:Str,x ≠ "__name__" → mb x=bootBuiltins x) (hlim:s₁.heap.NoLimit) (hg:s₁.gens = #[])
    (ha:s₁.heap.get? a=some { cls:=.type "list",data:=.seq vs.toArray }) (hi:IntsAre vs ns) (hl:ns.length≤sizeLine) (hr:gs k callerA)
    (F:∀ base:Heap,K.In base→base.Ns mainGlobals mg→b7 P w K mg base CX k fa fd [x] sp) (hbind:∀ (s:Shared) (u:Value),BindsTo s fd ⟨[u],[]⟩ [(x,u)])
    (hsp:∀ H:Hp,Jt H→SqL K H a (ns.map V.int)→sp [.ref a] H (fun v _=>v=.bl true) fun _ _ _=>False)
    (hCX:∀ H e s',CX [] H s₁ (fun _ _ _=>False) e s'→False) :
    codeAny (model P w) callerA (.call (.ref fa) ⟨[.ref a],[]⟩) (fun r s'=>r=.ok (.ret (.bool true))∧OldK s₁.heap s'.heap∧s'.os=s₁.os∧AllBare s'.gens) s₁ := by
  have rv:=tR hi
  have lenV:=hi.length
  have core:∀ H:Hp,Jt H→SqL K H a (ns.map V.int)→HOk P w H s₁.heap→(∀ b,H b≠none→b=a)→(H a≠none→K.lookup a=none) →
      codeAny (model P w) callerA (.call (.ref fa) ⟨[.ref a],[]⟩) (fun r s'=>r=.ok (.ret (.bool true))∧OldK s₁.heap s'.heap∧s'.os=s₁.os∧AllBare s'.gens) s₁ := by
    intro H hO hS hok hA hK
    have base_of:∀ {b:Addr} {o:Obj},s₁.heap.get? b=some o→H b=none→(uI s₁.heap H).get? b=some o:=fun e n=>EC e n
    have noA:∀ {b:Addr} {o:Obj} {es:Array DictEntry} {ep:Nat},s₁.heap.get? b=some o→o.data=.dict es ep→H b=none:=fun {b o es ep} e d=>by
      cases q:H b with
      | none=>rfl
      | some u =>
        have e':b=a:=hA b (by rw [q];simp)
        subst e'
        rw [ha] at e;cases e
        have d':Data.seq vs.toArray _=Data.dict es ep:=d
        cases d'
    have nsK:∀ {b:Addr} {m:Str→Option Value},s₁.heap.Ns b m→(uI s₁.heap H).Ns b m:=fun {b m} ⟨o,es,ep,e,d,r⟩=>⟨o,es,ep,base_of e (noA e d),d,r⟩
    have hKb:K.In (uI s₁.heap H):=fun b o e=>base_of (KX b o e) (by
      cases q:H b with
      | none=>rfl
      | some u =>
        have e':b=a:=hA b (by rw [q];simp)
        subst e'
        rw [hK (by rw [q];simp)] at e;cases e)
    have hM:Mod K mg (uI s₁.heap H):=⟨hKb,nsK hns,⟨mb,nsK hb,hbb⟩,let ⟨mc,h1,h2⟩:=hlim;⟨mc,nsK h1,h2⟩⟩
    have e0:Hi P w K mg (uI s₁.heap H) callerA [] s₁ H:=⟨rfl,hM,fun b o e=>G4 e,Nat.le_of_eq (C9 _ _),trivial,fun b hb=>absurd (show b∈([] : List Addr) from hb) (by simp),hok,.of_eq hg⟩
    refine codeAny_mono ((F _ hKb (nsK hns)).run callerA [] s₁ H ⟨[.ref a],[]⟩ [.ref a] [.ref a] _ _ hr e0 (hbind s₁ (.ref a)) (.cons rfl .nil) (hsp H hO hS)) fun r s' h => ?_
    cases r with
    | error e=>exact (hCX H e s' h).elim
    | ok fl =>
      cases fl with
      | next=>exact False.elim h
      | brk=>exact False.elim h
      | cont=>exact False.elim h
      | ret u =>
        obtain⟨v,H',os,bare,un,hok',r',q⟩:=h
        have q':v=.bl true:=q
        subst q'
        obtain rfl:u=Value.bool true:=r'
        refine⟨rfl,OldK.of_keep fun b o e => ?_,os,bare⟩
        cases q:H b with
        | none=>exact un.keep b o e q (by intro z;exact absurd (show b∈([] : List Addr) from z) (by simp)) (by simp)
        | some u =>
          rcases hO b with z|⟨ob,xs,z⟩
          · rw [q] at z;cases z
          · have z2:=un.frzs b ob _ z
            obtain⟨e1,_⟩:=hok b _ z
            obtain⟨e2,_⟩:=hok' b _ z2
            rw [e] at e1;cases e1
            exact e2
  cases hk:K.lookup a with
  | some o =>
    have e:=KX a o hk
    rw [ha] at e
    cases e
    refine core (fun _=>none) (fun _=>.inl rfl) (.inr ⟨_,vs.toArray,_,hk,rfl,rfl,rfl,by rw [List.size_toArray,lenV];exact hl,by simpa using rv⟩) (fun b u z=>by have z':(none:Option HO)=some u:=z;cases z') (fun b z=>absurd rfl z) fun z=>absurd rfl z
  | none =>
    refine core (fun b=>if b=a then some (.frz { cls:=.type "list",data:=.seq vs.toArray } (.lst (ns.map V.int))) else none) (fun b => ?_) (.inl (.inr ⟨{ cls:=.type "list",data:=.seq vs.toArray },if_pos rfl⟩)) (fun b u z => ?_) (fun b z => ?_) fun _=>hk
    · by_cases hb:b=a
      · exact .inr ⟨_,_,if_pos hb⟩
      · exact .inl (if_neg hb)
    · by_cases hb:b=a
      · have z':=(if_pos hb).symm.trans z
        cases z'
        subst hb
        exact⟨ha,by rw [List.length_map];exact hl,vs,_,rv,ha⟩
      · have z':=(if_neg hb).symm.trans z
        cases z'
    · by_cases hb:b=a
      · exact hb
      · exact absurd (if_neg hb) z
end L2
namespace L2
open PySem PySem.Spec PyProof.Rows
theorem Ht {l:PySem.W.OpenLaw}{n k:Nat}{q:Program}{loose:List Str}{XP:(Str→Option Value)→Heap→Prop}{YP:World→Heap→Prop}{d:DefRec}{K:Params→PySem.W.Frag}{CX:World→CXT}{sp:World→Sp}{x:Str}
    (hn:l.most=some n) (hn2:n≤sizeLine) (hdf:d.params.defaults=[]) (hr:gs k callerA)
    (hY:∀ (w:World) (h:Heap),YP w h→(K w.params).In h)
    (F:∀ (w:World) (mg:Str→Option Value) (fa:Addr) (h:Heap),(K w.params).In h→h.Ns mainGlobals mg→mg d.name=some (.ref fa) →
      ∃ fd:FuncData,(∀ (s:Shared) (u:Value),BindsTo s fd ⟨[u],[]⟩ [(x,u)]) ∧
        ∀ base:Heap,(K w.params).In base→base.Ns mainGlobals mg→b7 l.prog w (K w.params) mg base (CX w) k fa fd [x] (sp w))
    (hsp:∀ (w:World) (H:Hp) (a:Addr) (ns:List Int),ns.length≤n→Jt H→SqL (K w.params) H a (ns.map V.int)→sp w [.ref a] H (fun v _=>v=.bl true) fun _ _ _=>False)
    (hCX:∀ (w:World) (H:Hp) (s:Shared) (e:Value) (s':Shared),CX w [] H s (fun _ _ _=>False) e s'→False) :
    PySem.W.WalkO q loose XP YP l.row.toRowW d [] (fun f vs=>PySem.call f vs):=by
  refine Att.attach_call hn hdf fun w s₀ s₁ mg mb fa o pm cd doc a vs ns G Y ho hd hcd hmg hobj hints hlen hg => ?_
  have KX:=hY w _ Y
  obtain⟨fd,hb,hF⟩:=F w mg fa _ KX G.T.g hmg
  exact E3 KX G.T.g G.T.b G.T.builtins G.T.nolimit hg hobj hints (Nat.le_trans hlen hn2) hr hF hb (fun H hO hS=>hsp w H a ns hlen hO hS) fun H e s'=>hCX w H s₁ e s'
end L2
namespace L2
open PySem PySem.Spec PyProof.Rows
def aP (s:Stmt):Arguments:=match s with
  | .FunctionDef _ a _ _ _ _ _ _ _ _=>a
  | _=>{ posonlyargs:=[],args:=[],vararg:=none,kwonlyargs:=[],kw_defaults:=[],kwarg:=none,defaults:=[] }
def aM (s:Stmt):List Stmt:=match s with
  | .FunctionDef _ _ b _ _ _ _ _ _ _=>b
  | _=>[]
def ah (s:Stmt):Scope:=match s with
  | .FunctionDef _ _ _ _ _ _ sc _ _ _=>sc
  | _=>{ kind:=.function,names:=[],isGenerator:=false,isCoroutine:=false }
abbrev CX0:CXT:=fun _ _ _ _ _ _=>False
abbrev E0:XK:=fun _ _ _=>False
theorem Lp {X:Cx}:AA CX0 X E0:=fun _ _ _ _ _ _ _ h=>h.elim
structure Fun (K:PySem.W.Frag) (x qual:Str) (st:Stmt) (f:Addr) (fd:FuncData):Prop where
  ex:∃ (oc:Value) (od:Option Addr) (kV doc pm:Value) (an:Option Addr) (cdv ct:Value) (osl:Array (Option Value)),
    fd=PySem.W.fnOf x qual (aP st) (aM st) (ah st) .none kV doc pm an cdv ct∧K.lookup f=some ⟨oc,od,.func fd,osl⟩ ∧ PySem.W.codeIn K cdv qual=true
  kp:PySem.W.keepIn K (.ref f)=true
section
variable {P:Program} {w:World} {K:PySem.W.Frag} {mg:Str→Option Value} {base:Heap}
theorem Fun.ok {x qual:Str}{st:Stmt}{f:Addr}{fd:FuncData}{N ps:List Str}{k:Nat}{sp:Sp}(F:Fun K x qual st f fd)(S:aR N ps (ah st))(len:∀ vs H Q E,sp vs H Q E→vs.length=ps.length)
    (hbody:∀ (cdv:Value) (A:Around) (outer:List Env) (s:Shared) (H:Hp) (vs:List V) (Q:VK) (E:XK),gs k (A.deeper (envOfC qual (ah st) s.heap.objs.size f cdv))→sp vs H Q E →
      ∃ t,PSs (AB CX0 P w K mg base N qual (ah st) f cdv A outer s H E).nox (aM st) t∧t { nx:=fun _ H'=>Q .non H',rt:=Q } (i0 N vs) H):b7 P w K mg base CX0 (k + 1) f fd ps sp:=by
  obtain⟨oc,od,kV,doc,pm,an,cdv,ct,osl,rfl,lk,hcd⟩:=F.ex
  refine Lh lk hcd S len fun A outer s H vs Q E hr hsp => ?_
  obtain⟨t,h,q⟩:=hbody cdv A outer s H vs Q E hr hsp
  exact⟨t,h.nox,q⟩
theorem Fun.binds {x qual:Str}{st:Stmt}{f:Addr}{fd:FuncData}{ps:List Str}(F:Fun K x qual st f fd)
    (h:∀ (kV doc pm:Value) (an:Option Addr) (cdv ct:Value) (us:List Value),us.length=ps.length→bindArgs (PySem.W.fnOf x qual (aP st) (aM st) (ah st) .none kV doc pm an cdv ct) ⟨us,[]⟩ = pure (ps.zip us)):jP K fd ps []:=by
  obtain⟨oc,od,kV,doc,pm,an,cdv,ct,osl,rfl,lk,hcd⟩:=F.ex
  exact .all (h kV doc pm an cdv ct)
theorem bu {x qual:Str}{st:Stmt}{f:Addr}{oc:Value}{od an:Option Addr}{osl:Array (Option Value)}{kV doc pm cdv ct:Value}(l:K.lookup f=some ⟨oc,od,.func (PySem.W.fnOf x qual (aP st) (aM st) (ah st) .none kV doc pm an cdv ct),osl⟩)
    (c:PySem.W.codeIn K cdv qual=true) (k:PySem.W.keepIn K (.ref f)=true):Fun K x qual st f (PySem.W.fnOf x qual (aP st) (aM st) (ah st) .none kV doc pm an cdv ct):=⟨⟨oc,od,kV,doc,pm,an,cdv,ct,osl,rfl,l,c⟩,k⟩
end
section
variable {X:Cx}
theorem pv (i:Nat) {x:Str} {pos:Pos} (hN:X.N[i]? = some x:=by rfl) (hv:Vis X.env.scope x:=by first|exact Or.inl rfl|exact Or.inr (Or.inl rfl)|exact Or.inr (Or.inr rfl)) (hd:(x == ("__debug__" : Str))=false:=by decide)
    (hcd:(x == ("__classdict__" : Str))=false:=by decide):PE X (.Name x pos) (KY i):=ED hN hv hd hcd
end
def gH (H H':Hp):Prop:=∀ b o,H b=some o→H' b=some o
theorem gH.refl (H:Hp):gH H H:=fun _ _ h=>h
end L2
set_option linter.all false
namespace L2
open PySem PySem.Spec
structure Mp (h:Heap) (a D:Addr) (o:Obj):Prop where
  at_:h.get? a=some o
  cls:o.cls=.ref D
def ID (a C:Addr):HO:=.ext fun h=>∃ o,Mp h a C o
end L2
namespace Fm
inductive D where
  | non|bl (b:Bool)|int (i:Int)|str (x:List Nat)|tup (l:List D)|ref (n:Nat)|lit (l:List D)|exn (c:String) (l:List D)
deriving Inhabited
inductive bn where
  | lst (l:List D)|dct (l:List (Int × D))
abbrev Hd:=List bn
inductive Res (α : Type) where
  | ok (a : α) (h:Hd)|exc (x:D) (h:Hd)|bad
def Res.bind {α β : Type} (r:Res α) (f : α → Hd→Res β):Res β := match r with
  | .ok a h=>f a h | .exc x h=>.exc x h | .bad=>.bad
@[simp] theorem aq {α β : Type} (a : α) (h:Hd) (f : α → Hd→Res β):(Res.ok a h).bind f=f a h:=rfl
abbrev Sd:=List (Option D)
abbrev EF:=Sd→Hd→Res D
abbrev TF:=Sd→Hd→Res Bool
abbrev LF:=Sd→Hd→Res (List D)
inductive Out where
  | nx (σ:Sd) (h:Hd)|rt (d:D) (h:Hd)|bk (σ:Sd) (h:Hd)|ct (σ:Sd) (h:Hd)|exc (x:D) (σ:Sd) (h:Hd)|bad
abbrev SF:=Sd→Hd→Out
abbrev Fn:=List D→Hd→Res D
abbrev SZ:Nat:=1000000
@[simp] def slot (σ:Sd) (i:Nat):Option D:=match σ[i]? with|some (some d)=>some d|_=>none
@[simp] def aa (i:Nat):EF:=fun σ h=>match slot σ i with|some d=>.ok d h|none=>.bad
@[simp] def fC (d:D):EF:=fun _ h=>.ok d h
abbrev O2:=D→D→Hd→Res D
@[simp] def aj (g:O2) (a b:EF):EF:=fun σ h=>(a σ h).bind fun x h=>(b σ h).bind fun y h=>g x y h
@[simp] def oI (g:Int→Int→Int):O2:=fun x y h=>match x,y with | .int i,.int j=>.ok (.int (g i j)) h|_,_=>.bad
@[simp] def oB (g:Int→Int→Bool):O2:=fun x y h=>match x,y with | .int i,.int j=>.ok (.bl (g i j)) h|_,_=>.bad
@[simp] def oIc (c:Int→Int→Bool) (g:Int→Int→Int):O2:=fun x y h=>match x,y with | .int i,.int j=>if c i j then .ok (.int (g i j)) h else .bad|_,_=>.bad
def sml (i:Int):Bool:=decide (-18446744073709551616 < i) && decide (i < 18446744073709551616)
@[simp] def cb:O2:=fun x y h=>match x,y with
  | .int i,.int j=>.ok (.int (i + j)) h
  | .tup (x :: xs),.tup ys=>if (x :: xs).length + ys.length≤SZ then .ok (.tup (x :: xs++ys)) h else .bad
  | _,_=>.bad
@[simp] def Dl:O2:=fun x y h=>(oI (· - ·)) x y h
@[simp] def gI:O2:=fun x y h=>(oIc (fun i j=>sml i || sml j) (· * ·)) x y h
@[simp] def fG:O2:=fun x y h=>(oIc (fun _ j=>decide (0 < j)) (· % ·)) x y h
@[simp] def E4:O2:=fun x y h=>(oIc (fun _ j=>decide (0 < j) && decide (j < 2 ^ 250)) (· / ·)) x y h
@[simp] def Lq:O2:=fun x y h=>(oIc (fun i j=>decide (0≤j) && decide (j≤1000000) && sml i) (fun i j=>i ^ j.toNat)) x y h
@[simp] def oLt:O2:=fun x y h=>(oB fun i j=>decide (i < j)) x y h
@[simp] def oLe:O2:=fun x y h=>(oB fun i j=>decide (i≤j)) x y h
@[simp] def oGt:O2:=fun x y h=>(oB fun i j=>decide (j < i)) x y h
@[simp] def ML:D→Hd→Res D:=fun x h=>match x with | .int i=>.ok (.int (-i)) h|_=>.bad
@[simp] def oD:D→Bool | .non=>true|_=>false
@[simp] def ml:O2:=fun x y h=>if oD y then .ok (.bl (oD x)) h else .bad
@[simp] def eZ:O2:=fun x y h=>if oD y then .ok (.bl (!oD x)) h else .bad
@[simp] def b2i (b:Bool):Int:=if b then 1 else 0
mutual
def peq:D→D→Option Bool
  | .int i,k=>match k with | .int j=>some (decide (i=j)) | .bl c=>some (decide (i=b2i c)) | .non=>some false | .tup _=>some false|_=>none
  | .bl c,k=>match k with | .int j=>some (decide (b2i c=j)) | .bl d=>some (decide (c=d))|_=>none
  | .str x,k=>match k with | .str y=>some (decide (x=y))|_=>none
  | .non,k=>match k with | .non=>some true | .int _=>some false | .tup _=>some false|_=>none
  | .tup xs,k=>match k with | .tup ys=>(gJ xs ys).map fun b=>b && decide (xs.length=ys.length) | .non=>some false | .int _=>some false|_=>none
  | .ref _,_=>none
  | .lit _,_=>none
  | .exn _ _,_=>none
def gJ:List D→List D→Option Bool
  | x :: xs,y :: ys=>match peq x y,gJ xs ys with
    | some a,some b=>some (a && b)
    | _,_=>none
  | _,_=>some true
end
mutual
def dep:D→Nat
  | .tup l=>kA l + 1
  | _=>0
def kA:List D→Nat
  | []=>0
  | x :: xs=>max (dep x) (kA xs)
end
def eqL (xs ys:List D):Option Bool:=if kA xs≤20 then (if xs.length=ys.length then gJ xs ys else some false) else none
@[simp] def eI (h:Hd):D→Option (List D)
  | .ref n=>match h[n]? with|some (.lst l)=>some l|_=>none
  | .lit l=>some l
  | _=>none
@[simp] def eqG (h:Hd) (x y:D):Option Bool:=match eI h x,eI h y with
  | some xs,some ys=>eqL xs ys
  | none,none=>if dep x≤20 then peq x y else none
  | _,_=>none
@[simp] def oEq:O2:=fun x y h=>match eqG h x y with|some b=>.ok (.bl b) h|none=>.bad
@[simp] def oNe:O2:=fun x y h=>match eqG h x y with|some b=>.ok (.bl (!b)) h|none=>.bad
@[simp] def asB (r:Res D):Res Bool:=r.bind fun x h=>match x with | .bl b=>.ok b h|_=>.bad
@[simp] def tE (a:EF):TF:=fun σ h=>asB (a σ h)
@[simp] def bx (t:TF):TF:=fun σ h=>(t σ h).bind fun b h=>.ok (!b) h
@[simp] def uK (t u:TF):TF:=fun σ h=>(t σ h).bind fun b h=>if b then u σ h else .ok false h
@[simp] def tOr (t u:TF):TF:=fun σ h=>(t σ h).bind fun b h=>if b then .ok true h else u σ h
@[simp] def fT (t:TF):EF:=fun σ h=>(t σ h).bind fun b h=>.ok (.bl b) h
@[simp] def fIf (t:TF) (a b:EF):EF:=fun σ h=>(t σ h).bind fun c h=>if c then a σ h else b σ h
@[simp] def oE (g k:O2) (a b c:EF):EF:=fun σ h=>(a σ h).bind fun x h=>(b σ h).bind fun y h=>(g x y h).bind fun z h=>match z with
  | .bl true=>(c σ h).bind fun w h=>k y w h
  | .bl false=>.ok (.bl false) h
  | _=>.bad
@[simp] def ak:LF:=fun _ h=>.ok [] h
@[simp] def ab (a:EF) (r:LF):LF:=fun σ h=>(a σ h).bind fun x h=>(r σ h).bind fun xs h=>.ok (x :: xs) h
@[simp] def fH (r:LF):EF:=fun σ h=>(r σ h).bind fun xs h=>if xs.length≤SZ then .ok (.tup xs) h else .bad
@[simp] def aT (r:LF):EF:=fun σ h=>(r σ h).bind fun xs h=>if xs.length≤SZ then .ok (.ref h.length) (h++[.lst xs]) else .bad
@[simp] def jQ (h:Hd):D→Option (List D)
  | .tup l=>some l
  | .lit l=>some l
  | .ref n=>match h[n]? with|some (.lst l)=>some l|_=>none
  | _=>none
@[simp] def lOf (a:EF):LF:=fun σ h=>(a σ h).bind fun x h=>match jQ h x with|some l=>.ok l h|none=>.bad
def ixN (n:Nat) (i:Int):Option Nat:=if 0≤i then (if i < n then some i.toNat else none) else if -(n:Int)≤i then some (i + n).toNat else none
def atI (xs:List D) (i:Int):Option D:=(ixN xs.length i).bind fun j=>xs[j]?
@[simp] def fIx (a:LF) (b:EF):EF:=fun σ h=>(a σ h).bind fun l h=>(b σ h).bind fun y h=>match y with
  | .int i=>match atI l i with|some d=>.ok d h|none=>.bad
  | _=>.bad
@[simp] def oAt:O2:=fun x y h=>match jQ h x,y with
  | some l,.int i=>match atI l i with|some d=>.ok d h|none=>.bad
  | _,_=>.bad
@[simp] def fAt (a b:EF):EF:=fun σ h=>aj oAt a b σ h
@[simp] def cx (a:LF):EF:=fun σ h=>(a σ h).bind fun l h=>.ok (.int l.length) h
def gK:List D→Option (List Int)
  | []=>some []
  | .int i :: r=>(gK r).map (i :: ·)
  | _=>none
def iR:List D→Option (List Bool)
  | []=>some []
  | .bl b :: r=>(iR r).map (b :: ·)
  | _=>none
@[simp] def oF (a:LF):EF:=fun σ h=>(a σ h).bind fun l h=>match iR l with|some bs=>.ok (.bl (bs.all id)) h|none=>.bad
@[simp] def fk (a:LF):EF:=fun σ h=>(a σ h).bind fun l h=>.ok (.tup l) h
inductive Ty where|int|bool|tuple|list|str
deriving DecidableEq
@[simp] def Dm (h:Hd) (t:Ty):D→Option Bool
  | .non=>some false
  | .bl _=>some (t == .bool || t == .int)
  | .int _=>some (t == .int)
  | .str _=>some (t == .str)
  | .tup _=>some (t == .tuple)
  | .lit _=>some (t == .list)
  | .ref n=>match h[n]? with|some (.lst _)=>some (t == .list)|some (.dct _)=>some false|none=>none
  | .exn _ _=>none
@[simp] def bA (t:Ty) (a:EF):EF:=fun σ h=>(a σ h).bind fun x h=>match Dm h t x with|some b=>.ok (.bl b) h|none=>.bad
def sIx (n d:Nat):Option Int→Nat
  | none=>d
  | some i=>if i < 0 then (i + n).toNat else min i.toNat n
def cut (l:List D) (lo hi:Option Int):List D:=(l.drop (sIx l.length 0 lo)).take (sIx l.length l.length hi - sIx l.length 0 lo)
abbrev OF:=Sd→Hd→Res (Option Int)
@[simp] def pNo:OF:=fun _ h=>.ok none h
@[simp] def pAt (a:EF):OF:=fun σ h=>(a σ h).bind fun x h=>match x with | .int i=>.ok (some i) h|_=>.bad
@[simp] def gu (a:EF) (lo hi:OF):EF:=fun σ h=>(a σ h).bind fun x h=>(lo σ h).bind fun i h=>(hi σ h).bind fun j h=>match x with
  | .tup l=>if sIx l.length 0 i=0∧sIx l.length l.length j=l.length then .bad else .ok (.tup (cut l i j)) h
  | x=>match eI h x with|some l=>.ok (.ref h.length) (h++[.lst (cut l i j)])|none=>.bad
def lexLt:List Int→List Int→Bool
  | [],[]=>false
  | [],_ :: _=>true
  | _ :: _,[]=>false
  | x :: xs,y :: ys=>if x=y then lexLt xs ys else decide (x < y)
def uS:List D→Option (List (List Int))
  | []=>some []
  | .tup l :: r=>match gK l,uS r with|some a,some b=>some (a :: b)|_,_=>none
  | _=>none
@[simp] def am (F:Fn) (r:LF):EF:=fun σ h=>(r σ h).bind fun xs h=>F xs h
abbrev IF:=Sd→Hd→Res (List D × Option Nat)
@[simp] def cX (a:EF):IF:=fun σ h=>(a σ h).bind fun x h=>match x with
  | .int n=>if -1000000≤n∧n≤1000000 then .ok ((List.range n.toNat).map (fun k:Nat=>.int k),none) h else .bad
  | _=>.bad
@[simp] def e7 (a b:EF):IF:=fun σ h=>(a σ h).bind fun x h=>(b σ h).bind fun y h=>match x,y with
  | .int m,.int n=>if (-1000000≤m∧m≤1000000) ∧ -1000000≤n∧n≤1000000 then .ok ((List.range (n - m).toNat).map (fun k:Nat=>.int (m + k)),none) h else .bad
  | _,_=>.bad
@[simp] def bd (a:EF):IF:=fun σ h=>(a σ h).bind fun x h=>match x with
  | .tup l=>.ok (l,none) h
  | .lit l=>.ok (l,none) h
  | .ref n=>match h[n]? with|some (.lst l)=>.ok (l,some n) h|_=>.bad
  | _=>.bad
noncomputable section
open Classical
def i4 (g:Option Nat) (all:List D) (h:Hd):Prop:=match g with|none=>True|some n=>h[n]? = some (.lst all)
abbrev GF:=D→Sd→Option Sd
@[simp] def gN (i:Nat):GF:=fun d σ=>some (σ.set i (some d))
@[simp] def gT (l:List Nat):GF:=fun d σ=>match d with
  | .tup xs=>if xs.length=l.length then some ((l.zip xs).foldl (fun σ p => σ.set p.1 (some p.2)) σ) else none
  | _=>none
@[simp] def aB (a b:SF):SF:=fun σ h=>match a σ h with | .nx σ h=>b σ h|r=>r
@[simp] def br:SF:=fun σ h=>.nx σ h
@[simp] def outE (r:Res D) (σ:Sd) (k:D→Hd→Out):Out:=match r with | .ok d h=>k d h | .exc x h=>.exc x σ h | .bad=>.bad
@[simp] def aF (g:GF) (a:EF):SF:=fun σ h=>outE (a σ h) σ fun d h=>match g d σ with|some σ=>.nx σ h|none=>.bad
@[simp] def a7 (a:EF):SF:=fun σ h=>outE (a σ h) σ fun d h=>.rt d h
@[simp] def fm (a:EF):SF:=fun σ h=>outE (a σ h) σ fun _ h=>.nx σ h
@[simp] def sIf (t:TF) (a b:SF):SF:=fun σ h=>match t σ h with | .ok c h=>if c then a σ h else b σ h | .exc x h=>.exc x σ h | .bad=>.bad
@[simp] def Hu:SF:=fun σ h=>.bk σ h
def dH:SF:=fun _ _=>.bad
@[simp] def oG (x i e:EF):SF:=fun σ h=>outE (e σ h) σ fun d h=>outE (x σ h) σ fun p h=>outE (i σ h) σ fun j h=>match p,j with
  | .ref n,.int j=>match h[n]? with
    | some (.lst l)=>match ixN l.length j with
      | some k=>.nx σ (h.set n (.lst (l.set k d)))
      | none=>.bad
    | _=>.bad
  | _,_=>.bad
@[simp] def Ju:O2:=fun p d h=>match p with
  | .ref n=>match h[n]? with
    | some (.lst l)=>if l.length < SZ then .ok .non (h.set n (.lst (l++[d]))) else .bad
    | _=>.bad
  | _=>.bad
@[simp] def kB (x e:EF):EF:=fun σ h=>(x σ h).bind fun p h=>match p with
  | .ref n=>match h[n]? with
    | some (.lst _)=>(e σ h).bind fun d h=>Ju (.ref n) d h
    | _=>.bad
  | _=>.bad
def fI (g:Option Nat) (all:List D) (tg:GF) (b:SF):List D→SF
  | [],σ,h=>if i4 g all h then .nx σ h else .bad
  | x :: xs,σ,h=>if i4 g all h then match tg x σ with
      | some σ=>match b σ h with
        | .nx σ h=>fI g all tg b xs σ h
        | .ct σ h=>fI g all tg b xs σ h
        | .bk σ h=>.nx σ h
        | r=>r
      | none=>.bad
    else .bad
@[simp] def fJ (it:IF) (tg:GF) (b:SF):SF:=fun σ h=>match it σ h with
  | .ok (l,g) h=>fI g l tg b l σ h
  | .exc x h=>.exc x σ h
  | .bad=>.bad
@[simp] def kC:List TF→TF
  | [],_,h=>.ok true h
  | t :: r,σ,h=>(t σ h).bind fun b h=>if b then kC r σ h else .ok false h
def bQ (g:Option Nat) (all:List D) (tg:GF) (cs:List TF) (e:EF):List D→Sd→Hd→Res (List D)
  | [],_,h=>if i4 g all h then .ok [] h else .bad
  | x :: xs,σ,h=>if i4 g all h then match tg x σ with
      | some σ=>(kC cs σ h).bind fun b h=>if b then (e σ h).bind fun d h=>(bQ g all tg cs e xs σ h).bind fun ds h=>.ok (d :: ds) h
        else bQ g all tg cs e xs σ h
      | none=>.bad
    else .bad
@[simp] def fx (nl:Nat) (caps:List Nat) (σ:Sd):Sd:=List.replicate nl none++caps.map fun i=>slot σ i
@[simp] def aJ (nl:Nat) (caps:List Nat) (it:IF) (tg:GF) (cs:List TF) (e:EF):LF:=fun σ h=>(it σ h).bind fun p h =>
  bQ p.2 p.1 tg cs e p.1 (fx nl caps σ) h
mutual
def pure? : D→Bool
  | .ref _=>false
  | .tup l=>gj l
  | .lit l=>gj l
  | .exn _ l=>gj l
  | _=>true
def gj:List D→Bool
  | []=>true
  | x :: xs=>pure? x && gj xs
end
def i5:bn→Bool
  | .lst l=>gj l
  | .dct l=>l.all fun p=>pure? p.2
def Cr (h h':Hd):Prop:=∀ n c,n < h.length→h'[n]? = some c→h[n]? = some c∨i5 c=true
def letGo (h:Hd) (r:Res D):Res D:=match r with
  | .ok d h'=>if pure? d=true∧Cr h h' then .ok d (h'.take h.length) else .ok d h'
  | r=>r
def runB (n:Nat) (b:SF):Fn:=fun ds h=>match b (ds.map some++List.replicate (n - ds.length) none) h with
  | .nx _ h=>.ok .non h
  | .rt d h=>.ok d h
  | .exc x _ h=>.exc x h
  | _=>.bad
def bJ (np n:Nat) (b:SF):Fn:=fun ds h=>if ds.length=np then letGo h (runB n b ds h) else .bad
end
end Fm
set_option Elab.async false
set_option linter.all false
set_option maxRecDepth 100000
namespace Fm
open PySem PySem.Spec L2
def toS (x:List Nat):Str:=⟨x.toArray⟩
def nh (K:PySem.W.Frag) (H:Hp) (a:Addr) (xs:List V):Prop :=
  (∃ o,H a=some (.frz o (.lst xs))) ∨
    ∃ (o:Obj) (its:Array Value) (n:Nat),K.lookup a=some o∧o.cls=.type "list" ∧ o.dict=none∧o.data=.seq its n∧its.size≤sizeLine∧aN xs its.toList
section
variable (K:PySem.W.Frag) (ρ:List Addr) (H:Hp)
mutual
def RD:D→V→Prop
  | .non,v=>v=.non
  | .bl b,v=>v=.bl b
  | .int i,v=>v=.int i
  | .str x,v=>v=.str (toS x)
  | .tup l,v=>∃ p vs,v=.ref p∧H p=some (.tup vs)∧RDs l vs
  | .lit l,v=>∃ p vs,v=.ref p∧nh K H p vs∧RDs l vs
  | .ref n,v=>∃ a,ρ[n]? = some a∧v=.ref a
  | .exn c l,v=>l=[] ∧ ∃ a C,v=.ref a∧H a=some (ID a C)∧PySem.W.nsIn K mainGlobals (Str.ofString c)=some (some (.ref C))
def RDs:List D→List V→Prop
  | [],vs=>vs=[]
  | d :: ds,vs=>∃ v r,vs=v :: r∧RD d v∧RDs ds r
end
def RC:bn→Addr→Prop
  | .lst l,a=>∃ vs,H a=some (.lst vs)∧RDs K ρ H l vs
  | .dct l,a=>∃ kvs,H a=some (.dK kvs)∧kvs.map (·.1)=l.map (fun p=>(Sum.inl p.1:Key))∧RDs K ρ H (l.map (·.2)) (kvs.map (·.2))
structure RH (hd:Hd):Prop where
  len : ρ.length=hd.length
  nd : ρ.Nodup
  cel:∀ (n:Nat) c a,hd[n]? = some c → ρ[n]? = some a→RC K ρ H c a
structure RSt (σd:Sd) (σ:St):Prop where
  len : σd.length = σ.length
  at':∀ i d,slot σd i=some d → ∃ v,σ[i]? = some (some v)∧RD K ρ H d v
structure RS (σd:Sd) (hd:Hd) (σ:St):Prop where
  hp:RH K ρ H hd
  st:RSt K ρ H σd σ
end
structure Ext (ρ:List Addr) (H:Hp) (ρ':List Addr) (H':Hp):Prop where
  pre:∃ t,ρ' = ρ ++ t
  new:∀ a ∈ ρ',a ∈ ρ ∨H a=none
  frame:∀ p o,H p=some o→p ∉ ρ → H' p=some o
section
variable {K:PySem.W.Frag} {ρ ρ' ρ'':List Addr} {H H' H'':Hp} {hd hd':Hd} {σd σd':Sd} {σ σ':St}
theorem Ext.refl:Ext ρ H ρ H:=⟨⟨[],by simp⟩,fun _ h=>.inl h,fun _ _ h _=>h⟩
theorem Ext.out (e:Ext ρ H ρ' H'){p:Addr}{o:HO}(h:H p=some o)(n:p ∉ ρ):p ∉ ρ':=fun z=>by
  rcases e.new p z with q|q
  · exact n q
  · rw [h] at q;cases q
theorem Ext.trans (a:Ext ρ H ρ' H')(b:Ext ρ' H' ρ'' H''):Ext ρ H ρ'' H'' where
  pre:=by
    obtain⟨t,rfl⟩:=a.pre
    obtain⟨u,rfl⟩:=b.pre
    exact⟨t++u,by simp⟩
  new:=fun x hx=>by
    rcases b.new x hx with q|q
    · exact a.new x q
    · cases e:H x with
      | none=>exact .inr rfl
      | some o =>
        by_cases hn:x ∈ ρ
        · exact .inl hn
        · rw [a.frame x o e hn] at q;cases q
  frame:=fun p o h n=>b.frame p o (a.frame p o h n) (a.out h n)
theorem Ext.same (s:gH H H'):Ext ρ H ρ H':=⟨⟨[],by simp⟩,fun _ h=>.inl h,fun p o h _=>s p o h⟩
theorem Ext.get (e:Ext ρ H ρ' H'){n:Nat}{a:Addr}(h : ρ[n]? = some a) : ρ'[n]? = some a:=by
  obtain⟨t,rfl⟩:=e.pre
  rw [List.getElem?_append_left (List.getElem?_eq_some_iff.mp h).1]
  exact h
theorem RH.mut (r:RH K ρ H hd){a:Addr}(h:a ∈ ρ):(∃ vs,H a=some (.lst vs)) ∨ ∃ kvs,H a=some (.dK kvs):=by
  obtain⟨n,hn⟩:=List.getElem?_of_mem h
  have hl:=(List.getElem?_eq_some_iff.mp hn).1
  have hc:hd[n]? = some (hd[n]'(by rw [← r.len];exact hl)):=by simp
  have q:=r.cel n _ a hc hn
  cases e:hd[n]'(by rw [← r.len];exact hl) with
  | lst l=>rw [e] at q;obtain⟨vs,h1,_⟩:=q;exact .inl ⟨vs,h1⟩
  | dct l=>rw [e] at q;obtain⟨vs,h1,_⟩:=q;exact .inr ⟨vs,h1⟩
theorem RH.noTup (r:RH K ρ H hd){a:Addr}{vs:List V}(h:H a=some (.tup vs)):a ∉ ρ:=fun z=>by
  rcases r.mut z with ⟨_,q⟩|⟨_,q⟩<;>(rw [h] at q;cases q)
theorem RH.noFrz (r:RH K ρ H hd){a:Addr}{o:Obj}{u:HO}(h:H a=some (.frz o u)):a ∉ ρ:=fun z=>by
  rcases r.mut z with ⟨_,q⟩|⟨_,q⟩<;>(rw [h] at q;cases q)
theorem RH.noExt (r:RH K ρ H hd){a:Addr}{φ : Heap→Prop}(h:H a=some (.ext φ)):a ∉ ρ:=fun z=>by
  rcases r.mut z with ⟨_,q⟩|⟨_,q⟩<;>(rw [h] at q;cases q)
structure Kp (ρ:List Addr) (H:Hp) (ρ':List Addr) (H':Hp):Prop where
  get:∀ (n:Nat) a,ρ[n]? = some a → ρ'[n]? = some a
  tup:∀ a vs,H a=some (.tup vs)→H' a=some (.tup vs)
  frz:∀ a o u,H a=some (.frz o u)→H' a=some (.frz o u)
  ext:∀ a φ,H a=some (.ext φ)→H' a=some (.ext φ)
theorem RH.kp (r:RH K ρ H hd)(e:Ext ρ H ρ' H'):Kp ρ H ρ' H' :=
  ⟨fun _ _ h=>e.get h,fun _ _ h=>e.frame _ _ h (r.noTup h),fun _ _ _ h=>e.frame _ _ h (r.noFrz h),fun _ _ h=>e.frame _ _ h (r.noExt h)⟩
theorem Kp.same (s:gH H H'):Kp ρ H ρ H':=⟨fun _ _ h=>h,fun _ _ h=>s _ _ h,fun _ _ _ h=>s _ _ h,fun _ _ h=>s _ _ h⟩
theorem nh.mono {a:Addr}{xs:List V}(k:Kp ρ H ρ' H')(h:nh K H a xs):nh K H' a xs:=by
  rcases h with ⟨o,h⟩|h
  · exact .inl ⟨o,k.frz _ _ _ h⟩
  · exact .inr h
mutual
theorem RD.mono (k:Kp ρ H ρ' H'):∀ {d:D} {v:V},RD K ρ H d v→RD K ρ' H' d v
  | .non,_,h=>by simp only [RD] at h ⊢;exact h
  | .bl _,_,h=>by simp only [RD] at h ⊢;exact h
  | .int _,_,h=>by simp only [RD] at h ⊢;exact h
  | .str _,_,h=>by simp only [RD] at h ⊢;exact h
  | .tup l,_,h=>by
    simp only [RD] at h ⊢
    obtain⟨p,vs,e,h1,h2⟩:=h
    exact⟨p,vs,e,k.tup _ _ h1,RDs.mono k h2⟩
  | .lit l,_,h=>by
    simp only [RD] at h ⊢
    obtain⟨p,vs,e,h1,h2⟩:=h
    exact⟨p,vs,e,h1.mono k,RDs.mono k h2⟩
  | .ref n,_,h=>by
    simp only [RD] at h ⊢
    obtain⟨a,h1,h2⟩:=h
    exact⟨a,k.get _ _ h1,h2⟩
  | .exn _ _,_,h=>by
    simp only [RD] at h ⊢
    obtain⟨e0,a,C,e,h1,h2⟩:=h
    exact⟨e0,a,C,e,k.ext _ _ h1,h2⟩
theorem RDs.mono (k:Kp ρ H ρ' H'):∀ {l:List D} {vs:List V},RDs K ρ H l vs→RDs K ρ' H' l vs
  | [],_,h=>by simp only [RDs] at h ⊢;exact h
  | d :: ds,_,h=>by
    simp only [RDs] at h ⊢
    obtain⟨v,r,e,h1,h2⟩:=h
    exact⟨v,r,e,RD.mono k h1,RDs.mono k h2⟩
end
theorem RDs.nil:RDs K ρ H [] []:=by simp only [RDs]
theorem RDs.cons {d:D}{v:V}{ds:List D}{vs:List V}(h:RD K ρ H d v)(t:RDs K ρ H ds vs):RDs K ρ H (d :: ds) (v :: vs):=by
  simp only [RDs];exact⟨v,vs,rfl,h,t⟩
theorem RDs.length:∀ {l:List D} {vs:List V},RDs K ρ H l vs→l.length=vs.length
  | [],_,h=>by simp only [RDs] at h;subst h;rfl
  | d :: ds,_,h=>by
    simp only [RDs] at h
    obtain⟨v,r,e,h1,h2⟩:=h
    subst e
    simp [RDs.length h2]
theorem RDs.get:∀ {l:List D} {vs:List V} {i:Nat} {d:D},RDs K ρ H l vs→l[i]? = some d → ∃ v,vs[i]? = some v∧RD K ρ H d v
  | [],_,i,_,_,e=>by simp at e
  | d :: ds,_,0,_,h,e=>by
    simp only [RDs] at h
    obtain⟨v,r,e',h1,h2⟩:=h
    subst e'
    simp at e
    subst e
    exact⟨v,rfl,h1⟩
  | d :: ds,_,i + 1,x,h,e=>by
    simp only [RDs] at h
    obtain⟨v,r,e',h1,h2⟩:=h
    subst e'
    obtain⟨w,hw,q⟩:=RDs.get (i:=i) (d:=x) h2 (by simpa using e)
    exact⟨w,by simpa using hw,q⟩
theorem RDs.set {d:D}{v:V}(h:RD K ρ H d v):∀ {l:List D} {vs:List V} (i:Nat),RDs K ρ H l vs→RDs K ρ H (l.set i d) (vs.set i v)
  | [],_,_,q=>by simp only [RDs] at q;subst q;exact RDs.nil
  | x :: xs,_,i,q=>by
    simp only [RDs] at q
    obtain⟨w,r,e,h1,h2⟩:=q
    subst e
    cases i with
    | zero=>exact RDs.cons h h2
    | succ i=>exact RDs.cons h1 (RDs.set h i h2)
theorem RDs.append:∀ {l l':List D} {vs vs':List V},RDs K ρ H l vs→RDs K ρ H l' vs'→RDs K ρ H (l++l') (vs++vs')
  | [],_,_,_,h,q=>by simp only [RDs] at h;subst h;exact q
  | d :: ds,_,_,_,h,q=>by
    simp only [RDs] at h
    obtain⟨v,r,e,h1,h2⟩:=h
    subst e
    exact RDs.cons h1 (RDs.append h2 q)
theorem RDs.take:∀ {l:List D} {vs:List V} (n:Nat),RDs K ρ H l vs→RDs K ρ H (l.take n) (vs.take n)
  | _,_,0,_=>by simp;exact RDs.nil
  | [],_,n + 1,h=>by simp only [RDs] at h;subst h;exact RDs.nil
  | d :: ds,_,n + 1,h=>by
    simp only [RDs] at h
    obtain⟨v,r,e,h1,h2⟩:=h
    subst e
    exact RDs.cons h1 (RDs.take n h2)
theorem RDs.drop:∀ {l:List D} {vs:List V} (n:Nat),RDs K ρ H l vs→RDs K ρ H (l.drop n) (vs.drop n)
  | _,_,0,h=>by simpa using h
  | [],_,n + 1,h=>by simp only [RDs] at h;subst h;exact RDs.nil
  | d :: ds,_,n + 1,h=>by
    simp only [RDs] at h
    obtain⟨v,r,e,h1,h2⟩:=h
    subst e
    simpa using RDs.drop n h2
theorem RC.mono {c:bn}{a:Addr}(k:Kp ρ H ρ' H')(e:H' a=H a)(h:RC K ρ H c a):RC K ρ' H' c a:=by
  cases c with
  | lst l=>obtain⟨vs,h1,h2⟩:=h;exact⟨vs,e.trans h1,h2.mono k⟩
  | dct l=>obtain⟨vs,h1,h2,h3⟩:=h;exact⟨vs,e.trans h1,h2,h3.mono k⟩
theorem RH.same (r:RH K ρ H hd)(s:gH H H'):RH K ρ H' hd :=
  ⟨r.len,r.nd,fun n c a h1 h2=>(r.cel n c a h1 h2).mono (Kp.same s) (by
    rcases r.mut (List.mem_of_getElem? h2) with ⟨_,q⟩|⟨_,q⟩<;>rw [q,s _ _ q])⟩
theorem RSt.mono (k:Kp ρ H ρ' H')(r:RSt K ρ H σd σ):RSt K ρ' H' σd σ :=
  ⟨r.len,fun i d h=>let ⟨v,h1,h2⟩:=r.at' i d h;⟨v,h1,h2.mono k⟩⟩
theorem RS.same (r:RS K ρ H σd hd σ)(s:gH H H'):RS K ρ H' σd hd σ:=⟨r.hp.same s,r.st.mono (Kp.same s)⟩
theorem ce {p:Addr}{o:HO}(h:H p=none):gH H (upd H p o):=fun b u e=>by
  rw [aI (cW e h)];exact e
theorem RH.alloc (r:RH K ρ H hd){p:Addr}{l:List D}{vs:List V}(hp:H p=some (.lst vs))(hn:p ∉ ρ)(h:RDs K ρ H l vs):RH K (ρ ++ [p]) H (hd++[.lst l]):=by
  have k:Kp ρ H (ρ ++ [p]) H:=⟨fun n a e=>by rw [List.getElem?_append_left (List.getElem?_eq_some_iff.mp e).1];exact e,fun _ _ h=>h,fun _ _ _ h=>h,fun _ _ h=>h⟩
  refine⟨by simp [r.len],?_,fun n c a h1 h2 => ?_⟩
  · rw [List.nodup_append]
    exact⟨r.nd,by simp,fun a ha b hb=>by simp at hb;subst hb;intro e;subst e;exact hn ha⟩
  · by_cases hlt:n < hd.length
    · rw [List.getElem?_append_left hlt] at h1
      rw [List.getElem?_append_left (by rw [r.len];exact hlt)] at h2
      exact (r.cel n c a h1 h2).mono k rfl
    · have e1:n=hd.length:=by
        have:=(List.getElem?_eq_some_iff.mp h1).1
        simp at this
        omega
      subst e1
      simp at h1
      subst h1
      rw [← r.len] at h2
      simp at h2
      subst h2
      exact⟨vs,hp,h.mono k⟩
theorem oH {α : Type}:∀ {l:List α},l.Nodup → ∀ {i j:Nat} {x : α},l[i]? = some x→l[j]? = some x→i=j
  | [],_,i,_,_,e,_=>by simp at e
  | a :: l,nd,0,0,_,_,_=>rfl
  | a :: l,nd,0,j + 1,x,e,e'=>by
    simp at e e'
    subst e
    exact absurd (List.mem_of_getElem? e') (List.nodup_cons.mp nd).1
  | a :: l,nd,i + 1,0,x,e,e'=>by
    simp at e e'
    subst e'
    exact absurd (List.mem_of_getElem? e) (List.nodup_cons.mp nd).1
  | a :: l,nd,i + 1,j + 1,x,e,e'=>by
    simp at e e'
    rw [oH (List.nodup_cons.mp nd).2 e e']
theorem RH.write (r:RH K ρ H hd){n:Nat}{p:Addr}{l:List D}{vs:List V}(hp : ρ[n]? = some p)(hn:n < hd.length)(h:RDs K ρ H l vs):RH K ρ (upd H p (.lst vs)) (hd.set n (.lst l)):=by
  have k:Kp ρ H ρ (upd H p (.lst vs)):=by
    have hm:=List.mem_of_getElem? hp
    refine⟨fun _ _ h=>h,fun a us e => ?_,fun a o u e => ?_,fun a φ e => ?_⟩
    · rw [aI (fun z=>r.noTup e (by rw [z];exact hm))];exact e
    · rw [aI (fun z=>r.noFrz e (by rw [z];exact hm))];exact e
    · rw [aI (fun z=>r.noExt e (by rw [z];exact hm))];exact e
  refine⟨by simp [r.len],r.nd,fun m c a h1 h2 => ?_⟩
  by_cases e:n=m
  · subst e
    rw [List.getElem?_set_self hn] at h1
    cases h1
    rw [hp] at h2
    cases h2
    exact⟨vs,a6,h.mono k⟩
  · rw [List.getElem?_set_ne e] at h1
    have ne:a≠p:=fun z=>by
      subst z
      exact e (oH r.nd hp h2)
    exact (r.cel m c a h1 h2).mono k (aI ne)
theorem Ext.write {p:Addr}{o:HO}(hp:p ∈ ρ):Ext ρ H ρ (upd H p o) :=
  ⟨⟨[],by simp⟩,fun _ h=>.inl h,fun q u e n=>by rw [aI (fun z=>n (by rw [z];exact hp))];exact e⟩
theorem Ext.alloc {p:Addr}(h:H p=none){o:HO}:Ext ρ H (ρ ++ [p]) (upd H p o) :=
  ⟨⟨[p],rfl⟩,fun a ha=>by
    rcases List.mem_append.mp ha with q|q
    · exact .inl q
    · simp at q;subst q;exact .inr h,fun q u e _=>ce h q u e⟩
theorem RS.ext (r:RS K ρ H σd hd σ)(e:Ext ρ H ρ' H')(h:RH K ρ' H' hd'):RS K ρ' H' σd hd' σ:=⟨h,r.st.mono (r.hp.kp e)⟩
end
end Fm
set_option Elab.async false
set_option linter.all false
set_option maxRecDepth 100000
namespace Fm
open PySem PySem.Spec L2
abbrev VR (α β : Type):=List Addr→Hp → α → β → Prop
section
variable (K:PySem.W.Frag)
def aX {α β : Type} (R:VR α β) (ρ:List Addr) (H:Hp) (σd:Sd) (σ:St) (r:Res α) (Q : β → Hp→Prop):Prop:=match r with
  | .ok a hd'=>∀ b H' ρ',Ext ρ H ρ' H'→RS K ρ' H' σd hd' σ → R ρ' H' a b→Q b H'
  | _=>False
def i6 {α β : Type} (R:VR α β) (f:Sd→Hd→Res α):St→Hp→(β → Hp→Prop)→Prop:=fun σ H Q =>
  ∃ ρ σd hd,RS K ρ H σd hd σ ∧ aX K R ρ H σd σ (f σd hd) Q
abbrev rD:VR D V:=fun ρ H d v=>RD K ρ H d v
abbrev rDs:VR (List D) (List V):=fun ρ H d v=>RDs K ρ H d v
abbrev rB:VR Bool Bool:=fun _ _ a b=>a=b
abbrev rO:VR (Option Int) (Option Int):=fun _ _ a b=>a=b
def rQ:VR (List D) V:=fun ρ H l v=>∃ p vs,v=.ref p∧(SqL K H p vs∨H p=some (.tup vs))∧RDs K ρ H l vs
def x6 (ρ:List Addr) (H:Hp) (σd:Sd) (σ:St) (r:Res (List D)) (Q:VK):Prop:=match r with
  | .ok l hd'=>∀ q vs H' ρ',Ext ρ H ρ' H'→RS K ρ' H' σd hd' σ → H q=none→H' q=some (.lst vs)→q ∉ ρ'→RDs K ρ' H' l vs→Q (.ref q) H'
  | _=>False
def Lr (f:LF):TE:=fun σ H Q=>∃ ρ σd hd,RS K ρ H σd hd σ ∧ x6 K ρ H σd σ (f σd hd) Q
def cu (ρ:List Addr) (H:Hp) (o:Out) (E:uJ):Prop:=match o with
  | .nx σd hd=>∀ σ H' ρ',Ext ρ H ρ' H'→RS K ρ' H' σd hd σ → E.nx σ H'
  | .bk σd hd=>∀ σ H' ρ',Ext ρ H ρ' H'→RS K ρ' H' σd hd σ → E.bk σ H'
  | .ct σd hd=>∀ σ H' ρ',Ext ρ H ρ' H'→RS K ρ' H' σd hd σ → E.ct σ H'
  | .rt d hd=>∀ v H' ρ',Ext ρ H ρ' H'→RH K ρ' H' hd→RD K ρ' H' d v→E.rt v H'
  | _=>False
def IE (f:SF):TS:=fun E σ H=>∃ ρ σd hd,RS K ρ H σd hd σ ∧ cu K ρ H (f σd hd) E
end
def ME (X:Cx) (e:Expr) (f:EF):Prop:=PE X e (i6 X.K (rD X.K) f)
def MQ (X:Cx) (e:Expr) (f:LF):Prop:=PE X e (i6 X.K (rQ X.K) f)
def MF (X:Cx) (e:Expr) (f:LF):Prop:=PE X e (Lr X.K f)
def MT (X:Cx) (e:Expr) (f:TF):Prop:=PT X e (i6 X.K rB f)
def MW (X:Cx) (e:Expr) (f:TF):Prop:=PW X e (i6 X.K rB f)
def MA (X:Cx) (es:List Expr) (f:LF):Prop:=PA X es (i6 X.K (rDs X.K) f)
def MS (X:Cx) (s:Stmt) (f:SF):Prop:=PS X s (IE X.K f)
def MSs (X:Cx) (s:List Stmt) (f:SF):Prop:=PSs X s (IE X.K f)
section
variable {X:Cx}
theorem PE.imp {e:Expr}{t u:TE}(h:PE X e t)(i:∀ σ H Q,u σ H Q→t σ H Q):PE X e u:=fun pins s σ H Q I q=>h pins s σ H Q I (i σ H Q q)
theorem PT.imp {e:Expr}{t u:TT}(h:PT X e t)(i:∀ σ H Q,u σ H Q→t σ H Q):PT X e u:=fun pins s σ H Q I q=>h pins s σ H Q I (i σ H Q q)
theorem PW.imp {e:Expr}{t u:TT}(h:PW X e t)(i:∀ σ H Q,u σ H Q→t σ H Q):PW X e u:=fun w pins s σ H Q I q=>h w pins s σ H Q I (i σ H Q q)
theorem PA.imp {e:List Expr}{t u:TA}(h:PA X e t)(i:∀ σ H Q,u σ H Q→t σ H Q):PA X e u:=fun p pins s σ H Q I q=>h p pins s σ H Q I (i σ H Q q)
theorem PS.imp {e:Stmt}{t u:TS}(h:PS X e t)(i:∀ D σ H,u D σ H→t D σ H):PS X e u:=fun pins s σ H D I q=>h pins s σ H D I (i D σ H q)
theorem PSs.imp {e:List Stmt}{t u:TS}(h:PSs X e t)(i:∀ D σ H,u D σ H→t D σ H):PSs X e u:=fun pins s σ H D I q=>h pins s σ H D I (i D σ H q)
end
section
variable {K:PySem.W.Frag} {ρ ρ':List Addr} {H H':Hp} {hd hd':Hd} {σd:Sd} {σ:St} {α β α' β':Type} {R:VR α β} {R':VR α' β'}
theorem aX.here {a : α}{b : β}{Q : β → Hp→Prop}(h:aX K R ρ H σd σ (.ok a hd) Q)(r:RS K ρ H σd hd σ)(q:R ρ H a b):Q b H:=h b H ρ Ext.refl r q
theorem aX.at {a : α}{b : β}{Q : β → Hp→Prop}(h:aX K R ρ H σd σ (.ok a hd) Q)(e:Ext ρ H ρ' H')(r:RS K ρ' H' σd hd σ)(q:R ρ' H' a b):Q b H':=h b H' ρ' e r q
theorem aX.imp {r:Res α}{Q Q' : β → Hp→Prop}(h:aX K R ρ H σd σ r Q)(i:∀ b H',Q b H'→Q' b H'):aX K R ρ H σd σ r Q':=by
  cases r with
  | ok a h'=>exact fun b H' ρ' e s q=>i b H' (h b H' ρ' e s q)
  | exc x h'=>exact h
  | bad=>exact h
theorem aX.ext {r:Res α}{Q : β → Hp→Prop}(e:Ext ρ H ρ' H')(h:aX K R ρ H σd σ r Q):aX K R ρ' H' σd σ r Q:=by
  cases r with
  | ok a h'=>exact fun b H'' ρ'' e' s q=>h b H'' ρ'' (e.trans e') s q
  | exc x h'=>exact h
  | bad=>exact h
theorem aX.bind {r:Res α}{k : α → Hd→Res α'}{Q : β'→Hp→Prop}(h:aX K R' ρ H σd σ (r.bind k) Q) :
    aX K R ρ H σd σ r (fun b H'=>∃ ρ' a hd',Ext ρ H ρ' H'∧RS K ρ' H' σd hd' σ ∧ R ρ' H' a b∧aX K R' ρ' H' σd σ (k a hd') Q):=by
  cases r with
  | ok a h'=>exact fun b H' ρ' e s q=>⟨ρ',a,h',e,s,q,aX.ext e h⟩
  | exc x h'=>exact h
  | bad=>exact h
theorem cu.ext {o:Out}{E:uJ}(e:Ext ρ H ρ' H')(h:cu K ρ H o E):cu K ρ' H' o E:=by
  cases o with
  | nx σ h'=>exact fun σ' H'' ρ'' e' s=>h σ' H'' ρ'' (e.trans e') s
  | bk σ h'=>exact fun σ' H'' ρ'' e' s=>h σ' H'' ρ'' (e.trans e') s
  | ct σ h'=>exact fun σ' H'' ρ'' e' s=>h σ' H'' ρ'' (e.trans e') s
  | rt d h'=>exact fun v H'' ρ'' e' s q=>h v H'' ρ'' (e.trans e') s q
  | exc x σ h'=>exact h
  | bad=>exact h
end
section
variable {X:Cx} {pos:Pos}
theorem Jv {i:Nat} {x:Str} (hN:X.N[i]? = some x) (hv:Vis X.env.scope x) (hd:(x == ("__debug__" : Str))=false:=by decide) (hcd:(x == ("__classdict__" : Str))=false:=by decide):ME X (.Name x pos) (aa i):=by
  refine PE.imp (ED hN hv hd hcd) fun σ H Q ⟨ρ,σd,hd,r,h⟩ => ?_
  unfold aa at h
  cases e:slot σd i with
  | none=>rw [e] at h;exact h.elim
  | some d =>
    rw [e] at h
    obtain⟨v,h1,h2⟩:=r.st.at' i d e
    exact⟨v,h1,h.here r h2⟩
theorem mn {K:PySem.W.Frag}{d:D}{v:V}(hv:∀ ρ H,RD K ρ H d v):∀ σ H Q,i6 K (rD K) (fC d) σ H Q→tC v σ H Q:=fun _ H _ ⟨ρ,_,_,r,h⟩=>h.here r (hv ρ H)
theorem ag {i:Int}{j}:ME X (.Constant (.int i) j pos) (fC (.int i)):=PE.imp EE (mn fun _ _=>by simp only [RD])
theorem ni {b j}:ME X (.Constant (.bool b) j pos) (fC (.bl b)):=PE.imp KZ (mn fun _ _=>by simp only [RD])
theorem gv {j}:ME X (.Constant .none j pos) (fC .non):=PE.imp IR (mn fun _ _=>by simp only [RD])
theorem cF {x:Str}{j}(l:List Nat)(h:x=toS l):ME X (.Constant (.str x) j pos) (fC (.str l)):=PE.imp Au (mn fun _ _=>by simp only [RD];rw [h])
theorem kD {x:Str} {i:Int} {t:Tok} (hg:Gl X x) (hm:X.mg x=some (.int i t)) (hd:(x == ("__debug__" : Str))=false:=by decide):ME X (.Name x pos) (fC (.int i)) :=
  PE.imp (nT (v:=.int i) hg hm ⟨t,rfl⟩ hd) (mn fun _ _=>by simp only [RD])
theorem me2 {a b:Expr}{fa fb:EF}{r:R2}{g:O2}{e:Expr}(h:PE X e (tOp r (i6 X.K (rD X.K) fa) (i6 X.K (rD X.K) fb)))
    (hg:∀ ρ H σd hd σ d k v w Q,RS X.K ρ H σd hd σ → RD X.K ρ H d v→RD X.K ρ H k w→aX X.K (rD X.K) ρ H σd σ (g d k hd) Q→r v w H Q):ME X e (aj g fa fb):=by
  refine PE.imp h fun σ H Q ⟨ρ,σd,hd,rs,p⟩ => ?_
  refine⟨ρ,σd,hd,rs,(aX.bind (R:=rD X.K) p).imp fun v H1 ⟨ρ1,d,hd1,e1,rs1,rv,p1⟩ => ?_⟩
  refine⟨ρ1,σd,hd1,rs1,(aX.bind (R:=rD X.K) p1).imp fun w H2 ⟨ρ2,k,hd2,e2,rs2,rw',p2⟩ => ?_⟩
  exact hg ρ2 H2 σd hd2 σ d k v w Q rs2 (rv.mono (rs1.hp.kp e2)) rw' p2
def Og (K:PySem.W.Frag) (g:O2) (r:R2):Prop:=∀ ρ H σd hd σ d k v w Q,RS K ρ H σd hd σ → RD K ρ H d v→RD K ρ H k w→aX K (rD K) ρ H σd σ (g d k hd) Q→r v w H Q
theorem aZ {a b:Expr}{fa fb:EF}{op:Operator}{r:R2}{g:O2}(ho:OpR X (binaryOp op) r)(hg:Og X.K g r)(ha:ME X a fa)(hb:ME X b fb):ME X (.BinOp a op b pos) (aj g fa fb) :=
  me2 (a:=a) (b:=b) (EM ho ha hb) hg
theorem fy {a b:Expr}{fa fb:EF}{op:CmpOp}{r:R2}{g:O2}(ho:OpR X (compareOp op) r)(hg:Og X.K g r)(ha:ME X a fa)(hb:ME X b fb)(hm:behindInMarks op b=false):ME X (.Compare a [op] [b] pos) (aj g fa fb) :=
  me2 (a:=a) (b:=b) (Hg ho ha hb hm) hg
theorem Hv {K:PySem.W.Frag}{g:Int→Int→Int}:Og K (oI g) (rI0 fun i j=>.int (g i j)):=by
  intro ρ H σd hd σ d k v w Q rs rv rw' p
  cases d<;>cases k<;>first|exact p.elim|skip
  simp only [RD] at rv rw'
  exact⟨_,_,rv,rw',p.here rs (by simp only [rD,RD])⟩
theorem x8 {K:PySem.W.Frag}{g:Int→Int→Bool}:Og K (oB g) (rI0 fun i j=>.bl (g i j)):=by
  intro ρ H σd hd σ d k v w Q rs rv rw' p
  cases d<;>cases k<;>first|exact p.elim|skip
  simp only [RD] at rv rw'
  exact⟨_,_,rv,rw',p.here rs (by simp only [rD,RD])⟩
theorem Cs {K:PySem.W.Frag}{c:Int→Int→Bool}{C:Int→Int→Prop}{g:Int→Int→Int}(hc:∀ i j,c i j=true→C i j):Og K (oIc c g) (rI C fun i j=>.int (g i j)):=by
  intro ρ H σd hd σ d k v w Q rs rv rw' p
  cases d<;>cases k<;>first|exact p.elim|skip
  rename_i i j
  simp only [RD] at rv rw'
  cases e:c i j with
  | false=>simp only [oIc,e] at p;exact p.elim
  | true =>
    simp only [oIc,e,if_true] at p
    exact⟨i,j,rv,rw',hc i j e,p.here rs (by simp only [rD,RD])⟩
theorem uT {i:Int}(h:sml i=true) : -(2 ^ 64) < i∧i < 2 ^ 64:=by
  simp only [sml,Bool.and_eq_true,decide_eq_true_eq] at h;exact h
theorem ie {K:PySem.W.Frag}:Og K gI (rI He fun i j=>.int (i * j)):=Cs fun i j h=>by
  rcases (Bool.or_eq_true _ _).mp h with q|q
  · exact .inl (uT q)
  · exact .inr (uT q)
theorem fz {K:PySem.W.Frag}:Og K fG (rI (fun _ j=>0 < j) fun i j=>.int (i % j)):=Cs fun i j h=>of_decide_eq_true h
def Ls (_ j:Int):Prop:=0 < j∧j < 2 ^ 250
theorem E5:OpR X (binaryOp .FloorDiv) (rI Ls fun i j=>.int (i / j)):=opI fun i j _ _ _ _ _ hc q=>by
  have h0:j≠0:=by have:=hc.1;omega
  refine PyProof.Rows.floordiv_int h0 (by rw [Int.fdiv_eq_ediv_of_nonneg _ (Int.le_of_lt hc.1)];exact q) (.inl (PyProof.noPylong_of_log2 ?_))
  have h2:j.natAbs < 2 ^ 250:=by have:=hc.2;have:=hc.1;omega
  have h3:j.natAbs≠0:=by omega
  have:=(Nat.log2_lt h3).mpr h2
  omega
theorem Jw {K:PySem.W.Frag}:Og K E4 (rI Ls fun i j=>.int (i / j)):=Cs fun i j h=>by
  simp only [Bool.and_eq_true,decide_eq_true_eq] at h;exact h
theorem Jx {K:PySem.W.Frag}:Og K Lq (rI Ld fun i j=>.int (i ^ j.toNat)):=Cs fun i j h=>by
  simp only [Bool.and_eq_true,decide_eq_true_eq] at h
  have:=uT h.2
  exact⟨h.1.1,h.1.2,by omega⟩
theorem uU {K:PySem.W.Frag}{ρ:List Addr}{H:Hp}{d:D}{v:V}(h:RD K ρ H d v):oD d=decide (v=.non):=by
  cases d<;>simp only [RD] at h
  · subst h;rfl
  · subst h;rfl
  · subst h;rfl
  · subst h;rfl
  · obtain⟨p,vs,rfl,_⟩:=h;rfl
  · obtain⟨p,vs,rfl⟩:=h;rfl
  · obtain⟨p,vs,rfl,_⟩:=h;rfl
  · obtain⟨_,p,vs,rfl,_⟩:=h;rfl
theorem oJ {K:PySem.W.Frag}:Og K ml (fun x y H Q=>y=.non∧Q (.bl (decide (x=.non))) H):=by
  intro ρ H σd hd σ d k v w Q rs rv rw' p
  unfold ml at p
  cases e:oD k with
  | false=>rw [e] at p;exact p.elim
  | true =>
    rw [e,if_pos rfl] at p
    refine⟨of_decide_eq_true ((uU rw').symm.trans e),?_⟩
    rw [← uU rv]
    exact p.here rs (by simp only [rD,RD])
theorem Dn {K:PySem.W.Frag}:Og K eZ (fun x y H Q=>y=.non∧Q (.bl (!decide (x=.non))) H):=by
  intro ρ H σd hd σ d k v w Q rs rv rw' p
  unfold eZ at p
  cases e:oD k with
  | false=>rw [e] at p;exact p.elim
  | true =>
    rw [e,if_pos rfl] at p
    refine⟨of_decide_eq_true ((uU rw').symm.trans e),?_⟩
    rw [← uU rv]
    exact p.here rs (by simp only [rD,RD])
theorem jE {K:PySem.W.Frag}{ρ:List Addr}{H:Hp}{σd:Sd}{σ:St}{r:Res D}{Q:Bool→Hp→Prop}(h:aX K rB ρ H σd σ (asB r) Q):aX K (rD K) ρ H σd σ r (fun x H'=>∃ c,x=.bl c∧Q c H'):=by
  refine (aX.bind (R:=rD K) h).imp fun v H1 ⟨ρ1,d,hd1,e1,rs1,rv,p1⟩ => ?_
  cases d<;>first|exact p1.elim|skip
  simp only [rD,RD] at rv
  exact⟨_,rv,p1.here rs1 rfl⟩
theorem bF {e:Expr}{f:EF}(h:ME X e f)(he:∀ whole,isTrue e X.env whole=(do let v ← whole;standAt e.pos;holding [v] (truthy v)):=by intro _;rfl):MT X e (tE f) :=
  PT.imp (IS h he) fun σ H Q ⟨ρ,σd,hd,rs,p⟩=>⟨ρ,σd,hd,rs,jE p⟩
theorem bK {a b:Expr}{fa fb:EF}{op:CmpOp}{r:R2}{g:O2}(ho:OpR X (compareOp op) r)(hg:Og X.K g r)(ha:ME X a fa)(hb:ME X b fb)(hm:behindInMarks op b=false):MT X (.Compare a [op] [b] pos) (tE (aj g fa fb)):=by
  refine PT.imp (Cn ho ha hb hm) fun σ H Q ⟨ρ,σd,hd,rs,p⟩ => ?_
  have p:=jE p
  refine⟨ρ,σd,hd,rs,(aX.bind (R:=rD X.K) p).imp fun v H1 ⟨ρ1,d,hd1,e1,rs1,rv,p1⟩ => ?_⟩
  refine⟨ρ1,σd,hd1,rs1,(aX.bind (R:=rD X.K) p1).imp fun w H2 ⟨ρ2,k,hd2,e2,rs2,rw',p2⟩ => ?_⟩
  exact hg ρ2 H2 σd hd2 σ d k v w _ rs2 (rv.mono (rs1.hp.kp e2)) rw' p2
theorem bT {a:Expr}{t:TF}(h:MT X a t):MT X (.UnaryOp .Not a pos) (bx t):=by
  refine PT.imp (IU h) fun σ H Q ⟨ρ,σd,hd,rs,p⟩=>⟨ρ,σd,hd,rs,(aX.bind (R:=rB) p).imp fun c H1 ⟨ρ1,d,hd1,e1,rs1,rv,p1⟩ => ?_⟩
  cases rv
  exact p1.here rs1 rfl
theorem fV {op a}{t:TF}(h:MT X a t)(ho:op=BoolOp.And∨op=BoolOp.Or):MW X (.BoolOp op [a] pos) t:=by
  rcases ho with rfl|rfl
  · exact G7 h
  · exact IT h
theorem gL {a b:Expr}{rest:List Expr}{t u:TF}(ha:MT X a t)(hb:MW X (.BoolOp .Or (b :: rest) pos) u):MW X (.BoolOp .Or (a :: b :: rest) pos) (tOr t u):=by
  refine PW.imp (K0 ha hb) fun σ H Q ⟨ρ,σd,hd,rs,p⟩=>⟨ρ,σd,hd,rs,(aX.bind (R:=rB) p).imp fun c H1 ⟨ρ1,d,hd1,e1,rs1,rv,p1⟩ => ?_⟩
  cases rv
  cases c with
  | true=>simp only [if_true] at p1 ⊢;exact p1.here rs1 rfl
  | false=>simp only [Bool.false_eq_true,if_false] at p1 ⊢;exact⟨ρ1,σd,hd1,rs1,p1⟩
theorem MW.mt {e:Expr}{t:TF}(h:MW X e t):MT X e t:=h.pt
theorem Hw {K:PySem.W.Frag}{t:TF}{σ:St}{H:Hp}{Q:VK}(h:i6 K (rD K) (fT t) σ H Q):i6 K rB t σ H (fun b H'=>Q (.bl b) H'):=by
  obtain⟨ρ,σd,hd,rs,p⟩:=h
  refine⟨ρ,σd,hd,rs,(aX.bind (R:=rB) p).imp fun c H1 ⟨ρ1,d,hd1,e1,rs1,rv,p1⟩ => ?_⟩
  cases rv
  exact p1.here rs1 (by simp only [rD,RD])
def MB (X:Cx) (e:Expr) (t:TF):Prop:=PE X e (fun σ H Q=>i6 X.K rB t σ H fun b H'=>Q (.bl b) H')
theorem MB.me {e:Expr}{t:TF}(h:MB X e t):ME X e (fT t):=PE.imp h fun _ _ _ q=>Hw q
theorem fW {e:Expr}{f:EF}(h:ME X e f):MB X e (tE f):=by
  refine PE.imp h fun σ H Q ⟨ρ,σd,hd,rs,p⟩=>⟨ρ,σd,hd,rs,(jE p).imp ?_⟩
  rintro v H1 ⟨c,rfl,q⟩
  exact q
theorem i7 {op a}{t:TF}(h:MB X a t):MB X (.BoolOp op [a] pos) t:=IV h
theorem uV {a b:Expr}{rest:List Expr}{t u:TF}(ha:MB X a t)(hb:MB X (.BoolOp .And (b :: rest) pos) u):MB X (.BoolOp .And (a :: b :: rest) pos) (uK t u):=by
  refine PE.imp (IW ha hb) fun σ H Q ⟨ρ,σd,hd,rs,p⟩=>⟨ρ,σd,hd,rs,(aX.bind (R:=rB) p).imp fun c H1 ⟨ρ1,d,hd1,e1,rs1,rv,p1⟩=>⟨c,rfl,?_⟩⟩
  cases rv
  cases c with
  | true=>simp only [if_true] at p1 ⊢;exact⟨ρ1,σd,hd1,rs1,p1⟩
  | false=>simp only [Bool.false_eq_true,if_false] at p1 ⊢;exact p1.here rs1 rfl
theorem Ct {a b:Expr}{rest:List Expr}{t u:TF}(ha:MB X a t)(hb:MB X (.BoolOp .Or (b :: rest) pos) u):MB X (.BoolOp .Or (a :: b :: rest) pos) (tOr t u):=by
  refine PE.imp (K3 ha hb) fun σ H Q ⟨ρ,σd,hd,rs,p⟩=>⟨ρ,σd,hd,rs,(aX.bind (R:=rB) p).imp fun c H1 ⟨ρ1,d,hd1,e1,rs1,rv,p1⟩=>⟨c,rfl,?_⟩⟩
  cases rv
  cases c with
  | true=>simp only [if_true] at p1 ⊢;exact p1.here rs1 rfl
  | false=>simp only [Bool.false_eq_true,if_false] at p1 ⊢;exact⟨ρ1,σd,hd1,rs1,p1⟩
theorem Jy {a:Expr}{t:TF}(h:MB X a t):MB X (.UnaryOp .Not a pos) (bx t):=by
  refine PE.imp (IX h) fun σ H Q ⟨ρ,σd,hd,rs,p⟩=>⟨ρ,σd,hd,rs,(aX.bind (R:=rB) p).imp fun c H1 ⟨ρ1,d,hd1,e1,rs1,rv,p1⟩=>⟨c,rfl,?_⟩⟩
  cases rv
  exact p1.here rs1 rfl
theorem IG {c a b:Expr}{t:TF}{fa fb:EF}(hc:MT X c t)(ha:ME X a fa)(hb:ME X b fb):ME X (.IfExp c a b pos) (fIf t fa fb):=by
  refine PE.imp (EG hc ha hb) fun σ H Q ⟨ρ,σd,hd,rs,p⟩=>⟨ρ,σd,hd,rs,(aX.bind (R:=rB) p).imp fun c H1 ⟨ρ1,d,hd1,e1,rs1,rv,p1⟩ => ?_⟩
  cases rv
  cases c with
  | true=>simp only [if_true] at p1 ⊢;exact⟨ρ1,σd,hd1,rs1,p1⟩
  | false=>simp only [Bool.false_eq_true,if_false] at p1 ⊢;exact⟨ρ1,σd,hd1,rs1,p1⟩
end
end Fm
set_option Elab.async false
set_option linter.all false
set_option maxRecDepth 100000
namespace Fm
open PySem PySem.Spec L2
section
variable {X:Cx} {pos:Pos}
theorem AG {K:PySem.W.Frag}{ρ:List Addr}{H:Hp}{σd:Sd}{hd:Hd}{σ:St}{r r':R2}{g k:O2}{fa fb fc:EF}{Q:VK}(hg:Og K g r)(hk:Og K k r')(rs:RS K ρ H σd hd σ)
    (p:aX K (rD K) ρ H σd σ (oE g k fa fb fc σd hd) Q):EQ r r' (i6 K (rD K) fa) (i6 K (rD K) fb) (i6 K (rD K) fc) σ H Q:=by
  refine⟨ρ,σd,hd,rs,(aX.bind (R:=rD K) p).imp fun v H1 ⟨ρ1,d,hd1,e1,rs1,rv,p1⟩ => ?_⟩
  refine⟨ρ1,σd,hd1,rs1,(aX.bind (R:=rD K) p1).imp fun w H2 ⟨ρ2,d2,hd2,e2,rs2,rw2,p2⟩ => ?_⟩
  refine hg ρ2 H2 σd hd2 σ d d2 v w _ rs2 (rv.mono (rs1.hp.kp e2)) rw2 ((aX.bind (R:=rD K) p2).imp fun z H3 ⟨ρ3,d3,hd3,e3,rs3,rz,p3⟩ => ?_)
  cases d3<;>first|exact p3.elim|skip
  rename_i b
  simp only [rD,RD] at rz
  refine⟨b,rz,?_⟩
  cases b with
  | false =>
    rw [if_neg Bool.false_ne_true]
    exact p3.here rs3 (by simp only [rD,RD])
  | true =>
    rw [if_pos rfl]
    refine⟨ρ3,σd,hd3,rs3,(aX.bind (R:=rD K) p3).imp fun u H4 ⟨ρ4,d4,hd4,e4,rs4,ru,p4⟩ => ?_⟩
    exact hk ρ4 H4 σd hd4 σ d2 d4 w u Q rs4 ((rw2.mono (rs2.hp.kp e3)).mono (rs3.hp.kp e4)) ru p4
theorem E6 {a b c:Expr}{fa fb fc:EF}{op op':CmpOp}{r r':R2}{g k:O2}(ho:OpR X (compareOp op) r)(ho':OpR X (compareOp op') r')(hg:Og X.K g r)(hk:Og X.K k r')(ha:ME X a fa)(hb:ME X b fb)(hc:ME X c fc)
    (hm:lastMarks [op,op'] [b,c] = false:=by with_unfolding_all rfl):ME X (.Compare a [op,op'] [b,c] pos) (oE g k fa fb fc) :=
  PE.imp (ER ho ho' ha hb hc hm) fun _ _ _ ⟨_,_,_,rs,p⟩=>AG hg hk rs p
theorem ao:MA X [] ak:=PA.imp cR fun _ _ _ ⟨_,_,_,rs,p⟩=>p.here rs RDs.nil
theorem ad {e:Expr}{es:List Expr}{f:EF}{r:LF}(he:ME X e f)(hr:MA X es r)(hs:starEach (e :: es) X.env=(false,eval e X.env) :: starEach es X.env:=by rfl):MA X (e :: es) (ab f r):=by
  refine PA.imp (bz he hr hs) fun σ H Q ⟨ρ,σd,hd,rs,p⟩ => ?_
  refine⟨ρ,σd,hd,rs,(aX.bind (R:=rD X.K) p).imp fun v H1 ⟨ρ1,d,hd1,e1,rs1,rv,p1⟩ => ?_⟩
  refine⟨ρ1,σd,hd1,rs1,(aX.bind (R:=rDs X.K) p1).imp fun vs H2 ⟨ρ2,ds,hd2,e2,rs2,rvs,p2⟩ => ?_⟩
  exact p2.here rs2 (RDs.cons (rv.mono (rs1.hp.kp e2)) rvs)
theorem nV {n:Nat}(h:n≤SZ):n≤sizeLine:=Nat.le_trans h (by show 1000000≤2 ^ 24;decide)
theorem i8 {es:List Expr}{k}{r:LF}(h:MA X es r):ME X (.Tuple es k pos) (fH r):=by
  refine PE.imp (Jj h) fun σ H Q ⟨ρ,σd,hd,rs,p⟩ => ?_
  refine⟨ρ,σd,hd,rs,(aX.bind (R:=rDs X.K) p).imp fun vs H1 ⟨ρ1,ds,hd1,e1,rs1,rvs,p1⟩ => ?_⟩
  by_cases hz:ds.length≤SZ
  · rw [if_pos hz] at p1
    refine⟨by rw [← rvs.length];exact nV hz,fun q hq => ?_⟩
    have sm:=ce (o:=HO.tup vs) hq
    exact p1.at (Ext.same sm) (rs1.same sm) (by simp only [rD,RD];exact⟨q,vs,rfl,a6,rvs.mono (Kp.same sm)⟩)
  · rw [if_neg hz] at p1;exact p1.elim
theorem Ext.fresh {ρ ρ':List Addr}{H H':Hp}{q:Addr}(e:Ext ρ H ρ' H')(h:H' q=none)(n:q ∉ ρ'):H q=none:=by
  cases z:H q with
  | none=>rfl
  | some o =>
    by_cases hq:q ∈ ρ
    · obtain⟨t,rfl⟩:=e.pre
      exact absurd (List.mem_append_left t hq) n
    · rw [e.frame q o z hq] at h;cases h
theorem RH.free {K:PySem.W.Frag}{ρ:List Addr}{H:Hp}{hd:Hd}(r:RH K ρ H hd){q:Addr}(h:H q=none):q ∉ ρ:=fun z=>by
  rcases r.mut z with ⟨_,e⟩|⟨_,e⟩<;>(rw [h] at e;cases e)
theorem x6.mk {K:PySem.W.Frag}{ρ ρ1:List Addr}{H H1:Hp}{hd1:Hd}{σd:Sd}{σ:St}{l:List D}{vs:List V}{Q:VK}(p:x6 K ρ H σd σ (.ok l hd1) Q)(e1:Ext ρ H ρ1 H1)(rs1:RS K ρ1 H1 σd hd1 σ)(r:RDs K ρ1 H1 l vs) :
    ∀ q,H1 q=none→Q (.ref q) (upd H1 q (.lst vs)):=fun q hq=>by
  have sm:=ce (o:=HO.lst vs) hq
  have nq:=rs1.hp.free hq
  exact p q vs _ ρ1 (e1.trans (Ext.same sm)) (rs1.same sm) (e1.fresh hq nq) a6 nq (r.mono (Kp.same sm))
theorem cy {es:List Expr}{r:LF}(h:MA X es r)(hz:∀ σd hd ds hd',r σd hd=.ok ds hd'→ds.length≤SZ):MF X (.List es pos) r:=by
  refine PE.imp (Jk h) fun σ H Q ⟨ρ,σd,hd,rs,p⟩ => ?_
  refine⟨ρ,σd,hd,rs,?_⟩
  cases e:r σd hd with
  | exc x h'=>rw [e] at p;exact p
  | bad=>rw [e] at p;exact p
  | ok ds hd1 =>
    rw [e] at p
    intro vs H1 ρ1 e1 rs1 rvs
    exact⟨by rw [← RDs.length rvs];exact nV (hz _ _ _ _ e),p.mk e1 rs1 rvs⟩
theorem aK {f:EF}{r:LF}{n:Nat}(h:∀ σd hd ds hd',r σd hd=.ok ds hd'→ds.length=n):∀ σd hd ds hd',ab f r σd hd=.ok ds hd'→ds.length=n + 1:=by
  intro σd hd ds hd' e
  simp only [ab] at e
  cases e1:f σd hd with
  | exc x h'=>rw [e1] at e;cases e
  | bad=>rw [e1] at e;cases e
  | ok d h1 =>
    rw [e1] at e
    simp only [aq] at e
    cases e2:r σd h1 with
    | exc x h'=>rw [e2] at e;cases e
    | bad=>rw [e2] at e;cases e
    | ok ds2 h2 =>
      rw [e2] at e
      simp only [aq] at e
      cases e
      simp [h _ _ _ _ e2]
theorem bv:∀ σd hd ds hd',ak σd hd=.ok ds hd'→ds.length=0:=by
  intro σd hd ds hd' e
  simp only [ak] at e
  cases e
  rfl
theorem bh {e:Expr}{r:LF}(h:MF X e r):ME X e (aT r):=by
  refine PE.imp h fun σ H Q ⟨ρ,σd,hd,rs,p⟩=>⟨ρ,σd,hd,rs,?_⟩
  unfold aT at p
  cases e:r σd hd with
  | exc x h'=>rw [e] at p;exact p
  | bad=>rw [e] at p;exact p
  | ok ds hd1 =>
    rw [e] at p
    simp only [aq] at p
    intro q vs H1 ρ1 e1 rs1 hq0 hq hn rvs
    by_cases hz:ds.length≤SZ
    · rw [if_pos hz] at p
      have rh:=rs1.hp.alloc hq hn rvs
      have ex:Ext ρ H (ρ1++[q]) H1:=⟨by obtain⟨t,rfl⟩:=e1.pre;exact⟨t++[q],by simp⟩,fun a ha=>by
        rcases List.mem_append.mp ha with z|z
        · exact e1.new a z
        · simp at z;subst z;exact .inr hq0,e1.frame⟩
      refine p.at ex (rs.ext ex rh) ?_
      simp only [rD,RD]
      refine⟨q,?_,rfl⟩
      rw [← rs1.hp.len]
      simp
    · rw [if_neg hz] at p;exact p.elim
theorem fX {e:Expr}{r:LF}(h:MF X e r):MQ X e r:=by
  refine PE.imp h fun σ H Q ⟨ρ,σd,hd,rs,p⟩=>⟨ρ,σd,hd,rs,?_⟩
  cases e:r σd hd with
  | exc x h'=>rw [e] at p;exact p
  | bad=>rw [e] at p;exact p
  | ok ds hd1 =>
    rw [e] at p
    intro q vs H1 ρ1 e1 rs1 hq0 hq hn rvs
    exact p (.ref q) H1 ρ1 e1 rs1 ⟨q,vs,rfl,.inl (SqL.of hq),rvs⟩
theorem nh.sq {K:PySem.W.Frag}{H:Hp}{a:Addr}{xs:List V}(h:nh K H a xs):SqL K H a xs:=by
  rcases h with ⟨o,h⟩|h
  · exact .inl (.inr ⟨o,h⟩)
  · exact .inr h
theorem Cu {K:PySem.W.Frag}{ρ:List Addr}{H:Hp}{hd:Hd}{d:D}{v:V}{l:List D}(r:RH K ρ H hd)(h:RD K ρ H d v)(e:jQ hd d=some l):∃ p vs,v=.ref p∧(SqL K H p vs∨H p=some (.tup vs))∧RDs K ρ H l vs:=by
  cases d<;>simp only [jQ] at e<;>try (cases e;done)
  · cases e
    simp only [RD] at h
    obtain⟨p,vs,e1,e2,e3⟩:=h
    exact⟨p,vs,e1,.inr e2,e3⟩
  · rename_i n
    simp only [RD] at h
    obtain⟨a,e1,e2⟩:=h
    cases c:hd[n]? with
    | none=>rw [c] at e;cases e
    | some x =>
      rw [c] at e
      cases x with
      | dct l=>cases e
      | lst l' =>
        cases e
        obtain⟨vs,q1,q2⟩:=r.cel n _ a c e1
        exact⟨a,vs,e2,.inl (SqL.of q1),q2⟩
  · cases e
    simp only [RD] at h
    obtain⟨p,vs,e1,e2,e3⟩:=h
    exact⟨p,vs,e1,.inl e2.sq,e3⟩
theorem cv {e:Expr}{f:EF}(h:ME X e f):MQ X e (lOf f):=by
  refine PE.imp h fun σ H Q ⟨ρ,σd,hd,rs,p⟩=>⟨ρ,σd,hd,rs,(aX.bind (R:=rD X.K) p).imp fun v H1 ⟨ρ1,d,hd1,e1,rs1,rv,p1⟩ => ?_⟩
  cases e:jQ hd1 d with
  | none=>rw [e] at p1;exact p1.elim
  | some l=>rw [e] at p1;exact p1.here rs1 (Cu rs1.hp rv e)
theorem Cv {K:PySem.W.Frag}{ρ:List Addr}{H:Hp}{l:List D}{vs:List V}{i:Int}{d:D}(r:RDs K ρ H l vs)(e:atI l i=some d):∃ v,L2.atI vs i=some v∧RD K ρ H d v:=by
  unfold atI at e
  unfold L2.atI
  have hl:=r.length
  have hx:ixN l.length i=L2.ixN vs.length i:=by rw [hl];rfl
  rw [hx] at e
  cases c:L2.ixN vs.length i with
  | none=>rw [c] at e;cases e
  | some j =>
    rw [c] at e
    simp only [Option.bind_some] at e ⊢
    exact r.get e
theorem aY {a b:Expr}{fa fb:EF}(ha:ME X a fa)(hb:ME X b fb)(hs:nU b):ME X (.Subscript a b pos) (fAt fa fb):=by
  refine me2 (a:=a) (b:=b) (g:=oAt) (EX Jp ha hb hs) fun ρ H σd hd σ d k v w Q rs rv rw' p => ?_
  unfold oAt at p
  cases e:jQ hd d with
  | none=>rw [e] at p;exact p.elim
  | some l =>
    rw [e] at p
    cases k<;>first|exact p.elim|skip
    rename_i i
    simp only at p
    cases e2:atI l i with
    | none=>rw [e2] at p;exact p.elim
    | some x =>
      rw [e2] at p
      simp only [RD] at rw'
      obtain⟨q,vs,hv,sq,rvs⟩:=Cu rs.hp rv e
      obtain⟨u,hu,ru⟩:=Cv rvs e2
      rcases sq with sq|sq
      · exact .inl ⟨q,vs,i,u,hv,rw',sq,hu,p.here rs ru⟩
      · exact .inr (.inl ⟨q,vs,i,u,hv,rw',SqT.of sq,hu,p.here rs ru⟩)
theorem tS {a b:Expr}{la:LF}{fb:EF}(ha:MF X a la)(hb:ME X b fb)(hs:nU b):ME X (.Subscript a b pos) (fIx la fb):=by
  refine PE.imp (EX Cq ha hb hs) fun σ H Q ⟨ρ,σd,hd,rs,p⟩=>⟨ρ,σd,hd,rs,?_⟩
  unfold fIx at p
  cases e:la σd hd with
  | exc x h'=>rw [e] at p;exact p
  | bad=>rw [e] at p;exact p
  | ok l hd1 =>
    rw [e] at p
    simp only [aq] at p
    intro q vs H1 ρ1 e1 rs1 hq0 hq hn rvs
    refine⟨ρ1,σd,hd1,rs1,(aX.bind (R:=rD X.K) (p.ext e1)).imp fun w H2 ⟨ρ2,k,hd2,e2,rs2,rw',p2⟩ => ?_⟩
    cases k<;>first|exact p2.elim|skip
    rename_i i
    simp only at p2
    cases e3:atI l i with
    | none=>rw [e3] at p2;exact p2.elim
    | some x =>
      rw [e3] at p2
      simp only [rD,RD] at rw'
      obtain⟨u,hu,ru⟩:=Cv (rvs.mono (rs1.hp.kp e2)) e3
      exact⟨q,vs,i,u,rfl,rw',SqL.of (e2.frame q _ hq hn),hu,p2.here rs2 ru⟩
end
end Fm
set_option Elab.async false
set_option linter.all false
set_option maxRecDepth 100000
namespace Fm
open PySem PySem.Spec L2
section
variable {X:Cx} {pos:Pos}
def B1 (X:Cx) (r:List V→Hp→VK→Prop) (x:Str) (p pos:Pos) (a:Expr):Prop:=∀ t,PA X [a] t→PE X (.Call (.Name x p) [a] [] pos) (tCB r t)
theorem E7 {x:Str} {p:Pos} {a:Expr} {id:String} {r:List V→Hp→VK→Prop} (hc:fF X (.builtin id) r) (hg:Gl X x) (hm:X.mg x=none) (hv:bootBuiltins x=some (.builtin id)) (hn:x ≠ "__name__" := by decide) (hdb:(x == ("__debug__" : Str))=false:=by decide)
    (he:starEach [a] X.env=(false,eval a X.env) :: starEach [] X.env:=by rfl):B1 X r x p pos a:=fun _ ha=>gF hc hg hm hv ha hn hdb he
theorem E8 {x:Str} {p:Pos} {a:Expr} {T:String} {r:List V→Hp→VK→Prop} (hc:fF X (.type T) r) (hg:Gl X x) (hm:X.mg x=none) (hv:bootBuiltins x=some (.type T)) (hn:x ≠ "__name__" := by decide) (hdb:(x == ("__debug__" : Str))=false:=by decide)
    (he:starEach [a] X.env=(false,eval a X.env) :: starEach [] X.env:=by rfl):B1 X r x p pos a:=fun _ ha=>tN hc hg hm hv ha hn hdb he
theorem AH {x:Str}{p:Pos}{a:Expr}{la:LF}{r:List V→Hp→VK→Prop}{g:List D→Hd→Res D}(hb:B1 X r x p pos a)(ha:MQ X a la)
    (hg:∀ ρ H σd hd σ l q vs Q,RS X.K ρ H σd hd σ → (SqL X.K H q vs∨H q=some (.tup vs))→RDs X.K ρ H l vs→aX X.K (rD X.K) ρ H σd σ (g l hd) Q→r [.ref q] H Q)
    (hs:starEach [a] X.env=(false,eval a X.env) :: starEach [] X.env:=by rfl):ME X (.Call (.Name x p) [a] [] pos) (fun σ h=>(la σ h).bind fun l h=>g l h):=by
  refine PE.imp (hb _ (bz ha cR hs)) fun σ H Q ⟨ρ,σd,hd,rs,pp⟩=>⟨ρ,σd,hd,rs,(aX.bind (R:=rQ X.K) pp).imp fun v H1 ⟨ρ1,l,hd1,e1,rs1,⟨q,vs,hv,sq,rvs⟩,p1⟩ => ?_⟩
  subst hv
  exact hg ρ1 H1 σd hd1 σ l q vs Q rs1 sq rvs p1
theorem E9 {x:Str}{p:Pos}{a:Expr}{fa:EF}{r:List V→Hp→VK→Prop}{g:D→Hd→Res D}(hb:B1 X r x p pos a)(ha:ME X a fa)
    (hg:∀ ρ H σd hd σ d v Q,RS X.K ρ H σd hd σ → RD X.K ρ H d v→aX X.K (rD X.K) ρ H σd σ (g d hd) Q→r [v] H Q)
    (hs:starEach [a] X.env=(false,eval a X.env) :: starEach [] X.env:=by rfl):ME X (.Call (.Name x p) [a] [] pos) (fun σ h=>(fa σ h).bind fun x h=>g x h):=by
  refine PE.imp (hb _ (bz ha cR hs)) fun σ H Q ⟨ρ,σd,hd,rs,pp⟩=>⟨ρ,σd,hd,rs,(aX.bind (R:=rD X.K) pp).imp fun v H1 ⟨ρ1,d,hd1,e1,rs1,rv,p1⟩ => ?_⟩
  exact hg ρ1 H1 σd hd1 σ d v Q rs1 rv p1
theorem cG {p:Pos} {a:Expr} {la:LF} (hg:Gl X "len") (hm:X.mg "len" = none) (ha:MQ X a la) (hs:starEach [a] X.env=(false,eval a X.env) :: starEach [] X.env:=by rfl):ME X (.Call (.Name "len" p) [a] [] pos) (cx la) :=
  AH (g:=fun l h=>.ok (.int l.length) h) (E7 uP hg hm PySem.boot_len (he:=hs)) ha (fun ρ H σd hd σ l q vs Q rs sq rvs p=>⟨q,vs,rfl,sq.imp id SqT.of,by rw [← rvs.length];exact p.here rs (by simp only [rD,RD])⟩) hs
theorem jF {p:Pos} {a:Expr} {la:LF} (hg:Gl X "tuple") (hm:X.mg "tuple" = none) (ha:MQ X a la) (hs:starEach [a] X.env=(false,eval a X.env) :: starEach [] X.env:=by rfl):ME X (.Call (.Name "tuple" p) [a] [] pos) (fk la):=by
  refine AH (g:=fun l h=>.ok (.tup l) h) (E8 qt hg hm (by decide +kernel) (he:=hs)) ha (fun ρ H σd hd σ l q vs Q rs sq rvs p=>⟨q,vs,rfl,?_⟩) hs
  rcases sq with sq|sq
  · refine .inl ⟨sq,fun q' hq => ?_⟩
    have sm:=ce (o:=HO.tup vs) hq
    exact p.at (Ext.same sm) (rs.same sm) (by simp only [rD,RD];exact⟨q',vs,rfl,a6,rvs.mono (Kp.same sm)⟩)
  · exact .inr ⟨SqT.of sq,p.here rs (by simp only [rD,RD];exact⟨q,vs,rfl,sq,rvs⟩)⟩
theorem kE {K:PySem.W.Frag}{ρ:List Addr}{H:Hp}:∀ {l:List D} {vs:List V} {is:List Int},RDs K ρ H l vs→gK l=some is→vs=is.map V.int
  | [],_,is,r,e=>by simp only [gK] at e;cases e;simp only [RDs] at r;subst r;rfl
  | d :: l,_,is,r,e=>by
    simp only [RDs] at r
    obtain⟨v,vs,rfl,h1,h2⟩:=r
    cases d<;>simp only [gK] at e<;>try (cases e;done)
    rename_i i
    cases c:gK l with
    | none=>rw [c] at e;cases e
    | some js =>
      rw [c] at e
      cases e
      simp only [RD] at h1
      rw [h1,kE h2 c]
      rfl
end
end Fm
set_option Elab.async false
set_option linter.all false
set_option maxRecDepth 100000
namespace Fm
open PySem PySem.Spec L2
section
variable {K:PySem.W.Frag} {ρ:List Addr} {H:Hp}
mutual
theorem x9:∀ {d k:D} {v:V} {b:Bool},RD K ρ H d v→RD K ρ H k v→peq d k=some b→b=true
  | .int i,k,v,b,h1,h2,e=>by
    simp only [RD] at h1;subst h1
    cases k<;>simp only [RD] at h2<;>try (cases h2;done)
    all_goals first
      | (cases h2;simp only [peq] at e;simpa using e.symm)
      | (obtain⟨_,_,z,_⟩:=h2;cases z;done)
      | (obtain⟨_,_,z⟩:=h2;cases z;done)
      | (obtain⟨_,_,_,z,_⟩:=h2;cases z;done)
  | .bl i,k,v,b,h1,h2,e=>by
    simp only [RD] at h1;subst h1
    cases k<;>simp only [RD] at h2<;>try (cases h2;done)
    all_goals first
      | (cases h2;simp only [peq] at e;simpa using e.symm)
      | (obtain⟨_,_,z,_⟩:=h2;cases z;done)
      | (obtain⟨_,_,z⟩:=h2;cases z;done)
      | (obtain⟨_,_,_,z,_⟩:=h2;cases z;done)
  | .str x,k,v,b,h1,h2,e=>by
    simp only [RD] at h1;subst h1
    cases k<;>simp only [RD] at h2<;>try (cases h2;done)
    all_goals first
      | (simp only [peq] at e;simp only [toS,V.str.injEq,PySem.Str.mk.injEq] at h2;have h3:=congrArg Array.toList h2;simp at h3;subst h3;simpa using e.symm)
      | (obtain⟨_,_,z,_⟩:=h2;cases z;done)
      | (obtain⟨_,_,z⟩:=h2;cases z;done)
      | (obtain⟨_,_,_,z,_⟩:=h2;cases z;done)
  | .non,k,v,b,h1,h2,e=>by
    simp only [RD] at h1;subst h1
    cases k<;>simp only [RD] at h2<;>try (cases h2;done)
    all_goals first
      | (simp only [peq] at e;simpa using e.symm)
      | (obtain⟨_,_,z,_⟩:=h2;cases z;done)
      | (obtain⟨_,_,z⟩:=h2;cases z;done)
      | (obtain⟨_,_,_,z,_⟩:=h2;cases z;done)
  | .tup xs,k,v,b,h1,h2,e=>by
    simp only [RD] at h1
    obtain⟨p,vs,rfl,hp,r1⟩:=h1
    cases k<;>simp only [peq] at e<;>try (cases e;done)
    · simp only [RD] at h2;cases h2
    · simp only [RD] at h2;cases h2
    · rename_i ys
      simp only [RD] at h2
      obtain⟨p',vs',z,hp',r2⟩:=h2
      cases z
      rw [hp] at hp';cases hp'
      cases c:gJ xs ys with
      | none=>rw [c] at e;cases e
      | some b' =>
        rw [c] at e
        simp only [Option.map_some,Option.some.injEq] at e
        have:=tT r1 r2 c
        subst this
        rw [← e,r1.length,r2.length]
        simp
  | .ref n,k,v,b,h1,h2,e=>by cases k<;>simp only [peq] at e<;>cases e
  | .lit l,k,v,b,h1,h2,e=>by cases k<;>simp only [peq] at e<;>cases e
  | .exn c l,k,v,b,h1,h2,e=>by simp only [peq] at e<;>cases e
theorem tT:∀ {xs ys:List D} {vs:List V} {b:Bool},RDs K ρ H xs vs→RDs K ρ H ys vs→gJ xs ys=some b→b=true
  | [],_,_,_,_,_,e=>by simp only [gJ] at e;cases e;rfl
  | x :: xs,[],_,_,_,_,e=>by simp only [gJ] at e;cases e;rfl
  | x :: xs,y :: ys,_,b,h1,h2,e=>by
    simp only [RDs] at h1 h2
    obtain⟨v,r,rfl,a1,a2⟩:=h1
    obtain⟨v',r',z,b1,b2⟩:=h2
    cases z
    simp only [gJ] at e
    cases c:peq x y with
    | none=>rw [c] at e;cases e
    | some p =>
      cases c2:gJ xs ys with
      | none=>rw [c,c2] at e;cases e
      | some q =>
        rw [c,c2] at e
        simp only [Option.some.injEq] at e
        rw [← e,x9 a1 b1 c,tT a2 b2 c2];rfl
end
end
section
variable {K:PySem.W.Frag} {ρ:List Addr} {H:Hp} {P:Program} {w:World} {s:Shared}
theorem ig (hok:HOk P w H s.heap){p:Addr}{vs:List V}(h:H p=some (.tup vs)):∃ its:List Value,aN vs its∧s.heap.IsTuple p its.toArray:=by
  obtain⟨z,its,r,t⟩:=hok p _ h
  exact⟨its,r,t⟩
mutual
theorem Jz (hok:HOk P w H s.heap):∀ {d k:D} {v v':V} {u u':Value} {b:Bool} {A:Around},RD K ρ H d v→RD K ρ H k v'→bq v u→bq v' u'→peq d k=some b→A.units + dep d < cLine→SeqAt.EqAt A s u u' b
  | .int i,k,v,v',u,u',b,A,h1,h2,r1,r2,e,hu=>by
    simp only [RD] at h1;subst h1
    obtain⟨t,rfl⟩:=r1
    cases k<;>simp only [peq] at e<;>try (cases e;done)
    all_goals cases e
    · simp only [RD] at h2;subst h2;cases r2;exact SeqAt.EqAt.int_none i t
    · simp only [RD] at h2;subst h2;cases r2;exact SeqAt.EqAt.int_bool i t _
    · simp only [RD] at h2;subst h2;obtain⟨t',rfl⟩:=r2;exact SeqAt.EqAt.int_int i t _ t'
    · simp only [RD] at h2;obtain⟨p,vs,rfl,hp,_⟩:=h2;cases r2
      obtain⟨its,_,il⟩:=ig hok hp
      exact SeqAt.EqAt.int_tuple i t il (Nat.lt_of_le_of_lt (Nat.le_add_right _ _) hu)
  | .bl i,k,v,v',u,u',b,A,h1,h2,r1,r2,e,hu=>by
    simp only [RD] at h1;subst h1
    cases r1
    cases k<;>simp only [peq] at e<;>try (cases e;done)
    all_goals cases e
    · simp only [RD] at h2;subst h2;cases r2;exact SeqAt.EqAt.bool_bool i _
    · simp only [RD] at h2;subst h2;obtain⟨t',rfl⟩:=r2;exact SeqAt.EqAt.bool_int i _ t'
  | .str x,k,v,v',u,u',b,A,h1,h2,r1,r2,e,hu=>by
    simp only [RD] at h1;subst h1
    obtain⟨t,rfl⟩:=r1
    cases k<;>simp only [peq] at e<;>try (cases e;done)
    all_goals cases e
    rename_i y
    simp only [RD] at h2;subst h2;obtain⟨t',rfl⟩:=r2
    have:decide (x=y)=(toS x == toS y):=by
      by_cases z:x=y
      · subst z;simp
      · have : ¬ toS x=toS y:=fun q=>z (by have:=congrArg (fun (s:Str)=>s.cps.toList) q;simpa [toS] using this)
        simp [z,this]
    rw [this]
    exact SeqAt.EqAt.str_str _ t _ t'
  | .non,k,v,v',u,u',b,A,h1,h2,r1,r2,e,hu=>by
    simp only [RD] at h1;subst h1
    cases r1
    cases k<;>simp only [peq] at e<;>try (cases e;done)
    all_goals cases e
    · simp only [RD] at h2;subst h2;cases r2;exact SeqAt.EqAt.same _
    · simp only [RD] at h2;subst h2;obtain⟨t',rfl⟩:=r2;exact SeqAt.EqAt.none_int _ t'
    · simp only [RD] at h2;obtain⟨p,vs,rfl,hp,_⟩:=h2;cases r2
      obtain⟨its,_,il⟩:=ig hok hp
      exact SeqAt.EqAt.none_tuple il (Nat.lt_of_le_of_lt (Nat.le_add_right _ _) hu)
  | .tup xs,k,v,v',u,u',b,A,h1,h2,r1,r2,e,hu=>by
    have h1':=h1
    simp only [RD] at h1
    obtain⟨p,vs,rfl,hp,q1⟩:=h1
    cases r1
    obtain⟨its,rv,il⟩:=ig hok hp
    have hu0:A.units < cLine:=Nat.lt_of_le_of_lt (Nat.le_add_right _ _) hu
    cases k<;>simp only [peq] at e<;>try (cases e;done)
    · cases e;simp only [RD] at h2;subst h2;cases r2;exact SeqAt.EqAt.tuple_none il hu0
    · cases e;simp only [RD] at h2;subst h2;obtain⟨t',rfl⟩:=r2;exact SeqAt.EqAt.tuple_int _ t' il hu0
    · rename_i ys
      have h2':=h2
      simp only [RD] at h2
      obtain⟨p',vs',rfl,hp',q2⟩:=h2
      cases r2
      by_cases hpp:p=p'
      · subst hpp
        have:b=true:=x9 h1' h2' (by simp only [peq];exact e)
        subst this
        exact SeqAt.EqAt.same _
      · obtain⟨its',rv',il'⟩:=ig hok hp'
        cases c:gJ xs ys with
        | none=>rw [c] at e;cases e
        | some b' =>
          rw [c] at e
          simp only [Option.map_some,Option.some.injEq] at e
          obtain⟨f,hf,ha⟩:=nW hok (A:=A.in1) q1 q2 rv rv' c (by simp only [dep] at hu;show A.units + 1 + kA xs < cLine;omega)
          have:=SeqAt.RcAt.tuples (s:=s) (A:=A) (e:=f) il il' hu0 (fun j h1 h2=>by simpa using hf j (by simpa using h1) (by simpa using h2))
          rw [← e,← ha,q1.length,q2.length,rv.length,rv'.length]
          refine SeqAt.EqAt.of_refs hpp ?_
          rw [show (decide (its.length=its'.length))=(its.length == its'.length) from rfl]
          simpa using this
  | .ref n,k,v,v',u,u',b,A,h1,h2,r1,r2,e,hu=>by cases k<;>simp only [peq] at e<;>cases e
  | .lit l,k,v,v',u,u',b,A,h1,h2,r1,r2,e,hu=>by cases k<;>simp only [peq] at e<;>cases e
  | .exn c l,k,v,v',u,u',b,A,h1,h2,r1,r2,e,hu=>by simp only [peq] at e<;>cases e
theorem nW (hok:HOk P w H s.heap):∀ {xs ys:List D} {vs vs':List V} {us us':List Value} {b:Bool} {A:Around},RDs K ρ H xs vs→RDs K ρ H ys vs'→aN vs us→aN vs' us'→gJ xs ys=some b→A.units + kA xs < cLine →
    ∃ f:Nat→Bool,(∀ j (h1:j < us.length) (h2:j < us'.length),SeqAt.EqAt A s us[j] us'[j] (f j))∧(List.range (min us.length us'.length)).all f=b
  | [],ys,vs,vs',us,us',b,A,h1,h2,r1,r2,e,hu=>by
    simp only [RDs] at h1;subst h1;cases r1
    simp only [gJ] at e;cases e
    exact⟨fun _=>true,fun j h1=>by simp at h1,by simp⟩
  | x :: xs,[],vs,vs',us,us',b,A,h1,h2,r1,r2,e,hu=>by
    simp only [RDs] at h2;subst h2;cases r2
    simp only [gJ] at e;cases e
    exact⟨fun _=>true,fun j h1 h2=>by simp at h2,by simp⟩
  | x :: xs,y :: ys,vs,vs',us,us',b,A,h1,h2,r1,r2,e,hu=>by
    simp only [RDs] at h1 h2
    obtain⟨v,r,rfl,a1,a2⟩:=h1
    obtain⟨v',r',rfl,b1,b2⟩:=h2
    cases r1 with
    | cons p1 p2 =>
      cases r2 with
      | cons s1 s2 =>
        simp only [gJ] at e
        cases c:peq x y with
        | none=>rw [c] at e;cases e
        | some p =>
          cases c2:gJ xs ys with
          | none=>rw [c,c2] at e;cases e
          | some q =>
            rw [c,c2] at e
            simp only [Option.some.injEq] at e
            simp only [kA] at hu
            have g1:=Jz hok (A:=A) a1 b1 p1 s1 c (by omega)
            obtain⟨f,hf,ha⟩:=nW hok (A:=A) a2 b2 p2 s2 c2 (by omega)
            refine⟨fun j=>match j with|0=>p|j + 1=>f j,fun j h1 h2 => ?_,?_⟩
            · cases j with
              | zero=>exact g1
              | succ j=>exact hf j (by simpa using h1) (by simpa using h2)
            · rw [← e,← ha,List.length_cons,List.length_cons,Nat.succ_min_succ,List.range_succ_eq_map,List.all_cons,List.all_map]
              rfl
end
theorem JA (hok:HOk P w H s.heap){d k:D}{v v':V}{u u':Value}{b:Bool}{A:Around}(h1:RD K ρ H d v)(h2:RD K ρ H k v')(r1:bq v u)(r2:bq v' u')(e:peq d k=some b)(hu:A.units + dep d < cLine) :
    SeqAt.RcAt A s u u' b∧SeqAt.RcNeAt A s u u' (!b):=by
  have hu0:A.units < cLine:=Nat.lt_of_le_of_lt (Nat.le_add_right _ _) hu
  cases d<;>simp only [RD] at h1
  · subst h1;cases r1
    cases k<;>simp only [peq] at e<;>try (cases e;done)
    all_goals cases e
    · simp only [RD] at h2;subst h2;cases r2;exact⟨SeqAt.RcAt.none_none,SeqAt.RcNeAt.none_none⟩
    · simp only [RD] at h2;subst h2;obtain⟨t',rfl⟩:=r2;exact⟨SeqAt.RcAt.none_int _ t',SeqAt.RcNeAt.none_int _ t'⟩
    · simp only [RD] at h2;obtain⟨p,vs,rfl,hp,_⟩:=h2;cases r2
      obtain⟨its,_,il⟩:=ig hok hp
      exact⟨SeqAt.RcAt.none_tuple il hu0,SeqAt.RcNeAt.none_tuple il hu0⟩
  · subst h1;cases r1
    cases k<;>simp only [peq] at e<;>try (cases e;done)
    all_goals cases e
    · simp only [RD] at h2;subst h2;cases r2;exact⟨SeqAt.RcAt.bool_bool _ _,SeqAt.RcNeAt.bool_bool _ _⟩
    · simp only [RD] at h2;subst h2;obtain⟨t',rfl⟩:=r2;exact⟨SeqAt.RcAt.bool_int _ _ t',SeqAt.RcNeAt.bool_int _ _ t'⟩
  · subst h1;obtain⟨t,rfl⟩:=r1
    cases k<;>simp only [peq] at e<;>try (cases e;done)
    all_goals cases e
    · simp only [RD] at h2;subst h2;cases r2;exact⟨SeqAt.RcAt.int_none _ t,SeqAt.RcNeAt.int_none _ t⟩
    · simp only [RD] at h2;subst h2;cases r2;exact⟨SeqAt.RcAt.int_bool _ t _,SeqAt.RcNeAt.int_bool _ t _⟩
    · simp only [RD] at h2;subst h2;obtain⟨t',rfl⟩:=r2;exact⟨SeqAt.RcAt.int_int _ t _ t',SeqAt.RcNeAt.int_int _ t _ t'⟩
    · simp only [RD] at h2;obtain⟨p,vs,rfl,hp,_⟩:=h2;cases r2
      obtain⟨its,_,il⟩:=ig hok hp
      exact⟨SeqAt.RcAt.int_tuple _ t il hu0,SeqAt.RcNeAt.int_tuple _ t il hu0⟩
  · subst h1;obtain⟨t,rfl⟩:=r1
    cases k<;>simp only [peq] at e<;>try (cases e;done)
    all_goals cases e
    rename_i x y
    simp only [RD] at h2;subst h2;obtain⟨t',rfl⟩:=r2
    have:decide (x=y)=(toS x == toS y):=by
      by_cases z:x=y
      · subst z;simp
      · have : ¬ toS x=toS y:=fun q=>z (by have:=congrArg (fun (s:Str)=>s.cps.toList) q;simpa [toS] using this)
        simp [z,this]
    rw [this]
    exact⟨SeqAt.RcAt.str_str _ t _ t',SeqAt.RcNeAt.str_str _ t _ t'⟩
  · rename_i xs
    obtain⟨p,vs,rfl,hp,q1⟩:=h1
    cases r1
    obtain⟨its,rv,il⟩:=ig hok hp
    cases k<;>simp only [peq] at e<;>try (cases e;done)
    · cases e;simp only [RD] at h2;subst h2;cases r2;exact⟨SeqAt.RcAt.tuple_none il hu0,SeqAt.RcNeAt.tuple_none il hu0⟩
    · cases e;simp only [RD] at h2;subst h2;obtain⟨t',rfl⟩:=r2;exact⟨SeqAt.RcAt.tuple_int _ t' il hu0,SeqAt.RcNeAt.tuple_int _ t' il hu0⟩
    · rename_i ys
      simp only [RD] at h2
      obtain⟨p',vs',rfl,hp',q2⟩:=h2
      cases r2
      obtain⟨its',rv',il'⟩:=ig hok hp'
      cases c:gJ xs ys with
      | none=>rw [c] at e;cases e
      | some b' =>
        rw [c] at e
        simp only [Option.map_some,Option.some.injEq] at e
        obtain⟨f,hf,ha⟩:=nW hok (A:=A.in1) q1 q2 rv rv' c (by simp only [dep] at hu;show A.units + 1 + kA xs < cLine;omega)
        have g1:=SeqAt.RcAt.tuples (s:=s) (A:=A) (e:=f) il il' hu0 (fun j h1 h2=>by simpa using hf j (by simpa using h1) (by simpa using h2))
        have g2:=SeqAt.RcNeAt.tuples (s:=s) (A:=A) (e:=f) il il' hu0 (fun j h1 h2=>by simpa using hf j (by simpa using h1) (by simpa using h2))
        rw [← e,← ha,q1.length,q2.length,rv.length,rv'.length,show (decide (its.length=its'.length))=(its.length == its'.length) from rfl]
        exact⟨by simpa using g1,by simpa using g2⟩
  · cases k<;>simp only [peq] at e<;>cases e
  · cases k<;>simp only [peq] at e<;>cases e
  · simp only [peq] at e<;>cases e
end
section
variable {X:Cx}
theorem nZ {K:PySem.W.Frag}{ρ:List Addr}{H:Hp}{hd:Hd}{d:D}{v:V}{l:List D}(r:RH K ρ H hd)(h:RD K ρ H d v)(e:eI hd d=some l):∃ p vs,v=.ref p∧SqL K H p vs∧RDs K ρ H l vs:=by
  cases d<;>simp only [eI] at e<;>try (cases e;done)
  · rename_i n
    simp only [RD] at h
    obtain⟨a,e1,e2⟩:=h
    cases c:hd[n]? with
    | none=>rw [c] at e;cases e
    | some x =>
      rw [c] at e
      cases x with
      | dct l=>cases e
      | lst l' =>
        cases e
        obtain⟨vs,q1,q2⟩:=r.cel n _ a c e1
        exact⟨a,vs,e2,SqL.of q1,q2⟩
  · cases e
    simp only [RD] at h
    obtain⟨p,vs,e1,e2,e3⟩:=h
    exact⟨p,vs,e1,e2.sq,e3⟩
theorem Fa {pins:List (Addr × Obj)}{σ:St}{H:Hp}{s:Shared}{ρ:List Addr}{hd:Hd}{d k:D}{v v':V}{u u':Value}{b:Bool}(hu:X.A.units + 24 < cLine)(I:Inv X pins σ H s)(r:RH X.K ρ H hd)(h1:RD X.K ρ H d v)(h2:RD X.K ρ H k v')
    (r1:bq v u) (r2:bq v' u') (e:eqG hd d k=some b):SeqAt.RcAt X.A s u u' b∧SeqAt.RcNeAt X.A s u u' (!b):=by
  have hu0:X.A.units < cLine:=by omega
  simp only [eqG] at e
  cases c1:eI hd d with
  | none =>
    cases c2:eI hd k with
    | some l=>rw [c1,c2] at e;cases e
    | none =>
      rw [c1,c2] at e
      simp only at e
      split at e
      · rename_i hd20
        exact JA I.hok h1 h2 r1 r2 e (by omega)
      · cases e
  | some xs =>
    cases c2:eI hd k with
    | none=>rw [c1,c2] at e;cases e
    | some ys =>
      rw [c1,c2] at e
      simp only [eqL] at e
      obtain⟨p,vs,rfl,s1,q1⟩:=nZ r h1 c1
      obtain⟨p',vs',rfl,s2,q2⟩:=nZ r h2 c2
      cases r1;cases r2
      obtain⟨its,rv,pl,_⟩:=I.list s1
      obtain⟨its',rv',pl',_⟩:=I.list s2
      have il:s.heap.IsList p its.toArray:=pl.isList
      have il':s.heap.IsList p' its'.toArray:=pl'.isList
      have l1:xs.length=its.length:=q1.length.trans rv.length
      have l2:ys.length=its'.length:=q2.length.trans rv'.length
      split at e
      · rename_i hd20
        split at e
        · rename_i hl
          obtain⟨f,hf,ha⟩:=nW I.hok (A:=X.A.in1) q1 q2 rv rv' e (by show X.A.units + 1 + kA xs < cLine;omega)
          have hs:its.toArray.size=its'.toArray.size:=by simp;omega
          have g1:=SeqAt.RcAt.lists (s:=s) (A:=X.A) (e:=f) il il' hs hu0 (fun j h1 h2=>by simpa using hf j (by simpa using h1) (by simpa using h2))
          have g2:=SeqAt.RcNeAt.lists (s:=s) (A:=X.A) (e:=f) il il' hs hu0 (fun j h1 h2=>by simpa using hf j (by simpa using h1) (by simpa using h2))
          have hm:min its.length its'.length=its.length:=by omega
          rw [hm] at ha
          rw [← ha]
          exact⟨by simpa using g1,by simpa using g2⟩
        · rename_i hl
          cases e
          have hs:(its.toArray.size != its'.toArray.size)=true:=by simp;omega
          exact⟨SeqAt.RcAt.lists_lengths il il' hs hu0,SeqAt.RcNeAt.lists_lengths il il' hs hu0⟩
      · cases e
def Hx (K:PySem.W.Frag) (f:Bool→Bool):R2:=fun x y H Q=>∃ ρ hd d k b,RH K ρ H hd∧RD K ρ H d x∧RD K ρ H k y∧eqG hd d k=some b∧Q (.bl (f b)) H
theorem fA (hu:X.A.units + 24 < cLine):OpR X (compareOp .Eq) (Hx X.K id):=by
  intro pins s σ H x y v u Q I rx ry h
  obtain⟨ρ,hd,d,k,b,r,h1,h2,e,q⟩:=h
  exact (Fa hu I r h1 h2 rx ry e).1 _ _ _ _ ⟨.bl b,H,I,rfl,q⟩
theorem fB (hu:X.A.units + 24 < cLine):OpR X (compareOp .NotEq) (Hx X.K not):=by
  intro pins s σ H x y v u Q I rx ry h
  obtain⟨ρ,hd,d,k,b,r,h1,h2,e,q⟩:=h
  exact (Fa hu I r h1 h2 rx ry e).2 _ _ _ _ ⟨.bl (!b),H,I,rfl,q⟩
theorem iS {K:PySem.W.Frag}:Og K oEq (Hx K id):=by
  intro ρ H σd hd σ d k v w Q rs rv rw' p
  unfold oEq at p
  cases e:eqG hd d k with
  | none=>rw [e] at p;exact p.elim
  | some b=>rw [e] at p;exact⟨ρ,hd,d,k,b,rs.hp,rv,rw',e,p.here rs (by simp only [rD,RD];rfl)⟩
theorem iT {K:PySem.W.Frag}:Og K oNe (Hx K not):=by
  intro ρ H σd hd σ d k v w Q rs rv rw' p
  unfold oNe at p
  cases e:eqG hd d k with
  | none=>rw [e] at p;exact p.elim
  | some b=>rw [e] at p;exact⟨ρ,hd,d,k,b,rs.hp,rv,rw',e,p.here rs (by simp only [rD,RD])⟩
end
end Fm
set_option Elab.async false
set_option linter.all false
set_option maxRecDepth 100000
namespace Fm
open PySem PySem.Spec L2
section
variable {K:PySem.W.Frag} {ρ ρ':List Addr} {H H':Hp} {hd hd':Hd} {σd:Sd} {σ:St}
theorem cu.outE {r:Res D}{k:D→Hd→Out}{En:uJ}(p:cu K ρ H (outE r σd k) En) :
    aX K (rD K) ρ H σd σ r (fun v H'=>∃ ρ' d hd',Ext ρ H ρ' H'∧RS K ρ' H' σd hd' σ ∧ RD K ρ' H' d v∧cu K ρ' H' (k d hd') En):=by
  cases r with
  | ok d h'=>exact fun b H' ρ' ex rs q=>⟨ρ',d,h',ex,rs,q,cu.ext ex p⟩
  | exc x h'=>exact p
  | bad=>exact p
theorem RSt.set (r:RSt K ρ H σd σ){d:D}{v:V}(i:Nat)(h:RD K ρ H d v):RSt K ρ H (σd.set i (some d)) (σ.set i (some v)):=by
  refine⟨by simp [r.len],fun j x e => ?_⟩
  by_cases hj:i=j
  · subst hj
    by_cases hl:i < σd.length
    · simp only [slot,List.getElem?_set_self hl] at e
      cases e
      exact⟨v,by rw [List.getElem?_set_self (by rw [← r.len];exact hl)],h⟩
    · simp only [slot] at e
      rw [List.getElem?_eq_none (by simp;omega)] at e
      cases e
  · simp only [slot,List.getElem?_set_ne hj] at e
    rw [List.getElem?_set_ne hj]
    exact r.at' j x (by simpa only [slot] using e)
def Lu (K:PySem.W.Frag) (g:GF):TG:=fun v σ H Q=>∃ ρ σd hd d σd',RS K ρ H σd hd σ ∧ RD K ρ H d v∧g d σd=some σd' ∧ ∀ σ',RS K ρ H σd' hd σ'→Q σ' H
def JB (σ:Sd) (l:List Nat) (xs:List D):Sd:=(l.zip xs).foldl (fun σ p => σ.set p.1 (some p.2)) σ
def JC (K:PySem.W.Frag) (l:List Nat):TGs:=fun vs σ H Q=>∃ ρ σd hd ds,RS K ρ H σd hd σ ∧ RDs K ρ H ds vs∧ds.length=l.length ∧ ∀ σ',RS K ρ H (JB σd l ds) hd σ'→Q σ' H
end
def MG (X:Cx) (tg:Expr) (g:GF):Prop:=PG X tg (Lu X.K g)
def MGs (X:Cx) (ts:List Expr) (l:List Nat):Prop:=PGs X ts (JC X.K l)
section
variable {X:Cx} {pos:Pos}
theorem PG.imp {tg:Expr}{t u:TG}(h:PG X tg t)(i:∀ v σ H Q,u v σ H Q→t v σ H Q):PG X tg u:=fun pins s σ H v w Q I r q=>h pins s σ H v w Q I r (i v σ H Q q)
theorem PGs.imp {tg:List Expr}{t u:TGs}(h:PGs X tg t)(i:∀ v σ H Q,u v σ H Q→t v σ H Q):PGs X tg u:=fun pins s σ H v w Q I r q=>h pins s σ H v w Q I r (i v σ H Q q)
theorem aD {i:Nat}{x:Str}(hN:X.N.Nodup)(hi:X.N[i]? = some x)(hx:Loc X.env.scope x)(hf:X.fn x=true∨X.env.scope.names.lookup x=some .local:=by first|exact .inl rfl|exact .inr rfl|assumption):MG X (.Name x pos) (gN i):=by
  refine PG.imp (Hb hN hi hx hf) fun v σ H Q ⟨ρ,σd,hd,d,σd',rs,rv,e,q⟩ => ?_
  simp only [gN,Option.some.injEq] at e
  subst e
  exact q _ ⟨rs.hp,rs.st.set i rv⟩
theorem kF:MGs X [] []:=by
  refine PGs.imp Hc fun vs σ H Q ⟨ρ,σd,hd,ds,rs,rv,e,q⟩ => ?_
  have:ds=[]:=by simpa using e
  subst this
  simp only [RDs] at rv
  exact⟨rv,q σ rs⟩
theorem bR {e:Expr}{es:List Expr}{i:Nat}{l:List Nat}(h1:MG X e (gN i))(h2:MGs X es l)
    (hs:(assignEach (e :: es) X.env).map (·.2)=assign e X.env :: (assignEach es X.env).map (·.2):=by rfl):MGs X (e :: es) (i :: l):=by
  refine PGs.imp (EK h1 h2 hs) fun vs σ H Q ⟨ρ,σd,hd,ds,rs,rv,e,q⟩ => ?_
  cases ds with
  | nil=>simp at e
  | cons d ds =>
    simp only [RDs] at rv
    obtain⟨v,r,rfl,h1,h2⟩:=rv
    refine⟨v,r,rfl,ρ,σd,hd,d,_,rs,h1,rfl,fun σ' rs' => ?_⟩
    exact⟨ρ,_,hd,ds,rs',h2,by simpa using e,fun σ2 rs2=>q σ2 rs2⟩
theorem oK {es:List Expr}{k:Nat}{l:List Nat}(hc:X.calm=true)(h:MGs X es l)
    (hn:(assignEach es X.env).length=l.length:=by rfl) (hst:(assignEach es X.env).findIdx? (·.1)=none:=by rfl):MG X (.Tuple es k pos) (gT l):=by
  refine PG.imp (Jc hc h hn hst) fun v σ H Q ⟨ρ,σd,hd,d,σd',rs,rv,e,q⟩ => ?_
  cases d<;>simp only [gT] at e<;>try (cases e;done)
  rename_i xs
  split at e
  · rename_i hl
    cases e
    simp only [RD] at rv
    obtain⟨p,vs,rfl,hp,r⟩:=rv
    exact⟨p,vs,rfl,SqT.of hp,by rw [← r.length];exact hl,ρ,σd,hd,xs,rs,r,hl,q⟩
  · cases e
theorem aS:MSs X [] br:=PSs.imp G8 fun En σ H ⟨ρ,σd,hd,rs,p⟩=>p σ H ρ Ext.refl rs
theorem af {st:Stmt}{rest:List Stmt}{a b:SF}(h1:MS X st a)(h2:MSs X rest b):MSs X (st :: rest) (aB a b):=by
  refine PSs.imp (EH h1 h2) fun En σ H ⟨ρ,σd,hd,rs,p⟩=>⟨ρ,σd,hd,rs,?_⟩
  unfold aB at p
  cases e:a σd hd with
  | nx σ1 h1=>rw [e] at p;exact fun σ' H' ρ' ex rs'=>⟨ρ',σ1,h1,rs',cu.ext ex p⟩
  | rt d h1=>rw [e] at p;exact p
  | bk σ1 h1=>rw [e] at p;exact p
  | ct σ1 h1=>rw [e] at p;exact p
  | exc x σ1 h1=>rw [e] at p;exact p
  | bad=>rw [e] at p;exact p
theorem ai {st:Stmt}{a:SF}(h:MS X st a):MSs X [st] a:=G9 h
theorem Fb:MS X (.Break pos) Hu:=PS.imp EI fun En σ H ⟨ρ,σd,hd,rs,p⟩=>p σ H ρ Ext.refl rs
theorem dF {st:Stmt}:MS X st dH:=PS.imp EJ fun En σ H ⟨ρ,σd,hd,rs,p⟩=>p.elim
theorem aO {e:Expr}{f:EF}(h:ME X e f):MS X (.Return (some e) pos) (a7 f):=by
  refine PS.imp (IZ h) fun En σ H ⟨ρ,σd,hd,rs,p⟩=>⟨ρ,σd,hd,rs,(cu.outE p).imp fun v H1 ⟨ρ1,d,hd1,e1,rs1,rv,p1⟩ => ?_⟩
  exact p1 v H1 ρ1 Ext.refl rs1.hp rv
theorem de {e:Expr}{f:EF}(h:ME X e f)(hs:swapsWith e none pos.line X.env=pure false:=by rfl):MS X (.Expr e pos) (fm f):=by
  refine PS.imp (Ha h hs) fun En σ H ⟨ρ,σd,hd,rs,p⟩=>⟨ρ,σd,hd,rs,(cu.outE p).imp fun v H1 ⟨ρ1,d,hd1,e1,rs1,rv,p1⟩ => ?_⟩
  exact p1 σ H1 ρ1 Ext.refl rs1
theorem bM {c:Expr}{a b:List Stmt}{t:TF}{fa fb:SF}(hc:MT X c t)(ha:MSs X a fa)(hb:MSs X b fb):MS X (.If c a b pos) (sIf t fa fb):=by
  refine PS.imp (K6 hc ha hb) fun En σ H ⟨ρ,σd,hd,rs,p⟩=>⟨ρ,σd,hd,rs,?_⟩
  unfold sIf at p
  cases e:t σd hd with
  | ok c h1 =>
    rw [e] at p
    intro b H' ρ' ex rs' q
    cases q
    cases c with
    | true=>simp only [if_true] at p ⊢;exact⟨ρ',σd,h1,rs',cu.ext ex p⟩
    | false=>simp only [Bool.false_eq_true,if_false] at p ⊢;exact⟨ρ',σd,h1,rs',cu.ext ex p⟩
  | exc x h1=>rw [e] at p;exact p
  | bad=>rw [e] at p;exact p
theorem aG {i:Nat}{x:Str}{e:Expr}{f:EF}{pos':Pos}(hN:X.N.Nodup)(hi:X.N[i]? = some x)(hx:Loc X.env.scope x)(he:ME X e f)(hs:swapsWith e (some (.Name x pos')) pos.line X.env=pure false:=by rfl)(hf:X.fn x=true∨X.env.scope.names.lookup x=some .local:=by first|exact .inl rfl|exact .inr rfl|assumption) :
    MS X (.Assign [.Name x pos'] e pos) (aF (gN i) f):=by
  refine PS.imp (Jd hN hi hx he hs hf) fun En σ H ⟨ρ,σd,hd,rs,p⟩=>⟨ρ,σd,hd,rs,(cu.outE p).imp fun v H1 ⟨ρ1,d,hd1,e1,rs1,rv,p1⟩ => ?_⟩
  exact p1 _ H1 ρ1 Ext.refl ⟨rs1.hp,rs1.st.set i rv⟩
theorem JD {tg e:Expr}{f:EF}{g:GF}(he:ME X e f)(hg:MG X tg g)(hs:swapsWithSole [tg] e pos.line X.env=pure false:=by rfl)(hw:swappedStores [tg] e X.env=pure none:=by rfl)
    (h1:(assignEach [tg] X.env).map (·.2)=[assign tg X.env]:=by rfl):MS X (.Assign [tg] e pos) (aF g f):=by
  refine PS.imp (Av he hg hs hw h1) fun En σ H ⟨ρ,σd,hd,rs,p⟩=>⟨ρ,σd,hd,rs,(cu.outE p).imp fun v H1 ⟨ρ1,d,hd1,e1,rs1,rv,p1⟩ => ?_⟩
  cases c:g d σd with
  | none=>rw [c] at p1;exact p1.elim
  | some σ1=>rw [c] at p1;exact⟨ρ1,σd,hd1,d,σ1,rs1,rv,c,fun σ' rs'=>p1 σ' H1 ρ1 Ext.refl rs'⟩
theorem JE:Fm.ixN=L2.ixN:=rfl
theorem uW {o i e:Expr}{fo fi fe:EF}{p2:Pos}(he:ME X e fe)(ho:ME X o fo)(hi:ME X i fi)(hs:swapsWithSole [.Subscript o i p2] e pos.line X.env=pure false:=by rfl)(hw:swappedStores [.Subscript o i p2] e X.env=pure none:=by rfl)
    (h1:(assignEach [.Subscript o i p2] X.env).map (·.2)=[assign (.Subscript o i p2) X.env]:=by rfl) (ha:∀ v,assign (.Subscript o i p2) X.env v=(do
      let ov ← holding [v] (eval o X.env)
      let iv ← holding [v,ov] (eval i X.env)
      standAt p2
      holding [v,ov,iv] (setItem ov iv v)
      release [v,ov,iv] []):=by intro _;rfl):MS X (.Assign [.Subscript o i p2] e pos) (oG fo fi fe):=by
  refine PS.imp (Av he (EL ho hi EZ ha) hs hw h1) fun En σ H ⟨ρ,σd,hd,rs,p⟩=>⟨ρ,σd,hd,rs,(cu.outE p).imp fun v H1 ⟨ρ1,d,hd1,e1,rs1,rv,p1⟩ => ?_⟩
  refine⟨ρ1,σd,hd1,rs1,(cu.outE p1).imp fun vo H2 ⟨ρ2,dO,hd2,e2,rs2,ro,p2⟩ => ?_⟩
  refine⟨ρ2,σd,hd2,rs2,(cu.outE p2).imp fun vi H3 ⟨ρ3,di,hd3,e3,rs3,ri,p3⟩ => ?_⟩
  have rv3:=(rv.mono (rs1.hp.kp e2)).mono (rs2.hp.kp e3)
  have ro3:=ro.mono (rs2.hp.kp e3)
  cases dO with
  | ref n =>
    cases di with
    | int j =>
      simp only at p3
      cases c:hd3[n]? with
      | none=>rw [c] at p3;exact p3.elim
      | some cell =>
        rw [c] at p3
        cases cell with
        | dct l=>exact p3.elim
        | lst l =>
          simp only at p3
          cases c2:ixN l.length j with
          | none=>rw [c2] at p3;exact p3.elim
          | some k =>
            rw [c2] at p3
            simp only [RD] at ro3 ri
            obtain⟨a,ha,rfl⟩:=ro3
            obtain⟨vs,hv,rvs⟩:=rs3.hp.cel n _ a c ha
            refine⟨a,vs,j,k,rfl,ri,hv,by rw [← rvs.length,← JE];exact c2,?_⟩
            have hn:n < hd3.length:=(List.getElem?_eq_some_iff.mp c).1
            have rh:=rs3.hp.write ha hn (RDs.set rv3 k rvs)
            have ex:Ext ρ3 H3 ρ3 (upd H3 a (.lst (vs.set k v))):=Ext.write (List.mem_of_getElem? ha)
            exact p3 σ _ ρ3 ex (rs3.ext ex rh)
    | _=>exact p3.elim
  | _=>exact p3.elim
end
section
variable (K:PySem.W.Frag)
structure qu (ρ0:List Addr) (H0:Hp) (J:It) (l:List D) (g:Option Nat):Prop where
  go:∀ ρ H hd (i:Nat) d,Ext ρ0 H0 ρ H→RH K ρ H hd→i4 g l hd→l[i]? = some d→J.go i H ∧ ∀ x H',J.yld i H x H'→gH H H'∧RD K ρ H' d x
  stop:∀ ρ H hd,Ext ρ0 H0 ρ H→RH K ρ H hd→i4 g l hd→J.stop l.length H
  sz:l.length≤sizeLine
def Lv (ρ:List Addr) (H:Hp) (σd:Sd) (σ:St) (r:Res (List D × Option Nat)) (R:It→Hp→Prop):Prop:=match r with
  | .ok p hd'=>∀ J H' ρ',Ext ρ H ρ' H'→RS K ρ' H' σd hd' σ → qu K ρ' H' J p.1 p.2→R J H'
  | _=>False
def Lw (f:IF):TI:=fun σ H R=>∃ ρ σd hd,RS K ρ H σd hd σ ∧ Lv K ρ H σd σ (f σd hd) R
end
def MI (X:Cx) (tg e:Expr) (f:IF):Prop:=PI X tg e (Lw X.K f)
section
variable {X:Cx} {pos:Pos} {tg:Expr}
theorem PI.imp {e:Expr}{t u:TI}(h:PI X tg e t)(i:∀ σ H R,u σ H R→t σ H R):PI X tg e u:=fun pins s σ H R I q=>h pins s σ H R I (i σ H R q)
theorem gw {iter:Expr}{body:List Stmt}{f:IF}{g:GF}{b:SF}(hp:PassesOwn (model X.prog X.w) X.A X.env X.xe)(hc:X.calm=true)(hi:MI X tg iter f)(hg:MG X tg g)(hb:MSs X body b)
    (hs:∀ x,foldedSetIterable iter X.env x=pure x:=by intro _;rfl):MS X (.For tg iter body [] pos) (fJ f g b):=by
  refine PS.imp (Je hp hc hi hg hb hs) fun En σ H ⟨ρ,σd,hd,rs,p⟩=>⟨ρ,σd,hd,rs,?_⟩
  unfold fJ at p
  cases e:f σd hd with
  | exc x h'=>rw [e] at p;exact p
  | bad=>rw [e] at p;exact p
  | ok q hd1 =>
    rw [e] at p
    obtain⟨l,gd⟩:=q
    intro J H1 ρ1 ex1 rs1 wk
    simp only at p wk
    refine⟨fun i m σ' H'=>∃ ρ' σd' hd',Ext ρ1 H1 ρ' H'∧RS X.K ρ' H' σd' hd' σ'∧i≤l.length∧m=l.length - i∧cu X.K ρ' H' (fI gd l g b (l.drop i) σd' hd') En,
      ⟨l.length,ρ1,σd,hd1,Ext.refl,rs1,Nat.zero_le _,by simp,by simpa using cu.ext ex1 p⟩,?_⟩
    rintro i m σ' H' ⟨ρ',σd',hd',ex,rs',hil,rfl,pp⟩
    by_cases hlt:i < l.length
    · have hdi:l[i]? = some l[i]:=by simp [hlt]
      rw [List.drop_eq_getElem_cons hlt] at pp
      unfold fI at pp
      by_cases hh:i4 gd l hd'
      · rw [if_pos hh] at pp
        obtain⟨go,yl⟩:=wk.go ρ' H' hd' i _ ex rs'.hp hh hdi
        refine .inr ⟨go,fun σ2 H2=>∃ ρ2 σd2 hd2,Ext ρ1 H1 ρ2 H2∧RS X.K ρ2 H2 σd2 hd2 σ2∧cu X.K ρ2 H2 (fI gd l g b (l.drop (i + 1)) σd2 hd2) En,
          fun σ2 H2 ⟨ρ2,σd2,hd2,a1,a2,a3⟩=>⟨l.length - (i + 1),by omega,ρ2,σd2,hd2,a1,a2,hlt,rfl,a3⟩,fun x H2 y => ?_⟩
        obtain⟨sm,rx⟩:=yl x H2 y
        cases c:g l[i] σd' with
        | none=>rw [c] at pp;exact pp.elim
        | some σd2 =>
          rw [c] at pp
          simp only at pp
          refine⟨ρ',σd',hd',l[i],σd2,rs'.same sm,rx,c,fun σ2 rs2=>⟨ρ',σd2,hd',rs2,?_⟩⟩
          have e12:Ext ρ' H' ρ' H2:=Ext.same sm
          cases c2:b σd2 hd' with
          | nx σ3 h3=>rw [c2] at pp;exact fun σ4 H4 ρ4 ex4 rs4=>⟨ρ4,σ3,h3,ex.trans (e12.trans ex4),rs4,cu.ext (e12.trans ex4) pp⟩
          | ct σ3 h3=>rw [c2] at pp;exact fun σ4 H4 ρ4 ex4 rs4=>⟨ρ4,σ3,h3,ex.trans (e12.trans ex4),rs4,cu.ext (e12.trans ex4) pp⟩
          | bk σ3 h3=>rw [c2] at pp;exact fun σ4 H4 ρ4 ex4 rs4=>pp σ4 H4 ρ4 (e12.trans ex4) rs4
          | rt d h3=>rw [c2] at pp;exact fun v H4 ρ4 ex4 rs4 rv=>pp v H4 ρ4 (e12.trans ex4) rs4 rv
          | exc x σ3 h3=>rw [c2] at pp;exact pp
          | bad=>rw [c2] at pp;exact pp
      · rw [if_neg hh] at pp;exact pp.elim
    · have e0:i=l.length:=by omega
      subst e0
      rw [List.drop_length] at pp
      unfold fI at pp
      by_cases hh:i4 gd l hd'
      · rw [if_pos hh] at pp
        exact .inl ⟨wk.stop ρ' H' hd' ex rs'.hp hh,pp σ' H' ρ' Ext.refl rs'⟩
      · rw [if_neg hh] at pp;exact pp.elim
theorem Fc {K:PySem.W.Frag}{ρ:List Addr}{H:Hp}{hd:Hd}{q:Addr}{l:List D}{vs:List V}(r:RH K ρ H hd)(hq:H q=some (.tup vs))(rv:RDs K ρ H l vs)(hz:vs.length≤sizeLine):qu K ρ H (Itt K q) l none where
  go:=fun ρ' H' hd' i d ex rh _ hi=>by
    have k:=r.kp ex
    obtain⟨v,hv,rd⟩:=(rv.mono k).get hi
    have sq:SqT K H' q vs:=SqT.of (k.tup q vs hq)
    refine⟨⟨vs,v,sq,hv⟩,fun x H2 y => ?_⟩
    obtain⟨rfl,y⟩:=y
    have:=y vs sq
    rw [hv] at this
    cases this
    exact⟨gH.refl _,rd⟩
  stop:=fun ρ' H' hd' ex rh _=>⟨vs,SqT.of ((r.kp ex).tup q vs hq),by rw [rv.length];exact Nat.le_refl _⟩
  sz:=by rw [rv.length];exact hz
theorem Fd {K:PySem.W.Frag}{ρ:List Addr}{H:Hp}{hd:Hd}{q:Addr}{l:List D}{vs:List V}(r:RH K ρ H hd)(hq:nh K H q vs)(rv:RDs K ρ H l vs)(hz:vs.length≤sizeLine):qu K ρ H (Itl K q) l none where
  go:=fun ρ' H' hd' i d ex rh _ hi=>by
    have k:=r.kp ex
    obtain⟨v,hv,rd⟩:=(rv.mono k).get hi
    have sq:SqL K H' q vs:=(hq.mono k).sq
    refine⟨⟨vs,v,sq,hv⟩,fun x H2 y => ?_⟩
    obtain⟨rfl,y⟩:=y
    have:=y vs sq
    rw [hv] at this
    cases this
    exact⟨gH.refl _,rd⟩
  stop:=fun ρ' H' hd' ex rh _=>⟨vs,(hq.mono (r.kp ex)).sq,by rw [rv.length];exact Nat.le_refl _⟩
  sz:=by rw [rv.length];exact hz
theorem Fe {K:PySem.W.Frag}{ρ:List Addr}{H:Hp}{n:Nat}{q:Addr}{l:List D}(hq : ρ[n]? = some q)(hz:l.length≤sizeLine):qu K ρ H (Itl K q) l (some n) where
  sz:=hz
  go:=fun ρ' H' hd' i d ex rh hl hi=>by
    obtain⟨vs,e,rv⟩:=rh.cel n _ q hl (ex.get hq)
    obtain⟨v,hv,rd⟩:=rv.get hi
    have sq:SqL K H' q vs:=SqL.of e
    refine⟨⟨vs,v,sq,hv⟩,fun x H2 y => ?_⟩
    obtain⟨rfl,y⟩:=y
    have:=y vs sq
    rw [hv] at this
    cases this
    exact⟨gH.refl _,rd⟩
  stop:=fun ρ' H' hd' ex rh hl=>by
    obtain⟨vs,e,rv⟩:=rh.cel n _ q hl (ex.get hq)
    exact⟨vs,SqL.of e,by rw [rv.length];exact Nat.le_refl _⟩
theorem JG {l:Expr}{tl:TE}(hl:PE X l tl):PI X tg l (fun σ H R=>tl σ H fun x H1=>(∃ a xs,x=.ref a∧SqL X.K H1 a xs∧(xs.length≤sizeLine→R (Itl X.K a) H1)) ∨ ∃ a xs,x=.ref a∧SqT X.K H1 a xs∧(xs.length≤sizeLine→R (Itt X.K a) H1)):=by
  intro pins s σ H R I h
  refine thn (hl pins s σ H _ I h) fun v s1 ⟨x,H1,I1,r1,q1⟩ => ?_
  rcases q1 with ⟨a,xs,e,hq,q⟩|⟨a,xs,e,hq,q⟩
  · subst e
    cases r1
    obtain⟨its,rv,p,hz⟩:=I1.list hq
    refine wpAny_pyIter_list p.isList ?_
    refine⟨s1.heap.objs.size,[s1.heap.objs.size],_,_,H1,rfl,I1.kept (t':=s1.toks) fun b o e=>Heap.get?_push_of_some _ e,Db a _,⟨_,Heap.get?_push_size _ rfl,rfl,rfl⟩,fun b hb => ?_,q hz⟩
    have e:b=s1.heap.objs.size:=by simpa using hb
    subst e
    exact I1.fpOk (Nat.le_refl _) (I1.hok.fresh (Nat.le_refl _))
  · subst e
    cases r1
    obtain⟨its,rv,p,hz⟩:=I1.tuple hq
    refine wpAny_pyIter_tuple (show s1.heap.IsTuple a its.toArray from p) ?_
    refine⟨s1.heap.objs.size,[s1.heap.objs.size],_,_,H1,rfl,I1.kept (t':=s1.toks) fun b o e=>Heap.get?_push_of_some _ e,Aw a _,⟨_,Heap.get?_push_size _ rfl,rfl,rfl⟩,fun b hb => ?_,q hz⟩
    have e:b=s1.heap.objs.size:=by simpa using hb
    subst e
    exact I1.fpOk (Nat.le_refl _) (I1.hok.fresh (Nat.le_refl _))
theorem cz {e:Expr}{f:EF}(h:ME X e f):MI X tg e (bd f):=by
  refine PI.imp (JG h) fun σ H R ⟨ρ,σd,hd,rs,p⟩=>⟨ρ,σd,hd,rs,?_⟩
  unfold bd at p
  cases e:f σd hd with
  | exc x h1=>rw [e] at p;exact p
  | bad=>rw [e] at p;exact p
  | ok d hd1 =>
    rw [e] at p
    simp only [aq] at p
    intro v H1 ρ1 ex1 rs1 rv
    cases d<;>try exact p.elim
    · rename_i l
      simp only [rD,RD] at rv
      obtain⟨q,vs,rfl,hq,rvs⟩:=rv
      exact .inr ⟨q,vs,rfl,SqT.of hq,fun hz=>p _ H1 ρ1 ex1 rs1 (Fc rs1.hp hq rvs hz)⟩
    · rename_i n
      simp only [rD,RD] at rv
      obtain⟨a,ha,rfl⟩:=rv
      cases c:hd1[n]? with
      | none=>simp only [c] at p;exact p.elim
      | some cell =>
        cases cell with
        | dct l=>simp only [c] at p;exact p.elim
        | lst l =>
          simp only [c] at p
          obtain⟨vs,hv,rvs⟩:=rs1.hp.cel n _ a c ha
          exact .inl ⟨a,vs,rfl,SqL.of hv,fun hz=>p _ H1 ρ1 ex1 rs1 (Fe ha (by rw [rvs.length];exact hz))⟩
    · rename_i l
      simp only [rD,RD] at rv
      obtain⟨q,vs,rfl,hq,rvs⟩:=rv
      exact .inl ⟨q,vs,rfl,hq.sq,fun hz=>p _ H1 ρ1 ex1 rs1 (Fd rs1.hp hq rvs hz)⟩
theorem oM {K:PySem.W.Frag}{ρ:List Addr}{H:Hp}(lo:Int)(n:Nat)(hz:n≤2000000):qu K ρ H (Itr lo n) ((List.range n).map fun k:Nat=>.int (lo + k)) none where
  go:=fun ρ' H' hd' i d ex rh _ hi=>by
    have hin:i < n:=by
      have:=(List.getElem?_eq_some_iff.mp hi).1
      simpa using this
    refine⟨hin,fun x H2 y => ?_⟩
    obtain⟨rfl,rfl⟩:=y
    have e:d=.int (lo + i):=by simpa [hin] using hi.symm
    subst e
    exact⟨gH.refl _,by simp only [RD]⟩
  stop:=fun ρ' H' hd' ex rh _=>by
    show n≤_
    simp
  sz:=by
    have:(2000000:Nat)≤sizeLine:=by rw [sizeLine_eq];decide
    simp;omega
theorem gM {a:Expr} {f:EF} {p:Pos} (hg:Gl X "range") (hm:X.mg "range" = none) (ha:ME X a f) (hs:starEach [a] X.env=[(false,eval a X.env)]:=by rfl):MI X tg (.Call (.Name "range" p) [a] [] pos) (cX f):=by
  refine PI.imp (Dc hg hm (bz ha cR hs) hs) fun σ H R ⟨ρ,σd,hd,rs,pp⟩=>⟨ρ,σd,hd,rs,?_⟩
  unfold cX at pp
  cases e:f σd hd with
  | exc x h1=>rw [e] at pp;exact pp
  | bad=>rw [e] at pp;exact pp
  | ok d hd1 =>
    rw [e] at pp
    simp only [aq] at pp
    intro v H1 ρ1 ex1 rs1 rv
    cases d<;>try exact pp.elim
    rename_i n
    simp only at pp
    simp only [rD,RD] at rv
    subst rv
    split at pp
    · rename_i hb
      refine⟨n,rfl,by omega,by omega,pp _ H1 ρ1 ex1 rs1 ?_⟩
      have:=oM (K:=X.K) (ρ := ρ1) (H:=H1) 0 n.toNat (by omega)
      simpa using this
    · exact pp.elim
theorem mq {a b:Expr} {f g:EF} {p:Pos} (hg:Gl X "range") (hm:X.mg "range" = none) (ha:ME X a f) (hb:ME X b g) (hs:starEach [a,b] X.env=[(false,eval a X.env),(false,eval b X.env)]:=by rfl) (hs2:starEach [b] X.env=[(false,eval b X.env)]:=by rfl):MI X tg (.Call (.Name "range" p) [a,b] [] pos) (e7 f g):=by
  refine PI.imp (Dd hg hm (bz ha (bz hb cR hs2) (by rw [hs,hs2])) hs hs2) fun σ H R ⟨ρ,σd,hd,rs,pp⟩=>⟨ρ,σd,hd,rs,?_⟩
  unfold e7 at pp
  cases e:f σd hd with
  | exc x h1=>rw [e] at pp;exact pp
  | bad=>rw [e] at pp;exact pp
  | ok d hd1 =>
    rw [e] at pp
    simp only [aq] at pp
    intro v H1 ρ1 ex1 rs1 rv
    refine⟨ρ1,σd,hd1,rs1,?_⟩
    cases e2:g σd hd1 with
    | exc x h1=>rw [e2] at pp;exact pp
    | bad=>rw [e2] at pp;exact pp
    | ok d2 hd2 =>
      rw [e2] at pp
      simp only [aq] at pp
      intro v2 H2 ρ2 ex2 rs2 rv2
      cases d<;>try exact pp.elim
      cases d2<;>try exact pp.elim
      rename_i i j
      simp only at pp
      simp only [rD,RD] at rv rv2
      subst rv rv2
      split at pp
      · rename_i hb
        exact⟨i,j,rfl,⟨by omega,by omega,by omega,by omega⟩,pp _ H2 ρ2 (ex1.trans ex2) rs2 (oM (K:=X.K) i (j - i).toNat (by omega))⟩
      · exact pp.elim
end
end Fm
set_option linter.all false
namespace Fm
noncomputable section
open Classical
def iU (G:Hd→Prop) (tg:GF) (cs:List TF) (e:EF):List D→Sd→Hd→Res (List D)
  | [],_,h=>if G h then .ok [] h else .bad
  | x :: xs,σ,h=>if G h then match tg x σ with
      | some σ=>(kC cs σ h).bind fun b h=>if b then (e σ h).bind fun d h=>(iU G tg cs e xs σ h).bind fun ds h=>.ok (d :: ds) h
        else iU G tg cs e xs σ h
      | none=>.bad
    else .bad
end
theorem uX {g:Option Nat}{all:List D}{tg:GF}{cs:List TF}{e:EF}:∀ (xs:List D) (σ:Sd) (h:Hd),bQ g all tg cs e xs σ h=iU (i4 g all) tg cs e xs σ h
  | [],_,h=>by unfold bQ iU;rfl
  | x :: xs,σ,h=>by
    unfold bQ iU
    by_cases hh:i4 g all h
    · rw [if_pos hh,if_pos hh]
      cases tg x σ with
      | none=>rfl
      | some σ'=>simp only [uX xs]
    · rw [if_neg hh,if_neg hh]
end Fm
set_option Elab.async false
set_option linter.all false
set_option maxRecDepth 100000
namespace Fm
open PySem PySem.Spec L2
section
variable {prog:Program} {w:World} {A:Around} {R:Result→Shared→Prop} {s:Shared}
theorem uY {elt target iter:Expr}{ifs:List Expr}{scope:Scope}{pos:Pos}{it acc:Value}{env:Env}{E:Value→Shared→Prop}(hE:∀ e s,¬ E e s)(I:Nat→Shared→Prop)
    (turn:∀ n s,I n s→wpAny (model prog w) A (pyNext it) (fun r s₁ => match r with
      | none=>R (.ok .next) s₁
      | some v=>wpAny (model prog w) A (letOwnedTupleGo target it v) (fun _ s₁ => wpAny (model prog w) A (assign target env v) (fun _ s₂ =>
          wpAny (model prog w) A (forIn ifs true fun c r=>if r=true then do let ok ← isTrue c env (eval c env);pure (ForInStep.yield ok) else pure (ForInStep.yield r)) (fun ok s₃ =>
            if ok=true then wpAny (model prog w) A (eval elt env) (fun x s₄ =>
              wpAny (model prog w) A (call (.builtin "list.append") [acc,x]) (fun _ s₅ => ∃ m,m < n∧I m s₅) E s₄) E s₃
            else ∃ m,m < n∧I m s₃) E s₂) E s₁) E s₁) E s)
    (n:Nat) (h:I n s) :
    codeAny (model prog w) A (.compLoop (.ListComp elt [⟨target,iter,ifs,0⟩] scope pos) 0 it acc env) R s:=by
  refine codeAny_loop rfl I (fun n s hI => ?_) n h
  show wpAny _ A ((compTurn (.ListComp elt [⟨target,iter,ifs,0⟩] scope pos) 0 it acc env).onRaise (fun x=>do noteFrame x env;theTreesLotGoes x)) _ _ s
  refine wpAny_noted ?_
  rw [compTurn_list]
  have no:∀ {α : Type} {t:Sem α} {Q Q' : α → Shared→Prop} {E':Value→Shared→Prop} {s:Shared},wpAny (model prog w) A t Q E s→(∀ a s,Q a s→Q' a s)→wpAny (model prog w) A t Q' E' s:=fun h hq=>wpAny_mono h hq fun e s z=>(hE e s z).elim
  refine wpAny_bind (wpAny_standAt (wpAny_bind (no (turn n s hI) fun r s₁ h₁ => ?_)))
  cases r with
  | none=>exact wpAny_pure h₁
  | some v =>
    refine wpAny_bind (no h₁ fun _ s₁ h₁ => ?_)
    refine wpAny_bind (no h₁ fun _ s₂ h₂ => wpAny_bind (no h₂ fun ok s₃ h₃ => ?_))
    cases ok with
    | false=>exact wpAny_pure ⟨rfl,h₃⟩
    | true =>
      exact wpAny_bind (wpAny_bind (no h₃ fun x s₄ h₄ => wpAny_bind (no h₄ fun _ s₅ h₅ => wpAny_pure (wpAny_pure ⟨rfl,h₅⟩))))
end
theorem ka {env:Env}:∀ (l:List (Str × NameKind)) (cs:List (Str × Addr)),(∀ y∈l,y.2=.free → ∃ c,env.cells.lookup y.1=some c) →
    ∃ cl,(forIn l cs fun (x:Str × NameKind) (r:List (Str × Addr))=>if (x.2 == .free)=true then do let a ← cellOf env x.1;pure (ForInStep.yield ((x.1,a) :: r)) else pure (ForInStep.yield r))=(pure cl:Sem _) ∧
      (∀ x c,cl.lookup x=some c→cs.lookup x=some c∨env.cells.lookup x=some c)∧(∀ y∈l,y.2=.free → ∃ c,cl.lookup y.1=some c) ∧ ∀ x c,cs.lookup x=some c → ∃ c',cl.lookup x=some c'
  | [],cs,_=>⟨cs,by simp,fun x c h=>.inl h,fun y hy=>by simp at hy,fun x c h=>⟨c,h⟩⟩
  | (n,k) :: l,cs,hf=>by
    by_cases hk:k=.free
    · subst hk
      obtain⟨c,hc⟩:=hf (n,.free) (by simp) rfl
      obtain⟨cl,h1,h2,h3,h4⟩:=ka l ((n,c) :: cs) fun y hy=>hf y (by simp [hy])
      refine⟨cl,?_,fun x d h => ?_,fun y hy hyf => ?_,fun x d h => ?_⟩
      · rw [List.forIn_cons]
        simp only [beq_self_eq_true,if_true,cellOf,hc]
        exact h1
      · rcases h2 x d h with q|q
        · rw [List.lookup_cons] at q
          cases e:x == n with
          | true =>
            rw [e] at q
            have:x=n:=by simpa using e
            subst this
            cases q
            exact .inr hc
          | false=>rw [e] at q;exact .inl q
        · exact .inr q
      · rcases List.mem_cons.mp hy with e|e
        · subst e
          exact h4 n c (by simp [List.lookup_cons])
        · exact h3 y e hyf
      · by_cases e:x=n
        · subst e
          exact h4 x c (by simp [List.lookup_cons])
        · exact h4 x d (by rw [List.lookup_cons,beq_eq_false_iff_ne.mpr e];exact h)
    · obtain⟨cl,h1,h2,h3,h4⟩:=ka l cs fun y hy=>hf y (by simp [hy])
      refine⟨cl,?_,h2,fun y hy hyf => ?_,h4⟩
      · rw [List.forIn_cons]
        have:(k == NameKind.free)=false:=by simpa using hk
        simp only [this,Bool.false_eq_true,if_false]
        exact h1
      · rcases List.mem_cons.mp hy with e|e
        · subst e;exact absurd hyf hk
        · exact h3 y e hyf
theorem oN {scope:Scope}{env:Env}(hf:∀ y∈scope.names,y.2=.free → ∃ c,env.cells.lookup y.1=some c) :
    ∃ cl,closureFor scope env=pure cl∧(∀ x c,cl.lookup x=some c→env.cells.lookup x=some c) ∧ ∀ y∈scope.names,y.2=.free → ∃ c,cl.lookup y.1=some c:=by
  obtain⟨cl,h1,h2,h3,_⟩:=ka scope.names [] hf
  refine⟨cl,?_,fun x c h=>(h2 x c h).elim (fun z=>by simp at z) id,h3⟩
  unfold closureFor
  have e:(forIn scope.names ([] : List (Str × Addr)) fun (x:Str × NameKind) (r:List (Str × Addr))=>if (x.2 == .free)=true then do let a ← cellOf env x.1;pure (ForInStep.yield ((x.1,a) :: r)) else pure (ForInStep.yield r))=(pure cl:Sem _):=h1
  exact (congrArg (fun t:Sem (List (Str × Addr))=>t >>= fun r=>pure r) e).trans rfl
def cxC (X:Cx) (N:List Str) (scope:Scope) (cl:List (Str × Addr)) (C:Addr) (s:Shared) (H:Hp) (ex:List Addr):Cx where
  prog:=X.prog
  w:=X.w
  K:=X.K
  mg:=X.mg
  base:=X.base
  A:=X.A
  N:=N
  s₀ := s
  H₀ := H
  env:=compEnvC scope cl C X.env
  outer:=X.stack
  stack:=X.stack
  ex:=ex
  fn:=fun _=>false
  calm:=X.calm
  pn:=[]
  xe:=fun _ _=>False
def MTs (X:Cx) (ifs:List Expr) (cs:List TF):Prop :=
  ∀ (pins:List (Addr × Obj)) (s:Shared) (σ:St) (H:Hp) (Q:Bool→Hp→Prop),Inv X pins σ H s→i6 X.K rB (kC cs) σ H Q →
    wpAny (model X.prog X.w) X.A (forIn ifs true fun c r=>if r=true then do let ok ← isTrue c X.env (eval c X.env);pure (ForInStep.yield ok) else pure (ForInStep.yield r)) (TP X pins σ Q) X.xe s
theorem cH {X:Cx}:MTs X [] []:=fun pins s σ H Q I ⟨ρ,σd,hd,rs,p⟩=>wpAny_tests_nil ⟨H,I,p.here rs rfl⟩
theorem kG {X:Cx}{c:Expr}{t:TF}(h:MT X c t):MTs X [c] [t]:=fun pins s σ H Q I ⟨ρ,σd,hd,rs,p⟩=>wpAny_tests_one (h pins s σ H Q I ⟨ρ,σd,hd,rs,by
  have e:kC [t] σd hd=t σd hd:=by
    simp only [kC]
    cases c:t σd hd with
    | ok b h'=>cases b<;>simp
    | exc x h'=>rfl
    | bad=>rfl
  rw [e] at p
  exact p⟩)
theorem i9 {env:Env}{x:Str}:∀ {names:List (Str × NameKind)} {k:NameKind},(names.map fun (n,k)=>if (k == NameKind.free && env.scope.kind == .function && env.kindOf n == some .cell) then (n,NameKind.cell) else (n,k)).lookup x=some k →
    ∃ k0,names.lookup x=some k0∧(k=k0∨(k0=.free∧k=.cell))
  | [],_,h=>by simp at h
  | (n,k') :: r,k,h=>by
    have ih := @i9 env x r k
    have h':List.lookup x ((if (k' == NameKind.free && env.scope.kind == .function && env.kindOf n == some .cell)=true then (n,NameKind.cell) else (n,k')) :: _)=some k:=h
    cases hx:x == n with
    | true =>
      refine⟨k',by simp [List.lookup_cons,hx],?_⟩
      by_cases hc:(k' == NameKind.free && env.scope.kind == .function && env.kindOf n == some .cell)=true
      · rw [if_pos hc] at h'
        simp only [List.lookup_cons,hx,Option.some.injEq] at h'
        simp only [Bool.and_eq_true,beq_iff_eq] at hc
        exact .inr ⟨hc.1.1,h'.symm⟩
      · rw [if_neg hc] at h'
        simp only [List.lookup_cons,hx,Option.some.injEq] at h'
        exact .inl h'.symm
    | false =>
      have:List.lookup x ((n,k') :: r)=List.lookup x r:=by simp [List.lookup_cons,hx]
      rw [this]
      refine ih ?_
      by_cases hc:(k' == NameKind.free && env.scope.kind == .function && env.kindOf n == some .cell)=true
      · rw [if_pos hc] at h';simpa only [List.lookup_cons,hx] using h'
      · rw [if_neg hc] at h';simpa only [List.lookup_cons,hx] using h'
theorem fY {x:Str}{k:NameKind}:∀ {l:List (Str × NameKind)},l.lookup x=some k→(x,k)∈l
  | [],h=>by simp at h
  | (n,k') :: r,h=>by
    rw [List.lookup_cons] at h
    cases e:x == n with
    | true =>
      rw [e] at h
      have:x=n:=by simpa using e
      subst this
      cases h
      exact List.mem_cons_self
    | false=>rw [e] at h;exact List.mem_cons_of_mem _ (fY h)
structure bG (X:Cx) (scope:Scope) (own capn:List Str) (caps:List Nat):Prop where
  kind:scope.kind=.function
  cell:∀ y∈scope.names,y.2 ≠ .cell
  names:∀ y∈scope.names,y.2=.local→scope.names.lookup y.1=some .local
  free:∀ y∈scope.names,y.2=.free→X.env.kindOf y.1=some .cell∨X.env.kindOf y.1=some .free
  cap:∀ (j:Nat) x,capn[j]? = some x → ∃ i,caps[j]? = some i∧X.N[i]? = some x∧scope.names.lookup x=some .free
  len:capn.length=caps.length
section
variable {X:Cx} {pins:List (Addr × Obj)} {σ:St} {H1:Hp} {s2:Shared} {scope:Scope} {own capn:List Str} {caps:List Nat} {cl:List (Str × Addr)} {C:Addr} {ex:List Addr}
def stC (own:List Str) (caps:List Nat) (σ:St):St:=List.replicate own.length none++caps.map fun i=>(σ[i]?).join
theorem JH (I:Inv X pins σ H1 s2)(S:bG X scope own capn caps)(hC:s2.heap.objs.size≤C)(hcl1:∀ x c,cl.lookup x=some c→X.env.cells.lookup x=some c)(hcl2:∀ y∈scope.names,y.2=.free → ∃ c,cl.lookup y.1=some c)
    (hf:∀ b∈ex,qm X pins H1 b) (hlt:∀ b∈ex,b < s2.heap.objs.size):(cxC X (own++capn) scope cl C s2 H1 ex).Ok where
  mod:=I.ok.mod
  kind:=S.kind
  glob:=I.ok.glob
  blt:=I.ok.blt
  above:=hC
  inj:=fun x y c h1 h2=>I.ok.inj x y c (hcl1 x c h1) (hcl1 y c h2)
  has:=fun x hx=>by
    have key:∀ k,(relabel scope X.env).names.lookup x=some k→k=.cell∨k=.free → ∃ c,cl.lookup x=some c:=fun k h hk=>by
      obtain⟨k0,h0,q⟩:=i9 h
      have hm:=fY h0
      have:k0=.free:=by
        rcases q with q|q
        · subst q
          rcases hk with e|e
          · exact absurd e (S.cell _ hm)
          · exact e
        · exact q.1
      exact hcl2 _ hm this
    rcases hx with h|h
    · exact key _ h (.inl rfl)
    · exact key _ h (.inr rfl)
  cab:=fun x c h=>by cases h
  hd:=I.ok.hd
  frames:=I.ok.frames
  stk:=.inl rfl
  exf:=fun b hb=>by
    obtain⟨f0,f1,f2,f3,f4,f5⟩:=hf b hb
    exact⟨fun z=>absurd (Nat.lt_of_lt_of_le (hlt b hb) hC) (by rw [z];exact Nat.lt_irrefl _),fun x c e=>f4 x c (hcl1 x c e)⟩
  bs:=I.bs
  bsz:=Nat.le_trans I.ok.bsz I.sz
  noex:=fun b o e hb=>by
    obtain⟨f0,f1,f2,f3,f4,f5⟩:=hf b hb
    rcases f3 with z|z
    · exact I.ok.noex b o e z
    · exact absurd (Nat.lt_of_lt_of_le (Heap.lt_size (I.ok.bs b o e).1) z) (Nat.lt_irrefl _)
  exfs:=fun b hb hs=>by
    obtain⟨f0,f1,f2,f3,f4,f5⟩:=hf b hb
    rcases List.mem_cons.mp (I.stkSub b hs) with z|z
    · exact f1 z
    · exact f2 z
  funs:=I.stack
  frf:=I.stkFree
theorem kH {env:Env}{x:Str}:∀ {names:List (Str × NameKind)},names.lookup x=some .free →
    (names.map fun (n,k)=>if (k == NameKind.free && env.scope.kind == .function && env.kindOf n == some .cell) then (n,NameKind.cell) else (n,k)).lookup x=some .cell ∨
    (names.map fun (n,k)=>if (k == NameKind.free && env.scope.kind == .function && env.kindOf n == some .cell) then (n,NameKind.cell) else (n,k)).lookup x=some .free
  | [],h=>by simp at h
  | (n,k') :: r,h=>by
    have ih := @kH env x r
    show List.lookup x ((if (k' == NameKind.free && env.scope.kind == .function && env.kindOf n == some .cell)=true then (n,NameKind.cell) else (n,k')) :: _)=_∨List.lookup x ((if (k' == NameKind.free && env.scope.kind == .function && env.kindOf n == some .cell)=true then (n,NameKind.cell) else (n,k')) :: _)=_
    cases hx:x == n with
    | true =>
      simp only [List.lookup_cons,hx,Option.some.injEq] at h
      subst h
      by_cases hc:(NameKind.free == NameKind.free && env.scope.kind == .function && env.kindOf n == some .cell)=true
      · rw [if_pos hc];exact .inl (by simp only [List.lookup_cons,hx])
      · rw [if_neg hc];exact .inr (by simp only [List.lookup_cons,hx])
    | false =>
      simp only [List.lookup_cons,hx] at h
      by_cases hc:(k' == NameKind.free && env.scope.kind == .function && env.kindOf n == some .cell)=true
      · rw [if_pos hc];simp only [List.lookup_cons,hx];exact ih h
      · rw [if_neg hc];simp only [List.lookup_cons,hx];exact ih h
theorem Hy {i:Nat}{v:V}(h:(stC own caps σ)[i]? = some (some v)):∃ j k,i=own.length + j∧caps[j]? = some k ∧ σ[k]? = some (some v):=by
  unfold stC at h
  by_cases hi:i < own.length
  · rw [List.getElem?_append_left (by simpa using hi)] at h
    simp [hi] at h
  · rw [List.getElem?_append_right (by simpa using Nat.le_of_not_lt hi)] at h
    simp only [List.length_replicate,List.getElem?_map] at h
    cases c:caps[i - own.length]? with
    | none=>rw [c] at h;cases h
    | some k =>
      rw [c] at h
      simp only [Option.map_some,Option.some.injEq] at h
      refine⟨i - own.length,k,by omega,c,?_⟩
      cases e : σ[k]? with
      | none=>rw [e] at h;cases h
      | some o=>rw [e] at h;simp only [Option.join_some] at h;rw [h]
theorem Do (I:Inv X pins σ H1 s2)(S:bG X scope own capn caps)(hC:s2.heap.objs.size < C)(hcl1:∀ x c,cl.lookup x=some c→X.env.cells.lookup x=some c)(hcl2:∀ y∈scope.names,y.2=.free → ∃ c,cl.lookup y.1=some c)
    (hf:∀ b∈ex,qm X pins H1 b) (hlt:∀ b∈ex,b < s2.heap.objs.size) {h1:Heap} {m:Str→Option Value} {tk:Nat} (hn:h1.Ns C m) (hk:∀ b o,s2.heap.get? b=some o→h1.get? b=some o)
    (hD:h1.get? s2.heap.objs.size=some { cls:=.type "list",data:=.seq #[] }) :
    Inv (cxC X (own++capn) scope cl C s2 H1 ex) [] (stC own caps σ) (upd H1 s2.heap.objs.size (.lst [])) { s2 with heap:=h1,toks:=tk } where
  ok:=JH I S (Nat.le_of_lt hC) hcl1 hcl2 hf hlt
  os:=rfl
  bare:=I.bare
  base:=Un.laid hk (Nat.le_refl _) (I.hok.fresh (Nat.le_refl _))
  loc:=by
    refine⟨m,hn,fun i x v e1 e2 e3 => ?_⟩
    obtain⟨j,k,rfl,hj,hk'⟩:=Hy e2
    have e1':capn[j]? = some x:=by
      have:(own++capn)[own.length + j]? = some x:=e1
      rw [List.getElem?_append_right (by omega)] at this
      simpa using this
    obtain⟨k2,q1,q2,q3⟩:=S.cap j x e1'
    rw [hj] at q1;cases q1
    have hm:=fY q3
    have kd:=S.free _ hm rfl
    obtain⟨m0,hn0,hl⟩:=I.loc
    obtain⟨u,r,lk⟩:=hl k x v q2 hk' (.inr kd)
    refine⟨u,r,.inr ⟨kH q3,?_⟩⟩
    rcases lk with ⟨z,_⟩|⟨_,c,hc,o,ho,hd⟩
    · rcases kd with e|e<;>(rw [z] at e;cases e)
    · obtain⟨c',hc'⟩:=hcl2 _ hm rfl
      have:=hcl1 _ _ hc'
      rw [hc] at this
      cases this
      exact⟨c,hc',o,hk c o ho,hd⟩
  cell:=fun x c e=>by
    obtain⟨v,o,ho,hd⟩:=I.cell x c (hcl1 x c e)
    exact⟨v,o,hk c o ho,hd⟩
  free:=by
    show upd H1 _ _ C=none
    rw [aI (Nat.ne_of_gt hC)]
    exact I.hok.fresh (Nat.le_of_lt hC)
  freeC:=fun x c e=>by
    obtain⟨v,o,ho,hd⟩:=I.cell x c (hcl1 x c e)
    rw [aI (Nat.ne_of_lt (Heap.lt_size ho))]
    exact I.freeC x c (hcl1 x c e)
  pin:=fun p hp=>absurd (show p∈([] : List (Addr × Obj)) from hp) (by simp)
  hok:=I.hok.laid hk (Nat.le_refl _) ⟨Nat.zero_le _,[],0,.nil,hD⟩
  len:=by
    show (stC own caps σ).length=(own++capn).length
    simp [stC,S.len]
end
theorem RS.other {K:PySem.W.Frag}{ρ:List Addr}{H:Hp}{σd:Sd}{hd:Hd}{σ:St}{d:Addr}{ys zs:List V}(r:RS K ρ H σd hd σ)(h:H d=some (.lst ys))(n:d ∉ ρ):RS K ρ (upd H d (.lst zs)) σd hd σ ∧ Kp ρ H ρ (upd H d (.lst zs)):=by
  have k:Kp ρ H ρ (upd H d (.lst zs)):=⟨fun _ _ h=>h,fun a us e=>by
    rw [aI (fun z=>by rw [z,h] at e;cases e)];exact e,fun a o u e=>by
    rw [aI (fun z=>by rw [z,h] at e;cases e)];exact e,fun a φ e=>by
    rw [aI (fun z=>by rw [z,h] at e;cases e)];exact e⟩
  refine⟨⟨⟨r.hp.len,r.hp.nd,fun m c a h1 h2=>(r.hp.cel m c a h1 h2).mono k (aI fun z=>n (by rw [← z];exact List.mem_of_getElem? h2))⟩,r.st.mono k⟩,k⟩
theorem Ext.other {ρ ρ':List Addr}{H H':Hp}{d:Addr}{o:HO}(e:Ext ρ H ρ' H')(h:H d=none):Ext ρ H ρ' (upd H' d o) :=
  ⟨e.pre,e.new,fun p u hp n=>by rw [aI (cW hp h)];exact e.frame p u hp n⟩
theorem yb {nl:Nat}{caps:List Nat}{σd:Sd}{i:Nat}{d:D}(h:slot (fx nl caps σd) i=some d):∃ j k,i=nl + j∧caps[j]? = some k∧slot σd k=some d:=by
  unfold fx at h
  simp only [slot] at h
  by_cases hi:i < nl
  · rw [List.getElem?_append_left (by simpa using hi)] at h
    simp [hi] at h
  · rw [List.getElem?_append_right (by simpa using Nat.le_of_not_lt hi)] at h
    simp only [List.length_replicate,List.getElem?_map] at h
    cases c:caps[i - nl]? with
    | none=>rw [c] at h;cases h
    | some k =>
      rw [c] at h
      simp only [Option.map_some] at h
      refine⟨i - nl,k,by omega,c,?_⟩
      simp only [slot]
      revert h
      cases e : σd[k]? with
      | none=>simp
      | some o=>cases o<;>simp
structure IH (K:PySem.W.Frag) (ρ0:List Addr) (H0:Hp) (J:It) (l:List D) (G:Hd→Prop):Prop where
  go:∀ ρ H hd (i:Nat) d,Ext ρ0 H0 ρ H→RH K ρ H hd→G hd→l[i]? = some d→J.go i H ∧ ∀ x H',J.yld i H x H'→gH H H'∧RD K ρ H' d x
  stop:∀ ρ H hd,Ext ρ0 H0 ρ H→RH K ρ H hd→G hd→J.stop l.length H
  sz:l.length≤sizeLine
theorem qu.g {K:PySem.W.Frag}{ρ:List Addr}{H:Hp}{J:It}{l:List D}{g:Option Nat}(w:qu K ρ H J l g):IH K ρ H J l (i4 g l):=⟨w.go,w.stop,w.sz⟩
structure CD where
  i:Nat
  ys:List V
  acc:List D
  rest:List D
  ρ:List Addr
  σd:Sd
  hd:Hd
  H:Hp
  σ:St
structure CI (X:Cx) (own capn:List Str) (scope:Scope) (cl:List (Str × Addr)) (s2:Shared) (C:Addr) (H1:Hp) (ρ1:List Addr) (fp:List Addr) (tn:Nat→Heap→Prop) (G:Hd→Prop) (g:GF) (cs:List TF) (e:EF) (l:List D) (hdF:Hd) (ds:List D) (d:CD) (s':Shared):Prop where
  le:d.i≤l.length
  inv:Inv (cxC X (own++capn) scope cl C s2 H1 fp) [] d.σ d.H s'
  st:tn d.i s'.heap
  fr:∀ b∈fp,d.H b=none
  at':d.H s2.heap.objs.size=some (.lst d.ys)
  out:s2.heap.objs.size∉d.ρ
  yl:d.ys.length≤d.i
  ex:Ext ρ1 H1 d.ρ d.H
  rs:RS X.K d.ρ d.H d.σd d.hd d.σ
  ac:RDs X.K d.ρ d.H d.acc d.ys
  run:iU G g cs e (l.drop d.i) d.σd d.hd=.ok d.rest hdF
  eq:d.acc++d.rest=ds
section
variable {X:Cx} {pins:List (Addr × Obj)} {σ:St} {H1:Hp} {s2:Shared} {scope:Scope} {own capn:List Str} {caps:List Nat} {cl:List (Str × Addr)}
theorem AI {ρ1:List Addr}{σd:Sd}{hd1:Hd}(S:bG X scope own capn caps)(r:RS X.K ρ1 H1 σd hd1 σ){d:Addr}(hd:H1 d=none):RS X.K ρ1 (upd H1 d (.lst [])) (fx own.length caps σd) hd1 (stC own caps σ):=by
  have sm:=ce (o:=HO.lst []) hd
  refine⟨r.hp.same sm,⟨by simp [stC,fx],fun i x e => ?_⟩⟩
  obtain⟨j,k,rfl,hj,hs⟩:=yb e
  obtain⟨v,h1,h2⟩:=r.st.at' k x hs
  refine⟨v,?_,h2.mono (Kp.same sm)⟩
  unfold stC
  rw [List.getElem?_append_right (by simp)]
  simp [hj,h1]
theorem tU {elt tg iter:Expr}{ifs:List Expr}{pos:Pos}{it:Addr}{fp:List Addr}{tn:Nat→Heap→Prop}{J:It}{l:List D}{G:Hd→Prop}{g:GF}{cs:List TF}{e:EF}{ρ1:List Addr}{σd:Sd}{hd1 hdF:Hd}{ds:List D}{E:Value→Shared→Prop}{RR:Value→Addr→Result→Shared→Prop}
    (hc:X.calm=true) (S:bG X scope own capn caps) (hin:∀ cl C s H ex,MG (cxC X (own++capn) scope cl C s H ex) tg g∧MTs (cxC X (own++capn) scope cl C s H ex) ifs cs∧ME (cxC X (own++capn) scope cl C s H ex) elt e)
    (I1:Inv X pins σ H1 s2) (T:Da X.prog X.w X.K tg J fp it tn) (st0:tn 0 s2.heap) (hf:∀ b∈fp,qm X pins H1 b) (rs1:RS X.K ρ1 H1 σd hd1 σ) (wk:IH X.K ρ1 H1 J l G)
    (hcl1:∀ x c,cl.lookup x=some c→X.env.cells.lookup x=some c) (hcl2:∀ y∈scope.names,y.2=.free → ∃ c,cl.lookup y.1=some c)
    (run:iU G g cs e l (fx own.length caps σd) hd1=.ok ds hdF)
    (hRR:∀ C s' m H' ρ' vs,s2.heap.objs.size < C→s'.heap.Ns C m→Inv X pins σ H' s'→H' C=none→Ext ρ1 H1 ρ' H'→RH X.K ρ' H' hdF→H1 s2.heap.objs.size=none→H' s2.heap.objs.size=some (.lst vs)→s2.heap.objs.size ∉ ρ'→RDs X.K ρ' H' ds vs →
      RR (.ref s2.heap.objs.size) C (.ok .next) s') :
    wpAny (model X.prog X.w) X.A (newList []) (fun acc s₃ => wpAny (model X.prog X.w) X.A (newFunctionEnv scope X.env.globals cl [] X.env.qual none .none (some X.env)) (fun cenv s₄ =>
      codeAny (model X.prog X.w) X.A (.compStart (.ListComp elt [⟨tg,iter,ifs,0⟩] scope pos) 0 (.ref it) acc { cenv with scope:=relabel scope X.env }) (RR acc cenv.locals) s₄) E s₃) E s2:=by
  refine wpAny_newObj_type (wpAny_newFunctionEnv S.cell (by intro y hy;simp at hy) (fun h₁ hns₁ hsb₁ => ?_) S.kind)
  dsimp only at hns₁ hsb₁ ⊢
  generalize hH2:s2.heap.push { cls:=.type "list",dict:=none,data:=.seq ([] : List Value).toArray } = H2 at hns₁ hsb₁ ⊢
  have hC:H2.objs.size=s2.heap.objs.size + 1:=by rw [← hH2,Heap.size_push]
  have hDC:s2.heap.objs.size≠H2.objs.size:=by rw [hC];exact Nat.ne_of_lt (Nat.lt_succ_self _)
  have old:∀ b o,s2.heap.get? b=some o→h₁.get? b=some o:=fun b o e=>hsb₁.extBut b o (by rw [hC];exact Nat.ne_of_lt (Nat.lt_succ_of_lt (Heap.lt_size e))) (Heap.get?_push_of_some _ (hH2 ▸ Heap.get?_push_of_some _ e))
  have hacc:h₁.get? s2.heap.objs.size=some { cls:=.type "list",data:=.seq #[] }:=hsb₁.extBut _ _ hDC (Heap.get?_push_of_some _ (hH2 ▸ Heap.get?_push_size _ rfl))
  have hlt:∀ b∈fp,b < s2.heap.objs.size:=fun b hb=>by
    obtain⟨o,ho,_⟩:=T.obj 0 _ st0 b hb
    exact Heap.lt_size ho
  have hCl:s2.heap.objs.size < H2.objs.size:=by rw [hC];exact Nat.lt_succ_self _
  have hD0:H1 s2.heap.objs.size=none:=I1.hok.fresh (Nat.le_refl _)
  have st1:tn 0 h₁ := T.keep 0 _ _ st0 fun b hb o e=>old b o e
  have hn1:s2.heap.objs.size ∉ ρ1:=rs1.hp.free hD0
  obtain⟨hG,hT,hE⟩:=hin cl H2.objs.size s2 H1 fp
  have I':=Do (tk:=s2.toks + ([] : List (Str × Value)).length) I1 S hCl hcl1 hcl2 hf hlt hns₁ old hacc
  have fpC:∀ {pins':List (Addr × Obj)} {H':Hp},(∀ b∈fp,H' b=none) → ∀ b∈fp,qm (cxC X (own++capn) scope cl H2.objs.size s2 H1 fp) [] H' b:=fun {pins' H'} hn b hb=>by
    obtain⟨f0,f1,f2,f3,f4,f5⟩:=hf b hb
    have lt:=hlt b hb
    refine⟨hn b hb,fun z=>absurd lt (by rw [show b=H2.objs.size from z,hC];exact Nat.not_lt.mpr (Nat.le_succ _)),fun z => ?_,.inl hb,fun x c e=>f4 x c (hcl1 x c e),fun p hp=>absurd (show p∈([] : List (Addr × Obj)) from hp) (by simp)⟩
    rcases List.mem_cons.mp (I1.stkSub b z) with q|q
    · exact f1 q
    · exact f2 q
  have loop:∀ s₃ : Shared,s₃ = { s2 with heap:=h₁,toks:=s2.toks + ([] : List (Str × Value)).length } →
      codeAny (model X.prog X.w) X.A (.compLoop (.ListComp elt [⟨tg,iter,ifs,0⟩] scope pos) 0 (.ref it) (.ref s2.heap.objs.size) (compEnvC scope cl H2.objs.size X.env)) (RR (.ref s2.heap.objs.size) H2.objs.size) s₃ := by
    rintro s₃ rfl
    refine uY (E:=fun _ _=>False) (fun _ _ z=>z) (fun n s'=>∃ d:CD,n=l.length - d.i∧CI X own capn scope cl s2 H2.objs.size H1 ρ1 fp tn G g cs e l hdF ds d s') ?_ l.length
      ⟨⟨0,[],[],ds,ρ1,_,hd1,_,_⟩,by simp,Nat.zero_le _,I',st1,fun b hb => ?_,a6,hn1,Nat.le_refl _,Ext.same (ce hD0),AI S rs1 hD0,RDs.nil,by simpa using run,rfl⟩
    · rintro n s' ⟨⟨i,ys,acc,rest,ρ',σd',hd',H',σ'⟩,rfl,ci⟩
      have hil:i≤l.length:=ci.le
      have I':Inv (cxC X (own++capn) scope cl H2.objs.size s2 H1 fp) [] σ' H' s':=ci.inv
      have stn:tn i s'.heap:=ci.st
      have hfp:∀ b∈fp,H' b=none:=ci.fr
      have hDy:H' s2.heap.objs.size=some (.lst ys):=ci.at'
      have hnD:s2.heap.objs.size ∉ ρ':=ci.out
      have hyl:ys.length≤i:=ci.yl
      have ex:Ext ρ1 H1 ρ' H':=ci.ex
      have rs':RS X.K ρ' H' σd' hd' σ':=ci.rs
      have racc:RDs X.K ρ' H' acc ys:=ci.ac
      have hrun:iU G g cs e (l.drop i) σd' hd'=.ok rest hdF:=ci.run
      have hds:acc++rest=ds:=ci.eq
      by_cases hlt':i < l.length
      · have hdi:l[i]? = some l[i]:=by simp [hlt']
        rw [List.drop_eq_getElem_cons hlt'] at hrun
        unfold iU at hrun
        by_cases hh:G hd'
        · rw [if_pos hh] at hrun
          obtain⟨go,yl⟩:=wk.go ρ' H' hd' i _ ex rs'.hp hh hdi
          cases c:g l[i] σd' with
          | none=>rw [c] at hrun;cases hrun
          | some σd2 =>
            rw [c] at hrun
            simp only at hrun
            refine thn (T.item (cxC X (own++capn) scope cl H2.objs.size s2 H1 fp) rfl rfl rfl hc i [] s' σ' H' (fun _ _=>False) I' (fpC (pins':=[]) hfp) stn go) fun r s₁ ⟨u,hr,h4⟩ => ?_
            subst hr
            refine thn h4 fun _ s5 ⟨x,H5,I5,r5,y5,st5,fr5⟩ => ?_
            obtain⟨sm,rx⟩:=yl x H5 y5
            have I5':=I5.pinned (fpC (pins':=[]) fr5) (T.obj _ _ st5)
            have rs5:=rs'.same sm
            have hDy5:=sm _ _ hDy
            refine thn (hG _ s5 σ' H5 x u (fun σ6 H6=>H6=H5∧RS X.K ρ' H5 σd2 hd' σ6) I5' r5 ⟨ρ',σd',hd',l[i],σd2,rs5,rx,c,fun σ6 rs6=>⟨rfl,rs6⟩⟩) fun _ s6 ⟨σ6,H6,I6,hH6,rs6⟩ => ?_
            subst hH6
            cases c2:kC cs σd2 hd' with
            | exc z h7=>rw [c2] at hrun;cases hrun
            | bad=>rw [c2] at hrun;cases hrun
            | ok b hd7 =>
              rw [c2] at hrun
              simp only [aq] at hrun
              refine thn (hT _ s6 σ6 H6 (fun b' H7=>b'=b ∧ ∃ ρ7,Ext ρ' H6 ρ7 H7∧RS X.K ρ7 H7 σd2 hd7 σ6) I6 ⟨ρ',σd2,hd',rs6,by
                rw [c2]
                exact fun b' H7 ρ7 ex7 rs7 q=>⟨q.symm,ρ7,ex7,rs7⟩⟩) fun b' s7 ⟨H7,I7,hb',ρ7,ex7,rs7⟩ => ?_
              subst hb'
              have stay:∀ {σ8:St} {H8:Hp} {s8:Shared},Inv (cxC X (own++capn) scope cl H2.objs.size s2 H1 fp) ([]++ot fp s5.heap) σ8 H8 s8→tn (i + 1) s8.heap ∧ ∀ b∈fp,H8 b=none:=fun {σ8 H8 s8} I8 =>
                ⟨T.keep _ _ _ st5 fun b hb o e=>(I8.pin (b,o) (List.mem_append_right _ (List.mem_append_right _ (hZ hb e)))).1,fun b hb=>by
                  obtain⟨o,e,d⟩:=T.obj _ _ st5 b hb
                  exact (I8.pin (b,o) (List.mem_append_right _ (List.mem_append_right _ (hZ hb e)))).2.1⟩
              have ex5:Ext ρ' H' ρ7 H7:=(Ext.same sm).trans ex7
              have hDy7:H7 s2.heap.objs.size=some (.lst ys):=ex5.frame _ _ hDy hnD
              have hnD7:=ex5.out hDy hnD
              have racc7:=racc.mono (rs'.hp.kp ex5)
              cases b' with
              | false =>
                simp only [Bool.false_eq_true,if_false] at hrun ⊢
                obtain⟨st8,f8⟩:=stay I7
                exact⟨l.length - (i + 1),by omega,⟨i + 1,ys,acc,rest,ρ7,σd2,hd7,H7,σ6⟩,rfl,hlt',I7.unpinned,st8,f8,hDy7,hnD7,Nat.le_succ_of_le hyl,ex.trans ex5,rs7,racc7,hrun,hds⟩
              | true =>
                simp only [if_true] at hrun ⊢
                cases c3:e σd2 hd7 with
                | exc z h7=>rw [c3] at hrun;cases hrun
                | bad=>rw [c3] at hrun;cases hrun
                | ok d hd8 =>
                  rw [c3] at hrun
                  simp only [aq] at hrun
                  cases c4:iU G g cs e (l.drop (i + 1)) σd2 hd8 with
                  | exc z h7=>rw [c4] at hrun;cases hrun
                  | bad=>rw [c4] at hrun;cases hrun
                  | ok rest' hd9 =>
                    rw [c4] at hrun
                    simp only [aq,Res.ok.injEq] at hrun
                    obtain⟨hrest,hF⟩:=hrun
                    subst hrest hF
                    refine thn (hE _ s7 σ6 H7 (fun v H8=>∃ ρ8,Ext ρ7 H7 ρ8 H8∧RS X.K ρ8 H8 σd2 hd8 σ6∧RD X.K ρ8 H8 d v) I7 ⟨ρ7,σd2,hd7,rs7,by
                      rw [c3]
                      exact fun v H8 ρ8 ex8 rs8 q=>⟨ρ8,ex8,rs8,q⟩⟩) fun u8 s8 ⟨v8,H8,I8,r8,ρ8,ex8,rs8,rd8⟩ => ?_
                    have hDy8:H8 s2.heap.objs.size=some (.lst ys):=ex8.frame _ _ hDy7 hnD7
                    have hnD8:=ex8.out hDy7 hnD7
                    refine thn (tP _ s8 σ6 H8 (.ref s2.heap.objs.size) [v8] (.ref s2.heap.objs.size) [u8] (fun _ H9=>H9=upd H8 s2.heap.objs.size (.lst (ys++[v8]))) I8 rfl (.cons r8 .nil) ⟨_,ys,v8,rfl,rfl,hDy8,by have:=wk.sz;omega,rfl⟩) fun u9 s9 ⟨v9,H9,I9,r9,q9⟩ => ?_
                    subst q9
                    obtain⟨st9,f9⟩:=stay I9
                    obtain⟨rs9,k9⟩:=rs8.other (zs:=ys++[v8]) hDy8 hnD8
                    exact⟨l.length - (i + 1),by omega,⟨i + 1,ys++[v8],acc++[d],rest',ρ8,σd2,hd8,_,σ6⟩,rfl,hlt',I9.unpinned,st9,f9,a6,hnD8,by simp;exact hyl,(ex.trans (ex5.trans ex8)).other hD0,rs9,
                      ((racc7.mono (rs7.hp.kp ex8)).mono k9).append (RDs.cons (rd8.mono k9) RDs.nil),c4,by rw [← hds];simp⟩
        · rw [if_neg hh] at hrun;cases hrun
      · have e0:i=l.length:=by omega
        subst e0
        rw [List.drop_length] at hrun
        unfold iU at hrun
        by_cases hh:G hd'
        · rw [if_pos hh] at hrun
          simp only [Res.ok.injEq] at hrun
          obtain⟨hrest,hF⟩:=hrun
          subst hrest hF
          rw [List.append_nil] at hds
          subst hds
          refine thn (T.done (cxC X (own++capn) scope cl H2.objs.size s2 H1 fp) rfl rfl rfl hc _ [] s' σ' H' (fun _ _=>False) I' (fpC (pins':=[]) hfp) stn (wk.stop ρ' H' hd' ex rs'.hp hh)) fun r s₁ ⟨hr,I4⟩ => ?_
          subst hr
          obtain⟨m,hm,_⟩:=I4.loc
          refine hRR H2.objs.size s₁ m H' ρ' ys hCl hm ?_ I4.free ex rs'.hp hD0 hDy hnD racc
          exact I1.call' I4.os I4.base I4.hok I4.bare fun b hb=>by
            obtain⟨f0,f1,f2,f3,f4,f5⟩:=hf b hb
            exact⟨f3,f1,f4,f5⟩
        · rw [if_neg hh] at hrun;cases hrun
    · show upd H1 _ _ b=none
      rw [aI (Nat.ne_of_lt (hlt b hb))]
      exact (hf b hb).1
  exact codeAny_compStart_list (loop _ rfl) (T.self _ 0 _ _ _ st1 (loop _ rfl))
end
section
variable {X:Cx} {pos:Pos} {scope:Scope} {own capn:List Str} {caps:List Nat}
theorem bU {elt tg iter:Expr}{ifs:List Expr}{f:IF}{g:GF}{cs:List TF}{e:EF}(hc:X.calm=true)(S:bG X scope own capn caps)(hi:MI X tg iter f)
    (hin:∀ cl C s H ex,MG (cxC X (own++capn) scope cl C s H ex) tg g∧MTs (cxC X (own++capn) scope cl C s H ex) ifs cs∧ME (cxC X (own++capn) scope cl C s H ex) elt e)
    (hs:∀ x,foldedSetIterable iter X.env x=pure x:=by intro _;rfl):MF X (.ListComp elt [⟨tg,iter,ifs,0⟩] scope pos) (aJ own.length caps f g cs e):=by
  intro pins s σ H Q I ⟨ρ,σd,hd,rs,p⟩
  rw [eval_ListComp]
  unfold aJ at p
  cases c:f σd hd with
  | exc z h7=>rw [c] at p;exact p.elim
  | bad=>rw [c] at p;exact p.elim
  | ok q hd1 =>
    obtain⟨l,gd⟩:=q
    rw [c] at p
    simp only [aq] at p
    obtain⟨cl,h1,hcl1,hcl2⟩:=oN (scope:=scope) (env:=X.env) fun y hy hyf=>I.ok.has y.1 (S.free y hy hyf)
    refine wpAny_comprehension_free (use:=none) rfl hs h1 S.kind S.names (thn (hi pins s σ H (fun J H1=>∃ ρ1,Ext ρ H ρ1 H1∧RS X.K ρ1 H1 σd hd1 σ ∧ qu X.K ρ1 H1 J l gd) I ⟨ρ,σd,hd,rs,by
      rw [c]
      exact fun J H' ρ' ex rs' wk=>⟨ρ',ex,rs',wk⟩⟩) fun v s1 h1=>thn h1 fun itv s2 h2 => ?_)
    obtain⟨it,fp,tn,J,H1,rfl,I1,T,st0,hf,ρ1,ex1,rs1,wk⟩:=h2
    cases c2:bQ gd l g cs e l (fx own.length caps σd) hd1 with
    | exc z h7=>rw [c2] at p;exact p.elim
    | bad=>rw [c2] at p;exact p.elim
    | ok ds hdF =>
      rw [c2] at p
      refine tU (RR:=fun acc C=>compPost (model X.prog X.w) X.A X.xe none (EP X pins σ Q) acc C) hc S hin I1 T st0 hf rs1 wk.g hcl1 hcl2 ((uX _ _ _).symm.trans c2) fun C s' m H' ρ' vs hC hn I' hCn ex rh hD0 hD hnD rds => ?_
      refine⟨m,hn,fun h' sb=>⟨.ref s2.heap.objs.size,H',?_,rfl,?_⟩⟩
      · refine I'.turned (it:=C) (t':=s'.toks) (fun b o hb e=>(sb.2 b hb).trans e) hCn ?_ (.inr (Nat.le_of_lt (Nat.lt_of_le_of_lt I1.sz hC))) (fun x c e z => ?_) fun q hq z => ?_
        · exact Nat.ne_of_gt (Nat.lt_trans I1.lt hC)
        · obtain⟨v,o,ho,hd⟩:=I1.cell x c e
          exact absurd (Nat.lt_trans (Heap.lt_size ho) hC) (by rw [z];exact Nat.lt_irrefl _)
        · exact absurd (Nat.lt_trans (Heap.lt_size (I1.pin q hq).1) hC) (by rw [z];exact Nat.lt_irrefl _)
      · exact p _ vs H' ρ' (ex1.trans ex) (rs.ext (ex1.trans ex) rh) (ex1.fresh hD0 (rs1.hp.free hD0)) hD hnD rds
theorem Hz {i:Nat}{x:Str}{pos':Pos}{elt tg iter:Expr}{ifs:List Expr}{f:IF}{g:GF}{cs:List TF}{e:EF}{cpos:Pos}(hN:X.N.Nodup)(hi':X.N[i]? = some x)(hx:Loc X.env.scope x)(hc:X.calm=true)(S:bG X scope own capn caps)(hi:MI X tg iter f)
    (hin:∀ cl C s H ex,MG (cxC X (own++capn) scope cl C s H ex) tg g∧MTs (cxC X (own++capn) scope cl C s H ex) ifs cs∧ME (cxC X (own++capn) scope cl C s H ex) elt e)
    (hsw:swapsWith (.ListComp elt [⟨tg,iter,ifs,0⟩] scope cpos) (some (.Name x pos')) pos.line X.env=pure true:=by rfl)
    (hs:∀ x,foldedSetIterable iter X.env x=pure x:=by intro _;rfl) (hf':X.fn x=true∨X.env.scope.names.lookup x=some .local:=by first|exact .inl rfl|exact .inr rfl|assumption) :
    MS X (.Assign [.Name x pos'] (.ListComp elt [⟨tg,iter,ifs,0⟩] scope cpos) pos) (aF (gN i) (aT (aJ own.length caps f g cs e))):=by
  intro pins s σ H En I ⟨ρ,σd,hd,rs,p⟩
  rw [exec_Assign_Name_used _ _ _ _ hsw]
  refine wpAny_bind (wpAny_standAt ?_)
  show wpAny _ _ ((comprehension _ scope X.env _ (newList []) _ _ _ >>= fun _=>pure ()) >>= fun _=>pure Flow.next) _ _ _
  have p1:=cu.outE (σ := σ) p
  unfold aT aJ at p1
  cases c:f σd hd with
  | exc z h7=>rw [c] at p1;exact p1.elim
  | bad=>rw [c] at p1;exact p1.elim
  | ok q hd1 =>
    obtain⟨l,gd⟩:=q
    rw [c] at p1
    simp only [aq] at p1
    obtain⟨cl,h1,hcl1,hcl2⟩:=oN (scope:=scope) (env:=X.env) fun y hy hyf=>I.ok.has y.1 (S.free y hy hyf)
    refine wpAny_bind (wpAny_bind (wpAny_comprehension_free (Q:=fun _ s'=>wpAny (model X.prog X.w) X.A (pure ()) (fun _ s'=>wpAny (model X.prog X.w) X.A (pure Flow.next) (SP X pins En) X.xe s') X.xe s') (use:=some (assign (.Name x pos') X.env)) rfl hs h1 S.kind S.names (thn (hi pins s σ H (fun J H1=>∃ ρ1,Ext ρ H ρ1 H1∧RS X.K ρ1 H1 σd hd1 σ ∧ qu X.K ρ1 H1 J l gd) I ⟨ρ,σd,hd,rs,by
      rw [c]
      exact fun J H' ρ' ex rs' wk=>⟨ρ',ex,rs',wk⟩⟩) fun v s1 h1=>thn h1 fun itv s2 h2 => ?_)))
    obtain⟨it,fp,tn,J,H1,rfl,I1,T,st0,hf,ρ1,ex1,rs1,wk⟩:=h2
    cases c2:bQ gd l g cs e l (fx own.length caps σd) hd1 with
    | exc z h7=>rw [c2] at p1;exact p1.elim
    | bad=>rw [c2] at p1;exact p1.elim
    | ok ds hdF =>
      rw [c2] at p1
      simp only [aq] at p1
      by_cases hz:ds.length≤SZ
      · rw [if_pos hz] at p1
        refine tU (RR:=fun acc C=>compPost (model X.prog X.w) X.A X.xe (some (assign (.Name x pos') X.env)) _ acc C) hc S hin I1 T st0 hf rs1 wk.g hcl1 hcl2 ((uX _ _ _).symm.trans c2) fun C s' m H' ρ' vs hC hn I' hCn ex rh hD0 hD hnD rds => ?_
        refine wpAny_assign_Name (tI I' hN hi' hx (v:=.ref s2.heap.objs.size) rfl (fun s'' I'' hsb => ?_) hf')
        have hCl:C≠X.env.locals:=Nat.ne_of_gt (Nat.lt_trans I1.lt hC)
        have hCc:∀ y c,X.env.cells.lookup y=some c→c≠C:=fun y c e z=>by
          obtain⟨v,o,ho,hd⟩:=I1.cell y c e
          exact absurd (Nat.lt_trans (Heap.lt_size ho) hC) (by rw [z];exact Nat.lt_irrefl _)
        refine⟨m,?_,fun h' sb=>wpAny_pure (wpAny_pure ?_)⟩
        · obtain⟨a,sa,ha⟩:=hsb
          refine hn.sameBut sa ?_
          rcases ha with z|z
          · rw [z];exact hCl
          · exact Ne.symm (hCc _ _ z)
        · have I3:Inv X pins (σ.set i (some (.ref s2.heap.objs.size))) H' { s'' with heap:=h' }:=I''.turned (it:=C) (t':=s''.toks) (fun b o hb e=>(sb.2 b hb).trans e) hCn hCl (.inr (Nat.le_of_lt (Nat.lt_of_le_of_lt I1.sz hC))) hCc fun q hq z =>
            absurd (Nat.lt_trans (Heap.lt_size (I1.pin q hq).1) hC) (by rw [z];exact Nat.lt_irrefl _)
          have ex':Ext ρ H ρ' H':=ex1.trans ex
          have rh':=rh.alloc hD hnD rds
          have hH0:H s2.heap.objs.size=none:=ex1.fresh hD0 (rs1.hp.free hD0)
          have exA:Ext ρ H (ρ'++[s2.heap.objs.size]) H':=⟨by obtain⟨t,rfl⟩:=ex'.pre;exact⟨t++[s2.heap.objs.size],by simp⟩,fun a ha=>by
            rcases List.mem_append.mp ha with z|z
            · exact ex'.new a z
            · simp at z;subst z;exact .inr hH0,ex'.frame⟩
          obtain⟨ρ2,d2,hd2,e2,rs2,rd2,pn⟩:=p1 (.ref s2.heap.objs.size) H' (ρ'++[s2.heap.objs.size]) exA (rs.ext exA rh') (by
            simp only [rD,RD]
            refine⟨s2.heap.objs.size,?_,rfl⟩
            rw [← rh.len]
            simp)
          exact⟨_,H',I3,pn _ H' ρ2 Ext.refl ⟨rs2.hp,rs2.st.set i rd2⟩⟩
      · rw [if_neg hz] at p1;exact p1.elim
end
end Fm
set_option Elab.async false
set_option linter.all false
set_option maxRecDepth 100000
namespace Fm
open PySem PySem.Spec L2 PyProof.Rows
mutual
def rfs (k:Nat):D→Prop
  | .ref n=>n < k
  | .tup l=>iY k l
  | .lit l=>iY k l
  | .exn _ l=>iY k l
  | _=>True
def iY (k:Nat):List D→Prop
  | []=>True
  | x :: xs=>rfs k x∧iY k xs
end
section
variable {K:PySem.W.Frag} {ρ ρ' t:List Addr} {H H':Hp} {hd hd':Hd}
mutual
theorem RD.rfs:∀ {d:D} {v:V},RD K ρ H d v→Fm.rfs ρ.length d
  | .non,_,_=>by simp only [Fm.rfs]
  | .bl _,_,_=>by simp only [Fm.rfs]
  | .int _,_,_=>by simp only [Fm.rfs]
  | .str _,_,_=>by simp only [Fm.rfs]
  | .tup l,_,h=>by
    simp only [RD] at h;obtain⟨p,vs,_,_,h2⟩:=h
    simp only [Fm.rfs];exact RDs.rfs h2
  | .lit l,_,h=>by
    simp only [RD] at h;obtain⟨p,vs,_,_,h2⟩:=h
    simp only [Fm.rfs];exact RDs.rfs h2
  | .ref n,_,h=>by
    simp only [RD] at h;obtain⟨a,h1,_⟩:=h
    simp only [Fm.rfs];exact (List.getElem?_eq_some_iff.mp h1).1
  | .exn _ _,_,h=>by simp only [RD] at h;obtain⟨rfl,_⟩:=h;simp only [Fm.rfs,Fm.iY]
theorem RDs.rfs:∀ {l:List D} {vs:List V},RDs K ρ H l vs→Fm.iY ρ.length l
  | [],_,_=>by simp only [Fm.iY]
  | d :: ds,_,h=>by
    simp only [RDs] at h;obtain⟨v,r,_,h1,h2⟩:=h
    simp only [Fm.iY];exact⟨RD.rfs h1,RDs.rfs h2⟩
end
mutual
theorem RD.cut:∀ {d:D} {v:V},RD K (ρ ++ t) H d v→Fm.rfs ρ.length d→RD K ρ H d v
  | .non,_,h,_=>by simp only [RD] at h ⊢;exact h
  | .bl _,_,h,_=>by simp only [RD] at h ⊢;exact h
  | .int _,_,h,_=>by simp only [RD] at h ⊢;exact h
  | .str _,_,h,_=>by simp only [RD] at h ⊢;exact h
  | .tup l,_,h,q=>by
    simp only [RD] at h ⊢;simp only [Fm.rfs] at q
    obtain⟨p,vs,e,h1,h2⟩:=h
    exact⟨p,vs,e,h1,RDs.cut h2 q⟩
  | .lit l,_,h,q=>by
    simp only [RD] at h ⊢;simp only [Fm.rfs] at q
    obtain⟨p,vs,e,h1,h2⟩:=h
    exact⟨p,vs,e,h1,RDs.cut h2 q⟩
  | .ref n,_,h,q=>by
    simp only [RD] at h ⊢;simp only [Fm.rfs] at q
    obtain⟨a,h1,h2⟩:=h
    exact⟨a,by rwa [List.getElem?_append_left q] at h1,h2⟩
  | .exn _ _,_,h,_=>by simp only [RD] at h ⊢;exact h
theorem RDs.cut:∀ {l:List D} {vs:List V},RDs K (ρ ++ t) H l vs→Fm.iY ρ.length l→RDs K ρ H l vs
  | [],_,h,_=>by simp only [RDs] at h ⊢;exact h
  | d :: ds,_,h,q=>by
    simp only [RDs] at h ⊢;simp only [Fm.iY] at q
    obtain⟨v,r,e,h1,h2⟩:=h
    exact⟨v,r,e,RD.cut h1 q.1,RDs.cut h2 q.2⟩
end
mutual
theorem oO {k:Nat}:∀ {d:D},pure? d=true→Fm.rfs k d
  | .non,_=>by simp only [Fm.rfs]
  | .bl _,_=>by simp only [Fm.rfs]
  | .int _,_=>by simp only [Fm.rfs]
  | .str _,_=>by simp only [Fm.rfs]
  | .tup l,h=>by simp only [pure?] at h;simp only [Fm.rfs];exact gO h
  | .lit l,h=>by simp only [pure?] at h;simp only [Fm.rfs];exact gO h
  | .exn _ l,h=>by simp only [pure?] at h;simp only [Fm.rfs];exact gO h
  | .ref _,h=>by simp only [pure?] at h;cases h
theorem gO {k:Nat}:∀ {l:List D},gj l=true→Fm.iY k l
  | [],_=>by simp only [Fm.iY]
  | x :: xs,h=>by
    simp only [gj,Bool.and_eq_true] at h
    simp only [Fm.iY];exact⟨oO h.1,gO h.2⟩
end
def Ff (k:Nat):bn→Prop
  | .lst l=>Fm.iY k l
  | .dct l=>Fm.iY k (l.map (·.2))
theorem RC.rfs {c:bn}{a:Addr}(h:RC K ρ H c a):Ff ρ.length c:=by
  cases c with
  | lst l=>obtain⟨vs,_,h2⟩:=h;exact h2.rfs
  | dct l=>obtain⟨vs,_,_,h2⟩:=h;exact h2.rfs
theorem RC.cut {c:bn}{a:Addr}(h:RC K (ρ ++ t) H c a)(q:Ff ρ.length c):RC K ρ H c a:=by
  cases c with
  | lst l=>obtain⟨vs,h1,h2⟩:=h;exact⟨vs,h1,h2.cut q⟩
  | dct l=>obtain⟨vs,h1,h2,h3⟩:=h;exact⟨vs,h1,h2,h3.cut q⟩
theorem uZ {k:Nat}{c:bn}(h:i5 c=true):Ff k c:=by
  cases c with
  | lst l=>exact gO h
  | dct l =>
    have:∀ l:List (Int × D),(l.all fun p=>pure? p.2)=true→Fm.iY k (l.map (·.2)):=by
      intro l
      induction l with
      | nil=>intro _;simp only [List.map_nil,Fm.iY]
      | cons x l ih=>intro h;simp only [List.all_cons,Bool.and_eq_true] at h;simp only [List.map_cons,Fm.iY];exact⟨oO h.1,ih h.2⟩
    exact this l h
theorem RH.back (r:RH K ρ H hd)(r':RH K (ρ ++ t) H' hd')(o:Cr hd hd'):RH K ρ H' (hd'.take hd.length):=by
  have hl:(ρ ++ t).length=hd'.length:=r'.len
  refine⟨by rw [List.length_take,← hl,List.length_append,← r.len];omega,(List.nodup_append.mp r'.nd).1,fun n c a h1 h2 => ?_⟩
  have hn:n < hd.length:=by rw [← r.len];exact (List.getElem?_eq_some_iff.mp h2).1
  rw [List.getElem?_take_of_lt hn] at h1
  have q:=r'.cel n c a h1 (by rw [List.getElem?_append_left (by rw [r.len];exact hn)];exact h2)
  refine q.cut ?_
  rcases o n c hn h1 with z|z
  · exact (r.cel n c a z h2).rfs
  · exact uZ z
def oP (K:PySem.W.Frag) (ρ:List Addr) (H:Hp) (r:Res D) (Q:VK):Prop:=match r with
  | .ok d hd'=>∀ v H' ρ',Ext ρ H ρ' H'→RH K ρ' H' hd'→RD K ρ' H' d v→Q v H'
  | _=>False
def spF (K:PySem.W.Frag) (F:Fn) (np:Nat):Sp:=fun vs H Q _=>∃ ρ hd ds,RH K ρ H hd∧RDs K ρ H ds vs∧ds.length=np∧oP K ρ H (F ds hd) Q
theorem Ext.short (e:Ext ρ H (ρ ++ t) H'):Ext ρ H ρ H':=⟨⟨[],by simp⟩,fun _ h=>.inl h,e.frame⟩
theorem oP.letGo {r:Res D}{Q:VK}(rh:RH K ρ H hd)(p:oP K ρ H (letGo hd r) Q):oP K ρ H r Q:=by
  cases r with
  | exc x h'=>exact p
  | bad=>exact p
  | ok d h' =>
    intro v H' ρ' ex rh' rd
    simp only [Fm.letGo] at p
    split at p
    · rename_i hc
      obtain⟨t,rfl⟩:=ex.pre
      exact p v H' ρ ex.short (rh.back rh' hc.2) (rd.cut (oO hc.1))
    · exact p v H' ρ' ex rh' rd
theorem oP.runB {n:Nat}{b:SF}{ds:List D}{Q:VK}(p:oP K ρ H (runB n b ds hd) Q):cu K ρ H (b (ds.map some++List.replicate (n - ds.length) none) hd) { nx:=fun _ H'=>Q .non H',rt:=Q }:=by
  unfold Fm.runB at p
  cases e:b (ds.map some++List.replicate (n - ds.length) none) hd with
  | nx σ h'=>rw [e] at p;exact fun σ' H' ρ' ex rs=>p .non H' ρ' ex rs.hp (by simp only [RD])
  | rt d h'=>rw [e] at p;exact p
  | bk σ h'=>rw [e] at p;exact p.elim
  | ct σ h'=>rw [e] at p;exact p.elim
  | exc x σ h'=>rw [e] at p;exact p.elim
  | bad=>rw [e] at p;exact p.elim
theorem Dp {N:List Str}{ds:List D}{vs:List V}(r:RDs K ρ H ds vs):RSt K ρ H (ds.map some++List.replicate (N.length - ds.length) none) (L2.i0 N vs):=by
  have hl:=r.length
  refine⟨by simp [L2.i0,hl],fun i d e => ?_⟩
  simp only [slot] at e
  by_cases hi:i < ds.length
  · rw [List.getElem?_append_left (by simpa using hi)] at e
    simp only [List.getElem?_map,List.getElem?_eq_getElem hi,Option.map_some] at e
    cases e
    obtain⟨v,hv,q⟩:=r.get (i:=i) (d:=ds[i]) (by simp [hi])
    refine⟨v,?_,q⟩
    unfold L2.i0
    rw [List.getElem?_append_left (by simp;omega)]
    simp [hv]
  · rw [List.getElem?_append_right (by simpa using Nat.le_of_not_lt hi)] at e
    simp only [List.getElem?_replicate] at e
    by_cases hq:i - (List.map some ds).length < N.length - ds.length
    · simp only [hq,if_true] at e;cases e
    · simp only [hq,if_false] at e;cases e
end
structure Def (P:Program) (w:World) (K:PySem.W.Frag) (mg:Str→Option Value) (base:Heap) (x:Str) (k np:Nat) (F:Fn):Prop where
  ex:∃ f fd ps,mg x=some (.ref f)∧PySem.W.keepIn K (.ref f)=true∧jP K fd ps []∧b7 P w K mg base CX0 k f fd ps (spF K F np)
section
variable {P:Program} {w:World} {K:PySem.W.Frag} {mg:Str→Option Value} {base:Heap}
theorem bY {x:Str}{st:Stmt}{f:Addr}{fd:FuncData}{N ps:List Str}{k:Nat}{b:SF}(F:Fun K x x st f fd)(S:aR N ps (ah st))
    (body:∀ (cdv:Value) (A:Around) (outer:List Env) (s:Shared) (H:Hp) (E:XK),gs k (A.deeper (envOfC x (ah st) s.heap.objs.size f cdv))→MSs (AB CX0 P w K mg base N x (ah st) f cdv A outer s H E).nox (aM st) b) :
    b7 P w K mg base CX0 (k + 1) f fd ps (spF K (bJ ps.length N.length b) ps.length):=by
  refine F.ok S (fun vs H Q E ⟨ρ,hd,ds,rh,rd,hl,p⟩=>by rw [← rd.length];exact hl) fun cdv A outer s H vs Q E hr ⟨ρ,hd,ds,rh,rd,hl,p⟩=>⟨_,body cdv A outer s H E hr,ρ,_,hd,⟨rh,Dp rd⟩,?_⟩
  simp only [bJ,hl,if_true] at p
  exact (oP.letGo rh p).runB
theorem Def.mk' {x:Str}{f:Addr}{fd:FuncData}{ps:List Str}{k np:Nat}{F:Fn}(hm:mg x=some (.ref f))(hk:PySem.W.keepIn K (.ref f)=true)(hb:jP K fd ps [])(h:b7 P w K mg base CX0 k f fd ps (spF K F np)):Def P w K mg base x k np F:=⟨f,fd,ps,hm,hk,hb,h⟩
end
section
variable {X:Cx} {pos p:Pos}
theorem au {x:Str}{k np:Nat}{F:Fn}{e:Expr}{es:List Expr}{r:LF}(hd:Def X.prog X.w X.K X.mg X.base x k np F)(hr:gs k X.A)(hg:Gl X x)(ha:MA X (e :: es) r)(hnp:∀ ds h d h',F ds h=.ok d h'→ds.length=np)
    (hdb:(x == ("__debug__" : Str))=false:=by decide) (he:starEach (e :: es) X.env=(false,eval e X.env) :: starEach es X.env:=by rfl) (hpl:(backTo pos (starEach es X.env)).any (·.1)=false:=by rfl) :
    ME X (.Call (.Name x p) (e :: es) [] pos) (am F r):=by
  obtain⟨f,fd,ps,h1,h2,h3,h4⟩:=hd.ex
  refine PE.imp (Hj h4 hr hg h1 h2 h3 .nil Lp ha hdb he hpl) fun σ H Q ⟨ρ,σd,hd,rs,pp⟩=>⟨ρ,σd,hd,rs,(aX.bind (R:=rDs X.K) pp).imp fun vs H1 ⟨ρ1,ds,hd1,e1,rs1,rv,p1⟩ => ?_⟩
  rw [List.append_nil]
  cases c:F ds hd1 with
  | exc z h'=>rw [c] at p1;exact p1.elim
  | bad=>rw [c] at p1;exact p1.elim
  | ok d hd2 =>
    rw [c] at p1
    refine⟨ρ1,hd1,ds,rs1.hp,rv,hnp _ _ _ _ c,?_⟩
    rw [c]
    exact fun v H' ρ' ex rh rd=>p1 v H' ρ' ex (rs1.ext ex rh) rd
theorem av {np n:Nat}{b:SF}:∀ ds h d h',bJ np n b ds h=.ok d h'→ds.length=np:=by
  intro ds h d h' e
  unfold bJ at e
  split at e
  · assumption
  · cases e
end
theorem Lx {l:PySem.W.OpenLaw}{q:Program}{loose:List Str}{XP:(Str→Option Value)→Heap→Prop}{YP:World→Heap→Prop}{d:DefRec}{K:Params→PySem.W.Frag}{F:Fn}{k:Nat}{x:Str}(hn:l.most=some 63)(hdf:d.params.defaults=[])(hr:gs k callerA)
    (hY:∀ (w:World) (h:Heap),YP w h→(K w.params).In h)
    (hF:∀ (w:World) (mg:Str→Option Value) (fa:Addr) (h:Heap),(K w.params).In h→h.Ns mainGlobals mg→mg d.name=some (.ref fa) →
      ∃ fd:FuncData,(∀ (s:Shared) (u:Value),BindsTo s fd ⟨[u],[]⟩ [(x,u)]) ∧ ∀ base:Heap,(K w.params).In base→base.Ns mainGlobals mg→b7 l.prog w (K w.params) mg base CX0 k fa fd [x] (spF (K w.params) F 1))
    (law:∀ ns:List Int,ns.length≤63 → ∃ h,F [.lit (ns.map .int)] []=.ok (.bl true) h) :
    PySem.W.WalkO q loose XP YP l.row.toRowW d [] (fun f vs=>PySem.call f vs):=by
  refine L2.Ht (n:=63) (k:=k) (x:=x) (CX:=fun _=>CX0) (sp:=fun w=>spF (K w.params) F 1) hn (by decide) hdf hr hY hF (fun w H a ns hl hO hS => ?_) fun _ _ _ _ _ z=>z
  obtain⟨h,e⟩:=law ns hl
  have hL:nh (K w.params) H a (ns.map V.int):=by
    rcases hS with (z|⟨o,z⟩)|z
    · rcases hO a with y|⟨o,xs,y⟩<;>(rw [z] at y;cases y)
    · exact .inl ⟨o,z⟩
    · exact .inr z
  have hI:RDs (K w.params) [] H (ns.map D.int) (ns.map V.int):=by
    clear hl hS e hL law
    induction ns with
    | nil=>exact RDs.nil
    | cons n ns ih=>exact RDs.cons (by simp only [RD]) ih
  refine⟨[],[],[.lit (ns.map .int)],⟨rfl,List.nodup_nil,fun n c a h1=>by simp at h1⟩,RDs.cons (by simp only [RD];exact⟨a,_,rfl,hL,hI⟩) RDs.nil,rfl,?_⟩
  rw [e]
  intro v H' ρ' ex rh rd
  simpa only [RD] using rd
end Fm
set_option Elab.async false
set_option linter.all false
set_option maxRecDepth 100000
namespace Fm
open PySem PySem.Spec L2
open PyProof.Rows (Subscript_ tail_any)
def tyS:Ty→String
  | .int => "int" | .bool => "bool" | .tuple => "tuple" | .list => "list" | .str => "str"
theorem fK (t:Ty):typeOf (.type (tyS t))=pure (.type "type"):=by
  cases t
  · exact F.isi_meta_int
  · exact F.isi_meta_bool
  · exact F.isi_meta_tuple
  · exact F.isi_meta_list
  · exact F.isi_meta_str
theorem HA (t:Ty):isSubtype (.type "NoneType") (.type (tyS t))=pure false:=by cases t<;>(rw [isSubtype_type];kernel_rfl)
theorem JI {t:Ty} (h:t ≠ .int):isSubtype (.type "int") (.type (tyS t))=pure false:=by cases t<;>first|exact absurd rfl h|(rw [isSubtype_type];kernel_rfl)
theorem HB {t:Ty} (h:t ≠ .int) (h2:t ≠ .bool):isSubtype (.type "bool") (.type (tyS t))=pure false:=by cases t<;>first|exact absurd rfl h|exact absurd rfl h2|(rw [isSubtype_type];kernel_rfl)
theorem JJ {t:Ty} (h:t ≠ .str):isSubtype (.type "str") (.type (tyS t))=pure false:=by cases t<;>first|exact absurd rfl h|(rw [isSubtype_type];kernel_rfl)
theorem Fg {t:Ty} (h:t ≠ .tuple):isSubtype (.type "tuple") (.type (tyS t))=pure false:=by cases t<;>first|exact absurd rfl h|(rw [isSubtype_type];kernel_rfl)
theorem Cw {t:Ty} (h:t ≠ .list):isSubtype (.type "list") (.type (tyS t))=pure false:=by cases t<;>first|exact absurd rfl h|(rw [isSubtype_type];kernel_rfl)
theorem HC (t:Ty):isSubtype (.type "dict") (.type (tyS t))=pure false:=by cases t<;>(rw [isSubtype_type];kernel_rfl)
theorem jG (t:Ty):isSubtype (.type (tyS t)) (.type (tyS t))=pure true:=by cases t<;>(rw [isSubtype_type];kernel_rfl)
theorem yc:isSubtype (.type "bool") (.type (tyS .int))=pure true:=by rw [isSubtype_type];kernel_rfl
theorem nj {n:String}{t:Ty}(h:n≠tyS t):(Value.type n == Value.type (tyS t))=false:=by
  rw [beq_eq_false_iff_ne];intro e;cases e;exact h rfl
theorem AJ {a b:Ty}(h:a≠b):(a == b)=false:=by cases a<;>cases b<;>first|rfl|exact absurd rfl h
section
variable {X:Cx} {pos p:Pos}
theorem JK {pins:List (Addr × Obj)}{σ:St}{H:Hp}{s:Shared}{ρ:List Addr}{hd:Hd}{d:D}{v:V}{u:Value}{t:Ty}{b:Bool}{Q:Value→Shared→Prop}{E:Value→Shared→Prop}(I:Inv X pins σ H s)(rh:RH X.K ρ H hd)(rd:RD X.K ρ H d v)(r:bq v u)(e:Dm hd t d=some b)
    (q:∀ s',Inv X pins σ H s'→Q (.bool b) s'):wpAny (model X.prog X.w) X.A (call (.builtin "isinstance") [u,.type (tyS t)]) Q E s:=by
  have q0:=q s I
  have q1:=q { s with toks:=s.toks + 1 } (I.tok _)
  have yes:∀ {n:String},s.TypeIs u n→isSubtype (.type n) (.type (tyS t))=pure true→Q (.bool true) s→wpAny (model X.prog X.w) X.A (call (.builtin "isinstance") [u,.type (tyS t)]) Q E s:=fun h1 h2 h3=>call_isinstance (isinstance_true (fK t) h2) ⟨h1,h3⟩
  cases d<;>simp only [RD] at rd<;>simp only [Dm] at e
  · subst rd;cases r;cases e
    exact call_isinstance (isinstance_false_none (by cases t<;>exact nj (by decide)) (fK t) (HA t)) q1
  · subst rd;cases r
    by_cases h1:t=.int
    · subst h1;cases e;exact yes (n := "bool") rfl yc q0
    · by_cases h2:t=.bool
      · subst h2;cases e;exact yes (n := "bool") rfl (jG .bool) q0
      · rw [AJ h1,AJ h2] at e;cases e
        exact call_isinstance (isinstance_false_bool (by cases t<;>first|exact absurd rfl h1|exact absurd rfl h2|exact nj (by decide)) (fK t) (HB h1 h2)) q1
  · subst rd;obtain⟨tk,rfl⟩:=r
    by_cases h1:t=.int
    · subst h1;cases e;exact yes (n := "int") rfl (jG .int) q0
    · rw [AJ h1] at e;cases e
      exact call_isinstance (isinstance_false_int (by cases t<;>first|exact absurd rfl h1|exact nj (by decide)) (fK t) (JI h1)) q1
  · subst rd;obtain⟨tk,rfl⟩:=r
    by_cases h1:t=.str
    · subst h1;cases e;exact yes (n := "str") rfl (jG .str) q0
    · rw [AJ h1] at e;cases e
      exact call_isinstance (isinstance_false_str (by cases t<;>first|exact absurd rfl h1|exact nj (by decide)) (fK t) (JJ h1)) q1
  · obtain⟨a,vs,rfl,ha,_⟩:=rd
    cases r
    obtain⟨its,_,o,ho,hc,_⟩:=ig I.hok ha
    by_cases h1:t=.tuple
    · subst h1;cases e;exact yes (n := "tuple") ⟨o,ho,hc⟩ (jG .tuple) q0
    · rw [AJ h1] at e;cases e
      exact call_isinstance (isinstance_false_tuple (by cases t<;>first|exact absurd rfl h1|exact nj (by decide)) (fK t) (Fg h1)) ⟨⟨o,ho,hc⟩,q1⟩
  · rename_i n
    obtain⟨a,ha,rfl⟩:=rd
    cases r
    cases c:hd[n]? with
    | none=>rw [c] at e;cases e
    | some cell =>
      rw [c] at e
      cases cell with
      | lst l =>
        obtain⟨vs,hv,_⟩:=rh.cel n _ a c ha
        obtain⟨z,its,k,_,ho⟩:=I.hok a _ hv
        by_cases h1:t=.list
        · subst h1;cases e;exact yes (n := "list") ⟨_,ho,rfl⟩ (jG .list) q0
        · simp only [AJ h1] at e;cases e
          exact call_isinstance (isinstance_false_list (by cases t<;>first|exact absurd rfl h1|exact nj (by decide)) (fK t) (Cw h1)) ⟨⟨_,ho,rfl⟩,q1⟩
      | dct l =>
        obtain⟨vs,hv,_,_⟩:=rh.cel n _ a c ha
        obtain⟨_,_,_,_,o,_,_,ho,ex,_⟩:=I.hok a _ hv
        cases e
        exact call_isinstance (isinstance_false_dict (by cases t<;>exact nj (by decide)) (fK t) (HC t)) ⟨⟨o,ho,ex.1⟩,q1⟩
  · obtain⟨a,vs,rfl,ha,_⟩:=rd
    cases r
    obtain⟨its,_,pl,_⟩:=I.list ha.sq
    obtain⟨o,ho,hc,_⟩:=pl.isList
    by_cases h1:t=.list
    · subst h1;cases e;exact yes (n := "list") ⟨o,ho,hc⟩ (jG .list) q0
    · simp only [AJ h1] at e;cases e
      exact call_isinstance (isinstance_false_list (by cases t<;>first|exact absurd rfl h1|exact nj (by decide)) (fK t) (Cw h1)) ⟨⟨o,ho,hc⟩,q1⟩
  · cases e
def Mq (K:PySem.W.Frag) (t:Ty):List V→Hp→VK→Prop:=fun xs H Q=>∃ ρ hd d v b,xs=[v,.ty (tyS t)]∧RH K ρ H hd∧RD K ρ H d v∧Dm hd t d=some b∧Q (.bl b) H
theorem Fh (t:Ty):fF X (.builtin "isinstance") (Mq X.K t):=by
  intro pins s σ H xs us Q I r h
  obtain⟨ρ,hd,d,v,b,rfl,rh,rd,e,q⟩:=h
  obtain⟨u,u2,rfl,ru,ru2⟩:=aN.two r
  cases (show u2=Value.type (tyS t) from ru2)
  exact JK I rh rd ru e fun s' I'=>⟨.bl b,H,I',rfl,q⟩
theorem df {t:Ty} {a:Expr} {fa:EF} {p2:Pos} {n:Str} (hg:Gl X "isinstance") (hm:X.mg "isinstance" = none) (hg2:Gl X n) (hm2:X.mg n=none) (hv:bootBuiltins n=some (.type (tyS t))) (ha:ME X a fa)
    (hs:starEach [a,.Name n p2] X.env=(false,eval a X.env) :: starEach [.Name n p2] X.env:=by rfl) (hs2:starEach [.Name n p2] X.env=(false,eval (.Name n p2) X.env) :: starEach [] X.env:=by rfl) (hn:n ≠ "__name__" := by decide) (hd:(n == ("__debug__" : Str))=false:=by decide) :
    ME X (.Call (.Name "isinstance" p) [a,.Name n p2] [] pos) (bA t fa):=by
  refine PE.imp (gF (Fh t) hg hm (by decide +kernel) (bz ha (bz (G6 (v:=.ty (tyS t)) hg2 hm2 hv rfl hn hd) cR hs2) hs) (he:=hs)) fun σ H Q ⟨ρ,σd,hd,rs,pp⟩=>⟨ρ,σd,hd,rs,(aX.bind (R:=rD X.K) pp).imp fun v H1 ⟨ρ1,d,hd1,e1,rs1,rv,p1⟩ => ?_⟩
  cases c:Dm hd1 t d with
  | none=>simp only [c] at p1;exact p1.elim
  | some b=>simp only [c] at p1;exact⟨ρ1,hd1,d,v,b,rfl,rs1.hp,rv,c,p1.here rs1 (by simp only [rD,RD])⟩
theorem bH:OpR X (binaryOp .Add) (fun x y H Q=>rI0 (fun i j=>.int (i + j)) x y H Q∨EW X.K x y H Q):=Jg.or Hn
theorem b8 {K:PySem.W.Frag}:Og K cb (fun x y H Q=>rI0 (fun i j=>.int (i + j)) x y H Q∨EW K x y H Q):=by
  intro ρ H σd hd σ d k v w Q rs rv rw' pp
  cases d<;>try exact pp.elim
  · cases k<;>try exact pp.elim
    simp only [RD] at rv rw'
    exact .inl ⟨_,_,rv,rw',pp.here rs (by simp only [rD,RD])⟩
  · rename_i l
    cases l with
    | nil=>exact pp.elim
    | cons x xs =>
      cases k<;>try exact pp.elim
      rename_i ys
      simp only [cb] at pp
      split at pp
      · rename_i hz
        simp only [RD] at rv rw'
        obtain⟨a,vs,rfl,ha,rvs⟩:=rv
        obtain⟨b,ws,rfl,hb,rws⟩:=rw'
        refine .inr ⟨a,b,vs,ws,rfl,rfl,SqT.of ha,SqT.of hb,?_,?_,fun z => ?_,fun _ q hq => ?_⟩
        · intro z;subst z;have:=rvs.length;simp at this
        · rw [← rvs.length,← rws.length];exact nV hz
        · subst z
          have hy:ys=[]:=by have:=rws.length;simpa using this
          subst hy
          exact pp.here rs (by simp only [rD,RD];exact⟨a,vs,rfl,ha,by simpa using rvs⟩)
        · have sm:=ce (o:=HO.tup (vs++ws)) hq
          exact pp.at (Ext.same sm) (rs.same sm) (by simp only [rD,RD];exact⟨q,_,rfl,a6,(RDs.append rvs rws).mono (Kp.same sm)⟩)
      · exact pp.elim
theorem ii {a:Expr} {la:LF} (hg:Gl X "list") (hm:X.mg "list" = none) (ha:MQ X a la) (hs:starEach [a] X.env=(false,eval a X.env) :: starEach [] X.env:=by rfl):MF X (.Call (.Name "list" p) [a] [] pos) la:=by
  refine PE.imp (tN uR hg hm (by decide +kernel) (bz ha cR hs) (he:=hs)) fun σ H Q ⟨ρ,σd,hd,rs,pp⟩=>⟨ρ,σd,hd,rs,?_⟩
  cases e:la σd hd with
  | exc x h'=>rw [e] at pp;exact pp
  | bad=>rw [e] at pp;exact pp
  | ok l hd1 =>
    rw [e] at pp
    intro v H1 ρ1 e1 rs1 ⟨q,vs,hv,sq,rvs⟩
    subst hv
    exact⟨q,vs,rfl,sq.imp id SqT.of,pp.mk e1 rs1 rvs⟩
def MO (X:Cx) (e:Option Expr) (f:OF):Prop:=PO X e (i6 X.K rO f)
theorem tV:MO X none pNo:=fun pins s σ H Q I ⟨ρ,σd,hd,rs,pp⟩=>Hl pins s σ H Q I (pp.here rs rfl)
theorem tW {e:Expr}{f:EF}(h:ME X e f):MO X (some e) (pAt f):=fun pins s σ H Q I ⟨ρ,σd,hd,rs,pp⟩=>Hm h pins s σ H Q I ⟨ρ,σd,hd,rs,(aX.bind (R:=rD X.K) pp).imp fun v H1 ⟨ρ1,d,hd1,e1,rs1,rv,p1⟩=>by
  cases d<;>try exact p1.elim
  simp only [rD,RD] at rv
  exact⟨_,rv,p1.here rs1 rfl⟩⟩
theorem u0 {K:PySem.W.Frag}{ρ:List Addr}{H:Hp}{l:List D}{vs:List V}{lo hi:Option Int}(r:RDs K ρ H l vs):RDs K ρ H (cut l lo hi) (mj vs lo hi):=by
  have e:∀ (n d:Nat) (o:Option Int),Fm.sIx n d o=HT.sIx n d o:=fun n d o=>by cases o<;>rfl
  unfold cut mj
  rw [r.length,e,e]
  exact (r.drop _).take _
theorem oQ {a:Expr}{fa:EF}{lo hi:Option Expr}{fl fh:OF}{p2:Pos}(ha:ME X a fa)(hl:MO X lo fl)(hh:MO X hi fh):ME X (.Subscript a (.Slice lo hi none p2) pos) (gu fa fl fh):=by
  refine PE.imp (oA (SlR.or Ho EV) ha hl hh) fun σ H Q ⟨ρ,σd,hd,rs,pp⟩ => ?_
  unfold gu at pp
  refine⟨ρ,σd,hd,rs,(aX.bind (R:=rD X.K) pp).imp fun v H1 ⟨ρ1,d,hd1,e1,rs1,rv,p1⟩ => ?_⟩
  refine⟨ρ1,σd,hd1,rs1,(aX.bind (R:=rO) p1).imp fun o1 H2 ⟨ρ2,o1',hd2,e2,rs2,q2,p2⟩ => ?_⟩
  cases q2
  refine⟨ρ2,σd,hd2,rs2,(aX.bind (R:=rO) p2).imp fun o2 H3 ⟨ρ3,o2',hd3,e3,rs3,q3,p3⟩ => ?_⟩
  cases q3
  have rv3:=(rv.mono (rs1.hp.kp e2)).mono (rs2.hp.kp e3)
  have list:∀ l,eI hd3 d=some l→aX X.K (rD X.K) ρ3 H3 σd σ (.ok (.ref hd3.length) (hd3++[.lst (cut l o1 o2)])) Q→Lo X.K v o1 o2 H3 Q:=fun l c p=>by
    obtain⟨q,vs,hv,sq,rvs⟩:=nZ rs3.hp rv3 c
    refine⟨q,vs,hv,sq,fun q' hq => ?_⟩
    have sm:=ce (o:=HO.lst (mj vs o1 o2)) hq
    have nq:=rs3.hp.free hq
    have rh:=(rs3.hp.same sm).alloc a6 nq ((u0 rvs).mono (Kp.same sm))
    have ex:Ext ρ3 H3 (ρ3++[q']) (upd H3 q' (.lst (mj vs o1 o2))):=Ext.alloc hq
    refine p.at ex (rs3.ext ex rh) ?_
    simp only [rD,RD]
    exact⟨q',by rw [← rs3.hp.len];simp,rfl⟩
  cases d with
  | tup l =>
    simp only at p3
    split at p3
    · exact p3.elim
    · rename_i hw
      simp only [RD] at rv3
      obtain⟨q,vs,rfl,hq,rvs⟩:=rv3
      have e:∀ (n d:Nat) (o:Option Int),Fm.sIx n d o=HT.sIx n d o:=fun n d o=>by cases o<;>rfl
      refine .inr ⟨q,vs,rfl,SqT.of hq,by rw [← rvs.length,← e,← e];exact hw,fun q' hq' => ?_⟩
      have sm:=ce (o:=HO.tup (mj vs o1 o2)) hq'
      exact p3.at (Ext.same sm) (rs3.same sm) (by simp only [rD,RD];exact⟨q',_,rfl,a6,(u0 rvs).mono (Kp.same sm)⟩)
  | ref n =>
    simp only at p3
    cases c:eI hd3 (.ref n) with
    | none=>rw [c] at p3;exact p3.elim
    | some l=>rw [c] at p3;exact .inl (list l c p3)
  | lit l' =>
    simp only at p3
    cases c:eI hd3 (.lit l') with
    | none=>rw [c] at p3;exact p3.elim
    | some l=>rw [c] at p3;exact .inl (list l c p3)
  | _=>exact p3.elim
theorem mr {o e:Expr} {fo fe:EF} {apos cpos:Pos} (ho:ME X o fo) (he:ME X e fe) (hbase:attributeBase o "append" X.env (eval o X.env)=eval o X.env:=by rfl)
    (hfew:((backTo cpos (starEach [e] X.env)).all (fun x => !x.1) && (backToKw cpos (keywordEach [] X.env)).all (fun x=>x.1.isSome)
      && decide (([e] : List Expr).length + ([] : List Keyword).length + (if ([] : List Keyword).isEmpty then 0 else 1) < 30))=true:=by rfl)
    (hline:(apos.endLine == cpos.line)=true:=by rfl) (hs:starEach [e] X.env=(false,eval e X.env) :: starEach [] X.env:=by rfl) :
    ME X (.Call (.Attribute o "append" apos) [e] [] cpos) (kB fo fe):=by
  refine PE.imp (oC PySem.F.plainAttrs_list PySem.F.slot_list_append PySem.F.type_list_append tP ho (bz he cR hs) hbase hfew hline hs) fun σ H Q ⟨ρ,σd,hd,rs,pp⟩=>⟨ρ,σd,hd,rs,?_⟩
  unfold kB at pp
  refine (aX.bind (R:=rD X.K) pp).imp fun v H1 ⟨ρ1,d,hd1,e1,rs1,rv,p1⟩ => ?_
  cases d<;>try exact p1.elim
  rename_i n
  simp only [rD,RD] at rv
  obtain⟨a,ha,rfl⟩:=rv
  simp only at p1
  cases c1:hd1[n]? with
  | none=>rw [c1] at p1;exact p1.elim
  | some cell1 =>
    rw [c1] at p1
    cases cell1 with
    | dct l=>exact p1.elim
    | lst l1 =>
      obtain⟨vs,hv,_⟩:=rs1.hp.cel n _ a c1 ha
      simp only at p1
      refine⟨.inl ⟨rfl,vs,SqL.of hv⟩,ρ1,σd,hd1,rs1,(aX.bind (R:=rD X.K) p1).imp fun w H2 ⟨ρ2,k,hd2,e2,rs2,rw',p2⟩ => ?_⟩
      simp only [Ju] at p2
      cases c:hd2[n]? with
      | none=>rw [c] at p2;exact p2.elim
      | some cell =>
        rw [c] at p2
        cases cell with
        | dct l=>exact p2.elim
        | lst l =>
          simp only at p2
          split at p2
          · rename_i hz
            have ha2:=e2.get ha
            obtain⟨vs2,hv2,rvs2⟩:=rs2.hp.cel n _ a c ha2
            refine⟨a,vs2,w,rfl,rfl,hv2,?_,?_⟩
            · rw [← rvs2.length];exact Nat.lt_of_lt_of_le hz (by rw [sizeLine_eq];decide)
            · have hn:n < hd2.length:=(List.getElem?_eq_some_iff.mp c).1
              have rh:=rs2.hp.write ha2 hn (RDs.append rvs2 (RDs.cons rw' RDs.nil))
              have ex:Ext ρ2 H2 ρ2 (upd H2 a (.lst (vs2++[w]))):=Ext.write (List.mem_of_getElem? ha2)
              exact p2.at ex (rs2.ext ex rh) (by simp only [rD,RD])
          · exact p2.elim
end
end Fm
set_option Elab.async false
set_option linter.all false
set_option maxRecDepth 100000
namespace Fm
open PySem PySem.Spec L2
open AutoSeq1 (wpAny_loadPart')
open PyProof.Rows (Call_)
section
variable {prog:Program} {w:World} {A:Around} {E:Value→Shared→Prop} {s:Shared}
end
section
variable {X:Cx} {pos p tp:Pos} {elts:List Expr} {tk:Nat}
end
end Fm
set_option Elab.async false
set_option linter.all false
set_option maxRecDepth 100000
namespace Fm
open PySem PySem.Spec L2 PySem.W PyProof.Rows
section
variable {prog:Program} {w:World} {A:Around} {E:Value→Shared→Prop} {s:Shared}
theorem oR {a:Addr} {vs:List Value} {n:Nat} {P:PySem.Fin→Shared→Prop} (ho:s.heap.get? a=some (seqObj "list" vs.toArray n)) (h2:vs.length < 2)
    (h:P (.done (.ret .none)) { s with heap:=sortedHeap s.heap a vs vs.toArray }):wpAny (model prog w) A (Builtin.«list.sort» ⟨[.ref a],[]⟩) P E s:=by
  rw [list_sort_plain]
  have ha:a < s.heap.objs.size:=Heap.lt_size ho
  refine wpAny_bind (listItems_at ho rfl ?_)
  refine wpAny_bind (listUpdate_at ho rfl ?_)
  obtain⟨e1,ho1⟩ : ∃ e1,(s.heap.update a (Obj.mapSeq fun _ => #[])).get? a=some (seqObj "list" #[] e1):=⟨_,get?_update_seq ho (fun _ => #[])⟩
  refine wpAny_bind (seqEpoch_at ho1 rfl ?_)
  refine wpAny_bind (wpAny_newTuple ?_)
  refine wpAny_bind (wpAny_newList ?_)
  refine wpAny_holding ?_
  have ho6:(((s.heap.update a (Obj.mapSeq fun _ => #[])).push (seqObj "tuple" vs.toArray 0)).push (seqObj "list" #[] 0)).get? a=some (seqObj "list" #[] e1):=by
    rw [Heap.get?_push_ne _ _ _ (by rw [size_push',Heap.size_update];exact Nat.ne_of_lt (Nat.lt_succ_of_lt ha)),Heap.get?_push_ne _ _ _ (by rw [Heap.size_update];exact Nat.ne_of_lt ha)]
    exact ho1
  show wpAny (model prog w) A _ P E { s with heap:=((s.heap.update a (Obj.mapSeq fun _ => #[])).push (seqObj "tuple" vs.toArray 0)).push (seqObj "list" #[] 0) }
  dsimp only
  have hsz:vs.toArray.size=vs.length:=by simp
  have h2':vs.toArray.size < 2:=by rw [hsz];exact h2
  rw [if_pos h2',if_pos h2']
  refine wpAny_bind (wpAny_pure ?_)
  rw [StateT.run_pure]
  refine wpAny_bind (wpAny_pure ?_)
  dsimp only
  refine wpAny_bind (seqEpoch_at ho6 rfl ?_)
  refine wpAny_bind (listUpdate_at ho6 rfl ?_ (hsz2:=by rw [Array.size_map];show (pairsOf vs).size≤_;rw [pairsOf_size,sizeLine_eq];omega))
  simp only [bne_self_eq_false,Bool.false_eq_true,if_false]
  have e:(arrOf (SortSt.mk' general' (vs.toArray.zip vs.toArray) #[] 7 none)).map (·.2)=vs.toArray:=by
    show (vs.toArray.zip vs.toArray).map (·.2)=vs.toArray
    apply Array.ext
    · simp
    · intro i h1 h2
      simp
  refine wpAny_pure ?_
  have h':=h
  unfold sortedHeap at h'
  rw [e]
  exact h'
theorem u4 {l:Addr}{vs:List Value}{Q:Value→Shared→Prop}(hl:s.heap.IsList l vs.toArray)(h2:vs.length < 2)
    (h:∀ h' n,(∀ b o,s.heap.get? b=some o→h'.get? b=some o)→h'.get? (s.heap.objs.size + 1)=some (seqObj "list" vs.toArray n)→Q (.ref (s.heap.objs.size + 1)) { s with heap:=h' }) :
    wpAny (model prog w) A (call (.builtin "sorted") [.ref l]) Q E s:=by
  refine Calls.call_function_entry kind_sorted plain_sorted entry_sorted (args_sorted1 _) ?_
  unfold Builtin.«sorted»
  refine wpAny_bind (m:=checkCount "sorted" 1 1 _) (wpAny_pure ?_)
  refine wpAny_bind (collect_list hl ?_ (by rw [sizeLine_eq];omega))
  refine wpAny_bind (wpAny_newList ?_ (by rw [sizeLine_eq];omega))
  have hsz:((s.heap.push (seqObj "list" #[] 0)).update s.heap.objs.size (Obj.mapSeq (· ++ vs.toArray))).objs.size=s.heap.objs.size + 1:=by
    rw [Heap.size_update,size_push']
  have hoL:(((s.heap.push (seqObj "list" #[] 0)).update s.heap.objs.size (Obj.mapSeq (· ++ vs.toArray))).push (seqObj "list" vs.toArray 0)).get? (s.heap.objs.size + 1)=some (seqObj "list" vs.toArray 0):=by
    rw [← hsz];exact Heap.get?_push_size _ rfl
  have keep:∀ b o,s.heap.get? b=some o→(((s.heap.push (seqObj "list" #[] 0)).update s.heap.objs.size (Obj.mapSeq (· ++ vs.toArray))).push (seqObj "list" vs.toArray 0)).get? b=some o:=fun b o q=>by
    have hlt:b < s.heap.objs.size:=Heap.lt_size q
    rw [Heap.get?_push_ne _ _ _ (by rw [hsz];exact Nat.ne_of_lt (Nat.lt_succ_of_lt hlt)),Heap.get?_update_ne _ _ _ _ (Nat.ne_of_lt hlt),Heap.get?_push_ne _ _ _ (Nat.ne_of_lt hlt)]
    exact q
  show wpAny _ _ _ _ _ { s with heap:=((s.heap.push (seqObj "list" #[] 0)).update s.heap.objs.size (Obj.mapSeq (· ++ vs.toArray))).push (seqObj "list" vs.toArray 0) }
  rw [hsz]
  generalize hG:((s.heap.push (seqObj "list" #[] 0)).update s.heap.objs.size (Obj.mapSeq (· ++ vs.toArray))).push (seqObj "list" vs.toArray 0)=G at hoL keep
  have hGs:G.objs.size=s.heap.objs.size + 2:=by rw [← hG,size_push',hsz]
  refine wpAny_bind (wpAny_holding (wpAny_call_entry slot_list_sort (s:={ s with heap:=G }) ⟨_,hoL,rfl⟩ entry_list_sort (oR hoL h2 ⟨_,rfl,?_⟩) (args_list_sort _)))
  refine wpAny_pure ⟨_,rfl,?_⟩
  have hlt1:s.heap.objs.size + 1 < G.objs.size:=by omega
  obtain⟨e1,ho1⟩ : ∃ e1,(G.update (s.heap.objs.size + 1) (Obj.mapSeq fun _ => #[])).get? (s.heap.objs.size + 1)=some (seqObj "list" #[] e1):=⟨_,get?_update_seq hoL (fun _ => #[])⟩
  have ho6:(((G.update (s.heap.objs.size + 1) (Obj.mapSeq fun _ => #[])).push (seqObj "tuple" vs.toArray 0)).push (seqObj "list" #[] 0)).get? (s.heap.objs.size + 1)=some (seqObj "list" #[] e1):=by
    rw [Heap.get?_push_ne _ _ _ (by rw [size_push',Heap.size_update];exact Nat.ne_of_lt (Nat.lt_succ_of_lt hlt1)),Heap.get?_push_ne _ _ _ (by rw [Heap.size_update];exact Nat.ne_of_lt hlt1)]
    exact ho1
  refine h _ _ (fun b o q => ?_) (get?_update_seq ho6 _)
  have hlt:b < s.heap.objs.size:=Heap.lt_size q
  unfold sortedHeap
  have n1:b≠s.heap.objs.size + 1:=Nat.ne_of_lt (Nat.lt_succ_of_lt hlt)
  have n2:b < G.objs.size:=by rw [hGs];exact Nat.lt_succ_of_lt (Nat.lt_succ_of_lt hlt)
  rw [Heap.get?_update_ne _ _ _ _ n1,Heap.get?_push_ne _ _ _ (by rw [size_push',Heap.size_update];exact Nat.ne_of_lt (Nat.lt_succ_of_lt n2)),Heap.get?_push_ne _ _ _ (by rw [Heap.size_update];exact Nat.ne_of_lt n2),Heap.get?_update_ne _ _ _ _ n1]
  exact keep b o q
theorem Fi {Q:Bool→Shared→Prop}:∀ (ns ms:List Int) {xs ys:List Value} (i:Nat),IntsAre xs ns→IntsAre ys ms→Q (Fm.lexLt ns ms) s→KatLex prog w A true (decide (xs.length < ys.length)) Q (xs.zip ys) i s:=by
  intro ns
  induction ns with
  | nil =>
    intro ms xs ys i hx hy h
    cases hx
    cases ms with
    | nil=>cases hy;exact h
    | cons m ms =>
      cases hy
      have h':Q true s:=h
      exact h'
  | cons n ns ih =>
    intro ms xs ys i hx hy h
    cases hx with
    | cons _ t r =>
      cases ms with
      | nil =>
        cases hy
        have h':Q false s:=h
        exact h'
      | cons m ms =>
        cases hy with
        | cons _ t' r' =>
          rename_i xs ys
          refine kat_cons (SeqAt.EqAt.int_int n t m t' prog w _ _ ?_)
          by_cases e:n=m
          · subst e
            rw [show (n == n)=true by simp]
            refine kat_yes ?_
            have h':Q (Fm.lexLt ns ms) s:=by simpa [Fm.lexLt] using h
            have:=ih ms (i + 1) r r' h'
            have e2:decide ((Value.int n t :: xs).length < (Value.int n t' :: ys).length)=decide (xs.length < ys.length):=by simp
            rw [e2]
            exact this
          · rw [show (n == m)=false by simpa using e]
            refine kat_no ?_
            have h':Q (decide (n < m)) s:=by simpa [Fm.lexLt,e] using h
            cases i with
            | zero=>exact oneLt_int h'
            | succ i =>
              have:(true && (i + 1 == 0))=false:=by simp
              rw [this]
              exact kat_one _ _ (lt_int (by first|exact⟨_,rfl,h'⟩|exact h'))
end
theorem JL {h:Heap}{a:Addr}{m m':Str→Option Value}(x:h.Ns a m)(y:h.Ns a m'):m=m':=by
  obtain⟨o,es,ep,ho,hd,_,r⟩:=x
  obtain⟨o',es',ep',ho',hd',_,r'⟩:=y
  rw [ho] at ho';cases ho'
  rw [hd] at hd';cases hd'
  funext z
  rw [← r z,← r' z]
inductive bN (H:Hp):List V→List (List Int)→Prop
  | nil:bN H [] []
  | cons {a:Addr} {r:List Int} {vs:List V} {rs:List (List Int)}:H a=some (.tup (r.map V.int))→bN H vs rs→bN H (.ref a :: vs) (r :: rs)
theorem bN.get {H:Hp}:∀ {vs:List V} {rs:List (List Int)} {i:Nat} {v:V},bN H vs rs→vs[i]? = some v → ∃ a,v=.ref a∧H a=some (.tup ((rs.getD i []).map V.int))
  | _,_,_,_,.nil,e=>by simp at e
  | _,_,0,_,.cons h t,e=>by simp at e;subst e;exact⟨_,rfl,h⟩
  | _,_,i + 1,v,.cons h t,e=>by
    obtain⟨a,h1,h2⟩:=bN.get (i:=i) (v:=v) t (by simpa using e)
    exact⟨a,h1,by simpa using h2⟩
theorem bN.length {H:Hp}:∀ {vs:List V} {rs:List (List Int)},bN H vs rs→vs.length=rs.length
  | _,_,.nil=>rfl
  | _,_,.cons _ t=>by simp [bN.length t]
section
variable {X:Cx} {pos p:Pos}
theorem n3 {i:Int}{u:Value}(r:bq (.int i) u):∃ t,u=.int i t:=r
theorem yd {P:Program}{w:World}{H:Hp}{h h':Heap}(hok:HOk P w H h)(hk:∀ b o u,H b=some u→h.get? b=some o→h'.get? b=some o):∀ {vs:List V} {rs:List (List Int)} {its:List Value},bN H vs rs→aN vs its→(rs.all fun x => !x.isEmpty)=true →
    ∃ fs,KatTups h' its fs∧fs.length=its.length ∧ ∀ v∈fs,∃ i t,v=Value.int i t
  | _,_,_,.nil,.nil,_=>⟨[],.nil,rfl,fun v hv=>by simp at hv⟩
  | _,_,_,.cons (a:=a) (r:=r) ha t,.cons rv rt,hne=>by
    simp only [List.all_cons,Bool.and_eq_true,Bool.not_eq_true'] at hne
    obtain⟨fs,h1,h2,h3⟩:=yd hok hk t rt hne.2
    obtain⟨z,its0,r0,o,ho,hc,n,hd⟩:=hok a _ ha
    cases r with
    | nil=>simp at hne
    | cons i r =>
      cases r0 with
      | cons q0 qr =>
        rename_i u us
        obtain⟨tk,rfl⟩:=n3 q0
        cases rv
        refine⟨.int i tk :: fs,KatTups.cons (hk a o _ ha ho) hc hd (by simp) h1,by simp [h2],fun v hv => ?_⟩
        rcases List.mem_cons.mp hv with rfl|hv
        · exact⟨i,tk,rfl⟩
        · exact h3 v hv
theorem ye {K:PySem.W.Frag}{ρ:List Addr}{H:Hp}:∀ {l:List D} {vs:List V} {rs:List (List Int)},RDs K ρ H l vs→uS l=some rs→bN H vs rs
  | [],_,_,r,e=>by simp only [uS] at e;cases e;simp only [RDs] at r;subst r;exact .nil
  | d :: l,_,rs,r,e=>by
    simp only [RDs] at r
    obtain⟨v,vs,rfl,h1,h2⟩:=r
    cases d<;>simp only [uS] at e<;>try (cases e;done)
    rename_i l1
    cases c1:gK l1 with
    | none=>rw [c1] at e;cases e
    | some is =>
      cases c2:uS l with
      | none=>rw [c1,c2] at e;cases e
      | some r2 =>
        rw [c1,c2] at e
        cases e
        simp only [RD] at h1
        obtain⟨p,ws,rfl,hp,rws⟩:=h1
        have:=kE rws c1
        subst this
        exact .cons hp (ye h2 c2)
end
end Fm
set_option Elab.async false
set_option linter.all false
set_option maxRecDepth 100000
namespace Fm
open PySem PySem.Spec L2
section
variable {X:Cx}
theorem mv (i:Nat) {x:Str} {pos:Pos} (hN:X.N[i]? = some x:=by rfl) (hv:Vis X.env.scope x:=by first|exact Or.inl rfl|exact Or.inr (Or.inl rfl)|exact Or.inr (Or.inr rfl)) (hd:(x == ("__debug__" : Str))=false:=by decide)
    (hcd:(x == ("__classdict__" : Str))=false:=by decide):ME X (.Name x pos) (aa i):=Jv hN hv hd hcd
end
theorem dU {k:Nat}{A:Around}(r:gs k A):A.units + 24 < cLine:=by have:=r.un;omega
def aH (X:Cx):List (Str × NameKind)→Prop
  | []=>True
  | y :: r=>(y.2=.free→X.env.kindOf y.1=some .cell∨X.env.kindOf y.1=some .free)∧aH X r
def bS (X:Cx) (scope:Scope):List Str→List Nat→Prop
  | [],[]=>True
  | x :: xs,i :: is=>(X.N[i]? = some x∧scope.names.lookup x=some .free)∧bS X scope xs is
  | _,_=>False
theorem aH.get {X:Cx}:∀ {l:List (Str × NameKind)},aH X l → ∀ y∈l,y.2=.free→X.env.kindOf y.1=some .cell∨X.env.kindOf y.1=some .free
  | [],_,y,hy=>by simp at hy
  | z :: r,h,y,hy=>by
    rcases List.mem_cons.mp hy with rfl|hy
    · exact h.1
    · exact aH.get h.2 y hy
theorem bS.get {X:Cx}{scope:Scope}:∀ {capn:List Str} {caps:List Nat},bS X scope capn caps→(∀ (j:Nat) x,capn[j]? = some x → ∃ i,caps[j]? = some i∧X.N[i]? = some x∧scope.names.lookup x=some .free)∧capn.length=caps.length
  | [],[],_=>⟨fun j x e=>by simp at e,rfl⟩
  | x :: xs,i :: is,h=>by
    obtain⟨h1,h2⟩:=bS.get h.2
    refine⟨fun j y e => ?_,by simp [h2]⟩
    cases j with
    | zero=>simp at e;subst e;exact⟨i,rfl,h.1⟩
    | succ j=>exact h1 j y (by simpa using e)
  | [],_ :: _,h=>h.elim
  | _ :: _,[],h=>h.elim
theorem aH.nil {X:Cx}:aH X []:=trivial
theorem aH.cons {X:Cx}{y:Str × NameKind}{r:List (Str × NameKind)}(h:y.2=.free→X.env.kindOf y.1=some .cell∨X.env.kindOf y.1=some .free)(t:aH X r):aH X (y :: r):=⟨h,t⟩
theorem bS.nil {X:Cx}{scope:Scope}:bS X scope [] []:=trivial
theorem bS.cons {X:Cx}{scope:Scope}{x:Str}{xs:List Str}{i:Nat}{is:List Nat}(h1:X.N[i]? = some x)(h2:scope.names.lookup x=some .free)(t:bS X scope xs is):bS X scope (x :: xs) (i :: is):=⟨⟨h1,h2⟩,t⟩
theorem bG.mk' {X:Cx}{scope:Scope}{own capn:List Str}{caps:List Nat}(k:scope.kind=.function)(c:∀ y∈scope.names,y.2 ≠ .cell)(n:∀ y∈scope.names,y.2=.local→scope.names.lookup y.1=some .local)(f:aH X scope.names)(cp:bS X scope capn caps):bG X scope own capn caps :=
  ⟨k,c,n,f.get,cp.get.1,cp.get.2⟩
end Fm
set_option Elab.async false
set_option linter.all false
set_option maxRecDepth 100000
namespace Fm
open PySem PySem.Spec L2
section
variable {K:PySem.W.Frag} {ρ:List Addr} {H:Hp}
end
section
variable {X:Cx} {pos:Pos}
theorem Cy {i:Int}{j:Nat}{p2:Pos}:ME X (.UnaryOp .USub (.Constant (.int i) j p2) pos) (fC (.int (-i))) :=
  PE.imp (Lb Ji EE) fun σ H Q ⟨ρ,σd,hd,rs,p⟩=>⟨i,rfl,p.here rs (by simp only [rD,RD])⟩
end
end Fm
set_option Elab.async false
set_option linter.all false
set_option maxRecDepth 100000
namespace Fm
open PySem PySem.Spec L2 PySem.W PyProof.Rows
theorem JM {l r:Nat}(h:l < r):l≤(l + r) / 2∧(l + r) / 2 < r:=by omega
section
variable {cmp:Nat→Nat→(Bool→Shared→Prop)→Shared→Prop} {n:Nat} {s:Shared} {lt:Nat→Nat→Bool}
structure Ord (lt:Nat→Nat→Bool) (n:Nat):Prop where
  asy:∀ i j,i < n→j < n→lt i j=true→lt j i=false
  tr:∀ i j k,i < n→j < n→k < n→lt i j=true→lt j k=true→lt i k=true
  tot:∀ i j,i < n→j < n→i≠j→lt i j=false→lt j i=true
structure Gd (n:Nat) (p:Array Nat):Prop where
  sz:p.size=n
  pm:p.Perm (List.toArray (List.range n))
theorem Gd.below (g:Gd n p){i:Nat}(hi:i < n):p.getD i 0 < n:=by
  have h1:i < p.size:=by rw [g.sz];exact hi
  have e:p.getD i 0=p[i]:=by simp [Array.getD,h1]
  rw [e]
  have m:p[i]∈p.toList:=by simp
  have:=(Array.perm_iff_toList_perm.mp g.pm).mem_iff.mp m
  simpa using this
theorem Gd.ne (g:Gd n p){i j:Nat}(hi:i < n)(hj:j < n)(h:i≠j):p.getD i 0≠p.getD j 0:=by
  have h1:i < p.size:=by rw [g.sz];exact hi
  have h2:j < p.size:=by rw [g.sz];exact hj
  have e:p.getD i 0=p[i]:=by simp [Array.getD,h1]
  have e':p.getD j 0=p[j]:=by simp [Array.getD,h2]
  rw [e,e']
  have nd:p.toList.Nodup:=(Array.perm_iff_toList_perm.mp g.pm).nodup_iff.mpr (by simpa using List.nodup_range)
  intro z
  have:=(List.getElem_inj (xs:=p.toList) nd (i:=i) (j:=j) (h₀ := by simpa using h1) (h₁ := by simpa using h2)).mp (by simpa using z)
  exact h this
def Srt (lt:Nat→Nat→Bool) (p:Array Nat) (m:Nat):Prop:=∀ i j,i < j→j < m→lt (p.getD i 0) (p.getD j 0)=true
def Dsc (lt:Nat→Nat→Bool) (p:Array Nat) (m:Nat):Prop:=∀ i j,i < j→j < m→lt (p.getD j 0) (p.getD i 0)=true
theorem fZ:Gd n (List.toArray (List.range n)):=⟨by simp,Array.Perm.refl _⟩
theorem Srt.next {p:Array Nat}{m:Nat}(O:Ord lt n)(g:Gd n p)(h:Srt lt p m)(h1:1≤m)(hm:m < n)(c:lt (p.getD (m - 1) 0) (p.getD m 0)=true):Srt lt p (m + 1):=by
  intro i j hij hj
  by_cases e:j < m
  · exact h i j hij e
  · have:j=m:=by omega
    subst this
    by_cases e2:i=j - 1
    · subst e2;exact c
    · exact O.tr _ _ _ (g.below (by omega)) (g.below (by omega)) (g.below hm) (h i (j - 1) (by omega) (by omega)) c
theorem Dsc.next {p:Array Nat}{m:Nat}(O:Ord lt n)(g:Gd n p)(h:Dsc lt p m)(h1:1≤m)(hm:m < n)(c:lt (p.getD m 0) (p.getD (m - 1) 0)=true):Dsc lt p (m + 1):=by
  intro i j hij hj
  by_cases e:j < m
  · exact h i j hij e
  · have:j=m:=by omega
    subst this
    by_cases e2:i=j - 1
    · subst e2;exact c
    · exact O.tr _ _ _ (g.below hm) (g.below (by omega)) (g.below (by omega)) c (h i (j - 1) (by omega) (by omega))
variable (O:Ord lt n) (hc:∀ i j,i < n→j < n → ∀ C:Bool→Shared→Prop,C (lt i j) s→cmp i j C s)
include O hc
theorem kb {p:Array Nat}(g:Gd n p){Q:Nat→Shared→Prop}(q:∀ m,1≤m→m≤n→Srt lt p m→(m < n→lt (p.getD m 0) (p.getD (m - 1) 0)=true)→Q m s) :
    ∀ (f m:Nat),1≤m→m + f=n→Srt lt p m→(kas_asc p f m).kasWp cmp Q s
  | 0,m,h1,e,h=>q m h1 (by omega) h fun z=>by omega
  | f + 1,m,h1,e,h=>by
    refine hc _ _ (g.below (by omega)) (g.below (by omega)) _ ?_
    cases c:lt (p.getD m 0) (p.getD (m - 1) 0) with
    | true=>((try dsimp only);(try rw [if_pos rfl]));exact q m h1 (by omega) h fun _=>c
    | false =>
      ((try dsimp only);(try rw [if_neg Bool.false_ne_true]))
      have c':=O.tot _ _ (g.below (by omega)) (g.below (by omega)) (g.ne (i:=m) (j:=m - 1) (by omega) (by omega) (by omega)) c
      exact kb g q f (m + 1) (by omega) (by omega) (h.next O g h1 (by omega) c')
theorem nn {p:Array Nat}(g:Gd n p){Q:Array Nat × Nat × Nat→Shared→Prop}(q:∀ m,1≤m→m≤n→Dsc lt p m→Q (p,m,0) s) :
    ∀ (f m:Nat),1≤m→m + f=n→Dsc lt p m→(kas_desc f p m 0).kasWp cmp Q s
  | 0,m,h1,e,h=>q m h1 (by omega) h
  | f + 1,m,h1,e,h=>by
    refine hc _ _ (g.below (by omega)) (g.below (by omega)) _ ?_
    cases c:lt (p.getD m 0) (p.getD (m - 1) 0) with
    | true =>
      ((try dsimp only);(try rw [if_pos rfl]));(try rw [if_neg (by omega)])
      exact nn g q f (m + 1) (by omega) (by omega) (h.next O g h1 (by omega) c)
    | false =>
      ((try dsimp only);(try rw [if_neg Bool.false_ne_true]))
      have c':=O.tot _ _ (g.below (by omega)) (g.below (by omega)) (g.ne (i:=m) (j:=m - 1) (by omega) (by omega) (by omega)) c
      refine hc _ _ (g.below (by omega)) (g.below (by omega)) _ ?_
      rw [c'];((try dsimp only);(try rw [if_pos rfl]))
      exact q m h1 (by omega) h
omit hc in
theorem JN {p:Array Nat}(g:Gd n p){m:Nat}(hm:m≤n)(h:Dsc lt p m):Gd n (kas_rev p 0 m)∧Srt lt (kas_rev p 0 m) m:=by
  have at':∀ k,k < m→(kas_rev p 0 m).getD k 0=p.getD (m - 1 - k) 0:=fun k hk=>by
    have e:=getElem?_mirror_all (xs:=p) (i:=0) (j:=m) (by rw [g.sz];exact hm) k
    rw [if_pos ⟨Nat.zero_le _,hk⟩] at e
    unfold kas_rev
    rw [Array.getD_eq_getD_getElem?,Array.getD_eq_getD_getElem?,e,Nat.zero_add]
  refine⟨⟨by unfold kas_rev;rw [mirror_size,g.sz],(mirror_perm _ _ _ _).trans g.pm⟩,fun i j hij hj => ?_⟩
  rw [at' i (by omega),at' j hj]
  exact h _ _ (by omega) (by omega)
theorem u5 (h2:2≤n){Q:Nat × Array Nat→Shared→Prop}(q:∀ m p,Gd n p→1≤m→m≤n→Srt lt p m→Q (m,p) s):(kas_count n (List.toArray (List.range n))).kasWp cmp Q s:=by
  unfold kas_count
  rw [KasT.kasWp_bind]
  refine kb O hc fZ (fun m h1 hm hs hd => ?_) (n - 1) 1 (Nat.le_refl _) (by omega) (fun i j hij hj=>by omega)
  by_cases e:m=n
  · subst e
    rw [if_pos (by simp)]
    exact q m _ fZ h1 (Nat.le_refl _) hs
  · rw [if_neg (by simpa using e)]
    by_cases e1:m > 1
    · rw [if_pos e1]
      refine hc _ _ (fZ.below (by omega)) (fZ.below (by omega)) _ ?_
      have:=hs 0 (m - 1) (by omega) (by omega)
      rw [this];((try dsimp only);(try rw [if_pos rfl]))
      exact q m _ fZ h1 hm hs
    · rw [if_neg e1]
      have:m=1:=by omega
      subst this
      have c:=hd (by omega)
      unfold kas_descPart
      rw [KasT.kasWp_bind]
      refine nn O hc fZ (fun m h1 hm hs => ?_) (n - 2) 2 (by omega) (by omega) (fun i j hij hj => ?_)
      · rw [if_neg (by simp)]
        unfold kas_tail3
        rw [KasT.kasWp_bind]
        obtain⟨g',s'⟩:=JN O fZ hm hs
        exact kb O hc g' (fun m' h1' hm' hs' _=>q m' _ g' h1' hm' hs') (n - m) m h1 (by omega) s'
      · have hi:i=0:=by omega
        have hj:j=1:=by omega
        subst hi hj
        exact c
theorem ij {p:Array Nat}(g:Gd n p){k:Nat}(hk:k < n)(hs:Srt lt p k){Q:Nat→Shared→Prop}(q:∀ l,l≤k→(∀ i,i < l→lt (p.getD i 0) (p.getD k 0)=true)→(∀ i,l≤i→i < k→lt (p.getD k 0) (p.getD i 0)=true)→Q l s) :
    ∀ (f l r:Nat),r - l≤f→l≤r→r≤k→(∀ i,i < l→lt (p.getD i 0) (p.getD k 0)=true)→(∀ i,r≤i→i < k→lt (p.getD k 0) (p.getD i 0)=true)→(kas_place p k f l r).kasWp cmp Q s
  | 0,l,r,hf,hl,hr,a,b=>q l (Nat.le_trans hl hr) a fun i h1 h2=>b i (Nat.le_trans (Nat.le_of_sub_eq_zero (Nat.le_zero.mp hf)) h1) h2
  | f + 1,l,r,hf,hl,hr,a,b=>by
    unfold kas_place
    by_cases e:l ≥ r
    · rw [if_pos e]
      exact q l (Nat.le_trans hl hr) a fun i h1 h2=>b i (Nat.le_trans e h1) h2
    · rw [if_neg e]
      have lr:l < r:=Nat.not_le.mp e
      have hh:=JM lr
      generalize (l + r) / 2=M at hh
      have hm:M < k:=Nat.lt_of_lt_of_le hh.2 hr
      have hMn:M < n:=Nat.lt_trans hm hk
      refine hc _ _ (g.below hk) (g.below hMn) _ ?_
      cases c:lt (p.getD k 0) (p.getD M 0) with
      | true =>
        ((try dsimp only);(try rw [if_pos rfl]))
        refine ij g hk hs q f l M (Nat.le_of_lt_succ (Nat.lt_of_lt_of_le (Nat.sub_lt_sub_right hh.1 hh.2) hf)) hh.1 (Nat.le_of_lt hm) a fun i h1 h2 => ?_
        by_cases z:i=M
        · subst z;exact c
        · exact O.tr _ _ _ (g.below hk) (g.below hMn) (g.below (Nat.lt_trans h2 hk)) c (hs _ i (Nat.lt_of_le_of_ne h1 (Ne.symm z)) h2)
      | false =>
        ((try dsimp only);(try rw [if_neg Bool.false_ne_true]))
        have c':=O.tot _ _ (g.below hk) (g.below hMn) (g.ne (i:=k) (j:=M) hk hMn (Nat.ne_of_gt hm)) c
        refine ij g hk hs q f (M + 1) r (Nat.le_of_lt_succ (Nat.lt_of_lt_of_le (Nat.sub_lt_sub_left lr (Nat.lt_succ_of_le hh.1)) hf)) hh.2 hr (fun i h1 => ?_) b
        by_cases z:i=M
        · subst z;exact c'
        · have hi:i < M:=Nat.lt_of_le_of_ne (Nat.le_of_lt_succ h1) z
          exact O.tr _ _ _ (g.below (Nat.lt_trans hi hMn)) (g.below hMn) (g.below hk) (hs i _ hi hm) c'
theorem oS {Q:Array Nat→Shared→Prop}(q:∀ p,Gd n p→Srt lt p n→Q p s):∀ (f:Nat) (p:Array Nat) (k:Nat),Gd n p→k + f=n→Srt lt p k→(kas_bin f p k).kasWp cmp Q s
  | 0,p,k,g,e,h=>by
    have:k=n:=e
    subst this
    exact q p g h
  | f + 1,p,k,g,e,h=>by
    unfold kas_bin
    rw [KasT.kasWp_bind]
    have hk:k < n:=e ▸ Nat.lt_add_of_pos_right (Nat.succ_pos f)
    refine ij O hc g hk h (fun l hl a b => ?_) k 0 k (Nat.le_refl _) (Nat.zero_le _) (Nat.le_refl _) (fun i z=>absurd z (Nat.not_lt_zero _)) (fun i z z'=>absurd z' (Nat.not_lt.mpr z))
    have hks:k < p.size:=by rw [g.sz];exact hk
    have at':∀ i,(bubble p k (k - l)).getD i 0=if i=l then p.getD k 0 else if l < i∧i≤k then p.getD (i - 1) 0 else p.getD i 0:=fun i=>by
      have:=getElem?_bubble hks (k - l) (Nat.sub_le _ _) i
      rw [Nat.sub_sub_self hl] at this
      simp only [Array.getD_eq_getD_getElem?]
      rw [this]
      by_cases c1:i=l
      · rw [if_pos c1,if_pos c1]
      · rw [if_neg c1,if_neg c1]
        by_cases c2:l < i∧i≤k
        · rw [if_pos c2,if_pos c2]
        · rw [if_neg c2,if_neg c2]
    refine oS q f _ (k + 1) ⟨by rw [bubble_size,g.sz],(bubble_perm _ _ _).trans g.pm⟩ (by rw [Nat.add_right_comm];exact e) fun i j hij hj => ?_
    have jk:j≤k:=Nat.le_of_lt_succ hj
    have j1:j - 1 < k:=Nat.sub_one_lt_of_le (Nat.zero_lt_of_lt hij) jk
    rw [at' i,at' j]
    by_cases c1:i=l
    · have lj:l < j:=c1 ▸ hij
      rw [if_pos c1,if_neg (Nat.ne_of_gt lj),if_pos ⟨lj,jk⟩]
      exact b _ (Nat.le_sub_one_of_lt lj) j1
    · rw [if_neg c1]
      by_cases c2:l < i∧i≤k
      · have lj:l < j:=Nat.lt_trans c2.1 hij
        rw [if_pos c2,if_neg (Nat.ne_of_gt lj),if_pos ⟨lj,jk⟩]
        exact h _ _ (Nat.sub_lt_sub_right (Nat.zero_lt_of_lt c2.1) hij) j1
      · rw [if_neg c2]
        have il:i < l:=Nat.lt_of_le_of_ne (Nat.not_lt.mp fun z=>c2 ⟨z,Nat.le_trans (Nat.le_of_lt hij) jk⟩) c1
        by_cases c3:j=l
        · rw [if_pos c3];exact a _ il
        · rw [if_neg c3]
          by_cases c4:l < j∧j≤k
          · rw [if_pos c4]
            exact h _ _ (Nat.lt_of_lt_of_le il (Nat.le_sub_one_of_lt c4.1)) j1
          · rw [if_neg c4]
            have jl:j < l:=Nat.lt_of_le_of_ne (Nat.not_lt.mp fun z=>c4 ⟨z,jk⟩) c3
            exact h _ _ hij (Nat.lt_of_lt_of_le jl hl)
theorem yf (h2:2≤n){Q:Array Nat→Shared→Prop}(q:∀ p,Gd n p→Srt lt p n→Q p s):(kas_sort n).kasWp cmp Q s:=by
  unfold kas_sort
  rw [KasT.kasWp_bind]
  refine u5 O hc h2 fun m p g h1 hm hs => ?_
  by_cases e:m < n
  · rw [if_pos e]
    have:max m 1=m:=by omega
    show KasT.kasWp cmp (kas_bin (n - max m 1) p (max m 1)) Q s
    rw [this]
    exact oS O hc q (n - m) p m g (by omega) hs
  · rw [if_neg e]
    have:m=n:=by omega
    subst this
    exact q p g hs
end
end Fm
set_option linter.all false
namespace Fm
def u6 (x:List Int):List (List Int)→List (List Int)
  | []=>[x]
  | y :: r=>if lexLt x y=true then x :: y :: r else y :: u6 x r
def bw:List (List Int)→List (List Int)
  | []=>[]
  | x :: r=>u6 x (bw r)
def dG (r:List Int):D:=.tup (r.map .int)
theorem ik:∀ a,lexLt a a=false
  | []=>rfl
  | x :: a=>by simp [lexLt,ik a]
theorem fq:∀ {a b c},lexLt a b=true→lexLt b c=true→lexLt a c=true
  | [],[],_,h,_=>by simp [lexLt] at h
  | [],_ :: _,[],_,h=>by simp [lexLt] at h
  | [],_ :: _,_ :: _,_,_=>rfl
  | _ :: _,[],_,h,_=>by simp [lexLt] at h
  | _ :: _,_ :: _,[],_,h=>by simp [lexLt] at h
  | x :: a,y :: b,z :: c,h,h'=>by
    simp only [lexLt] at h h' ⊢
    by_cases e:x=y
    · subst e
      rw [if_pos rfl] at h
      by_cases e2:x=z
      · subst e2
        rw [if_pos rfl] at h' ⊢
        exact fq h h'
      · rw [if_neg e2] at h' ⊢;exact h'
    · rw [if_neg e] at h
      by_cases e2:y=z
      · subst e2
        rw [if_neg e];exact h
      · rw [if_neg e2] at h'
        simp at h h'
        rw [if_neg (by omega)]
        simp;omega
theorem gP:∀ {a b},a≠b→lexLt a b=false→lexLt b a=true
  | [],[],h,_=>absurd rfl h
  | [],_ :: _,_,h=>by simp [lexLt] at h
  | _ :: _,[],_,_=>rfl
  | x :: a,y :: b,h,h'=>by
    simp only [lexLt] at h' ⊢
    by_cases e:x=y
    · subst e
      rw [if_pos rfl] at h' ⊢
      exact gP (fun z=>h (by rw [z])) h'
    · rw [if_neg e] at h'
      rw [if_neg (Ne.symm e)]
      simp at h' ⊢;omega
theorem ja {a b:List Int}(h:lexLt a b=true):lexLt b a=false:=by
  cases c:lexLt b a with
  | false=>rfl
  | true=>have:=fq h c;rw [ik] at this;cases this
theorem mz (x:List Int):∀ r,(u6 x r).Perm (x :: r)
  | []=>.refl _
  | y :: r=>by
    simp only [u6]
    split
    · exact .refl _
    · exact ((mz x r).cons y).trans (.swap x y r)
theorem dI:∀ r,(bw r).Perm r
  | []=>.refl _
  | x :: r=>(mz x _).trans ((dI r).cons x)
theorem oT {x:List Int}:∀ {r:List (List Int)},x∉r→r.Pairwise (fun a b=>lexLt a b=true)→(u6 x r).Pairwise (fun a b=>lexLt a b=true)
  | [],_,_=>by simp [u6]
  | y :: r,hx,h=>by
    simp only [u6]
    have hy : ¬ x=y:=fun z=>hx (by simp [z])
    have hr:x∉r:=fun z=>hx (by simp [z])
    obtain⟨h1,h2⟩:=List.pairwise_cons.mp h
    split
    · rename_i c
      refine List.pairwise_cons.mpr ⟨fun b hb => ?_,h⟩
      rcases List.mem_cons.mp hb with rfl|hb
      · exact c
      · exact fq c (h1 b hb)
    · rename_i c
      have c':=gP hy (by simpa using c)
      refine List.pairwise_cons.mpr ⟨fun b hb => ?_,oT hr h2⟩
      rcases List.mem_cons.mp ((mz x r).mem_iff.mp hb) with rfl|hb
      · exact c'
      · exact h1 b hb
theorem eD:∀ {r:List (List Int)},r.Nodup→(bw r).Pairwise (fun a b=>lexLt a b=true)
  | [],_=>.nil
  | x :: r,h=>by
    obtain⟨h1,h2⟩:=List.nodup_cons.mp h
    exact oT (fun z=>h1 ((dI r).mem_iff.mp z)) (eD h2)
theorem mC {a b:List (List Int)}(p:a.Perm b)(ha:a.Pairwise (fun a b=>lexLt a b=true))(hb:b.Pairwise (fun a b=>lexLt a b=true)):a=b :=
  List.Perm.eq_of_pairwise (fun x y _ _ h h'=>by have:=ja h;rw [h'] at this;cases this) ha hb p
theorem yg (r:List (List Int)):uS (r.map dG)=some r:=by
  have hi:∀ l:List Int,gK (l.map .int)=some l:=fun l=>by
    induction l with
    | nil=>rfl
    | cons x l ih=>simp [gK,ih]
  induction r with
  | nil=>rfl
  | cons x r ih=>simp [uS,dG,hi] at ih ⊢;simp [ih]
end Fm
set_option Elab.async false
set_option linter.all false
set_option maxRecDepth 100000
namespace Fm
open PySem PySem.Spec L2 PySem.W PyProof.Rows
section
variable {X:Cx} {pos p:Pos}
theorem bN.rds {K:PySem.W.Frag}{ρ:List Addr}{H:Hp}:∀ {vs:List V} {rs:List (List Int)},bN H vs rs→RDs K ρ H (rs.map dG) vs
  | _,_,.nil=>RDs.nil
  | _,_,.cons (a:=a) (r:=r) h t=>by
    refine RDs.cons ?_ (bN.rds t)
    unfold dG
    simp only [RD]
    refine⟨a,_,rfl,h,?_⟩
    clear h
    induction r with
    | nil=>exact RDs.nil
    | cons x r ih=>exact RDs.cons (by simp only [RD]) ih
theorem bN.pick {H:Hp}{vs:List V}{rs:List (List Int)}(h:bN H vs rs):∀ (l:List Nat),(∀ i∈l,i < vs.length)→bN H (l.map fun i=>vs.getD i .non) (l.map fun i=>rs.getD i [])
  | [],_=>.nil
  | i :: l,hl=>by
    have hi:i < vs.length:=hl i (by simp)
    obtain⟨a,e,ha⟩:=h.get (i:=i) (v:=vs[i]) (by simp [hi])
    have t:=bN.pick h l fun j hj=>hl j (by simp [hj])
    have:vs.getD i .non=.ref a:=by simp [List.getD,hi,e]
    simp only [List.map_cons,this]
    exact .cons ha t
theorem aN.pick {vs:List V}{us:List Value}(h:aN vs us):∀ (l:List Nat),(∀ i∈l,i < vs.length)→aN (l.map fun i=>vs.getD i .non) (l.map fun i=>us.getD i Value.none)
  | [],_=>.nil
  | i :: l,hl=>by
    have hi:i < vs.length:=hl i (by simp)
    obtain⟨u,e,ru⟩:=h.get (i:=i) (x:=vs[i]) (by simp [hi])
    have t:=aN.pick h l fun j hj=>hl j (by simp [hj])
    simp only [List.map_cons]
    refine .cons ?_ t
    simp [List.getD,hi,e]
    exact ru
end
end Fm
set_option Elab.async false
set_option linter.all false
set_option maxRecDepth 100000
namespace Fm
open PySem PySem.Spec L2 PySem.W PyProof.Rows
section
variable {X:Cx} {pos p:Pos}
theorem RDs.rep {K:PySem.W.Frag}{ρ:List Addr}{H:Hp}{l:List D}{vs:List V}(r:RDs K ρ H l vs):∀ k,RDs K ρ H (List.replicate k l).flatten (List.replicate k vs).flatten
  | 0=>RDs.nil
  | k + 1=>by
    rw [List.replicate_succ,List.replicate_succ,List.flatten_cons,List.flatten_cons]
    exact RDs.append r (RDs.rep r k)
end
end Fm
set_option linter.all false
namespace Fm
@[simp] def tX:EF:=fun _ h=>.ok (.ref h.length) (h++[.dct []])
def oU (l:List (Int × D)) (k:Int):Option D:=(l.find? fun p=>decide (p.1=k)).map (·.2)
def AK (l:List (Int × D)) (k:Int) (v:D):List (Int × D):=if (l.any fun p=>decide (p.1=k))=true then l.map (fun p=>if p.1=k then (p.1,v) else p) else l++[(k,v)]
@[simp] def Dq:O2:=fun x y h=>match x,y with
  | .int k,.ref n=>match h[n]? with|some (.dct l)=>.ok (.bl (oU l k).isSome) h|_=>.bad
  | _,_=>.bad
@[simp] def oV (x i e:EF):SF:=fun σ h=>outE (e σ h) σ fun d h=>outE (x σ h) σ fun p h=>outE (i σ h) σ fun j h=>match p,j with
  | .ref n,.int k=>match h[n]? with
    | some (.dct l)=>if l.length < SZ then .nx σ (h.set n (.dct (AK l k d))) else .bad
    | _=>.bad
  | _,_=>.bad
def eE:List (Int × D)→Option (List (List Int))
  | []=>some []
  | (k,.int v) :: r=>(eE r).map fun l=>[k,v] :: l
  | _=>none
@[simp] def kc (a:EF):LF:=fun σ h=>(a σ h).bind fun x h=>match x with
  | .ref n=>match h[n]? with
    | some (.dct l)=>match eE l with
      | some r=>if r.length < 64∧r.Nodup then .ok ((bw r).map dG) h else .bad
      | none=>.bad
    | _=>.bad
  | _=>.bad
end Fm
set_option Elab.async false
set_option linter.all false
set_option maxRecDepth 100000
namespace L2
open PySem PySem.Spec PyProof.Rows
section
variable {κ : Type} [DecidableEq κ]
def iZ (kvs:List (κ × V)) (k : κ):Option V:=(kvs.find? fun kv=>decide (kv.1=k)).map (·.2)
def ke (kvs:List (κ × V)) (k : κ) (v:V):List (κ × V) :=
  if (kvs.any fun kv=>decide (kv.1=k))=true then kvs.map (fun kv=>if kv.1=k then (kv.1,v) else kv) else kvs++[(k,v)]
theorem oW {p : κ × V}{r:List (κ × V)}{k : κ}(e:p.1=k):iZ (p :: r) k=some p.2:=by simp [iZ,List.find?_cons,e]
theorem kI {p : κ × V}{r:List (κ × V)}{k : κ}(e : ¬ p.1=k):iZ (p :: r) k=iZ r k:=by simp [iZ,List.find?_cons,e]
theorem yh (k : κ):∀ kvs:List (κ × V),(kvs.any fun kv=>decide (kv.1=k))=(iZ kvs k).isSome
  | []=>rfl
  | p :: r=>by
    rw [List.any_cons]
    by_cases e:p.1=k
    · simp only [oW e,decide_eq_true e,Bool.true_or,Option.isSome_some]
    · rw [kI e,decide_eq_false e,Bool.false_or];exact yh k r
theorem nr (kvs:List (κ × V))(k : κ)(v:V):(ke kvs k v).length≤kvs.length + 1:=by
  unfold ke
  split
  · rw [List.length_map];omega
  · rw [List.length_append,List.length_cons,List.length_nil];omega
theorem C8.isSome_eq {o:Option V}{u:Option Value}(r:C8 o u):o.isSome=u.isSome:=by
  cases o with
  | none=>cases u with
    | none=>rfl
    | some _=>exact (show False from r).elim
  | some _=>cases u with
    | none=>exact (show False from r).elim
    | some _=>rfl
theorem KV.val {kvs:List (κ × V)}{vs:List (κ × Value)}(r:KV kvs vs)(k : κ):C8 (iZ kvs k) (valueAt vs k):=by
  unfold KV at r
  induction r with
  | nil=>exact True.intro
  | @cons p q ps qs h t ih =>
    obtain⟨h1,h2⟩:=h
    by_cases e:p.1=k
    · have e':q.1=k:=h1.symm.trans e
      have b:valueAt (q :: qs) k=some q.2:=by simp [valueAt,List.find?_cons,e']
      rw [oW e,b];exact h2
    · have e' : ¬ q.1=k:=fun z=>e (h1.trans z)
      have b:valueAt (q :: qs) k=valueAt qs k:=by simp [valueAt,List.find?_cons,e']
      rw [kI e,b];exact ih
theorem KV.any {kvs:List (κ × V)}{vs:List (κ × Value)}(r:KV kvs vs)(k : κ):(kvs.any fun kv=>decide (kv.1=k))=vs.any fun kv=>decide (kv.1=k):=by
  unfold KV at r
  induction r with
  | nil=>rfl
  | cons h t ih=>rw [List.any_cons,List.any_cons,ih,h.1]
theorem KV.repl {kvs:List (κ × V)}{vs:List (κ × Value)}(r:KV kvs vs)(k : κ){y:V}{u:Value}(ry:bq y u) :
    KV (kvs.map fun kv=>if kv.1=k then (kv.1,y) else kv) (vs.map fun kv=>if kv.1=k then (kv.1,u) else kv):=by
  unfold KV at r ⊢
  induction r with
  | nil=>exact .nil
  | @cons p q ps qs h t ih =>
    rw [List.map_cons,List.map_cons]
    refine .cons ?_ ih
    obtain⟨h1,h2⟩:=h
    by_cases e:p.1=k
    · rw [if_pos e,if_pos (h1.symm.trans e)];exact⟨h1,ry⟩
    · rw [if_neg e,if_neg (fun z=>e (h1.trans z))];exact⟨h1,h2⟩
theorem KV.put {kvs:List (κ × V)}{vs:List (κ × Value)}(r:KV kvs vs)(k : κ){y:V}{u:Value}(ry:bq y u):KV (ke kvs k y) (stored vs k u):=by
  unfold ke stored
  rw [r.any k]
  by_cases e:(vs.any fun kv=>decide (kv.1=k))=true
  · rw [if_pos e,if_pos e];exact r.repl k ry
  · rw [if_neg e,if_neg e];exact Paired.snoc r ⟨rfl,ry⟩
theorem KV.length {kvs:List (κ × V)}{vs:List (κ × Value)}(r:KV kvs vs):kvs.length=vs.length:=Paired.length r
end
theorem Fj {P:Program}{w:World}{k:Key}{u:Value}(r:bq (kV k) u):(cw P w).is k u=true:=by
  cases k with
  | inl i=>obtain⟨t,e⟩:=(show ∃ t,u=Value.int i t from r);subst e;exact xS P w i t
  | inr x=>obtain⟨t,e⟩:=(show ∃ t,u=Value.str x t from r);subst e;exact xT P w x t
theorem tY {P:Program}{w:World}:∀ {ks:List Key} {us:List Value},aN (ks.map kV) us→ItemsAre (cw P w) ks us
  | [],_,r=>by rw [List.map_nil] at r;cases r;exact .nil
  | k :: ks,_,r=>by
    rw [List.map_cons] at r
    cases r with
    | cons h t=>exact .cons (Fj h) (tY t)
abbrev KT (H:Hp):List (List Key × V)→List (List Key × Addr × Value)→Prop:=Paired fun p q=>p.1=q.1∧H q.2.1=some (.tup (p.1.map kV))∧bq p.2 q.2.2
theorem KT.val {H:Hp}{kvs:List (List Key × V)}{xs:List (List Key × Addr × Value)}(r:KT H kvs xs)(k:List Key):C8 (iZ kvs k) ((atKey xs k).map (·.2)):=by
  induction r with
  | nil=>exact True.intro
  | @cons p q ps qs h t ih =>
    obtain⟨h1,_,h2⟩:=h
    by_cases e:p.1=k
    · have e':q.1=k:=h1.symm.trans e
      have b:atKey (q :: qs) k=some q.2:=by simp [atKey,List.find?_cons,e']
      rw [oW e,b];exact h2
    · have e' : ¬ q.1=k:=fun z=>e (h1.trans z)
      have b:atKey (q :: qs) k=atKey qs k:=by simp [atKey,List.find?_cons,e']
      rw [kI e,b];exact ih
theorem KT.repl {H:Hp}{kvs:List (List Key × V)}{xs:List (List Key × Addr × Value)}(r:KT H kvs xs)(k:List Key){y:V}{u:Value}(ry:bq y u) :
    KT H (kvs.map fun kv=>if kv.1=k then (kv.1,y) else kv) (xs.map (putAt k u)):=by
  induction r with
  | nil=>exact .nil
  | @cons p q ps qs h t ih =>
    rw [List.map_cons,List.map_cons]
    refine .cons ?_ ih
    obtain⟨h1,h2,h3⟩:=h
    unfold putAt
    by_cases e:p.1=k
    · rw [if_pos e,if_pos (h1.symm.trans e)];exact⟨h1,h2,ry⟩
    · rw [if_neg e,if_neg (fun z=>e (h1.trans z))];exact⟨h1,h2,h3⟩
theorem KT.put {H:Hp}{kvs:List (List Key × V)}{xs:List (List Key × Addr × Value)}(r:KT H kvs xs)(k:List Key){b:Addr}{y:V}{u:Value}(hb:H b=some (.tup (k.map kV)))(ry:bq y u) :
    KT H (ke kvs k y) (storedH xs k b u):=by
  have e:(kvs.any fun kv=>decide (kv.1=k))=(atKey xs k).isSome:=by
    rw [yh,(r.val k).isSome_eq,Option.isSome_map]
  unfold ke storedH
  rw [e]
  by_cases q:(atKey xs k).isSome=true
  · rw [if_pos q,if_pos q];exact r.repl k ry
  · rw [if_neg q,if_neg q];exact Paired.snoc r ⟨rfl,hb,ry⟩
theorem KT.keeps {H H':Hp}{kvs:List (List Key × V)}{xs:List (List Key × Addr × Value)}(r:KT H kvs xs)(ht:∀ b ys,H b=some (.tup ys)→H' b=some (.tup ys)):KT H' kvs xs :=
  Paired.mapP r fun _ _ z=>⟨z.1,ht _ _ z.2.1,z.2.2⟩
section
variable {P:Program} {w:World} {H:Hp} {h:Heap} {a:Addr}
theorem II {u:HO}(ok:HOk P w H h)(e:Rd H a u):dE P w H h a u:=e.ok ok
theorem Fk {kvs:List (Key × V)}(ok:HOk P w H h)(e:Rd H a (.dK kvs)):kvs.length≤sizeLine∧(a == sysModules)=false ∧ ∃ vs,KV kvs vs∧h.DictOf (cw P w) a vs :=
  show dE P w H h a (.dK kvs) from II ok e
theorem Fl {kvs:List (Key × V)}(ok:HOk P w H h)(e:H a=some (.dK kvs)):kvs.length≤sizeLine∧(a == sysModules)=false ∧ ∃ vs,KV kvs vs∧h.DictOf (cw P w) a vs:=Fk ok (.inl e)
theorem AL {ks:List Key}(ok:HOk P w H h)(e:H a=some (.tup (ks.map kV))):(tupleKind (cw P w)).is h ks a:=by
  obtain⟨_,its,r,o,h1,h2,n,h3⟩:=(show dE P w H h a (.tup (ks.map kV)) from ok a _ e)
  exact⟨o,its.toArray,n,h1,h2,h3,by simpa using tY r⟩
theorem Fo {kvs:List (List Key × V)}(ok:HOk P w H h)(e:Rd H a (.dT kvs)):kvs.length≤sizeLine∧(a == sysModules)=false ∧
    ∃ xs,KT H kvs xs∧h.DictOfH (tupleKind (cw P w)) a xs:=by
  obtain⟨z,y,xs,r,o,es,ep,h1,h2,h3,h4,h5⟩:=(show dE P w H h a (.dT kvs) from II ok e)
  refine⟨z,y,xs,r,o,es,ep,h1,h2,h3,h4,fun x hx => ?_,h5⟩
  have all:∀ {l:List (List Key × V)} {m:List (List Key × Addr × Value)},KT H l m → ∀ x∈m,(tupleKind (cw P w)).is h x.1 x.2.1:=by
    intro l m q
    induction q with
    | nil=>intro x hx;exact nomatch hx
    | @cons p q ps qs hq t ih =>
      intro x hx
      rcases List.mem_cons.mp hx with e|hx
      · subst e
        exact AL ok (by rw [← hq.1];exact hq.2.1)
      · exact ih x hx
  exact all r x hx
theorem Ly {kvs:List (List Key × V)}(ok:HOk P w H h)(e:H a=some (.dT kvs)):kvs.length≤sizeLine∧(a == sysModules)=false ∧
    ∃ xs,KT H kvs xs∧h.DictOfH (tupleKind (cw P w)) a xs:=Fo ok (.inl e)
end
def Fp (H:Hp) (a:Addr) (y:V) (r:Option V):Prop :=
  (∃ kvs k,Rd H a (.dK kvs)∧y=kV k∧r=iZ kvs k) ∨ ∃ kvs k b,Rd H a (.dT kvs)∧y=.ref b∧H b=some (.tup (k.map kV))∧r=iZ kvs k
def Fq (H:Hp) (a:Addr) (y v:V) (H':Hp):Prop :=
  (∃ kvs k,H a=some (.dK kvs)∧y=kV k∧kvs.length < sizeLine∧H'=upd H a (.dK (ke kvs k v))) ∨
  ∃ kvs k b,H a=some (.dT kvs)∧y=.ref b∧H b=some (.tup (k.map kV))∧kvs.length < sizeLine∧H'=upd H a (.dT (ke kvs k v))
theorem Fp.k {H:Hp}{a:Addr}{kvs:List (Key × V)}{k:Key}(e:H a=some (.dK kvs)):Fp H a (kV k) (iZ kvs k):=.inl ⟨kvs,k,.inl e,rfl,rfl⟩
theorem Fq.k {H:Hp}{a:Addr}{kvs:List (Key × V)}{k:Key}{v:V}(e:H a=some (.dK kvs))(hl:kvs.length < sizeLine):Fq H a (kV k) v (upd H a (.dK (ke kvs k v))):=.inl ⟨kvs,k,e,rfl,hl,rfl⟩
section
variable {X:Cx} {pins:List (Addr × Obj)} {σ:St} {H:Hp} {s:Shared} {a:Addr} {y v:V} {u r:Value} {o:Option V} {A:Around} {E:Value→Shared→Prop}
theorem Inv.big (I:Inv X pins σ H s):sysModules < s.heap.objs.size:=by
  have h:mainGlobals < s.heap.objs.size:=(I.mod.glob.keeps I.bk).lt
  exact Nat.lt_trans (by decide) h
theorem Mr {Q:Value→Shared→Prop}(hu:A.units + 1 < cLine)(I:Inv X pins σ H s)(g:Fp H a y o)(ry:bq y u)(h:∀ s',Inv X pins σ H s'→Q (.bool o.isSome) s') :
    wpAny (model X.prog X.w) A (compareOp .In u (.ref a)) Q E s:=by
  rcases g with ⟨kvs,k,e,ey,l⟩|⟨kvs,k,b,e,ey,eb,l⟩
  · subst ey
    obtain⟨z,hd,vs,rel,dd⟩:=Fk I.hok e
    refine wpAny_in_of (Fj ry) hd dd.mapOf ?_
    rw [← (rel.val k).isSome_eq,← l]
    exact h _ (I.tok _)
  · subst ey
    cases (show u=Value.ref b from ry)
    obtain⟨z,hd,xs,rel,dd⟩:=Fo I.hok e
    refine wpAny_in_heap (tupleKind_room_in1 hu) (AL I.hok eb) hd dd ?_
    have q:=(rel.val k).isSome_eq
    rw [Option.isSome_map] at q
    rw [← q,← l]
    exact h _ (I.tok _)
theorem Cz {h':Heap}{t':Nat}{ob:HO}(I:Inv X pins σ H s)(mu:Mut (H a))(hs:Heap.SameBut a s.heap h')(he:∃ q,h'.get? a=some q)(new:dE X.prog X.w (upd H a ob) h' a ob) :
    Inv X pins σ (upd H a ob) { s with heap:=h',toks:=t' } :=
  I.write (x:=a) (e:=a) mu (.inl rfl) (fun b q hb z=>(hs.2 b hb).trans z) he new
theorem JO {P:Program}{w:World}{H':Hp}{h':Heap}{kvs:List (Key × V)}{vs:List (Key × Value)}(z:kvs.length≤sizeLine)(hd:(a == sysModules)=false)(rel:KV kvs vs)(dd:h'.DictOf (cw P w) a vs) :
    dE P w H' h' a (.dK kvs):=⟨z,hd,vs,rel,dd⟩
theorem Dr {H':Hp}{Q:Unit→Shared→Prop}(hu:A.units + 1 < cLine)(I:Inv X pins σ H s)(g:Fq H a y v H')(ry:bq y u)(rv:bq v r)(h:∀ s',Inv X pins σ H' s'→Q () s') :
    wpAny (model X.prog X.w) A (setItem (.ref a) u r) Q E s:=by
  rcases g with ⟨kvs,k,e,ey,l,eH⟩|⟨kvs,k,b,e,ey,eb,l,eH⟩
  · subst ey eH
    obtain⟨z,hd,vs,rel,dd⟩:=Fl I.hok e
    have hz:vs.length≤sizeLine:=by rw [← rel.length];exact z
    have hl:(ke kvs k v).length≤sizeLine:=by have:=nr kvs k v;omega
    refine wpAny_setItem_pairs (hsz:=hz) (Fj ry) dd fun h' dd' hs=>h _ ?_
    have he:∃ q,h'.get? a=some q:=let ⟨q,_,_,hq,_⟩:=dd';⟨q,hq⟩
    exact Cz I (by rw [e];exact True.intro) hs he (JO hl hd (rel.put k rv) dd')
  · subst ey eH
    cases (show u=Value.ref b from ry)
    obtain⟨z,hd,xs,rel,dd⟩:=Ly I.hok e
    have hz:xs.length≤sizeLine:=by rw [← Paired.length rel];exact z
    have hl:(ke kvs k v).length≤sizeLine:=by have:=nr kvs k v;omega
    refine wpAny_setItem_heap (hsz:=hz) (tupleKind_room_in1 hu) (AL I.hok eb) dd fun h' dd' hs=>h _ ?_
    obtain⟨q,es,ep,hq,h2,h3,h4,_,h5⟩:=dd'
    refine Cz I (by rw [e];exact True.intro) hs ⟨q,hq⟩ ⟨hl,hd,_,(rel.put k eb rv).keeps fun c ys ec => ?_,q,es,ep,hq,h2,h3,h4,h5⟩
    rw [aI (Iz ec e (fun z=>nomatch z))]
    exact ec
end
section
variable {X:Cx} {pins:List (Addr × Obj)} {σ:St} {H:Hp} {s:Shared} {a:Addr} {kvs:List (Key × V)} {k:Key} {u:Value} {A:Around} {E:Value→Shared→Prop}
end
def Lz (i:Expr):Prop:=∀ ov iv,subscripted i false ov iv=operate [ov,iv] (getItem ov iv)
theorem HD {prog:Program}{w:World}{A:Around}{E:Value→Shared→Prop}{s:Shared}{env:Env}{value slice:Expr}{pos:Pos}{T id:String}{Q:Value→Shared→Prop}
    (hl:typeLookup (.type T) "__getitem__" = pure (some (.builtin id))) (hs:Lz slice)
    (h:wpAny (model prog w) A (eval value env) (fun o s₁ => wpAny (model prog w) A (eval slice env) (fun i s₂ => s₂.TypeIs o T∧wpAny (model prog w) A (getItem o i) Q E s₂) E s₁) E s) :
    wpAny (model prog w) A (eval (.Subscript value slice pos) env) Q E s:=by
  refine Subscript_ (wpAny_mono h (fun o s₁ h₁ => wpAny_mono h₁ (fun i s₂ h₂ => ?_) fun _ _ x=>x) fun _ _ x=>x)
  obtain⟨hT,h₂⟩:=h₂
  unfold subscriptTail
  refine wpAny_bind ?_
  rw [getitemInPython_of_ne hT.not_modules]
  refine wpAny_bind (wpAny_specialOf hT hl ?_)
  have fin:wpAny (model prog w) A (subscripted slice false o i) (fun r s₃ => wpAny (model prog w) A (letTemporaryGo value o r >>= fun _=>pure r) Q E s₃) E s₂ := by
    rw [hs o i]
    exact wpAny_operating (wpAny_mono h₂ (fun r s₃ h₃ => wpAny_bind (wpAny_letTemporaryGo (wpAny_pure h₃))) fun _ _ x=>x)
  first
    | exact wpAny_pure (wpAny_bind fin)
    | exact wpAny_bind (wpAny_pure (wpAny_bind fin))
    | exact wpAny_bind fin
section
variable {X:Cx} {o i e value:Expr} {pos pos' tpos:Pos} {td ty tv:TE}
end
theorem Fs {P:Program} {w:World} {H:Hp} (h:Heap) (hb:sysModules < h.objs.size):dE P w H (h.push { cls:=.type "dict",data:=.dict #[] }) h.objs.size (.dK []) :=
  ⟨Nat.zero_le _,beq_eq_false_iff_ne.mpr (Ne.symm (Nat.ne_of_lt hb)),[],.nil,Heap.DictOf.new h⟩
def JP:TE:=fun _ H Q=>∀ p,H p=none→Q (.ref p) (upd H p (.dK []))
section
variable {X:Cx} {pos:Pos}
theorem Ft:PE X (.Dict [] [] pos) JP:=fun pins s σ H Q I h =>
  wpAny_Dict_empty ⟨.ref s.heap.objs.size,_,I.laid (a:=s.heap.objs.size) (o:=.dK []) (t':=s.toks) (fun _ _ q=>Heap.get?_push_of_some _ q) (Nat.le_refl _) (Fs s.heap I.big),rfl,h _ (I.hok.fresh (Nat.le_refl _))⟩
end
structure M1 (X:Cx) (o:Expr) (m:Str) (apos:Pos) (e:Expr) (cpos:Pos):Prop where
  base:attributeBase o m X.env (eval o X.env)=eval o X.env
  few:((backTo cpos (starEach [e] X.env)).all (fun x => !x.1) && (backToKw cpos (keywordEach [] X.env)).all (fun x=>x.1.isSome)
    && decide (([e] : List Expr).length + ([] : List Keyword).length + (if ([] : List Keyword).isEmpty then 0 else 1) < 30))=true
  line:(apos.endLine == cpos.line)=true
  trees:backTo cpos (starEach [e] X.env)=[(false,eval e X.env)]
structure M2 (X:Cx) (o:Expr) (m:Str) (apos:Pos) (e f:Expr) (cpos:Pos):Prop where
  base:attributeBase o m X.env (eval o X.env)=eval o X.env
  few:((backTo cpos (starEach [e,f] X.env)).all (fun x => !x.1) && (backToKw cpos (keywordEach [] X.env)).all (fun x=>x.1.isSome)
    && decide (([e,f] : List Expr).length + ([] : List Keyword).length + (if ([] : List Keyword).isEmpty then 0 else 1) < 30))=true
  line:(apos.endLine == cpos.line)=true
  trees:backTo cpos (starEach [e,f] X.env)=[(false,eval e X.env),(false,eval f X.env)]
def IsD (H:Hp) (a:Addr):Prop:=(∃ kvs,Rd H a (.dK kvs)) ∨ ∃ kvs,Rd H a (.dT kvs)
theorem JQ {X:Cx}{pins:List (Addr × Obj)}{σ:St}{H:Hp}{s:Shared}{a:Addr}(I:Inv X pins σ H s)(d:IsD H a) :
    s.TypeIs (.ref a) "dict" ∧ (∀ b,Value.ref a=.ref b → ∃ ob,s.heap.get? b=some ob∧ob.dict=none)∧(a == sysModules)=false:=by
  rcases d with ⟨kvs,e⟩|⟨kvs,e⟩
  · obtain⟨_,hd,vs,_,dd⟩:=Fk I.hok e
    refine⟨dd.typeIs,fun b q => ?_,hd⟩
    cases q
    obtain⟨ob,_,_,h1,h2,_⟩:=dd
    exact⟨ob,h1,h2.2.1⟩
  · obtain⟨_,hd,xs,_,dd⟩:=Fo I.hok e
    refine⟨dd.typeIs,fun b q => ?_,hd⟩
    cases q
    obtain⟨ob,_,_,h1,h2,_⟩:=dd
    exact⟨ob,h1,h2.2.1⟩
section
variable {X:Cx} {pins:List (Addr × Obj)} {σ:St} {H:Hp} {s:Shared} {a:Addr} {y d:V} {u r:Value} {o:Option V} {A:Around} {E:Value→Shared→Prop}
end
section
variable {X:Cx} {o e f:Expr} {apos cpos:Pos} {td ty tx:TE}
end
section
variable {X:Cx} {pins:List (Addr × Obj)} {σ:St} {H:Hp} {s:Shared} {a:Addr} {kvs:List (Key × V)} {A:Around} {E:Value→Shared→Prop}
end
section
variable {X:Cx} {pins:List (Addr × Obj)} {σ:St} {H:Hp} {s:Shared} {a:Addr} {y:V} {u:Value} {A:Around} {E:Value→Shared→Prop}
end
end L2
set_option Elab.async false
set_option linter.all false
set_option maxRecDepth 100000
namespace Fm
open PySem PySem.Spec L2 PySem.W PyProof.Rows
section
variable {K:PySem.W.Frag} {ρ:List Addr} {H:Hp} {hd:Hd}
theorem RH.allocD (r:RH K ρ H hd){p:Addr}{l:List (Int × D)}(hp:RC K ρ H (.dct l) p)(hn:p ∉ ρ):RH K (ρ ++ [p]) H (hd++[.dct l]):=by
  have k:Kp ρ H (ρ ++ [p]) H:=⟨fun n a e=>by rw [List.getElem?_append_left (List.getElem?_eq_some_iff.mp e).1];exact e,fun _ _ h=>h,fun _ _ _ h=>h,fun _ _ h=>h⟩
  refine⟨by simp [r.len],?_,fun n c a h1 h2 => ?_⟩
  · rw [List.nodup_append]
    exact⟨r.nd,by simp,fun a ha b hb=>by simp at hb;subst hb;intro e;subst e;exact hn ha⟩
  · by_cases hlt:n < hd.length
    · rw [List.getElem?_append_left hlt] at h1
      rw [List.getElem?_append_left (by rw [r.len];exact hlt)] at h2
      exact (r.cel n c a h1 h2).mono k rfl
    · have e1:n=hd.length:=by
        have:=(List.getElem?_eq_some_iff.mp h1).1
        simp at this
        omega
      subst e1
      simp at h1
      subst h1
      rw [← r.len] at h2
      simp at h2
      subst h2
      obtain⟨kvs,q1,q2,q3⟩:=hp
      exact⟨kvs,q1,q2,q3.mono k⟩
theorem RH.writeD (r:RH K ρ H hd){n:Nat}{p:Addr}{l:List (Int × D)}{kvs:List (Key × V)}(hp : ρ[n]? = some p)(hn:n < hd.length)(h1:kvs.map (·.1)=l.map (fun p=>(Sum.inl p.1:Key)))(h2:RDs K ρ H (l.map (·.2)) (kvs.map (·.2))):RH K ρ (upd H p (.dK kvs)) (hd.set n (.dct l)):=by
  have k:Kp ρ H ρ (upd H p (.dK kvs)):=by
    have hm:=List.mem_of_getElem? hp
    refine⟨fun _ _ h=>h,fun a us e => ?_,fun a o u e => ?_,fun a φ e => ?_⟩
    · rw [aI (fun z=>r.noTup e (by rw [z];exact hm))];exact e
    · rw [aI (fun z=>r.noFrz e (by rw [z];exact hm))];exact e
    · rw [aI (fun z=>r.noExt e (by rw [z];exact hm))];exact e
  refine⟨by simp [r.len],r.nd,fun m c a q1 q2 => ?_⟩
  by_cases e:n=m
  · subst e
    rw [List.getElem?_set_self hn] at q1
    cases q1
    rw [hp] at q2
    cases q2
    exact⟨kvs,a6,h1,h2.mono k⟩
  · rw [List.getElem?_set_ne e] at q1
    have ne:a≠p:=fun z=>by
      subst z
      exact e (oH r.nd hp q2)
    exact (r.cel m c a q1 q2).mono k (aI ne)
theorem yi (k:Int):∀ {l:List (Int × D)} {kvs:List (Key × V)},kvs.map (·.1)=l.map (fun p=>(Sum.inl p.1:Key))→RDs K ρ H (l.map (·.2)) (kvs.map (·.2)) →
    (oU l k=none∧iZ kvs (Sum.inl k)=none) ∨ ∃ d v,oU l k=some d∧iZ kvs (Sum.inl k)=some v∧RD K ρ H d v
  | [],[],_,_=>.inl ⟨rfl,rfl⟩
  | [],_ :: _,h,_=>by simp at h
  | _ :: _,[],h,_=>by simp at h
  | (j,d) :: l,(kk,v) :: kvs,h1,h2=>by
    simp only [List.map_cons,List.cons.injEq] at h1
    simp only [List.map_cons,RDs] at h2
    obtain⟨v',r',e,q1,q2⟩:=h2
    cases e
    obtain⟨e1,e2⟩:=h1
    subst e1
    by_cases e:j=k
    · subst e
      exact .inr ⟨d,v,by simp [oU],by simp [iZ],q1⟩
    · have ih:=yi k e2 q2
      have a1:oU ((j,d) :: l) k=oU l k:=by simp [oU,e]
      have a2:iZ ((Sum.inl j,v) :: kvs) (Sum.inl k)=iZ kvs (Sum.inl k):=kI (fun z=>e (by cases z;rfl))
      rw [a1,a2]
      exact ih
theorem yj (k:Int):∀ {l:List (Int × D)} {kvs:List (Key × V)},kvs.map (·.1)=l.map (fun p=>(Sum.inl p.1:Key))→(kvs.any fun kv=>decide (kv.1=(Sum.inl k:Key)))=l.any fun p=>decide (p.1=k)
  | [],[],_=>rfl
  | [],_ :: _,h=>by simp at h
  | _ :: _,[],h=>by simp at h
  | (j,d) :: l,(kk,v) :: kvs,h1=>by
    simp only [List.map_cons,List.cons.injEq] at h1
    obtain⟨e1,e2⟩:=h1
    subst e1
    simp [yj k e2]
theorem yk (k:Int){d0:D}{v0:V}(hv:RD K ρ H d0 v0):∀ {l:List (Int × D)} {kvs:List (Key × V)},kvs.map (·.1)=l.map (fun p=>(Sum.inl p.1:Key))→RDs K ρ H (l.map (·.2)) (kvs.map (·.2)) →
    (kvs.map fun kv=>if kv.1=(Sum.inl k:Key) then (kv.1,v0) else kv).map (·.1)=(l.map fun p=>if p.1=k then (p.1,d0) else p).map (fun p=>(Sum.inl p.1:Key))∧RDs K ρ H ((l.map fun p=>if p.1=k then (p.1,d0) else p).map (·.2)) ((kvs.map fun kv=>if kv.1=(Sum.inl k:Key) then (kv.1,v0) else kv).map (·.2))
  | [],[],_,_=>⟨rfl,RDs.nil⟩
  | [],_ :: _,h,_=>by simp at h
  | _ :: _,[],h,_=>by simp at h
  | (j,d) :: l,(kk,v) :: kvs,h1,h2=>by
    simp only [List.map_cons,List.cons.injEq] at h1
    simp only [List.map_cons,RDs] at h2
    obtain⟨v',r',e,q1,q2⟩:=h2
    cases e
    obtain⟨e1,e2⟩:=h1
    subst e1
    obtain⟨i1,i2⟩:=yk k hv e2 q2
    by_cases e:j=k
    · subst e
      simp only [List.map_cons,if_true]
      exact⟨by rw [i1],RDs.cons hv i2⟩
    · have e' : ¬ (Sum.inl j:Key)=Sum.inl k:=fun z=>e (by cases z;rfl)
      simp only [List.map_cons,if_neg e,if_neg e']
      exact⟨by rw [i1],RDs.cons q1 i2⟩
theorem Fu (k:Int){d0:D}{v0:V}(hv:RD K ρ H d0 v0){l:List (Int × D)}{kvs:List (Key × V)}(h1:kvs.map (·.1)=l.map (fun p=>(Sum.inl p.1:Key)))(h2:RDs K ρ H (l.map (·.2)) (kvs.map (·.2))) :
    (ke kvs (Sum.inl k) v0).map (·.1)=(AK l k d0).map (fun p=>(Sum.inl p.1:Key))∧RDs K ρ H ((AK l k d0).map (·.2)) ((ke kvs (Sum.inl k) v0).map (·.2)):=by
  unfold ke AK
  rw [yj k h1]
  split
  · exact yk k hv h1 h2
  · refine⟨by simp [h1],?_⟩
    rw [List.map_append,List.map_append]
    exact RDs.append h2 (RDs.cons hv RDs.nil)
end
section
variable {X:Cx} {pos p:Pos}
theorem HE:ME X (.Dict [] [] pos) tX:=by
  refine PE.imp Ft fun σ H Q ⟨ρ,σd,hd,rs,pp⟩=>fun q hq => ?_
  have sm:=ce (o:=HO.dK []) hq
  have hn:=rs.hp.free hq
  have rh:=(rs.hp.same sm).allocD (p:=q) (l:=[]) ⟨[],a6,rfl,RDs.nil⟩ hn
  have ex:Ext ρ H (ρ ++ [q]) (upd H q (.dK [])):=Ext.alloc hq
  refine aX.at (R:=rD X.K) (a:=.ref hd.length) pp ex (rs.ext ex rh) ?_
  simp only [rD,RD]
  refine⟨q,?_,rfl⟩
  rw [← rs.hp.len]
  simp
def LA (K:PySem.W.Frag):R2:=fun x y H Q=>∃ a o,y=.ref a∧Fp H a x o∧Q (.bl o.isSome) H
theorem JR (hu:X.A.units + 1 < cLine):OpR X (compareOp .In) (LA X.K):=by
  intro pins s σ H x y v u Q I rx ry h
  obtain⟨a,o,rfl,g,q⟩:=h
  obtain rfl:u=Value.ref a:=ry
  exact Mr hu I g rx fun s3 I3=>⟨.bl o.isSome,H,I3,rfl,q⟩
theorem JS {K:PySem.W.Frag}:Og K Dq (LA K):=by
  intro ρ H σd hd σ d k v w Q rs rv rw' pp
  cases d<;>try exact pp.elim
  cases k<;>try exact pp.elim
  rename_i i n
  simp only [Dq] at pp
  simp only [RD] at rv rw'
  subst rv
  obtain⟨a,ha,rfl⟩:=rw'
  cases c:hd[n]? with
  | none=>rw [c] at pp;exact pp.elim
  | some cell =>
    rw [c] at pp
    cases cell with
    | lst l=>exact pp.elim
    | dct l =>
      simp only at pp
      obtain⟨kvs,q1,q2,q3⟩:=rs.hp.cel n _ a c ha
      refine⟨a,iZ kvs (Sum.inl i),rfl,Fp.k (k:=Sum.inl i) q1,?_⟩
      have e:(iZ kvs (Sum.inl i)).isSome=(oU l i).isSome:=by
        rcases yi i q2 q3 with ⟨e1,e2⟩|⟨d,v,e1,e2,_⟩<;>rw [e1,e2]<;>rfl
      rw [e]
      exact pp.here rs (by simp only [rD,RD])
def LB:V→V→V→Hp→(Hp→Prop)→Prop:=fun o i v H Q=>∃ a H',o=.ref a∧Fq H a i v H'∧Q H'
theorem Fv (hu:X.A.units + 1 < cLine):Jb X LB:=by
  intro pins s σ H o i v ov iv u Q I ro ri rv h
  obtain⟨a,H',rfl,g,q⟩:=h
  obtain rfl:ov=Value.ref a:=ro
  exact Dr hu I g ri rv fun s' I'=>⟨H',I',q⟩
theorem CA {o i e:Expr}{fo fi fe:EF}{p2:Pos}(hu:X.A.units + 1 < cLine)(he:ME X e fe)(ho:ME X o fo)(hi:ME X i fi)(hs:swapsWithSole [.Subscript o i p2] e pos.line X.env=pure false:=by rfl)(hw:swappedStores [.Subscript o i p2] e X.env=pure none:=by rfl)
    (h1:(assignEach [.Subscript o i p2] X.env).map (·.2)=[assign (.Subscript o i p2) X.env]:=by rfl) (ha:∀ v,assign (.Subscript o i p2) X.env v=(do
      let ov ← holding [v] (eval o X.env)
      let iv ← holding [v,ov] (eval i X.env)
      standAt p2
      holding [v,ov,iv] (setItem ov iv v)
      release [v,ov,iv] []):=by intro _;rfl):MS X (.Assign [.Subscript o i p2] e pos) (oV fo fi fe):=by
  refine PS.imp (Av he (EL ho hi (Fv hu) ha) hs hw h1) fun En σ H ⟨ρ,σd,hd,rs,p⟩=>⟨ρ,σd,hd,rs,(cu.outE p).imp fun v H1 ⟨ρ1,d,hd1,e1,rs1,rv,p1⟩ => ?_⟩
  refine⟨ρ1,σd,hd1,rs1,(cu.outE p1).imp fun vo H2 ⟨ρ2,dO,hd2,e2,rs2,ro,p2⟩ => ?_⟩
  refine⟨ρ2,σd,hd2,rs2,(cu.outE p2).imp fun vi H3 ⟨ρ3,di,hd3,e3,rs3,ri,p3⟩ => ?_⟩
  have rv3:=(rv.mono (rs1.hp.kp e2)).mono (rs2.hp.kp e3)
  have ro3:=ro.mono (rs2.hp.kp e3)
  cases dO with
  | ref n =>
    cases di with
    | int j =>
      simp only at p3
      cases c:hd3[n]? with
      | none=>rw [c] at p3;exact p3.elim
      | some cell =>
        rw [c] at p3
        cases cell with
        | lst l=>exact p3.elim
        | dct l =>
          simp only at p3
          split at p3
          · rename_i hz
            simp only [RD] at ro3 ri
            subst ri
            obtain⟨a,ha,rfl⟩:=ro3
            obtain⟨kvs,q1,q2,q3⟩:=rs3.hp.cel n _ a c ha
            have hl:kvs.length=l.length:=by have:=congrArg List.length q2;simpa using this
            refine⟨a,_,rfl,Fq.k (k:=Sum.inl j) q1 (by rw [hl];exact Nat.lt_of_lt_of_le hz (by rw [sizeLine_eq];decide)),?_⟩
            have hn:n < hd3.length:=(List.getElem?_eq_some_iff.mp c).1
            obtain⟨u1,u2⟩:=Fu j rv3 q2 q3
            have rh:=rs3.hp.writeD ha hn u1 u2
            have ex:Ext ρ3 H3 ρ3 (upd H3 a (.dK (ke kvs (Sum.inl j) v))):=Ext.write (List.mem_of_getElem? ha)
            exact p3 σ _ ρ3 ex (rs3.ext ex rh)
          · exact p3.elim
    | _=>exact p3.elim
  | _=>exact p3.elim
end
end Fm
set_option Elab.async false
set_option linter.all false
set_option maxRecDepth 100000
namespace Fm
open PySem PySem.Spec L2 PySem.W PyProof.Rows
section
variable {X:Cx} {pos p:Pos}
theorem tZ {P:Program}{w:World}{H:Hp}{h h':Heap}(hok:HOk P w H h)(hk:∀ b o xs,H b=some (.tup xs)→h.get? b=some o→h'.get? b=some o):∀ {vs:List V} {rs:List (List Int)} {its:List Value},bN H vs rs→aN vs its→(rs.all fun x => !x.isEmpty)=true →
    ∃ fs,KatTups h' its fs∧fs.length=its.length ∧ ∀ v∈fs,∃ i t,v=Value.int i t
  | _,_,_,.nil,.nil,_=>⟨[],.nil,rfl,fun v hv=>by simp at hv⟩
  | _,_,_,.cons (a:=a) (r:=r) ha t,.cons rv rt,hne=>by
    simp only [List.all_cons,Bool.and_eq_true,Bool.not_eq_true'] at hne
    obtain⟨fs,h1,h2,h3⟩:=tZ hok hk t rt hne.2
    obtain⟨z,its0,r0,o,ho,hc,n,hd⟩:=hok a _ ha
    cases r with
    | nil=>simp at hne
    | cons i r =>
      cases r0 with
      | cons q0 qr =>
        rename_i u us
        obtain⟨tk,rfl⟩:=n3 q0
        cases rv
        refine⟨.int i tk :: fs,KatTups.cons (hk a o _ ha ho) hc hd (by simp) h1,by simp [h2],fun v hv => ?_⟩
        rcases List.mem_cons.mp hv with rfl|hv
        · exact⟨i,tk,rfl⟩
        · exact h3 v hv
theorem JT {pins:List (Addr × Obj)}{σ:L2.St}{H:Hp}{s:Shared}{B:Addr}{vs:List V}{rs:List (List Int)}{A:Around}{E:Value→Shared→Prop}{Q:Value→Shared→Prop}(I:Inv X pins σ H s)(hB:H B=some (.lst vs))(h64:vs.length < 64)(rv:bN H vs rs)(nd:rs.Nodup)(hne:(rs.all fun x => !x.isEmpty)=true)
    (q:∀ vs' s',bN H vs' (bw rs)→Inv X pins σ (upd H B (.lst vs')) s'→Q .none s'):wpAny (model X.prog X.w) A (call (.builtin "list.sort") [.ref B]) Q E s:=by
  obtain⟨hz,its,n0,rvs,ho⟩:=I.hok B _ hB
  have hlen:its.length=vs.length:=rvs.length.symm
  obtain⟨m,hm,_⟩:=id I.loc
  have nL:∀ b u,H b=some u→b≠X.env.locals:=fun b u e z=>by rw [z,I.free] at e;cases e
  have BL:=nL B _ hB
  have selfUpd:∀ vs',vs'=vs→upd H B (.lst vs')=H:=fun vs' e=>by
    subst e
    funext b
    by_cases z:b=B
    · subst z;rw [a6,hB]
    · rw [aI z]
  have after:∀ (h2:Heap) (its':List Value) (vs':List V) (c t':Nat),bN H vs' (bw rs)→aN vs' its'→vs'.length≤sizeLine→h2.get? B=some (PySem.W.listOf its'.toArray c)→(∀ b o,b≠X.env.locals→b≠B→s.heap.get? b=some o→h2.get? b=some o)→h2.Ns X.env.locals m→Inv X pins σ (upd H B (.lst vs')) { s with heap:=h2,toks:=t' }:=fun h2 its' vs' c t' rv' rvs' hz' hB2 keep2 ns2=>by
    have I2:L2.Inv X pins σ (upd H B (.lst vs')) { s with heap:=h2,gens:=s.gens,drawn:=s.drawn,toks:=t' }:=by
      refine I.step (g':=s.gens) (d':=s.drawn) (t':=t') (ch:=[]) (fun _ z=>nomatch z) (fun b o hb _ _ e n=>keep2 b o hb (fun z=>by subst z;rw [hB] at n;cases n) e) (fun b o hb _ _ e n=>⟨o.slots,keep2 b o hb (fun z=>by subst z;rw [hB] at n;cases n) e⟩) (fun b o _ e n=>by rw [aI (fun z=>by subst z;rw [hB] at n;cases n)];exact n) (fun b o _ e => ?_)
        (fun b ys e=>by rw [aI (fun z=>by subst z;rw [hB] at e;cases e)];exact e) (fun b o u e=>by rw [aI (fun z=>by subst z;rw [hB] at e;cases e)];exact e) (fun b ps e=>⟨#[],by rw [aI (fun z=>by subst z;rw [hB] at e;cases e),e];simp⟩) (fun m' hm'=>by rw [JL hm' hm];exact ns2) (fun b u e => ?_) I.bare
      · by_cases hb:b=X.env.locals
        · obtain⟨o',_,_,ho',_⟩:=ns2
          rw [hb];exact⟨o',ho'⟩
        · by_cases hb2:b=B
          · subst hb2;exact⟨_,hB2⟩
          · exact⟨o,keep2 b o hb hb2 e⟩
      · by_cases hb:b=B
        · subst hb
          rw [a6] at e
          cases e
          exact⟨hz',its',c,rvs',hB2⟩
        · rw [aI hb] at e
          refine (I.hok b u e).stay (fun c v hc z => ?_) (fun c z=>by rw [aI (fun y=>by subst y;rw [hB] at z;cases z)];exact z) fun c ys z=>by rw [aI (fun y=>by subst y;rw [hB] at z;cases z)];exact z
          rcases hc with w|w
          · subst w;exact keep2 c v (nL c _ e) hb z
          · exact keep2 c v (nL c _ w) (fun y=>by subst y;rw [hB] at w;cases w) z
    exact I2
  by_cases h2:its.length < 2
  · have hs:bw rs=rs:=by
      have:rs.length < 2:=by rw [← rv.length];omega
      match rs,this with
      | [],_=>rfl
      | [_],_=>rfl
    have ha:B < s.heap.objs.size:=Heap.lt_size ho
    have ho':s.heap.get? B=some (seqObj "list" its.toArray n0):=ho
    refine wpAny_call_entry slot_list_sort ⟨_,ho,rfl⟩ entry_list_sort (oR ho' h2 ⟨_,rfl,?_⟩) (args_list_sort _)
    obtain⟨e1,ho1⟩ : ∃ e1,(s.heap.update B (Obj.mapSeq fun _ => #[])).get? B=some (seqObj "list" #[] e1):=⟨_,get?_update_seq ho' (fun _ => #[])⟩
    have ho6:(((s.heap.update B (Obj.mapSeq fun _ => #[])).push (seqObj "tuple" its.toArray 0)).push (seqObj "list" #[] 0)).get? B=some (seqObj "list" #[] e1):=by
      rw [Heap.get?_push_ne _ _ _ (by rw [size_push',Heap.size_update];exact Nat.ne_of_lt (Nat.lt_succ_of_lt ha)),Heap.get?_push_ne _ _ _ (by rw [Heap.size_update];exact Nat.ne_of_lt ha)]
      exact ho1
    have keepS:∀ b o,b≠B→s.heap.get? b=some o→(sortedHeap s.heap B its its.toArray).get? b=some o:=fun b o hb e=>by
      have hlt:b < s.heap.objs.size:=Heap.lt_size e
      unfold sortedHeap
      rw [Heap.get?_update_ne _ _ _ _ hb,Heap.get?_push_ne _ _ _ (by rw [size_push',Heap.size_update];exact Nat.ne_of_lt (Nat.lt_succ_of_lt hlt)),Heap.get?_push_ne _ _ _ (by rw [Heap.size_update];exact Nat.ne_of_lt hlt),Heap.get?_update_ne _ _ _ _ hb]
      exact e
    have ns2:(sortedHeap s.heap B its its.toArray).Ns X.env.locals m:=by
      obtain⟨o',es,ep,h1,r⟩:=hm
      exact⟨o',es,ep,keepS _ _ (Ne.symm BL) h1,r⟩
    refine q vs _ (by rw [hs];exact rv) (after _ its vs _ s.toks (by rw [hs];exact rv) rvs hz (get?_update_seq ho6 _) (fun b o _ hb e=>keepS b o hb e) ns2)
  · have N0:News (Att.noObjs s.heap) X.env.locals s.heap ((B,PySem.W.listOf its.toArray n0) :: Att.ledger s.heap X.env.locals B):=fun ⟨b,o⟩ hb=>by
      rcases List.mem_cons.mp hb with e|hb
      · cases e
        exact⟨ho,BL,Att.noObjs_get _ _⟩
      · obtain⟨n1,n2,e⟩:=Att.mem_ledger.mp hb
        exact⟨e,n1,Att.noObjs_get _ _⟩
    have hDn:∀ q∈Att.ledger s.heap X.env.locals B,q.1≠B:=fun ⟨b,o⟩ hq=>(Att.mem_ledger.mp hq).2.1
    refine kat_lsort (vs:=its) (Att.fr_all hm) N0 (UpdF.head hDn) (by simp) (by omega) (by omega) fun e1 h' F' N' => ?_
    have inN:∀ b o,b≠X.env.locals→b≠B→s.heap.get? b=some o→(b,o)∈Att.ledger s.heap X.env.locals B:=fun b o hb hb2 e=>Att.mem_ledger.mpr ⟨hb,hb2,e⟩
    have keep':∀ b o,b≠X.env.locals→b≠B→s.heap.get? b=some o→h'.get? b=some o:=fun b o hb hb2 e=>(N' (b,o) (List.mem_cons_of_mem _ (inN b o hb hb2 e))).1
    obtain⟨fs,t1,t2,t3⟩:=tZ I.hok (h':=h') (fun b o xs hb e=>keep' b o (nL b _ hb) (fun z=>by subst z;rw [hB] at hb;cases hb) e) rv rvs hne
    refine kat_kind (s:={ s with heap:=h' }) (T:=.type "int") t1 (by omega) (fun v hv => ?_) rfl ?_
    · obtain⟨i,t,rfl⟩:=t3 v hv
      exact Looks.of_pure rfl
    · have hT:(Value.type "int" != Value.type "tuple")=true:=by decide
      rw [hT]
      have hrl:rs.length=its.length:=by rw [← rv.length,hlen]
      have dif:∀ i j,i < its.length→j < its.length→i≠j→rs.getD i []≠rs.getD j []:=fun i j hi hj hij z=>by
        have e1:rs.getD i [] = rs[i]'(by omega):=by simp [List.getD,show i < rs.length by omega]
        have e2:rs.getD j [] = rs[j]'(by omega):=by simp [List.getD,show j < rs.length by omega]
        rw [e1,e2] at z
        exact hij ((List.getElem_inj nd).mp z)
      have O:Ord (fun i j=>Fm.lexLt (rs.getD i []) (rs.getD j [])) its.length:=⟨fun i j _ _ h=>ja h,fun i j k _ _ _ h h'=>fq h h',fun i j hi hj hij h=>gP (dif i j hi hj hij) h⟩
      refine yf O (fun i j hi hj C hC => ?_) (by omega) fun pp g srt => ?_
      · unfold kas_ask
        have at':∀ i,i < its.length → ∃ b,its.getD i Value.none=.ref b ∧ ∃ (o:Obj) (zs:List Value) (n:Nat),h'.get? b=some o∧o.data=.seq zs.toArray n∧IntsAre zs (rs.getD i []):=fun i hi=>by
          have hv:vs[i]? = some (vs[i]'(by omega)):=by simp [show i < vs.length by omega]
          obtain⟨b,e1,e2⟩:=rv.get hv
          obtain⟨u,hu,ru⟩:=rvs.get hv
          rw [e1] at ru
          cases (show u=Value.ref b from ru)
          obtain⟨z,zs,r0,o,ho,hc,n,hd⟩:=I.hok b _ e2
          exact⟨b,by simp [List.getD,hu],o,zs,n,keep' b o (nL b _ e2) (fun z=>by subst z;rw [hB] at e2;cases e2) ho,hd,ib r0⟩
        obtain⟨b1,x1,o1,z1,n1,y1,d1,i1⟩:=at' i hi
        obtain⟨b2,x2,o2,z2,n2,y2,d2,i2⟩:=at' j hj
        rw [x1,x2]
        refine kat_lt (s:={ s with heap:=h' }) y1 d1 y2 d2 ?_
        have:=Fi (prog:=X.prog) (w:=X.w) (A:=A.in1) (s:={ s with heap:=h' }) (Q:=C) (rs.getD i []) (rs.getD j []) 0 i1 i2 hC
        simpa using this
      · have pmL:pp.toList.Perm (List.range its.length):=by simpa using Array.perm_iff_toList_perm.mp g.pm
        have inR:∀ i∈pp.toList,i < vs.length:=fun i hi=>by
          have:=pmL.mem_iff.mp hi
          rw [← hlen];simpa using this
        obtain⟨vs',hvs'⟩ : ∃ vs',vs'=pp.toList.map fun i=>vs.getD i .non:=⟨_,rfl⟩
        obtain⟨its',hits'⟩ : ∃ its',its'=pp.toList.map fun i=>its.getD i Value.none:=⟨_,rfl⟩
        have rv':bN H vs' (bw rs):=by
          have e:(pp.toList.map fun i=>rs.getD i [])=bw rs:=by
            refine mC (?_:List.Perm _ _) ?_ (eD nd)
            · refine ((pmL.map fun i=>rs.getD i []).trans ?_).trans (dI rs).symm
              have:((List.range its.length).map fun i=>rs.getD i [])=rs:=by
                apply List.ext_getElem?
                intro i
                by_cases hi:i < rs.length
                · have:i < its.length:=by omega
                  simp [List.getD,hi,this]
                · have : ¬ i < its.length:=by omega
                  simp [hi,this]
              rw [this]
            · rw [List.pairwise_map]
              rw [List.pairwise_iff_getElem]
              intro i j hi hj hij
              have s1:=srt i j hij (by rw [← g.sz];simpa using hj)
              have g1:pp.getD i 0=pp.toList[i]:=by simp [Array.getD,show i < pp.size by simpa using hi]
              have g2:pp.getD j 0=pp.toList[j]:=by simp [Array.getD,show j < pp.size by simpa using hj]
              rw [g1,g2] at s1
              exact s1
          have:=rv.pick pp.toList inR
          rw [e,← hvs'] at this
          exact this
        have rvs':aN vs' its':=by rw [hvs',hits'];exact aN.pick rvs pp.toList inR
        have hz':vs'.length≤sizeLine:=by
          have l1:vs'.length=its.length:=by rw [hvs',List.length_map,pmL.length_eq,List.length_range]
          rw [l1,hlen];exact hz
        rw [← hits']
        refine KasFin.intro F' N' (UpdF.head hDn) fun h2 c F2 N2 => ?_
        have hD2:h2.get? B=some (PySem.W.listOf its'.toArray c):=(N2 (B,_) (List.mem_cons_self ..)).1
        have keep2:∀ b o,b≠X.env.locals→b≠B→s.heap.get? b=some o→h2.get? b=some o:=fun b o hb hb2 e=>(N2 (b,o) (List.mem_cons_of_mem _ (inN b o hb hb2 e))).1
        exact q vs' _ rv' (after h2 its' vs' c s.toks rv' rvs' hz' hD2 keep2 F2.ns)
end
end Fm
set_option Elab.async false
set_option linter.all false
set_option maxRecDepth 100000
namespace Fm
open PySem PySem.Spec L2 PySem.W PyProof.Rows
section
variable {X:Cx} {pos p:Pos}
def u7 (p d:Addr):Heap→Prop:=fun h=>h.get? p=some { cls:=.type "dict_items",data:=.fields #[.ref d] }
def JU (td:TE):TE:=fun σ H Q=>td σ H fun x H1=>∃ a kvs,x=.ref a∧H1 a=some (.dK kvs) ∧ ∀ p,H1 p=none→Q (.ref p) (upd H1 p (.ext (u7 p a)))
theorem Fw {o:Expr} {td:TE} {apos cpos:Pos} (ho:PE X o td) (hbase:attributeBase o "items" X.env (eval o X.env)=eval o X.env:=by rfl) (hline:(apos.endLine == cpos.line)=true:=by rfl) :
    PE X (.Call (.Attribute o "items" apos) [] [] cpos) (JU td):=by
  intro pins s σ H Q I h
  refine wpAny_Call_method0_late hbase hline (thn (ho pins s σ H _ I h) fun v s1 ⟨x,H1,I1,r1,a,kvs,ex,e,q1⟩ => ?_)
  subst ex
  obtain rfl:v=Value.ref a:=r1
  obtain⟨t1,t2,hs⟩:=JQ I1 (.inl ⟨kvs,.inl e⟩)
  obtain⟨_,hd,vs,_,dd⟩:=Fl I1.hok e
  refine⟨"dict", "dict.items",PySem.F.plainAttrs_dict,PySem.F.slot_dict_items,PySem.F.type_dict_items,t1,t2,Calls.callWith_builtin rfl (PySem.evalArgs_none ?_)⟩
  refine call_meetsIn PySem.F.slot_dict_items t1 PySem.F.entry_dict_items (PySem.F.args_dict_items_1 _) (meets_dict_items (cw X.prog X.w) a hd) ⟨⟨vs,dd⟩,?_⟩
  refine⟨.ref s1.heap.objs.size,_,I1.laid (t':=s1.toks) (o:=.ext (u7 s1.heap.objs.size a)) (fun b ob q=>Heap.get?_push_of_some _ q) (Nat.le_refl _) ⟨Heap.get?_push_size _ rfl,⟨_,Heap.get?_push_size _ rfl⟩,fun h1 h2 f k=>k _ f⟩,rfl,q1 _ (I1.hok.fresh (Nat.le_refl _))⟩
theorem Fx {pins:List (Addr × Obj)}{σ:L2.St}{H H':Hp}{s:Shared}{h':Heap}{t':Nat}(I:Inv X pins σ H s)(keep:∀ b o,s.heap.get? b=some o→h'.get? b=some o)(sm:gH H H')(fresh:∀ b,b < s.heap.objs.size→H' b=H b)(new:∀ b u,s.heap.objs.size≤b→H' b=some u→dE X.prog X.w H' h' b u ∧ ∀ c,u ≠ .own c):Inv X pins σ H' { s with heap:=h',toks:=t' }:=by
  have I2:L2.Inv X pins σ H' { s with heap:=h',gens:=s.gens,drawn:=s.drawn,toks:=t' }:=by
    refine I.step (g':=s.gens) (d':=s.drawn) (t':=t') (ch:=[]) (fun _ z=>nomatch z) (fun b o _ _ _ e _=>keep b o e) (fun b o _ _ _ e _=>⟨o.slots,keep b o e⟩) (fun b o _ e n=>by rw [fresh b (Heap.lt_size e)];exact n) (fun b o _ e=>⟨o,keep b o e⟩)
      (fun b ys e=>sm _ _ e) (fun b o u e=>sm _ _ e) (fun b ps e=>⟨#[],by rw [sm _ _ e];simp⟩) (fun m hm => ?_) (fun b u e => ?_) I.bare
    · obtain⟨o',es,ep,h1,r⟩:=hm
      exact⟨o',es,ep,keep _ _ h1,r⟩
    · by_cases hb:b < s.heap.objs.size
      · rw [fresh b hb] at e
        refine (I.hok b u e).stay (fun c v hc z=>keep c v z) (fun c z=>sm _ _ z) fun c ys z=>sm _ _ z
      · exact (new b u (Nat.le_of_not_lt hb) e).1
  exact I2
def ov:List Addr→List (List Int)→Hp→Hp
  | a :: as,r :: rs,H=>upd (ov as rs H) a (.tup (r.map V.int))
  | _,_,H=>H
theorem CB {b:Addr}{H:Hp}:∀ {as:List Addr} {rs:List (List Int)},b∉as→ov as rs H b=H b
  | [],_,_=>rfl
  | a :: as,[],_=>rfl
  | a :: as,r :: rs,h=>by
    have h1:b≠a:=fun z=>h (by simp [z])
    have h2:b∉as:=fun z=>h (by simp [z])
    show upd _ _ _ b=_
    rw [aI h1,CB h2]
theorem Fy {H:Hp}:∀ {as:List Addr} {rs:List (List Int)} {j:Nat} {a:Addr} {r:List Int},as.Nodup→as[j]? = some a→rs[j]? = some r→ov as rs H a=some (.tup (r.map V.int))
  | [],_,_,_,_,_,e,_=>by simp at e
  | a :: as,[],_,_,_,_,_,e=>by simp at e
  | a :: as,r :: rs,0,_,_,_,e,e'=>by simp at e e';subst e e';exact a6
  | a :: as,r :: rs,j + 1,b,q,nd,e,e'=>by
    obtain⟨n1,n2⟩:=List.nodup_cons.mp nd
    have e:as[j]? = some b:=by simpa using e
    have hb:b≠a:=fun z=>n1 (by rw [← z];exact List.mem_of_getElem? e)
    show upd _ _ _ b=_
    rw [aI hb]
    exact Fy n2 e (by simpa using e')
theorem bN.mono {H H':Hp}(k:∀ a xs,H a=some (.tup xs)→H' a=some (.tup xs)):∀ {vs:List V} {rs:List (List Int)},bN H vs rs→bN H' vs rs
  | _,_,.nil=>.nil
  | _,_,.cons h t=>.cons (k _ _ h) (bN.mono k t)
theorem CC {H':Hp}:∀ {as:List Addr} {rs:List (List Int)},as.length=rs.length→(∀ (j:Nat) a r,as[j]? = some a→rs[j]? = some r→H' a=some (.tup (r.map V.int)))→bN H' (as.map V.ref) rs
  | [],[],_,_=>.nil
  | [],_ :: _,h,_=>by simp at h
  | _ :: _,[],h,_=>by simp at h
  | a :: as,r :: rs,h,f=>.cons (f 0 a r rfl rfl) (CC (by simpa using h) fun j b q e e'=>f (j + 1) b q (by simpa using e) (by simpa using e'))
def JV:List V→Hp→VK→Prop:=fun xs H Q=>∃ (p a:Addr) (ps:List (Int × Int)),xs=[.ref p]∧H p=some (.ext (u7 p a))∧H a=some (.dK (ps.map fun q=>((Sum.inl q.1:Key),V.int q.2)))∧ps.length < 64∧(ps.map fun q=>[q.1,q.2]).Nodup ∧
  ∀ H' q vs',gH H H'→H q=none→H' q=some (.lst vs')→bN H' vs' (bw (ps.map fun q=>[q.1,q.2]))→Q (.ref q) H'
theorem LC {κ : Type}{kvs:List (κ × V)}{vs:List (κ × Value)}(r:KV kvs vs):∀ {j:Nat} {k : κ} {x:Value} {k' : κ} {v:V},vs[j]? = some (k,x)→kvs[j]? = some (k',v)→k'=k∧bq v x:=by
  induction r with
  | nil=>intro j k x k' v e;simp at e
  | cons h t ih =>
    intro j k x k' v e e'
    cases j with
    | zero=>simp at e e';subst e e';exact h
    | succ j=>exact ih (by simpa using e) (by simpa using e')
theorem AM (hc:X.calm=true):fF X (.builtin "sorted") JV:=by
  intro pins s σ H xs us Q I r h
  obtain⟨p,a,ps,rfl,hp,ha,h64,nd,q⟩:=h
  obtain⟨u,rfl,ru⟩:=aN.one r
  cases (show u=Value.ref p from ru)
  obtain⟨rs,hrs⟩ : ∃ rs,rs=ps.map fun q=>[q.1,q.2]:=⟨_,rfl⟩
  rw [← hrs] at nd q
  have view:u7 p a s.heap:=(I.hok p _ hp).1
  obtain⟨hz,_,vs,rel,dd⟩:=Fl I.hok ha
  have lv:vs.length=ps.length:=by rw [← rel.length];simp
  obtain⟨o,es,ep,d1,d2⟩:=id dd
  have dat:s.heap.DictAt (cw X.prog X.w) a vs ep:=⟨o,es,d1,d2⟩
  refine Calls.call_function_entry kind_sorted plain_sorted entry_sorted (args_sorted1 _) ?_
  unfold Builtin.«sorted»
  refine wpAny_bind (m:=checkCount "sorted" 1 1 _) (wpAny_pure ?_)
  refine wpAny_bind (kdx_collect (A:=X.A.in1) (knd:=cw X.prog X.w) (kvs:=vs) (ep:=ep) (I.ok.hd hc) ⟨_,view,rfl,rfl⟩ dat (by rw [lv,sizeLine_eq];omega) fun h' tk as hk hl hG => ?_)
  have ndA:as.Nodup:=hG.rise.imp fun h=>Nat.ne_of_lt h
  have lr:as.length=rs.length:=by rw [hl,lv,hrs];simp
  have newA:∀ b∈as,s.heap.objs.size≤b:=fun b hb=>Nat.le_of_lt (hG.above b hb)
  have sm:gH H (ov as rs H):=fun b u e=>by
    rw [CB]
    · exact e
    · intro z
      exact absurd (I.hok.lt e) (Nat.not_lt.mpr (newA b z))
  have I1:Inv X pins σ (ov as rs H) { s with heap:=h',toks:=tk }:=by
    refine Fx I hk sm (fun b hb=>CB fun z=>absurd hb (Nat.not_lt.mpr (newA b z))) fun b u hb e => ?_
    by_cases hm:b∈as
    · obtain⟨j,hj⟩:=List.getElem?_of_mem hm
      have hjl:j < as.length:=(List.getElem?_eq_some_iff.mp hj).1
      obtain⟨key,k,x,e1,e2,e3⟩:=hG.pairs j b hj
      obtain⟨pq,hpq⟩ : ∃ pq,ps[j]? = some pq:=⟨ps[j]'(by omega),by simp [show j < ps.length by omega]⟩
      have hr:rs[j]? = some [pq.1,pq.2]:=by rw [hrs,List.getElem?_map,hpq];rfl
      rw [Fy ndA hj hr] at e
      cases e
      refine⟨?_,fun c z=>by cases z⟩
      obtain⟨hkk,rx⟩:=LC rel e1 (show (ps.map fun q=>((Sum.inl q.1:Key),V.int q.2))[j]? = some (Sum.inl pq.1,V.int pq.2) by rw [List.getElem?_map,hpq];rfl)
      obtain⟨t,rfl⟩:=n3 rx
      subst hkk
      have:∃ t',key=Value.int pq.1 t':=Value.isInt_shape e2
      obtain⟨t',rfl⟩:=this
      exact⟨by simp [sizeLine_eq],[_,_],.cons ⟨t',rfl⟩ (.cons ⟨t,rfl⟩ .nil),_,e3,rfl,_,rfl⟩
    · rw [CB hm] at e
      exact absurd (I.hok.lt e) (Nat.not_lt.mpr hb)
  refine wpAny_bind (wpAny_newList ?_ (by rw [List.length_map,hl,lv,sizeLine_eq];omega))
  have rvA:aN (as.map V.ref) (as.map Value.ref):=by
    clear hl hG ndA lr newA sm I1 q
    induction as with
    | nil=>exact .nil
    | cons a as ih=>exact .cons rfl ih
  have I2:Inv X pins σ (upd (ov as rs H) h'.objs.size (.lst (as.map V.ref))) { s with heap:=h'.push { cls:=.type "list",data:=.seq (as.map Value.ref).toArray },toks:=tk }:=I1.lnew (t':=tk) rvA (by rw [List.length_map,hl,lv,sizeLine_eq];omega)
  have fr:ov as rs H h'.objs.size=none:=I1.hok.fresh (Nat.le_refl _)
  have sm2:gH (ov as rs H) (upd (ov as rs H) h'.objs.size (.lst (as.map V.ref))):=ce fr
  have rowsA:bN (upd (ov as rs H) h'.objs.size (.lst (as.map V.ref))) (as.map V.ref) rs:=CC lr fun j b r e e'=>sm2 _ _ (Fy ndA e e')
  have hne:(rs.all fun x => !x.isEmpty)=true:=by rw [hrs,List.all_map,List.all_eq_true];intro q _;rfl
  refine wpAny_bind (wpAny_holding (JT (A:=X.A.in1) I2 a6 (by rw [List.length_map,hl,lv];exact h64) rowsA nd hne fun vs' s' rv' I3=>wpAny_pure ⟨_,rfl,?_⟩))
  have uu:upd (upd (ov as rs H) h'.objs.size (.lst (as.map V.ref))) h'.objs.size (.lst vs')=upd (ov as rs H) h'.objs.size (.lst vs'):=by
    funext b
    by_cases z:b=h'.objs.size
    · subst z;rw [a6,a6]
    · rw [aI z,aI z,aI z]
  rw [uu] at I3
  refine⟨.ref h'.objs.size,_,I3,rfl,q _ _ vs' (fun b u e=>ce fr _ _ (sm _ _ e)) ?_ a6 ?_⟩
  · cases e:H h'.objs.size with
    | none=>rfl
    | some u=>rw [sm _ _ e] at fr;cases fr
  · refine rv'.mono fun b ys e => ?_
    have hb:b≠h'.objs.size:=fun z=>by subst z;rw [a6] at e;cases e
    rw [aI hb] at e ⊢
    exact e
theorem nt:∀ {l:List (Int × D)} {r:List (List Int)},eE l=some r → ∃ ps:List (Int × Int),l=ps.map (fun q=>(q.1,D.int q.2))∧r=ps.map fun q=>[q.1,q.2]
  | [],r,e=>by simp only [eE] at e;cases e;exact⟨[],rfl,rfl⟩
  | (k,d) :: l,r,e=>by
    cases d<;>simp only [eE] at e<;>try (cases e;done)
    rename_i v
    cases c:eE l with
    | none=>rw [c] at e;cases e
    | some r' =>
      rw [c] at e
      cases e
      obtain⟨ps,rfl,rfl⟩:=nt c
      exact⟨(k,v) :: ps,rfl,rfl⟩
theorem Fz {K:PySem.W.Frag}{ρ:List Addr}{H:Hp}:∀ {ps:List (Int × Int)} {kvs:List (Key × V)},kvs.map (·.1)=(ps.map fun q=>(q.1,D.int q.2)).map (fun p=>(Sum.inl p.1:Key))→RDs K ρ H ((ps.map fun q=>(q.1,D.int q.2)).map (·.2)) (kvs.map (·.2))→kvs=ps.map fun q=>((Sum.inl q.1:Key),V.int q.2)
  | [],[],_,_=>rfl
  | [],_ :: _,h,_=>by simp at h
  | _ :: _,[],h,_=>by simp at h
  | (j,d) :: ps,(kk,v) :: kvs,h1,h2=>by
    simp only [List.map_cons,List.cons.injEq] at h1
    simp only [List.map_cons,RDs] at h2
    obtain⟨v',r',e,q1,q2⟩:=h2
    cases e
    obtain⟨e1,e2⟩:=h1
    subst e1
    simp only [RD] at q1
    subst q1
    rw [Fz e2 q2]
    rfl
theorem FA {o:Expr} {fo:EF} {apos cpos:Pos} (hc:X.calm=true) (hg:Gl X "sorted") (hm:X.mg "sorted" = none) (ho:ME X o fo)
    (hs:starEach [.Call (.Attribute o "items" apos) [] [] cpos] X.env=(false,eval (.Call (.Attribute o "items" apos) [] [] cpos) X.env) :: starEach [] X.env:=by rfl)
    (hbase:attributeBase o "items" X.env (eval o X.env)=eval o X.env:=by rfl) (hline:(apos.endLine == cpos.line)=true:=by rfl) :
    MF X (.Call (.Name "sorted" p) [.Call (.Attribute o "items" apos) [] [] cpos] [] pos) (kc fo):=by
  refine PE.imp (gF (AM hc) hg hm (by decide +kernel) (bz (Fw ho hbase hline) cR hs) (he:=hs)) fun σ H Q ⟨ρ,σd,hd,rs,pp⟩=>⟨ρ,σd,hd,rs,?_⟩
  unfold kc at pp
  cases e:fo σd hd with
  | exc x h'=>rw [e] at pp;exact pp
  | bad=>rw [e] at pp;exact pp
  | ok d hd1 =>
    rw [e] at pp
    simp only [aq] at pp
    intro v H1 ρ1 e1 rs1 rv
    cases d<;>try exact pp.elim
    rename_i n
    simp only at pp
    simp only [rD,RD] at rv
    obtain⟨a,ha,rfl⟩:=rv
    cases c:hd1[n]? with
    | none=>rw [c] at pp;exact pp.elim
    | some cell =>
      rw [c] at pp
      cases cell with
      | lst l=>exact pp.elim
      | dct l =>
        simp only at pp
        cases c2:eE l with
        | none=>rw [c2] at pp;exact pp.elim
        | some r =>
          rw [c2] at pp
          simp only at pp
          split at pp
          · rename_i hz
            obtain⟨ps,rfl,rfl⟩:=nt c2
            obtain⟨kvs,q1,q2,q3⟩:=rs1.hp.cel n _ a c ha
            have hk:=Fz q2 q3
            subst hk
            refine⟨a,_,rfl,q1,fun q hq=>⟨q,a,ps,rfl,a6,by rw [aI (cW q1 hq)];exact q1,by simpa using hz.1,hz.2,fun H' q' vs' sm hq' hl' rv' => ?_⟩⟩
            have sm1:gH H1 H':=fun b u eb=>sm _ _ (ce hq _ _ eb)
            have nq:q'≠q:=fun z=>by subst z;rw [a6] at hq';cases hq'
            rw [aI nq] at hq'
            have hn:=rs1.hp.free hq'
            exact pp q' vs' H' ρ1 (e1.trans (Ext.same sm1)) (rs1.same sm1) (e1.fresh hq' hn) hl' hn rv'.rds
          · exact pp.elim
end
end Fm
set_option linter.all false
namespace Fm
@[simp] def AN (la:LF) (b:EF):LF:=fun σ h=>(la σ h).bind fun l h=>(b σ h).bind fun y h=>match y with
  | .int n=>if 0≤n∧n≤1000∧l.length * n.toNat≤1000 then .ok (List.replicate n.toNat l).flatten h else .bad
  | _=>.bad
@[simp] def Dt (x i e:EF):EF:=fun σ h=>(x σ h).bind fun p h=>match p with
  | .ref n=>match h[n]? with
    | some (.lst _)=>(i σ h).bind fun j h=>(e σ h).bind fun d h=>match j with
      | .int k=>match h[n]? with
        | some (.lst l)=>if 0≤k∧k≤l.length∧l.length < SZ then .ok .non (h.set n (.lst (l.take k.toNat++[d]++l.drop k.toNat))) else .bad
        | _=>.bad
      | _=>.bad
    | _=>.bad
  | _=>.bad
@[simp] def va (a b:EF):EF:=fun σ h=>(a σ h).bind fun x h=>(b σ h).bind fun y h=>match x,y with
  | .int i,.int j=>.ok (.int (if j > i then j else i)) h
  | _,_=>.bad
@[simp] def gQ (a b:EF):LF:=fun σ h=>(a σ h).bind fun x h=>(b σ h).bind fun y h=>match x,y with
  | .ref n,.ref m=>match h[n]?,h[m]? with
    | some (.lst l),some (.lst k)=>if l.length + k.length≤SZ then .ok (l++k) h else .bad
    | _,_=>.bad
  | _,_=>.bad
end Fm
set_option Elab.async false
set_option linter.all false
set_option maxRecDepth 100000
namespace Fm
open PySem PySem.Spec L2 PySem.W PyProof.Rows
section
variable {X:Cx} {pos p:Pos}
theorem t7 {K:PySem.W.Frag}{ρ:List Addr}{H:Hp}:∀ {l:List D} {vs:List V} {bs:List Bool},RDs K ρ H l vs→iR l=some bs→vs=bs.map V.bl
  | [],_,is,r,e=>by simp only [iR] at e;cases e;simp only [RDs] at r;subst r;rfl
  | d :: l,_,is,r,e=>by
    simp only [RDs] at r
    obtain⟨v,vs,rfl,h1,h2⟩:=r
    cases d<;>simp only [iR] at e<;>try (cases e;done)
    rename_i i
    cases c:iR l with
    | none=>rw [c] at e;cases e
    | some js =>
      rw [c] at e
      cases e
      simp only [RD] at h1
      rw [h1,t7 h2 c]
      rfl
theorem FB {bs:List Bool}{its:List Value}(r:aN (bs.map V.bl) its):∀ (i:Nat) (v:Value),its.toArray[i]? = some v→v=.bool (bs.getD i false):=by
  intro i v e
  have e':its[i]? = some v:=by simpa using e
  have hi:i < bs.length:=by
    have:=(List.getElem?_eq_some_iff.mp e').1
    have:=r.length
    simp at this
    omega
  obtain⟨u,hu,ru⟩:=r.get (i:=i) (x:=V.bl bs[i]) (by simp [hi])
  rw [hu] at e'
  cases e'
  rw [show v=Value.bool bs[i] from ru]
  simp [List.getD,hi]
theorem FC (bs:List Bool):(List.range bs.length).all (fun i=>bs.getD i false)=bs.all id:=by
  have:bs=(List.range bs.length).map fun i=>bs.getD i false:=by
    apply List.ext_getElem?
    intro i
    by_cases hi:i < bs.length<;>simp [List.getD,hi]
  conv=>rhs;rw [this]
  rw [List.all_map]
  rfl
theorem Du (hc:X.calm=true):fF X (.builtin "all") (fun xs H Q=>∃ (p:Addr) (bs:List Bool),xs=[.ref p]∧(SqL X.K H p (bs.map V.bl)∨SqT X.K H p (bs.map V.bl))∧Q (.bl (bs.all id)) H):=by
  intro pins s σ H xs us Q I r q
  obtain⟨p,bs,rfl,sq,q⟩:=q
  obtain⟨u,rfl,ru⟩:=aN.one r
  cases (show u=Value.ref p from ru)
  have hA:(X.A.in1).handled=none:=I.ok.hd hc
  have tr:∀ (its:List Value),aN (bs.map V.bl) its→TruthOf X.prog X.w X.A.in1 (fun i v=>its.toArray[i]? = some v) (fun i=>bs.getD i false):=fun its rv i v s Q E hP hQ=>by
    rw [FB rv i v hP]
    exact wpAny_truthy_bool hQ
  have fin:∀ {it:Obj} {h':Heap} {tk:Nat} {n:Nat},n=bs.length→(∀ b o,b∉[s.heap.objs.size]→(s.heap.push it).get? b=some o→h'.get? b=some o)→EP X pins σ Q (.bool ((List.range n).all fun i=>bs.getD i false)) { s with heap:=h',toks:=tk }:=by
    intro it h' tk n hn hk
    subst hn
    refine⟨.bl (bs.all id),H,I.kept (t':=tk) fun b o e=>hk b o (by simp;exact Nat.ne_of_lt (Heap.lt_size e)) (Heap.get?_push_of_some _ e),by rw [FC];rfl,q⟩
  rcases sq with sq|sq
  · obtain⟨its,rv,pl,hz⟩:=I.list sq
    have il:s.heap.IsList p its.toArray:=pl.isList
    have hlt:p < s.heap.objs.size:=by obtain⟨o,ho,_⟩:=il;exact Heap.lt_size ho
    refine PySem.call_all_walk (PySem.wpAny_pyIter_list il ?_)
    refine⟨s.heap.objs.size,_,[s.heap.objs.size],_,_,_,fun i=>bs.getD i false,rfl,PySem.Walks.list hA s.heap.objs.size p (Nat.ne_of_lt hlt) its.toArray,⟨⟨_,Heap.get?_push_size _ rfl,rfl,rfl⟩,?_⟩,tr its rv,?_⟩
    · obtain⟨o,ho,r⟩:=il;exact⟨o,Heap.get?_push_of_some _ ho,r⟩
    · exact fun h' tk hk=>fin (by simpa using rv.length.symm) hk
  · obtain⟨its,rv,pl,hz⟩:=I.tuple sq
    have il:s.heap.IsTuple p its.toArray:=pl
    have hlt:p < s.heap.objs.size:=by obtain⟨o,ho,_⟩:=il;exact Heap.lt_size ho
    refine PySem.call_all_walk (PySem.wpAny_pyIter_tuple il ?_)
    refine⟨s.heap.objs.size,_,[s.heap.objs.size],_,_,_,fun i=>bs.getD i false,rfl,PySem.Walks.tuple hA s.heap.objs.size p (Nat.ne_of_lt hlt) its.toArray,⟨⟨_,Heap.get?_push_size _ rfl,rfl,rfl⟩,?_⟩,tr its rv,?_⟩
    · obtain⟨o,ho,r⟩:=il;exact⟨o,Heap.get?_push_of_some _ ho,r⟩
    · exact fun h' tk hk=>fin (by simpa using rv.length.symm) hk
theorem vc {a:Expr} {la:LF} (hc:X.calm=true) (hg:Gl X "all") (hm:X.mg "all" = none) (ha:MQ X a la) (hs:starEach [a] X.env=(false,eval a X.env) :: starEach [] X.env:=by rfl):ME X (.Call (.Name "all" p) [a] [] pos) (oF la):=by
  refine AH (g:=fun l h=>match iR l with|some bs=>.ok (.bl (bs.all id)) h|none=>.bad) (E7 (Du hc) hg hm (by decide +kernel) (he:=hs)) ha (fun ρ H σd hd σ l q vs Q rs sq rvs p => ?_) hs
  cases c:iR l with
  | none=>simp only [c] at p;exact p.elim
  | some is =>
    simp only [c] at p
    have e:=t7 rvs c
    subst e
    exact⟨q,is,rfl,sq.imp id SqT.of,p.here rs (by simp only [rD,RD])⟩
theorem JW {a b:Expr}{la:LF}{fb:EF}(ha:MF X a la)(hb:ME X b fb):MF X (.BinOp a .Mult b pos) (AN la fb):=by
  refine PE.imp (EM Js ha hb) fun σ H Q ⟨ρ,σd,hd,rs,pp⟩=>⟨ρ,σd,hd,rs,?_⟩
  unfold AN at pp
  cases e:la σd hd with
  | exc x h'=>rw [e] at pp;exact pp
  | bad=>rw [e] at pp;exact pp
  | ok l hd1 =>
    rw [e] at pp
    simp only [aq] at pp
    intro q vs H1 ρ1 e1 rs1 hq0 hq hn rvs
    refine⟨ρ1,σd,hd1,rs1,?_⟩
    cases e2:fb σd hd1 with
    | exc x h'=>rw [e2] at pp;exact pp
    | bad=>rw [e2] at pp;exact pp
    | ok y hd2 =>
      rw [e2] at pp
      simp only [aq] at pp
      intro v H2 ρ2 ex2 rs2 rv
      cases y<;>try exact pp.elim
      rename_i n
      simp only at pp
      split at pp
      · rename_i hz
        simp only [rD,RD] at rv
        subst rv
        have hq2:H2 q=some (.lst vs):=ex2.frame q _ hq hn
        have rvs2:=rvs.mono (rs1.hp.kp ex2)
        refine⟨q,n,vs,rfl,rfl,hq2,by omega,by omega,by rw [← rvs.length,sizeLine_eq];omega,fun p' hp' => ?_⟩
        exact x6.mk pp (e1.trans ex2) rs2 (RDs.rep rvs2 n.toNat) p' hp'
      · exact pp.elim
theorem JX {a b:Expr} {fa fb:EF} (hc:X.calm=true) (hg:Gl X "max") (hm:X.mg "max" = none) (ha:ME X a fa) (hb:ME X b fb) (hs:starEach [a,b] X.env=(false,eval a X.env) :: starEach [b] X.env:=by rfl) (hs2:starEach [b] X.env=(false,eval b X.env) :: starEach [] X.env:=by rfl) (hpl:(backTo pos (starEach [b] X.env)).any (fun x=>x.1)=false:=by rfl):ME X (.Call (.Name "max" p) [a,b] [] pos) (va fa fb):=by
  refine PE.imp (gF (Dg hc) hg hm (by decide +kernel) (bz ha (bz hb cR hs2) hs) (he:=hs) (hpl:=hpl)) fun σ H Q ⟨ρ,σd,hd,rs,pp⟩=>⟨ρ,σd,hd,rs,?_⟩
  unfold va at pp
  refine (aX.bind (R:=rD X.K) pp).imp fun v H1 ⟨ρ1,d,hd1,e1,rs1,rv,p1⟩ => ?_
  refine⟨ρ1,σd,hd1,rs1,(aX.bind (R:=rD X.K) p1).imp fun w H2 ⟨ρ2,k,hd2,e2,rs2,rw',p2⟩ => ?_⟩
  cases d<;>try exact p2.elim
  cases k<;>try exact p2.elim
  simp only [rD,RD] at rv rw'
  subst rv rw'
  exact⟨_,_,rfl,p2.here rs2 (by simp only [rD,RD])⟩
def HF:V→List V→Hp→VK→Prop:=fun x vs H Q=>∃ l xs k y,x=.ref l∧vs=[.int k,y]∧H l=some (.lst xs)∧0≤k∧k≤xs.length∧xs.length < sizeLine∧Q .non (upd H l (.lst (xs.take k.toNat++[y]++xs.drop k.toNat)))
theorem Dv:MtM X "list.insert" HF:=by
  intro pins s σ H x vs v us Q I rx rv h
  obtain⟨l,xs,k,y,rfl,rfl,hH,k0,k1,hz,q⟩:=h
  cases rx
  obtain⟨u,w,rfl,ru,rw'⟩:=rv.two
  obtain⟨t,rfl⟩:=n3 ru
  obtain⟨z,its,n,r,hl,e⟩:=I.lstM hH
  have hfit : ¬ (!Builtin.List.listFitsIndex k)=true:=by
    rw [fitsIndex_both (by omega) (by rw [sizeLine_eq] at hz;omega)]
    exact Bool.false_ne_true
  refine call_meets F.slot_list_insert ⟨_,e,rfl⟩ F.entry_list_insert (F.args_list_insert_3 _ _ _) (AutoSeq1.list_insert_list_int_val_1 l its.toArray n k t w hfit (by rw [List.size_toArray];omega)) ⟨e,?_⟩
  refine⟨.non,_,I.lset (its':=its.take k.toNat++[w]++its.drop k.toNat) hH e ?_ (((r.take k.toNat).append (.cons rw' .nil)).append (r.drop k.toNat)) ?_,rfl,q⟩
  · have k2 : ¬ k < 0:=by omega
    have k3:min k.toNat its.length=k.toNat:=by omega
    simp only [Obj.mapSeq,List.size_toArray,if_neg k2,k3]
    congr 2
    simp
    exact List.take_of_length_le (by simp)
  · simp;omega
theorem JY {o i e:Expr} {fo fi fe:EF} {apos cpos:Pos} (ho:ME X o fo) (hi:ME X i fi) (he:ME X e fe) (hbase:attributeBase o "insert" X.env (eval o X.env)=eval o X.env:=by rfl)
    (hfew:((backTo cpos (starEach [i,e] X.env)).all (fun x => !x.1) && (backToKw cpos (keywordEach [] X.env)).all (fun x=>x.1.isSome)
      && decide (([i,e] : List Expr).length + ([] : List Keyword).length + (if ([] : List Keyword).isEmpty then 0 else 1) < 30))=true:=by rfl)
    (hline:(apos.endLine == cpos.line)=true:=by rfl) (hs:starEach [i,e] X.env=(false,eval i X.env) :: starEach [e] X.env:=by rfl) (hs2:starEach [e] X.env=(false,eval e X.env) :: starEach [] X.env:=by rfl) (hpl:(backTo cpos (starEach [e] X.env)).any (·.1)=false:=by rfl) :
    ME X (.Call (.Attribute o "insert" apos) [i,e] [] cpos) (Dt fo fi fe):=by
  refine PE.imp (oC PySem.F.plainAttrs_list PySem.F.slot_list_insert PySem.F.type_list_insert Dv ho (bz hi (bz he cR hs2) hs) hbase hfew hline hs hpl) fun σ H Q ⟨ρ,σd,hd,rs,pp⟩=>⟨ρ,σd,hd,rs,?_⟩
  unfold Dt at pp
  refine (aX.bind (R:=rD X.K) pp).imp fun v H1 ⟨ρ1,d,hd1,e1,rs1,rv,p1⟩ => ?_
  cases d<;>try exact p1.elim
  rename_i n
  simp only [rD,RD] at rv
  obtain⟨a,ha,rfl⟩:=rv
  simp only at p1
  cases c1:hd1[n]? with
  | none=>rw [c1] at p1;exact p1.elim
  | some cell1 =>
    rw [c1] at p1
    cases cell1 with
    | dct l=>exact p1.elim
    | lst l1 =>
      obtain⟨vs,hv,_⟩:=rs1.hp.cel n _ a c1 ha
      simp only at p1
      refine⟨.inl ⟨rfl,vs,SqL.of hv⟩,ρ1,σd,hd1,rs1,(aX.bind (R:=rD X.K) p1).imp fun vi H2 ⟨ρ2,k,hd2,e2,rs2,ri,p2⟩ => ?_⟩
      refine⟨ρ2,σd,hd2,rs2,(aX.bind (R:=rD X.K) p2).imp fun w H3 ⟨ρ3,dv,hd3,e3,rs3,rw',p3⟩ => ?_⟩
      cases k with
      | int k =>
       simp only [rD,RD] at ri
       subst ri
       simp only at p3
       cases c:hd3[n]? with
       | none=>rw [c] at p3;exact p3.elim
       | some cell =>
         rw [c] at p3
         cases cell with
         | dct l=>exact p3.elim
         | lst l =>
           simp only at p3
           split at p3
           · rename_i hz
             have ha3:=e3.get (e2.get ha)
             obtain⟨vs3,hv3,rvs3⟩:=rs3.hp.cel n _ a c ha3
             refine⟨a,vs3,k,w,rfl,rfl,hv3,hz.1,by rw [← rvs3.length];exact hz.2.1,?_,?_⟩
             · rw [← rvs3.length];exact Nat.lt_of_lt_of_le hz.2.2 (by rw [sizeLine_eq];decide)
             · have hn:n < hd3.length:=(List.getElem?_eq_some_iff.mp c).1
               have rh:=rs3.hp.write ha3 hn (RDs.append (RDs.append (RDs.take k.toNat rvs3) (RDs.cons rw' RDs.nil)) (RDs.drop k.toNat rvs3))
               have ex:Ext ρ3 H3 ρ3 (upd H3 a (.lst (vs3.take k.toNat++[w]++vs3.drop k.toNat))):=Ext.write (List.mem_of_getElem? ha3)
               exact p3.at ex (rs3.ext ex rh) (by simp only [rD,RD])
           · exact p3.elim
      | _=>exact p3.elim
theorem n4 {a b:Expr}{fa fb:EF}(ha:ME X a fa)(hb:ME X b fb):MF X (.BinOp a .Add b pos) (gQ fa fb):=by
  refine PE.imp (EM Jr ha hb) fun σ H Q ⟨ρ,σd,hd,rs,pp⟩=>⟨ρ,σd,hd,rs,?_⟩
  unfold gQ at pp
  cases e:fa σd hd with
  | exc x h'=>rw [e] at pp;exact pp
  | bad=>rw [e] at pp;exact pp
  | ok d hd1 =>
    rw [e] at pp
    simp only [aq] at pp
    intro v H1 ρ1 e1 rs1 rv
    refine⟨ρ1,σd,hd1,rs1,?_⟩
    cases e2:fb σd hd1 with
    | exc x h'=>rw [e2] at pp;exact pp
    | bad=>rw [e2] at pp;exact pp
    | ok k hd2 =>
      rw [e2] at pp
      simp only [aq] at pp
      intro w H2 ρ2 ex2 rs2 rw'
      cases d with
      | ref n =>
        cases k with
        | ref m =>
          simp only at pp
          simp only [rD,RD] at rv rw'
          obtain⟨a1,ha1,rfl⟩:=rv
          obtain⟨b1,hb1,rfl⟩:=rw'
          have ha2:=ex2.get ha1
          cases c1:hd2[n]? with
          | none=>rw [c1] at pp;exact pp.elim
          | some x1 =>
            cases c2:hd2[m]? with
            | none=>rw [c1,c2] at pp;cases x1<;>exact pp.elim
            | some x2 =>
              rw [c1,c2] at pp
              cases x1 with
              | dct _=>exact pp.elim
              | lst l =>
                cases x2 with
                | dct _=>exact pp.elim
                | lst k =>
                  simp only at pp
                  split at pp
                  · rename_i hz
                    obtain⟨vs1,hv1,rvs1⟩:=rs2.hp.cel n _ a1 c1 ha2
                    obtain⟨vs2,hv2,rvs2⟩:=rs2.hp.cel m _ b1 c2 hb1
                    refine⟨a1,b1,vs1,vs2,rfl,rfl,hv1,hv2,by rw [← rvs1.length,← rvs2.length];exact nV hz,fun p' hp' => ?_⟩
                    exact x6.mk pp (e1.trans ex2) rs2 (RDs.append rvs1 rvs2) p' hp'
                  · exact pp.elim
        | _=>exact pp.elim
      | _=>exact pp.elim
end
end Fm
set_option linter.all false
namespace Fm
@[simp] def MM (a:EF):EF:=fun σ h=>(a σ h).bind fun x h=>match x with | .int i=>.ok (.int i.natAbs) h|_=>.bad
@[simp] def vd (a b:EF):EF:=fun σ h=>(a σ h).bind fun x h=>(b σ h).bind fun y h=>match x,y with
  | .int i,.int j=>.ok (.int (if j < i then j else i)) h
  | _,_=>.bad
noncomputable section
open Classical
def LD (l:List D):List D:=(List.range l.length).zip l |>.map fun p=>.tup [.int (p.1:Nat),p.2]
end
end Fm
set_option Elab.async false
set_option linter.all false
set_option maxRecDepth 100000
namespace Fm
open PySem PySem.Spec L2
open PyProof.Rows (Call_)
section
variable {prog:Program} {w:World} {A:Around} {E:Value→Shared→Prop} {s:Shared} {z TI TO i1 i2 l1 l2:Addr} {k:Nat} {xs ys:Array Value} {a b:Value}
end
section
variable {prog:Program} {w:World} {A:Around} {E:Value→Shared→Prop} {s:Shared}
end
section
variable {X:Cx} {pos p tp:Pos} {elts:List Expr} {tk:Nat}
end
end Fm
set_option Elab.async false
set_option linter.all false
set_option maxRecDepth 100000
namespace Fm
open PySem PySem.Spec L2 PySem.W PyProof.Rows
section
variable {X:Cx} {pos p:Pos}
theorem JZ {a b:Expr} {fa fb:EF} (hc:X.calm=true) (hg:Gl X "min") (hm:X.mg "min" = none) (ha:ME X a fa) (hb:ME X b fb) (hs:starEach [a,b] X.env=(false,eval a X.env) :: starEach [b] X.env:=by rfl) (hs2:starEach [b] X.env=(false,eval b X.env) :: starEach [] X.env:=by rfl) (hpl:(backTo pos (starEach [b] X.env)).any (fun x=>x.1)=false:=by rfl):ME X (.Call (.Name "min" p) [a,b] [] pos) (vd fa fb):=by
  refine PE.imp (gF (Dh hc) hg hm (by decide +kernel) (bz ha (bz hb cR hs2) hs) (he:=hs) (hpl:=hpl)) fun σ H Q ⟨ρ,σd,hd,rs,pp⟩=>⟨ρ,σd,hd,rs,?_⟩
  unfold vd at pp
  refine (aX.bind (R:=rD X.K) pp).imp fun v H1 ⟨ρ1,d,hd1,e1,rs1,rv,p1⟩ => ?_
  refine⟨ρ1,σd,hd1,rs1,(aX.bind (R:=rD X.K) p1).imp fun w H2 ⟨ρ2,k,hd2,e2,rs2,rw',p2⟩ => ?_⟩
  cases d<;>try exact p2.elim
  cases k<;>try exact p2.elim
  simp only [rD,RD] at rv rw'
  subst rv rw'
  exact⟨_,_,rfl,p2.here rs2 (by simp only [rD,RD])⟩
end
section
variable {prog:Program} {w:World} {A:Around} {E:Value→Shared→Prop} {s:Shared}
end
section
variable {X:Cx} {pos p:Pos}
end
end Fm
set_option Elab.async false
set_option linter.all false
set_option maxRecDepth 100000
namespace Fm
open PySem PySem.Spec L2
open AutoSeq1 (wpAny_loadPart')
open PyProof.Rows (Call_)
section
variable {X:Cx} {pos p tp:Pos} {elts:List Expr} {tk:Nat}
end
section
variable {X:Cx} {pos:Pos} {tg:Expr}
end
end Fm
set_option linter.all false
namespace Fm
end Fm
set_option Elab.async false
set_option linter.all false
set_option maxRecDepth 100000
namespace Fm
open PySem PySem.Spec L2
open PyProof.Rows (Call_)
section
variable {X:Cx} {pos p p2 pos2:Pos}
end
end Fm
set_option linter.all false
namespace Fm
end Fm
set_option linter.all false
namespace Fm
noncomputable section
open Classical
@[simp] def Ms (nl:Nat) (caps:List Nat) (a:EF) (tg:GF) (cs:List TF) (e:EF):LF:=fun σ h=>match a σ h with
  | .ok (.ref n) h=>match h[n]? with
    | some (.lst l)=>iU (fun h=>h[n]? = some (.lst l)) tg cs e (LD l) (fx nl caps σ) h
    | _=>.bad
  | .ok _ _=>.bad
  | .exc x h=>.exc x h
  | .bad=>.bad
end
@[simp] def jb (x:EF) (L:LF):EF:=fun σ h=>(x σ h).bind fun p h=>match p with
  | .ref n=>match h[n]? with
    | some (.lst _)=>(L σ h).bind fun ds h=>match h[n]? with
      | some (.lst l)=>if l.length + ds.length≤SZ then .ok .non (h.set n (.lst (l++ds))) else .bad
      | _=>.bad
    | _=>.bad
  | _=>.bad
end Fm
set_option Elab.async false
set_option linter.all false
set_option maxRecDepth 100000
namespace Fm
open PySem PySem.Spec L2
section
variable {X:Cx} {pos:Pos} {scope:Scope} {own capn:List Str} {caps:List Nat}
end
section
variable {X:Cx}
theorem n5 {o e:Expr} {fo:EF} {L:LF} {apos cpos:Pos} (ho:ME X o fo) (he:MF X e L) (hbase:attributeBase o "extend" X.env (eval o X.env)=eval o X.env:=by rfl)
    (hfew:((backTo cpos (starEach [e] X.env)).all (fun x => !x.1) && (backToKw cpos (keywordEach [] X.env)).all (fun x=>x.1.isSome)
      && decide (([e] : List Expr).length + ([] : List Keyword).length + (if ([] : List Keyword).isEmpty then 0 else 1) < 30))=true:=by rfl)
    (hline:(apos.endLine == cpos.line)=true:=by rfl) (hs:starEach [e] X.env=(false,eval e X.env) :: starEach [] X.env:=by rfl) :
    ME X (.Call (.Attribute o "extend" apos) [e] [] cpos) (jb fo L):=by
  refine PE.imp (oC PySem.F.plainAttrs_list PySem.F.slot_list_extend PySem.F.type_list_extend tQ ho (bz he cR hs) hbase hfew hline hs) fun σ H Q ⟨ρ,σd,hd,rs,pp⟩=>⟨ρ,σd,hd,rs,?_⟩
  unfold jb at pp
  refine (aX.bind (R:=rD X.K) pp).imp fun v H1 ⟨ρ1,d,hd1,e1,rs1,rv,p1⟩ => ?_
  cases d<;>try exact p1.elim
  rename_i n
  simp only [rD,RD] at rv
  obtain⟨a,ha,rfl⟩:=rv
  simp only at p1
  cases c1:hd1[n]? with
  | none=>rw [c1] at p1;exact p1.elim
  | some cell1 =>
    rw [c1] at p1
    cases cell1 with
    | dct l=>exact p1.elim
    | lst l1 =>
      obtain⟨vs,hv,_⟩:=rs1.hp.cel n _ a c1 ha
      simp only at p1
      refine⟨.inl ⟨rfl,vs,SqL.of hv⟩,ρ1,σd,hd1,rs1,?_⟩
      cases c2:L σd hd1 with
      | exc z h7=>rw [c2] at p1;exact p1.elim
      | bad=>rw [c2] at p1;exact p1.elim
      | ok ds hd2 =>
        rw [c2] at p1
        simp only [aq] at p1
        intro q ws H2 ρ2 e2 rs2 hq0 hq hn rws
        cases c:hd2[n]? with
        | none=>rw [c] at p1;exact p1.elim
        | some cell =>
          rw [c] at p1
          cases cell with
          | dct l=>exact p1.elim
          | lst l =>
            simp only at p1
            split at p1
            · rename_i hz
              have ha2:=e2.get ha
              obtain⟨vs2,hv2,rvs2⟩:=rs2.hp.cel n _ a c ha2
              refine⟨a,q,vs2,ws,rfl,rfl,hv2,hq,?_,?_⟩
              · rw [← rvs2.length,← rws.length];exact Nat.le_trans hz (by rw [sizeLine_eq];decide)
              · have hn:n < hd2.length:=(List.getElem?_eq_some_iff.mp c).1
                have rh:=rs2.hp.write ha2 hn (RDs.append rvs2 rws)
                have ex:Ext ρ2 H2 ρ2 (upd H2 a (.lst (vs2++ws))):=Ext.write (List.mem_of_getElem? ha2)
                exact (p1.ext e2).at ex (rs2.ext ex rh) (by simp only [rD,RD])
            · exact p1.elim
end
end Fm
set_option linter.all false
namespace Fm
end Fm
set_option linter.all false
namespace Fm
end Fm
set_option Elab.async false
set_option linter.all false
set_option maxRecDepth 100000
namespace Fm
open PySem PySem.Spec L2 PySem.W PyProof.Rows
section
variable {prog:Program} {w:World} {A:Around} {E:Value→Shared→Prop} {s:Shared}
end
section
variable {X:Cx} {pos p:Pos}
end
end Fm
set_option Elab.async false
set_option linter.all false
set_option maxRecDepth 100000
namespace Fm
open PySem PySem.Spec L2 PySem.W PyProof.Rows
section
variable {X:Cx} {pos p:Pos}
end
section
variable {prog:Program} {w:World} {A:Around} {E:Value→Shared→Prop} {s:Shared} {κ : Type} [DecidableEq κ] {knd:KeyKind prog w κ}
end
section
variable {prog:Program} {w:World} {A:Around} {E:Value→Shared→Prop} {s:Shared}
end
section
variable {X:Cx} {pos p:Pos}
end
end Fm
namespace Fm
end Fm
set_option Elab.async false
set_option linter.all false
set_option maxRecDepth 100000
namespace L2
open PySem PySem.Spec PyProof.Rows PySem.W PySem.Builtin PySem.Builtin.ObjectAttr PySem.Builtin.Getset_descriptor
structure MN (K:PySem.W.Frag) (D:Addr):Prop where
  ga:PySem.W.findIn K (.ref D) "__getattribute__" = some (some (.builtin "BaseException.__getattribute__"))
  gt:PySem.W.findIn K (.ref D) "__getattr__" = some none
  cl:PySem.W.findIn K (.ref D) "__class__" = some (some (.builtin "object.__class__"))
  be:PySem.W.subIn K (.ref D) (.type "BaseException")=some true
  ob:PySem.W.mroIn K D (.type "object")=some true
  is:(PySem.W.clsIn K D).isSome=true
section
variable {prog:Program} {w:World} {A:Around} {E:Value→Shared→Prop} {K:PySem.W.Frag} {D:Addr} {h:Heap} {g:Array GenState} {d:Drawn} {t:Nat} {os:OsState} {a:Addr} {o:Obj} {vs:Array Value}
end
end L2
set_option Elab.async false
set_option linter.all false
set_option maxRecDepth 100000
namespace L2
open PySem PySem.Spec PyProof.Rows
section
variable {P:Program} {w:World} {H:Hp} {h:Heap} {a:Addr} {o:HO}
end
structure Cov (X:Cx) (pins:List (Addr × Obj)) (H:Hp) (B:Heap):Prop where
  trk:∀ b u,H b=some u → ∃ o,B.get? b=some o
  old:∀ b o,X.s₀.heap.get? b=some o→b∉frs X.stack→b∉X.ex → ∃ o,B.get? b=some o
  pin:∀ p∈X.pn++pins,∃ o,B.get? p.1=some o
section
variable {X:Cx} {pins:List (Addr × Obj)} {σ:St} {H:Hp} {s:Shared} {B h':Heap}
def XAt (X:Cx) (pins:List (Addr × Obj)) (σ:St) (H:Hp) (a C:Addr) (s':Shared):Prop :=
  (∃ s1 h' vs,Inv X pins σ H s1∧Heap.MadeExcOf s1.heap h' a (.ref C) vs∧s' = { s1 with heap:=h' }) ∨
  (∃ B t,Inv X pins σ H s'∧Heap.FlyingW B X.stack a (.ref C) (.ref t) s'.heap∧Cov X pins H B)
def XP (X:Cx) (E:Addr→Hp→Prop) (e:Value) (s':Shared):Prop:=∃ pins σ H a C,e=.ref a∧XAt X pins σ H a C s'∧E C H
def CX1 (P:Program) (w:World):CXT:=fun outer H s E e s'=>∃ a C B t H',e=.ref a∧s'.os=s.os∧AllBare s'.gens∧Un (frs outer) [] H H' s.heap s'.heap∧HOk P w H' s'.heap ∧
  Heap.FlyingW B outer a (.ref C) (.ref t) s'.heap∧(∀ b u,H' b=some u → ∃ o,B.get? b=some o)∧(∀ b o,s.heap.get? b=some o→b∉frs outer → ∃ o,B.get? b=some o)∧E (.ref C) none H'
end
end L2
set_option Elab.async false
set_option linter.all false
set_option maxRecDepth 100000
namespace L2
open PySem PySem.Spec PyProof.Rows
section
variable {X:Cx} {E:Addr→Hp→Prop} {x:Str} {C:Addr} {bm:List Value} {B newId initId:String} {np cpos pos:Pos} {e₀ : Expr} {rest:List Expr} {ta:TA}
end
section
variable {P:Program} {w:World} {K:PySem.W.Frag} {mg:Str→Option Value} {base:Heap}
end
section
variable {X:Cx} {pins:List (Addr × Obj)} {σ:St} {H:Hp} {s:Shared}
end
section
variable {X:Cx} {body:List Stmt} {x n c:Str} {M:Addr} {i j:Nat} {np cp vp ap hp pos:Pos} {tb:(Addr→Hp→Prop)→TS}
end
end L2
set_option Elab.async false
set_option linter.all false
set_option maxRecDepth 100000
namespace Fm
open PySem PySem.Spec L2 PyProof.Rows
section
variable (K:PySem.W.Frag) (mg:Str→Option Value)
def spX (F:Fn) (np:Nat):Sp:=fun vs H _ E=>∃ ρ hd ds,RH K ρ H hd∧RDs K ρ H ds vs∧ds.length=np ∧
  ∃ c l hd' C,F ds hd=.exc (.exn c l) hd'∧mg (Str.ofString c)=some (.ref C) ∧ ∀ H' ρ',Ext ρ H ρ' H'→RH K ρ' H' hd'→E (.ref C) none H'
end
section
variable {K:PySem.W.Frag} {mg:Str→Option Value} {ρ ρ':List Addr} {H H':Hp} {E:Addr→Hp→Prop} {En:uJ}
end
abbrev Wi:=(Addr→Hp→Prop)→Value→Shared→Prop
structure MP (P:Program) (w:World) (K:PySem.W.Frag) (mg:Str→Option Value) (base:Heap) (x:Str) (k np:Nat) (F:Fn):Prop where
  ex:∃ f fd ps,mg x=some (.ref f)∧PySem.W.keepIn K (.ref f)=true∧jP K fd ps []∧b7 P w K mg base (CX1 P w) k f fd ps (spX K mg F np)
section
variable {X:Cx} {R:Wi} {pos p:Pos}
end
section
variable {P:Program} {w:World} {K:PySem.W.Frag} {mg:Str→Option Value} {base:Heap}
end
end Fm
set_option Elab.async false
set_option linter.all false
set_option maxRecDepth 100000
namespace Fm
open PySem PySem.Spec L2 PyProof.Rows
section
variable {X:Cx} {pos p:Pos}
end
end Fm
set_option Elab.async false
set_option linter.all false
set_option maxRecDepth 100000
namespace Fm
open PySem PySem.Spec L2 PyProof.Rows
end Fm
namespace Fm
def noX {α : Type}:Res α → Res α
  | .exc _ _=>.bad
  | r=>r
def fPl {α : Type} (f:Sd→Hd→Res α):Sd→Hd→Res α := fun σ h=>noX (f σ h)
end Fm
set_option Elab.async false
set_option linter.all false
set_option maxRecDepth 100000
namespace L2
open PySem PySem.Spec PyProof.Rows
end L2
namespace Fm
open PySem PySem.Spec L2 PyProof.Rows
section
variable (K:PySem.W.Frag) (mg:Str→Option Value)
def XC (ρ:List Addr) (H:Hp) (E:Addr→Hp→Prop) (x:D) (hd:Hd):Prop:=∃ c l C,x=.exn c l∧mg (Str.ofString c)=some (.ref C) ∧ ∀ H' ρ',Ext ρ H ρ' H'→RH K ρ' H' hd→E C H'
def LE {α β : Type} (R:VR α β) (ρ:List Addr) (H:Hp) (σd:Sd) (σ:L2.St) (r:Res α) (E:Addr→Hp→Prop) (Q : β → Hp→Prop):Prop:=match r with
  | .ok a hd'=>∀ b H' ρ',Ext ρ H ρ' H'→RS K ρ' H' σd hd' σ → R ρ' H' a b→Q b H'
  | .exc x hd'=>XC K mg ρ H E x hd'
  | .bad=>False
def LG {α β : Type} (R:VR α β) (E:Addr→Hp→Prop) (f:Sd→Hd→Res α):L2.St→Hp→(β → Hp→Prop)→Prop:=fun σ H Q=>∃ ρ σd hd,RS K ρ H σd hd σ ∧ LE K mg R ρ H σd σ (f σd hd) E Q
def spY (F:Fn) (np:Nat):Sp:=fun vs H Q E=>∃ ρ hd ds,RH K ρ H hd∧RDs K ρ H ds vs∧ds.length=np∧match F ds hd with
  | .ok d hd'=>∀ v H' ρ',Ext ρ H ρ' H'→RH K ρ' H' hd'→RD K ρ' H' d v→Q v H'
  | .exc x hd'=>XC K mg ρ H (fun C H'=>E (.ref C) none H') x hd'
  | .bad=>False
end
section
variable {K:PySem.W.Frag} {mg:Str→Option Value} {ρ ρ':List Addr} {H H':Hp} {E:Addr→Hp→Prop} {σd:Sd} {σ:L2.St} {hd:Hd} {α β α' β':Type} {R:VR α β} {R':VR α' β'}
end
def NE (X:Cx) (E:Addr→Hp→Prop) (e:Expr) (f:EF):Prop:=PE X e (LG X.K X.mg (rD X.K) E f)
structure MR (P:Program) (w:World) (K:PySem.W.Frag) (mg:Str→Option Value) (base:Heap) (x:Str) (k np:Nat) (F:Fn):Prop where
  ex:∃ f fd ps,mg x=some (.ref f)∧PySem.W.keepIn K (.ref f)=true∧jP K fd ps []∧b7 P w K mg base (CX1 P w) k f fd ps (spY K mg F np)
section
variable {X:Cx} {E:Addr→Hp→Prop} {pos p:Pos}
end
end Fm
set_option Elab.async false
set_option linter.all false
set_option maxRecDepth 100000
namespace L2
open PySem PySem.Spec PyProof.Rows
section
variable {X:Cx} {E:Addr→Hp→Prop} {e:Value} {s':Shared} {R:Value→Shared→Prop}
end
end L2
namespace Fm
open PySem PySem.Spec L2 PyProof.Rows
section
variable {X:Cx} {E:Addr→Hp→Prop} {pos p:Pos}
end
section
variable {P:Program} {w:World} {K:PySem.W.Frag} {mg:Str→Option Value} {base:Heap}
end
end Fm
set_option Elab.async false
set_option linter.all false
set_option maxRecDepth 100000
namespace Fm
open PySem PySem.Spec L2 PyProof.Rows
section
variable {X:Cx} {pos p:Pos}
end
end Fm
namespace Fm
end Fm
set_option Elab.async false
set_option linter.all false
set_option maxRecDepth 100000
namespace L2
open PySem PySem.Spec PyProof.Rows
section
variable {X:Cx} {body:List Stmt} {x n c:Str} {M:Addr} {i j:Nat} {np cp vp ap hp pos:Pos} {tb:(Addr→Hp→Prop)→TS}
end
end L2
namespace Fm
open PySem PySem.Spec L2 PyProof.Rows
section
variable {X:Cx} {pos p:Pos}
end
end Fm
namespace Fm
def ltT:D→D→Option Bool
  | .tup xs,.tup ys=>match gK xs,gK ys with
    | some ns,some ms=>some (lexLt ns ms)
    | _,_=>none
  | _,_=>none
@[simp] def HG:O2:=fun x y h=>match ltT x y with|some b=>.ok (.bl b) h|none=>.bad
end Fm
set_option Elab.async false
set_option linter.all false
set_option maxRecDepth 100000
namespace Fm
open PySem PySem.Spec L2 PyProof.Rows
section
variable (K:PySem.W.Frag) (mg:Str→Option Value)
end
section
variable {X:Cx} {E:Addr→Hp→Prop} {pos p:Pos} {scope:Scope} {own capn:List Str} {caps:List Nat}
theorem ym:∀ (a b:List Int),HT.lexLt a b=lexLt a b
  | [],[]=>rfl
  | [],_ :: _=>rfl
  | _ :: _,[]=>rfl
  | x :: xs,y :: ys=>by
    show (if x=y then HT.lexLt xs ys else decide (x < y))=_
    rw [ym xs ys];rfl
theorem J0 {K:PySem.W.Frag}:Og K HG (Lj K):=by
  intro ρ H σd hd σ d k v w Q rs rv rw' p
  unfold HG at p
  cases d<;>try exact p.elim
  cases k<;>try exact p.elim
  rename_i xs ys
  simp only [ltT] at p
  cases e1:gK xs with
  | none=>rw [e1] at p;exact p.elim
  | some ns =>
    cases e2:gK ys with
    | none=>rw [e1,e2] at p;exact p.elim
    | some ms =>
      rw [e1,e2] at p
      simp only [RD] at rv rw'
      obtain⟨a,vs,rfl,ha,rvs⟩:=rv
      obtain⟨b,ws,rfl,hb,rws⟩:=rw'
      refine⟨a,b,ns,ms,rfl,rfl,SqT.of (by rw [ha,kE rvs e1]),SqT.of (by rw [hb,kE rws e2]),?_⟩
      rw [ym]
      exact p.here rs (by simp only [rD,RD])
end
end Fm
namespace Fm
def yn (s:String):List Nat:=s.toList.map Char.toNat
end Fm
set_option linter.all false
namespace Fm
abbrev JF:=List Nat→EF
def mD:JF:=fun out _ h=>if out.length≤1000000 then .ok (.str out) h else .bad
def b6 (a:EF) (r:JF):JF:=fun out σ h=>(a σ h).bind fun x h=>match x with
  | .str y=>if out.length + y.length≤1000000 then r (out++y) σ h else .bad
  | _=>.bad
def fFs (r:JF):EF:=r []
def dW (a:EF):EF:=fun σ h=>(a σ h).bind fun x h=>match x with
  | .int i=>if i.natAbs.log2 < 1920 then .ok (.str (yn (toString i))) h else .bad
  | _=>.bad
end Fm
set_option linter.all false
namespace Fm
def Dw (l:List Nat):Bool := !l.isEmpty && l.all fun c=>decide (48≤c∧c≤57)
def Dx (l:List Nat):Nat:=l.foldl (fun acc c=>acc * 10 + (c - 48)) 0
def kJ:List Nat→Option Int
  | []=>none
  | c :: r=>if c=45 then (if Dw r=true then some (-(Dx r:Int)) else none) else if Dw (c :: r)=true then some (Dx (c :: r):Int) else none
def t8 (a:EF):EF:=fun σ h=>(a σ h).bind fun x h=>match x with
  | .str l=>if l.length≤600 then (match kJ l with|some n=>.ok (.int n) h|none=>.bad) else .bad
  | _=>.bad
abbrev Tab:=List (List Nat × Option Int)
def HH:Option Int→D
  | some i=>.int i
  | none=>.non
def gl (T:Tab) (l:List Nat):Option (Option Int):=T.lookup l
def n6 (T:Tab) (a:EF):EF:=fun σ h=>(a σ h).bind fun x h=>match x with
  | .str l=>.ok (.bl (gl T l).isNone) h
  | _=>.bad
def ve (T:Tab) (a:EF):EF:=fun σ h=>(a σ h).bind fun x h=>match x with
  | .str l=>(match gl T l with|some d=>.ok (HH d) h|none=>.bad)
  | _=>.bad
end Fm
set_option linter.all false
namespace Fm
def iV:O2:=fun x y h=>match x,y with
  | .str a,.str b=>if a.length + b.length≤1000000 then .ok (.str (a++b)) h else .bad
  | _,_=>.bad
def J1:O2:=fun x y h=>match x,y with
  | .str a,.int i=>if a.length≤1000000 then (match ixN a.length i with|some j=>(match a[j]? with|some c=>.ok (.str [c]) h|none=>.bad)|none=>.bad) else .bad
  | _,_=>.bad
def HJ (a b:EF):EF:=aj J1 a b
def CF (a:EF):EF:=fun σ h=>(a σ h).bind fun x h=>match x with
  | .str l=>if l.length≤1000000 then .ok (.int l.length) h else .bad
  | _=>.bad
def Dy:O2:=fun x y h=>match x,y with
  | .str [c],.str l=>.ok (.bl (decide (c∈l))) h
  | _,_=>.bad
def AO (l:List Nat):Option Int→Option Int→Option (List Nat)
  | none,some j=>if 0≤j∧j≤l.length then some (l.take j.toNat) else none
  | some i,none=>if 0≤i∧i≤l.length then some (l.drop i.toNat) else none
  | _,_=>none
def n8 (a:EF) (lo hi:OF):EF:=fun σ h=>(a σ h).bind fun x h=>(lo σ h).bind fun i h=>(hi σ h).bind fun j h=>match x with
  | .str l=>if l.length≤1000000 then (match AO l i j with|some y=>.ok (.str y) h|none=>.bad) else .bad
  | _=>.bad
def FD (a:EF):IF:=fun σ h=>(a σ h).bind fun x h=>match x with
  | .str l=>if l.length≤1000000∧l.all (· < 128)=true then .ok (l.map fun c=>D.str [c],none) h else .bad
  | _=>.bad
end Fm
namespace Fm
def jR:List D→Option (List (List Nat))
  | []=>some []
  | .str x :: r=>(jR r).map (x :: ·)
  | _=>none
end Fm
set_option Elab.async false
set_option linter.all false
set_option maxRecDepth 100000
namespace Fm
open PySem PySem.Spec L2 PyProof.Rows
section
variable {X:Cx} {pos p:Pos}
theorem yp {K:PySem.W.Frag}{ρ:List Addr}{H:Hp}:∀ {l:List D} {vs:List V} {ss:List (List Nat)},RDs K ρ H l vs→jR l=some ss→vs=ss.map fun x=>V.str (toS x)
  | [],_,is,r,e=>by simp only [jR] at e;cases e;simp only [RDs] at r;subst r;rfl
  | d :: l,_,is,r,e=>by
    simp only [RDs] at r
    obtain⟨v,vs,rfl,h1,h2⟩:=r
    cases d<;>simp only [jR] at e<;>try (cases e;done)
    rename_i i
    cases c:jR l with
    | none=>rw [c] at e;cases e
    | some js =>
      rw [c] at e
      cases e
      simp only [RD] at h1
      rw [h1,yp h2 c]
      rfl
theorem oX:∀ {ss:List (List Nat)} {us:List Value},aN (ss.map fun x=>V.str (toS x)) us→StrsAre us (ss.map toS)
  | [],_,.nil=>.nil
  | x :: ss,_,.cons r t=>by obtain⟨k,rfl⟩:=r;exact .cons _ _ (oX t)
theorem kK (a b:List Nat):(toS a++toS b:Str)=toS (a++b):=by
  show (⟨a.toArray++b.toArray⟩ : Str)=⟨(a++b).toArray⟩
  rw [List.append_toArray]
end
end Fm
set_option Elab.async false
set_option linter.all false
set_option maxRecDepth 100000
namespace L2
open PySem PySem.Spec PyProof.Rows
def Its (x:Str):It:=⟨fun i _=>i < x.cps.size,fun i H v H'=>H'=H ∧ ∃ c,x.cps[i]? = some c∧v=.str ⟨#[c]⟩,fun i _=>x.cps.size≤i⟩
theorem FE {P:Program} {w:World} {K:PySem.W.Frag} {tg:Expr} (it:Addr) (x:Str) (t:Tok):Da P w K tg (Its x) [it] it (fun i h=>h.IsStrIter it "str_ascii_iterator" x t i) where
  mem:=by simp
  obj:=fun i h st b hb=>by
    have e:b=it:=by simpa using hb
    subst e
    obtain⟨o,e,c,d⟩:=st
    exact⟨o,e,fun v z=>by rw [d] at z;cases z⟩
  keep:=fun i h h' st k=>let ⟨o,ho,r⟩:=st;⟨o,k it (by simp) o ho,r⟩
  item:=by
    intro X hP hw hK hc i pins s σ H E I hf st hg
    subst hP hw hK
    obtain⟨f0,f1,f2,f3,f4,f5⟩:=hf it (by simp)
    have hg:i < x.cps.size:=hg
    have hx:x.cps[i]? = some x.cps[i]:=Array.getElem?_eq_getElem hg
    refine wpAny_pyNext_ascii_item st hx fun h' st' sb => ?_
    have I1:Inv X pins σ H { s with heap:=h',toks:=s.toks + 1 }:=I.turned (fun b o hb e=>(sb.2 b hb).trans e) f0 f1 f3 f4 f5
    obtain⟨o,e,c,d⟩:=id st'
    exact⟨_,rfl,Cm (s:={ s with heap:=h',toks:=s.toks + 1 }) e c d (by decide) ⟨.str ⟨#[x.cps[i]]⟩,H,I1,⟨_,rfl⟩,⟨rfl,_,hx,rfl⟩,st',fun b hb=>(hf b hb).1⟩⟩
  done:=by
    intro X hP hw hK hc i pins s σ H E I hf st hg
    subst hP hw hK
    obtain⟨f0,f1,f2,f3,f4,f5⟩:=hf it (by simp)
    have hg:x.cps.size≤i:=hg
    exact wpAny_pyNext_ascii_end (I.ok.hd hc) st (Array.getElem?_eq_none hg) fun h' eb=>⟨rfl,I.turned (t':=s.toks) (fun b o hb e=>eb b o hb e) f0 f1 f3 f4 f5⟩
  self:=fun _ _ _ _ _ st h=>wpAny_pyIter_striter_ascii st h
section
variable {X:Cx} {tg:Expr}
theorem J2 {l:Expr}{tl:TE}(hl:PE X l tl):PI X tg l (fun σ H R=>tl σ H fun v H1=>∃ x:Str,v=.str x∧x.cps.all (· < 128)=true∧R (Its x) H1):=by
  intro pins s σ H R I h
  refine thn (hl pins s σ H _ I h) fun v s1 ⟨y,H1,I1,r1,q1⟩ => ?_
  obtain⟨x,e,ha,q⟩:=q1
  subst e
  obtain⟨t,rfl⟩:=r1
  refine wpAny_pyIter_ascii ha ?_
  refine⟨s1.heap.objs.size,[s1.heap.objs.size],_,_,H1,rfl,I1.kept (t':=s1.toks) fun b o e=>Heap.get?_push_of_some _ e,FE _ x t,⟨_,Heap.get?_push_size _ rfl,rfl,rfl⟩,fun b hb => ?_,q⟩
  have e:b=s1.heap.objs.size:=by simpa using hb
  subst e
  exact I1.fpOk (Nat.le_refl _) (I1.hok.fresh (Nat.le_refl _))
end
end L2
namespace Fm
open PySem PySem.Spec L2 PySem.W PyProof.Rows
section
variable {X:Cx} {pos p:Pos} {tg:Expr}
theorem yq:(1000000:Nat)≤sizeLine:=by rw [sizeLine_eq];decide
theorem FF {K:PySem.W.Frag}{ρ:List Addr}{H:Hp}(l:List Nat)(hz:l.length≤1000000):qu K ρ H (Its (toS l)) (l.map fun c=>D.str [c]) none where
  go:=fun ρ' H' hd' i d ex rh _ hi=>by
    have hin:i < l.length:=by
      have:=(List.getElem?_eq_some_iff.mp hi).1
      simpa using this
    refine⟨by show i < (l.toArray).size;rw [List.size_toArray];exact hin,fun x H2 y => ?_⟩
    obtain⟨rfl,c,hc,rfl⟩:=y
    have hc:l[i]? = some c:=by
      have:l.toArray[i]? = some c:=hc
      simpa using this
    have e:d=.str [c]:=by
      rw [List.getElem?_map,hc] at hi
      exact (Option.some.inj hi).symm
    subst e
    exact⟨gH.refl _,by simp only [RD];rfl⟩
  stop:=fun ρ' H' hd' ex rh _=>by
    show (l.toArray).size≤_
    simp
  sz:=by
    have:=yq
    simp;omega
theorem J3 {e:Expr}{f:EF}(h:ME X e f):MI X tg e (FD f):=by
  refine PI.imp (J2 h) fun σ H R ⟨ρ,σd,hd,rs,p⟩=>⟨ρ,σd,hd,rs,?_⟩
  unfold FD at p
  cases e:f σd hd with
  | exc x h1=>rw [e] at p;exact p
  | bad=>rw [e] at p;exact p
  | ok d hd1 =>
    rw [e] at p
    simp only [aq] at p
    intro v H1 ρ1 ex1 rs1 rv
    cases d<;>try exact p.elim
    rename_i l
    simp only at p
    simp only [rD,RD] at rv
    split at p
    · rename_i hb
      exact⟨toS l,rv,by show (l.toArray).all (· < 128)=true;rw [List.all_toArray];exact hb.2,p _ H1 ρ1 ex1 rs1 (FF l hb.1)⟩
    · exact p.elim
def LH:R2:=fun x y H Q=>∃ i j:Str,x=.str i∧y=.str j∧i.length + j.length≤sizeLine∧Q (.str (i++j)) H
theorem cT (a:List Nat):(toS a).length=a.length:=by
  show a.toArray.size=_
  rw [List.size_toArray]
theorem HK {K:PySem.W.Frag}:Og K iV LH:=by
  intro ρ H σd hd σ d k v w Q rs rv rw' pp
  cases d<;>try exact pp.elim
  cases k<;>try exact pp.elim
  rename_i a b
  simp only [RD] at rv rw'
  simp only [iV] at pp
  split at pp
  · rename_i hb
    refine⟨toS a,toS b,rv,rw',by rw [cT,cT];exact Nat.le_trans hb yq,?_⟩
    rw [kK]
    exact pp.here rs (by simp only [rD,RD])
  · exact pp.elim
theorem vf {a b:Expr}{fa fb:EF}(ha:ME X a fa)(hb:ME X b fb):ME X (.BinOp a .Add b pos) (aj iV fa fb):=aZ Az HK ha hb
theorem J4 {a b:Expr}{fa fb:EF}(ha:ME X a fa)(hb:ME X b fb)(hs:nU b):ME X (.Subscript a b pos) (HJ fa fb):=by
  refine me2 (a:=a) (b:=b) (g:=J1) (EX EY ha hb hs) fun ρ H σd hd σ d k v w Q rs rv rw' pp => ?_
  cases d<;>try exact pp.elim
  cases k<;>try exact pp.elim
  rename_i l i
  simp only [RD] at rv rw'
  simp only [J1] at pp
  split at pp
  · rename_i hb
    cases e:ixN l.length i with
    | none=>rw [e] at pp;exact pp.elim
    | some j =>
      rw [e] at pp
      simp only at pp
      cases e2:l[j]? with
      | none=>rw [e2] at pp;exact pp.elim
      | some c =>
        rw [e2] at pp
        refine⟨toS l,i,c,rv,rw',by rw [cT];exact Nat.le_trans hb yq,?_,pp.here rs (by simp only [rD,RD];rfl)⟩
        have hx:L2.ixN (toS l).cps.toList.length i=some j:=by
          have:(toS l).cps.toList=l:=rfl
          rw [this];exact e
        show (L2.ixN (toS l).cps.toList.length i).bind _=_
        rw [hx]
        exact e2
  · exact pp.elim
theorem HL {a:Expr} {fa:EF} (hg:Gl X "len") (hm:X.mg "len" = none) (ha:ME X a fa) (hs:starEach [a] X.env=(false,eval a X.env) :: starEach [] X.env:=by rfl):ME X (.Call (.Name "len" p) [a] [] pos) (CF fa):=by
  refine E9 (g:=fun x h=>match x with | .str l=>if l.length≤1000000 then .ok (.int l.length) h else .bad|_=>.bad) (E7 uQ hg hm PySem.boot_len (he:=hs)) ha (fun ρ H σd hd σ d v Q rs rv pp => ?_) hs
  cases d<;>try exact pp.elim
  rename_i l
  simp only [RD] at rv
  simp only at pp
  split at pp
  · rename_i hb
    refine⟨toS l,by rw [rv],by rw [cT];exact Nat.le_trans hb yq,?_⟩
    rw [cT]
    exact pp.here rs (by simp only [rD,RD])
  · exact pp.elim
theorem J5 (l:List Nat)(c:Nat):(!(Builtin.Str.occurrences (toS l) (toS [c]) 0 (toS l).length 1).isEmpty)=decide (c∈l):=StrLaws.found_one (toS l) c
theorem J6 {K:PySem.W.Frag}:Og K Dy (fun x y H Q=>∃ i j:Str,x=.str i∧y=.str j∧Q (.bl (!(Builtin.Str.occurrences j i 0 j.length 1).isEmpty)) H):=by
  intro ρ H σd hd σ d k v w Q rs rv rw' pp
  cases d<;>try exact pp.elim
  rename_i a
  rcases a with _|⟨c,_|⟨c2,r⟩⟩
  · exact pp.elim
  · cases k<;>try exact pp.elim
    rename_i l
    simp only [RD] at rv rw'
    refine⟨toS [c],toS l,rv,rw',?_⟩
    rw [J5]
    exact pp.here rs (by simp only [rD,RD])
  · exact pp.elim
theorem J7 {a b:Expr}{fa fb:EF}(ha:ME X a fa)(hb:ME X b fb)(hm:behindInMarks .In b=false):ME X (.Compare a [.In] [b] pos) (aj Dy fa fb):=fy Df J6 ha hb hm
end
end Fm
set_option Elab.async false
set_option linter.all false
set_option maxRecDepth 100000
namespace Fm
open PySem PySem.Spec L2 PyProof.Rows
section
variable {X:Cx} {pos p:Pos}
def spM (C:Addr):Sp:=fun vs H Q _=>∃ a,vs=[.ref a]∧H a=some (ID a C) ∧ ∀ H',gH H H'→Q (.bl true) H'
structure MU (P:Program) (w:World) (K:PySem.W.Frag) (mg:Str→Option Value) (base:Heap) (x:Str) (k:Nat) (C:Addr):Prop where
  ex:∃ f fd ps,mg x=some (.ref f)∧PySem.W.keepIn K (.ref f)=true∧jP K fd ps []∧b7 P w K mg base CX0 k f fd ps (spM C)
end
end Fm
set_option Elab.async false
set_option linter.all false
set_option maxRecDepth 100000
namespace L2
open PySem PySem.Spec PyProof.Rows
section
variable {X:Cx} {pos p:Pos} {e:Expr} {es:List Expr}
abbrev TJ:=Str→St→Hp→VK→Prop
def PJ (X:Cx) (es:List Expr) (t:TJ):Prop:=∀ (out:Str) (pins:List (Addr × Obj)) (s:Shared) (σ:St) (H:Hp) (Q:VK),Inv X pins σ H s→t out σ H Q→wpAny (model X.prog X.w) X.A (joinParts out (evalEach es X.env)) (EP X pins σ Q) X.xe s
theorem J8:PJ X [] (fun out σ H Q=>out.length≤sizeLine∧Q (.str out) H):=fun out pins s σ H Q I ⟨hz,q⟩=>joinParts_nil ⟨.str out,H,I.tok _,⟨_,rfl⟩,q⟩ hz
theorem HM {te:TE}{t:TJ}(he:PE X e te)(hr:PJ X es t)(hs:evalEach (e :: es) X.env=eval e X.env :: evalEach es X.env:=by rfl):PJ X (e :: es) (fun out σ H Q=>te σ H fun v H1=>∃ y:Str,v=.str y∧(out++y).length≤sizeLine∧t (out++y) σ H1 Q):=by
  intro out pins s σ H Q I h
  rw [hs]
  refine joinParts_cons (thn (he pins s σ H _ I h) fun v s1 ⟨x,H1,I1,r1,y,ey,hz,q⟩ => ?_)
  subst ey
  obtain⟨t',rfl⟩:=r1
  exact⟨hz,hr (out++y) pins s1 σ H1 Q I1 q⟩
theorem HN {t:TJ}{e2:Expr}(h:PJ X (e :: e2 :: es) t):PE X (.JoinedStr (e :: e2 :: es) pos) (fun σ H Q=>t Str.empty σ H Q):=by
  intro pins s σ H Q I q
  exact JoinedStr_many (h Str.empty pins s σ H Q I q)
theorem J9 {te:TE}(he:PE X e te):PE X (.FormattedValue e (-1) none pos) (fun σ H Q=>te σ H fun v H1=>∃ i:Int,v=.int i∧i.natAbs.log2 < 1920∧Q (.str (toString i)) H1):=by
  intro pins s σ H Q I h
  refine FormattedValue_plain (thn (he pins s σ H _ I h) fun v s1 ⟨x,H1,I1,r1,i,ei,hd,q⟩ => ?_)
  subst ei
  obtain⟨t',rfl⟩:=r1
  exact formatField_int_small hd ⟨.str (toString i),H1,I1.tok _,⟨_,rfl⟩,q⟩
end
end L2
namespace Fm
open PySem PySem.Spec L2 PySem.W PyProof.Rows
section
variable {X:Cx} {pos p:Pos} {e:Expr} {es:List Expr}
def MJ (X:Cx) (es:List Expr) (r:JF):Prop:=PJ X es (fun out σ H Q=>∃ l,out=toS l∧i6 X.K (rD X.K) (r l) σ H Q)
theorem vg:MJ X [] mD:=fun out pins s σ H Q I ⟨l,e,ρ,σd,hd,rs,pp⟩=>by
  unfold mD at pp
  split at pp
  · rename_i hb
    subst e
    exact J8 _ pins s σ H Q I ⟨by rw [cT];exact Nat.le_trans hb yq,pp.here rs (by simp only [rD,RD])⟩
  · exact pp.elim
theorem dR {a:EF}{r:JF}(he:ME X e a)(hr:MJ X es r)(hs:evalEach (e :: es) X.env=eval e X.env :: evalEach es X.env:=by rfl):MJ X (e :: es) (b6 a r):=fun out pins s σ H Q I ⟨l,eo,ρ,σd,hd,rs,pp⟩=>by
  subst eo
  refine HM he hr hs _ pins s σ H Q I ⟨ρ,σd,hd,rs,(aX.bind (R:=rD X.K) pp).imp fun v H1 ⟨ρ1,d,hd1,e1,rs1,rv,p1⟩ => ?_⟩
  cases d<;>try exact p1.elim
  rename_i y
  simp only [rD,RD] at rv
  simp only at p1
  split at p1
  · rename_i hb
    refine⟨toS y,rv,?_,l++y,kK l y,ρ1,σd,hd1,rs1,p1⟩
    rw [kK,cT,List.length_append]
    exact Nat.le_trans hb yq
  · exact p1.elim
theorem CG {e2:Expr}{r:JF}(h:MJ X (e :: e2 :: es) r):ME X (.JoinedStr (e :: e2 :: es) pos) (fFs r):=PE.imp (HN h) fun σ H Q q=>⟨[],rfl,q⟩
theorem mE {a:EF}(he:ME X e a):ME X (.FormattedValue e (-1) none pos) (dW a):=by
  refine PE.imp (J9 he) fun σ H Q ⟨ρ,σd,hd,rs,pp⟩=>⟨ρ,σd,hd,rs,(aX.bind (R:=rD X.K) pp).imp fun v H1 ⟨ρ1,d,hd1,e1,rs1,rv,p1⟩ => ?_⟩
  cases d<;>try exact p1.elim
  rename_i i
  simp only [rD,RD] at rv
  simp only at p1
  split at p1
  · rename_i hz
    exact⟨i,rv,hz,p1.here rs1 (by simp only [rD,RD];rw [PySem.Str.ofString_eq_toList];rfl)⟩
  · exact p1.elim
end
end Fm
set_option Elab.async false
set_option linter.all false
set_option maxRecDepth 100000
namespace HT
open PySem PySem.Spec
end HT
namespace L2
open PySem PySem.Spec PyProof.Rows
section
variable {X:Cx}
def Mt:V→Option Int→Option Int→Hp→VK→Prop:=fun x lo hi H Q=>∃ (z:Str) (y:List Nat),x=.str z∧z.length≤sizeLine∧Fm.AO z.cps.toList lo hi=some y∧Q (.str ⟨y.toArray⟩) H
theorem FH {x:Str}{j:Int}(h:0≤j∧j≤x.cps.toList.length):Txt.slice x none (some j)=⟨(x.cps.toList.take j.toNat).toArray⟩:=by
  have:=eq_of_beq (slice_closes_to h)
  rw [this];simp
theorem AQ {x:Str}{i:Int}(h:0≤i∧i≤x.cps.toList.length):Txt.slice x (some i) none=⟨(x.cps.toList.drop i.toNat).toArray⟩:=by
  have:=eq_of_beq (slice_closes_from h)
  rw [this]
  congr 2
  exact List.take_of_length_le (by rw [List.length_drop];omega)
theorem Ka:SlR X Mt:=by
  intro pins s σ H x v vl vu lo hi sl Q I rx hs pl pu h
  obtain⟨z,y,rfl,hz,hy,q⟩:=h
  obtain⟨t,rfl⟩:=rx
  refine⟨"str",_,slot_str_getitem.lookup,typeIs_str _ _ _,?_⟩
  cases pl with
  | none =>
    cases pu with
    | none=>cases hy
    | int j tj =>
      simp only [Fm.AO] at hy
      split at hy
      · rename_i hb
        cases hy
        have e:=FH (x:=z) hb
        exact wpAny_getItem_str_slice (l:=none) (u:=some (j,tj)) (st:=none) hs rfl (post_val_or_str ⟨Nat.le_trans (Txt.slice_le z _ _) hz,fun t' k=>⟨.str ⟨(z.cps.toList.take j.toNat).toArray⟩,H,I.tok k,⟨t',by rw [← e];rfl⟩,q⟩⟩)
      · cases hy
  | int i ti =>
    cases pu with
    | int j tj=>cases hy
    | none =>
      simp only [Fm.AO] at hy
      split at hy
      · rename_i hb
        cases hy
        have e:=AQ (x:=z) hb
        exact wpAny_getItem_str_slice (l:=some (i,ti)) (u:=none) (st:=none) hs rfl (post_val_or_str ⟨Nat.le_trans (Txt.slice_le z _ _) hz,fun t' k=>⟨.str ⟨(z.cps.toList.drop i.toNat).toArray⟩,H,I.tok k,⟨t',by rw [← e];rfl⟩,q⟩⟩)
      · cases hy
end
end L2
namespace Fm
open PySem PySem.Spec L2 PySem.W PyProof.Rows
section
variable {X:Cx} {pos p:Pos}
theorem Dz {a:Expr}{fa:EF}{lo hi:Option Expr}{fl fh:OF}{p2:Pos}(ha:ME X a fa)(hl:MO X lo fl)(hh:MO X hi fh):ME X (.Subscript a (.Slice lo hi none p2) pos) (n8 fa fl fh):=by
  refine PE.imp (oA Ka ha hl hh) fun σ H Q ⟨ρ,σd,hd,rs,pp⟩ => ?_
  unfold n8 at pp
  refine⟨ρ,σd,hd,rs,(aX.bind (R:=rD X.K) pp).imp fun v H1 ⟨ρ1,d,hd1,e1,rs1,rv,p1⟩ => ?_⟩
  refine⟨ρ1,σd,hd1,rs1,(aX.bind (R:=rO) p1).imp fun o1 H2 ⟨ρ2,o1',hd2,e2,rs2,q2,p2⟩ => ?_⟩
  cases q2
  refine⟨ρ2,σd,hd2,rs2,(aX.bind (R:=rO) p2).imp fun o2 H3 ⟨ρ3,o2',hd3,e3,rs3,q3,p3⟩ => ?_⟩
  cases q3
  have rv3:=(rv.mono (rs1.hp.kp e2)).mono (rs2.hp.kp e3)
  cases d with
  | str l =>
    simp only [RD] at rv3
    simp only at p3
    split at p3
    · rename_i hb
      cases e:AO l o1 o2 with
      | none=>rw [e] at p3;exact p3.elim
      | some y =>
        rw [e] at p3
        exact⟨toS l,y,rv3,by rw [cT];exact Nat.le_trans hb yq,e,p3.here rs3 (by simp only [rD,RD];rfl)⟩
    · exact p3.elim
  | _=>exact p3.elim
end
end Fm
set_option Elab.async false
set_option linter.all false
set_option maxRecDepth 100000
namespace Fm
open PySem PySem.Spec L2 PySem.W PyProof.Rows
section
variable {X:Cx} {pos p p2:Pos}
theorem FI {x:Str} {y:Str} {t:Tok} (l:List Nat) (h:y=toS l) (hg:Gl X x) (hm:X.mg x=some (.str y t)) (hd:(x == ("__debug__" : Str))=false:=by decide):ME X (.Name x pos) (fC (.str l)) :=
  PE.imp (nT (v:=.str y) hg hm ⟨t,rfl⟩ hd) (mn fun _ _=>by simp only [RD];rw [h])
theorem jH {a:Expr} {fa:EF} (hg:Gl X "str") (hm:X.mg "str" = none) (ha:ME X a fa) (hs:starEach [a] X.env=(false,eval a X.env) :: starEach [] X.env:=by rfl):ME X (.Call (.Name "str" p) [a] [] pos) (dW fa):=by
  refine E9 (g:=fun x h=>match x with | .int i=>if i.natAbs.log2 < 1920 then .ok (.str (yn (toString i))) h else .bad|_=>.bad) (E8 uM hg hm (by decide +kernel) (he:=hs)) ha (fun ρ H σd hd σ d v Q rs rv p => ?_) hs
  cases d<;>first|exact p.elim|skip
  rename_i i
  simp only [RD] at rv;subst rv
  simp only at p
  split at p
  · rename_i hz
    exact⟨i,rfl,hz,p.here rs (by simp only [rD,RD];rw [PySem.Str.ofString_eq_toList];rfl)⟩
  · exact p.elim
theorem jI (l:List Nat):(toS l).cps.toList=l:=by simp [toS]
theorem CH {l:List Nat}(h:Dw l=true):NumText.AllDigits l∧l≠[]:=by
  simp only [Dw,Bool.and_eq_true,Bool.not_eq_true',List.all_eq_true,decide_eq_true_eq] at h
  exact⟨h.2,fun e=>by rw [e] at h;simp at h⟩
theorem HP {l:List Nat}{n:Int}(hz:l.length≤600)(h:kJ l=some n):PySem.intText? (toS l)=some n:=by
  cases l with
  | nil=>cases h
  | cons c r =>
    have hl:(toS (c :: r)).length≤4300:=by rw [cT];omega
    rw [kJ] at h
    split at h
    · rename_i e
      subst e
      split at h
      · rename_i f
        obtain⟨f1,f2⟩:=CH f
        cases h
        exact PySem.intText_neg (jI _) f1 f2 hl
      · cases h
    · split at h
      · rename_i f
        obtain⟨f1,f2⟩:=CH f
        cases h
        have:=PySem.intText_digits (x:=toS (c :: r)) (by rw [jI];exact f1) (by rw [jI];exact f2) hl
        rw [jI] at this
        exact this
      · cases h
theorem DA:fF X (.type "int") (fun xs H Q=>∃ (l:List Nat) (n:Int),xs=[.str (toS l)]∧l.length≤600∧kJ l=some n∧Q (.int n) H):=by
  intro pins s σ H xs us Q I r h
  obtain⟨l,n,rfl,hz,hn,q⟩:=h
  obtain⟨u,rfl,ru⟩:=aN.one r
  obtain⟨t,rfl⟩:=ru
  refine KIN.call_text (HP hz hn) (by rw [cT];omega) ⟨.int n,H,?_,⟨_,rfl⟩,q⟩
  exact I.kept (t':=s.toks + 1) fun b o e=>e
theorem HQ {a:Expr} {fa:EF} (hg:Gl X "int") (hm:X.mg "int" = none) (ha:ME X a fa) (hs:starEach [a] X.env=(false,eval a X.env) :: starEach [] X.env:=by rfl):ME X (.Call (.Name "int" p) [a] [] pos) (t8 fa):=by
  refine E9 (g:=fun x h=>match x with | .str l=>if l.length≤600 then (match kJ l with|some n=>.ok (.int n) h|none=>.bad) else .bad|_=>.bad) (E8 DA hg hm (by decide +kernel) (he:=hs)) ha (fun ρ H σd hd σ d v Q rs rv p => ?_) hs
  cases d<;>first|exact p.elim|skip
  rename_i l
  simp only [RD] at rv;subst rv
  simp only at p
  split at p
  · rename_i hz
    cases c:kJ l with
    | none=>rw [c] at p;exact p.elim
    | some n=>rw [c] at p;exact⟨l,n,rfl,hz,c,p.here rs (by simp only [rD,RD])⟩
  · exact p.elim
def IJ:Option Int→KTD.Dat
  | some i=>.flat (.int i)
  | none=>.flat .none
def t9 (T:Tab):List (Str × KTD.Dat):=T.map fun p=>(toS p.1,IJ p.2)
def oY (K:PySem.W.Frag) (a:Addr) (T:Tab):Prop:=KTD.tabLook (KTD.datLooks fun b=>K.lookup b) (fun b=>K.lookup b) a (t9 T)=true
theorem vh {l k:List Nat}:toS l=toS k ↔ l=k:=⟨fun e=>by rw [← jI l,e,jI],fun e=>by rw [e]⟩
theorem vj:∀ (T:Tab) (l:List Nat),KTD.inKeys (toS l) (t9 T)=(gl T l).isSome
  | [],_=>rfl
  | (k,d) :: T,l=>by
    have ih:=vj T l
    show (decide (toS l=toS k) || KTD.inKeys (toS l) (t9 T))=_
    rw [ih]
    unfold gl
    rw [List.lookup_cons]
    by_cases e:l=k
    · subst e;simp
    · have e2:(l == k)=false:=by simpa using e
      rw [e2,decide_eq_false (fun z=>e (vh.mp z))];rfl
theorem CJ {h:Heap}{P:Value→Prop}{l:List Nat}:∀ {T:Tab} {d:Option Int},gl T l=some d→(∀ v,bq (match d with|some i=>V.int i|none=>V.non) v→P v)→KTD.EachL h (toS l) P (t9 T)
  | [],_,e,_=>by cases e
  | (k,d') :: T,d,e,q=>by
    unfold gl at e
    rw [List.lookup_cons] at e
    have op:l=k→KTD.Opened h P (IJ d'):=fun z=>by
      subst z
      rw [show (l == l)=true by simp] at e
      cases e
      cases d' with
      | none=>exact q _ rfl
      | some i=>exact fun t=>q _ ⟨t,rfl⟩
    cases T with
    | nil=>exact fun z=>op (vh.mp z)
    | cons x T =>
      show if decide (toS l=toS k)=true then _ else _
      by_cases z:l=k
      · rw [if_pos (by rw [z];simp)];exact op z
      · rw [if_neg (by simpa using fun y=>z (vh.mp y))]
        have e2:(l == k)=false:=by simpa using z
        rw [e2] at e
        exact CJ (T:=x :: T) (d:=d) e q
theorem CK {pins:List (Addr × Obj)}{σ:L2.St}{H:Hp}{s:Shared}{a:Addr}{T:Tab}(I:Inv X pins σ H s)(t:oY X.K a T):KTD.Here s.heap s.heap a (t9 T):=⟨PySem.W.kt_text_in I.kIn t,fun _ _ e=>e⟩
theorem DB {a:Addr}{T:Tab}(t:oY X.K a T):OpR X (compareOp .NotIn) (fun x y H Q=>∃ l,x=.str (toS l)∧y=.ref a∧Q (.bl (gl T l).isNone) H):=by
  intro pins s σ H x y v u Q I rx ry h
  obtain⟨l,rfl,rfl,q⟩:=h
  obtain⟨tk,rfl⟩:=rx
  cases (show u=Value.ref a from ry)
  refine KTD.notin_text (CK I t) ⟨.bl (gl T l).isNone,H,I.kept (t':=s.toks + 1) fun b o e=>e,?_,q⟩
  rw [vj]
  cases gl T l<;>rfl
theorem DC {a:Expr} {fa:EF} {x:Str} {A:Addr} {T:Tab} (hg:Gl X x) (hm:X.mg x=some (.ref A)) (t:oY X.K A T) (ha:ME X a fa) (hb:behindInMarks .NotIn (.Name x p)=false) (hd:(x == ("__debug__" : Str))=false:=by decide):MT X (.Compare a [.NotIn] [.Name x p] pos) (tE (n6 T fa)):=by
  refine PT.imp (Cn (DB t) ha (nT (v:=.ref A) hg hm rfl hd) hb) fun σ H Q ⟨ρ,σd,hd,rs,pp⟩ => ?_
  have pp:=jE pp
  refine⟨ρ,σd,hd,rs,(aX.bind (R:=rD X.K) pp).imp fun v H1 ⟨ρ1,d,hd1,e1,rs1,rv,p1⟩ => ?_⟩
  cases d<;>try exact p1.elim
  rename_i l
  simp only [rD,RD] at rv
  simp only at p1
  exact⟨l,rv,rfl,p1.here rs1 (by simp only [rD,RD])⟩
theorem FJ {b:Expr} {fb:EF} {x:Str} {A:Addr} {T:Tab} (hg:Gl X x) (hm:X.mg x=some (.ref A)) (t:oY X.K A T) (hb:ME X b fb) (hs:Lz b:=by intro _ _;rfl) (hd:(x == ("__debug__" : Str))=false:=by decide):ME X (.Subscript (.Name x p) b pos) (ve T fb):=by
  intro pins s σ H Q I ⟨ρ,σd,hd',rs,pp⟩
  refine HD PySem.F.slot_dict_getitem.lookup hs (thn (nT (v:=.ref A) hg hm rfl hd pins s σ H (fun y H1=>y=.ref A∧H1=H) I ⟨rfl,rfl⟩) fun u s1 ⟨y,H1,I1,ry,e1,e2⟩ => ?_)
  subst e1 e2
  obtain rfl:u=Value.ref A:=ry
  refine thn (hb pins s1 σ H1 (fun z H2=>∃ l d,z=.str (toS l)∧gl T l=some d∧Q (match d with|some i=>V.int i|none=>V.non) H2) I1 ⟨ρ,σd,hd',rs,(aX.bind (R:=rD X.K) pp).imp fun v H2 ⟨ρ1,d,hd1,e1,rs1,rv,p1⟩ => ?_⟩) fun iv s2 ⟨z,H2,I2,rz,l,d,ez,et,q⟩ => ?_
  · cases d<;>try exact p1.elim
    rename_i l
    simp only [rD,RD] at rv
    simp only at p1
    cases c:gl T l with
    | none=>rw [c] at p1;exact p1.elim
    | some d =>
      rw [c] at p1
      refine⟨l,d,rv,c,p1.here rs1 ?_⟩
      cases d<;>simp only [rD,RD,HH]
  · subst ez
    obtain⟨tk,rfl⟩:=rz
    have Hh:=CK I2 t
    have hT:s2.TypeIs (.ref A) "dict" := Hh.typeIs
    refine⟨hT,?_⟩
    unfold getItem
    try with_reducible refine wpAny_holding ?_
    refine wpAny_bind (wpAny_sequenceKey hT (by decide) ?_)
    refine wpAny_bind (wpAny_callSpecial?_slot (name:=Str.ofString "__getitem__") hT PySem.F.slot_dict_getitem (wpAny_call_entry PySem.F.slot_dict_getitem hT PySem.F.entry_dict_getitem ?_ (PySem.F.args_dict_getitem_2 _ _)))
    show wpAny _ _ (dictGet A (.str (toS l) tk) >>= _) _ _ s2
    have I3:Inv X pins σ H2 { s2 with toks:=s2.toks + 1 }:=I2.kept (t':=s2.toks + 1) fun b o e=>e
    refine wpAny_bind (KTD.dictGet_text Hh (fun d' v ha hv=>wpAny_pure ⟨v,rfl,wpAny_pure ?_⟩) fun hn => ?_)
    · exact (CJ (h:=s2.heap) (P:=fun v=>EP X pins σ Q v { s2 with toks:=s2.toks + 1 }) et fun v rv=>⟨_,H2,I3,rv,q⟩).some_of d' v ha hv
    · have:=KTD.isSome_datumAt (k:=toS l) (D:=t9 T)
      rw [hn,vj,et] at this
      cases this
end
end Fm
set_option linter.all false
namespace Fm
def yr (x y:EF):EF:=fun σ h=>(x σ h).bind fun p h=>match p with
  | .ref n=>match h[n]? with
    | some (.lst _)=>(y σ h).bind fun q h=>match q with
      | .ref m=>match h[n]?,h[m]? with
        | some (.lst l),some (.lst k)=>if l.length + k.length≤SZ then .ok .non (h.set n (.lst (l++k))) else .bad
        | _,_=>.bad
      | _=>.bad
    | _=>.bad
  | _=>.bad
end Fm
set_option Elab.async false
set_option linter.all false
set_option maxRecDepth 100000
namespace Fm
open PySem PySem.Spec L2 PySem.W PyProof.Rows
section
variable {X:Cx}
theorem HR {o e:Expr} {fo fe:EF} {apos cpos:Pos} (ho:ME X o fo) (he:ME X e fe) (hbase:attributeBase o "extend" X.env (eval o X.env)=eval o X.env:=by rfl)
    (hfew:((backTo cpos (starEach [e] X.env)).all (fun x => !x.1) && (backToKw cpos (keywordEach [] X.env)).all (fun x=>x.1.isSome)
      && decide (([e] : List Expr).length + ([] : List Keyword).length + (if ([] : List Keyword).isEmpty then 0 else 1) < 30))=true:=by rfl)
    (hline:(apos.endLine == cpos.line)=true:=by rfl) (hs:starEach [e] X.env=(false,eval e X.env) :: starEach [] X.env:=by rfl) :
    ME X (.Call (.Attribute o "extend" apos) [e] [] cpos) (yr fo fe):=by
  refine PE.imp (oC PySem.F.plainAttrs_list PySem.F.slot_list_extend PySem.F.type_list_extend tQ ho (bz he cR hs) hbase hfew hline hs) fun σ H Q ⟨ρ,σd,hd,rs,pp⟩=>⟨ρ,σd,hd,rs,?_⟩
  unfold yr at pp
  refine (aX.bind (R:=rD X.K) pp).imp fun v H1 ⟨ρ1,d,hd1,e1,rs1,rv,p1⟩ => ?_
  cases d<;>try exact p1.elim
  rename_i n
  simp only [rD,RD] at rv
  obtain⟨a,ha,rfl⟩:=rv
  simp only at p1
  cases c1:hd1[n]? with
  | none=>rw [c1] at p1;exact p1.elim
  | some cell1 =>
    rw [c1] at p1
    cases cell1 with
    | dct l=>exact p1.elim
    | lst l1 =>
      obtain⟨vs,hv,_⟩:=rs1.hp.cel n _ a c1 ha
      simp only at p1
      refine⟨.inl ⟨rfl,vs,SqL.of hv⟩,ρ1,σd,hd1,rs1,?_⟩
      refine (aX.bind (R:=rD X.K) p1).imp fun v2 H2 ⟨ρ2,d2,hd2,e2,rs2,rv2,p2⟩ => ?_
      cases d2<;>try exact p2.elim
      rename_i m
      simp only [rD,RD] at rv2
      obtain⟨b,hb,rfl⟩:=rv2
      simp only at p2
      cases c:hd2[n]? with
      | none=>rw [c] at p2;exact p2.elim
      | some cell =>
        cases d:hd2[m]? with
        | none=>rw [c,d] at p2;cases cell<;>exact p2.elim
        | some cell' =>
          rw [c,d] at p2
          cases cell<;>cases cell'<;>try exact p2.elim
          rename_i l k
          simp only at p2
          split at p2
          · rename_i hz
            have ha2:=e2.get ha
            obtain⟨vs2,hv2,rvs2⟩:=rs2.hp.cel n _ a c ha2
            obtain⟨ws,hw,rws⟩:=rs2.hp.cel m _ b d hb
            refine⟨a,b,vs2,ws,rfl,rfl,hv2,hw,?_,?_⟩
            · rw [← rvs2.length,← rws.length];exact Nat.le_trans hz (by rw [sizeLine_eq];decide)
            · have hn:n < hd2.length:=(List.getElem?_eq_some_iff.mp c).1
              have rh:=rs2.hp.write ha2 hn (RDs.append rvs2 rws)
              have ex:Ext ρ2 H2 ρ2 (upd H2 a (.lst (vs2++ws))):=Ext.write (List.mem_of_getElem? ha2)
              exact p2.at ex (rs2.ext ex rh) (by simp only [rD,RD])
          · exact p2.elim
end
end Fm
set_option linter.all false
namespace Fm
end Fm
set_option linter.all false
namespace Fm
def im (a:EF) (lo hi:OF):EF:=fun σ h=>(a σ h).bind fun x h=>(lo σ h).bind fun i h=>(hi σ h).bind fun j h=>match x with
  | .tup l=>.ok (.tup (cut l i j)) h
  | _=>.bad
end Fm
set_option Elab.async false
set_option linter.all false
set_option maxRecDepth 100000
namespace HT
open PySem PySem.Spec PyProof.Rows L2
section
variable {prog:Program} {w:World} {A:Around} {E:Value→Shared→Prop} {s:Shared}
theorem getItem_tuple_whole {t sl:Addr}{items:Array Value}{vl vu:Value}{lo hi:Option Int}{Q:Value→Shared→Prop}(ht:IsTup s.heap t items)(hs:s.heap.IsSliceOf sl vl vu .none)(pl:IsPart vl lo)(pu:IsPart vu hi)
    (hw:sIx items.size 0 lo=0∧sIx items.size items.size hi=items.size) (h:Q (.ref t) s):wpAny (model prog w) A (getItem (.ref t) (.ref sl)) Q E s:=by
  obtain⟨os,hos,hcs,hds⟩:=id hs
  have hTs:s.TypeIs (.ref sl) "slice" := ⟨os,hos,hcs⟩
  unfold getItem
  try with_reducible refine wpAny_holding ?_
  first|refine wpAny_bind (wpAny_pure ?_)|skip
  refine wpAny_bind (wpAny_sequenceKey ht.typeIs (by decide) ?_)
  refine wpAny_bind (wpAny_callSpecial?_slot (name:=Str.ofString "__getitem__") ht.typeIs PyProof.Rows.slot_tuple_getitem
    (wpAny_call_entry PyProof.Rows.slot_tuple_getitem ht.typeIs entry_tuple_getitem ?_ (args_tuple_getitem _ _)))
  show wpAny _ _ (Builtin.Tuple.tupleItemsOf (.ref t) >>= _) _ _ s
  refine wpAny_bind (tupleItemsOf_ ht ?_)
  refine wpAny_bind (wpAny_typeOf hTs ?_)
  rw [if_pos (by decide)]
  refine wpAny_bind (gG hs pl pu ?_)
  have hyes:((((sIx items.size 0 lo:Nat):Int) == 0 && (1:Int) == 1 && (sIx items.size items.size hi - sIx items.size 0 lo) == items.size)=true):=by
    rw [hw.1,hw.2];simp
  show wpAny _ _ (if (((sIx items.size 0 lo:Nat):Int) == 0 && (1:Int) == 1 && (sIx items.size items.size hi - sIx items.size 0 lo) == items.size)=true then _ else _) _ _ s
  rw [if_pos hyes]
  refine wpAny_bind ?_
  unfold Builtin.Tuple.tupleIsExact
  refine wpAny_bind (wpAny_typeOf ht.typeIs (wpAny_pure ?_))
  rw [if_pos (by decide)]
  refine wpAny_bind (wpAny_rule ?_)
  first
    | exact wpAny_pure ⟨_,rfl,wpAny_pure h⟩
    | exact wpAny_bind (wpAny_pure ⟨_,rfl,wpAny_pure h⟩)
    | exact wpAny_bind (wpAny_pure (wpAny_pure ⟨_,rfl,wpAny_pure h⟩))
end
end HT
namespace Fm
open PySem PySem.Spec L2 PySem.W PyProof.Rows
section
variable {X:Cx} {pos p:Pos}
def LJ (K:PySem.W.Frag):V→Option Int→Option Int→Hp→VK→Prop:=fun x lo hi H Q=>∃ a xs,x=.ref a∧SqT K H a xs ∧
  ((HT.sIx xs.length 0 lo=0∧HT.sIx xs.length xs.length hi=xs.length)→Q (.ref a) H) ∧
  (¬ (HT.sIx xs.length 0 lo=0∧HT.sIx xs.length xs.length hi=xs.length) → ∀ p,H p=none→Q (.ref p) (upd H p (.tup (mj xs lo hi))))
theorem HS:SlR X (LJ X.K):=by
  intro pins s σ H x v vl vu lo hi sl Q I rx hs pl pu h
  obtain⟨a,xs,rfl,hx,q1,q2⟩:=h
  by_cases hw:HT.sIx xs.length 0 lo=0∧HT.sIx xs.length xs.length hi=xs.length
  · cases rx
    obtain⟨its,r,ht,hz⟩:=I.tuple hx
    have hlen:its.toArray.size=xs.length:=by rw [List.size_toArray];exact r.length.symm
    refine⟨"tuple",_,PyProof.Rows.slot_tuple_getitem.lookup,ht.typeIs,?_⟩
    exact HT.getItem_tuple_whole ht hs pl pu (by rw [hlen];exact hw) ⟨.ref a,H,I,rfl,q1 hw⟩
  · exact EV pins s σ H _ v vl vu lo hi sl Q I rx hs pl pu ⟨a,xs,rfl,hx,hw,q2 hw⟩
theorem DE {l:List D}{i j:Option Int}(h:sIx l.length 0 i=0∧sIx l.length l.length j=l.length):cut l i j=l:=by
  unfold cut
  rw [h.1,h.2];simp
theorem ua {a:Expr}{fa:EF}{lo hi:Option Expr}{fl fh:OF}{p2:Pos}(ha:ME X a fa)(hl:MO X lo fl)(hh:MO X hi fh):ME X (.Subscript a (.Slice lo hi none p2) pos) (im fa fl fh):=by
  refine PE.imp (oA HS ha hl hh) fun σ H Q ⟨ρ,σd,hd,rs,pp⟩ => ?_
  unfold im at pp
  refine⟨ρ,σd,hd,rs,(aX.bind (R:=rD X.K) pp).imp fun v H1 ⟨ρ1,d,hd1,e1,rs1,rv,p1⟩ => ?_⟩
  refine⟨ρ1,σd,hd1,rs1,(aX.bind (R:=rO) p1).imp fun o1 H2 ⟨ρ2,o1',hd2,e2,rs2,q2,p2⟩ => ?_⟩
  cases q2
  refine⟨ρ2,σd,hd2,rs2,(aX.bind (R:=rO) p2).imp fun o2 H3 ⟨ρ3,o2',hd3,e3,rs3,q3,p3⟩ => ?_⟩
  cases q3
  have rv3:=(rv.mono (rs1.hp.kp e2)).mono (rs2.hp.kp e3)
  cases d with
  | tup l =>
    simp only at p3
    simp only [RD] at rv3
    obtain⟨q,vs,rfl,hq,rvs⟩:=rv3
    have e:∀ (n d:Nat) (o:Option Int),Fm.sIx n d o=HT.sIx n d o:=fun n d o=>by cases o<;>rfl
    refine⟨q,vs,rfl,SqT.of hq,fun hw => ?_,fun _ q' hq' => ?_⟩
    · rw [← rvs.length,← e,← e] at hw
      rw [DE hw] at p3
      exact p3.here rs3 (by simp only [rD,RD];exact⟨q,vs,rfl,hq,rvs⟩)
    · have sm:=ce (o:=HO.tup (mj vs o1 o2)) hq'
      exact p3.at (Ext.same sm) (rs3.same sm) (by simp only [rD,RD];exact⟨q',_,rfl,a6,(u0 rvs).mono (Kp.same sm)⟩)
  | _=>exact p3.elim
end
end Fm
set_option linter.all false
namespace Fm
def io (a b:EF):EF:=fun σ h=>(a σ h).bind fun x h=>match x with
  | .str l=>(b σ h).bind fun y h=>match y with
    | .str k=>.ok (.bl (decide (k.length≤l.length) && (l.take k.length == k))) h
    | _=>.bad
  | _=>.bad
end Fm
set_option linter.all false
namespace Fm
def bI (sp:List Nat):List (List Nat)→List Nat
  | []=>[]
  | [x]=>x
  | x :: y :: r=>x++sp++bI sp (y :: r)
def jc (sp:List Nat) (a:LF):EF:=fun σ h=>(a σ h).bind fun l h=>match jR l with
  | some ss=>if (ss.map (·.length)).sum + ss.length * sp.length≤1000000 then .ok (.str (bI sp ss)) h else .bad
  | none=>.bad
end Fm
set_option Elab.async false
set_option linter.all false
set_option maxRecDepth 100000
namespace Fm
open PySem PySem.Spec L2 PySem.W PyProof.Rows
theorem mF (sp:List Nat):∀ ss:List (List Nat),Str.join (toS sp) (ss.map toS)=toS (bI sp ss)
  | []=>rfl
  | [x]=>rfl
  | x :: y :: r=>by
    have ih:=mF sp (y :: r)
    show toS x++toS sp++Str.join (toS sp) ((y :: r).map toS)=_
    rw [ih,kK,kK];rfl
theorem ub (sp:List Nat)(ss:List (List Nat)):Txt.join (toS sp) (ss.map toS)=toS (bI sp ss):=(StrLaws.glued_eq_join _ _).trans (mF sp ss)
def Kb (K:PySem.W.Frag) (sp:List Nat):V→List V→Hp→VK→Prop:=fun x vs H Q=>∃ (q:Addr) (ss:List (List Nat)),x=.str (toS sp)∧vs=[.ref q]∧(SqL K H q (ss.map fun x=>V.str (toS x))∨H q=some (.tup (ss.map fun x=>V.str (toS x))))∧(ss.map (·.length)).sum + ss.length * sp.length≤1000000∧Q (.str (toS (bI sp ss))) H
section
variable {X:Cx} {pos p:Pos}
theorem FK (sp:List Nat):MtR X "str.join" (Kb X.K sp):=by
  intro pins s σ H x vs v us Q I rx rv h
  obtain⟨q,ss,rfl,rfl,sq,hz,hq⟩:=h
  obtain⟨t,rfl⟩:=rx
  obtain⟨u,rfl,ru⟩:=rv.one
  cases (show u=Value.ref q from ru)
  have hb:((ss.map toS).map (·.length)).sum + (ss.map toS).length * (toS sp).length≤16777216:=by
    have:((ss.map toS).map (·.length))=ss.map (·.length):=by rw [List.map_map];apply List.map_congr_left;intro a _;simp [toS,Str.length]
    rw [this,List.length_map,cT]
    omega
  rcases sq with sq|sq
  · obtain⟨its,r,pl,_⟩:=I.list sq
    exact join_list pl.isList (by rw [List.toList_toArray];exact oX r) hb fun t' k=>⟨.str (toS (bI sp ss)),H,I.tok k,⟨t',by rw [ub]⟩,hq⟩
  · obtain⟨_,its,r,ht⟩:=I.hok q _ sq
    exact join_tuple ht (by rw [List.toList_toArray];exact oX r) hb fun t' k=>⟨.str (toS (bI sp ss)),H,I.tok k,⟨t',by rw [ub]⟩,hq⟩
theorem oZ {sp:List Nat} {e:Expr} {L:LF} {apos cpos p1:Pos} {j} {x:Str} (hx:x=toS sp) (he:MQ X e L) (hbase:attributeBase (.Constant (.str x) j p1) "join" X.env (eval (.Constant (.str x) j p1) X.env)=eval (.Constant (.str x) j p1) X.env:=by rfl)
    (hfew:((backTo cpos (starEach [e] X.env)).all (fun x => !x.1) && (backToKw cpos (keywordEach [] X.env)).all (fun x=>x.1.isSome)
      && decide (([e] : List Expr).length + ([] : List Keyword).length + (if ([] : List Keyword).isEmpty then 0 else 1) < 30))=true:=by rfl)
    (hline:(apos.endLine == cpos.line)=true:=by rfl) (hs:starEach [e] X.env=(false,eval e X.env) :: starEach [] X.env:=by rfl) :
    ME X (.Call (.Attribute (.Constant (.str x) j p1) "join" apos) [e] [] cpos) (jc sp L):=by
  refine PE.imp (oC PySem.F.plainAttrs_str PySem.F.slot_str_join PySem.F.type_str_join (FK sp) Au (bz he cR hs) hbase hfew hline hs) fun σ H Q ⟨ρ,σd,hd,rs,pp⟩=>⟨rfl,ρ,σd,hd,rs,(aX.bind (R:=rQ X.K) pp).imp fun v H1 ⟨ρ1,l,hd1,e1,rs1,⟨q,vs,hv,sq,rvs⟩,p1⟩ => ?_⟩
  subst hv
  cases c:jR l with
  | none=>simp only [c] at p1;exact p1.elim
  | some ss =>
    simp only [c] at p1
    split at p1
    · rename_i hz
      have e:=yp rvs c
      subst e
      exact⟨q,ss,by rw [hx],rfl,sq,hz,p1.here rs1 (by simp only [rD,RD])⟩
    · exact p1.elim
end
end Fm
set_option Elab.async false
set_option linter.all false
set_option maxRecDepth 100000
namespace L2
open PySem PySem.Spec PyProof.Rows Builtin.Str
section
variable {X:Cx}
theorem DF:MtR X "str.startswith" (fun x vs H Q=>∃ a b:Str,x=.str a∧vs=[.str b]∧Q (.bl (decide (0 + b.length≤a.length) && subAt a b 0)) H):=by
  intro pins s σ H x vs v us Q I rx rv h
  obtain⟨a,b,rfl,rfl,q⟩:=h
  obtain⟨t,rfl⟩:=rx
  obtain⟨u,rfl,ru⟩:=rv.one
  obtain⟨t',rfl⟩:=ru
  exact call_gives F.slot_str_startswith (typeIs_str _ _ _) F.entry_str_startswith (F.args_str_startswith_2 _ _) (gives_str_startswith a b t t') ⟨.bl (decide (0 + b.length≤a.length) && subAt a b 0),H,I,rfl,q⟩
end
end L2
namespace Fm
open PySem PySem.Spec L2 PySem.W PyProof.Rows Builtin.Str
section
variable {X:Cx} {pos p:Pos}
theorem Mu (l k:List Nat):(decide (0 + (toS k).length≤(toS l).length) && subAt (toS l) (toS k) 0)=(decide (k.length≤l.length) && (l.take k.length == k)):=by
  rw [StrLaws.subAt_eq,cT,cT,Nat.zero_add];rfl
theorem uc {o e:Expr} {fo fe:EF} {apos cpos:Pos} (ho:ME X o fo) (he:ME X e fe) (hbase:attributeBase o "startswith" X.env (eval o X.env)=eval o X.env:=by rfl)
    (hfew:((backTo cpos (starEach [e] X.env)).all (fun x => !x.1) && (backToKw cpos (keywordEach [] X.env)).all (fun x=>x.1.isSome)
      && decide (([e] : List Expr).length + ([] : List Keyword).length + (if ([] : List Keyword).isEmpty then 0 else 1) < 30))=true:=by rfl)
    (hline:(apos.endLine == cpos.line)=true:=by rfl) (hs:starEach [e] X.env=(false,eval e X.env) :: starEach [] X.env:=by rfl) :
    ME X (.Call (.Attribute o "startswith" apos) [e] [] cpos) (io fo fe):=by
  refine PE.imp (oC PySem.F.plainAttrs_str PySem.F.slot_str_startswith PySem.F.type_str_startswith DF ho (bz he cR hs) hbase hfew hline hs) fun σ H Q ⟨ρ,σd,hd,rs,pp⟩=>⟨ρ,σd,hd,rs,(aX.bind (R:=rD X.K) pp).imp fun v H1 ⟨ρ1,d,hd1,e1,rs1,rv,p1⟩ => ?_⟩
  cases d<;>try exact p1.elim
  rename_i l
  simp only [rD,RD] at rv
  subst rv
  refine⟨rfl,ρ1,σd,hd1,rs1,(aX.bind (R:=rD X.K) p1).imp fun v2 H2 ⟨ρ2,d2,hd2,e2,rs2,rv2,p2⟩ => ?_⟩
  cases d2<;>try exact p2.elim
  rename_i k
  simp only [rD,RD] at rv2
  subst rv2
  refine⟨toS l,toS k,rfl,rfl,?_⟩
  rw [Mu]
  exact p2.here rs2 (by simp only [rD,RD])
end
end Fm
set_option Elab.async false
set_option linter.all false
set_option maxRecDepth 100000
namespace L2
open PySem PySem.Spec PyProof.Rows Builtin.Str
theorem ud:∀ (tk:Nat) (xs:List Str),aN (xs.map V.str) (strsFrom tk xs)
  | _,[]=>.nil
  | tk,x :: r=>.cons ⟨tk,rfl⟩ (ud (tk + 1) r)
section
variable {X:Cx}
theorem FL:MtR X "str.split" (fun x vs H Q=>∃ (a:Str) (c:Nat),x=.str a∧vs=[.str ⟨#[c]⟩]∧a.length≤sizeLine∧(Txt.split a ⟨#[c]⟩).length≤sizeLine ∧ ∀ p,H p=none→Q (.ref p) (upd H p (.lst ((Txt.split a ⟨#[c]⟩).map V.str)))):=by
  intro pins s σ H x vs v us Q I rx rv h
  obtain⟨a,c,rfl,rfl,ha,hn,q⟩:=h
  obtain⟨t,rfl⟩:=rx
  obtain⟨u,rfl,ru⟩:=rv.one
  obtain⟨t',rfl⟩:=ru
  have self:Txt.split a ⟨#[c]⟩ = [a]→listOfItself a t X.A (wants (EP X pins σ Q) X.xe) s:=fun e=>by
    rw [e] at q
    exact⟨.ref s.heap.objs.size,_,I.laid (t':=s.toks) (o:=.lst [V.str a]) (fun b ob q=>Heap.get?_push_of_some _ q) (Nat.le_refl _) ⟨by show 1≤sizeLine;decide,_,0,.cons ⟨t,rfl⟩ .nil,Heap.get?_push_size _ rfl⟩,rfl,q _ (I.hok.fresh (Nat.le_refl _))⟩
  cases h1:(decide (a.length < (⟨#[c]⟩ : Str).length) || decide (strKind a < strKind ⟨#[c]⟩))
  · cases hf:(occurrences a ⟨#[c]⟩ 0 a.length (a.length + 1)).isEmpty
    · have e:Txt.split a ⟨#[c]⟩ = partsBetween a (occurrences a ⟨#[c]⟩ 0 a.length (a.length + 1)) (⟨#[c]⟩ : Str).length:=by
        unfold Txt.split
        rw [if_neg (by rw [h1];exact Bool.false_ne_true),if_neg (by rw [hf];exact Bool.false_ne_true)]
      rw [e] at hn q
      refine call_meets F.slot_str_split (typeIs_str _ _ _) F.entry_str_split (F.args_str_split_2 _ _) (meets_str_split_sep a ⟨#[c]⟩ t t' h1 rfl hf ha hn) ?_
      exact⟨.ref s.heap.objs.size,_,I.laid (t':=s.toks + (partsBetween a (occurrences a ⟨#[c]⟩ 0 a.length (a.length + 1)) (⟨#[c]⟩ : Str).length).length) (o:=.lst ((partsBetween a (occurrences a ⟨#[c]⟩ 0 a.length (a.length + 1)) (⟨#[c]⟩ : Str).length).map V.str)) (fun b ob q=>Heap.get?_push_of_some _ q) (Nat.le_refl _) ⟨by rw [List.length_map];exact hn,_,0,ud _ _,Heap.get?_push_size _ rfl⟩,rfl,q _ (I.hok.fresh (Nat.le_refl _))⟩
    · exact call_meets F.slot_str_split (typeIs_str _ _ _) F.entry_str_split (F.args_str_split_2 _ _) (meets_str_split_not_found a ⟨#[c]⟩ t t' h1 rfl hf) (self (by unfold Txt.split;rw [if_neg (by rw [h1];exact Bool.false_ne_true),if_pos hf]))
  · exact call_meets F.slot_str_split (typeIs_str _ _ _) F.entry_str_split (F.args_str_split_2 _ _) (meets_str_split_cannot_occur a ⟨#[c]⟩ t t' h1) (self (by unfold Txt.split;rw [if_pos h1]))
end
end L2
set_option linter.all false
namespace Fm
def cI (c:Nat):List Nat→List (List Nat)
  | []=>[[]]
  | x :: r=>if x=c then [] :: cI c r else match cI c r with
    | p :: ps=>(x :: p) :: ps
    | []=>[[x]]
theorem nu {c:Nat}:∀ {p:List Nat},c∉p→cI c p=[p]
  | [],_=>rfl
  | x :: r,h=>by
    have h1:x≠c:=fun e=>h (by rw [e];exact List.mem_cons_self)
    have ih:=nu (p:=r) fun z=>h (List.mem_cons_of_mem _ z)
    rw [cI,if_neg h1,ih]
theorem o0 {c:Nat}{t:List Nat}:∀ {p:List Nat},c∉p→cI c (p++c :: t)=p :: cI c t
  | [],_=>by rw [List.nil_append,cI,if_pos rfl]
  | x :: r,h=>by
    have h1:x≠c:=fun e=>h (by rw [e];exact List.mem_cons_self)
    have ih:=o0 (t:=t) (p:=r) fun z=>h (List.mem_cons_of_mem _ z)
    rw [List.cons_append,cI,if_neg h1,ih]
theorem gm {c:Nat}:∀ {P:List (List Nat)},P≠[]→(∀ p∈P,c∉p)→cI c (bI [c] P)=P
  | [],h,_=>absurd rfl h
  | [p],_,f=>nu (f p List.mem_cons_self)
  | p :: q :: r,_,f=>by
    have ih:=gm (P:=q :: r) (by simp) fun x hx=>f x (List.mem_cons_of_mem _ hx)
    have e:bI [c] (p :: q :: r)=p++c :: bI [c] (q :: r):=by rw [bI,List.append_assoc];rfl
    rw [e,o0 (f p List.mem_cons_self),ih]
def kf (c:Nat) (a:EF):LF:=fun σ h=>(a σ h).bind fun x h=>match x with
  | .str l=>if l.length≤1000000 then .ok ((cI c l).map D.str) h else .bad
  | _=>.bad
end Fm
set_option Elab.async false
set_option linter.all false
set_option maxRecDepth 100000
namespace Fm
open PySem PySem.Spec L2 PySem.W PyProof.Rows
theorem FM (x:Str):toS x.cps.toList=x:=by unfold toS;cases x;simp
theorem ue (l:List Nat)(c:Nat):Txt.split (toS l) ⟨#[c]⟩ = (cI c l).map toS:=by
  obtain⟨P,hP⟩ : ∃ P:List (List Nat),P=(Txt.split (toS l) ⟨#[c]⟩).map fun x=>x.cps.toList:=⟨_,rfl⟩
  have e:Txt.split (toS l) ⟨#[c]⟩ = P.map toS:=by
    rw [hP,List.map_map]
    exact ((List.map_congr_left fun x _=>FM x).trans (List.map_id _)).symm
  have j:=StrLaws.join_split (toS l) ⟨#[c]⟩
  rw [e,show (⟨#[c]⟩ : Str)=toS [c] from rfl,mF] at j
  have jl:bI [c] P=l:=by
    have:=congrArg (fun s:Str=>s.cps.toList) j
    simpa [toS] using this
  have ne:P≠[]:=fun z=>by
    have:=split_len (toS l) c
    rw [e,z] at this
    have h0:(0:Int)≤cnt c (toS l).cps.toList:=countIn_nonneg _ _
    have this:(0:Int)=1 + cnt c (toS l).cps.toList:=this
    omega
  have fr:∀ p∈P,c∉p:=fun p hp=>by
    rw [hP] at hp
    obtain⟨x,hx,rfl⟩:=List.mem_map.mp hp
    exact StrLaws.split_free (toS l) c x hx
  rw [e,← jl,gm ne fr]
end Fm
set_option Elab.async false
set_option linter.all false
set_option maxRecDepth 100000
namespace Fm
open PySem PySem.Spec L2 PySem.W PyProof.Rows
theorem o4 (c:Nat):∀ l:List Nat,(cI c l).length≤l.length + 1
  | []=>Nat.le_refl _
  | x :: r=>by
    have ih:=o4 c r
    rw [cI]
    split
    · rw [List.length_cons,List.length_cons];omega
    · cases e:cI c r with
      | nil=>simp
      | cons p ps=>rw [e] at ih;simp only [List.length_cons] at ih ⊢;omega
theorem yt {K:PySem.W.Frag}{ρ:List Addr}{H:Hp}:∀ P:List (List Nat),RDs K ρ H (P.map D.str) ((P.map toS).map V.str)
  | []=>RDs.nil
  | p :: P=>RDs.cons (by simp only [RD]) (yt P)
section
variable {X:Cx} {pos p:Pos}
theorem yu {c:Nat} {o:Expr} {fo:EF} {apos cpos p1:Pos} {j} {x:Str} (hx:x=toS [c]) (ho:ME X o fo) (hbase:attributeBase o "split" X.env (eval o X.env)=eval o X.env:=by rfl)
    (hfew:((backTo cpos (starEach [.Constant (.str x) j p1] X.env)).all (fun x => !x.1) && (backToKw cpos (keywordEach [] X.env)).all (fun x=>x.1.isSome)
      && decide (([.Constant (.str x) j p1] : List Expr).length + ([] : List Keyword).length + (if ([] : List Keyword).isEmpty then 0 else 1) < 30))=true:=by rfl)
    (hline:(apos.endLine == cpos.line)=true:=by rfl) (hs:starEach [.Constant (.str x) j p1] X.env=(false,eval (.Constant (.str x) j p1) X.env) :: starEach [] X.env:=by rfl) :
    MF X (.Call (.Attribute o "split" apos) [.Constant (.str x) j p1] [] cpos) (kf c fo):=by
  refine PE.imp (oC PySem.F.plainAttrs_str PySem.F.slot_str_split PySem.F.type_str_split FL ho (bz Au cR hs) hbase hfew hline hs) fun σ H Q ⟨ρ,σd,hd,rs,pp⟩=>⟨ρ,σd,hd,rs,?_⟩
  unfold kf at pp
  cases e:fo σd hd with
  | exc x h'=>rw [e] at pp;exact pp
  | bad=>rw [e] at pp;exact pp
  | ok d hd1 =>
    rw [e] at pp
    simp only [aq] at pp
    intro v H1 ρ1 e1 rs1 rv
    cases d<;>try exact pp.elim
    rename_i l
    simp only [rD,RD] at rv
    subst rv
    simp only at pp
    split at pp
    · rename_i hb
      refine⟨rfl,toS l,c,rfl,by rw [hx];rfl,by rw [cT];exact Nat.le_trans hb yq,?_,?_⟩
      · rw [ue,List.length_map]
        exact Nat.le_trans (o4 c l) (Nat.le_trans (Nat.succ_le_succ hb) (by rw [sizeLine_eq];decide))
      · rw [ue]
        exact pp.mk e1 rs1 (yt _)
    · exact pp.elim
end
end Fm
set_option Elab.async false
set_option linter.all false
set_option maxRecDepth 100000
namespace Ts
open PySem PyProof.Rows
def jd:Bool→Keyed→Array Keyed→Nat→Nat→Nat→StateT SortSt Sem (Option Nat):=sortPriv% PySem.Builtin.gallop
def AR (lf:Bool) (ky:Keyed) (xs:Array Keyed) (b i:Nat):StateT SortSt Sem (Option Bool):=do
  let z ← elem' xs (b + i)
  if lf then lt' z ky else return (← lt' ky z).map (!·)
def xX (lf:Bool) (ky:Keyed) (xs:Array Keyed) (b n x0 y0:Nat):StateT SortSt Sem (Option Nat):=do
  let mut x:=x0
  let mut y:=y0
  for _ in [0:n] do
    if x ≥ y then break
    let m:=x + (y - x) / 2
    let some e ← AR lf ky xs b m|return none
    if e then x:=m + 1 else y:=m
  return some y
theorem HU (lf:Bool)(ky:Keyed)(xs:Array Keyed)(b n ht:Nat):jd lf ky xs b n ht=(do
    let mut u:=0
    let mut v:=1
    let some rt ← AR lf ky xs b ht|return none
    if rt then
      let w:=n - ht
      for _ in [0:n] do
        if v ≥ w then break
        let some e ← AR lf ky xs b (ht + v)|return none
        if !e then break
        u:=v
        v:=2 * v + 1
      xX lf ky xs b n (ht + u + 1) (ht + min v w)
    else
      let w:=ht + 1
      for _ in [0:n] do
        if v ≥ w then break
        let some e ← AR lf ky xs b (ht - v)|return none
        if e then break
        u:=v
        v:=2 * v + 1
      xX lf ky xs b n (ht + 1 - min v w) (ht - u)):=rfl
section
variable {M:Model} {A:Around} {E:Value→Shared→Prop} {s:Shared}
structure Cmp (M:Model) (A:Around) (E:Value→Shared→Prop) (s:Shared) (kd:SortKind) (S:Keyed→Prop) (r:Keyed→Keyed→Bool):Prop where
  ask:∀ {x y:Keyed} {st:SortSt} {Q:Option Bool→SortSt→Prop},S x→S y→kindOf st=kd→Q (some (r x y)) st→wpS M A E s (lt' x y) Q st
  asym:∀ {x y:Keyed},r x y=true→r y x=false
  tr:∀ {x y z:Keyed},r y x=false→r z y=false→r z x=false
end
end Ts
set_option Elab.async false
set_option linter.all false
set_option maxRecDepth 100000
namespace Ts
open PySem PyProof.Rows
section
variable {M:Model} {A:Around} {E:Value→Shared→Prop} {s:Shared} {kd:SortKind} {S:Keyed→Prop} {r:Keyed→Keyed→Bool}
theorem bB {xs:Array Keyed}{i:Nat}{x:Keyed}{st:SortSt}{Q:Keyed→SortSt→Prop}(e:xs[i]? = some x)(h:Q x st):wpS M A E s (elem' xs i) Q st:=by
  rw [elem'_eq,e];exact wpS_pure h
theorem Kc (C:Cmp M A E s kd S r){lf:Bool}{ky:Keyed}{xs:Array Keyed}{b i:Nat}{x:Keyed}{st:SortSt}{Q:Option Bool→SortSt→Prop}(hk:kindOf st=kd)(e:xs[b + i]? = some x)(Sx:S x)(Sk:S ky)(h:Q (some (if lf then r x ky else !r ky x)) st):wpS M A E s (AR lf ky xs b i) Q st:=by
  unfold AR
  refine wpS_bind (bB e ?_)
  cases lf with
  | true=>exact C.ask Sx Sk hk h
  | false=>exact wpS_bind (C.ask Sk Sx hk (wpS_pure h))
theorem vk (C:Cmp M A E s kd S r){lf:Bool}{ky:Keyed}{xs:Array Keyed}{b n ht:Nat}{st:SortSt}{Q:Option Nat→SortSt→Prop}(hk:kindOf st=kd)(p:Nat→Bool)(hp:∀ i,i < n → ∃ x,xs[b + i]? = some x∧S x∧p i=(if lf then r x ky else !r ky x))(Sk:S ky)(mono:∀ i j,i≤j→j < n→p j=true→p i=true)(hh:ht < n)
    (q:∀ k,k≤n→(∀ i,i < k→p i=true)→(∀ i,k≤i→i < n→p i=false)→Q (some k) st):wpS M A E s (jd lf ky xs b n ht) Q st:=by
  have wa:∀ {i:Nat} {R:Option Bool→SortSt→Prop},i < n→R (some (p i)) st→wpS M A E s (AR lf ky xs b i) R st:=fun {i R} hi h=>by
    obtain⟨x,e,Sx,pe⟩:=hp i hi
    exact Kc C hk e Sx Sk (by rw [← pe];exact h)
  have bin:∀ x0 y0,x0≤y0→y0≤n→(∀ i,i < x0→p i=true)→(∀ i,y0≤i→i < n→p i=false) →
      wpS M A E s (xX lf ky xs b n x0 y0) Q st:=by
    intro x0 y0 h1 h2 h3 h4
    unfold xX
    refine wpS_bind (wpS_mono (wpS_forRange (I:=fun i c st'=>st'=st ∧ ∃ x y,c=(none,x,y)∧x≤y∧y≤n∧(∀ i,i < x→p i=true)∧(∀ i,y≤i→i < n→p i=false)∧y - x + i≤n)
      (Q:=fun c st'=>st'=st ∧ ∃ y,c=(none,y,y)∧y≤n∧(∀ i,i < y→p i=true)∧(∀ i,y≤i→i < n→p i=false)) ?step ?fin ⟨rfl,x0,y0,rfl,h1,h2,h3,h4,by omega⟩) fun c st' h => ?_)
    case fin =>
      rintro c st' ⟨rfl,x,y,rfl,g1,g2,g3,g4,g5⟩
      have:x=y:=by omega
      subst this
      exact⟨rfl,x,rfl,g2,g3,g4⟩
    case step =>
      rintro i c st' _ hi ⟨rfl,x,y,rfl,g1,g2,g3,g4,g5⟩
      dsimp only
      by_cases c:x ≥ y
      · rw [if_pos c]
        have:x=y:=by omega
        subst this
        exact wpS_pure ⟨rfl,x,rfl,g2,g3,g4⟩
      · rw [if_neg c]
        have hm:x + (y - x) / 2 < y:=by omega
        refine wpS_bind (wa (by omega) ?_)
        dsimp only
        cases pm:p (x + (y - x) / 2) with
        | true =>
          rw [if_pos rfl]
          exact wpS_pure ⟨rfl,_,_,rfl,by omega,g2,fun j hj=>mono j _ (by omega) (by omega) pm,g4,by omega⟩
        | false =>
          rw [if_neg Bool.false_ne_true]
          refine wpS_pure ⟨rfl,_,_,rfl,by omega,by omega,g3,fun j h5 h6 => ?_,by omega⟩
          cases pj:p j with
          | false=>rfl
          | true=>rw [mono _ j h5 h6 pj] at pm;cases pm
    · obtain⟨rfl,y,rfl,g2,g3,g4⟩:=h
      exact wpS_pure (q y g2 g3 g4)
  rw [HU]
  refine wpS_bind (wa hh ?_)
  dsimp only
  cases ph:p ht with
  | true =>
    rw [if_pos rfl]
    refine wpS_bind (wpS_mono (wpS_forRange (I:=fun i c st'=>st'=st ∧ ∃ u v,c=(none,u,v)∧u < v∧i < v∧ht + u < n∧p (ht + u)=true)
      (Q:=fun c st'=>st'=st ∧ ∃ u v,c=(none,u,v)∧u < v∧ht + u < n∧p (ht + u)=true∧(n - ht≤v∨ht + v < n∧p (ht + v)=false)) ?step ?fin ⟨rfl,0,1,rfl,by omega,by omega,by omega,ph⟩) fun c st' h => ?_)
    case fin =>
      rintro c st' ⟨rfl,u,v,rfl,g1,g2,g3,g4⟩
      exact⟨rfl,u,v,rfl,g1,g3,g4,.inl (by omega)⟩
    case step =>
      rintro i c st' _ hi ⟨rfl,u,v,rfl,g1,g2,g3,g4⟩
      dsimp only
      by_cases c:v ≥ n - ht
      · rw [if_pos c]
        exact wpS_pure ⟨rfl,u,v,rfl,g1,g3,g4,.inl c⟩
      · rw [if_neg c]
        refine wpS_bind (wa (by omega) ?_)
        dsimp only
        cases pm:p (ht + v) with
        | false =>
          rw [if_pos (by decide)]
          exact wpS_pure ⟨rfl,u,v,rfl,g1,g3,g4,.inr ⟨by omega,pm⟩⟩
        | true =>
          rw [if_neg (by decide)]
          exact wpS_pure ⟨rfl,_,_,rfl,by omega,by omega,by omega,pm⟩
    · obtain⟨rfl,u,v,rfl,g1,g3,g4,g5⟩:=h
      dsimp only
      refine bin (ht + u + 1) (ht + min v (n - ht)) (by omega) (by omega) (fun i hi=>mono i _ (by omega) g3 g4) fun i h5 h6 => ?_
      rcases g5 with g5|⟨g5,g6⟩
      · omega
      · cases pj:p i with
        | false=>rfl
        | true=>rw [mono _ i (by omega) h6 pj] at g6;cases g6
  | false =>
    rw [if_neg Bool.false_ne_true]
    refine wpS_bind (wpS_mono (wpS_forRange (I:=fun i c st'=>st'=st ∧ ∃ u v,c=(none,u,v)∧u < v∧i < v∧u≤ht∧p (ht - u)=false)
      (Q:=fun c st'=>st'=st ∧ ∃ u v,c=(none,u,v)∧u < v∧u≤ht∧p (ht - u)=false∧(ht + 1≤v∨v≤ht∧p (ht - v)=true)) ?step2 ?fin2 ⟨rfl,0,1,rfl,by omega,by omega,by omega,ph⟩) fun c st' h => ?_)
    case fin2 =>
      rintro c st' ⟨rfl,u,v,rfl,g1,g2,g3,g4⟩
      exact⟨rfl,u,v,rfl,g1,g3,g4,.inl (by omega)⟩
    case step2 =>
      rintro i c st' _ hi ⟨rfl,u,v,rfl,g1,g2,g3,g4⟩
      dsimp only
      by_cases c:v ≥ ht + 1
      · rw [if_pos c]
        exact wpS_pure ⟨rfl,u,v,rfl,g1,g3,g4,.inl c⟩
      · rw [if_neg c]
        refine wpS_bind (wa (by omega) ?_)
        dsimp only
        cases pm:p (ht - v) with
        | true =>
          rw [if_pos rfl]
          exact wpS_pure ⟨rfl,u,v,rfl,g1,g3,g4,.inr ⟨by omega,pm⟩⟩
        | false =>
          rw [if_neg Bool.false_ne_true]
          exact wpS_pure ⟨rfl,_,_,rfl,by omega,by omega,by omega,pm⟩
    · obtain⟨rfl,u,v,rfl,g1,g3,g4,g5⟩:=h
      dsimp only
      refine bin (ht + 1 - min v (ht + 1)) (ht - u) (by omega) (by omega) (fun i hi => ?_) fun i h5 h6 => ?_
      · rcases g5 with g5|⟨g5,g6⟩
        · omega
        · exact mono i _ (by omega) (by omega) g6
      · cases pj:p i with
        | false=>rfl
        | true=>rw [mono _ i (by omega) h6 pj] at g4;cases g4
end
end Ts
set_option Elab.async false
set_option linter.all false
set_option maxRecDepth 100000
namespace Ts
open PySem PyProof.Rows
section
variable {r:Keyed→Keyed→Bool}
abbrev lE (r:Keyed→Keyed→Bool) (x y:Keyed):Prop:=r y x=false
structure MI (r:Keyed→Keyed→Bool) (a b out:Array Keyed) (i j:Nat):Prop where
  pm:out.toList.Perm (a.toList.take i++b.toList.take j)
  so:out.toList.Pairwise (lE r)
  lo:∀ x∈out.toList,(∀ y∈a.toList.drop i,lE r x y) ∧ ∀ y∈b.toList.drop j,lE r x y
  ha:i≤a.size
  hb:j≤b.size
variable {a b out:Array Keyed} {i j k:Nat}
theorem o5 {α : Type}(xs:Array α)(i k:Nat):(xs.extract i (i + k)).toList=(xs.toList.drop i).take k:=by
  rw [Array.toList_extract,List.extract_eq_take_drop]
  simp
theorem FN {α : Type}(l:List α)(i k:Nat):l.take (i + k)=l.take i++(l.drop i).take k:=by
  rw [List.take_add]
theorem MI.swap (m:MI r a b out i j):MI r b a out j i:=⟨m.pm.trans List.perm_append_comm,m.so,fun x hx=>(m.lo x hx).symm,m.hb,m.ha⟩
theorem MI.segA (m:MI r a b out i j)(sa:a.toList.Pairwise (lE r))(hk:i + k≤a.size)(h:∀ x∈(a.toList.drop i).take k,∀ y∈b.toList.drop j,lE r x y):MI r a b (out++a.extract i (i + k)) (i + k) j:=by
  have e:(out++a.extract i (i + k)).toList=out.toList++(a.toList.drop i).take k:=by rw [Array.toList_append,o5]
  have sd:(a.toList.drop i).Pairwise (lE r):=sa.sublist (List.drop_sublist _ _)
  have dd:(a.toList.drop i)=(a.toList.drop i).take k++a.toList.drop (i + k):=by rw [← List.drop_drop];exact (List.take_append_drop _ _).symm
  have sx:=sd
  rw [dd,List.pairwise_append] at sx
  refine⟨?_,?_,fun x hx => ?_,hk,m.hb⟩
  · rw [e,FN]
    refine (m.pm.append_right _).trans ?_
    rw [List.append_assoc,List.append_assoc]
    exact List.Perm.append_left _ List.perm_append_comm
  · rw [e,List.pairwise_append]
    exact⟨m.so,sx.1,fun x hx y hy=>(m.lo x hx).1 y (List.mem_of_mem_take hy)⟩
  · rw [e] at hx
    rcases List.mem_append.mp hx with hx|hx
    · refine⟨fun y hy=>(m.lo x hx).1 y ?_,(m.lo x hx).2⟩
      rw [dd];exact List.mem_append_right _ hy
    · exact⟨fun y hy=>sx.2.2 x hx y hy,h x hx⟩
theorem MI.segB (m:MI r a b out i j)(sb:b.toList.Pairwise (lE r))(hk:j + k≤b.size)(h:∀ x∈(b.toList.drop j).take k,∀ y∈a.toList.drop i,lE r x y):MI r a b (out++b.extract j (j + k)) i (j + k):=(m.swap.segA sb hk h).swap
theorem FO {x:Keyed}(e:a[i]? = some x):out.push x=out++a.extract i (i + 1):=by
  obtain⟨h,rfl⟩:=Array.getElem?_eq_some_iff.mp e
  apply Array.ext'
  rw [Array.toList_push,Array.toList_append,o5]
  congr 1
  rw [List.drop_eq_getElem_cons (by simpa using h)]
  simp
theorem jJ {x:Keyed}(tr:∀ {x y z:Keyed},r y x=false→r z y=false→r z x=false)(sa:a.toList.Pairwise (lE r)){u:Keyed}(e:a[i]? = some u)(h:lE r x u):∀ y∈a.toList.drop i,lE r x y:=by
  obtain⟨hi,rfl⟩:=Array.getElem?_eq_some_iff.mp e
  have d:a.toList.drop i=a[i] :: a.toList.drop (i + 1):=by rw [List.drop_eq_getElem_cons (by simpa using hi)];rfl
  have sd:(a.toList.drop i).Pairwise (lE r):=sa.sublist (List.drop_sublist _ _)
  rw [d] at sd ⊢
  intro y hy
  rcases List.mem_cons.mp hy with rfl|hy
  · exact h
  · exact tr h ((List.pairwise_cons.mp sd).1 y hy)
theorem MI.pushA {x:Keyed}(m:MI r a b out i j)(sa:a.toList.Pairwise (lE r))(e:a[i]? = some x)(h:∀ y∈b.toList.drop j,lE r x y):MI r a b (out.push x) (i + 1) j:=by
  have hi:=(Array.getElem?_eq_some_iff.mp e).1
  rw [FO e]
  refine m.segA sa hi fun z hz => ?_
  have:(a.toList.drop i).take 1=[x]:=by
    have e2:a.toList[i]? = some x:=by rw [Array.getElem?_toList];exact e
    obtain⟨h',e3⟩:=List.getElem?_eq_some_iff.mp e2
    rw [List.drop_eq_getElem_cons h',e3];rfl
  rw [this,List.mem_singleton] at hz
  subst hz
  exact h
theorem MI.pushB {x:Keyed}(m:MI r a b out i j)(sb:b.toList.Pairwise (lE r))(e:b[j]? = some x)(h:∀ y∈a.toList.drop i,lE r x y):MI r a b (out.push x) i (j + 1):=(m.swap.pushA sb e h).swap
theorem MI.endA (m:MI r a b out i j)(sa:a.toList.Pairwise (lE r))(h:j=b.size):(out++a.extract i a.size).toList.Perm (a.toList++b.toList)∧(out++a.extract i a.size).toList.Pairwise (lE r):=by
  have hk:i + (a.size - i)=a.size:=by have:=m.ha;omega
  have z:b.toList.drop j=[]:=by rw [h];simp
  have q:=m.segA (k:=a.size - i) sa (by omega) fun x _ y hy=>by rw [z] at hy;cases hy
  rw [hk] at q
  have p:=q.pm
  rw [show a.toList.take a.size=a.toList from List.take_of_length_le (by simp),h,show b.toList.take b.size=b.toList from List.take_of_length_le (by simp)] at p
  exact⟨p,q.so⟩
theorem MI.endB (m:MI r a b out i j)(sb:b.toList.Pairwise (lE r))(h:i=a.size):(out++b.extract j b.size).toList.Perm (a.toList++b.toList)∧(out++b.extract j b.size).toList.Pairwise (lE r):=by
  obtain⟨p,q⟩:=m.swap.endA sb h
  exact⟨p.trans List.perm_append_comm,q⟩
theorem MI.endBA (m:MI r a b out i j)(sa:a.toList.Pairwise (lE r))(sb:b.toList.Pairwise (lE r))(h:∀ x∈b.toList.drop j,∀ y∈a.toList.drop i,lE r x y) :
    (out++b.extract j b.size++a.extract i a.size).toList.Perm (a.toList++b.toList)∧(out++b.extract j b.size++a.extract i a.size).toList.Pairwise (lE r):=by
  have hk:j + (b.size - j)=b.size:=by have:=m.hb;omega
  have q:=m.segB (k:=b.size - j) sb (by omega) fun x hx=>h x (List.mem_of_mem_take hx)
  rw [hk] at q
  exact q.endA sa rfl
end
end Ts
set_option Elab.async false
set_option linter.all false
set_option maxRecDepth 100000
namespace Ts
open PySem PyProof.Rows
def mLo:Array Keyed→Array Keyed→StateT SortSt Sem (Array Keyed):=sortPriv% PySem.Builtin.mergeLo
abbrev cC (st:SortSt) (g:Nat):SortSt:=SortSt.mk' (kindOf st) (arrOf st) (pendingOf st) g (failedOf st)
def dJ (a b o:Array Keyed) (i j:Nat):Array Keyed:=o++a.extract i a.size++b.extract j b.size
def eN (a b o:Array Keyed) (i j:Nat):Array Keyed:=o++b.extract j b.size++a.extract i a.size
abbrev C2:=Option (Array Keyed) × Array Keyed × Nat × Nat × Nat × Nat
abbrev C3:=Option (Array Keyed) × Array Keyed × Nat × Nat × Nat × Nat × Nat
abbrev SM:=StateT SortSt Sem
def lo1 (a b:Array Keyed) (g:Nat) (o:Array Keyed) (i j u v:Nat):SM (ForInStep C2):=do
  let x ← elem' b j
  let y ← elem' a i
  let some w ← lt' x y|pure (.done (some (dJ a b o i j),o,i,j,u,v))
  if w then do
    let x ← elem' b j
    if j + 1 == b.size then pure (.done (some (dJ a b (o.push x) i (j + 1)),o.push x,i,j + 1,0,v + 1))
    else if v + 1 ≥ g then pure (.done (none,o.push x,i,j + 1,0,v + 1)) else pure (.yield (none,o.push x,i,j + 1,0,v + 1))
  else do
    let y ← elem' a i
    if i + 1 + 1 == a.size then pure (.done (some (eN a b (o.push y) (i + 1) j),o.push y,i + 1,j,u + 1,0))
    else if u + 1 ≥ g then pure (.done (none,o.push y,i + 1,j,u + 1,0)) else pure (.yield (none,o.push y,i + 1,j,u + 1,0))
def lo4 (a b o:Array Keyed) (i j g u v:Nat):SM (ForInStep C3):=do
  let y ← elem' a i
  if i + 1 + 1 == a.size then pure (.done (some (eN a b (o.push y) (i + 1) j),o.push y,i + 1,j,g,u,v))
  else if (decide (u < 7) && decide (v < 7))=true then pure (.done (none,o.push y,i + 1,j,g,u,v)) else pure (.yield (none,o.push y,i + 1,j,g,u,v))
def lo3 (a b o:Array Keyed) (i j g u v:Nat):SM (ForInStep C3):=do
  let x ← elem' b j
  if j + 1 == b.size then pure (.done (some (dJ a b (o.push x) i (j + 1)),o.push x,i,j + 1,g,u,v))
  else do
    let y ← elem' a i
    let some k ← jd true y b (j + 1) (b.size - (j + 1)) 0|pure (.done (some (dJ a b (o.push x) i (j + 1)),o.push x,i,j + 1,g,u,v))
    if k > 0 then
      if j + 1 + k == b.size then pure (.done (some (dJ a b (o.push x++b.extract (j + 1) (j + 1 + k)) i (j + 1 + k)),o.push x++b.extract (j + 1) (j + 1 + k),i,j + 1 + k,g,u,k))
      else lo4 a b (o.push x++b.extract (j + 1) (j + 1 + k)) i (j + 1 + k) g u k
    else lo4 a b (o.push x) i (j + 1) g u k
def lo2 (a b o:Array Keyed) (i j u v g:Nat):SM (ForInStep C3):=do
  modify (cC · g)
  let x ← elem' b j
  let some k ← jd false x a i (a.size - i) 0|pure (.done (some (dJ a b o i j),o,i,j,g,u,v))
  if k > 0 then
    if i + k + 1 == a.size then pure (.done (some (eN a b (o++a.extract i (i + k)) (i + k) j),o++a.extract i (i + k),i + k,j,g,k,v))
    else if i + k == a.size then pure (.done (some (dJ a b (o++a.extract i (i + k)) (i + k) j),o++a.extract i (i + k),i + k,j,g,k,v))
    else lo3 a b (o++a.extract i (i + k)) (i + k) j g k v
  else lo3 a b o i j g k v
section
variable {M:Model} {A:Around} {E:Value→Shared→Prop} {s:Shared} {kd:SortKind} {S:Keyed→Prop} {r:Keyed→Keyed→Bool}
def Mgd (r:Keyed→Keyed→Bool) (a b o:Array Keyed):Prop:=o.toList.Perm (a.toList++b.toList)∧o.toList.Pairwise (lE r)
structure Two (M:Model) (A:Around) (E:Value→Shared→Prop) (s:Shared) (kd:SortKind) (S:Keyed→Prop) (r:Keyed→Keyed→Bool) (a b:Array Keyed):Prop where
  C:Cmp M A E s kd S r
  Sa:∀ x∈a.toList,S x
  Sb:∀ x∈b.toList,S x
  sa:a.toList.Pairwise (lE r)
  sb:b.toList.Pairwise (lE r)
structure LI (r:Keyed→Keyed→Bool) (a b o:Array Keyed) (i j:Nat):Prop where
  m:MI r a b o i j
  hi:i + 1 < a.size
  hj:j < b.size
variable {a b o:Array Keyed} {i j g u v:Nat} {st:SortSt}
theorem kL {α : Type}(xs:Array α){i:Nat}(h:i=xs.size):xs.extract i xs.size = #[]:=by subst h;simp
theorem kM (T:Two M A E s kd S r a b)(m:MI r a b o i j)(h:j=b.size∨i=a.size):Mgd r a b (dJ a b o i j):=by
  unfold dJ
  rcases h with h|h
  · rw [kL b h,Array.append_empty];exact m.endA T.sa h
  · rw [kL a h,Array.append_empty];exact m.endB T.sb h
theorem gx {α : Type}{xs:Array α}{i:Nat}(h:i < xs.size):∃ x,xs[i]? = some x∧x∈xs.toList:=⟨xs[i],Array.getElem?_eq_getElem h,by simp⟩
theorem vm (T:Two M A E s kd S r a b)(top:∀ x∈b.toList,∀ y∈a.toList.drop (a.size - 1),lE r x y)(m:MI r a b o i j)(h:i + 1=a.size):Mgd r a b (eN a b o i j):=by
  unfold eN
  refine m.endBA T.sa T.sb fun x hx y hy=>top x (List.mem_of_mem_drop hx) y ?_
  rw [show a.size - 1=i by omega];exact hy
theorem Kd (T:Two M A E s kd S r a b)(top:∀ x∈b.toList,∀ y∈a.toList.drop (a.size - 1),lE r x y)(L:LI r a b o i j)(hk:kindOf st=kd){Q:ForInStep C2→SortSt→Prop}
    (q1:∀ x o' i' j' u' v',Mgd r a b x→Q (.done (some x,o',i',j',u',v')) st) (q2:∀ o' i' j' u' v',LI r a b o' i' j'→o.size < o'.size→Q (.done (none,o',i',j',u',v')) st) (q3:∀ o' i' j' u' v',LI r a b o' i' j'→o.size < o'.size→Q (.yield (none,o',i',j',u',v')) st) :
    wpS M A E s (lo1 a b g o i j u v) Q st:=by
  have ⟨m,hi,hj⟩:=L
  obtain⟨x,ex,mx⟩:=gx hj
  obtain⟨y,ey,my⟩:=gx (show i < a.size by omega)
  unfold lo1
  refine wpS_bind (bB ex (wpS_bind (bB ey (wpS_bind (T.C.ask (T.Sb x mx) (T.Sa y my) hk ?_)))))
  dsimp only
  cases w:r x y with
  | true =>
    rw [if_pos rfl]
    refine wpS_bind (bB ex ?_)
    have m2:=m.pushB T.sb ex (jJ T.C.tr T.sa ey (T.C.asym w))
    have z:o.size < (o.push x).size:=by simp
    by_cases h:j + 1=b.size
    · rw [if_pos (by simpa using h)]
      exact wpS_pure (q1 _ _ _ _ _ _ (kM T m2 (.inl h)))
    · rw [if_neg (by simpa using h)]
      have L2:LI r a b (o.push x) i (j + 1):=⟨m2,hi,by omega⟩
      split
      · exact wpS_pure (q2 _ _ _ _ _ L2 z)
      · exact wpS_pure (q3 _ _ _ _ _ L2 z)
  | false =>
    rw [if_neg Bool.false_ne_true]
    refine wpS_bind (bB ey ?_)
    have m2:=m.pushA T.sa ey (jJ T.C.tr T.sb ex w)
    have z:o.size < (o.push y).size:=by simp
    by_cases h:i + 1 + 1=a.size
    · rw [if_pos (by simpa using h)]
      exact wpS_pure (q1 _ _ _ _ _ _ (vm T top m2 h))
    · rw [if_neg (by simpa using h)]
      have L2:LI r a b (o.push y) (i + 1) j:=⟨m2,by omega,hj⟩
      split
      · exact wpS_pure (q2 _ _ _ _ _ L2 z)
      · exact wpS_pure (q3 _ _ _ _ _ L2 z)
theorem uf (C:Cmp M A E s kd S r){xs:Array Keyed}{x:Keyed}{i ht:Nat}{Q:Option Nat→SortSt→Prop}(hk:kindOf st=kd)(Sx:S x)(Sa:∀ x∈xs.toList,S x)(sa:xs.toList.Pairwise (lE r)){n:Nat}(hn:i + n≤xs.size)(hh:ht < n)
    (q:∀ k,k≤n→(∀ y∈(xs.toList.drop i).take k,lE r y x)→(∀ y∈((xs.toList.drop i).take n).drop k,r x y=true)→Q (some k) st):wpS M A E s (jd false x xs i n ht) Q st:=by
  have ix:∀ d,d < n→i + d < xs.size:=fun d hd=>by omega
  have gd:∀ d,(hd:d < n)→xs.toList[i + d]? = some (xs[i + d]'(ix d hd)):=fun d hd=>by rw [Array.getElem?_toList];exact Array.getElem?_eq_getElem (ix d hd)
  have le:∀ d e,(h:d≤e)→(he:e < n)→lE r (xs[i + d]'(ix d (by omega))) (xs[i + e]'(ix e he))∨d=e:=fun d e h he=>by
    by_cases z:d=e
    · exact .inr z
    · have:=List.pairwise_iff_getElem.mp sa (i + d) (i + e) (by simp;have:=ix d (by omega);omega) (by simp;have:=ix e he;omega) (by omega)
      exact .inl (by simpa using this)
  refine vk C hk (fun d=>if h:d < n then !r x (xs[i + d]'(ix d h)) else false) (fun d hd=>⟨xs[i + d]'(ix d hd),Array.getElem?_eq_getElem (ix d hd),Sa _ (by simp),by simp [hd]⟩) Sx (fun d e h he pe => ?_) hh fun k hk' p1 p2=>q k hk' (fun y hy => ?_) fun y hy => ?_
  · have hd:d < n:=by omega
    simp only [he,dif_pos] at pe
    simp only [hd,dif_pos]
    rcases le d e h he with z|z
    · have e1:r x (xs[i + e]'(ix e he))=false:=by simpa using pe
      have:=C.tr z e1
      simp [this]
    · subst z;exact pe
  · obtain⟨d,hd,e⟩:=List.mem_take_iff_getElem.mp hy
    have hd':d < k:=by omega
    have hn':d < n:=by omega
    have:=p1 d hd'
    simp only [hn',dif_pos] at this
    have e2:y=xs[i + d]'(ix d hn'):=by rw [← e];simp
    rw [e2]
    simpa using this
  · obtain⟨d,hd,e⟩:=List.mem_drop_iff_getElem.mp hy
    have hn':d + k < n:=by simp at hd;omega
    have:=p2 (d + k) (by omega) hn'
    simp only [hn',dif_pos] at this
    have e2:y=xs[i + (d + k)]'(ix _ hn'):=by rw [← e];simp;congr 1;omega
    rw [e2]
    simpa using this
theorem yv (C:Cmp M A E s kd S r){xs:Array Keyed}{x:Keyed}{i ht:Nat}{Q:Option Nat→SortSt→Prop}(hk:kindOf st=kd)(Sx:S x)(Sa:∀ x∈xs.toList,S x)(sa:xs.toList.Pairwise (lE r)){n:Nat}(hn:i + n≤xs.size)(hh:ht < n)
    (q:∀ k,k≤n→(∀ y∈(xs.toList.drop i).take k,r y x=true)→(∀ y∈((xs.toList.drop i).take n).drop k,lE r x y)→Q (some k) st):wpS M A E s (jd true x xs i n ht) Q st:=by
  have ix:∀ d,d < n→i + d < xs.size:=fun d hd=>by omega
  have le:∀ d e,(h:d≤e)→(he:e < n)→lE r (xs[i + d]'(ix d (by omega))) (xs[i + e]'(ix e he))∨d=e:=fun d e h he=>by
    by_cases z:d=e
    · exact .inr z
    · have:=List.pairwise_iff_getElem.mp sa (i + d) (i + e) (by simp;have:=ix d (by omega);omega) (by simp;have:=ix e he;omega) (by omega)
      exact .inl (by simpa using this)
  refine vk C hk (fun d=>if h:d < n then r (xs[i + d]'(ix d h)) x else false) (fun d hd=>⟨xs[i + d]'(ix d hd),Array.getElem?_eq_getElem (ix d hd),Sa _ (by simp),by simp [hd]⟩) Sx (fun d e h he pe => ?_) hh fun k hk' p1 p2=>q k hk' (fun y hy => ?_) fun y hy => ?_
  · have hd:d < n:=by omega
    simp only [he,dif_pos] at pe
    simp only [hd,dif_pos]
    rcases le d e h he with z|z
    · cases w:r (xs[i + d]'(ix d hd)) x with
      | true=>rfl
      | false =>
        have:=C.tr w z
        rw [this] at pe;cases pe
    · subst z;exact pe
  · obtain⟨d,hd,e⟩:=List.mem_take_iff_getElem.mp hy
    have hd':d < k:=by omega
    have hn':d < n:=by omega
    have:=p1 d hd'
    simp only [hn',dif_pos] at this
    have e2:y=xs[i + d]'(ix d hn'):=by rw [← e];simp
    rw [e2]
    exact this
  · obtain⟨d,hd,e⟩:=List.mem_drop_iff_getElem.mp hy
    have hn':d + k < n:=by simp at hd;omega
    have:=p2 (d + k) (by omega) hn'
    simp only [hn',dif_pos] at this
    have e2:y=xs[i + (d + k)]'(ix _ hn'):=by rw [← e];simp;congr 1;omega
    rw [e2]
    exact this
end
end Ts
set_option Elab.async false
set_option linter.all false
set_option maxRecDepth 100000
namespace Ts
open PySem PyProof.Rows
section
variable {M:Model} {A:Around} {E:Value→Shared→Prop} {s:Shared} {kd:SortKind} {S:Keyed→Prop} {r:Keyed→Keyed→Bool} {a b o:Array Keyed} {i j g u v:Nat} {st:SortSt}
structure FP (r:Keyed→Keyed→Bool) (a b:Array Keyed) (n:Nat) (Q:ForInStep C3→SortSt→Prop) (st:SortSt):Prop where
  q1:∀ x o' i' j' g' u' v',Mgd r a b x→Q (.done (some x,o',i',j',g',u',v')) st
  q2:∀ o' i' j' g' u' v',LI r a b o' i' j'→n≤o'.size→Q (.done (none,o',i',j',g',u',v')) st
  q3:∀ o' i' j' g' u' v',LI r a b o' i' j'→n≤o'.size→Q (.yield (none,o',i',j',g',u',v')) st
theorem FQ (T:Two M A E s kd S r a b)(top:∀ x∈b.toList,∀ y∈a.toList.drop (a.size - 1),lE r x y)(m:MI r a b o i j)(hi:i + 1 < a.size)(hj:j < b.size){y:Keyed}(ey:a[i]? = some y)(h:∀ z∈b.toList.drop j,lE r y z){n:Nat}(hn:n≤o.size){Q:ForInStep C3→SortSt→Prop}(q:FP r a b n Q st):wpS M A E s (lo4 a b o i j g u v) Q st:=by
  unfold lo4
  refine wpS_bind (bB ey ?_)
  have m2:=m.pushA T.sa ey h
  have z:n≤(o.push y).size:=by simp;omega
  by_cases c:i + 1 + 1=a.size
  · rw [if_pos (by simpa using c)]
    exact wpS_pure (q.q1 _ _ _ _ _ _ _ (vm T top m2 c))
  · rw [if_neg (by simpa using c)]
    have L2:LI r a b (o.push y) (i + 1) j:=⟨m2,by omega,hj⟩
    split
    · exact wpS_pure (q.q2 _ _ _ _ _ _ L2 z)
    · exact wpS_pure (q.q3 _ _ _ _ _ _ L2 z)
theorem FR (T:Two M A E s kd S r a b)(top:∀ x∈b.toList,∀ y∈a.toList.drop (a.size - 1),lE r x y)(m:MI r a b o i j)(hi:i + 1 < a.size)(hj:j < b.size)(hk:kindOf st=kd){x:Keyed}(ex:b[j]? = some x)(h:∀ z∈a.toList.drop i,lE r x z){n:Nat}(hn:n≤o.size){Q:ForInStep C3→SortSt→Prop}(q:FP r a b n Q st):wpS M A E s (lo3 a b o i j g u v) Q st:=by
  obtain⟨y,ey,my⟩:=gx (show i < a.size by omega)
  unfold lo3
  refine wpS_bind (bB ex ?_)
  have m2:=m.pushB T.sb ex h
  by_cases c:j + 1=b.size
  · rw [if_pos (by simpa using c)]
    exact wpS_pure (q.q1 _ _ _ _ _ _ _ (kM T m2 (.inl c)))
  · rw [if_neg (by simpa using c)]
    refine wpS_bind (bB ey (wpS_bind (yv T.C hk (T.Sa y my) T.Sb T.sb (n:=b.size - (j + 1)) (by omega) (by omega) fun k hk' p1 p2 => ?_)))
    dsimp only
    have p2:∀ z∈b.toList.drop (j + 1 + k),lE r y z:=fun z hz=>p2 z (by
      rw [List.take_of_length_le (by simp),List.drop_drop];exact hz)
    by_cases c2:k > 0
    · rw [if_pos c2]
      have m3:=m2.segB (k:=k) T.sb (by omega) fun z hz=>jJ T.C.tr T.sa ey (T.C.asym (p1 z hz))
      by_cases c3:j + 1 + k=b.size
      · rw [if_pos (by simpa using c3)]
        exact wpS_pure (q.q1 _ _ _ _ _ _ _ (kM T m3 (.inl c3)))
      · rw [if_neg (by simpa using c3)]
        exact FQ T top m3 hi (by omega) ey p2 (by simp;omega) q
    · rw [if_neg c2]
      have k0:k=0:=by omega
      subst k0
      exact FQ T top m2 hi (by omega) ey p2 (by simp;omega) q
theorem FS (T:Two M A E s kd S r a b)(top:∀ x∈b.toList,∀ y∈a.toList.drop (a.size - 1),lE r x y)(L:LI r a b o i j)(hk:kindOf st=kd){n:Nat}(hn:n≤o.size){Q:ForInStep C3→SortSt→Prop}(q:FP r a b n Q (cC st g)):wpS M A E s (lo2 a b o i j u v g) Q st:=by
  have ⟨m,hi,hj⟩:=L
  obtain⟨x,ex,mx⟩:=gx hj
  unfold lo2
  refine wpS_bind (wpS_modify (wpS_bind (bB ex (wpS_bind (uf T.C (st:=cC st g) hk (T.Sb x mx) T.Sa T.sa (n:=a.size - i) (by omega) (by omega) fun k hk' p1 p2 => ?_)))))
  dsimp only
  have p2:∀ z∈a.toList.drop (i + k),lE r x z:=fun z hz=>T.C.asym (p2 z (by
    rw [List.take_of_length_le (by simp),List.drop_drop];exact hz))
  by_cases c2:k > 0
  · rw [if_pos c2]
    have m2:=m.segA (k:=k) T.sa (by omega) fun z hz=>jJ T.C.tr T.sb ex (p1 z hz)
    by_cases c3:i + k + 1=a.size
    · rw [if_pos (by simpa using c3)]
      exact wpS_pure (q.q1 _ _ _ _ _ _ _ (vm T top m2 c3))
    · rw [if_neg (by simpa using c3)]
      by_cases c4:i + k=a.size
      · rw [if_pos (by simpa using c4)]
        exact wpS_pure (q.q1 _ _ _ _ _ _ _ (kM T m2 (.inr c4)))
      · rw [if_neg (by simpa using c4)]
        exact FR (st:=cC st g) (n:=n) T top m2 (by omega) hj hk ex p2 (by simp;omega) q
  · rw [if_neg c2]
    have k0:k=0:=by omega
    subst k0
    exact FR (st:=cC st g) T top m hi hj hk ex p2 hn q
theorem MI.len (m:MI r a b o i j):o.size=i + j:=by
  have:=m.pm.length_eq
  have h1:=m.ha
  have h2:=m.hb
  simp at this
  omega
theorem Ke (a b:Array Keyed):mLo a b=(do
    rule "list.sort.merge-lo"
    let t:=a.size + b.size
    let mut o:Array Keyed := #[← elem' b 0]
    let mut i:=0
    let mut j:=1
    if j == b.size then return dJ a b o i j
    if i + 1 == a.size then return eN a b o i j
    let mut g:=gallopOf (← get)
    for _ in [0:t] do
      let mut u:=0
      let mut v:=0
      for _ in [0:t] do
        let some w ← lt' (← elem' b j) (← elem' a i)|return dJ a b o i j
        if w then
          o:=o.push (← elem' b j);j:=j + 1;v:=v + 1;u:=0
          if j == b.size then return dJ a b o i j
          if v ≥ g then break
        else
          o:=o.push (← elem' a i);i:=i + 1;u:=u + 1;v:=0
          if i + 1 == a.size then return eN a b o i j
          if u ≥ g then break
      rule "list.sort.gallop"
      g:=g + 1
      for _ in [0:t] do
        if g > 1 then g:=g - 1
        modify (cC · g)
        let some k ← jd false (← elem' b j) a i (a.size - i) 0|return dJ a b o i j
        u:=k
        if k > 0 then
          o:=o++a.extract i (i + k);i:=i + k
          if i + 1 == a.size then return eN a b o i j
          if i == a.size then return dJ a b o i j
        o:=o.push (← elem' b j);j:=j + 1
        if j == b.size then return dJ a b o i j
        let some k ← jd true (← elem' a i) b j (b.size - j) 0|return dJ a b o i j
        v:=k
        if k > 0 then
          o:=o++b.extract j (j + k);j:=j + k
          if j == b.size then return dJ a b o i j
        o:=o.push (← elem' a i);i:=i + 1
        if i + 1 == a.size then return eN a b o i j
        if u < 7 && v < 7 then break
      g:=g + 1
      modify (cC · g)
    unsupported "internal:list.sort.merge-bound"):=rfl
theorem gR {σ:Type}{x:String}{st : σ}{Q:Unit → σ → Prop}(h:Q () st):wpS M A E s (liftM (rule x):StateT σ Sem Unit) Q st:=wpS_lift (wpAny_rule ⟨rfl,h⟩)
theorem cS {σ α : Type}{c:Prop} [Decidable c] {x y:StateT σ Sem α}{st : σ}{Q : α → σ → Prop}(h1:c→wpS M A E s x Q st)(h2 : ¬ c→wpS M A E s y Q st):wpS M A E s (if c then x else y) Q st:=by
  by_cases h:c
  · rw [if_pos h];exact h1 h
  · rw [if_neg h];exact h2 h
theorem Kf (T:Two M A E s kd S r a b)(top:∀ x∈b.toList,∀ y∈a.toList.drop (a.size - 1),lE r x y)(h0:∀ x,b[0]? = some x → ∀ y∈a.toList,lE r x y)(za:0 < a.size)(zb:0 < b.size)(hk:kindOf st=kd){Q:Array Keyed→SortSt→Prop}(q:∀ x gg,Mgd r a b x→Q x (cC st gg)):wpS M A E s (mLo a b) Q st:=by
  obtain⟨x,ex,mx⟩:=gx zb
  have m0:MI r a b #[x] 0 1:=by
    have mm:MI r a b #[] 0 0:=⟨by simp,by simp,fun _ h=>by simp at h,Nat.zero_le _,Nat.zero_le _⟩
    exact mm.pushB T.sb ex (by simpa using h0 x ex)
  have st0:st=cC st (gallopOf st):=by cases st;rfl
  rw [Ke]
  refine wpS_bind (gR (wpS_bind (bB ex (cS (fun c => ?_) fun c=>cS (fun c2 => ?_) fun c2 => ?_))))
  · refine wpS_pure ?_
    rw [st0]
    exact q _ _ (kM T m0 (.inl (by simpa using c)))
  · refine wpS_pure ?_
    rw [st0]
    exact q _ _ (vm T top m0 (by simpa using c2))
  · have L0:LI r a b #[x] 0 1:=⟨m0,by simp at c2;omega,by simp at c;omega⟩
    refine wpS_bind (wpS_get (wpS_bind (wpS_mono (wpS_forRange
      (I:=fun n c st'=>(∃ gg,st'=cC st gg) ∧ ∃ o i j g,c=(none,o,i,j,g)∧LI r a b o i j∧n + 1≤o.size)
      (Q:=fun c st'=>(∃ gg,st'=cC st gg) ∧ ∃ x o i j g,c=(some x,o,i,j,g)∧Mgd r a b x) ?step ?fin ⟨⟨_,st0⟩,#[x],0,1,gallopOf st,rfl,L0,by simp⟩) fun c st' h => ?_)))
    case fin =>
      rintro c st' ⟨_,o,i,j,g,_,L,z⟩
      have:=L.m.len
      have:=L.hi
      have:=L.hj
      omega
    case step =>
      rintro n c st' _ hn ⟨⟨gg,rfl⟩,o,i,j,g,rfl,L,z⟩
      refine wpS_bind (wpS_mono (wpS_forRange
        (I:=fun n' c st'=>st'=cC st gg ∧ ∃ o' i j u v,c=(none,o',i,j,u,v)∧LI r a b o' i j∧o.size + n'≤o'.size)
        (Q:=fun c st'=>st'=cC st gg∧((∃ x o' i j u v,c=(some x,o',i,j,u,v)∧Mgd r a b x) ∨ ∃ o' i j u v,c=(none,o',i,j,u,v)∧LI r a b o' i j∧o.size < o'.size)) ?s1 ?f1 ⟨rfl,o,i,j,0,0,rfl,L,by simp⟩) fun c st' h => ?_)
      case f1 =>
        rintro c st' ⟨rfl,o',i,j,u,v,rfl,L',z'⟩
        exact⟨rfl,.inr ⟨o',i,j,u,v,rfl,L',by omega⟩⟩
      case s1 =>
        rintro n' c st' _ _ ⟨rfl,o',i,j,u,v,rfl,L',z'⟩
        show wpS M A E s (lo1 a b g o' i j u v) _ _
        exact Kd (st:=cC st gg) T top L' hk (fun x o2 i2 j2 u2 v2 R=>⟨rfl,.inl ⟨x,o2,i2,j2,u2,v2,rfl,R⟩⟩) (fun o2 i2 j2 u2 v2 L2 z2=>⟨rfl,.inr ⟨o2,i2,j2,u2,v2,rfl,L2,by omega⟩⟩) fun o2 i2 j2 u2 v2 L2 z2=>⟨rfl,o2,i2,j2,u2,v2,rfl,L2,by omega⟩
      · obtain⟨rfl,⟨x,o',i,j,u,v,rfl,R⟩|⟨o',i,j,u,v,rfl,L',z'⟩⟩:=h
        · exact wpS_pure ⟨⟨gg,rfl⟩,x,o',i,j,g,rfl,R⟩
        · refine wpS_bind (gR (wpS_bind (wpS_mono (wpS_forRange
            (I:=fun _ c st'=>(∃ gg,st'=cC st gg) ∧ ∃ o2 i j g u v,c=(none,o2,i,j,g,u,v)∧LI r a b o2 i j∧n + 2≤o2.size)
            (Q:=fun c st'=>(∃ gg,st'=cC st gg)∧((∃ x o2 i j g u v,c=(some x,o2,i,j,g,u,v)∧Mgd r a b x) ∨ ∃ o2 i j g u v,c=(none,o2,i,j,g,u,v)∧LI r a b o2 i j∧n + 2≤o2.size)) ?s2 ?f2 ⟨⟨gg,rfl⟩,o',i,j,g + 1,u,v,rfl,L',by omega⟩) fun c st' h => ?_)))
          case f2 =>
            rintro c st' ⟨e,o2,i,j,g,u,v,rfl,L2,z2⟩
            exact⟨e,.inr ⟨o2,i,j,g,u,v,rfl,L2,z2⟩⟩
          case s2 =>
            rintro n' c st' _ _ ⟨⟨gg,rfl⟩,o2,i,j,g,u,v,rfl,L2,z2⟩
            show wpS M A E s (if g > 1 then lo2 a b o2 i j u v (g - 1) else lo2 a b o2 i j u v g) _ _
            exact cS (fun _=>FS (st:=cC st gg) (n:=n + 2) T top L2 hk z2 ⟨fun x o3 i3 j3 g3 u3 v3 R=>⟨⟨_,rfl⟩,.inl ⟨x,o3,i3,j3,g3,u3,v3,rfl,R⟩⟩,fun o3 i3 j3 g3 u3 v3 L3 z3=>⟨⟨_,rfl⟩,.inr ⟨o3,i3,j3,g3,u3,v3,rfl,L3,z3⟩⟩,fun o3 i3 j3 g3 u3 v3 L3 z3=>⟨⟨_,rfl⟩,o3,i3,j3,g3,u3,v3,rfl,L3,z3⟩⟩) fun _=>FS (st:=cC st gg) (n:=n + 2) T top L2 hk z2 ⟨fun x o3 i3 j3 g3 u3 v3 R=>⟨⟨_,rfl⟩,.inl ⟨x,o3,i3,j3,g3,u3,v3,rfl,R⟩⟩,fun o3 i3 j3 g3 u3 v3 L3 z3=>⟨⟨_,rfl⟩,.inr ⟨o3,i3,j3,g3,u3,v3,rfl,L3,z3⟩⟩,fun o3 i3 j3 g3 u3 v3 L3 z3=>⟨⟨_,rfl⟩,o3,i3,j3,g3,u3,v3,rfl,L3,z3⟩⟩
          · obtain⟨⟨gg,rfl⟩,⟨x,o2,i,j,g,u,v,rfl,R⟩|⟨o2,i,j,g,u,v,rfl,L2,z2⟩⟩:=h
            · exact wpS_pure ⟨⟨gg,rfl⟩,x,o2,i,j,g,rfl,R⟩
            · refine wpS_bind (wpS_modify (wpS_pure ⟨⟨g + 1,rfl⟩,o2,i,j,g + 1,rfl,L2,by omega⟩))
    · obtain⟨⟨gg,rfl⟩,x,o,i,j,g,rfl,R⟩:=h
      exact wpS_pure (q x gg R)
end
end Ts
set_option Elab.async false
set_option linter.all false
set_option maxRecDepth 100000
namespace Ts
open PySem PyProof.Rows
section
theorem n9 {α : Type}(a:Array α){p q:Nat}(h:p≤q)(hq:q≤a.size):(a.extract p q).reverse=a.reverse.extract (a.size - q) (a.size - q + (q - p)):=by
  apply Array.ext
  · simp;omega
  · intro i h1 h2
    simp at h1 h2
    simp only [Array.getElem_reverse,Array.getElem_extract,Array.size_extract]
    congr 1
    omega
theorem vn {α : Type}(a:Array α){q:Nat}(h:1≤q)(hq:q≤a.size):a.reverse[a.size - q]? = a[q - 1]? := by
  rw [Array.getElem?_eq_getElem (by simp;omega),Array.getElem?_eq_getElem (by omega),Array.getElem_reverse]
  congr 2
  omega
theorem vq {α : Type}(a:Array α){p q:Nat}(h:p≤q)(hq:q≤a.size){y : α}(hy:y∈(a.reverse.toList.drop (a.size - q)).take (q - p)):y∈((a.toList.drop 0).take q).drop p:=by
  rw [← o5,← n9 a h hq,Array.toList_reverse,List.mem_reverse,Array.toList_extract,List.extract_eq_take_drop] at hy
  rw [List.drop_zero]
  rw [List.drop_take]
  exact hy
variable {r:Keyed→Keyed→Bool}
abbrev rv (r:Keyed→Keyed→Bool):Keyed→Keyed→Bool:=fun x y=>r y x
theorem e8 {a:Array Keyed}(h:a.toList.Pairwise (lE r)):a.reverse.toList.Pairwise (lE (rv r)):=by
  rw [Array.toList_reverse,List.pairwise_reverse]
  exact h
def eJ (a b o:Array Keyed) (n m:Nat):Array Keyed:=a.extract 0 n++b.extract 0 m++o.reverse
def e9 (a b o:Array Keyed) (n m:Nat):Array Keyed:=b.extract 0 m++a.extract 0 n++o.reverse
theorem oa {α : Type}(a:Array α){n:Nat}(h:n≤a.size):a.extract 0 n=(a.reverse.extract (a.size - n) a.reverse.size).reverse:=by
  have:=n9 a (Nat.zero_le n) h
  have e:a.size - n + (n - 0)=a.reverse.size:=by simp;omega
  rw [e] at this
  rw [← this,Array.reverse_reverse]
theorem FT (a b o:Array Keyed){n m:Nat}(hn:n≤a.size)(hm:m≤b.size):eJ a b o n m=(dJ b.reverse a.reverse o (b.size - m) (a.size - n)).reverse:=by
  unfold eJ dJ
  rw [Array.reverse_append,Array.reverse_append,← oa b hm,← oa a hn,Array.append_assoc]
theorem AS (a b o:Array Keyed){n m:Nat}(hn:n≤a.size)(hm:m≤b.size):e9 a b o n m=(eN b.reverse a.reverse o (b.size - m) (a.size - n)).reverse:=by
  unfold e9 eN
  rw [Array.reverse_append,Array.reverse_append,← oa b hm,← oa a hn,Array.append_assoc]
theorem CL {a b o:Array Keyed}(h:Mgd (rv r) b.reverse a.reverse o):Mgd r a b o.reverse:=by
  obtain⟨p,q⟩:=h
  refine⟨?_,?_⟩
  · rw [Array.toList_reverse]
    refine (List.reverse_perm _).trans (p.trans ?_)
    rw [Array.toList_reverse,Array.toList_reverse]
    exact ((List.reverse_perm _).append (List.reverse_perm _)).trans List.perm_append_comm
  · rw [Array.toList_reverse,List.pairwise_reverse]
    exact q
variable {a b o:Array Keyed} {i j:Nat}
theorem FU (sa:a.toList.Pairwise (lE r))(sb:b.toList.Pairwise (lE r))(m:MI r a b o i j)(h:j=b.size∨i=a.size):Mgd r a b (dJ a b o i j):=by
  unfold dJ
  rcases h with h|h
  · rw [kL b h,Array.append_empty];exact m.endA sa h
  · rw [kL a h,Array.append_empty];exact m.endB sb h
theorem HV (sa:a.toList.Pairwise (lE r))(sb:b.toList.Pairwise (lE r))(top:∀ x∈b.toList,∀ y∈a.toList.drop (a.size - 1),lE r x y)(m:MI r a b o i j)(h:i + 1=a.size):Mgd r a b (eN a b o i j):=by
  unfold eN
  refine m.endBA sa sb fun x hx y hy=>top x (List.mem_of_mem_drop hx) y ?_
  rw [show a.size - 1=i by omega];exact hy
abbrev MH (r:Keyed→Keyed→Bool) (a b o:Array Keyed) (n m:Nat):Prop:=n≤a.size∧m≤b.size∧MI (rv r) b.reverse a.reverse o (b.size - m) (a.size - n)
variable {M:Model} {A:Around} {E:Value→Shared→Prop} {s:Shared} {kd:SortKind} {S:Keyed→Prop} {n m:Nat}
theorem kN (T:Two M A E s kd S r a b)(h:MH r a b o n m)(z:n=0∨m=0):Mgd r a b (eJ a b o n m):=by
  rw [FT a b o h.1 h.2.1]
  refine CL (FU (e8 T.sb) (e8 T.sa) h.2.2 ?_)
  rcases z with z|z
  · exact .inl (by rw [z];simp)
  · exact .inr (by rw [z];simp)
theorem jK (T:Two M A E s kd S r a b)(bot:∀ x,b[0]? = some x → ∀ y∈a.toList,lE r x y)(h:MH r a b o n m)(z:m=1):Mgd r a b (e9 a b o n m):=by
  rw [AS a b o h.1 h.2.1]
  have hm:=h.2.1
  refine CL (HV (e8 T.sb) (e8 T.sa) (fun x hx y hy => ?_) h.2.2 (by simp;omega))
  have e:b.reverse.toList.drop (b.reverse.size - 1)=[b[0]]:=by
    rw [Array.toList_reverse,Array.size_reverse]
    apply List.ext_getElem
    · simp;omega
    · intro i h1 h2
      simp at h1 h2
      subst h2
      simp [List.getElem_drop,List.getElem_reverse]
  rw [e,List.mem_singleton] at hy
  subst hy
  exact bot _ (Array.getElem?_eq_getElem (by omega)) x (by simpa using hx)
theorem MH.pushB (T:Two M A E s kd S r a b)(h:MH r a b o n m)(hm:1≤m){y:Keyed}(ey:b[m - 1]? = some y)(w:∀ z∈a.reverse.toList.drop (a.size - n),lE r z y):MH r a b (o.push y) n (m - 1):=by
  obtain⟨h1,h2,h3⟩:=h
  have e:b.size - (m - 1)=b.size - m + 1:=by omega
  refine⟨h1,by omega,?_⟩
  rw [e]
  exact h3.pushA (e8 T.sb) ((vn b hm h2).trans ey) w
end
end Ts
set_option Elab.async false
set_option linter.all false
set_option maxRecDepth 100000
namespace Ts
open PySem PyProof.Rows
def mHi:Array Keyed→Array Keyed→StateT SortSt Sem (Array Keyed):=sortPriv% PySem.Builtin.mergeHi
theorem Kg (a b:Array Keyed):mHi a b=(do
    rule "list.sort.merge-hi"
    let t:=a.size + b.size
    let mut n:=a.size - 1
    let mut m:=b.size
    let mut o:Array Keyed := #[← elem' a n]
    if n == 0 then return eJ a b o n m
    if m == 1 then return e9 a b o n m
    let mut g:=gallopOf (← get)
    for _ in [0:t] do
      let mut u:=0
      let mut v:=0
      for _ in [0:t] do
        let some w ← lt' (← elem' b (m - 1)) (← elem' a (n - 1))|return eJ a b o n m
        if w then
          n:=n - 1;o:=o.push (← elem' a n);u:=u + 1;v:=0
          if n == 0 then return eJ a b o n m
          if u ≥ g then break
        else
          m:=m - 1;o:=o.push (← elem' b m);v:=v + 1;u:=0
          if m == 1 then return e9 a b o n m
          if v ≥ g then break
      rule "list.sort.gallop"
      g:=g + 1
      for _ in [0:t] do
        if g > 1 then g:=g - 1
        modify (cC · g)
        let some p ← jd false (← elem' b (m - 1)) a 0 n (n - 1)|return eJ a b o n m
        let k:=n - p
        u:=k
        if k > 0 then
          o:=o++(a.extract p n).reverse;n:=p
          if n == 0 then return eJ a b o n m
        m:=m - 1;o:=o.push (← elem' b m)
        if m == 1 then return e9 a b o n m
        let some p ← jd true (← elem' a (n - 1)) b 0 m (m - 1)|return eJ a b o n m
        let k:=m - p
        v:=k
        if k > 0 then
          o:=o++(b.extract p m).reverse;m:=p
          if m == 1 then return e9 a b o n m
          if m == 0 then return eJ a b o n m
        n:=n - 1;o:=o.push (← elem' a n)
        if n == 0 then return eJ a b o n m
        if u < 7 && v < 7 then break
      g:=g + 1
      modify (cC · g)
    unsupported "internal:list.sort.merge-bound"):=rfl
abbrev D1:=Option (Array Keyed) × Nat × Nat × Array Keyed × Nat
abbrev D2:=Option (Array Keyed) × Nat × Nat × Array Keyed × Nat × Nat
abbrev D3:=Option (Array Keyed) × Nat × Nat × Array Keyed × Nat × Nat × Nat
def hi1 (a b:Array Keyed) (g n m:Nat) (o:Array Keyed) (u v:Nat):SM (ForInStep D2):=do
  let x ← elem' b (m - 1)
  let y ← elem' a (n - 1)
  let some w ← lt' x y|pure (.done (some (eJ a b o n m),n,m,o,u,v))
  if w then do
    let y ← elem' a (n - 1)
    if n - 1 == 0 then pure (.done (some (eJ a b (o.push y) (n - 1) m),n - 1,m,o.push y,u + 1,0))
    else if u + 1 ≥ g then pure (.done (none,n - 1,m,o.push y,u + 1,0)) else pure (.yield (none,n - 1,m,o.push y,u + 1,0))
  else do
    let x ← elem' b (m - 1)
    if m - 1 == 1 then pure (.done (some (e9 a b (o.push x) n (m - 1)),n,m - 1,o.push x,0,v + 1))
    else if v + 1 ≥ g then pure (.done (none,n,m - 1,o.push x,0,v + 1)) else pure (.yield (none,n,m - 1,o.push x,0,v + 1))
def hi4 (a b:Array Keyed) (n m:Nat) (o:Array Keyed) (g u v:Nat):SM (ForInStep D3):=do
  let y ← elem' a (n - 1)
  if n - 1 == 0 then pure (.done (some (eJ a b (o.push y) (n - 1) m),n - 1,m,o.push y,g,u,v))
  else if (decide (u < 7) && decide (v < 7))=true then pure (.done (none,n - 1,m,o.push y,g,u,v)) else pure (.yield (none,n - 1,m,o.push y,g,u,v))
def hi3 (a b:Array Keyed) (n m:Nat) (o:Array Keyed) (g u v:Nat):SM (ForInStep D3):=do
  let x ← elem' b (m - 1)
  if m - 1 == 1 then pure (.done (some (e9 a b (o.push x) n (m - 1)),n,m - 1,o.push x,g,u,v))
  else do
    let y ← elem' a (n - 1)
    let some p ← jd true y b 0 (m - 1) (m - 1 - 1)|pure (.done (some (eJ a b (o.push x) n (m - 1)),n,m - 1,o.push x,g,u,v))
    if m - 1 - p > 0 then
      if p == 1 then pure (.done (some (e9 a b (o.push x++(b.extract p (m - 1)).reverse) n p),n,p,o.push x++(b.extract p (m - 1)).reverse,g,u,m - 1 - p))
      else if p == 0 then pure (.done (some (eJ a b (o.push x++(b.extract p (m - 1)).reverse) n p),n,p,o.push x++(b.extract p (m - 1)).reverse,g,u,m - 1 - p))
      else hi4 a b n p (o.push x++(b.extract p (m - 1)).reverse) g u (m - 1 - p)
    else hi4 a b n (m - 1) (o.push x) g u (m - 1 - p)
def hi2 (a b:Array Keyed) (n m:Nat) (o:Array Keyed) (u v g:Nat):SM (ForInStep D3):=do
  modify (cC · g)
  let x ← elem' b (m - 1)
  let some p ← jd false x a 0 n (n - 1)|pure (.done (some (eJ a b o n m),n,m,o,g,u,v))
  if n - p > 0 then
    if p == 0 then pure (.done (some (eJ a b (o++(a.extract p n).reverse) p m),p,m,o++(a.extract p n).reverse,g,n - p,v))
    else hi3 a b p m (o++(a.extract p n).reverse) g (n - p) v
  else hi3 a b n m o g (n - p) v
section
variable {M:Model} {A:Around} {E:Value→Shared→Prop} {s:Shared} {kd:SortKind} {S:Keyed→Prop} {r:Keyed→Keyed→Bool} {a b o:Array Keyed} {n m g u v p:Nat} {st:SortSt}
theorem MH.len (h:MH r a b o n m):o.size + n + m=a.size + b.size:=by
  have:=h.2.2.len
  have:=h.1
  have:=h.2.1
  omega
theorem o6 {α : Type}(a:Array α)(hq:p≤a.size){y : α}(hy:y∈a.reverse.toList.drop (a.size - p)):y∈(a.toList.drop 0).take p:=by
  have:=vq a (Nat.zero_le p) hq (y:=y) (by rw [List.take_of_length_le (by simp;omega)];exact hy)
  simpa using this
theorem MH.low (T:Two M A E s kd S r a b)(h:MH r a b o n m)(hm:1≤m){x y:Keyed}(ey:b[m - 1]? = some y)(w:lE r y x):∀ z∈b.reverse.toList.drop (b.size - m),lE r z x :=
  jJ (r:=rv r) (fun p q=>T.C.tr q p) (e8 T.sb) ((vn b hm h.2.1).trans ey) w
theorem MH.lowA (T:Two M A E s kd S r a b)(h:MH r a b o n m)(hn:1≤n){x y:Keyed}(ey:a[n - 1]? = some y)(w:lE r y x):∀ z∈a.reverse.toList.drop (a.size - n),lE r z x :=
  jJ (r:=rv r) (fun p q=>T.C.tr q p) (e8 T.sa) ((vn a hn h.1).trans ey) w
theorem MH.putA (T:Two M A E s kd S r a b)(h:MH r a b o n m)(hn:1≤n){x:Keyed}(ex:a[n - 1]? = some x)(w:∀ z∈b.reverse.toList.drop (b.size - m),lE r z x):MH r a b (o.push x) (n - 1) m:=by
  obtain⟨h1,h2,h3⟩:=h
  have e:a.size - (n - 1)=a.size - n + 1:=by omega
  refine⟨by omega,h2,?_⟩
  rw [e]
  exact h3.pushB (e8 T.sa) ((vn a hn h1).trans ex) w
theorem MH.segA (T:Two M A E s kd S r a b)(h:MH r a b o n m)(hp:p≤n)(w:∀ y∈((a.toList.drop 0).take n).drop p,∀ z∈b.reverse.toList.drop (b.size - m),lE r z y):MH r a b (o++(a.extract p n).reverse) p m:=by
  obtain⟨h1,h2,h3⟩:=h
  have e:a.size - p=a.size - n + (n - p):=by omega
  refine⟨by omega,h2,?_⟩
  rw [e,n9 a hp h1]
  exact h3.segB (e8 T.sa) (by simp;omega) fun y hy=>w y (vq a hp h1 hy)
theorem MH.segB (T:Two M A E s kd S r a b)(h:MH r a b o n m)(hp:p≤m)(w:∀ y∈((b.toList.drop 0).take m).drop p,∀ z∈a.reverse.toList.drop (a.size - n),lE r z y):MH r a b (o++(b.extract p m).reverse) n p:=by
  obtain⟨h1,h2,h3⟩:=h
  have e:b.size - p=b.size - m + (m - p):=by omega
  refine⟨h1,by omega,?_⟩
  rw [e,n9 b hp h2]
  exact h3.segA (e8 T.sb) (by simp;omega) fun y hy=>w y (vq b hp h2 hy)
structure HI (r:Keyed→Keyed→Bool) (a b o:Array Keyed) (n m:Nat):Prop where
  h:MH r a b o n m
  hn:1≤n
  hm:2≤m
theorem Kh (T:Two M A E s kd S r a b)(bot:∀ x,b[0]? = some x → ∀ y∈a.toList,lE r x y)(L:HI r a b o n m)(hk:kindOf st=kd){Q:ForInStep D2→SortSt→Prop}
    (q1:∀ x o' i' j' u' v',Mgd r a b x→Q (.done (some x,i',j',o',u',v')) st) (q2:∀ o' i' j' u' v',HI r a b o' i' j'→o.size < o'.size→Q (.done (none,i',j',o',u',v')) st) (q3:∀ o' i' j' u' v',HI r a b o' i' j'→o.size < o'.size→Q (.yield (none,i',j',o',u',v')) st) :
    wpS M A E s (hi1 a b g n m o u v) Q st:=by
  have ⟨h,hn,hm⟩:=L
  have h1:=h.1
  have h2:=h.2.1
  obtain⟨x,ex,mx⟩:=gx (show m - 1 < b.size by omega)
  obtain⟨y,ey,my⟩:=gx (show n - 1 < a.size by omega)
  unfold hi1
  refine wpS_bind (bB ex (wpS_bind (bB ey (wpS_bind (T.C.ask (T.Sb x mx) (T.Sa y my) hk ?_)))))
  dsimp only
  cases w:r x y with
  | true =>
    rw [if_pos rfl]
    refine wpS_bind (bB ey ?_)
    have m2:=h.putA T hn ey (h.low T (by omega) ex (T.C.asym w))
    have z:o.size < (o.push y).size:=by simp
    by_cases c:n - 1=0
    · rw [if_pos (by simpa using c)]
      exact wpS_pure (q1 _ _ _ _ _ _ (kN T m2 (.inl c)))
    · rw [if_neg (by simpa using c)]
      have L2:HI r a b (o.push y) (n - 1) m:=⟨m2,by omega,hm⟩
      split
      · exact wpS_pure (q2 _ _ _ _ _ L2 z)
      · exact wpS_pure (q3 _ _ _ _ _ L2 z)
  | false =>
    rw [if_neg Bool.false_ne_true]
    refine wpS_bind (bB ex ?_)
    have m2:=MH.pushB T h (by omega) ex (h.lowA T hn ey w)
    have z:o.size < (o.push x).size:=by simp
    by_cases c:m - 1=1
    · rw [if_pos (by simpa using c)]
      exact wpS_pure (q1 _ _ _ _ _ _ (jK T bot m2 c))
    · rw [if_neg (by simpa using c)]
      have L2:HI r a b (o.push x) n (m - 1):=⟨m2,hn,by omega⟩
      split
      · exact wpS_pure (q2 _ _ _ _ _ L2 z)
      · exact wpS_pure (q3 _ _ _ _ _ L2 z)
structure FV (r:Keyed→Keyed→Bool) (a b:Array Keyed) (l:Nat) (Q:ForInStep D3→SortSt→Prop) (st:SortSt):Prop where
  q1:∀ x o' i' j' g' u' v',Mgd r a b x→Q (.done (some x,i',j',o',g',u',v')) st
  q2:∀ o' i' j' g' u' v',HI r a b o' i' j'→l≤o'.size→Q (.done (none,i',j',o',g',u',v')) st
  q3:∀ o' i' j' g' u' v',HI r a b o' i' j'→l≤o'.size→Q (.yield (none,i',j',o',g',u',v')) st
theorem FW (T:Two M A E s kd S r a b)(h:MH r a b o n m)(hn:1≤n)(hm:2≤m){y:Keyed}(ey:a[n - 1]? = some y)(w:∀ z∈b.reverse.toList.drop (b.size - m),lE r z y){l:Nat}(hl:l≤o.size){Q:ForInStep D3→SortSt→Prop}(q:FV r a b l Q st):wpS M A E s (hi4 a b n m o g u v) Q st:=by
  unfold hi4
  refine wpS_bind (bB ey ?_)
  have m2:=h.putA T hn ey w
  have z:l≤(o.push y).size:=by simp;omega
  by_cases c:n - 1=0
  · rw [if_pos (by simpa using c)]
    exact wpS_pure (q.q1 _ _ _ _ _ _ _ (kN T m2 (.inl c)))
  · rw [if_neg (by simpa using c)]
    have L2:HI r a b (o.push y) (n - 1) m:=⟨m2,by omega,hm⟩
    split
    · exact wpS_pure (q.q2 _ _ _ _ _ _ L2 z)
    · exact wpS_pure (q.q3 _ _ _ _ _ _ L2 z)
theorem FX (T:Two M A E s kd S r a b)(bot:∀ x,b[0]? = some x → ∀ y∈a.toList,lE r x y)(h:MH r a b o n m)(hn:1≤n)(hm:2≤m)(hk:kindOf st=kd){x:Keyed}(ex:b[m - 1]? = some x)(w:∀ z∈a.reverse.toList.drop (a.size - n),lE r z x){l:Nat}(hl:l≤o.size){Q:ForInStep D3→SortSt→Prop}(q:FV r a b l Q st):wpS M A E s (hi3 a b n m o g u v) Q st:=by
  have h1:=h.1
  have h2:=h.2.1
  obtain⟨y,ey,my⟩:=gx (show n - 1 < a.size by omega)
  unfold hi3
  refine wpS_bind (bB ex ?_)
  have m2:=MH.pushB T h (by omega) ex w
  by_cases c:m - 1=1
  · rw [if_pos (by simpa using c)]
    exact wpS_pure (q.q1 _ _ _ _ _ _ _ (jK T bot m2 c))
  · rw [if_neg (by simpa using c)]
    refine wpS_bind (bB ey (wpS_bind (yv T.C hk (T.Sa y my) T.Sb T.sb (n:=m - 1) (by omega) (by omega) fun k hk' p1 p2 => ?_)))
    dsimp only
    have lw:∀ z∈b.reverse.toList.drop (b.size - k),lE r z y:=fun z hz=>T.C.asym (p1 z (o6 b (by omega) hz))
    by_cases c2:m - 1 - k > 0
    · rw [if_pos c2]
      have m3:=MH.segB T m2 (p:=k) hk' fun z hz=>m2.lowA T hn ey (p2 z hz)
      by_cases c3:k=1
      · rw [if_pos (by simpa using c3)]
        exact wpS_pure (q.q1 _ _ _ _ _ _ _ (jK T bot m3 c3))
      · rw [if_neg (by simpa using c3)]
        by_cases c4:k=0
        · rw [if_pos (by simpa using c4)]
          exact wpS_pure (q.q1 _ _ _ _ _ _ _ (kN T m3 (.inr c4)))
        · rw [if_neg (by simpa using c4)]
          exact FW (l:=l) T m3 hn (by omega) ey lw (by simp;omega) q
    · rw [if_neg c2]
      have k0:k=m - 1:=by omega
      subst k0
      exact FW (l:=l) T m2 hn (by omega) ey lw (by simp;omega) q
theorem FY (T:Two M A E s kd S r a b)(bot:∀ x,b[0]? = some x → ∀ y∈a.toList,lE r x y)(L:HI r a b o n m)(hk:kindOf st=kd){l:Nat}(hl:l≤o.size){Q:ForInStep D3→SortSt→Prop}(q:FV r a b l Q (cC st g)):wpS M A E s (hi2 a b n m o u v g) Q st:=by
  have ⟨h,hn,hm⟩:=L
  have h1:=h.1
  have h2:=h.2.1
  obtain⟨x,ex,mx⟩:=gx (show m - 1 < b.size by omega)
  unfold hi2
  refine wpS_bind (wpS_modify (wpS_bind (bB ex (wpS_bind (uf T.C (st:=cC st g) hk (T.Sb x mx) T.Sa T.sa (n:=n) (by omega) (by omega) fun k hk' p1 p2 => ?_)))))
  dsimp only
  have lw:∀ z∈a.reverse.toList.drop (a.size - k),lE r z x:=fun z hz=>p1 z (o6 a (by omega) hz)
  by_cases c2:n - k > 0
  · rw [if_pos c2]
    have m2:=MH.segA T h (p:=k) hk' fun z hz=>h.low T (by omega) ex (T.C.asym (p2 z hz))
    by_cases c3:k=0
    · rw [if_pos (by simpa using c3)]
      exact wpS_pure (q.q1 _ _ _ _ _ _ _ (kN T m2 (.inl c3)))
    · rw [if_neg (by simpa using c3)]
      exact FX (st:=cC st g) (l:=l) T bot m2 (by omega) hm hk ex lw (by simp;omega) q
  · rw [if_neg c2]
    have k0:k=n:=by omega
    subst k0
    exact FX (st:=cC st g) (l:=l) T bot h hn hm hk ex lw hl q
theorem Ki (T:Two M A E s kd S r a b)(bot:∀ x,b[0]? = some x → ∀ y∈a.toList,lE r x y)(top:∀ y,a[a.size - 1]? = some y → ∀ x∈b.toList,lE r x y)(za:0 < a.size)(zb:0 < b.size)(hk:kindOf st=kd){Q:Array Keyed→SortSt→Prop}(q:∀ x gg,Mgd r a b x→Q x (cC st gg)):wpS M A E s (mHi a b) Q st:=by
  obtain⟨y,ey,my⟩:=gx (show a.size - 1 < a.size by omega)
  have m0:MH r a b #[y] (a.size - 1) b.size:=by
    have mm:MH r a b #[] a.size b.size:=⟨Nat.le_refl _,Nat.le_refl _,by simp,by simp,fun _ h=>by simp at h,by simp,by simp⟩
    exact mm.putA T za ey fun z hz=>top y ey z (by
      have:=o6 b (Nat.le_refl _) hz
      rw [List.drop_zero] at this
      exact List.mem_of_mem_take this)
  have st0:st=cC st (gallopOf st):=by cases st;rfl
  rw [Kg]
  refine wpS_bind (gR (wpS_bind (bB ey (cS (fun c => ?_) fun c=>cS (fun c2 => ?_) fun c2 => ?_))))
  · refine wpS_pure ?_
    rw [st0]
    exact q _ _ (kN T m0 (.inl (by simpa using c)))
  · refine wpS_pure ?_
    rw [st0]
    exact q _ _ (jK T bot m0 (by simpa using c2))
  · have L0:HI r a b #[y] (a.size - 1) b.size:=⟨m0,by simp at c;omega,by simp at c2;omega⟩
    refine wpS_bind (wpS_get (wpS_bind (wpS_mono (wpS_forRange
      (I:=fun n c st'=>(∃ gg,st'=cC st gg) ∧ ∃ o i j g,c=(none,i,j,o,g)∧HI r a b o i j∧n + 1≤o.size)
      (Q:=fun c st'=>(∃ gg,st'=cC st gg) ∧ ∃ x o i j g,c=(some x,i,j,o,g)∧Mgd r a b x) ?step ?fin ⟨⟨_,st0⟩,#[y],a.size - 1,b.size,gallopOf st,rfl,L0,by simp⟩) fun c st' h => ?_)))
    case fin =>
      rintro c st' ⟨_,o,i,j,g,_,L,z⟩
      have:=L.h.len
      have:=L.hn
      have:=L.hm
      omega
    case step =>
      rintro n c st' _ hn ⟨⟨gg,rfl⟩,o,i,j,g,rfl,L,z⟩
      refine wpS_bind (wpS_mono (wpS_forRange
        (I:=fun n' c st'=>st'=cC st gg ∧ ∃ o' i j u v,c=(none,i,j,o',u,v)∧HI r a b o' i j∧o.size + n'≤o'.size)
        (Q:=fun c st'=>st'=cC st gg∧((∃ x o' i j u v,c=(some x,i,j,o',u,v)∧Mgd r a b x) ∨ ∃ o' i j u v,c=(none,i,j,o',u,v)∧HI r a b o' i j∧o.size < o'.size)) ?s1 ?f1 ⟨rfl,o,i,j,0,0,rfl,L,by simp⟩) fun c st' h => ?_)
      case f1 =>
        rintro c st' ⟨rfl,o',i,j,u,v,rfl,L',z'⟩
        exact⟨rfl,.inr ⟨o',i,j,u,v,rfl,L',by omega⟩⟩
      case s1 =>
        rintro n' c st' _ _ ⟨rfl,o',i,j,u,v,rfl,L',z'⟩
        show wpS M A E s (hi1 a b g i j o' u v) _ _
        exact Kh (st:=cC st gg) T bot L' hk (fun x o2 i2 j2 u2 v2 R=>⟨rfl,.inl ⟨x,o2,i2,j2,u2,v2,rfl,R⟩⟩) (fun o2 i2 j2 u2 v2 L2 z2=>⟨rfl,.inr ⟨o2,i2,j2,u2,v2,rfl,L2,by omega⟩⟩) fun o2 i2 j2 u2 v2 L2 z2=>⟨rfl,o2,i2,j2,u2,v2,rfl,L2,by omega⟩
      · obtain⟨rfl,⟨x,o',i,j,u,v,rfl,R⟩|⟨o',i,j,u,v,rfl,L',z'⟩⟩:=h
        · exact wpS_pure ⟨⟨gg,rfl⟩,x,o',i,j,g,rfl,R⟩
        · refine wpS_bind (gR (wpS_bind (wpS_mono (wpS_forRange
            (I:=fun _ c st'=>(∃ gg,st'=cC st gg) ∧ ∃ o2 i j g u v,c=(none,i,j,o2,g,u,v)∧HI r a b o2 i j∧n + 2≤o2.size)
            (Q:=fun c st'=>(∃ gg,st'=cC st gg)∧((∃ x o2 i j g u v,c=(some x,i,j,o2,g,u,v)∧Mgd r a b x) ∨ ∃ o2 i j g u v,c=(none,i,j,o2,g,u,v)∧HI r a b o2 i j∧n + 2≤o2.size)) ?s2 ?f2 ⟨⟨gg,rfl⟩,o',i,j,g + 1,u,v,rfl,L',by omega⟩) fun c st' h => ?_)))
          case f2 =>
            rintro c st' ⟨e,o2,i,j,g,u,v,rfl,L2,z2⟩
            exact⟨e,.inr ⟨o2,i,j,g,u,v,rfl,L2,z2⟩⟩
          case s2 =>
            rintro n' c st' _ _ ⟨⟨gg,rfl⟩,o2,i,j,g,u,v,rfl,L2,z2⟩
            show wpS M A E s (if g > 1 then hi2 a b i j o2 u v (g - 1) else hi2 a b i j o2 u v g) _ _
            exact cS (fun _=>FY (st:=cC st gg) (l:=n + 2) T bot L2 hk z2 ⟨fun x o3 i3 j3 g3 u3 v3 R=>⟨⟨_,rfl⟩,.inl ⟨x,o3,i3,j3,g3,u3,v3,rfl,R⟩⟩,fun o3 i3 j3 g3 u3 v3 L3 z3=>⟨⟨_,rfl⟩,.inr ⟨o3,i3,j3,g3,u3,v3,rfl,L3,z3⟩⟩,fun o3 i3 j3 g3 u3 v3 L3 z3=>⟨⟨_,rfl⟩,o3,i3,j3,g3,u3,v3,rfl,L3,z3⟩⟩) fun _=>FY (st:=cC st gg) (l:=n + 2) T bot L2 hk z2 ⟨fun x o3 i3 j3 g3 u3 v3 R=>⟨⟨_,rfl⟩,.inl ⟨x,o3,i3,j3,g3,u3,v3,rfl,R⟩⟩,fun o3 i3 j3 g3 u3 v3 L3 z3=>⟨⟨_,rfl⟩,.inr ⟨o3,i3,j3,g3,u3,v3,rfl,L3,z3⟩⟩,fun o3 i3 j3 g3 u3 v3 L3 z3=>⟨⟨_,rfl⟩,o3,i3,j3,g3,u3,v3,rfl,L3,z3⟩⟩
          · obtain⟨⟨gg,rfl⟩,⟨x,o2,i,j,g,u,v,rfl,R⟩|⟨o2,i,j,g,u,v,rfl,L2,z2⟩⟩:=h
            · exact wpS_pure ⟨⟨gg,rfl⟩,x,o2,i,j,g,rfl,R⟩
            · refine wpS_bind (wpS_modify (wpS_pure ⟨⟨g + 1,rfl⟩,o2,i,j,g + 1,rfl,L2,by omega⟩))
    · obtain⟨⟨gg,rfl⟩,x,o,i,j,g,rfl,R⟩:=h
      exact wpS_pure (q x gg R)
end
end Ts
set_option Elab.async false
set_option linter.all false
set_option maxRecDepth 100000
namespace Ts
open PySem PyProof.Rows
def yw (l:List Keyed) (base:Nat) (xs:Array Keyed):Array Keyed:=l.zipIdx.foldl (fun xs q=>xs.setIfInBounds (base + q.2) q.1) xs
theorem Kj (i:Nat):mergeAt' i=(do
    let st ← get
    let (some (p,n,e),some (q,m,_)):=((pendingOf st)[i]?,(pendingOf st)[i + 1]?)|unsupported "internal:list.sort.pending"
    set (setPending st (((pendingOf st).setIfInBounds i (p,n + m,e)).eraseIdxIfInBounds (i + 1)))
    let some k ← jd false (← elem' (arrOf st) q) (arrOf st) p n 0|return false
    let (p,n):=(p + k,n - k)
    if n == 0 then return true
    let some m ← jd true (← elem' (arrOf st) (p + n - 1)) (arrOf st) q m (m - 1)|return false
    if m == 0 then return true
    let x:=(arrOf st).extract p q
    let y:=(arrOf st).extract q (q + m)
    let z ← if n≤m then mLo x y else mHi x y
    modify fun st=>setArr st (yw z.toList p (arrOf st))
    return (failedOf (← get)).isNone):=rfl
theorem FZ (base:Nat):∀ (l:List Keyed) (n:Nat) (xs:Array Keyed) (P W R:List Keyed),xs.toList=P++W++R→P.length=base + n→W.length=l.length→((l.zipIdx n).foldl (fun xs q=>xs.setIfInBounds (base + q.2) q.1) xs).toList=P++l++R
  | [],n,xs,P,W,R,h,hp,hw=>by
    have:W=[]:=List.length_eq_zero_iff.mp hw
    subst this
    simpa using h
  | x :: l,n,xs,P,[],R,h,hp,hw=>by simp at hw
  | x :: l,n,xs,P,w :: W,R,h,hp,hw=>by
    rw [List.zipIdx_cons,List.foldl_cons]
    have:=FZ base l (n + 1) (xs.setIfInBounds (base + n) x) (P++[x]) W R (by
      rw [Array.toList_setIfInBounds,h,← hp,List.append_assoc,List.append_assoc]
      simp [List.set_append]) (by simp [hp];omega) (by simpa using hw)
    rw [this]
    simp
theorem Kk {l:List Keyed}{base:Nat}{xs:Array Keyed}{P W R:List Keyed}(h:xs.toList=P++W++R)(hp:P.length=base)(hw:W.length=l.length):(yw l base xs).toList=P++l++R:=FZ base l 0 xs P W R h (by omega) hw
section
variable {M:Model} {A:Around} {E:Value→Shared→Prop} {s:Shared} {kd:SortKind} {S:Keyed→Prop} {r:Keyed→Keyed→Bool} {st:SortSt}
theorem Cmp.refl (C:Cmp M A E s kd S r)(x:Keyed):lE r x x:=by
  cases w:r x x with
  | false=>exact w
  | true=>rw [C.asym w] at w;cases w
theorem o7 {α : Type}{xs:Array α}{P X R:List α}(h:xs.toList=P++(X++R))(i:Nat)(hi:i < X.length):xs[P.length + i]? = X[i]? := by
  rw [← Array.getElem?_toList,h,List.getElem?_append_right (by omega),List.getElem?_append_left (by omega)]
  congr 1;omega
theorem AT (C:Cmp M A E s kd S r){xs:Array Keyed}{x:Keyed}{P X R:List Keyed}(h:xs.toList=P++(X++R)){ht:Nat}{Q:Option Nat→SortSt→Prop}(hk:kindOf st=kd)(Sx:S x)(SX:∀ y∈X,S y)(sX:X.Pairwise (lE r))(hh:ht < X.length)
    (q:∀ k,k≤X.length→(∀ y∈X.take k,lE r y x)→(∀ y∈X.drop k,r x y=true)→Q (some k) st):wpS M A E s (jd false x xs P.length X.length ht) Q st:=by
  have gt:∀ d (hd:d < X.length),xs[P.length + d]? = some X[d]:=fun d hd=>by rw [o7 h d hd];exact List.getElem?_eq_getElem hd
  refine vk C hk (fun d => !r x (X.getD d x)) (fun d hd=>⟨X[d],gt d hd,SX _ (List.getElem_mem hd),by simp [List.getD,hd]⟩) Sx (fun d e hde he pe => ?_) hh fun k hk' p1 p2=>q k hk' (fun y hy => ?_) fun y hy => ?_
  · have hd:d < X.length:=by omega
    simp only [List.getD,List.getElem?_eq_getElem he,List.getElem?_eq_getElem hd,Option.getD_some] at pe ⊢
    by_cases z:d=e
    · subst z;exact pe
    · have l:=List.pairwise_iff_getElem.mp sX d e hd he (by omega)
      have e1:r x X[e] = false:=by simpa using pe
      have:=C.tr l e1
      simp [this]
  · obtain⟨d,hd,e⟩:=List.mem_take_iff_getElem.mp hy
    have hd':d < X.length:=by omega
    have:=p1 d (by omega)
    simp only [List.getD,List.getElem?_eq_getElem hd',Option.getD_some] at this
    rw [← e]
    simpa using this
  · obtain⟨d,hd,e⟩:=List.mem_drop_iff_getElem.mp hy
    have:=p2 (k + d) (by omega) (by omega)
    simp only [List.getD,List.getElem?_eq_getElem (show k + d < X.length by omega),Option.getD_some] at this
    have e2:y=X[k + d]'(by omega):=by rw [← e]
    rw [e2]
    simpa using this
theorem DG (C:Cmp M A E s kd S r){xs:Array Keyed}{x:Keyed}{P X R:List Keyed}(h:xs.toList=P++(X++R)){ht:Nat}{Q:Option Nat→SortSt→Prop}(hk:kindOf st=kd)(Sx:S x)(SX:∀ y∈X,S y)(sX:X.Pairwise (lE r))(hh:ht < X.length)
    (q:∀ k,k≤X.length→(∀ y∈X.take k,r y x=true)→(∀ y∈X.drop k,lE r x y)→Q (some k) st):wpS M A E s (jd true x xs P.length X.length ht) Q st:=by
  have gt:∀ d (hd:d < X.length),xs[P.length + d]? = some X[d]:=fun d hd=>by rw [o7 h d hd];exact List.getElem?_eq_getElem hd
  refine vk C hk (fun d=>r (X.getD d x) x) (fun d hd=>⟨X[d],gt d hd,SX _ (List.getElem_mem hd),by simp [List.getD,hd]⟩) Sx (fun d e hde he pe => ?_) hh fun k hk' p1 p2=>q k hk' (fun y hy => ?_) fun y hy => ?_
  · have hd:d < X.length:=by omega
    simp only [List.getD,List.getElem?_eq_getElem he,List.getElem?_eq_getElem hd,Option.getD_some] at pe ⊢
    by_cases z:d=e
    · subst z;exact pe
    · have l:=List.pairwise_iff_getElem.mp sX d e hd he (by omega)
      cases w:r X[d] x with
      | true=>rfl
      | false =>
        have:=C.tr w l
        rw [this] at pe;cases pe
  · obtain⟨d,hd,e⟩:=List.mem_take_iff_getElem.mp hy
    have hd':d < X.length:=by omega
    have:=p1 d (by omega)
    simp only [List.getD,List.getElem?_eq_getElem hd',Option.getD_some] at this
    rw [← e]
    exact this
  · obtain⟨d,hd,e⟩:=List.mem_drop_iff_getElem.mp hy
    have:=p2 (k + d) (by omega) (by omega)
    simp only [List.getD,List.getElem?_eq_getElem (show k + d < X.length by omega),Option.getD_some] at this
    have e2:y=X[k + d]'(by omega):=by rw [← e]
    rw [e2]
    exact this
theorem HW {σ:Type}{st' st : σ}{Q:PUnit → σ → Prop}(h:Q ⟨⟩ st'):wpS M A E s (set st':StateT σ Sem PUnit) Q st:=by
  unfold wpS;rw [StateT.run_set];exact wpAny_pure ⟨rfl,h⟩
theorem Kl (C:Cmp M A E s kd S r){i:Nat}{P X Y R:List Keyed}{e e':Nat}(hk:kindOf st=kd)(hf:failedOf st=none)(ha:(arrOf st).toList=P++(X++(Y++R)))(p1:(pendingOf st)[i]? = some (P.length,X.length,e))(p2:(pendingOf st)[i + 1]? = some (P.length + X.length,Y.length,e'))
    (SX:∀ y∈X,S y) (SY:∀ y∈Y,S y) (sX:X.Pairwise (lE r)) (sY:Y.Pairwise (lE r)) (nX:X≠[]) (nY:Y≠[]) {Q:Bool→SortSt→Prop}
    (q:∀ Z gg xs,Z.Perm (X++Y)→Z.Pairwise (lE r)→xs.toList=P++(Z++R)→Q true (SortSt.mk' kd xs (((pendingOf st).setIfInBounds i (P.length,X.length + Y.length,e)).eraseIdxIfInBounds (i + 1)) gg none)):wpS M A E s (mergeAt' i) Q st:=by
  have lX:0 < X.length:=List.length_pos_iff.mpr nX
  have lY:0 < Y.length:=List.length_pos_iff.mpr nY
  have ha2:(arrOf st).toList=(P++X)++(Y++R):=by rw [ha,List.append_assoc]
  have pxl:(P++X).length=P.length + X.length:=List.length_append
  rw [Kj]
  refine wpS_bind (wpS_get ?_)
  simp only [p1,p2]
  obtain⟨st1,hst1⟩ : ∃ st1,st1=setPending st (((pendingOf st).setIfInBounds i (P.length,X.length + Y.length,e)).eraseIdxIfInBounds (i + 1)):=⟨_,rfl⟩
  have fin:∀ Z gg xs,Z.Perm (X++Y)→Z.Pairwise (lE r)→xs.toList=P++(Z++R)→Q true (cC (setArr st1 xs) gg):=fun Z gg xs z1 z2 z3=>by
    have:=q Z gg xs z1 z2 z3
    rw [hst1]
    show Q true (SortSt.mk' (kindOf st) xs _ gg (failedOf st))
    rw [hk,hf];exact this
  have hk1:kindOf st1=kd:=by rw [hst1];exact hk
  have hf1:failedOf st1=none:=by rw [hst1];exact hf
  have ha1:arrOf st1=arrOf st:=by rw [hst1]
  rw [← hst1]
  refine wpS_bind (HW ?_)
  have ey:(arrOf st)[P.length + X.length]? = some Y[0]:=by
    have:=o7 ha2 0 lY
    rw [pxl] at this
    rw [show P.length + X.length=P.length + X.length + 0 from rfl,this]
    exact List.getElem?_eq_getElem lY
  refine wpS_bind (bB ey (wpS_bind (AT C ha hk1 (SY _ (List.getElem_mem lY)) SX sX lX fun k hkl b1 b2 => ?_)))
  dsimp only
  have y0:∀ y∈Y,lE r Y[0] y:=fun y hy=>by
    obtain⟨d,hd,e⟩:=List.getElem_of_mem hy
    by_cases z:d=0
    · subst z;rw [← e];exact C.refl _
    · rw [← e];exact List.pairwise_iff_getElem.mp sY 0 d lY hd (by omega)
  have sam:∀ xs:Array Keyed,xs=arrOf st → ∀ g,g=gallopOf st1→cC (setArr st1 xs) g=st1:=fun xs e g eg=>by subst e;subst eg;rw [hst1]
  have X12:X=X.take k++X.drop k:=(List.take_append_drop k X).symm
  have s12:=sX
  rw [X12,List.pairwise_append] at s12
  refine cS (fun c => ?_) fun c => ?_
  · have kk:k=X.length:=by simp at c;omega
    refine wpS_pure ?_
    have:=fin (X++Y) (gallopOf st1) (arrOf st) (List.Perm.refl _) (List.pairwise_append.mpr ⟨sX,sY,fun x hx y hy=>C.tr (b1 x (by rw [kk,List.take_length];exact hx)) (y0 y hy)⟩) (by rw [ha,List.append_assoc])
    rw [sam _ rfl _ rfl] at this
    exact this
  · have kl:k < X.length:=by simp at c;omega
    have ex:(arrOf st)[P.length + k + (X.length - k) - 1]? = some (X[X.length - 1]'(by omega)):=by
      have:=o7 ha (X.length - 1) (by omega)
      rw [show P.length + k + (X.length - k) - 1=P.length + (X.length - 1) by omega,this]
      exact List.getElem?_eq_getElem (by omega)
    have xl:∀ x∈X,lE r x (X[X.length - 1]'(by omega)):=fun x hx=>by
      obtain⟨d,hd,e⟩:=List.getElem_of_mem hx
      by_cases z:d=X.length - 1
      · subst z;rw [← e];exact C.refl _
      · rw [← e];exact List.pairwise_iff_getElem.mp sX d (X.length - 1) hd (by omega) (by omega)
    have g2:∀ {R2:Option Nat→SortSt→Prop},(∀ m,m≤Y.length→(∀ y∈Y.take m,r y (X[X.length - 1]'(by omega))=true)→(∀ y∈Y.drop m,lE r (X[X.length - 1]'(by omega)) y)→R2 (some m) st1)→wpS M A E s (jd true (X[X.length - 1]'(by omega)) (arrOf st) (P.length + X.length) Y.length (Y.length - 1)) R2 st1:=fun {R2} q2=>by
      have:=DG (M:=M) (A:=A) (E:=E) (s:=s) (st:=st1) (Q:=R2) C ha2 (ht:=Y.length - 1) hk1 (SX _ (List.getElem_mem (show X.length - 1 < X.length by omega))) SY sY (by omega) q2
      rw [pxl] at this
      exact this
    refine wpS_bind (bB ex (wpS_bind (g2 fun m hml d1 d2 => ?_)))
    dsimp only
    have Y12:Y=Y.take m++Y.drop m:=(List.take_append_drop m Y).symm
    have t12:=sY
    rw [Y12,List.pairwise_append] at t12
    refine cS (fun c2 => ?_) fun c2 => ?_
    · have m0:m=0:=by simpa using c2
      refine wpS_pure ?_
      have:=fin (X++Y) (gallopOf st1) (arrOf st) (List.Perm.refl _) (List.pairwise_append.mpr ⟨sX,sY,fun x hx y hy=>C.tr (xl x hx) (d2 y (by rw [m0];exact hy))⟩) (by rw [ha,List.append_assoc])
      rw [sam _ rfl _ rfl] at this
      exact this
    · have m0:0 < m:=by simp at c2;omega
      have ea:((arrOf st).extract (P.length + k) (P.length + X.length)).toList=X.drop k:=by
        have:=o5 (arrOf st) (P.length + k) (X.length - k)
        rw [show P.length + k + (X.length - k)=P.length + X.length by omega] at this
        rw [this,ha,← List.drop_drop,List.drop_left,List.drop_append_of_le_length hkl,List.take_left' (by simp)]
      have eb:((arrOf st).extract (P.length + X.length) (P.length + X.length + m)).toList=Y.take m:=by
        rw [o5,ha2,← pxl,List.drop_left,List.take_append_of_le_length hml]
      obtain⟨xa,hxa⟩ : ∃ xa,xa=(arrOf st).extract (P.length + k) (P.length + X.length):=⟨_,rfl⟩
      obtain⟨ya,hya⟩ : ∃ ya,ya=(arrOf st).extract (P.length + X.length) (P.length + X.length + m):=⟨_,rfl⟩
      rw [← hxa] at ea
      rw [← hya] at eb
      have T:Two M A E s kd S r xa ya:=⟨C,fun x hx=>SX x (List.mem_of_mem_drop (by rw [← ea];exact hx)),fun x hx=>SY x (List.mem_of_mem_take (by rw [← eb];exact hx)),by rw [ea];exact s12.2.1,by rw [eb];exact t12.1⟩
      have za:0 < xa.size:=by rw [← Array.length_toList,ea];simp;omega
      have zb:0 < ya.size:=by rw [← Array.length_toList,eb];simp;omega
      have bot:∀ x,ya[0]? = some x → ∀ y∈xa.toList,lE r x y:=fun x hx y hy=>by
        rw [← Array.getElem?_toList,eb,List.getElem?_take_of_lt m0,List.getElem?_eq_getElem lY] at hx
        cases hx
        exact C.asym (b2 y (by rw [← ea];exact hy))
      have lst:∀ x∈ya.toList,lE r x (X[X.length - 1]'(by omega)):=fun x hx=>C.asym (d1 x (by rw [← eb];exact hx))
      have asz:xa.size=X.length - k:=by rw [← Array.length_toList,ea];simp
      have laste:xa[xa.size - 1]? = some (X[X.length - 1]'(by omega)):=by
        rw [← Array.getElem?_toList,ea,asz,List.getElem?_drop,show k + (X.length - k - 1)=X.length - 1 by omega]
        exact List.getElem?_eq_getElem (by omega)
      have top1:∀ x∈ya.toList,∀ y∈xa.toList.drop (xa.size - 1),lE r x y:=fun x hx y hy=>by
        obtain⟨d,hd,e⟩:=List.mem_drop_iff_getElem.mp hy
        have hd0:d=0:=by simp at hd;omega
        subst hd0
        have:y=X[X.length - 1]'(by omega):=by
          have h3:xa.toList[xa.size - 1 + 0]? = some y:=by rw [← e];exact List.getElem?_eq_getElem (by omega)
          rw [Nat.add_zero,Array.getElem?_toList,laste] at h3
          exact (Option.some.inj h3).symm
        rw [this]
        exact lst x hx
      have mg:∀ z gg,Mgd r xa ya z→wpS M A E s (modify (fun st=>setArr st (yw z.toList (P.length + k) (arrOf st))) >>= fun _=>(get >>= fun st=>pure (failedOf st).isNone:StateT SortSt Sem Bool)) Q (cC st1 gg):=fun z gg ⟨z1,z2⟩=>by
        refine wpS_bind (wpS_modify (wpS_bind (wpS_get (wpS_pure ?_))))
        show Q (failedOf st1).isNone _
        rw [hf1]
        have zl:z.toList.length=(X.drop k++Y.take m).length:=by rw [z1.length_eq,ea,eb]
        have la:(yw z.toList (P.length + k) (arrOf st)).toList=(P++X.take k)++z.toList++(Y.drop m++R):=Kk (W:=X.drop k++Y.take m) (by
          rw [ha]
          conv=>lhs;rw [X12,Y12]
          simp only [List.append_assoc]) (by simp;omega) zl.symm
        have mem:∀ x∈z.toList,x∈X.drop k∨x∈Y.take m:=fun x hx=>by
          have:=z1.mem_iff.mp hx
          rw [ea,eb] at this
          exact List.mem_append.mp this
        have:=fin (X.take k++(z.toList++Y.drop m)) gg (yw z.toList (P.length + k) (arrOf st)) (by
          conv=>rhs;rw [X12,Y12]
          rw [List.append_assoc]
          refine List.Perm.append_left _ ?_
          rw [← List.append_assoc]
          refine List.Perm.append_right _ ?_
          rw [← ea,← eb];exact z1) (by
          rw [List.pairwise_append,List.pairwise_append]
          refine⟨s12.1,⟨z2,t12.2.1,fun x hx y hy => ?_⟩,fun x hx y hy => ?_⟩
          · rcases mem x hx with h|h
            · exact C.tr (xl x (List.mem_of_mem_drop h)) (d2 y hy)
            · exact t12.2.2 x h y hy
          · rcases List.mem_append.mp hy with hy|hy
            · rcases mem y hy with h|h
              · exact s12.2.2 x hx y h
              · exact C.tr (b1 x hx) (y0 y (List.mem_of_mem_take h))
            · exact C.tr (b1 x hx) (y0 y (List.mem_of_mem_drop hy))) (by rw [la];simp only [List.append_assoc])
        have e3:arrOf (cC st1 gg)=arrOf st:=ha1
        rw [e3]
        exact this
      rw [← hxa,← hya]
      refine cS (fun _=>wpS_bind ?_) fun _=>wpS_bind ?_
      · exact Kf T top1 bot za zb hk1 mg
      · exact Ki T bot (fun y hy x hx=>by rw [laste] at hy;cases hy;exact lst x hx) za zb hk1 mg
end
end Ts
set_option Elab.async false
set_option linter.all false
set_option maxRecDepth 100000
namespace Ts
open PySem PyProof.Rows
section
variable {M:Model} {A:Around} {E:Value→Shared→Prop} {s:Shared} {kd:SortKind} {S:Keyed→Prop} {r:Keyed→Keyed→Bool} {st:SortSt}
theorem Km {α : Type}{xs:Array α}{P B R:List α}(h:xs.toList=P++(B++R)){i j:Nat}(hi:i=P.length)(hj:j=P.length + B.length):(mirror xs i j ((j - i) / 2)).toList=P++(B.reverse++R):=by
  have sz:xs.size=P.length + (B.length + R.length):=by rw [← Array.length_toList,h];simp
  apply List.ext_getElem?
  intro k
  rw [Array.getElem?_toList,getElem?_mirror_all (by omega)]
  subst hi hj
  by_cases c:P.length≤k∧k < P.length + B.length
  · rw [if_pos c,← Array.getElem?_toList,h,List.getElem?_append_right (by omega),List.getElem?_append_left (by omega),List.getElem?_append_right (by omega),List.getElem?_append_left (by simp;omega),List.getElem?_reverse (by omega)]
    congr 1;omega
  · rw [if_neg c,← Array.getElem?_toList,h]
    by_cases c2:k < P.length
    · rw [List.getElem?_append_left c2,List.getElem?_append_left c2]
    · rw [List.getElem?_append_right (by omega),List.getElem?_append_right (by omega),List.getElem?_append_right (by omega),List.getElem?_append_right (by simp;omega)]
      simp
theorem yx (C:Cmp M A E s kd S r){xs:Array Keyed}{i j:Nat}{x y:Keyed}{Q:Option Bool→SortSt→Prop}(hk:kindOf st=kd)(ex:xs[i]? = some x)(ey:xs[j]? = some y)(Sx:S x)(Sy:S y)(h:Q (some (r x y)) (setArr st xs)):wpS M A E s (ltAt' i j) Q (setArr st xs):=by
  rw [ltAt'_eq]
  refine wpS_bind (wpS_get (wpS_bind (bB ex (wpS_bind (bB ey (C.ask Sx Sy hk h))))))
theorem vt {xs:Array Keyed}{P B R:List Keyed}(h:xs.toList=P++(B++R)){i j:Nat}(hi:i=P.length)(hj:j=P.length + B.length){Q:Unit→SortSt→Prop}(q:∀ ys:Array Keyed,ys.toList=P++(B.reverse++R)→Q () (setArr st ys)):wpS M A E s (reverseSlice' i j) Q (setArr st xs):=by
  rw [reverseSlice'_eq]
  exact wpS_modify (q _ (Km h hi hj))
abbrev lG (r:Keyed→Keyed→Bool) (x y:Keyed):Prop:=r x y=false
def DH (lo n:Nat):SM (ForInStep (Option (Option Nat) × Nat)):=do
  let some e ← ltAt' (lo + n) (lo + n - 1)|pure (.done (some none,n))
  if e then pure (.done (none,n)) else pure (.yield (none,n + 1))
def Kn (lo n q:Nat):SM (ForInStep (Option (Option Nat) × Nat × Nat)):=do
  let some e ← ltAt' (lo + n) (lo + n - 1)|pure (.done (some none,n,q))
  if e then
    if q > 0 then do
      reverseSlice' (lo + n - (q + 1)) (lo + n)
      pure (.yield (none,n + 1,0))
    else pure (.yield (none,n + 1,0))
  else do
    let some f ← ltAt' (lo + n - 1) (lo + n)|pure (.done (some none,n,q))
    if f then pure (.done (none,n,q)) else pure (.yield (none,n + 1,q + 1))
theorem vv {α : Type}{R : α → α → Prop}(tr:∀ {a b c},R a b→R b c→R a c){D:List α}{y x : α}(h:(D++[y]).Pairwise R)(hx:R y x):(D++[y]++[x]).Pairwise R:=by
  rw [List.pairwise_append]
  refine⟨h,List.pairwise_singleton _ _,fun a ha b hb => ?_⟩
  rw [List.mem_singleton] at hb
  subst hb
  rcases List.mem_append.mp ha with ha|ha
  · exact tr ((List.pairwise_append.mp h).2.2 a ha y (by simp)) hx
  · rw [List.mem_singleton] at ha;subst ha;exact hx
theorem kg {α : Type}{D:List α}(h:0 < D.length):∃ F y,D=F++[y]:=⟨D.dropLast,D.getLast (List.ne_nil_of_length_pos h),(List.dropLast_concat_getLast _).symm⟩
theorem AU {α : Type}{xs:Array α}{P F:List α}{y : α}{R:List α}(h:xs.toList=P++(F++[y]++R)):xs[P.length + (F.length + 1) - 1]? = some y:=by
  rw [← Array.getElem?_toList,h,List.getElem?_append_right (by omega),List.getElem?_append_left (by simp),List.getElem?_append_right (by omega)]
  simp
theorem oe {α : Type}{xs:Array α}{P D:List α}{x : α}{R:List α}(h:xs.toList=P++(D++(x :: R))):xs[P.length + D.length]? = some x:=by
  rw [← Array.getElem?_toList,h,List.getElem?_append_right (by omega),List.getElem?_append_right (by omega)]
  simp
theorem F0 (C:Cmp M A E s kd S r)(hk:kindOf st=kd){P D R:List Keyed}(SD:∀ x∈D++R,S x){xs:Array Keyed}(hx:xs.toList=P++(D++R))(h1:0 < D.length)(sD:D.Pairwise (lE r)){nrem:Nat}(hn:nrem=D.length + R.length){β : Type}{f:(Option (Option Nat) × Nat)→SM β}{Q : β → SortSt→Prop}
    (q:∀ D' R',D'++R'=D++R→0 < D'.length→D'.Pairwise (lE r)→(∀ y z F T,D'=F++[y]→R'=z :: T→r z y=true)→wpS M A E s (f (none,D'.length)) Q (setArr st xs)) :
    wpS M A E s (forIn [D.length:nrem] ((none,D.length):Option (Option Nat) × Nat) (fun _ c=>DH P.length c.2) >>= f) Q (setArr st xs):=by
  refine wpS_bind (wpS_mono (wpS_forRange (I:=fun i c st'=>st'=setArr st xs ∧ ∃ D' R',c=(none,D'.length)∧i=D'.length∧D'++R'=D++R∧0 < D'.length∧D'.Pairwise (lE r))
    (Q:=fun c st'=>st'=setArr st xs ∧ ∃ D' R',c=(none,D'.length)∧D'++R'=D++R∧0 < D'.length∧D'.Pairwise (lE r)∧(∀ y z F T,D'=F++[y]→R'=z :: T→r z y=true)) ?step ?fin ⟨rfl,D,R,rfl,rfl,rfl,h1,sD⟩) fun c st' h => ?_)
  case fin =>
    rintro c st' ⟨rfl,D',R',rfl,e,e2,e3,e4⟩
    refine⟨rfl,D',R',rfl,e2,e3,e4,fun y z F T _ eT => ?_⟩
    have:=congrArg List.length e2
    rw [eT] at this
    simp at this
    omega
  case step =>
    rintro i c st' _ hi ⟨rfl,D',R',rfl,e,e2,e3,e4⟩
    have hl:=congrArg List.length e2
    simp at hl
    obtain⟨F,y,rfl⟩:=kg e3
    cases R' with
    | nil=>simp at hl e;omega
    | cons z T =>
      have hx':xs.toList=P++(F++[y]++(z :: T)):=by rw [hx,← e2]
      have mem:∀ w,w∈F++[y]++(z :: T)→S w:=fun w hw=>SD w (by rw [← e2];exact hw)
      show wpS M A E s (DH P.length (F++[y]).length) _ _
      unfold DH
      have ez:=oe hx'
      have ey:=AU hx'
      rw [show P.length + (F.length + 1) - 1=P.length + (F++[y]).length - 1 by simp] at ey
      refine wpS_bind (yx C hk ez ey (mem z (by simp)) (mem y (by simp)) ?_)
      dsimp only
      cases w:r z y with
      | true =>
        rw [if_pos rfl]
        refine wpS_pure ⟨rfl,F++[y],z :: T,rfl,e2,e3,e4,fun y' z' F' T' h1 h2 => ?_⟩
        have a1:=List.append_inj_right' h1 rfl
        cases h2
        cases a1
        exact w
      | false =>
        rw [if_neg Bool.false_ne_true]
        refine wpS_pure ⟨rfl,F++[y]++[z],T,by simp,by simp at e ⊢;omega,by rw [← e2];simp,by simp,vv (R:=lE r) (fun p q=>C.tr p q) e4 w⟩
  · obtain⟨rfl,D',R',rfl,e2,e3,e4,e5⟩:=h
    exact q D' R' e2 e3 e4 e5
theorem F1 (C:Cmp M A E s kd S r)(hk:kindOf st=kd){P D R:List Keyed}(SD:∀ x∈D++R,S x){xs:Array Keyed}(hx:xs.toList=P++(D++R))(h1:0 < D.length)(sD:D.Pairwise (lG r)){nrem n:Nat}(hn:nrem=D.length + R.length)(hd:n=D.length){Q:Option Nat→SortSt→Prop}{f:(Option (Option Nat) × Nat)→SM (Option Nat)}(hf:∀ n st,Q (some n) st→wpS M A E s (f (none,n)) Q st)
    (q:∀ ys D' R',ys.toList=P++(D'++R')→(D'++R').Perm (D++R)→0 < D'.length→D'.Pairwise (lE r)→Q (some D'.length) (setArr st ys)) :
    wpS M A E s (reverseSlice' P.length (P.length + n) >>= fun _=>forIn [n:nrem] ((none,n):Option (Option Nat) × Nat) (fun _ c=>DH P.length c.2) >>= f) Q (setArr st xs):=by
  subst hd
  refine wpS_bind (vt hx rfl rfl fun ys hy => ?_)
  have hl:D.reverse.length=D.length:=List.length_reverse
  rw [← hl]
  refine F0 C hk (fun x hx=>SD x ?_) hy (by rw [hl];exact h1) (List.pairwise_reverse.mpr sD) (by rw [hl];exact hn) fun D' R' e1 e2 e3 _=>hf _ _ (q ys D' R' (by rw [hy,e1]) (by rw [e1];exact (List.reverse_perm D).append_right _) e2 e3)
  rcases List.mem_append.mp hx with h|h
  · exact List.mem_append_left _ (List.mem_reverse.mp h)
  · exact List.mem_append_right _ h
structure DI (r:Keyed→Keyed→Bool) (P W:List Keyed) (ys:Array Keyed) (n q:Nat) (D1 D2 R:List Keyed):Prop where
  hy:ys.toList=P++(D1++D2++R)
  hn:n=D1.length + D2.length
  hq:D2.length=q + 1
  so:(D1++D2).Pairwise (lG r)
  eq:∀ x∈D2,∀ y∈D2,r x y=false
  pm:(D1++D2++R).Perm W
theorem DI.rev {P W:List Keyed}{ys zs:Array Keyed}{n q:Nat}{D1 D2 R:List Keyed}(d:DI r P W ys n q D1 D2 R)(hz:zs.toList=P++D1++(D2.reverse++R)):DI r P W zs n q D1 D2.reverse R:=by
  have so:=List.pairwise_append.mp d.so
  refine⟨by rw [hz];simp only [List.append_assoc],by rw [List.length_reverse];exact d.hn,by rw [List.length_reverse];exact d.hq,List.pairwise_append.mpr ⟨so.1,List.Pairwise.imp_of_mem (R:=fun _ _=>True) (fun {a b} ha hb _=>d.eq a (List.mem_reverse.mp ha) b (List.mem_reverse.mp hb)) (List.pairwise_of_forall fun _ _=>trivial),fun x hx y hy=>so.2.2 x hx y (List.mem_reverse.mp hy)⟩,fun x hx y hy=>d.eq x (List.mem_reverse.mp hx) y (List.mem_reverse.mp hy),?_⟩
  exact (((List.reverse_perm D2).append_left D1).append_right R).trans d.pm
theorem DI.down (C:Cmp M A E s kd S r){P W:List Keyed}{ys:Array Keyed}{n q:Nat}{D1 D2 R:List Keyed}{h y:Keyed}(d:DI r P W ys n q D1 D2 (h :: R))(hy:y∈D2)(w:r y h=false):DI r P W ys (n + 1) 0 (D1++D2) [h] R:=by
  have so:=List.pairwise_append.mp d.so
  refine⟨by rw [d.hy];simp,by rw [d.hn];simp,rfl,List.pairwise_append.mpr ⟨d.so,List.pairwise_singleton _ _,fun x hx z hz => ?_⟩,fun x hx z hz => ?_,by simpa using d.pm⟩
  · rw [List.mem_singleton] at hz
    subst hz
    rcases List.mem_append.mp hx with hx|hx
    · exact C.tr w (so.2.2 x hx y hy)
    · exact C.tr w (d.eq x hx y hy)
  · rw [List.mem_singleton] at hx hz;subst hx hz;exact C.refl _
theorem DI.same (C:Cmp M A E s kd S r){P W:List Keyed}{ys:Array Keyed}{n q:Nat}{D1 D2 R:List Keyed}{h y:Keyed}(d:DI r P W ys n q D1 D2 (h :: R))(hy:y∈D2)(w:r y h=false)(w2:r h y=false):DI r P W ys (n + 1) (q + 1) D1 (D2++[h]) R:=by
  have so:=List.pairwise_append.mp d.so
  have e1:∀ x∈D2,r x h=false:=fun x hx=>C.tr w (d.eq x hx y hy)
  have e2:∀ x∈D2,r h x=false:=fun x hx=>C.tr (d.eq y hy x hx) w2
  refine⟨by rw [d.hy];simp,by rw [d.hn];simp;omega,by simp [d.hq],?_,fun x hx z hz => ?_,by simpa using d.pm⟩
  · rw [← List.append_assoc]
    refine List.pairwise_append.mpr ⟨d.so,List.pairwise_singleton _ _,fun x hx z hz => ?_⟩
    rw [List.mem_singleton] at hz
    subst hz
    rcases List.mem_append.mp hx with hx|hx
    · exact C.tr w (so.2.2 x hx y hy)
    · exact e1 x hx
  · rcases List.mem_append.mp hx with hx|hx<;>rcases List.mem_append.mp hz with hz|hz
    · exact d.eq x hx z hz
    · rw [List.mem_singleton] at hz;rw [hz];exact e1 x (by assumption)
    · rw [List.mem_singleton] at hx;rw [hx];exact e2 z (by assumption)
    · rw [List.mem_singleton] at hx hz;subst hx hz;exact C.refl _
theorem F3 (C:Cmp M A E s kd S r)(hk:kindOf st=kd){P D R W:List Keyed}{z:Keyed}(SW:∀ x∈W,S x){xs:Array Keyed}(hx:xs.toList=P++(D++(z :: R)))(hp:(D++(z :: R)).Perm W)(sD:(D++[z]).Pairwise (lG r)){nrem n:Nat}(hn:nrem=W.length)(hd:n=D.length){Q:Option Nat→SortSt→Prop}{g:(Option (Option Nat) × Nat × Nat)→SM (Option Nat)}
    (hg:∀ ys D1 D2 R' n q,DI r P W ys n q D1 D2 R'→wpS M A E s (g (none,n,q)) Q (setArr st ys)) :
    wpS M A E s (liftM (rule "list.sort.descending-run") >>= fun _=>forIn [n + 1:nrem] ((none,n + 1,0):Option (Option Nat) × Nat × Nat) (fun _ c=>Kn P.length c.2.1 c.2.2) >>= g) Q (setArr st xs):=by
  subst hd
  have d0:DI r P W xs (D.length + 1) 0 D [z] R:=⟨by rw [hx];simp,rfl,rfl,sD,fun x hx y hy=>by rw [List.mem_singleton] at hx hy;subst hx hy;exact C.refl _,by simpa using hp⟩
  refine wpS_bind (gR (wpS_bind (wpS_mono (wpS_forRange (I:=fun i c st'=>∃ ys D1 D2 R' n q,st'=setArr st ys∧c=(none,n,q)∧i=n∧DI r P W ys n q D1 D2 R')
    (Q:=fun c st'=>∃ ys D1 D2 R' n q,st'=setArr st ys∧c=(none,n,q)∧DI r P W ys n q D1 D2 R') ?step ?fin ⟨xs,D,[z],R,D.length + 1,0,rfl,rfl,rfl,d0⟩) fun c st' h => ?_)))
  case fin =>
    rintro c st' ⟨ys,D1,D2,R',n,q,rfl,rfl,_,d⟩
    exact⟨ys,D1,D2,R',n,q,rfl,rfl,d⟩
  case step =>
    rintro i c st' _ hi ⟨ys,D1,D2,R',n,q,rfl,rfl,rfl,d⟩
    have hl:=d.pm.length_eq
    have hn2:=d.hn
    simp at hl
    have l2:0 < D2.length:=by rw [d.hq];omega
    cases R' with
    | nil=>simp at hl;omega
    | cons h T =>
      have mem:∀ w,w∈D1++D2++(h :: T)→S w:=fun w hw=>SW w (d.pm.mem_iff.mp hw)
      obtain⟨F,y,hF⟩:=kg l2
      have yD:y∈D2:=by rw [hF];simp
      have ez:ys[P.length + i]? = some h:=by
        have:=oe (P:=P) (D:=D1++D2) d.hy
        rw [List.length_append,← hn2] at this
        exact this
      have ey:ys[P.length + i - 1]? = some y:=by
        have:=AU (P:=P) (F:=D1++F) (y:=y) (R:=h :: T) (xs:=ys) (by rw [d.hy,hF];simp)
        rw [← this]
        congr 1
        rw [hn2,hF];simp;omega
      show wpS M A E s (Kn P.length i q) _ _
      unfold Kn
      refine wpS_bind (yx C hk ez ey (mem h (by simp)) (mem y (by simp [yD])) ?_)
      dsimp only
      cases w:r h y with
      | true =>
        rw [if_pos rfl]
        refine cS (fun _ => ?_) fun _ => ?_
        · refine wpS_bind (vt (P:=P++D1) (B:=D2) (R:=h :: T) (by rw [d.hy];simp only [List.append_assoc]) (by rw [List.length_append,hn2,d.hq];omega) (by rw [List.length_append,hn2];omega) fun zs hz=>wpS_pure ?_)
          exact⟨zs,D1++D2.reverse,[h],T,i + 1,0,rfl,rfl,rfl,(d.rev hz).down C (List.mem_reverse.mpr yD) (C.asym w)⟩
        · exact wpS_pure ⟨ys,D1++D2,[h],T,i + 1,0,rfl,rfl,rfl,d.down C yD (C.asym w)⟩
      | false =>
        rw [if_neg Bool.false_ne_true]
        refine wpS_bind (yx C hk ey ez (mem y (by simp [yD])) (mem h (by simp)) ?_)
        dsimp only
        cases w2:r y h with
        | true=>rw [if_pos rfl];exact wpS_pure ⟨ys,D1,D2,h :: T,i,q,rfl,rfl,d⟩
        | false=>rw [if_neg Bool.false_ne_true];exact wpS_pure ⟨ys,D1,D2++[h],T,i + 1,q + 1,rfl,rfl,rfl,d.same C yD w2 w⟩
  · obtain⟨ys,D1,D2,R',n,q',rfl,rfl,d⟩:=h
    exact hg ys D1 D2 R' n q' d
theorem F4 (C:Cmp M A E s kd S r)(hk:kindOf st=kd){P W:List Keyed}(SW:∀ x∈W,S x){nrem:Nat}(hn:nrem=W.length){Q:Option Nat→SortSt→Prop}{ys:Array Keyed}{D1 D2 R':List Keyed}{n q':Nat}(d:DI r P W ys n q' D1 D2 R'){f:(Option (Option Nat) × Nat)→SM (Option Nat)}(hf:∀ n st,Q (some n) st→wpS M A E s (f (none,n)) Q st)
    (q:∀ ys D' R',ys.toList=P++(D'++R')→(D'++R').Perm W→0 < D'.length→D'.Pairwise (lE r)→Q (some D'.length) (setArr st ys)) :
    wpS M A E s (if q' > 0 then (reverseSlice' (P.length + n - (q' + 1)) (P.length + n) >>= fun _=>reverseSlice' P.length (P.length + n) >>= fun _=>forIn [n:nrem] ((none,n):Option (Option Nat) × Nat) (fun _ c=>DH P.length c.2) >>= f)
      else (reverseSlice' P.length (P.length + n) >>= fun _=>forIn [n:nrem] ((none,n):Option (Option Nat) × Nat) (fun _ c=>DH P.length c.2) >>= f)) Q (setArr st ys):=by
  have hl:=d.pm.length_eq
  have l2:0 < D2.length:=by rw [d.hq];omega
  have hn2:=d.hn
  have mem:∀ w,w∈D1++D2++R'→S w:=fun w hw=>SW w (d.pm.mem_iff.mp hw)
  refine cS (fun _ => ?_) fun _ => ?_
  · refine wpS_bind (vt (P:=P++D1) (B:=D2) (R:=R') (by rw [d.hy];simp only [List.append_assoc]) (by rw [List.length_append,hn2,d.hq];omega) (by rw [List.length_append,hn2];omega) fun zs hz => ?_)
    have d2:=d.rev hz
    exact F1 C hk (fun x hx=>SW x (d2.pm.mem_iff.mp hx)) d2.hy (by simp;omega) d2.so (by rw [hn,← d2.pm.length_eq];simp;omega) (by rw [d2.hn];simp) hf fun ys D' R' e1 e2 e3 e4=>q ys D' R' e1 (e2.trans d2.pm) e3 e4
  · exact F1 C hk mem d.hy (by simp;omega) d.so (by rw [hn,← d.pm.length_eq];simp;omega) (by rw [hn2];simp) hf fun ys D' R' e1 e2 e3 e4=>q ys D' R' e1 (e2.trans d.pm) e3 e4
theorem LK (C:Cmp M A E s kd S r)(hk:kindOf st=kd){P W:List Keyed}(SW:∀ x∈W,S x){xs:Array Keyed}(hx:xs.toList=P++W)(h1:0 < W.length){Q:Option Nat→SortSt→Prop}
    (q:∀ ys D' R',ys.toList=P++(D'++R')→(D'++R').Perm W→0 < D'.length→D'.Pairwise (lE r)→Q (some D'.length) (setArr st ys)):wpS M A E s (countRun' P.length W.length) Q (setArr st xs):=by
  obtain⟨w0,W',rfl⟩ : ∃ w0 W',W=w0 :: W':=by cases W with|nil=>simp at h1|cons a b=>exact⟨a,b,rfl⟩
  rw [countRun'_eq]
  refine F0 (D:=[w0]) (R:=W') C hk SW hx (by simp) (List.pairwise_singleton _ _) (by simp;omega) (f:=_) fun D' R' e1 e2 e3 e4 => ?_
  dsimp only
  have hx':xs.toList=P++(D'++R'):=by rw [hx,e1];rfl
  have pm:(D'++R').Perm (w0 :: W'):=by rw [e1];exact List.Perm.refl _
  have hl:=congrArg List.length e1
  simp at hl
  refine cS (fun c=>wpS_pure (q xs D' R' hx' pm e2 e3)) fun c => ?_
  cases R' with
  | nil=>simp at c hl;omega
  | cons z T =>
    obtain⟨F,y,hF⟩:=kg e2
    have w:=e4 y z F T hF rfl
    have mem:∀ v,v∈D'++(z :: T)→S v:=fun v hv=>SW v (pm.mem_iff.mp hv)
    have ey:xs[P.length + D'.length - 1]? = some y:=by
      have:=AU (P:=P) (F:=F) (y:=y) (R:=z :: T) (xs:=xs) (by rw [hx',hF])
      rw [← this,hF];simp
    refine cS (fun c2 => ?_) fun c2 => ?_
    · obtain⟨x0,D2,hD⟩ : ∃ x0 D2,D'=x0 :: D2:=by cases D' with|nil=>simp at e2|cons a b=>exact⟨a,b,rfl⟩
      have ex:xs[P.length]? = some x0:=by
        have:=oe (P:=P) (D:=[]) (x:=x0) (R:=D2++(z :: T)) (xs:=xs) (by rw [hx',hD];rfl)
        simpa using this
      refine wpS_bind (yx C hk ex ey (mem x0 (by rw [hD];simp)) (mem y (by rw [hF];simp)) ?_)
      dsimp only
      cases w2:r x0 y with
      | true=>rw [if_pos rfl];exact wpS_pure (q xs D' (z :: T) hx' pm e2 e3)
      | false =>
        rw [if_neg Bool.false_ne_true]
        refine wpS_bind (vt hx' rfl rfl fun ys hy => ?_)
        have wz:r z x0=true:=by
          cases h:r z x0 with
          | true=>rfl
          | false=>rw [C.tr w2 h] at w;cases w
        refine F3 (D:=D'.reverse) C hk SW hy (((List.reverse_perm D').append_right _).trans pm) ?_ rfl (by simp) fun ys D1 D2 R' n q' d=>F4 C hk SW rfl d (fun n st h=>wpS_pure h) q
        rw [hD,List.reverse_cons]
        refine vv (R:=lG r) (fun p q=>C.tr q p) ?_ (C.asym wz)
        rw [← List.reverse_cons,← hD]
        exact List.pairwise_reverse.mpr e3
    · have d1:D'=[y]:=by
        have:D'.length=1:=by omega
        rw [hF] at this ⊢
        have:F=[]:=by simpa using this
        rw [this];rfl
      refine F3 (D:=D') C hk SW hx' pm ?_ rfl rfl fun ys D1 D2 R' n q' d=>F4 C hk SW rfl d (fun n st h=>wpS_pure h) q
      rw [d1]
      exact vv (R:=lG r) (D:=[]) (fun p q=>C.tr q p) (List.pairwise_singleton _ _) (C.asym w)
end
end Ts
set_option Elab.async false
set_option linter.all false
set_option maxRecDepth 100000
namespace Ts
open PySem PyProof.Rows
section
variable {M:Model} {A:Around} {E:Value→Shared→Prop} {s:Shared} {kd:SortKind} {S:Keyed→Prop} {r:Keyed→Keyed→Bool} {st:SortSt}
theorem Ko {α : Type}{xs:Array α}{P B R:List α}{x : α}(h:xs.toList=P++(B++(x :: R))){i d:Nat}(hi:i=P.length + B.length)(hd:d=B.length):(bubble xs i d).toList=P++(x :: (B++R)):=by
  have sz:xs.size=P.length + (B.length + (R.length + 1)):=by rw [← Array.length_toList,h];simp
  subst hi hd
  apply List.ext_getElem?
  intro k
  rw [Array.getElem?_toList,getElem?_bubble (by omega) _ (by omega),show P.length + B.length - B.length=P.length by omega]
  by_cases c:k=P.length
  · rw [if_pos c,← Array.getElem?_toList,h,c,List.getElem?_append_right (by omega),List.getElem?_append_right (by omega),List.getElem?_append_right (by omega)]
    simp
  · rw [if_neg c]
    by_cases c2:P.length < k∧k≤P.length + B.length
    · rw [if_pos c2,← Array.getElem?_toList,h,List.getElem?_append_right (by omega),List.getElem?_append_left (by omega),List.getElem?_append_right (by omega)]
      obtain⟨m,hm⟩ : ∃ m,k=P.length + (m + 1):=⟨k - P.length - 1,by omega⟩
      subst hm
      rw [show P.length + (m + 1) - P.length=m + 1 by omega,List.getElem?_cons_succ,List.getElem?_append_left (by omega)]
      congr 1;omega
    · rw [if_neg c2,← Array.getElem?_toList,h]
      by_cases c3:k < P.length
      · rw [List.getElem?_append_left c3,List.getElem?_append_left c3]
      · obtain⟨m,hm⟩ : ∃ m,k=P.length + (B.length + (m + 1)):=⟨k - P.length - B.length - 1,by omega⟩
        subst hm
        rw [List.getElem?_append_right (by omega),List.getElem?_append_right (by omega),List.getElem?_append_right (by omega)]
        rw [show P.length + (B.length + (m + 1)) - P.length - B.length=m + 1 by omega,List.getElem?_cons_succ,show P.length + (B.length + (m + 1)) - P.length=(B.length + m) + 1 by omega,List.getElem?_cons_succ,List.getElem?_append_right (by omega)]
        congr 1;omega
def LL (lo k l u:Nat):SM (ForInStep (Option Bool × Nat × Nat)):=do
  let some e ← ltAt' (lo + k) (lo + (l + u) / 2)|pure (.done (some false,l,u))
  if e then pure (.yield (none,l,(l + u) / 2)) else pure (.yield (none,(l + u) / 2 + 1,u))
theorem LM (C:Cmp M A E s kd S r)(hk:kindOf st=kd){P W:List Keyed}(SW:∀ x∈W,S x){xs:Array Keyed}{D R:List Keyed}(hx:xs.toList=P++(D++R))(pm:(D++R).Perm W)(h1:0 < D.length)(sD:D.Pairwise (lE r)){n:Nat}(hn:D.length≤n)(hn2:n≤W.length){Q:Bool→SortSt→Prop}
    (q:∀ ys D' R',ys.toList=P++(D'++R')→(D'++R').Perm W→D'.length=n→D'.Pairwise (lE r)→Q true (setArr st ys)):wpS M A E s (binarySort' P.length n D.length) Q (setArr st xs):=by
  rw [binarySort'_eq]
  refine wpS_bind (wpS_mono (wpS_forRange (I:=fun k c st'=>∃ ys D' R',st'=setArr st ys∧c=(none,())∧ys.toList=P++(D'++R')∧(D'++R').Perm W∧D'.length=k∧D'.Pairwise (lE r))
    (Q:=fun c st'=>∃ ys D' R',st'=setArr st ys∧c=(none,())∧ys.toList=P++(D'++R')∧(D'++R').Perm W∧D'.length=n∧D'.Pairwise (lE r)) ?step ?fin ⟨xs,D,R,rfl,rfl,hx,pm,by omega,sD⟩) fun c st' h => ?_)
  case fin =>
    rintro c st' ⟨ys,D',R',rfl,rfl,e1,e2,e3,e4⟩
    exact⟨ys,D',R',rfl,rfl,e1,e2,by omega,e4⟩
  case step =>
    rintro k c st' hk1 hkn ⟨ys,D',R',rfl,rfl,e1,e2,e3,e4⟩
    have hl:=e2.length_eq
    simp at hl
    cases R' with
    | nil=>simp at hl;omega
    | cons x T =>
      have mem:∀ w,w∈D'++(x :: T)→S w:=fun w hw=>SW w (e2.mem_iff.mp hw)
      have ex:ys[P.length + k]? = some x:=by have:=oe e1;rw [e3] at this;exact this
      refine wpS_bind (wpS_mono (wpS_forRange (I:=fun i c st'=>st'=setArr st ys ∧ ∃ l u,c=(none,l,u)∧l≤u∧u≤k∧(∀ d (hd:d < D'.length),d < l→lE r D'[d] x)∧(∀ d (hd:d < D'.length),u≤d→r x D'[d] = true)∧u - l + i≤k)
        (Q:=fun c st'=>st'=setArr st ys ∧ ∃ l,c=(none,l,l)∧l≤k∧(∀ d (hd:d < D'.length),d < l→lE r D'[d] x)∧(∀ d (hd:d < D'.length),l≤d→r x D'[d] = true)) ?s2 ?f2 ⟨rfl,0,k,rfl,Nat.zero_le _,Nat.le_refl _,fun d hd h=>absurd h (Nat.not_lt_zero _),fun d hd h=>by omega,by omega⟩) fun c st' h => ?_)
      case f2 =>
        rintro c st' ⟨rfl,l,u,rfl,g1,g2,g3,g4,g5⟩
        have:l=u:=by omega
        subst this
        exact⟨rfl,l,rfl,g2,g3,g4⟩
      case s2 =>
        rintro i c st' _ _ ⟨rfl,l,u,rfl,g1,g2,g3,g4,g5⟩
        dsimp only
        by_cases cc:l ≥ u
        · rw [if_pos cc]
          have:l=u:=by omega
          subst this
          exact wpS_pure ⟨rfl,l,rfl,g2,g3,g4⟩
        · rw [if_neg cc]
          have hm:(l + u) / 2 < D'.length:=by omega
          have em:ys[P.length + (l + u) / 2]? = some (D'[(l + u) / 2]):=by
            rw [o7 e1 _ hm];exact List.getElem?_eq_getElem hm
          show wpS M A E s (LL P.length k l u) _ _
          unfold LL
          refine wpS_bind (yx C hk ex em (mem x (by simp)) (mem _ (List.mem_append_left _ (List.getElem_mem hm))) ?_)
          dsimp only
          have mono:∀ d e (hd:d < D'.length) (he:e < D'.length),d≤e→lE r D'[d] D'[e]:=fun d e hd he hde=>by
            by_cases z:d=e
            · subst z;exact C.refl _
            · exact List.pairwise_iff_getElem.mp e4 d e hd he (by omega)
          cases w:r x D'[(l + u) / 2] with
          | true =>
            rw [if_pos rfl]
            refine wpS_pure ⟨rfl,l,(l + u) / 2,rfl,by omega,by omega,g3,fun d hd h => ?_,by omega⟩
            cases w2:r x D'[d] with
            | true=>rfl
            | false=>rw [C.tr (mono _ d hm hd h) w2] at w;cases w
          | false =>
            rw [if_neg Bool.false_ne_true]
            exact wpS_pure ⟨rfl,(l + u) / 2 + 1,u,rfl,by omega,g2,fun d hd h=>C.tr (mono d _ hd hm (by omega)) w,g4,by omega⟩
      · obtain⟨rfl,l,rfl,g2,g3,g4⟩:=h
        dsimp only
        rw [moveDown'_eq]
        have lk:l≤D'.length:=by omega
        have D12:D'=D'.take l++D'.drop l:=(List.take_append_drop l D').symm
        have tl:(D'.take l).length=l:=by simp;omega
        have hb:=Ko (xs:=ys) (P:=P++D'.take l) (B:=D'.drop l) (x:=x) (R:=T) (i:=P.length + k) (d:=P.length + k - (P.length + l)) (by
          rw [e1];conv=>lhs;rw [D12]
          simp only [List.append_assoc]) (by simp;omega) (by simp;omega)
        have so:=e4
        rw [D12,List.pairwise_append] at so
        refine wpS_bind (wpS_modify (wpS_pure ⟨_,D'.take l++(x :: D'.drop l),T,rfl,rfl,by rw [hb];simp only [List.append_assoc,List.cons_append],?_,by simp;omega,?_⟩))
        · refine List.Perm.trans ?_ e2
          conv=>rhs;rw [D12]
          simp only [List.append_assoc,List.cons_append]
          exact List.Perm.append_left _ List.perm_middle.symm
        · rw [List.pairwise_append]
          have dm:∀ y∈D'.drop l,lE r x y:=fun y hy=>by
            obtain⟨d,hd,e⟩:=List.mem_drop_iff_getElem.mp hy
            rw [← e]
            exact C.asym (g4 (l + d) (by omega) (by omega))
          have tm:∀ y∈D'.take l,lE r y x:=fun y hy=>by
            obtain⟨d,hd,e⟩:=List.mem_take_iff_getElem.mp hy
            rw [← e]
            exact g3 d (by omega) (by omega)
          refine⟨so.1,List.pairwise_cons.mpr ⟨dm,so.2.1⟩,fun y hy z hz => ?_⟩
          rcases List.mem_cons.mp hz with rfl|hz
          · exact tm y hy
          · exact so.2.2 y hy z hz
  · obtain⟨ys,D',R',rfl,rfl,e1,e2,e3,e4⟩:=h
    exact wpS_pure (q ys D' R' e1 e2 e3 e4)
end
end Ts
set_option Elab.async false
set_option linter.all false
set_option maxRecDepth 100000
namespace Ts
open PySem PyProof.Rows
section
variable {M:Model} {A:Around} {E:Value→Shared→Prop} {s:Shared} {kd:SortKind} {S:Keyed→Prop} {r:Keyed→Keyed→Bool} {st:SortSt}
inductive Rn (r:Keyed→Keyed→Bool):Nat→List (List Keyed)→List (Nat × Nat × Nat)→Prop
  | nil (b:Nat):Rn r b [] []
  | cons {b e:Nat} {D:List Keyed} {Ds:List (List Keyed)} {ps:List (Nat × Nat × Nat)}:D≠[]→D.Pairwise (lE r)→Rn r (b + D.length) Ds ps→Rn r b (D :: Ds) ((b,D.length,e) :: ps)
theorem Rn.split {ps:List (Nat × Nat × Nat)}:∀ {i b:Nat} {Ds:List (List Keyed)} {ps:List (Nat × Nat × Nat)},Rn r b Ds ps→i < ps.length → ∃ Ds1 Ds2 ps1 ps2,Ds=Ds1++Ds2∧ps=ps1++ps2∧ps1.length=i∧Rn r (b + Ds1.flatten.length) Ds2 ps2 ∧ ∀ Ds3 ps3,Rn r (b + Ds1.flatten.length) Ds3 ps3→Rn r b (Ds1++Ds3) (ps1++ps3)
  | 0,b,Ds,ps,h,_=>⟨[],Ds,[],ps,rfl,rfl,rfl,h,fun _ _ h=>h⟩
  | i + 1,b,_,_,.nil _,hi=>by simp at hi
  | i + 1,b,_,_,.cons (D:=D) (e:=e) nD sD h,hi=>by
    obtain⟨Ds1,Ds2,ps1,ps2,e1,e2,e3,e4,e5⟩:=Rn.split (ps:=[]) (i:=i) h (by simpa using hi)
    refine⟨D :: Ds1,Ds2,(b,D.length,e) :: ps1,ps2,by rw [e1];rfl,by rw [e2];rfl,by simp [e3],?_,fun Ds3 ps3 h3=>.cons nD sD (e5 Ds3 ps3 ?_)⟩
    · rw [List.flatten_cons,List.length_append,← Nat.add_assoc];exact e4
    · rw [List.flatten_cons,List.length_append,← Nat.add_assoc] at h3;exact h3
theorem Rn.len {b:Nat}{Ds:List (List Keyed)}{ps:List (Nat × Nat × Nat)}(h:Rn r b Ds ps):ps.length=Ds.length∧ps.length≤Ds.flatten.length:=by
  induction h with
  | nil=>simp
  | @cons b e D Ds ps nD sD h ih =>
    have:=List.length_pos_iff.mpr nD
    simp
    simp at ih
    omega
theorem Rn.snoc {e:Nat}{D:List Keyed}(nD:D≠[])(sD:D.Pairwise (lE r)){b:Nat}{Ds:List (List Keyed)}{ps:List (Nat × Nat × Nat)}(h:Rn r b Ds ps):Rn r b (Ds++[D]) (ps++[(b + Ds.flatten.length,D.length,e)]):=by
  induction h with
  | nil b=>exact .cons nD sD (.nil _)
  | @cons b e' D' Ds ps nD' sD' h ih =>
    refine .cons nD' sD' ?_
    rw [List.flatten_cons,List.length_append,← Nat.add_assoc]
    exact ih
theorem Rn.mod {w:Nat}{b:Nat}{Ds:List (List Keyed)}{ps:List (Nat × Nat × Nat)}(h:Rn r b Ds ps):∀ i,Rn r b Ds (ps.modify i fun q=>(q.1,q.2.1,w)):=by
  induction h with
  | nil b=>intro i;cases i<;>exact .nil _
  | @cons b e' D' Ds ps nD' sD' h ih =>
    intro i
    cases i with
    | zero=>exact .cons nD' sD' h
    | succ i=>exact .cons nD' sD' (ih i)
structure SI (r:Keyed→Keyed→Bool) (a0 W:List Keyed) (xs:Array Keyed) (pd:Array (Nat × Nat × Nat)) (Ds:List (List Keyed)):Prop where
  hx:xs.toList=Ds.flatten++W
  rn:Rn r 0 Ds pd.toList
  pm:xs.toList.Perm a0
abbrev sta (kd:SortKind) (xs:Array Keyed) (pd:Array (Nat × Nat × Nat)) (g:Nat):SortSt:=SortSt.mk' kd xs pd g none
theorem IK (C:Cmp M A E s kd S r){a0 W:List Keyed}(S0:∀ x∈a0,S x){xs:Array Keyed}{pd:Array (Nat × Nat × Nat)}{Ds:List (List Keyed)}{g i:Nat}(h:SI r a0 W xs pd Ds)(hi:i + 1 < pd.size){Q:Bool→SortSt→Prop}
    (q:∀ xs' pd' Ds' g',SI r a0 W xs' pd' Ds'→pd'.size + 1=pd.size→Ds'.flatten.length=Ds.flatten.length→Q true (sta kd xs' pd' g')):wpS M A E s (mergeAt' i) Q (sta kd xs pd g):=by
  obtain⟨Ds1,Ds2,ps1,ps2,e1,e2,e3,e4,e5⟩:=Rn.split (ps:=[]) (i:=i) h.rn (by simp;omega)
  rw [Nat.zero_add] at e4 e5
  have hl:pd.size=ps1.length + ps2.length:=by rw [← Array.length_toList,e2,List.length_append]
  cases e4 with
  | nil=>simp at hl;omega
  | @cons _ e X Ds3 ps3 nX sX h3 =>
    cases h3 with
    | nil=>simp at hl;omega
    | @cons _ e' Y Ds4 ps4 nY sY h4 =>
      have hxs:xs.toList=Ds1.flatten++(X++(Y++(Ds4.flatten++W))):=by rw [h.hx,e1];simp
      have mem:∀ x∈xs.toList,S x:=fun x hx=>S0 x (h.pm.mem_iff.mp hx)
      have p1:pd[i]? = some (Ds1.flatten.length,X.length,e):=by
        rw [← Array.getElem?_toList,e2,List.getElem?_append_right (by omega),e3];simp
      have p2:pd[i + 1]? = some (Ds1.flatten.length + X.length,Y.length,e'):=by
        rw [← Array.getElem?_toList,e2,List.getElem?_append_right (by omega),e3];simp
      refine Kl (st:=sta kd xs pd g) C rfl rfl hxs p1 p2 (fun y hy=>mem y (by rw [hxs];simp [hy])) (fun y hy=>mem y (by rw [hxs];simp [hy])) sX sY nX nY fun Z gg ys z1 z2 z3 => ?_
      have zl:Z.length=X.length + Y.length:=by rw [z1.length_eq,List.length_append]
      have pl:((pd.setIfInBounds i (Ds1.flatten.length,X.length + Y.length,e)).eraseIdxIfInBounds (i + 1)).toList=ps1++(Ds1.flatten.length,Z.length,e) :: ps4:=by
        rw [Array.toList_eraseIdxIfInBounds,Array.toList_setIfInBounds,e2,← e3,zl]
        simp [List.set_append,List.eraseIdx_append]
        intro z;omega
      refine q ys _ (Ds1++Z :: Ds4) gg ⟨by rw [z3];simp,?_,?_⟩ ?_ ?_
      · show Rn r 0 _ (Array.toList _)
        rw [pl]
        refine e5 (Z :: Ds4) _ (.cons ?_ z2 ?_)
        · intro z;rw [z] at zl;have:=List.length_pos_iff.mpr nX;simp at zl;omega
        · rw [zl,← Nat.add_assoc];exact h4
      · refine List.Perm.trans ?_ h.pm
        rw [z3,hxs]
        refine List.Perm.append_left _ ?_
        have:=z1.append_right (Ds4.flatten++W)
        simpa only [List.append_assoc] using this
      · have:=congrArg List.length pl
        rw [Array.length_toList] at this
        show (Array.size _) + 1=_
        rw [this,hl];simp;omega
      · rw [e1];simp [zl];omega
def mB (pw:Nat):SM (ForInStep (Option Unit × Unit)):=do
  let st ← get
  let some (_,_,older):=(if (pendingOf st).size > 1 then (pendingOf st)[(pendingOf st).size - 2]? else none)|pure (.done (none,()))
  if older≤pw then pure (.done (none,()))
  else do
    let b ← mergeAt' ((pendingOf st).size - 2)
    if !b then pure (.done (some (),())) else pure (.yield (none,()))
theorem F5 (C:Cmp M A E s kd S r){a0 W:List Keyed}(S0:∀ x∈a0,S x){xs:Array Keyed}{pd:Array (Nat × Nat × Nat)}{Ds:List (List Keyed)}{g:Nat}(h:SI r a0 W xs pd Ds){size pw:Nat}{β : Type}{K:(Option Unit × Unit)→SM β}{Q : β → SortSt→Prop}
    (q:∀ xs' pd' Ds' g',SI r a0 W xs' pd' Ds'→Ds'.flatten.length=Ds.flatten.length→wpS M A E s (K (none,())) Q (sta kd xs' pd' g')):wpS M A E s (forIn [:size] ((none,()):Option Unit × Unit) (fun _ _=>mB pw) >>= K) Q (sta kd xs pd g):=by
  refine wpS_bind (wpS_mono (wpS_forRange (I:=fun _ c st'=>∃ xs' pd' Ds' g',st'=sta kd xs' pd' g'∧c=(none,())∧SI r a0 W xs' pd' Ds'∧Ds'.flatten.length=Ds.flatten.length)
    (Q:=fun c st'=>∃ xs' pd' Ds' g',st'=sta kd xs' pd' g'∧c=(none,())∧SI r a0 W xs' pd' Ds'∧Ds'.flatten.length=Ds.flatten.length) ?step ?fin ⟨xs,pd,Ds,g,rfl,rfl,h,rfl⟩) fun c st' h => ?_)
  case fin=>exact fun c st' h=>h
  case step =>
    rintro i c st' _ _ ⟨xs',pd',Ds',g',rfl,rfl,si,hl⟩
    unfold mB
    refine wpS_bind (wpS_get ?_)
    by_cases c:pd'.size > 1
    · have e:(if (pendingOf (sta kd xs' pd' g')).size > 1 then (pendingOf (sta kd xs' pd' g'))[(pendingOf (sta kd xs' pd' g')).size - 2]? else none)=some (pd'[pd'.size - 2]'(by omega)):=by
        rw [if_pos c];exact Array.getElem?_eq_getElem (show pd'.size - 2 < pd'.size by omega)
      rw [e]
      refine cS (fun _=>wpS_pure ⟨xs',pd',Ds',g',rfl,rfl,si,hl⟩) fun _ => ?_
      refine wpS_bind (IK (i:=pd'.size - 2) C S0 si (by omega) fun xs2 pd2 Ds2 g2 si2 _ hl2 => ?_)
      exact wpS_pure ⟨xs2,pd2,Ds2,g2,rfl,rfl,si2,hl2.trans hl⟩
    · have e:(if (pendingOf (sta kd xs' pd' g')).size > 1 then (pendingOf (sta kd xs' pd' g'))[(pendingOf (sta kd xs' pd' g')).size - 2]? else none)=none:=if_neg c
      rw [e]
      exact wpS_pure ⟨xs',pd',Ds',g',rfl,rfl,si,hl⟩
  · obtain⟨xs',pd',Ds',g',rfl,rfl,si,hl⟩:=h
    exact q xs' pd' Ds' g' si hl
theorem CM (C:Cmp M A E s kd S r){a0:Array Keyed}(S0:∀ x∈a0.toList,S x)(h1:0 < a0.size){g0:Nat}{Q:Unit→SortSt→Prop}
    (q:∀ xs pd g,xs.toList.Perm a0.toList→xs.toList.Pairwise (lE r)→Q () (sta kd xs pd g)):wpS M A E s sortRuns' Q (sta kd a0 #[] g0):=by
  obtain⟨a0l,ha0⟩ : ∃ l,l=a0.toList:=⟨_,rfl⟩
  rw [sortRuns'_eq]
  refine wpS_bind (wpS_get ?_)
  have hsz:a0.size=a0l.length:=by rw [ha0];simp
  have si0:SI r a0l a0l a0 #[] []:=⟨by rw [ha0];rfl,.nil 0,by rw [ha0]⟩
  rw [← ha0] at S0
  show wpS M A E s (forIn [:a0.size] ((none,0):Option Unit × Nat) _ >>= _) _ _
  refine wpS_bind (wpS_mono (wpS_forRange (I:=fun i c st'=>∃ xs pd Ds W g,st'=sta kd xs pd g∧c=(none,Ds.flatten.length)∧SI r a0l W xs pd Ds∧i≤Ds.flatten.length)
    (Q:=fun c st'=>∃ xs pd Ds g,st'=sta kd xs pd g∧c=(none,Ds.flatten.length)∧SI r a0l [] xs pd Ds) ?step ?fin ⟨a0,#[],[],a0l,g0,rfl,rfl,si0,Nat.zero_le _⟩) fun c st' h => ?_)
  case fin =>
    rintro c st' ⟨xs,pd,Ds,W,g,rfl,rfl,si,hli⟩
    have tot:=si.pm.length_eq
    rw [si.hx,List.length_append] at tot
    have:W=[]:=List.length_eq_zero_iff.mp (by omega)
    subst this
    exact⟨xs,pd,Ds,g,rfl,rfl,si⟩
  case step =>
    rintro i c st' _ hi ⟨xs,pd,Ds,W,g,rfl,rfl,si,hli⟩
    have tot:=si.pm.length_eq
    rw [si.hx,List.length_append] at tot
    refine cS (fun c=>wpS_pure ?_) fun c => ?_
    · have c:Ds.flatten.length ≥ a0.size:=c
      have:W=[]:=List.length_eq_zero_iff.mp (by omega)
      subst this
      exact⟨xs,pd,Ds,g,rfl,rfl,si⟩
    · have c : ¬ Ds.flatten.length ≥ a0.size:=c
      have e:a0.size - Ds.flatten.length=W.length:=by omega
      have SW:∀ x∈W,S x:=fun x hx=>S0 x (si.pm.mem_iff.mp (by rw [si.hx];exact List.mem_append_right _ hx))
      show wpS M A E s (countRun' Ds.flatten.length (a0.size - Ds.flatten.length) >>= _) _ _
      rw [e]
      refine wpS_bind (LK (st:=sta kd xs pd g) C rfl SW si.hx (by omega) fun ys D R hy pmD l0 sD => ?_)
      dsimp only
      have dl:=pmD.length_eq
      rw [List.length_append] at dl
      have pY:∀ {zs:Array Keyed} {D2 R2:List Keyed},zs.toList=Ds.flatten++(D2++R2)→(D2++R2).Perm W→zs.toList.Perm xs.toList:=fun {zs D2 R2} h1 h2=>by rw [h1,si.hx];exact h2.append_left _
      refine cS (fun c2 => ?_) fun c2 => ?_
      · obtain⟨NN,hNN0⟩ : ∃ NN,NN=min W.length (minRun' (arrOf (sta kd a0 #[] g0)).size (arrOf (sta kd a0 #[] g0)).size 0):=⟨_,rfl⟩
        refine wpS_bind (gR ?_)
        rw [← hNN0]
        refine wpS_bind (LM (st:=sta kd xs pd g) C rfl SW hy pmD l0 sD (n:=NN) (by omega) (by omega) fun YY DD RR hYY pm3 hl3' hDs => ?_)
        have hNN:NN=DD.length:=hl3'.symm
        have hDn:DD≠[]:=fun z=>by rw [z] at hl3';simp at hl3';omega
        have hpm2:=pY hYY pm3
        refine cS (fun z=>by simp at z) fun _ => ?_
        have si2:SI r a0l (DD++RR) YY pd Ds:=⟨hYY,si.rn,hpm2.trans si.pm⟩
        have lD:=List.length_pos_iff.mpr hDn
        refine wpS_bind (wpS_get ?_)
        cases hb:pd.back? with
        | none =>
          dsimp only
          refine wpS_bind (wpS_modify (wpS_pure ⟨YY,pd.push (Ds.flatten.length,NN,0),Ds++[DD],RR,g,rfl,by rw [hNN];simp,⟨by rw [hYY];simp,?_,si2.pm⟩,by simp;simp at hli;omega⟩))
          have:=si.rn.snoc (e:=0) (D:=DD) hDn hDs
          rw [Nat.zero_add] at this
          rw [Array.toList_push,hNN]
          exact this
        | some z =>
          obtain⟨s1,n1,w1⟩:=z
          dsimp only
          refine F5 C S0 si2 fun xs' pd' Ds' g' si3 hl3 => ?_
          refine wpS_bind (wpS_modify (wpS_bind (wpS_modify (wpS_pure ⟨xs',(pd'.modify (pd'.size - 1) fun q=>(q.1,q.2.1,power' a0.size (2 * s1 + n1) (2 * s1 + n1 + n1 + NN) a0.size)).push (Ds.flatten.length,NN,0),Ds'++[DD],RR,g',rfl,by rw [hNN,List.flatten_append,List.length_append,hl3];simp,⟨by rw [si3.hx];simp,?_,si3.pm⟩,by rw [List.flatten_append,List.length_append,hl3];simp;simp at hli;omega⟩))))
          have:=(si3.rn.mod (w:=power' a0.size (2 * s1 + n1) (2 * s1 + n1 + n1 + NN) a0.size) (pd'.size - 1)).snoc (e:=0) (D:=DD) hDn hDs
          rw [Nat.zero_add,hl3,← hNN] at this
          rw [Array.toList_push,Array.toList_modify]
          exact this
      · obtain⟨YY,hYe⟩ : ∃ z,z=ys:=⟨_,rfl⟩
        obtain⟨DD,hDe⟩ : ∃ z,z=D:=⟨_,rfl⟩
        obtain⟨RR,hRe⟩ : ∃ z,z=R:=⟨_,rfl⟩
        subst hYe hDe hRe
        have hYY:=hy
        have hDs:=sD
        have hDn:DD≠[]:=List.ne_nil_of_length_pos l0
        have hpm2:=pY hy pmD
        obtain⟨NN,hNN⟩ : ∃ z,z=DD.length:=⟨_,rfl⟩
        show wpS M A E s (get >>= _) _ _
        rw [← hNN]
        have si2:SI r a0l (DD++RR) YY pd Ds:=⟨hYY,si.rn,hpm2.trans si.pm⟩
        have lD:=List.length_pos_iff.mpr hDn
        refine wpS_bind (wpS_get ?_)
        cases hb:pd.back? with
        | none =>
          dsimp only
          refine wpS_bind (wpS_modify (wpS_pure ⟨YY,pd.push (Ds.flatten.length,NN,0),Ds++[DD],RR,g,rfl,by rw [hNN];simp,⟨by rw [hYY];simp,?_,si2.pm⟩,by simp;simp at hli;omega⟩))
          have:=si.rn.snoc (e:=0) (D:=DD) hDn hDs
          rw [Nat.zero_add] at this
          rw [Array.toList_push,hNN]
          exact this
        | some z =>
          obtain⟨s1,n1,w1⟩:=z
          dsimp only
          refine F5 C S0 si2 fun xs' pd' Ds' g' si3 hl3 => ?_
          refine wpS_bind (wpS_modify (wpS_bind (wpS_modify (wpS_pure ⟨xs',(pd'.modify (pd'.size - 1) fun q=>(q.1,q.2.1,power' a0.size (2 * s1 + n1) (2 * s1 + n1 + n1 + NN) a0.size)).push (Ds.flatten.length,NN,0),Ds'++[DD],RR,g',rfl,by rw [hNN,List.flatten_append,List.length_append,hl3];simp,⟨by rw [si3.hx];simp,?_,si3.pm⟩,by rw [List.flatten_append,List.length_append,hl3];simp;simp at hli;omega⟩))))
          have:=(si3.rn.mod (w:=power' a0.size (2 * s1 + n1) (2 * s1 + n1 + n1 + NN) a0.size) (pd'.size - 1)).snoc (e:=0) (D:=DD) hDn hDs
          rw [Nat.zero_add,hl3,← hNN] at this
          rw [Array.toList_push,Array.toList_modify]
          exact this
  · obtain⟨xs,pd,Ds,g,rfl,rfl,si⟩:=h
    have tot:=si.pm.length_eq
    have dl:=si.hx
    rw [List.append_nil] at dl
    rw [dl] at tot
    have rl:=si.rn.len
    rw [Array.length_toList] at rl
    refine wpS_bind (wpS_mono (wpS_forRange (I:=fun i c st'=>∃ xs pd Ds g,st'=sta kd xs pd g∧c=(none,())∧SI r a0l [] xs pd Ds∧pd.size + i≤a0.size)
      (Q:=fun c st'=>∃ xs pd Ds g,st'=sta kd xs pd g∧c=(none,())∧SI r a0l [] xs pd Ds∧pd.size≤1) ?step2 ?fin2 ⟨xs,pd,Ds,g,rfl,rfl,si,by omega⟩) fun c st' h => ?_)
    case fin2 =>
      rintro c st' ⟨xs,pd,Ds,g,rfl,rfl,si,h⟩
      refine⟨xs,pd,Ds,g,rfl,rfl,si,?_⟩
      have h:pd.size + max 0 a0.size≤a0.size:=h
      omega
    case step2 =>
      rintro i c st' _ hi ⟨xs,pd,Ds,g,rfl,rfl,si,h⟩
      refine wpS_bind (wpS_get (cS (fun c=>wpS_pure ⟨xs,pd,Ds,g,rfl,rfl,si,c⟩) fun c => ?_))
      have c : ¬ pd.size≤1:=c
      refine wpS_bind (IK C S0 si ?_ fun xs2 pd2 Ds2 g2 si2 hp _ => ?_)
      · have hh:∀ (p:Prop) [Decidable p],(if p then pd.size - 2 - 1 else pd.size - 2) + 1 < pd.size:=fun p _=>by split<;>omega
        exact hh _
      · exact wpS_pure ⟨xs2,pd2,Ds2,g2,rfl,rfl,si2,by omega⟩
    · obtain⟨xs,pd,Ds,g,rfl,rfl,si,h⟩:=h
      refine wpS_pure (q xs pd g (by rw [← ha0];exact si.pm) ?_)
      have dl:=si.hx
      rw [List.append_nil] at dl
      have tot:=si.pm.length_eq
      have rn:=si.rn
      obtain⟨ps,hps⟩ : ∃ ps,ps=pd.toList:=⟨_,rfl⟩
      have pl:ps.length=pd.size:=by rw [hps];simp
      rw [← hps] at rn
      rw [dl] at tot ⊢
      cases rn with
      | nil=>simp at tot;omega
      | @cons _ e D Ds' ps nD sD h3 =>
        cases h3 with
        | nil=>simpa using sD
        | cons _ _ _=>simp at pl;omega
end
end Ts
set_option linter.all false
namespace Fm
def kO (l:List D):Option (List D):=match uS l with
  | some r=>if l.length≤1000∧r.all (fun x => !x.isEmpty)=true∧r.Nodup then some ((bw r).map dG) else none
  | none=>none
def mG (a:EF):LF:=fun σ h=>(a σ h).bind fun x h=>match eI h x with
  | some l=>match kO l with|some l=>.ok l h|none=>.bad
  | none=>.bad
end Fm
set_option Elab.async false
set_option linter.all false
set_option maxRecDepth 100000
namespace Fm
open PySem PySem.Spec L2 PySem.W PyProof.Rows
open Ts (Cmp CM sta lE)
section
variable {prog:Program} {w:World} {A:Around} {E:Value→Shared→Prop} {s:Shared} {kd:SortKind} {S:Keyed→Prop} {r:Keyed→Keyed→Bool}
theorem o8 {vs:List Value}{x:Keyed}(h:x∈(pairsOf vs).toList):x.1=x.2∧x.1∈vs:=by
  rw [pairsOf_toList] at h
  exact mem_zip_self h
theorem o9 {a:Addr} {vs:List Value} {n:Nat} {P:PySem.Fin→Shared→Prop} (ho:s.heap.get? a=some (seqObj "list" vs.toArray n)) (hz:vs.length≤100000)
    (K:∀ G:Heap,(∀ b u,b≠a→s.heap.get? b=some u→G.get? b=some u)→(∀ Q:SortKind→Shared→Prop,Q kd { s with heap:=G } → wpAny (model prog w) A (keyKind' vs.toArray) Q E { s with heap:=G })∧Cmp (model prog w) A E { s with heap:=G } kd S r)
    (SS:∀ x∈(pairsOf vs).toList,S x) (h2:2≤vs.length)
    (h:∀ out:List Value,out.Perm vs→out.Pairwise (fun x y=>r (y,y) (x,x)=false)→P (.done (.ret .none)) { s with heap:=sortedHeap s.heap a vs out.toArray }) :
    wpAny (model prog w) A (Builtin.«list.sort» ⟨[.ref a],[]⟩) P E s:=by
  rw [list_sort_plain]
  have ha:a < s.heap.objs.size:=Heap.lt_size ho
  refine wpAny_bind (listItems_at ho rfl (wpAny_bind (listUpdate_at ho rfl ?_)))
  obtain⟨e1,ho1⟩ : ∃ e1,(s.heap.update a (Obj.mapSeq fun _ => #[])).get? a=some (seqObj "list" #[] e1):=⟨_,get?_update_seq ho (fun _ => #[])⟩
  refine wpAny_bind (seqEpoch_at ho1 rfl (wpAny_bind (wpAny_newTuple ?_ (by rw [sizeLine_eq];simp;omega))))
  refine wpAny_bind (wpAny_newList ?_)
  refine wpAny_holding ?_
  have n1:a≠(s.heap.update a (Obj.mapSeq fun _ => #[])).objs.size:=by rw [Heap.size_update];exact Nat.ne_of_lt ha
  have n2:a≠((s.heap.update a (Obj.mapSeq fun _ => #[])).push (seqObj "tuple" vs.toArray 0)).objs.size:=by rw [size_push',Heap.size_update];exact Nat.ne_of_lt (Nat.lt_succ_of_lt ha)
  have ho6:(((s.heap.update a (Obj.mapSeq fun _ => #[])).push (seqObj "tuple" vs.toArray 0)).push (seqObj "list" #[] 0)).get? a=some (seqObj "list" #[] e1):=by
    rw [Heap.get?_push_ne _ _ _ n2,Heap.get?_push_ne _ _ _ n1];exact ho1
  show wpAny (model prog w) A _ P E { s with heap:=((s.heap.update a (Obj.mapSeq fun _ => #[])).push (seqObj "tuple" vs.toArray 0)).push (seqObj "list" #[] 0) }
  dsimp only
  have hsz:vs.toArray.size=vs.length:=by simp
  obtain⟨kn,C⟩:=K (((s.heap.update a (Obj.mapSeq fun _ => #[])).push (seqObj "tuple" vs.toArray 0)).push (seqObj "list" #[] 0)) fun b u nb e=>Heap.get?_push_of_some _ (Heap.get?_push_of_some _ ((Heap.get?_update_ne _ _ _ _ nb).trans e))
  have c2 : ¬ vs.toArray.size < 2:=by rw [hsz];omega
  rw [if_neg c2,if_neg c2]
  refine wpAny_bind (kn _ ?_)
  refine wpAny_bind (wpAny_mono (CM C (a0:=pairsOf vs) (g0:=7) (Q:=fun _ st'=>∃ xs pd g,st'=sta kd xs pd g∧xs.toList.Perm (pairsOf vs).toList∧xs.toList.Pairwise (lE r)) SS (by rw [pairsOf_size];omega) fun xs pd g z1 z2=>⟨xs,pd,g,rfl,z1,z2⟩) ?_ fun _ _ e=>e)
  rintro⟨⟨⟩,st'⟩ s' ⟨rfl,xs,pd,g,rfl,z1,z2⟩
  dsimp only
  have ol:(xs.map (·.2)).toList=xs.toList.map (·.2):=Array.toList_map
  have osz:(xs.map (·.2)).size=vs.length:=by
    rw [Array.size_map,← Array.length_toList,z1.length_eq,Array.length_toList,pairsOf_size]
  refine wpAny_bind (seqEpoch_at ho6 rfl ?_)
  refine wpAny_bind (listUpdate_at ho6 rfl ?_ (hsz2:=by show (xs.map (·.2)).size≤_;rw [osz,sizeLine_eq];omega))
  simp only [bne_self_eq_false,Bool.false_eq_true,if_false]
  refine wpAny_pure ?_
  have e0:xs.map (·.2)=(xs.toList.map (·.2)).toArray:=by rw [← ol]
  show P _ { s with heap:=sortedHeap s.heap a vs (xs.map (·.2)) }
  rw [e0]
  refine h _ ?_ ?_
  · have:=z1.map (·.2)
    rw [pairsOf_toList] at this
    have e3:(vs.zip vs).map (·.2)=vs:=by rw [List.map_snd_zip];exact Nat.le_refl _
    rw [e3] at this
    exact this
  · rw [List.pairwise_map]
    refine List.Pairwise.imp_of_mem ?_ z2
    intro x y hx hy hxy
    have ex:=(o8 (z1.mem_iff.mp hx)).1
    have ey:=(o8 (z1.mem_iff.mp hy)).1
    have e4:x=(x.2,x.2):=by obtain⟨u,v⟩:=x;simp at ex ⊢;exact ex
    have e5:y=(y.2,y.2):=by obtain⟨u,v⟩:=y;simp at ey ⊢;exact ey
    rw [← e4,← e5]
    exact hxy
end
section
variable {X:Cx} {pos p:Pos}
def gn (H:Hp):Value→List Int
  | .ref b=>match H b with
    | some (.tup xs)=>xs.map fun v=>match v with | .int i=>i|_=>0
    | _=>[]
  | _=>[]
theorem pc (l:List Int):(l.map V.int).map (fun v=>match v with | .int i=>i|_=>0)=l:=by
  rw [List.map_map]
  exact List.map_id _
theorem yy {H:Hp}:∀ {vs:List V} {rs:List (List Int)} {its:List Value},bN H vs rs→aN vs its→its.map (gn H)=rs
  | _,_,_,.nil,.nil=>rfl
  | _,_,_,.cons (a:=a) (r:=r) ha t,.cons rv rt=>by
    cases rv
    rw [List.map_cons,yy t rt]
    congr 1
    show (match H a with|some (.tup xs)=>xs.map (fun v=>match v with | .int i=>i|_=>0)|_=>[])=r
    rw [ha]
    exact pc r
theorem ug {H:Hp}:∀ {out:List Value},(∀ v∈out,∃ b l,v=.ref b∧H b=some (.tup (List.map V.int l))) → ∃ vs',bN H vs' (out.map (gn H))∧aN vs' out
  | [],_=>⟨[],.nil,.nil⟩
  | v :: out,h=>by
    obtain⟨b,l,rfl,e⟩:=h v (.head _)
    obtain⟨vs',h1,h2⟩:=ug (out:=out) fun v hv=>h v (.tail _ hv)
    have er:gn H (.ref b)=l:=by
      show (match H b with|some (.tup xs)=>xs.map (fun v=>match v with | .int i=>i|_=>0)|_=>[])=l
      rw [e];exact pc l
    refine⟨.ref b :: vs',?_,.cons rfl h2⟩
    rw [List.map_cons,er]
    exact .cons e h1
theorem yz {H:Hp}:∀ {vs:List V} {rs:List (List Int)} {its:List Value},bN H vs rs→aN vs its → ∀ v∈its,∃ b l,v=.ref b∧H b=some (.tup (List.map V.int l))∧l∈rs
  | _,_,_,.nil,.nil,v,hv=>by cases hv
  | _,_,_,.cons (a:=a) (r:=r) ha t,.cons rv rt,v,hv=>by
    cases rv
    rcases List.mem_cons.mp hv with rfl|hv
    · exact⟨a,r,rfl,ha,.head _⟩
    · obtain⟨b,l,e1,e2,e3⟩:=yz t rt v hv
      exact⟨b,l,e1,e2,.tail _ e3⟩
theorem HX {x y z:List Int}(h1:Fm.lexLt y x=false)(h2:Fm.lexLt z y=false):Fm.lexLt z x=false:=by
  cases w:Fm.lexLt z x with
  | false=>rfl
  | true =>
    by_cases e:y=x
    · subst e;rw [h2] at w;cases w
    · have:=fq w (gP e h1)
      rw [h2] at this;cases this
def Kq (K:PySem.W.Frag):List V→Hp→VK→Prop:=fun xs H Q=>∃ (a:Addr) (vs:List V) (rs:List (List Int)),xs=[.ref a]∧SqL K H a vs∧vs.length≤1000∧bN H vs rs∧rs.Nodup∧(rs.all fun x => !x.isEmpty)=true ∧ ∀ q vs',H q=none→bN H vs' (bw rs)→Q (.ref q) (upd H q (.lst vs'))
theorem AV:fF X (.builtin "sorted") (Kq X.K):=by
  intro pins s σ H xs us Q I r h
  obtain⟨a,vs,rs,rfl,sq,hz1,rv,nd,hne,q⟩:=h
  obtain⟨u,rfl,ru⟩:=aN.one r
  cases (show u=Value.ref a from ru)
  obtain⟨its,rvs,pl,hz⟩:=I.list sq
  have hl:s.heap.IsList a its.toArray:=pl.isList
  have hlen:its.length=vs.length:=rvs.length.symm
  by_cases h2:its.length < 2
  · refine u4 hl h2 fun h' n hk ho => ?_
    have hs:bw rs=rs:=by
      have:rs.length < 2:=by rw [← rv.length];omega
      match rs,this with
      | [],_=>rfl
      | [_],_=>rfl
    exact⟨.ref (s.heap.objs.size + 1),_,I.laid (t':=s.toks) (o:=.lst vs) hk (Nat.le_succ _) ⟨hz,its,n,rvs,ho⟩,rfl,q _ vs (I.hok.fresh (Nat.le_succ _)) (by rw [hs];exact rv)⟩
  · obtain⟨o,ho,hc,n,hd⟩:=hl
    refine Calls.call_function_entry kind_sorted plain_sorted entry_sorted (args_sorted1 _) ?_
    unfold Builtin.«sorted»
    refine wpAny_bind (m:=checkCount "sorted" 1 1 _) (wpAny_pure ?_)
    refine wpAny_bind (wpAny_collect_seq a (.inl rfl) ho hc hd (fun h1 k1 => ?_) (by rw [List.size_toArray,sizeLine_eq];omega))
    have et:its.toArray.toList=its:=by simp
    rw [et]
    refine wpAny_bind (wpAny_newList ?_ (by rw [sizeLine_eq];omega))
    have hoL:(h1.push (seqObj "list" its.toArray 0)).get? h1.objs.size=some (seqObj "list" its.toArray 0):=Heap.get?_push_size _ rfl
    have keep:∀ b u,h1.get? b=some u→(h1.push (seqObj "list" its.toArray 0)).get? b=some u:=fun b u z=>Heap.get?_push_of_some _ z
    show wpAny _ _ (holding [Value.ref h1.objs.size] _ >>= fun _=>_) _ _ { s with heap:=h1.push (seqObj "list" its.toArray 0) }
    generalize hG:h1.push (seqObj "list" its.toArray 0)=G at hoL keep
    have hGs:G.objs.size=h1.objs.size + 1:=by rw [← hG,size_push']
    have mem:=yz rv rvs
    refine wpAny_bind (wpAny_holding (wpAny_call_entry slot_list_sort (s:={ s with heap:=G }) ⟨_,hoL,rfl⟩ entry_list_sort (o9 (kd:=tuples' (Value.type "int" != Value.type "tuple")) (S:=fun x=>x.1∈its) (r:=fun x y=>Fm.lexLt (gn H x.1) (gn H y.1)) hoL (by omega) (fun G2 kp => ?_) (fun x hx=>(o8 hx).2) (by omega) fun out op os=>⟨_,rfl,?_⟩) (args_list_sort _)))
    · have keep2:∀ b o u,H b=some u→s.heap.get? b=some o→G2.get? b=some o:=fun b o u hb e=>by
        have e1:=k1 b o e
        exact kp b o (Nat.ne_of_lt (Heap.lt_size e1)) (keep b o e1)
      refine⟨fun Q' hq => ?_,?_⟩
      · obtain⟨fs,t1,t2,t3⟩:=yd I.hok (h':=G2) keep2 rv rvs hne
        refine kat_kind (s:={ s with heap:=G2 }) (T:=.type "int") t1 (by omega) (fun v hv => ?_) rfl hq
        obtain⟨i,t,rfl⟩:=t3 v hv
        exact Looks.of_pure rfl
      · refine⟨fun {x y st Q'} Sx Sy hk hq => ?_,fun {x y} h=>ja h,fun {x y z} h1 h2=>HX h1 h2⟩
        have at':∀ v∈its,∃ b,v=.ref b ∧ ∃ (o:Obj) (zs:List Value) (n:Nat),G2.get? b=some o∧o.data=.seq zs.toArray n∧IntsAre zs (gn H v):=fun v hv=>by
          obtain⟨b,l,rfl,e,_⟩:=mem v hv
          obtain⟨z,zs,r0,o,ho,hc,n,hd⟩:=I.hok b _ e
          have er:gn H (.ref b)=l:=by
            show (match H b with|some (.tup xs)=>xs.map (fun v=>match v with | .int i=>i|_=>0)|_=>[])=l
            rw [e];exact pc l
          exact⟨b,rfl,o,zs,n,keep2 b o _ e ho,hd,by rw [er];exact ib r0⟩
        obtain⟨b1,x1,o1,z1,n1,y1,d1,i1⟩:=at' x.1 Sx
        obtain⟨b2,x2,o2,z2,n2,y2,d2,i2⟩:=at' y.1 Sy
        rw [lt'_eq]
        refine wpS_bind (wpS_get ?_)
        rw [hk]
        refine wpS_bind (wpS_lift (wpAny_attempt ?_))
        have key:∀ (Q2:Bool→Shared→Prop) E2,Q2 (Fm.lexLt (gn H x.1) (gn H y.1)) { s with heap:=G2 } → wpAny (model X.prog X.w) X.A.in1.in1 (keyLt' (tuples' true) x.1 y.1) Q2 E2 { s with heap:=G2 }:=fun Q2 E2 hq2=>by
          rw [x1,x2]
          refine kat_lt (s:={ s with heap:=G2 }) y1 d1 y2 d2 ?_
          rw [x1] at i1 hq2
          rw [x2] at i2 hq2
          have:=Fi (prog:=X.prog) (w:=X.w) (A:=X.A.in1.in1) (s:={ s with heap:=G2 }) (Q:=Q2) _ _ 0 i1 i2 hq2
          simpa using this
        exact key _ _ ⟨rfl,wpS_pure hq⟩
    · refine wpAny_pure ⟨_,rfl,?_⟩
      have hlt1:h1.objs.size < G.objs.size:=by omega
      obtain⟨e1,ho1⟩ : ∃ e1,(G.update h1.objs.size (Obj.mapSeq fun _ => #[])).get? h1.objs.size=some (seqObj "list" #[] e1):=⟨_,get?_update_seq hoL (fun _ => #[])⟩
      have ho6:(((G.update h1.objs.size (Obj.mapSeq fun _ => #[])).push (seqObj "tuple" its.toArray 0)).push (seqObj "list" #[] 0)).get? h1.objs.size=some (seqObj "list" #[] e1):=by
        rw [Heap.get?_push_ne _ _ _ (by rw [size_push',Heap.size_update];exact Nat.ne_of_lt (Nat.lt_succ_of_lt hlt1)),Heap.get?_push_ne _ _ _ (by rw [Heap.size_update];exact Nat.ne_of_lt hlt1)]
        exact ho1
      have fin:=get?_update_seq ho6 (fun _=>out.toArray)
      have I1:Inv X pins σ H { s with heap:=h1 }:=I.kept (t':=s.toks) k1
      have k2:∀ b u,h1.get? b=some u→(sortedHeap G h1.objs.size its out.toArray).get? b=some u:=fun b u z=>by
        have hlt:b < h1.objs.size:=Heap.lt_size z
        have n1:b≠h1.objs.size:=Nat.ne_of_lt hlt
        have n2:b < G.objs.size:=Nat.lt_trans hlt hlt1
        unfold sortedHeap
        rw [Heap.get?_update_ne _ _ _ _ n1,Heap.get?_push_ne _ _ _ (by rw [size_push',Heap.size_update];exact Nat.ne_of_lt (Nat.lt_succ_of_lt n2)),Heap.get?_push_ne _ _ _ (by rw [Heap.size_update];exact Nat.ne_of_lt n2),Heap.get?_update_ne _ _ _ _ n1]
        exact keep b u z
      obtain⟨vs',rv',rvs'⟩:=ug (H:=H) (out:=out) fun v hv=>by
        obtain⟨b,l,e1,e2,_⟩:=mem v (op.mem_iff.mp hv)
        exact⟨b,l,e1,e2⟩
      have er:out.map (gn H)=bw rs:=by
        have pm:(out.map (gn H)).Perm rs:=by rw [← yy rv rvs];exact op.map _
        refine mC (pm.trans (dI rs).symm) ?_ (eD nd)
        rw [List.pairwise_map]
        have nd2:(out.map (gn H)).Nodup:=pm.nodup_iff.mpr nd
        have nd3:out.Pairwise fun x y=>gn H x≠gn H y:=List.pairwise_map.mp nd2
        exact (os.and nd3).imp fun ⟨z1,z2⟩=>gP (Ne.symm z2) z1
      rw [er] at rv'
      have vl:vs'.length=its.length:=by rw [rvs'.length,op.length_eq]
      exact⟨.ref h1.objs.size,_,I1.laid (t':=s.toks) (o:=.lst vs') k2 (Nat.le_refl _) ⟨by rw [vl,sizeLine_eq];omega,out,_,rvs',by unfold sortedHeap;exact fin⟩,rfl,q _ vs' (I1.hok.fresh (Nat.le_refl _)) rv'⟩
theorem F6 {a:Expr} {fa:EF} (hg:Gl X "sorted") (hm:X.mg "sorted" = none) (ha:ME X a fa) (hs:starEach [a] X.env=(false,eval a X.env) :: starEach [] X.env:=by rfl):MF X (.Call (.Name "sorted" p) [a] [] pos) (mG fa):=by
  refine PE.imp (gF AV hg hm (by decide +kernel) (bz ha cR hs) (he:=hs)) fun σ H Q ⟨ρ,σd,hd,rs,pp⟩=>⟨ρ,σd,hd,rs,?_⟩
  unfold mG at pp
  cases e:fa σd hd with
  | exc x h'=>rw [e] at pp;exact pp
  | bad=>rw [e] at pp;exact pp
  | ok d hd1 =>
    rw [e] at pp
    simp only [aq] at pp
    intro v H1 ρ1 e1 rs1 rv
    cases c:eI hd1 d with
    | none=>rw [c] at pp;exact pp.elim
    | some l =>
      rw [c] at pp
      simp only at pp
      cases c2:kO l with
      | none=>rw [c2] at pp;exact pp.elim
      | some l' =>
        rw [c2] at pp
        unfold kO at c2
        cases c3:uS l with
        | none=>rw [c3] at c2;cases c2
        | some r =>
          rw [c3] at c2
          simp only at c2
          split at c2
          · rename_i hc
            cases c2
            obtain⟨q,vs,rfl,sq,rvs⟩:=nZ rs1.hp rv c
            exact⟨q,vs,r,rfl,sq,by rw [← rvs.length];exact hc.1,ye rvs c3,hc.2.2,hc.2.1,fun q' vs' hq rv'=>pp.mk e1 rs1 rv'.rds q' hq⟩
          · cases c2
end
end Fm
namespace Fm
theorem DJ {h h':Hd}{d:D}(e:h'.length≤h.length):letGo h (.ok d h')=.ok d h':=by
  simp only [letGo];split
  · rw [List.take_of_length_le e]
  · rfl
@[simp] theorem dX {h:Hd} {d:D}:letGo h (.ok d h)=.ok d h:=DJ (Nat.le_refl _)
theorem uh {h h':Hd}{d:D}(e:pure? d=false):letGo h (.ok d h')=.ok d h':=by
  simp [letGo,e]
@[simp] theorem ip {h h':Hd} {n:Nat}:letGo h (.ok (.ref n) h')=.ok (.ref n) h':=uh rfl
theorem cn {h g:Hd}{d:D}(e:pure? d=true):letGo h (.ok d (h++g))=.ok d h:=by
  have:Cr h (h++g):=fun n c hn hc=>.inl (by rwa [List.getElem?_append_left hn] at hc)
  simp [letGo,e,this]
theorem DK {h h' g:Hd}{d:D}(e:pure? d=true)(hl:h'.length=h.length)(ho:Cr h (h'++g)):letGo h (.ok d (h'++g))=.ok d h':=by
  simp [letGo,e,ho,← hl]
structure Web where
  ties:List (List (Nat × Int))
  bars:List Int
  stays:List (Option Int)
def bf:Option Int→D
  | none=>.non
  | some i=>.int i
def ft (p:Nat × Int):D:=.tup [.int p.1,.int p.2]
def cA (r:List (Nat × Int)):D:=.tup (r.map ft)
def Web.enc (w:Web):D:=.tup [.tup (w.ties.map cA),.tup (w.bars.map .int),.tup (w.stays.map bf)]
structure Web.Ok (w:Web) (n:Nat):Prop where
  t:w.ties.length=n
  b:w.bars.length=n
  s:w.stays.length=n
  lt:∀ r∈w.ties,∀ p∈r,p.1 < n
  sz:n≤1000
structure MV (w:Web) (n:Nat) (s:List Int):Prop where
  len:s.length=n
  op:∀ x∈s,x=0∨x=1
  st:∀ (i:Nat) (x:Int),w.stays[i]? = some (some x)→s[i]? = some x
theorem c9 {l:List D}{i:Nat}{d:D}(e:l[i]? = some d):atI l (i:Int)=some d:=by
  have:=(List.getElem?_eq_some_iff.mp e).1
  simp [atI,ixN,this]
  simpa [List.getElem?_eq_getElem this] using e
@[simp] theorem IL (x:D) (l:List D):atI (x :: l) 0=some x:=c9 (i:=0) rfl
@[simp] theorem Mz (x y:D) (l:List D):atI (x :: y :: l) 1=some y:=c9 (i:=1) rfl
@[simp] theorem MC (x y z:D) (l:List D):atI (x :: y :: z :: l) 2=some z:=c9 (i:=2) rfl
theorem bi {g:Option Nat}{all:List D}{tg:GF}{cs:List TF}{e:EF}{h:Hd}(I:Sd→Prop)(p:D→Bool)(f:D→D)(hh:i4 g all h) :
    ∀ {xs:List D} {σ:Sd},(∀ x∈xs,∀ σ,I σ → ∃ σ',tg x σ = some σ'∧I σ'∧kC cs σ' h=.ok (p x) h∧(p x=true→e σ' h=.ok (f x) h))→I σ →
      bQ g all tg cs e xs σ h=.ok ((xs.filter p).map f) h
  | [],_,_,_=>by simp [bQ,hh]
  | x :: xs,σ,st,i=>by
    obtain⟨σ',h1,h2,h3,h4⟩:=st x (by simp) σ i
    have ih:=bi I p f hh (xs:=xs) (σ := σ') (fun y hy=>st y (by simp [hy])) h2
    cases hp:p x with
    | true=>simp [bQ,hh,h1,h3,hp,h4 hp,ih]
    | false=>simp [bQ,hh,h1,h3,hp,ih]
theorem jL {g:Option Nat}{all:List D}{tg:GF}{b:SF}{rest:List D}(P:Nat→Sd→Hd→Prop)(hh:∀ i σ h,P i σ h→i4 g all h) :
    ∀ {xs:List D} {k:Nat} {σ:Sd} {h:Hd},(∀ (i:Nat) x σ h,xs[i]? = some x→P (k + i) σ h → ∃ σ',tg x σ = some σ' ∧ ∃ σ'' h'',b σ' h=.nx σ'' h''∧P (k + i + 1) σ'' h'')→P k σ h →
      ∃ σ' h',fI g all tg b (xs++rest) σ h=fI g all tg b rest σ' h'∧P (k + xs.length) σ' h'
  | [],k,σ,h,_,p=>⟨σ,h,rfl,by simpa using p⟩
  | x :: xs,k,σ,h,st,p=>by
    obtain⟨σ',h1,σ2,h2,h3,h4⟩:=st 0 x σ h (by simp) (by simpa using p)
    have st':∀ (i:Nat) y σ h,xs[i]? = some y→P (k + 1 + i) σ h → ∃ σ',tg y σ = some σ' ∧ ∃ σ'' h'',b σ' h=.nx σ'' h''∧P (k + 1 + i + 1) σ'' h'':=fun i y σ h e q=>by
      have e1:k + 1 + i=k + (i + 1):=by omega
      rw [e1] at q ⊢
      exact st (i + 1) y σ h (by simpa using e) q
    obtain⟨σ3,h5,h6,h7⟩:=jL P hh st' (by simpa using h4)
    refine⟨σ3,h5,?_,?_⟩
    · rw [← h6,List.cons_append,fI,if_pos (hh _ _ _ p),h1]
      simp only [h3]
    · have e1:k + (x :: xs).length=k + 1 + xs.length:=by simp;omega
      rw [e1];exact h7
theorem d7 {g:Option Nat}{all:List D}{tg:GF}{b:SF}(P:Nat→Sd→Hd→Prop)(hh:∀ i σ h,P i σ h→i4 g all h)
    {xs:List D} {k:Nat} {σ:Sd} {h:Hd} (st:∀ (i:Nat) x σ h,xs[i]? = some x→P (k + i) σ h → ∃ σ',tg x σ = some σ' ∧ ∃ σ'' h'',b σ' h=.nx σ'' h''∧P (k + i + 1) σ'' h'') (p:P k σ h) :
      ∃ σ' h',fI g all tg b xs σ h=.nx σ' h'∧P (k + xs.length) σ' h':=by
  obtain⟨σ',h',q,z⟩:=jL (rest:=[]) P hh st p
  rw [List.append_nil] at q
  exact⟨σ',h',q.trans (by unfold fI;exact if_pos (hh _ _ _ z)),z⟩
theorem kh {g:Option Nat}{all:List D}{tg:GF}{e:EF}(P:Nat→Sd→Hd→Prop)(V:Nat→D→Prop)(hh:∀ i σ h,P i σ h→i4 g all h) :
    ∀ {xs:List D} {k:Nat} {σ:Sd} {h:Hd},(∀ (i:Nat) x σ h,xs[i]? = some x→P (k + i) σ h → ∃ σ',tg x σ = some σ' ∧ ∃ d h'',e σ' h=.ok d h''∧V (k + i) d∧P (k + i + 1) σ' h'')→P k σ h →
      ∃ ds h',bQ g all tg [] e xs σ h=.ok ds h'∧ds.length=xs.length∧(∀ (i:Nat) d,ds[i]? = some d→V (k + i) d) ∧ ∃ σ',P (k + xs.length) σ' h'
  | [],k,σ,h,_,p=>⟨[],h,by simp [bQ,hh _ _ _ p],rfl,by simp,σ,by simpa using p⟩
  | x :: xs,k,σ,h,st,p=>by
    obtain⟨σ',h1,d,h2,h3,hv,h4⟩:=st 0 x σ h (by simp) (by simpa using p)
    have st':∀ (i:Nat) y σ h,xs[i]? = some y→P (k + 1 + i) σ h → ∃ σ',tg y σ = some σ' ∧ ∃ d h'',e σ' h=.ok d h''∧V (k + 1 + i) d∧P (k + 1 + i + 1) σ' h'':=fun i y σ h e q=>by
      have e1:k + 1 + i=k + (i + 1):=by omega
      rw [e1] at q ⊢
      exact st (i + 1) y σ h (by simpa using e) q
    obtain⟨ds,h5,h6,hl,hvs,σ3,h7⟩:=kh P V hh st' (by simpa using h4)
    refine⟨d :: ds,h5,?_,by simp [hl],fun i d' hd => ?_,σ3,?_⟩
    · simp [bQ,hh _ _ _ p,h1,kC,h3,h6]
    · cases i with
      | zero=>simp at hd;subst hd;simpa using hv
      | succ i =>
        have:=hvs i d' (by simpa using hd)
        rwa [show k + 1 + i=k + (i + 1) by omega] at this
    · have e1:k + (x :: xs).length=k + 1 + xs.length:=by simp;omega
      rw [e1];exact h7
theorem AW {α : Type}{n:Nat}{ds:List α}{f:Nat → α}(hl:ds.length=n)(h:∀ (i:Nat) d,ds[i]? = some d→d=f i):ds=(List.range n).map f:=by
  apply List.ext_getElem?
  intro i
  by_cases hi:i < n
  · have:ds[i]? = some (ds[i]'(by omega)):=by simp [hl,hi]
    rw [this,h i _ this]
    simp [hi]
  · simp [hi,hl]
end Fm
set_option linter.all false
namespace Fm
theorem aw {F:Fn}{r:LF}{σ:Sd}{h h1 h':Hd}{ds:List D}{d:D}(a:r σ h=.ok ds h1)(b:F ds h1=.ok d h'):am F r σ h=.ok d h':=by
  show Res.bind _ _=_;rw [a];exact b
theorem ae {a:EF}{r:LF}{σ:Sd}{h h1 h2:Hd}{d:D}{ds:List D}(p:a σ h=.ok d h1)(q:r σ h1=.ok ds h2):ab a r σ h=.ok (d :: ds) h2:=by
  show Res.bind _ _=_;rw [p,aq,q];rfl
theorem ar {g:O2}{a b:EF}{σ:Sd}{h h1 h2 h3:Hd}{x y z:D}(p:a σ h=.ok x h1)(q:b σ h1=.ok y h2)(r:g x y h2=.ok z h3):aj g a b σ h=.ok z h3:=by
  show Res.bind _ _=_;rw [p,aq,q];exact r
theorem ki {r:LF}{σ:Sd}{h h':Hd}{xs:List D}(p:r σ h=.ok xs h')(q:xs.length≤SZ:=by exact of_decide_eq_true rfl):fH r σ h=.ok (.tup xs) h':=by
  show Res.bind _ _=_;rw [p];exact if_pos q
theorem cq {r:LF}{σ:Sd}{h h':Hd}{xs:List D}(p:r σ h=.ok xs h')(q:xs.length≤SZ:=by exact of_decide_eq_true rfl):aT r σ h=.ok (.ref h'.length) (h'++[.lst xs]):=by
  show Res.bind _ _=_;rw [p];exact if_pos q
theorem yA {a:LF}{b:EF}{σ:Sd}{h h1 h2:Hd}{l:List D}{i:Int}{d:D}(p:a σ h=.ok l h1)(q:b σ h1=.ok (.int i) h2)(r:atI l i=some d):fIx a b σ h=.ok d h2:=by
  show Res.bind _ _=_;rw [p,aq,q];simp only [aq,r]
theorem bj {a b:EF}{σ:Sd}{h h1 h2:Hd}{x:D}{l:List D}{i:Int}{d:D}(p:a σ h=.ok x h1)(q:b σ h1=.ok (.int i) h2)(s:jQ h2 x=some l)(r:atI l i=some d):fAt a b σ h=.ok d h2:=by
  show aj _ _ _ _ _=_;exact ar p q (by simp only [oAt,s,r])
theorem aU {h:Hd}{n:Nat}{l:List D}(p:h[n]? = some (.lst l)):jQ h (.ref n)=some l:=by simp only [jQ,p]
theorem aL {i:Nat}{e:EF}{σ:Sd}{h h':Hd}{d:D}(p:e σ h=.ok d h'):aF (gN i) e σ h=.nx (σ.set i (some d)) h':=by
  show outE _ _ _=_;rw [p];rfl
theorem bV {e:EF}{σ:Sd}{h h':Hd}{d:D}(p:e σ h=.ok d h'):a7 e σ h=.rt d h':=by
  show outE _ _ _=_;rw [p];rfl
theorem fD {e:EF}{σ:Sd}{h h':Hd}{d:D}(p:e σ h=.ok d h'):fm e σ h=.nx σ h':=by
  show outE _ _ _=_;rw [p];rfl
theorem DL {t:TF}{a b:SF}{σ:Sd}{h h1:Hd}(p:t σ h=.ok true h1):sIf t a b σ h=a σ h1:=by
  unfold sIf;rw [p];rfl
theorem eC {t:TF}{a b:SF}{σ:Sd}{h h1:Hd}(p:t σ h=.ok false h1):sIf t a b σ h=b σ h1:=by
  unfold sIf;rw [p];rfl
theorem bg {a:EF}{σ:Sd}{h h':Hd}{b:Bool}(p:a σ h=.ok (.bl b) h'):tE a σ h=.ok b h':=by
  show asB _=_;rw [p];rfl
theorem cB {t:TF}{σ:Sd}{h h':Hd}{b:Bool}(p:t σ h=.ok b h'):bx t σ h=.ok (!b) h':=by
  show Res.bind _ _=_;rw [p];rfl
theorem AX {t u:TF}{σ:Sd}{h h1 h':Hd}{b:Bool}(p:t σ h=.ok true h1)(q:u σ h1=.ok b h'):uK t u σ h=.ok b h':=by
  show Res.bind _ _=_;rw [p];exact q
theorem f6 {t u:TF}{σ:Sd}{h h1 h':Hd}{b:Bool}(p:t σ h=.ok false h1)(q:u σ h1=.ok b h'):tOr t u σ h=.ok b h':=by
  show Res.bind _ _=_;rw [p];exact q
theorem vw {t u:TF}{σ:Sd}{h h1:Hd}(p:t σ h=.ok true h1):tOr t u σ h=.ok true h1:=by
  show Res.bind _ _=_;rw [p];rfl
theorem F7 {i j:Int}{h:Hd}:oEq (.int i) (.int j) h=.ok (.bl (decide (i=j))) h:=rfl
theorem dY {a:LF}{σ:Sd}{h h1:Hd}{l:List D}(p:a σ h=.ok l h1):cx a σ h=.ok (.int l.length) h1:=by
  show Res.bind _ _=_;rw [p];rfl
theorem bZ {a:EF}{σ:Sd}{h h1:Hd}{x:D}{l:List D}(p:a σ h=.ok x h1)(s:jQ h1 x=some l):lOf a σ h=.ok l h1:=by
  show Res.bind _ _=_;rw [p];simp only [aq,s]
theorem vx {x i e:EF}{σ:Sd}{h h1 h2 h3:Hd}{d:D}{n k:Nat}{j:Int}{l:List D}(p:e σ h=.ok d h1)(q:x σ h1=.ok (.ref n) h2)(r:i σ h2=.ok (.int j) h3)(s:h3[n]? = some (.lst l))(t:ixN l.length j=some k):oG x i e σ h=.nx σ (h3.set n (.lst (l.set k d))):=by
  simp only [oG,p,q,r,outE,s,t]
theorem mH {x e:EF}{σ:Sd}{h h1 h2:Hd}{d:D}{n:Nat}{l l0:List D}(p:x σ h=.ok (.ref n) h1)(q:h1[n]? = some (.lst l0))(r:e σ h1=.ok d h2)(s:h2[n]? = some (.lst l))(t:l.length < SZ):kB x e σ h=.ok .non (h2.set n (.lst (l++[d]))):=by
  simp only [kB,p,aq,q,r,Ju,s,if_pos t]
theorem iq {i j:Int}{h:Hd}(p:0 < j):fG (.int i) (.int j) h=.ok (.int (i % j)) h:=by
  simp only [fG,oIc,decide_eq_true p,if_true]
theorem Kr {i j:Int}{h:Hd}(p:0 < j)(q:j < 2 ^ 250):E4 (.int i) (.int j) h=.ok (.int (i / j)) h:=by
  simp only [E4,oIc,decide_eq_true p,decide_eq_true q,Bool.and_self,if_true]
theorem Ks {i j:Int}{h:Hd}(e:i=j):oEq (.int i) (.int j) h=.ok (.bl true) h:=by rw [F7,decide_eq_true e]
theorem AY {i j:Int}{h:Hd}(e : ¬ i=j):oEq (.int i) (.int j) h=.ok (.bl false) h:=by rw [F7,decide_eq_false e]
theorem Kt {i j:Int}{h:Hd}(e : ¬ i < j):oLt (.int i) (.int j) h=.ok (.bl false) h:=by show Res.ok (D.bl (decide (i < j))) h=_;rw [decide_eq_false e]
theorem F8 {i j:Int}{h:Hd}(e:i < j):oLt (.int i) (.int j) h=.ok (.bl true) h:=by show Res.ok (D.bl (decide (i < j))) h=_;rw [decide_eq_true e]
theorem F9 {i j:Int}{h:Hd}(p:(sml i || sml j)=true):gI (.int i) (.int j) h=.ok (.int (i * j)) h:=by
  show (if (sml i || sml j)=true then _ else _)=_
  exact if_pos p
theorem jM {i j:Int}{h:Hd}(p:sml i=true):gI (.int i) (.int j) h=.ok (.int (i * j)) h:=F9 (by rw [p];rfl)
theorem HY {i j:Int}{h:Hd}(p:sml j=true):gI (.int i) (.int j) h=.ok (.int (i * j)) h:=F9 (by rw [p,Bool.or_true])
theorem jS {t:TF}{σ:Sd}{h h':Hd}{b:Bool}(p:t σ h=.ok b h'):fT t σ h=.ok (.bl b) h':=by
  show Res.bind _ _=_;rw [p];rfl
theorem Ku {x i e:EF}{σ:Sd}{h h1 h2 h3:Hd}{d:D}{n:Nat}{j:Int}{l l0:List D}(p:x σ h=.ok (.ref n) h1)(q:h1[n]? = some (.lst l0))(r:i σ h1=.ok (.int j) h2)(u:e σ h2=.ok d h3)(s:h3[n]? = some (.lst l))(t:0≤j∧j≤l.length∧l.length < SZ):Dt x i e σ h=.ok .non (h3.set n (.lst (l.take j.toNat++[d]++l.drop j.toNat))):=by
  simp only [Dt,p,aq,q,r,u,s,if_pos t]
theorem vy {h0 g:Hd}{A:Nat}(hA:A=h0.length)(k:Nat)(c:bn):(h0++g).set (A + k) c=h0++g.set k c:=by
  subst hA
  rw [List.set_append_right _ _ (by omega)]
  congr 2;omega
theorem aA {h0:Hd}{j:Nat}{c:bn}(g:Hd)(e:h0[j]? = some c):(h0++g)[j]? = some c:=(List.getElem?_append_left (List.getElem?_eq_some_iff.mp e).1).trans e
theorem kP {a:EF}{σ:Sd}{h h1:Hd}{n:Nat}(p:a σ h=.ok (.int n) h1)(hn:n≤1000):cX a σ h=.ok ((List.range n).map (fun k:Nat=>D.int k),none) h1:=by
  show Res.bind _ _=_
  rw [p]
  exact if_pos ⟨Int.le_trans (by decide) (Int.natCast_nonneg n),Int.le_trans (Int.ofNat_le.mpr hn) (by decide)⟩
theorem kj {it:IF}{tg:GF}{b:SF}{σ:Sd}{h h1:Hd}{l:List D}{g:Option Nat}{o:Out}(p:it σ h=.ok (l,g) h1)(q:fI g l tg b l σ h1=o):fJ it tg b σ h=o:=by
  unfold fJ;rw [p];exact q
theorem cU {nl:Nat}{caps:List Nat}{it:IF}{tg:GF}{cs:List TF}{e:EF}{σ:Sd}{h h1 h2:Hd}{l ds:List D}{g:Option Nat}(p:it σ h=.ok (l,g) h1)(q:bQ g l tg cs e l (fx nl caps σ) h1=.ok ds h2):aJ nl caps it tg cs e σ h=.ok ds h2:=by
  show Res.bind _ _=_;rw [p];exact q
theorem Kv {la:LF}{b:EF}{σ:Sd}{h h1 h2:Hd}{l:List D}{n:Int}(p:la σ h=.ok l h1)(q:b σ h1=.ok (.int n) h2)(r:0≤n∧n≤1000∧l.length * n.toNat≤1000):AN la b σ h=.ok (List.replicate n.toNat l).flatten h2:=by
  simp only [AN,p,aq,q,if_pos r]
theorem Kw {k:Int}{n:Nat}{h:Hd}{l:List (Int × D)}(p:h[n]? = some (.dct l)):Dq (.int k) (.ref n) h=.ok (.bl (oU l k).isSome) h:=by simp only [Dq,p]
theorem CN {x i e:EF}{σ:Sd}{h h1 h2 h3:Hd}{d:D}{n:Nat}{j:Int}{l:List (Int × D)}(p:e σ h=.ok d h1)(q:x σ h1=.ok (.ref n) h2)(r:i σ h2=.ok (.int j) h3)(s:h3[n]? = some (.dct l))(t:l.length < SZ):oV x i e σ h=.nx σ (h3.set n (.dct (AK l j d))):=by
  simp only [oV,p,q,r,outE,s,if_pos t]
theorem AZ {a:EF}{σ:Sd}{h h1:Hd}{n:Nat}{l:List D}(p:a σ h=.ok (.ref n) h1)(q:h1[n]? = some (.lst l)):bA .list a σ h=.ok (.bl true) h1:=by
  simp only [bA,p,aq,Dm,q];rfl
theorem dh {a:EF}{σ:Sd}{h h1:Hd}{n:Nat}{l:List D}(p:a σ h=.ok (.ref n) h1)(q:h1[n]? = some (.lst l)):bd a σ h=.ok (l,some n) h1:=by
  simp only [bd,p,aq,q]
theorem Kx {a b:EF}{σ:Sd}{h h1 h2:Hd}{i j:Int}(p:a σ h=.ok (.int i) h1)(q:b σ h1=.ok (.int j) h2):va a b σ h=.ok (.int (if j > i then j else i)) h2:=by
  simp only [va,p,aq,q]
theorem og {a:LF}{σ:Sd}{h h1:Hd}{l:List D}(p:a σ h=.ok l h1):fk a σ h=.ok (.tup l) h1:=by
  show Res.bind _ _=_;rw [p];rfl
theorem Ky {i j:Int}{h:Hd}(e : ¬ j < i):oGt (.int i) (.int j) h=.ok (.bl false) h:=by show Res.ok (D.bl (decide (j < i))) h=_;rw [decide_eq_false e]
theorem HZ {h:Hd}{A:Nat}(hA:A=h.length)(c d:bn):(h++[c]).set A d=h++[d]:=by
  have:=vy (g:=[c]) hA 0 d
  rwa [Nat.add_zero] at this
theorem Ga {t:TF}{a b:EF}{σ:Sd}{h h1:Hd}(p:t σ h=.ok true h1):fIf t a b σ h=a σ h1:=by
  show Res.bind _ _=_;rw [p];rfl
theorem Gb {t:TF}{a b:EF}{σ:Sd}{h h1:Hd}(p:t σ h=.ok false h1):fIf t a b σ h=b σ h1:=by
  show Res.bind _ _=_;rw [p];rfl
theorem a4 {a b:SF}{σ σ':Sd}{h h':Hd}(e:a σ h=.nx σ' h'):aB a b σ h=b σ' h':=by simp only [aB,e]
theorem eK {np n:Nat}{b:SF}{ds:List D}{σ:Sd}{h h':Hd}{d:D}(hl:ds.length=np)(st:(ds.map some++List.replicate (n - ds.length) none:Sd) = σ)(e:b σ h=.rt d h'):bJ np n b ds h=letGo h (.ok d h'):=by
  unfold bJ runB;rw [if_pos hl,st,e]
theorem vz {a:LF}{σ:Sd}{h h1:Hd}{l:List D}{bs:List Bool}(p:a σ h=.ok l h1)(q:iR l=some bs):oF a σ h=.ok (.bl (bs.all id)) h1:=by
  simp only [oF,p,aq,q]
theorem Kz (a b:Int)(h:Hd):oNe (.int a) (.int b) h=.ok (.bl (!decide (a=b))) h:=rfl
theorem KA {a b:EF}{σ:Sd}{h h1 h2:Hd}{i j:Int}(p:a σ h=.ok (.int i) h1)(q:b σ h1=.ok (.int j) h2):vd a b σ h=.ok (.int (if j < i then j else i)) h2:=by
  simp only [vd,p,aq,q]
theorem kQ {a b:EF}{σ:Sd}{h h1 h2:Hd}{d e:D}(p:a σ h=.ok d h1)(q:b σ h1=.ok e h2):ab a (ab b ak) σ h=.ok [d,e] h2:=ae p (ae q rfl)
end Fm
set_option linter.all false
namespace Fm
noncomputable def b5:Fn:=bJ 1 1 (a7 (fT (uK (tE (bA .int (aa 0))) (bx (tE (bA .bool (aa 0)))))))
noncomputable def aC:Fn:=bJ 3 3 (a7 (fT (uK (tE (am b5 (ab (aa 0) ak))) (tE (oE oLe oLe (aa 1) (aa 0) (aa 2))))))
noncomputable def cf:Fn:=bJ 1 1 (a7 (am aC (ab (aa 0) (ab (fC (.int 0)) (ab (fC (.int 1)) ak)))))
noncomputable def b9:Fn:=bJ 1 1 (a7 (cx (lOf (fAt (aa 0) (fC (.int 0))))))
noncomputable def dj:Fn:=bJ 2 2 (a7 (fAt (fAt (aa 0) (fC (.int 0))) (aa 1)))
theorem kR (i:Int)(h:Hd):b5 [.int i] h=.ok (.bl true) h:=(eK (d:=.bl true) (h':=h) rfl rfl rfl).trans dX
theorem cY (i a b:Int)(h:Hd):aC [.int i,.int a,.int b] h=.ok (.bl (decide (a≤i) && decide (i≤b))) h:=by
  have ch:oE oLe oLe (aa 1) (aa 0) (aa 2) [some (.int i),some (.int a),some (.int b)] h=.ok (.bl (decide (a≤i) && decide (i≤b))) h:=by
    show (match D.bl (decide (a≤i)) with | .bl true=>Res.ok (D.bl (decide (i≤b))) h | .bl false=>.ok (.bl false) h|_=>.bad)=_
    cases decide (a≤i)<;>rfl
  have t:uK (tE (am b5 (ab (aa 0) ak))) (tE (oE oLe oLe (aa 1) (aa 0) (aa 2))) [some (.int i),some (.int a),some (.int b)] h=.ok (decide (a≤i) && decide (i≤b)) h:=AX (bg (aw (ae rfl rfl) (kR i h))) (bg ch)
  exact (eK rfl rfl (bV (jS t))).trans dX
theorem je (i:Int)(h:Hd):cf [.int i] h=.ok (.bl (decide (0≤i) && decide (i≤1))) h:=by
  exact (eK rfl rfl (bV (aw (ae rfl (kQ rfl rfl)) (cY i 0 1 h)))).trans dX
theorem yB (w:Web)(h:Hd){p:Nat}{r:List (Nat × Int)}(e:w.ties[p]? = some r):dj [w.enc,.int p] h=.ok (cA r) h:=by
  have q:atI (w.ties.map cA) (p:Int)=some (cA r):=c9 (by simp [e])
  exact (eK rfl rfl (bV (bj (bj rfl rfl rfl rfl) rfl rfl q))).trans dX
end Fm
set_option linter.all false
namespace Fm
end Fm
set_option linter.all false
namespace Fm
noncomputable def fu:Fn:=bJ 2 4 (aB (sIf (tOr (bx (tE (bA .tuple (aa 1)))) (tE (aj oNe (cx (lOf (aa 1))) (fC (.int 3))))) (a7 (fC (.bl false))) br)
    (aB (aF (gN 2) (fAt (aa 1) (fC (.int 0))))
    (aB (aF (gN 3) (fAt (aa 1) (fC (.int 1))))
    (aB (sIf (tOr (bx (tE (am aC (ab (aa 2) (ab (fC (.int 0)) (ab (aj Dl (aa 0) (fC (.int 1))) ak)))))) (bx (tE (am aC (ab (aa 3) (ab (fC (.int 0)) (ab (aj Dl (aa 0) (fC (.int 1))) ak))))))) (a7 (fC (.bl false))) br)
    (a7 (fT (uK (tE (aj oNe (aa 2) (aa 3))) (tE (am aC (ab (fAt (aa 1) (fC (.int 2))) (ab (fC (.int 1)) (ab (fC (.int 400)) ak))))))))))))
noncomputable abbrev cM:SF:=(aB (sIf (bx (tE (am fu (ab (aa 0) (ab (aa 3) ak))))) dH br)
    (aB (aF (gN 4) (fAt (aa 3) (fC (.int 0))))
    (aB (aF (gN 5) (fAt (aa 3) (fC (.int 1))))
    (aB (sIf (tE (aj Dq (aa 5) (fAt (aa 2) (aa 4)))) dH br)
    (aB (oV (fAt (aa 2) (aa 4)) (aa 5) (fAt (aa 3) (fC (.int 2))))
    (oV (fAt (aa 2) (aa 5)) (aa 4) (fAt (aa 3) (fC (.int 2)))))))))
noncomputable def cJ:Fn:=bJ 2 6 (aB (sIf (bx (tE (bA .list (aa 1)))) dH br)
    (aB (aF (gN 2) (aT (aJ 1 [] (cX (aa 0)) (gN 0) [] tX)))
    (aB (fJ (bd (aa 1)) (gN 3) cM)
    (a7 (aa 2)))))
noncomputable def cZ:Fn:=bJ 2 2 (aB (sIf (tE (aj ml (aa 1) (fC .non))) dH br)
    (aB (sIf (tOr (bx (tE (bA .list (aa 1)))) (tE (aj oNe (cx (lOf (aa 1))) (cx (lOf (aa 0)))))) dH br)
    (aB (sIf (bx (tE (oF (aJ 1 [] (bd (aa 1)) (gN 0) [] (am b5 (ab (aa 0) ak)))))) dH br)
    (a7 (fk (lOf (aa 1)))))))
noncomputable def cK:Fn:=bJ 2 2 (aB (sIf (tE (aj ml (aa 1) (fC .non))) (a7 (fk (aJ 1 [] (cX (aa 0)) (gN 0) [] (fC .non)))) br)
    (aB (sIf (tOr (bx (tE (bA .list (aa 1)))) (tE (aj oNe (cx (lOf (aa 1))) (aa 0)))) dH br)
    (aB (sIf (bx (tE (oF (aJ 1 [] (bd (aa 1)) (gN 0) [] (fT (tOr (tE (aj ml (aa 0) (fC .non))) (tE (am cf (ab (aa 0) ak))))))))) dH br)
    (a7 (fk (lOf (aa 1)))))))
noncomputable def dL:Fn:=bJ 4 6 (aB (sIf (bx (tE (am aC (ab (aa 0) (ab (fC (.int 1)) (ab (fC (.int 30)) ak)))))) dH br)
    (aB (aF (gN 4) (am cJ (ab (aa 0) (ab (aa 1) ak))))
    (aB (aF (gN 5) (fk (aJ 1 [] (bd (aa 4)) (gN 0) [] (fk (kc (aa 0))))))
    (a7 (fH (ab (aa 5) (ab (am cZ (ab (aa 4) (ab (aa 2) ak))) (ab (am cK (ab (aa 0) (ab (aa 3) ak))) ak))))))))
noncomputable def cN:Fn:=bJ 2 4 (aB (aF (gN 2) (fC (.int 0)))
    (aB (sIf (tE (aj oLt (aa 1) (cx (lOf (aa 0))))) (aF (gN 2) (fAt (aa 0) (aa 1))) br)
    (aB (aF (gN 3) (fT (tOr (tE (aj oEq (cx (lOf (aa 0))) (fC (.int 0)))) (tE (aj oEq (aj fG (fAt (aa 0) (fC (.int 0))) (fC (.int 2))) (fC (.int 1)))))))
    (aB (sIf (tE (aa 3)) (aF (gN 2) (aj cb (aj fG (aa 2) (fC (.int 2147483647))) (aj gI (fC (.int 1000003)) (aa 1)))) br)
    (a7 (aT (ab (aa 2) (ab (fC (.int 0)) (ab (aa 3) ak)))))))))
noncomputable def aE:Fn:=bJ 2 4 (aB (oG (aa 0) (fC (.int 1)) (aj cb (fAt (aa 0) (fC (.int 1))) (fC (.int 1))))
    (aB (sIf (tE (fAt (aa 0) (fC (.int 2)))) (aB (aF (gN 2) (aj fG (aj gI (aj cb (aj cb (fAt (aa 0) (fC (.int 0))) (aj gI (fC (.int 7919)) (fAt (aa 0) (fC (.int 1))))) (fC (.int 1))) (fC (.int 48271))) (fC (.int 2147483647))))
    (aB (aF (gN 2) (aj fG (aj gI (aa 2) (aj cb (aj fG (aa 2) (fC (.int 65521))) (fAt (aa 0) (fC (.int 1))))) (fC (.int 2147483629))))
    (a7 (aj fG (aj fG (aj cb (aj gI (aa 2) (aa 2)) (aj gI (fC (.int 69621)) (aa 2))) (fC (.int 2147483563))) (aa 1))))) br)
    (aB (aF (gN 3) (aj fG (fAt (aa 0) (fC (.int 0))) (aa 1)))
    (aB (oG (aa 0) (fC (.int 0)) (aj E4 (fAt (aa 0) (fC (.int 0))) (aa 1)))
    (a7 (aa 3))))))
noncomputable def dS:Fn:=bJ 3 3 (aB (sIf (tE (aj oEq (aa 0) (fC (.int 0)))) (a7 (aa 2)) br)
    (aB (sIf (tE (aj oEq (aa 0) (fC (.int 1)))) (a7 (aj Dl (aa 1) (fC (.int 60)))) br)
    (aB (sIf (tE (aj oEq (aa 0) (fC (.int 2)))) (a7 (aj Dl (aj cb (aa 2) (aj fG (aa 1) (fC (.int 5)))) (fC (.int 2)))) br)
    (aB (sIf (tE (aj oEq (aa 0) (fC (.int 3)))) (a7 (aj gI (fC (.int 2)) (aj fG (aa 1) (aj cb (aa 2) (fC (.int 1)))))) br)
    (a7 (aj gI (aj cb (aj Lq (fC (.int 10)) (fC (.int 59))) (aa 1)) (fIx (ab (fC (.int 1)) (ab (fC (.int (-1))) ak)) (aj fG (aa 1) (fC (.int 2))))))))))
noncomputable abbrev gp:SF:=(sIf (tE (aj oEq (am aE (ab (aa 9) (ab (aa 3) ak))) (fC (.int 0)))) (aB (aF (gN 11) (aj cb (fC (.int 1)) (am aE (ab (aa 9) (ab (fIx (ab (fC (.int 3)) (ab (fC (.int 400)) ak)) (am aE (ab (aa 9) (ab (fC (.int 2)) ak)))) ak)))))
    (aB (fm (Dt (aa 4) (am aE (ab (aa 9) (ab (aj cb (cx (lOf (aa 4))) (fC (.int 1))) ak))) (fIx (ab (fH (ab (aa 8) (ab (aa 10) (ab (aa 11) ak)))) (ab (fH (ab (aa 10) (ab (aa 8) (ab (aa 11) ak)))) ak)) (aj fG (aa 11) (fC (.int 2))))))
    (aB (oG (aa 7) (aa 8) (aj cb (fAt (aa 7) (aa 8)) (aa 11)))
    (oG (aa 7) (aa 10) (aj cb (fAt (aa 7) (aa 10)) (aa 11)))))) br)
noncomputable abbrev fv:SF:=(aB (aF (gN 9) (am cN (ab (aa 0) (ab (aj cb (fC (.int 1)) (aa 8)) ak))))
    (aB (fm (kB (aa 6) (fIx (ab (fC .non) (ab (fC .non) (ab (fC .non) (ab (fC (.int 0)) (ab (fC (.int 1)) ak))))) (am aE (ab (aa 9) (ab (fC (.int 5)) ak))))))
    (aB (fm (kB (aa 5) (fH (ab (am aE (ab (aa 9) (ab (fC (.int 5)) ak))) (ab (am aE (ab (aa 9) (ab (fC (.int 200)) ak))) ak)))))
    (fJ (cX (aa 8)) (gN 10) gp))))
noncomputable def eO:Fn:=bJ 1 12 (aB (aF (gN 1) (am cN (ab (aa 0) (ab (fC (.int 0)) ak))))
    (aB (fm (am aE (ab (aa 1) (ab (fC (.int 2)) ak))))
    (aB (aF (gN 2) (aj cb (fC (.int 1)) (am aE (ab (aa 1) (ab (fIx (ab (fC (.int 6)) (ab (fC (.int 12)) (ab (fC (.int 30)) ak))) (am aE (ab (aa 1) (ab (fC (.int 3)) ak)))) ak)))))
    (aB (aF (gN 3) (fIx (ab (fC (.int 1)) (ab (fC (.int 2)) (ab (fC (.int 5)) ak))) (am aE (ab (aa 1) (ab (fC (.int 3)) ak)))))
    (aB (aF (gN 4) (aT ak))
    (aB (aF (gN 5) (aT ak))
    (aB (aF (gN 6) (aT ak))
    (aB (aF (gN 7) (aT (AN (ab (fC (.int 0)) ak) (aa 2))))
    (aB (fJ (cX (aa 2)) (gN 8) fv)
    (aB (aF (gN 5) (aT (aJ 1 [7,5] (cX (aa 2)) (gN 0) [] (am dS (ab (fAt (fAt (aa 2) (aa 0)) (fC (.int 0))) (ab (fAt (fAt (aa 2) (aa 0)) (fC (.int 1))) (ab (fAt (aa 1) (aa 0)) ak)))))))
    (a7 (fH (ab (aa 2) (ab (aa 4) (ab (aa 5) (ab (aa 6) (ab (aa 7) ak)))))))))))))))))
end Fm
set_option linter.all false
namespace Fm
theorem az {a b:SF}{σ σ':Sd}{h h':Hd}(e:a σ h=.nx σ' h'):aB a b σ h=b σ' h':=by simp [aB,e]
theorem Ia {a b:SF}{σ:Sd}{h h':Hd}{d:D}(e:a σ h=.rt d h'):aB a b σ h=.rt d h':=by simp [aB,e]
theorem CO {x:Int}(h0:0≤x)(h1:x < 4611686018427387904):sml x=true:=by
  simp only [sml,Bool.and_eq_true,decide_eq_true_eq];omega
theorem oh {α : Type}{f : α → D}{l:List α}{i:Nat}(h:i < l.length):atI (l.map f) (i:Int)=some (f l[i]):=c9 (by simp [h])
theorem yC (ns:List Int)(k:Nat)(h:Hd):∃ c m,cN [.lit (ns.map .int),.int k] h=.ok (.ref h.length) (h++[.lst [.int c,.int 0,.bl m]]):=by
  have sm:sml 1000003=true:=by decide
  have z:∀ b:Bool,(b=true∨b=false):=fun b=>by cases b<;>simp
  obtain⟨c,hc⟩ : ∃ c,c=if k < ns.length then ns.getD k 0 else 0:=⟨_,rfl⟩
  have s1:aF (gN 2) (fC (.int 0)) [some (.lit (ns.map .int)),some (.int k),none,none] h=.nx [some (.lit (ns.map .int)),some (.int k),some (.int 0),none] h:=aL rfl
  have s2:sIf (tE (aj oLt (aa 1) (cx (lOf (aa 0))))) (aF (gN 2) (fAt (aa 0) (aa 1))) br [some (.lit (ns.map .int)),some (.int k),some (.int 0),none] h=.nx [some (.lit (ns.map .int)),some (.int k),some (.int c),none] h:=by
    by_cases e:k < ns.length
    · have a:=oh (f:=D.int) e
      rw [hc,if_pos e]
      refine (DL (bg (ar rfl (dY (bZ rfl rfl)) (F8 (Int.ofNat_lt.mpr (by rw [List.length_map];exact e)))))).trans (aL (bj rfl rfl rfl ?_))
      rw [a,List.getD_eq_getElem?_getD,List.getElem?_eq_getElem e];rfl
    · rw [hc,if_neg e]
      exact eC (bg (ar rfl (dY (bZ rfl rfl)) (Kt (fun z=>e (by have:=Int.ofNat_lt.mp z;rwa [List.length_map] at this)))))
  obtain⟨m,s3⟩ : ∃ m,aF (gN 3) (fT (tOr (tE (aj oEq (cx (lOf (aa 0))) (fC (.int 0)))) (tE (aj oEq (aj fG (fAt (aa 0) (fC (.int 0))) (fC (.int 2))) (fC (.int 1)))))) [some (.lit (ns.map .int)),some (.int k),some (.int c),none] h=.nx [some (.lit (ns.map .int)),some (.int k),some (.int c),some (.bl m)] h:=by
    by_cases e:ns.length=0
    · exact⟨true,aL (jS (vw (bg (ar (dY (bZ rfl rfl)) rfl (Ks (by rw [List.length_map,e];rfl))))))⟩
    · have e0:0 < ns.length:=Nat.pos_of_ne_zero e
      have a:atI (ns.map D.int) 0=some (.int ns[0]):=oh (f:=D.int) (i:=0) e0
      exact⟨decide (ns[0] % 2=1),aL (jS (f6 (bg (ar (dY (bZ rfl rfl)) rfl (AY (fun z=>e (by rw [List.length_map] at z;exact Int.ofNat.inj z))))) (bg (ar (ar (bj rfl rfl rfl a) rfl (iq (by decide))) rfl F7))))⟩
  obtain⟨c',s4⟩ : ∃ c',sIf (tE (aa 3)) (aF (gN 2) (aj cb (aj fG (aa 2) (fC (.int 2147483647))) (aj gI (fC (.int 1000003)) (aa 1)))) br [some (.lit (ns.map .int)),some (.int k),some (.int c),some (.bl m)] h=.nx [some (.lit (ns.map .int)),some (.int k),some (.int c'),some (.bl m)] h:=by
    cases m with
    | true=>exact⟨c % 2147483647 + 1000003 * k,(DL (bg rfl)).trans (aL (ar (ar rfl rfl (iq (by decide))) (ar rfl rfl (jM sm)) rfl))⟩
    | false=>exact⟨c,eC (bg rfl)⟩
  refine⟨c',m,?_⟩
  have st:([D.lit (ns.map .int),D.int k].map some++List.replicate (4 - [D.lit (ns.map .int),D.int k].length) none:Sd)=[some (.lit (ns.map .int)),some (.int k),none,none]:=rfl
  unfold cN bJ runB
  rw [if_pos (show [D.lit (ns.map .int),D.int k].length=2 from rfl),st,az s1,az s2,az s3,az s4]
  simp [SZ]
theorem Gc {h:Hd}{n:Nat}{c t m:Int}{b:Bool}(hn:h[n]? = some (.lst [.int c,.int t,.bl b]))(hm:0 < m)(hm2:m < 2 ^ 250) :
    ∃ v c' t',aE [.ref n,.int m] h=.ok (.int v) (h.set n (.lst [.int c',.int t',.bl b]))∧0≤v∧v < m:=by
  have hl:n < h.length:=(List.getElem?_eq_some_iff.mp hn).1
  obtain⟨h1,hh1⟩ : ∃ h1,h1=h.set n (.lst [.int c,.int (t + 1),.bl b]):=⟨_,rfl⟩
  have g1:h1[n]? = some (.lst [.int c,.int (t + 1),.bl b]):=by rw [hh1,List.getElem?_set_self hl]
  have s1:oG (aa 0) (fC (.int 1)) (aj cb (fAt (aa 0) (fC (.int 1))) (fC (.int 1))) [some (.ref n),some (.int m),none,none] h=.nx [some (.ref n),some (.int m),none,none] h1:=by
    rw [hh1];exact vx (k:=1) (ar (bj rfl rfl (aU hn) rfl) rfl rfl) rfl rfl hn rfl
  have pu:∀ (v:Int) (g:Hd),(∀ j,j < h.length → ∃ cc,g[j]? = some cc∧(h[j]? = some cc∨i5 cc=true))→g.length=h.length→letGo h (.ok (.int v) g)=.ok (.int v) g:=fun v g hg hgl=>by
    have:=DK (h:=h) (h':=g) (g:=[]) (d:=.int v) rfl hgl (by
      intro j cc hj e
      obtain⟨c2,e1,e2⟩:=hg j hj
      rw [List.append_nil,e1] at e
      cases e
      exact e2)
    simpa using this
  have st:([D.ref n,D.int m].map some++List.replicate (4 - [D.ref n,D.int m].length) none:Sd)=[some (.ref n),some (.int m),none,none]:=rfl
  have cp:∀ (x y:Int),i5 (.lst [.int x,.int y,.bl b])=true:=fun x y=>rfl
  have pl:∀ (x y:Int),∀ j,j < h.length → ∃ cc,(h.set n (.lst [.int x,.int y,.bl b]))[j]? = some cc∧(h[j]? = some cc∨i5 cc=true):=fun x y j hj=>by
    by_cases e:n=j
    · subst e;exact⟨_,by rw [List.getElem?_set_self hl],.inr (cp x y)⟩
    · exact⟨h[j],by rw [List.getElem?_set_ne e];simp [hj],.inl (by simp [hj])⟩
  cases b with
  | true =>
    have sm1:sml 7919=true:=by decide
    have sm2:sml 48271=true:=by decide
    have sm3:sml 69621=true:=by decide
    obtain⟨n1,hn1⟩ : ∃ n1,n1=(c + 7919 * (t + 1) + 1) * 48271 % 2147483647:=⟨_,rfl⟩
    have b1:0≤n1∧n1 < 2147483647:=by rw [hn1];exact⟨Int.emod_nonneg _ (by decide),Int.emod_lt_of_pos _ (by decide)⟩
    have sm4:sml n1=true:=CO b1.1 (Int.lt_trans b1.2 (by decide))
    obtain⟨n2,hn2⟩ : ∃ n2,n2=n1 * (n1 % 65521 + (t + 1)) % 2147483629:=⟨_,rfl⟩
    have b2:0≤n2∧n2 < 2147483629:=by rw [hn2];exact⟨Int.emod_nonneg _ (by decide),Int.emod_lt_of_pos _ (by decide)⟩
    have sm5:sml n2=true:=CO b2.1 (Int.lt_trans b2.2 (by decide))
    have t1:aF (gN 2) (aj fG (aj gI (aj cb (aj cb (fAt (aa 0) (fC (.int 0))) (aj gI (fC (.int 7919)) (fAt (aa 0) (fC (.int 1))))) (fC (.int 1))) (fC (.int 48271))) (fC (.int 2147483647))) [some (.ref n),some (.int m),none,none] h1=.nx [some (.ref n),some (.int m),some (.int n1),none] h1:=by
      rw [hn1];exact aL (ar (ar (ar (ar (bj rfl rfl (aU g1) rfl) (ar rfl (bj rfl rfl (aU g1) rfl) (jM sm1)) rfl) rfl rfl) rfl (HY sm2)) rfl (iq (by decide)))
    have t2:aF (gN 2) (aj fG (aj gI (aa 2) (aj cb (aj fG (aa 2) (fC (.int 65521))) (fAt (aa 0) (fC (.int 1))))) (fC (.int 2147483629))) [some (.ref n),some (.int m),some (.int n1),none] h1=.nx [some (.ref n),some (.int m),some (.int n2),none] h1:=by
      rw [hn2];exact aL (ar (ar rfl (ar (ar rfl rfl (iq (by decide))) (bj rfl rfl (aU g1) rfl) rfl) (jM sm4)) rfl (iq (by decide)))
    have t3:a7 (aj fG (aj fG (aj cb (aj gI (aa 2) (aa 2)) (aj gI (fC (.int 69621)) (aa 2))) (fC (.int 2147483563))) (aa 1)) [some (.ref n),some (.int m),some (.int n2),none] h1=.rt (.int ((n2 * n2 + 69621 * n2) % 2147483563 % m)) h1:=by
      exact bV (ar (ar (ar (ar rfl rfl (jM sm5)) (ar rfl rfl (jM sm3)) rfl) rfl (iq (by decide))) rfl (iq hm))
    refine⟨(n2 * n2 + 69621 * n2) % 2147483563 % m,c,t + 1,?_,Int.emod_nonneg _ (Int.ne_of_gt hm),Int.emod_lt_of_pos _ hm⟩
    have tt:tE (fAt (aa 0) (fC (.int 2))) [some (.ref n),some (.int m),none,none] h1=.ok true h1:=bg (bj rfl rfl (aU g1) rfl)
    unfold aE bJ runB
    rw [if_pos (show [D.ref n,D.int m].length=2 from rfl),st,az s1]
    rw [Ia (d:=.int ((n2 * n2 + 69621 * n2) % 2147483563 % m)) (h':=h1)]
    · show letGo h (.ok _ h1)=_
      rw [hh1]
      exact pu _ _ (pl _ _) (by simp)
    · exact (DL tt).trans ((az t1).trans ((az t2).trans t3))
  | false =>
    have tt:tE (fAt (aa 0) (fC (.int 2))) [some (.ref n),some (.int m),none,none] h1=.ok false h1:=bg (bj rfl rfl (aU g1) rfl)
    refine⟨c % m,c / m,t + 1,?_,Int.emod_nonneg _ (Int.ne_of_gt hm),Int.emod_lt_of_pos _ hm⟩
    have t0:∀ x:SF,sIf (tE (fAt (aa 0) (fC (.int 2)))) x br [some (.ref n),some (.int m),none,none] h1=.nx [some (.ref n),some (.int m),none,none] h1:=fun x=>eC tt
    have t1:aF (gN 3) (aj fG (fAt (aa 0) (fC (.int 0))) (aa 1)) [some (.ref n),some (.int m),none,none] h1=.nx [some (.ref n),some (.int m),none,some (.int (c % m))] h1:=aL (ar (bj rfl rfl (aU g1) rfl) rfl (iq hm))
    have t2:oG (aa 0) (fC (.int 0)) (aj E4 (fAt (aa 0) (fC (.int 0))) (aa 1)) [some (.ref n),some (.int m),none,some (.int (c % m))] h1=.nx [some (.ref n),some (.int m),none,some (.int (c % m))] (h.set n (.lst [.int (c / m),.int (t + 1),.bl false])):=by
      have:h1.set n (.lst [.int (c / m),.int (t + 1),.bl false])=h.set n (.lst [.int (c / m),.int (t + 1),.bl false]):=by rw [hh1,List.set_set]
      rw [← this]
      exact vx (k:=0) (ar (bj rfl rfl (aU g1) rfl) rfl (Kr hm hm2)) rfl rfl g1 rfl
    have t3:a7 (aa 3) [some (.ref n),some (.int m),none,some (.int (c % m))] (h.set n (.lst [.int (c / m),.int (t + 1),.bl false]))=.rt (.int (c % m)) (h.set n (.lst [.int (c / m),.int (t + 1),.bl false])):=bV rfl
    unfold aE bJ runB
    rw [if_pos (show [D.ref n,D.int m].length=2 from rfl),st,az s1,az (t0 _),az t1,az t2,t3]
    exact pu _ _ (pl _ _) (by simp)
end Fm
set_option linter.all false
namespace Fm
theorem gS {n i:Nat}{x:D}(hx:((List.range n).map fun k:Nat=>D.int k)[i]? = some x):i < n∧x=.int (i:Nat):=by
  have hi:i < n:=by
    have:=(List.getElem?_eq_some_iff.mp hx).1
    simpa using this
  exact⟨hi,by simpa [hi,List.getElem?_eq_getElem] using hx.symm⟩
theorem ui {α : Type}(f : α → D)(l:List α){x:Int}(h0:0≤x)(h:x < l.length):∃ v∈l,atI (l.map f) x=some (f v):=by
  have h3:x.toNat < l.length:=by omega
  refine⟨l[x.toNat],List.getElem_mem h3,?_⟩
  have:=oh (f:=f) h3
  rwa [show ((x.toNat:Nat):Int)=x by omega] at this
theorem KC (k x t:Int)(ht:0≤t)(h:Hd):∃ v,dS [.int k,.int x,.int t] h=.ok (.int v) h∧(0≤x→x < 200→t≤1000000→v.natAbs < 10 ^ 60):=by
  by_cases e0:k=0
  · exact⟨t,by simp [dS,bJ,runB,e0,peq,dep],fun _ _ _=>by omega⟩
  · by_cases e1:k=1
    · exact⟨x - 60,by simp [dS,bJ,runB,e0,e1,peq,dep],fun _ _ _=>by omega⟩
    · by_cases e2:k=2
      · exact⟨t + x % 5 - 2,by simp [dS,bJ,runB,e0,e1,e2,peq,dep],fun _ _ _=>by omega⟩
      · by_cases e3:k=3
        · have s2:sml 2=true:=by decide
          have p1:0 < t + 1:=by omega
          have q1:=Int.emod_nonneg x (show t + 1≠0 by omega)
          have q2:=Int.emod_lt_of_pos x p1
          exact⟨2 * (x % (t + 1)),by simp [dS,bJ,runB,e0,e1,e2,e3,peq,dep,s2,p1],fun _ _ _=>by omega⟩
        · obtain⟨v,hv,q⟩:=ui D.int [1,-1] (x:=x % 2) (Int.emod_nonneg _ (by omega)) (by have:=Int.emod_lt_of_pos x (show (0:Int) < 2 by omega);simpa using this)
          have q:atI [D.int 1,.int (-1)] (x % 2)=some (.int v):=q
          have s10:sml 10=true:=by decide
          have sv:sml v=true:=by simp at hv;rcases hv with e|e<;>subst e<;>decide
          refine⟨(10 ^ 59 + x) * v,by simp [dS,bJ,runB,e0,e1,e2,e3,peq,dep,s10,q,sv],fun a b _ => ?_⟩
          simp at hv
          rcases hv with e|e<;>subst e<;>omega
structure Tie where
  a:Nat
  b:Nat
  w:Int
def ay (t:Tie):D:=.tup [.int t.a,.int t.b,.int t.w]
def far (i:Nat) (t:Tie):Option Nat:=if t.a=i then some t.b else if t.b=i then some t.a else none
def wOf (i:Nat) (t:Tie):Int:=if t.a=i∨t.b=i then t.w else 0
def bO (T:List Tie) (i:Nat):Int:=(T.map (wOf i)).sum
def LN (one other:Nat) (t:Tie):Prop:=(t.a < one∧t.b < one)∨(t.a=one∧t.b < other)∨(t.b=one∧t.a < other)
def f7 (s t:Tie):Prop:=¬ (s.a=t.a∧s.b=t.b) ∧ ¬ (s.a=t.b∧s.b=t.a)
structure TOk (n one other:Nat) (T:List Tie):Prop where
  ne:∀ t∈T,t.a≠t.b
  lt:∀ t∈T,t.a < n∧t.b < n
  wt:∀ t∈T,1≤t.w∧t.w≤400
  be:∀ t∈T,LN one other t
  un:T.Pairwise f7
  len:T.length≤30 * one + other
theorem f7.symm {s t:Tie}(h:f7 s t):f7 t s:=⟨fun z=>h.1 ⟨z.1.symm,z.2.symm⟩,fun z=>h.2 ⟨z.2.symm,z.1.symm⟩⟩
theorem TOk.skip {n one other:Nat}{T:List Tie}(o:TOk n one other T):TOk n one (other + 1) T :=
  ⟨o.ne,o.lt,o.wt,fun t ht=>by
    rcases o.be t ht with h|h|h
    · exact .inl h
    · exact .inr (.inl ⟨h.1,Nat.lt_succ_of_lt h.2⟩)
    · exact .inr (.inr ⟨h.1,Nat.lt_succ_of_lt h.2⟩),o.un,Nat.le_succ_of_le o.len⟩
theorem TOk.step {n one:Nat}{T:List Tie}(o:TOk n one one T)(h:one < n)(hn:n≤30):TOk n (one + 1) 0 T :=
  ⟨o.ne,o.lt,o.wt,fun t ht=>by
    rcases o.be t ht with h|h|h
    · exact .inl ⟨Nat.lt_succ_of_lt h.1,Nat.lt_succ_of_lt h.2⟩
    · exact .inl ⟨Nat.lt_succ_of_le (Nat.le_of_eq h.1),Nat.lt_succ_of_lt h.2⟩
    · exact .inl ⟨Nat.lt_succ_of_lt h.2,Nat.lt_succ_of_le (Nat.le_of_eq h.1)⟩,o.un,Nat.le_trans o.len (Nat.add_le_add_left (Nat.le_trans (Nat.le_of_lt h) hn) _)⟩
theorem oi {α : Type}{x y : α}{l:List α}{k:Nat}(h:y∈l.take k++[x]++l.drop k):y=x∨y∈l:=by
  simp only [List.append_assoc,List.mem_append,List.mem_singleton] at h
  rcases h with h|h|h
  · exact .inr (List.mem_of_mem_take h)
  · exact .inl h
  · exact .inr (List.mem_of_mem_drop h)
theorem Ge {α : Type}{R : α → α → Prop}(sym:∀ a b,R a b→R b a){x : α}{l:List α}(k:Nat)(h:l.Pairwise R)(hx:∀ y∈l,R x y):(l.take k++[x]++l.drop k).Pairwise R:=by
  have hl:(l.take k++l.drop k).Pairwise R:=by rw [List.take_append_drop];exact h
  rw [List.pairwise_append] at hl
  obtain⟨h1,h2,h3⟩:=hl
  rw [List.append_assoc,List.pairwise_append]
  refine⟨h1,?_,fun a ha b hb => ?_⟩
  · rw [List.singleton_append,List.pairwise_cons]
    exact⟨fun y hy=>hx y (List.mem_of_mem_drop hy),h2⟩
  · rcases List.mem_append.mp hb with hb|hb
    · simp at hb;subst hb;exact sym _ _ (hx a (List.mem_of_mem_take ha))
    · exact h3 a ha b hb
theorem DM (T:List Tie)(x:Tie)(k i:Nat):bO (T.take k++[x]++T.drop k) i=bO T i + wOf i x:=by
  have:bO T i=bO (T.take k) i + bO (T.drop k) i:=by
    unfold bO
    rw [← List.sum_append,← List.map_append,List.take_append_drop]
  rw [this]
  simp only [bO,List.map_append,List.sum_append,List.map_cons,List.map_nil,List.sum_cons,List.sum_nil]
  omega
theorem TOk.put {n one other:Nat}{T:List Tie}(o:TOk n one other T)(h1:one < n)(h2:other < one){w:Int}(w1:1≤w)(w2:w≤400){t:Tie}(ht:t=⟨one,other,w⟩ ∨t=⟨other,one,w⟩)(k:Nat):TOk n one (other + 1) (T.take k++[t]++T.drop k) where
  ne:=fun s hs=>by
    rcases oi hs with rfl|hs
    · rcases ht with e|e<;>subst e
      · exact Nat.ne_of_gt h2
      · exact Nat.ne_of_lt h2
    · exact o.ne s hs
  lt:=fun s hs=>by
    rcases oi hs with rfl|hs
    · rcases ht with e|e<;>subst e
      · exact⟨h1,Nat.lt_trans h2 h1⟩
      · exact⟨Nat.lt_trans h2 h1,h1⟩
    · exact o.lt s hs
  wt:=fun s hs=>by
    rcases oi hs with rfl|hs
    · rcases ht with e|e<;>subst e<;>exact⟨w1,w2⟩
    · exact o.wt s hs
  be:=fun s hs=>by
    rcases oi hs with rfl|hs
    · rcases ht with e|e<;>subst e
      · exact .inr (.inl ⟨rfl,Nat.lt_succ_self _⟩)
      · exact .inr (.inr ⟨rfl,Nat.lt_succ_self _⟩)
    · exact o.skip.be s hs
  un:=Ge (fun _ _=>f7.symm) k o.un fun s hs=>by
    have hb:=o.be s hs
    rcases ht with e|e<;>subst e<;>rcases hb with hb|hb|hb
    · exact⟨fun z=>Nat.ne_of_gt hb.1 z.1,fun z=>Nat.ne_of_gt hb.2 z.1⟩
    · exact⟨fun z=>Nat.ne_of_gt hb.2 z.2,fun z=>Nat.ne_of_gt (Nat.lt_trans hb.2 h2) z.1⟩
    · exact⟨fun z=>Nat.ne_of_gt (Nat.lt_trans hb.2 h2) z.1,fun z=>Nat.ne_of_gt hb.2 z.2⟩
    · exact⟨fun z=>Nat.ne_of_gt hb.2 z.2,fun z=>Nat.ne_of_gt hb.1 z.2⟩
    · exact⟨fun z=>Nat.ne_of_gt (Nat.lt_trans hb.2 h2) z.2,fun z=>Nat.ne_of_gt hb.2 z.1⟩
    · exact⟨fun z=>Nat.ne_of_gt hb.2 z.1,fun z=>Nat.ne_of_gt (Nat.lt_trans hb.2 h2) z.2⟩
  len:=by
    have e:(T.take k).length + (T.drop k).length=T.length:=by rw [← List.length_append,List.take_append_drop]
    rw [List.length_append,List.length_append,List.length_singleton,Nat.add_right_comm,e]
    exact Nat.succ_le_succ o.len
end Fm
set_option linter.all false
namespace Fm
def A0 (p:Int × Int):D:=.tup [.int p.1,.int p.2]
theorem DN {n one i:Nat}(h1:one < n)(h2:i < one){T:List Tie}{tt:Tie}{w:Int}(ht:tt=⟨one,i,w⟩ ∨tt=⟨i,one,w⟩)(k:Nat) :
    (List.range n).map (bO (T.take k++[tt]++T.drop k))=(((List.range n).map (bO T)).set one (bO T one + w)).set i (bO T i + w):=by
  apply List.ext_getElem?
  intro j
  have wj:wOf j tt=if j=one∨j=i then w else 0:=by
    rcases ht with e|e<;>subst e<;>simp only [wOf]
    · by_cases a:one=j<;>by_cases b:i=j<;>simp [a,b,eq_comm]<;>omega
    · by_cases a:one=j<;>by_cases b:i=j<;>simp [a,b,eq_comm]<;>omega
  by_cases hj:j < n
  · rw [List.getElem?_map,List.getElem?_range hj,Option.map_some,DM,wj]
    by_cases e1:i=j
    · subst e1
      rw [List.getElem?_set_self (by simp;omega)]
      simp
    · rw [List.getElem?_set_ne e1]
      by_cases e2:one=j
      · subst e2
        rw [List.getElem?_set_self (by simp;omega)]
        simp
      · rw [List.getElem?_set_ne e2,List.getElem?_map,List.getElem?_range hj]
        have : ¬ (j=one∨j=i):=by omega
        simp [this]
  · rw [List.getElem?_eq_none (by simp;omega),List.getElem?_eq_none (by simp;omega)]
structure PH (n i:Nat) (T:List Tie) (bs:List (Int × Int)) (ss:List (Option Int)) (h:Hd):Prop where
  ti:h[1]? = some (.lst (T.map ay))
  ba:h[2]? = some (.lst (bs.map A0))
  st:h[3]? = some (.lst (ss.map bf))
  to:h[4]? = some (.lst (((List.range n).map (bO T)).map .int))
  len:h.length=5 + i
  lb:bs.length=i
  ls:ss.length=i
  os:∀ x∈ss,x=none∨x=some 0∨x=some 1
  bb:∀ p∈bs,0≤p.2∧p.2 < 200
theorem ne5 {j:Nat}(k:Nat)(h:j < 5):5 + k≠j:=by omega
theorem PH.keep {n i k:Nat}{T:List Tie}{bs:List (Int × Int)}{ss:List (Option Int)}{g:Hd}(P:PH n i T bs ss g)(cc:bn):PH n i T bs ss (g.set (5 + k) cc) :=
  ⟨(List.getElem?_set_ne (ne5 k (by decide))).trans P.ti,(List.getElem?_set_ne (ne5 k (by decide))).trans P.ba,(List.getElem?_set_ne (ne5 k (by decide))).trans P.st,(List.getElem?_set_ne (ne5 k (by decide))).trans P.to,by rw [List.length_set];exact P.len,P.lb,P.ls,P.os,P.bb⟩
theorem c5 {h:Hd}{n:Nat}{c t m:Int}{b:Bool}(hn:h[n]? = some (.lst [.int c,.int t,.bl b]))(hm:0 < m)(hm2:m≤100000) :
    ∃ v c' t',aE [.ref n,.int m] h=.ok (.int v) (h.set n (.lst [.int c',.int t',.bl b]))∧0≤v∧v < m:=Gc hn hm (Int.lt_of_le_of_lt hm2 (by decide))
theorem eF {g:Hd}{k:Nat}{c:bn}(cc:bn)(h:g[k]? = some c):(g.set k cc)[k]? = some cc:=List.getElem?_set_self (List.getElem?_eq_some_iff.mp h).1
theorem CP {j n:Nat}(h:j < n):ixN n (j:Int)=some j:=by simp [ixN,h]
noncomputable abbrev XP (lit:D) (hd:Option D) (n thin one:Nat) (a b:Option D):Sd:=[some lit,hd,some (.int n),some (.int thin),some (.ref 1),some (.ref 2),some (.ref 3),some (.ref 4),some (.int one),some (.ref (5 + one)),a,b]
abbrev SC (c t:Int) (b:Bool):bn:=.lst [.int c,.int t,.bl b]
inductive PI (lit:D) (hd:Option D) (n thin one:Nat) (bs:List (Int × Int)) (ss:List (Option Int)) (m:Bool):Nat→Sd→Hd→Prop
  | mk {i:Nat} {h:Hd} {T:List Tie} {a b:Option D} {c t:Int} (P:PH n (one + 1) T bs ss h) (O:TOk n one i T) (hs:h[5 + one]? = some (SC c t m)):PI lit hd n thin one bs ss m i (XP lit hd n thin one a b) h
theorem Mv {w v mo:Int}(hw:w=1 + v)(h0:0≤v)(h1:v < mo)(h2:mo≤400):1≤w∧w≤400:=by omega
theorem few {l one n i:Nat}(h:l≤30 * one + i)(h1:one < n)(hn:n≤30)(hi:i < one):l < 1000:=by omega
theorem Mw {l:Nat}(h:l < 1000):(l:Int) + 1≤100000:=by omega
theorem A5 {n one i thin:Nat}{lit:D}(h1:one < n)(hn:n≤30)(hi:i < one){T:List Tie}{bs:List (Int × Int)}{ss:List (Option Int)}{h0:Hd}{hd b:Option D}{c c1 t t1:Int}{m:Bool}(P:PH n (one + 1) T bs ss h0)(O:TOk n one i T)(hs:h0[5 + one]? = some (SC c t m))
    (d1:aE [.ref (5 + one),.int thin] h0=.ok (.int 0) (h0.set (5 + one) (SC c1 t1 m))) :
    ∃ σ' h',gp (XP lit hd n thin one (some (.int i)) b) h0=.nx σ' h'∧PI lit hd n thin one bs ss m (i + 1) σ' h':=by
  have g1:=eF (SC c1 t1 m) hs
  obtain⟨v2,c2,t2,d2,v20,v21⟩:=c5 (m:=2) g1 (by decide) (by decide)
  rw [List.set_set] at d2
  have g2:=eF (SC c2 t2 m) hs
  obtain⟨mo,hmo,pm⟩:=ui D.int [3,400] v20 v21
  have pm:atI [D.int 3,.int 400] v2=some (.int mo):=pm
  have mo1:0 < mo∧mo≤400:=by
    rcases List.mem_cons.mp hmo with rfl|hmo
    · decide
    · rw [List.mem_singleton.mp hmo];decide
  obtain⟨v3,c3,t3,d3,v30,v31⟩:=c5 (m:=mo) g2 mo1.1 (Int.le_trans mo1.2 (by decide))
  rw [List.set_set] at d3
  have g3:=eF (SC c3 t3 m) hs
  obtain⟨w,hw⟩ : ∃ w,w=1 + v3:=⟨_,rfl⟩
  have w12:1≤w∧w≤400:=Mv hw v30 v31 mo1.2
  have lT:T.length < 1000:=few O.len h1 hn hi
  obtain⟨v4,c4,t4,d4,v40,v41⟩:=c5 (m:=((T.map ay).length:Int) + 1) g3 (Int.lt_add_one_of_le (Int.natCast_nonneg _)) (Mw (by rw [List.length_map];exact lT))
  rw [List.set_set] at d4
  obtain⟨h4,hh4⟩ : ∃ h4,h4=h0.set (5 + one) (SC c4 t4 m):=⟨_,rfl⟩
  have P4:=P.keep (k:=one) (SC c4 t4 m)
  have g4:=eF (SC c4 t4 m) hs
  rw [← hh4] at d4 P4 g4
  obtain⟨tt,htt,pt⟩ : ∃ tt:Tie,(tt=⟨one,i,w⟩ ∨tt=⟨i,one,w⟩)∧atI [D.tup [.int one,.int i,.int w],.tup [.int i,.int one,.int w]] (w % 2)=some (ay tt):=by
    obtain⟨tt,h1,h2⟩:=ui ay [⟨one,i,w⟩,⟨i,one,w⟩] (x:=w % 2) (Int.emod_nonneg _ (by decide)) (Int.emod_lt_of_pos w (by decide))
    exact⟨tt,(List.mem_cons.mp h1).imp id List.mem_singleton.mp,h2⟩
  obtain⟨T2,hT2⟩ : ∃ T2,T2=T.take v4.toNat++[tt]++T.drop v4.toNat:=⟨_,rfl⟩
  have O2:TOk n one (i + 1) T2:=by rw [hT2];exact O.put h1 hi w12.1 w12.2 htt _
  have s1:aF (gN 11) (aj cb (fC (.int 1)) (am aE (ab (aa 9) (ab (fIx (ab (fC (.int 3)) (ab (fC (.int 400)) ak)) (am aE (ab (aa 9) (ab (fC (.int 2)) ak)))) ak)))) (XP lit hd n thin one (some (.int i)) b) (h0.set (5 + one) (SC c1 t1 m))
      = .nx (XP lit hd n thin one (some (.int i)) (some (.int w))) (h0.set (5 + one) (SC c3 t3 m)) :=
    hw ▸ aL (ar rfl (aw (ae rfl (ae (yA (ae rfl (ae rfl rfl)) (aw (ae rfl (ae rfl rfl)) d2) pm) rfl)) d3) rfl)
  have t5:h4[4]? = some (.lst (((List.range n).map (bO T)).map .int)):=P4.to
  have s2:fm (Dt (aa 4) (am aE (ab (aa 9) (ab (aj cb (cx (lOf (aa 4))) (fC (.int 1))) ak))) (fIx (ab (fH (ab (aa 8) (ab (aa 10) (ab (aa 11) ak)))) (ab (fH (ab (aa 10) (ab (aa 8) (ab (aa 11) ak)))) ak)) (aj fG (aa 11) (fC (.int 2))))) (XP lit hd n thin one (some (.int i)) (some (.int w))) (h0.set (5 + one) (SC c3 t3 m))
      = .nx (XP lit hd n thin one (some (.int i)) (some (.int w))) (h4.set 1 (.lst (T2.map ay))):=by
    have P3:=P.keep (k:=one) (SC c3 t3 m)
    rw [hT2,List.map_append,List.map_append,List.map_take,List.map_drop]
    exact fD (Ku rfl P3.ti (aw (ae rfl (ae (ar (dY (bZ rfl (aU P3.ti))) rfl rfl) rfl)) d4) (yA (ae (ki (ae rfl (ae rfl (ae rfl rfl))) (by exact of_decide_eq_true rfl)) (ae (ki (ae rfl (ae rfl (ae rfl rfl))) (by exact of_decide_eq_true rfl)) rfl)) (ar rfl rfl (iq (by decide))) pt) P4.ti ⟨v40,Int.le_of_lt_add_one v41,by rw [List.length_map];exact Nat.lt_trans lT (by decide)⟩)
  have t5:(h4.set 1 (.lst (T2.map ay)))[4]? = some (.lst (((List.range n).map (bO T)).map .int)):=(List.getElem?_set_ne (by decide)).trans P4.to
  have ln:((List.range n).map (bO T)).length=n:=by rw [List.length_map,List.length_range]
  have s3:oG (aa 7) (aa 8) (aj cb (fAt (aa 7) (aa 8)) (aa 11)) (XP lit hd n thin one (some (.int i)) (some (.int w))) (h4.set 1 (.lst (T2.map ay)))
      = .nx (XP lit hd n thin one (some (.int i)) (some (.int w))) ((h4.set 1 (.lst (T2.map ay))).set 4 (.lst ((((List.range n).map (bO T)).set one (bO T one + w)).map .int))):=by
    rw [List.map_set]
    exact vx (ar (bj rfl rfl (aU t5) (c9 (by rw [List.getElem?_map,List.getElem?_map,List.getElem?_range h1];rfl))) rfl rfl) rfl rfl t5 (CP (by rw [List.length_map,ln];exact h1))
  have t6:=eF (.lst ((((List.range n).map (bO T)).set one (bO T one + w)).map .int)) t5
  have s4:oG (aa 7) (aa 10) (aj cb (fAt (aa 7) (aa 10)) (aa 11)) (XP lit hd n thin one (some (.int i)) (some (.int w))) ((h4.set 1 (.lst (T2.map ay))).set 4 (.lst ((((List.range n).map (bO T)).set one (bO T one + w)).map .int)))
      = .nx (XP lit hd n thin one (some (.int i)) (some (.int w))) ((h4.set 1 (.lst (T2.map ay))).set 4 (.lst (((List.range n).map (bO T2)).map .int))):=by
    refine (vx (ar (bj rfl rfl (aU t6) (c9 (by rw [List.getElem?_map,List.getElem?_set_ne (Nat.ne_of_gt hi),List.getElem?_map,List.getElem?_range (Nat.lt_trans hi h1)];rfl))) rfl rfl) rfl rfl t6 (CP (by rw [List.length_map,List.length_set,ln];exact Nat.lt_trans hi h1))).trans ?_
    rw [List.set_set,hT2,DN h1 hi htt,List.map_set,List.map_set,List.map_set]
  have ne:∀ {k:Nat},1≠k→4≠k→((h4.set 1 (.lst (T2.map ay))).set 4 (.lst (((List.range n).map (bO T2)).map .int)))[k]? = h4[k]? := fun a b=>(List.getElem?_set_ne b).trans (List.getElem?_set_ne a)
  exact⟨_,_,(DL (bg (ar (aw (ae rfl (ae rfl rfl)) d1) rfl rfl))).trans ((az s1).trans ((az s2).trans ((az s3).trans s4))),.mk ⟨(List.getElem?_set_ne (by decide)).trans (eF _ P4.ti),(ne (by decide) (by decide)).trans P4.ba,(ne (by decide) (by decide)).trans P4.st,eF _ t5,by rw [List.length_set,List.length_set];exact P4.len,P.lb,P.ls,P.os,P.bb⟩ O2 ((ne (ne5 one (by decide)).symm (ne5 one (by decide)).symm).trans g4)⟩
theorem vA {n one thin:Nat}{lit:D}(h1:one < n)(hn:n≤30)(ht:1≤thin∧thin≤5){T:List Tie}{bs:List (Int × Int)}{ss:List (Option Int)}{h:Hd}{hd a b:Option D}{c t:Int}{m:Bool}(P:PH n (one + 1) T bs ss h)(O:TOk n one 0 T)(hs:h[5 + one]? = some (SC c t m)) :
    ∃ σ' h',fI none ((List.range one).map fun k:Nat=>D.int k) (gN 10) gp ((List.range one).map fun k:Nat=>D.int k) (XP lit hd n thin one a b) h=.nx σ' h'∧PI lit hd n thin one bs ss m one σ' h':=by
  have z:=d7 (P:=PI lit hd n thin one bs ss m)
    (g:=none) (k:=0) (all:=(List.range one).map fun k:Nat=>D.int k) (fun _ _ _ _=>trivial) (xs:=(List.range one).map fun k:Nat=>D.int k) (tg:=gN 10) (b:=gp)
    (σ:=XP lit hd n thin one a b) (h:=h) (by
      intro i x σ h0 hx z
      obtain⟨hi,rfl⟩:=gS hx
      rw [Nat.zero_add] at z ⊢
      obtain⟨P,O,hs⟩:=z
      refine⟨_,rfl,?_⟩
      obtain⟨v1,c1,t1,d1,-,-⟩:=c5 (m:=thin) hs (Int.natCast_pos.mpr ht.1) (Int.le_trans (Int.ofNat_le.mpr ht.2) (by decide))
      by_cases e:v1=0
      · rw [e] at d1
        exact A5 h1 hn hi P O hs d1
      · exact⟨_,_,eC (bg (ar (aw (ae rfl (ae rfl rfl)) d1) rfl (AY e))),.mk (P.keep _) O.skip (eF _ hs)⟩) (.mk P O hs)
  rwa [Nat.zero_add,List.length_map,List.length_range] at z
end Fm
set_option linter.all false
namespace Fm
noncomputable abbrev XQ (lit:D) (hd:Option D) (n thin:Nat) (a b c d:Option D):Sd:=[some lit,hd,some (.int n),some (.int thin),some (.ref 1),some (.ref 2),some (.ref 3),some (.ref 4),a,b,c,d]
theorem Ib {u:Option Int}(h:u∈[none,none,none,some 0,some 1]):u=none∨u=some 0∨u=some 1:=by
  simp at h;exact h
inductive PO (ns:List Int) (hd:Option D) (n thin:Nat):Nat→Sd→Hd→Prop
  | mk {i:Nat} {h:Hd} {a b c d:Option D} {T:List Tie} {bs:List (Int × Int)} {ss:List (Option Int)} (P:PH n i T bs ss h) (O:TOk n i 0 T):PO ns hd n thin i (XQ (.lit (ns.map .int)) hd n thin a b c d) h
theorem yE {n i thin:Nat}{ns:List Int}{hd b c d:Option D}(hi:i < n)(hn:n≤30)(ht:1≤thin∧thin≤5){T:List Tie}{bs:List (Int × Int)}{ss:List (Option Int)}{h0:Hd}(P:PH n i T bs ss h0)(O:TOk n i 0 T) :
    ∃ σ' h',fv (XQ (.lit (ns.map .int)) hd n thin (some (.int i)) b c d) h0=.nx σ' h'∧PO ns hd n thin (i + 1) σ' h':=by
  obtain⟨c0,m,q0⟩:=yC ns (1 + i) h0
  rw [P.len] at q0
  obtain⟨h1,hh1⟩ : ∃ h1,h1=h0++[SC c0 0 m]:=⟨_,rfl⟩
  have g1:h1[5 + i]? = some (SC c0 0 m):=by rw [hh1,← P.len];exact List.getElem?_concat_length
  have L1:h1.length=5 + i + 1:=by rw [hh1,List.length_append,P.len];rfl
  have old:∀ {j:Nat} {cc:bn},h0[j]? = some cc→h1[j]? = some cc:=fun e=>by rw [hh1];exact aA _ e
  have s1:aF (gN 9) (am cN (ab (aa 0) (ab (aj cb (fC (.int 1)) (aa 8)) ak))) (XQ (.lit (ns.map .int)) hd n thin (some (.int i)) b c d) h0
      = .nx (XQ (.lit (ns.map .int)) hd n thin (some (.int i)) (some (.ref (5 + i))) c d) h1:=by
    rw [hh1];exact aL (aw (ae rfl (ae rfl rfl)) q0)
  obtain⟨v1,c1,t1,d1,v10,v11⟩:=c5 (m:=5) g1 (by decide) (by decide)
  obtain⟨u,hu,pu⟩:=ui bf [none,none,none,some 0,some 1] v10 v11
  have pu:atI [D.non,.non,.non,.int 0,.int 1] v1=some (bf u):=pu
  have lss:(ss.map bf).length < SZ:=by rw [List.length_map,P.ls];exact Nat.lt_trans hi (Nat.lt_of_le_of_lt hn (by decide))
  have lbs:(bs.map A0).length < SZ:=by rw [List.length_map,P.lb];exact Nat.lt_trans hi (Nat.lt_of_le_of_lt hn (by decide))
  have a2:(h1.set (5 + i) (SC c1 t1 m))[3]? = some (.lst (ss.map bf)):=(List.getElem?_set_ne (ne5 i (by decide))).trans (old P.st)
  obtain⟨h2,hh2⟩ : ∃ h2,h2=(h1.set (5 + i) (SC c1 t1 m)).set 3 (.lst (ss.map bf++[bf u])):=⟨_,rfl⟩
  have s2:fm (kB (aa 6) (fIx (ab (fC .non) (ab (fC .non) (ab (fC .non) (ab (fC (.int 0)) (ab (fC (.int 1)) ak))))) (am aE (ab (aa 9) (ab (fC (.int 5)) ak))))) (XQ (.lit (ns.map .int)) hd n thin (some (.int i)) (some (.ref (5 + i))) c d) h1
      = .nx (XQ (.lit (ns.map .int)) hd n thin (some (.int i)) (some (.ref (5 + i))) c d) h2:=by
    rw [hh2];exact fD (mH rfl (old P.st) (yA (ae rfl (ae rfl (ae rfl (ae rfl (ae rfl rfl))))) (aw (ae rfl (ae rfl rfl)) d1) pu) a2 lss)
  have g2:h2[5 + i]? = some (SC c1 t1 m):=by rw [hh2];exact (List.getElem?_set_ne (ne5 i (by decide)).symm).trans (eF _ g1)
  obtain⟨v2,c2,t2,d2,v20,v21⟩:=c5 (m:=5) g2 (by decide) (by decide)
  obtain⟨v3,c3,t3,d3,v30,v31⟩:=c5 (m:=200) (eF (SC c2 t2 m) g2) (by decide) (by decide)
  rw [List.set_set] at d3
  have ne2:∀ {j:Nat} {cc:bn},j < 5→3≠j→h1[j]? = some cc→h2[j]? = some cc:=fun a b e=>by rw [hh2];exact (List.getElem?_set_ne b).trans ((List.getElem?_set_ne (ne5 i a)).trans e)
  have a3:(h2.set (5 + i) (SC c3 t3 m))[2]? = some (.lst (bs.map A0)):=(List.getElem?_set_ne (ne5 i (by decide))).trans (ne2 (by decide) (by decide) (old P.ba))
  obtain⟨h4,hh4⟩ : ∃ h4,h4=(h2.set (5 + i) (SC c3 t3 m)).set 2 (.lst (bs.map A0++[A0 (v2,v3)])):=⟨_,rfl⟩
  have s3:fm (kB (aa 5) (fH (ab (am aE (ab (aa 9) (ab (fC (.int 5)) ak))) (ab (am aE (ab (aa 9) (ab (fC (.int 200)) ak))) ak)))) (XQ (.lit (ns.map .int)) hd n thin (some (.int i)) (some (.ref (5 + i))) c d) h2
      = .nx (XQ (.lit (ns.map .int)) hd n thin (some (.int i)) (some (.ref (5 + i))) c d) h4:=by
    rw [hh4];exact fD (mH rfl (ne2 (by decide) (by decide) (old P.ba)) (ki (ae (aw (ae rfl (ae rfl rfl)) d2) (ae (aw (ae rfl (ae rfl rfl)) d3) rfl)) (by exact of_decide_eq_true rfl)) a3 lbs)
  have ne4:∀ {j:Nat} {cc:bn},j < 5→2≠j→h2[j]? = some cc→h4[j]? = some cc:=fun a b e=>by rw [hh4];exact (List.getElem?_set_ne b).trans ((List.getElem?_set_ne (ne5 i a)).trans e)
  have P4:PH n (i + 1) T (bs++[(v2,v3)]) (ss++[u]) h4:=by
    refine⟨ne4 (by decide) (by decide) (ne2 (by decide) (by decide) (old P.ti)),?_,?_,ne4 (by decide) (by decide) (ne2 (by decide) (by decide) (old P.to)),?_,by rw [List.length_append,P.lb];rfl,by rw [List.length_append,P.ls];rfl,fun y hy => ?_,fun y hy => ?_⟩
    · rw [hh4,List.map_append];exact eF _ a3
    · refine ne4 (by decide) (by decide) ?_
      rw [hh2,List.map_append];exact eF _ a2
    · rw [hh4,List.length_set,List.length_set,hh2,List.length_set,List.length_set,L1];rfl
    · rcases List.mem_append.mp hy with hy|hy
      · exact P.os y hy
      · rw [List.mem_singleton.mp hy]
        exact Ib hu
    · rcases List.mem_append.mp hy with hy|hy
      · exact P.bb y hy
      · rw [List.mem_singleton.mp hy]
        exact⟨v30,v31⟩
  have g4:h4[5 + i]? = some (SC c3 t3 m):=by rw [hh4];exact (List.getElem?_set_ne (ne5 i (by decide)).symm).trans (eF _ g2)
  obtain⟨_,h5,q1,⟨q2,q3,-⟩⟩:=vA (lit:=.lit (ns.map .int)) (hd:=hd) (a:=c) (b:=d) hi hn ht P4 O g4
  exact⟨_,h5,(az s1).trans ((az s2).trans ((az s3).trans (kj (kP rfl (Nat.le_trans (Nat.le_of_lt hi) (Nat.le_trans hn (by decide)))) q1))),.mk q2 (q3.step hi hn)⟩
theorem vB {n thin:Nat}{ns:List Int}{hd:Option D}(hn:n≤30)(ht:1≤thin∧thin≤5){h:Hd}(P:PH n 0 [] [] [] h) :
    ∃ σ' h',fI none ((List.range n).map fun k:Nat=>D.int k) (gN 8) fv ((List.range n).map fun k:Nat=>D.int k)
      (XQ (.lit (ns.map .int)) hd n thin none none none none) h=.nx σ' h'∧PO ns hd n thin n σ' h':=by
  have z:=d7 (P:=PO ns hd n thin)
    (g:=none) (k:=0) (all:=(List.range n).map fun k:Nat=>D.int k) (fun _ _ _ _=>trivial) (xs:=(List.range n).map fun k:Nat=>D.int k) (tg:=gN 8) (b:=fv)
    (σ:=XQ (.lit (ns.map .int)) hd n thin none none none none) (h:=h) (by
      intro i x σ h0 hx z
      obtain⟨hi,rfl⟩:=gS hx
      rw [Nat.zero_add] at z ⊢
      obtain⟨P,O⟩:=z
      exact⟨_,rfl,yE hi hn ht P O⟩) (.mk P ⟨by simp,by simp,by simp,by simp,.nil,by simp⟩)
  rwa [Nat.zero_add,List.length_map,List.length_range] at z
theorem Mx {v mo:Int}(h0:0≤v)(h1:v < mo)(h2:mo≤30):∃ n:Nat,(n:Int)=1 + v∧1≤n∧n≤30:=⟨(1 + v).toNat,by omega⟩
theorem IM (n:Nat):(List.replicate n [D.int 0]).flatten=((List.range n).map (bO [])).map D.int:=by
  have l1:(List.replicate n [D.int 0]).flatten=List.replicate n (D.int 0):=by
    induction n with
    | zero=>rfl
    | succ n ih=>rw [List.replicate_succ,List.replicate_succ,List.flatten_cons,ih];rfl
  rw [l1]
  apply List.ext_getElem?
  intro i
  by_cases hi:i < n<;>simp [hi,bO]
theorem yF (i:Nat):∀ l:List Tie,(∀ t∈l,1≤t.w∧t.w≤400)→0≤bO l i
  | [],_=>Int.le_refl _
  | t :: l,hl=>by
    have h2:=yF i l fun s hs=>hl s (List.mem_cons_of_mem _ hs)
    refine Int.add_nonneg ?_ h2
    unfold wOf
    split
    · exact Int.le_trans (by decide) (hl t List.mem_cons_self).1
    · exact Int.le_refl _
theorem yG (i:Nat):∀ l:List Tie,(∀ t∈l,1≤t.w∧t.w≤400)→bO l i≤400 * l.length
  | [],_=>Int.le_refl _
  | t :: l,hl=>by
    have h2:=yG i l fun s hs=>hl s (List.mem_cons_of_mem _ hs)
    have h1:=hl t List.mem_cons_self
    have h3:wOf i t≤400:=by
      unfold wOf
      split
      · exact h1.2
      · decide
    have e:bO (t :: l) i=wOf i t + bO l i:=rfl
    rw [e,List.length_cons]
    omega
theorem CQ {P:Int→Prop}:∀ ds:List D,(∀ d∈ds,∃ v:Int,d=.int v∧P v) → ∃ bs:List Int,ds=bs.map D.int ∧ ∀ b∈bs,P b
  | [],_=>⟨[],rfl,by simp⟩
  | d :: ds,h=>by
    obtain⟨v,hv,pv⟩:=h d List.mem_cons_self
    obtain⟨bs,hb,pb⟩:=CQ ds fun x hx=>h x (List.mem_cons_of_mem _ hx)
    exact⟨v :: bs,by rw [hv,hb];rfl,fun x hx=>by
      rcases List.mem_cons.mp hx with e|e
      · rw [e];exact pv
      · exact pb x e⟩
structure KD (ns:List Int) (n:Nat) (T:List Tie) (bs:List Int) (ss:List (Option Int)) (h:Hd):Prop where
  run:eO [.lit (ns.map .int)] []=.ok (.tup [.int n,.ref 1,.ref (5 + n),.ref 3,.ref 4]) h
  n1:1≤n
  n30:n≤30
  ok:TOk n n 0 T
  ti:h[1]? = some (.lst (T.map ay))
  ba:h[5 + n]? = some (.lst (bs.map .int))
  st:h[3]? = some (.lst (ss.map bf))
  to:h[4]? = some (.lst (((List.range n).map (bO T)).map .int))
  len:h.length=6 + n
  lb:bs.length=n
  ls:ss.length=n
  os:∀ x∈ss,x=none∨x=some 0∨x=some 1
  bb:∀ b∈bs,b.natAbs < 10 ^ 60
theorem DO (ns:List Int):∃ n T bs ss h,KD ns n T bs ss h:=by
  obtain⟨c0,m,q0⟩:=yC ns 0 []
  have q0:cN [.lit (ns.map .int),.int 0] []=.ok (.ref 0) [.lst [.int c0,.int 0,.bl m]]:=q0
  obtain⟨v1,c1,t1,d1,-,-⟩:=c5 (h:=[SC c0 0 m]) (n:=0) (m:=2) rfl (by decide) (by decide)
  obtain⟨v2,c2,t2,d2,v20,v21⟩:=c5 (h:=[SC c1 t1 m]) (n:=0) (m:=3) rfl (by decide) (by decide)
  obtain⟨mo,hmo,pm⟩:=ui D.int [6,12,30] v20 v21
  have pm:atI [D.int 6,.int 12,.int 30] v2=some (.int mo):=pm
  have mo1:0 < mo∧mo≤30:=by simp at hmo;rcases hmo with rfl|rfl|rfl<;>decide
  obtain⟨v3,c3,t3,d3,v30,v31⟩:=c5 (h:=[SC c2 t2 m]) (n:=0) (m:=mo) rfl mo1.1 (Int.le_trans mo1.2 (by decide))
  obtain⟨v4,c4,t4,d4,v40,v41⟩:=c5 (h:=[SC c3 t3 m]) (n:=0) (m:=3) rfl (by decide) (by decide)
  obtain⟨th,hth,pth⟩:=ui D.int [1,2,5] v40 v41
  have pth:atI [D.int 1,.int 2,.int 5] v4=some (.int th):=pth
  obtain⟨thin,hthin,th1⟩ : ∃ thin:Nat,(thin:Int)=th∧1≤thin∧thin≤5:=by
    simp at hth
    rcases hth with rfl|rfl|rfl
    · exact⟨1,rfl,by decide⟩
    · exact⟨2,rfl,by decide⟩
    · exact⟨5,rfl,by decide⟩
  obtain⟨n,hn,n1,n30⟩:=Mx v30 v31 mo1.2
  obtain⟨h8,hh8⟩ : ∃ h8:Hd,h8=[.lst [.int c4,.int t4,.bl m],.lst [],.lst [],.lst [],.lst (((List.range n).map (bO [])).map .int)]:=⟨_,rfl⟩
  have P0:PH n 0 [] [] [] h8:=⟨by rw [hh8];rfl,by rw [hh8];rfl,by rw [hh8];rfl,by rw [hh8];rfl,by rw [hh8];rfl,rfl,rfl,by simp,by simp⟩
  obtain⟨_,h9,k9,@⟨_,a,b,c,d,T,bp,ss,P9,O9⟩⟩:=vB (ns:=ns) (hd:=some (.ref 0)) n30 th1 P0
  have tn:∀ i,0≤bO T i:=fun i=>yF i T O9.wt
  obtain⟨ds,h10,k10,l10,v10,σ10,q10,hh10⟩:=kh (g:=none) (all:=(List.range n).map fun k:Nat=>D.int k) (tg:=gN 0) (xs:=(List.range n).map fun k:Nat=>D.int k) (k:=0)
    (e:=am dS (ab (fAt (fAt (aa 2) (aa 0)) (fC (.int 0))) (ab (fAt (fAt (aa 2) (aa 0)) (fC (.int 1))) (ab (fAt (aa 1) (aa 0)) ak)))) (σ:=[none,some (.ref 4),some (.ref 2)]) (h:=h9)
    (P:=fun i σ h=>(∃ a,σ = [a,some (.ref 4),some (.ref 2)])∧h=h9) (V:=fun i d=>∃ v:Int,d=.int v∧v.natAbs < 10 ^ 60) (fun _ _ _ _=>trivial) (by
      rintro i x σ h0 hx ⟨⟨a,rfl⟩,rfl⟩
      obtain⟨hi,rfl⟩:=gS hx
      have hb:i < bp.length:=by rw [P9.lb];exact hi
      have e1:atI (bp.map A0) (i:Int)=some (A0 bp[i]):=oh hb
      have e2:atI (((List.range n).map (bO T)).map D.int) (i:Int)=some (.int (bO T i)):=c9 (by rw [List.getElem?_map,List.getElem?_map,List.getElem?_range hi];rfl)
      obtain⟨v,hv,vb⟩:=KC bp[i].1 bp[i].2 (bO T i) (tn i) h0
      have bb:=P9.bb bp[i] (List.getElem_mem hb)
      have tl:=yG i T O9.wt
      have ol:=O9.len
      refine⟨_,rfl,.int v,h0,?_,⟨v,rfl,vb bb.1 bb.2 (by omega)⟩,⟨_,rfl⟩,rfl⟩
      exact aw (ae (bj (bj rfl rfl (aU P9.ba) e1) rfl rfl rfl) (ae (bj (bj rfl rfl (aU P9.ba) e1) rfl rfl rfl) (ae (bj rfl rfl (aU P9.to) e2) rfl))) hv) ⟨⟨_,rfl⟩,rfl⟩
  subst hh10
  simp only [List.length_map,List.length_range] at l10
  obtain⟨bs,hbs,pbs⟩:=CQ (P:=fun v=>v.natAbs < 10 ^ 60) ds fun d hd=>by obtain⟨i,hi⟩:=List.getElem?_of_mem hd;exact v10 i d hi
  subst hbs
  simp only [List.length_map] at l10
  have L9:=P9.len
  refine⟨n,T,bs,ss,h10++[.lst (bs.map .int)],?_,n1,n30,O9,?_,?_,?_,?_,by rw [List.length_append,L9];exact Nat.add_right_comm 5 n 1,l10,P9.ls,P9.os,pbs⟩
  · have s1:aF (gN 1) (am cN (ab (aa 0) (ab (fC (.int 0)) ak))) [some (.lit (ns.map .int)),none,none,none,none,none,none,none,none,none,none,none] []=.nx [some (.lit (ns.map .int)),some (.ref 0),none,none,none,none,none,none,none,none,none,none] [.lst [.int c0,.int 0,.bl m]]:=aL (aw (ae rfl (ae rfl rfl)) q0)
    have s2:fm (am aE (ab (aa 1) (ab (fC (.int 2)) ak))) [some (.lit (ns.map .int)),some (.ref 0),none,none,none,none,none,none,none,none,none,none] [.lst [.int c0,.int 0,.bl m]]=.nx [some (.lit (ns.map .int)),some (.ref 0),none,none,none,none,none,none,none,none,none,none] [.lst [.int c1,.int t1,.bl m]]:=fD (aw (ae rfl (ae rfl rfl)) d1)
    have s3:aF (gN 2) (aj cb (fC (.int 1)) (am aE (ab (aa 1) (ab (fIx (ab (fC (.int 6)) (ab (fC (.int 12)) (ab (fC (.int 30)) ak))) (am aE (ab (aa 1) (ab (fC (.int 3)) ak)))) ak)))) [some (.lit (ns.map .int)),some (.ref 0),none,none,none,none,none,none,none,none,none,none] [.lst [.int c1,.int t1,.bl m]]=.nx [some (.lit (ns.map .int)),some (.ref 0),some (.int n),none,none,none,none,none,none,none,none,none] [.lst [.int c3,.int t3,.bl m]]:=by
      rw [hn];exact aL (ar rfl (aw (ae rfl (ae (yA (ae rfl (ae rfl (ae rfl rfl))) (aw (ae rfl (ae rfl rfl)) d2) pm) rfl)) d3) rfl)
    have s4:aF (gN 3) (fIx (ab (fC (.int 1)) (ab (fC (.int 2)) (ab (fC (.int 5)) ak))) (am aE (ab (aa 1) (ab (fC (.int 3)) ak)))) [some (.lit (ns.map .int)),some (.ref 0),some (.int n),none,none,none,none,none,none,none,none,none] [.lst [.int c3,.int t3,.bl m]]=.nx [some (.lit (ns.map .int)),some (.ref 0),some (.int n),some (.int thin),none,none,none,none,none,none,none,none] [.lst [.int c4,.int t4,.bl m]]:=by
      rw [hthin];exact aL (yA (ae rfl (ae rfl (ae rfl rfl))) (aw (ae rfl (ae rfl rfl)) d4) pth)
    have s5:aF (gN 4) (aT ak) [some (.lit (ns.map .int)),some (.ref 0),some (.int n),some (.int thin),none,none,none,none,none,none,none,none] [.lst [.int c4,.int t4,.bl m]]=.nx [some (.lit (ns.map .int)),some (.ref 0),some (.int n),some (.int thin),some (.ref 1),none,none,none,none,none,none,none] [.lst [.int c4,.int t4,.bl m],.lst []]:=rfl
    have s6:aF (gN 5) (aT ak) [some (.lit (ns.map .int)),some (.ref 0),some (.int n),some (.int thin),some (.ref 1),none,none,none,none,none,none,none] [.lst [.int c4,.int t4,.bl m],.lst []]=.nx [some (.lit (ns.map .int)),some (.ref 0),some (.int n),some (.int thin),some (.ref 1),some (.ref 2),none,none,none,none,none,none] [.lst [.int c4,.int t4,.bl m],.lst [],.lst []]:=rfl
    have s7:aF (gN 6) (aT ak) [some (.lit (ns.map .int)),some (.ref 0),some (.int n),some (.int thin),some (.ref 1),some (.ref 2),none,none,none,none,none,none] [.lst [.int c4,.int t4,.bl m],.lst [],.lst []]=.nx [some (.lit (ns.map .int)),some (.ref 0),some (.int n),some (.int thin),some (.ref 1),some (.ref 2),some (.ref 3),none,none,none,none,none] [.lst [.int c4,.int t4,.bl m],.lst [],.lst [],.lst []]:=rfl
    have s8:aF (gN 7) (aT (AN (ab (fC (.int 0)) ak) (aa 2))) [some (.lit (ns.map .int)),some (.ref 0),some (.int n),some (.int thin),some (.ref 1),some (.ref 2),some (.ref 3),none,none,none,none,none] [.lst [.int c4,.int t4,.bl m],.lst [],.lst [],.lst []]=.nx [some (.lit (ns.map .int)),some (.ref 0),some (.int n),some (.int thin),some (.ref 1),some (.ref 2),some (.ref 3),some (.ref 4),none,none,none,none] h8:=by
      rw [hh8,← IM n]
      have rp:AN (ab (fC (.int 0)) ak) (aa 2) (XQ (.lit (ns.map .int)) (some (.ref 0)) n thin none none none none |>.set 7 none) [SC c4 t4 m,.lst [],.lst [],.lst []]=.ok (List.replicate n [D.int 0]).flatten [SC c4 t4 m,.lst [],.lst [],.lst []]:=Kv (l:=[.int 0]) rfl rfl ⟨Int.natCast_nonneg n,Int.le_trans (Int.ofNat_le.mpr n30) (by decide),by rw [Int.toNat_natCast];exact Nat.le_trans (Nat.le_of_eq (Nat.one_mul n)) (Nat.le_trans n30 (by decide))⟩
      exact aL (cq rp (by rw [IM,List.length_map,List.length_map,List.length_range];exact Nat.le_trans n30 (by decide)))
    have s9:fJ (cX (aa 2)) (gN 8) fv [some (.lit (ns.map .int)),some (.ref 0),some (.int n),some (.int thin),some (.ref 1),some (.ref 2),some (.ref 3),some (.ref 4),none,none,none,none] h8=.nx [some (.lit (ns.map .int)),some (.ref 0),some (.int n),some (.int thin),some (.ref 1),some (.ref 2),some (.ref 3),some (.ref 4),a,b,c,d] h10:=kj (kP rfl (Nat.le_trans n30 (by decide))) k9
    have s10:aF (gN 5) (aT (aJ 1 [7,5] (cX (aa 2)) (gN 0) [] (am dS (ab (fAt (fAt (aa 2) (aa 0)) (fC (.int 0))) (ab (fAt (fAt (aa 2) (aa 0)) (fC (.int 1))) (ab (fAt (aa 1) (aa 0)) ak)))))) [some (.lit (ns.map .int)),some (.ref 0),some (.int n),some (.int thin),some (.ref 1),some (.ref 2),some (.ref 3),some (.ref 4),a,b,c,d] h10=.nx [some (.lit (ns.map .int)),some (.ref 0),some (.int n),some (.int thin),some (.ref 1),some (.ref (5 + n)),some (.ref 3),some (.ref 4),a,b,c,d] (h10++[.lst (bs.map .int)]):=by
      rw [← L9]
      exact aL (cq (cU (kP rfl (Nat.le_trans n30 (by decide))) k10) (by rw [List.length_map,l10];exact Nat.le_trans n30 (by decide)))
    have s11:a7 (fH (ab (aa 2) (ab (aa 4) (ab (aa 5) (ab (aa 6) (ab (aa 7) ak)))))) [some (.lit (ns.map .int)),some (.ref 0),some (.int n),some (.int thin),some (.ref 1),some (.ref (5 + n)),some (.ref 3),some (.ref 4),a,b,c,d] (h10++[.lst (bs.map .int)])=.rt (.tup [.int n,.ref 1,.ref (5 + n),.ref 3,.ref 4]) (h10++[.lst (bs.map .int)]):=bV (ki (ae rfl (ae rfl (ae rfl (ae rfl (ae rfl rfl))))) (by exact of_decide_eq_true rfl))
    have st:([D.lit (ns.map .int)].map some++List.replicate (12 - [D.lit (ns.map .int)].length) none:Sd)=[some (.lit (ns.map .int)),none,none,none,none,none,none,none,none,none,none,none]:=rfl
    unfold eO bJ runB
    rw [if_pos (show [D.lit (ns.map .int)].length=1 from rfl),st,az s1,az s2,az s3,az s4,az s5,az s6,az s7,az s8,az s9,az s10,s11]
    simp [letGo,pure?,gj]
  · exact aA _ P9.ti
  · rw [← L9];exact List.getElem?_concat_length
  · exact aA _ P9.st
  · exact aA _ P9.to
end Fm
set_option linter.all false
namespace Fm
theorem eP {α : Type}{f : α → D}:∀ {l:List α},(∀ x∈l,pure? (f x)=true)→gj (l.map f)=true
  | [],_=>rfl
  | x :: l,h=>by
    simp only [List.map_cons,gj,Bool.and_eq_true]
    exact⟨h x (by simp),eP fun y hy=>h y (by simp [hy])⟩
theorem yH (w:Web):pure? w.enc=true:=by
  have h1:∀ r:List (Nat × Int),pure? (cA r)=true:=fun r=>by
    unfold cA
    simp only [pure?]
    exact eP fun p _=>rfl
  have h2:gj (w.ties.map cA)=true:=eP fun r _=>h1 r
  have h3:gj (w.bars.map D.int)=true:=eP fun r _=>rfl
  have h4:gj (w.stays.map bf)=true:=eP fun r _=>by cases r<;>rfl
  unfold Web.enc
  simp only [pure?,gj,h2,h3,h4]
  rfl
def kS (p:Nat × Int):List Int:=[(p.1:Int),p.2]
def mI (x:Nat × Int):List (Nat × Int)→List (Nat × Int)
  | []=>[x]
  | y :: r=>if lexLt (kS x) (kS y)=true then x :: y :: r else y :: mI x r
def bP:List (Nat × Int)→List (Nat × Int)
  | []=>[]
  | x :: r=>mI x (bP r)
theorem yI (x:Nat × Int):∀ r,(mI x r).map kS=u6 (kS x) (r.map kS)
  | []=>rfl
  | y :: r=>by
    simp only [mI,u6,List.map_cons]
    split
    · rfl
    · simp [yI x r]
theorem uj:∀ r,(bP r).map kS=bw (r.map kS)
  | []=>rfl
  | x :: r=>by simp only [bP,bw,List.map_cons,yI,uj r]
theorem pf {x p:Nat × Int}:∀ {r},p∈mI x r ↔ p=x∨p∈r
  | []=>by simp [mI]
  | y :: r=>by
    simp only [mI]
    split
    · simp
    · simp only [List.mem_cons,pf (r:=r)]
      constructor
      · rintro (h|h|h)
        · exact .inr (.inl h)
        · exact .inl h
        · exact .inr (.inr h)
      · rintro (h|h|h)
        · exact .inr (.inl h)
        · exact .inl h
        · exact .inr (.inr h)
theorem dk {p:Nat × Int}:∀ {r},p∈bP r ↔ p∈r
  | []=>by simp [bP]
  | x :: r=>by simp only [bP,pf,dk (r:=r),List.mem_cons]
theorem yJ (f:Nat × Int→Int)(x:Nat × Int):∀ r,((mI x r).map f).sum=f x + (r.map f).sum
  | []=>by simp [mI]
  | y :: r=>by
    simp only [mI]
    split
    · simp
    · simp [yJ f x r];omega
theorem uk (f:Nat × Int→Int):∀ r,((bP r).map f).sum=(r.map f).sum
  | []=>rfl
  | x :: r=>by simp [bP,yJ,uk f r]
def nbs (T:List Tie) (i:Nat):List (Nat × Int):=T.filterMap fun t=>(far i t).map fun j=>(j,t.w)
def nS (p:Nat × Int):Int × D:=((p.1:Int),.int p.2)
theorem Gf (T:List Tie)(t:Tie)(i:Nat):nbs (T++[t]) i=nbs T i++(match far i t with|some j=>[(j,t.w)] | none=>[]):=by
  unfold nbs
  rw [List.filterMap_append]
  congr 1
  cases e:far i t<;>simp [e]
theorem DP {l:List (Nat × Int)}{k:Nat}(h:∀ p∈l,p.1≠k):oU (l.map nS) k=none:=by
  unfold oU
  rw [List.find?_eq_none.mpr]
  · rfl
  · intro x hx
    obtain⟨p,hp,rfl⟩:=List.mem_map.mp hx
    have hne:=h p hp
    have : ¬ ((p.1:Int)=(k:Int)):=fun z=>hne (by omega)
    show ¬ (decide ((p.1:Int)=(k:Int))=true)
    rw [decide_eq_true_eq]
    exact this
theorem yK {l:List (Nat × Int)}{k:Nat}{v:Int}(h:∀ p∈l,p.1≠k):AK (l.map nS) k (.int v)=(l++[(k,v)]).map nS:=by
  unfold AK
  rw [if_neg]
  · simp [nS]
  · simp only [List.any_eq_true,List.mem_map,decide_eq_true_eq]
    rintro⟨x,⟨p,hp,rfl⟩,e⟩
    have hne:=h p hp
    have e:(p.1:Int)=(k:Int):=e
    exact hne (by omega)
theorem pi {i j:Nat}{t:Tie}(h:far i t=some j):(t.a=i∧t.b=j)∨(t.b=i∧t.a=j):=by
  unfold far at h
  by_cases a:t.a=i
  · rw [if_pos a] at h;exact .inl ⟨a,Option.some.inj h⟩
  · rw [if_neg a] at h
    by_cases b:t.b=i
    · rw [if_pos b] at h;exact .inr ⟨b,Option.some.inj h⟩
    · rw [if_neg b] at h;cases h
theorem A6 {T:List Tie}{t:Tie}{i j:Nat}(hf:far i t=some j)(un:∀ s∈T,f7 s t):∀ p∈nbs T i,p.1≠j:=fun p hp e=>by
  obtain⟨s,hs,q⟩:=List.mem_filterMap.mp hp
  obtain⟨k,hk,rfl⟩:=Option.map_eq_some_iff.mp q
  have u:=un s hs
  rw [show k=j from e] at hk
  rcases pi hf with ⟨a1,a2⟩|⟨a1,a2⟩<;>rcases pi hk with ⟨b1,b2⟩|⟨b1,b2⟩
  · exact u.1 ⟨b1.trans a1.symm,b2.trans a2.symm⟩
  · exact u.2 ⟨b2.trans a2.symm,b1.trans a1.symm⟩
  · exact u.2 ⟨b1.trans a1.symm,b2.trans a2.symm⟩
  · exact u.1 ⟨b2.trans a2.symm,b1.trans a1.symm⟩
theorem ul {n:Nat}{t:Tie}(h1:t.a≠t.b)(h2:t.a < n)(h3:t.b < n)(h4:1≤t.w∧t.w≤400)(h:Hd):fu [.int n,ay t] h=.ok (.bl true) h:=by
  have e1:(t.a:Int)≤n - 1:=Int.le_sub_one_of_lt (Int.ofNat_lt.mpr h2)
  have e2:(t.b:Int)≤n - 1:=Int.le_sub_one_of_lt (Int.ofNat_lt.mpr h3)
  have e3 : ¬ (t.a:Int)=t.b:=fun z=>h1 (Int.ofNat.inj z)
  have bt:∀ {i a b:Int},a≤i→i≤b→aC [.int i,.int a,.int b] h=.ok (.bl true) h:=fun x y=>by rw [cY,decide_eq_true x,decide_eq_true y];rfl
  have s1:sIf (tOr (bx (tE (bA .tuple (aa 1)))) (tE (aj oNe (cx (lOf (aa 1))) (fC (.int 3))))) (a7 (fC (.bl false))) br [some (.int n),some (ay t),none,none] h=.nx [some (.int n),some (ay t),none,none] h:=eC (f6 (cB (b:=true) (bg rfl)) (bg (ar (dY (bZ rfl rfl)) rfl rfl)))
  have s4:sIf (tOr (bx (tE (am aC (ab (aa 2) (ab (fC (.int 0)) (ab (aj Dl (aa 0) (fC (.int 1))) ak)))))) (bx (tE (am aC (ab (aa 3) (ab (fC (.int 0)) (ab (aj Dl (aa 0) (fC (.int 1))) ak))))))) (a7 (fC (.bl false))) br [some (.int n),some (ay t),some (.int t.a),some (.int t.b)] h=.nx [some (.int n),some (ay t),some (.int t.a),some (.int t.b)] h:=eC (f6 (cB (b:=true) (bg (aw (ae rfl (ae rfl (ae (ar rfl rfl rfl) rfl))) (bt (Int.natCast_nonneg _) e1)))) (cB (b:=true) (bg (aw (ae rfl (ae rfl (ae (ar rfl rfl rfl) rfl))) (bt (Int.natCast_nonneg _) e2)))))
  have s5:a7 (fT (uK (tE (aj oNe (aa 2) (aa 3))) (tE (am aC (ab (fAt (aa 1) (fC (.int 2))) (ab (fC (.int 1)) (ab (fC (.int 400)) ak))))))) [some (.int n),some (ay t),some (.int t.a),some (.int t.b)] h=.rt (.bl true) h:=bV (jS (AX (bg (ar rfl rfl (by rw [Kz,decide_eq_false e3];rfl))) (bg (aw (ae (bj rfl rfl rfl rfl) (ae rfl (ae rfl rfl))) (bt h4.1 h4.2)))))
  exact (eK rfl rfl ((a4 s1).trans ((a4 (aL (bj rfl rfl rfl rfl))).trans ((a4 (aL (bj rfl rfl rfl rfl))).trans ((a4 s4).trans s5))))).trans dX
structure NH (n A:Nat) (h0:Hd) (T:List Tie) (h:Hd):Prop where
  pre:∃ g,h=h0++g∧g.length=n + 1
  dc:∀ j,j < n→h[A + j]? = some (.dct ((nbs T j).map nS))
  rf:h[A + n]? = some (.lst ((List.range n).map fun i=>.ref (A + i)))
theorem NH.put {n A:Nat}{h0:Hd}{T:List Tie}{h:Hd}(hA:A=h0.length)(N:NH n A h0 T h){j:Nat}(hj:j < n)(c:bn):(∃ g,h.set (A + j) c=h0++g∧g.length=n + 1)∧(h.set (A + j) c)[A + j]? = some c∧(∀ k,k≠j→(h.set (A + j) c)[A + k]? = h[A + k]?):=by
  obtain⟨g,e,l⟩:=N.pre
  have lt:=(List.getElem?_eq_some_iff.mp (N.dc j hj)).1
  exact⟨⟨g.set j c,by rw [e,vy hA],by rw [List.length_set];exact l⟩,List.getElem?_set_self lt,fun k hk=>List.getElem?_set_ne fun z=>hk (Nat.add_left_cancel z).symm⟩
def SNx (a b:SF):Prop:=∀ {σ h σ' h'},a σ h=.nx σ' h'→b σ h=.nx σ' h'
theorem SNx.refl {a:SF}:SNx a a:=fun e=>e
theorem Gg {n i j:Nat}{T:List Tie}(hn:n≤30)(O:TOk n n 0 T):((nbs (T.take i) j).map nS).length < SZ:=by
  rw [List.length_map]
  exact Nat.lt_of_le_of_lt (Nat.le_trans (List.length_filterMap_le _ _) (Nat.le_trans (List.length_take_le' _ _) (Nat.le_trans O.len (Nat.add_le_add_right (Nat.mul_le_mul_left 30 hn) 0)))) (by decide)
noncomputable abbrev XN (n tk A:Nat) (a b c:Option D):Sd:=[some (.int n),some (.ref tk),some (.ref (A + n)),a,b,c]
theorem Ic {n A tk i:Nat}(hn:n≤30){T:List Tie}(O:TOk n n 0 T){h h0:Hd}(hA:A=h.length)(N:NH n A h (T.take i) h0){t:Tie}(mt:t∈T)(un:∀ s∈T.take i,f7 s t)(tk1:T.take (i + 1)=T.take i++[t])(b c:Option D) :
    ∃ h6,cM (XN n tk A (some (ay t)) b c) h0=.nx (XN n tk A (some (ay t)) (some (.int t.a)) (some (.int t.b))) h6∧NH n A h (T.take (i + 1)) h6:=by
  have tne:=O.ne t mt
  have tlt:=O.lt t mt
  have fa:far t.a t=some t.b:=if_pos rfl
  have fb:far t.b t=some t.a:=(if_neg tne).trans (if_pos rfl)
  have na:=A6 fa un
  have nb:=A6 fb un
  have rat:∀ j:Nat,j < n→atI ((List.range n).map fun i=>D.ref (A + i)) (j:Int)=some (.ref (A + j)):=fun j hj=>c9 (by rw [List.getElem?_map,List.getElem?_range hj];rfl)
  have ra:=rat t.a tlt.1
  have rb:=rat t.b tlt.2
  have da:=N.dc t.a tlt.1
  obtain⟨p1,p2,p3⟩:=N.put hA tlt.1 (.dct ((nbs (T.take i) t.a++[(t.b,t.w)]).map nS))
  obtain⟨h5,hh5⟩ : ∃ h5,h5=h0.set (A + t.a) (.dct ((nbs (T.take i) t.a++[(t.b,t.w)]).map nS)):=⟨_,rfl⟩
  rw [← hh5] at p1 p2 p3
  have rf5:h5[A + n]? = some (.lst ((List.range n).map fun i=>.ref (A + i))):=(p3 n (Nat.ne_of_gt tlt.1)).trans N.rf
  have db:h5[A + t.b]? = some (.dct ((nbs (T.take i) t.b).map nS)):=(p3 t.b (Ne.symm tne)).trans (N.dc t.b tlt.2)
  obtain⟨h6,hh6⟩ : ∃ h6,h6=h5.set (A + t.b) (.dct ((nbs (T.take i) t.b++[(t.a,t.w)]).map nS)):=⟨_,rfl⟩
  have s4:sIf (tE (aj Dq (aa 5) (fAt (aa 2) (aa 4)))) dH br (XN n tk A (some (ay t)) (some (.int t.a)) (some (.int t.b))) h0=.nx (XN n tk A (some (ay t)) (some (.int t.a)) (some (.int t.b))) h0:=by
    refine eC (bg (ar rfl (bj rfl rfl (aU N.rf) ra) ?_))
    rw [Kw da,DP na];rfl
  have s5:oV (fAt (aa 2) (aa 4)) (aa 5) (fAt (aa 3) (fC (.int 2))) (XN n tk A (some (ay t)) (some (.int t.a)) (some (.int t.b))) h0=.nx (XN n tk A (some (ay t)) (some (.int t.a)) (some (.int t.b))) h5:=by
    rw [hh5,← yK na]
    exact CN (bj rfl rfl rfl rfl) (bj rfl rfl (aU N.rf) ra) rfl da (Gg hn O)
  have s6:oV (fAt (aa 2) (aa 5)) (aa 4) (fAt (aa 3) (fC (.int 2))) (XN n tk A (some (ay t)) (some (.int t.a)) (some (.int t.b))) h5=.nx (XN n tk A (some (ay t)) (some (.int t.a)) (some (.int t.b))) h6:=by
    rw [hh6,← yK nb]
    exact CN (bj rfl rfl rfl rfl) (bj rfl rfl (aU rf5) rb) rfl db (Gg hn O)
  refine⟨h6,(az (eC (cB (bg (aw (ae rfl (ae rfl rfl)) (ul tne tlt.1 tlt.2 (O.wt t mt) h0)))))).trans ((az (aL (bj rfl rfl rfl rfl))).trans ((az (aL (bj rfl rfl rfl rfl))).trans ((az s4).trans ((az s5).trans s6)))),?_,fun j hj => ?_,?_⟩
  · obtain⟨g,e,l⟩:=p1
    exact⟨_,by rw [hh6,e,vy hA],by rw [List.length_set];exact l⟩
  · rw [tk1,Gf]
    by_cases e1:t.b=j
    · subst e1
      rw [hh6,eF _ db,fb]
    · rw [hh6,List.getElem?_set_ne (fun z=>e1 (Nat.add_left_cancel z))]
      by_cases e2:t.a=j
      · subst e2
        rw [p2,fa]
      · have:far j t=none:=(if_neg e2).trans (if_neg e1)
        rw [p3 j (Ne.symm e2),this,N.dc j hj]
        simp only [List.append_nil]
  · rw [hh6];exact (List.getElem?_set_ne (fun z=>Nat.ne_of_lt tlt.2 (Nat.add_left_cancel z))).trans rf5
theorem DQ {n:Nat}{h:Hd}{A:Nat}(hA:A=h.length):∃ h1 g,bQ none ((List.range n).map fun k:Nat=>D.int k) (gN 0) [] tX ((List.range n).map fun k:Nat=>D.int k) [none] h=.ok ((List.range n).map fun i=>.ref (A + i)) h1∧h1=h++g∧g.length=n ∧ ∀ j,j < n→h1[A + j]? = some (.dct []):=by
  obtain⟨ds,h1,k1,l1,v1,σ1,-,g,hg,lg,g1⟩:=kh (g:=none) (all:=(List.range n).map fun k:Nat=>D.int k) (tg:=gN 0) (xs:=(List.range n).map fun k:Nat=>D.int k) (k:=0)
    (e:=tX) (σ:=[none]) (h:=h)
    (P:=fun i σ h'=>(∃ a,σ = [a]) ∧ ∃ g,h'=h++g∧g.length=i ∧ ∀ j,j < i→h'[A + j]? = some (.dct [])) (V:=fun i d=>d=.ref (A + i)) (fun _ _ _ _=>trivial) (by
      rintro i x σ h0 hx ⟨⟨a,rfl⟩,g,e0,lg,e1⟩
      obtain⟨hi,rfl⟩:=gS hx
      rw [Nat.zero_add] at lg e1 ⊢
      have hl:h0.length=A + i:=by rw [e0,List.length_append,lg,hA]
      refine⟨_,rfl,.ref h0.length,h0++[.dct []],rfl,by rw [hl],⟨_,rfl⟩,g++[.dct []],by rw [e0,List.append_assoc],by rw [List.length_append,lg];rfl,fun j hj => ?_⟩
      by_cases hji:j < i
      · exact aA _ (e1 j hji)
      · rw [Nat.le_antisymm (Nat.le_of_lt_succ hj) (Nat.not_lt.mp hji),← hl];exact List.getElem?_concat_length) ⟨⟨_,rfl⟩,[],(List.append_nil _).symm,rfl,fun j hj=>absurd hj (Nat.not_lt_zero _)⟩
  rw [List.length_map,List.length_range] at l1
  rw [Nat.zero_add,List.length_map,List.length_range] at lg g1
  have e1:ds=(List.range n).map fun i=>.ref (A + i):=AW l1 fun i d hd=>by have:=v1 i d hd;rwa [Nat.zero_add] at this
  exact⟨h1,g,by rw [k1,e1],hg,lg,g1⟩
inductive NI (n A tk:Nat) (h:Hd) (T:List Tie):Nat→Sd→Hd→Prop
  | mk {i:Nat} {h':Hd} {a b c:Option D} (N:NH n A h (T.take i) h'):NI n A tk h T i (XN n tk A a b c) h'
theorem KF {n:Nat}(hn1:1≤n)(hn:n≤30){T:List Tie}(O:TOk n n 0 T){B:SF}(hB:SNx cM B){rest:List D}{h:Hd}{tk:Nat}(ht:h[tk]? = some (.lst (T.map ay++rest))) :
    ∃ h2 h3 a3 b3 c3,aF (gN 2) (aT (aJ 1 [] (cX (aa 0)) (gN 0) [] tX)) [some (.int n),some (.ref tk),none,none,none,none] h=.nx [some (.int n),some (.ref tk),some (.ref (h.length + n)),none,none,none] h2∧h2[tk]? = some (.lst (T.map ay++rest)) ∧
      fI (some tk) (T.map ay++rest) (gN 3) B (T.map ay++rest) [some (.int n),some (.ref tk),some (.ref (h.length + n)),none,none,none] h2=fI (some tk) (T.map ay++rest) (gN 3) B rest [some (.int n),some (.ref tk),some (.ref (h.length + n)),a3,b3,c3] h3 ∧
      h3[tk]? = some (.lst (T.map ay++rest))∧NH n h.length h T h3:=by
  obtain⟨A,hA⟩ : ∃ A,A=h.length:=⟨_,rfl⟩
  obtain⟨h1,g,k1,hg,lg,g1⟩:=DQ (n:=n) hA
  obtain⟨h2,hh2⟩ : ∃ h2,h2=h1++[.lst ((List.range n).map fun i=>.ref (A + i))]:=⟨_,rfl⟩
  have l1':h1.length=A + n:=by rw [hg,List.length_append,lg,hA]
  have N0:NH n A h [] h2:=⟨⟨g++[.lst ((List.range n).map fun i=>.ref (A + i))],by rw [hh2,hg,List.append_assoc],by rw [List.length_append,lg];rfl⟩,fun j hj=>by rw [hh2];exact aA _ (g1 j hj),by rw [hh2,← l1'];exact List.getElem?_concat_length⟩
  obtain⟨_,h3,k3,@⟨_,a3,b3,c3,N3⟩⟩:=jL (rest:=rest) (P:=NI n A tk h T) (g:=some tk) (k:=0)
      (all:=T.map ay++rest) (fun _ _ h' q=>by
        obtain⟨N⟩:=q
        obtain⟨g,e,_⟩:=N.pre
        show h'[tk]? = _
        rw [e];exact aA _ ht)
      (xs:=T.map ay) (tg:=gN 3) (σ:=XN n tk A none none none) (h:=h2) (b:=B) (by
      intro i x σ h0 hx z
      rw [Nat.zero_add] at z ⊢
      obtain @⟨_,a,b,c,N⟩:=z
      have hiT:i < T.length:=by have:=(List.getElem?_eq_some_iff.mp hx).1;rwa [List.length_map] at this
      rw [List.getElem?_map,List.getElem?_eq_getElem hiT] at hx
      cases hx
      have mt:T[i]∈T:=List.getElem_mem hiT
      have un:∀ s∈T.take i,f7 s T[i]:=fun s hs=>by
        obtain⟨k,hk,rfl⟩:=List.getElem_of_mem hs
        rw [List.length_take] at hk
        rw [List.getElem_take]
        exact List.pairwise_iff_getElem.mp O.un k i _ hiT (Nat.lt_of_lt_of_le hk (Nat.min_le_left _ _))
      obtain⟨h6,q6,N6⟩:=Ic (tk:=tk) hn O hA N mt un (List.take_succ_eq_append_getElem hiT) b c
      exact⟨_,rfl,_,h6,hB q6,.mk N6⟩) (.mk N0)
  rw [Nat.zero_add,List.length_map,List.take_length] at N3
  have s2:aF (gN 2) (aT (aJ 1 [] (cX (aa 0)) (gN 0) [] tX)) [some (.int n),some (.ref tk),none,none,none,none] h=.nx [some (.int n),some (.ref tk),some (.ref (A + n)),none,none,none] h2:=by
    rw [hh2,← l1']
    exact aL (cq (cU (kP rfl (Nat.le_trans hn (by decide))) k1) (by rw [List.length_map,List.length_range];exact Nat.le_trans hn (by decide)))
  have t2:h2[tk]? = some (.lst (T.map ay++rest)):=by rw [hh2,hg];exact aA _ (aA _ ht)
  obtain⟨g3,e3,_⟩:=N3.pre
  refine⟨h2,h3,a3,b3,c3,by rw [← hA];exact s2,t2,by rw [← hA];exact k3,?_,by rw [← hA];exact N3⟩
  rw [e3];exact aA _ ht
theorem qv {n:Nat}(hn1:1≤n)(hn:n≤30){T:List Tie}(O:TOk n n 0 T){h:Hd}{tk:Nat}(ht:h[tk]? = some (.lst (T.map ay))) :
    ∃ h',cJ [.int n,.ref tk] h=.ok (.ref (h.length + n)) h'∧NH n h.length h T h':=by
  obtain⟨h2,h3,a3,b3,c3,s2,t2,k3,t3,N3⟩:=KF hn1 hn O (B:=cM) SNx.refl (rest:=[]) (h:=h) (tk:=tk) (by rw [List.append_nil];exact ht)
  rw [List.append_nil] at t2 t3 k3
  refine⟨h3,?_,N3⟩
  have s1:sIf (bx (tE (bA .list (aa 1)))) dH br [some (.int n),some (.ref tk),none,none,none,none] h=.nx [some (.int n),some (.ref tk),none,none,none,none] h:=eC (cB (bg (AZ rfl ht)))
  have s3:fJ (bd (aa 1)) (gN 3) cM [some (.int n),some (.ref tk),some (.ref (h.length + n)),none,none,none] h2=.nx [some (.int n),some (.ref tk),some (.ref (h.length + n)),a3,b3,c3] h3:=by
    have e:fI (some tk) (T.map ay) (gN 3) cM [] [some (.int n),some (.ref tk),some (.ref (h.length + n)),a3,b3,c3] h3=.nx [some (.int n),some (.ref tk),some (.ref (h.length + n)),a3,b3,c3] h3:=by
      unfold fI
      exact if_pos t3
    rw [e] at k3
    exact kj (dh rfl t2) k3
  have st:([D.int n,D.ref tk].map some++List.replicate (6 - [D.int n,D.ref tk].length) none:Sd)=[some (.int n),some (.ref tk),none,none,none,none]:=rfl
  unfold cJ bJ runB
  rw [if_pos (show [D.int n,D.ref tk].length=2 from rfl),st,az s1,az s2,az s3]
  simp [letGo,pure?]
end Fm
set_option linter.all false
namespace Fm
theorem LO (a b:Int)(h:Hd):oNe (.int a) (.int b) h=.ok (.bl (!decide (a=b))) h:=rfl
theorem Gh {l:List Nat}{n:Nat}(nd:l.Nodup)(h:∀ x∈l,x < n):l.length≤n:=by
  induction n generalizing l with
  | zero=>match l,h with
    | [],_=>exact Nat.le_refl _
    | x :: _,h=>exact absurd (h x List.mem_cons_self) (Nat.not_lt_zero _)
  | succ n ih =>
    by_cases m:n∈l
    · have:=ih (nd.erase n) fun x hx=>by
        have z:=(List.Nodup.mem_erase_iff nd).mp hx
        exact Nat.lt_of_le_of_ne (Nat.le_of_lt_succ (h x z.2)) z.1
      rw [List.length_erase_of_mem m] at this
      exact Nat.le_add_of_sub_le this
    · exact Nat.le_succ_of_le (ih nd fun x hx=>Nat.lt_of_le_of_ne (Nat.le_of_lt_succ (h x hx)) fun z=>m (z ▸ hx))
def d8 (n:Nat) (T:List Tie) (bs:List Int) (ss:List (Option Int)):Web:=⟨(List.range n).map fun i=>bP (nbs T i),bs,ss⟩
theorem kT:∀ l:List (Nat × Int),eE (l.map nS)=some (l.map kS)
  | []=>rfl
  | p :: l=>by
    have ih:=kT l
    simp only [List.map_cons]
    show (eE (l.map nS)).map _=_
    rw [ih]
    rfl
theorem mJ {T:List Tie}(un:T.Pairwise f7)(i:Nat):((nbs T i).map (·.1)).Nodup:=by
  unfold nbs
  induction T with
  | nil=>simp
  | cons t T ih =>
    obtain⟨h1,h2⟩:=List.pairwise_cons.mp un
    have ih:=ih h2
    cases e:far i t with
    | none=>simp only [List.filterMap_cons,e,Option.map_none];exact ih
    | some j =>
      simp only [List.filterMap_cons,e,Option.map_some,List.map_cons,List.nodup_cons]
      refine⟨fun z => ?_,ih⟩
      obtain⟨p,hp,hpj⟩:=List.mem_map.mp z
      exact A6 (T:=T) e (fun s hs=>(h1 s hs).symm) p hp hpj
theorem Id {l:List (Nat × Int)}(nd:(l.map (·.1)).Nodup):(l.map kS).Nodup:=by
  rw [List.nodup_iff_pairwise_ne,List.pairwise_map] at nd ⊢
  exact nd.imp fun {a b} h e=>h (by have:=(List.cons.inj e).1;omega)
theorem jN {α : Type}{l:List α}:iR (l.map fun _=>D.bl true)=some (l.map fun _=>true):=by
  induction l with
  | nil=>rfl
  | cons x l ih=>simp [iR,ih]
theorem vC {n:Nat}{h:Hd}{nk bk:Nat}{l:List D}{bs:List Int}(hn:h[nk]? = some (.lst l))(hl:l.length=n)(hb:h[bk]? = some (.lst (bs.map .int)))(lb:bs.length=n):cZ [.ref nk,.ref bk] h=.ok (.tup (bs.map .int)) h:=by
  have c:bQ (some bk) (bs.map D.int) (gN 0) [] (am b5 (ab (aa 0) ak)) (bs.map D.int) [none] h=.ok ((bs.map D.int).map fun _=>D.bl true) h:=by
    have:=bi (g:=some bk) (all:=bs.map D.int) (tg:=gN 0) (cs:=[]) (e:=am b5 (ab (aa 0) ak)) (h:=h) (I:=fun σ=>∃ a,σ = [a]) (fun _=>true) (fun _=>.bl true) hb (xs:=bs.map D.int) (σ:=[none]) (by
      rintro x hx σ ⟨a,rfl⟩
      obtain⟨i,_,rfl⟩:=List.mem_map.mp hx
      exact⟨_,rfl,⟨_,rfl⟩,rfl,fun _=>aw (ae rfl rfl) (kR _ _)⟩) ⟨_,rfl⟩
    rw [this,List.filter_eq_self.mpr (by simp)]
  have al:((bs.map D.int).map fun _=>true).all id=true:=by simp
  have lg:=cn (h:=h) (g:=[]) (d:=.tup (bs.map D.int)) (by simp only [pure?];exact eP fun _ _=>rfl)
  rw [List.append_nil] at lg
  have s1:sIf (tE (aj ml (aa 1) (fC .non))) dH br [some (.ref nk),some (.ref bk)] h=.nx [some (.ref nk),some (.ref bk)] h:=eC (bg (ar rfl rfl rfl))
  have s2:sIf (tOr (bx (tE (bA .list (aa 1)))) (tE (aj oNe (cx (lOf (aa 1))) (cx (lOf (aa 0)))))) dH br [some (.ref nk),some (.ref bk)] h=.nx [some (.ref nk),some (.ref bk)] h:=by
    exact eC (f6 (cB (b:=true) (bg (AZ rfl hb))) (bg (ar (dY (bZ rfl (aU hb))) (dY (bZ rfl (aU hn))) (by rw [LO,List.length_map,lb,hl,decide_eq_true rfl];rfl))))
  have s3:sIf (bx (tE (oF (aJ 1 [] (bd (aa 1)) (gN 0) [] (am b5 (ab (aa 0) ak)))))) dH br [some (.ref nk),some (.ref bk)] h=.nx [some (.ref nk),some (.ref bk)] h:=by
    exact eC (cB (b:=true) (bg ((vz (cU (dh rfl hb) c) jN).trans (by rw [al]))))
  have s4:a7 (fk (lOf (aa 1))) [some (.ref nk),some (.ref bk)] h=.rt (.tup (bs.map .int)) h:=bV (og (bZ rfl (aU hb)))
  have st:([D.ref nk,D.ref bk].map some++List.replicate (2 - [D.ref nk,D.ref bk].length) none:Sd)=[some (.ref nk),some (.ref bk)]:=rfl
  unfold cZ bJ runB
  rw [if_pos (show [D.ref nk,D.ref bk].length=2 from rfl),st,az s1,az s2,az s3,s4]
  exact lg
theorem qw {n:Nat}{h:Hd}{sk:Nat}{ss:List (Option Int)}(hs:h[sk]? = some (.lst (ss.map bf)))(ls:ss.length=n)(os:∀ x∈ss,x=none∨x=some 0∨x=some 1):cK [.int n,.ref sk] h=.ok (.tup (ss.map bf)) h:=by
  have c:bQ (some sk) (ss.map bf) (gN 0) [] (fT (tOr (tE (aj ml (aa 0) (fC .non))) (tE (am cf (ab (aa 0) ak))))) (ss.map bf) [none] h=.ok ((ss.map bf).map fun _=>D.bl true) h:=by
    have:=bi (g:=some sk) (all:=ss.map bf) (tg:=gN 0) (cs:=[]) (e:=fT (tOr (tE (aj ml (aa 0) (fC .non))) (tE (am cf (ab (aa 0) ak))))) (h:=h) (I:=fun σ=>∃ a,σ = [a]) (fun _=>true) (fun _=>.bl true) hs (xs:=ss.map bf) (σ:=[none]) (by
      rintro x hx σ ⟨a,rfl⟩
      obtain⟨i,hi,rfl⟩:=List.mem_map.mp hx
      refine⟨_,rfl,⟨_,rfl⟩,rfl,fun _ => ?_⟩
      rcases os i hi with e|e|e<;>subst e
      · exact jS (vw (bg (ar rfl rfl rfl)))
      · exact jS (f6 (bg (ar rfl rfl rfl)) (bg (aw (ae rfl rfl) (je 0 h))))
      · exact jS (f6 (bg (ar rfl rfl rfl)) (bg (aw (ae rfl rfl) (je 1 h))))) ⟨_,rfl⟩
    rw [this,List.filter_eq_self.mpr (by simp)]
  have lg:=cn (h:=h) (g:=[]) (d:=.tup (ss.map bf)) (by simp only [pure?];exact eP fun x _=>by cases x<;>rfl)
  rw [List.append_nil] at lg
  have s1:sIf (tE (aj ml (aa 1) (fC .non))) (a7 (fk (aJ 1 [] (cX (aa 0)) (gN 0) [] (fC .non)))) br [some (.int n),some (.ref sk)] h=.nx [some (.int n),some (.ref sk)] h:=eC (bg (ar rfl rfl rfl))
  have s2:sIf (tOr (bx (tE (bA .list (aa 1)))) (tE (aj oNe (cx (lOf (aa 1))) (aa 0)))) dH br [some (.int n),some (.ref sk)] h=.nx [some (.int n),some (.ref sk)] h:=by
    exact eC (f6 (cB (b:=true) (bg (AZ rfl hs))) (bg (ar (dY (bZ rfl (aU hs))) rfl (by rw [LO,List.length_map,ls,decide_eq_true rfl];rfl))))
  have s3:sIf (bx (tE (oF (aJ 1 [] (bd (aa 1)) (gN 0) [] (fT (tOr (tE (aj ml (aa 0) (fC .non))) (tE (am cf (ab (aa 0) ak))))))))) dH br [some (.int n),some (.ref sk)] h=.nx [some (.int n),some (.ref sk)] h:=by
    have al:((ss.map bf).map fun _=>true).all id=true:=by simp
    exact eC (cB (b:=true) (bg ((vz (cU (dh rfl hs) c) jN).trans (by rw [al]))))
  have s4:a7 (fk (lOf (aa 1))) [some (.int n),some (.ref sk)] h=.rt (.tup (ss.map bf)) h:=bV (og (bZ rfl (aU hs)))
  have st:([D.int n,D.ref sk].map some++List.replicate (2 - [D.int n,D.ref sk].length) none:Sd)=[some (.int n),some (.ref sk)]:=rfl
  unfold cK bJ runB
  rw [if_pos (show [D.int n,D.ref sk].length=2 from rfl),st,az s1,az s2,az s3,s4]
  exact lg
theorem Ie {n A:Nat}(hn:n≤30){T:List Tie}(O:TOk n n 0 T){h h1:Hd}(N:NH n A h T h1) :
    bQ (some (A + n)) ((List.range n).map fun i=>.ref (A + i)) (gN 0) [] (fk (kc (aa 0))) ((List.range n).map fun i=>.ref (A + i)) [none] h1=.ok (((List.range n).map fun i=>bP (nbs T i)).map cA) h1:=by
  have:=bi (g:=some (A + n)) (all:=(List.range n).map fun i=>.ref (A + i)) (tg:=gN 0) (cs:=[]) (e:=fk (kc (aa 0))) (h:=h1) (I:=fun σ=>∃ a,σ = [a]) (fun _=>true)
    (fun d=>match d with | .ref k=>cA (bP (nbs T (k - A)))|_=>.non) N.rf (xs:=(List.range n).map fun i=>.ref (A + i)) (σ:=[none]) (by
      rintro x hx σ ⟨a,rfl⟩
      obtain⟨i,hi,rfl⟩:=List.mem_map.mp hx
      have hi:=List.mem_range.mp hi
      refine⟨_,rfl,⟨_,rfl⟩,rfl,fun _ => ?_⟩
      have nd:=mJ O.un i
      have l64:((nbs T i).map kS).length < 64:=by
        have lt:∀ p∈nbs T i,p.1 < n:=fun p hp=>by
          unfold nbs at hp
          obtain⟨t,ht',q⟩:=List.mem_filterMap.mp hp
          have:=O.lt t ht'
          unfold far at q
          by_cases a1:t.a=i
          · rw [if_pos a1] at q;simp at q;subst q;exact this.2
          · rw [if_neg a1] at q
            by_cases a2:t.b=i
            · rw [if_pos a2] at q;simp at q;subst q;exact this.1
            · rw [if_neg a2] at q;cases q
        have:=Gh nd (n:=n) (fun x hx=>by
          obtain⟨p,hp,rfl⟩:=List.mem_map.mp hx
          exact lt p hp)
        simp at this ⊢
        omega
      have e:((bw ((nbs T i).map kS)).map dG)=(bP (nbs T i)).map ft:=by rw [← uj,List.map_map];rfl
      simp only [List.set_cons_zero,fk,kc,aa,slot,List.getElem?_cons_zero,aq,N.dc i hi,kT,if_pos (And.intro l64 (Id nd)),e,cA,Nat.add_sub_cancel_left]) ⟨_,rfl⟩
  rw [this,List.filter_eq_self.mpr (by simp),List.map_map,List.map_map]
  congr 1
  apply List.map_congr_left
  intro i _
  simp
theorem um {n:Nat}(hn1:1≤n)(hn:n≤30){T:List Tie}(O:TOk n n 0 T){bs:List Int}{ss:List (Option Int)}(lb:bs.length=n)(ls:ss.length=n)(os:∀ x∈ss,x=none∨x=some 0∨x=some 1){h:Hd}{tk bk sk:Nat}
    (ht:h[tk]? = some (.lst (T.map ay))) (hb:h[bk]? = some (.lst (bs.map .int))) (hs:h[sk]? = some (.lst (ss.map bf))):dL [.int n,.ref tk,.ref bk,.ref sk] h=.ok (d8 n T bs ss).enc h:=by
  obtain⟨h1,r1,N⟩:=qv hn1 hn O ht
  obtain⟨A,hA⟩ : ∃ A,A=h.length:=⟨_,rfl⟩
  rw [← hA] at r1 N
  obtain⟨g,hg,lg⟩:=N.pre
  have old:∀ {k:Nat} {c:bn},h[k]? = some c→h1[k]? = some c:=fun {k c} e=>by rw [hg,List.getElem?_append_left (List.getElem?_eq_some_iff.mp e).1];exact e
  have comp:=Ie hn O N
  have bt:=vC (n:=n) (l:=(List.range n).map fun i=>.ref (A + i)) N.rf (by simp) (old hb) lb
  have stt:=qw (n:=n) (old hs) ls os
  have i1:(1:Int)≤n:=Int.ofNat_le.mpr hn1
  have i2:(n:Int)≤30:=Int.ofNat_le.mpr hn
  have rf:=N.rf
  have s1:sIf (bx (tE (am aC (ab (aa 0) (ab (fC (.int 1)) (ab (fC (.int 30)) ak)))))) dH br [some (.int n),some (.ref tk),some (.ref bk),some (.ref sk),none,none] h=.nx [some (.int n),some (.ref tk),some (.ref bk),some (.ref sk),none,none] h:=eC (cB (b:=true) (bg (aw (ae rfl (ae rfl (ae rfl rfl))) (by rw [cY,decide_eq_true i1,decide_eq_true i2];rfl))))
  have s2:aF (gN 4) (am cJ (ab (aa 0) (ab (aa 1) ak))) [some (.int n),some (.ref tk),some (.ref bk),some (.ref sk),none,none] h=.nx [some (.int n),some (.ref tk),some (.ref bk),some (.ref sk),some (.ref (A + n)),none] h1:=aL (aw (ae rfl (ae rfl rfl)) r1)
  have s3:aF (gN 5) (fk (aJ 1 [] (bd (aa 4)) (gN 0) [] (fk (kc (aa 0))))) [some (.int n),some (.ref tk),some (.ref bk),some (.ref sk),some (.ref (A + n)),none] h1=.nx [some (.int n),some (.ref tk),some (.ref bk),some (.ref sk),some (.ref (A + n)),some (.tup (((List.range n).map fun i=>bP (nbs T i)).map cA))] h1:=by
    exact aL (og (cU (dh rfl rf) comp))
  have s4:a7 (fH (ab (aa 5) (ab (am cZ (ab (aa 4) (ab (aa 2) ak))) (ab (am cK (ab (aa 0) (ab (aa 3) ak))) ak)))) [some (.int n),some (.ref tk),some (.ref bk),some (.ref sk),some (.ref (A + n)),some (.tup (((List.range n).map fun i=>bP (nbs T i)).map cA))] h1=.rt (d8 n T bs ss).enc h1:=by
    exact bV (ki (ae rfl (ae (aw (ae rfl (ae rfl rfl)) bt) (ae (aw (ae rfl (ae rfl rfl)) stt) rfl))) (by exact of_decide_eq_true rfl))
  have st:([D.int n,D.ref tk,D.ref bk,D.ref sk].map some++List.replicate (6 - [D.int n,D.ref tk,D.ref bk,D.ref sk].length) none:Sd)=[some (.int n),some (.ref tk),some (.ref bk),some (.ref sk),none,none]:=rfl
  unfold dL bJ runB
  rw [if_pos (show [D.int n,D.ref tk,D.ref bk,D.ref sk].length=4 from rfl),st,az s1,az s2,az s3,s4]
  show letGo h (.ok _ h1)=_
  rw [hg]
  exact cn (yH _)
end Fm
set_option linter.all false
namespace Fm
theorem pk {n:Nat}{T:List Tie}(lt:∀ t∈T,t.a < n∧t.b < n){i:Nat}:∀ p∈nbs T i,p.1 < n:=fun p hp=>by
  unfold nbs at hp
  obtain⟨t,ht',q⟩:=List.mem_filterMap.mp hp
  have:=lt t ht'
  unfold far at q
  by_cases a1:t.a=i
  · rw [if_pos a1] at q;simp at q;subst q;exact this.2
  · rw [if_neg a1] at q
    by_cases a2:t.b=i
    · rw [if_pos a2] at q;simp at q;subst q;exact this.1
    · rw [if_neg a2] at q;cases q
theorem pr {n:Nat}(hn:n≤30){T:List Tie}(O:TOk n n 0 T){bs:List Int}{ss:List (Option Int)}(lb:bs.length=n)(ls:ss.length=n):(d8 n T bs ss).Ok n:=by
  refine⟨by simp [d8],lb,ls,fun r hr p hp => ?_,by omega⟩
  obtain⟨i,_,rfl⟩:=List.mem_map.mp hr
  exact pk O.lt p (dk.mp hp)
structure MX (n:Nat) (T:List Tie) (bs:List Int) (ss:List (Option Int)) (tk bk sk:Nat) (h:Hd):Prop where
  ti:h[tk]? = some (.lst (T.map ay))
  ba:h[bk]? = some (.lst (bs.map .int))
  st:h[sk]? = some (.lst (ss.map bf))
theorem gU {α : Type}{f : α → D}(h:∀ x,peq (f x) (f x)=some true):∀ l:List α,gJ (l.map f) (l.map f)=some true
  | []=>rfl
  | x :: l=>by simp [gJ,h x,gU h l]
theorem fO {α : Type}{f : α → D}{k:Nat}(h:∀ x,dep (f x)≤k):∀ l:List α,kA (l.map f)≤k
  | []=>Nat.zero_le _
  | x :: l=>by simp only [List.map_cons,kA];exact Nat.max_le.mpr ⟨h x,fO h l⟩
theorem CS (w:Web):peq w.enc w.enc=some true∧dep w.enc≤20:=by
  have p1:∀ p:Nat × Int,peq (ft p) (ft p)=some true:=fun p=>by simp [ft,peq,gJ]
  have p2:∀ r:List (Nat × Int),peq (cA r) (cA r)=some true:=fun r=>by simp [cA,peq,gU p1 r]
  have p3:∀ x:Option Int,peq (bf x) (bf x)=some true:=fun x=>by cases x<;>simp [bf,peq]
  have p4:∀ x:Int,peq (.int x) (.int x)=some true:=fun x=>by simp [peq]
  have d1:∀ p:Nat × Int,dep (ft p)≤1:=fun p=>by simp [ft,dep,kA]
  have d2:∀ r:List (Nat × Int),dep (cA r)≤2:=fun r=>by have:=fO d1 r;simp [cA,dep];omega
  have d3:∀ x:Option Int,dep (bf x)≤0:=fun x=>by cases x<;>simp [bf,dep]
  have d4:∀ x:Int,dep (.int x)≤0:=fun x=>by simp [dep]
  have e1:=fO d2 w.ties
  have e2:=fO d4 w.bars
  have e3:=fO d3 w.stays
  constructor
  · simp [Web.enc,peq,gJ,gU p2 w.ties,gU p4 w.bars,gU p3 w.stays]
  · simp only [Web.enc,dep,kA];omega
theorem Gi {d:D}(h1:peq d d=some true)(h2:dep d≤20)(h3:∀ g,eI g d=none)(g:Hd):oNe d d g=.ok (.bl false) g:=by
  unfold oNe eqG
  rw [h3]
  simp only [if_pos h2,h1]
  rfl
theorem CT (w:Web)(g:Hd):oNe w.enc w.enc g=.ok (.bl false) g:=Gi (CS w).1 (CS w).2 (fun _=>rfl) g
structure MY (n:Nat) (ss:List (Option Int)) (s:List Int):Prop where
  len:s.length=n
  op:∀ x∈s,x=0∨x=1
  st:∀ (i:Nat) x,ss[i]? = some (some x)→s[i]? = some x
end Fm
set_option linter.all false
namespace Fm
theorem uo {x:Nat × Int}:∀ {r:List (Nat × Int)},(∀ p∈r,p.1≠x.1)→r.Pairwise (fun a b=>a.1 < b.1)→(mI x r).Pairwise (fun a b=>a.1 < b.1)
  | [],_,_=>by simp [mI]
  | y :: r,hne,hp=>by
    obtain⟨h1,h2⟩:=List.pairwise_cons.mp hp
    have hy:=hne y (by simp)
    have ih:=uo (x:=x) (r:=r) (fun p hp=>hne p (by simp [hp])) h2
    have e:lexLt (kS x) (kS y)=decide (x.1 < y.1):=by
      simp only [kS,lexLt]
      rw [if_neg (by omega)]
      simp
    simp only [mI]
    split
    · rename_i c
      rw [e,decide_eq_true_eq] at c
      refine List.pairwise_cons.mpr ⟨fun b hb => ?_,hp⟩
      rcases List.mem_cons.mp hb with z|hb
      · rw [z];exact c
      · exact Nat.lt_trans c (h1 b hb)
    · rename_i c
      rw [e,decide_eq_true_eq] at c
      refine List.pairwise_cons.mpr ⟨fun b hb => ?_,ih⟩
      rcases pf.mp hb with z|hb
      · rw [z];omega
      · exact h1 b hb
theorem gb:∀ {r:List (Nat × Int)},(r.map (·.1)).Nodup→(bP r).Pairwise (fun a b=>a.1 < b.1)
  | [],_=>by simp [bP]
  | x :: r,nd=>by
    rw [List.map_cons,List.nodup_cons] at nd
    refine uo (fun p hp e=>nd.1 ?_) (gb nd.2)
    rw [← e]
    exact List.mem_map.mpr ⟨p,dk.mp hp,rfl⟩
theorem CU:∀ {a b:List (Nat × Int)},a.Pairwise (fun a b=>a.1 < b.1)→b.Pairwise (fun a b=>a.1 < b.1)→(∀ p,p∈a ↔ p∈b)→a=b
  | [],[],_,_,_=>rfl
  | [],y :: b,_,_,h=>absurd ((h y).mpr (by simp)) (by simp)
  | x :: a,[],_,_,h=>absurd ((h x).mp (by simp)) (by simp)
  | x :: a,y :: b,ha,hb,h=>by
    obtain⟨a1,a2⟩:=List.pairwise_cons.mp ha
    obtain⟨b1,b2⟩:=List.pairwise_cons.mp hb
    have e:x=y:=by
      rcases List.mem_cons.mp ((h x).mp (by simp)) with e|e
      · exact e
      · rcases List.mem_cons.mp ((h y).mpr (by simp)) with e2|e2
        · exact e2.symm
        · have q1:=b1 x e
          have q2:=a1 y e2
          omega
    subst e
    have t:=CU a2 b2 fun p=>⟨fun hp=>by
      rcases List.mem_cons.mp ((h p).mp (by simp [hp])) with e|e
      · subst e;exact absurd (a1 p hp) (Nat.lt_irrefl _)
      · exact e,fun hp=>by
      rcases List.mem_cons.mp ((h p).mpr (by simp [hp])) with e|e
      · subst e;exact absurd (b1 p hp) (Nat.lt_irrefl _)
      · exact e⟩
    rw [t]
theorem A7 {a b:List (Nat × Int)}(na:(a.map (·.1)).Nodup)(nb:(b.map (·.1)).Nodup)(h:∀ p,p∈a ↔ p∈b):bP a=bP b :=
  CU (gb na) (gb nb) fun p=>by rw [dk,dk];exact h p
theorem ff {T:List Tie}{i:Nat}{p:Nat × Int}:p∈nbs T i ↔ ∃ t∈T,far i t=some p.1∧t.w=p.2:=by
  unfold nbs
  rw [List.mem_filterMap]
  constructor
  · rintro⟨t,ht,q⟩
    cases e:far i t with
    | none=>rw [e] at q;cases q
    | some j=>rw [e] at q;simp at q;subst q;exact⟨t,ht,e,rfl⟩
  · rintro⟨t,ht,q1,q2⟩
    exact⟨t,ht,by rw [q1,q2];rfl⟩
theorem Gj {t:Tie}(ne:t.a≠t.b){i j:Nat}(h:far i t=some j):far j t=some i:=by
  unfold far at h ⊢
  by_cases a1:t.a=i
  · rw [if_pos a1] at h
    cases h
    rw [if_neg ne,if_pos rfl,a1]
  · rw [if_neg a1] at h
    by_cases a2:t.b=i
    · rw [if_pos a2] at h
      cases h
      rw [if_pos rfl,a2]
    · rw [if_neg a2] at h;cases h
theorem yL {T:List Tie}(ne:∀ t∈T,t.a≠t.b){i j:Nat}{x:Int}(h:(j,x)∈nbs T i):(i,x)∈nbs T j:=by
  obtain⟨t,ht,q1,q2⟩:=ff.mp h
  exact ff.mpr ⟨t,ht,Gj (ne t ht) q1,q2⟩
theorem KG {t:Tie}(ne:t.a≠t.b){i j:Nat}(h:far i t=some j):i≠j:=by
  unfold far at h
  by_cases a1:t.a=i
  · rw [if_pos a1] at h;cases h;omega
  · rw [if_neg a1] at h
    by_cases a2:t.b=i
    · rw [if_pos a2] at h;cases h;omega
    · rw [if_neg a2] at h;cases h
def eM (i:Nat) (r:List (Nat × Int)):List Tie:=(r.filter fun p=>decide (i < p.1)).map fun p=>⟨i,p.1,p.2⟩
def d9 (R:List (List (Nat × Int))):Nat→List Tie
  | 0=>[]
  | k + 1=>d9 R k++eM k (R.getD k [])
theorem mK {i:Nat}{r:List (Nat × Int)}{t:Tie}:t∈eM i r ↔ t.a=i∧i < t.b∧(t.b,t.w)∈r:=by
  unfold eM
  rw [List.mem_map]
  constructor
  · rintro⟨p,hp,rfl⟩
    obtain⟨h1,h2⟩:=List.mem_filter.mp hp
    exact⟨rfl,by simpa using h2,h1⟩
  · rintro⟨h1,h2,h3⟩
    exact⟨_,List.mem_filter.mpr ⟨h3,by simpa using h2⟩,by cases t;cases h1;rfl⟩
theorem gW {R:List (List (Nat × Int))}{t:Tie}:∀ {k:Nat},t∈d9 R k ↔ t.a < k∧t.a < t.b∧(t.b,t.w)∈R.getD t.a []
  | 0=>by simp [d9]
  | k + 1=>by
    rw [d9,List.mem_append,gW (k:=k),mK]
    constructor
    · rintro (⟨h1,h2,h3⟩|⟨h1,h2,h3⟩)
      · exact⟨by omega,h2,h3⟩
      · exact⟨by omega,by omega,by rw [h1];exact h3⟩
    · rintro⟨h1,h2,h3⟩
      by_cases c:t.a < k
      · exact .inl ⟨c,h2,h3⟩
      · have:t.a=k:=by omega
        exact .inr ⟨this,by omega,by rw [← this];exact h3⟩
theorem yM {R:List (List (Nat × Int))}(nd:∀ i,((R.getD i []).map (·.1)).Nodup):∀ k,(d9 R k).Pairwise f7
  | 0=>by simp [d9]
  | k + 1=>by
    rw [d9,List.pairwise_append]
    refine⟨yM nd k,?_,fun s hs t ht => ?_⟩
    · unfold eM
      rw [List.pairwise_map]
      have n1:=nd k
      rw [List.nodup_iff_pairwise_ne,List.pairwise_map] at n1
      refine (n1.filter _).imp_of_mem fun {a b} ha hb h => ?_
      have a1:k < a.1:=by simpa using (List.mem_filter.mp ha).2
      exact⟨fun z=>h z.2,fun z=>by have:=z.2;simp at this;omega⟩
    · obtain⟨h1,h2,_⟩:=gW.mp hs
      obtain⟨h3,h4,_⟩:=mK.mp ht
      exact⟨fun z=>by omega,fun z=>by omega⟩
theorem mL {R:List (List (Nat × Int))}(l:∀ i,(R.getD i []).length≤30):∀ k,(d9 R k).length≤30 * k
  | 0=>by simp [d9]
  | k + 1=>by
    have ih:=mL l k
    have h1:(eM k (R.getD k [])).length≤(R.getD k []).length:=by unfold eM;rw [List.length_map];exact List.length_filter_le _ _
    have h2:=l k
    rw [d9,List.length_append]
    omega
theorem DR {n:Nat}{T:List Tie}{bs:List Int}{ss:List (Option Int)}{p:Nat}(h:p < n):(d8 n T bs ss).ties.getD p [] = bP (nbs T p):=by simp [d8,List.getD,h]
theorem mM:∀ r:List (Nat × Int),(bP r).length=r.length:=fun r=>by
  have:=uk (fun _=>1) r
  have q:∀ l:List (Nat × Int),(l.map fun _=>(1:Int)).sum=l.length:=fun l=>by
    induction l with
    | nil=>rfl
    | cons x l ih=>simp only [List.map_cons,List.sum_cons,ih,List.length_cons];omega
  rw [q,q] at this
  omega
theorem vD {n:Nat}{T:List Tie}(lt:∀ t∈T,t.a < n∧t.b < n)(un:T.Pairwise f7)(i:Nat):(nbs T i).length≤n:=by
  have:=Gh (mJ un i) (n:=n) fun x hx=>by
    obtain⟨p,hp,rfl⟩:=List.mem_map.mp hx
    exact pk lt p hp
  simpa using this
def ir (n:Nat) (T:List Tie):List Tie:=d9 ((List.range n).map fun i=>bP (nbs T i)) n
theorem oj {n:Nat}{T:List Tie}(hn:n≤30)(O:TOk n n 0 T):TOk n n 0 (ir n T) ∧ ∀ i,i < n→bP (nbs (ir n T) i)=bP (nbs T i):=by
  have row:∀ {i:Nat},i < n→(((List.range n).map fun i=>bP (nbs T i)).getD i [])=bP (nbs T i):=fun {i} hi=>by simp [List.getD,hi]
  have row0:∀ {i:Nat},¬ i < n→(((List.range n).map fun i=>bP (nbs T i)).getD i [])=[]:=fun {i} hi=>by simp [List.getD,hi]
  have mem:∀ {t:Tie},t∈ir n T ↔ t.a < n∧t.a < t.b∧(t.b,t.w)∈nbs T t.a:=fun {t}=>by
    unfold ir
    rw [gW]
    constructor
    · rintro⟨h1,h2,h3⟩
      rw [row h1,dk] at h3
      exact⟨h1,h2,h3⟩
    · rintro⟨h1,h2,h3⟩
      exact⟨h1,h2,by rw [row h1,dk];exact h3⟩
  have nd:∀ i,((((List.range n).map fun i=>bP (nbs T i)).getD i []).map (·.1)).Nodup:=fun i=>by
    by_cases hi:i < n
    · rw [row hi,List.nodup_iff_pairwise_ne,List.pairwise_map]
      exact (gb (mJ O.un i)).imp fun {a b} h e=>by omega
    · rw [row0 hi];simp
  have ok:TOk n n 0 (ir n T):=by
    refine⟨fun t ht => ?_,fun t ht => ?_,fun t ht => ?_,fun t ht => ?_,yM nd n,?_⟩
    · have:=(mem.mp ht).2.1;omega
    · obtain⟨h1,h2,h3⟩:=mem.mp ht
      exact⟨h1,pk O.lt _ h3⟩
    · obtain⟨h1,h2,h3⟩:=mem.mp ht
      obtain⟨s,hs,_,q⟩:=ff.mp h3
      have q:s.w=t.w:=q
      rw [← q]
      exact O.wt s hs
    · obtain⟨h1,h2,h3⟩:=mem.mp ht
      exact .inl ⟨h1,pk O.lt _ h3⟩
    · have:=mL (R:=(List.range n).map fun i=>bP (nbs T i)) (fun i=>by
        by_cases hi:i < n
        · rw [row hi,mM]
          have:=vD O.lt O.un i
          omega
        · rw [row0 hi];simp) n
      exact this
  refine⟨ok,fun i hi=>A7 (mJ ok.un i) (mJ O.un i) fun p => ?_⟩
  obtain⟨j,x⟩:=p
  constructor
  · intro h
    obtain⟨t,ht,q1,q2⟩:=ff.mp h
    obtain⟨h1,h2,h3⟩:=mem.mp ht
    have q2:t.w=x:=q2
    subst q2
    unfold far at q1
    by_cases a1:t.a=i
    · rw [if_pos a1] at q1
      have q1:t.b=j:=by simpa using q1
      rw [← q1,← a1];exact h3
    · rw [if_neg a1] at q1
      by_cases a2:t.b=i
      · rw [if_pos a2] at q1
        have q1:t.a=j:=by simpa using q1
        rw [← q1,← a2];exact yL O.ne h3
      · rw [if_neg a2] at q1;cases q1
  · intro h
    obtain⟨s,hs,q1,q2⟩:=ff.mp h
    have hne:i≠j:=KG (O.ne s hs) q1
    have hj:=pk O.lt _ h
    by_cases c:i < j
    · exact ff.mpr ⟨⟨i,j,x⟩,mem.mpr ⟨hi,c,h⟩,by simp [far],rfl⟩
    · exact ff.mpr ⟨⟨j,i,x⟩,mem.mpr ⟨hj,by show j < i;omega,yL O.ne h⟩,by simp [far,Ne.symm hne],rfl⟩
theorem A8 {n:Nat}{T S:List Tie}(bs:List Int)(ss:List (Option Int))(h:∀ i,i < n→bP (nbs S i)=bP (nbs T i)):d8 n S bs ss=d8 n T bs ss:=by
  unfold d8
  congr 1
  apply List.map_congr_left
  intro i hi
  exact h i (List.mem_range.mp hi)
theorem A9 {n:Nat}{T:List Tie}(hn:n≤30)(O:TOk n n 0 T)(bs:List Int)(ss:List (Option Int)):d8 n (ir n T) bs ss=d8 n T bs ss:=A8 bs ss (oj hn O).2
end Fm
set_option linter.all false
namespace Fm
noncomputable def eQ:Fn:=bJ 1 1 (a7 (aT (lOf (fAt (aa 0) (fC (.int 1))))))
noncomputable def dZ:Fn:=bJ 1 1 (a7 (aT (lOf (fAt (aa 0) (fC (.int 2))))))
noncomputable abbrev iu:SF:=(fm (jb (aa 1) (aJ 2 [2] (bd (am dj (ab (aa 0) (ab (aa 2) ak)))) (gT [0,1]) [(tE (aj oLt (aa 2) (aa 0)))] (fH (ab (aa 2) (ab (aa 0) (ab (aa 1) ak)))))))
noncomputable def cD:Fn:=bJ 1 3 (aB (aF (gN 1) (aT ak))
    (aB (fJ (cX (am b9 (ab (aa 0) ak))) (gN 2) iu)
    (a7 (aa 1))))
theorem Gk {w:Web}{n:Nat}(W:w.Ok n)(h:Hd):b9 [w.enc] h=.ok (.int n) h:=by
  simp [b9,bJ,runB,Web.enc,W.t]
theorem Ba {w:Web}{n:Nat}(W:w.Ok n)(h:Hd):eQ [w.enc] h=.ok (.ref h.length) (h++[.lst (w.bars.map .int)]):=by
  have z:w.bars.length≤1000000:=by have:=W.b;have:=W.sz;omega
  simp [eQ,bJ,runB,Web.enc,SZ,z]
theorem yN {w:Web}{n:Nat}(W:w.Ok n)(h:Hd):dZ [w.enc] h=.ok (.ref h.length) (h++[.lst (w.stays.map bf)]):=by
  have z:w.stays.length≤1000000:=by have:=W.s;have:=W.sz;omega
  simp [dZ,bJ,runB,Web.enc,SZ,z]
theorem Bb (i:Nat)(r:List (Nat × Int))(h:Hd):bQ none (r.map ft) (gT [0,1]) [(tE (aj oLt (aa 2) (aa 0)))] (fH (ab (aa 2) (ab (aa 0) (ab (aa 1) ak)))) (r.map ft) [none,none,some (.int i)] h=.ok ((eM i r).map ay) h:=by
  have:=bi (g:=none) (all:=r.map ft) (tg:=gT [0,1]) (cs:=[(tE (aj oLt (aa 2) (aa 0)))]) (e:=fH (ab (aa 2) (ab (aa 0) (ab (aa 1) ak)))) (h:=h) (I:=fun σ=>∃ a b,σ = [a,b,some (.int i)])
    (fun d=>match d with | .tup [.int j,_]=>decide ((i:Int) < j)|_=>false) (fun d=>match d with | .tup [j,x]=>.tup [.int i,j,x] | _=>.non) trivial (xs:=r.map ft) (σ:=[none,none,some (.int i)]) (by
    rintro x hx σ ⟨a,b,rfl⟩
    obtain⟨p,_,rfl⟩:=List.mem_map.mp hx
    exact⟨_,rfl,⟨_,_,rfl⟩,by by_cases c:i < p.1<;>simp [ft,c],fun _=>rfl⟩) ⟨_,_,rfl⟩
  rw [this]
  congr 1
  clear this
  induction r with
  | nil=>rfl
  | cons p r ih =>
    unfold eM at ih ⊢
    by_cases c:i < p.1
    · have c2:(i:Int) < (p.1:Int):=by omega
      simp only [List.map_cons,List.filter_cons,ft,decide_eq_true c,decide_eq_true c2,if_true,List.map_cons] at ih ⊢
      rw [ih]
      rfl
    · have c2 : ¬ (i:Int) < (p.1:Int):=by omega
      simp only [List.map_cons,List.filter_cons,ft,decide_eq_false c,decide_eq_false c2,Bool.false_eq_true,if_false] at ih ⊢
      rw [ih]
theorem vE {w:Web}{n:Nat}(W:w.Ok n)(n30:n≤30)(hr:∀ i,(w.ties.getD i []).length≤30)(h:Hd):cD [w.enc] h=.ok (.ref h.length) (h++[.lst ((d9 w.ties n).map ay)]):=by
  have s1:aF (gN 1) (aT ak) [some w.enc,none,none] h=.nx [some w.enc,some (.ref h.length),none] (h++[.lst []]):=by simp [SZ]
  obtain⟨σ',h',q,y,e1,e2⟩:=d7 (P:=fun i σ h'=>∃ y,σ = [some w.enc,some (.ref h.length),y]∧h'=h++[.lst ((d9 w.ties i).map ay)]) (g:=none) (k:=0)
    (all:=(List.range n).map fun k:Nat=>D.int k) (fun _ _ _ _=>trivial) (xs:=(List.range n).map fun k:Nat=>D.int k) (tg:=gN 2) (σ:=[some w.enc,some (.ref h.length),none]) (h:=h++[.lst []]) (b:=iu) (by
    rintro i d σ h0 hx ⟨y,rfl,rfl⟩
    rw [Nat.zero_add] at *
    obtain⟨hi,rfl⟩:=gS hx
    have hit:i < w.ties.length:=by rw [W.t];exact hi
    obtain⟨r,er⟩ : ∃ r,r=w.ties.getD i []:=⟨_,rfl⟩
    have er2:w.ties[i]? = some r:=by rw [er];simp [List.getD,hit]
    have lr:r.length≤30:=by rw [er];exact hr i
    obtain⟨L,hL⟩ : ∃ L,L=(d9 w.ties i).map ay:=⟨_,rfl⟩
    have lL:L.length≤30 * 30:=by
      have:=mL hr i
      rw [hL,List.length_map]
      omega
    have lR:((eM i r).map ay).length≤30:=by
      have h1:(eM i r).length≤r.length:=by unfold eM;rw [List.length_map];exact List.length_filter_le _ _
      rw [List.length_map];omega
    have en:(d9 w.ties (i + 1)).map ay=L++(eM i r).map ay:=by rw [d9,List.map_append,← hL,← er]
    rw [← hL,en]
    obtain⟨H,hH⟩ : ∃ H:Hd,H=h++[.lst L]:=⟨_,rfl⟩
    have g1:H[h.length]? = some (.lst L):=by rw [hH];simp
    have g2:H.set h.length (.lst (L++(eM i r).map ay))=h++[.lst (L++(eM i r).map ay)]:=by rw [hH];simp
    have t:=yB w H er2
    have k:aJ 2 [2] (bd (am dj (ab (aa 0) (ab (aa 2) ak)))) (gT [0,1]) [(tE (aj oLt (aa 2) (aa 0)))] (fH (ab (aa 2) (ab (aa 0) (ab (aa 1) ak)))) [some w.enc,some (.ref h.length),some (.int i)] H=.ok ((eM i r).map ay) H:=by
      have q:bd (am dj (ab (aa 0) (ab (aa 2) ak))) [some w.enc,some (.ref h.length),some (.int i)] H=.ok (r.map ft,none) H:=by simp [t,cA]
      generalize bd (am dj (ab (aa 0) (ab (aa 2) ak)))=I at q ⊢
      simp only [aJ,q,aq]
      exact Bb i r H
    refine⟨_,rfl,[some w.enc,some (.ref h.length),some (.int i)],h++[.lst (L++(eM i r).map ay)],?_,_,rfl,rfl⟩
    show fm (jb (aa 1) _) [some w.enc,some (.ref h.length),some (.int i)] (h++[.lst L])=_
    rw [← hH,← g2]
    generalize aJ 2 [2] (bd (am dj (ab (aa 0) (ab (aa 2) ak)))) (gT [0,1]) [(tE (aj oLt (aa 2) (aa 0)))] (fH (ab (aa 2) (ab (aa 0) (ab (aa 1) ak))))=E at k ⊢
    generalize (eM i r).map ay=M at k lR ⊢
    have z:L.length + M.length≤1000000:=by omega
    simp [g1,k,SZ,z]) ⟨none,rfl,by simp [d9]⟩
  have z1 : -1000000≤(n:Int):=by omega
  have z2:(n:Int)≤1000000:=by omega
  have s2:fJ (cX (am b9 (ab (aa 0) ak))) (gN 2) iu [some w.enc,some (.ref h.length),none] (h++[.lst []])=.nx σ' h':=by
    have q1:cX (am b9 (ab (aa 0) ak)) [some w.enc,some (.ref h.length),none] (h++[.lst []])=.ok ((List.range n).map fun k:Nat=>D.int k,none) (h++[.lst []]):=by simp [Gk W,z1,z2]
    generalize cX (am b9 (ab (aa 0) ak))=I at q1 ⊢
    simp only [fJ,q1,aq]
    exact q
  have st:([w.enc].map some++List.replicate (3 - [w.enc].length) none:Sd)=[some w.enc,none,none]:=rfl
  unfold cD bJ runB
  rw [if_pos (show [w.enc].length=1 from rfl),st,az s1,az s2,e1,e2]
  simp
theorem qx {n:Nat}(hn:n≤30){T:List Tie}(O:TOk n n 0 T){bs:List Int}{ss:List (Option Int)}(lb:bs.length=n)(ls:ss.length=n)(h:Hd):cD [(d8 n T bs ss).enc] h=.ok (.ref h.length) (h++[.lst ((ir n T).map ay)]):=by
  refine vE (pr hn O lb ls) hn (fun i => ?_) h
  by_cases hi:i < n
  · rw [DR hi,mM]
    have:=vD O.lt O.un i
    omega
  · simp [d8,List.getD,hi]
end Fm
set_option linter.all false
namespace Fm
noncomputable def c6:Fn:=bJ 1 3 (aB (aF (gN 1) (am b9 (ab (aa 0) ak)))
    (aB (aF (gN 2) (aT (ab (fFs (b6 (fC (.str [112,101,111,112,108,101,32])) (b6 (dW (aa 1)) mD))) ak)))
    (aB (fm (jb (aa 2) (aJ 3 [] (bd (am cD (ab (aa 0) ak))) (gT [0,1,2]) [] (fFs (b6 (fC (.str [116,105,101,32])) (b6 (dW (aa 0)) (b6 (fC (.str [32])) (b6 (dW (aa 1)) (b6 (fC (.str [32])) (b6 (dW (aa 2)) mD))))))))))
    (aB (fm (jb (aa 2) (aJ 1 [] (bd (am eQ (ab (aa 0) ak))) (gN 0) [] (fFs (b6 (fC (.str [98,97,114,32])) (b6 (dW (aa 0)) mD))))))
    (aB (fm (jb (aa 2) (aJ 1 [] (bd (am dZ (ab (aa 0) ak))) (gN 0) [] (fIf (tE (aj ml (aa 0) (fC .non))) (fC (.str [102,114,101,101])) (fFs (b6 (fC (.str [115,116,97,121,115,32])) (b6 (dW (aa 0)) mD)))))))
    (a7 (jc [10] (lOf (aa 2)))))))))
noncomputable def cE:Fn:=bJ 1 2 (aB (aF (gN 1) (fIf (tE (io (aa 0) (fC (.str [45])))) (n8 (aa 0) (pAt (fC (.int 1))) pNo) (aa 0)))
    (aB (sIf (bx (tE (am aC (ab (CF (aa 1)) (ab (fC (.int 1)) (ab (fC (.int 60)) ak)))))) (a7 (fC (.bl false))) br)
    (aB (sIf (bx (tE (oF (aJ 1 [] (FD (aa 1)) (gN 0) [] (aj Dy (aa 0) (fC (.str [48,49,50,51,52,53,54,55,56,57]))))))) (a7 (fC (.bl false))) br)
    (a7 (fT (tOr (tE (aj oNe (HJ (aa 1) (fC (.int 0))) (fC (.str [48])))) (tE (aj oEq (aa 0) (fC (.str [48]))))))))))
noncomputable def aQ:Fn:=bJ 2 3 (aB (aF (gN 2) (aT (kf 32 (aa 1))))
    (aB (sIf (tOr (tE (aj oNe (fAt (aa 2) (fC (.int 0))) (aa 0))) (bx (tE (oF (aJ 1 [] (bd (gu (aa 2) (pAt (fC (.int 1))) pNo)) (gN 0) [] (am cE (ab (aa 0) ak))))))) (a7 (aT ak)) br)
    (a7 (aT (aJ 1 [] (bd (gu (aa 2) (pAt (fC (.int 1))) pNo)) (gN 0) [] (t8 (aa 0)))))))
noncomputable def ed:Fn:=bJ 1 2 (aB (aF (gN 1) (am aQ (ab (fC (.str [112,101,111,112,108,101])) (ab (fAt (aa 0) (fC (.int 0))) ak))))
    (aB (sIf (tOr (tE (aj oNe (cx (lOf (aa 1))) (fC (.int 1)))) (bx (tE (am aC (ab (fAt (aa 1) (fC (.int 0))) (ab (fC (.int 1)) (ab (fC (.int 30)) ak))))))) dH br)
    (a7 (fAt (aa 1) (fC (.int 0))))))
noncomputable def cr:Fn:=bJ 2 2 (a7 (fT (uK (tE (aj oLt (fAt (aa 1) (fC (.int 0))) (fAt (aa 1) (fC (.int 1))))) (tOr (tE (aj oEq (aa 0) (aT ak))) (tE (aj HG (im (fAt (aa 0) (fC (.int (-1)))) pNo (pAt (fC (.int 2)))) (im (aa 1) pNo (pAt (fC (.int 2))))))))))
noncomputable abbrev dn:SF:=(aB (sIf (bx (tE (io (fAt (aa 0) (aa 3)) (fC (.str [116,105,101,32]))))) Hu br)
    (aB (aF (gN 4) (fk (lOf (am aQ (ab (fC (.str [116,105,101])) (ab (fAt (aa 0) (aa 3)) ak))))))
    (aB (sIf (tOr (bx (tE (am fu (ab (aa 1) (ab (aa 4) ak))))) (bx (tE (am cr (ab (aa 2) (ab (aa 4) ak)))))) dH br)
    (fm (kB (aa 2) (aa 4))))))
noncomputable def ef:Fn:=bJ 2 5 (aB (aF (gN 2) (aT ak))
    (aB (fJ (e7 (fC (.int 1)) (cx (lOf (aa 0)))) (gN 3) dn)
    (a7 (aa 2))))
noncomputable def dq:Fn:=bJ 2 2 (aB (sIf (tE (aj oEq (aa 1) (cx (lOf (aa 0))))) dH br)
    (a7 (fAt (aa 0) (aa 1))))
noncomputable abbrev kU:SF:=(aB (aF (gN 5) (am aQ (ab (fC (.str [98,97,114])) (ab (am dq (ab (aa 0) (ab (aa 4) ak))) ak))))
    (aB (sIf (tE (aj oNe (cx (lOf (aa 5))) (fC (.int 1)))) dH br)
    (fm (yr (aa 3) (aa 5)))))
noncomputable def eh:Fn:=bJ 3 6 (aB (aF (gN 3) (aT ak))
    (aB (fJ (e7 (aa 1) (aj cb (aa 1) (aa 2))) (gN 4) kU)
    (a7 (aa 3))))
noncomputable abbrev jT:SF:=(aB (aF (gN 5) (am dq (ab (aa 0) (ab (aa 4) ak))))
    (aB (sIf (tE (n6 [([102,114,101,101],none),([115,116,97,121,115,32,48],some 0),([115,116,97,121,115,32,49],some 1)] (aa 5))) dH br)
    (fm (kB (aa 3) (ve [([102,114,101,101],none),([115,116,97,121,115,32,48],some 0),([115,116,97,121,115,32,49],some 1)] (aa 5))))))
noncomputable def dr:Fn:=bJ 3 6 (aB (aF (gN 3) (aT ak))
    (aB (fJ (e7 (aa 1) (aj cb (aa 1) (aa 2))) (gN 4) jT)
    (a7 (aa 3))))
noncomputable def d5:Fn:=bJ 1 7 (aB (sIf (bx (tE (bA .str (aa 0)))) dH br)
    (aB (aF (gN 1) (aT (kf 10 (aa 0))))
    (aB (aF (gN 2) (am ed (ab (aa 1) ak)))
    (aB (aF (gN 3) (am ef (ab (aa 1) (ab (aa 2) ak))))
    (aB (aF (gN 4) (am eh (ab (aa 1) (ab (aj cb (fC (.int 1)) (cx (lOf (aa 3)))) (ab (aa 2) ak)))))
    (aB (aF (gN 5) (am dr (ab (aa 1) (ab (aj cb (aj cb (fC (.int 1)) (cx (lOf (aa 3)))) (aa 2)) (ab (aa 2) ak)))))
    (aB (aF (gN 6) (aj cb (aj cb (fC (.int 1)) (cx (lOf (aa 3)))) (aj gI (fC (.int 2)) (aa 2))))
    (aB (sIf (tE (aj oGt (cx (lOf (aa 1))) (aa 6))) dH br)
    (a7 (am dL (ab (aa 2) (ab (aa 3) (ab (aa 4) (ab (aa 5) ak))))))))))))))
noncomputable abbrev mN:SF:=(sIf (tE (aj ml (aa 8) (fC .non))) (fm (kB (aa 6) (fC (.str [102,114,101,101])))) (fm (kB (aa 6) (aj iV (fC (.str [115,116,97,121,115,32])) (dW (aa 8))))))
noncomputable def jf:Fn:=bJ 1 9 (aB (aF (gT [1,2,3,4,5]) (aa 0))
    (aB (aF (gN 6) (aT (ab (aj iV (fC (.str [112,101,111,112,108,101,32])) (dW (aa 1))) ak)))
    (aB (aF (gN 7) (aT (mG (aT (aJ 3 [] (bd (aa 2)) (gT [0,1,2]) [] (fH (ab (vd (aa 0) (aa 1)) (ab (va (aa 0) (aa 1)) (ab (aa 2) ak)))))))))
    (aB (aF (gN 6) (aT (gQ (aa 6) (aT (aJ 3 [] (bd (aa 7)) (gT [0,1,2]) [] (jc [32] (ab (fC (.str [116,105,101])) (ab (dW (aa 0)) (ab (dW (aa 1)) (ab (dW (aa 2)) ak))))))))))
    (aB (aF (gN 6) (aT (gQ (aa 6) (aT (aJ 1 [] (bd (aa 3)) (gN 0) [] (aj iV (fC (.str [98,97,114,32])) (dW (aa 0))))))))
    (aB (fJ (bd (aa 4)) (gN 8) mN)
    (a7 (jc [10] (lOf (aa 6))))))))))
noncomputable abbrev iy:SF:=(aF (gN 1) (aT (gQ (aa 1) (aT (lOf (aa 3))))))
noncomputable abbrev km:SF:=(aB (sIf (tOr (bx (tE (bA .tuple (aa 2)))) (tE (aj oGt (cx (aJ 1 [] (bd (aa 2)) (gN 0) [(bx (tE (bA .tuple (aa 0))))] (aa 0))) (fC (.int 0))))) (a7 (fC (.bl false))) br)
    (fJ (bd (aa 2)) (gN 3) iy))
noncomputable def fP:Fn:=bJ 1 4 (aB (sIf (tOr (bx (tE (bA .tuple (aa 0)))) (tE (aj oGt (cx (aJ 1 [] (bd (aa 0)) (gN 0) [(bx (tE (bA .tuple (aa 0))))] (aa 0))) (fC (.int 0))))) (a7 (fC (.bl false))) br)
    (aB (aF (gN 1) (aT (gQ (aT (lOf (fAt (aa 0) (fC (.int 1))))) (aT (aJ 1 [] (bd (fAt (aa 0) (fC (.int 2)))) (gN 0) [(tE (aj eZ (aa 0) (fC .non)))] (aa 0))))))
    (aB (fJ (bd (fAt (aa 0) (fC (.int 0)))) (gN 2) km)
    (a7 (aj oEq (cx (aJ 1 [] (bd (aa 1)) (gN 0) [(tOr (tE (bA .bool (aa 0))) (bx (tE (bA .int (aa 0)))))] (aa 0))) (fC (.int 0)))))))
noncomputable def gX:Fn:=bJ 1 1 (a7 (fH (ab (fAt (aa 0) (fC (.int 0))) (ab (gu (fAt (aa 0) (fC (.int 1))) pNo (pAt (fC (.int 250)))) (ab (fAt (aa 0) (fC (.int 2))) (ab (fAt (aa 0) (fC (.int 3))) (ab (fAt (aa 0) (fC (.int 4))) ak)))))))
noncomputable abbrev Gm:SF:=(aF (gN 1) (am gX (ab (am eO (ab (aa 0) ak)) ak)))
noncomputable abbrev Gn:SF:=(aF (gN 2) (am dL (ab (fAt (aa 1) (fC (.int 0))) (ab (aT (lOf (fAt (aa 1) (fC (.int 1))))) (ab (aT (lOf (fAt (aa 1) (fC (.int 2))))) (ab (aT (lOf (fAt (aa 1) (fC (.int 3))))) ak))))))
noncomputable abbrev Go:SF:=(aF (gN 3) (am jf (ab (aa 1) ak)))
noncomputable abbrev Gp:SF:=(sIf (tE (aj oNe (am c6 (ab (aa 2) ak)) (aa 3))) (a7 (fC (.bl false))) br)
noncomputable abbrev Gq:SF:=(aF (gN 4) (am d5 (ab (aa 3) ak)))
noncomputable abbrev Gr:SF:=(sIf (tOr (tE (aj oNe (aa 4) (aa 2))) (tOr (bx (tE (am fP (ab (aa 4) ak)))) (tOr (tE (aj oNe (am c6 (ab (aa 4) ak)) (aa 3))) (tE (aj oNe (am d5 (ab (aa 3) ak)) (aa 2)))))) (a7 (fC (.bl false))) br)
noncomputable abbrev Gs:SF:=(a7 (aj oEq (am c6 (ab (aa 2) ak)) (aa 3)))
noncomputable def CV:Fn:=bJ 1 5 (aB Gm (aB Gn (aB Go (aB Gp (aB Gq (aB Gr Gs))))))
end Fm
set_option Elab.async false
set_option linter.all false
set_option maxRecDepth 100000
set_option maxHeartbeats 4000000
namespace Fm
open PySem PySem.Spec L2
section
abbrev d6 (i : Nat) : Stmt := PySem.Challenge.pw_followmost_k48_webs_written.main.body.getD i (.Pass ⟨0, 0, 0, 0⟩)
abbrev eR:Stmt:=d6 5
abbrev dt:Stmt:=d6 6
abbrev du:Stmt:=d6 7
abbrev gY:Stmt:=d6 18
abbrev dw:Stmt:=d6 17
abbrev ej:Stmt:=d6 19
abbrev dy:Stmt:=d6 20
abbrev gZ:Stmt:=d6 11
abbrev fQ:Stmt:=d6 12
abbrev fR:Stmt:=d6 13
abbrev fS:Stmt:=d6 14
abbrev eS:Stmt:=d6 15
abbrev ek:Stmt:=d6 16
abbrev eU:Stmt:=d6 25
abbrev el:Stmt:=d6 27
abbrev bX:Stmt:=d6 34
abbrev eu:Stmt:=d6 28
abbrev cO:Stmt:=d6 30
abbrev ev:Stmt:=d6 29
abbrev fU:Stmt:=d6 33
abbrev eA:Stmt:=d6 31
abbrev dz:Stmt:=d6 32
abbrev eV:Stmt:=d6 26
abbrev dA:Stmt:=d6 36
abbrev dB:Stmt:=d6 37
abbrev eW:Stmt:=d6 38
abbrev cP:Stmt:=d6 39
abbrev eB:Stmt:=d6 40
abbrev dC:Stmt:=d6 41
abbrev dD:Stmt:=d6 42
abbrev kW:Stmt:=d6 43
variable {P:Program} {w:World} {K:PySem.W.Frag} {mg:Str→Option Value} {base:Heap} {f:Addr} {fd:FuncData}
theorem yO:aR ["thing"] ["thing"] (ah eR):=⟨rfl,rfl,rfl,by decide +kernel,rfl,by decide +kernel,by decide +kernel⟩
theorem yP (F:Fun K "is_whole" "is_whole" eR f fd) (ax:mg "isinstance" = none) (mU:mg "bool" = none) (k6:mg "int" = none):b7 P w K mg base CX0 1 f fd ["thing"] (spF K b5 1):=by
  refine bY F yO fun cdv A outer s H E hr => ?_
  have hu:=dU hr
  exact (ai (aO (MB.me (uV (fW (df (t:=.int) rfl ax rfl k6 (by decide +kernel) (mv 0))) (i7 (Jy (fW (df (t:=.bool) rfl ax rfl mU (by decide +kernel) (mv 0)))))))))
theorem qy:aR ["thing", "least", "most"] ["thing", "least", "most"] (ah dt):=⟨rfl,rfl,rfl,by decide +kernel,rfl,by decide +kernel,by decide +kernel⟩
theorem qz (F:Fun K "is_between" "is_between" dt f fd) (gc:Def P w K mg base "is_whole" 1 1 b5):b7 P w K mg base CX0 2 f fd ["thing", "least", "most"] (spF K aC 3):=by
  refine bY F qy fun cdv A outer s H E hr => ?_
  have hu:=dU hr
  exact (ai (aO (MB.me (uV (fW (au gc (hr.mono (by decide)) rfl (ad (mv 0) ao) av)) (i7 (fW (E6 IB IB x8 x8 (mv 1) (mv 0) (mv 2))))))))
theorem qA:aR ["thing"] ["thing"] (ah du):=⟨rfl,rfl,rfl,by decide +kernel,rfl,by decide +kernel,by decide +kernel⟩
theorem qB (F:Fun K "is_opinion" "is_opinion" du f fd) (a9:Def P w K mg base "is_between" 2 3 aC):b7 P w K mg base CX0 3 f fd ["thing"] (spF K cf 1):=by
  refine bY F qA fun cdv A outer s H E hr => ?_
  have hu:=dU hr
  exact (ai (aO (au a9 (hr.mono (by decide)) rfl (ad (mv 0) (ad ag (ad ag ao))) av)))
theorem mO:aR ["many", "thing", "one", "other"] ["many", "thing"] (ah gY):=⟨rfl,rfl,rfl,by decide +kernel,rfl,by decide +kernel,by decide +kernel⟩
theorem DS (F:Fun K "is_tie" "is_tie" gY f fd) (a8:mg "len" = none) (ax:mg "isinstance" = none) (bD:mg "tuple" = none) {gy:Tok} (gz:mg "MOST_WEIGHT" = some (.int 400 gy)) (a9:Def P w K mg base "is_between" 2 3 aC):b7 P w K mg base CX0 3 f fd ["many", "thing"] (spF K fu 2):=by
  refine bY F mO fun cdv A outer s H E hr => ?_
  have hu:=dU hr
  exact (af (bM (MW.mt (gL (bT (bF (df (t:=.tuple) rfl ax rfl bD (by decide +kernel) (mv 1)))) (fV (bK (fB hu) iT (cG rfl a8 (cv (mv 1))) ag (a5 _)) (.inr rfl)))) (ai (aO ni)) aS)
    (af (aG (i:=2) mO.nd rfl (by first|exact .inl rfl|exact .inr rfl) (aY (mv 1) ag (fun _ _=>rfl)))
    (af (aG (i:=3) mO.nd rfl (by first|exact .inl rfl|exact .inr rfl) (aY (mv 1) ag (fun _ _=>rfl)))
    (af (bM (MW.mt (gL (bT (bF (au a9 (hr.mono (by decide)) rfl (ad (mv 2) (ad ag (ad (aZ uL Hv (mv 0) ag) ao))) av))) (fV (bT (bF (au a9 (hr.mono (by decide)) rfl (ad (mv 3) (ad ag (ad (aZ uL Hv (mv 0) ag) ao))) av))) (.inr rfl)))) (ai (aO ni)) aS)
    (ai (aO (MB.me (uV (fW (fy (fB hu) iT (mv 2) (mv 3) (a5 _))) (i7 (fW (au a9 (hr.mono (by decide)) rfl (ad (aY (mv 1) ag (fun _ _=>rfl)) (ad ag (ad (kD rfl gz) ao))) av)))))))))))
theorem dM:aR ["many", "ties", "near", "tie", "one", "other"] ["many", "ties"] (ah dw):=⟨rfl,rfl,rfl,by decide +kernel,rfl,by decide +kernel,by decide +kernel⟩
theorem qC (F:Fun K "neighbours" "neighbours" dw f fd) (bE:mg "range" = none) (ax:mg "isinstance" = none) (bW:mg "list" = none) (ji:Def P w K mg base "is_tie" 3 2 fu):b7 P w K mg base CX0 4 f fd ["many", "ties"] (spF K cJ 2):=by
  refine bY F dM fun cdv A outer s H E hr => ?_
  have hu:=dU hr
  exact (af (bM (bT (bF (df (t:=.list) rfl ax rfl bW (by decide +kernel) (mv 1)))) (ai dF) aS)
    (af (Hz (i:=2) dM.nd rfl (by first|exact .inl rfl|exact .inr rfl) (own:=["person"]) (capn:=[]) (caps:=[]) rfl (bG.mk' rfl (by decide +kernel) (by decide +kernel) (by repeat' (first|exact aH.nil|refine aH.cons (by first|exact (fun _=>.inl rfl)|exact (fun _=>.inr rfl)|(intro z;cases z;done)) ?_)) bS.nil) (gM rfl bE (mv 0))
      (fun cl C s H ex=>⟨(aD (i:=0) (show ((["person"] : List Str)++([] : List Str)).Nodup by decide +kernel) rfl (by first|exact .inl rfl|exact .inr rfl)),cH,HE⟩))
    (af (gw PassesOwn.never rfl (cz (mv 1)) (aD (i:=3) dM.nd rfl (by first|exact .inl rfl|exact .inr rfl)) (af (bM (bT (bF (au ji (hr.mono (by decide)) rfl (ad (mv 0) (ad (mv 3) ao)) av))) (ai dF) aS)
    (af (aG (i:=4) dM.nd rfl (by first|exact .inl rfl|exact .inr rfl) (aY (mv 3) ag (fun _ _=>rfl)))
    (af (aG (i:=5) dM.nd rfl (by first|exact .inl rfl|exact .inr rfl) (aY (mv 3) ag (fun _ _=>rfl)))
    (af (bM (bK (JR (Nat.lt_of_le_of_lt (Nat.add_le_add_left (by decide) _) hu)) JS (mv 5) (aY (mv 2) (mv 4) (fun _ _=>rfl)) rfl) (ai dF) aS)
    (af (CA (Nat.lt_of_le_of_lt (Nat.add_le_add_left (by decide) _) hu) (aY (mv 3) ag (fun _ _=>rfl)) (aY (mv 2) (mv 4) (fun _ _=>rfl)) (mv 5))
    (ai (CA (Nat.lt_of_le_of_lt (Nat.add_le_add_left (by decide) _) hu) (aY (mv 3) ag (fun _ _=>rfl)) (aY (mv 2) (mv 5) (fun _ _=>rfl)) (mv 4)))))))))
    (ai (aO (mv 2))))))
theorem vF:aR ["near", "bars"] ["near", "bars"] (ah ej):=⟨rfl,rfl,rfl,by decide +kernel,rfl,by decide +kernel,by decide +kernel⟩
theorem vG (F:Fun K "bars_told" "bars_told" ej f fd) (bD:mg "tuple" = none) (iX:mg "all" = none) (a8:mg "len" = none) (ax:mg "isinstance" = none) (bW:mg "list" = none) (gc:Def P w K mg base "is_whole" 1 1 b5):b7 P w K mg base CX0 2 f fd ["near", "bars"] (spF K cZ 2):=by
  refine bY F vF fun cdv A outer s H E hr => ?_
  have hu:=dU hr
  exact (af (bM (bK ou oJ (mv 1) gv (a5 _)) (ai dF) aS)
    (af (bM (MW.mt (gL (bT (bF (df (t:=.list) rfl ax rfl bW (by decide +kernel) (mv 1)))) (fV (bK (fB hu) iT (cG rfl a8 (cv (mv 1))) (cG rfl a8 (cv (mv 0))) (a5 _)) (.inr rfl)))) (ai dF) aS)
    (af (bM (bT (bF (vc rfl rfl iX (fX (bU (own:=["bar"]) (capn:=[]) (caps:=[]) rfl (bG.mk' rfl (by decide +kernel) (by decide +kernel) (by repeat' (first|exact aH.nil|refine aH.cons (by first|exact (fun _=>.inl rfl)|exact (fun _=>.inr rfl)|(intro z;cases z;done)) ?_)) bS.nil) (cz (mv 1))
      (fun cl C s H ex=>⟨(aD (i:=0) (show ((["bar"] : List Str)++([] : List Str)).Nodup by decide +kernel) rfl (by first|exact .inl rfl|exact .inr rfl)),cH,(au gc (hr.mono (by decide)) rfl (ad (mv 0) ao) av)⟩)))))) (ai dF) aS)
    (ai (aO (jF rfl bD (cv (mv 1))))))))
theorem qD:aR ["many", "stays"] ["many", "stays"] (ah dy):=⟨rfl,rfl,rfl,by decide +kernel,rfl,by decide +kernel,by decide +kernel⟩
theorem qE (F:Fun K "stays_told" "stays_told" dy f fd) (bD:mg "tuple" = none) (iX:mg "all" = none) (a8:mg "len" = none) (ax:mg "isinstance" = none) (bW:mg "list" = none) (bE:mg "range" = none) (iB:Def P w K mg base "is_opinion" 3 1 cf):b7 P w K mg base CX0 4 f fd ["many", "stays"] (spF K cK 2):=by
  refine bY F qD fun cdv A outer s H E hr => ?_
  have hu:=dU hr
  exact (af (bM (bK ou oJ (mv 1) gv (a5 _)) (ai (aO (jF rfl bD (fX (bU (own:=["person"]) (capn:=[]) (caps:=[]) rfl (bG.mk' rfl (by decide +kernel) (by decide +kernel) (by repeat' (first|exact aH.nil|refine aH.cons (by first|exact (fun _=>.inl rfl)|exact (fun _=>.inr rfl)|(intro z;cases z;done)) ?_)) bS.nil) (gM rfl bE (mv 0))
      (fun cl C s H ex=>⟨(aD (i:=0) (show ((["person"] : List Str)++([] : List Str)).Nodup by decide +kernel) rfl (by first|exact .inl rfl|exact .inr rfl)),cH,gv⟩)))))) aS)
    (af (bM (MW.mt (gL (bT (bF (df (t:=.list) rfl ax rfl bW (by decide +kernel) (mv 1)))) (fV (bK (fB hu) iT (cG rfl a8 (cv (mv 1))) (mv 0) (a5 _)) (.inr rfl)))) (ai dF) aS)
    (af (bM (bT (bF (vc rfl rfl iX (fX (bU (own:=["stay"]) (capn:=[]) (caps:=[]) rfl (bG.mk' rfl (by decide +kernel) (by decide +kernel) (by repeat' (first|exact aH.nil|refine aH.cons (by first|exact (fun _=>.inl rfl)|exact (fun _=>.inr rfl)|(intro z;cases z;done)) ?_)) bS.nil) (cz (mv 1))
      (fun cl C s H ex=>⟨(aD (i:=0) (show ((["stay"] : List Str)++([] : List Str)).Nodup by decide +kernel) rfl (by first|exact .inl rfl|exact .inr rfl)),cH,(MB.me (Ct (fW (fy ou oJ (mv 0) gv (a5 _))) (i7 (fW (au iB (hr.mono (by decide)) rfl (ad (mv 0) ao) av)))))⟩)))))) (ai dF) aS)
    (ai (aO (jF rfl bD (cv (mv 1))))))))
theorem mP:aR ["many", "ties", "bars", "stays", "near", "rows"] ["many", "ties", "bars", "stays"] (ah gZ):=⟨rfl,rfl,rfl,by decide +kernel,rfl,by decide +kernel,by decide +kernel⟩
theorem DT (F:Fun K "web_of" "web_of" gZ f fd) (bD:mg "tuple" = none) (g8:mg "sorted" = none) {dQ:Tok} (cQ:mg "MOST_PEOPLE" = some (.int 30 dQ)) (iC:Def P w K mg base "stays_told" 4 2 cK) (jj:Def P w K mg base "bars_told" 2 2 cZ) (iD:Def P w K mg base "neighbours" 4 2 cJ) (a9:Def P w K mg base "is_between" 2 3 aC):b7 P w K mg base CX0 5 f fd ["many", "ties", "bars", "stays"] (spF K dL 4):=by
  refine bY F mP fun cdv A outer s H E hr => ?_
  have hu:=dU hr
  exact (af (bM (bT (bF (au a9 (hr.mono (by decide)) rfl (ad (mv 0) (ad ag (ad (kD rfl cQ) ao))) av))) (ai dF) aS)
    (af (aG (i:=4) mP.nd rfl (by first|exact .inl rfl|exact .inr rfl) (au iD (hr.mono (by decide)) rfl (ad (mv 0) (ad (mv 1) ao)) av))
    (af (aG (i:=5) mP.nd rfl (by first|exact .inl rfl|exact .inr rfl) (jF rfl bD (fX (bU (own:=["row"]) (capn:=[]) (caps:=[]) rfl (bG.mk' rfl (by decide +kernel) (by decide +kernel) (by repeat' (first|exact aH.nil|refine aH.cons (by first|exact (fun _=>.inl rfl)|exact (fun _=>.inr rfl)|(intro z;cases z;done)) ?_)) bS.nil) (cz (mv 4))
      (fun cl C s H ex=>⟨(aD (i:=0) (show ((["row"] : List Str)++([] : List Str)).Nodup by decide +kernel) rfl (by first|exact .inl rfl|exact .inr rfl)),cH,(jF rfl bD (fX (FA rfl rfl g8 (mv 0))))⟩)))))
    (ai (aO (i8 (ad (mv 5) (ad (au jj (hr.mono (by decide)) rfl (ad (mv 4) (ad (mv 2) ao)) av) (ad (au iC (hr.mono (by decide)) rfl (ad (mv 0) (ad (mv 3) ao)) av) ao)))))))))
theorem Bc:aR ["web"] ["web"] (ah fQ):=⟨rfl,rfl,rfl,by decide +kernel,rfl,by decide +kernel,by decide +kernel⟩
theorem Bd (F:Fun K "many_of" "many_of" fQ f fd) (a8:mg "len" = none):b7 P w K mg base CX0 1 f fd ["web"] (spF K b9 1):=by
  refine bY F Bc fun cdv A outer s H E hr => ?_
  have hu:=dU hr
  exact (ai (aO (cG rfl a8 (cv (aY (mv 0) ag (fun _ _=>rfl))))))
theorem Be:aR ["web", "person"] ["web", "person"] (ah fR):=⟨rfl,rfl,rfl,by decide +kernel,rfl,by decide +kernel,by decide +kernel⟩
theorem Bf (F:Fun K "ties_of" "ties_of" fR f fd):b7 P w K mg base CX0 1 f fd ["web", "person"] (spF K dj 2):=by
  refine bY F Be fun cdv A outer s H E hr => ?_
  have hu:=dU hr
  exact (ai (aO (aY (aY (mv 0) ag (fun _ _=>rfl)) (mv 1) (fun _ _=>rfl))))
theorem Bg:aR ["web"] ["web"] (ah fS):=⟨rfl,rfl,rfl,by decide +kernel,rfl,by decide +kernel,by decide +kernel⟩
theorem Bh (F:Fun K "bars_of" "bars_of" fS f fd) (bW:mg "list" = none):b7 P w K mg base CX0 1 f fd ["web"] (spF K eQ 1):=by
  refine bY F Bg fun cdv A outer s H E hr => ?_
  have hu:=dU hr
  exact (ai (aO (bh (ii rfl bW (cv (aY (mv 0) ag (fun _ _=>rfl)))))))
theorem yQ:aR ["web"] ["web"] (ah eS):=⟨rfl,rfl,rfl,by decide +kernel,rfl,by decide +kernel,by decide +kernel⟩
theorem yR (F:Fun K "stays_of" "stays_of" eS f fd) (bW:mg "list" = none):b7 P w K mg base CX0 1 f fd ["web"] (spF K dZ 1):=by
  refine bY F yQ fun cdv A outer s H E hr => ?_
  have hu:=dU hr
  exact (ai (aO (bh (ii rfl bW (cv (aY (mv 0) ag (fun _ _=>rfl)))))))
theorem iz:aR ["web", "ties", "one"] ["web"] (ah ek):=⟨rfl,rfl,rfl,by decide +kernel,rfl,by decide +kernel,by decide +kernel⟩
theorem vH (F:Fun K "ties_once" "ties_once" ek f fd) (bE:mg "range" = none) (g9:Def P w K mg base "many_of" 1 1 b9) (mV:Def P w K mg base "ties_of" 1 2 dj):b7 P w K mg base CX0 2 f fd ["web"] (spF K cD 1):=by
  refine bY F iz fun cdv A outer s H E hr => ?_
  have hu:=dU hr
  exact (af (aG (i:=1) iz.nd rfl (by first|exact .inl rfl|exact .inr rfl) (bh (cy ao (fun _ _ _ _ z=>by rw [bv _ _ _ _ z];decide))))
    (af (gw PassesOwn.never rfl (gM rfl bE (au g9 (hr.mono (by decide)) rfl (ad (mv 0) ao) av)) (aD (i:=2) iz.nd rfl (by first|exact .inl rfl|exact .inr rfl)) (ai (de (n5 (mv 1) (bU (own:=["other", "weight"]) (capn:=["one"]) (caps:=[2]) rfl (bG.mk' rfl (by decide +kernel) (by decide +kernel) (by repeat' (first|exact aH.nil|refine aH.cons (by first|exact (fun _=>.inl rfl)|exact (fun _=>.inr rfl)|(intro z;cases z;done)) ?_)) (bS.cons rfl rfl bS.nil)) (cz (au mV (hr.mono (by decide)) rfl (ad (mv 0) (ad (mv 2) ao)) av))
      (fun cl C s H ex=>⟨(oK rfl (bR (aD (i:=0) (show ((["other", "weight"] : List Str)++(["one"] : List Str)).Nodup by decide +kernel) rfl (by first|exact .inl rfl|exact .inr rfl)) (bR (aD (i:=1) (show ((["other", "weight"] : List Str)++(["one"] : List Str)).Nodup by decide +kernel) rfl (by first|exact .inl rfl|exact .inr rfl)) kF))),(kG (bK EN x8 (mv 2) (mv 0) (a5 _))),(i8 (ad (mv 2) (ad (mv 0) (ad (mv 1) ao))))⟩))))))
    (ai (aO (mv 1)))))
theorem jg:aR ["web", "many", "lines"] ["web"] (ah eU):=⟨rfl,rfl,rfl,by decide +kernel,rfl,by decide +kernel,by decide +kernel⟩
theorem yS (F:Fun K "show_web" "show_web" eU f fd) (kq:Def P w K mg base "stays_of" 1 1 dZ) (mW:Def P w K mg base "bars_of" 1 1 eQ) (jm:Def P w K mg base "ties_once" 2 1 cD) (g9:Def P w K mg base "many_of" 1 1 b9):b7 P w K mg base CX0 3 f fd ["web"] (spF K c6 1):=by
  refine bY F jg fun cdv A outer s H E hr => ?_
  have hu:=dU hr
  exact (af (aG (i:=1) jg.nd rfl (by first|exact .inl rfl|exact .inr rfl) (au g9 (hr.mono (by decide)) rfl (ad (mv 0) ao) av))
    (af (aG (i:=2) jg.nd rfl (by first|exact .inl rfl|exact .inr rfl) (bh (cy (ad (CG (dR (cF [112,101,111,112,108,101,32] rfl) (dR (mE (mv 1)) vg))) ao) (fun _ _ _ _ z=>by rw [(aK bv) _ _ _ _ z];decide))))
    (af (de (n5 (mv 2) (bU (own:=["one", "other", "weight"]) (capn:=[]) (caps:=[]) rfl (bG.mk' rfl (by decide +kernel) (by decide +kernel) (by repeat' (first|exact aH.nil|refine aH.cons (by first|exact (fun _=>.inl rfl)|exact (fun _=>.inr rfl)|(intro z;cases z;done)) ?_)) bS.nil) (cz (au jm (hr.mono (by decide)) rfl (ad (mv 0) ao) av))
      (fun cl C s H ex=>⟨(oK rfl (bR (aD (i:=0) (show ((["one", "other", "weight"] : List Str)++([] : List Str)).Nodup by decide +kernel) rfl (by first|exact .inl rfl|exact .inr rfl)) (bR (aD (i:=1) (show ((["one", "other", "weight"] : List Str)++([] : List Str)).Nodup by decide +kernel) rfl (by first|exact .inl rfl|exact .inr rfl)) (bR (aD (i:=2) (show ((["one", "other", "weight"] : List Str)++([] : List Str)).Nodup by decide +kernel) rfl (by first|exact .inl rfl|exact .inr rfl)) kF)))),cH,(CG (dR (cF [116,105,101,32] rfl) (dR (mE (mv 0)) (dR (cF [32] rfl) (dR (mE (mv 1)) (dR (cF [32] rfl) (dR (mE (mv 2)) vg)))))))⟩))))
    (af (de (n5 (mv 2) (bU (own:=["bar"]) (capn:=[]) (caps:=[]) rfl (bG.mk' rfl (by decide +kernel) (by decide +kernel) (by repeat' (first|exact aH.nil|refine aH.cons (by first|exact (fun _=>.inl rfl)|exact (fun _=>.inr rfl)|(intro z;cases z;done)) ?_)) bS.nil) (cz (au mW (hr.mono (by decide)) rfl (ad (mv 0) ao) av))
      (fun cl C s H ex=>⟨(aD (i:=0) (show ((["bar"] : List Str)++([] : List Str)).Nodup by decide +kernel) rfl (by first|exact .inl rfl|exact .inr rfl)),cH,(CG (dR (cF [98,97,114,32] rfl) (dR (mE (mv 0)) vg)))⟩))))
    (af (de (n5 (mv 2) (bU (own:=["stay"]) (capn:=[]) (caps:=[]) rfl (bG.mk' rfl (by decide +kernel) (by decide +kernel) (by repeat' (first|exact aH.nil|refine aH.cons (by first|exact (fun _=>.inl rfl)|exact (fun _=>.inr rfl)|(intro z;cases z;done)) ?_)) bS.nil) (cz (au kq (hr.mono (by decide)) rfl (ad (mv 0) ao) av))
      (fun cl C s H ex=>⟨(aD (i:=0) (show ((["stay"] : List Str)++([] : List Str)).Nodup by decide +kernel) rfl (by first|exact .inl rfl|exact .inr rfl)),cH,(IG (bK ou oJ (mv 0) gv (a5 _)) (cF [102,114,101,101] rfl) (CG (dR (cF [115,116,97,121,115,32] rfl) (dR (mE (mv 0)) vg))))⟩))))
    (ai (aO (oZ (sp:=[10]) rfl (cv (mv 2))))))))))
theorem kX:aR ["text", "figures"] ["text"] (ah el):=⟨rfl,rfl,rfl,by decide +kernel,rfl,by decide +kernel,by decide +kernel⟩
theorem vI (F:Fun K "is_number" "is_number" el f fd) (iX:mg "all" = none) (a8:mg "len" = none) {mX:Tok} (mY:mg "FIGURES" = some (.str (PySem.Str.ofString "0123456789") mX)) {ge:Tok} (gf:mg "MOST_FIGURES" = some (.int 60 ge)) (a9:Def P w K mg base "is_between" 2 3 aC):b7 P w K mg base CX0 3 f fd ["text"] (spF K cE 1):=by
  refine bY F kX fun cdv A outer s H E hr => ?_
  have hu:=dU hr
  exact (af (aG (i:=1) kX.nd rfl (by first|exact .inl rfl|exact .inr rfl) (IG (bF (uc (mv 0) (cF [45] rfl))) (Dz (mv 0) (tW ag) tV) (mv 0)))
    (af (bM (bT (bF (au a9 (hr.mono (by decide)) rfl (ad (HL rfl a8 (mv 1)) (ad ag (ad (kD rfl gf) ao))) av))) (ai (aO ni)) aS)
    (af (bM (bT (bF (vc rfl rfl iX (fX (bU (own:=["sign"]) (capn:=[]) (caps:=[]) rfl (bG.mk' rfl (by decide +kernel) (by decide +kernel) (by repeat' (first|exact aH.nil|refine aH.cons (by first|exact (fun _=>.inl rfl)|exact (fun _=>.inr rfl)|(intro z;cases z;done)) ?_)) bS.nil) (J3 (mv 1))
      (fun cl C s H ex=>⟨(aD (i:=0) (show ((["sign"] : List Str)++([] : List Str)).Nodup by decide +kernel) rfl (by first|exact .inl rfl|exact .inr rfl)),cH,(J7 (mv 0) (FI [48,49,50,51,52,53,54,55,56,57] rfl rfl mY) rfl)⟩)))))) (ai (aO ni)) aS)
    (ai (aO (MB.me (Ct (fW (fy (fB hu) iT (J4 (mv 1) ag (fun _ _=>rfl)) (cF [48] rfl) (a5 _))) (i7 (fW (fy (fA hu) iS (mv 0) (cF [48] rfl) (a5 _)))))))))))
theorem gq:aR ["word", "line", "words"] ["word", "line"] (ah bX):=⟨rfl,rfl,rfl,by decide +kernel,rfl,by decide +kernel,by decide +kernel⟩
theorem kY (F:Fun K "numbers_behind" "numbers_behind" bX f fd) (k6:mg "int" = none) (iX:mg "all" = none) (jn:Def P w K mg base "is_number" 3 1 cE):b7 P w K mg base CX0 4 f fd ["word", "line"] (spF K aQ 2):=by
  refine bY F gq fun cdv A outer s H E hr => ?_
  have hu:=dU hr
  exact (af (aG (i:=2) gq.nd rfl (by first|exact .inl rfl|exact .inr rfl) (bh (yu (c:=32) rfl (mv 1))))
    (af (bM (MW.mt (gL (bK (fB hu) iT (aY (mv 2) ag (fun _ _=>rfl)) (mv 0) (a5 _)) (fV (bT (bF (vc rfl rfl iX (fX (bU (own:=["figures"]) (capn:=[]) (caps:=[]) rfl (bG.mk' rfl (by decide +kernel) (by decide +kernel) (by repeat' (first|exact aH.nil|refine aH.cons (by first|exact (fun _=>.inl rfl)|exact (fun _=>.inr rfl)|(intro z;cases z;done)) ?_)) bS.nil) (cz (oQ (mv 2) (tW ag) tV))
      (fun cl C s H ex=>⟨(aD (i:=0) (show ((["figures"] : List Str)++([] : List Str)).Nodup by decide +kernel) rfl (by first|exact .inl rfl|exact .inr rfl)),cH,(au jn (hr.mono (by decide)) rfl (ad (mv 0) ao) av)⟩)))))) (.inr rfl)))) (ai (aO (bh (cy ao (fun _ _ _ _ z=>by rw [bv _ _ _ _ z];decide))))) aS)
    (ai (aO (bh (bU (own:=["figures"]) (capn:=[]) (caps:=[]) rfl (bG.mk' rfl (by decide +kernel) (by decide +kernel) (by repeat' (first|exact aH.nil|refine aH.cons (by first|exact (fun _=>.inl rfl)|exact (fun _=>.inr rfl)|(intro z;cases z;done)) ?_)) bS.nil) (cz (oQ (mv 2) (tW ag) tV))
      (fun cl C s H ex=>⟨(aD (i:=0) (show ((["figures"] : List Str)++([] : List Str)).Nodup by decide +kernel) rfl (by first|exact .inl rfl|exact .inr rfl)),cH,(HQ rfl k6 (mv 0))⟩)))))))
theorem kZ:aR ["lines", "numbers"] ["lines"] (ah eu):=⟨rfl,rfl,rfl,by decide +kernel,rfl,by decide +kernel,by decide +kernel⟩
theorem vJ (F:Fun K "read_many" "read_many" eu f fd) (a8:mg "len" = none) {dQ:Tok} (cQ:mg "MOST_PEOPLE" = some (.int 30 dQ)) (a9:Def P w K mg base "is_between" 2 3 aC) (bL:Def P w K mg base "numbers_behind" 4 2 aQ):b7 P w K mg base CX0 5 f fd ["lines"] (spF K ed 1):=by
  refine bY F kZ fun cdv A outer s H E hr => ?_
  have hu:=dU hr
  exact (af (aG (i:=1) kZ.nd rfl (by first|exact .inl rfl|exact .inr rfl) (au bL (hr.mono (by decide)) rfl (ad (cF [112,101,111,112,108,101] rfl) (ad (aY (mv 0) ag (fun _ _=>rfl)) ao)) av))
    (af (bM (MW.mt (gL (bK (fB hu) iT (cG rfl a8 (cv (mv 1))) ag (a5 _)) (fV (bT (bF (au a9 (hr.mono (by decide)) rfl (ad (aY (mv 1) ag (fun _ _=>rfl)) (ad ag (ad (kD rfl cQ) ao))) av))) (.inr rfl)))) (ai dF) aS)
    (ai (aO (aY (mv 1) ag (fun _ _=>rfl))))))
theorem px:aR ["ties", "tie"] ["ties", "tie"] (ah cO):=⟨rfl,rfl,rfl,by decide +kernel,rfl,by decide +kernel,by decide +kernel⟩
theorem py (F:Fun K "is_next_tie" "is_next_tie" cO f fd):b7 P w K mg base CX0 1 f fd ["ties", "tie"] (spF K cr 2):=by
  refine bY F px fun cdv A outer s H E hr => ?_
  have hu:=dU hr
  exact (ai (aO (MB.me (uV (fW (fy EN x8 (aY (mv 1) ag (fun _ _=>rfl)) (aY (mv 1) ag (fun _ _=>rfl)) (a5 _))) (i7 (Ct (fW (fy (fA hu) iS (mv 0) (bh (cy ao (fun _ _ _ _ z=>by rw [bv _ _ _ _ z];decide))) (a5 _))) (i7 (fW (fy (Jn hr.units0) J0 (ua (aY (mv 0) Cy (fun _ _=>rfl)) tV (tW ag)) (ua (mv 1) tV (tW ag)) (a5 _))))))))))
theorem fL:aR ["lines", "many", "ties", "place", "tie"] ["lines", "many"] (ah ev):=⟨rfl,rfl,rfl,by decide +kernel,rfl,by decide +kernel,by decide +kernel⟩
theorem vK (F:Fun K "read_ties" "read_ties" ev f fd) (bE:mg "range" = none) (a8:mg "len" = none) (bD:mg "tuple" = none) (gB:Def P w K mg base "is_next_tie" 1 2 cr) (ji:Def P w K mg base "is_tie" 3 2 fu) (bL:Def P w K mg base "numbers_behind" 4 2 aQ):b7 P w K mg base CX0 5 f fd ["lines", "many"] (spF K ef 2):=by
  refine bY F fL fun cdv A outer s H E hr => ?_
  have hu:=dU hr
  exact (af (aG (i:=2) fL.nd rfl (by first|exact .inl rfl|exact .inr rfl) (bh (cy ao (fun _ _ _ _ z=>by rw [bv _ _ _ _ z];decide))))
    (af (gw PassesOwn.never rfl (mq rfl bE ag (cG rfl a8 (cv (mv 0)))) (aD (i:=3) fL.nd rfl (by first|exact .inl rfl|exact .inr rfl)) (af (bM (bT (bF (uc (aY (mv 0) (mv 3) (fun _ _=>rfl)) (cF [116,105,101,32] rfl)))) (ai Fb) aS)
    (af (aG (i:=4) fL.nd rfl (by first|exact .inl rfl|exact .inr rfl) (jF rfl bD (cv (au bL (hr.mono (by decide)) rfl (ad (cF [116,105,101] rfl) (ad (aY (mv 0) (mv 3) (fun _ _=>rfl)) ao)) av))))
    (af (bM (MW.mt (gL (bT (bF (au ji (hr.mono (by decide)) rfl (ad (mv 1) (ad (mv 4) ao)) av))) (fV (bT (bF (au gB (hr.mono (by decide)) rfl (ad (mv 2) (ad (mv 4) ao)) av))) (.inr rfl)))) (ai dF) aS)
    (ai (de (mr (mv 2) (mv 4))))))))
    (ai (aO (mv 2)))))
theorem Bi:aR ["lines", "place"] ["lines", "place"] (ah fU):=⟨rfl,rfl,rfl,by decide +kernel,rfl,by decide +kernel,by decide +kernel⟩
theorem Bj (F:Fun K "line_at" "line_at" fU f fd) (a8:mg "len" = none):b7 P w K mg base CX0 1 f fd ["lines", "place"] (spF K dq 2):=by
  refine bY F Bi fun cdv A outer s H E hr => ?_
  have hu:=dU hr
  exact (af (bM (bK (fA hu) iS (mv 1) (cG rfl a8 (cv (mv 0))) (a5 _)) (ai dF) aS)
    (ai (aO (aY (mv 0) (mv 1) (fun _ _=>rfl)))))
theorem fM:aR ["lines", "start", "many", "bars", "place", "numbers"] ["lines", "start", "many"] (ah eA):=⟨rfl,rfl,rfl,by decide +kernel,rfl,by decide +kernel,by decide +kernel⟩
theorem vL (F:Fun K "read_bars" "read_bars" eA f fd) (bE:mg "range" = none) (a8:mg "len" = none) (bL:Def P w K mg base "numbers_behind" 4 2 aQ) (hJ:Def P w K mg base "line_at" 1 2 dq):b7 P w K mg base CX0 5 f fd ["lines", "start", "many"] (spF K eh 3):=by
  refine bY F fM fun cdv A outer s H E hr => ?_
  have hu:=dU hr
  exact (af (aG (i:=3) fM.nd rfl (by first|exact .inl rfl|exact .inr rfl) (bh (cy ao (fun _ _ _ _ z=>by rw [bv _ _ _ _ z];decide))))
    (af (gw PassesOwn.never rfl (mq rfl bE (mv 1) (aZ bH b8 (mv 1) (mv 2))) (aD (i:=4) fM.nd rfl (by first|exact .inl rfl|exact .inr rfl)) (af (aG (i:=5) fM.nd rfl (by first|exact .inl rfl|exact .inr rfl) (au bL (hr.mono (by decide)) rfl (ad (cF [98,97,114] rfl) (ad (au hJ (hr.mono (by decide)) rfl (ad (mv 0) (ad (mv 4) ao)) av) ao)) av))
    (af (bM (bK (fB hu) iT (cG rfl a8 (cv (mv 5))) ag (a5 _)) (ai dF) aS)
    (ai (de (HR (mv 3) (mv 5)))))))
    (ai (aO (mv 3)))))
theorem fg:aR ["lines", "start", "many", "stays", "place", "line"] ["lines", "start", "many"] (ah dz):=⟨rfl,rfl,rfl,by decide +kernel,rfl,by decide +kernel,by decide +kernel⟩
theorem qF (F:Fun K "read_stays" "read_stays" dz f fd) (bE:mg "range" = none) {A_STAYS:Addr} (oo:mg "STAYS" = some (.ref A_STAYS)) (h_STAYS:oY K A_STAYS [([102,114,101,101],none),([115,116,97,121,115,32,48],some 0),([115,116,97,121,115,32,49],some 1)]) (hJ:Def P w K mg base "line_at" 1 2 dq):b7 P w K mg base CX0 2 f fd ["lines", "start", "many"] (spF K dr 3):=by
  refine bY F fg fun cdv A outer s H E hr => ?_
  have hu:=dU hr
  exact (af (aG (i:=3) fg.nd rfl (by first|exact .inl rfl|exact .inr rfl) (bh (cy ao (fun _ _ _ _ z=>by rw [bv _ _ _ _ z];decide))))
    (af (gw PassesOwn.never rfl (mq rfl bE (mv 1) (aZ bH b8 (mv 1) (mv 2))) (aD (i:=4) fg.nd rfl (by first|exact .inl rfl|exact .inr rfl)) (af (aG (i:=5) fg.nd rfl (by first|exact .inl rfl|exact .inr rfl) (au hJ (hr.mono (by decide)) rfl (ad (mv 0) (ad (mv 4) ao)) av))
    (af (bM (DC (T:=[([102,114,101,101],none),([115,116,97,121,115,32,48],some 0),([115,116,97,121,115,32,49],some 1)]) rfl oo h_STAYS (mv 5) rfl) (ai dF) aS)
    (ai (de (mr (mv 3) (FJ (T:=[([102,114,101,101],none),([115,116,97,121,115,32,48],some 0),([115,116,97,121,115,32,49],some 1)]) rfl oo h_STAYS (mv 5))))))))
    (ai (aO (mv 3)))))
theorem c7:aR ["text", "lines", "many", "ties", "bars", "stays", "end"] ["text"] (ah eV):=⟨rfl,rfl,rfl,by decide +kernel,rfl,by decide +kernel,by decide +kernel⟩
theorem yT (F:Fun K "read_web" "read_web" eV f fd) (a8:mg "len" = none) (ax:mg "isinstance" = none) (jo:mg "str" = none) (jp:Def P w K mg base "web_of" 5 4 dL) (iE:Def P w K mg base "read_stays" 2 3 dr) (jq:Def P w K mg base "read_bars" 5 3 eh) (jr:Def P w K mg base "read_ties" 5 2 ef) (jt:Def P w K mg base "read_many" 5 1 ed):b7 P w K mg base CX0 6 f fd ["text"] (spF K d5 1):=by
  refine bY F c7 fun cdv A outer s H E hr => ?_
  have hu:=dU hr
  exact (af (bM (bT (bF (df (t:=.str) rfl ax rfl jo (by decide +kernel) (mv 0)))) (ai dF) aS)
    (af (aG (i:=1) c7.nd rfl (by first|exact .inl rfl|exact .inr rfl) (bh (yu (c:=10) rfl (mv 0))))
    (af (aG (i:=2) c7.nd rfl (by first|exact .inl rfl|exact .inr rfl) (au jt (hr.mono (by decide)) rfl (ad (mv 1) ao) av))
    (af (aG (i:=3) c7.nd rfl (by first|exact .inl rfl|exact .inr rfl) (au jr (hr.mono (by decide)) rfl (ad (mv 1) (ad (mv 2) ao)) av))
    (af (aG (i:=4) c7.nd rfl (by first|exact .inl rfl|exact .inr rfl) (au jq (hr.mono (by decide)) rfl (ad (mv 1) (ad (aZ bH b8 ag (cG rfl a8 (cv (mv 3)))) (ad (mv 2) ao))) av))
    (af (aG (i:=5) c7.nd rfl (by first|exact .inl rfl|exact .inr rfl) (au iE (hr.mono (by decide)) rfl (ad (mv 1) (ad (aZ bH b8 (aZ bH b8 ag (cG rfl a8 (cv (mv 3)))) (mv 2)) (ad (mv 2) ao))) av))
    (af (aG (i:=6) c7.nd rfl (by first|exact .inl rfl|exact .inr rfl) (aZ bH b8 (aZ bH b8 ag (cG rfl a8 (cv (mv 3)))) (aZ ia ie ag (mv 2))))
    (af (bM (bK EO x8 (cG rfl a8 (cv (mv 1))) (mv 6) (a5 _)) (ai dF) aS)
    (ai (aO (au jp (hr.mono (by decide)) rfl (ad (mv 2) (ad (mv 3) (ad (mv 4) (ad (mv 5) ao)))) av)))))))))))
theorem dN:aR ["_law_script", "_law_k", "_law_cell", "_law_mixed"] ["_law_script", "_law_k"] (ah dA):=⟨rfl,rfl,rfl,by decide +kernel,rfl,by decide +kernel,by decide +kernel⟩
theorem qG (F:Fun K "_law_state" "_law_state" dA f fd) (a8:mg "len" = none):b7 P w K mg base CX0 1 f fd ["_law_script", "_law_k"] (spF K cN 2):=by
  refine bY F dN fun cdv A outer s H E hr => ?_
  have hu:=dU hr
  exact (af (aG (i:=2) dN.nd rfl (by first|exact .inl rfl|exact .inr rfl) ag)
    (af (bM (bK EN x8 (mv 1) (cG rfl a8 (cv (mv 0))) (a5 _)) (ai (aG (i:=2) dN.nd rfl (by first|exact .inl rfl|exact .inr rfl) (aY (mv 0) (mv 1) (fun _ _=>rfl)))) aS)
    (af (aG (i:=3) dN.nd rfl (by first|exact .inl rfl|exact .inr rfl) (MB.me (Ct (fW (fy (fA hu) iS (cG rfl a8 (cv (mv 0))) ag (a5 _))) (i7 (fW (fy (fA hu) iS (aZ fw fz (aY (mv 0) ag (fun _ _=>rfl)) ag) ag (a5 _)))))))
    (af (bM (bF (mv 3)) (ai (aG (i:=2) dN.nd rfl (by first|exact .inl rfl|exact .inr rfl) (aZ bH b8 (aZ fw fz (mv 2) ag) (aZ ia ie ag (mv 1))))) aS)
    (ai (aO (bh (cy (ad (mv 2) (ad ag (ad (mv 3) ao))) (fun _ _ _ _ z=>by rw [(aK (aK (aK bv))) _ _ _ _ z];decide)))))))))
theorem fj:aR ["_law_state_here", "_law_most", "_law_number", "_law_found"] ["_law_state_here", "_law_most"] (ah dB):=⟨rfl,rfl,rfl,by decide +kernel,rfl,by decide +kernel,by decide +kernel⟩
theorem qH (F:Fun K "_law_digit" "_law_digit" dB f fd):b7 P w K mg base CX0 1 f fd ["_law_state_here", "_law_most"] (spF K aE 2):=by
  refine bY F fj fun cdv A outer s H E hr => ?_
  have hu:=dU hr
  exact (af (uW (aZ bH b8 (aY (mv 0) ag (fun _ _=>rfl)) ag) (mv 0) ag)
    (af (bM (bF (aY (mv 0) ag (fun _ _=>rfl))) (af (aG (i:=2) fj.nd rfl (by first|exact .inl rfl|exact .inr rfl) (aZ fw fz (aZ ia ie (aZ bH b8 (aZ bH b8 (aY (mv 0) ag (fun _ _=>rfl)) (aZ ia ie ag (aY (mv 0) ag (fun _ _=>rfl)))) ag) ag) ag))
    (af (aG (i:=2) fj.nd rfl (by first|exact .inl rfl|exact .inr rfl) (aZ fw fz (aZ ia ie (mv 2) (aZ bH b8 (aZ fw fz (mv 2) ag) (aY (mv 0) ag (fun _ _=>rfl)))) ag))
    (ai (aO (aZ fw fz (aZ fw fz (aZ bH b8 (aZ ia ie (mv 2) (mv 2)) (aZ ia ie ag (mv 2))) ag) (mv 1)))))) aS)
    (af (aG (i:=3) fj.nd rfl (by first|exact .inl rfl|exact .inr rfl) (aZ fw fz (aY (mv 0) ag (fun _ _=>rfl)) (mv 1)))
    (af (uW (aZ E5 Jw (aY (mv 0) ag (fun _ _=>rfl)) (mv 1)) (mv 0) ag)
    (ai (aO (mv 3)))))))
theorem yU:aR ["_law_kind", "_law_number", "_law_total"] ["_law_kind", "_law_number", "_law_total"] (ah eW):=⟨rfl,rfl,rfl,by decide +kernel,rfl,by decide +kernel,by decide +kernel⟩
theorem yV (F:Fun K "_law_bar" "_law_bar" eW f fd):b7 P w K mg base CX0 1 f fd ["_law_kind", "_law_number", "_law_total"] (spF K dS 3):=by
  refine bY F yU fun cdv A outer s H E hr => ?_
  have hu:=dU hr
  exact (af (bM (bK (fA hu) iS (mv 0) ag (a5 _)) (ai (aO (mv 2))) aS)
    (af (bM (bK (fA hu) iS (mv 0) ag (a5 _)) (ai (aO (aZ uL Hv (mv 1) ag))) aS)
    (af (bM (bK (fA hu) iS (mv 0) ag (a5 _)) (ai (aO (aZ uL Hv (aZ bH b8 (mv 2) (aZ fw fz (mv 1) ag)) ag))) aS)
    (af (bM (bK (fA hu) iS (mv 0) ag (a5 _)) (ai (aO (aZ ia ie ag (aZ fw fz (mv 1) (aZ bH b8 (mv 2) ag))))) aS)
    (ai (aO (aZ ia ie (aZ bH b8 (aZ Jh Jx ag ag) (mv 1)) (tS (cy (ad ag (ad Cy ao)) (fun _ _ _ _ z=>by rw [(aK (aK bv)) _ _ _ _ z];decide)) (aZ fw fz (mv 1) ag) (fun _ _=>rfl)))))))))
theorem aV:aR ["_law_script", "_law_head", "_law_many", "_law_thin", "_law_ties", "_law_bars", "_law_stays", "_law_totals", "_law_one", "_law_state_here", "_law_other", "_law_heavy"] ["_law_script"] (ah cP):=⟨rfl,rfl,rfl,by decide +kernel,rfl,by decide +kernel,by decide +kernel⟩
theorem pz (F:Fun K "_law_people" "_law_people" cP f fd) (bE:mg "range" = none) (a8:mg "len" = none) (kr:Def P w K mg base "_law_bar" 1 3 dS) (bc:Def P w K mg base "_law_digit" 1 2 aE) (fN:Def P w K mg base "_law_state" 1 2 cN):b7 P w K mg base CX0 2 f fd ["_law_script"] (spF K eO 1):=by
  refine bY F aV fun cdv A outer s H E hr => ?_
  have hu:=dU hr
  exact (af (aG (i:=1) aV.nd rfl (by first|exact .inl rfl|exact .inr rfl) (au fN (hr.mono (by decide)) rfl (ad (mv 0) (ad ag ao)) av))
    (af (de (au bc (hr.mono (by decide)) rfl (ad (mv 1) (ad ag ao)) av))
    (af (aG (i:=2) aV.nd rfl (by first|exact .inl rfl|exact .inr rfl) (aZ bH b8 ag (au bc (hr.mono (by decide)) rfl (ad (mv 1) (ad (tS (cy (ad ag (ad ag (ad ag ao))) (fun _ _ _ _ z=>by rw [(aK (aK (aK bv))) _ _ _ _ z];decide)) (au bc (hr.mono (by decide)) rfl (ad (mv 1) (ad ag ao)) av) (fun _ _=>rfl)) ao)) av)))
    (af (aG (i:=3) aV.nd rfl (by first|exact .inl rfl|exact .inr rfl) (tS (cy (ad ag (ad ag (ad ag ao))) (fun _ _ _ _ z=>by rw [(aK (aK (aK bv))) _ _ _ _ z];decide)) (au bc (hr.mono (by decide)) rfl (ad (mv 1) (ad ag ao)) av) (fun _ _=>rfl)))
    (af (aG (i:=4) aV.nd rfl (by first|exact .inl rfl|exact .inr rfl) (bh (cy ao (fun _ _ _ _ z=>by rw [bv _ _ _ _ z];decide))))
    (af (aG (i:=5) aV.nd rfl (by first|exact .inl rfl|exact .inr rfl) (bh (cy ao (fun _ _ _ _ z=>by rw [bv _ _ _ _ z];decide))))
    (af (aG (i:=6) aV.nd rfl (by first|exact .inl rfl|exact .inr rfl) (bh (cy ao (fun _ _ _ _ z=>by rw [bv _ _ _ _ z];decide))))
    (af (aG (i:=7) aV.nd rfl (by first|exact .inl rfl|exact .inr rfl) (bh (JW (cy (ad ag ao) (fun _ _ _ _ z=>by rw [(aK bv) _ _ _ _ z];decide)) (mv 2))))
    (af (gw PassesOwn.never rfl (gM rfl bE (mv 2)) (aD (i:=8) aV.nd rfl (by first|exact .inl rfl|exact .inr rfl)) (af (aG (i:=9) aV.nd rfl (by first|exact .inl rfl|exact .inr rfl) (au fN (hr.mono (by decide)) rfl (ad (mv 0) (ad (aZ bH b8 ag (mv 8)) ao)) av))
    (af (de (mr (mv 6) (tS (cy (ad gv (ad gv (ad gv (ad ag (ad ag ao))))) (fun _ _ _ _ z=>by rw [(aK (aK (aK (aK (aK bv))))) _ _ _ _ z];decide)) (au bc (hr.mono (by decide)) rfl (ad (mv 9) (ad ag ao)) av) (fun _ _=>rfl))))
    (af (de (mr (mv 5) (i8 (ad (au bc (hr.mono (by decide)) rfl (ad (mv 9) (ad ag ao)) av) (ad (au bc (hr.mono (by decide)) rfl (ad (mv 9) (ad ag ao)) av) ao)))))
    (ai (gw PassesOwn.never rfl (gM rfl bE (mv 8)) (aD (i:=10) aV.nd rfl (by first|exact .inl rfl|exact .inr rfl)) (ai (bM (bK (fA hu) iS (au bc (hr.mono (by decide)) rfl (ad (mv 9) (ad (mv 3) ao)) av) ag (a5 _)) (af (aG (i:=11) aV.nd rfl (by first|exact .inl rfl|exact .inr rfl) (aZ bH b8 ag (au bc (hr.mono (by decide)) rfl (ad (mv 9) (ad (tS (cy (ad ag (ad ag ao)) (fun _ _ _ _ z=>by rw [(aK (aK bv)) _ _ _ _ z];decide)) (au bc (hr.mono (by decide)) rfl (ad (mv 9) (ad ag ao)) av) (fun _ _=>rfl)) ao)) av)))
    (af (de (JY (mv 4) (au bc (hr.mono (by decide)) rfl (ad (mv 9) (ad (aZ bH b8 (cG rfl a8 (cv (mv 4))) ag) ao)) av) (tS (cy (ad (i8 (ad (mv 8) (ad (mv 10) (ad (mv 11) ao)))) (ad (i8 (ad (mv 10) (ad (mv 8) (ad (mv 11) ao)))) ao)) (fun _ _ _ _ z=>by rw [(aK (aK bv)) _ _ _ _ z];decide)) (aZ fw fz (mv 11) ag) (fun _ _=>rfl))))
    (af (uW (aZ bH b8 (aY (mv 7) (mv 8) (fun _ _=>rfl)) (mv 11)) (mv 7) (mv 8))
    (ai (uW (aZ bH b8 (aY (mv 7) (mv 10) (fun _ _=>rfl)) (mv 11)) (mv 7) (mv 10)))))) aS))))))))
    (af (aG (i:=5) aV.nd rfl (by first|exact .inl rfl|exact .inr rfl) (bh (bU (own:=["_law_one"]) (capn:=["_law_totals", "_law_bars"]) (caps:=[7,5]) rfl (bG.mk' rfl (by decide +kernel) (by decide +kernel) (by repeat' (first|exact aH.nil|refine aH.cons (by first|exact (fun _=>.inl rfl)|exact (fun _=>.inr rfl)|(intro z;cases z;done)) ?_)) (bS.cons rfl rfl (bS.cons rfl rfl bS.nil))) (gM rfl bE (mv 2))
      (fun cl C s H ex=>⟨(aD (i:=0) (show ((["_law_one"] : List Str)++(["_law_totals", "_law_bars"] : List Str)).Nodup by decide +kernel) rfl (by first|exact .inl rfl|exact .inr rfl)),cH,(au kr (hr.mono (by decide)) rfl (ad (aY (aY (mv 2) (mv 0) (fun _ _=>rfl)) ag (fun _ _=>rfl)) (ad (aY (aY (mv 2) (mv 0) (fun _ _=>rfl)) ag (fun _ _=>rfl)) (ad (aY (mv 1) (mv 0) (fun _ _=>rfl)) ao))) av)⟩))))
    (ai (aO (i8 (ad (mv 2) (ad (mv 4) (ad (mv 5) (ad (mv 6) (ad (mv 7) ao))))))))))))))))))
theorem bC:aR ["_law_told", "_law_many", "_law_ties", "_law_bars", "_law_stays", "_law_totals", "_law_lines", "_law_some", "_law_stay"] ["_law_told"] (ah eB):=⟨rfl,rfl,rfl,by decide +kernel,rfl,by decide +kernel,by decide +kernel⟩
theorem vM (F:Fun K "_law_text" "_law_text" eB f fd) (jo:mg "str" = none) (g8:mg "sorted" = none) (GO:mg "max" = none) (GP:mg "min" = none):b7 P w K mg base CX0 1 f fd ["_law_told"] (spF K jf 1):=by
  refine bY F bC fun cdv A outer s H E hr => ?_
  have hu:=dU hr
  exact (af (JD (mv 0) (oK rfl (bR (aD (i:=1) bC.nd rfl (by first|exact .inl rfl|exact .inr rfl)) (bR (aD (i:=2) bC.nd rfl (by first|exact .inl rfl|exact .inr rfl)) (bR (aD (i:=3) bC.nd rfl (by first|exact .inl rfl|exact .inr rfl)) (bR (aD (i:=4) bC.nd rfl (by first|exact .inl rfl|exact .inr rfl)) (bR (aD (i:=5) bC.nd rfl (by first|exact .inl rfl|exact .inr rfl)) kF)))))))
    (af (aG (i:=6) bC.nd rfl (by first|exact .inl rfl|exact .inr rfl) (bh (cy (ad (vf (cF [112,101,111,112,108,101,32] rfl) (jH rfl jo (mv 1))) ao) (fun _ _ _ _ z=>by rw [(aK bv) _ _ _ _ z];decide))))
    (af (aG (i:=7) bC.nd rfl (by first|exact .inl rfl|exact .inr rfl) (bh (F6 rfl g8 (bh (bU (own:=["_law_one", "_law_other", "_law_heavy"]) (capn:=[]) (caps:=[]) rfl (bG.mk' rfl (by decide +kernel) (by decide +kernel) (by repeat' (first|exact aH.nil|refine aH.cons (by first|exact (fun _=>.inl rfl)|exact (fun _=>.inr rfl)|(intro z;cases z;done)) ?_)) bS.nil) (cz (mv 2))
      (fun cl C s H ex=>⟨(oK rfl (bR (aD (i:=0) (show ((["_law_one", "_law_other", "_law_heavy"] : List Str)++([] : List Str)).Nodup by decide +kernel) rfl (by first|exact .inl rfl|exact .inr rfl)) (bR (aD (i:=1) (show ((["_law_one", "_law_other", "_law_heavy"] : List Str)++([] : List Str)).Nodup by decide +kernel) rfl (by first|exact .inl rfl|exact .inr rfl)) (bR (aD (i:=2) (show ((["_law_one", "_law_other", "_law_heavy"] : List Str)++([] : List Str)).Nodup by decide +kernel) rfl (by first|exact .inl rfl|exact .inr rfl)) kF)))),cH,(i8 (ad (JZ rfl rfl GP (mv 0) (mv 1)) (ad (JX rfl rfl GO (mv 0) (mv 1)) (ad (mv 2) ao))))⟩))))))
    (af (aG (i:=6) bC.nd rfl (by first|exact .inl rfl|exact .inr rfl) (bh (n4 (mv 6) (bh (bU (own:=["_law_one", "_law_other", "_law_heavy"]) (capn:=[]) (caps:=[]) rfl (bG.mk' rfl (by decide +kernel) (by decide +kernel) (by repeat' (first|exact aH.nil|refine aH.cons (by first|exact (fun _=>.inl rfl)|exact (fun _=>.inr rfl)|(intro z;cases z;done)) ?_)) bS.nil) (cz (mv 7))
      (fun cl C s H ex=>⟨(oK rfl (bR (aD (i:=0) (show ((["_law_one", "_law_other", "_law_heavy"] : List Str)++([] : List Str)).Nodup by decide +kernel) rfl (by first|exact .inl rfl|exact .inr rfl)) (bR (aD (i:=1) (show ((["_law_one", "_law_other", "_law_heavy"] : List Str)++([] : List Str)).Nodup by decide +kernel) rfl (by first|exact .inl rfl|exact .inr rfl)) (bR (aD (i:=2) (show ((["_law_one", "_law_other", "_law_heavy"] : List Str)++([] : List Str)).Nodup by decide +kernel) rfl (by first|exact .inl rfl|exact .inr rfl)) kF)))),cH,(oZ (sp:=[32]) rfl (fX (cy (ad (cF [116,105,101] rfl) (ad (jH rfl jo (mv 0)) (ad (jH rfl jo (mv 1)) (ad (jH rfl jo (mv 2)) ao)))) (fun _ _ _ _ z=>by rw [(aK (aK (aK (aK bv)))) _ _ _ _ z];decide))))⟩))))))
    (af (aG (i:=6) bC.nd rfl (by first|exact .inl rfl|exact .inr rfl) (bh (n4 (mv 6) (bh (bU (own:=["_law_bar_here"]) (capn:=[]) (caps:=[]) rfl (bG.mk' rfl (by decide +kernel) (by decide +kernel) (by repeat' (first|exact aH.nil|refine aH.cons (by first|exact (fun _=>.inl rfl)|exact (fun _=>.inr rfl)|(intro z;cases z;done)) ?_)) bS.nil) (cz (mv 3))
      (fun cl C s H ex=>⟨(aD (i:=0) (show ((["_law_bar_here"] : List Str)++([] : List Str)).Nodup by decide +kernel) rfl (by first|exact .inl rfl|exact .inr rfl)),cH,(vf (cF [98,97,114,32] rfl) (jH rfl jo (mv 0)))⟩))))))
    (af (gw PassesOwn.never rfl (cz (mv 4)) (aD (i:=8) bC.nd rfl (by first|exact .inl rfl|exact .inr rfl)) (ai (bM (bK ou oJ (mv 8) gv (a5 _)) (ai (de (mr (mv 6) (cF [102,114,101,101] rfl)))) (ai (de (mr (mv 6) (vf (cF [115,116,97,121,115,32] rfl) (jH rfl jo (mv 8)))))))))
    (ai (aO (oZ (sp:=[10]) rfl (cv (mv 6)))))))))))
theorem dP:aR ["_law_web", "_law_numbers", "_law_some", "_law_pair"] ["_law_web"] (ah dC):=⟨rfl,rfl,rfl,by decide +kernel,rfl,by decide +kernel,by decide +kernel⟩
theorem qI (F:Fun K "_law_kinds" "_law_kinds" dC f fd) (a8:mg "len" = none) (ax:mg "isinstance" = none) (k6:mg "int" = none) (mU:mg "bool" = none) (bW:mg "list" = none) (bD:mg "tuple" = none):b7 P w K mg base CX0 1 f fd ["_law_web"] (spF K fP 1):=by
  refine bY F dP fun cdv A outer s H E hr => ?_
  have hu:=dU hr
  exact (af (bM (MW.mt (gL (bT (bF (df (t:=.tuple) rfl ax rfl bD (by decide +kernel) (mv 0)))) (fV (bK EO x8 (cG rfl a8 (fX (bU (own:=["_law_part"]) (capn:=[]) (caps:=[]) rfl (bG.mk' rfl (by decide +kernel) (by decide +kernel) (by repeat' (first|exact aH.nil|refine aH.cons (by first|exact (fun _=>.inl rfl)|exact (fun _=>.inr rfl)|(intro z;cases z;done)) ?_)) bS.nil) (cz (mv 0))
      (fun cl C s H ex=>⟨(aD (i:=0) (show ((["_law_part"] : List Str)++([] : List Str)).Nodup by decide +kernel) rfl (by first|exact .inl rfl|exact .inr rfl)),(kG (bT (bF (df (t:=.tuple) rfl ax rfl bD (by decide +kernel) (mv 0))))),(mv 0)⟩)))) ag (a5 _)) (.inr rfl)))) (ai (aO ni)) aS)
    (af (aG (i:=1) dP.nd rfl (by first|exact .inl rfl|exact .inr rfl) (bh (n4 (bh (ii rfl bW (cv (aY (mv 0) ag (fun _ _=>rfl))))) (bh (bU (own:=["_law_stay"]) (capn:=[]) (caps:=[]) rfl (bG.mk' rfl (by decide +kernel) (by decide +kernel) (by repeat' (first|exact aH.nil|refine aH.cons (by first|exact (fun _=>.inl rfl)|exact (fun _=>.inr rfl)|(intro z;cases z;done)) ?_)) bS.nil) (cz (aY (mv 0) ag (fun _ _=>rfl)))
      (fun cl C s H ex=>⟨(aD (i:=0) (show ((["_law_stay"] : List Str)++([] : List Str)).Nodup by decide +kernel) rfl (by first|exact .inl rfl|exact .inr rfl)),(kG (bK Hf Dn (mv 0) gv (a5 _))),(mv 0)⟩))))))
    (af (gw PassesOwn.never rfl (cz (aY (mv 0) ag (fun _ _=>rfl))) (aD (i:=2) dP.nd rfl (by first|exact .inl rfl|exact .inr rfl)) (af (bM (MW.mt (gL (bT (bF (df (t:=.tuple) rfl ax rfl bD (by decide +kernel) (mv 2)))) (fV (bK EO x8 (cG rfl a8 (fX (bU (own:=["_law_pair"]) (capn:=[]) (caps:=[]) rfl (bG.mk' rfl (by decide +kernel) (by decide +kernel) (by repeat' (first|exact aH.nil|refine aH.cons (by first|exact (fun _=>.inl rfl)|exact (fun _=>.inr rfl)|(intro z;cases z;done)) ?_)) bS.nil) (cz (mv 2))
      (fun cl C s H ex=>⟨(aD (i:=0) (show ((["_law_pair"] : List Str)++([] : List Str)).Nodup by decide +kernel) rfl (by first|exact .inl rfl|exact .inr rfl)),(kG (bT (bF (df (t:=.tuple) rfl ax rfl bD (by decide +kernel) (mv 0))))),(mv 0)⟩)))) ag (a5 _)) (.inr rfl)))) (ai (aO ni)) aS)
    (ai (gw PassesOwn.never rfl (cz (mv 2)) (aD (i:=3) dP.nd rfl (by first|exact .inl rfl|exact .inr rfl)) (ai (aG (i:=1) dP.nd rfl (by first|exact .inl rfl|exact .inr rfl) (bh (n4 (mv 1) (bh (ii rfl bW (cv (mv 3))))))))))))
    (ai (aO (fy (fA hu) iS (cG rfl a8 (fX (bU (own:=["_law_one"]) (capn:=[]) (caps:=[]) rfl (bG.mk' rfl (by decide +kernel) (by decide +kernel) (by repeat' (first|exact aH.nil|refine aH.cons (by first|exact (fun _=>.inl rfl)|exact (fun _=>.inr rfl)|(intro z;cases z;done)) ?_)) bS.nil) (cz (mv 1))
      (fun cl C s H ex=>⟨(aD (i:=0) (show ((["_law_one"] : List Str)++([] : List Str)).Nodup by decide +kernel) rfl (by first|exact .inl rfl|exact .inr rfl)),(kG (MW.mt (gL (bF (df (t:=.bool) rfl ax rfl mU (by decide +kernel) (mv 0))) (fV (bT (bF (df (t:=.int) rfl ax rfl k6 (by decide +kernel) (mv 0)))) (.inr rfl))))),(mv 0)⟩)))) ag (a5 _)))))))
theorem qJ:aR ["_law_told"] ["_law_told"] (ah dD):=⟨rfl,rfl,rfl,by decide +kernel,rfl,by decide +kernel,by decide +kernel⟩
theorem qK (F:Fun K "_law_short" "_law_short" dD f fd):b7 P w K mg base CX0 1 f fd ["_law_told"] (spF K gX 1):=by
  refine bY F qJ fun cdv A outer s H E hr => ?_
  have hu:=dU hr
  exact (ai (aO (i8 (ad (aY (mv 0) ag (fun _ _=>rfl)) (ad (oQ (aY (mv 0) ag (fun _ _=>rfl)) tV (tW ag)) (ad (aY (mv 0) ag (fun _ _=>rfl)) (ad (aY (mv 0) ag (fun _ _=>rfl)) (ad (aY (mv 0) ag (fun _ _=>rfl)) ao))))))))
theorem pA:aR ["_law_script", "_law_told", "_law_web", "_law_text_here", "_law_found"] ["_law_script"] (ah kW):=⟨rfl,rfl,rfl,by decide +kernel,rfl,by decide +kernel,by decide +kernel⟩
theorem KH (F:Fun K "law" "law" kW f fd) (bW:mg "list" = none) (gh:Def P w K mg base "show_web" 3 1 c6) (iF:Def P w K mg base "read_web" 6 1 d5) (iG:Def P w K mg base "_law_kinds" 1 1 fP) (ju:Def P w K mg base "_law_text" 1 1 jf) (jp:Def P w K mg base "web_of" 5 4 dL) (iH:Def P w K mg base "_law_short" 1 1 gX) (gC:Def P w K mg base "_law_people" 2 1 eO):b7 P w K mg base CX0 7 f fd ["_law_script"] (spF K CV 1):=by
  refine bY F pA fun cdv A outer s H E hr => ?_
  have hu:=dU hr
  exact (af (aG (i:=1) pA.nd rfl (by first|exact .inl rfl|exact .inr rfl) (au iH (hr.mono (by decide)) rfl (ad (au gC (hr.mono (by decide)) rfl (ad (mv 0) ao) av) ao) av))
    (af (aG (i:=2) pA.nd rfl (by first|exact .inl rfl|exact .inr rfl) (au jp (hr.mono (by decide)) rfl (ad (aY (mv 1) ag (fun _ _=>rfl)) (ad (bh (ii rfl bW (cv (aY (mv 1) ag (fun _ _=>rfl))))) (ad (bh (ii rfl bW (cv (aY (mv 1) ag (fun _ _=>rfl))))) (ad (bh (ii rfl bW (cv (aY (mv 1) ag (fun _ _=>rfl))))) ao)))) av))
    (af (aG (i:=3) pA.nd rfl (by first|exact .inl rfl|exact .inr rfl) (au ju (hr.mono (by decide)) rfl (ad (mv 1) ao) av))
    (af (bM (bK (fB hu) iT (au gh (hr.mono (by decide)) rfl (ad (mv 2) ao) av) (mv 3) (a5 _)) (ai (aO ni)) aS)
    (af (aG (i:=4) pA.nd rfl (by first|exact .inl rfl|exact .inr rfl) (au iF (hr.mono (by decide)) rfl (ad (mv 3) ao) av))
    (af (bM (MW.mt (gL (bK (fB hu) iT (mv 4) (mv 2) (a5 _)) (gL (bT (bF (au iG (hr.mono (by decide)) rfl (ad (mv 4) ao) av))) (gL (bK (fB hu) iT (au gh (hr.mono (by decide)) rfl (ad (mv 4) ao) av) (mv 3) (a5 _)) (fV (bK (fB hu) iT (au iF (hr.mono (by decide)) rfl (ad (mv 3) ao) av) (mv 2) (a5 _)) (.inr rfl)))))) (ai (aO ni)) aS)
    (ai (aO (fy (fA hu) iS (au gh (hr.mono (by decide)) rfl (ad (mv 2) ao) av) (mv 3) (a5 _))))))))))
end
theorem cj {α : Type}(us:List α)(hl:us.length=1):∃ x0,us=[x0]:=match us,hl with | [x0],_=>⟨x0,rfl⟩
theorem c8 {α : Type}(us:List α)(hl:us.length=2):∃ x0 x1,us=[x0,x1]:=match us,hl with | [x0,x1],_=>⟨x0,x1,rfl⟩
theorem k4 {α : Type}(us:List α)(hl:us.length=3):∃ x0 x1 x2,us=[x0,x1,x2]:=match us,hl with | [x0,x1,x2],_=>⟨x0,x1,x2,rfl⟩
theorem Gu {α : Type}(us:List α)(hl:us.length=4):∃ x0 x1 x2 x3,us=[x0,x1,x2,x3]:=match us,hl with | [x0,x1,x2,x3],_=>⟨x0,x1,x2,x3,rfl⟩
theorem KI {l:PySem.W.OpenLaw} {w:World} {K:PySem.W.Frag} {h:Heap} {mg:Str→Option Value} {fa kt iI iJ pI iK jv iL pJ mZ m4 m5 ku jw kw jx eX jy gD jz m6 jA iM kx iN iO kz gE jB iP iQ GQ:Addr} (X:K.In h) (G:h.Ns mainGlobals mg) (hfa:mg "law" = some (.ref fa))
    {y9 zc:Option Addr} {zd:Array (Option Value)} {ze zf zg zh nv zi:Value}
    (Bs:PySem.W.nsIn K mainGlobals "is_whole" = some (some (.ref kt))) (Bt:K.lookup kt=some ⟨ze,y9,.func (PySem.W.fnOf "is_whole" "is_whole" (aP eR) (aM eR) (ah eR) .none zf zg zh zc nv zi),zd⟩) (gc:PySem.W.codeIn K nv "is_whole" = true) (pK:PySem.W.keepIn K (.ref kt)=true)
    {qM qN:Option Addr} {qO:Array (Option Value)} {qP qQ qR qS jU qT:Value}
    (vY:PySem.W.nsIn K mainGlobals "is_between" = some (some (.ref iI))) (vZ:K.lookup iI=some ⟨qP,qM,.func (PySem.W.fnOf "is_between" "is_between" (aP dt) (aM dt) (ah dt) .none qQ qR qS qN jU qT),qO⟩) (a9:PySem.W.codeIn K jU "is_between" = true) (k7:PySem.W.keepIn K (.ref iI)=true)
    {qU qV:Option Addr} {qW:Array (Option Value)} {qX qY qZ q8 jV rc:Value}
    (v5:PySem.W.nsIn K mainGlobals "is_opinion" = some (some (.ref iJ))) (v6:K.lookup iJ=some ⟨qX,qU,.func (PySem.W.fnOf "is_opinion" "is_opinion" (aP du) (aM du) (ah du) .none qY qZ q8 qV jV rc),qW⟩) (iB:PySem.W.codeIn K jV "is_opinion" = true) (k8:PySem.W.keepIn K (.ref iJ)=true)
    {D5 D6:Option Addr} {D7:Array (Option Value)} {D8 D9 Ea Eb uw Ec:Value}
    (GR:PySem.W.nsIn K mainGlobals "is_tie" = some (some (.ref pI))) (GS:K.lookup pI=some ⟨D8,D5,.func (PySem.W.fnOf "is_tie" "is_tie" (aP gY) (aM gY) (ah gY) .none D9 Ea Eb D6 uw Ec),D7⟩) (ji:PySem.W.codeIn K uw "is_tie" = true) (zj:PySem.W.keepIn K (.ref pI)=true)
    {re rg:Option Addr} {rj:Array (Option Value)} {rk rm rq rA jW rC:Value}
    (v7:PySem.W.nsIn K mainGlobals "neighbours" = some (some (.ref iK))) (wc:K.lookup iK=some ⟨rk,re,.func (PySem.W.fnOf "neighbours" "neighbours" (aP dw) (aM dw) (ah dw) .none rm rq rA rg jW rC),rj⟩) (iD:PySem.W.codeIn K jW "neighbours" = true) (ld:PySem.W.keepIn K (.ref iK)=true)
    {wd we:Option Addr} {wf:Array (Option Value)} {wg wl wm wn lh wo:Value}
    (zk:PySem.W.nsIn K mainGlobals "bars_told" = some (some (.ref jv))) (zm:K.lookup jv=some ⟨wg,wd,.func (PySem.W.fnOf "bars_told" "bars_told" (aP ej) (aM ej) (ah ej) .none wl wm wn we lh wo),wf⟩) (jj:PySem.W.codeIn K lh "bars_told" = true) (nw:PySem.W.keepIn K (.ref jv)=true)
    {rE rF:Option Addr} {rG:Array (Option Value)} {rH rJ rK rL jX rM:Value}
    (wp:PySem.W.nsIn K mainGlobals "stays_told" = some (some (.ref iL))) (wq:K.lookup iL=some ⟨rH,rE,.func (PySem.W.fnOf "stays_told" "stays_told" (aP dy) (aM dy) (ah dy) .none rJ rK rL rF jX rM),rG⟩) (iC:PySem.W.codeIn K jX "stays_told" = true) (li:PySem.W.keepIn K (.ref iL)=true)
    {Ed Ee:Option Addr} {Ef:Array (Option Value)} {Eg Eh Ei Ej ux Ek:Value}
    (GT:PySem.W.nsIn K mainGlobals "web_of" = some (some (.ref pJ))) (GU:K.lookup pJ=some ⟨Eg,Ed,.func (PySem.W.fnOf "web_of" "web_of" (aP gZ) (aM gZ) (ah gZ) .none Eh Ei Ej Ee ux Ek),Ef⟩) (jp:PySem.W.codeIn K ux "web_of" = true) (zn:PySem.W.keepIn K (.ref pJ)=true)
    {Bu Bv:Option Addr} {Bw:Array (Option Value)} {Bx By Bz BA pL BB:Value}
    (El:PySem.W.nsIn K mainGlobals "many_of" = some (some (.ref mZ))) (Em:K.lookup mZ=some ⟨Bx,Bu,.func (PySem.W.fnOf "many_of" "many_of" (aP fQ) (aM fQ) (ah fQ) .none By Bz BA Bv pL BB),Bw⟩) (g9:PySem.W.codeIn K pL "many_of" = true) (uy:PySem.W.keepIn K (.ref mZ)=true)
    {BC BD:Option Addr} {BE:Array (Option Value)} {BF BG BH BJ pM BK:Value}
    (Eo:PySem.W.nsIn K mainGlobals "ties_of" = some (some (.ref m4))) (Ep:K.lookup m4=some ⟨BF,BC,.func (PySem.W.fnOf "ties_of" "ties_of" (aP fR) (aM fR) (ah fR) .none BG BH BJ BD pM BK),BE⟩) (mV:PySem.W.codeIn K pM "ties_of" = true) (uz:PySem.W.keepIn K (.ref m4)=true)
    {BM BN:Option Addr} {BO:Array (Option Value)} {BP BQ BR BS pN BT:Value}
    (Er:PySem.W.nsIn K mainGlobals "bars_of" = some (some (.ref m5))) (Es:K.lookup m5=some ⟨BP,BM,.func (PySem.W.fnOf "bars_of" "bars_of" (aP fS) (aM fS) (ah fS) .none BQ BR BS BN pN BT),BO⟩) (mW:PySem.W.codeIn K pN "bars_of" = true) (uA:PySem.W.keepIn K (.ref m5)=true)
    {zp zq:Option Addr} {zr:Array (Option Value)} {zt zu zv zw ny zx:Value}
    (BU:PySem.W.nsIn K mainGlobals "stays_of" = some (some (.ref ku))) (BV:K.lookup ku=some ⟨zt,zp,.func (PySem.W.fnOf "stays_of" "stays_of" (aP eS) (aM eS) (ah eS) .none zu zv zw zq ny zx),zr⟩) (kq:PySem.W.codeIn K ny "stays_of" = true) (pO:PySem.W.keepIn K (.ref ku)=true)
    {wr wu:Option Addr} {wv:Array (Option Value)} {ww wx wy wA lm wB:Value}
    (zy:PySem.W.nsIn K mainGlobals "ties_once" = some (some (.ref jw))) (zz:K.lookup jw=some ⟨ww,wr,.func (PySem.W.fnOf "ties_once" "ties_once" (aP ek) (aM ek) (ah ek) .none wx wy wA wu lm wB),wv⟩) (jm:PySem.W.codeIn K lm "ties_once" = true) (nz:PySem.W.keepIn K (.ref jw)=true)
    {zA zB:Option Addr} {zC:Array (Option Value)} {zD zE zF zG nA zH:Value}
    (BW:PySem.W.nsIn K mainGlobals "show_web" = some (some (.ref kw))) (BX:K.lookup kw=some ⟨zD,zA,.func (PySem.W.fnOf "show_web" "show_web" (aP eU) (aM eU) (ah eU) .none zE zF zG zB nA zH),zC⟩) (gh:PySem.W.codeIn K nA "show_web" = true) (pP:PySem.W.keepIn K (.ref kw)=true)
    {wC wD:Option Addr} {wE:Array (Option Value)} {wF wG wH wI lp wJ:Value}
    (zI:PySem.W.nsIn K mainGlobals "is_number" = some (some (.ref jx))) (zJ:K.lookup jx=some ⟨wF,wC,.func (PySem.W.fnOf "is_number" "is_number" (aP el) (aM el) (ah el) .none wG wH wI wD lp wJ),wE⟩) (jn:PySem.W.codeIn K lp "is_number" = true) (nB:PySem.W.keepIn K (.ref jx)=true)
    {lq lu:Option Addr} {lx:Array (Option Value)} {lA lC lF lH gr lI:Value}
    (m7:PySem.W.nsIn K mainGlobals "numbers_behind" = some (some (.ref eX))) (m8:K.lookup eX=some ⟨lA,lq,.func (PySem.W.fnOf "numbers_behind" "numbers_behind" (aP bX) (aM bX) (ah bX) .none lC lF lH lu gr lI),lx⟩) (bL:PySem.W.codeIn K gr "numbers_behind" = true) (hU:PySem.W.keepIn K (.ref eX)=true)
    {wK wL:Option Addr} {wM:Array (Option Value)} {wN wO wP wQ lJ wR:Value}
    (zK:PySem.W.nsIn K mainGlobals "read_many" = some (some (.ref jy))) (zL:K.lookup jy=some ⟨wN,wK,.func (PySem.W.fnOf "read_many" "read_many" (aP eu) (aM eu) (ah eu) .none wO wP wQ wL lJ wR),wM⟩) (jt:PySem.W.codeIn K lJ "read_many" = true) (nC:PySem.W.keepIn K (.ref jy)=true)
    {pQ pR:Option Addr} {pS:Array (Option Value)} {pT pU pV pW jC pX:Value}
    (rN:PySem.W.nsIn K mainGlobals "is_next_tie" = some (some (.ref gD))) (rP:K.lookup gD=some ⟨pT,pQ,.func (PySem.W.fnOf "is_next_tie" "is_next_tie" (aP cO) (aM cO) (ah cO) .none pU pV pW pR jC pX),pS⟩) (gB:PySem.W.codeIn K jC "is_next_tie" = true) (jY:PySem.W.keepIn K (.ref gD)=true)
    {wS wT:Option Addr} {wU:Array (Option Value)} {wV wW wX wY lK wZ:Value}
    (zM:PySem.W.nsIn K mainGlobals "read_ties" = some (some (.ref jz))) (zN:K.lookup jz=some ⟨wV,wS,.func (PySem.W.fnOf "read_ties" "read_ties" (aP ev) (aM ev) (ah ev) .none wW wX wY wT lK wZ),wU⟩) (jr:PySem.W.codeIn K lK "read_ties" = true) (nE:PySem.W.keepIn K (.ref jz)=true)
    {BY BZ:Option Addr} {B0:Array (Option Value)} {B2 B3 B4 B5 pZ B6:Value}
    (Et:PySem.W.nsIn K mainGlobals "line_at" = some (some (.ref m6))) (Eu:K.lookup m6=some ⟨B2,BY,.func (PySem.W.fnOf "line_at" "line_at" (aP fU) (aM fU) (ah fU) .none B3 B4 B5 BZ pZ B6),B0⟩) (hJ:PySem.W.codeIn K pZ "line_at" = true) (uB:PySem.W.keepIn K (.ref m6)=true)
    {w4 w5:Option Addr} {w6:Array (Option Value)} {w8 w9 xb xc lM xf:Value}
    (zO:PySem.W.nsIn K mainGlobals "read_bars" = some (some (.ref jA))) (zP:K.lookup jA=some ⟨w8,w4,.func (PySem.W.fnOf "read_bars" "read_bars" (aP eA) (aM eA) (ah eA) .none w9 xb xc w5 lM xf),w6⟩) (jq:PySem.W.codeIn K lM "read_bars" = true) (nF:PySem.W.keepIn K (.ref jA)=true)
    {rR rS:Option Addr} {rT:Array (Option Value)} {rV rW rX rY jZ rZ:Value}
    (xg:PySem.W.nsIn K mainGlobals "read_stays" = some (some (.ref iM))) (xh:K.lookup iM=some ⟨rV,rR,.func (PySem.W.fnOf "read_stays" "read_stays" (aP dz) (aM dz) (ah dz) .none rW rX rY rS jZ rZ),rT⟩) (iE:PySem.W.codeIn K jZ "read_stays" = true) (lN:PySem.W.keepIn K (.ref iM)=true)
    {zQ zR:Option Addr} {zS:Array (Option Value)} {zT zU zV zW nG zX:Value}
    (B7:PySem.W.nsIn K mainGlobals "read_web" = some (some (.ref kx))) (B8:K.lookup kx=some ⟨zT,zQ,.func (PySem.W.fnOf "read_web" "read_web" (aP eV) (aM eV) (ah eV) .none zU zV zW zR nG zX),zS⟩) (iF:PySem.W.codeIn K nG "read_web" = true) (p0:PySem.W.keepIn K (.ref kx)=true)
    {r6 se:Option Addr} {sf:Array (Option Value)} {sg sj sn sr j0 su:Value}
    (xi:PySem.W.nsIn K mainGlobals "_law_state" = some (some (.ref iN))) (xj:K.lookup iN=some ⟨sg,r6,.func (PySem.W.fnOf "_law_state" "_law_state" (aP dA) (aM dA) (ah dA) .none sj sn sr se j0 su),sf⟩) (fN:PySem.W.codeIn K j0 "_law_state" = true) (lO:PySem.W.keepIn K (.ref iN)=true)
    {sw sy:Option Addr} {sB:Array (Option Value)} {sC sE sF sG j4 sH:Value}
    (xk:PySem.W.nsIn K mainGlobals "_law_digit" = some (some (.ref iO))) (xm:K.lookup iO=some ⟨sC,sw,.func (PySem.W.fnOf "_law_digit" "_law_digit" (aP dB) (aM dB) (ah dB) .none sE sF sG sy j4 sH),sB⟩) (bc:PySem.W.codeIn K j4 "_law_digit" = true) (lQ:PySem.W.keepIn K (.ref iO)=true)
    {zY zZ:Option Addr} {z0:Array (Option Value)} {z4 z6 z7 z8 nH z9:Value}
    (B9:PySem.W.nsIn K mainGlobals "_law_bar" = some (some (.ref kz))) (Ca:K.lookup kz=some ⟨z4,zY,.func (PySem.W.fnOf "_law_bar" "_law_bar" (aP eW) (aM eW) (ah eW) .none z6 z7 z8 zZ nH z9),z0⟩) (kr:PySem.W.codeIn K nH "_law_bar" = true) (p5:PySem.W.keepIn K (.ref kz)=true)
    {p6 p7:Option Addr} {p8:Array (Option Value)} {p9 qa qb qc jD qd:Value}
    (sI:PySem.W.nsIn K mainGlobals "_law_people" = some (some (.ref gE))) (sJ:K.lookup gE=some ⟨p9,p6,.func (PySem.W.fnOf "_law_people" "_law_people" (aP cP) (aM cP) (ah cP) .none qa qb qc p7 jD qd),p8⟩) (gC:PySem.W.codeIn K jD "_law_people" = true) (j5:PySem.W.keepIn K (.ref gE)=true)
    {xn xo:Option Addr} {xp:Array (Option Value)} {xq xr xt xu lU xv:Value}
    (Aa:PySem.W.nsIn K mainGlobals "_law_text" = some (some (.ref jB))) (Ab:K.lookup jB=some ⟨xq,xn,.func (PySem.W.fnOf "_law_text" "_law_text" (aP eB) (aM eB) (ah eB) .none xr xt xu xo lU xv),xp⟩) (ju:PySem.W.codeIn K lU "_law_text" = true) (nI:PySem.W.keepIn K (.ref jB)=true)
    {sK sL:Option Addr} {sM:Array (Option Value)} {sN sO sP sQ j6 sR:Value}
    (xw:PySem.W.nsIn K mainGlobals "_law_kinds" = some (some (.ref iP))) (xx:K.lookup iP=some ⟨sN,sK,.func (PySem.W.fnOf "_law_kinds" "_law_kinds" (aP dC) (aM dC) (ah dC) .none sO sP sQ sL j6 sR),sM⟩) (iG:PySem.W.codeIn K j6 "_law_kinds" = true) (lV:PySem.W.keepIn K (.ref iP)=true)
    {sS sT:Option Addr} {sU:Array (Option Value)} {sV sW sZ tf j7 tq:Value}
    (xy:PySem.W.nsIn K mainGlobals "_law_short" = some (some (.ref iQ))) (xz:K.lookup iQ=some ⟨sV,sS,.func (PySem.W.fnOf "_law_short" "_law_short" (aP dD) (aM dD) (ah dD) .none sW sZ tf sT j7 tq),sU⟩) (iH:PySem.W.codeIn K j7 "_law_short" = true) (lZ:PySem.W.keepIn K (.ref iQ)=true)
    {KQ GV:Option Addr} {KR:Array (Option Value)} {KS GW GX GY Cb GZ:Value}
    (LQ:PySem.W.nsIn K mainGlobals "law" = some (some (.ref GQ))) (LR:K.lookup GQ=some ⟨KS,KQ,.func (PySem.W.fnOf "law" "law" (aP kW) (aM kW) (ah kW) .none GW GX GY GV Cb GZ),KR⟩) (LS:PySem.W.codeIn K Cb "law" = true) (LT:PySem.W.keepIn K (.ref GQ)=true)
    (xA:PySem.W.nsIn K mainGlobals "isinstance" = some none)
    (KU:PySem.W.nsIn K mainGlobals "bool" = some none)
    (LU:PySem.W.nsIn K mainGlobals "int" = some none)
    (LV:PySem.W.nsIn K mainGlobals "len" = some none)
    (Iw:PySem.W.nsIn K mainGlobals "tuple" = some none)
    (Ix:PySem.W.nsIn K mainGlobals "range" = some none)
    (KW:PySem.W.nsIn K mainGlobals "list" = some none)
    (LW:PySem.W.nsIn K mainGlobals "all" = some none)
    (G0:PySem.W.nsIn K mainGlobals "sorted" = some none)
    (LX:PySem.W.nsIn K mainGlobals "str" = some none)
    (LY:PySem.W.nsIn K mainGlobals "max" = some none)
    (LZ:PySem.W.nsIn K mainGlobals "min" = some none)
    {gy:Tok} (tu:PySem.W.nsIn K mainGlobals "MOST_WEIGHT" = some (some (.int 400 gy)))
    {dQ:Tok} (tw:PySem.W.nsIn K mainGlobals "MOST_PEOPLE" = some (some (.int 30 dQ)))
    {mX:Tok} (Ev:PySem.W.nsIn K mainGlobals "FIGURES" = some (some (.str (PySem.Str.ofString "0123456789") mX)))
    {ge:Tok} (qe:PySem.W.nsIn K mainGlobals "MOST_FIGURES" = some (some (.int 60 ge)))
    {A_STAYS:Addr} (Iy:PySem.W.nsIn K mainGlobals "STAYS" = some (some (.ref A_STAYS))) (h_STAYS:oY K A_STAYS [([102,114,101,101],none),([115,116,97,121,115,32,48],some 0),([115,116,97,121,115,32,49],some 1)])
    : ∃ fd:FuncData,(∀ (s:Shared) (v:Value),BindsTo s fd ⟨[v],[]⟩ [("_law_script",v)]) ∧ ∀ base:Heap,K.In base→base.Ns mainGlobals mg→b7 l.prog w K mg base CX0 7 fa fd ["_law_script"] (spF K CV 1):=by
  have e:=hfa.symm.trans (PySem.W.mg_of X G LQ)
  cases e
  have ax:=PySem.W.mg_none_of X G xA
  have mU:=PySem.W.mg_none_of X G KU
  have k6:=PySem.W.mg_none_of X G LU
  have a8:=PySem.W.mg_none_of X G LV
  have bD:=PySem.W.mg_none_of X G Iw
  have bE:=PySem.W.mg_none_of X G Ix
  have bW:=PySem.W.mg_none_of X G KW
  have iX:=PySem.W.mg_none_of X G LW
  have g8:=PySem.W.mg_none_of X G G0
  have jo:=PySem.W.mg_none_of X G LX
  have GO:=PySem.W.mg_none_of X G LY
  have GP:=PySem.W.mg_none_of X G LZ
  have gz:=PySem.W.mg_of X G tu
  have cQ:=PySem.W.mg_of X G tw
  have mY:=PySem.W.mg_of X G Ev
  have gf:=PySem.W.mg_of X G qe
  have oo:=PySem.W.mg_of X G Iy
  have qf:=bu (st:=eR) Bt gc pK
  have Cc:=qf.binds (ps:=["thing"]) fun _ _ _ _ _ _ us hl=>by obtain⟨_,rfl⟩:=cj us hl;rfl
  have l5:=bu (st:=dt) vZ a9 k7
  have xB:=l5.binds (ps:=["thing", "least", "most"]) fun _ _ _ _ _ _ us hl=>by obtain⟨_,_,_,rfl⟩:=k4 us hl;rfl
  have l6:=bu (st:=du) v6 iB k8
  have xC:=l6.binds (ps:=["thing"]) fun _ _ _ _ _ _ us hl=>by obtain⟨_,rfl⟩:=cj us hl;rfl
  have Ac:=bu (st:=gY) GS ji zj
  have G1:=Ac.binds (ps:=["many", "thing"]) fun _ _ _ _ _ _ us hl=>by obtain⟨_,_,rfl⟩:=c8 us hl;rfl
  have l7:=bu (st:=dw) wc iD ld
  have xD:=l7.binds (ps:=["many", "ties"]) fun _ _ _ _ _ _ us hl=>by obtain⟨_,_,rfl⟩:=c8 us hl;rfl
  have nJ:=bu (st:=ej) zm jj nw
  have Ad:=nJ.binds (ps:=["near", "bars"]) fun _ _ _ _ _ _ us hl=>by obtain⟨_,_,rfl⟩:=c8 us hl;rfl
  have l8:=bu (st:=dy) wq iC li
  have xE:=l8.binds (ps:=["many", "stays"]) fun _ _ _ _ _ _ us hl=>by obtain⟨_,_,rfl⟩:=c8 us hl;rfl
  have Ae:=bu (st:=gZ) GU jp zn
  have G3:=Ae.binds (ps:=["many", "ties", "bars", "stays"]) fun _ _ _ _ _ _ us hl=>by obtain⟨_,_,_,_,rfl⟩:=Gu us hl;rfl
  have uC:=bu (st:=fQ) Em g9 uy
  have Ew:=uC.binds (ps:=["web"]) fun _ _ _ _ _ _ us hl=>by obtain⟨_,rfl⟩:=cj us hl;rfl
  have uD:=bu (st:=fR) Ep mV uz
  have Ex:=uD.binds (ps:=["web", "person"]) fun _ _ _ _ _ _ us hl=>by obtain⟨_,_,rfl⟩:=c8 us hl;rfl
  have uE:=bu (st:=fS) Es mW uA
  have Ey:=uE.binds (ps:=["web"]) fun _ _ _ _ _ _ us hl=>by obtain⟨_,rfl⟩:=cj us hl;rfl
  have qg:=bu (st:=eS) BV kq pO
  have Cd:=qg.binds (ps:=["web"]) fun _ _ _ _ _ _ us hl=>by obtain⟨_,rfl⟩:=cj us hl;rfl
  have nK:=bu (st:=ek) zz jm nz
  have Af:=nK.binds (ps:=["web"]) fun _ _ _ _ _ _ us hl=>by obtain⟨_,rfl⟩:=cj us hl;rfl
  have qh:=bu (st:=eU) BX gh pP
  have Ce:=qh.binds (ps:=["web"]) fun _ _ _ _ _ _ us hl=>by obtain⟨_,rfl⟩:=cj us hl;rfl
  have nM:=bu (st:=el) zJ jn nB
  have Ag:=nM.binds (ps:=["text"]) fun _ _ _ _ _ _ us hl=>by obtain⟨_,rfl⟩:=cj us hl;rfl
  have hV:=bu (st:=bX) m8 bL hU
  have m9:=hV.binds (ps:=["word", "line"]) fun _ _ _ _ _ _ us hl=>by obtain⟨_,_,rfl⟩:=c8 us hl;rfl
  have nN:=bu (st:=eu) zL jt nC
  have Ah:=nN.binds (ps:=["lines"]) fun _ _ _ _ _ _ us hl=>by obtain⟨_,rfl⟩:=cj us hl;rfl
  have j8:=bu (st:=cO) rP gB jY
  have tz:=j8.binds (ps:=["ties", "tie"]) fun _ _ _ _ _ _ us hl=>by obtain⟨_,_,rfl⟩:=c8 us hl;rfl
  have nO:=bu (st:=ev) zN jr nE
  have Ai:=nO.binds (ps:=["lines", "many"]) fun _ _ _ _ _ _ us hl=>by obtain⟨_,_,rfl⟩:=c8 us hl;rfl
  have uF:=bu (st:=fU) Eu hJ uB
  have Ez:=uF.binds (ps:=["lines", "place"]) fun _ _ _ _ _ _ us hl=>by obtain⟨_,_,rfl⟩:=c8 us hl;rfl
  have nP:=bu (st:=eA) zP jq nF
  have Aj:=nP.binds (ps:=["lines", "start", "many"]) fun _ _ _ _ _ _ us hl=>by obtain⟨_,_,_,rfl⟩:=k4 us hl;rfl
  have l9:=bu (st:=dz) xh iE lN
  have xF:=l9.binds (ps:=["lines", "start", "many"]) fun _ _ _ _ _ _ us hl=>by obtain⟨_,_,_,rfl⟩:=k4 us hl;rfl
  have qi:=bu (st:=eV) B8 iF p0
  have Cf:=qi.binds (ps:=["text"]) fun _ _ _ _ _ _ us hl=>by obtain⟨_,rfl⟩:=cj us hl;rfl
  have ma:=bu (st:=dA) xj fN lO
  have xG:=ma.binds (ps:=["_law_script", "_law_k"]) fun _ _ _ _ _ _ us hl=>by obtain⟨_,_,rfl⟩:=c8 us hl;rfl
  have md:=bu (st:=dB) xm bc lQ
  have xH:=md.binds (ps:=["_law_state_here", "_law_most"]) fun _ _ _ _ _ _ us hl=>by obtain⟨_,_,rfl⟩:=c8 us hl;rfl
  have qj:=bu (st:=eW) Ca kr p5
  have Cg:=qj.binds (ps:=["_law_kind", "_law_number", "_law_total"]) fun _ _ _ _ _ _ us hl=>by obtain⟨_,_,_,rfl⟩:=k4 us hl;rfl
  have j9:=bu (st:=cP) sJ gC j5
  have tD:=j9.binds (ps:=["_law_script"]) fun _ _ _ _ _ _ us hl=>by obtain⟨_,rfl⟩:=cj us hl;rfl
  have nQ:=bu (st:=eB) Ab ju nI
  have Ak:=nQ.binds (ps:=["_law_told"]) fun _ _ _ _ _ _ us hl=>by obtain⟨_,rfl⟩:=cj us hl;rfl
  have mf:=bu (st:=dC) xx iG lV
  have xI:=mf.binds (ps:=["_law_web"]) fun _ _ _ _ _ _ us hl=>by obtain⟨_,rfl⟩:=cj us hl;rfl
  have mh:=bu (st:=dD) xz iH lZ
  have xJ:=mh.binds (ps:=["_law_told"]) fun _ _ _ _ _ _ us hl=>by obtain⟨_,rfl⟩:=cj us hl;rfl
  have L4:=bu (st:=kW) LR LS LT
  refine⟨PySem.W.fnOf "law" "law" (aP kW) (aM kW) (ah kW) .none GW GX GY GV Cb GZ,fun s v=>.of_eq rfl,fun base KB _ => ?_⟩
  have ql:Def l.prog w K mg base "is_whole" 1 1 b5:=Def.mk' (PySem.W.mg_of X G Bs) pK Cc (yP (P:=l.prog) (w:=w) (base:=base) qf ax mU k6)
  have eG:Def l.prog w K mg base "is_between" 2 3 aC:=Def.mk' (PySem.W.mg_of X G vY) k7 xB (qz (P:=l.prog) (w:=w) (base:=base) l5 ql)
  have xK:Def l.prog w K mg base "is_opinion" 3 1 cf:=Def.mk' (PySem.W.mg_of X G v5) k8 xC (qB (P:=l.prog) (w:=w) (base:=base) l6 eG)
  have Al:Def l.prog w K mg base "is_tie" 3 2 fu:=Def.mk' (PySem.W.mg_of X G GR) zj G1 (DS (P:=l.prog) (w:=w) (base:=base) Ac a8 ax bD gz eG)
  have xL:Def l.prog w K mg base "neighbours" 4 2 cJ:=Def.mk' (PySem.W.mg_of X G v7) ld xD (qC (P:=l.prog) (w:=w) (base:=base) l7 bE ax bW Al)
  have Am:Def l.prog w K mg base "bars_told" 2 2 cZ:=Def.mk' (PySem.W.mg_of X G zk) nw Ad (vG (P:=l.prog) (w:=w) (base:=base) nJ bD iX a8 ax bW ql)
  have xM:Def l.prog w K mg base "stays_told" 4 2 cK:=Def.mk' (PySem.W.mg_of X G wp) li xE (qE (P:=l.prog) (w:=w) (base:=base) l8 bD iX a8 ax bW bE xK)
  have An:Def l.prog w K mg base "web_of" 5 4 dL:=Def.mk' (PySem.W.mg_of X G GT) zn G3 (DT (P:=l.prog) (w:=w) (base:=base) Ae bD g8 cQ xM Am xL eG)
  have uG:Def l.prog w K mg base "many_of" 1 1 b9:=Def.mk' (PySem.W.mg_of X G El) uy Ew (Bd (P:=l.prog) (w:=w) (base:=base) uC a8)
  have EA:Def l.prog w K mg base "ties_of" 1 2 dj:=Def.mk' (PySem.W.mg_of X G Eo) uz Ex (Bf (P:=l.prog) (w:=w) (base:=base) uD)
  have EB:Def l.prog w K mg base "bars_of" 1 1 eQ:=Def.mk' (PySem.W.mg_of X G Er) uA Ey (Bh (P:=l.prog) (w:=w) (base:=base) uE bW)
  have Ch:Def l.prog w K mg base "stays_of" 1 1 dZ:=Def.mk' (PySem.W.mg_of X G BU) pO Cd (yR (P:=l.prog) (w:=w) (base:=base) qg bW)
  have Ao:Def l.prog w K mg base "ties_once" 2 1 cD:=Def.mk' (PySem.W.mg_of X G zy) nz Af (vH (P:=l.prog) (w:=w) (base:=base) nK bE uG EA)
  have Ci:Def l.prog w K mg base "show_web" 3 1 c6:=Def.mk' (PySem.W.mg_of X G BW) pP Ce (yS (P:=l.prog) (w:=w) (base:=base) qh Ch EB Ao uG)
  have Ap:Def l.prog w K mg base "is_number" 3 1 cE:=Def.mk' (PySem.W.mg_of X G zI) nB Ag (vI (P:=l.prog) (w:=w) (base:=base) nM iX a8 mY gf eG)
  have eY:Def l.prog w K mg base "numbers_behind" 4 2 aQ:=Def.mk' (PySem.W.mg_of X G m7) hU m9 (kY (P:=l.prog) (w:=w) (base:=base) hV k6 iX Ap)
  have Aq:Def l.prog w K mg base "read_many" 5 1 ed:=Def.mk' (PySem.W.mg_of X G zK) nC Ah (vJ (P:=l.prog) (w:=w) (base:=base) nN a8 cQ eG eY)
  have tF:Def l.prog w K mg base "is_next_tie" 1 2 cr:=Def.mk' (PySem.W.mg_of X G rN) jY tz (py (P:=l.prog) (w:=w) (base:=base) j8)
  have Ar:Def l.prog w K mg base "read_ties" 5 2 ef:=Def.mk' (PySem.W.mg_of X G zM) nE Ai (vK (P:=l.prog) (w:=w) (base:=base) nO bE a8 bD tF Al eY)
  have uH:Def l.prog w K mg base "line_at" 1 2 dq:=Def.mk' (PySem.W.mg_of X G Et) uB Ez (Bj (P:=l.prog) (w:=w) (base:=base) uF a8)
  have As:Def l.prog w K mg base "read_bars" 5 3 eh:=Def.mk' (PySem.W.mg_of X G zO) nF Aj (vL (P:=l.prog) (w:=w) (base:=base) nP bE a8 eY uH)
  have xN:Def l.prog w K mg base "read_stays" 2 3 dr:=Def.mk' (PySem.W.mg_of X G xg) lN xF (qF (P:=l.prog) (w:=w) (base:=base) l9 bE oo h_STAYS uH)
  have Cj:Def l.prog w K mg base "read_web" 6 1 d5:=Def.mk' (PySem.W.mg_of X G B7) p0 Cf (yT (P:=l.prog) (w:=w) (base:=base) qi a8 ax jo An xN As Ar Aq)
  have xO:Def l.prog w K mg base "_law_state" 1 2 cN:=Def.mk' (PySem.W.mg_of X G xi) lO xG (qG (P:=l.prog) (w:=w) (base:=base) ma a8)
  have xP:Def l.prog w K mg base "_law_digit" 1 2 aE:=Def.mk' (PySem.W.mg_of X G xk) lQ xH (qH (P:=l.prog) (w:=w) (base:=base) md)
  have Ck:Def l.prog w K mg base "_law_bar" 1 3 dS:=Def.mk' (PySem.W.mg_of X G B9) p5 Cg (yV (P:=l.prog) (w:=w) (base:=base) qj)
  have tG:Def l.prog w K mg base "_law_people" 2 1 eO:=Def.mk' (PySem.W.mg_of X G sI) j5 tD (pz (P:=l.prog) (w:=w) (base:=base) j9 bE a8 Ck xP xO)
  have At:Def l.prog w K mg base "_law_text" 1 1 jf:=Def.mk' (PySem.W.mg_of X G Aa) nI Ak (vM (P:=l.prog) (w:=w) (base:=base) nQ jo g8 GO GP)
  have xQ:Def l.prog w K mg base "_law_kinds" 1 1 fP:=Def.mk' (PySem.W.mg_of X G xw) lV xI (qI (P:=l.prog) (w:=w) (base:=base) mf a8 ax k6 mU bW bD)
  have xR:Def l.prog w K mg base "_law_short" 1 1 gX:=Def.mk' (PySem.W.mg_of X G xy) lZ xJ (qK (P:=l.prog) (w:=w) (base:=base) mh)
  exact KH (P:=l.prog) (w:=w) (base:=base) L4 bW Ci Cj xQ At An xR tG
end Fm
set_option linter.all false
namespace Fm
def dg (n:Nat):List Nat:=(Nat.toDigits 10 n).map Char.toNat
theorem g7 {n:Nat}(h:n < 10):dg n=[48 + n]:=by
  have:n=0∨n=1∨n=2∨n=3∨n=4∨n=5∨n=6∨n=7∨n=8∨n=9:=by omega
  rcases this with e|e|e|e|e|e|e|e|e|e<;>subst e<;>rfl
theorem dgc {n:Nat}(h:n < 10):(n.digitChar).toNat=48 + n:=by
  have:=g7 h
  rw [dg,Nat.toDigits_of_lt_base h] at this
  simpa using this
theorem vN {n:Nat}(h:10≤n):dg n=dg (n / 10)++[48 + n % 10]:=by
  rw [dg,Nat.toDigits_of_base_le (by omega) h,List.map_append,List.map_cons,List.map_nil,dgc (Nat.mod_lt _ (by omega)),dg]
theorem Gv (n:Nat)(h:n < 10 ^ 60):1≤(dg n).length∧(dg n).length≤60:=by
  rw [dg,List.length_map]
  exact⟨Nat.length_toDigits_pos,(Nat.length_toDigits_le_iff (by omega) (by omega)).mpr h⟩
theorem pB (n:Nat):∀ c∈dg n,48≤c∧c≤57:=by
  induction n using Nat.strongRecOn with
  | ind n ih =>
    intro c hc
    by_cases h:n < 10
    · rw [g7 h] at hc;simp at hc;omega
    · rw [vN (by omega)] at hc
      rcases List.mem_append.mp hc with hc|hc
      · exact ih (n / 10) (by omega) c hc
      · simp at hc;omega
theorem Gw (n:Nat):Dx (dg n)=n:=by
  induction n using Nat.strongRecOn with
  | ind n ih =>
    by_cases h:n < 10
    · rw [g7 h];simp [Dx]
    · rw [vN (by omega),Dx,List.foldl_append]
      have:=ih (n / 10) (by omega)
      rw [Dx] at this
      rw [this]
      simp
      omega
theorem vO (n:Nat):∃ c r,dg n=c :: r∧(n≠0→c≠48)∧(n=0→c=48∧r=[]):=by
  induction n using Nat.strongRecOn with
  | ind n ih =>
    by_cases h:n < 10
    · exact⟨48 + n,[],g7 h,fun z=>by omega,fun z=>⟨by omega,rfl⟩⟩
    · obtain⟨c,r,e,h1,_⟩:=ih (n / 10) (by omega)
      exact⟨c,r++[48 + n % 10],by rw [vN (by omega),e];rfl,fun _=>h1 (by omega),fun z=>by omega⟩
theorem CW (n:Nat):Dw (dg n)=true:=by
  obtain⟨c,r,e,_⟩:=vO n
  have:=pB n
  simp only [Dw,Bool.and_eq_true,List.all_eq_true,decide_eq_true_eq]
  exact⟨by rw [e];rfl,this⟩
def tx (i:Int):List Nat:=yn (toString i)
theorem Bk (n:Nat):tx (n:Int)=dg n:=by
  have e:toString (n:Int)=n.repr:=by rw [Int.toString_eq_repr,Int.repr_eq_if,if_pos (by omega),Int.toNat_natCast]
  rw [tx,yn,e,Nat.repr_eq_ofList_toDigits,String.toList_ofList,dg]
theorem KJ {n:Nat}(h:0 < n):tx (-(n:Int))=45 :: dg n:=by
  have e:toString (-(n:Int)) = "-" ++ n.repr:=by rw [Int.toString_eq_repr,Int.repr_eq_if,if_neg (by omega)];congr 2;omega
  rw [tx,yn,e,String.toList_append,Nat.repr_eq_ofList_toDigits,dg,List.map_append]
  simp only [String.toList_ofList]
  rfl
theorem pC (i:Int):tx i=dg i.natAbs∧0≤i∨tx i=45 :: dg i.natAbs∧i < 0:=by
  by_cases h:0≤i
  · refine .inl ⟨?_,h⟩
    have:=Bk i.natAbs
    rwa [show ((i.natAbs:Nat):Int)=i by omega] at this
  · refine .inr ⟨?_,by omega⟩
    have:=KJ (n:=i.natAbs) (by omega)
    rwa [show -((i.natAbs:Nat):Int)=i by omega] at this
theorem KK (i:Int):∀ c∈tx i,c=45∨(48≤c∧c≤57):=by
  intro c hc
  rcases pC i with ⟨e,_⟩|⟨e,_⟩<;>rw [e] at hc
  · exact .inr (pB _ c hc)
  · rcases List.mem_cons.mp hc with z|hc
    · exact .inl z
    · exact .inr (pB _ c hc)
theorem cL (i:Int)(h:i.natAbs < 10 ^ 60):1≤(tx i).length∧(tx i).length≤61:=by
  have:=Gv _ h
  rcases pC i with ⟨e,_⟩|⟨e,_⟩<;>rw [e]
  · omega
  · simp;omega
theorem vP (i:Int):kJ (tx i)=some i:=by
  rcases pC i with ⟨e,h⟩|⟨e,h⟩<;>rw [e]
  · obtain⟨c,r,q,_⟩:=vO i.natAbs
    have f:=pB i.natAbs c (by rw [q];simp)
    have g:=CW i.natAbs
    have v:=Gw i.natAbs
    rw [q] at g v ⊢
    rw [kJ,if_neg (by omega),if_pos g,v]
    congr 1
    omega
  · rw [kJ,if_pos rfl,if_pos (CW _),Gw]
    congr 1
    omega
theorem KL {i:Int}(h:i.natAbs < 10 ^ 60):i.natAbs.log2 < 1920:=by
  by_cases z:i.natAbs=0
  · rw [z];decide
  · exact (Nat.log2_lt z).mpr (Nat.lt_of_lt_of_le h (Nat.le_trans (show 10 ^ 60≤2 ^ 200 by decide) (Nat.pow_le_pow_right (by decide) (by decide))))
end Fm
set_option linter.all false
namespace Fm
theorem fE {a:EF}{σ:Sd}{h h1:Hd}{i:Int}(p:a σ h=.ok (.int i) h1)(b:i.natAbs < 10 ^ 60):dW a σ h=.ok (.str (tx i)) h1:=by
  show Res.bind _ _=_;rw [p];exact if_pos (KL b)
theorem iW {a:EF}{r:JF}{out y:List Nat}{σ:Sd}{h h1:Hd}{o:Res D}(p:a σ h=.ok (.str y) h1)(b:out.length + y.length≤1000000)(q:r (out++y) σ h1=o):b6 a r out σ h=o:=by
  show Res.bind _ _=_;rw [p];exact (if_pos b).trans q
theorem CY {out:List Nat}{σ:Sd}{h:Hd}(b:out.length≤1000000):mD out σ h=.ok (.str out) h:=if_pos b
theorem CZ {r:JF}{σ:Sd}{h:Hd}{o:Res D}(p:r [] σ h=o):fFs r σ h=o:=p
theorem vQ {a b:EF}{σ:Sd}{h h1 h2:Hd}{x y:List Nat}(p:a σ h=.ok (.str x) h1)(q:b σ h1=.ok (.str y) h2)(l:x.length + y.length≤1000000):aj iV a b σ h=.ok (.str (x++y)) h2 :=
  ar p q (if_pos l)
theorem uq:∀ l:List (List Nat),jR (l.map D.str)=some l
  | []=>rfl
  | x :: l=>by simp only [List.map_cons,jR,uq l,Option.map_some]
theorem om {k:Nat}:∀ {l:List (List Nat)},(∀ x∈l,x.length≤k)→(l.map (·.length)).sum≤k * l.length
  | [],_=>by simp
  | x :: l,h=>by
    have h1:=h x (by simp)
    have h2:=om (l:=l) fun y hy=>h y (by simp [hy])
    have e:k * (x :: l).length=k * l.length + k:=by rw [List.length_cons,Nat.mul_succ]
    rw [List.map_cons,List.sum_cons,e]
    omega
theorem pD {sp:Nat}{a:LF}{σ:Sd}{h h1:Hd}{L:List (List Nat)}(p:a σ h=.ok (L.map D.str) h1)(b:∀ x∈L,x.length≤200)(l:L.length≤1100):jc [sp] a σ h=.ok (.str (bI [sp] L)) h1:=by
  have:=om b
  show Res.bind _ _=_
  rw [p]
  show (match jR (L.map D.str) with|some ss=>_|none=>_)=_
  rw [uq]
  exact if_pos (by simp only [List.length_cons,List.length_nil];omega)
theorem vR {x:EF}{L:LF}{σ:Sd}{h h1 h2:Hd}{n:Nat}{l l0 ds:List D}(p:x σ h=.ok (.ref n) h1)(q:h1[n]? = some (.lst l0))(r:L σ h1=.ok ds h2)(s:h2[n]? = some (.lst l))(t:l.length + ds.length≤SZ):jb x L σ h=.ok .non (h2.set n (.lst (l++ds))):=by
  show Res.bind _ _=_
  rw [p,aq]
  simp only [q,r,aq,s]
  exact if_pos t
abbrev cV:List Nat:=[112,101,111,112,108,101]
abbrev Gx:List Nat:=[116,105,101]
abbrev Ig:List Nat:=[98,97,114]
def line (w:List Nat) (l:List Int):List Nat:=bI [32] (w :: l.map tx)
def gi (t:Tie):List Nat:=line Gx [(t.a:Int),t.b,t.w]
def iA (b:Int):List Nat:=line Ig [b]
def ck:Option Int→List Nat
  | none=>[102,114,101,101]
  | some x=>[115,116,97,121,115,32]++tx x
def aW (n:Nat) (T:List Tie) (bs:List Int) (ss:List (Option Int)):List (List Nat):=line cV [(n:Int)] :: (T.map gi++(bs.map iA++ss.map ck))
theorem big {i:Int}(h0:0≤i)(h1:i≤400):i.natAbs < 10 ^ 60:=Nat.lt_of_le_of_lt (show i.natAbs≤400 by omega) (by decide)
structure TS (n:Nat) (t:Tie):Prop where
  a:(t.a:Int).natAbs < 10 ^ 60
  b:(t.b:Int).natAbs < 10 ^ 60
  w:t.w.natAbs < 10 ^ 60
theorem C0 {n:Nat}{T:List Tie}(hn:n≤30)(O:TOk n n 0 T){t:Tie}(ht:t∈T):TS n t:=by
  have h1:=O.lt t ht
  have h2:=O.wt t ht
  exact⟨big (by omega) (by omega),big (by omega) (by omega),big (by omega) (by omega)⟩
theorem yW {o:Option Int}{x:Int}(h:o=none∨o=some 0∨o=some 1)(e:o=some x):x.natAbs < 10 ^ 60:=by
  subst e;simp at h;rcases h with z|z<;>subst z<;>decide
theorem Gy {n:Nat}{t:Tie}(h:TS n t):(gi t).length≤200:=by
  have h1:=cL _ h.a
  have h2:=cL _ h.b
  have h3:=cL _ h.w
  simp only [gi,line,bI,List.map_cons,List.map_nil,List.length_append,List.length_cons,List.length_nil]
  omega
theorem Gz {b:Int}(h:b.natAbs < 10 ^ 60):(iA b).length≤200:=by
  have h1:=cL _ h
  simp only [iA,line,bI,List.map_cons,List.map_nil,List.length_append,List.length_cons,List.length_nil]
  omega
theorem DU {b:Int}(h:b.natAbs < 10 ^ 60):(line cV [b]).length≤200:=by
  have h1:=cL _ h
  simp only [line,bI,List.map_cons,List.map_nil,List.length_append,List.length_cons,List.length_nil]
  omega
theorem DV {o:Option Int}(h:o=none∨o=some 0∨o=some 1):(ck o).length≤200:=by
  rcases h with e|e|e<;>subst e<;>decide +kernel
theorem mQ {n:Nat}{T:List Tie}{bs:List Int}{ss:List (Option Int)}(hn:n≤30)(O:TOk n n 0 T)(lb:bs.length=n)(ls:ss.length=n)(os:∀ x∈ss,x=none∨x=some 0∨x=some 1)(bb:∀ b∈bs,b.natAbs < 10 ^ 60) :
    (∀ x∈aW n T bs ss,x.length≤200)∧(aW n T bs ss).length≤1100:=by
  have ol:=O.len
  constructor
  · intro x hx
    unfold aW at hx
    rcases List.mem_cons.mp hx with e|hx
    · rw [e];exact DU (big (by omega) (by omega))
    · rcases List.mem_append.mp hx with hx|hx
      · obtain⟨t,ht,rfl⟩:=List.mem_map.mp hx
        exact Gy (C0 hn O ht)
      · rcases List.mem_append.mp hx with hx|hx
        · obtain⟨t,ht,rfl⟩:=List.mem_map.mp hx
          exact Gz (bb t ht)
        · obtain⟨t,ht,rfl⟩:=List.mem_map.mp hx
          exact DV (os t ht)
  · simp only [aW,List.length_cons,List.length_append,List.length_map]
    omega
noncomputable abbrev KM:EF:=fFs (b6 (fC (.str [116,105,101,32])) (b6 (dW (aa 0)) (b6 (fC (.str [32])) (b6 (dW (aa 1)) (b6 (fC (.str [32])) (b6 (dW (aa 2)) mD))))))
theorem GA {n:Nat}{T:List Tie}(hn:n≤30)(O:TOk n n 0 T){k:Nat}{h:Hd}(hk:h[k]? = some (.lst (T.map ay))) :
    bQ (some k) (T.map ay) (gT [0,1,2]) [] KM (T.map ay) [none,none,none] h=.ok ((T.map gi).map D.str) h:=by
  have:=bi (g:=some k) (all:=T.map ay) (tg:=gT [0,1,2]) (cs:=[]) (e:=KM) (h:=h) (I:=fun σ=>∃ a b c,σ = [a,b,c]) (fun _=>true)
    (fun d=>match d with | .tup [.int a,.int b,.int c]=>.str (line Gx [a,b,c])|_=>.non) hk (xs:=T.map ay) (σ:=[none,none,none]) (by
    rintro x hx σ ⟨a,b,c,rfl⟩
    obtain⟨t,ht,rfl⟩:=List.mem_map.mp hx
    have z:=C0 hn O ht
    have h1:=cL _ z.a
    have h2:=cL _ z.b
    have h3:=cL _ z.w
    refine⟨_,rfl,⟨_,_,_,rfl⟩,rfl,fun _ => ?_⟩
    refine CZ (iW rfl (by simp) (iW (fE rfl z.a) (by simp;omega) (iW rfl (by simp;omega) (iW (fE rfl z.b) (by simp;omega) (iW rfl (by simp;omega) (iW (fE rfl z.w) (by simp;omega) ((CY (by simp;omega)).trans ?_)))))))
    congr 2
    simp [line,bI]) ⟨_,_,_,rfl⟩
  rw [this,List.filter_eq_self.mpr (by simp),List.map_map,List.map_map]
  rfl
theorem GB {bs:List Int}(bb:∀ b∈bs,b.natAbs < 10 ^ 60){k:Nat}{h:Hd}(hk:h[k]? = some (.lst (bs.map .int))) :
    bQ (some k) (bs.map .int) (gN 0) [] (fFs (b6 (fC (.str [98,97,114,32])) (b6 (dW (aa 0)) mD))) (bs.map .int) [none] h=.ok ((bs.map iA).map D.str) h:=by
  have:=bi (g:=some k) (all:=bs.map .int) (tg:=gN 0) (cs:=[]) (e:=fFs (b6 (fC (.str [98,97,114,32])) (b6 (dW (aa 0)) mD))) (h:=h) (I:=fun σ=>∃ a,σ = [a]) (fun _=>true)
    (fun d=>match d with | .int a=>.str (line Ig [a])|_=>.non) hk (xs:=bs.map .int) (σ:=[none]) (by
    rintro x hx σ ⟨a,rfl⟩
    obtain⟨t,ht,rfl⟩:=List.mem_map.mp hx
    have h1:=cL _ (bb t ht)
    refine⟨_,rfl,⟨_,rfl⟩,rfl,fun _ => ?_⟩
    refine CZ (iW rfl (by simp) (iW (fE rfl (bb t ht)) (by simp;omega) ((CY (by simp;omega)).trans ?_)))
    congr 2) ⟨_,rfl⟩
  rw [this,List.filter_eq_self.mpr (by simp),List.map_map,List.map_map]
  rfl
noncomputable abbrev GC:EF:=fIf (tE (aj ml (aa 0) (fC .non))) (fC (.str [102,114,101,101])) (fFs (b6 (fC (.str [115,116,97,121,115,32])) (b6 (dW (aa 0)) mD)))
theorem DW {ss:List (Option Int)}(os:∀ x∈ss,x=none∨x=some 0∨x=some 1){k:Nat}{h:Hd}(hk:h[k]? = some (.lst (ss.map bf))) :
    bQ (some k) (ss.map bf) (gN 0) [] GC (ss.map bf) [none] h=.ok ((ss.map ck).map D.str) h:=by
  have:=bi (g:=some k) (all:=ss.map bf) (tg:=gN 0) (cs:=[]) (e:=GC) (h:=h) (I:=fun σ=>∃ a,σ = [a]) (fun _=>true)
    (fun d=>match d with | .int a=>.str (ck (some a))|_=>.str (ck none)) hk (xs:=ss.map bf) (σ:=[none]) (by
    rintro x hx σ ⟨a,rfl⟩
    obtain⟨t,ht,rfl⟩:=List.mem_map.mp hx
    refine⟨_,rfl,⟨_,rfl⟩,rfl,fun _ => ?_⟩
    cases t with
    | none=>exact (Ga (bg (ar rfl rfl rfl))).trans rfl
    | some i =>
      have b:=yW (os _ ht) rfl
      have h1:=cL _ b
      exact (Gb (bg (ar rfl rfl rfl))).trans (CZ (iW rfl (by simp) (iW (fE rfl b) (by simp;omega) ((CY (by simp;omega)).trans rfl))))) ⟨_,rfl⟩
  rw [this,List.filter_eq_self.mpr (by simp),List.map_map,List.map_map]
  congr 1
  apply List.map_congr_left
  intro o _
  cases o<;>rfl
theorem C1 {h:Hd}{c d:bn}{g:Hd}:(h++c :: g).set h.length d=h++d :: g:=by
  rw [List.set_append_right _ _ (Nat.le_refl _),Nat.sub_self];rfl
theorem jh {h:Hd}{c d:bn}{g k:Hd}:((h++c :: g)++k).set h.length d=h++d :: (g++k):=by
  rw [List.append_assoc,List.cons_append,C1]
theorem cm {h:Hd}{c:bn}{g:Hd}:(h++c :: g)[h.length]? = some c:=by
  rw [List.getElem?_append_right (Nat.le_refl _),Nat.sub_self];rfl
theorem Ih {n:Nat}(hn:n≤30){T:List Tie}(O:TOk n n 0 T){bs:List Int}{ss:List (Option Int)}(lb:bs.length=n)(ls:ss.length=n)(os:∀ x∈ss,x=none∨x=some 0∨x=some 1)(bb:∀ b∈bs,b.natAbs < 10 ^ 60)(h:Hd) :
    c6 [(d8 n T bs ss).enc] h=.ok (.str (bI [10] (aW n (ir n T) bs ss))) h:=by
  have W:=pr hn O lb ls
  have wb:(d8 n T bs ss).bars=bs:=rfl
  have ws:(d8 n T bs ss).stays=ss:=rfl
  have to:=qx hn O lb ls
  have mw:=Gk W
  have bo:=Ba W
  have so:=yN W
  rw [wb] at bo
  rw [ws] at so
  have O1:=(oj hn O).1
  obtain⟨w,hw⟩ : ∃ w,w=d8 n T bs ss:=⟨_,rfl⟩
  rw [← hw] at to mw bo so ⊢
  obtain⟨T1,hT1⟩ : ∃ T1,T1=ir n T:=⟨_,rfl⟩
  rw [← hT1] at to O1 ⊢
  have ol:=O1.len
  have nb:(n:Int).natAbs < 10 ^ 60:=big (by omega) (by omega)
  have nl:=cL _ nb
  have s1:aF (gN 1) (am b9 (ab (aa 0) ak)) [some w.enc,none,none] h=.nx [some w.enc,some (.int n),none] h:=aL (aw (ae rfl rfl) (mw h))
  have s2:aF (gN 2) (aT (ab (fFs (b6 (fC (.str [112,101,111,112,108,101,32])) (b6 (dW (aa 1)) mD))) ak)) [some w.enc,some (.int n),none] h=.nx [some w.enc,some (.int n),some (.ref h.length)] (h++[.lst ([line cV [(n:Int)]].map D.str)]) :=
    aL (cq (ae (CZ (iW rfl (by simp) (iW (fE rfl nb) (by simp;omega) ((CY (by simp;omega)).trans rfl)))) rfl))
  obtain⟨σ,hσ⟩ : ∃ σ:Sd,σ = [some w.enc,some (.int n),some (.ref h.length)]:=⟨_,rfl⟩
  have v0:∀ h',aa 0 σ h'=.ok w.enc h':=fun h'=>by rw [hσ];rfl
  have v2:∀ h',aa 2 σ h'=.ok (.ref h.length) h':=fun h'=>by rw [hσ];rfl
  have cg:∀ nl,fx nl [] σ = List.replicate nl none:=fun nl=>by simp [fx]
  have l1:∀ g:Hd,∀ c:bn,(h++c :: g).length=h.length + (g.length + 1):=fun g c=>by simp
  have s3:fm (jb (aa 2) (aJ 3 [] (bd (am cD (ab (aa 0) ak))) (gT [0,1,2]) [] KM)) σ (h++[.lst ([line cV [(n:Int)]].map D.str)])=.nx σ (h++[.lst (([line cV [(n:Int)]]++T1.map gi).map D.str),.lst (T1.map ay)]):=by
    refine (fD (vR (v2 _) cm (cU (dh (aw (ae (v0 _) rfl) (to _)) List.getElem?_concat_length) (by rw [cg];exact GA hn O1 List.getElem?_concat_length)) (aA _ cm) (by simp [SZ];omega))).trans ?_
    rw [jh,← List.map_append];rfl
  have s4:fm (jb (aa 2) (aJ 1 [] (bd (am eQ (ab (aa 0) ak))) (gN 0) [] (fFs (b6 (fC (.str [98,97,114,32])) (b6 (dW (aa 0)) mD))))) σ (h++[.lst (([line cV [(n:Int)]]++T1.map gi).map D.str),.lst (T1.map ay)])=.nx σ (h++[.lst (([line cV [(n:Int)]]++T1.map gi++bs.map iA).map D.str),.lst (T1.map ay),.lst (bs.map .int)]):=by
    refine (fD (vR (v2 _) cm (cU (dh (aw (ae (v0 _) rfl) (bo _)) List.getElem?_concat_length) (by rw [cg];exact GB bb List.getElem?_concat_length)) (aA _ cm) (by simp [SZ];omega))).trans ?_
    rw [jh,← List.map_append];rfl
  have s5:fm (jb (aa 2) (aJ 1 [] (bd (am dZ (ab (aa 0) ak))) (gN 0) [] GC)) σ (h++[.lst (([line cV [(n:Int)]]++T1.map gi++bs.map iA).map D.str),.lst (T1.map ay),.lst (bs.map .int)])=.nx σ (h++[.lst (([line cV [(n:Int)]]++T1.map gi++bs.map iA++ss.map ck).map D.str),.lst (T1.map ay),.lst (bs.map .int),.lst (ss.map bf)]):=by
    refine (fD (vR (v2 _) cm (cU (dh (aw (ae (v0 _) rfl) (so _)) List.getElem?_concat_length) (by rw [cg];exact DW os List.getElem?_concat_length)) (aA _ cm) (by simp [SZ];omega))).trans ?_
    rw [jh,← List.map_append];rfl
  have eL : [line cV [(n:Int)]]++T1.map gi++bs.map iA++ss.map ck=aW n T1 bs ss:=by simp [aW]
  rw [eL] at s5
  obtain⟨ll,lc⟩:=mQ hn O1 lb ls os bb
  have s6:a7 (jc [10] (lOf (aa 2))) σ (h++[.lst ((aW n T1 bs ss).map D.str),.lst (T1.map ay),.lst (bs.map .int),.lst (ss.map bf)])=.rt (.str (bI [10] (aW n T1 bs ss))) (h++[.lst ((aW n T1 bs ss).map D.str),.lst (T1.map ay),.lst (bs.map .int),.lst (ss.map bf)]):=bV (pD (bZ (v2 _) (aU cm)) ll lc)
  rw [← hσ] at s2
  exact (eK rfl rfl ((a4 s1).trans ((a4 s2).trans ((a4 s3).trans ((a4 s4).trans ((a4 s5).trans s6)))))).trans (cn rfl)
end Fm
set_option linter.all false
namespace Fm
def nrm (t:Tie):List Int:=[if (t.b:Int) < t.a then t.b else t.a,if (t.b:Int) > t.a then t.b else t.a,t.w]
def toR (t:Tie):List Int:=[t.a,t.b,t.w]
theorem k5 {n:Nat}{T:List Tie}{t:Tie}:t∈ir n T ↔ t.a < n∧t.a < t.b∧(t.b,t.w)∈nbs T t.a:=by
  have row:∀ {i:Nat},i < n→(((List.range n).map fun i=>bP (nbs T i)).getD i [])=bP (nbs T i):=fun {i} hi=>by simp [List.getD,hi]
  unfold ir
  rw [gW]
  constructor
  · rintro⟨h1,h2,h3⟩
    rw [row h1,dk] at h3
    exact⟨h1,h2,h3⟩
  · rintro⟨h1,h2,h3⟩
    exact⟨h1,h2,by rw [row h1,dk];exact h3⟩
def yX (s t:Tie):Prop:=s.a < t.a∨(s.a=t.a∧s.b < t.b)
theorem pE {R:List (List (Nat × Int))}(hr:∀ i,(R.getD i []).Pairwise (fun a b=>a.1 < b.1)):∀ k,(d9 R k).Pairwise yX
  | 0=>by simp [d9]
  | k + 1=>by
    rw [d9,List.pairwise_append]
    refine⟨pE hr k,?_,fun s hs t ht => ?_⟩
    · unfold eM
      rw [List.pairwise_map]
      exact ((hr k).filter _).imp fun h=>.inr ⟨rfl,h⟩
    · obtain⟨h1,_,_⟩:=gW.mp hs
      obtain⟨h3,_,_⟩:=mK.mp ht
      exact .inl (by omega)
theorem ur {n:Nat}{T:List Tie}(O:TOk n n 0 T):(ir n T).Pairwise yX:=by
  unfold ir
  refine pE (fun i => ?_) n
  by_cases hi:i < n
  · have:(((List.range n).map fun i=>bP (nbs T i)).getD i [])=bP (nbs T i):=by simp [List.getD,hi]
    rw [this]
    exact gb (mJ O.un i)
  · have:(((List.range n).map fun i=>bP (nbs T i)).getD i [])=[]:=by simp [List.getD,hi]
    rw [this]
    exact .nil
theorem GD {s t:Tie}(h:yX s t):lexLt (toR s) (toR t)=true:=by
  unfold toR
  rcases h with h|⟨h1,h2⟩
  · rw [lexLt,if_neg (by omega)]
    exact decide_eq_true (by omega)
  · rw [lexLt,if_pos (by omega),lexLt,if_neg (by omega)]
    exact decide_eq_true (by omega)
theorem Bl {n:Nat}{T:List Tie}(O:TOk n n 0 T):(T.map nrm).Nodup:=by
  rw [List.nodup_iff_pairwise_ne,List.pairwise_map]
  refine O.un.imp fun {s t} u e => ?_
  unfold nrm at e
  simp only [List.cons.injEq,and_true] at e
  obtain⟨h1,h2,_⟩:=e
  have u1:=u.1
  have u2:=u.2
  split at h1<;>split at h2<;>split at h1<;>split at h2<;>omega
theorem yY {n:Nat}{T:List Tie}(O:TOk n n 0 T):bw (T.map nrm)=(ir n T).map toR:=by
  have r2:((ir n T).map toR).Pairwise (fun a b=>lexLt a b=true):=by
    rw [List.pairwise_map]
    exact (ur O).imp GD
  have nd2:((ir n T).map toR).Nodup:=r2.imp fun {a b} hab e=>by subst e;rw [ik] at hab;cases hab
  refine mC ((dI _).trans ((List.perm_ext_iff_of_nodup (Bl O) nd2).mpr fun x => ?_)) (eD (Bl O)) r2
  constructor
  · intro hx
    obtain⟨s,hs,rfl⟩:=List.mem_map.mp hx
    have lt:=O.lt s hs
    have ne:=O.ne s hs
    by_cases c:s.a < s.b
    · refine List.mem_map.mpr ⟨s,k5.mpr ⟨lt.1,c,ff.mpr ⟨s,hs,if_pos rfl,rfl⟩⟩,?_⟩
      unfold nrm toR
      rw [if_neg (by omega),if_pos (by omega)]
    · refine List.mem_map.mpr ⟨⟨s.b,s.a,s.w⟩,k5.mpr ⟨lt.2,by show s.b < s.a;omega,ff.mpr ⟨s,hs,(if_neg ne).trans (if_pos rfl),rfl⟩⟩,?_⟩
      unfold nrm toR
      rw [if_pos (by omega),if_neg (by omega)]
  · intro hx
    obtain⟨t,ht,rfl⟩:=List.mem_map.mp hx
    obtain⟨h1,h2,h3⟩:=k5.mp ht
    obtain⟨s,hs,q1,q2⟩:=ff.mp h3
    have q2:s.w=t.w:=q2
    refine List.mem_map.mpr ⟨s,hs,?_⟩
    unfold nrm toR
    rw [q2]
    rcases pi q1 with ⟨a1,a2⟩|⟨a1,a2⟩
    · have a2:s.b=t.b:=a2
      rw [a1,a2,if_neg (by omega),if_pos (by omega)]
    · have a2:s.a=t.b:=a2
      rw [a1,a2,if_pos (by omega),if_neg (by omega)]
theorem GE {T:List Tie}{k:Nat}{h:Hd}(hk:h[k]? = some (.lst (T.map ay))) :
    bQ (some k) (T.map ay) (gT [0,1,2]) [] (fH (ab (vd (aa 0) (aa 1)) (ab (va (aa 0) (aa 1)) (ab (aa 2) ak)))) (T.map ay) [none,none,none] h=.ok ((T.map nrm).map dG) h:=by
  have:=bi (g:=some k) (all:=T.map ay) (tg:=gT [0,1,2]) (cs:=[]) (e:=fH (ab (vd (aa 0) (aa 1)) (ab (va (aa 0) (aa 1)) (ab (aa 2) ak)))) (h:=h) (I:=fun σ=>∃ a b c,σ = [a,b,c]) (fun _=>true)
    (fun d=>match d with | .tup [.int a,.int b,c]=>.tup [.int (if b < a then b else a),.int (if b > a then b else a),c] | _=>.non) hk (xs:=T.map ay) (σ:=[none,none,none]) (by
    rintro x hx σ ⟨a,b,c,rfl⟩
    obtain⟨t,ht,rfl⟩:=List.mem_map.mp hx
    exact⟨_,rfl,⟨_,_,_,rfl⟩,rfl,fun _=>ki (ae (KA rfl rfl) (ae (Kx rfl rfl) (ae rfl rfl)))⟩) ⟨_,_,_,rfl⟩
  rw [this,List.filter_eq_self.mpr (by simp),List.map_map,List.map_map]
  rfl
noncomputable abbrev C4:EF:=jc [32] (ab (fC (.str [116,105,101])) (ab (dW (aa 0)) (ab (dW (aa 1)) (ab (dW (aa 2)) ak))))
theorem DX {n:Nat}{T:List Tie}(hn:n≤30)(O:TOk n n 0 T){k:Nat}{h:Hd}(hk:h[k]? = some (.lst (T.map ay))) :
    bQ (some k) (T.map ay) (gT [0,1,2]) [] C4 (T.map ay) [none,none,none] h=.ok ((T.map gi).map D.str) h:=by
  have:=bi (g:=some k) (all:=T.map ay) (tg:=gT [0,1,2]) (cs:=[]) (e:=C4) (h:=h) (I:=fun σ=>∃ a b c,σ = [a,b,c]) (fun _=>true)
    (fun d=>match d with | .tup [.int a,.int b,.int c]=>.str (line Gx [a,b,c])|_=>.non) hk (xs:=T.map ay) (σ:=[none,none,none]) (by
    rintro x hx σ ⟨a,b,c,rfl⟩
    obtain⟨t,ht,rfl⟩:=List.mem_map.mp hx
    have z:=C0 hn O ht
    have h1:=cL _ z.a
    have h2:=cL _ z.b
    have h3:=cL _ z.w
    refine⟨_,rfl,⟨_,_,_,rfl⟩,rfl,fun _ => ?_⟩
    refine pD (L:=[Gx,tx t.a,tx t.b,tx t.w]) (ae rfl (ae (fE rfl z.a) (ae (fE rfl z.b) (ae (fE rfl z.w) rfl)))) (fun x hx => ?_) (by simp)
    simp only [List.mem_cons,List.not_mem_nil,or_false] at hx
    rcases hx with e|e|e|e<;>rw [e]
    · decide
    · omega
    · omega
    · omega) ⟨_,_,_,rfl⟩
  rw [this,List.filter_eq_self.mpr (by simp),List.map_map,List.map_map]
  rfl
theorem DY {bs:List Int}(bb:∀ b∈bs,b.natAbs < 10 ^ 60){k:Nat}{h:Hd}(hk:h[k]? = some (.lst (bs.map .int))) :
    bQ (some k) (bs.map .int) (gN 0) [] (aj iV (fC (.str [98,97,114,32])) (dW (aa 0))) (bs.map .int) [none] h=.ok ((bs.map iA).map D.str) h:=by
  have:=bi (g:=some k) (all:=bs.map .int) (tg:=gN 0) (cs:=[]) (e:=aj iV (fC (.str [98,97,114,32])) (dW (aa 0))) (h:=h) (I:=fun σ=>∃ a,σ = [a]) (fun _=>true)
    (fun d=>match d with | .int a=>.str (line Ig [a])|_=>.non) hk (xs:=bs.map .int) (σ:=[none]) (by
    rintro x hx σ ⟨a,rfl⟩
    obtain⟨t,ht,rfl⟩:=List.mem_map.mp hx
    have h1:=cL _ (bb t ht)
    exact⟨_,rfl,⟨_,rfl⟩,rfl,fun _=>(vQ (x:=[98,97,114,32]) (y:=tx t) rfl (fE rfl (bb t ht)) (by simp;omega)).trans rfl⟩) ⟨_,rfl⟩
  rw [this,List.filter_eq_self.mpr (by simp),List.map_map,List.map_map]
  rfl
theorem GG {a:EF}{σ:Sd}{h h1:Hd}{n:Nat}{R:List (List Int)}(p:a σ h=.ok (.ref n) h1)(q:h1[n]? = some (.lst (R.map dG)))(l:R.length≤1000)(ne:∀ x∈R,x≠[])(nd:R.Nodup):mG a σ h=.ok ((bw R).map dG) h1:=by
  have e:kO (R.map dG)=some ((bw R).map dG):=by
    unfold kO
    rw [yg]
    exact if_pos ⟨by rw [List.length_map];exact l,List.all_eq_true.mpr fun x hx=>by have:=ne x hx;cases x with|nil=>exact absurd rfl this|cons=>rfl,nd⟩
  show Res.bind _ _=_
  rw [p,aq]
  simp only [eI,q,e]
theorem C5 {a b:EF}{σ:Sd}{h h1 h2:Hd}{n m:Nat}{l k:List D}(p:a σ h=.ok (.ref n) h1)(q:b σ h1=.ok (.ref m) h2)(e1:h2[n]? = some (.lst l))(e2:h2[m]? = some (.lst k))(z:l.length + k.length≤SZ):gQ a b σ h=.ok (l++k) h2:=by
  show Res.bind _ _=_
  rw [p,aq,q,aq]
  simp only [e1,e2]
  exact if_pos z
inductive LI (told:D) (n tk bk sk qk A B:Nat) (h0 g:Hd) (P:List (List Nat)) (ss:List (Option Int)):Nat→Sd→Hd→Prop
  | mk {i:Nat} {y:Option D}:LI told n tk bk sk qk A B h0 g P ss i [some told,some (.int n),some (.ref tk),some (.ref bk),some (.ref sk),some (.ref qk),some (.ref B),some (.ref (A + 2)),y] (h0++g++[.lst ((P++(ss.take i).map ck).map D.str)])
theorem Ii {n:Nat}(hn:n≤30){T:List Tie}(O:TOk n n 0 T){bs:List Int}{ss:List (Option Int)}(lb:bs.length=n)(ls:ss.length=n)(os:∀ x∈ss,x=none∨x=some 0∨x=some 1)(bb:∀ b∈bs,b.natAbs < 10 ^ 60){h:Hd}{tk bk sk qk:Nat}
    (ti:h[tk]? = some (.lst (T.map ay))) (ba:h[bk]? = some (.lst (bs.map .int))) (st:h[sk]? = some (.lst (ss.map bf))) :
    jf [.tup [.int n,.ref tk,.ref bk,.ref sk,.ref qk]] h=.ok (.str (bI [10] (aW n (ir n T) bs ss))) h:=by
  have O1:=(oj hn O).1
  have so:=yY O
  obtain⟨T1,hT1⟩ : ∃ T1,T1=ir n T:=⟨_,rfl⟩
  rw [← hT1] at so O1 ⊢
  have ol:=O.len
  have ol1:=O1.len
  have nb:(n:Int).natAbs < 10 ^ 60:=big (by omega) (by omega)
  have nl:=cL _ nb
  obtain⟨told,htold⟩ : ∃ told,told=D.tup [.int n,.ref tk,.ref bk,.ref sk,.ref qk]:=⟨_,rfl⟩
  obtain⟨A,hA⟩ : ∃ A,A=h.length:=⟨_,rfl⟩
  have s0:aF (gT [1,2,3,4,5]) (aa 0) [some told,none,none,none,none,none,none,none,none] h=.nx [some told,some (.int n),some (.ref tk),some (.ref bk),some (.ref sk),some (.ref qk),none,none,none] h:=by
    rw [htold];rfl
  obtain⟨L0,hL0⟩ : ∃ L0,L0=[line cV [(n:Int)]]:=⟨_,rfl⟩
  have s1:aF (gN 6) (aT (ab (aj iV (fC (.str [112,101,111,112,108,101,32])) (dW (aa 1))) ak)) [some told,some (.int n),some (.ref tk),some (.ref bk),some (.ref sk),some (.ref qk),none,none,none] h
      = .nx [some told,some (.int n),some (.ref tk),some (.ref bk),some (.ref sk),some (.ref qk),some (.ref A),none,none] (h++[.lst (L0.map D.str)]):=by
    rw [hA,hL0]
    exact aL (cq (ae ((vQ (x:=[112,101,111,112,108,101,32]) (y:=tx n) rfl (fE rfl nb) (by simp;omega)).trans rfl) rfl))
  obtain⟨h1,hh1⟩ : ∃ h1,h1=h++[.lst (L0.map D.str)]:=⟨_,rfl⟩
  have A1:h1.length=A + 1:=by rw [hh1,hA];simp
  have ti1:h1[tk]? = some (.lst (T.map ay)):=by rw [hh1];exact aA _ ti
  obtain⟨h2,hh2⟩ : ∃ h2,h2=h1++[.lst ((T.map nrm).map dG),.lst (T1.map ay)]:=⟨_,rfl⟩
  have e1:(T1.map toR).map dG=T1.map ay:=by rw [List.map_map];rfl
  have s2:aF (gN 7) (aT (mG (aT (aJ 3 [] (bd (aa 2)) (gT [0,1,2]) [] (fH (ab (vd (aa 0) (aa 1)) (ab (va (aa 0) (aa 1)) (ab (aa 2) ak)))))))) [some told,some (.int n),some (.ref tk),some (.ref bk),some (.ref sk),some (.ref qk),some (.ref A),none,none] h1
      = .nx [some told,some (.int n),some (.ref tk),some (.ref bk),some (.ref sk),some (.ref qk),some (.ref A),some (.ref (A + 2)),none] h2:=by
    have q:mG (aT (aJ 3 [] (bd (aa 2)) (gT [0,1,2]) [] (fH (ab (vd (aa 0) (aa 1)) (ab (va (aa 0) (aa 1)) (ab (aa 2) ak)))))) [some told,some (.int n),some (.ref tk),some (.ref bk),some (.ref sk),some (.ref qk),some (.ref A),none,none] h1=.ok (T1.map ay) (h1++[.lst ((T.map nrm).map dG)]):=by
      refine (GG (cq (cU (dh rfl ti1) (GE ti1)) (by simp [SZ];omega)) List.getElem?_concat_length (by simp;omega) (fun x hx => ?_) (Bl O)).trans (by rw [so,e1])
      obtain⟨t,_,rfl⟩:=List.mem_map.mp hx
      simp [nrm]
    have z:=aL (i:=7) (cq q (by simp [SZ];omega))
    rw [List.append_assoc,List.length_append,A1] at z
    rw [hh2]
    exact z
  have A2:h2.length=A + 3:=by rw [hh2];simp [A1]
  have tv2:h2[A + 2]? = some (.lst (T1.map ay)):=by
    rw [hh2,List.getElem?_append_right (by omega),A1,show A + 2 - (A + 1)=1 by omega];rfl
  have l2:h2[A]? = some (.lst (L0.map D.str)):=by rw [hh2,hh1,List.append_assoc,hA];exact cm
  obtain⟨h3,hh3⟩ : ∃ h3,h3=h2++[.lst ((T1.map gi).map D.str),.lst ((L0++T1.map gi).map D.str)]:=⟨_,rfl⟩
  have ba3:h3[bk]? = some (.lst (bs.map .int)):=by rw [hh3,hh2,hh1];exact aA _ (aA _ (aA _ ba))
  have s3:aF (gN 6) (aT (gQ (aa 6) (aT (aJ 3 [] (bd (aa 7)) (gT [0,1,2]) [] C4)))) [some told,some (.int n),some (.ref tk),some (.ref bk),some (.ref sk),some (.ref qk),some (.ref A),some (.ref (A + 2)),none] h2
      = .nx [some told,some (.int n),some (.ref tk),some (.ref bk),some (.ref sk),some (.ref qk),some (.ref (A + 4)),some (.ref (A + 2)),none] h3:=by
    have q:=C5 (σ:=[some told,some (.int n),some (.ref tk),some (.ref bk),some (.ref sk),some (.ref qk),some (.ref A),some (.ref (A + 2)),none]) (h:=h2) (a:=aa 6) (b:=aT (aJ 3 [] (bd (aa 7)) (gT [0,1,2]) [] C4)) rfl (cq (cU (dh rfl tv2) (DX hn O1 tv2)) (by simp [SZ];omega)) (aA _ l2) List.getElem?_concat_length (by rw [hL0];simp [SZ];omega)
    have z:=aL (i:=6) (cq q (by rw [hL0];simp [SZ];omega))
    rw [List.append_assoc,List.length_append,A2,← List.map_append] at z
    rw [hh3]
    exact z
  have A3:h3.length=A + 5:=by rw [hh3];simp [A2]
  have l3:h3[A + 4]? = some (.lst ((L0++T1.map gi).map D.str)):=by
    rw [hh3,List.getElem?_append_right (by omega),A2,show A + 4 - (A + 3)=1 by omega];rfl
  obtain⟨P,hP⟩ : ∃ P,P=L0++T1.map gi++bs.map iA:=⟨_,rfl⟩
  have s4:aF (gN 6) (aT (gQ (aa 6) (aT (aJ 1 [] (bd (aa 3)) (gN 0) [] (aj iV (fC (.str [98,97,114,32])) (dW (aa 0))))))) [some told,some (.int n),some (.ref tk),some (.ref bk),some (.ref sk),some (.ref qk),some (.ref (A + 4)),some (.ref (A + 2)),none] h3
      = .nx [some told,some (.int n),some (.ref tk),some (.ref bk),some (.ref sk),some (.ref qk),some (.ref (A + 6)),some (.ref (A + 2)),none] (h3++[.lst ((bs.map iA).map D.str),.lst (P.map D.str)]):=by
    have q:=C5 (σ:=[some told,some (.int n),some (.ref tk),some (.ref bk),some (.ref sk),some (.ref qk),some (.ref (A + 4)),some (.ref (A + 2)),none]) (h:=h3) (a:=aa 6) (b:=aT (aJ 1 [] (bd (aa 3)) (gN 0) [] (aj iV (fC (.str [98,97,114,32])) (dW (aa 0))))) rfl (cq (cU (dh rfl ba3) (DY bb ba3)) (by simp [SZ];omega)) (aA _ l3) List.getElem?_concat_length (by rw [hL0];simp [SZ];omega)
    have z:=aL (i:=6) (cq q (by rw [hL0];simp [SZ];omega))
    rw [List.append_assoc,List.length_append,A3,← List.map_append,← hP] at z
    exact z
  obtain⟨h4,hh4⟩ : ∃ h4,h4=h3++[.lst ((bs.map iA).map D.str)]:=⟨_,rfl⟩
  have e4:h3++[bn.lst ((bs.map iA).map D.str),.lst (P.map D.str)] = h4++[.lst (P.map D.str)]:=by rw [hh4];simp
  rw [e4] at s4
  have A4:h4.length=A + 6:=by rw [hh4];simp [A3]
  have st4:h4[sk]? = some (.lst (ss.map bf)):=by rw [hh4,hh3,hh2,hh1];exact aA _ (aA _ (aA _ (aA _ st)))
  have lP:P.length≤1000:=by rw [hP,hL0];simp;omega
  obtain⟨σ5,h5,q5,z5⟩:=d7 (P:=LI told n tk bk sk qk A (A + 6) h4 [] P ss) (g:=some sk) (k:=0)
    (all:=ss.map bf) (fun _ _ _ q=>by cases q;rw [List.append_nil];exact aA _ st4) (xs:=ss.map bf) (tg:=gN 8) (b:=mN)
    (σ:=[some told,some (.int n),some (.ref tk),some (.ref bk),some (.ref sk),some (.ref qk),some (.ref (A + 6)),some (.ref (A + 2)),none]) (h:=h4++[.lst (P.map D.str)]) (by
      intro i x σ h0 hx z
      rw [Nat.zero_add] at z ⊢
      have hi:i < ss.length:=by have:=(List.getElem?_eq_some_iff.mp hx).1;simpa using this
      obtain⟨u,hu⟩ : ∃ u,u=ss[i]:=⟨_,rfl⟩
      have hx':x=bf u:=by rw [hu];simpa [hi] using hx.symm
      subst hx'
      have mu:=os u (by rw [hu];exact List.getElem_mem hi)
      have tk1:ss.take (i + 1)=ss.take i++[u]:=by rw [hu,List.take_add_one];simp [hi]
      cases z
      refine⟨_,rfl,_,h4++[]++[.lst ((P++(ss.take (i + 1)).map ck).map D.str)],?_,.mk (y:=some (bf u))⟩
      rw [List.append_nil]
      have gA:∀ l,(h4++[bn.lst l])[A + 6]? = some (.lst l):=fun l=>by rw [← A4];exact List.getElem?_concat_length
      have sA:∀ l k,(h4++[bn.lst l]).set (A + 6) (.lst k)=h4++[.lst k]:=fun l k=>HZ A4.symm _ _
      have lz:((P++(ss.take i).map ck).map D.str).length < SZ:=by simp [SZ];omega
      have en:(P++(ss.take (i + 1)).map ck).map D.str=(P++(ss.take i).map ck).map D.str++[.str (ck u)]:=by rw [tk1];simp
      rw [en]
      cases u with
      | none=>exact (DL (bg (ar rfl rfl rfl))).trans ((fD (mH rfl (gA _) rfl (gA _) lz)).trans (by rw [sA];rfl))
      | some v =>
        have b:=yW mu rfl
        have h1:=cL _ b
        exact (eC (bg (ar rfl rfl rfl))).trans ((fD (mH rfl (gA _) (vQ (x:=[115,116,97,121,115,32]) (y:=tx v) rfl (fE rfl b) (by simp;omega)) (gA _) lz)).trans (by rw [sA];rfl))) (by
      have:=LI.mk (told:=told) (n:=n) (tk:=tk) (bk:=bk) (sk:=sk) (qk:=qk) (A:=A) (B:=A + 6) (h0:=h4) (g:=[]) (P:=P) (ss:=ss) (i:=0) (y:=none)
      rw [List.append_nil] at this
      simpa using this)
  have s5:fJ (bd (aa 4)) (gN 8) mN [some told,some (.int n),some (.ref tk),some (.ref bk),some (.ref sk),some (.ref qk),some (.ref (A + 6)),some (.ref (A + 2)),none] (h4++[.lst (P.map D.str)])=.nx σ5 h5:=kj (dh rfl (aA _ st4)) q5
  rw [Nat.zero_add,List.length_map] at z5
  cases z5
  rename_i y5
  rw [List.append_nil,List.take_length] at s5
  have eL:P++ss.map ck=aW n T1 bs ss:=by rw [hP,hL0];simp [aW]
  rw [eL] at s5
  obtain⟨ll,lc⟩:=mQ hn O1 lb ls os bb
  have s6:a7 (jc [10] (lOf (aa 6))) [some told,some (.int n),some (.ref tk),some (.ref bk),some (.ref sk),some (.ref qk),some (.ref (A + 6)),some (.ref (A + 2)),y5] (h4++[.lst ((aW n T1 bs ss).map D.str)])=.rt (.str (bI [10] (aW n T1 bs ss))) (h4++[.lst ((aW n T1 bs ss).map D.str)]):=bV (pD (bZ rfl (aU (by rw [← A4];exact List.getElem?_concat_length))) ll lc)
  rw [← htold]
  rw [← hh1] at s1
  refine (eK rfl rfl ((a4 s0).trans ((a4 s1).trans ((a4 s2).trans ((a4 s3).trans ((a4 s4).trans ((a4 s5).trans s6))))))).trans ?_
  have e5:h4++[bn.lst ((aW n T1 bs ss).map D.str)] = h++[.lst (L0.map D.str),.lst ((T.map nrm).map dG),.lst (T1.map ay),.lst ((T1.map gi).map D.str),.lst ((L0++T1.map gi).map D.str),.lst ((bs.map iA).map D.str),.lst ((aW n T1 bs ss).map D.str)]:=by rw [hh4,hh3,hh2,hh1];simp only [List.append_assoc,List.cons_append,List.nil_append]
  rw [e5]
  exact cn rfl
end Fm
set_option linter.all false
namespace Fm
theorem Ij (a b:List Nat)(h:Hd):oNe (.str a) (.str b) h=.ok (.bl (!decide (a=b))) h:=rfl
theorem LP (a b:List Nat)(h:Hd):oEq (.str a) (.str b) h=.ok (.bl (decide (a=b))) h:=rfl
theorem jO {a b:EF}{σ:Sd}{h h1 h2:Hd}{l k:List Nat}(p:a σ h=.ok (.str l) h1)(q:b σ h1=.ok (.str k) h2):io a b σ h=.ok (.bl (decide (k.length≤l.length) && (l.take k.length == k))) h2:=by
  show Res.bind _ _=_
  rw [p,aq]
  show Res.bind _ _=_
  rw [q]
  rfl
theorem GH {a:EF}{σ:Sd}{h h1:Hd}{l:List Nat}(p:a σ h=.ok (.str l) h1)(q:l.length≤1000000∧l.all (· < 128)=true):FD a σ h=.ok (l.map fun c=>D.str [c],none) h1:=by
  show Res.bind _ _=_
  rw [p,aq]
  exact if_pos q
theorem Ik {a:EF}{σ:Sd}{h h1:Hd}{l:List Nat}(p:a σ h=.ok (.str l) h1)(q:l.length≤1000000):CF a σ h=.ok (.int l.length) h1:=by
  show Res.bind _ _=_
  rw [p,aq]
  exact if_pos q
abbrev FG:List Nat:=[48,49,50,51,52,53,54,55,56,57]
theorem KN {c:Nat}(h:48≤c∧c≤57):c∈FG:=by
  have:c=48∨c=49∨c=50∨c=51∨c=52∨c=53∨c=54∨c=55∨c=56∨c=57:=by omega
  rcases this with e|e|e|e|e|e|e|e|e|e<;>subst e<;>decide
theorem Il {l:List Nat}(f:∀ c∈l,48≤c∧c≤57)(h:Hd):bQ none (l.map fun c=>D.str [c]) (gN 0) [] (aj Dy (aa 0) (fC (.str FG))) (l.map fun c=>D.str [c]) [none] h=.ok ((l.map fun c=>D.str [c]).map fun _=>D.bl true) h:=by
  have:=bi (g:=none) (all:=l.map fun c=>D.str [c]) (tg:=gN 0) (cs:=[]) (e:=aj Dy (aa 0) (fC (.str FG))) (h:=h) (I:=fun σ=>∃ a,σ = [a]) (fun _=>true) (fun _=>.bl true) trivial (xs:=l.map fun c=>D.str [c]) (σ:=[none]) (by
    rintro x hx σ ⟨a,rfl⟩
    obtain⟨c,hc,rfl⟩:=List.mem_map.mp hx
    refine⟨_,rfl,⟨_,rfl⟩,rfl,fun _=>ar rfl rfl ?_⟩
    show Res.ok (D.bl (decide (c∈FG))) h=_
    rw [decide_eq_true (KN (f c hc))]) ⟨_,rfl⟩
  rw [this,List.filter_eq_self.mpr (by simp)]
theorem vS {i:Int}(b:i.natAbs < 10 ^ 60)(h:Hd):cE [.str (tx i)] h=.ok (.bl true) h:=by
  obtain⟨l,hl⟩ : ∃ l,l=dg i.natAbs:=⟨_,rfl⟩
  have ln:=Gv _ b
  have fi:=pB i.natAbs
  obtain⟨c,r,ec,n0,y0⟩:=vO i.natAbs
  rw [← hl] at ln fi ec
  have cl:=fi c (by rw [ec];simp)
  have s1:aF (gN 1) (fIf (tE (io (aa 0) (fC (.str [45])))) (n8 (aa 0) (pAt (fC (.int 1))) pNo) (aa 0)) [some (.str (tx i)),none] h=.nx [some (.str (tx i)),some (.str l)] h:=by
    rcases pC i with ⟨e,z⟩|⟨e,z⟩
    · rw [← hl] at e
      rw [e]
      refine aL ((Gb (bg ((jO rfl rfl).trans ?_))).trans rfl)
      rw [ec]
      have:((c :: r).take [45].length == [45])=false:=by
        have:c≠45:=by omega
        simp [this]
      rw [this,Bool.and_false]
    · rw [← hl] at e
      rw [e]
      refine aL ((Ga (h1:=h) (bg ((jO rfl rfl).trans ?_))).trans ?_)
      · simp
      · show (if (45 :: l).length≤1000000 then (match AO (45 :: l) (some 1) none with|some y=>Res.ok (D.str y) h|none=>.bad) else .bad)=_
        rw [if_pos (by simp;omega)]
        have:AO (45 :: l) (some 1) none=some l:=by
          show (if (0:Int)≤1∧(1:Int)≤(45 :: l).length then some (List.drop 1 (45 :: l)) else none)=_
          rw [if_pos (by simp only [List.length_cons];omega)]
          rfl
        rw [this]
  have s2:sIf (bx (tE (am aC (ab (CF (aa 1)) (ab (fC (.int 1)) (ab (fC (.int 60)) ak)))))) (a7 (fC (.bl false))) br [some (.str (tx i)),some (.str l)] h=.nx [some (.str (tx i)),some (.str l)] h :=
    eC (cB (b:=true) (bg (aw (ae (Ik rfl (by omega)) (ae rfl (ae rfl rfl))) (by rw [cY,decide_eq_true (by omega),decide_eq_true (by omega)];rfl))))
  have s3:sIf (bx (tE (oF (aJ 1 [] (FD (aa 1)) (gN 0) [] (aj Dy (aa 0) (fC (.str FG))))))) (a7 (fC (.bl false))) br [some (.str (tx i)),some (.str l)] h=.nx [some (.str (tx i)),some (.str l)] h:=by
    have al:((l.map fun c=>D.str [c]).map fun _=>true).all id=true:=by simp
    exact eC (cB (b:=true) (bg ((vz (cU (GH rfl ⟨by omega,List.all_eq_true.mpr fun c hc=>by have:=fi c hc;simp;omega⟩) (Il fi h)) jN).trans (by rw [al]))))
  have s4:a7 (fT (tOr (tE (aj oNe (HJ (aa 1) (fC (.int 0))) (fC (.str [48])))) (tE (aj oEq (aa 0) (fC (.str [48])))))) [some (.str (tx i)),some (.str l)] h=.rt (.bl true) h:=by
    have at0:HJ (aa 1) (fC (.int 0)) [some (.str (tx i)),some (.str l)] h=.ok (.str [c]) h:=by
      refine ar rfl rfl ?_
      rw [ec] at ln ⊢
      show (if (c :: r).length≤1000000 then (match ixN (c :: r).length 0 with|some j=>(match (c :: r)[j]? with|some c=>Res.ok (D.str [c]) h|none=>.bad)|none=>.bad) else .bad)=_
      have ix:ixN (c :: r).length 0=some 0:=by simp [ixN]
      rw [if_pos (by omega),ix]
      rfl
    by_cases z:i.natAbs=0
    · obtain⟨z1,z2⟩:=y0 z
      have e:tx i=[48]:=by
        have:i=0:=by omega
        subst this
        rcases pC 0 with ⟨e,_⟩|⟨_,q⟩
        · exact e
        · omega
      refine bV (jS (f6 (b:=true) (h1:=h) (bg (ar at0 rfl ?_)) (bg (ar rfl rfl ?_))))
      · rw [Ij,z1];rfl
      · rw [LP,e];rfl
    · refine bV (jS (vw (bg (ar at0 rfl ?_))))
      rw [Ij,decide_eq_false (fun q=>n0 z (by simpa using q))];rfl
  exact (eK rfl rfl ((a4 s1).trans ((a4 s2).trans ((a4 s3).trans s4)))).trans dX
theorem Bm {α : Type}(l:List α):iR (l.map fun _=>D.bl true)=some (l.map fun _=>true):=jN
theorem GI {ns:List Int}(b:∀ i∈ns,i.natAbs < 10 ^ 60){k:Nat}{h:Hd}(hk:h[k]? = some (.lst ((ns.map tx).map D.str))):bQ (some k) ((ns.map tx).map D.str) (gN 0) [] (am cE (ab (aa 0) ak)) ((ns.map tx).map D.str) [none] h=.ok (((ns.map tx).map D.str).map fun _=>D.bl true) h:=by
  have:=bi (g:=some k) (all:=(ns.map tx).map D.str) (tg:=gN 0) (cs:=[]) (e:=am cE (ab (aa 0) ak)) (h:=h) (I:=fun σ=>∃ a,σ = [a]) (fun _=>true) (fun _=>.bl true) hk (xs:=(ns.map tx).map D.str) (σ:=[none]) (by
    rintro x hx σ ⟨a,rfl⟩
    obtain⟨c,hc,rfl⟩:=List.mem_map.mp hx
    obtain⟨i,hi,rfl⟩:=List.mem_map.mp hc
    exact⟨_,rfl,⟨_,rfl⟩,rfl,fun _=>aw (ae rfl rfl) (vS (b i hi) h)⟩) ⟨_,rfl⟩
  rw [this,List.filter_eq_self.mpr (by simp)]
theorem Im {a:EF}{σ:Sd}{h h1:Hd}{l:List Nat}{n:Int}(p:a σ h=.ok (.str l) h1)(q:l.length≤600)(r:kJ l=some n):t8 a σ h=.ok (.int n) h1:=by
  show Res.bind _ _=_
  rw [p,aq]
  show (if l.length≤600 then (match kJ l with|some n=>Res.ok (D.int n) h1|none=>.bad) else .bad)=_
  rw [if_pos q,r]
theorem DZ {ns:List Int}(b:∀ i∈ns,i.natAbs < 10 ^ 60){k:Nat}{h:Hd}(hk:h[k]? = some (.lst ((ns.map tx).map D.str))):bQ (some k) ((ns.map tx).map D.str) (gN 0) [] (t8 (aa 0)) ((ns.map tx).map D.str) [none] h=.ok (ns.map .int) h:=by
  have:=bi (g:=some k) (all:=(ns.map tx).map D.str) (tg:=gN 0) (cs:=[]) (e:=t8 (aa 0)) (h:=h) (I:=fun σ=>∃ a,σ = [a]) (fun _=>true) (fun d=>match d with | .str l=>(match kJ l with|some n=>.int n|none=>.non)|_=>.non) hk (xs:=(ns.map tx).map D.str) (σ:=[none]) (by
    rintro x hx σ ⟨a,rfl⟩
    obtain⟨c,hc,rfl⟩:=List.mem_map.mp hx
    obtain⟨i,hi,rfl⟩:=List.mem_map.mp hc
    have l:=cL _ (b i hi)
    refine⟨_,rfl,⟨_,rfl⟩,rfl,fun _=>(Im rfl (by omega) (vP i)).trans ?_⟩
    show _=Res.ok (match kJ (tx i) with|some n=>D.int n|none=>.non) h
    rw [vP]) ⟨_,rfl⟩
  rw [this,List.filter_eq_self.mpr (by simp),List.map_map,List.map_map]
  congr 1
  apply List.map_congr_left
  intro i _
  show (match kJ (tx i) with|some n=>D.int n|none=>.non)=.int i
  rw [vP]
theorem vT {i:Int}{c:Nat}(h:c≠45)(h2 : ¬ (48≤c∧c≤57)):c∉tx i:=fun z=>by
  rcases KK i c z with e|e
  · exact h e
  · exact h2 e
theorem mR {sp:Nat}:∀ {L:List (List Nat)},(bI [sp] L).length≤(L.map (·.length)).sum + L.length
  | []=>Nat.le_refl _
  | [x]=>by simp [bI]
  | x :: y :: r=>by
    have ih:=mR (sp:=sp) (L:=y :: r)
    rw [bI,List.length_append,List.length_append,List.map_cons,List.sum_cons,List.length_cons]
    simp only [List.length_cons,List.length_nil] at ih ⊢
    omega
theorem Bn {w:List Nat}{ns:List Int}(hw:32∉w):cI 32 (line w ns)=w :: ns.map tx:=by
  refine gm (by simp) fun p hp => ?_
  rcases List.mem_cons.mp hp with e|e
  · rw [e];exact hw
  · obtain⟨i,_,rfl⟩:=List.mem_map.mp e
    exact vT (by decide) (by decide)
theorem yZ {c:Nat}{a:EF}{σ:Sd}{h h1:Hd}{l:List Nat}(p:a σ h=.ok (.str l) h1)(q:l.length≤1000000):kf c a σ h=.ok ((cI c l).map D.str) h1:=by
  show Res.bind _ _=_
  rw [p,aq]
  exact if_pos q
theorem ut {a:EF}{σ:Sd}{h h1:Hd}{n:Nat}{x:D}{l:List D}(p:a σ h=.ok (.ref n) h1)(q:h1[n]? = some (.lst (x :: l))):gu a (pAt (fC (.int 1))) pNo σ h=.ok (.ref h1.length) (h1++[.lst l]):=by
  have e:cut (x :: l) (some 1) none=l:=by
    simp [cut,sIx]
  show Res.bind _ _=_
  rw [p,aq]
  simp only [pAt,fC,aq,pNo,eI,q,e]
theorem ko {w:List Nat}{ns:List Int}(hw:32∉w)(lw:w.length≤10)(ln:ns.length≤10)(b:∀ i∈ns,i.natAbs < 10 ^ 60)(h:Hd) :
    ∃ k g,aQ [.str w,.str (line w ns)] h=.ok (.ref k) (h++g)∧h.length≤k∧(h++g)[k]? = some (.lst (ns.map .int)):=by
  have len:(line w ns).length≤1000000:=by
    have h1:=mR (sp:=32) (L:=w :: ns.map tx)
    have h2:=om (k:=61) (l:=ns.map tx) fun x hx=>by
      obtain⟨i,hi,rfl⟩:=List.mem_map.mp hx
      exact (cL _ (b i hi)).2
    unfold line
    simp only [List.map_cons,List.sum_cons,List.length_cons,List.length_map] at h1 h2
    omega
  obtain⟨W,hW⟩ : ∃ W,W=(ns.map tx).map D.str:=⟨_,rfl⟩
  obtain⟨L,hL⟩ : ∃ L,L=line w ns:=⟨_,rfl⟩
  have lW:W.length≤10:=by rw [hW];simp;exact ln
  have sp:(cI 32 L).map D.str=.str w :: W:=by rw [hL,Bn hw,List.map_cons,hW]
  rw [← hL] at len ⊢
  have s1:aF (gN 2) (aT (kf 32 (aa 1))) [some (.str w),some (.str L),none] h=.nx [some (.str w),some (.str L),some (.ref h.length)] (h++[.lst (.str w :: W)]):=by
    have q:=yZ (c:=32) (a:=aa 1) (σ:=[some (.str w),some (.str L),none]) (h:=h) rfl len
    rw [sp] at q
    exact aL (cq q (by simp [SZ];omega))
  have gk:(h++[bn.lst (.str w :: W)]++[.lst W])[h.length + 1]? = some (.lst W):=by
    have e:h.length + 1=(h++[bn.lst (.str w :: W)]).length:=by simp
    rw [e];exact List.getElem?_concat_length
  have nc:=GI b (k:=h.length + 1) (h:=h++[bn.lst (.str w :: W)]++[.lst W]) (by rw [← hW];exact gk)
  rw [← hW] at nc
  have al:(W.map fun _=>true).all id=true:=by simp
  have s2:sIf (tOr (tE (aj oNe (fAt (aa 2) (fC (.int 0))) (aa 0))) (bx (tE (oF (aJ 1 [] (bd (gu (aa 2) (pAt (fC (.int 1))) pNo)) (gN 0) [] (am cE (ab (aa 0) ak))))))) (a7 (aT ak)) br [some (.str w),some (.str L),some (.ref h.length)] (h++[.lst (.str w :: W)])
      = .nx [some (.str w),some (.str L),some (.ref h.length)] (h++[.lst (.str w :: W)]++[.lst W]):=by
    refine eC (f6 (bg (ar (bj rfl rfl (aU cm) (IL _ _)) rfl (by rw [Ij,decide_eq_true rfl];rfl))) (cB (b:=true) (bg ((vz (cU (dh ((ut rfl cm).trans (by rw [List.length_append];rfl)) gk) nc) (Bm W)).trans (by rw [al])))))
  have gk2:(h++[bn.lst (.str w :: W)]++[.lst W]++[.lst W])[h.length + 2]? = some (.lst W):=by
    have e:h.length + 2=(h++[bn.lst (.str w :: W)]++[bn.lst W]).length:=by simp
    rw [e];exact List.getElem?_concat_length
  have ic:=DZ b (k:=h.length + 2) (h:=h++[bn.lst (.str w :: W)]++[bn.lst W]++[bn.lst W]) (by rw [← hW];exact gk2)
  rw [← hW] at ic
  have s3:a7 (aT (aJ 1 [] (bd (gu (aa 2) (pAt (fC (.int 1))) pNo)) (gN 0) [] (t8 (aa 0)))) [some (.str w),some (.str L),some (.ref h.length)] (h++[.lst (.str w :: W)]++[.lst W])
      = .rt (.ref (h.length + 3)) (h++[.lst (.str w :: W)]++[.lst W]++[.lst W]++[.lst (ns.map .int)]):=by
    refine (bV (cq (cU (dh ((ut rfl (aA _ cm)).trans (by rw [List.length_append,List.length_append];rfl)) gk2) ic) (by simp [SZ];omega))).trans ?_
    congr 2
    simp
  refine⟨h.length + 3,[bn.lst (.str w :: W),.lst W,.lst W,.lst (ns.map .int)],?_,by omega,by rw [List.getElem?_append_right (by omega)];simp⟩
  refine (eK rfl rfl ((a4 s1).trans ((a4 s2).trans s3))).trans ?_
  rw [ip]
  simp only [List.append_assoc,List.cons_append,List.nil_append]
end Fm
set_option linter.all false
namespace Fm
theorem uv {c sp:Nat}:∀ {L:List (List Nat)},c∈bI [sp] L→c=sp ∨ ∃ x∈L,c∈x
  | [],h=>by simp [bI] at h
  | [x],h=>.inr ⟨x,by simp,h⟩
  | x :: y :: r,h=>by
    rw [bI] at h
    rcases List.mem_append.mp h with h|h
    · rcases List.mem_append.mp h with h|h
      · exact .inr ⟨x,by simp,h⟩
      · exact .inl (by simpa using h)
    · rcases uv h with e|⟨z,hz,q⟩
      · exact .inl e
      · exact .inr ⟨z,List.mem_cons_of_mem _ hz,q⟩
theorem mS {w:List Nat}{ns:List Int}(hw:10∉w):10∉line w ns:=fun h=>by
  rcases uv h with e|⟨z,hz,q⟩
  · cases e
  · rcases List.mem_cons.mp hz with e|e
    · rw [e] at q;exact hw q
    · obtain⟨i,_,rfl⟩:=List.mem_map.mp e
      exact vT (by decide) (by decide) q
theorem D0 (o:Option Int):10∉ck o:=fun h=>by
  cases o with
  | none=>simp [ck] at h
  | some x =>
    rcases List.mem_append.mp h with h|h
    · revert h;decide
    · exact vT (by decide) (by decide) h
theorem y6 (n:Nat)(T:List Tie)(bs:List Int)(ss:List (Option Int)):cI 10 (bI [10] (aW n T bs ss))=aW n T bs ss:=by
  refine gm (by simp [aW]) fun p hp => ?_
  unfold aW at hp
  rcases List.mem_cons.mp hp with e|hp
  · rw [e];exact mS (by decide)
  · rcases List.mem_append.mp hp with hp|hp
    · obtain⟨t,_,rfl⟩:=List.mem_map.mp hp
      exact mS (by decide)
    · rcases List.mem_append.mp hp with hp|hp
      · obtain⟨t,_,rfl⟩:=List.mem_map.mp hp
        exact mS (by decide)
      · obtain⟨t,_,rfl⟩:=List.mem_map.mp hp
        exact D0 t
theorem Io {g:Option Nat}{all:List D}{tg:GF}{b:SF}{x:D}{xs:List D}{σ σ' σ'':Sd}{h h':Hd}(hh:i4 g all h)(t:tg x σ = some σ')(e:b σ' h=.bk σ'' h'):fI g all tg b (x :: xs) σ h=.nx σ'' h':=by
  rw [fI,if_pos hh,t]
  simp only [e]
section
variable {n:Nat} {T:List Tie} {bs:List Int} {ss:List (Option Int)} {h:Hd} {lk:Nat}
abbrev LLs (n:Nat) (T:List Tie) (bs:List Int) (ss:List (Option Int)):List D:=(aW n T bs ss).map D.str
theorem vU:(LLs n T bs ss).length=1 + T.length + bs.length + ss.length:=by simp [aW];omega
theorem My:atI (LLs n T bs ss) 0=some (.str (line cV [(n:Int)])):=IL _ _
theorem KO {i:Nat}(hi:i < T.length):atI (LLs n T bs ss) ((1 + i:Nat):Int)=some (.str (gi T[i])):=c9 (by
  rw [List.getElem?_map,aW,Nat.add_comm 1 i,List.getElem?_cons_succ,List.getElem?_append_left (by simpa using hi)];simp [hi])
theorem GJ {i:Nat}(hi:i < bs.length):atI (LLs n T bs ss) ((1 + T.length + i:Nat):Int)=some (.str (iA bs[i])):=c9 (by
  rw [List.getElem?_map,aW,show 1 + T.length + i=T.length + i + 1 by omega,List.getElem?_cons_succ,List.getElem?_append_right (by simp),List.length_map,Nat.add_sub_cancel_left,List.getElem?_append_left (by simpa using hi)];simp [hi])
theorem Ip {i:Nat}(hi:i < ss.length):atI (LLs n T bs ss) ((1 + T.length + bs.length + i:Nat):Int)=some (.str (ck ss[i])):=c9 (by
  rw [List.getElem?_map,aW,show 1 + T.length + bs.length + i=T.length + (bs.length + i) + 1 by omega,List.getElem?_cons_succ,List.getElem?_append_right (by simp),List.length_map,Nat.add_sub_cancel_left,List.getElem?_append_right (by simp),List.length_map,Nat.add_sub_cancel_left];simp [hi])
theorem vV (hn1:1≤n)(hn:n≤30)(hl:h[lk]? = some (.lst (LLs n T bs ss))):ed [.ref lk] h=.ok (.int n) h:=by
  have nb:(n:Int).natAbs < 10 ^ 60:=big (by omega) (by omega)
  obtain⟨k,g,q,hk,gk⟩:=ko (w:=cV) (ns:=[(n:Int)]) (by decide) (by decide) (by simp) (by intro i hi;rw [List.mem_singleton.mp hi];exact nb) h
  have s1:aF (gN 1) (am aQ (ab (fC (.str cV)) (ab (fAt (aa 0) (fC (.int 0))) ak))) [some (.ref lk),none] h=.nx [some (.ref lk),some (.ref k)] (h++g):=aL (aw (kQ rfl (bj rfl rfl (aU hl) My)) q)
  have at0:fAt (aa 1) (fC (.int 0)) [some (.ref lk),some (.ref k)] (h++g)=.ok (.int n) (h++g):=bj rfl rfl (aU gk) rfl
  have s2:sIf (tOr (tE (aj oNe (cx (lOf (aa 1))) (fC (.int 1)))) (bx (tE (am aC (ab (fAt (aa 1) (fC (.int 0))) (ab (fC (.int 1)) (ab (fC (.int 30)) ak))))))) dH br [some (.ref lk),some (.ref k)] (h++g)=.nx [some (.ref lk),some (.ref k)] (h++g) :=
    eC (f6 (bg (ar (dY (bZ rfl (aU gk))) rfl rfl)) (cB (b:=true) (bg (aw (ae at0 (ae rfl (ae rfl rfl))) (by rw [cY,decide_eq_true (by omega),decide_eq_true (by omega)];rfl)))))
  exact (eK rfl rfl ((a4 s1).trans ((a4 s2).trans (bV at0)))).trans (cn rfl)
theorem pF {a:EF}{σ:Sd}{h1 h2:Hd}{x y z:D}(p:a σ h1=.ok (.tup [x,y,z]) h2):im a pNo (pAt (fC (.int 2))) σ h1=.ok (.tup [x,y]) h2:=by
  show Res.bind _ _=_
  rw [p]
  rfl
theorem x4 {l:List D}{x:D}:atI (l++[x]) (-1)=some x:=by
  have e:ixN (l++[x]).length (-1)=some l.length:=by
    unfold ixN
    rw [if_neg (by omega),if_pos (by simp only [List.length_append,List.length_cons,List.length_nil];omega)]
    simp only [List.length_append,List.length_cons,List.length_nil]
    congr 1
    omega
  unfold atI
  rw [e]
  exact List.getElem?_concat_length
theorem D4 (X:List Tie):kA (X.map ay)≤20:=Nat.le_trans (fO (k:=1) (fun t=>by simp [ay,dep,kA]) X) (by decide)
theorem Iq {A:Nat}{X:List Tie}{t:Tie}(hA:h[A]? = some (.lst (X.map ay)))(lt:t.a < t.b)(up:∀ s∈X,yX s t):cr [.ref A,ay t] h=.ok (.bl true) h:=by
  have c1:tE (aj oLt (fAt (aa 1) (fC (.int 0))) (fAt (aa 1) (fC (.int 1)))) [some (.ref A),some (ay t)] h=.ok true h:=bg (ar (bj rfl rfl rfl rfl) (bj rfl rfl rfl rfl) (F8 (by omega)))
  have hA2:(h++[bn.lst []])[A]? = some (.lst (X.map ay)):=aA _ hA
  have eq:∀ b,eqL (X.map ay) [] = some b→tE (aj oEq (aa 0) (aT ak)) [some (.ref A),some (ay t)] h=.ok b (h++[.lst []]):=fun b e=>by
    refine bg (ar rfl (cq rfl) ?_)
    show (match eqG (h++[bn.lst []]) (.ref A) (.ref h.length) with|some b=>Res.ok (D.bl b) (h++[bn.lst []])|none=>.bad)=_
    have:eqG (h++[bn.lst []]) (.ref A) (.ref h.length)=some b:=by
      simp only [eqG,eI,hA2,List.getElem?_concat_length]
      exact e
    rw [this]
  have fin:∀ h2,(∃ g,h2=h++g)→tOr (tE (aj oEq (aa 0) (aT ak))) (tE (aj HG (im (fAt (aa 0) (fC (.int (-1)))) pNo (pAt (fC (.int 2)))) (im (aa 1) pNo (pAt (fC (.int 2)))))) [some (.ref A),some (ay t)] h=.ok true h2→cr [.ref A,ay t] h=.ok (.bl true) h:=fun h2 ⟨g,e⟩ q=>by
    have:=(eK (np:=2) (n:=2) (ds:=[.ref A,ay t]) rfl rfl (bV (jS (AX c1 q))))
    refine this.trans ?_
    rw [e]
    exact cn rfl
  rcases List.eq_nil_or_concat X with e|⟨Y,s,e⟩
  · refine fin (h++[.lst []]) ⟨_,rfl⟩ (vw (eq true ?_))
    rw [e];rfl
  · have ls:yX s t:=up s (by rw [e];simp)
    have q:=eq false (by
      unfold eqL
      rw [if_pos (D4 X),if_neg (by rw [e];simp)])
    refine fin (h++[.lst []]) ⟨_,rfl⟩ (f6 q (bg (ar (pF (bj (l:=X.map ay) (d:=ay s) rfl rfl (aU hA2) (by rw [e,List.concat_eq_append,List.map_append];exact x4))) (pF rfl) ?_)))
    have l2:lexLt [(s.a:Int),s.b] [(t.a:Int),t.b] = true:=by
      rcases ls with c|⟨c1,c2⟩
      · rw [lexLt,if_neg (by omega)];exact decide_eq_true (by omega)
      · rw [lexLt,if_pos (by omega),lexLt,if_neg (by omega)];exact decide_eq_true (by omega)
    show Res.ok (D.bl (lexLt [(s.a:Int),s.b] [(t.a:Int),t.b])) _=_
    rw [l2]
inductive TI (n lk A:Nat) (h:Hd) (T:List Tie):Nat→Sd→Hd→Prop
  | mk {i:Nat} {y z:Option D} {g:Hd}:TI n lk A h T i [some (.ref lk),some (.int n),some (.ref A),y,z] (h ++ .lst ((T.take i).map ay) :: g)
theorem Bo (t:Tie):(decide ([116,105,101,32].length≤(gi t).length) && ((gi t).take [116,105,101,32].length == [116,105,101,32]))=true:=by
  have e:gi t=116 :: 105 :: 101 :: 32 :: bI [32] [tx t.a,tx t.b,tx t.w]:=rfl
  rw [e]
  generalize bI [32] [tx t.a,tx t.b,tx t.w] = r
  simp
theorem Bp (b:Int):(decide ([116,105,101,32].length≤(iA b).length) && ((iA b).take [116,105,101,32].length == [116,105,101,32]))=false:=by
  have e:iA b=98 :: 97 :: 114 :: 32 :: bI [32] [tx b]:=rfl
  rw [e]
  generalize bI [32] [tx b] = r
  simp
theorem mT {a b:EF}{σ:Sd}{h1 h2 h3:Hd}{m k:Nat}(p:a σ h1=.ok (.int m) h2)(q:b σ h2=.ok (.int (m + k:Nat)) h3)(l:m + k≤1000000):e7 a b σ h1=.ok ((List.range k).map (fun j:Nat=>D.int ((m + j:Nat):Int)),none) h3:=by
  show Res.bind _ _=_
  rw [p,aq]
  show Res.bind _ _=_
  rw [q]
  show (if (-1000000≤(m:Int)∧(m:Int)≤1000000) ∧ -1000000≤((m + k:Nat):Int)∧((m + k:Nat):Int)≤1000000 then _ else _)=_
  rw [if_pos (by omega)]
  have e:(((m + k:Nat):Int) - m).toNat=k:=by omega
  rw [e]
  congr 2
theorem vW (hn1:1≤n)(hn:n≤30)(O:TOk n n 0 T)(rise:T.Pairwise yX)(asc:∀ t∈T,t.a < t.b)(lb:bs.length=n)(ls:ss.length=n)(hl:h[lk]? = some (.lst (LLs n T bs ss))) :
    ∃ g,ef [.ref lk,.int n] h=.ok (.ref h.length) (h ++ .lst (T.map ay) :: g):=by
  have ol:=O.len
  have len:=vU (n:=n) (T:=T) (bs:=bs) (ss:=ss)
  have s1:aF (gN 2) (aT ak) [some (.ref lk),some (.int n),none,none,none] h=.nx [some (.ref lk),some (.int n),some (.ref h.length),none,none] (h++[.lst []]):=aL (cq rfl)
  obtain⟨r,hr⟩ : ∃ r,bs.length + ss.length=r + 1:=⟨bs.length + ss.length - 1,by omega⟩
  have er:(List.range (T.length + (r + 1))).map (fun j:Nat=>D.int ((1 + j:Nat):Int))=(List.range T.length).map (fun j:Nat=>D.int ((1 + j:Nat):Int))++(D.int ((1 + T.length:Nat):Int) :: (List.range r).map fun j:Nat=>D.int ((1 + (T.length + (j + 1)):Nat):Int)):=by
    rw [List.range_add,List.map_append,List.range_succ_eq_map]
    simp [Function.comp_def]
  have q2:e7 (fC (.int 1)) (cx (lOf (aa 0))) [some (.ref lk),some (.int n),some (.ref h.length),none,none] (h++[.lst []])=.ok ((List.range (T.length + (r + 1))).map (fun j:Nat=>D.int ((1 + j:Nat):Int)),none) (h++[.lst []]) :=
    mT (m:=1) rfl ((dY (bZ rfl (aU (aA _ hl)))).trans (by rw [len];congr 3;omega)) (by omega)
  obtain⟨σ3,h3,q3,z3⟩:=jL (P:=TI n lk h.length h T) (g:=none) (k:=0) (all:=(List.range (T.length + (r + 1))).map (fun j:Nat=>D.int ((1 + j:Nat):Int))) (fun _ _ _ _=>trivial)
    (xs:=(List.range T.length).map (fun j:Nat=>D.int ((1 + j:Nat):Int))) (rest:=D.int ((1 + T.length:Nat):Int) :: (List.range r).map fun j:Nat=>D.int ((1 + (T.length + (j + 1)):Nat):Int)) (tg:=gN 3) (b:=dn)
    (σ:=[some (.ref lk),some (.int n),some (.ref h.length),none,none]) (h:=h++[.lst []]) (by
    intro i x σ h0 hx z
    rw [Nat.zero_add] at z ⊢
    have hi:i < T.length:=by have:=(List.getElem?_eq_some_iff.mp hx).1;simpa using this
    have hx':x=.int ((1 + i:Nat):Int):=by simpa [hi] using hx.symm
    subst hx'
    cases z
    rename_i yo zo g
    obtain⟨t,ht⟩ : ∃ t,t=T[i]:=⟨_,rfl⟩
    have mt:t∈T:=by rw [ht];exact List.getElem_mem hi
    have tk1:T.take (i + 1)=T.take i++[t]:=by rw [ht,List.take_add_one];simp [hi]
    have at1:∀ (h':Hd) (z:Option D),h'[lk]? = some (.lst (LLs n T bs ss))→fAt (aa 0) (aa 3) [some (.ref lk),some (.int n),some (.ref h.length),some (.int ((1 + i:Nat):Int)),z] h'=.ok (.str (gi t)) h':=fun h' z e=>bj rfl rfl (aU e) (by rw [ht];exact KO hi)
    have hl1:(h++bn.lst ((T.take i).map ay) :: g)[lk]? = some (.lst (LLs n T bs ss)):=aA _ hl
    have z:=C0 hn O mt
    obtain⟨k,g2,q,hk,gk⟩:=ko (w:=Gx) (ns:=[(t.a:Int),t.b,t.w]) (by decide) (by decide) (by simp) (by
      intro i hi
      simp only [List.mem_cons,List.not_mem_nil,or_false] at hi
      rcases hi with e|e|e<;>rw [e]
      · exact z.a
      · exact z.b
      · exact z.w) (h++bn.lst ((T.take i).map ay) :: g)
    obtain⟨H,hH⟩ : ∃ H,H=h++bn.lst ((T.take i).map ay) :: g:=⟨_,rfl⟩
    have gA:H[h.length]? = some (.lst ((T.take i).map ay)):=by rw [hH];exact cm
    rw [← hH] at q gk hl1 hk ⊢
    have t1:sIf (bx (tE (io (fAt (aa 0) (aa 3)) (fC (.str [116,105,101,32]))))) Hu br [some (.ref lk),some (.int n),some (.ref h.length),some (.int ((1 + i:Nat):Int)),zo] H=.nx [some (.ref lk),some (.int n),some (.ref h.length),some (.int ((1 + i:Nat):Int)),zo] H :=
      eC (cB (b:=true) (bg ((jO (at1 H _ hl1) rfl).trans (by rw [Bo]))))
    have t2:aF (gN 4) (fk (lOf (am aQ (ab (fC (.str [116,105,101])) (ab (fAt (aa 0) (aa 3)) ak))))) [some (.ref lk),some (.int n),some (.ref h.length),some (.int ((1 + i:Nat):Int)),zo] H=.nx [some (.ref lk),some (.int n),some (.ref h.length),some (.int ((1 + i:Nat):Int)),some (ay t)] (H++g2) :=
      aL ((og (bZ (aw (kQ rfl (at1 H _ hl1)) q) (aU gk))).trans rfl)
    have lt:=O.lt t mt
    have up:∀ s∈T.take i,yX s t:=fun s hs=>by
      have rr:=rise
      rw [← List.take_append_drop (i + 1) T,tk1,List.append_assoc,List.pairwise_append] at rr
      exact rr.2.2 s hs t (by simp)
    have t3:sIf (tOr (bx (tE (am fu (ab (aa 1) (ab (aa 4) ak))))) (bx (tE (am cr (ab (aa 2) (ab (aa 4) ak)))))) dH br [some (.ref lk),some (.int n),some (.ref h.length),some (.int ((1 + i:Nat):Int)),some (ay t)] (H++g2)=.nx [some (.ref lk),some (.int n),some (.ref h.length),some (.int ((1 + i:Nat):Int)),some (ay t)] (H++g2) :=
      eC (f6 (cB (b:=true) (bg (aw (kQ rfl rfl) (ul (O.ne t mt) lt.1 lt.2 (O.wt t mt) _)))) (cB (b:=true) (bg (aw (kQ rfl rfl) (Iq (aA _ gA) (asc t mt) up)))))
    have lz:((T.take i).map ay).length < SZ:=by simp [SZ];omega
    have t4:fm (kB (aa 2) (aa 4)) [some (.ref lk),some (.int n),some (.ref h.length),some (.int ((1 + i:Nat):Int)),some (ay t)] (H++g2)=.nx [some (.ref lk),some (.int n),some (.ref h.length),some (.int ((1 + i:Nat):Int)),some (ay t)] (h ++ .lst ((T.take (i + 1)).map ay) :: (g++g2)):=by
      refine (fD (mH rfl (aA _ gA) rfl (aA _ gA) lz)).trans ?_
      rw [hH,jh,tk1,List.map_append]
      rfl
    exact⟨_,rfl,_,_,(a4 t1).trans ((a4 t2).trans ((a4 t3).trans t4)),.mk⟩) (TI.mk (i:=0) (g:=[]))
  rw [Nat.zero_add,List.length_map,List.length_range] at z3
  cases z3
  rename_i yo zo g
  rw [List.take_length] at q3
  have b0:0 < bs.length:=by omega
  have at1:fAt (aa 0) (aa 3) [some (.ref lk),some (.int n),some (.ref h.length),some (.int ((1 + T.length:Nat):Int)),zo] (h ++ .lst (T.map ay) :: g)=.ok (.str (iA bs[0])) (h ++ .lst (T.map ay) :: g):=bj rfl rfl (aU (aA _ hl)) (GJ (i:=0) b0)
  have t1:dn [some (.ref lk),some (.int n),some (.ref h.length),some (.int ((1 + T.length:Nat):Int)),zo] (h ++ .lst (T.map ay) :: g)=.bk [some (.ref lk),some (.int n),some (.ref h.length),some (.int ((1 + T.length:Nat):Int)),zo] (h ++ .lst (T.map ay) :: g):=by
    have e:sIf (bx (tE (io (fAt (aa 0) (aa 3)) (fC (.str [116,105,101,32]))))) Hu br [some (.ref lk),some (.int n),some (.ref h.length),some (.int ((1 + T.length:Nat):Int)),zo] (h ++ .lst (T.map ay) :: g)=.bk [some (.ref lk),some (.int n),some (.ref h.length),some (.int ((1 + T.length:Nat):Int)),zo] (h ++ .lst (T.map ay) :: g) :=
      (DL (cB (b:=false) (bg ((jO at1 rfl).trans (by rw [Bp]))))).trans rfl
    show aB _ _ _ _=_
    unfold aB
    rw [e]
  have q4:fI none ((List.range (T.length + (r + 1))).map (fun j:Nat=>D.int ((1 + j:Nat):Int))) (gN 3) dn (D.int ((1 + T.length:Nat):Int) :: (List.range r).map fun j:Nat=>D.int ((1 + (T.length + (j + 1)):Nat):Int)) [some (.ref lk),some (.int n),some (.ref h.length),yo,zo] (h ++ .lst (T.map ay) :: g)=.nx [some (.ref lk),some (.int n),some (.ref h.length),some (.int ((1 + T.length:Nat):Int)),zo] (h ++ .lst (T.map ay) :: g):=by
    exact Io trivial rfl t1
  have s3:fJ (e7 (fC (.int 1)) (cx (lOf (aa 0)))) (gN 3) dn [some (.ref lk),some (.int n),some (.ref h.length),none,none] (h++[.lst []])=.nx [some (.ref lk),some (.int n),some (.ref h.length),some (.int ((1 + T.length:Nat):Int)),zo] (h ++ .lst (T.map ay) :: g) :=
    kj q2 ((congrArg (fun l=>fI none ((List.range (T.length + (r + 1))).map (fun j:Nat=>D.int ((1 + j:Nat):Int))) (gN 3) dn l [some (.ref lk),some (.int n),some (.ref h.length),none,none] (h++[.lst []])) er).trans (q3.trans q4))
  exact⟨g,(eK rfl rfl ((a4 s1).trans ((a4 s3).trans (bV rfl)))).trans ip⟩
end
end Fm
set_option linter.all false
namespace Fm
section
variable {n:Nat} {T:List Tie} {bs:List Int} {ss:List (Option Int)} {h:Hd} {lk:Nat}
theorem pG {k:Nat}{L:List D}{d:D}(hl:h[lk]? = some (.lst L))(lt:k < L.length)(e:atI L (k:Int)=some d):dq [.ref lk,.int k] h=.ok d h:=by
  have s1:sIf (tE (aj oEq (aa 1) (cx (lOf (aa 0))))) dH br [some (.ref lk),some (.int k)] h=.nx [some (.ref lk),some (.int k)] h:=eC (bg (ar rfl (dY (bZ rfl (aU hl))) (AY (by omega))))
  exact (eK rfl rfl ((a4 s1).trans (bV (bj rfl rfl (aU hl) e)))).trans dX
theorem Ir {x y:EF}{σ:Sd}{h h1 h2:Hd}{n m:Nat}{l0 l k:List D}(p:x σ h=.ok (.ref n) h1)(q:h1[n]? = some (.lst l0))(r:y σ h1=.ok (.ref m) h2)(s:h2[n]? = some (.lst l))(t:h2[m]? = some (.lst k))(z:l.length + k.length≤SZ):yr x y σ h=.ok .non (h2.set n (.lst (l++k))):=by
  show Res.bind _ _=_
  rw [p,aq]
  simp only [q]
  show Res.bind _ _=_
  rw [r,aq]
  simp only [s,t]
  exact if_pos z
inductive BI (lk st n A:Nat) (h:Hd) (bs:List D):Nat→Sd→Hd→Prop
  | mk {i:Nat} {y z:Option D} {g:Hd}:BI lk st n A h bs i [some (.ref lk),some (.int st),some (.int n),some (.ref A),y,z] (h ++ .lst (bs.take i) :: g)
theorem vX (hn:n≤30)(lT:T.length≤900)(lb:bs.length=n)(ls:ss.length=n)(bb:∀ b∈bs,b.natAbs < 10 ^ 60)(hl:h[lk]? = some (.lst (LLs n T bs ss))) :
    ∃ g,eh [.ref lk,.int ((1 + T.length:Nat):Int),.int n] h=.ok (.ref h.length) (h ++ .lst (bs.map .int) :: g):=by
  have len:=vU (n:=n) (T:=T) (bs:=bs) (ss:=ss)
  obtain⟨st,hst⟩ : ∃ st,st=1 + T.length:=⟨_,rfl⟩
  rw [← hst]
  have s1:aF (gN 3) (aT ak) [some (.ref lk),some (.int st),some (.int n),none,none,none] h=.nx [some (.ref lk),some (.int st),some (.int n),some (.ref h.length),none,none] (h++[.lst []]):=aL (cq rfl)
  have q2:e7 (aa 1) (aj cb (aa 1) (aa 2)) [some (.ref lk),some (.int st),some (.int n),some (.ref h.length),none,none] (h++[.lst []])=.ok ((List.range n).map (fun j:Nat=>D.int ((st + j:Nat):Int)),none) (h++[.lst []]) :=
    mT (m:=st) rfl (ar rfl rfl rfl) (by omega)
  obtain⟨σ3,h3,q3,z3⟩:=d7 (P:=BI lk st n h.length h (bs.map .int)) (g:=none) (k:=0) (all:=(List.range n).map (fun j:Nat=>D.int ((st + j:Nat):Int))) (fun _ _ _ _=>trivial)
    (xs:=(List.range n).map (fun j:Nat=>D.int ((st + j:Nat):Int))) (tg:=gN 4) (b:=kU)
    (σ:=[some (.ref lk),some (.int st),some (.int n),some (.ref h.length),none,none]) (h:=h++[.lst []]) (by
    intro i x σ h0 hx z
    rw [Nat.zero_add] at z ⊢
    have hi:i < n:=by have:=(List.getElem?_eq_some_iff.mp hx).1;simpa using this
    have hx':x=.int ((st + i:Nat):Int):=by simpa [hi] using hx.symm
    subst hx'
    cases z
    rename_i yo zo g
    have hib:i < bs.length:=by omega
    obtain⟨b,hb⟩ : ∃ b,b=bs[i]:=⟨_,rfl⟩
    have mb:b∈bs:=by rw [hb];exact List.getElem_mem hib
    have tk1:(bs.map D.int).take (i + 1)=(bs.map D.int).take i++[.int b]:=by rw [hb,List.take_add_one];simp [hib]
    obtain⟨H,hH⟩ : ∃ H,H=h++bn.lst ((bs.map D.int).take i) :: g:=⟨_,rfl⟩
    have hl1:H[lk]? = some (.lst (LLs n T bs ss)):=by rw [hH];exact aA _ hl
    have la:=pG (k:=st + i) hl1 (by omega) (by rw [hst];exact GJ hib)
    rw [← hb] at la
    obtain⟨k,g2,q,hk,gk⟩:=ko (w:=Ig) (ns:=[b]) (by decide) (by decide) (by simp) (by intro i hi;rw [List.mem_singleton.mp hi];exact bb b mb) H
    have gA:H[h.length]? = some (.lst ((bs.map D.int).take i)):=by rw [hH];exact cm
    rw [← hH]
    have t1:aF (gN 5) (am aQ (ab (fC (.str [98,97,114])) (ab (am dq (ab (aa 0) (ab (aa 4) ak))) ak))) [some (.ref lk),some (.int st),some (.int n),some (.ref h.length),some (.int ((st + i:Nat):Int)),zo] H=.nx [some (.ref lk),some (.int st),some (.int n),some (.ref h.length),some (.int ((st + i:Nat):Int)),some (.ref k)] (H++g2) :=
      aL (aw (kQ rfl (aw (kQ rfl rfl) la)) q)
    have t2:sIf (tE (aj oNe (cx (lOf (aa 5))) (fC (.int 1)))) dH br [some (.ref lk),some (.int st),some (.int n),some (.ref h.length),some (.int ((st + i:Nat):Int)),some (.ref k)] (H++g2)=.nx [some (.ref lk),some (.int st),some (.int n),some (.ref h.length),some (.int ((st + i:Nat):Int)),some (.ref k)] (H++g2):=eC (bg (ar (dY (bZ rfl (aU gk))) rfl rfl))
    have t3:fm (yr (aa 3) (aa 5)) [some (.ref lk),some (.int st),some (.int n),some (.ref h.length),some (.int ((st + i:Nat):Int)),some (.ref k)] (H++g2)=.nx [some (.ref lk),some (.int st),some (.int n),some (.ref h.length),some (.int ((st + i:Nat):Int)),some (.ref k)] (h ++ .lst ((bs.map D.int).take (i + 1)) :: (g++g2)):=by
      refine (fD (Ir rfl (aA _ gA) rfl (aA _ gA) gk (by simp [SZ];omega))).trans ?_
      rw [hH,jh,tk1]
      rfl
    exact⟨_,rfl,_,_,(a4 t1).trans ((a4 t2).trans t3),.mk⟩) (BI.mk (i:=0) (g:=[]))
  rw [Nat.zero_add,List.length_map,List.length_range] at z3
  cases z3
  rename_i yo zo g
  have eb:(bs.map D.int).take n=bs.map D.int:=List.take_of_length_le (by simp;omega)
  rw [eb] at q3
  exact⟨g,(eK rfl rfl ((a4 s1).trans ((a4 (kj q2 q3)).trans (bV rfl)))).trans ip⟩
abbrev Bq:Tab:=[([102,114,101,101],none),([115,116,97,121,115,32,48],some 0),([115,116,97,121,115,32,49],some 1)]
theorem GK {o:Option Int}(h:o=none∨o=some 0∨o=some 1):gl Bq (ck o)=some o:=by
  rcases h with e|e|e<;>subst e
  · rfl
  · have:ck (some 0)=[115,116,97,121,115,32,48]:=by
      have:=Bk 0
      rw [g7 (by decide)] at this
      show [115,116,97,121,115,32]++tx 0=_
      rw [show (0:Int)=((0:Nat):Int) from rfl,this];rfl
    rw [this];rfl
  · have:ck (some 1)=[115,116,97,121,115,32,49]:=by
      have:=Bk 1
      rw [g7 (by decide)] at this
      show [115,116,97,121,115,32]++tx 1=_
      rw [show (1:Int)=((1:Nat):Int) from rfl,this];rfl
    rw [this];rfl
theorem GL (o:Option Int):HH o=bf o:=by cases o<;>rfl
theorem qL (hn:n≤30)(lT:T.length≤900)(lb:bs.length=n)(ls:ss.length=n)(os:∀ x∈ss,x=none∨x=some 0∨x=some 1)(hl:h[lk]? = some (.lst (LLs n T bs ss))) :
    ∃ g,dr [.ref lk,.int ((1 + T.length + n:Nat):Int),.int n] h=.ok (.ref h.length) (h ++ .lst (ss.map bf) :: g):=by
  have len:=vU (n:=n) (T:=T) (bs:=bs) (ss:=ss)
  obtain⟨st,hst⟩ : ∃ st,st=1 + T.length + n:=⟨_,rfl⟩
  rw [← hst]
  have s1:aF (gN 3) (aT ak) [some (.ref lk),some (.int st),some (.int n),none,none,none] h=.nx [some (.ref lk),some (.int st),some (.int n),some (.ref h.length),none,none] (h++[.lst []]):=aL (cq rfl)
  have q2:e7 (aa 1) (aj cb (aa 1) (aa 2)) [some (.ref lk),some (.int st),some (.int n),some (.ref h.length),none,none] (h++[.lst []])=.ok ((List.range n).map (fun j:Nat=>D.int ((st + j:Nat):Int)),none) (h++[.lst []]) :=
    mT (m:=st) rfl (ar rfl rfl rfl) (by omega)
  obtain⟨σ3,h3,q3,z3⟩:=d7 (P:=BI lk st n h.length h (ss.map bf)) (g:=none) (k:=0) (all:=(List.range n).map (fun j:Nat=>D.int ((st + j:Nat):Int))) (fun _ _ _ _=>trivial)
    (xs:=(List.range n).map (fun j:Nat=>D.int ((st + j:Nat):Int))) (tg:=gN 4) (b:=jT)
    (σ:=[some (.ref lk),some (.int st),some (.int n),some (.ref h.length),none,none]) (h:=h++[.lst []]) (by
    intro i x σ h0 hx z
    rw [Nat.zero_add] at z ⊢
    have hi:i < n:=by have:=(List.getElem?_eq_some_iff.mp hx).1;simpa using this
    have hx':x=.int ((st + i:Nat):Int):=by simpa [hi] using hx.symm
    subst hx'
    cases z
    rename_i yo zo g
    have hib:i < ss.length:=by omega
    obtain⟨b,hb⟩ : ∃ b,b=ss[i]:=⟨_,rfl⟩
    have mb:b∈ss:=by rw [hb];exact List.getElem_mem hib
    have tk1:(ss.map bf).take (i + 1)=(ss.map bf).take i++[bf b]:=by rw [hb,List.take_add_one];simp [hib]
    obtain⟨H,hH⟩ : ∃ H,H=h++bn.lst ((ss.map bf).take i) :: g:=⟨_,rfl⟩
    have hl1:H[lk]? = some (.lst (LLs n T bs ss)):=by rw [hH];exact aA _ hl
    have la:=pG (k:=st + i) hl1 (by omega) (by rw [hst,← lb];exact Ip hib)
    rw [← hb] at la
    have gA:H[h.length]? = some (.lst ((ss.map bf).take i)):=by rw [hH];exact cm
    rw [← hH]
    have tb:=GK (os b mb)
    have t1:aF (gN 5) (am dq (ab (aa 0) (ab (aa 4) ak))) [some (.ref lk),some (.int st),some (.int n),some (.ref h.length),some (.int ((st + i:Nat):Int)),zo] H=.nx [some (.ref lk),some (.int st),some (.int n),some (.ref h.length),some (.int ((st + i:Nat):Int)),some (.str (ck b))] H :=
      aL (aw (kQ rfl rfl) la)
    have f1:∀ σ:Sd,aa 5 σ H=.ok (.str (ck b)) H→n6 Bq (aa 5) σ H=.ok (.bl false) H:=fun σ e=>by
      show Res.bind _ _=_
      rw [e,aq]
      show Res.ok (D.bl (gl Bq (ck b)).isNone) H=_
      rw [tb];rfl
    have f2:∀ σ:Sd,aa 5 σ H=.ok (.str (ck b)) H→ve Bq (aa 5) σ H=.ok (bf b) H:=fun σ e=>by
      show Res.bind _ _=_
      rw [e,aq]
      show (match gl Bq (ck b) with|some d=>Res.ok (HH d) H|none=>.bad)=_
      rw [tb,← GL]
    have t2:sIf (tE (n6 Bq (aa 5))) dH br [some (.ref lk),some (.int st),some (.int n),some (.ref h.length),some (.int ((st + i:Nat):Int)),some (.str (ck b))] H=.nx [some (.ref lk),some (.int st),some (.int n),some (.ref h.length),some (.int ((st + i:Nat):Int)),some (.str (ck b))] H:=eC (bg (f1 _ rfl))
    have lz:((ss.map bf).take i).length < SZ:=by simp [SZ];omega
    have t3:fm (kB (aa 3) (ve Bq (aa 5))) [some (.ref lk),some (.int st),some (.int n),some (.ref h.length),some (.int ((st + i:Nat):Int)),some (.str (ck b))] H=.nx [some (.ref lk),some (.int st),some (.int n),some (.ref h.length),some (.int ((st + i:Nat):Int)),some (.str (ck b))] (h ++ .lst ((ss.map bf).take (i + 1)) :: g):=by
      refine (fD (mH rfl gA (f2 _ rfl) gA lz)).trans ?_
      rw [hH,C1,tk1]
    exact⟨_,rfl,_,_,(a4 t1).trans ((a4 t2).trans t3),.mk⟩) (BI.mk (i:=0) (g:=[]))
  rw [Nat.zero_add,List.length_map,List.length_range] at z3
  cases z3
  rename_i yo zo g
  have eb:(ss.map bf).take n=ss.map bf:=List.take_of_length_le (by simp;omega)
  rw [eb] at q3
  exact⟨g,(eK rfl rfl ((a4 s1).trans ((a4 (kj q2 q3)).trans (bV rfl)))).trans ip⟩
theorem Iu (hn1:1≤n)(hn:n≤30)(O:TOk n n 0 T)(rise:T.Pairwise yX)(asc:∀ t∈T,t.a < t.b)(lb:bs.length=n)(ls:ss.length=n)(os:∀ x∈ss,x=none∨x=some 0∨x=some 1)(bb:∀ b∈bs,b.natAbs < 10 ^ 60)(h:Hd) :
    d5 [.str (bI [10] (aW n T bs ss))] h=.ok (d8 n T bs ss).enc h:=by
  have len:=vU (n:=n) (T:=T) (bs:=bs) (ss:=ss)
  have ol:=O.len
  obtain⟨ll,lc⟩:=mQ hn O lb ls os bb
  have jl:(bI [10] (aW n T bs ss)).length≤1000000:=by
    have h1:=mR (sp:=10) (L:=aW n T bs ss)
    have h2:=om ll
    omega
  obtain⟨X,hX⟩ : ∃ X,X=bI [10] (aW n T bs ss):=⟨_,rfl⟩
  have sp:(cI 10 X).map D.str=LLs n T bs ss:=by rw [hX,y6]
  rw [← hX] at jl ⊢
  have s0:sIf (bx (tE (bA .str (aa 0)))) dH br [some (.str X),none,none,none,none,none,none] h=.nx [some (.str X),none,none,none,none,none,none] h:=eC (cB (b:=true) (bg rfl))
  obtain⟨h1,hh1⟩ : ∃ h1,h1=h++[bn.lst (LLs n T bs ss)]:=⟨_,rfl⟩
  have s1:aF (gN 1) (aT (kf 10 (aa 0))) [some (.str X),none,none,none,none,none,none] h=.nx [some (.str X),some (.ref h.length),none,none,none,none,none] h1:=by
    have q:=yZ (c:=10) (a:=aa 0) (σ:=[some (.str X),none,none,none,none,none,none]) (h:=h) rfl jl
    rw [sp] at q
    rw [hh1]
    exact aL (cq q (by rw [len];simp only [SZ];omega))
  have l1:h1[h.length]? = some (.lst (LLs n T bs ss)):=by rw [hh1];exact List.getElem?_concat_length
  have s2:aF (gN 2) (am ed (ab (aa 1) ak)) [some (.str X),some (.ref h.length),none,none,none,none,none] h1=.nx [some (.str X),some (.ref h.length),some (.int n),none,none,none,none] h1:=aL (aw (ae rfl rfl) (vV hn1 hn l1))
  obtain⟨g2,r2⟩:=vW hn1 hn O rise asc lb ls l1
  obtain⟨h2,hh2⟩ : ∃ h2,h2=h1 ++ .lst (T.map ay) :: g2:=⟨_,rfl⟩
  rw [← hh2] at r2
  have s3:aF (gN 3) (am ef (ab (aa 1) (ab (aa 2) ak))) [some (.str X),some (.ref h.length),some (.int n),none,none,none,none] h1=.nx [some (.str X),some (.ref h.length),some (.int n),some (.ref h1.length),none,none,none] h2:=aL (aw (kQ rfl rfl) r2)
  have l2:h2[h.length]? = some (.lst (LLs n T bs ss)):=by rw [hh2];exact aA _ l1
  have t2:h2[h1.length]? = some (.lst (T.map ay)):=by rw [hh2];exact cm
  obtain⟨g3,r3⟩:=vX hn (by omega) lb ls bb l2
  obtain⟨h3,hh3⟩ : ∃ h3,h3=h2 ++ .lst (bs.map .int) :: g3:=⟨_,rfl⟩
  rw [← hh3] at r3
  have ln:∀ {h':Hd} {x y z:Option D},h'[h1.length]? = some (.lst (T.map ay))→aj cb (fC (.int 1)) (cx (lOf (aa 3))) [some (.str X),some (.ref h.length),some (.int n),some (.ref h1.length),x,y,z] h'=.ok (.int ((1 + T.length:Nat):Int)) h':=fun {h' x y z} e=>by
    refine ar rfl (dY (bZ rfl (aU e))) ?_
    show Res.ok (D.int (1 + (T.map ay).length)) h'=_
    rw [List.length_map]
    congr 2
  have s4:aF (gN 4) (am eh (ab (aa 1) (ab (aj cb (fC (.int 1)) (cx (lOf (aa 3)))) (ab (aa 2) ak)))) [some (.str X),some (.ref h.length),some (.int n),some (.ref h1.length),none,none,none] h2=.nx [some (.str X),some (.ref h.length),some (.int n),some (.ref h1.length),some (.ref h2.length),none,none] h3:=aL (aw (ae rfl (kQ (ln t2) rfl)) r3)
  have l3:h3[h.length]? = some (.lst (LLs n T bs ss)):=by rw [hh3];exact aA _ l2
  have t3:h3[h1.length]? = some (.lst (T.map ay)):=by rw [hh3];exact aA _ t2
  have b3:h3[h2.length]? = some (.lst (bs.map .int)):=by rw [hh3];exact cm
  obtain⟨g4,r4⟩:=qL hn (by omega) lb ls os l3
  obtain⟨h4,hh4⟩ : ∃ h4,h4=h3 ++ .lst (ss.map bf) :: g4:=⟨_,rfl⟩
  rw [← hh4] at r4
  have s5:aF (gN 5) (am dr (ab (aa 1) (ab (aj cb (aj cb (fC (.int 1)) (cx (lOf (aa 3)))) (aa 2)) (ab (aa 2) ak)))) [some (.str X),some (.ref h.length),some (.int n),some (.ref h1.length),some (.ref h2.length),none,none] h3=.nx [some (.str X),some (.ref h.length),some (.int n),some (.ref h1.length),some (.ref h2.length),some (.ref h3.length),none] h4:=aL (aw (ae rfl (kQ (ar (ln t3) rfl rfl) rfl)) r4)
  have l4:h4[h.length]? = some (.lst (LLs n T bs ss)):=by rw [hh4];exact aA _ l3
  have t4:h4[h1.length]? = some (.lst (T.map ay)):=by rw [hh4];exact aA _ t3
  have b4:h4[h2.length]? = some (.lst (bs.map .int)):=by rw [hh4];exact aA _ b3
  have y4:h4[h3.length]? = some (.lst (ss.map bf)):=by rw [hh4];exact cm
  have s6:aF (gN 6) (aj cb (aj cb (fC (.int 1)) (cx (lOf (aa 3)))) (aj gI (fC (.int 2)) (aa 2))) [some (.str X),some (.ref h.length),some (.int n),some (.ref h1.length),some (.ref h2.length),some (.ref h3.length),none] h4=.nx [some (.str X),some (.ref h.length),some (.int n),some (.ref h1.length),some (.ref h2.length),some (.ref h3.length),some (.int (((1 + T.length:Nat):Int) + 2 * n))] h4 :=
    aL (ar (ln t4) (ar rfl rfl (jM (by decide))) rfl)
  have s7:sIf (tE (aj oGt (cx (lOf (aa 1))) (aa 6))) dH br [some (.str X),some (.ref h.length),some (.int n),some (.ref h1.length),some (.ref h2.length),some (.ref h3.length),some (.int (((1 + T.length:Nat):Int) + 2 * n))] h4=.nx [some (.str X),some (.ref h.length),some (.int n),some (.ref h1.length),some (.ref h2.length),some (.ref h3.length),some (.int (((1 + T.length:Nat):Int) + 2 * n))] h4 :=
    eC (bg (ar (dY (bZ rfl (aU l4))) rfl (Ky (by omega))))
  have s8:a7 (am dL (ab (aa 2) (ab (aa 3) (ab (aa 4) (ab (aa 5) ak))))) [some (.str X),some (.ref h.length),some (.int n),some (.ref h1.length),some (.ref h2.length),some (.ref h3.length),some (.int (((1 + T.length:Nat):Int) + 2 * n))] h4=.rt (d8 n T bs ss).enc h4:=bV (aw (ae rfl (ae rfl (kQ rfl rfl))) (um hn1 hn O lb ls os t4 b4 y4))
  refine (eK rfl rfl ((a4 s0).trans ((a4 s1).trans ((a4 s2).trans ((a4 s3).trans ((a4 s4).trans ((a4 s5).trans ((a4 s6).trans ((a4 s7).trans s8))))))))).trans ?_
  rw [hh4,hh3,hh2,hh1]
  simp only [List.append_assoc]
  exact cn (yH _)
end
end Fm
set_option linter.all false
namespace Fm
theorem pH {g:Option Nat}{l:List D}{t:TF}{e:EF}{h:Hd}(hg:i4 g l h)(ht:∀ x∈l,t [some x] h=.ok false h):bQ g l (gN 0) [t] e l [none] h=.ok [] h:=by
  have:=bi (g:=g) (all:=l) (tg:=gN 0) (cs:=[t]) (e:=e) (h:=h) (I:=fun σ=>∃ a,σ = [a]) (fun _=>false) (fun d=>d) hg (xs:=l) (σ:=[none]) (by
    rintro x hx σ ⟨a,rfl⟩
    refine⟨[some x],rfl,⟨_,rfl⟩,?_,fun z=>by cases z⟩
    simp [ht x hx]) ⟨_,rfl⟩
  rw [this,List.filter_eq_nil_iff.mpr (by simp)]
  rfl
theorem Br (ss:List (Option Int))(h:Hd):∃ xs:List Int,xs.length≤ss.length∧bQ none (ss.map bf) (gN 0) [(tE (aj eZ (aa 0) (fC .non)))] (aa 0) (ss.map bf) [none] h=.ok (xs.map .int) h:=by
  have:=bi (g:=none) (all:=ss.map bf) (tg:=gN 0) (cs:=[(tE (aj eZ (aa 0) (fC .non)))]) (e:=aa 0) (h:=h) (I:=fun σ=>∃ a,σ = [a]) (fun d=>match d with | .int _=>true|_=>false) (fun d=>d) trivial (xs:=ss.map bf) (σ:=[none]) (by
    rintro x hx σ ⟨a,rfl⟩
    obtain⟨i,_,rfl⟩:=List.mem_map.mp hx
    refine⟨_,rfl,⟨_,rfl⟩,?_,fun _=>rfl⟩
    cases i<;>simp [bf]) ⟨_,rfl⟩
  refine⟨ss.filterMap id,by exact List.length_filterMap_le _ _,?_⟩
  rw [this,List.map_id']
  congr 1
  clear this
  induction ss with
  | nil=>rfl
  | cons x ss ih=>cases x<;>simp [bf,ih]
def y7 (k m:Nat) (h:Hd):Prop:=∃ xs:List Int,h[k]? = some (.lst (xs.map .int))∧xs.length≤m
theorem y8 {w:D}{r:List (Nat × Int)}(hr:r.length≤30){k m:Nat}{h:Hd}(N:y7 k m h)(hm:m≤100000)(x:Option D):∃ (k':Nat) (g:Hd) (y:Option D),fI none (r.map ft) (gN 3) iy (r.map ft) [some w,some (.ref k),some (cA r),x] h=.nx [some w,some (.ref k'),some (cA r),y] (h++g)∧y7 k' (m + 60) (h++g):=by
  obtain⟨σ',h',q,k',g,y,e1,e2,N'⟩:=d7 (P:=fun i σ h'=>∃ k' g y,σ = [some w,some (.ref k'),some (cA r),y]∧h'=h++g∧y7 k' (m + 2 * i) h') (g:=none) (k:=0)
    (all:=r.map ft) (fun _ _ _ _=>trivial) (xs:=r.map ft) (tg:=gN 3) (σ:=[some w,some (.ref k),some (cA r),x]) (h:=h) (b:=iy) (by
    rintro i d σ h0 hx ⟨k1,g,y,rfl,rfl,xs,hk,hl⟩
    rw [Nat.zero_add] at hl ⊢
    have hir:i < r.length:=by have:=(List.getElem?_eq_some_iff.mp hx).1;simpa using this
    have hd:d=ft r[i]:=by simpa [hir] using hx.symm
    subst hd
    obtain⟨p,hp⟩ : ∃ p,p=r[i]:=⟨_,rfl⟩
    rw [← hp]
    obtain⟨H,hH⟩ : ∃ H,H=h++g:=⟨_,rfl⟩
    rw [← hH] at hk ⊢
    have kl:k1 < H.length:=(List.getElem?_eq_some_iff.mp hk).1
    have hk2:(H++[bn.lst [.int p.1,.int p.2]])[k1]? = some (.lst (xs.map .int)):=by rw [List.getElem?_append_left kl];exact hk
    have hn2:(H++[bn.lst [.int p.1,.int p.2]])[H.length]? = some (.lst [.int p.1,.int p.2]):=by simp
    have ee:xs.map D.int++[.int p.1,.int p.2] = (xs++[(p.1:Int),p.2]).map .int:=by simp
    have sz:(xs.map D.int).length + 2≤1000000:=by simp;omega
    refine⟨_,rfl,[some w,some (.ref (H.length + 1)),some (cA r),some (ft p)],H++[bn.lst [.int p.1,.int p.2],.lst ((xs++[(p.1:Int),p.2]).map .int)],?_,H.length + 1,g++[bn.lst [.int p.1,.int p.2],.lst ((xs++[(p.1:Int),p.2]).map .int)],_,rfl,by rw [hH];simp,xs++[(p.1:Int),p.2],by rw [List.getElem?_append_right (by omega)];simp,by simp;omega⟩
    rw [← ee]
    have c1:aT (lOf (aa 3)) [some w,some (.ref k1),some (cA r),some (ft p)] H=.ok (.ref H.length) (H++[bn.lst [.int p.1,.int p.2]]):=by simp [ft,SZ]
    have c2:aT (gQ (aa 1) (aT (lOf (aa 3)))) [some w,some (.ref k1),some (cA r),some (ft p)] H=.ok (.ref (H.length + 1)) (H++[bn.lst [.int p.1,.int p.2],.lst (xs.map D.int++[.int p.1,.int p.2])]):=by
      generalize aT (lOf (aa 3))=E at c1 ⊢
      generalize hH2:H++[bn.lst [.int p.1,.int p.2]] = H2 at c1 hk2 hn2 ⊢
      have l2:H2.length=H.length + 1:=by rw [← hH2];simp
      have e3:H++[bn.lst [.int p.1,.int p.2],.lst (xs.map D.int++[.int p.1,.int p.2])] = H2++[.lst (xs.map D.int++[.int p.1,.int p.2])]:=by rw [← hH2];simp
      rw [e3,← l2]
      generalize xs.map D.int=X at hk2 sz ⊢
      have sz3:X.length + [D.int p.1,.int p.2].length≤1000000:=by simpa using sz
      have sz4:X.length + 1 + 1≤1000000:=by omega
      clear l2 e3 hH2
      generalize H.length=m1 at c1 hn2
      simp [c1,hk2,hn2,SZ,sz,sz4]
    show aF (gN 1) (aT (gQ (aa 1) (aT (lOf (aa 3))))) [some w,some (.ref k1),some (cA r),some (ft p)] H=_
    generalize aT (gQ (aa 1) (aT (lOf (aa 3))))=E at c2 ⊢
    simp [c2]) ⟨k,[],x,rfl,by simp,N⟩
  refine⟨k',g,y,by rw [q,e1,e2],?_⟩
  rw [e2] at N'
  obtain⟨xs,a,b⟩:=N'
  exact⟨xs,a,by simp at b;omega⟩
theorem GM {w:Web}{n:Nat}(W:w.Ok n)(n30:n≤30)(hr:∀ r∈w.ties,r.length≤30)(h:Hd):fP [w.enc] h=.ok (.bl true) h:=by
  have t0:∀ (l:List D) (x:D) (hx:Hd),bA .tuple (aa 0) [some (.tup l)] hx=.ok (.bl true) hx:=fun l x hx=>rfl
  have tups:∀ (l:List D) (hx:Hd),(∀ x∈l,∃ q,x=D.tup q)→bQ none l (gN 0) [(bx (tE (bA .tuple (aa 0))))] (aa 0) l [none] hx=.ok [] hx:=fun l hx hl=>pH trivial fun x hm=>by
    obtain⟨q,rfl⟩:=hl x hm
    simp
  have c1:=tups [.tup (w.ties.map cA),.tup (w.bars.map .int),.tup (w.stays.map bf)] h (by intro x hx;simp at hx;rcases hx with e|e|e<;>exact⟨_,e⟩)
  have s1:sIf (tOr (bx (tE (bA .tuple (aa 0)))) (tE (aj oGt (cx (aJ 1 [] (bd (aa 0)) (gN 0) [(bx (tE (bA .tuple (aa 0))))] (aa 0))) (fC (.int 0))))) (a7 (fC (.bl false))) br [some w.enc,none,none,none] h=.nx [some w.enc,none,none,none] h:=by
    have k:aJ 1 [] (bd (aa 0)) (gN 0) [(bx (tE (bA .tuple (aa 0))))] (aa 0) [some w.enc,none,none,none] h=.ok [] h:=by
      simp only [aJ,bd,aa,slot,List.getElem?_cons_zero,aq,Web.enc]
      exact c1
    generalize aJ 1 [] (bd (aa 0)) (gN 0) [(bx (tE (bA .tuple (aa 0))))] (aa 0)=E at k ⊢
    simp [Web.enc] at k ⊢
    simp [k]
  obtain⟨ys,ly,c2⟩:=Br w.stays (h++[.lst (w.bars.map .int)])
  have lb:w.bars.length=n:=W.b
  have lst:w.stays.length=n:=W.s
  obtain⟨k1,g1,s2,N1⟩ : ∃ k1 g1,aF (gN 1) (aT (gQ (aT (lOf (fAt (aa 0) (fC (.int 1))))) (aT (aJ 1 [] (bd (fAt (aa 0) (fC (.int 2)))) (gN 0) [(tE (aj eZ (aa 0) (fC .non)))] (aa 0))))) [some w.enc,none,none,none] h=.nx [some w.enc,some (.ref k1),none,none] (h++g1)∧y7 k1 60 (h++g1):=by
    have a1:∀ p q r:D,atI [p,q,r] 1=some q:=fun _ _ _=>rfl
    have a2:∀ p q r:D,atI [p,q,r] 2=some r:=fun _ _ _=>rfl
    have z1:w.bars.length≤1000000:=by omega
    have z2:ys.length≤1000000:=by omega
    have f1:aT (lOf (fAt (aa 0) (fC (.int 1)))) [some w.enc,none,none,none] h=.ok (.ref h.length) (h++[.lst (w.bars.map .int)]):=by simp [Web.enc,a1,SZ,z1]
    have f2:aT (aJ 1 [] (bd (fAt (aa 0) (fC (.int 2)))) (gN 0) [(tE (aj eZ (aa 0) (fC .non)))] (aa 0)) [some w.enc,none,none,none] (h++[.lst (w.bars.map .int)])=.ok (.ref (h.length + 1)) (h++[.lst (w.bars.map .int),.lst (ys.map .int)]):=by
      have k:aJ 1 [] (bd (fAt (aa 0) (fC (.int 2)))) (gN 0) [(tE (aj eZ (aa 0) (fC .non)))] (aa 0) [some w.enc,none,none,none] (h++[.lst (w.bars.map .int)])=.ok (ys.map .int) (h++[.lst (w.bars.map .int)]):=by
        have q:bd (fAt (aa 0) (fC (.int 2))) [some w.enc,none,none,none] (h++[.lst (w.bars.map .int)])=.ok (w.stays.map bf,none) (h++[.lst (w.bars.map .int)]):=by simp [Web.enc,a2]
        generalize bd (fAt (aa 0) (fC (.int 2)))=I at q ⊢
        simp only [aJ,q,aq]
        exact c2
      generalize aJ 1 [] (bd (fAt (aa 0) (fC (.int 2)))) (gN 0) [(tE (aj eZ (aa 0) (fC .non)))] (aa 0)=E at k ⊢
      simp [k,SZ,z2]
    refine⟨h.length + 2,[.lst (w.bars.map .int),.lst (ys.map .int),.lst ((w.bars++ys).map .int)],?_,w.bars++ys,by rw [List.getElem?_append_right (by omega)];simp,by simp;omega⟩
    have g1:(h++[bn.lst (w.bars.map .int),.lst (ys.map .int)])[h.length]? = some (.lst (w.bars.map .int)):=by rw [List.getElem?_append_right (by omega)];simp
    have g2:(h++[bn.lst (w.bars.map .int),.lst (ys.map .int)])[h.length + 1]? = some (.lst (ys.map .int)):=by rw [List.getElem?_append_right (by omega)];simp
    have z3:w.bars.length + ys.length≤1000000:=by omega
    generalize aT (lOf (fAt (aa 0) (fC (.int 1))))=E1 at f1 ⊢
    generalize aT (aJ 1 [] (bd (fAt (aa 0) (fC (.int 2)))) (gN 0) [(tE (aj eZ (aa 0) (fC .non)))] (aa 0))=E2 at f2 ⊢
    have e4:h++[bn.lst (w.bars.map .int),.lst (ys.map .int),.lst ((w.bars++ys).map .int)] = (h++[bn.lst (w.bars.map .int),.lst (ys.map .int)])++[.lst ((w.bars++ys).map .int)]:=by simp
    have l4:(h++[bn.lst (w.bars.map .int),.lst (ys.map .int)]).length=h.length + 2:=by simp
    rw [e4,← l4]
    generalize h++[bn.lst (w.bars.map .int),.lst (ys.map .int)] = H at g1 g2 f2 ⊢
    clear l4 e4
    generalize h.length=m1 at f1 g1
    generalize m1 + 1=m2 at f2 g2
    simp [f1,f2,g1,g2,SZ,z3]
  obtain⟨σ3,h3,q3,k3,g3,y3,x3,e3,f3,N3⟩:=d7 (P:=fun i σ h'=>∃ k' g y x,σ = [some w.enc,some (.ref k'),x,y]∧h'=h++g∧y7 k' (60 + 60 * i) h') (g:=none) (k:=0)
    (all:=w.ties.map cA) (fun _ _ _ _=>trivial) (xs:=w.ties.map cA) (tg:=gN 2) (σ:=[some w.enc,some (.ref k1),none,none]) (h:=h++g1) (b:=km) (by
    rintro i d σ h0 hx ⟨k',g,y,x,rfl,rfl,N⟩
    rw [Nat.zero_add] at N ⊢
    have hi:i < w.ties.length:=by have:=(List.getElem?_eq_some_iff.mp hx).1;simpa using this
    have hd:d=cA w.ties[i]:=by simpa [hi] using hx.symm
    subst hd
    obtain⟨r,er⟩ : ∃ r,r=w.ties[i]:=⟨_,rfl⟩
    rw [← er]
    have lr:r.length≤30:=hr r (by rw [er];exact List.getElem_mem hi)
    have iw:w.ties.length=n:=W.t
    have c:=tups (r.map ft) (h++g) (fun x hx=>by obtain⟨p,_,rfl⟩:=List.mem_map.mp hx;exact⟨_,rfl⟩)
    have b1:sIf (tOr (bx (tE (bA .tuple (aa 2)))) (tE (aj oGt (cx (aJ 1 [] (bd (aa 2)) (gN 0) [(bx (tE (bA .tuple (aa 0))))] (aa 0))) (fC (.int 0))))) (a7 (fC (.bl false))) br [some w.enc,some (.ref k'),some (cA r),y] (h++g)=.nx [some w.enc,some (.ref k'),some (cA r),y] (h++g):=by
      have k:aJ 1 [] (bd (aa 2)) (gN 0) [(bx (tE (bA .tuple (aa 0))))] (aa 0) [some w.enc,some (.ref k'),some (cA r),y] (h++g)=.ok [] (h++g):=by
        simp only [aJ,bd,aa,slot,List.getElem?_cons_zero,List.getElem?_cons_succ,aq,cA]
        exact c
      generalize aJ 1 [] (bd (aa 2)) (gN 0) [(bx (tE (bA .tuple (aa 0))))] (aa 0)=E at k ⊢
      simp only [cA] at k ⊢
      simp [k]
    obtain⟨k2,g2,y2,b2,N2⟩:=y8 (w:=w.enc) lr N (by omega) y
    refine⟨_,rfl,[some w.enc,some (.ref k2),some (cA r),y2],h++g++g2,?_,k2,g++g2,_,_,rfl,by simp,?_⟩
    · have b2':fJ (bd (aa 2)) (gN 3) iy [some w.enc,some (.ref k'),some (cA r),y] (h++g)=.nx [some w.enc,some (.ref k2),some (cA r),y2] (h++g++g2):=by
        simp only [fJ,bd,aa,slot,List.getElem?_cons_zero,List.getElem?_cons_succ,aq,cA] at b2 ⊢
        exact b2
      show aB _ _ [some w.enc,some (.ref k'),some (cA r),y] (h++g)=_
      rw [az b1,b2']
    · obtain⟨xs,a,b⟩:=N2
      exact⟨xs,a,by omega⟩) ⟨k1,g1,none,none,rfl,rfl,N1⟩
  have s3:fJ (bd (fAt (aa 0) (fC (.int 0)))) (gN 2) km [some w.enc,some (.ref k1),none,none] (h++g1)=.nx σ3 h3:=by
    have a0:∀ p q r:D,atI [p,q,r] 0=some p:=fun _ _ _=>rfl
    have q:bd (fAt (aa 0) (fC (.int 0))) [some w.enc,some (.ref k1),none,none] (h++g1)=.ok (w.ties.map cA,none) (h++g1):=by simp [Web.enc,a0]
    generalize bd (fAt (aa 0) (fC (.int 0)))=I at q ⊢
    simp only [fJ,q,aq]
    exact q3
  obtain⟨xs,hxs,_⟩:=N3
  have c4:=pH (g:=some k3) (l:=xs.map D.int) (t:=(tOr (tE (bA .bool (aa 0))) (bx (tE (bA .int (aa 0)))))) (e:=aa 0) (h:=h3) hxs (fun x hx=>by
    obtain⟨i,_,rfl⟩:=List.mem_map.mp hx
    simp)
  have s4:a7 (aj oEq (cx (aJ 1 [] (bd (aa 1)) (gN 0) [(tOr (tE (bA .bool (aa 0))) (bx (tE (bA .int (aa 0)))))] (aa 0))) (fC (.int 0))) σ3 h3=.rt (.bl true) h3:=by
    rw [e3]
    have k:aJ 1 [] (bd (aa 1)) (gN 0) [(tOr (tE (bA .bool (aa 0))) (bx (tE (bA .int (aa 0)))))] (aa 0) [some w.enc,some (.ref k3),x3,y3] h3=.ok [] h3:=by
      simp only [aJ,bd,aa,slot,List.getElem?_cons_zero,List.getElem?_cons_succ,aq,hxs]
      exact c4
    generalize aJ 1 [] (bd (aa 1)) (gN 0) [(tOr (tE (bA .bool (aa 0))) (bx (tE (bA .int (aa 0)))))] (aa 0)=E at k ⊢
    simp [k,peq,dep]
  have st:([w.enc].map some++List.replicate (4 - [w.enc].length) none:Sd)=[some w.enc,none,none,none]:=rfl
  unfold fP bJ runB
  rw [if_pos (show [w.enc].length=1 from rfl),st,az s1,az s2,az s3,s4,f3]
  exact cn rfl
end Fm
set_option linter.all false
namespace Fm
theorem TOk.pre {n:Nat}{T:List Tie}(O:TOk n n 0 T)(k:Nat):TOk n n 0 (T.take k) where
  ne:=fun t ht=>O.ne t (List.mem_of_mem_take ht)
  lt:=fun t ht=>O.lt t (List.mem_of_mem_take ht)
  wt:=fun t ht=>O.wt t (List.mem_of_mem_take ht)
  be:=fun t ht=>O.be t (List.mem_of_mem_take ht)
  un:=O.un.sublist (List.take_sublist _ _)
  len:=Nat.le_trans (List.length_take_le' _ _) O.len
theorem Iv (l:List D):cut l none (some 250)=l.take 250:=by
  have e:sIx l.length l.length (some 250)=min 250 l.length:=rfl
  unfold cut
  rw [e]
  show ((l.drop 0).take (min 250 l.length - 0))=_
  rw [List.drop_zero,Nat.sub_zero]
  rcases Nat.le_total 250 l.length with h|h
  · rw [Nat.min_eq_left h]
  · rw [Nat.min_eq_right h,List.take_length,List.take_of_length_le h]
theorem GN {n:Nat}{T:List Tie}{tk bk sk qk:Nat}{h:Hd}(ti:h[tk]? = some (.lst (T.map ay))):gX [.tup [.int n,.ref tk,.ref bk,.ref sk,.ref qk]] h=.ok (.tup [.int n,.ref h.length,.ref bk,.ref sk,.ref qk]) (h++[.lst ((T.take 250).map ay)]):=by
  have sl:gu (fAt (aa 0) (fC (.int 1))) pNo (pAt (fC (.int 250))) [some (.tup [.int n,.ref tk,.ref bk,.ref sk,.ref qk])] h=.ok (.ref h.length) (h++[.lst ((T.take 250).map ay)]):=by
    have a:fAt (aa 0) (fC (.int 1)) [some (.tup [.int n,.ref tk,.ref bk,.ref sk,.ref qk])] h=.ok (.ref tk) h:=bj rfl rfl rfl rfl
    show Res.bind _ _=_
    rw [a,aq]
    simp only [pAt,fC,aq,pNo,eI,ti,Iv,List.map_take]
  have s:a7 (fH (ab (fAt (aa 0) (fC (.int 0))) (ab (gu (fAt (aa 0) (fC (.int 1))) pNo (pAt (fC (.int 250)))) (ab (fAt (aa 0) (fC (.int 2))) (ab (fAt (aa 0) (fC (.int 3))) (ab (fAt (aa 0) (fC (.int 4))) ak)))))) [some (.tup [.int n,.ref tk,.ref bk,.ref sk,.ref qk])] h=.rt (.tup [.int n,.ref h.length,.ref bk,.ref sk,.ref qk]) (h++[.lst ((T.take 250).map ay)]) :=
    bV (ki (ae (bj rfl rfl rfl rfl) (ae sl (ae (bj rfl rfl rfl rfl) (kQ (bj rfl rfl rfl rfl) (bj rfl rfl rfl rfl))))) (by simp [SZ]))
  exact (eK rfl rfl s).trans (uh rfl)
theorem KP
    (ns:List Int) (hns:ns.length≤63):∃ h,CV [.lit (ns.map .int)] []=.ok (.bl true) h:=by
  obtain⟨n,T0,bs,ss,h1,P⟩:=DO ns
  obtain⟨S0,hS0⟩ : ∃ S0:D,S0=.lit (ns.map .int):=⟨_,rfl⟩
  have hn:=P.n30
  have n1:=P.n1
  obtain⟨T,hT⟩ : ∃ T,T=T0.take 250:=⟨_,rfl⟩
  have O:TOk n n 0 T:=by rw [hT];exact P.ok.pre 250
  have lb:=P.lb
  have ls:=P.ls
  have os:=P.os
  have bb:=P.bb
  obtain⟨w,hw⟩ : ∃ w,w=d8 n T bs ss:=⟨_,rfl⟩
  have W:w.Ok n:=by rw [hw];exact pr hn O lb ls
  obtain⟨X,hX⟩ : ∃ X,X=bI [10] (aW n (ir n T) bs ss):=⟨_,rfl⟩
  have sh:∀ h,c6 [w.enc] h=.ok (.str X) h:=fun h=>by rw [hw,hX];exact Ih hn O lb ls os bb h
  have rd:∀ h,d5 [.str X] h=.ok w.enc h:=fun h=>by
    rw [hw,hX,← A9 hn O]
    exact Iu n1 hn (oj hn O).1 (ur O) (fun t ht=>(k5.mp ht).2.1) lb ls os bb h
  have hr:∀ r∈w.ties,r.length≤30:=fun r hr=>by
    rw [hw] at hr
    obtain⟨i,_,rfl⟩:=List.mem_map.mp hr
    rw [mM]
    have:=vD O.lt O.un i
    omega
  obtain⟨h2,hh2⟩ : ∃ h2,h2=h1++[bn.lst (T.map ay)]:=⟨_,rfl⟩
  obtain⟨told,htold⟩ : ∃ told,told=D.tup [.int n,.ref h1.length,.ref (5 + n),.ref 3,.ref 4]:=⟨_,rfl⟩
  have e0:Gm [some S0,none,none,none,none] []=.nx [some S0,some told,none,none,none] h2:=by
    have run:=P.run
    rw [← hS0] at run
    have q:=GN (n:=n) (tk:=1) (bk:=5 + n) (sk:=3) (qk:=4) P.ti
    rw [← hT,← hh2,← htold] at q
    exact aL (aw (ae (aw (ae rfl rfl) run) rfl) q)
  have ti2:h2[h1.length]? = some (.lst (T.map ay)):=by rw [hh2];exact List.getElem?_concat_length
  have ba2:h2[5 + n]? = some (.lst (bs.map .int)):=by rw [hh2];exact aA _ P.ba
  have st2:h2[3]? = some (.lst (ss.map bf)):=by rw [hh2];exact aA _ P.st
  have ol:=O.len
  have lT:(T.map ay).length≤SZ:=by simp [SZ];omega
  have lB:(bs.map D.int).length≤SZ:=by simp [SZ];omega
  have lS:(ss.map bf).length≤SZ:=by simp [SZ];omega
  obtain⟨h3,hh3⟩ : ∃ h3,h3=h2++[bn.lst (T.map ay)]:=⟨_,rfl⟩
  obtain⟨h4,hh4⟩ : ∃ h4,h4=h3++[bn.lst (bs.map .int)]:=⟨_,rfl⟩
  obtain⟨h5,hh5⟩ : ∃ h5,h5=h4++[bn.lst (ss.map bf)]:=⟨_,rfl⟩
  have web:dL [.int n,.ref h2.length,.ref h3.length,.ref h4.length] h5=.ok w.enc h5:=by
    rw [hw]
    refine um n1 hn O lb ls os ?_ ?_ ?_
    · rw [hh5,hh4,hh3];exact aA _ (aA _ List.getElem?_concat_length)
    · rw [hh5,hh4];exact aA _ List.getElem?_concat_length
    · rw [hh5];exact List.getElem?_concat_length
  have e1:Gn [some S0,some told,none,none,none] h2=.nx [some S0,some told,some w.enc,none,none] h5:=by
    have a:∀ {i:Int} {d:D} {h:Hd},atI [.int n,.ref h1.length,.ref (5 + n),.ref 3,.ref 4] i=some d→fAt (aa 1) (fC (.int i)) [some S0,some told,none,none,none] h=.ok d h:=fun {i d h} e=>bj rfl rfl (by rw [htold];rfl) e
    have f1:aT (lOf (fAt (aa 1) (fC (.int 1)))) [some S0,some told,none,none,none] h2=.ok (.ref h2.length) h3:=by rw [hh3];exact cq (bZ (a rfl) (aU ti2)) lT
    have f2:aT (lOf (fAt (aa 1) (fC (.int 2)))) [some S0,some told,none,none,none] h3=.ok (.ref h3.length) h4:=by rw [hh4];exact cq (bZ (a rfl) (aU (by rw [hh3];exact aA _ ba2))) lB
    have f3:aT (lOf (fAt (aa 1) (fC (.int 3)))) [some S0,some told,none,none,none] h4=.ok (.ref h4.length) h5:=by rw [hh5];exact cq (bZ (a rfl) (aU (by rw [hh4,hh3];exact aA _ (aA _ st2)))) lS
    exact aL (aw (ae (a rfl) (ae f1 (kQ f2 f3))) web)
  have tx:=Ii hn O lb ls os bb (qk:=4) (h:=h5) (by rw [hh5,hh4,hh3];exact aA _ (aA _ (aA _ ti2))) (by rw [hh5,hh4,hh3];exact aA _ (aA _ (aA _ ba2))) (by rw [hh5,hh4,hh3];exact aA _ (aA _ (aA _ st2)))
  rw [← hX,← htold] at tx
  have e2:Go [some S0,some told,some w.enc,none,none] h5=.nx [some S0,some told,some w.enc,some (.str X),none] h5:=aL (aw (ae rfl rfl) tx)
  have sx:∀ h,oNe (.str X) (.str X) h=.ok (.bl false) h:=fun h=>by rw [Ij,decide_eq_true rfl];rfl
  have ex:∀ h,oEq (.str X) (.str X) h=.ok (.bl true) h:=fun h=>by rw [LP,decide_eq_true rfl]
  have e3:Gp [some S0,some told,some w.enc,some (.str X),none] h5=.nx [some S0,some told,some w.enc,some (.str X),none] h5:=eC (bg (ar (aw (ae rfl rfl) (sh _)) rfl (sx _)))
  have e4:Gq [some S0,some told,some w.enc,some (.str X),none] h5=.nx [some S0,some told,some w.enc,some (.str X),some w.enc] h5:=aL (aw (ae rfl rfl) (rd _))
  have kd:=GM W hn hr h5
  have e5:Gr [some S0,some told,some w.enc,some (.str X),some w.enc] h5=.nx [some S0,some told,some w.enc,some (.str X),some w.enc] h5 :=
    eC (f6 (bg (ar rfl rfl (CT w _))) (f6 (cB (b:=true) (bg (aw (ae rfl rfl) kd))) (f6 (bg (ar (aw (ae rfl rfl) (sh _)) rfl (sx _))) (bg (ar (aw (ae rfl rfl) (rd _)) rfl (CT w _))))))
  have e6:Gs [some S0,some told,some w.enc,some (.str X),some w.enc] h5=.rt (.bl true) h5:=bV (ar (aw (ae rfl rfl) (sh _)) rfl (ex _))
  refine⟨[],?_⟩
  rw [← hS0]
  exact (eK rfl rfl ((a4 e0).trans ((a4 e1).trans ((a4 e2).trans ((a4 e3).trans ((a4 e4).trans ((a4 e5).trans e6))))))).trans (cn (h:=[]) (g:=h5) rfl)
end Fm
set_option Elab.async false
set_option linter.all false
set_option maxRecDepth 100000
def PySem.W.Fast.tw90343872475197607 : Type := PySem.Params
theorem PySem.W.Fast.te90343872475197607 : PySem.Params = PySem.W.Fast.tw90343872475197607 := rfl
open PySem PySem.W PyProof.Rows
set_option maxRecDepth 100000 in
set_option maxHeartbeats 0 in
theorem PySem.Challenge.cw_followmost_k48_webs_written_holds : PySem.Challenge.rw_followmost_k48_webs_written.Holds := by
  w_on;o_law;k_head;(case hw=>w_witness2)
  k_fill
  refine Fm.Lx (l := PySem.Challenge.rw_followmost_k48_webs_written) (F := Fm.CV) (k := 7) (x := "_law_script") rfl rfl ⟨rfl, by decide, by decide, rfl⟩ (fun w h Y => PySem.W.kIn_of Y) ?F Fm.KP
  case F =>
    intro w mg fa h KX G hmg
    refine' Fm.KI KX G hmg ?_ ?_ ?_ ?_ ?_ ?_ ?_ ?_ ?_ ?_ ?_ ?_ ?_ ?_ ?_ ?_ ?_ ?_ ?_ ?_ ?_ ?_ ?_ ?_ ?_ ?_ ?_ ?_ ?_ ?_ ?_ ?_ ?_ ?_ ?_ ?_ ?_ ?_ ?_ ?_ ?_ ?_ ?_ ?_ ?_ ?_ ?_ ?_ ?_ ?_ ?_ ?_ ?_ ?_ ?_ ?_ ?_ ?_ ?_ ?_ ?_ ?_ ?_ ?_ ?_ ?_ ?_ ?_ ?_ ?_ ?_ ?_ ?_ ?_ ?_ ?_ ?_ ?_ ?_ ?_ ?_ ?_ ?_ ?_ ?_ ?_ ?_ ?_ ?_ ?_ ?_ ?_ ?_ ?_ ?_ ?_ ?_ ?_ ?_ ?_ ?_ ?_ ?_ ?_ ?_ ?_ ?_ ?_ ?_ ?_ ?_ ?_ ?_ ?_ ?_ ?_ ?_ ?_ ?_ ?_ ?_ ?_ ?_ ?_ ?_ ?_ ?_ ?_ ?_ ?_ ?_ ?_ ?_ ?_ ?_ ?_ ?_ ?_ ?_ ?_ ?_ ?_
    all_goals try first|k_is|k_exc|kit_is
    all_goals (unfold Fm.oY;kernel_rfl)
