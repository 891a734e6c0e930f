import PyProof.Rows.All
import Wide.All
import OpenK.AllK
import Wide.FinOn
import Lean
import PyProof.EqAt
import PyProof.EqKinds
import PyProof.TupleCall
import PyProof.NeKinds
import PyProof.IsInstanceH
import PyProof.IsiNone
import PyProof.EnumMake
import PyProof.Draws
import PyProof.ZipIter
import PyProof.ListRange
import KE.RegKIsAll
import PyProof.ExcAttrAll.ValueError
import PyProof.NsDelKeeps
import PyProof.SetKind
import PyProof.TupleKey
import PyProof.IsRules
import PyProof.Rows.SetFrom
import PyProof.SetRoads
import PySem.Challenge.RW_followmost_k29_whole_rests_of_the_double
set_option Elab.async false
set_option linter.all false
set_option maxRecDepth 100000
abbrev ZA:=@List.length_map
abbrev ZB:=@List.length_append
abbrev ZC:=@List.getElem?_append_left
abbrev ZD:=@List.getElem?_append_right
abbrev ZE:=@List.getElem?_eq_getElem
abbrev ZF:=@List.getD_eq_getElem?_getD
abbrev ZG:=@List.getElem?_concat_length
abbrev ZH:=@PySem.Heap.get?_push_of_some
abbrev ZI:=@PySem.Heap.lt_size
abbrev ZJ:=@PySem.Heap.get?_push_size
abbrev ZK:=@List.mem_of_getElem?
abbrev ZL:=@Nat.le_refl
abbrev ZM:=@Nat.le_trans
abbrev ZN:=@Nat.ne_of_lt
abbrev ZO:=@List.length_range
abbrev ZP:=@List.getElem?_set_ne
abbrev ZQ:=@List.getElem?_map
abbrev ZR:=@List.map_append
abbrev ZS:=@Nat.lt_of_le_of_lt
abbrev ZT:=@Option.some.inj
abbrev ZU:=@List.append_assoc
abbrev ZV:=@List.mem_cons_self
abbrev ZW:=@List.mem_cons_of_mem
abbrev ZX:=PySem.W.Frag
namespace L2
open PySem PySem.Spec PyProof.Rows
abbrev Key:=Sum Int Str
def qY:Key→Value→Bool
  | .inl k,v=>Value.isInt k v
  | .inr x,v=>Value.isStrOf x v
def Iu (w:World):Key→Int
  | .inl k=>hashInt k
  | .inr x=>hashStr w x
theorem cK:∀ {k:Key} {v:Value},qY k v=true→(∃ i t,k=Sum.inl i∧v=Value.int i t)∨(∃ x t,k=Sum.inr x∧v=Value.str x t)
  | .inl i,v,h=>by
    obtain⟨t,e⟩:=Value.isInt_shape (k:=i) (v:=v) h
    exact .inl ⟨i,t,rfl,e⟩
  | .inr x,v,h=>by
    obtain⟨t,e⟩:=Value.isStrOf_shape (x:=x) (v:=v) h
    exact .inr ⟨x,t,rfl,e⟩
theorem yt (i:Int)(t:Tok):qY (.inl i) (.int i t)=true:=by simp [qY,Value.isInt]
theorem yu (x:Str)(t:Tok):qY (.inr x) (.str x t)=true:=by simp [qY,Value.isStrOf]
theorem EY (a b:Int):decide ((Sum.inl a:Key)=Sum.inl b)=(a == b):=by
  by_cases e:a=b
  · subst e;simp
  · have h : ¬ (Sum.inl a:Key)=Sum.inl b:=fun q=>e (Sum.inl.inj q)
    rw [decide_eq_false h]
    exact (beq_eq_false_iff_ne.mpr e).symm
theorem EZ (a b:Str):decide ((Sum.inr a:Key)=Sum.inr b)=decide (a=b):=by
  by_cases e:a=b
  · subst e;simp
  · have h : ¬ (Sum.inr a:Key)=Sum.inr b:=fun q=>e (Sum.inr.inj q)
    rw [decide_eq_false h,decide_eq_false e]
theorem E1 (a:Int)(b:Str):decide ((Sum.inl a:Key)=Sum.inr b)=false:=decide_eq_false (fun q=>nomatch q)
theorem E2 (a:Str)(b:Int):decide ((Sum.inr a:Key)=Sum.inl b)=false:=decide_eq_false (fun q=>nomatch q)
def cU (prog:Program) (w:World):PySem.KeyKind prog w Key where
  is:=qY
  hash:=Iu w
  inj:=fun v a b ha hb=>by
    rcases cK ha with ⟨i,t,rfl,rfl⟩|⟨x,t,rfl,rfl⟩
    · rcases cK hb with ⟨j,u,rfl,e⟩|⟨y,u,rfl,e⟩
      · injection e with e1 _;rw [e1]
      · exact nomatch e
    · rcases cK hb with ⟨j,u,rfl,e⟩|⟨y,u,rfl,e⟩
      · exact nomatch e
      · injection e with e1 _;rw [e1]
  byValue:=fun k v h=>by
    rcases cK h with ⟨i,t,rfl,rfl⟩|⟨x,t,rfl,rfl⟩<;>rfl
  pyHash:=fun hv h=>by
    rcases cK hv with ⟨i,t,rfl,rfl⟩|⟨x,t,rfl,rfl⟩
    · exact wpAny_pyHash_int h
    · exact wpAny_pyHash_str h
  eqBool:=fun hu hv h=>by
    rcases cK hu with ⟨i,t,rfl,rfl⟩|⟨x,t,rfl,rfl⟩
    · rcases cK hv with ⟨j,u,rfl,rfl⟩|⟨y,u,rfl,rfl⟩
      · rw [EY] at h;exact wpAny_eqBool_int h
      · rw [E1] at h;exact SeqAt.EqAt.int_str i t y u _ _ _ _ h
    · rcases cK hv with ⟨j,u,rfl,rfl⟩|⟨y,u,rfl,rfl⟩
      · rw [E2] at h;exact SeqAt.EqAt.str_int x t j u _ _ _ _ h
      · rw [EZ] at h;exact wpAny_eqBool_str h
  «strs» := fun k x t v h=>by
    rcases cK h with ⟨i,u,rfl,e⟩|⟨y,u,rfl,e⟩
    · exact nomatch e
    · injection e with e1 _
      subst e1
      cases v<;>rfl
theorem ua (prog:Program)(w:World)(i:Int)(t:Tok):(cU prog w).is (.inl i) (.int i t)=true:=yt i t
theorem ub (prog:Program)(w:World)(x:Str)(t:Tok):(cU prog w).is (.inr x) (.str x t)=true:=yu x t
end L2
namespace L2
open PySem PySem.Spec PyProof.Rows
inductive V where
  | non|bl (b:Bool)|int (i:Int)|str (x:Str)|byt (b:Array UInt8)|flt (b:UInt64)|ref (a:Addr)|ty (n:String)
  deriving DecidableEq
def bP:V→Value→Prop
  | .non,u=>u=Value.none
  | .bl b,u=>u=Value.bool b
  | .int i,u=>∃ t,u=Value.int i t
  | .str x,u=>∃ t,u=Value.str x t
  | .byt b,u=>∃ t,u=Value.bytes b t
  | .flt b,u=>∃ t,u=Value.float b t
  | .ref a,u=>u=Value.ref a
  | .ty n,u=>u=Value.type n
abbrev aS:List V→List Value→Prop:=Paired bP
theorem aS.length {xs:List V}{us:List Value}(r:aS xs us):xs.length=us.length:=Paired.length r
theorem aS.get:∀ {xs:List V} {us:List Value} {i:Nat} {x:V},aS xs us→xs[i]? = some x → ∃ u,us[i]? = some u∧bP x u
  | _,_,_,_,.nil,e=>by simp at e
  | _,_,0,_,.cons r _,e=>by simp at e;subst e;exact⟨_,rfl,r⟩
  | _,_,i + 1,x,.cons _ t,e=>by
    obtain⟨u,h1,h2⟩:=aS.get (i:=i) (x:=x) t (by simpa using e)
    exact⟨u,by simpa using h1,h2⟩
theorem aS.set {x:V}{u:Value}(r:bP x u):∀ {xs:List V} {us:List Value} (i:Nat),aS xs us→aS (xs.set i x) (us.set i u)
  | _,_,_,.nil=>.nil
  | _,_,0,.cons _ t=>.cons r t
  | _,_,i + 1,.cons q t=>.cons q (aS.set r i t)
theorem aS.append:∀ {xs ys:List V} {us ws:List Value},aS xs us→aS ys ws→aS (xs++ys) (us++ws)
  | _,_,_,_,.nil,s=>s
  | _,_,_,_,.cons r t,s=>.cons r (aS.append t s)
theorem aS.take:∀ {xs:List V} {us:List Value} (n:Nat),aS xs us→aS (xs.take n) (us.take n)
  | _,_,0,_=>.nil
  | _,_,_ + 1,.nil=>.nil
  | _,_,n + 1,.cons r t=>.cons r (aS.take n t)
theorem aS.drop:∀ {xs:List V} {us:List Value} (n:Nat),aS xs us→aS (xs.drop n) (us.drop n)
  | _,_,0,r=>r
  | _,_,_ + 1,.nil=>.nil
  | _,_,n + 1,.cons _ t=>aS.drop n t
def yv:Option V→Option Value→Prop
  | some v,some u=>bP v u
  | none,none=>True
  | _,_=>False
def KV {κ : Type}:List (κ × V)→List (κ × Value)→Prop:=Paired fun (p : κ × V) (q : κ × Value)=>p.1=q.1∧bP p.2 q.2
def kV:Key→V
  | .inl i=>.int i
  | .inr x=>.str x
inductive HO where
    | lst (xs:List V)
    | tup (xs:List V)
    | dK (kvs:List (Key × V))|dT (kvs:List (List Key × V))
    | set (S:Int→Bool) (n:Nat)
    | ins (C dx:Addr) (fs:List (Str × V))
    | own (x:Addr)
    | xd (fs:List (Str × V))
    | met (f x:Addr)
    | rng (lo hi:Int)
    | frz (o:Obj) (u:HO)
    | tbl (ps:Array Value)
    | ext (φ : Heap→Prop)
abbrev Hp:=Addr→Option HO
def upd (H:Hp) (a:Addr) (o:HO):Hp:=fun b=>if b=a then some o else H b
theorem aT {H:Hp}{a:Addr}{o:HO}:upd H a o a=some o:=by unfold upd;rw [if_pos rfl]
theorem ay {H:Hp}{a b:Addr}{o:HO}(h:b≠a):upd H a o b=H b:=by unfold upd;rw [if_neg h]
theorem Ey {H:Hp}{a b:Addr}{o u:HO}(h:H a=some o)(h':H b=some u)(d:o≠u):a≠b:=by
  intro e;subst e;rw [h] at h';exact d (ZT h')
theorem aU {H:Hp}{a b:Addr}{o:HO}(h:H a=some o)(h':H b=none):a≠b:=by
  intro e;subst e;rw [h] at h';cases h'
section
variable (P:Program) (w:World)
def em (H:Hp) (h:Heap) (a:Addr):HO→Prop
  | .lst xs=>xs.length≤sizeLine ∧ ∃ (its:List Value) (n:Nat),aS xs its∧h.get? a=some { cls:=.type "list",data:=.seq its.toArray n }
  | .tup xs=>xs.length≤sizeLine ∧ ∃ its:List Value,aS xs its∧IsTup h a its.toArray
  | .dK kvs=>kvs.length≤sizeLine∧(a == sysModules)=false ∧ ∃ vs,KV kvs vs∧h.DictOf (cU P w) a vs
  | .dT kvs=>kvs.length≤sizeLine∧(a == sysModules)=false ∧ ∃ xs:List (List Key × Addr × Value),
      Paired (fun (p:List Key × V) (q:List Key × Addr × Value)=>p.1=q.1∧H q.2.1=some (.tup (p.1.map kV))∧bP p.2 q.2.2) kvs xs ∧
      ∃ o es ep,h.get? a=some o∧o.ExactDict∧o.data=.dict es ep∧es.toList=xs.map (entryOfKey (tupleKind (cU P w)))∧(xs.map (·.1)).Nodup
  | .set S n=>h.SetOf (intKind P w) a S n
  | .ins C dx fs=>H dx=some (.own a)∧fs.length≤1000∧dx≠a∧h.get? a=some (PySem.W.instObj C dx) ∧
      ∃ mA,h.Ns1 dx mA∧(∀ f,yv (fs.lookup f) (mA f))∧PySem.Within mA (fs.map (·.1))
  | .own _=>∃ o,h.get? a=some o
  | .xd fs=>∃ mA,h.Ns1 a mA ∧ ∀ f,yv (fs.lookup f) (mA f)
  | .rng lo hi=>∃ t u v,h.get? a=some { cls:=.type "range",data:=.fields #[.int lo t,.int hi u,.int 1 v] }
  | .frz o u=>h.get? a=some o∧em H h a u
  | .tbl ps=>h.get? a=some { cls:=.none,data:=.fields ps }
  | .met f x=>h.get? a=some (PySem.W.methodObj (.ref f) (.ref x))
  | .ext φ => φ h∧(∃ o,h.get? a=some o) ∧ ∀ h1 h2:Heap,φ h1→(∀ o,h1.get? a=some o→h2.get? a=some o) → φ h2
def HOk (H:Hp) (h:Heap):Prop:=∀ a o,H a=some o→em P w H h a o
end
section
variable {P:Program} {w:World} {H H':Hp} {h h':Heap} {a:Addr} {o:HO}
theorem em.lt (x:em P w H h a o):a < h.objs.size:=by
  cases o with
  | lst xs=>obtain⟨_,_,_,_,e⟩:=x;exact ZI e
  | tup xs=>obtain⟨_,_,_,p⟩:=x;exact p.lt
  | dK kvs=>obtain⟨_,_,_,_,o,_,_,e,_⟩:=x;exact ZI e
  | dT kvs=>obtain⟨_,_,_,_,o,_,_,e,_⟩:=x;exact ZI e
  | set S n=>obtain⟨o,_,_,_,e,_⟩:=x;exact ZI e
  | ins C dx fs=>obtain⟨_,_,_,e,_⟩:=x;exact ZI e
  | own y=>obtain⟨_,e⟩:=x;exact ZI e
  | xd fs=>obtain⟨_,⟨_,_,_,e,_⟩,_⟩:=x;exact ZI e
  | rng lo hi=>obtain⟨_,_,_,e⟩:=x;exact ZI e
  | frz ob u=>obtain⟨e,_⟩:=x;exact ZI e
  | tbl ps=>exact ZI (show h.get? a=some _ from x)
  | met f y=>exact ZI (show h.get? a=some _ from x)
  | ext φ => obtain⟨_,⟨_,e⟩,_⟩:=x;exact ZI e
theorem Paired.mapP {α β : Type}{F G : α → β → Prop}:∀ {l₁ : List α} {l₂ : List β},Paired F l₁ l₂ → (∀ a b,F a b→G a b)→Paired G l₁ l₂
  | _,_,.nil,_=>.nil
  | _,_,.cons r t,f=>.cons (f _ _ r) (Paired.mapP t f)
theorem em.stay (x:em P w H h a o)(k:∀ b u,(b=a∨H b=some (.own a))→h.get? b=some u→h'.get? b=some u)
    (ho:∀ b,H b=some (.own a)→H' b=some (.own a)) (ht:∀ b xs,H b=some (.tup xs)→H' b=some (.tup xs)):em P w H' h' a o:=by
  induction o with
  | lst xs=>obtain⟨z,its,n,r,e⟩:=x;exact⟨z,its,n,r,k _ _ (.inl rfl) e⟩
  | tup xs=>obtain⟨z,its,r,ob,e,c⟩:=x;exact⟨z,its,r,ob,k _ _ (.inl rfl) e,c⟩
  | dK kvs=>obtain⟨z,y,vs,r,ob,es,ep,e,c⟩:=x;exact⟨z,y,vs,r,ob,es,ep,k _ _ (.inl rfl) e,c⟩
  | dT kvs =>
    obtain⟨z,y,xs,r,ob,es,ep,e,c⟩:=x
    exact⟨z,y,xs,Paired.mapP r fun p q z=>⟨z.1,ht _ _ z.2.1,z.2.2⟩,ob,es,ep,k _ _ (.inl rfl) e,c⟩
  | set S n=>obtain⟨ob,es,ep,t,e,c⟩:=x;exact⟨ob,es,ep,t,k _ _ (.inl rfl) e,c⟩
  | ins C dx fs =>
    obtain⟨d,z,ne,e,mA,⟨od,es,ep,e2,c⟩,r⟩:=x
    exact⟨ho _ d,z,ne,k _ _ (.inl rfl) e,mA,⟨od,es,ep,k _ _ (.inr d) e2,c⟩,r⟩
  | own y=>obtain⟨ob,e⟩:=x;exact⟨ob,k _ _ (.inl rfl) e⟩
  | xd fs=>obtain⟨mA,⟨od,es,ep,e,c⟩,r⟩:=x;exact⟨mA,⟨od,es,ep,k _ _ (.inl rfl) e,c⟩,r⟩
  | rng lo hi=>obtain⟨t,u,v,e⟩:=x;exact⟨t,u,v,k _ _ (.inl rfl) e⟩
  | frz ob u ih=>obtain⟨e,q⟩:=x;exact⟨k _ _ (.inl rfl) e,ih q⟩
  | tbl ps =>
    have e:h.get? a=some { cls:=.none,data:=.fields ps }:=x
    show h'.get? a=some { cls:=.none,data:=.fields ps }
    exact k a _ (.inl rfl) e
  | met f y =>
    have e:h.get? a=some (PySem.W.methodObj (.ref f) (.ref y)):=x
    show h'.get? a=some (PySem.W.methodObj (.ref f) (.ref y))
    exact k a _ (.inl rfl) e
  | ext φ => obtain⟨p,⟨o,e⟩,st⟩:=x;exact⟨st _ _ p fun o q=>k _ _ (.inl rfl) q,⟨o,k _ _ (.inl rfl) e⟩,st⟩
theorem HOk.lt (x:HOk P w H h)(e:H a=some o):a < h.objs.size:=(x a o e).lt
theorem HOk.fresh (x:HOk P w H h)(e:h.objs.size≤a):H a=none:=by
  cases q:H a with
  | none=>rfl
  | some u=>exact absurd (Nat.lt_of_lt_of_le (x.lt q) e) (Nat.lt_irrefl _)
theorem HOk.kept (x:HOk P w H h)(k:∀ b u,h.get? b=some u→h'.get? b=some u):HOk P w H h':=fun a o e =>
  (x a o e).stay (fun b u _ q=>k b u q) (fun _ q=>q) fun _ _ q=>q
theorem HOk.laid (x:HOk P w H h)(k:∀ b u,h.get? b=some u→h'.get? b=some u)(hp:h.objs.size≤a)(new:em P w (upd H a o) h' a o):HOk P w (upd H a o) h':=fun b u e=>by
  have hn:=x.fresh hp
  by_cases hb:b=a
  · subst hb;rw [aT] at e;cases e;exact new
  · rw [ay hb] at e
    exact (x b u e).stay (fun c v _ q=>k c v q) (fun c q=>by rw [ay (aU q hn)];exact q) fun c xs q=>by rw [ay (aU q hn)];exact q
end
def Rd (H:Hp) (a:Addr) (u:HO):Prop:=H a=some u ∨ ∃ o,H a=some (.frz o u)
theorem Rd.ok {P:Program}{w:World}{H:Hp}{h:Heap}{a:Addr}{u:HO}(r:Rd H a u)(x:HOk P w H h):em P w H h a u:=by
  rcases r with r|⟨o,r⟩
  · exact x a u r
  · obtain⟨_,q⟩:=x a _ r
    exact q
def Mut:Option HO→Prop
  | some (.lst _)=>True
  | some (.dK _)=>True
  | some (.dT _)=>True
  | some (.set _ _)=>True
  | some (.ins _ _ _)=>True
  | some (.ext _)=>True
  | _=>False
section
variable {P:Program} {w:World} {H:Hp} {h h':Heap} {x e:Addr} {o':HO}
theorem HOk.write (ok:HOk P w H h)(mu:Mut (H x))(he:e=x∨H e=some (.own x))(k:∀ b u,b≠e→h.get? b=some u→h'.get? b=some u)(heo:∃ u,h'.get? e=some u)
    (new:em P w (upd H x o') h' x o'):HOk P w (upd H x o') h':=fun b u q=>by
  have nown:∀ c y,H c=some (.own y)→c≠x:=fun c y r z=>by subst z;rw [r] at mu;exact mu
  have ntup:∀ c xs,H c=some (.tup xs)→c≠x:=fun c xs r z=>by subst z;rw [r] at mu;exact mu
  by_cases hb:b=x
  · subst hb;rw [aT] at q;cases q;exact new
  · rw [ay hb] at q
    by_cases hbe:b=e
    · have q':H b=some (.own x):=by
        rcases he with z|z
        · exact absurd (hbe.trans z) hb
        · rw [hbe];exact z
      rw [q] at q';cases q'
      obtain⟨v,hv⟩:=heo
      exact⟨v,by rw [hbe];exact hv⟩
    · refine (ok b u q).stay (fun c v hc r=>k c v ?_ r) (fun c r=>by rw [ay (nown c b r)];exact r) fun c xs r=>by rw [ay (ntup c xs r)];exact r
      rcases hc with rfl|hc
      · exact hbe
      · rintro rfl
        rcases he with z|z
        · exact nown c b hc z
        · rw [hc] at z;cases z;exact hb rfl
end
structure Un (fs ex:List Addr) (H H':Hp) (h h':Heap):Prop where
  keep:∀ b o,h.get? b=some o→H b=none→b∉fs→b∉ex→h'.get? b=some o
  slot:∀ b o,h.get? b=some o→H b=none→b∈fs→b∉ex → ∃ sl,h'.get? b=some { o with slots:=sl }
  free:∀ b o,h.get? b=some o→H b=none→b∉ex→H' b=none
  there:∀ b o,h.get? b=some o→b∉ex → ∃ o',h'.get? b=some o'
  tups:∀ b xs,H b=some (.tup xs)→H' b=some (.tup xs)
  frzs:∀ b o u,H b=some (.frz o u)→H' b=some (.frz o u)
  tbls:∀ b ps,H b=some (.tbl ps) → ∃ more,H' b=some (.tbl (ps++more))
section
variable {fs fs' ex ex':List Addr} {H H1 H2:Hp} {h h1 h2 h':Heap} {a x e:Addr} {o:HO}
theorem Un.any (u:Un fs ex H H1 h h1){b:Addr}{ob:Obj}(q:h.get? b=some ob)(n:H b=none)(hx:b∉ex):∃ sl,h1.get? b=some { ob with slots:=sl }:=by
  by_cases hb:b∈fs
  · exact u.slot b ob q n hb hx
  · exact⟨ob.slots,u.keep b ob q n hb hx⟩
theorem Un.kept (k:∀ b u,h.get? b=some u→h'.get? b=some u):Un fs ex H H h h' :=
  ⟨fun b ob q _ _ _=>k b ob q,fun b ob q _ _ _=>⟨ob.slots,k b ob q⟩,fun _ _ _ n _=>n,fun b ob q _=>⟨ob,k b ob q⟩,fun _ _ q=>q,fun _ _ _ q=>q,fun _ ps q=>⟨#[],by rw [q];simp⟩⟩
theorem Un.refl:Un fs ex H H h h:=Un.kept fun _ _ q=>q
theorem Un.laid (k:∀ b u,h.get? b=some u→h'.get? b=some u)(hp:h.objs.size≤a)(hn:H a=none):Un fs ex H (upd H a o) h h' where
  keep:=fun b u q _ _ _=>k b u q
  slot:=fun b u q _ _ _=>⟨u.slots,k b u q⟩
  free:=fun b u q n _=>by rw [ay (ZN (Nat.lt_of_lt_of_le (ZI q) hp))];exact n
  there:=fun b u q _=>⟨u,k b u q⟩
  tups:=fun b xs q=>by rw [ay (aU q hn)];exact q
  frzs:=fun b u xs q=>by rw [ay (aU q hn)];exact q
  tbls:=fun b ps q=>⟨#[],by rw [ay (aU q hn),q];simp⟩
theorem Un.write (mu:Mut (H x))(he:e=x∨H e=some (.own x))(k:∀ b u,b≠e→h.get? b=some u→h'.get? b=some u)(heo:∃ u,h'.get? e=some u):Un fs ex H (upd H x o) h h':=by
  have hx:∀ b,H b=none→b≠x:=fun b n z=>by subst z;rw [n] at mu;exact mu
  have hb:∀ b,H b=none→b≠e:=fun b n z=>by
    subst z
    rcases he with r|r
    · exact hx b n r
    · rw [n] at r;cases r
  have hm:∀ b u,H b=some u → ¬ Mut (some u)→b≠x:=fun b u q nm z=>by subst z;rw [q] at mu;exact nm mu
  refine⟨fun b u q n _ _=>k b u (hb b n) q,fun b u q n _ _=>⟨u.slots,k b u (hb b n) q⟩,fun b u q n _=>by rw [ay (hx b n)];exact n,fun b u q _ => ?_,
    fun b xs q=>by rw [ay (hm b _ q fun z=>z)];exact q,fun b u xs q=>by rw [ay (hm b _ q fun z=>z)];exact q,fun b ps q=>⟨#[],by rw [ay (hm b _ q fun z=>z),q];simp⟩⟩
  by_cases hbe:b=e
  · subst hbe;exact heo
  · exact⟨u,k b u hbe q⟩
end
def trk (h:Heap) (H:Hp):List Addr:=(List.range h.objs.size).filter fun a=>(H a).isSome
def sj (h:Heap) (H:Hp):Heap:=PySem.W.hideAll h (trk h H)
theorem yw (h:Heap)(H:Hp):(sj h H).objs.size=h.objs.size:=PySem.W.hideAll_size _ _
theorem Ah {h:Heap}{H:Hp}{b:Addr}{o:Obj}(e:h.get? b=some o)(n:H b=none):(sj h H).get? b=some o :=
  PySem.W.hideAll_get _ e fun hm=>by
    have q:(H b).isSome=true:=(List.mem_filter.mp hm).2
    rw [n] at q;simp at q
theorem CV {h:Heap}{H:Hp}{b:Addr}{o:Obj}(e:(sj h H).get? b=some o):h.get? b=some o∧H b=none:=by
  have e':h.get? b=some o:=PySem.W.of_hideAll (trk h H) e
  refine⟨e',?_⟩
  cases q:H b with
  | none=>rfl
  | some x =>
    have hm:b∈trk h H:=List.mem_filter.mpr ⟨List.mem_range.mpr (ZI e'),by simp [q]⟩
    have z:(sj h H).get? b=none:=PySem.W.hideAll_none (trk h H) hm
    rw [z] at e;cases e
def CW (g h:Heap) (L:Addr):List (Addr × Obj):=(List.range h.objs.size).filterMap fun a=>if a=L∨(g.get? a).isSome=true then none else (h.get? a).map fun o=>(a,o)
def rest (g h:Heap) (L d:Addr):List (Addr × Obj):=(CW g h L).filter fun p=>decide (p.1≠d)
end L2
namespace L2
open PySem PySem.Spec PyProof.Rows
structure Mod (K:ZX) (mg:Str→Option Value) (base:Heap):Prop where
  kin:K.In base
  glob:base.Ns mainGlobals mg
  blt:∃ mb,base.Ns builtinsNs mb ∧ ∀ x:Str,x ≠ "__name__" → mb x=bootBuiltins x
  nolimit:base.NoLimit
structure Cx where
  prog:Program
  w:World
  K:ZX
  mg:Str→Option Value
  base:Heap
  A:Around
  N:List Str
  s₀ : Shared
  H₀ : Hp
  env:Env
  outer:List Env
  stack:List Env
  ex:List Addr
  fn:Str→Bool
  calm:Bool
  pn:List (Addr × Obj)
  xe:Value→Shared→Prop
def frs (l:List Env):List Addr:=l.filterMap (·.frame)
abbrev Cx.fs (X:Cx):List Addr:=frs X.outer
def Vis (sc:Scope) (x:Str):Prop:=sc.names.lookup x=some .local ∨sc.names.lookup x=some .cell∨sc.names.lookup x=some .free
def Loc (sc:Scope) (x:Str):Prop:=sc.names.lookup x=some .local ∨sc.names.lookup x=some .cell
def Iv (env:Env) (h:Heap) (m:Str→Option Value) (x:Str) (u:Value):Prop :=
  (env.kindOf x=some .local∧m x=some u)∨((env.kindOf x=some .cell∨env.kindOf x=some .free) ∧ ∃ c,env.cells.lookup x=some c∧h.IsCell c (some u))
structure Cx.Ok (X:Cx):Prop where
  mod:Mod X.K X.mg X.base
  kind:X.env.scope.kind=.function
  glob:X.env.globals=mainGlobals
  blt:X.env.builtins=builtinsNs
  above:X.s₀.heap.objs.size≤X.env.locals
  inj:∀ x y c,X.env.cells.lookup x=some c→X.env.cells.lookup y=some c→x=y
  has:∀ x,(X.env.kindOf x=some .cell∨X.env.kindOf x=some .free) → ∃ c,X.env.cells.lookup x=some c
  cab:∀ x c,X.fn x=true→X.env.cells.lookup x=some c→X.s₀.heap.objs.size≤c
  hd:X.calm=true→X.A.handled=none
  frames:X.A.frames=some X.stack
  stk:X.stack=X.outer∨(X.stack=X.env :: X.outer∧X.env.frame=some X.env.locals)
  exf:∀ b∈X.ex,b≠X.env.locals ∧ ∀ x c,X.env.cells.lookup x=some c→c≠b
  bs:∀ b o,X.base.get? b=some o→X.s₀.heap.get? b=some o∧X.H₀ b=none
  bsz:X.base.objs.size≤X.s₀.heap.objs.size
  noex:∀ b o,X.base.get? b=some o→b∉X.ex
  exfs:∀ b∈X.ex,b∉X.fs
  funs:X.s₀.heap.FunFrames X.base X.outer
  frf:∀ b∈X.fs,X.H₀ b=none
structure Inv (X:Cx) (pins:List (Addr × Obj)) (σ:List (Option V)) (H:Hp) (s:Shared):Prop where
  ok:X.Ok
  os:s.os=X.s₀.os
  bare:AllBare s.gens
  base:Un X.fs X.ex X.H₀ H X.s₀.heap s.heap
  loc:∃ m,s.heap.Ns X.env.locals m ∧ ∀ (i:Nat) (x:Str) (v:V),X.N[i]? = some x → σ[i]? = some (some v)→Vis X.env.scope x → ∃ u,bP v u∧Iv X.env s.heap m x u
  cell:∀ x c,X.env.cells.lookup x=some c → ∃ v,s.heap.IsCell c v
  free:H X.env.locals=none
  freeC:∀ x c,X.env.cells.lookup x=some c→H c=none
  pin:∀ p∈X.pn++pins,s.heap.get? p.1=some p.2∧H p.1=none∧p.1≠X.env.locals∧p.1∉X.fs ∧ ∀ v,p.2.data ≠ .cell v
  hok:HOk X.prog X.w H s.heap
  len : σ.length=X.N.length
section
variable {X:Cx} {pins:List (Addr × Obj)} {σ:List (Option V)} {H H':Hp} {s:Shared} {h':Heap}
theorem Cx.Ok.nofr (ok:X.Ok){b:Addr}{o:Obj}(e:X.base.get? b=some o):b∉X.fs:=fun hb=>by
  have:=(ok.funs.mem hb).1
  rw [e] at this;cases this
theorem Inv.bs (I:Inv X pins σ H s):∀ b o,X.base.get? b=some o→s.heap.get? b=some o∧H b=none:=fun b o e =>
  ⟨I.base.keep b o (I.ok.bs b o e).1 (I.ok.bs b o e).2 (I.ok.nofr e) (I.ok.noex b o e),I.base.free b o (I.ok.bs b o e).1 (I.ok.bs b o e).2 (I.ok.noex b o e)⟩
theorem Inv.bk (I:Inv X pins σ H s):∀ b o,X.base.get? b=some o→s.heap.get? b=some o:=fun b o e=>(I.bs b o e).1
theorem Inv.mod (I:Inv X pins σ H s):Mod X.K X.mg X.base:=I.ok.mod
theorem Inv.kIn (I:Inv X pins σ H s):X.K.In s.heap:=I.ok.mod.kin.keeps I.bk
theorem Inv.lt (I:Inv X pins σ H s):X.env.locals < s.heap.objs.size:=let ⟨_,hn,_⟩:=I.loc;hn.lt
theorem Inv.sz (I:Inv X pins σ H s):X.s₀.heap.objs.size≤s.heap.objs.size:=ZM I.ok.above (Nat.le_of_lt I.lt)
theorem Inv.nofs (I:Inv X pins σ H s){a:Addr}(h:s.heap.objs.size≤a):a∉X.fs:=fun hb=>by
  obtain⟨_,o,ho,_⟩:=I.ok.funs.mem hb
  exact absurd (Nat.lt_of_lt_of_le (ZI ho) (ZM I.sz h)) (Nat.lt_irrefl _)
theorem Inv.cne (I:Inv X pins σ H s):∀ x c,X.env.cells.lookup x=some c→c≠X.env.locals:=fun x c e z=>by
  obtain⟨v,o,ho,hd⟩:=I.cell x c e
  obtain⟨m,⟨o',es,ep,ho',hd',_⟩,_⟩:=I.loc
  rw [z,ho'] at ho;cases ho;rw [hd'] at hd;cases hd
theorem Inv.funs (I:Inv X pins σ H s):s.heap.FunFrames X.base X.outer:=by
  have all:∀ (l:List Env),(∀ b∈frs l,b∈X.fs)→X.s₀.heap.FunFrames X.base l→s.heap.FunFrames X.base l:=by
    intro l
    induction l with
    | nil=>intro _ _;trivial
    | cons env r ih =>
      intro hs hl
      obtain⟨hk,⟨L,o,hf,hn,ho,hd⟩,hr⟩:=hl
      have hL:L∈X.fs:=hs L (by unfold frs;rw [List.filterMap_cons,hf];exact ZV)
      obtain⟨sl,e⟩:=I.base.slot L o ho (I.ok.frf L hL) hL fun z=>I.ok.exfs L z hL
      exact⟨hk,⟨L,_,hf,hn,e,hd⟩,ih (fun b hb=>hs b (by unfold frs;rw [List.filterMap_cons,hf];exact ZW _ hb)) hr⟩
  exact all X.outer (fun _ hb=>hb) I.ok.funs
theorem Inv.stack (I:Inv X pins σ H s):s.heap.FunFrames X.base X.stack:=by
  rcases I.ok.stk with e|⟨e,hf⟩
  · rw [e];exact I.funs
  · rw [e]
    obtain⟨m,hn,_⟩:=I.loc
    refine .cons (by rw [I.ok.kind];decide) hf hn ?_ I.funs
    exact Heap.get?_none_of_le (ZM I.ok.bsz I.ok.above)
theorem Inv.stkSub (I:Inv X pins σ H s):∀ b∈frs X.stack,b∈X.env.locals :: X.fs:=fun b hb=>by
  rcases I.ok.stk with e|⟨e,hf⟩
  · rw [e] at hb;exact ZW _ hb
  · rw [e] at hb
    unfold frs at hb
    rw [List.filterMap_cons,hf] at hb
    exact hb
theorem Inv.stkFree (I:Inv X pins σ H s):∀ b∈frs X.stack,H b=none:=fun b hb=>by
  rcases List.mem_cons.mp (I.stkSub b hb) with e|hb
  · rw [e];exact I.free
  · obtain⟨_,o,ho,_⟩:=I.ok.funs.mem hb
    exact I.base.free b o ho (I.ok.frf b hb) fun z=>I.ok.exfs b z hb
theorem Inv.step {g':Array GenState}{t':Nat}{d':Drawn}{ch:List Addr}(I:Inv X pins σ H s)
    (hch:∀ b∈ch,(b∈X.ex∨X.s₀.heap.objs.size≤b)∧b≠X.env.locals∧(∀ x c,X.env.cells.lookup x=some c→c≠b) ∧ ∀ p∈X.pn++pins,p.1≠b)
    (keep:∀ b o,b≠X.env.locals→b∉X.fs→b∉ch→s.heap.get? b=some o→H b=none→h'.get? b=some o)
    (slot:∀ b o,b≠X.env.locals→b∈X.fs→b∉ch→s.heap.get? b=some o→H b=none → ∃ sl,h'.get? b=some { o with slots:=sl }) (free:∀ b o,b∉ch→s.heap.get? b=some o→H b=none→H' b=none)
    (there:∀ b o,b∉ch→s.heap.get? b=some o → ∃ o',h'.get? b=some o')
    (tups:∀ b xs,H b=some (.tup xs)→H' b=some (.tup xs)) (frzs:∀ b o u,H b=some (.frz o u)→H' b=some (.frz o u)) (tbls:∀ b ps,H b=some (.tbl ps) → ∃ more,H' b=some (.tbl (ps++more)))
    (ns:∀ m,s.heap.Ns X.env.locals m→h'.Ns X.env.locals m) (hok:HOk X.prog X.w H' h') (hg:AllBare g') :
    Inv X pins σ H' { s with heap:=h',gens:=g',drawn:=d',toks:=t' }:=by
  have neL:∀ b o,X.s₀.heap.get? b=some o→b≠X.env.locals:=fun b o e=>ZN (Nat.lt_of_lt_of_le (ZI e) I.ok.above)
  have neC:∀ b o,X.s₀.heap.get? b=some o→b∉X.ex→b∉ch:=fun b o e hx hb=>by
    rcases (hch b hb).1 with z|z
    · exact hx z
    · exact absurd (Nat.lt_of_lt_of_le (ZI e) z) (Nat.lt_irrefl _)
  have cellK:∀ x c,X.env.cells.lookup x=some c → ∀ v,s.heap.IsCell c v→h'.IsCell c v:=fun x c e v ⟨o,ho,hd⟩=>by
    have nch:c∉ch:=fun z=>(hch c z).2.2.1 x c e rfl
    by_cases hc:c∈X.fs
    · obtain⟨sl,q⟩:=slot c o (I.cne x c e) hc nch ho (I.freeC x c e)
      exact⟨_,q,hd⟩
    · exact⟨o,keep c o (I.cne x c e) hc nch ho (I.freeC x c e),hd⟩
  refine⟨I.ok,I.os,hg,⟨fun b o e n hb hx => ?_,fun b o e n hb hx => ?_,fun b o e n hx => ?_,fun b o e hx => ?_,fun b xs e=>tups b xs (I.base.tups b xs e),fun b o xs e=>frzs b o xs (I.base.frzs b o xs e),fun b ps e => ?_⟩,?_,fun x c e => ?_,?_,fun x c e => ?_,fun p hp => ?_,hok,I.len⟩
  · exact keep b o (neL b o e) hb (neC b o e hx) (I.base.keep b o e n hb hx) (I.base.free b o e n hx)
  · obtain⟨sl,e1⟩:=I.base.slot b o e n hb hx
    obtain⟨sl',e2⟩:=slot b _ (neL b o e) hb (neC b o e hx) e1 (I.base.free b o e n hx)
    exact⟨sl',e2⟩
  · obtain⟨o',e1⟩:=I.base.there b o e hx
    exact free b o' (neC b o e hx) e1 (I.base.free b o e n hx)
  · obtain⟨o',e1⟩:=I.base.there b o e hx
    exact there b o' (neC b o e hx) e1
  · obtain⟨m1,e1⟩:=I.base.tbls b ps e
    obtain⟨m2,e2⟩:=tbls b _ e1
    exact⟨m1++m2,by rw [e2,Array.append_assoc]⟩
  · obtain⟨m,hn,hl⟩:=I.loc
    refine⟨m,ns m hn,fun i x v e1 e2 e3 => ?_⟩
    obtain⟨u,r,l⟩:=hl i x v e1 e2 e3
    refine⟨u,r,?_⟩
    rcases l with l|⟨k,c,e,z⟩
    · exact .inl l
    · exact .inr ⟨k,c,e,cellK x c e _ z⟩
  · obtain⟨v,z⟩:=I.cell x c e
    exact⟨v,cellK x c e v z⟩
  · obtain⟨m,⟨o,_,_,ho,_⟩,_⟩:=I.loc
    exact free _ o (fun z=>(hch _ z).2.1 rfl) ho I.free
  · obtain⟨v,o,ho,hd⟩:=I.cell x c e
    exact free c o (fun z=>(hch c z).2.2.1 x c e rfl) ho (I.freeC x c e)
  · obtain⟨e,n,ne,nf,d⟩:=I.pin p hp
    have nch:p.1∉ch:=fun z=>(hch p.1 z).2.2.2 p hp rfl
    exact⟨keep p.1 p.2 ne nf nch e n,free p.1 p.2 nch e n,ne,nf,d⟩
theorem Inv.un {t':Nat}(I:Inv X pins σ H s)(u:Un X.fs [] H H' s.heap h')(hok:HOk X.prog X.w H' h'):Inv X pins σ H' { s with heap:=h',toks:=t' }:=by
  obtain⟨m,⟨o,es,ep,ho,r⟩,_⟩:=id I.loc
  obtain⟨sl,hL⟩:=u.any ho I.free (by simp)
  exact I.step (g':=s.gens) (d':=s.drawn) (ch:=[]) (fun _ z=>nomatch z) (fun b o _ hb _ e n=>u.keep b o e n hb (by simp)) (fun b o _ hb _ e n=>u.slot b o e n hb (by simp)) (fun b o _ e n=>u.free b o e n (by simp)) (fun b o _ e=>u.there b o e (by simp)) u.tups u.frzs u.tbls (fun m' hm=>by
    obtain⟨o',es',ep',ho',r'⟩:=hm
    rw [ho] at ho';cases ho'
    exact⟨_,es',ep',hL,r'⟩) hok I.bare
theorem Inv.call {g':Array GenState}{t':Nat}{d':Drawn}{ch:List Addr}(I:Inv X pins σ H s)(u:Un (frs X.stack) ch H H' s.heap h')(hok:HOk X.prog X.w H' h')(hg:AllBare g')
    (hch:∀ b∈ch,(b∈X.ex∨X.s₀.heap.objs.size≤b)∧b≠X.env.locals∧(∀ x c,X.env.cells.lookup x=some c→c≠b) ∧ ∀ p∈X.pn++pins,p.1≠b) :
    Inv X pins σ H' { s with heap:=h',gens:=g',drawn:=d',toks:=t' }:=by
  obtain⟨m,⟨o,es,ep,ho,r⟩,_⟩:=id I.loc
  obtain⟨sl,hL⟩:=u.any ho I.free fun z=>(hch _ z).2.1 rfl
  exact I.step (ch:=ch) hch (fun b o hL hb hc e n=>u.keep b o e n (fun z=>(List.mem_cons.mp (I.stkSub b z)).elim hL hb) hc) (fun b o _ _ hc e n=>u.any e n hc) (fun b o hc e n=>u.free b o e n hc) (fun b o hc e=>u.there b o e hc) u.tups u.frzs u.tbls (fun m' hm=>by
    obtain⟨o',es',ep',ho',r'⟩:=hm
    rw [ho] at ho';cases ho'
    exact⟨_,es',ep',hL,r'⟩) hok hg
theorem Inv.turned {t':Nat}{it:Addr}(I:Inv X pins σ H s)(k:∀ b o,b≠it→s.heap.get? b=some o→h'.get? b=some o)(hn:H it=none)(hL:it≠X.env.locals)
    (h1:it∈X.ex∨X.s₀.heap.objs.size≤it) (h2:∀ x c,X.env.cells.lookup x=some c→c≠it) (h3:∀ p∈X.pn++pins,p.1≠it):Inv X pins σ H { s with heap:=h',toks:=t' }:=by
  have nit:∀ b u,H b=some u→b≠it:=fun b u e z=>by rw [z,hn] at e;cases e
  refine I.step (g':=s.gens) (d':=s.drawn) (ch:=[it]) (fun b hb => ?_) (fun b o _ _ hc e _=>k b o (fun z=>hc (by simp [z])) e) (fun b o _ _ hc e _=>⟨o.slots,k b o (fun z=>hc (by simp [z])) e⟩) (fun _ _ _ _ n=>n)
    (fun b o hc e=>⟨o,k b o (fun z=>hc (by simp [z])) e⟩) (fun _ _ e=>e) (fun _ _ _ e=>e) (fun b ps e=>⟨#[],by rw [e];simp⟩) (fun m hm => ?_) (fun b u e => ?_) I.bare
  · have e:b=it:=by simpa using hb
    subst e
    exact⟨h1,hL,h2,h3⟩
  · obtain⟨o,es,ep,ho,r⟩:=hm
    exact⟨o,es,ep,k _ o (Ne.symm hL) ho,r⟩
  · refine (I.hok b u e).stay (fun c v hc q=>k c v ?_ q) (fun _ q=>q) fun _ _ q=>q
    rcases hc with z|z
    · rw [z];exact nit b u e
    · exact nit c _ z
theorem Inv.tok (I:Inv X pins σ H s)(t:Nat):Inv X pins σ H { s with toks:=t }:=I.un (h':=s.heap) (t':=t) Un.refl I.hok
theorem Inv.kept {t':Nat}(I:Inv X pins σ H s)(k:∀ b u,s.heap.get? b=some u→h'.get? b=some u):Inv X pins σ H { s with heap:=h',toks:=t' }:=I.un (Un.kept k) (I.hok.kept k)
theorem Inv.laid {a:Addr}{o:HO}{t':Nat}(I:Inv X pins σ H s)(k:∀ b u,s.heap.get? b=some u→h'.get? b=some u)(hp:s.heap.objs.size≤a)(new:em X.prog X.w (upd H a o) h' a o) :
    Inv X pins σ (upd H a o) { s with heap:=h',toks:=t' }:=I.un (Un.laid k hp (I.hok.fresh hp)) (I.hok.laid k hp new)
theorem Inv.write {x e:Addr}{o:HO}{t':Nat}(I:Inv X pins σ H s)(mu:Mut (H x))(he:e=x∨H e=some (.own x))(k:∀ b u,b≠e→s.heap.get? b=some u→h'.get? b=some u)(heo:∃ u,h'.get? e=some u)
    (new:em X.prog X.w (upd H x o) h' x o):Inv X pins σ (upd H x o) { s with heap:=h',toks:=t' }:=I.un (Un.write mu he k heo) (I.hok.write mu he k heo new)
theorem Inv.pins_of {pins':List (Addr × Obj)}(I:Inv X pins σ H s)(h:∀ p∈pins',s.heap.get? p.1=some p.2∧H p.1=none∧p.1≠X.env.locals∧p.1∉X.fs ∧ ∀ v,p.2.data ≠ .cell v):Inv X pins' σ H s :=
  ⟨I.ok,I.os,I.bare,I.base,I.loc,I.cell,I.free,I.freeC,fun p hp=>(List.mem_append.mp hp).elim (fun z=>I.pin p (List.mem_append_left _ z)) (h p),I.hok,I.len⟩
theorem uc {N:List Str}(hN:N.Nodup){i j:Nat}{x:Str}(a:N[i]? = some x)(b:N[j]? = some x):i=j:=by
  obtain⟨h1,e1⟩:=List.getElem?_eq_some_iff.mp a
  obtain⟨h2,e2⟩:=List.getElem?_eq_some_iff.mp b
  exact (List.getElem_inj hN).mp (e1.trans e2.symm)
theorem qZ {M:Model}{A:Around}{E:Value→Shared→Prop}{i:Nat}{x:Str}{v:V}{u:Value}{Q:Unit→Shared→Prop}(I:Inv X pins σ H s)(hN:X.N.Nodup)(hi:X.N[i]? = some x)(hx:Loc X.env.scope x)(r:bP v u)
    (h:∀ s',Inv X pins (σ.set i (some v)) H s'→(∃ a,Heap.SameBut a s.heap s'.heap∧(a=X.env.locals∨X.env.cells.lookup x=some a))→Q () s') (hf:X.fn x=true∨X.env.scope.names.lookup x=some .local:=by first|exact .inl rfl|exact .inr rfl|assumption):wpAny M A (storeName X.env x u) Q E s:=by
  obtain⟨m,hn,hl⟩:=id I.loc
  have hcls:(X.env.scope.kind == .class || (X.env.scope.kind == .module && X.env.locals != X.env.globals))=false:=by rw [I.ok.kind];rfl
  have hiσ:i < σ.length:=by rw [I.len];exact (List.getElem?_eq_some_iff.mp hi).1
  have cne:=I.cne
  have tracked:∀ {a:Addr} {h':Heap},(∃ o,s.heap.get? a=some o∧H a=none)→Heap.SameBut a s.heap h'→HOk X.prog X.w H h':=fun {a h'} ha hs b ob e=>by
    obtain⟨_,_,hfree⟩:=ha
    refine (I.hok b ob e).stay (fun c w' hc q=>(hs.2 c ?_).trans q) (fun _ q=>q) fun _ _ q=>q
    rintro rfl
    rcases hc with rfl|hc
    · rw [hfree] at e;cases e
    · rw [hfree] at hc;cases hc
  rcases hx with hk|hk
  · refine wpAny_storeName_local hk hn (fun h' hn' hs => ?_) hcls
    obtain⟨oL,_,_,hoL,_⟩:=id hn
    refine h _ ⟨I.ok,I.os,I.bare,⟨fun b o e n hb hx => ?_,fun b o e n hb hx => ?_,I.base.free,fun b o e hx => ?_,I.base.tups,I.base.frzs,I.base.tbls⟩,⟨_,hn',fun j y v' e1 e2 e3 => ?_⟩,fun y c e => ?_,I.free,I.freeC,fun p hp => ?_,tracked ⟨oL,hoL,I.free⟩ hs,by simpa using I.len⟩ ⟨_,hs,.inl rfl⟩
    · exact (hs.2 b (ZN (Nat.lt_of_lt_of_le (ZI e) I.ok.above))).trans (I.base.keep b o e n hb hx)
    · obtain⟨sl,e1⟩:=I.base.slot b o e n hb hx
      exact⟨sl,(hs.2 b (ZN (Nat.lt_of_lt_of_le (ZI e) I.ok.above))).trans e1⟩
    · obtain⟨o',e1⟩:=I.base.there b o e hx
      exact⟨o',(hs.2 b (ZN (Nat.lt_of_lt_of_le (ZI e) I.ok.above))).trans e1⟩
    · by_cases hj:j=i
      · subst hj
        rw [hi] at e1;cases e1
        rw [List.getElem?_set_self hiσ] at e2
        cases e2
        exact⟨u,r,.inl ⟨hk,by simp⟩⟩
      · rw [ZP (Ne.symm hj)] at e2
        obtain⟨u',r',q⟩:=hl j y v' e1 e2 e3
        refine⟨u',r',?_⟩
        rcases q with ⟨k,e⟩|⟨k,c,e,z⟩
        · refine .inl ⟨k,?_⟩
          have:y≠x:=fun e=>hj (uc hN e1 (e ▸ hi))
          simp [this,e]
        · exact .inr ⟨k,c,e,z.sameBut hs (cne y c e)⟩
    · obtain⟨w',z⟩:=I.cell y c e
      exact⟨w',z.sameBut hs (cne y c e)⟩
    · obtain⟨e,n,ne,nf,d⟩:=I.pin p hp
      exact⟨(hs.2 p.1 ne).trans e,n,ne,nf,d⟩
  · have hfn:X.fn x=true:=by
      rcases hf with z|z
      · exact z
      · rw [z] at hk;cases hk
    obtain⟨c,hc⟩:=I.ok.has x (.inl hk)
    obtain⟨w',z⟩:=I.cell x c hc
    refine wpAny_storeName_cell I.ok.kind hk hc z (fun h' hc' hs => ?_)
    obtain⟨oc,hoc,hocd⟩:=id z
    refine h { s with heap:=h' } ⟨I.ok,I.os,I.bare,⟨fun b o e n hb hx => ?_,fun b o e n hb hx => ?_,I.base.free,fun b o e hx => ?_,I.base.tups,I.base.frzs,I.base.tbls⟩,⟨m,hn.sameBut hs (Ne.symm (cne x c hc)),fun j y v' e1 e2 e3 => ?_⟩,fun y c' e => ?_,I.free,I.freeC,fun p hp => ?_,tracked ⟨oc,hoc,I.freeC x c hc⟩ hs,by simpa using I.len⟩ ⟨c,hs,.inr hc⟩
    · exact (hs.2 b (ZN (Nat.lt_of_lt_of_le (ZI e) (I.ok.cab x c hfn hc)))).trans (I.base.keep b o e n hb hx)
    · obtain⟨sl,e1⟩:=I.base.slot b o e n hb hx
      exact⟨sl,(hs.2 b (ZN (Nat.lt_of_lt_of_le (ZI e) (I.ok.cab x c hfn hc)))).trans e1⟩
    · obtain⟨o',e1⟩:=I.base.there b o e hx
      exact⟨o',(hs.2 b (ZN (Nat.lt_of_lt_of_le (ZI e) (I.ok.cab x c hfn hc)))).trans e1⟩
    · by_cases hj:j=i
      · subst hj
        rw [hi] at e1;cases e1
        rw [List.getElem?_set_self hiσ] at e2
        cases e2
        exact⟨u,r,.inr ⟨.inl hk,c,hc,hc'⟩⟩
      · rw [ZP (Ne.symm hj)] at e2
        obtain⟨u',r',q⟩:=hl j y v' e1 e2 e3
        refine⟨u',r',?_⟩
        rcases q with q|⟨k,c',e,z'⟩
        · exact .inl q
        · refine .inr ⟨k,c',e,z'.sameBut hs ?_⟩
          rintro rfl
          exact hj (uc hN e1 (I.ok.inj _ _ _ e hc ▸ hi))
    · by_cases hcc:c'=c
      · subst hcc;exact⟨_,hc'⟩
      · obtain⟨w2,z2⟩:=I.cell y c' e
        exact⟨w2,z2.sameBut hs hcc⟩
    · obtain⟨e,n,ne,nf,d⟩:=I.pin p hp
      refine⟨(hs.2 p.1 ?_).trans e,n,ne,nf,d⟩
      intro q
      rw [q,hoc] at e
      have q':oc=p.2:=ZT e
      exact d w' (by rw [← q'];exact hocd)
theorem ud {M:Model}{A:Around}{E:Value→Shared→Prop}{i:Nat}{x:Str}{v:V}{u:Value}{Q:Unit→Shared→Prop}(I:Inv X pins σ H s)(hN:X.N.Nodup)(hi:X.N[i]? = some x)(hx:Loc X.env.scope x)(r:bP v u)
    (h:∀ s',Inv X pins (σ.set i (some v)) H s'→Q () s') (hf:X.fn x=true∨X.env.scope.names.lookup x=some .local:=by first|exact .inl rfl|exact .inr rfl|assumption):wpAny M A (storeName X.env x u) Q E s :=
  qZ I hN hi hx r (fun s' I' _=>h s' I') hf
theorem Inv.call' {s':Shared}{ch:List Addr}(I:Inv X pins σ H s)(ho:s'.os=s.os)(u:Un (frs X.stack) ch H H' s.heap s'.heap)(hok:HOk X.prog X.w H' s'.heap)(hg:AllBare s'.gens)
    (hch:∀ b∈ch,(b∈X.ex∨X.s₀.heap.objs.size≤b)∧b≠X.env.locals∧(∀ x c,X.env.cells.lookup x=some c→c≠b) ∧ ∀ p∈X.pn++pins,p.1≠b):Inv X pins σ H' s':=by
  obtain⟨h',g',d',t',o'⟩:=s'
  have e:o'=s.os:=ho
  subst e
  exact I.call (g':=g') (t':=t') (d':=d') u hok hg hch
end
abbrev XK:=Value→Option Addr→Hp→Prop
abbrev St:=List (Option V)
abbrev VK:=V→Hp→Prop
abbrev TE:=St→Hp→VK→Prop
abbrev TT:=St→Hp→(Bool→Hp→Prop)→Prop
abbrev TA:=St→Hp→(List V→Hp→Prop)→Prop
structure sr where
  nx:St→Hp→Prop
  rt:VK
  bk:St→Hp→Prop:=fun _ _=>False
  ct:St→Hp→Prop:=fun _ _=>False
abbrev TS:=sr→St→Hp→Prop
def EP (X:Cx) (pins:List (Addr × Obj)) (σ:St) (Q:VK) (u:Value) (s':Shared):Prop:=∃ v H',Inv X pins σ H' s'∧bP v u∧Q v H'
def TP (X:Cx) (pins:List (Addr × Obj)) (σ:St) (Q:Bool→Hp→Prop) (b:Bool) (s':Shared):Prop:=∃ H',Inv X pins σ H' s'∧Q b H'
def AP (X:Cx) (pins:List (Addr × Obj)) (σ:St) (Q:List V→Hp→Prop) (us:List Value) (s':Shared):Prop:=∃ vs H',Inv X pins σ H' s'∧aS vs us∧Q vs H'
def SP (X:Cx) (pins:List (Addr × Obj)) (D:sr) (f:Flow) (s':Shared):Prop :=
  match f with
  | .next=>∃ σ' H',Inv X pins σ' H' s'∧D.nx σ' H'
  | .brk=>∃ σ' H',Inv X pins σ' H' s'∧D.bk σ' H'
  | .cont=>∃ σ' H',Inv X pins σ' H' s'∧D.ct σ' H'
  | .ret u=>∃ v σ' H',Inv X pins σ' H' s'∧bP v u∧D.rt v H'
def PE (X:Cx) (e:Expr) (t:TE):Prop :=
  ∀ (pins:List (Addr × Obj)) (s:Shared) (σ:St) (H:Hp) (Q:VK),Inv X pins σ H s→t σ H Q→wpAny (model X.prog X.w) X.A (eval e X.env) (EP X pins σ Q) X.xe s
def PT (X:Cx) (e:Expr) (t:TT):Prop :=
  ∀ (pins:List (Addr × Obj)) (s:Shared) (σ:St) (H:Hp) (Q:Bool→Hp→Prop),Inv X pins σ H s→t σ H Q→wpAny (model X.prog X.w) X.A (isTrue e X.env (eval e X.env)) (TP X pins σ Q) X.xe s
def PW (X:Cx) (e:Expr) (t:TT):Prop :=
  ∀ (whole:Sem Value) (pins:List (Addr × Obj)) (s:Shared) (σ:St) (H:Hp) (Q:Bool→Hp→Prop),Inv X pins σ H s→t σ H Q→wpAny (model X.prog X.w) X.A (isTrue e X.env whole) (TP X pins σ Q) X.xe s
theorem PW.pt {X:Cx}{e:Expr}{t:TT}(h:PW X e t):PT X e t:=h _
def PA (X:Cx) (es:List Expr) (t:TA):Prop :=
  ∀ (pos:Pos) (pins:List (Addr × Obj)) (s:Shared) (σ:St) (H:Hp) (Q:List V→Hp→Prop),Inv X pins σ H s→t σ H Q→wpAny (model X.prog X.w) X.A (spliced (backTo pos (starEach es X.env))) (AP X pins σ Q) X.xe s
def PS (X:Cx) (st:Stmt) (t:TS):Prop :=
  ∀ (pins:List (Addr × Obj)) (s:Shared) (σ:St) (H:Hp) (D:sr),Inv X pins σ H s→t D σ H→wpAny (model X.prog X.w) X.A (exec st X.env) (SP X pins D) X.xe s
def PSs (X:Cx) (st:List Stmt) (t:TS):Prop :=
  ∀ (pins:List (Addr × Obj)) (s:Shared) (σ:St) (H:Hp) (D:sr),Inv X pins σ H s→t D σ H→wpAny (model X.prog X.w) X.A (execs st X.env) (SP X pins D) X.xe s
theorem thn {α : Type}{t:Sem α}{Q Q' : α → Shared→Prop}{M:Model}{A:Around}{E:Value→Shared→Prop}{s:Shared}(h:wpAny M A t Q E s)(hQ:∀ a s,Q a s→Q' a s):wpAny M A t Q' E s:=wpAny_mono h hQ fun _ _ x=>x
end L2
namespace L2
open PySem PySem.Spec PyProof.Rows
section
variable {X:Cx}
def Iw (i:Nat):TE:=fun σ H Q=>∃ v,σ[i]? = some (some v)∧Q v H
def tC (v:V):TE:=fun _ H Q=>Q v H
theorem E3 {i:Nat} {x:Str} {pos:Pos} (hN:X.N[i]? = some x) (hv:Vis X.env.scope x) (hd:(x == ("__debug__" : Str))=false:=by decide) (hcd:(x == ("__classdict__" : Str))=false:=by decide):PE X (.Name x pos) (Iw i):=by
  intro pins s σ H Q I h
  obtain⟨v,e,h⟩:=h
  obtain⟨m,hn,hl⟩:=I.loc
  obtain⟨u,r,l⟩:=hl i x v hN e hv
  have fin:EP X pins σ Q u s:=⟨v,H,I,r,h⟩
  rcases l with ⟨hk,hm⟩|⟨hk,c,hc,hcell⟩
  · exact wpAny_Name (wpAny_loadName_local I.ok.kind hk hn hm fin) hd
  · rcases hk with hk|hk
    · exact wpAny_Name (wpAny_loadName_cell I.ok.kind hk hc hcell fin) hd
    · exact wpAny_Name (wpAny_loadName_free I.ok.kind hk hc hcell fin hcd) hd
theorem Ai {i j pos}:PE X (.Constant (.int i) j pos) (tC (.int i)):=fun _ _ _ H _ I h=>wpAny_Constant_int ⟨.int i,H,I.tok _,⟨_,rfl⟩,h⟩
theorem G3 {b j pos}:PE X (.Constant (.bool b) j pos) (tC (.bl b)):=fun _ _ _ H _ I h=>Constant_bool ⟨.bl b,H,I,rfl,h⟩
theorem E4 {j pos}:PE X (.Constant .none j pos) (tC .non):=fun _ _ _ H _ I h=>Constant_none ⟨.non,H,I,rfl,h⟩
theorem E5 {x j pos}:PE X (.Constant (.str x) j pos) (tC (.str x)):=fun _ _ _ H _ I h=>Calls.Constant_str ⟨.str x,H,I.tok _,⟨_,rfl⟩,h⟩
def Gl (X:Cx) (x:Str):Prop:=X.env.kindOf x=some .globalImplicit
theorem xu {E:Value→Shared→Prop}{pins:List (Addr × Obj)}{s:Shared}{σ:St}{H:Hp}{x:Str}{u:Value}{pos:Pos}{Q:Value→Shared→Prop}(I:Inv X pins σ H s)(hg:Gl X x)(hm:X.mg x=some u)(h:Q u s)
    (hd:(x == ("__debug__" : Str))=false:=by decide):wpAny (model X.prog X.w) X.A (eval (.Name x pos) X.env) Q E s :=
  Calls.Name_function_global I.ok.kind hg (Calls.loadGlobal_global (by rw [I.ok.glob];exact I.mod.glob.keeps I.bk) hm h) hd
theorem jx {E:Value→Shared→Prop}{pins:List (Addr × Obj)}{s:Shared}{σ:St}{H:Hp}{x:Str}{u:Value}{pos:Pos}{Q:Value→Shared→Prop}(I:Inv X pins σ H s)(hg:Gl X x)(hm:X.mg x=none)(hv:bootBuiltins x=some u)(h:Q u s)
    (hn:x ≠ "__name__" := by decide) (hd:(x == ("__debug__" : Str))=false:=by decide):wpAny (model X.prog X.w) X.A (eval (.Name x pos) X.env) Q E s:=by
  obtain⟨mb,h1,h2⟩:=I.mod.blt
  exact Calls.Name_function_global I.ok.kind hg (Calls.loadGlobal_builtin (by rw [I.ok.glob];exact I.mod.glob.keeps I.bk) hm (by rw [I.ok.blt];exact h1.keeps I.bk) ((h2 x hn).trans hv) h) hd
theorem CY {x:Str} {v:V} {u:Value} {pos:Pos} (hg:Gl X x) (hm:X.mg x=some u) (r:bP v u) (hd:(x == ("__debug__" : Str))=false:=by decide):PE X (.Name x pos) (tC v) :=
  fun _ _ _ H _ I h=>xu I hg hm ⟨v,H,I,r,h⟩ hd
theorem CZ {x:Str} {v:V} {u:Value} {pos:Pos} (hg:Gl X x) (hm:X.mg x=none) (hv:bootBuiltins x=some u) (r:bP v u) (hn:x ≠ "__name__" := by decide) (hd:(x == ("__debug__" : Str))=false:=by decide):PE X (.Name x pos) (tC v) :=
  fun _ _ _ H _ I h=>jx I hg hm hv ⟨v,H,I,r,h⟩ hn hd
variable {a b:Expr} {ta tb:TE} {pos:Pos}
def tB (t:TE):TT:=fun σ H Q=>t σ H fun x H1=>∃ c,x=.bl c∧Q c H1
theorem E6 {e:Expr}{t:TE}(h:PE X e t)(he:∀ whole,isTrue e X.env whole=(do let v ← whole;standAt e.pos;holding [v] (truthy v)):=by intro _;rfl):PT X e (tB t):=by
  intro pins s σ H Q I hw
  refine isTrue_plain (thn (h pins s σ H _ I hw) fun v s1 ⟨x,H1,I1,r1,q1⟩ => ?_) (he _)
  obtain⟨d,rfl,q⟩:=q1
  cases r1
  exact wpAny_truthy_bool ⟨H1,I1,q⟩
variable {tA tB':TT} {rest:List Expr}
def kE (t u:TT):TT:=fun σ H Q=>t σ H fun c H1=>if c=true then u σ H1 Q else Q false H1
def tOr (t u:TT):TT:=fun σ H Q=>t σ H fun c H1=>if c=true then Q true H1 else u σ H1 Q
def eT (t:TT):TT:=fun σ H Q=>t σ H fun c H1=>Q (!c) H1
theorem C6 (ha:PT X a tA):PW X (.BoolOp .And [a] pos) tA:=by
  intro wh pins s σ H Q I h
  refine isTrue_and (thn (ha pins s σ H Q I h) fun c s1 e => ?_)
  cases c with
  | true=>exact isTrue_and_nil e
  | false=>exact e
theorem E7 (ha:PT X a tA):PW X (.BoolOp .Or [a] pos) tA:=by
  intro wh pins s σ H Q I h
  refine isTrue_or (thn (ha pins s σ H Q I h) fun c s1 e => ?_)
  cases c with
  | false=>exact isTrue_or_nil e
  | true=>exact e
theorem E8 (ha:PT X a tA)(hb:PW X (.BoolOp .And (b :: rest) pos) tB'):PW X (.BoolOp .And (a :: b :: rest) pos) (kE tA tB'):=by
  intro wh pins s σ H Q I h
  refine isTrue_and (thn (ha pins s σ H _ I h) fun c s1 ⟨H1,I1,q1⟩ => ?_)
  cases c with
  | true=>exact hb wh pins s1 σ H1 Q I1 q1
  | false=>exact⟨H1,I1,q1⟩
theorem G4 (ha:PT X a tA)(hb:PW X (.BoolOp .Or (b :: rest) pos) tB'):PW X (.BoolOp .Or (a :: b :: rest) pos) (tOr tA tB'):=by
  intro wh pins s σ H Q I h
  refine isTrue_or (thn (ha pins s σ H _ I h) fun c s1 ⟨H1,I1,q1⟩ => ?_)
  cases c with
  | true=>exact⟨H1,I1,q1⟩
  | false=>exact hb wh pins s1 σ H1 Q I1 q1
theorem E9 (ha:PT X a tA):PT X (.UnaryOp .Not a pos) (eT tA):=by
  intro pins s σ H Q I h
  exact isTrue_not (ha pins s σ H (fun c H1=>Q (!c) H1) I h)
def G5 (ta tb:TE):TE:=fun σ H Q=>ta σ H fun x H1=>∃ c,x=.bl c∧if c=true then tb σ H1 Q else Q (.bl false) H1
def Ix (ta tb:TE):TE:=fun σ H Q=>ta σ H fun x H1=>∃ c,x=.bl c∧if c=true then Q (.bl true) H1 else tb σ H1 Q
def G6 (ta:TE):TE:=fun σ H Q=>ta σ H fun x H1=>∃ c,x=.bl c∧Q (.bl (!c)) H1
theorem Fc {op}{t:TE}(h:PE X a t):PE X (.BoolOp op [a] pos) t:=fun pins s σ H Q I hw=>BoolOp_one (h pins s σ H Q I hw)
theorem Fd (ha:PE X a ta)(hb:PE X (.BoolOp .And (b :: rest) pos) tb):PE X (.BoolOp .And (a :: b :: rest) pos) (G5 ta tb):=by
  intro pins s σ H Q I h
  refine BoolOp_and (thn (ha pins s σ H _ I h) fun v s1 ⟨x,H1,I1,r1,q1⟩ => ?_)
  obtain⟨c,rfl,q1⟩:=q1
  cases r1
  refine wpAny_truthy_bool ?_
  cases c with
  | true=>exact hb pins s1 σ H1 Q I1 q1
  | false=>exact⟨.bl false,H1,I1,rfl,q1⟩
theorem G7 (ha:PE X a ta)(hb:PE X (.BoolOp .Or (b :: rest) pos) tb):PE X (.BoolOp .Or (a :: b :: rest) pos) (Ix ta tb):=by
  intro pins s σ H Q I h
  refine BoolOp_or (thn (ha pins s σ H _ I h) fun v s1 ⟨x,H1,I1,r1,q1⟩ => ?_)
  obtain⟨c,rfl,q1⟩:=q1
  cases r1
  refine wpAny_truthy_bool ?_
  cases c with
  | false=>exact hb pins s1 σ H1 Q I1 q1
  | true=>exact⟨.bl true,H1,I1,rfl,q1⟩
theorem Fe (ha:PE X a ta):PE X (.UnaryOp .Not a pos) (G6 ta):=by
  intro pins s σ H Q I h
  refine UnaryOp_ (thn (ha pins s σ H _ I h) fun v s1 ⟨x,H1,I1,r1,q1⟩ => ?_)
  obtain⟨c,rfl,q1⟩:=q1
  cases r1
  exact not_of (wpAny_truthy_bool ⟨.bl (!c),H1,I1,rfl,q1⟩)
def tIf (t:TT) (ta tb:TE):TE:=fun σ H Q=>t σ H fun c H1=>if c=true then ta σ H1 Q else tb σ H1 Q
theorem Aj {c:Expr}(hc:PT X c tA)(ha:PE X a ta)(hb:PE X b tb):PE X (.IfExp c a b pos) (tIf tA ta tb):=by
  intro pins s σ H Q I h
  refine wpAny_IfExp (thn (hc pins s σ H _ I h) fun d s1 ⟨H1,I1,q1⟩ => ?_)
  cases d with
  | true=>exact ha pins s1 σ H1 Q I1 q1
  | false=>exact hb pins s1 σ H1 Q I1 q1
end
end L2
namespace L2
open PySem PySem.Spec PyProof.Rows
def SqL (K:ZX) (H:Hp) (a:Addr) (xs:List V):Prop :=
  Rd H a (.lst xs) ∨
    ∃ (o:Obj) (its:Array Value) (n:Nat),K.lookup a=some o∧o.cls=.type "list" ∧ o.dict=none∧o.data=.seq its n∧its.size≤sizeLine∧aS xs its.toList
def SqT (K:ZX) (H:Hp) (a:Addr) (xs:List V):Prop :=
  Rd H a (.tup xs) ∨
    ∃ (o:Obj) (its:Array Value) (n:Nat),K.lookup a=some o∧o.cls=.type "tuple" ∧ o.data=.seq its n∧its.size≤sizeLine∧aS xs its.toList
def Iy:Value→Option V
  | .none=>some .non
  | .bool b=>some (.bl b)
  | .int i _=>some (.int i)
  | .str x _=>some (.str x)
  | .bytes b _=>some (.byt b)
  | .float b _=>some (.flt b)
  | .ref a=>some (.ref a)
  | .type n=>some (.ty n)
  | _=>none
theorem bP.abs {x:V}{u:Value}(r:bP x u):Iy u=some x:=by
  cases x with
  | non=>cases r;rfl
  | bl _=>cases r;rfl
  | int _=>obtain⟨t,rfl⟩:=r;rfl
  | str _=>obtain⟨t,rfl⟩:=r;rfl
  | byt _=>obtain⟨t,rfl⟩:=r;rfl
  | flt _=>obtain⟨t,rfl⟩:=r;rfl
  | ref _=>cases r;rfl
  | ty _=>cases r;rfl
theorem bP.inj {x y:V}{u:Value}(r:bP x u)(q:bP y u):x=y:=ZT (r.abs.symm.trans q.abs)
theorem aS.inj:∀ {xs ys:List V} {us:List Value},aS xs us→aS ys us→xs=ys
  | _,_,_,.nil,.nil=>rfl
  | _,_,_,.cons r t,.cons r' t'=>by rw [r.inj r',aS.inj t t']
section
variable {X:Cx} {pins:List (Addr × Obj)} {σ:St} {H:Hp} {s:Shared} {a:Addr} {xs ys:List V}
theorem SqL.of {K:ZX}(h:H a=some (.lst xs)):SqL K H a xs:=.inl (.inl h)
theorem SqT.of {K:ZX}(h:H a=some (.tup xs)):SqT K H a xs:=.inl (.inl h)
theorem Inv.list (I:Inv X pins σ H s)(h:SqL X.K H a xs):∃ its:List Value,aS xs its∧PlainL s.heap a its.toArray∧xs.length≤sizeLine:=by
  rcases h with h|⟨o,its,n,hk,hc,hd,hs,hz,r⟩
  · obtain⟨z,its,n,r,e⟩:=h.ok I.hok
    exact⟨its,r,⟨_,n,e,rfl,rfl,rfl⟩,z⟩
  · refine⟨its.toList,r,⟨o,n,I.kIn a o hk,hc,hd,by simpa using hs⟩,?_⟩
    have e:=r.length
    simp only [Array.length_toList] at e
    omega
theorem Inv.tuple (I:Inv X pins σ H s)(h:SqT X.K H a xs):∃ its:List Value,aS xs its∧IsTup s.heap a its.toArray∧xs.length≤sizeLine:=by
  rcases h with h|⟨o,its,n,hk,hc,hs,hz,r⟩
  · obtain⟨z,its,r,p⟩:=h.ok I.hok
    exact⟨its,r,p,z⟩
  · refine⟨its.toList,r,⟨o,I.kIn a o hk,hc,n,by simpa using hs⟩,?_⟩
    have e:=r.length
    simp only [Array.length_toList] at e
    omega
theorem Inv.list_inj (I:Inv X pins σ H s)(h:SqL X.K H a xs)(h':SqL X.K H a ys):xs=ys:=by
  obtain⟨its,r,⟨o,n,e,_,_,d⟩,_⟩:=I.list h
  obtain⟨its',r',⟨o',n',e',_,_,d'⟩,_⟩:=I.list h'
  rw [e] at e';cases e'
  rw [d] at d'
  injection d' with d1 _
  have:its=its':=by simpa using congrArg Array.toList d1
  subst this
  exact r.inj r'
theorem Inv.tuple_inj (I:Inv X pins σ H s)(h:SqT X.K H a xs)(h':SqT X.K H a ys):xs=ys:=by
  obtain⟨its,r,⟨o,e,_,n,d⟩,_⟩:=I.tuple h
  obtain⟨its',r',⟨o',e',_,n',d'⟩,_⟩:=I.tuple h'
  rw [e] at e';cases e'
  rw [d] at d'
  injection d' with d1 _
  have:its=its':=by simpa using congrArg Array.toList d1
  subst this
  exact r.inj r'
end
abbrev Cx.wish (X:Cx) (E:Value→Shared→Prop):Cx:={ X with xe:=E }
abbrev Cx.nox (X:Cx):Cx:=X.wish fun _ _=>False
theorem Cx.Ok.wish {X:Cx}(ok:X.Ok)(E:Value→Shared→Prop):(X.wish E).Ok :=
  ⟨ok.mod,ok.kind,ok.glob,ok.blt,ok.above,ok.inj,ok.has,ok.cab,ok.hd,ok.frames,ok.stk,ok.exf,ok.bs,ok.bsz,ok.noex,ok.exfs,ok.funs,ok.frf⟩
theorem Cx.Ok.unwish {X:Cx}{E:Value→Shared→Prop}(ok:(X.wish E).Ok):X.Ok :=
  ⟨ok.mod,ok.kind,ok.glob,ok.blt,ok.above,ok.inj,ok.has,ok.cab,ok.hd,ok.frames,ok.stk,ok.exf,ok.bs,ok.bsz,ok.noex,ok.exfs,ok.funs,ok.frf⟩
section
variable {X:Cx} {pins:List (Addr × Obj)} {σ:St} {H:Hp} {s:Shared} {E:Value→Shared→Prop}
theorem Inv.wish (I:Inv X pins σ H s)(E:Value→Shared→Prop):Inv (X.wish E) pins σ H s:=⟨I.ok.wish E,I.os,I.bare,I.base,I.loc,I.cell,I.free,I.freeC,I.pin,I.hok,I.len⟩
theorem Inv.unwish (I:Inv (X.wish E) pins σ H s):Inv X pins σ H s:=⟨I.ok.unwish,I.os,I.bare,I.base,I.loc,I.cell,I.free,I.freeC,I.pin,I.hok,I.len⟩
theorem SP.unwish {D:sr}{f:Flow}{s':Shared}(h:SP (X.wish E) pins D f s'):SP X pins D f s':=by
  cases f with
  | next=>obtain⟨σ',H',I,q⟩:=h;exact⟨σ',H',I.unwish,q⟩
  | brk=>obtain⟨σ',H',I,q⟩:=h;exact⟨σ',H',I.unwish,q⟩
  | cont=>obtain⟨σ',H',I,q⟩:=h;exact⟨σ',H',I.unwish,q⟩
  | ret u=>obtain⟨v,σ',H',I,r,q⟩:=h;exact⟨v,σ',H',I.unwish,r,q⟩
theorem PSs.nox {st:List Stmt}{t:TS}(h:PSs X.nox st t):PSs X st t:=fun pins s σ H D I hw =>
  wpAny_mono (h pins s σ H D (I.wish _) hw) (fun _ _ q=>q.unwish) fun _ _ z=>False.elim z
end
section
variable {X:Cx} {st:Stmt} {rest:List Stmt} {t u:TS} {e:Expr} {te:TE} {pos:Pos}
def G8:TS:=fun D σ H=>D.nx σ H
def Iz (t u:TS):TS:=fun D σ H=>t { D with nx:=u D } σ H
theorem C7:PSs X [] G8:=fun _ _ σ H _ I h=>wpAny_execs_nil ⟨σ,H,I,h⟩
theorem Ak (h1:PS X st t)(h2:PSs X rest u):PSs X (st :: rest) (Iz t u):=by
  intro pins s σ H D I h
  refine wpAny_execs_cons (thn (h1 pins s σ H { D with nx:=u D } I h) fun f s1 q => ?_)
  cases f with
  | next =>
    obtain⟨σ',H',I',q⟩:=q
    exact h2 pins s1 σ' H' D I' q
  | ret v=>exact q
  | brk=>exact q
  | cont=>exact q
theorem C8 (h1:PS X st t):PSs X [st] t:=by
  intro pins s σ H D I h
  refine wpAny_execs_cons (thn (h1 pins s σ H D I h) fun f s1 q => ?_)
  cases f with
  | next=>exact wpAny_execs_nil q
  | ret v=>exact q
  | brk=>exact q
  | cont=>exact q
theorem Inv.quiet {pins:List (Addr × Obj)}{σ:St}{H:Hp}{s:Shared}(I:Inv X pins σ H s):interactive X.env=false:=by simp [interactive,I.ok.kind]
def G9 (te:TE):TS:=fun D σ H=>te σ H fun _ H1=>D.nx σ H1
theorem C9 (he:PE X e te)(hs:swapsWith e none pos.line X.env=pure false:=by rfl):PS X (.Expr e pos) (G9 te):=by
  intro pins s σ H D I h
  exact wpAny_Expr_any (thn (he pins s σ H _ I h) fun v s1 ⟨x,H1,I1,r1,q1⟩=>⟨σ,H1,I1,q1⟩) I.quiet hs
def IA (te:TE):TS:=fun D σ H=>te σ H D.rt
theorem Ff (he:PE X e te):PS X (.Return (some e) pos) (IA te):=by
  intro pins s σ H D I h
  exact wpAny_Return_some (thn (he pins s σ H _ I h) fun v s1 ⟨x,H1,I1,r1,q1⟩=>⟨x,σ,H1,I1,r1,q1⟩)
def IB (c:TT) (t u:TS):TS:=fun D σ H=>c σ H fun b H1=>if b=true then t D σ H1 else u D σ H1
theorem Ha {c:Expr}{a b:List Stmt}{tc:TT}(hc:PT X c tc)(ha:PSs X a t)(hb:PSs X b u):PS X (.If c a b pos) (IB tc t u):=by
  intro pins s σ H D I h
  refine wpAny_If (thn (hc pins s σ H _ I h) fun d s1 ⟨H1,I1,q1⟩ => ?_)
  cases d with
  | true=>exact ha pins s1 σ H1 D I1 q1
  | false=>exact hb pins s1 σ H1 D I1 q1
def Fg:TS:=fun _ _ _=>False
theorem Al:PS X st Fg:=fun _ _ _ _ _ _ h=>h.elim
end
abbrev TG:=V→St→Hp→(St→Hp→Prop)→Prop
abbrev TGs:=List V→St→Hp→(St→Hp→Prop)→Prop
def PG (X:Cx) (target:Expr) (t:TG):Prop :=
  ∀ (pins:List (Addr × Obj)) (s:Shared) (σ:St) (H:Hp) (v:V) (u:Value) (Q:St→Hp→Prop),Inv X pins σ H s→bP v u→t v σ H Q →
    wpAny (model X.prog X.w) X.A (assign target X.env u) (fun _ s'=>∃ σ' H',Inv X pins σ' H' s'∧Q σ' H') X.xe s
def PGs (X:Cx) (ts:List Expr) (t:TGs):Prop :=
  ∀ (pins:List (Addr × Obj)) (s:Shared) (σ:St) (H:Hp) (vs:List V) (us:List Value) (Q:St→Hp→Prop),Inv X pins σ H s→aS vs us→t vs σ H Q →
    wpAny (model X.prog X.w) X.A (assignInOrder ((assignEach ts X.env).map (·.2)) us) (fun _ s'=>∃ σ' H',Inv X pins σ' H' s'∧Q σ' H') X.xe s
abbrev Fh:=V→V→V→Hp→(Hp→Prop)→Prop
def Fi (X:Cx) (t:Fh):Prop :=
  ∀ (pins:List (Addr × Obj)) (s:Shared) (σ:St) (H:Hp) (o i v:V) (ov iv u:Value) (Q:Hp→Prop),Inv X pins σ H s→bP o ov→bP i iv→bP v u→t o i v H Q →
    wpAny (model X.prog X.w) X.A (setItem ov iv u) (fun _ s'=>∃ H',Inv X pins σ H' s'∧Q H') X.xe s
section
variable {X:Cx} {pos:Pos}
def Ez (i:Nat):TG:=fun v σ H Q=>Q (σ.set i (some v)) H
theorem Da {i:Nat}{x:Str}(hN:X.N.Nodup)(hi:X.N[i]? = some x)(hx:Loc X.env.scope x)(hf:X.fn x=true∨X.env.scope.names.lookup x=some .local:=by first|exact .inl rfl|exact .inr rfl|assumption):PG X (.Name x pos) (Ez i):=by
  intro pins s σ H v u Q I r h
  exact wpAny_assign_Name (ud I hN hi hx r (fun s' I'=>⟨_,H,I',h⟩) hf)
def IC:TGs:=fun vs σ H Q=>vs=[]∧Q σ H
def Hb (t:TG) (u:TGs):TGs:=fun vs σ H Q=>∃ v r,vs=v :: r∧t v σ H fun σ' H'=>u r σ' H' Q
theorem Db:PGs X [] IC:=by
  intro pins s σ H vs us Q I r h
  obtain⟨e,h⟩:=h
  subst e
  cases r
  exact assignInOrder_nil ⟨σ,H,I,h⟩
theorem Am {e:Expr}{es:List Expr}{t:TG}{u:TGs}(h1:PG X e t)(h2:PGs X es u)
    (hs:(assignEach (e :: es) X.env).map (·.2)=assign e X.env :: (assignEach es X.env).map (·.2):=by rfl):PGs X (e :: es) (Hb t u):=by
  intro pins s σ H vs us Q I r h
  obtain⟨v,vr,e1,h⟩:=h
  subst e1
  cases r with
  | cons r rr =>
    rw [hs]
    refine assignInOrder_cons (thn (h1 pins s σ H _ _ _ I r h) fun _ s1 ⟨σ1,H1,I1,q1⟩ => ?_)
    exact h2 pins s1 σ1 H1 _ _ Q I1 rr q1
def ID (K:ZX) (n:Nat) (t:TGs):TG:=fun v σ H Q=>∃ a xs,v=.ref a∧SqT K H a xs∧xs.length=n∧t xs σ H Q
theorem Fj {es:List Expr}{k:Nat}{t:TGs}{n:Nat}(hc:X.calm=true)(h:PGs X es t)
    (hn:(assignEach es X.env).length=n:=by rfl) (hst:(assignEach es X.env).findIdx? (·.1)=none:=by rfl):PG X (.Tuple es k pos) (ID X.K n t):=by
  intro pins s σ H v u Q I r hw
  obtain⟨a,xs,e1,hq,hl,hw⟩:=hw
  subst e1
  cases r
  obtain⟨its,rv,ht,hz⟩:=I.tuple hq
  refine assign_Tuple_tuple (I.ok.hd hc) ht (by simp [hn,← hl,rv.length]) hst fun h' hx => ?_
  have I1:Inv X pins σ H { s with heap:=h' }:=I.kept (t':=s.toks) fun b o e=>hx b o (ZN (ZI e)) e
  exact h pins _ σ H xs _ Q I1 (by simpa using rv) hw
def IE (to ti:TE) (t:Fh):TG:=fun v σ H Q=>to σ H fun o H1=>ti σ H1 fun i H2=>t o i v H2 fun H3=>Q σ H3
theorem An {o i:Expr}{to ti:TE}{t:Fh}(ho:PE X o to)(hi:PE X i ti)(hs:Fi X t)
    (ha:∀ v,assign (.Subscript o i pos) X.env v=(do
      let ov ← holding [v] (eval o X.env)
      let iv ← holding [v,ov] (eval i X.env)
      standAt pos
      holding [v,ov,iv] (setItem ov iv v)
      release [v,ov,iv] []):=by intro _;rfl):PG X (.Subscript o i pos) (IE to ti t):=by
  intro pins s σ H v u Q I r h
  rw [ha]
  refine wpAny_bind (wpAny_holding (thn (ho pins s σ H _ I h) fun ov s1 ⟨x,H1,I1,r1,q1⟩ => ?_))
  refine wpAny_bind (wpAny_holding (thn (hi pins s1 σ H1 _ I1 q1) fun iv s2 ⟨y,H2,I2,r2,q2⟩ => ?_))
  refine wpAny_bind (wpAny_standAt (wpAny_bind (wpAny_holding (thn (hs pins s2 σ H2 x y v ov iv u _ I2 r1 r2 r q2) fun _ s3 ⟨H3,I3,q3⟩ => ?_))))
  exact wpAny_release ⟨σ,H3,I3,q3⟩
def Hc (te:TE) (g:TG):TS:=fun D σ H=>te σ H fun x H1=>g x σ H1 D.nx
theorem vN {tg e:Expr}{te:TE}{g:TG}(he:PE X e te)(hg:PG X tg g)(hs:swapsWithSole [tg] e pos.line X.env=pure false:=by rfl)(hw:swappedStores [tg] e X.env=pure none:=by rfl)
    (h1:(assignEach [tg] X.env).map (·.2)=[assign tg X.env]:=by rfl):PS X (.Assign [tg] e pos) (Hc te g):=by
  intro pins s σ H D I h
  refine wpAny_Assign_stores (thn (he pins s σ H _ I h) fun v s1 ⟨x,H1,I1,r1,q1⟩ => ?_) hs hw
  rw [h1]
  exact thn (hg pins s1 σ H1 x v _ I1 r1 q1) fun _ s2 q=>q
theorem Fk {i:Nat}{x:Str}{e:Expr}{te:TE}{pos':Pos}(hN:X.N.Nodup)(hi:X.N[i]? = some x)(hx:Loc X.env.scope x)(he:PE X e te)(hs:swapsWith e (some (.Name x pos')) pos.line X.env=pure false:=by rfl)(hf:X.fn x=true∨X.env.scope.names.lookup x=some .local:=by first|exact .inl rfl|exact .inr rfl|assumption) :
    PS X (.Assign [.Name x pos'] e pos) (Hc te (Ez i)):=by
  intro pins s σ H D I h
  refine wpAny_Assign_Name (thn (he pins s σ H _ I h) fun v s1 ⟨y,H1,I1,r1,q1⟩ => ?_) hs
  exact ud I1 hN hi hx r1 (fun s2 I2=>⟨_,H1,I2,q1⟩) hf
end
section
variable {X:Cx} {pos:Pos}
def Fl (c:TT) (tb:TS):TS:=fun D σ H=>∃ W:Nat→St→Hp→Prop,(∃ m,W m σ H) ∧ ∀ m σ H,W m σ H →
  c σ H fun b H1=>if b=true then ∃ N:St→Hp→Prop,(∀ σ' H',N σ' H' → ∃ m',m' < m∧W m' σ' H')∧tb { D with nx:=N,ct:=N,bk:=D.nx } σ H1 else D.nx σ H1
theorem Ao {c:Expr}{body:List Stmt}{tc:TT}{tb:TS}(hp:PassesOwn (model X.prog X.w) X.A X.env X.xe)(hc:PT X c tc)(hb:PSs X body tb):PS X (.While c body [] pos) (Fl tc tb):=by
  intro pins s σ H D I h
  obtain⟨W,⟨m0,w0⟩,turn⟩:=h
  refine wpAny_While (codeAny_whileLoop (fun n s'=>∃ σ' H',Inv X pins σ' H' s'∧W n σ' H') ?_ m0 ⟨σ,H,I,w0⟩)
  rintro n s1 ⟨σ1,H1,I1,w1⟩
  refine wpAny_passesOwn hp (thn (hc pins s1 σ1 H1 _ I1 (turn n σ1 H1 w1)) fun b s2 ⟨H2,I2,q2⟩ => ?_)
  cases b with
  | true =>
    obtain⟨N,hN,q2⟩:=q2
    rw [if_pos rfl]
    refine wpAny_passesOwn hp (thn (hb pins s2 σ1 H2 _ I2 q2) fun f s3 q3 => ?_)
    cases f with
    | next =>
      obtain⟨σ3,H3,I3,n3⟩:=q3
      obtain⟨m',hm,w3⟩:=hN σ3 H3 n3
      exact⟨m',hm,σ3,H3,I3,w3⟩
    | cont =>
      obtain⟨σ3,H3,I3,n3⟩:=q3
      obtain⟨m',hm,w3⟩:=hN σ3 H3 n3
      exact⟨m',hm,σ3,H3,I3,w3⟩
    | brk=>exact q3
    | ret v=>exact q3
  | false =>
    rw [if_neg Bool.false_ne_true]
    exact wpAny_execs_nil ⟨σ1,H2,I2,q2⟩
end
structure It where
  go:Nat→Hp→Prop
  yld:Nat→Hp→V→Hp→Prop
  stop:Nat→Hp→Prop
def oN (X:Cx) (pins:List (Addr × Obj)) (H:Hp) (b:Addr):Prop :=
  H b=none∧b≠X.env.locals∧b∉X.fs∧(b∈X.ex∨X.s₀.heap.objs.size≤b)∧(∀ x c,X.env.cells.lookup x=some c→c≠b) ∧ ∀ p∈X.pn++pins,p.1≠b
theorem Inv.fpOk {X:Cx}{pins:List (Addr × Obj)}{σ:St}{H H':Hp}{s:Shared}{b:Addr}(I:Inv X pins σ H s)(hb:s.heap.objs.size≤b)(hn:H' b=none):oN X pins H' b:=by
  refine⟨hn,Nat.ne_of_gt (Nat.lt_of_lt_of_le I.lt hb),I.nofs hb,.inr (ZM I.sz hb),fun x c e z => ?_,fun p hp z => ?_⟩
  · obtain⟨v,q⟩:=I.cell x c e
    exact absurd (Nat.lt_of_lt_of_le q.lt (by rw [z];exact hb)) (Nat.lt_irrefl _)
  · exact absurd (Nat.lt_of_lt_of_le (ZI (I.pin p hp).1) (by rw [z];exact hb)) (Nat.lt_irrefl _)
structure ue (P:Program) (w:World) (K:ZX) (tg:Expr) (J:It) (fp:List Addr) (it:Addr) (tn:Nat→Heap→Prop):Prop where
  mem:it∈fp
  obj:∀ i h,tn i h → ∀ b∈fp,∃ o,h.get? b=some o ∧ ∀ v,o.data ≠ .cell v
  keep:∀ i h h',tn i h→(∀ b∈fp,∀ o,h.get? b=some o→h'.get? b=some o)→tn i h'
  item:∀ (X:Cx),X.prog=P→X.w=w→X.K=K→X.calm=true → ∀ (i:Nat) (pins:List (Addr × Obj)) (s:Shared) (σ:St) (H:Hp) (E:Value→Shared→Prop),Inv X pins σ H s→(∀ b∈fp,oN X pins H b)→tn i s.heap→J.go i H →
    wpAny (model P w) X.A (pyNext (.ref it)) (fun r s1=>∃ u,r=some u ∧
      wpAny (model P w) X.A (letOwnedTupleGo tg (.ref it) u) (fun _ s2=>∃ x H',Inv X pins σ H' s2∧bP x u∧J.yld i H x H'∧tn (i + 1) s2.heap ∧ ∀ b∈fp,H' b=none) E s1) E s
  done:∀ (X:Cx),X.prog=P→X.w=w→X.K=K→X.calm=true → ∀ (i:Nat) (pins:List (Addr × Obj)) (s:Shared) (σ:St) (H:Hp) (E:Value→Shared→Prop),Inv X pins σ H s→(∀ b∈fp,oN X pins H b)→tn i s.heap→J.stop i H →
    wpAny (model P w) X.A (pyNext (.ref it)) (fun r s1=>r=none∧Inv X pins σ H s1) E s
  self:∀ (A:Around) (i:Nat) (s:Shared) (Q:Value→Shared→Prop) (E:Value→Shared→Prop),tn i s.heap→Q (.ref it) s→wpAny (model P w) A (pyIter (.ref it)) Q E s
abbrev TI:=St→Hp→(It→Hp→Prop)→Prop
def PIE (X:Cx) (pins:List (Addr × Obj)) (σ:St) (tg:Expr) (R:It→Hp→Prop) (itv:Value) (s2:Shared):Prop :=
  ∃ (it:Addr) (fp:List Addr) (tn:Nat→Heap→Prop) (J:It) (H':Hp),itv=.ref it∧Inv X pins σ H' s2∧ue X.prog X.w X.K tg J fp it tn∧tn 0 s2.heap∧(∀ b∈fp,oN X pins H' b)∧R J H'
def PI (X:Cx) (tg iter:Expr) (wi:TI):Prop :=
  ∀ (pins:List (Addr × Obj)) (s:Shared) (σ:St) (H:Hp) (R:It→Hp→Prop),Inv X pins σ H s→wi σ H R →
    wpAny (model X.prog X.w) X.A (eval iter X.env) (fun v s1=>wpAny (model X.prog X.w) X.A (pyIter v) (PIE X pins σ tg R) X.xe s1) X.xe s
theorem Ap {M:Model}{A:Around}{E:Value→Shared→Prop}{s:Shared}{tg:Expr}{it:Addr}{u:Value}{o:Obj}{n:String}{vs:Array Value}{Q:Unit→Shared→Prop}(ho:s.heap.get? it=some o)(hc:o.cls=.type n)(hd:o.data=.fields vs)
    (hn : ["enumerate", "zip", "dict_itemiterator", "dict_reverseitemiterator", "odict_iterator", "itertools.zip_longest", "itertools.pairwise"].contains n=false) (hQ:Q () s):wpAny M A (letOwnedTupleGo tg (.ref it) u) Q E s:=by
  unfold letOwnedTupleGo
  cases tg<;>first
    | exact wpAny_pure hQ
    | (cases u<;>first
        | exact wpAny_pure hQ
        | (refine wpAny_bind (wpAny_load ho ?_)
           rw [hc,hd]
           show wpAny M A (if (["enumerate", "zip", "dict_itemiterator", "dict_reverseitemiterator", "odict_iterator", "itertools.zip_longest", "itertools.pairwise"].contains n && vs[0]? == some (rawInt _))=true then _ else _) Q E s
           rw [if_neg (by intro h;rw [hn,Bool.false_and] at h;cases h)]
           exact wpAny_pure hQ))
def Itl (K:ZX) (a:Addr):It :=
  ⟨fun i H=>∃ xs x,SqL K H a xs∧xs[i]? = some x,fun i H x H'=>H'=H ∧ ∀ xs,SqL K H a xs→xs[i]? = some x,fun i H=>∃ xs,SqL K H a xs∧xs.length≤i⟩
def Itt (K:ZX) (a:Addr):It :=
  ⟨fun i H=>∃ xs x,SqT K H a xs∧xs[i]? = some x,fun i H x H'=>H'=H ∧ ∀ xs,SqT K H a xs→xs[i]? = some x,fun i H=>∃ xs,SqT K H a xs∧xs.length≤i⟩
def Itr (lo:Int) (n:Nat):It:=⟨fun i _=>i < n,fun i H x H'=>H'=H∧x=.int (lo + i),fun i _=>n≤i⟩
theorem yx {P:Program}{w:World}{K:ZX}{tg:Expr}(a it:Addr):ue P w K tg (Itl K a) [it] it (fun i h=>h.IsListIter it a i) where
  mem:=by simp
  obj:=fun i h st b hb=>by
    have e:b=it:=by simpa using hb
    subst e
    obtain⟨o,e,c,d⟩:=st
    exact⟨o,e,fun v z=>by rw [d] at z;cases z⟩
  keep:=fun i h h' st k=>st.at fun o e=>k it (by simp) o e
  item:=by
    intro X hP hw hK hc i pins s σ H E I hf st hg
    subst hP hw hK
    obtain⟨xs,x,hq,hx⟩:=hg
    obtain⟨its,rv,p,hz⟩:=I.list hq
    obtain⟨u,hu,ru⟩:=rv.get hx
    obtain⟨f0,f1,f2,f3,f4,f5⟩:=hf it (by simp)
    refine wpAny_pyNext_list_item st p.isList (x:=u) (by simpa using hu) fun h' st' sb => ?_
    have I1:Inv X pins σ H { s with heap:=h' }:=I.turned (t':=s.toks) (fun b o hb e=>(sb.2 b hb).trans e) f0 f1 f3 f4 f5
    obtain⟨o,e,c,d⟩:=id st'
    exact⟨u,rfl,Ap (s:={ s with heap:=h' }) e c d (by decide) ⟨x,H,I1,ru,⟨rfl,fun ys hy=>by rw [I.list_inj hy hq];exact hx⟩,st',fun b hb=>(hf b hb).1⟩⟩
  done:=by
    intro X hP hw hK hc i pins s σ H E I hf st hg
    subst hP hw hK
    obtain⟨xs,hq,hx⟩:=hg
    obtain⟨its,rv,p,hz⟩:=I.list hq
    obtain⟨f0,f1,f2,f3,f4,f5⟩:=hf it (by simp)
    have hl:=rv.length
    exact wpAny_pyNext_list_end (I.ok.hd hc) st p.isList (by simp;omega) fun h' eb=>⟨rfl,I.turned (t':=s.toks) (fun b o hb e=>eb b o hb e) f0 f1 f3 f4 f5⟩
  self:=fun _ _ _ _ _ st h=>wpAny_pyIter_listiter st h
theorem vO {P:Program}{w:World}{K:ZX}{tg:Expr}(a it:Addr):ue P w K tg (Itt K a) [it] it (fun i h=>h.IsTupleIter it a i) where
  mem:=by simp
  obj:=fun i h st b hb=>by
    have e:b=it:=by simpa using hb
    subst e
    obtain⟨o,e,c,d⟩:=st
    exact⟨o,e,fun v z=>by rw [d] at z;cases z⟩
  keep:=fun i h h' st k=>st.at fun o e=>k it (by simp) o e
  item:=by
    intro X hP hw hK hc i pins s σ H E I hf st hg
    subst hP hw hK
    obtain⟨xs,x,hq,hx⟩:=hg
    obtain⟨its,rv,p,hz⟩:=I.tuple hq
    obtain⟨u,hu,ru⟩:=rv.get hx
    obtain⟨f0,f1,f2,f3,f4,f5⟩:=hf it (by simp)
    refine wpAny_pyNext_tuple_item st (show s.heap.IsTuple a its.toArray from p) (x:=u) (by simpa using hu) fun h' st' sb => ?_
    have I1:Inv X pins σ H { s with heap:=h' }:=I.turned (t':=s.toks) (fun b o hb e=>(sb.2 b hb).trans e) f0 f1 f3 f4 f5
    obtain⟨o,e,c,d⟩:=id st'
    exact⟨u,rfl,Ap (s:={ s with heap:=h' }) e c d (by decide) ⟨x,H,I1,ru,⟨rfl,fun ys hy=>by rw [I.tuple_inj hy hq];exact hx⟩,st',fun b hb=>(hf b hb).1⟩⟩
  done:=by
    intro X hP hw hK hc i pins s σ H E I hf st hg
    subst hP hw hK
    obtain⟨xs,hq,hx⟩:=hg
    obtain⟨its,rv,p,hz⟩:=I.tuple hq
    obtain⟨f0,f1,f2,f3,f4,f5⟩:=hf it (by simp)
    have hl:=rv.length
    exact wpAny_pyNext_tuple_end (I.ok.hd hc) st (show s.heap.IsTuple a its.toArray from p) (by simp;omega) fun h' eb=>⟨rfl,I.turned (t':=s.toks) (fun b o hb e=>eb b o hb e) f0 f1 f3 f4 f5⟩
  self:=fun _ _ _ _ _ st h=>wpAny_pyIter_tupleiter st h
theorem vP {P:Program}{w:World}{K:ZX}{tg:Expr}(it:Addr)(lo:Int)(n:Nat):ue P w K tg (Itr lo n) [it] it (fun i h=>IsRangeIter h it (lo + (i:Nat) * 1) ((n:Int) - (i:Nat)) 1) where
  mem:=by simp
  obj:=fun i h st b hb=>by
    have e:b=it:=by simpa using hb
    subst e
    exact⟨_,st,fun v z=>by
      have z':Data.fields _=Data.cell v:=z
      cases z'⟩
  keep:=fun i h h' st k=>k it (by simp) _ st
  item:=by
    intro X hP hw hK hc i pins s σ H E I hf st hg
    subst hP hw hK
    obtain⟨f0,f1,f2,f3,f4,f5⟩:=hf it (by simp)
    have W:=Walks.range (prog:=X.prog) (w:=X.w) (I.ok.hd hc) it lo 1 n
    refine W.item i s _ _ hg st fun v h' tk hv st' kk => ?_
    obtain⟨t,rfl⟩:=hv
    have I1:Inv X pins σ H { s with heap:=h',toks:=tk }:=I.turned (fun b o hb e=>kk b o (by simpa using hb) e) f0 f1 f3 f4 f5
    refine⟨_,rfl,Ap (s:={ s with heap:=h',toks:=tk }) (n := "range_iterator") st' rfl rfl (by decide) ⟨.int (lo + i),H,I1,⟨t,?_⟩,⟨rfl,rfl⟩,st',fun b hb=>(hf b hb).1⟩⟩
    rw [Int.mul_one]
  done:=by
    intro X hP hw hK hc i pins s σ H E I hf st hg
    subst hP hw hK
    obtain⟨f0,f1,f2,f3,f4,f5⟩:=hf it (by simp)
    exact wpAny_pyNext_range_end (I.ok.hd hc) st (by have:n≤i:=hg;omega) fun h' eb=>⟨rfl,I.turned (t':=s.toks) (fun b o hb e=>eb b o hb e) f0 f1 f3 f4 f5⟩
  self:=fun _ _ _ _ _ st h=>wpAny_pyIter_rangeiter st h
end L2
namespace L2
open PySem PySem.Spec PyProof.Rows
section
variable {X:Cx} {tg:Expr}
theorem uf {pins:List (Addr × Obj)}{σ:St}{H:Hp}{s:Shared}{R:It→Hp→Prop}{E:Value→Shared→Prop}{lo hi:Int}{t u v:Tok}{tk:Nat}(I:Inv X pins σ H s)(h1 : -(2 ^ 62)≤lo)(h2:lo < 2 ^ 62)(h3 : -(2 ^ 62)≤hi)(h4:hi < 2 ^ 62)
    (q:R (Itr lo (hi - lo).toNat) H):wpAny (model X.prog X.w) X.A (pyIter (.ref s.heap.objs.size)) (PIE X pins σ tg R) E { s with heap:=s.heap.push { cls:=.type "range",data:=.fields #[.int lo t,.int hi u,.int 1 v] },toks:=tk }:=by
  refine wpAny_pyIter_range (IsRange.new ..) (small_one h1 h2 h3 h4) ?_
  have I1:Inv X pins σ H { s with heap:=s.heap.push { cls:=.type "range",data:=.fields #[.int lo t,.int hi u,.int 1 v] },toks:=tk }:=I.kept fun b o e=>ZH _ e
  refine⟨(s.heap.push { cls:=.type "range",data:=.fields #[.int lo t,.int hi u,.int 1 v] }).objs.size,[(s.heap.push { cls:=.type "range",data:=.fields #[.int lo t,.int hi u,.int 1 v] }).objs.size],_,_,H,rfl,
    I1.kept (t':=tk) fun b o e=>ZH _ e,vP _ lo (hi - lo).toNat,?_,fun b hb => ?_,q⟩
  · have e1:lo + ((0:Nat):Int) * 1=lo:=by simp
    have e2:(((hi - lo).toNat:Nat):Int) - ((0:Nat):Int)=Builtin.Range.rangeSize lo hi 1:=by rw [rangeSize_one];split<;>omega
    show IsRangeIter _ _ (lo + ((0:Nat):Int) * 1) ((((hi - lo).toNat:Nat):Int) - ((0:Nat):Int)) 1
    rw [e1,e2]
    exact ZJ _ rfl
  · have e:b=(s.heap.push { cls:=.type "range",data:=.fields #[.int lo t,.int hi u,.int 1 v] }).objs.size:=by simpa using hb
    subst e
    exact I1.fpOk (ZL _) (I1.hok.fresh (ZL _))
def He (ta:TA):TI:=fun σ H R=>ta σ H fun vs H1=>∃ j:Int,vs=[.int j] ∧ -(2 ^ 62)≤j∧j < 2 ^ 62∧R (Itr 0 j.toNat) H1
def Hf (ta:TA):TI:=fun σ H R=>ta σ H fun vs H1=>∃ i j:Int,vs=[.int i,.int j]∧(-(2 ^ 62)≤i∧i < 2 ^ 62 ∧ -(2 ^ 62)≤j∧j < 2 ^ 62)∧R (Itr i (j - i).toNat) H1
theorem yy {a:Expr} {ta:TA} {p pos:Pos} (hg:Gl X "range") (hm:X.mg "range" = none) (ha:PA X [a] ta) (hs:starEach [a] X.env=[(false,eval a X.env)]:=by rfl):PI X tg (.Call (.Name "range" p) [a] [] pos) (He ta):=by
  intro pins s σ H R I h
  refine Call_ (jx I hg hm boot_range (PyProof.Rows.callWith_type1 (thn (ha pos pins s σ H _ I h) fun us s1 ⟨vs,H1,I1,r1,q1⟩ => ?_) hs rfl))
  obtain⟨j,e,q1,q2,q⟩:=q1
  subst e
  cases r1 with
  | cons r rr =>
    cases rr
    obtain⟨t,rfl⟩:=r
    exact call_range_1 (uf I1 (by omega) (by omega) q1 q2 (by simpa using q))
theorem yz {a b:Expr} {ta:TA} {p pos:Pos} (hg:Gl X "range") (hm:X.mg "range" = none) (ha:PA X [a,b] ta) (hs:starEach [a,b] X.env=[(false,eval a X.env),(false,eval b X.env)]:=by rfl) (hs2:starEach [b] X.env=[(false,eval b X.env)]:=by rfl) :
    PI X tg (.Call (.Name "range" p) [a,b] [] pos) (Hf ta):=by
  intro pins s σ H R I h
  refine Call_ (jx I hg hm boot_range (PyProof.Rows.callWith_type1 (thn (ha pos pins s σ H _ I h) fun us s1 ⟨vs,H1,I1,r1,q1⟩ => ?_) (by rw [hs,hs2]) (by rw [hs2];rfl)))
  obtain⟨i,j,e,⟨q1,q2,q3,q4⟩,q⟩:=q1
  subst e
  cases r1 with
  | cons r rr =>
    cases rr with
    | cons r' rr =>
      cases rr
      obtain⟨t,rfl⟩:=r
      obtain⟨t',rfl⟩:=r'
      exact call_range_2 (uf I1 q1 q2 q3 q4 q)
def IG (wi:TI) (g:TG) (tb:TS):TS:=fun D σ H=>wi σ H fun J H1=>∃ W:Nat→Nat→St→Hp→Prop,(∃ m,W 0 m σ H1) ∧ ∀ i m σ H,W i m σ H →
  (J.stop i H∧D.nx σ H)∨(J.go i H ∧ ∃ N:St→Hp→Prop,(∀ σ' H',N σ' H' → ∃ m',m' < m∧W (i + 1) m' σ' H') ∧ ∀ x H',J.yld i H x H'→g x σ H' fun σ2 H2=>tb { D with nx:=N,ct:=N,bk:=D.nx } σ2 H2)
def oO (fp:List Addr) (h:Heap):List (Addr × Obj):=fp.filterMap fun b=>(h.get? b).map fun o=>(b,o)
theorem iM {fp:List Addr}{h:Heap}{b:Addr}{o:Obj}(hb:b∈fp)(e:h.get? b=some o):(b,o)∈oO fp h:=List.mem_filterMap.mpr ⟨b,hb,by rw [e];rfl⟩
theorem yA {fp:List Addr}{h:Heap}{p:Addr × Obj}(hp:p∈oO fp h):p.1∈fp∧h.get? p.1=some p.2:=by
  obtain⟨b,hb,e⟩:=List.mem_filterMap.mp hp
  cases q:h.get? b with
  | none=>rw [q] at e;cases e
  | some o =>
    rw [q] at e
    have e':(b,o)=p:=ZT e
    subst e'
    exact⟨hb,q⟩
theorem Inv.pinned {pins:List (Addr × Obj)}{σ:St}{H:Hp}{s:Shared}{fp:List Addr}(I:Inv X pins σ H s)(hf:∀ b∈fp,oN X pins H b)(ho:∀ b∈fp,∃ o,s.heap.get? b=some o ∧ ∀ v,o.data ≠ .cell v):Inv X (pins++oO fp s.heap) σ H s :=
  I.pins_of fun p hp=>(List.mem_append.mp hp).elim (fun z=>I.pin p (List.mem_append_right _ z)) fun z=>by
    obtain⟨hb,e⟩:=yA z
    obtain⟨f0,f1,f2,_⟩:=hf p.1 hb
    obtain⟨o,e',d⟩:=ho p.1 hb
    rw [e] at e';cases e'
    exact⟨e,f0,f1,f2,d⟩
theorem Inv.unpinned {pins pl:List (Addr × Obj)}{σ:St}{H:Hp}{s:Shared}(I:Inv X (pins++pl) σ H s):Inv X pins σ H s:=I.pins_of fun p hp=>I.pin p (List.mem_append_right _ (List.mem_append_left _ hp))
theorem Fo {iter:Expr}{body:List Stmt}{wi:TI}{g:TG}{tb:TS}{pos:Pos}(hp:PassesOwn (model X.prog X.w) X.A X.env X.xe)(hc:X.calm=true)(hi:PI X tg iter wi)(hg:PG X tg g)(hb:PSs X body tb)
    (hs:∀ x,foldedSetIterable iter X.env x=pure x:=by intro _;rfl):PS X (.For tg iter body [] pos) (IG wi g tb):=by
  intro pins s σ H D I h
  refine wpAny_For (thn (hi pins s σ H _ I h) fun v s1 h1=>thn h1 fun itv s2 h2 => ?_) hs
  obtain⟨it,fp,tn,J,H2,e,I2,T,st2,f2,W,⟨m0,w0⟩,turn⟩:=h2
  subst e
  have stat:∀ {H':Hp},(∀ b∈fp,H' b=none) → ∀ b∈fp,oN X pins H' b:=fun hn b hb=>⟨hn b hb,(f2 b hb).2⟩
  refine codeAny_forLoop_any (fun n s'=>∃ i σ' H',Inv X pins σ' H' s'∧tn i s'.heap∧(∀ b∈fp,H' b=none)∧W i n σ' H') ?_ m0 ⟨0,σ,H2,I2,st2,fun b hb=>(f2 b hb).1,w0⟩
  rintro n s3 ⟨i,σ3,H3,I3,st3,fr3,w3⟩
  rcases turn i n σ3 H3 w3 with ⟨stop,qn⟩|⟨go,N,hN,step⟩
  · refine wpAny_passesOwn hp (thn (T.done X rfl rfl rfl hc i pins s3 σ3 H3 X.xe I3 (stat fr3) st3 stop) fun r s4 ⟨hr,I4⟩ => ?_)
    subst hr
    exact wpAny_execs_nil ⟨σ3,H3,I4,qn⟩
  · refine wpAny_passesOwn hp (thn (T.item X rfl rfl rfl hc i pins s3 σ3 H3 X.xe I3 (stat fr3) st3 go) fun r s4 ⟨u,hr,h4⟩ => ?_)
    subst hr
    refine wpAny_passesOwn hp (thn h4 fun _ s5 ⟨x,H5,I5,r5,y5,st5,fr5⟩ => ?_)
    have I5':=I5.pinned (stat fr5) (T.obj _ _ st5)
    refine wpAny_passesOwn hp (thn (hg _ s5 σ3 H5 x u _ I5' r5 (step x H5 y5)) fun _ s6 ⟨σ6,H6,I6,q6⟩ => ?_)
    refine wpAny_passesOwn hp (thn (hb _ s6 σ6 H6 _ I6 q6) fun f s7 q7 => ?_)
    have again:∀ {σ7:St} {H7:Hp},Inv X (pins++oO fp s5.heap) σ7 H7 s7→N σ7 H7 → ∃ m,m < n ∧ ∃ i σ' H',Inv X pins σ' H' s7∧tn i s7.heap∧(∀ b∈fp,H' b=none)∧W i m σ' H':=fun {σ7 H7} I7 n7=>by
      obtain⟨m',hm,w7⟩:=hN σ7 H7 n7
      refine⟨m',hm,i + 1,σ7,H7,I7.unpinned,T.keep _ _ _ st5 fun b hb o e=>(I7.pin (b,o) (List.mem_append_right _ (List.mem_append_right _ (iM hb e)))).1,fun b hb => ?_,w7⟩
      obtain⟨o,e,d⟩:=T.obj _ _ st5 b hb
      exact (I7.pin (b,o) (List.mem_append_right _ (List.mem_append_right _ (iM hb e)))).2.1
    cases f with
    | next=>obtain⟨σ7,H7,I7,n7⟩:=q7;exact again I7 n7
    | cont=>obtain⟨σ7,H7,I7,n7⟩:=q7;exact again I7 n7
    | brk=>obtain⟨σ7,H7,I7,q7⟩:=q7;exact⟨σ7,H7,I7.unpinned,q7⟩
    | ret v=>obtain⟨x7,σ7,H7,I7,r7,q7⟩:=q7;exact⟨x7,σ7,H7,I7.unpinned,r7,q7⟩
end
end L2
namespace L2
open PySem PySem.Spec PyProof.Rows
abbrev R2:=V→V→Hp→VK→Prop
def OpR (X:Cx) (f:Value→Value→Sem Value) (r:R2):Prop :=
  ∀ (pins:List (Addr × Obj)) (s:Shared) (σ:St) (H:Hp) (x y:V) (v u:Value) (Q:VK),Inv X pins σ H s→bP x v→bP y u→r x y H Q →
    wpAny (model X.prog X.w) X.A (f v u) (EP X pins σ Q) X.xe s
def UnR (X:Cx) (f:Value→Sem Value) (r:V→Hp→VK→Prop):Prop :=
  ∀ (pins:List (Addr × Obj)) (s:Shared) (σ:St) (H:Hp) (x:V) (v:Value) (Q:VK),Inv X pins σ H s→bP x v→r x H Q →
    wpAny (model X.prog X.w) X.A (f v) (EP X pins σ Q) X.xe s
def fX (X:Cx) (f:Value) (r:List V→Hp→VK→Prop):Prop :=
  ∀ (pins:List (Addr × Obj)) (s:Shared) (σ:St) (H:Hp) (xs:List V) (us:List Value) (Q:VK),Inv X pins σ H s→aS xs us→r xs H Q →
    wpAny (model X.prog X.w) X.A (call f us) (EP X pins σ Q) X.xe s
def tOp (r:R2) (ta tb:TE):TE:=fun σ H Q=>ta σ H fun x H1=>tb σ H1 fun y H2=>r x y H2 Q
def tUn (r:V→Hp→VK→Prop) (ta:TE):TE:=fun σ H Q=>ta σ H fun x H1=>r x H1 Q
def rI (C:Int→Int→Prop) (g:Int→Int→V):R2:=fun x y H Q=>∃ i j,x=.int i∧y=.int j∧C i j∧Q (g i j) H
def rI0 (g:Int→Int→V):R2:=fun x y H Q=>∃ i j,x=.int i∧y=.int j∧Q (g i j) H
def rU (g:Int→V):V→Hp→VK→Prop:=fun x H Q=>∃ i,x=.int i∧Q (g i) H
section
variable {X:Cx} {a b c:Expr} {ta tb tc:TE} {pos:Pos}
theorem Fp (ha:PE X a ta)(hb:PE X b tb){pins:List (Addr × Obj)}{s:Shared}{σ:St}{H:Hp}{R:V→V→Hp→Prop}(I:Inv X pins σ H s)
    (h:ta σ H fun x H1=>tb σ H1 fun y H2=>R x y H2) {Q:Value→Shared→Prop} {f:Value→Value→Sem Value}
    (hf:∀ v u s2 x y H2,Inv X pins σ H2 s2→bP x v→bP y u→R x y H2→wpAny (model X.prog X.w) X.A (f v u) Q X.xe s2) :
    wpAny (model X.prog X.w) X.A (eval a X.env) (fun v s₁ => wpAny (model X.prog X.w) X.A (eval b X.env) (fun u s₂ => wpAny (model X.prog X.w) X.A (f v u) Q X.xe s₂) X.xe s₁) X.xe s:=by
  refine thn (ha pins s σ H _ I h) fun v s1 ⟨x,H1,I1,r1,q1⟩ => ?_
  refine thn (hb pins s1 σ H1 _ I1 q1) fun u s2 ⟨y,H2,I2,r2,q2⟩ => ?_
  exact hf v u s2 x y H2 I2 r1 r2 q2
theorem Aq {op:Operator}{r:R2}(ho:OpR X (binaryOp op) r)(ha:PE X a ta)(hb:PE X b tb):PE X (.BinOp a op b pos) (tOp r ta tb):=by
  intro pins s σ H Q I h
  exact wpAny_BinOp (Fp ha hb I h fun v u s2 x y H2 I2 rx ry q=>ho pins s2 σ H2 x y v u Q I2 rx ry q)
theorem Hg {op:UnaryOp}{r:V→Hp→VK→Prop}(ho:UnR X (unaryOp op) r)(ha:PE X a ta):PE X (.UnaryOp op a pos) (tUn r ta):=by
  intro pins s σ H Q I h
  exact UnaryOp_ (thn (ha pins s σ H _ I h) fun v s1 ⟨x,H1,I1,r1,q1⟩=>ho pins s1 σ H1 x v Q I1 r1 q1)
theorem opI {f:Value→Value→Sem Value}{C:Int→Int→Prop}{g:Int→Int→Int}
    (rule:∀ (i j:Int) (t u:Tok) (s:Shared) (Q:Value→Shared→Prop) (E:Value→Shared→Prop),C i j→Q (.int (g i j) s.toks) { s with toks:=s.toks + 1 } → wpAny (model X.prog X.w) X.A (f (.int i t) (.int j u)) Q E s) :
    OpR X f (rI C fun i j=>.int (g i j)):=by
  intro pins s σ H x y v u Q I rx ry h
  obtain⟨i,j,rfl,rfl,hc,q⟩:=h
  obtain⟨t,rfl⟩:=rx
  obtain⟨t',rfl⟩:=ry
  exact rule i j t t' s _ _ hc ⟨.int (g i j),H,I.tok _,⟨_,rfl⟩,q⟩
theorem Hh {f:Value→Value→Sem Value}{g:Int→Int→Int}
    (rule:∀ (i j:Int) (t u:Tok) (s:Shared) (Q:Value→Shared→Prop) (E:Value→Shared→Prop),Q (.int (g i j) s.toks) { s with toks:=s.toks + 1 } → wpAny (model X.prog X.w) X.A (f (.int i t) (.int j u)) Q E s) :
    OpR X f (rI0 fun i j=>.int (g i j)):=by
  intro pins s σ H x y v u Q I rx ry h
  obtain⟨i,j,rfl,rfl,q⟩:=h
  obtain⟨t,rfl⟩:=rx
  obtain⟨t',rfl⟩:=ry
  exact rule i j t t' s _ _ ⟨.int (g i j),H,I.tok _,⟨_,rfl⟩,q⟩
theorem Fq {f:Value→Value→Sem Value}{g:Int→Int→Bool}
    (rule:∀ (i j:Int) (t u:Tok) (s:Shared) (Q:Value→Shared→Prop) (E:Value→Shared→Prop),Q (.bool (g i j)) s→wpAny (model X.prog X.w) X.A (f (.int i t) (.int j u)) Q E s) :
    OpR X f (rI0 fun i j=>.bl (g i j)):=by
  intro pins s σ H x y v u Q I rx ry h
  obtain⟨i,j,rfl,rfl,q⟩:=h
  obtain⟨t,rfl⟩:=rx
  obtain⟨t',rfl⟩:=ry
  exact rule i j t t' s _ _ ⟨.bl (g i j),H,I,rfl,q⟩
def Dc (i j:Int):Prop:=(-(2 ^ 64) < i∧i < 2 ^ 64)∨(-(2 ^ 64) < j∧j < 2 ^ 64)
theorem Dc.ok {i j:Int}(h:Dc i j):IntMulOk i j:=by
  rcases h with ⟨h1,h2⟩|⟨h1,h2⟩
  · exact .of_left (intBits_le_64 h1 h2)
  · exact .of_right (intBits_le_64 h1 h2)
theorem Fs:OpR X (binaryOp .Add) (rI0 fun i j=>.int (i + j)):=Hh fun _ _ _ _ _ _ _ q=>add_int q
theorem mr:OpR X (binaryOp .Sub) (rI0 fun i j=>.int (i - j)):=Hh fun _ _ _ _ _ _ _ q=>sub_int q
theorem dU:OpR X (binaryOp .Mult) (rI Dc fun i j=>.int (i * j)):=opI fun _ _ _ _ _ _ _ hc q=>mul_int q hc.ok
theorem eU:OpR X (binaryOp .Mod) (rI (fun _ j=>0 < j) fun i j=>.int (i % j)):=opI fun i j _ _ _ _ _ hc q=>by
  have h1:(0:Int) < j:=hc
  exact mod_int' (by omega) (by rw [Int.fmod_eq_emod_of_nonneg i (by omega)];exact q)
theorem unI {f:Value→Sem Value}{g:Int→Int}
    (rule:∀ (i:Int) (t:Tok) (s:Shared) (Q:Value→Shared→Prop) (E:Value→Shared→Prop),Q (.int (g i) s.toks) { s with toks:=s.toks + 1 } → wpAny (model X.prog X.w) X.A (f (.int i t)) Q E s) :
    UnR X f (rU fun i=>.int (g i)):=by
  intro pins s σ H x v Q I rx h
  obtain⟨i,rfl,q⟩:=h
  obtain⟨t,rfl⟩:=rx
  exact rule i t s _ _ ⟨.int (g i),H,I.tok _,⟨_,rfl⟩,q⟩
theorem Ft:UnR X (unaryOp .USub) (rU fun i=>.int (-i)):=unI fun _ _ _ _ _ q=>neg_int q
end
section
variable {X:Cx} {a b c:Expr} {ta tb tc:TE} {pos:Pos}
theorem vQ {pins:List (Addr × Obj)}{σ:St}{H:Hp}{s:Shared}{Q:VK}{k k':Bool}(I:Inv X pins σ H s)(q:Q (.bl k) H)(e:k=k'):EP X pins σ Q (.bool k') s:=by
  subst e
  exact⟨.bl k,H,I,rfl,q⟩
theorem EA:OpR X (compareOp .Lt) (rI0 fun i j=>.bl (decide (i < j))):=Fq fun _ _ _ _ _ _ _ q=>lt_int q
theorem EB:OpR X (compareOp .LtE) (rI0 fun i j=>.bl (decide (i≤j))):=Fq fun _ _ _ _ _ _ _ q=>le_int q
theorem rc:OpR X (compareOp .Gt) (rI0 fun i j=>.bl (decide (j < i))):=Fq fun _ _ _ _ _ _ _ q=>gt_int q
theorem oP:OpR X (compareOp .Is) (fun x y H Q=>y=.non∧Q (.bl (decide (x=.non))) H):=by
  intro pins s σ H x y v u Q I rx ry h
  obtain⟨rfl,q⟩:=h
  cases ry
  refine is_none_gen (vQ I q ?_)
  cases x<;>first
    | (cases rx;rfl)
    | (obtain⟨t,rfl⟩:=rx;rfl)
theorem ou:OpR X (compareOp .IsNot) (fun x y H Q=>y=.non∧Q (.bl (!decide (x=.non))) H):=by
  intro pins s σ H x y v u Q I rx ry h
  obtain⟨rfl,q⟩:=h
  cases ry
  refine isnot_none_gen (vQ I q ?_)
  cases x<;>first
    | (cases rx;rfl)
    | (obtain⟨t,rfl⟩:=rx;rfl)
theorem OpR.or {f:Value→Value→Sem Value}{r r':R2}(h:OpR X f r)(h':OpR X f r'):OpR X f (fun x y H Q=>r x y H Q∨r' x y H Q):=by
  intro pins s σ H x y v u Q I rx ry q
  rcases q with q|q
  · exact h pins s σ H x y v u Q I rx ry q
  · exact h' pins s σ H x y v u Q I rx ry q
theorem bf (b:Expr){op:CmpOp}(h:op ≠ .In:=by decide)(h2:op ≠ .NotIn:=by decide):behindInMarks op b=false:=by
  have e1:(op == CmpOp.In)=false:=by cases op<;>first|rfl|exact absurd rfl h
  have e2:(op == CmpOp.NotIn)=false:=by cases op<;>first|rfl|exact absurd rfl h2
  cases b<;>simp [behindInMarks,e1,e2]
theorem Dd {op:CmpOp}{r:R2}(ho:OpR X (compareOp op) r)(ha:PE X a ta)(hb:PE X b tb)(hm:behindInMarks op b=false):PE X (.Compare a [op] [b] pos) (tOp r ta tb):=by
  intro pins s σ H Q I h
  exact wpAny_Compare1 (Fp ha hb I h fun v u s2 x y H2 I2 rx ry q=>ho pins s2 σ H2 x y v u Q I2 rx ry q) hm
def Hi (t:TE):TT:=fun σ H Q=>t σ H fun x H'=>∃ k,x=.bl k∧Q k H'
theorem De {op:CmpOp}{r:R2}(ho:OpR X (compareOp op) r)(ha:PE X a ta)(hb:PE X b tb)(hm:behindInMarks op b=false):PT X (.Compare a [op] [b] pos) (Hi (tOp r ta tb)):=by
  intro pins s σ H Q I h
  refine wpAny_isTrue_Compare1 (thn (ha pins s σ H _ I h) fun v s1 ⟨x,H1,I1,r1,q1⟩=>thn (hb pins s1 σ H1 _ I1 q1) fun u s2 ⟨y,H2,I2,r2,q2⟩ =>
    thn (ho pins s2 σ H2 x y v u _ I2 r1 r2 q2) fun c s3 ⟨z,H3,I3,r3,k,e,q3⟩ => ?_) hm
  subst e
  cases r3
  exact wpAny_truthy_bool ⟨H3,I3,q3⟩
def Ar (r r':R2) (ta tb tc:TE):TE:=fun σ H Q=>ta σ H fun x H1=>tb σ H1 fun y H2=>r x y H2 fun z H3=>∃ k,z=.bl k ∧
  (if k=true then tc σ H3 fun w' H4=>r' y w' H4 Q else Q (.bl false) H3)
theorem As {op op':CmpOp}{r r':R2}(ho:OpR X (compareOp op) r)(ho':OpR X (compareOp op') r')(ha:PE X a ta)(hb:PE X b tb)(hc:PE X c tc)
    (hm:lastMarks [op,op'] [b,c] = false:=by with_unfolding_all rfl):PE X (.Compare a [op,op'] [b,c] pos) (Ar r r' ta tb tc):=by
  intro pins s σ H Q I h
  refine Compare_chain (thn (ha pins s σ H _ I h) fun v s1 ⟨x,H1,I1,r1,q1⟩=>chain_link (thn (hb pins s1 σ H1 _ I1 q1) fun u s2 ⟨y,H2,I2,r2,q2⟩ =>
    thn (ho pins s2 σ H2 x y v u _ I2 r1 r2 q2) fun d s3 ⟨z,H3,I3,r3,k,e,q3⟩ => ?_)) hm
  subst e
  cases r3
  refine wpAny_truthy_bool ?_
  cases k with
  | false=>exact ite_ff ⟨.bl false,H3,I3,rfl,q3⟩
  | true=>exact ite_tt (chain_last (thn (hc pins s3 σ H3 _ I3 q3) fun w' s4 ⟨z',H4,I4,r4,q4⟩=>ho' pins s4 σ H4 y z' u w' Q I4 r2 r4 q4))
theorem oQ:(sizeLine:Nat) < 2 ^ 63:=by rw [sizeLine_eq];decide
theorem Au {x:V}{us:List Value}(r:aS [x] us):∃ u,us=[u]∧bP x u:=by
  cases r with
  | cons r1 r2=>cases r2;exact⟨_,rfl,r1⟩
theorem EC {x y:V}{us:List Value}(r:aS [x,y] us):∃ u w',us=[u,w']∧bP x u∧bP y w':=by
  cases r with
  | cons r1 r2 =>
    cases r2 with
    | cons r3 r4=>cases r4;exact⟨_,_,rfl,r1,r3⟩
theorem yB (hc:X.calm=true):fX X (.builtin "max") (fun xs H Q=>∃ i j,xs=[.int i,.int j]∧Q (.int (if j > i then j else i)) H):=by
  intro pins s σ H xs us Q I r h
  obtain⟨i,j,rfl,q⟩:=h
  obtain⟨u,w',rfl,⟨t,rfl⟩,⟨t',rfl⟩⟩:=EC r
  refine max_two_ints (I.ok.hd hc) fun h' tk k=>⟨_,H,I.kept k,?_,q⟩
  by_cases hj:j > i
  · rw [if_pos hj,if_pos hj];exact⟨_,rfl⟩
  · rw [if_neg hj,if_neg hj];exact⟨_,rfl⟩
theorem yC (hc:X.calm=true):fX X (.builtin "min") (fun xs H Q=>∃ i j,xs=[.int i,.int j]∧Q (.int (if j < i then j else i)) H):=by
  intro pins s σ H xs us Q I r h
  obtain⟨i,j,rfl,q⟩:=h
  obtain⟨u,w',rfl,⟨t,rfl⟩,⟨t',rfl⟩⟩:=EC r
  refine min_two_ints (I.ok.hd hc) fun h' tk k=>⟨_,H,I.kept k,?_,q⟩
  by_cases hj:j < i
  · rw [if_pos hj,if_pos hj];exact⟨_,rfl⟩
  · rw [if_neg hj,if_neg hj];exact⟨_,rfl⟩
end
end L2
namespace L2
open PySem PySem.Spec PyProof.Rows
structure Ja (h:Heap) (x dx C:Addr) (mA:Str→Option Value):Prop where
  obj:h.get? x=some (PySem.W.instObj C dx)
  ns:h.Ns1 dx mA
  ne:dx≠x
section
variable {prog:Program} {w:World} {A:Around} {E:Value→Shared→Prop} {s:Shared} {K:ZX} {x dx C f:Addr} {mA:Str→Option Value} {name:Str} {v:Value}
end
section
variable {P:Program} {w:World} {H H':Hp} {h h':Heap} {a C dx:Addr} {fs fs':List (Str × V)}
end
structure Cls (K:ZX) (C:Addr):Prop where
  pg:PySem.W.plainGet K C Str.empty=true
  hd:PySem.W.hasDictIn K C=true
  po:PySem.W.plainOver K C=true
  sa:PySem.W.findIn K (.ref C) "__setattr__" = some (some (.builtin "object.__setattr__"))
structure Con (K:ZX) (C:Addr) (f:Str) (v:V) (u:Value):Prop where
  at_:PySem.W.findIn K (.ref C) f=some (some u)
  rel:bP v u
  get:PySem.W.specialIn K u "__get__" = some none
  cp:PySem.W.copiedNames.contains f=false
structure Jb (K:ZX) (C:Addr) (m:Str) (f:Addr):Prop where
  at_:PySem.W.findIn K (.ref C) m=some (some (.ref f))
  fn:PySem.W.isFn K (.ref f)=true
  kp:PySem.W.keepIn K (.ref f)=true
section
variable {X:Cx} {pins:List (Addr × Obj)} {σ:St} {H:Hp} {s:Shared} {a C dx:Addr} {fs:List (Str × V)} {f:Str} {v:V} {A:Around} {E:Value→Shared→Prop}
end
section
variable {X:Cx} {o e value:Expr} {f:Str} {pos pos' tpos:Pos} {ta tv:TE}
end
section
variable {X:Cx} {pins:List (Addr × Obj)} {σ:St} {H:Hp} {s:Shared} {A:Around} {E:Value→Shared→Prop} {Q:Value→Shared→Prop} {c:Value} {b:Bool}
inductive oR (K:ZX) (H:Hp):V→Value→Prop where
  | non:oR K H .non (.type "NoneType")
  | bl (x:Bool):oR K H (.bl x) (.type "bool")
  | int (i:Int):oR K H (.int i) (.type "int")
  | str (x:Str):oR K H (.str x) (.type "str")
  | flt (x:UInt64):oR K H (.flt x) (.type "float")
  | lst {a:Addr} {xs:List V} (e:H a=some (.lst xs)):oR K H (.ref a) (.type "list")
  | frz {a:Addr} {o:Obj} {xs:List V} (e:H a=some (.frz o (.lst xs))):oR K H (.ref a) (.type "list")
  | tup {a:Addr} {xs:List V} (e:H a=some (.tup xs)):oR K H (.ref a) (.type "tuple")
  | dK {a:Addr} {kvs:List (Key × V)} (e:H a=some (.dK kvs)):oR K H (.ref a) (.type "dict")
  | dT {a:Addr} {kvs:List (List Key × V)} (e:H a=some (.dT kvs)):oR K H (.ref a) (.type "dict")
  | ins {a C dx:Addr} {fs:List (Str × V)} (e:H a=some (.ins C dx fs)) (cl:Cls K C) (ha:PySem.W.findIn K (.ref C) "__class__" = some (some (.builtin "object.__class__")))
      (hn:PySem.W.specialIn K (.builtin "object.__class__") "__get__" = some (some (.builtin "getset_descriptor.__get__"))) (htk:PySem.W.takesIn K (.builtin "object.__class__")=some true)
      (hm:PySem.W.mroIn K C (.type "object")=some true):oR K H (.ref a) (.ref C)
end
end L2
namespace L2
open PySem PySem.Spec PyProof.Rows
structure gW (k:Nat) (A:Around):Prop where
  hd:A.handled=none
  dp:A.depth + 3 * k + 5 < recursionLimit
  un:A.units + 16 * k + 200 < cLine
  gd:A.guards=some []
theorem gW.mono {j k:Nat}{A:Around}(r:gW k A)(h:j≤k):gW j A:=⟨r.hd,by have:=r.dp;omega,by have:=r.un;omega,r.gd⟩
theorem gW.deeper {k:Nat}{A:Around}(r:gW (k + 1) A)(env:Env):gW k (A.deeper env) :=
  ⟨r.hd,by have:=r.dp;show A.depth + 1 + 3 * k + 5 < _;omega,by have:=r.un;show A.units + 3 + 16 * k + 200 < _;omega,r.gd⟩
theorem gW.depth {k:Nat}{A:Around}(r:gW k A):A.depth < recursionLimit:=by have:=r.dp;omega
theorem gW.units0 {k:Nat}{A:Around}(r:gW k A):A.units < cLine:=by have:=r.un;omega
def IH:TA:=fun _ H Q=>Q [] H
def Hj (ta:TE) (tr:TA):TA:=fun σ H Q=>ta σ H fun x H1=>tr σ H1 fun xs H2=>Q (x :: xs) H2
section
variable {X:Cx} {e:Expr} {es:List Expr} {te:TE} {t:TA} {pos:Pos}
theorem eu:PA X [] IH:=fun _ _ _ _ H Q I h=>Calls.spliced_nil ⟨[],H,I,.nil,h⟩
theorem cu (ha:PE X e te)(hr:PA X es t)(hs:starEach (e :: es) X.env=(false,eval e X.env) :: starEach es X.env:=by rfl):PA X (e :: es) (Hj te t):=by
  intro pos pins s σ H Q I h
  rw [hs]
  show wpAny _ _ (spliced ((false,eval e X.env) :: backTo pos (starEach es X.env))) _ _ s
  refine Calls.spliced_cons (thn (ha pins s σ H _ I h) fun u s1 ⟨x,H1,I1,r1,q1⟩ => ?_)
  exact thn (hr pos pins s1 σ H1 _ I1 q1) fun us s2 ⟨xs,H2,I2,r2,q2⟩=>⟨x :: xs,H2,I2,.cons r1 r2,q2⟩
def II (t:TA):TE:=fun σ H Q=>t σ H fun xs H1=>xs.length≤sizeLine ∧ ∀ p,H1 p=none→Q (.ref p) (upd H1 p (.tup xs))
def IJ (t:TA):TE:=fun σ H Q=>t σ H fun xs H1=>xs.length≤sizeLine ∧ ∀ p,H1 p=none→Q (.ref p) (upd H1 p (.lst xs))
theorem Fu {x1}(h:PA X es t):PE X (.Tuple es x1 pos) (II t):=by
  intro pins s σ H Q I hq
  refine wpAny_Tuple_spliced (thn (h pos pins s σ H _ I hq) fun us s1 ⟨xs,H1,I1,r,z,q⟩=>⟨by rw [← r.length];exact z,?_⟩)
  have hf:H1 s1.heap.objs.size=none:=I1.hok.fresh (ZL _)
  refine⟨.ref s1.heap.objs.size,upd H1 s1.heap.objs.size (.tup xs),I1.laid (t':=s1.toks) (fun b u e=>ZH _ e) (ZL _) ?_,rfl,q _ hf⟩
  exact⟨z,us,r,⟨_,ZJ _ rfl,rfl,_,rfl⟩⟩
theorem Fv (h:PA X es t):PE X (.List es pos) (IJ t):=by
  intro pins s σ H Q I hq
  refine wpAny_List_spliced (thn (h pos pins s σ H _ I hq) fun us s1 ⟨xs,H1,I1,r,z,q⟩=>⟨by rw [← r.length];exact z,?_⟩)
  have hf:H1 s1.heap.objs.size=none:=I1.hok.fresh (ZL _)
  refine⟨.ref s1.heap.objs.size,upd H1 s1.heap.objs.size (.lst xs),I1.laid (t':=s1.toks) (fun b u e=>ZH _ e) (ZL _) ?_,rfl,q _ hf⟩
  exact⟨z,us,0,r,ZJ _ rfl⟩
end
abbrev Sp:=List V→Hp→VK→XK→Prop
abbrev CXT:=List Env→Hp→Shared→XK→Value→Shared→Prop
structure Df (P:Program) (w:World) (K:ZX) (mg:Str→Option Value) (base:Heap) (A:Around) (outer:List Env) (s:Shared) (H:Hp):Prop where
  frames:A.frames=some outer
  mod:Mod K mg base
  bs:∀ b o,base.get? b=some o→s.heap.get? b=some o∧H b=none
  bsz:base.objs.size≤s.heap.objs.size
  funs:s.heap.FunFrames base outer
  frf:∀ b∈frs outer,H b=none
  hok:HOk P w H s.heap
  bare:AllBare s.gens
def CE (outer:List Env) (P:Program) (w:World) (H:Hp) (s:Shared) (Q:VK) (u:Value) (s':Shared):Prop :=
  ∃ v H',s'.os=s.os∧AllBare s'.gens∧Un (frs outer) [] H H' s.heap s'.heap∧HOk P w H' s'.heap∧bP v u∧Q v H'
def CR (CX:CXT) (outer:List Env) (P:Program) (w:World) (H:Hp) (s:Shared) (Q:VK) (E:XK) (r:Result) (s':Shared):Prop :=
  match r with
  | .ok (.ret u)=>CE outer P w H s Q u s'
  | .ok _=>False
  | .error e=>CX outer H s E e s'
structure bS (P:Program) (w:World) (K:ZX) (mg:Str→Option Value) (base:Heap) (CX:CXT) (k:Nat) (f:Addr) (fd:FuncData) (ps:List Str) (sp:Sp):Prop where
  len:∀ vs H Q E,sp vs H Q E→vs.length=ps.length
  run:∀ (A:Around) (outer:List Env) (s:Shared) (H:Hp) (args:Args) (us:List Value) (vs:List V) (Q:VK) (E:XK),gW k A→Df P w K mg base A outer s H→BindsTo s fd args (ps.zip us)→aS vs us→sp vs H Q E →
    codeAny (model P w) A (.call (.ref f) args) (CR CX outer P w H s Q E) s
section
variable {X:Cx} {pins:List (Addr × Obj)} {σ:St} {H:Hp} {s s':Shared}
theorem Inv.env0 (I:Inv X pins σ H s):Df X.prog X.w X.K X.mg X.base X.A X.stack s H :=
  ⟨I.ok.frames,I.ok.mod,I.bs,ZM I.ok.bsz I.sz,I.stack,I.stkFree,I.hok,I.bare⟩
theorem Inv.after {Q:VK}{u:Value}(I:Inv X pins σ H s)(h:CE X.stack X.prog X.w H s Q u s'):EP X pins σ Q u s':=by
  obtain⟨v,H',os,bare,un,hok,r,q⟩:=h
  obtain⟨hh,g,d,t,os'⟩:=s'
  obtain rfl:os'=s.os:=os
  exact⟨v,H',I.call (h':=hh) (g':=g) (d':=d) (t':=t) (ch:=[]) un hok bare (fun b z=>absurd z (by simp)),r,q⟩
end
def Hk (sp:Sp) (dvs:List V) (E:XK) (t:TA):TE:=fun σ H Q=>t σ H fun vs H1=>sp (vs++dvs) H1 Q E
def lq (K:ZX) (fd:FuncData) (ps:List Str) (ds:List Value):Prop :=
  ∀ (s:Shared) (us:List Value),K.In s.heap→(us++ds).length=ps.length→BindsTo s fd ⟨us,[]⟩ (ps.zip (us++ds))
theorem lq.all {K:ZX}{fd:FuncData}{ps:List Str}(h:∀ us:List Value,us.length=ps.length→bindArgs fd ⟨us,[]⟩ = pure (ps.zip us)):lq K fd ps []:=fun s us _ hl=>by
  rw [List.append_nil] at hl ⊢
  exact .of_eq (h us hl)
def vR (CX:CXT) (X:Cx) (E:XK):Prop:=∀ (pins:List (Addr × Obj)) (σ:St) (H:Hp) (s:Shared) (e:Value) (s':Shared),Inv X pins σ H s→CX X.stack H s E e s'→X.xe e s'
section
variable {X:Cx} {CX:CXT} {k:Nat} {f C:Addr} {fd:FuncData} {ps:List Str} {sp:Sp} {dvs:List V} {ds:List Value} {E:XK} {x m:Str} {p pos apos:Pos} {e o:Expr} {es:List Expr} {ta:TE} {t:TA}
theorem Fw {pins:List (Addr × Obj)}{σ:St}{H:Hp}{s:Shared}{Q:VK}{us:List Value}{vs:List V}(F:bS X.prog X.w X.K X.mg X.base CX k f fd ps sp)(hr:gW k X.A)(hb:lq X.K fd ps ds)(hd:aS dvs ds)(hx:vR CX X E)
    (I:Inv X pins σ H s) (r:aS vs us) (h:sp (vs++dvs) H Q E):wpAny (model X.prog X.w) X.A (call (.ref f) us) (EP X pins σ Q) X.xe s:=by
  have r2:aS (vs++dvs) (us++ds):=r.append hd
  have hl:(us++ds).length=ps.length:=by rw [← r2.length];exact F.len _ _ _ _ h
  refine wpAny_call (codeAny_mono (F.run X.A X.stack s H ⟨us,[]⟩ (us++ds) (vs++dvs) Q E hr I.env0 (hb s us I.kIn hl) r2 h) fun r s' hq => ?_)
  cases r with
  | error e=>exact hx pins σ H s e s' I hq
  | ok fl =>
    cases fl with
    | ret u=>exact I.after hq
    | next=>exact False.elim hq
    | brk=>exact False.elim hq
    | cont=>exact False.elim hq
theorem Dg (F:bS X.prog X.w X.K X.mg X.base CX k f fd ps sp)(hr:gW k X.A)(hg:Gl X x)(hm:X.mg x=some (.ref f))(hk:PySem.W.keepIn X.K (.ref f)=true)(hb:lq X.K fd ps ds)(hd:aS dvs ds)(hx:vR CX X E)
    (ha:PA X (e :: es) t) (hdb:(x == ("__debug__" : Str))=false:=by decide) (he:starEach (e :: es) X.env=(false,eval e X.env) :: starEach es X.env:=by rfl) (hpl:(backTo pos (starEach es X.env)).any (·.1)=false:=by rfl) :
    PE X (.Call (.Name x p) (e :: es) [] pos) (Hk sp dvs E t):=by
  intro pins s σ H Q I h
  refine wpAny_Call_Name_kw (xu I hg hm ?_ hdb)
  refine PySem.W.callWith_K (h₀ := X.base) I.ok.mod.kin hk (thn (ha pos pins s σ H _ I h) fun us s1 ⟨vs,H1,I1,r,q⟩=>⟨I1.kIn,?_⟩) he hpl
  exact Fw F hr hb hd hx I1 r q
structure Mk (K:ZX) (C f:Addr):Prop where
  makes:PySem.W.makesIn K C=true
  init:PySem.W.findIn K (.ref C) "__init__" = some (some (.ref f))
  fn:PySem.W.isFn K (.ref f)=true
  kp:PySem.W.keepIn K (.ref C)=true
end
section
variable {X:Cx} {CX:CXT} {k:Nat} {f C:Addr} {fd:FuncData} {ps ks:List Str} {sp:Sp} {E:XK} {x m:Str} {p pos apos kpos:Pos} {e o:Expr} {es:List Expr} {kws:List Keyword} {te ta:TE} {t tk:TA} {nm:Option Str}
structure IK (K:ZX) (fd:FuncData) (ps ks:List Str) (g:List Value→List Value→List Value) (gV:List V→List V→List V):Prop where
  to:∀ (s:Shared) (us ws:List Value),K.In s.heap→(g us ws).length=ps.length→BindsTo s fd ⟨us,ks.zip ws⟩ (ps.zip (g us ws))
  rel:∀ {vs:List V} {us:List Value} {zs:List V} {ws:List Value},aS vs us→aS zs ws→aS (gV vs zs) (g us ws)
variable {g:List Value→List Value→List Value} {gV:List V→List V→List V}
end
structure aF (N P:List Str) (sc:Scope):Prop where
  kind:sc.kind=.function
  co:sc.isCoroutine=false
  gen:sc.isGenerator=false
  nd:N.Nodup
  pre:N.take P.length=P
  par:∀ x∈P,sc.names.lookup x=some .local ∨sc.names.lookup x=some .cell
  nofree:∀ y∈sc.names,y.2 ≠ .free
theorem rg {kindOf:Str→Option NameKind}{x:Str}:∀ {binds:List (Str × Value)} {m:Str→Option Value},(∀ v,(x,v)∉binds)→bindL kindOf binds m x=m x
  | [],_,_=>rfl
  | (n,v) :: r,m,h=>by
    unfold bindL
    rw [rg fun w hw=>h w (ZW _ hw)]
    split
    · have:x≠n:=by rintro rfl;exact h v ZV
      simp [this]
    · rfl
theorem rj {kindOf:Str→Option NameKind}{x:Str}:∀ {binds:List (Str × Value)} {m:Str→Option Value},(∀ v,(x,v)∉binds)→bindC kindOf binds m x=m x
  | [],_,_=>rfl
  | (n,v) :: r,m,h=>by
    unfold bindC
    rw [rj fun w hw=>h w (ZW _ hw)]
    split
    · rfl
    · have:x≠n:=by rintro rfl;exact h v ZV
      simp [this]
theorem rk {kindOf:Str→Option NameKind}{x:Str}{v:Value}:∀ {P:List Str} {vs:List Value} {i:Nat} {m:Str→Option Value},P.Nodup→P[i]? = some x→vs[i]? = some v→kindOf x=some .local →
    bindL kindOf (P.zip vs) m x=some v
  | [],_,_,_,_,h,_,_=>by simp at h
  | _ :: _,[],_,_,_,_,h,_=>by simp at h
  | p :: P,w :: vs,0,m,nd,h1,h2,hk=>by
    simp at h1 h2;subst h1;subst h2
    show bindL kindOf ((p,w) :: P.zip vs) m p=_
    unfold bindL
    rw [rg fun v hv=>(List.nodup_cons.mp nd).1 (List.of_mem_zip hv).1,if_pos hk]
    simp
  | p :: P,w :: vs,i + 1,m,nd,h1,h2,hk=>by
    show bindL kindOf ((p,w) :: P.zip vs) m x=_
    unfold bindL
    exact rk (i:=i) (List.nodup_cons.mp nd).2 (by simpa using h1) (by simpa using h2) hk
theorem rl {kindOf:Str→Option NameKind}{x:Str}{v:Value}:∀ {P:List Str} {vs:List Value} {i:Nat} {m:Str→Option Value},P.Nodup→P[i]? = some x→vs[i]? = some v→kindOf x≠some .local →
    bindC kindOf (P.zip vs) m x=some v
  | [],_,_,_,_,h,_,_=>by simp at h
  | _ :: _,[],_,_,_,_,h,_=>by simp at h
  | p :: P,w :: vs,0,m,nd,h1,h2,hk=>by
    simp at h1 h2;subst h1;subst h2
    show bindC kindOf ((p,w) :: P.zip vs) m p=_
    unfold bindC
    rw [rj fun v hv=>(List.nodup_cons.mp nd).1 (List.of_mem_zip hv).1,if_neg hk]
    simp
  | p :: P,w :: vs,i + 1,m,nd,h1,h2,hk=>by
    show bindC kindOf ((p,w) :: P.zip vs) m x=_
    unfold bindC
    exact rl (i:=i) (List.nodup_cons.mp nd).2 (by simpa using h1) (by simpa using h2) hk
def jy (N:List Str) (vs:List V):St:=vs.map some++List.replicate (N.length - vs.length) none
def vS (CX:CXT) (P:Program) (w:World) (K:ZX) (mg:Str→Option Value) (base:Heap) (N:List Str) (qual:Str) (scope:Scope) (f:Addr) (cd:Value) (A:Around) (outer:List Env) (s:Shared) (H:Hp) (E:XK):Cx where
  prog:=P
  w:=w
  K:=K
  mg:=mg
  base:=base
  A:=A.deeper (envOfC qual scope s.heap.objs.size f cd)
  N:=N
  s₀ := s
  H₀ := H
  env:=envOfC qual scope s.heap.objs.size f cd
  outer:=outer
  stack:=envOfC qual scope s.heap.objs.size f cd :: outer
  ex:=[]
  calm:=true
  fn:=fun _=>true
  pn:=[]
  xe:=fun e s'=>wpAny (model P w) (A.deeper (envOfC qual scope s.heap.objs.size f cd)) (leaving (envOfC qual scope s.heap.objs.size f cd) e) (fun _ s''=>CX outer H s E e s'') (fun e' s''=>CX outer H s E e' s'') s'
theorem ug {sc:Scope}{n:Nat}{x:Str}(h:sc.names.lookup x=some .cell):∃ c,(cellsFrom n sc.names []).lookup x=some c:=by
  have q:=PySem.W.cellsFrom_some sc.names n [] (.inl h)
  exact Option.isSome_iff_exists.mp q
theorem yD {CX:CXT}{P:Program}{w:World}{K:ZX}{mg:Str→Option Value}{base:Heap}{N ps:List Str}{qual:Str}{scope:Scope}{f:Addr}{cd:Value}{A:Around}{outer:List Env}{s s1:Shared}{H:Hp}{E:XK}{us:List Value}{vs:List V}
    (S:aF N ps scope) (hd:A.handled=none) (e0:Df P w K mg base A outer s H) (hl:vs.length=ps.length) (r:aS vs us)
    (x:InCallC s s.heap.objs.size (bindL (envOfC qual scope s.heap.objs.size f cd).kindOf (ps.zip us) fun _=>none) (cellsFrom (s.heap.objs.size + 1) scope.names []) (bindC (envOfC qual scope s.heap.objs.size f cd).kindOf (ps.zip us) fun _=>none) s1) :
    Inv (vS CX P w K mg base N qual scope f cd A outer s H E) [] (jy N vs) H s1:=by
  have hpl:ps.length≤N.length:=by have:=congrArg List.length S.pre;rw [List.length_take] at this;omega
  obtain⟨h1,tk,rfl,hk⟩:=x.done
  have noA:∀ b:Addr,b∉(vS CX P w K mg base N qual scope f cd A outer s H E).ex:=fun b z=>absurd (show b∈([] : List Addr) from z) (by simp)
  refine⟨⟨e0.mod,S.kind,rfl,rfl,ZL _,fun y z c h1 h2 => ?_,fun y hy => ?_,fun y c _ h => ?_,fun _=>hd,Around.frames_deeper e0.frames,.inr ⟨rfl,rfl⟩,fun b z=>absurd z (noA b),e0.bs,e0.bsz,fun b _ _=>noA b,fun b z=>absurd z (noA b),e0.funs,e0.frf⟩,
    rfl,e0.bare,Un.kept hk,⟨_,x.toInCall.ns,fun i y v h1 h2 h3 => ?_⟩,fun y c h=>⟨_,x.cell y c h⟩,e0.hok.fresh (ZL _),fun y c h => ?_,fun p hp=>absurd (show p∈([] : List (Addr × Obj)) from hp) (by simp),e0.hok.kept hk,?_⟩
  · exact name_of_addr x.apart (PySem.mem_of_lookup h1) (PySem.mem_of_lookup h2)
  · have hy:scope.names.lookup y=some .cell∨scope.names.lookup y=some .free:=hy
    rcases hy with hy|hy
    · exact ug hy
    · exact absurd rfl (S.nofree _ (PySem.mem_of_lookup hy))
  · exact Nat.le_of_lt (x.above y c (PySem.mem_of_lookup h))
  · have hi:i < vs.length:=by
      unfold jy at h2
      by_cases hi:i < vs.length
      · exact hi
      · rw [ZD (by simpa using hi)] at h2
        rw [List.getElem?_replicate] at h2
        split at h2<;>cases h2
    have ha:vs[i]? = some v:=by
      unfold jy at h2
      rw [ZC (by simpa using hi),ZQ] at h2
      cases e:vs[i]? with
      | none=>rw [e] at h2;cases h2
      | some a=>rw [e] at h2;cases h2;rfl
    obtain⟨u,hu,rv⟩:=r.get ha
    have hp:ps[i]? = some y:=by
      rw [← S.pre,List.getElem?_take_of_lt (by omega)];exact h1
    have ndP:ps.Nodup:=by rw [← S.pre];exact S.nd.sublist (List.take_sublist _ _)
    refine⟨u,rv,?_⟩
    rcases S.par y (ZK hp) with k|k
    · exact .inl ⟨k,rk ndP hp hu k⟩
    · obtain⟨c,e⟩:=ug (n:=s.heap.objs.size + 1) k
      refine .inr ⟨.inl k,c,e,?_⟩
      have q:=x.cell y c e
      rw [rl ndP hp hu (by show scope.names.lookup y≠_;rw [k];decide)] at q
      exact q
  · exact e0.hok.fresh (Nat.le_of_lt (x.above y c (PySem.mem_of_lookup h)))
  · unfold jy
    show _=N.length
    rw [ZB,ZA,List.length_replicate]
    omega
theorem Hl {CX:CXT}{P:Program}{w:World}{K:ZX}{mg:Str→Option Value}{base:Heap}{k:Nat}{f:Addr}{name qual:Str}{params:Arguments}{body:List Stmt}{scope:Scope}{dV kV doc pm cdv ct oc:Value}{an od:Option Addr}
    {osl:Array (Option Value)} {N ps:List Str} {sp:Sp} (lk:K.lookup f=some ⟨oc,od,.func (PySem.W.fnOf name qual params body scope dV kV doc pm an cdv ct),osl⟩) (hcd:PySem.W.codeIn K cdv qual=true) (S:aF N ps scope)
    (len:∀ vs H Q E,sp vs H Q E→vs.length=ps.length)
    (hbody:∀ (A:Around) (outer:List Env) (s:Shared) (H:Hp) (vs:List V) (Q:VK) (E:XK),gW k (A.deeper (envOfC qual scope s.heap.objs.size f cdv))→sp vs H Q E →
      ∃ t,PSs (vS CX P w K mg base N qual scope f cdv A outer s H E) body t∧t { nx:=fun _ H'=>Q .non H',rt:=Q } (jy N vs) H) :
    bS P w K mg base CX (k + 1) f (PySem.W.fnOf name qual params body scope dV kV doc pm an cdv ct) ps sp:=by
  refine⟨len,fun A outer s H args us vs Q E hr e0 hb r hsp => ?_⟩
  have hl:=len _ _ _ _ hsp
  have KX:K.In s.heap:=e0.mod.kin.keeps fun b o e=>(e0.bs b o e).1
  have lim:s.heap.NoLimit:=e0.mod.nolimit.keeps fun b o e=>(e0.bs b o e).1
  have hkind:∀ y∈ps.zip us,scope.names.lookup y.1=some .local ∨(scope.names.lookup y.1=some .cell∧((cellsFrom (s.heap.objs.size + 1) scope.names []).lookup y.1).isSome=true):=fun ⟨n,v⟩ hy=>by
    rcases S.par n (List.of_mem_zip hy).1 with q|q
    · exact .inl q
    · exact .inr ⟨q,PySem.W.cellsFrom_some _ _ _ (.inl q)⟩
  refine codeAny_call_function hr.depth (KX _ _ lk) rfl S.co S.gen rfl (PySem.W.codeRec_of KX hcd) (hb _ _ _ _ ?_)
  refine wpAny_newFunctionEnv_cells S.kind hkind fun env he s1 x => ?_
  subst he
  refine⟨lim.keeps x.toInCall.keep,codeAny_func ?_⟩
  obtain⟨t,ht,hq⟩:=hbody A outer s H vs Q E (hr.deeper _) hsp
  have I:Inv (vS CX P w K mg base N qual scope f cdv A outer s H E) [] (jy N vs) H s1:=yD S hr.hd e0 hl r x
  refine wpAny_mono (ht [] s1 (jy N vs) H _ I hq) (fun fl s' hs => ?_) fun e s' hs=>hs
  have fin:∀ {σ':St} {H':Hp} {v:V} {u:Value},Inv (vS CX P w K mg base N qual scope f cdv A outer s H E) [] σ' H' s'→bP v u→Q v H'→CE outer P w H s Q u s' :=
    fun {σ' H' v u} J rv q=>⟨v,H',J.os,J.bare,J.base,J.hok,rv,q⟩
  cases fl with
  | ret u =>
    obtain⟨v,σ',H',J,rv,q⟩:=hs
    exact fin J rv q
  | next =>
    obtain⟨σ',H',J,q⟩:=hs
    exact fin (v:=V.non) (u:=Value.none) J rfl q
  | brk =>
    obtain⟨_,_,_,q⟩:=hs
    exact False.elim q
  | cont =>
    obtain⟨_,_,_,q⟩:=hs
    exact False.elim q
end L2
namespace L2
open PySem PySem.Spec PyProof.Rows
section
variable {X:Cx} {x:Str} {p pos:Pos} {e:Expr} {es:List Expr} {t:TA} {id T:String} {r:List V→Hp→VK→Prop}
def tCB (r:List V→Hp→VK→Prop) (t:TA):TE:=fun σ H Q=>t σ H fun vs H1=>r vs H1 Q
theorem iu (hc:fX X (.builtin id) r) (hg:Gl X x) (hm:X.mg x=none) (hv:bootBuiltins x=some (.builtin id)) (ha:PA X (e :: es) t) (hn:x ≠ "__name__" := by decide) (hdb:(x == ("__debug__" : Str))=false:=by decide)
    (he:starEach (e :: es) X.env=(false,eval e X.env) :: starEach es X.env:=by rfl) (hpl:(backTo pos (starEach es X.env)).any (·.1)=false:=by rfl):PE X (.Call (.Name x p) (e :: es) [] pos) (tCB r t):=by
  intro pins s σ H Q I h
  refine wpAny_Call_Name_kw (jx I hg hm hv ?_ hn hdb)
  exact PyProof.Rows.callWith_builtin1 (thn (ha pos pins s σ H _ I h) fun us s1 ⟨vs,H1,I1,r1,q1⟩=>hc pins s1 σ H1 vs us Q I1 r1 q1) he hpl
theorem mw (hc:fX X (.type T) r) (hg:Gl X x) (hm:X.mg x=none) (hv:bootBuiltins x=some (.type T)) (ha:PA X (e :: es) t) (hn:x ≠ "__name__" := by decide) (hdb:(x == ("__debug__" : Str))=false:=by decide)
    (he:starEach (e :: es) X.env=(false,eval e X.env) :: starEach es X.env:=by rfl) (hpl:(backTo pos (starEach es X.env)).any (·.1)=false:=by rfl):PE X (.Call (.Name x p) (e :: es) [] pos) (tCB r t):=by
  intro pins s σ H Q I h
  refine wpAny_Call_Name_kw (jx I hg hm hv ?_ hn hdb)
  exact PyProof.Rows.callWith_type1 (thn (ha pos pins s σ H _ I h) fun us s1 ⟨vs,H1,I1,r1,q1⟩=>hc pins s1 σ H1 vs us Q I1 r1 q1) he hpl
end
end L2
namespace HT
open PySem PyProof.Rows
def lexLt:List Int→List Int→Bool
  | [],[]=>false
  | [],_ :: _=>true
  | _ :: _,[]=>false
  | x :: xs,y :: ys=>if x=y then lexLt xs ys else decide (x < y)
theorem vT (x y:Int)(xs ys:List Int):lexLt (x :: xs) (y :: ys)=if x=y then lexLt xs ys else decide (x < y):=rfl
theorem qw:lexLt [] [] = false:=rfl
theorem oT (y:Int)(ys:List Int):lexLt [] (y :: ys)=true:=rfl
theorem oU (x:Int)(xs:List Int):lexLt (x :: xs) [] = false:=rfl
theorem Av (A:Around)(s:Shared)(a:Int)(t:Tok)(c:Int)(u:Tok):∃ e,SeqAt.EqAt A s (.int a t) (.int c u) e∧(e=true ↔ a=c) :=
  ⟨(a == c),SeqAt.EqAt.int_int a t c u,by simp⟩
theorem Aw (A:Around)(s:Shared)(a:Int)(t:Tok)(c:Int)(u:Tok)(prog:Program)(w:World)(E:Value→Shared→Prop)(Q:Value→Shared→Prop)(h:Q (.bool (decide (a < c))) s) :
    wpAny (model prog w) A (richCompare .Lt (.int a t) (.int c u)) Q E s :=
  (PyProof.Rows.lt_int h:wpAny (model prog w) A (compareOp .Lt (.int a t) (.int c u)) Q E s)
section
open PySem.SeqAt
open PySem.AutoSeq1 (wpAny_loadPart')
open PySem.MeetsSeq PySem.MeetsSeq2 PySem.MeetsSeq3
theorem qx (l b:Addr)(items items2:Array Value)(n n2:Nat)(dd dd2:Option Addr)(sl sl2:Array (Option Value))(ns ms:List Int)(hi:IntsAre items.toList ns)(hj:IntsAre items2.toList ms) :
    Meets (Builtin.«tuple.__lt__» ⟨[.ref l,.ref b],[]⟩)
      (fun _ R s=>s.heap.get? l=some { cls:=.type "tuple",dict:=dd,data:=.seq items n,slots:=sl } ∧ s.heap.get? b=some { cls:=.type "tuple",dict:=dd2,data:=.seq items2 n2,slots:=sl2 } ∧
        R (.ok (.ret (.bool (lexLt ns ms)))) s) :=
  .of_wp fun prog w A R s h=>by
    obtain⟨hp,g,d,tk,os⟩:=s;obtain⟨hl,hb,h⟩:=h
    have f2:=AutoSeq1.sub_tuple_tuple
    have z1:items.size=ns.length:=by rw [← hi.length];simp
    have z2:items2.size=ms.length:=by rw [← hj.length];simp
    wp_walk using wpAny_loadPart' hl,wpAny_loadPart' hb,wpAny_forIn_list _ (fun rest b s'=>b.1=none∧s'=⟨hp,g,d,tk,os⟩ ∧ ∃ (vs ws:List Value) (ns' ms':List Int),rest=vs.zip ws ∧
      IntsAre vs ns'∧IntsAre ws ms'∧ns'.length + items2.size=ms'.length + items.size∧R (.ok (.ret (.bool (lexLt ns' ms')))) ⟨hp,g,d,tk,os⟩) _
    case turn =>
      rintro⟨y,x⟩ rest b s' ⟨hb',rfl,vs,ws,ns',ms',hz,hvi,hwi,hlen,hR⟩
      cases hvi with
      | nil=>rw [List.zip_nil_left] at hz;cases hz
      | cons a t hvi' =>
        cases hwi with
        | nil=>rw [List.zip_nil_right] at hz;cases hz
        | cons c u hwi' =>
          rw [List.zip_cons_cons] at hz
          injection hz with hyx hrest
          injection hyx with hy hx
          subst hy hx
          rw [vT] at hR
          simp only [List.length_cons] at hlen
          obtain⟨e,he,hiff⟩:=Av A.in1 ⟨hp,g,d,tk,os⟩ a t c u
          refine wpAny_bind (he prog w _ _ ?_)
          cases e with
          | true =>
            rw [if_pos (hiff.mp rfl)] at hR
            wp_walk
            exact⟨rfl,rfl,_,_,_,_,hrest,hvi',hwi',by omega,hR⟩
          | false =>
            rw [if_neg (fun q=>absurd (hiff.mpr q) Bool.false_ne_true)] at hR
            have hri:=Aw A.in1 ⟨hp,g,d,tk,os⟩ a t c u prog w
            wp_walk using hri
            exact⟨_,rfl,by simpa using hR⟩
    case fin =>
      rintro⟨b1,b2⟩ s' ⟨hb',rfl,vs,ws,ns',ms',hz,hvi,hwi,hlen,hR⟩
      simp only at hb'
      subst hb'
      have hv:lexLt ns' ms'=decide (items.size < items2.size):=by
        cases hvi with
        | nil =>
          cases hwi with
          | nil =>
            simp only [List.length_nil] at hlen
            rw [qw]
            exact (decide_eq_false (by omega)).symm
          | cons c u hw =>
            simp only [List.length_nil,List.length_cons] at hlen
            rw [oT]
            exact (decide_eq_true (by omega)).symm
        | cons a t hv =>
          cases hwi with
          | nil =>
            simp only [List.length_nil,List.length_cons] at hlen
            rw [oU]
            exact (decide_eq_false (by omega)).symm
          | cons c u hw =>
            rw [List.zip_cons_cons] at hz
            cases hz
      rw [hv] at hR
      wp_walk
      exact⟨_,rfl,by simpa [Builtin.Tuple.tupleCompareSizes] using hR⟩
    case h =>
      exact⟨rfl,rfl,items.toList,items2.toList,ns,ms,rfl,hi,hj,by omega,h⟩
end
section
variable {prog:Program} {w:World} {A:Around} {E:Value→Shared→Prop} {s:Shared}
theorem lt_tupInts {l b:Addr}{items items2:Array Value}{ns ms:List Int}{Q:Value→Shared→Prop}(hl:IsTup s.heap l items)(hb:IsTup s.heap b items2)(hi:IntsAre items.toList ns)(hj:IntsAre items2.toList ms)
    (hu:A.units < cLine) (h:Q (.bool (lexLt ns ms)) s):wpAny (model prog w) A (compareOp .Lt (.ref l) (.ref b)) Q E s:=by
  obtain⟨⟨cls,dd,data,sl⟩,ho,hc,n,hd⟩:=id hl
  obtain⟨⟨cls2,dd2,data2,sl2⟩,ho2,hc2,n2,hd2⟩:=id hb
  simp only at hc hd hc2 hd2
  subst hc hd hc2 hd2
  exact richCompare_meets_room (op:=.Lt) ⟨_,ho,rfl⟩ ⟨_,ho2,rfl⟩ PySem.F.slot_tuple_lt PySem.F.entry_tuple_lt (PySem.F.args_tuple_lt_2 _ _) (qx l b items items2 n n2 dd dd2 sl sl2 ns ms hi hj)
    ⟨ho,ho2,show Value.bool (lexLt ns ms)≠Value.notImplemented∧Q (.bool (lexLt ns ms)) s from ⟨(fun x=>nomatch x),h⟩⟩ hu
theorem cat_tup {t b:Addr}{vs ws:List Value}{Q:Value→Shared→Prop}(ht:IsTup s.heap t vs.toArray)(hb:IsTup s.heap b ws.toArray)(hv:vs≠[])
    (h1:ws=[]→Q (.ref t) s) (h2:ws≠[]→Q (.ref s.heap.objs.size) { s with heap:=s.heap.push { cls:=.type "tuple",data:=.seq (vs++ws).toArray } })
    (hsz:vs.length + ws.length≤sizeLine):wpAny (model prog w) A (binaryOp .Add (.ref t) (.ref b)) Q E s:=by
  obtain⟨⟨cls,dd,data,sl⟩,ho,hc,n,hd⟩:=id ht
  obtain⟨⟨cls2,dd2,data2,sl2⟩,ho2,hc2,n2,hd2⟩:=id hb
  simp only at hc hd hc2 hd2
  subst hc hd hc2 hd2
  have e:vs.toArray++ws.toArray=(vs++ws).toArray:=by simp
  by_cases hw:ws=[]
  · exact concat_meets ⟨_,ho,rfl⟩ ⟨_,ho2,rfl⟩ noFill_tuple_add seq_tuple_add PySem.F.slot_tuple_add PySem.F.entry_tuple_add (PySem.F.args_tuple_add_2 _ _)
      (tuple_addW1 t b vs.toArray ws.toArray n n2 dd dd2 sl sl2 (by simpa using hv) (by simp [hw])) ⟨ho,ho2,h1 hw⟩
  · refine concat_meets ⟨_,ho,rfl⟩ ⟨_,ho2,rfl⟩ noFill_tuple_add seq_tuple_add PySem.F.slot_tuple_add PySem.F.entry_tuple_add (PySem.F.args_tuple_add_2 _ _)
      (tuple_addW2 t b vs.toArray ws.toArray n n2 dd dd2 sl sl2 (by simpa using hv) (by simpa using hw) (by rw [List.size_toArray,List.size_toArray];exact hsz)) ⟨ho,ho2,?_⟩
    rw [e]
    exact h2 hw
def sIx (n d:Nat):Option Int→Nat
  | none=>d
  | some v=>if v < 0 then (v + (n:Int)).toNat else min v.toNat n
theorem Fx (n d:Nat)(hd:d≤n)(o:Option Int):sIx n d o≤n:=by
  cases o with
  | none=>exact hd
  | some v =>
    show (if v < 0 then (v + (n:Int)).toNat else min v.toNat n)≤n
    by_cases hv:v < 0
    · rw [if_pos hv];omega
    · rw [if_neg hv];exact Nat.min_le_right _ _
theorem xv (v:Int)(n d:Nat):(if v < 0 then max (v + (n:Int)) 0 else min v (n:Int))=((sIx n d (some v):Nat):Int):=by
  show (if v < 0 then max (v + (n:Int)) 0 else min v (n:Int))=(((if v < 0 then (v + (n:Int)).toNat else min v.toNat n):Nat):Int)
  by_cases hv:v < 0
  · simp only [if_pos hv];omega
  · simp only [if_neg hv];omega
theorem vU (lo hi:Option Int)(n:Nat):Builtin.Slice.sliceAdjust lo hi 1 (n:Int)=(((sIx n 0 lo:Nat):Int),((sIx n n hi:Nat):Int)):=by
  have h1 : ¬ ((1:Int) < 0):=by omega
  unfold Builtin.Slice.sliceAdjust
  simp only [h1,if_false]
  refine Prod.ext ?_ ?_
  · cases lo with
    | none=>rfl
    | some v=>exact xv v n 0
  · cases hi with
    | none=>rfl
    | some v=>exact xv v n n
theorem vV (i j:Nat):Builtin.Slice.slicePlaces (i:Int) (j:Int) 1=j - i:=by
  unfold Builtin.Slice.slicePlaces
  have h1:(1:Int) > 0:=by omega
  simp only [h1,if_true,Int.ediv_one]
  split<;>omega
theorem oV {v:Value}{o:Option Int}{Q:Option Int→Shared→Prop}(p:IsPart v o)(h:Q o s):wpAny (model prog w) A (Builtin.Slice.slicePartIndex v) Q E s:=by
  cases p with
  | none=>exact slicePart_none h
  | int i t=>exact slicePart_int h
theorem mx {sl:Addr}{vl vu:Value}{lo hi:Option Int}{n:Nat}{Q:Int × Int × Nat→Shared→Prop}(hs:s.heap.IsSliceOf sl vl vu .none)(pl:IsPart vl lo)(pu:IsPart vu hi)
    (h:Q (((sIx n 0 lo:Nat):Int),1,sIx n n hi - sIx n 0 lo) s):wpAny (model prog w) A (Builtin.Slice.sliceApplied (.ref sl) (pure (n:Int))) Q E s:=by
  obtain⟨os,hos,hcs,hds⟩:=id hs
  unfold Builtin.Slice.sliceApplied Builtin.Slice.sliceFields
  refine wpAny_bind (wpAny_bind (wpAny_field hos hds (x:=vl) rfl (wpAny_bind (wpAny_field hos hds (x:=vu) rfl (wpAny_bind (wpAny_field hos hds (x:=.none) rfl (wpAny_pure ?_)))))))
  refine wpAny_bind (slicePart_none ?_)
  show wpAny _ _ (if ((1:Int) == 0)=true then _ else _) _ _ s
  rw [if_neg (by decide)]
  refine wpAny_bind (oV pl (wpAny_bind (oV pu (wpAny_bind (wpAny_pure ?_)))))
  show wpAny _ _ (match Builtin.Slice.sliceAdjust lo hi 1 (n:Int) with|(lo,hi)=>pure (lo,(1:Int),Builtin.Slice.slicePlaces lo hi 1)) _ _ s
  rw [vU lo hi n]
  show wpAny _ _ (pure (((sIx n 0 lo:Nat):Int),(1:Int),Builtin.Slice.slicePlaces ((sIx n 0 lo:Nat):Int) ((sIx n n hi:Nat):Int) 1)) _ _ s
  rw [vV]
  exact wpAny_pure h
theorem Ax (xs:Array Value)(i k:Nat):((List.range k).filterMap fun (m:Nat)=>xs[((i:Int) + (m:Int) * 1).toNat]?).toArray=((xs.toList.drop i).take k).toArray:=by
  have e:(fun (m:Nat)=>xs[((i:Int) + (m:Int) * 1).toNat]?)=fun m=>xs[i + m]? := by
    funext m
    have:((i:Int) + (m:Int) * 1).toNat=i + m:=by omega
    rw [this]
  rw [e]
  have:=pick_run xs i k
  rw [List.filterMap_map] at this
  have e2:((fun x=>xs[x]?) ∘ fun x=>i + x)=fun m=>xs[i + m]? := rfl
  rw [e2] at this
  rw [this]
theorem getItem_tuple_cut {t sl:Addr}{items:Array Value}{vl vu:Value}{lo hi:Option Int}{Q:Value→Shared→Prop}(ht:IsTup s.heap t items)(hs:s.heap.IsSliceOf sl vl vu .none)(pl:IsPart vl lo)(pu:IsPart vu hi)
    (hw : ¬ (sIx items.size 0 lo=0∧sIx items.size items.size hi=items.size))
    (h:Q (.ref s.heap.objs.size) { s with heap:=s.heap.push { cls:=.type "tuple",data:=.seq ((items.toList.drop (sIx items.size 0 lo)).take (sIx items.size items.size hi - sIx items.size 0 lo)).toArray } })
    (hsz:items.size≤sizeLine):wpAny (model prog w) A (getItem (.ref t) (.ref sl)) Q E s:=by
  have htake:sizeOk (.seq ((items.toList.drop (sIx items.size 0 lo)).take (sIx items.size items.size hi - sIx items.size 0 lo)).toArray):=by
    show ((items.toList.drop (sIx items.size 0 lo)).take (sIx items.size items.size hi - sIx items.size 0 lo)).toArray.size≤sizeLine
    rw [List.size_toArray,List.length_take,List.length_drop,Array.length_toList]
    omega
  have hj:sIx items.size items.size hi≤items.size:=Fx _ _ (ZL _) hi
  obtain⟨os,hos,hcs,hds⟩:=id hs
  have hTs:s.TypeIs (.ref sl) "slice" := ⟨os,hos,hcs⟩
  unfold getItem
  try with_reducible refine wpAny_holding ?_
  first|refine wpAny_bind (wpAny_pure ?_)|skip
  refine wpAny_bind (wpAny_sequenceKey ht.typeIs (by decide) ?_)
  refine wpAny_bind (wpAny_callSpecial?_slot (name:=Str.ofString "__getitem__") ht.typeIs PyProof.Rows.slot_tuple_getitem
    (wpAny_call_entry PyProof.Rows.slot_tuple_getitem ht.typeIs entry_tuple_getitem ?_ (args_tuple_getitem _ _)))
  show wpAny _ _ (Builtin.Tuple.tupleItemsOf (.ref t) >>= _) _ _ s
  refine wpAny_bind (tupleItemsOf_ ht ?_)
  refine wpAny_bind (wpAny_typeOf hTs ?_)
  rw [if_pos (by decide)]
  refine wpAny_bind (mx hs pl pu ?_)
  have hno : ¬ ((((sIx items.size 0 lo:Nat):Int) == 0 && (1:Int) == 1 && (sIx items.size items.size hi - sIx items.size 0 lo) == items.size)=true):=by
    intro q
    rw [Bool.and_eq_true,Bool.and_eq_true] at q
    have q1:((sIx items.size 0 lo:Nat):Int)=0:=eq_of_beq q.1.1
    have q2:sIx items.size items.size hi - sIx items.size 0 lo=items.size:=eq_of_beq q.2
    exact hw ⟨by omega,by omega⟩
  show wpAny _ _ (if (((sIx items.size 0 lo:Nat):Int) == 0 && (1:Int) == 1 && (sIx items.size items.size hi - sIx items.size 0 lo) == items.size)=true then _ else _) _ _ s
  rw [if_neg hno,Ax]
  first
    | exact wpAny_bind (m:=Builtin.Tuple.tupleExact _) (wpAny_newObj_type (wpAny_pure ⟨_,rfl,wpAny_pure h⟩) htake)
    | exact wpAny_bind (m:=Builtin.Tuple.tupleExact _) (wpAny_newObj_type (wpAny_bind (wpAny_pure (wpAny_pure ⟨_,rfl,wpAny_pure h⟩))) htake)
    | exact wpAny_bind (wpAny_bind (m:=Builtin.Tuple.tupleExact _) (wpAny_newObj_type (wpAny_pure (wpAny_pure ⟨_,rfl,wpAny_pure h⟩)) htake))
    | exact wpAny_bind (wpAny_bind (m:=Builtin.Tuple.tupleExact _) (wpAny_newObj_type (wpAny_pure ⟨_,rfl,wpAny_pure h⟩) htake))
end
end HT
namespace L2
open PySem PySem.Spec PyProof.Rows
abbrev TO:=St→Hp→(Option Int→Hp→Prop)→Prop
def PO (X:Cx) (e:Option Expr) (t:TO):Prop :=
  ∀ (pins:List (Addr × Obj)) (s:Shared) (σ:St) (H:Hp) (Q:Option Int→Hp→Prop),Inv X pins σ H s→t σ H Q →
    wpAny (model X.prog X.w) X.A (evalPart e X.env) (fun u s'=>∃ o H',Inv X pins σ H' s'∧IsPart u o∧Q o H') X.xe s
def Dh:TO:=fun _ H Q=>Q none H
def Hm (t:TE):TO:=fun σ H Q=>t σ H fun x H1=>∃ i,x=.int i∧Q (some i) H1
theorem kF {ns:List Int}:∀ {us:List Value},aS (ns.map V.int) us→IntsAre us ns:=by
  induction ns with
  | nil=>intro us r;rw [List.map_nil] at r;cases r;exact .nil
  | cons n ns ih =>
    intro us r
    rw [List.map_cons] at r
    cases r with
    | cons r1 r2 =>
      obtain⟨t,e⟩:=r1
      subst e
      exact .cons n t (ih r2)
section
variable {X:Cx} {e:Expr} {te:TE} {lo hi:Option Expr} {tl th:TO} {pos p2:Pos}
theorem Di:PO X none Dh:=by
  intro pins s σ H Q I h
  rw [evalPart_none]
  exact wpAny_pure ⟨none,H,I,.none,h⟩
theorem Dj (h:PE X e te):PO X (some e) (Hm te):=by
  intro pins s σ H Q I hw
  rw [evalPart_some]
  refine thn (h pins s σ H _ I hw) fun u s1 ⟨x,H1,I1,r1,q1⟩ => ?_
  obtain⟨i,rfl,q⟩:=q1
  obtain⟨t,rfl⟩:=r1
  exact⟨some i,H1,I1,.int i t,q⟩
def SlR (X:Cx) (r:V→Option Int→Option Int→Hp→VK→Prop):Prop :=
  ∀ (pins:List (Addr × Obj)) (s:Shared) (σ:St) (H:Hp) (x:V) (v vl vu:Value) (lo hi:Option Int) (sl:Addr) (Q:VK),Inv X pins σ H s→bP x v→s.heap.IsSliceOf sl vl vu .none→IsPart vl lo→IsPart vu hi→r x lo hi H Q →
    ∃ T id,typeLookup (.type T) "__getitem__" = pure (some (.builtin id))∧s.TypeIs v T∧wpAny (model X.prog X.w) X.A (getItem v (.ref sl)) (EP X pins σ Q) X.xe s
theorem SlR.or {r r':V→Option Int→Option Int→Hp→VK→Prop}(h:SlR X r)(h':SlR X r'):SlR X (fun x lo hi H Q=>r x lo hi H Q∨r' x lo hi H Q):=by
  intro pins s σ H x v vl vu lo hi sl Q I rx hs pl pu q
  rcases q with q|q
  · exact h pins s σ H x v vl vu lo hi sl Q I rx hs pl pu q
  · exact h' pins s σ H x v vl vu lo hi sl Q I rx hs pl pu q
def tSl (r:V→Option Int→Option Int→Hp→VK→Prop) (te:TE) (tl th:TO):TE:=fun σ H Q=>te σ H fun x H1=>tl σ H1 fun l H2=>th σ H2 fun u H3=>r x l u H3 Q
theorem Ay {r:V→Option Int→Option Int→Hp→VK→Prop}(hr:SlR X r)(he:PE X e te)(hl:PO X lo tl)(hu:PO X hi th):PE X (.Subscript e (.Slice lo hi none p2) pos) (tSl r te tl th):=by
  intro pins s σ H Q I h
  refine Subscript_ (thn (he pins s σ H _ I h) fun v s1 ⟨x,H1,I1,r1,q1⟩ => ?_)
  refine wpAny_Slice (thn (hl pins s1 σ H1 _ I1 q1) fun vl s2 ⟨l,H2,I2,pl,q2⟩=>thn (hu pins s2 σ H2 _ I2 q2) fun vu s3 ⟨u,H3,I3,pu,q3⟩ => ?_)
  rw [evalPart_none]
  refine wpAny_pure ?_
  have I4:Inv X pins σ H3 { s3 with heap:=s3.heap.push { cls:=.type "slice",data:=.fields #[vl,vu,.none] } }:=I3.kept (t':=s3.toks) fun b ob q=>ZH _ q
  obtain⟨T,id,hT,ht,hg⟩:=hr pins { s3 with heap:=s3.heap.push { cls:=.type "slice",data:=.fields #[vl,vu,.none] } } σ H3 x v vl vu l u s3.heap.objs.size Q I4 r1 (Heap.IsSliceOf.new ..) pl pu q3
  show wpAny (model X.prog X.w) X.A (subscriptTail e (.Slice lo hi none p2) v (.ref s3.heap.objs.size)) (EP X pins σ Q) X.xe { s3 with heap:=s3.heap.push { cls:=.type "slice",data:=.fields #[vl,vu,.none] } }
  exact tail_any (ops:=[.ref s3.heap.objs.size,v]) ht hT hg (by with_unfolding_all rfl)
def oW (xs:List V) (lo hi:Option Int):List V:=(xs.drop (HT.sIx xs.length 0 lo)).take (HT.sIx xs.length xs.length hi - HT.sIx xs.length 0 lo)
theorem nH (xs:List V)(lo hi:Option Int):(oW xs lo hi).length≤xs.length:=by
  unfold oW
  rw [List.length_take,List.length_drop]
  omega
def IL (K:ZX):V→Option Int→Option Int→Hp→VK→Prop:=fun x lo hi H Q=>∃ a xs,x=.ref a∧SqT K H a xs ∧
  ¬ (HT.sIx xs.length 0 lo=0∧HT.sIx xs.length xs.length hi=xs.length) ∧ ∀ p,H p=none→Q (.ref p) (upd H p (.tup (oW xs lo hi)))
theorem Fy:SlR X (IL X.K):=by
  intro pins s σ H x v vl vu lo hi sl Q I rx hs pl pu h
  obtain⟨a,xs,rfl,hx,hw,q⟩:=h
  cases rx
  obtain⟨its,r,ht,hz⟩:=I.tuple hx
  have hlen:its.toArray.size=xs.length:=by rw [List.size_toArray];exact r.length.symm
  refine⟨"tuple",_,PyProof.Rows.slot_tuple_getitem.lookup,ht.typeIs,?_⟩
  refine HT.getItem_tuple_cut ht hs pl pu (by rw [hlen];exact hw) ?_ (by rw [hlen];exact hz)
  rw [hlen]
  refine⟨.ref s.heap.objs.size,_,I.laid (t':=s.toks) (o:=.tup (oW xs lo hi)) (fun b ob q=>ZH _ q) (ZL _) ?_,rfl,q _ (I.hok.fresh (ZL _))⟩
  exact⟨ZM (nH xs lo hi) hz,_,(r.drop (HT.sIx xs.length 0 lo)).take (HT.sIx xs.length xs.length hi - HT.sIx xs.length 0 lo),IsTup.new _ _⟩
def Hn (K:ZX):R2:=fun x y H Q=>∃ a b ns ms,x=.ref a∧y=.ref b∧SqT K H a (ns.map V.int)∧SqT K H b (ms.map V.int)∧Q (.bl (HT.lexLt ns ms)) H
theorem Fz (hu:X.A.units < cLine):OpR X (compareOp .Lt) (Hn X.K):=by
  intro pins s σ H x y v u Q I rx ry h
  obtain⟨a,b,ns,ms,rfl,rfl,ha,hb,q⟩:=h
  cases rx
  cases ry
  obtain⟨its,r1,p1,_⟩:=I.tuple ha
  obtain⟨its2,r2,p2,_⟩:=I.tuple hb
  have i1:IntsAre its.toArray.toList ns:=kF r1
  have i2:IntsAre its2.toArray.toList ms:=kF r2
  exact HT.lt_tupInts p1 p2 i1 i2 hu ⟨.bl (HT.lexLt ns ms),H,I,rfl,q⟩
def uh (K:ZX):R2:=fun x y H Q=>∃ a b xs ys,x=.ref a∧y=.ref b∧SqT K H a xs∧SqT K H b ys∧xs≠[]∧xs.length + ys.length≤sizeLine ∧
  (ys=[]→Q (.ref a) H)∧(ys≠[] → ∀ p,H p=none→Q (.ref p) (upd H p (.tup (xs++ys))))
theorem aS.nil_iff {xs:List V}{us:List Value}(r:aS xs us):us=[] ↔ xs=[]:=by
  cases r with
  | nil=>simp
  | cons _ _=>simp
theorem xw:OpR X (binaryOp .Add) (uh X.K):=by
  intro pins s σ H x y v u Q I rx ry h
  obtain⟨a,b,xs,ys,rfl,rfl,ha,hb,hx,hz,q1,q2⟩:=h
  cases rx
  cases ry
  obtain⟨its,r1,p1,_⟩:=I.tuple ha
  obtain⟨its2,r2,p2,_⟩:=I.tuple hb
  refine HT.cat_tup p1 p2 (fun z=>hx (r1.nil_iff.mp z)) (fun z=>⟨.ref a,H,I,rfl,q1 (r2.nil_iff.mp z)⟩) (fun z => ?_) (by rw [← r1.length,← r2.length];exact hz)
  refine⟨.ref s.heap.objs.size,_,I.laid (t':=s.toks) (o:=.tup (xs++ys)) (fun b ob q=>ZH _ q) (ZL _) ?_,rfl,q2 (fun w=>z (r2.nil_iff.mpr w)) _ (I.hok.fresh (ZL _))⟩
  exact⟨by rw [ZB];exact hz,_,r1.append r2,IsTup.new _ _⟩
end
end L2
namespace L2
open PySem PySem.Spec PyProof.Rows
def ixN (n:Nat) (i:Int):Option Nat:=if 0≤i then (if i < n then some i.toNat else none) else if -(n:Int)≤i then some (i + n).toNat else none
def atI {α : Type} (xs:List α) (i:Int):Option α := (ixN xs.length i).bind fun j=>xs[j]?
theorem xx {n:Nat}{i:Int}{j:Nat}(h:ixN n i=some j):seqIndex? i n=some j∧j < n ∧ -(n:Int)≤i∧i < n:=by
  unfold ixN at h
  by_cases h0:0≤i
  · rw [if_pos h0] at h
    by_cases h1:i < n
    · rw [if_pos h1] at h
      have e:i.toNat=j:=ZT h
      exact⟨by rw [seqIndex_of h0 h1,e],by omega,by omega,h1⟩
    · rw [if_neg h1] at h;cases h
  · rw [if_neg h0] at h
    by_cases h1 : -(n:Int)≤i
    · rw [if_pos h1] at h
      have e:(i + n).toNat=j:=ZT h
      exact⟨by rw [seqIndex_neg (by omega) h1,e],by omega,h1,by omega⟩
    · rw [if_neg h1] at h;cases h
theorem sw {α : Type}{xs:List α}{i:Int}{v : α}(h:atI xs i=some v):∃ j,seqIndex? i xs.length=some j∧xs[j]? = some v∧j < xs.length ∧ -(xs.length:Int)≤i∧i < xs.length:=by
  unfold atI at h
  cases e:ixN xs.length i with
  | none=>rw [e] at h;cases h
  | some j =>
    rw [e] at h
    obtain⟨h1,h2,h3,h4⟩:=xx e
    exact⟨j,h1,h,h2,h3,h4⟩
theorem fJ {α : Type}{xs:List α}{j:Nat}{v : α}(h:xs[j]? = some v):atI xs (j:Int)=some v:=by
  have hj:j < xs.length:=(List.getElem?_eq_some_iff.mp h).1
  have e:ixN xs.length (j:Int)=some j:=by
    unfold ixN
    rw [if_pos (by omega),if_pos (by omega)];simp
  unfold atI;rw [e];exact h
def sx (b:Expr):Prop:=∀ o i,subscripted b false o i=operate [o,i] (getItem o i)
def IxR (X:Cx) (r:R2):Prop :=
  ∀ (value slice:Expr) (pins:List (Addr × Obj)) (s:Shared) (σ:St) (H:Hp) (x y:V) (v u:Value) (Q:VK),Inv X pins σ H s→bP x v→bP y u→r x y H Q →
    subscripted slice false v u=operate [v,u] (getItem v u)→wpAny (model X.prog X.w) X.A (subscriptTail value slice v u) (EP X pins σ Q) X.xe s
def MtR (X:Cx) (id:String) (r:V→List V→Hp→VK→Prop):Prop :=
  ∀ (pins:List (Addr × Obj)) (s:Shared) (σ:St) (H:Hp) (x:V) (xs:List V) (v:Value) (us:List Value) (Q:VK),Inv X pins σ H s→bP x v→aS xs us→r x xs H Q →
    wpAny (model X.prog X.w) X.A (call (.builtin id) (v :: us)) (EP X pins σ Q) X.xe s
section
variable {X:Cx} {a b:Expr} {ta tb:TE} {pos:Pos}
theorem IxR.or {r r':R2}(h:IxR X r)(h':IxR X r'):IxR X (fun x y H Q=>r x y H Q∨r' x y H Q):=by
  intro value slice pins s σ H x y v u Q I rx ry q hs
  rcases q with q|q
  · exact h value slice pins s σ H x y v u Q I rx ry q hs
  · exact h' value slice pins s σ H x y v u Q I rx ry q hs
theorem ED {r:R2}(hr:IxR X r)(ha:PE X a ta)(hb:PE X b tb)(hs:sx b):PE X (.Subscript a b pos) (tOp r ta tb):=by
  intro pins s σ H Q I h
  exact Subscript_ (Fp ha hb I h fun v u s2 x y H2 I2 rx ry q=>hr a b pins s2 σ H2 x y v u Q I2 rx ry q (hs _ _))
def Ho (K:ZX):R2:=fun x y H Q=>∃ p xs i v,x=.ref p∧y=.int i∧SqL K H p xs∧atI xs i=some v∧Q v H
def Hq (K:ZX):R2:=fun x y H Q=>∃ p xs i v,x=.ref p∧y=.int i∧SqT K H p xs∧atI xs i=some v∧Q v H
def Hr:R2:=fun x y H Q=>∃ z i c,x=.str z∧y=.int i∧z.length≤sizeLine∧atI z.cps.toList i=some c∧Q (.str ⟨#[c]⟩) H
theorem xy:IxR X (Ho X.K):=by
  intro value slice pins s σ H x y v u Q I rx ry h hs
  obtain⟨p,xs,i,z,rfl,rfl,hq,he,q⟩:=h
  cases rx
  obtain⟨t,rfl⟩:=ry
  obtain⟨its,r,pl,hz⟩:=I.list hq
  obtain⟨j,h1,h2,h3,h4,h5⟩:=sw he
  obtain⟨w,ew,rw'⟩:=r.get h2
  have hl:=r.length
  have hn:=oQ
  have fin:EP X pins σ Q w s:=⟨z,H,I,rw',q⟩
  by_cases h0:0≤i
  · have hj:i.toNat=j:=by
      rw [seqIndex_of h0 h5] at h1
      exact ZT h1
    exact item_listR pl.isList h0 (by omega) (by rw [hj];simpa using ew) fin hs
  · have hj:(i + (its.toArray.size:Int)).toNat=j:=by
      rw [seqIndex_neg (by omega) h4] at h1
      rw [List.size_toArray,← hl]
      exact ZT h1
    exact subscriptTail_builtinR (x:=w) pl.isList.typeIs slot_list_getitem.lookup
      (wpAny_getItem_list_neg (Q:=fun r s'=>r=w∧EP X pins σ Q r s') pl.isList (by omega) (by rw [List.size_toArray]<;>omega) (by omega) (by rw [hj];simpa using ew) ⟨rfl,fin⟩) hs
theorem FA:IxR X (Hq X.K):=by
  intro value slice pins s σ H x y v u Q I rx ry h hs
  obtain⟨p,xs,i,z,rfl,rfl,hq,he,q⟩:=h
  cases rx
  obtain⟨t,rfl⟩:=ry
  obtain⟨its,r,pl,hz⟩:=I.tuple hq
  obtain⟨j,h1,h2,h3,h4,h5⟩:=sw he
  obtain⟨w,ew,rw'⟩:=r.get h2
  have hl:=r.length
  have hn:=oQ
  have fin:EP X pins σ Q w s:=⟨z,H,I,rw',q⟩
  exact subscriptTail_builtinR (x:=w) pl.typeIs slot_tuple_getitem.lookup
    (getItem_tuple (j:=j) (Q:=fun r s'=>r=w∧EP X pins σ Q r s') pl (by omega) (by omega) (by rw [List.size_toArray,← hl];exact h1) (by simpa using ew) ⟨rfl,fin⟩) hs
theorem FB:IxR X Hr:=by
  intro value slice pins s σ H x y v u Q I rx ry h hs
  obtain⟨z,i,c,rfl,rfl,hz,he,q⟩:=h
  obtain⟨t,rfl⟩:=rx
  obtain⟨t',rfl⟩:=ry
  obtain⟨j,h1,h2,h3,h4,h5⟩:=sw he
  have hl:z.cps.toList.length=z.length:=by simp [Str.length]
  rw [hl] at h1 h4 h5
  have hn:=oQ
  exact tail_any (typeIs_str s z t) slot_str_getitem.lookup (getItem_str (c:=c) (by
    have e1:decide (i < -(2 ^ 63:Int))=false:=decide_eq_false (by omega)
    have e2:decide (i ≥ 2 ^ 63)=false:=decide_eq_false (by omega)
    rw [e1,e2,Bool.or_false]) (by rw [h1];simpa using h2) ⟨.str ⟨#[c]⟩,H,I.tok _,⟨_,rfl⟩,q⟩) hs
def rIx (K:ZX):R2:=fun x y H Q=>Ho K x y H Q∨Hq K x y H Q∨Hr x y H Q
theorem FC:IxR X (rIx X.K):=xy.or (FA.or FB)
theorem vW (its:List Value) (n j:Nat) (u:Value):Obj.mapSeq (·.setIfInBounds j u) { cls:=.type "list",data:=.seq its.toArray n } = { cls:=.type "list",data:=.seq (its.set j u).toArray n }:=by
  simp [Obj.mapSeq]
theorem Inv.lst {pins:List (Addr × Obj)}{σ:St}{H:Hp}{s:Shared}{p:Addr}{xs:List V}(I:Inv X pins σ H s)(h:H p=some (.lst xs)) :
    ∃ (its:List Value) (n:Nat),aS xs its∧s.heap.get? p=some { cls:=.type "list",data:=.seq its.toArray n } ∧ xs.length≤sizeLine:=by
  obtain⟨z,its,n,r,e⟩:=I.hok p _ h
  exact⟨its,n,r,e,z⟩
theorem Inv.lstUpd {pins:List (Addr × Obj)}{σ:St}{H:Hp}{s:Shared}{p:Addr}{xs ys:List V}{its its':List Value}{n n':Nat}{f:Obj→Obj}(I:Inv X pins σ H s)(h:H p=some (.lst xs))
    (ho:s.heap.get? p=some { cls:=.type "list",data:=.seq its.toArray n }) (hf:f { cls:=.type "list",data:=.seq its.toArray n } = { cls:=.type "list",data:=.seq its'.toArray n' }) (r:aS ys its') (hz:ys.length≤sizeLine) (t:Nat) :
    Inv X pins σ (upd H p (.lst ys)) { s with heap:=s.heap.update p f,toks:=t }:=by
  have e:(s.heap.update p f).get? p=some { cls:=.type "list",data:=.seq its'.toArray n' }:=by
    rw [Heap.get?_update_self f ho (by rw [hf]<;>rfl),hf]
  refine I.write (x:=p) (e:=p) (by rw [h];trivial) (.inl rfl) (fun b u hb q=>(Heap.get?_update_other _ _ (Ne.symm hb)).trans q) ⟨_,e⟩ ?_
  exact⟨hz,its',n',r,e⟩
def Hs:V→V→V→Hp→(Hp→Prop)→Prop:=fun o i v H Q=>∃ p xs k j,o=.ref p∧i=.int k∧H p=some (.lst xs)∧ixN xs.length k=some j∧Q (upd H p (.lst (xs.set j v)))
theorem Az:Fi X Hs:=by
  intro pins s σ H o i v ov iv u Q I ro ri rv h
  obtain⟨p,xs,k,j,rfl,rfl,hp,hj,q⟩:=h
  cases ro
  obtain⟨t,rfl⟩:=ri
  obtain⟨its,n,r,ho,hz⟩:=I.lst hp
  obtain⟨h1,h2,h3,h4⟩:=xx hj
  have hl:=r.length
  have hn:=oQ
  have I':Inv X pins σ (upd H p (.lst (xs.set j v))) { s with heap:=s.heap.update p (Obj.mapSeq (·.setIfInBounds j u)) } :=
    I.lstUpd hp ho (vW its n j u) (r.set rv j) (by rw [List.length_set];exact hz) s.toks
  by_cases h0:0≤k
  · have hk:k.toNat=j:=by
      rw [seqIndex_of h0 h4] at h1
      exact ZT h1
    exact PySem.W.ki_setAt ho h0 (by omega) (by rw [List.size_toArray,← hl];exact h4) (by rw [hk];exact⟨_,I',q⟩)
  · have hk:(k + (its.toArray.size:Int)).toNat=j:=by
      rw [seqIndex_neg (by omega) h3] at h1
      rw [List.size_toArray,← hl]
      exact ZT h1
    exact PySem.W.ki_setBack ho (by omega) (by rw [List.size_toArray,← hl];exact h3) (by omega) (by rw [hk];exact⟨_,I',q⟩)
theorem sy (lo hi:Option Int)(n:Nat):(sliceBounds lo hi none n).1=((HT.sIx n 0 lo:Nat):Int)∧(sliceBounds lo hi none n).2.1=((HT.sIx n n hi:Nat):Int)∧(sliceBounds lo hi none n).2.2=1:=by
  refine⟨?_,?_,rfl⟩
  · cases lo with
    | none=>simp [sliceBounds,HT.sIx]
    | some i =>
      simp only [sliceBounds,HT.sIx,Option.getD_none,show (1:Int) > 0 by decide,if_true]
      by_cases h:i < 0
      · simp only [h,if_true]<;>omega
      · simp only [h,if_false]<;>omega
  · cases hi with
    | none=>simp [sliceBounds,HT.sIx]
    | some i =>
      simp only [sliceBounds,HT.sIx,Option.getD_none,show (1:Int) > 0 by decide,if_true]
      by_cases h:i < 0
      · simp only [h,if_true]<;>omega
      · simp only [h,if_false]<;>omega
theorem qy (its:List Value)(lo hi:Option Int):slicePick its.toArray lo hi none=((its.drop (HT.sIx its.length 0 lo)).take (HT.sIx its.length its.length hi - HT.sIx its.length 0 lo)).toArray:=by
  obtain⟨h1,h2,h3⟩:=sy lo hi its.toArray.size
  unfold slicePick
  rw [h1,h2,h3]
  simp only [sliceRange_one,pick_run,List.size_toArray]<;>rfl
def Ht (K:ZX):V→Option Int→Option Int→Hp→VK→Prop:=fun x lo hi H Q=>∃ a xs,x=.ref a∧SqL K H a xs ∧ ∀ p,H p=none→Q (.ref p) (upd H p (.lst (oW xs lo hi)))
theorem Dk:SlR X (Ht X.K):=by
  intro pins s σ H x v vl vu lo hi sl Q I rx hs pl pu h
  obtain⟨a,xs,rfl,hx,q⟩:=h
  cases rx
  obtain⟨its,r,ht,hz⟩:=I.list hx
  have hlen:=r.length
  refine⟨"list",_,slot_list_getitem.lookup,ht.isList.typeIs,?_⟩
  refine wpAny_getItem_list_slice ht.isList hs pl pu .none (by simp) ?_ (by rw [List.size_toArray]<;>omega)
  rw [qy,← hlen]
  refine⟨.ref s.heap.objs.size,_,I.laid (t':=s.toks) (o:=.lst (oW xs lo hi)) (fun b ob q=>ZH _ q) (ZL _) ?_,rfl,q _ (I.hok.fresh (ZL _))⟩
  exact⟨ZM (nH xs lo hi) hz,_,0,(r.drop (HT.sIx xs.length 0 lo)).take (HT.sIx xs.length xs.length hi - HT.sIx xs.length 0 lo),ZJ _ rfl⟩
theorem sA:fX X (.builtin "len") (fun xs H Q=>∃ p ys,xs=[.ref p]∧(SqL X.K H p ys∨SqT X.K H p ys)∧Q (.int ys.length) H):=by
  intro pins s σ H xs us Q I r h
  obtain⟨p,ys,rfl,hq,q⟩:=h
  obtain⟨u,rfl,rx⟩:=Au r
  cases rx
  have hn:=oQ
  rcases hq with hq|hq
  · obtain⟨its,r',pl,hz⟩:=I.list hq
    have hlen:=r'.length
    exact Calls.call_len_list pl.isList (by simp only [List.size_toArray]<;>omega) ⟨.int ys.length,H,I.tok _,⟨s.toks + 1,by rw [List.size_toArray,hlen]⟩,q⟩
  · obtain⟨its,r',pl,hz⟩:=I.tuple hq
    have hlen:=r'.length
    exact len_tuple pl (by simp only [List.size_toArray]<;>omega) ⟨.int ys.length,H,I.tok _,⟨s.toks + 1,by rw [List.size_toArray,hlen]⟩,q⟩
theorem sB:fX X (.type "list") (fun xs H Q=>∃ p ys,xs=[.ref p]∧(SqL X.K H p ys∨SqT X.K H p ys) ∧ ∀ l,H l=none→Q (.ref l) (upd H l (.lst ys))):=by
  intro pins s σ H xs us Q I r h
  obtain⟨p,ys,rfl,hq,q⟩:=h
  obtain⟨u,rfl,rx⟩:=Au r
  cases rx
  have fin:∀ (its:List Value),aS ys its→ys.length≤sizeLine → ∀ (h':Heap) (c':Nat),(∀ b o',s.heap.get? b=some o'→h'.get? b=some o') →
      h'.get? s.heap.objs.size=some { cls:=.type "list",dict:=none,data:=.seq its.toArray c',slots := #[] } → EP X pins σ Q (.ref s.heap.objs.size) { s with heap:=h' }:=fun its r' hz h' c' kp e =>
    ⟨.ref s.heap.objs.size,_,I.laid (t':=s.toks) kp (ZL _) (show em X.prog X.w _ h' _ (.lst ys) from ⟨hz,its,c',r',e⟩),rfl,q _ (I.hok.fresh (ZL _))⟩
  rcases hq with hq|hq
  · obtain⟨its,r',pl,hz⟩:=I.list hq
    have hlen:=r'.length
    obtain⟨o,ho,hc,n,hd⟩:=pl.isList
    exact call_list_seq p (.inl rfl) ho hc hd (fun h' c' kp e=>fin its r' hz h' c' kp e) (by simp only [List.size_toArray]<;>omega)
  · obtain⟨its,r',pl,hz⟩:=I.tuple hq
    have hlen:=r'.length
    obtain⟨o,ho,hc,n,hd⟩:=pl
    exact call_list_seq p (.inr rfl) ho hc hd (fun h' c' kp e=>fin its r' hz h' c' kp e) (by simp only [List.size_toArray]<;>omega)
theorem qz:fX X (.type "tuple") (fun xs H Q=>∃ p ys,xs=[.ref p]∧((SqL X.K H p ys ∧ ∀ l,H l=none→Q (.ref l) (upd H l (.tup ys)))∨(SqT X.K H p ys∧Q (.ref p) H))):=by
  intro pins s σ H xs us Q I r h
  obtain⟨p,ys,rfl,h⟩:=h
  obtain⟨u,rfl,rx⟩:=Au r
  cases rx
  rcases h with ⟨hq,q⟩|⟨hq,q⟩
  · obtain⟨its,r',pl,hz⟩:=I.list hq
    have hlen:=r'.length
    refine call_tuple_list pl.isList (fun h' kp => ?_) (by simp only [List.size_toArray]<;>omega)
    have I1:Inv X pins σ H { s with heap:=h' }:=I.kept (t':=s.toks) kp
    have I2:Inv X pins σ (upd H h'.objs.size (.tup ys)) { s with heap:=h'.push { cls:=.type "tuple",data:=.seq its.toArray } } :=
      I1.laid (t':=s.toks) (fun b o e=>ZH _ e) (ZL _) (show em X.prog X.w _ _ _ (.tup ys) from ⟨hz,its,r',IsTup.new _ _⟩)
    exact⟨.ref h'.objs.size,_,I2,rfl,q _ (I1.hok.fresh (ZL _))⟩
  · obtain⟨its,r',pl,hz⟩:=I.tuple hq
    exact call_tuple_same pl ⟨.ref p,H,I,rfl,q⟩
def tyV (K:ZX) (T:String) (x:V) (H:Hp):Prop:=match x with
  | .str _=>T = "str"
  | .int _=>T = "int"
  | .ref p=>(T = "list" ∧ ∃ xs,SqL K H p xs)∨(T = "tuple" ∧ ∃ o,K.lookup p=some o∧o.cls=.type "tuple" ∧ o.dict=none) ∨
      (T = "dict" ∧ ((∃ kvs,H p=some (.dK kvs)) ∨ ∃ kvs,H p=some (.dT kvs)))∨(T = "set" ∧ ∃ S n,H p=some (.set S n))
  | _=>False
theorem FD {pins:List (Addr × Obj)}{σ:St}{H:Hp}{s:Shared}{T:String}{x:V}{v:Value}(I:Inv X pins σ H s)(r:bP x v)(ty:tyV X.K T x H) :
    s.TypeIs v T ∧ ∀ a,v=.ref a → ∃ ob,s.heap.get? a=some ob∧ob.dict=none:=by
  cases x with
  | str z =>
    obtain⟨t,rfl⟩:=r
    cases (show T = "str" from ty)
    exact⟨typeIs_str s z t,fun _ e=>nomatch e⟩
  | int i =>
    obtain⟨t,rfl⟩:=r
    cases (show T = "int" from ty)
    exact⟨typeIs_int s i t,fun _ e=>nomatch e⟩
  | ref p =>
    cases r
    rcases ty with ⟨rfl,xs,hq⟩|⟨rfl,o,hk,hc,hd⟩|⟨rfl,hk⟩|⟨rfl,S,n,hk⟩
    · obtain⟨its,_,pl,_⟩:=I.list hq
      refine⟨pl.isList.typeIs,fun a e => ?_⟩
      cases e
      obtain⟨o,n,e,c,hd,_⟩:=pl
      exact⟨o,e,hd⟩
    · refine⟨⟨o,I.kIn p o hk,hc⟩,fun a e => ?_⟩
      cases e
      exact⟨o,I.kIn _ o hk,hd⟩
    · have z:∃ o,s.heap.get? p=some o∧o.ExactDict:=by
        rcases hk with ⟨kvs,hk⟩|⟨kvs,hk⟩
        · obtain⟨_,_,_,_,o,_,_,e,ex,_⟩:=I.hok p _ hk
          exact⟨o,e,ex⟩
        · obtain⟨_,_,_,_,o,_,_,e,ex,_⟩:=I.hok p _ hk
          exact⟨o,e,ex⟩
      obtain⟨o,e,ex⟩:=z
      refine⟨⟨o,e,ex.1⟩,fun a e2 => ?_⟩
      cases e2
      exact⟨o,e,ex.2.1⟩
    · obtain⟨o,_,_,_,e,ex,_⟩:=I.hok p _ hk
      refine⟨⟨o,e,ex.1⟩,fun a e2 => ?_⟩
      cases e2
      exact⟨o,e,ex.2.1⟩
  | _=>exact False.elim ty
def tBM (K:ZX) (T:String) (r:V→List V→Hp→VK→Prop) (to:TE) (t:TA):TE:=fun σ H Q=>to σ H fun x H1=>tyV K T x H1∧t σ H1 fun xs H2=>r x xs H2 Q
variable {o e:Expr} {es:List Expr} {to:TE} {t:TA} {name:Str} {apos cpos:Pos} {T id:String} {r:V→List V→Hp→VK→Prop}
theorem EE (pa:PlainAttrs T) (slot:Slot T name id) (hty:typeOf (.builtin id)=pure (.type "method_descriptor")) (hm:MtR X id r) (ho:PE X o to) (ha:PA X (e :: es) t)
    (hbase:attributeBase o name X.env (eval o X.env)=eval o X.env:=by rfl)
    (hfew:((backTo cpos (starEach (e :: es) X.env)).all (fun x => !x.1) && (backToKw cpos (keywordEach [] X.env)).all (fun x=>x.1.isSome)
      && decide ((e :: es).length + ([] : List Keyword).length + (if ([] : List Keyword).isEmpty then 0 else 1) < 30))=true:=by rfl)
    (hline:(apos.endLine == cpos.line)=true:=by rfl) (hs:starEach (e :: es) X.env=(false,eval e X.env) :: starEach es X.env:=by rfl) (hplain:(backTo cpos (starEach es X.env)).any (·.1)=false:=by rfl) :
    PE X (.Call (.Attribute o name apos) (e :: es) [] cpos) (tBM X.K T r to t):=by
  intro pins s σ H Q I h
  refine wpAny_Call_method_late hbase hfew hline rfl (thn (ho pins s σ H _ I h) fun v s1 ⟨x,H1,I1,r1,ty,q1⟩ => ?_)
  obtain⟨h1,h2⟩:=FD I1 r1 ty
  refine⟨T,id,pa,slot,hty,h1,h2,?_⟩
  have hA:=ha cpos pins s1 σ H1 _ I1 q1
  rw [hs] at hA ⊢
  refine Calls.callWith_builtin (by show (false || (backTo cpos (starEach es X.env)).any (·.1))=false;rw [hplain]<;>rfl) (Calls.evalArgs_plain ?_)
  exact thn hA fun us s2 ⟨vs,H2,I2,r2,q2⟩=>hm pins s2 σ H2 x vs v us Q I2 r1 r2 q2
end
end L2
namespace L2
open PySem PySem.Spec PyProof.Rows
def MtM (X:Cx) (id:String) (r:V→List V→Hp→VK→Prop):Prop :=
  ∀ (pins:List (Addr × Obj)) (s:Shared) (σ:St) (H:Hp) (x:V) (xs:List V) (v:Value) (us:List Value) (Q:VK),Inv X pins σ H s→bP x v→aS xs us→r x xs H Q →
    wpAny (model X.prog X.w) X.A (call (.builtin id) (v :: us)) (EP X pins σ Q) X.xe s
theorem aS.one:∀ {x:V} {us:List Value},aS [x] us → ∃ u,us=[u]∧bP x u
  | _,_,.cons r .nil=>⟨_,rfl,r⟩
theorem aS.two:∀ {x y:V} {us:List Value},aS [x,y] us → ∃ u v,us=[u,v]∧bP x u∧bP y v
  | _,_,_,.cons r (.cons q .nil)=>⟨_,_,rfl,r,q⟩
theorem aS.rep {xs:List V}{us:List Value}(h:aS xs us):∀ k:Nat,aS (List.replicate k xs).flatten (List.replicate k us).flatten
  | 0=>.nil
  | k + 1=>by
    rw [List.replicate_succ,List.replicate_succ,List.flatten_cons,List.flatten_cons]
    exact aS.append h (aS.rep h k)
theorem rm (its:List Value):∀ (k:Nat) (acc:List Value),
    List.foldl (fun x1 x2=>x1++x2) acc.toArray (List.replicate k its.toArray)=(acc++(List.replicate k its).flatten).toArray
  | 0,acc=>by simp
  | k + 1,acc=>by
    have e:acc.toArray++its.toArray=(acc++its).toArray:=by simp
    have e2:(acc++its)++(List.replicate k its).flatten=acc++(List.replicate (k + 1) its).flatten:=by
      rw [List.replicate_succ,List.flatten_cons,ZU]
    rw [← e2,← rm its k (acc++its),← e,List.replicate_succ,List.foldl_cons]
section
variable {X:Cx} {pins:List (Addr × Obj)} {σ:St} {H:Hp} {s:Shared} {l b:Addr} {xs ys zs:List V}
theorem Inv.lset {its its':List Value}{n:Nat}{f:Array Value→Array Value}{t':Nat}(I:Inv X pins σ H s)(hH:H l=some (.lst xs))
    (e:s.heap.get? l=some { cls:=.type "list",data:=.seq its.toArray n }) (hf:f its.toArray=its'.toArray) (hv:aS ys its') (hz:ys.length≤sizeLine) :
    Inv X pins σ (upd H l (.lst ys)) { s with heap:=s.heap.update l (Obj.mapSeq f),toks:=t' }:=by
  have q:=PySem.IsL.update e f
  rw [hf] at q
  refine I.write (x:=l) (e:=l) (by rw [hH];exact trivial) (.inl rfl) (fun b' u hb hu=>(Heap.get?_update_other s.heap (Obj.mapSeq f) (Ne.symm hb)).trans hu) ⟨_,q⟩ ?_
  exact⟨hz,its',_,hv,q⟩
theorem Inv.lnew {its:List Value}{t':Nat}(I:Inv X pins σ H s)(hv:aS ys its)(hz:ys.length≤sizeLine) :
    Inv X pins σ (upd H s.heap.objs.size (.lst ys)) { s with heap:=s.heap.push { cls:=.type "list",data:=.seq its.toArray },toks:=t' } :=
  I.laid (fun _ _ q=>ZH _ q) (ZL _) ⟨hz,its,0,hv,ZJ _ rfl⟩
theorem Inv.fresh (I:Inv X pins σ H s):H s.heap.objs.size=none:=I.hok.fresh (ZL _)
theorem Inv.lstM (I:Inv X pins σ H s) (hH:H l=some (.lst xs)):xs.length≤sizeLine ∧ ∃ (its:List Value) (n:Nat),aS xs its∧xs.length=its.length∧s.heap.get? l=some { cls:=.type "list",data:=.seq its.toArray n }:=by
  obtain⟨z,its,n,r,e⟩:=I.hok l _ hH
  exact⟨z,its,n,r,r.length,e⟩
theorem ui {n:Nat}(h:n≤sizeLine):Builtin.List.listTooLong n=false:=by
  unfold Builtin.List.listTooLong
  exact decide_eq_false (by omega)
end
section
variable {X:Cx}
def Dl:V→List V→Hp→VK→Prop:=fun x vs H Q=>∃ l xs y,x=.ref l∧vs=[y]∧H l=some (.lst xs)∧xs.length < sizeLine∧Q .non (upd H l (.lst (xs++[y])))
theorem rn:MtM X "list.append" Dl:=by
  intro pins s σ H x vs v us Q I rx rv h
  obtain⟨l,xs,y,rfl,rfl,hH,hz,q⟩:=h
  cases rx
  obtain⟨u,rfl,ru⟩:=rv.one
  obtain⟨z,its,n,r,hl,e⟩:=I.lstM hH
  refine call_meets F.slot_list_append ⟨_,e,rfl⟩ F.entry_list_append (F.args_list_append_2 _ _) (PySem.list_append l its.toArray n u (by rw [List.size_toArray];omega)) ⟨e,?_⟩
  refine⟨.non,_,I.lset (its':=its++[u]) hH e (by simp) (r.append (.cons ru .nil)) ?_,rfl,q⟩
  rw [ZB,List.length_singleton]
  omega
def Dm:V→List V→Hp→VK→Prop:=fun x vs H Q=>∃ l b xs zs,x=.ref l∧vs=[.ref b]∧H l=some (.lst xs)∧H b=some (.lst zs)∧xs.length + zs.length≤sizeLine∧Q .non (upd H l (.lst (xs++zs)))
theorem yE:MtM X "list.extend" Dm:=by
  intro pins s σ H x vs v us Q I rx rv h
  obtain⟨l,b,xs,zs,rfl,rfl,hH,hB,hz,q⟩:=h
  cases rx
  obtain⟨u,rfl,ru⟩:=rv.one
  cases ru
  obtain⟨z,its,n,r,hl,e⟩:=I.lstM hH
  obtain⟨z2,its2,n2,r2,hl2,e2⟩:=I.lstM hB
  have hsz:its.toArray.size + its2.toArray.size≤sizeLine:=by rw [List.size_toArray,List.size_toArray];omega
  have hlong : ¬ (!its.toArray.isEmpty && Builtin.List.listTooLong (its.toArray.size + its2.toArray.size))=true:=by
    rw [ui hsz,Bool.and_false]
    exact Bool.false_ne_true
  refine call_meets F.slot_list_extend ⟨_,e,rfl⟩ F.entry_list_extend (F.args_list_extend_2 _ _)
    (AutoSeq1.list_extend_list_list_0 l its.toArray n b its2.toArray n2 hlong (by rw [List.size_toArray];omega) (by omega)) ⟨e,e2,?_⟩
  refine⟨.non,_,I.lset (its':=its++its2) hH e (by simp) (r.append r2) ?_,rfl,q⟩
  rw [ZB]
  omega
def IM:R2:=fun x y H Q=>∃ l b xs zs,x=.ref l∧y=.ref b∧H l=some (.lst xs)∧H b=some (.lst zs)∧xs.length + zs.length≤sizeLine ∧ ∀ p,H p=none→Q (.ref p) (upd H p (.lst (xs++zs)))
theorem FE:OpR X (binaryOp .Add) IM:=by
  intro pins s σ H x y v u Q I rx ry h
  obtain⟨l,b,xs,zs,rfl,rfl,hH,hB,hz,q⟩:=h
  cases rx
  cases ry
  obtain⟨z,its,n,r,hl,e⟩:=I.lstM hH
  obtain⟨z2,its2,n2,r2,hl2,e2⟩:=I.lstM hB
  refine PySem.P.add_list e e2 ?_ (by rw [List.size_toArray,List.size_toArray];omega)
  have ea:its.toArray++its2.toArray=(its++its2).toArray:=by simp
  rw [ea]
  exact⟨.ref _,_,I.lnew (t':=s.toks) (r.append r2) (by rw [ZB];omega),rfl,q _ I.fresh⟩
def IN:R2:=fun x y H Q=>∃ l k xs,x=.ref l∧y=.int k∧H l=some (.lst xs) ∧ -(2 ^ 63)≤k∧k < 2 ^ 63∧xs.length * k.toNat≤sizeLine ∧
  ∀ p,H p=none→Q (.ref p) (upd H p (.lst (List.replicate k.toNat xs).flatten))
theorem Dn {α : Type}(xs:List α)(k:Nat):(List.replicate k xs).flatten.length=k * xs.length:=by
  induction k with
  | zero=>simp
  | succ k ih=>rw [List.replicate_succ,List.flatten_cons,ZB,ih,Nat.succ_mul,Nat.add_comm]
theorem FF:OpR X (binaryOp .Mult) IN:=by
  intro pins s σ H x y v u Q I rx ry h
  obtain⟨l,k,xs,rfl,rfl,hH,h1,h2,hz,q⟩:=h
  cases rx
  obtain⟨t,rfl⟩:=ry
  obtain⟨z,its,n,r,hl,e⟩:=I.lstM hH
  have hlen:its.toArray.size * k.toNat≤sizeLine:=by rw [List.size_toArray,← hl];exact hz
  have hcap : ¬ its.toArray.size * k.toNat > (2 ^ 63 - 1) / 8:=by
    have:(sizeLine:Nat)≤(2 ^ 63 - 1) / 8:=by decide
    omega
  have hfit : ¬ (!Builtin.List.listFitsIndex k)=true:=by
    rw [fitsIndex_both h1 h2]
    exact Bool.false_ne_true
  have hlong : ¬ Builtin.List.listTooLong (its.toArray.size * k.toNat)=true:=by
    rw [ui hlen]
    exact Bool.false_ne_true
  have hnew:List.foldl (fun x1 x2=>x1++x2) #[] (List.replicate (if its.toArray.isEmpty=true then 0 else k.toNat) its.toArray)=(List.replicate k.toNat its).flatten.toArray:=by
    have f0:∀ m:Nat,List.foldl (fun x1 x2=>x1++x2) #[] (List.replicate m its.toArray)=(List.replicate m its).flatten.toArray:=fun m=>by
      have:=rm its m []
      rw [List.nil_append] at this
      exact this
    rw [f0]
    cases its with
    | nil=>simp
    | cons a r'=>rw [if_neg (by simp)]
  refine wpAny_binaryOp_repeat_ref (T := "list") (U := "int") (by decide) ⟨_,e,rfl⟩ (fun s'=>typeIs_int s' k t) noFill_list_mul F.fills_int_mul F.slot_int_rmul repeat_list F.slot_int_index.lookup
    (call_meets F.slot_int_rmul (typeIs_int s k t) F.entry_int_rmul (F.args_int_rmul_2 _ _) (int___rmul___int_list k t l its.toArray n)
      ⟨e,rfl,⟨_,e,rfl⟩,call_meets F.slot_list_mul ⟨_,e,rfl⟩ F.entry_list_mul (F.args_list_mul_2 _ _) (AutoListH.list___mul___list_int_3 l its.toArray n k t hfit hcap hlong) ⟨e,?_⟩⟩)
  rw [hnew]
  exact⟨.ref _,_,I.lnew (t':=s.toks) (r.rep k.toNat) (by rw [Dn,Nat.mul_comm];exact hz),rfl,q _ I.fresh⟩
end
section
variable {prog:Program} {w:World} {A:Around} {E:Value→Shared→Prop} {s:Shared}
end
section
variable {X:Cx}
end
end L2
namespace Att
open PySem PySem.W PySem.Calls PyProof.Rows
theorem nY {P:Params}{h:Heap}:∀ (ns:List Int) (vs:List Value),WellAll P h vs (ns.map WData.int)→IntsAre vs ns:=by
  intro ns
  induction ns with
  | nil =>
    intro vs w
    rw [List.map_nil] at w
    cases w
    exact .nil
  | cons n ns ih =>
    intro vs w
    rw [List.map_cons] at w
    cases w with
    | cons a b =>
      cases a
      exact .cons _ _ (ih _ b)
theorem yF {l:OpenLaw}{n:Nat}(hn:l.most=some n){P:Params}{h:Heap}{args:List WData}{vals:List Value}
    (hpre:l.row.toRowW.claim.pre args=true) (hwl:WellAll P h vals args) :
    ∃ a vs ns,vals=[Value.ref a]∧args=[WData.list (ns.map WData.int)]∧h.get? a=some { cls:=.type "list",data:=.seq vs.toArray } ∧ IntsAre vs ns∧ns.length≤n:=by
  have hsh:WShape.hasAll [] args [.list .int] = true:=(pre_splitW hpre).1
  have hc:l.pre.holds [] { args:=args } = true:=(pre_splitW hpre).2
  obtain⟨d,r,rfl,h1,h2⟩:=hasAllW_cons hsh
  obtain rfl:=hasAllW_nil h2
  obtain⟨xs,rfl,h3⟩:=hasW_list h1
  obtain⟨ns,rfl⟩:=items_int h3
  have hlen:ns.length≤n:=by
    unfold OpenLaw.pre at hc
    have h4:(WTm.not (.lt (.lit (.int (n:Int))) (.len (.arg 0)))).holds [] { args:=[.list (ns.map .int)] } = true:=by
      have h4:=(holds_andW hc).1
      rw [hn] at h4
      exact h4
    have h5:=condW_of h4 (w_not (w_lt w_lit (w_len_list (w_arg rfl))))
    rw [ZA] at h5
    refine Nat.le_of_not_lt fun q => ?_
    have q':(n:Int) < ((ns.length:Nat):Int):=by omega
    first
      | (rw [decide_eq_true q'] at h5;exact absurd h5 (by decide))
      | (simp at h5;omega)
  cases hwl with
  | cons w1 w2 =>
    cases w2
    cases w1 with
    | list ho hall=>exact⟨_,_,ns,rfl,rfl,ho,nY ns _ hall,hlen⟩
theorem yG (l:OpenLaw)(args:List WData):l.row.toRowW.claim.post args (.bool true) args=true :=
  postW_of (r:=l.row.toRowW) (X:=(true == true))
    (show WShape.has [] (.bool true) .bool=true by first|rfl|decide|simp [WShape.has,WShape.arms,WShape.armsAll])
    (show (WTm.eq .res (.lit (.bool true))).value [] { args:=args,res:=some (.bool true),after:=args } = some (.bool (true == true)) from w_eq_bool (w_res rfl) w_lit) rfl
theorem attach_call {l:OpenLaw}{n:Nat}{q:Program}{loose:List Str}{XP:(Str→Option Value)→Heap→Prop}{YP:World→Heap→Prop}{d:DefRec}
    (hn:l.most=some n) (hdf:d.params.defaults=[])
    (call:∀ (w:World) (s₀ s₁ : Shared) (mg mb:Str→Option Value) (fa:Addr) (o:Obj) (pm cd doc:Value) (a:Addr) (vs:List Value) (ns:List Int),
      Ground q loose [] XP w s₀ mg mb s₁.heap→YP w s₁.heap →
      s₁.heap.get? fa=some o→o.data=.func (docDef d.name d.params d.body d.scope pm cd doc)→s₁.heap.CodeRec cd d.name→mg d.name=some (.ref fa) →
      s₁.heap.get? a=some { cls:=.type "list",data:=.seq vs.toArray } → IntsAre vs ns→ns.length≤n→s₁.gens = #[] →
      codeAny (model l.prog w) callerA (.call (.ref fa) ⟨[.ref a],[]⟩) (fun r s'=>r=.ok (.ret (.bool true))∧OldK s₁.heap s'.heap∧s'.os=s₁.os∧AllBare s'.gens) s₁) :
    WalkO q loose XP YP l.row.toRowW d [] (fun f vs=>PySem.call f vs):=by
  intro w s₀ s₁ mg mb G Y fa o pm cd doc dV kV ho hd hcd hD hmg hg args vals as hpre hlay hrd hwl hlo
  obtain rfl:dV=.none:=Dflts.none hD hdf
  obtain rfl:kV=.none:=Dflts.noKw hD
  obtain⟨a,vs,ns,rfl,rfl,hobj,hints,hlen⟩:=yF hn hpre hwl
  refine enter_call (codeAny_mono (call w s₀ s₁ mg mb fa o pm cd doc a vs ns G Y ho (fd_plain hd) hcd hmg hobj hints hlen hg) fun r s' hq => ?_)
  obtain⟨rfl,h2,h3,h4⟩:=hq
  exact⟨.inl ⟨.bool true,.bool true,[],rfl,fun _=>rfl,.bool true,yG l _,fun _=>⟨List.Pairwise.nil,fun _ hm=>(nomatch hm)⟩⟩,h2,h3,h4⟩
section
variable {prog:Program} {w:World} {A:Around} {E:Value→Shared→Prop} {s:Shared} {K:Frag}
def noObjs (h:Heap):Heap:={ h with objs := #[] }
theorem noObjs_get (h:Heap)(b:Addr):(noObjs h).get? b=none:=by
  cases e:(noObjs h).get? b with
  | none=>rfl
  | some o=>exact absurd (ZI e) (Nat.not_lt_zero _)
def ledger (h:Heap) (L d:Addr):List (Addr × Obj):=(List.range h.objs.size).filterMap fun a=>if a=L∨a=d then none else (h.get? a).map fun o=>(a,o)
theorem mem_ledger {h:Heap}{L d a:Addr}{o:Obj}:(a,o)∈ledger h L d ↔ a≠L∧a≠d∧h.get? a=some o:=by
  unfold ledger
  rw [List.mem_filterMap]
  constructor
  · rintro⟨b,_,e⟩
    split at e
    · cases e
    · rename_i hb
      obtain⟨o',ho,e'⟩:=Option.map_eq_some_iff.mp e
      cases e'
      exact⟨fun q=>hb (.inl q),fun q=>hb (.inr q),ho⟩
  · rintro⟨n1,n2,ho⟩
    refine⟨a,List.mem_range.mpr (ZI ho),?_⟩
    rw [if_neg (show ¬ (a=L∨a=d) from fun q=>q.elim n1 n2),ho]<;>rfl
theorem fr_all {h:Heap}{L:Addr}{m:Str→Option Value}(n:h.Ns L m):Fr (noObjs h) L h m :=
  ⟨n,fun b o e=>(by rw [noObjs_get] at e;cases e),Nat.zero_le _⟩
end
end Att
namespace L2
open PySem PySem.Spec PyProof.Rows
theorem rp:∀ {vs:List Value} {ns:List Int},IntsAre vs ns→aS (ns.map V.int) vs
  | _,_,.nil=>.nil
  | _,_,.cons n t h=>.cons ⟨t,rfl⟩ (rp h)
def FG (H:Hp):Prop:=∀ b,H b=none ∨ ∃ o xs,H b=some (.frz o (.lst xs))
theorem AA {P:Program}{w:World}{K:ZX}{mg mb:Str→Option Value}{CX:CXT}{k:Nat}{fa a:Addr}{fd:FuncData}{x:Str}{sp:Sp}{s₁ : Shared}{vs:List Value}{ns:List Int}
    (KX:K.In s₁.heap) (hns:s₁.heap.Ns mainGlobals mg) (hb:s₁.heap.Ns builtinsNs mb) (hbb:∀ x:Str,x ≠ "__name__" → mb x=bootBuiltins x) (hlim:s₁.heap.NoLimit) (hg:s₁.gens = #[])
    (ha:s₁.heap.get? a=some { cls:=.type "list",data:=.seq vs.toArray }) (hi:IntsAre vs ns) (hl:ns.length≤sizeLine) (hr:gW k callerA)
    (F:∀ base:Heap,K.In base→base.Ns mainGlobals mg→bS P w K mg base CX k fa fd [x] sp) (hbind:∀ (s:Shared) (u:Value),BindsTo s fd ⟨[u],[]⟩ [(x,u)])
    (hsp:∀ H:Hp,FG H→SqL K H a (ns.map V.int)→sp [.ref a] H (fun v _=>v=.bl true) fun _ _ _=>False)
    (hCX:∀ H e s',CX [] H s₁ (fun _ _ _=>False) e s'→False) :
    codeAny (model P w) callerA (.call (.ref fa) ⟨[.ref a],[]⟩) (fun r s'=>r=.ok (.ret (.bool true))∧OldK s₁.heap s'.heap∧s'.os=s₁.os∧AllBare s'.gens) s₁ := by
  have rv:=rp hi
  have lenV:=hi.length
  have core:∀ H:Hp,FG H→SqL K H a (ns.map V.int)→HOk P w H s₁.heap→(∀ b,H b≠none→b=a)→(H a≠none→K.lookup a=none) →
      codeAny (model P w) callerA (.call (.ref fa) ⟨[.ref a],[]⟩) (fun r s'=>r=.ok (.ret (.bool true))∧OldK s₁.heap s'.heap∧s'.os=s₁.os∧AllBare s'.gens) s₁ := by
    intro H hO hS hok hA hK
    have base_of:∀ {b:Addr} {o:Obj},s₁.heap.get? b=some o→H b=none→(sj s₁.heap H).get? b=some o:=fun e n=>Ah e n
    have noA:∀ {b:Addr} {o:Obj} {es:Array DictEntry} {ep:Nat},s₁.heap.get? b=some o→o.data=.dict es ep→H b=none:=fun {b o es ep} e d=>by
      cases q:H b with
      | none=>rfl
      | some u =>
        have e':b=a:=hA b (by rw [q];simp)
        subst e'
        rw [ha] at e;cases e
        have d':Data.seq vs.toArray _=Data.dict es ep:=d
        cases d'
    have nsK:∀ {b:Addr} {m:Str→Option Value},s₁.heap.Ns b m→(sj s₁.heap H).Ns b m:=fun {b m} ⟨o,es,ep,e,d,r⟩=>⟨o,es,ep,base_of e (noA e d),d,r⟩
    have hKb:K.In (sj s₁.heap H):=fun b o e=>base_of (KX b o e) (by
      cases q:H b with
      | none=>rfl
      | some u =>
        have e':b=a:=hA b (by rw [q];simp)
        subst e'
        rw [hK (by rw [q];simp)] at e;cases e)
    have hM:Mod K mg (sj s₁.heap H):=⟨hKb,nsK hns,⟨mb,nsK hb,hbb⟩,let ⟨mc,h1,h2⟩:=hlim;⟨mc,nsK h1,h2⟩⟩
    have e0:Df P w K mg (sj s₁.heap H) callerA [] s₁ H:=⟨rfl,hM,fun b o e=>CV e,Nat.le_of_eq (yw _ _),trivial,fun b hb=>absurd (show b∈([] : List Addr) from hb) (by simp),hok,.of_eq hg⟩
    refine codeAny_mono ((F _ hKb (nsK hns)).run callerA [] s₁ H ⟨[.ref a],[]⟩ [.ref a] [.ref a] _ _ hr e0 (hbind s₁ (.ref a)) (.cons rfl .nil) (hsp H hO hS)) fun r s' h => ?_
    cases r with
    | error e=>exact (hCX H e s' h).elim
    | ok fl =>
      cases fl with
      | next=>exact False.elim h
      | brk=>exact False.elim h
      | cont=>exact False.elim h
      | ret u =>
        obtain⟨v,H',os,bare,un,hok',r',q⟩:=h
        have q':v=.bl true:=q
        subst q'
        obtain rfl:u=Value.bool true:=r'
        refine⟨rfl,OldK.of_keep fun b o e => ?_,os,bare⟩
        cases q:H b with
        | none=>exact un.keep b o e q (by intro z;exact absurd (show b∈([] : List Addr) from z) (by simp)) (by simp)
        | some u =>
          rcases hO b with z|⟨ob,xs,z⟩
          · rw [q] at z;cases z
          · have z2:=un.frzs b ob _ z
            obtain⟨e1,_⟩:=hok b _ z
            obtain⟨e2,_⟩:=hok' b _ z2
            rw [e] at e1;cases e1
            exact e2
  cases hk:K.lookup a with
  | some o =>
    have e:=KX a o hk
    rw [ha] at e
    cases e
    refine core (fun _=>none) (fun _=>.inl rfl) (.inr ⟨_,vs.toArray,_,hk,rfl,rfl,rfl,by rw [List.size_toArray,lenV];exact hl,by simpa using rv⟩) (fun b u z=>by have z':(none:Option HO)=some u:=z;cases z') (fun b z=>absurd rfl z) fun z=>absurd rfl z
  | none =>
    refine core (fun b=>if b=a then some (.frz { cls:=.type "list",data:=.seq vs.toArray } (.lst (ns.map V.int))) else none) (fun b => ?_) (.inl (.inr ⟨{ cls:=.type "list",data:=.seq vs.toArray },if_pos rfl⟩)) (fun b u z => ?_) (fun b z => ?_) fun _=>hk
    · by_cases hb:b=a
      · exact .inr ⟨_,_,if_pos hb⟩
      · exact .inl (if_neg hb)
    · by_cases hb:b=a
      · have z':=(if_pos hb).symm.trans z
        cases z'
        subst hb
        exact⟨ha,by rw [ZA];exact hl,vs,_,rv,ha⟩
      · have z':=(if_neg hb).symm.trans z
        cases z'
    · by_cases hb:b=a
      · exact hb
      · exact absurd (if_neg hb) z
end L2
namespace L2
open PySem PySem.Spec PyProof.Rows
theorem Do {l:PySem.W.OpenLaw}{n k:Nat}{q:Program}{loose:List Str}{XP:(Str→Option Value)→Heap→Prop}{YP:World→Heap→Prop}{d:DefRec}{K:Params→ZX}{CX:World→CXT}{sp:World→Sp}{x:Str}
    (hn:l.most=some n) (hn2:n≤sizeLine) (hdf:d.params.defaults=[]) (hr:gW k callerA)
    (hY:∀ (w:World) (h:Heap),YP w h→(K w.params).In h)
    (F:∀ (w:World) (mg:Str→Option Value) (fa:Addr) (h:Heap),(K w.params).In h→h.Ns mainGlobals mg→mg d.name=some (.ref fa) →
      ∃ fd:FuncData,(∀ (s:Shared) (u:Value),BindsTo s fd ⟨[u],[]⟩ [(x,u)]) ∧
        ∀ base:Heap,(K w.params).In base→base.Ns mainGlobals mg→bS l.prog w (K w.params) mg base (CX w) k fa fd [x] (sp w))
    (hsp:∀ (w:World) (H:Hp) (a:Addr) (ns:List Int),ns.length≤n→FG H→SqL (K w.params) H a (ns.map V.int)→sp w [.ref a] H (fun v _=>v=.bl true) fun _ _ _=>False)
    (hCX:∀ (w:World) (H:Hp) (s:Shared) (e:Value) (s':Shared),CX w [] H s (fun _ _ _=>False) e s'→False) :
    PySem.W.WalkO q loose XP YP l.row.toRowW d [] (fun f vs=>PySem.call f vs):=by
  refine Att.attach_call hn hdf fun w s₀ s₁ mg mb fa o pm cd doc a vs ns G Y ho hd hcd hmg hobj hints hlen hg => ?_
  have KX:=hY w _ Y
  obtain⟨fd,hb,hF⟩:=F w mg fa _ KX G.T.g hmg
  exact AA KX G.T.g G.T.b G.T.builtins G.T.nolimit hg hobj hints (ZM hlen hn2) hr hF hb (fun H hO hS=>hsp w H a ns hlen hO hS) fun H e s'=>hCX w H s₁ e s'
end L2
namespace L2
open PySem PySem.Spec PyProof.Rows
def eF (s:Stmt):Arguments:=match s with
  | .FunctionDef _ a _ _ _ _ _ _ _ _=>a
  | _=>{ posonlyargs:=[],args:=[],vararg:=none,kwonlyargs:=[],kw_defaults:=[],kwarg:=none,defaults:=[] }
def dP (s:Stmt):List Stmt:=match s with
  | .FunctionDef _ _ b _ _ _ _ _ _ _=>b
  | _=>[]
def ax (s:Stmt):Scope:=match s with
  | .FunctionDef _ _ _ _ _ _ sc _ _ _=>sc
  | _=>{ kind:=.function,names:=[],isGenerator:=false,isCoroutine:=false }
abbrev CX0:CXT:=fun _ _ _ _ _ _=>False
abbrev E0:XK:=fun _ _ _=>False
theorem Hu {X:Cx}:vR CX0 X E0:=fun _ _ _ _ _ _ _ h=>h.elim
structure Fun (K:ZX) (x qual:Str) (st:Stmt) (f:Addr) (fd:FuncData):Prop where
  ex:∃ (oc:Value) (od:Option Addr) (kV doc pm:Value) (an:Option Addr) (cdv ct:Value) (osl:Array (Option Value)),
    fd=PySem.W.fnOf x qual (eF st) (dP st) (ax st) .none kV doc pm an cdv ct∧K.lookup f=some ⟨oc,od,.func fd,osl⟩ ∧ PySem.W.codeIn K cdv qual=true
  kp:PySem.W.keepIn K (.ref f)=true
section
variable {P:Program} {w:World} {K:ZX} {mg:Str→Option Value} {base:Heap}
theorem Fun.ok {x qual:Str}{st:Stmt}{f:Addr}{fd:FuncData}{N ps:List Str}{k:Nat}{sp:Sp}(F:Fun K x qual st f fd)(S:aF N ps (ax st))(len:∀ vs H Q E,sp vs H Q E→vs.length=ps.length)
    (hbody:∀ (cdv:Value) (A:Around) (outer:List Env) (s:Shared) (H:Hp) (vs:List V) (Q:VK) (E:XK),gW k (A.deeper (envOfC qual (ax st) s.heap.objs.size f cdv))→sp vs H Q E →
      ∃ t,PSs (vS CX0 P w K mg base N qual (ax st) f cdv A outer s H E).nox (dP st) t∧t { nx:=fun _ H'=>Q .non H',rt:=Q } (jy N vs) H):bS P w K mg base CX0 (k + 1) f fd ps sp:=by
  obtain⟨oc,od,kV,doc,pm,an,cdv,ct,osl,rfl,lk,hcd⟩:=F.ex
  refine Hl lk hcd S len fun A outer s H vs Q E hr hsp => ?_
  obtain⟨t,h,q⟩:=hbody cdv A outer s H vs Q E hr hsp
  exact⟨t,h.nox,q⟩
theorem Fun.binds {x qual:Str}{st:Stmt}{f:Addr}{fd:FuncData}{ps:List Str}(F:Fun K x qual st f fd)
    (h:∀ (kV doc pm:Value) (an:Option Addr) (cdv ct:Value) (us:List Value),us.length=ps.length→bindArgs (PySem.W.fnOf x qual (eF st) (dP st) (ax st) .none kV doc pm an cdv ct) ⟨us,[]⟩ = pure (ps.zip us)):lq K fd ps []:=by
  obtain⟨oc,od,kV,doc,pm,an,cdv,ct,osl,rfl,lk,hcd⟩:=F.ex
  exact .all (h kV doc pm an cdv ct)
theorem AB {x qual:Str}{st:Stmt}{f:Addr}{oc:Value}{od an:Option Addr}{osl:Array (Option Value)}{kV doc pm cdv ct:Value}(l:K.lookup f=some ⟨oc,od,.func (PySem.W.fnOf x qual (eF st) (dP st) (ax st) .none kV doc pm an cdv ct),osl⟩)
    (c:PySem.W.codeIn K cdv qual=true) (k:PySem.W.keepIn K (.ref f)=true):Fun K x qual st f (PySem.W.fnOf x qual (eF st) (dP st) (ax st) .none kV doc pm an cdv ct):=⟨⟨oc,od,kV,doc,pm,an,cdv,ct,osl,rfl,l,c⟩,k⟩
end
section
variable {X:Cx}
end
def jr (H H':Hp):Prop:=∀ b o,H b=some o→H' b=some o
theorem jr.refl (H:Hp):jr H H:=fun _ _ h=>h
end L2
namespace L2
open PySem PySem.Spec
structure IO (h:Heap) (a D:Addr) (o:Obj):Prop where
  at_:h.get? a=some o
  cls:o.cls=.ref D
def Hv (a C:Addr):HO:=.ext fun h=>∃ o,IO h a C o
end L2
namespace Fm
inductive D where
  | non|bl (b:Bool)|int (i:Int)|str (x:List Nat)|tup (l:List D)|ref (n:Nat)|lit (l:List D)|exn (c:String) (l:List D)
deriving Inhabited
inductive du where
  | lst (l:List D)|dct (l:List (Int × D))
abbrev Hd:=List du
inductive Res (α : Type) where
  | ok (a : α) (h:Hd)|exc (x:D) (h:Hd)|bad
def Res.bind {α β : Type} (r:Res α) (f : α → Hd→Res β):Res β := match r with
  | .ok a h=>f a h | .exc x h=>.exc x h | .bad=>.bad
@[simp] theorem aG {α β : Type} (a : α) (h:Hd) (f : α → Hd→Res β):(Res.ok a h).bind f=f a h:=rfl
abbrev Sd:=List (Option D)
abbrev EF:=Sd→Hd→Res D
abbrev TF:=Sd→Hd→Res Bool
abbrev LF:=Sd→Hd→Res (List D)
inductive Out where
  | nx (σ:Sd) (h:Hd)|rt (d:D) (h:Hd)|bk (σ:Sd) (h:Hd)|ct (σ:Sd) (h:Hd)|exc (x:D) (σ:Sd) (h:Hd)|bad
abbrev SF:=Sd→Hd→Out
abbrev Fn:=List D→Hd→Res D
abbrev SZ:Nat:=1000000
@[simp] def slot (σ:Sd) (i:Nat):Option D:=match σ[i]? with|some (some d)=>some d|_=>none
@[simp] def aa (i:Nat):EF:=fun σ h=>match slot σ i with|some d=>.ok d h|none=>.bad
@[simp] def fC (d:D):EF:=fun _ h=>.ok d h
abbrev O2:=D→D→Hd→Res D
@[simp] def ah (g:O2) (a b:EF):EF:=fun σ h=>(a σ h).bind fun x h=>(b σ h).bind fun y h=>g x y h
@[simp] def oI (g:Int→Int→Int):O2:=fun x y h=>match x,y with | .int i,.int j=>.ok (.int (g i j)) h|_,_=>.bad
@[simp] def oB (g:Int→Int→Bool):O2:=fun x y h=>match x,y with | .int i,.int j=>.ok (.bl (g i j)) h|_,_=>.bad
@[simp] def oIc (c:Int→Int→Bool) (g:Int→Int→Int):O2:=fun x y h=>match x,y with | .int i,.int j=>if c i j then .ok (.int (g i j)) h else .bad|_,_=>.bad
def sml (i:Int):Bool:=decide (-18446744073709551616 < i) && decide (i < 18446744073709551616)
@[simp] def cE:O2:=fun x y h=>match x,y with
  | .int i,.int j=>.ok (.int (i + j)) h
  | .tup (x :: xs),.tup ys=>if (x :: xs).length + ys.length≤SZ then .ok (.tup (x :: xs++ys)) h else .bad
  | _,_=>.bad
@[simp] def nZ:O2:=fun x y h=>(oI (· - ·)) x y h
@[simp] def bC:O2:=fun x y h=>(oIc (fun i j=>sml i || sml j) (· * ·)) x y h
@[simp] def cL:O2:=fun x y h=>(oIc (fun _ j=>decide (0 < j)) (· % ·)) x y h
@[simp] def iw:O2:=fun x y h=>(oIc (fun _ j=>decide (0 < j) && decide (j < 2 ^ 250)) (· / ·)) x y h
@[simp] def IP:O2:=fun x y h=>(oIc (fun i j=>decide (0≤j) && decide (j≤1000000) && sml i) (fun i j=>i ^ j.toNat)) x y h
@[simp] def oLt:O2:=fun x y h=>(oB fun i j=>decide (i < j)) x y h
@[simp] def oLe:O2:=fun x y h=>(oB fun i j=>decide (i≤j)) x y h
@[simp] def oGt:O2:=fun x y h=>(oB fun i j=>decide (j < i)) x y h
@[simp] def Jc:D→Hd→Res D:=fun x h=>match x with | .int i=>.ok (.int (-i)) h|_=>.bad
@[simp] def lu:D→Bool | .non=>true|_=>false
@[simp] def jz:O2:=fun x y h=>if lu y then .ok (.bl (lu x)) h else .bad
@[simp] def fZ:O2:=fun x y h=>if lu y then .ok (.bl (!lu x)) h else .bad
@[simp] def b2i (b:Bool):Int:=if b then 1 else 0
mutual
def peq:D→D→Option Bool
  | .int i,k=>match k with | .int j=>some (decide (i=j)) | .bl c=>some (decide (i=b2i c)) | .non=>some false | .tup _=>some false|_=>none
  | .bl c,k=>match k with | .int j=>some (decide (b2i c=j)) | .bl d=>some (decide (c=d))|_=>none
  | .str x,k=>match k with | .str y=>some (decide (x=y))|_=>none
  | .non,k=>match k with | .non=>some true | .int _=>some false | .tup _=>some false|_=>none
  | .tup xs,k=>match k with | .tup ys=>(ia xs ys).map fun b=>b && decide (xs.length=ys.length) | .non=>some false | .int _=>some false|_=>none
  | .ref _,_=>none
  | .lit _,_=>none
  | .exn _ _,_=>none
def ia:List D→List D→Option Bool
  | x :: xs,y :: ys=>match peq x y,ia xs ys with
    | some a,some b=>some (a && b)
    | _,_=>none
  | _,_=>some true
end
mutual
def dep:D→Nat
  | .tup l=>n5 l + 1
  | _=>0
def n5:List D→Nat
  | []=>0
  | x :: xs=>max (dep x) (n5 xs)
end
def eqL (xs ys:List D):Option Bool:=if n5 xs≤20 then (if xs.length=ys.length then ia xs ys else some false) else none
@[simp] def fg (h:Hd):D→Option (List D)
  | .ref n=>match h[n]? with|some (.lst l)=>some l|_=>none
  | .lit l=>some l
  | _=>none
@[simp] def eqG (h:Hd) (x y:D):Option Bool:=match fg h x,fg h y with
  | some xs,some ys=>eqL xs ys
  | none,none=>if dep x≤20 then peq x y else none
  | _,_=>none
@[simp] def oEq:O2:=fun x y h=>match eqG h x y with|some b=>.ok (.bl b) h|none=>.bad
@[simp] def oNe:O2:=fun x y h=>match eqG h x y with|some b=>.ok (.bl (!b)) h|none=>.bad
@[simp] def asB (r:Res D):Res Bool:=r.bind fun x h=>match x with | .bl b=>.ok b h|_=>.bad
@[simp] def tE (a:EF):TF:=fun σ h=>asB (a σ h)
@[simp] def eT (t:TF):TF:=fun σ h=>(t σ h).bind fun b h=>.ok (!b) h
@[simp] def kE (t u:TF):TF:=fun σ h=>(t σ h).bind fun b h=>if b then u σ h else .ok false h
@[simp] def tOr (t u:TF):TF:=fun σ h=>(t σ h).bind fun b h=>if b then .ok true h else u σ h
@[simp] def fT (t:TF):EF:=fun σ h=>(t σ h).bind fun b h=>.ok (.bl b) h
@[simp] def fIf (t:TF) (a b:EF):EF:=fun σ h=>(t σ h).bind fun c h=>if c then a σ h else b σ h
@[simp] def oX (g k:O2) (a b c:EF):EF:=fun σ h=>(a σ h).bind fun x h=>(b σ h).bind fun y h=>(g x y h).bind fun z h=>match z with
  | .bl true=>(c σ h).bind fun w h=>k y w h
  | .bl false=>.ok (.bl false) h
  | _=>.bad
@[simp] def ar:LF:=fun _ h=>.ok [] h
@[simp] def ad (a:EF) (r:LF):LF:=fun σ h=>(a σ h).bind fun x h=>(r σ h).bind fun xs h=>.ok (x :: xs) h
@[simp] def fL (r:LF):EF:=fun σ h=>(r σ h).bind fun xs h=>if xs.length≤SZ then .ok (.tup xs) h else .bad
@[simp] def bL (r:LF):EF:=fun σ h=>(r σ h).bind fun xs h=>if xs.length≤SZ then .ok (.ref h.length) (h++[.lst xs]) else .bad
@[simp] def kx (h:Hd):D→Option (List D)
  | .tup l=>some l
  | .lit l=>some l
  | .ref n=>match h[n]? with|some (.lst l)=>some l|_=>none
  | _=>none
@[simp] def lOf (a:EF):LF:=fun σ h=>(a σ h).bind fun x h=>match kx h x with|some l=>.ok l h|none=>.bad
def ixN (n:Nat) (i:Int):Option Nat:=if 0≤i then (if i < n then some i.toNat else none) else if -(n:Int)≤i then some (i + n).toNat else none
def atI (xs:List D) (i:Int):Option D:=(ixN xs.length i).bind fun j=>xs[j]?
@[simp] def fIx (a:LF) (b:EF):EF:=fun σ h=>(a σ h).bind fun l h=>(b σ h).bind fun y h=>match y with
  | .int i=>match atI l i with|some d=>.ok d h|none=>.bad
  | _=>.bad
@[simp] def oAt:O2:=fun x y h=>match kx h x,y with
  | some l,.int i=>match atI l i with|some d=>.ok d h|none=>.bad
  | _,_=>.bad
@[simp] def fAt (a b:EF):EF:=fun σ h=>ah oAt a b σ h
@[simp] def cz (a:LF):EF:=fun σ h=>(a σ h).bind fun l h=>.ok (.int l.length) h
def en:List D→Option (List Int)
  | []=>some []
  | .int i :: r=>(en r).map (i :: ·)
  | _=>none
@[simp] def oY (a:LF):EF:=fun σ h=>(a σ h).bind fun l h=>match en l with|some is=>.ok (.int is.sum) h|none=>.bad
def fY:List D→Option (List Bool)
  | []=>some []
  | .bl b :: r=>(fY r).map (b :: ·)
  | _=>none
@[simp] def vX (a:LF):EF:=fun σ h=>(a σ h).bind fun l h=>match fY l with|some bs=>.ok (.bl (bs.all id)) h|none=>.bad
@[simp] def er (a:LF):EF:=fun σ h=>(a σ h).bind fun l h=>.ok (.tup l) h
inductive Ty where|int|bool|tuple|list|str
deriving DecidableEq
@[simp] def yH (h:Hd) (t:Ty):D→Option Bool
  | .non=>some false
  | .bl _=>some (t == .bool || t == .int)
  | .int _=>some (t == .int)
  | .str _=>some (t == .str)
  | .tup _=>some (t == .tuple)
  | .lit _=>some (t == .list)
  | .ref n=>match h[n]? with|some (.lst _)=>some (t == .list)|some (.dct _)=>some false|none=>none
  | .exn _ _=>none
@[simp] def gv (t:Ty) (a:EF):EF:=fun σ h=>(a σ h).bind fun x h=>match yH h t x with|some b=>.ok (.bl b) h|none=>.bad
def sIx (n d:Nat):Option Int→Nat
  | none=>d
  | some i=>if i < 0 then (i + n).toNat else min i.toNat n
def cut (l:List D) (lo hi:Option Int):List D:=(l.drop (sIx l.length 0 lo)).take (sIx l.length l.length hi - sIx l.length 0 lo)
abbrev OF:=Sd→Hd→Res (Option Int)
@[simp] def pNo:OF:=fun _ h=>.ok none h
@[simp] def pAt (a:EF):OF:=fun σ h=>(a σ h).bind fun x h=>match x with | .int i=>.ok (some i) h|_=>.bad
@[simp] def jA (a:EF) (lo hi:OF):EF:=fun σ h=>(a σ h).bind fun x h=>(lo σ h).bind fun i h=>(hi σ h).bind fun j h=>match x with
  | .tup l=>if sIx l.length 0 i=0∧sIx l.length l.length j=l.length then .bad else .ok (.tup (cut l i j)) h
  | x=>match fg h x with|some l=>.ok (.ref h.length) (h++[.lst (cut l i j)])|none=>.bad
def lexLt:List Int→List Int→Bool
  | [],[]=>false
  | [],_ :: _=>true
  | _ :: _,[]=>false
  | x :: xs,y :: ys=>if x=y then lexLt xs ys else decide (x < y)
def kG:List D→Option (List (List Int))
  | []=>some []
  | .tup l :: r=>match en l,kG r with|some a,some b=>some (a :: b)|_,_=>none
  | _=>none
@[simp] def am (F:Fn) (r:LF):EF:=fun σ h=>(r σ h).bind fun xs h=>F xs h
abbrev IF:=Sd→Hd→Res (List D × Option Nat)
@[simp] def bi (a:EF):IF:=fun σ h=>(a σ h).bind fun x h=>match x with
  | .int n=>if -1000000≤n∧n≤1000000 then .ok ((List.range n.toNat).map (fun k:Nat=>.int k),none) h else .bad
  | _=>.bad
@[simp] def lx (a b:EF):IF:=fun σ h=>(a σ h).bind fun x h=>(b σ h).bind fun y h=>match x,y with
  | .int m,.int n=>if (-1000000≤m∧m≤1000000) ∧ -1000000≤n∧n≤1000000 then .ok ((List.range (n - m).toNat).map (fun k:Nat=>.int (m + k)),none) h else .bad
  | _,_=>.bad
@[simp] def dW (a:EF):IF:=fun σ h=>(a σ h).bind fun x h=>match x with
  | .tup l=>.ok (l,none) h
  | .lit l=>.ok (l,none) h
  | .ref n=>match h[n]? with|some (.lst l)=>.ok (l,some n) h|_=>.bad
  | _=>.bad
@[simp] def AC (a:EF):IF:=fun σ h=>(a σ h).bind fun x h=>match x with
  | .tup l=>.ok ((List.range l.length).zip l |>.map fun p=>.tup [.int (p.1:Nat),p.2],none) h
  | _=>.bad
noncomputable section
open Classical
def ib (g:Option Nat) (all:List D) (h:Hd):Prop:=match g with|none=>True|some n=>h[n]? = some (.lst all)
abbrev GF:=D→Sd→Option Sd
@[simp] def gN (i:Nat):GF:=fun d σ=>some (σ.set i (some d))
@[simp] def gT (l:List Nat):GF:=fun d σ=>match d with
  | .tup xs=>if xs.length=l.length then some ((l.zip xs).foldl (fun σ p => σ.set p.1 (some p.2)) σ) else none
  | _=>none
@[simp] def aA (a b:SF):SF:=fun σ h=>match a σ h with | .nx σ h=>b σ h|r=>r
@[simp] def bw:SF:=fun σ h=>.nx σ h
@[simp] def outE (r:Res D) (σ:Sd) (k:D→Hd→Out):Out:=match r with | .ok d h=>k d h | .exc x h=>.exc x σ h | .bad=>.bad
@[simp] def aD (g:GF) (a:EF):SF:=fun σ h=>outE (a σ h) σ fun d h=>match g d σ with|some σ=>.nx σ h|none=>.bad
@[simp] def bc (a:EF):SF:=fun σ h=>outE (a σ h) σ fun d h=>.rt d h
@[simp] def gX (a:EF):SF:=fun σ h=>outE (a σ h) σ fun _ h=>.nx σ h
@[simp] def sIf (t:TF) (a b:SF):SF:=fun σ h=>match t σ h with | .ok c h=>if c then a σ h else b σ h | .exc x h=>.exc x σ h | .bad=>.bad
def f6:SF:=fun _ _=>.bad
@[simp] def kH (x i e:EF):SF:=fun σ h=>outE (e σ h) σ fun d h=>outE (x σ h) σ fun p h=>outE (i σ h) σ fun j h=>match p,j with
  | .ref n,.int j=>match h[n]? with
    | some (.lst l)=>match ixN l.length j with
      | some k=>.nx σ (h.set n (.lst (l.set k d)))
      | none=>.bad
    | _=>.bad
  | _,_=>.bad
@[simp] def FH:O2:=fun p d h=>match p with
  | .ref n=>match h[n]? with
    | some (.lst l)=>if l.length < SZ then .ok .non (h.set n (.lst (l++[d]))) else .bad
    | _=>.bad
  | _=>.bad
@[simp] def kr (x e:EF):EF:=fun σ h=>(x σ h).bind fun p h=>match p with
  | .ref n=>match h[n]? with
    | some (.lst _)=>(e σ h).bind fun d h=>FH (.ref n) d h
    | _=>.bad
  | _=>.bad
def fq (g:Option Nat) (all:List D) (tg:GF) (b:SF):List D→SF
  | [],σ,h=>if ib g all h then .nx σ h else .bad
  | x :: xs,σ,h=>if ib g all h then match tg x σ with
      | some σ=>match b σ h with
        | .nx σ h=>fq g all tg b xs σ h
        | .ct σ h=>fq g all tg b xs σ h
        | .bk σ h=>.nx σ h
        | r=>r
      | none=>.bad
    else .bad
@[simp] def dA (it:IF) (tg:GF) (b:SF):SF:=fun σ h=>match it σ h with
  | .ok (l,g) h=>fq g l tg b l σ h
  | .exc x h=>.exc x σ h
  | .bad=>.bad
def ez (t:TF) (b:SF):Nat→SF
  | 0,_,_=>.bad
  | n + 1,σ,h=>match t σ h with
    | .ok true h=>match b σ h with
      | .nx σ h=>ez t b n σ h
      | .ct σ h=>ez t b n σ h
      | .bk σ h=>.nx σ h
      | r=>r
    | .ok false h=>.nx σ h
    | .exc x h=>.exc x σ h
    | .bad=>.bad
def cR (t:TF) (b:SF):Sd→Hd→Nat:=fun σ h=>if ex:∃ n,ez t b n σ h ≠ .bad then Classical.choose ex else 0
def oZ (t:TF) (b:SF):SF:=fun σ h=>ez t b (cR t b σ h) σ h
@[simp] def jm:List TF→TF
  | [],_,h=>.ok true h
  | t :: r,σ,h=>(t σ h).bind fun b h=>if b then jm r σ h else .ok false h
def cx (g:Option Nat) (all:List D) (tg:GF) (cs:List TF) (e:EF):List D→Sd→Hd→Res (List D)
  | [],_,h=>if ib g all h then .ok [] h else .bad
  | x :: xs,σ,h=>if ib g all h then match tg x σ with
      | some σ=>(jm cs σ h).bind fun b h=>if b then (e σ h).bind fun d h=>(cx g all tg cs e xs σ h).bind fun ds h=>.ok (d :: ds) h
        else cx g all tg cs e xs σ h
      | none=>.bad
    else .bad
@[simp] def gw (nl:Nat) (caps:List Nat) (σ:Sd):Sd:=List.replicate nl none++caps.map fun i=>slot σ i
@[simp] def bJ (nl:Nat) (caps:List Nat) (it:IF) (tg:GF) (cs:List TF) (e:EF):LF:=fun σ h=>(it σ h).bind fun p h =>
  cx p.2 p.1 tg cs e p.1 (gw nl caps σ) h
mutual
def pure? : D→Bool
  | .ref _=>false
  | .tup l=>gx l
  | .lit l=>gx l
  | .exn _ l=>gx l
  | _=>true
def gx:List D→Bool
  | []=>true
  | x :: xs=>pure? x && gx xs
end
def uj:du→Bool
  | .lst l=>gx l
  | .dct l=>l.all fun p=>pure? p.2
def AD (h h':Hd):Prop:=∀ n c,n < h.length→h'[n]? = some c→h[n]? = some c∨uj c=true
def letGo (h:Hd) (r:Res D):Res D:=match r with
  | .ok d h'=>if pure? d=true∧AD h h' then .ok d (h'.take h.length) else .ok d h'
  | r=>r
def runB (n:Nat) (b:SF):Fn:=fun ds h=>match b (ds.map some++List.replicate (n - ds.length) none) h with
  | .nx _ h=>.ok .non h
  | .rt d h=>.ok d h
  | .exc x _ h=>.exc x h
  | _=>.bad
def bB (np n:Nat) (b:SF):Fn:=fun ds h=>if ds.length=np then letGo h (runB n b ds h) else .bad
end
end Fm
namespace Fm
open PySem PySem.Spec L2
def toS (x:List Nat):Str:=⟨x.toArray⟩
def nJ (K:ZX) (H:Hp) (a:Addr) (xs:List V):Prop :=
  (∃ o,H a=some (.frz o (.lst xs))) ∨
    ∃ (o:Obj) (its:Array Value) (n:Nat),K.lookup a=some o∧o.cls=.type "list" ∧ o.dict=none∧o.data=.seq its n∧its.size≤sizeLine∧aS xs its.toList
section
variable (K:ZX) (ρ:List Addr) (H:Hp)
mutual
def RD:D→V→Prop
  | .non,v=>v=.non
  | .bl b,v=>v=.bl b
  | .int i,v=>v=.int i
  | .str x,v=>v=.str (toS x)
  | .tup l,v=>∃ p vs,v=.ref p∧H p=some (.tup vs)∧RDs l vs
  | .lit l,v=>∃ p vs,v=.ref p∧nJ K H p vs∧RDs l vs
  | .ref n,v=>∃ a,ρ[n]? = some a∧v=.ref a
  | .exn c l,v=>l=[] ∧ ∃ a C,v=.ref a∧H a=some (Hv a C)∧PySem.W.nsIn K mainGlobals (Str.ofString c)=some (some (.ref C))
def RDs:List D→List V→Prop
  | [],vs=>vs=[]
  | d :: ds,vs=>∃ v r,vs=v :: r∧RD d v∧RDs ds r
end
def RC:du→Addr→Prop
  | .lst l,a=>∃ vs,H a=some (.lst vs)∧RDs K ρ H l vs
  | .dct l,a=>∃ kvs,H a=some (.dK kvs)∧kvs.map (·.1)=l.map (fun p=>(Sum.inl p.1:Key))∧RDs K ρ H (l.map (·.2)) (kvs.map (·.2))
structure RH (hd:Hd):Prop where
  len : ρ.length=hd.length
  nd : ρ.Nodup
  cel:∀ (n:Nat) c a,hd[n]? = some c → ρ[n]? = some a→RC K ρ H c a
structure RSt (σd:Sd) (σ:St):Prop where
  len : σd.length = σ.length
  at':∀ i d,slot σd i=some d → ∃ v,σ[i]? = some (some v)∧RD K ρ H d v
structure RS (σd:Sd) (hd:Hd) (σ:St):Prop where
  hp:RH K ρ H hd
  st:RSt K ρ H σd σ
end
structure Ext (ρ:List Addr) (H:Hp) (ρ':List Addr) (H':Hp):Prop where
  pre:∃ t,ρ' = ρ ++ t
  new:∀ a ∈ ρ',a ∈ ρ ∨H a=none
  frame:∀ p o,H p=some o→p ∉ ρ → H' p=some o
section
variable {K:ZX} {ρ ρ' ρ'':List Addr} {H H' H'':Hp} {hd hd':Hd} {σd σd':Sd} {σ σ':St}
theorem Ext.refl:Ext ρ H ρ H:=⟨⟨[],by simp⟩,fun _ h=>.inl h,fun _ _ h _=>h⟩
theorem Ext.out (e:Ext ρ H ρ' H'){p:Addr}{o:HO}(h:H p=some o)(n:p ∉ ρ):p ∉ ρ':=fun z=>by
  rcases e.new p z with q|q
  · exact n q
  · rw [h] at q;cases q
theorem Ext.trans (a:Ext ρ H ρ' H')(b:Ext ρ' H' ρ'' H''):Ext ρ H ρ'' H'' where
  pre:=by
    obtain⟨t,rfl⟩:=a.pre
    obtain⟨u,rfl⟩:=b.pre
    exact⟨t++u,by simp⟩
  new:=fun x hx=>by
    rcases b.new x hx with q|q
    · exact a.new x q
    · cases e:H x with
      | none=>exact .inr rfl
      | some o =>
        by_cases hn:x ∈ ρ
        · exact .inl hn
        · rw [a.frame x o e hn] at q;cases q
  frame:=fun p o h n=>b.frame p o (a.frame p o h n) (a.out h n)
theorem Ext.same (s:jr H H'):Ext ρ H ρ H':=⟨⟨[],by simp⟩,fun _ h=>.inl h,fun p o h _=>s p o h⟩
theorem Ext.get (e:Ext ρ H ρ' H'){n:Nat}{a:Addr}(h : ρ[n]? = some a) : ρ'[n]? = some a:=by
  obtain⟨t,rfl⟩:=e.pre
  rw [ZC (List.getElem?_eq_some_iff.mp h).1]
  exact h
theorem RH.mut (r:RH K ρ H hd){a:Addr}(h:a ∈ ρ):(∃ vs,H a=some (.lst vs)) ∨ ∃ kvs,H a=some (.dK kvs):=by
  obtain⟨n,hn⟩:=List.getElem?_of_mem h
  have hl:=(List.getElem?_eq_some_iff.mp hn).1
  have hc:hd[n]? = some (hd[n]'(by rw [← r.len];exact hl)):=by simp
  have q:=r.cel n _ a hc hn
  cases e:hd[n]'(by rw [← r.len];exact hl) with
  | lst l=>rw [e] at q;obtain⟨vs,h1,_⟩:=q;exact .inl ⟨vs,h1⟩
  | dct l=>rw [e] at q;obtain⟨vs,h1,_⟩:=q;exact .inr ⟨vs,h1⟩
theorem RH.noTup (r:RH K ρ H hd){a:Addr}{vs:List V}(h:H a=some (.tup vs)):a ∉ ρ:=fun z=>by
  rcases r.mut z with ⟨_,q⟩|⟨_,q⟩<;>(rw [h] at q;cases q)
theorem RH.noFrz (r:RH K ρ H hd){a:Addr}{o:Obj}{u:HO}(h:H a=some (.frz o u)):a ∉ ρ:=fun z=>by
  rcases r.mut z with ⟨_,q⟩|⟨_,q⟩<;>(rw [h] at q;cases q)
theorem RH.noExt (r:RH K ρ H hd){a:Addr}{φ : Heap→Prop}(h:H a=some (.ext φ)):a ∉ ρ:=fun z=>by
  rcases r.mut z with ⟨_,q⟩|⟨_,q⟩<;>(rw [h] at q;cases q)
structure Kp (ρ:List Addr) (H:Hp) (ρ':List Addr) (H':Hp):Prop where
  get:∀ (n:Nat) a,ρ[n]? = some a → ρ'[n]? = some a
  tup:∀ a vs,H a=some (.tup vs)→H' a=some (.tup vs)
  frz:∀ a o u,H a=some (.frz o u)→H' a=some (.frz o u)
  ext:∀ a φ,H a=some (.ext φ)→H' a=some (.ext φ)
theorem RH.kp (r:RH K ρ H hd)(e:Ext ρ H ρ' H'):Kp ρ H ρ' H' :=
  ⟨fun _ _ h=>e.get h,fun _ _ h=>e.frame _ _ h (r.noTup h),fun _ _ _ h=>e.frame _ _ h (r.noFrz h),fun _ _ h=>e.frame _ _ h (r.noExt h)⟩
theorem Kp.same (s:jr H H'):Kp ρ H ρ H':=⟨fun _ _ h=>h,fun _ _ h=>s _ _ h,fun _ _ _ h=>s _ _ h,fun _ _ h=>s _ _ h⟩
theorem nJ.mono {a:Addr}{xs:List V}(k:Kp ρ H ρ' H')(h:nJ K H a xs):nJ K H' a xs:=by
  rcases h with ⟨o,h⟩|h
  · exact .inl ⟨o,k.frz _ _ _ h⟩
  · exact .inr h
mutual
theorem RD.mono (k:Kp ρ H ρ' H'):∀ {d:D} {v:V},RD K ρ H d v→RD K ρ' H' d v
  | .non,_,h=>by simp only [RD] at h ⊢;exact h
  | .bl _,_,h=>by simp only [RD] at h ⊢;exact h
  | .int _,_,h=>by simp only [RD] at h ⊢;exact h
  | .str _,_,h=>by simp only [RD] at h ⊢;exact h
  | .tup l,_,h=>by
    simp only [RD] at h ⊢
    obtain⟨p,vs,e,h1,h2⟩:=h
    exact⟨p,vs,e,k.tup _ _ h1,RDs.mono k h2⟩
  | .lit l,_,h=>by
    simp only [RD] at h ⊢
    obtain⟨p,vs,e,h1,h2⟩:=h
    exact⟨p,vs,e,h1.mono k,RDs.mono k h2⟩
  | .ref n,_,h=>by
    simp only [RD] at h ⊢
    obtain⟨a,h1,h2⟩:=h
    exact⟨a,k.get _ _ h1,h2⟩
  | .exn _ _,_,h=>by
    simp only [RD] at h ⊢
    obtain⟨e0,a,C,e,h1,h2⟩:=h
    exact⟨e0,a,C,e,k.ext _ _ h1,h2⟩
theorem RDs.mono (k:Kp ρ H ρ' H'):∀ {l:List D} {vs:List V},RDs K ρ H l vs→RDs K ρ' H' l vs
  | [],_,h=>by simp only [RDs] at h ⊢;exact h
  | d :: ds,_,h=>by
    simp only [RDs] at h ⊢
    obtain⟨v,r,e,h1,h2⟩:=h
    exact⟨v,r,e,RD.mono k h1,RDs.mono k h2⟩
end
theorem RDs.nil:RDs K ρ H [] []:=by simp only [RDs]
theorem RDs.cons {d:D}{v:V}{ds:List D}{vs:List V}(h:RD K ρ H d v)(t:RDs K ρ H ds vs):RDs K ρ H (d :: ds) (v :: vs):=by
  simp only [RDs];exact⟨v,vs,rfl,h,t⟩
theorem RDs.length:∀ {l:List D} {vs:List V},RDs K ρ H l vs→l.length=vs.length
  | [],_,h=>by simp only [RDs] at h;subst h;rfl
  | d :: ds,_,h=>by
    simp only [RDs] at h
    obtain⟨v,r,e,h1,h2⟩:=h
    subst e
    simp [RDs.length h2]
theorem RDs.get:∀ {l:List D} {vs:List V} {i:Nat} {d:D},RDs K ρ H l vs→l[i]? = some d → ∃ v,vs[i]? = some v∧RD K ρ H d v
  | [],_,i,_,_,e=>by simp at e
  | d :: ds,_,0,_,h,e=>by
    simp only [RDs] at h
    obtain⟨v,r,e',h1,h2⟩:=h
    subst e'
    simp at e
    subst e
    exact⟨v,rfl,h1⟩
  | d :: ds,_,i + 1,x,h,e=>by
    simp only [RDs] at h
    obtain⟨v,r,e',h1,h2⟩:=h
    subst e'
    obtain⟨w,hw,q⟩:=RDs.get (i:=i) (d:=x) h2 (by simpa using e)
    exact⟨w,by simpa using hw,q⟩
theorem RDs.set {d:D}{v:V}(h:RD K ρ H d v):∀ {l:List D} {vs:List V} (i:Nat),RDs K ρ H l vs→RDs K ρ H (l.set i d) (vs.set i v)
  | [],_,_,q=>by simp only [RDs] at q;subst q;exact RDs.nil
  | x :: xs,_,i,q=>by
    simp only [RDs] at q
    obtain⟨w,r,e,h1,h2⟩:=q
    subst e
    cases i with
    | zero=>exact RDs.cons h h2
    | succ i=>exact RDs.cons h1 (RDs.set h i h2)
theorem RDs.append:∀ {l l':List D} {vs vs':List V},RDs K ρ H l vs→RDs K ρ H l' vs'→RDs K ρ H (l++l') (vs++vs')
  | [],_,_,_,h,q=>by simp only [RDs] at h;subst h;exact q
  | d :: ds,_,_,_,h,q=>by
    simp only [RDs] at h
    obtain⟨v,r,e,h1,h2⟩:=h
    subst e
    exact RDs.cons h1 (RDs.append h2 q)
theorem RDs.take:∀ {l:List D} {vs:List V} (n:Nat),RDs K ρ H l vs→RDs K ρ H (l.take n) (vs.take n)
  | _,_,0,_=>by simp;exact RDs.nil
  | [],_,n + 1,h=>by simp only [RDs] at h;subst h;exact RDs.nil
  | d :: ds,_,n + 1,h=>by
    simp only [RDs] at h
    obtain⟨v,r,e,h1,h2⟩:=h
    subst e
    exact RDs.cons h1 (RDs.take n h2)
theorem RDs.drop:∀ {l:List D} {vs:List V} (n:Nat),RDs K ρ H l vs→RDs K ρ H (l.drop n) (vs.drop n)
  | _,_,0,h=>by simpa using h
  | [],_,n + 1,h=>by simp only [RDs] at h;subst h;exact RDs.nil
  | d :: ds,_,n + 1,h=>by
    simp only [RDs] at h
    obtain⟨v,r,e,h1,h2⟩:=h
    subst e
    simpa using RDs.drop n h2
theorem RC.mono {c:du}{a:Addr}(k:Kp ρ H ρ' H')(e:H' a=H a)(h:RC K ρ H c a):RC K ρ' H' c a:=by
  cases c with
  | lst l=>obtain⟨vs,h1,h2⟩:=h;exact⟨vs,e.trans h1,h2.mono k⟩
  | dct l=>obtain⟨vs,h1,h2,h3⟩:=h;exact⟨vs,e.trans h1,h2,h3.mono k⟩
theorem RH.same (r:RH K ρ H hd)(s:jr H H'):RH K ρ H' hd :=
  ⟨r.len,r.nd,fun n c a h1 h2=>(r.cel n c a h1 h2).mono (Kp.same s) (by
    rcases r.mut (ZK h2) with ⟨_,q⟩|⟨_,q⟩<;>rw [q,s _ _ q])⟩
theorem RSt.mono (k:Kp ρ H ρ' H')(r:RSt K ρ H σd σ):RSt K ρ' H' σd σ :=
  ⟨r.len,fun i d h=>let ⟨v,h1,h2⟩:=r.at' i d h;⟨v,h1,h2.mono k⟩⟩
theorem RS.same (r:RS K ρ H σd hd σ)(s:jr H H'):RS K ρ H' σd hd σ:=⟨r.hp.same s,r.st.mono (Kp.same s)⟩
theorem cj {p:Addr}{o:HO}(h:H p=none):jr H (upd H p o):=fun b u e=>by
  rw [ay (aU e h)];exact e
theorem RH.alloc (r:RH K ρ H hd){p:Addr}{l:List D}{vs:List V}(hp:H p=some (.lst vs))(hn:p ∉ ρ)(h:RDs K ρ H l vs):RH K (ρ ++ [p]) H (hd++[.lst l]):=by
  have k:Kp ρ H (ρ ++ [p]) H:=⟨fun n a e=>by rw [ZC (List.getElem?_eq_some_iff.mp e).1];exact e,fun _ _ h=>h,fun _ _ _ h=>h,fun _ _ h=>h⟩
  refine⟨by simp [r.len],?_,fun n c a h1 h2 => ?_⟩
  · rw [List.nodup_append]
    exact⟨r.nd,by simp,fun a ha b hb=>by simp at hb;subst hb;intro e;subst e;exact hn ha⟩
  · by_cases hlt:n < hd.length
    · rw [ZC hlt] at h1
      rw [ZC (by rw [r.len];exact hlt)] at h2
      exact (r.cel n c a h1 h2).mono k rfl
    · have e1:n=hd.length:=by
        have:=(List.getElem?_eq_some_iff.mp h1).1
        simp at this
        omega
      subst e1
      simp at h1
      subst h1
      rw [← r.len] at h2
      simp at h2
      subst h2
      exact⟨vs,hp,h.mono k⟩
theorem o3 {α : Type}:∀ {l:List α},l.Nodup → ∀ {i j:Nat} {x : α},l[i]? = some x→l[j]? = some x→i=j
  | [],_,i,_,_,e,_=>by simp at e
  | a :: l,nd,0,0,_,_,_=>rfl
  | a :: l,nd,0,j + 1,x,e,e'=>by
    simp at e e'
    subst e
    exact absurd (ZK e') (List.nodup_cons.mp nd).1
  | a :: l,nd,i + 1,0,x,e,e'=>by
    simp at e e'
    subst e'
    exact absurd (ZK e) (List.nodup_cons.mp nd).1
  | a :: l,nd,i + 1,j + 1,x,e,e'=>by
    simp at e e'
    rw [o3 (List.nodup_cons.mp nd).2 e e']
theorem RH.write (r:RH K ρ H hd){n:Nat}{p:Addr}{l:List D}{vs:List V}(hp : ρ[n]? = some p)(hn:n < hd.length)(h:RDs K ρ H l vs):RH K ρ (upd H p (.lst vs)) (hd.set n (.lst l)):=by
  have k:Kp ρ H ρ (upd H p (.lst vs)):=by
    have hm:=ZK hp
    refine⟨fun _ _ h=>h,fun a us e => ?_,fun a o u e => ?_,fun a φ e => ?_⟩
    · rw [ay (fun z=>r.noTup e (by rw [z];exact hm))];exact e
    · rw [ay (fun z=>r.noFrz e (by rw [z];exact hm))];exact e
    · rw [ay (fun z=>r.noExt e (by rw [z];exact hm))];exact e
  refine⟨by simp [r.len],r.nd,fun m c a h1 h2 => ?_⟩
  by_cases e:n=m
  · subst e
    rw [List.getElem?_set_self hn] at h1
    cases h1
    rw [hp] at h2
    cases h2
    exact⟨vs,aT,h.mono k⟩
  · rw [ZP e] at h1
    have ne:a≠p:=fun z=>by
      subst z
      exact e (o3 r.nd hp h2)
    exact (r.cel m c a h1 h2).mono k (ay ne)
theorem Ext.write {p:Addr}{o:HO}(hp:p ∈ ρ):Ext ρ H ρ (upd H p o) :=
  ⟨⟨[],by simp⟩,fun _ h=>.inl h,fun q u e n=>by rw [ay (fun z=>n (by rw [z];exact hp))];exact e⟩
theorem Ext.alloc {p:Addr}(h:H p=none){o:HO}:Ext ρ H (ρ ++ [p]) (upd H p o) :=
  ⟨⟨[p],rfl⟩,fun a ha=>by
    rcases List.mem_append.mp ha with q|q
    · exact .inl q
    · simp at q;subst q;exact .inr h,fun q u e _=>cj h q u e⟩
theorem RS.ext (r:RS K ρ H σd hd σ)(e:Ext ρ H ρ' H')(h:RH K ρ' H' hd'):RS K ρ' H' σd hd' σ:=⟨h,r.st.mono (r.hp.kp e)⟩
end
end Fm
namespace Fm
open PySem PySem.Spec L2
abbrev VR (α β : Type):=List Addr→Hp → α → β → Prop
section
variable (K:ZX)
def bQ {α β : Type} (R:VR α β) (ρ:List Addr) (H:Hp) (σd:Sd) (σ:St) (r:Res α) (Q : β → Hp→Prop):Prop:=match r with
  | .ok a hd'=>∀ b H' ρ',Ext ρ H ρ' H'→RS K ρ' H' σd hd' σ → R ρ' H' a b→Q b H'
  | _=>False
def kt {α β : Type} (R:VR α β) (f:Sd→Hd→Res α):St→Hp→(β → Hp→Prop)→Prop:=fun σ H Q =>
  ∃ ρ σd hd,RS K ρ H σd hd σ ∧ bQ K R ρ H σd σ (f σd hd) Q
abbrev rD:VR D V:=fun ρ H d v=>RD K ρ H d v
abbrev rDs:VR (List D) (List V):=fun ρ H d v=>RDs K ρ H d v
abbrev rB:VR Bool Bool:=fun _ _ a b=>a=b
abbrev rO:VR (Option Int) (Option Int):=fun _ _ a b=>a=b
def rQ:VR (List D) V:=fun ρ H l v=>∃ p vs,v=.ref p∧(SqL K H p vs∨H p=some (.tup vs))∧RDs K ρ H l vs
def uk (ρ:List Addr) (H:Hp) (σd:Sd) (σ:St) (r:Res (List D)) (Q:VK):Prop:=match r with
  | .ok l hd'=>∀ q vs H' ρ',Ext ρ H ρ' H'→RS K ρ' H' σd hd' σ → H q=none→H' q=some (.lst vs)→q ∉ ρ'→RDs K ρ' H' l vs→Q (.ref q) H'
  | _=>False
def Hw (f:LF):TE:=fun σ H Q=>∃ ρ σd hd,RS K ρ H σd hd σ ∧ uk K ρ H σd σ (f σd hd) Q
def cC (ρ:List Addr) (H:Hp) (o:Out) (E:sr):Prop:=match o with
  | .nx σd hd=>∀ σ H' ρ',Ext ρ H ρ' H'→RS K ρ' H' σd hd σ → E.nx σ H'
  | .bk σd hd=>∀ σ H' ρ',Ext ρ H ρ' H'→RS K ρ' H' σd hd σ → E.bk σ H'
  | .ct σd hd=>∀ σ H' ρ',Ext ρ H ρ' H'→RS K ρ' H' σd hd σ → E.ct σ H'
  | .rt d hd=>∀ v H' ρ',Ext ρ H ρ' H'→RH K ρ' H' hd→RD K ρ' H' d v→E.rt v H'
  | _=>False
def EG (f:SF):TS:=fun E σ H=>∃ ρ σd hd,RS K ρ H σd hd σ ∧ cC K ρ H (f σd hd) E
end
def ME (X:Cx) (e:Expr) (f:EF):Prop:=PE X e (kt X.K (rD X.K) f)
def MQ (X:Cx) (e:Expr) (f:LF):Prop:=PE X e (kt X.K (rQ X.K) f)
def MF (X:Cx) (e:Expr) (f:LF):Prop:=PE X e (Hw X.K f)
def MT (X:Cx) (e:Expr) (f:TF):Prop:=PT X e (kt X.K rB f)
def MW (X:Cx) (e:Expr) (f:TF):Prop:=PW X e (kt X.K rB f)
def MA (X:Cx) (es:List Expr) (f:LF):Prop:=PA X es (kt X.K (rDs X.K) f)
def MS (X:Cx) (s:Stmt) (f:SF):Prop:=PS X s (EG X.K f)
def MSs (X:Cx) (s:List Stmt) (f:SF):Prop:=PSs X s (EG X.K f)
section
variable {X:Cx}
theorem PE.imp {e:Expr}{t u:TE}(h:PE X e t)(i:∀ σ H Q,u σ H Q→t σ H Q):PE X e u:=fun pins s σ H Q I q=>h pins s σ H Q I (i σ H Q q)
theorem PT.imp {e:Expr}{t u:TT}(h:PT X e t)(i:∀ σ H Q,u σ H Q→t σ H Q):PT X e u:=fun pins s σ H Q I q=>h pins s σ H Q I (i σ H Q q)
theorem PW.imp {e:Expr}{t u:TT}(h:PW X e t)(i:∀ σ H Q,u σ H Q→t σ H Q):PW X e u:=fun w pins s σ H Q I q=>h w pins s σ H Q I (i σ H Q q)
theorem PA.imp {e:List Expr}{t u:TA}(h:PA X e t)(i:∀ σ H Q,u σ H Q→t σ H Q):PA X e u:=fun p pins s σ H Q I q=>h p pins s σ H Q I (i σ H Q q)
theorem PS.imp {e:Stmt}{t u:TS}(h:PS X e t)(i:∀ D σ H,u D σ H→t D σ H):PS X e u:=fun pins s σ H D I q=>h pins s σ H D I (i D σ H q)
theorem PSs.imp {e:List Stmt}{t u:TS}(h:PSs X e t)(i:∀ D σ H,u D σ H→t D σ H):PSs X e u:=fun pins s σ H D I q=>h pins s σ H D I (i D σ H q)
end
section
variable {K:ZX} {ρ ρ':List Addr} {H H':Hp} {hd hd':Hd} {σd:Sd} {σ:St} {α β α' β':Type} {R:VR α β} {R':VR α' β'}
theorem bQ.here {a : α}{b : β}{Q : β → Hp→Prop}(h:bQ K R ρ H σd σ (.ok a hd) Q)(r:RS K ρ H σd hd σ)(q:R ρ H a b):Q b H:=h b H ρ Ext.refl r q
theorem bQ.at {a : α}{b : β}{Q : β → Hp→Prop}(h:bQ K R ρ H σd σ (.ok a hd) Q)(e:Ext ρ H ρ' H')(r:RS K ρ' H' σd hd σ)(q:R ρ' H' a b):Q b H':=h b H' ρ' e r q
theorem bQ.imp {r:Res α}{Q Q' : β → Hp→Prop}(h:bQ K R ρ H σd σ r Q)(i:∀ b H',Q b H'→Q' b H'):bQ K R ρ H σd σ r Q':=by
  cases r with
  | ok a h'=>exact fun b H' ρ' e s q=>i b H' (h b H' ρ' e s q)
  | exc x h'=>exact h
  | bad=>exact h
theorem bQ.ext {r:Res α}{Q : β → Hp→Prop}(e:Ext ρ H ρ' H')(h:bQ K R ρ H σd σ r Q):bQ K R ρ' H' σd σ r Q:=by
  cases r with
  | ok a h'=>exact fun b H'' ρ'' e' s q=>h b H'' ρ'' (e.trans e') s q
  | exc x h'=>exact h
  | bad=>exact h
theorem bQ.bind {r:Res α}{k : α → Hd→Res α'}{Q : β'→Hp→Prop}(h:bQ K R' ρ H σd σ (r.bind k) Q) :
    bQ K R ρ H σd σ r (fun b H'=>∃ ρ' a hd',Ext ρ H ρ' H'∧RS K ρ' H' σd hd' σ ∧ R ρ' H' a b∧bQ K R' ρ' H' σd σ (k a hd') Q):=by
  cases r with
  | ok a h'=>exact fun b H' ρ' e s q=>⟨ρ',a,h',e,s,q,bQ.ext e h⟩
  | exc x h'=>exact h
  | bad=>exact h
theorem cC.ext {o:Out}{E:sr}(e:Ext ρ H ρ' H')(h:cC K ρ H o E):cC K ρ' H' o E:=by
  cases o with
  | nx σ h'=>exact fun σ' H'' ρ'' e' s=>h σ' H'' ρ'' (e.trans e') s
  | bk σ h'=>exact fun σ' H'' ρ'' e' s=>h σ' H'' ρ'' (e.trans e') s
  | ct σ h'=>exact fun σ' H'' ρ'' e' s=>h σ' H'' ρ'' (e.trans e') s
  | rt d h'=>exact fun v H'' ρ'' e' s q=>h v H'' ρ'' (e.trans e') s q
  | exc x σ h'=>exact h
  | bad=>exact h
end
section
variable {X:Cx} {pos:Pos}
theorem FI {i:Nat} {x:Str} (hN:X.N[i]? = some x) (hv:Vis X.env.scope x) (hd:(x == ("__debug__" : Str))=false:=by decide) (hcd:(x == ("__classdict__" : Str))=false:=by decide):ME X (.Name x pos) (aa i):=by
  refine PE.imp (E3 hN hv hd hcd) fun σ H Q ⟨ρ,σd,hd,r,h⟩ => ?_
  unfold aa at h
  cases e:slot σd i with
  | none=>rw [e] at h;exact h.elim
  | some d =>
    rw [e] at h
    obtain⟨v,h1,h2⟩:=r.st.at' i d e
    exact⟨v,h1,h.here r h2⟩
theorem o4 {K:ZX}{d:D}{v:V}(hv:∀ ρ H,RD K ρ H d v):∀ σ H Q,kt K (rD K) (fC d) σ H Q→tC v σ H Q:=fun _ H _ ⟨ρ,_,_,r,h⟩=>h.here r (hv ρ H)
theorem au {i:Int}{j}:ME X (.Constant (.int i) j pos) (fC (.int i)):=PE.imp Ai (o4 fun _ _=>by simp only [RD])
theorem ky {b j}:ME X (.Constant (.bool b) j pos) (fC (.bl b)):=PE.imp G3 (o4 fun _ _=>by simp only [RD])
theorem eA {j}:ME X (.Constant .none j pos) (fC .non):=PE.imp E4 (o4 fun _ _=>by simp only [RD])
theorem AE {x:Str}{j}(l:List Nat)(h:x=toS l):ME X (.Constant (.str x) j pos) (fC (.str l)):=PE.imp E5 (o4 fun _ _=>by simp only [RD];rw [h])
theorem jB {x:Str} {i:Int} {t:Tok} (hg:Gl X x) (hm:X.mg x=some (.int i t)) (hd:(x == ("__debug__" : Str))=false:=by decide):ME X (.Name x pos) (fC (.int i)) :=
  PE.imp (CY (v:=.int i) hg hm ⟨t,rfl⟩ hd) (o4 fun _ _=>by simp only [RD])
theorem me2 {a b:Expr}{fa fb:EF}{r:R2}{g:O2}{e:Expr}(h:PE X e (tOp r (kt X.K (rD X.K) fa) (kt X.K (rD X.K) fb)))
    (hg:∀ ρ H σd hd σ d k v w Q,RS X.K ρ H σd hd σ → RD X.K ρ H d v→RD X.K ρ H k w→bQ X.K (rD X.K) ρ H σd σ (g d k hd) Q→r v w H Q):ME X e (ah g fa fb):=by
  refine PE.imp h fun σ H Q ⟨ρ,σd,hd,rs,p⟩ => ?_
  refine⟨ρ,σd,hd,rs,(bQ.bind (R:=rD X.K) p).imp fun v H1 ⟨ρ1,d,hd1,e1,rs1,rv,p1⟩ => ?_⟩
  refine⟨ρ1,σd,hd1,rs1,(bQ.bind (R:=rD X.K) p1).imp fun w H2 ⟨ρ2,k,hd2,e2,rs2,rw',p2⟩ => ?_⟩
  exact hg ρ2 H2 σd hd2 σ d k v w Q rs2 (rv.mono (rs1.hp.kp e2)) rw' p2
def Og (K:ZX) (g:O2) (r:R2):Prop:=∀ ρ H σd hd σ d k v w Q,RS K ρ H σd hd σ → RD K ρ H d v→RD K ρ H k w→bQ K (rD K) ρ H σd σ (g d k hd) Q→r v w H Q
theorem aY {a b:Expr}{fa fb:EF}{op:Operator}{r:R2}{g:O2}(ho:OpR X (binaryOp op) r)(hg:Og X.K g r)(ha:ME X a fa)(hb:ME X b fb):ME X (.BinOp a op b pos) (ah g fa fb) :=
  me2 (a:=a) (b:=b) (Aq ho ha hb) hg
theorem o5 {a b:Expr}{fa fb:EF}{op:CmpOp}{r:R2}{g:O2}(ho:OpR X (compareOp op) r)(hg:Og X.K g r)(ha:ME X a fa)(hb:ME X b fb)(hm:behindInMarks op b=false):ME X (.Compare a [op] [b] pos) (ah g fa fb) :=
  me2 (a:=a) (b:=b) (Dd ho ha hb hm) hg
theorem yI {K:ZX}{g:Int→Int→Int}:Og K (oI g) (rI0 fun i j=>.int (g i j)):=by
  intro ρ H σd hd σ d k v w Q rs rv rw' p
  cases d<;>cases k<;>first|exact p.elim|skip
  simp only [RD] at rv rw'
  exact⟨_,_,rv,rw',p.here rs (by simp only [rD,RD])⟩
theorem qA {K:ZX}{g:Int→Int→Bool}:Og K (oB g) (rI0 fun i j=>.bl (g i j)):=by
  intro ρ H σd hd σ d k v w Q rs rv rw' p
  cases d<;>cases k<;>first|exact p.elim|skip
  simp only [RD] at rv rw'
  exact⟨_,_,rv,rw',p.here rs (by simp only [rD,RD])⟩
theorem AF {K:ZX}{c:Int→Int→Bool}{C:Int→Int→Prop}{g:Int→Int→Int}(hc:∀ i j,c i j=true→C i j):Og K (oIc c g) (rI C fun i j=>.int (g i j)):=by
  intro ρ H σd hd σ d k v w Q rs rv rw' p
  cases d<;>cases k<;>first|exact p.elim|skip
  rename_i i j
  simp only [RD] at rv rw'
  cases e:c i j with
  | false=>simp only [oIc,e] at p;exact p.elim
  | true =>
    simp only [oIc,e,if_true] at p
    exact⟨i,j,rv,rw',hc i j e,p.here rs (by simp only [rD,RD])⟩
theorem xz {i:Int}(h:sml i=true) : -(2 ^ 64) < i∧i < 2 ^ 64:=by
  simp only [sml,Bool.and_eq_true,decide_eq_true_eq] at h;exact h
theorem dX {K:ZX}:Og K bC (rI Dc fun i j=>.int (i * j)):=AF fun i j h=>by
  rcases (Bool.or_eq_true _ _).mp h with q|q
  · exact .inl (xz q)
  · exact .inr (xz q)
theorem eV {K:ZX}:Og K cL (rI (fun _ j=>0 < j) fun i j=>.int (i % j)):=AF fun i j h=>of_decide_eq_true h
def Hx (_ j:Int):Prop:=0 < j∧j < 2 ^ 250
theorem fM:OpR X (binaryOp .FloorDiv) (rI Hx fun i j=>.int (i / j)):=opI fun i j _ _ _ _ _ hc q=>by
  have h0:j≠0:=by have:=hc.1;omega
  refine PyProof.Rows.floordiv_int h0 (by rw [Int.fdiv_eq_ediv_of_nonneg _ (Int.le_of_lt hc.1)];exact q) (.inl (PyProof.noPylong_of_log2 ?_))
  have h2:j.natAbs < 2 ^ 250:=by have:=hc.2;have:=hc.1;omega
  have h3:j.natAbs≠0:=by omega
  have:=(Nat.log2_lt h3).mpr h2
  omega
theorem jC {K:ZX}:Og K iw (rI Hx fun i j=>.int (i / j)):=AF fun i j h=>by
  simp only [Bool.and_eq_true,decide_eq_true_eq] at h;exact h
theorem sC {K:ZX}{ρ:List Addr}{H:Hp}{d:D}{v:V}(h:RD K ρ H d v):lu d=decide (v=.non):=by
  cases d<;>simp only [RD] at h
  · subst h;rfl
  · subst h;rfl
  · subst h;rfl
  · subst h;rfl
  · obtain⟨p,vs,rfl,_⟩:=h;rfl
  · obtain⟨p,vs,rfl⟩:=h;rfl
  · obtain⟨p,vs,rfl,_⟩:=h;rfl
  · obtain⟨_,p,vs,rfl,_⟩:=h;rfl
theorem o6 {K:ZX}:Og K jz (fun x y H Q=>y=.non∧Q (.bl (decide (x=.non))) H):=by
  intro ρ H σd hd σ d k v w Q rs rv rw' p
  unfold jz at p
  cases e:lu k with
  | false=>rw [e] at p;exact p.elim
  | true =>
    rw [e,if_pos rfl] at p
    refine⟨of_decide_eq_true ((sC rw').symm.trans e),?_⟩
    rw [← sC rv]
    exact p.here rs (by simp only [rD,RD])
theorem kc {K:ZX}:Og K fZ (fun x y H Q=>y=.non∧Q (.bl (!decide (x=.non))) H):=by
  intro ρ H σd hd σ d k v w Q rs rv rw' p
  unfold fZ at p
  cases e:lu k with
  | false=>rw [e] at p;exact p.elim
  | true =>
    rw [e,if_pos rfl] at p
    refine⟨of_decide_eq_true ((sC rw').symm.trans e),?_⟩
    rw [← sC rv]
    exact p.here rs (by simp only [rD,RD])
theorem my {K:ZX}{ρ:List Addr}{H:Hp}{σd:Sd}{σ:St}{r:Res D}{Q:Bool→Hp→Prop}(h:bQ K rB ρ H σd σ (asB r) Q):bQ K (rD K) ρ H σd σ r (fun x H'=>∃ c,x=.bl c∧Q c H'):=by
  refine (bQ.bind (R:=rD K) h).imp fun v H1 ⟨ρ1,d,hd1,e1,rs1,rv,p1⟩ => ?_
  cases d<;>first|exact p1.elim|skip
  simp only [rD,RD] at rv
  exact⟨_,rv,p1.here rs1 rfl⟩
theorem eW {e:Expr}{f:EF}(h:ME X e f)(he:∀ whole,isTrue e X.env whole=(do let v ← whole;standAt e.pos;holding [v] (truthy v)):=by intro _;rfl):MT X e (tE f) :=
  PT.imp (E6 h he) fun σ H Q ⟨ρ,σd,hd,rs,p⟩=>⟨ρ,σd,hd,rs,my p⟩
theorem bg {a b:Expr}{fa fb:EF}{op:CmpOp}{r:R2}{g:O2}(ho:OpR X (compareOp op) r)(hg:Og X.K g r)(ha:ME X a fa)(hb:ME X b fb)(hm:behindInMarks op b=false):MT X (.Compare a [op] [b] pos) (tE (ah g fa fb)):=by
  refine PT.imp (De ho ha hb hm) fun σ H Q ⟨ρ,σd,hd,rs,p⟩ => ?_
  have p:=my p
  refine⟨ρ,σd,hd,rs,(bQ.bind (R:=rD X.K) p).imp fun v H1 ⟨ρ1,d,hd1,e1,rs1,rv,p1⟩ => ?_⟩
  refine⟨ρ1,σd,hd1,rs1,(bQ.bind (R:=rD X.K) p1).imp fun w H2 ⟨ρ2,k,hd2,e2,rs2,rw',p2⟩ => ?_⟩
  exact hg ρ2 H2 σd hd2 σ d k v w _ rs2 (rv.mono (rs1.hp.kp e2)) rw' p2
theorem fu {a:Expr}{t:TF}(h:MT X a t):MT X (.UnaryOp .Not a pos) (eT t):=by
  refine PT.imp (E9 h) fun σ H Q ⟨ρ,σd,hd,rs,p⟩=>⟨ρ,σd,hd,rs,(bQ.bind (R:=rB) p).imp fun c H1 ⟨ρ1,d,hd1,e1,rs1,rv,p1⟩ => ?_⟩
  cases rv
  exact p1.here rs1 rfl
theorem ic {op a}{t:TF}(h:MT X a t)(ho:op=BoolOp.And∨op=BoolOp.Or):MW X (.BoolOp op [a] pos) t:=by
  rcases ho with rfl|rfl
  · exact C6 h
  · exact E7 h
theorem AG {a b:Expr}{rest:List Expr}{t u:TF}(ha:MT X a t)(hb:MW X (.BoolOp .And (b :: rest) pos) u):MW X (.BoolOp .And (a :: b :: rest) pos) (kE t u):=by
  refine PW.imp (E8 ha hb) fun σ H Q ⟨ρ,σd,hd,rs,p⟩=>⟨ρ,σd,hd,rs,(bQ.bind (R:=rB) p).imp fun c H1 ⟨ρ1,d,hd1,e1,rs1,rv,p1⟩ => ?_⟩
  cases rv
  cases c with
  | true=>simp only [if_true] at p1 ⊢;exact⟨ρ1,σd,hd1,rs1,p1⟩
  | false=>simp only [Bool.false_eq_true,if_false] at p1 ⊢;exact p1.here rs1 rfl
theorem ly {a b:Expr}{rest:List Expr}{t u:TF}(ha:MT X a t)(hb:MW X (.BoolOp .Or (b :: rest) pos) u):MW X (.BoolOp .Or (a :: b :: rest) pos) (tOr t u):=by
  refine PW.imp (G4 ha hb) fun σ H Q ⟨ρ,σd,hd,rs,p⟩=>⟨ρ,σd,hd,rs,(bQ.bind (R:=rB) p).imp fun c H1 ⟨ρ1,d,hd1,e1,rs1,rv,p1⟩ => ?_⟩
  cases rv
  cases c with
  | true=>simp only [if_true] at p1 ⊢;exact p1.here rs1 rfl
  | false=>simp only [Bool.false_eq_true,if_false] at p1 ⊢;exact⟨ρ1,σd,hd1,rs1,p1⟩
theorem MW.mt {e:Expr}{t:TF}(h:MW X e t):MT X e t:=h.pt
theorem Dp {K:ZX}{t:TF}{σ:St}{H:Hp}{Q:VK}(h:kt K (rD K) (fT t) σ H Q):kt K rB t σ H (fun b H'=>Q (.bl b) H'):=by
  obtain⟨ρ,σd,hd,rs,p⟩:=h
  refine⟨ρ,σd,hd,rs,(bQ.bind (R:=rB) p).imp fun c H1 ⟨ρ1,d,hd1,e1,rs1,rv,p1⟩ => ?_⟩
  cases rv
  exact p1.here rs1 (by simp only [rD,RD])
def MB (X:Cx) (e:Expr) (t:TF):Prop:=PE X e (fun σ H Q=>kt X.K rB t σ H fun b H'=>Q (.bl b) H')
theorem MB.me {e:Expr}{t:TF}(h:MB X e t):ME X e (fT t):=PE.imp h fun _ _ _ q=>Dp q
theorem kz {e:Expr}{f:EF}(h:ME X e f):MB X e (tE f):=by
  refine PE.imp h fun σ H Q ⟨ρ,σd,hd,rs,p⟩=>⟨ρ,σd,hd,rs,(my p).imp ?_⟩
  rintro v H1 ⟨c,rfl,q⟩
  exact q
theorem o7 {op a}{t:TF}(h:MB X a t):MB X (.BoolOp op [a] pos) t:=Fc h
theorem sD {a b:Expr}{rest:List Expr}{t u:TF}(ha:MB X a t)(hb:MB X (.BoolOp .And (b :: rest) pos) u):MB X (.BoolOp .And (a :: b :: rest) pos) (kE t u):=by
  refine PE.imp (Fd ha hb) fun σ H Q ⟨ρ,σd,hd,rs,p⟩=>⟨ρ,σd,hd,rs,(bQ.bind (R:=rB) p).imp fun c H1 ⟨ρ1,d,hd1,e1,rs1,rv,p1⟩=>⟨c,rfl,?_⟩⟩
  cases rv
  cases c with
  | true=>simp only [if_true] at p1 ⊢;exact⟨ρ1,σd,hd1,rs1,p1⟩
  | false=>simp only [Bool.false_eq_true,if_false] at p1 ⊢;exact p1.here rs1 rfl
theorem Hy {a b:Expr}{rest:List Expr}{t u:TF}(ha:MB X a t)(hb:MB X (.BoolOp .Or (b :: rest) pos) u):MB X (.BoolOp .Or (a :: b :: rest) pos) (tOr t u):=by
  refine PE.imp (G7 ha hb) fun σ H Q ⟨ρ,σd,hd,rs,p⟩=>⟨ρ,σd,hd,rs,(bQ.bind (R:=rB) p).imp fun c H1 ⟨ρ1,d,hd1,e1,rs1,rv,p1⟩=>⟨c,rfl,?_⟩⟩
  cases rv
  cases c with
  | true=>simp only [if_true] at p1 ⊢;exact p1.here rs1 rfl
  | false=>simp only [Bool.false_eq_true,if_false] at p1 ⊢;exact⟨ρ1,σd,hd1,rs1,p1⟩
theorem FJ {a:Expr}{t:TF}(h:MB X a t):MB X (.UnaryOp .Not a pos) (eT t):=by
  refine PE.imp (Fe h) fun σ H Q ⟨ρ,σd,hd,rs,p⟩=>⟨ρ,σd,hd,rs,(bQ.bind (R:=rB) p).imp fun c H1 ⟨ρ1,d,hd1,e1,rs1,rv,p1⟩=>⟨c,rfl,?_⟩⟩
  cases rv
  exact p1.here rs1 rfl
theorem AH {c a b:Expr}{t:TF}{fa fb:EF}(hc:MT X c t)(ha:ME X a fa)(hb:ME X b fb):ME X (.IfExp c a b pos) (fIf t fa fb):=by
  refine PE.imp (Aj hc ha hb) fun σ H Q ⟨ρ,σd,hd,rs,p⟩=>⟨ρ,σd,hd,rs,(bQ.bind (R:=rB) p).imp fun c H1 ⟨ρ1,d,hd1,e1,rs1,rv,p1⟩ => ?_⟩
  cases rv
  cases c with
  | true=>simp only [if_true] at p1 ⊢;exact⟨ρ1,σd,hd1,rs1,p1⟩
  | false=>simp only [Bool.false_eq_true,if_false] at p1 ⊢;exact⟨ρ1,σd,hd1,rs1,p1⟩
end
end Fm
namespace Fm
open PySem PySem.Spec L2
section
variable {X:Cx} {pos:Pos}
theorem vY {K:ZX}{ρ:List Addr}{H:Hp}{σd:Sd}{hd:Hd}{σ:St}{r r':R2}{g k:O2}{fa fb fc:EF}{Q:VK}(hg:Og K g r)(hk:Og K k r')(rs:RS K ρ H σd hd σ)
    (p:bQ K (rD K) ρ H σd σ (oX g k fa fb fc σd hd) Q):Ar r r' (kt K (rD K) fa) (kt K (rD K) fb) (kt K (rD K) fc) σ H Q:=by
  refine⟨ρ,σd,hd,rs,(bQ.bind (R:=rD K) p).imp fun v H1 ⟨ρ1,d,hd1,e1,rs1,rv,p1⟩ => ?_⟩
  refine⟨ρ1,σd,hd1,rs1,(bQ.bind (R:=rD K) p1).imp fun w H2 ⟨ρ2,d2,hd2,e2,rs2,rw2,p2⟩ => ?_⟩
  refine hg ρ2 H2 σd hd2 σ d d2 v w _ rs2 (rv.mono (rs1.hp.kp e2)) rw2 ((bQ.bind (R:=rD K) p2).imp fun z H3 ⟨ρ3,d3,hd3,e3,rs3,rz,p3⟩ => ?_)
  cases d3<;>first|exact p3.elim|skip
  rename_i b
  simp only [rD,RD] at rz
  refine⟨b,rz,?_⟩
  cases b with
  | false =>
    rw [if_neg Bool.false_ne_true]
    exact p3.here rs3 (by simp only [rD,RD])
  | true =>
    rw [if_pos rfl]
    refine⟨ρ3,σd,hd3,rs3,(bQ.bind (R:=rD K) p3).imp fun u H4 ⟨ρ4,d4,hd4,e4,rs4,ru,p4⟩ => ?_⟩
    exact hk ρ4 H4 σd hd4 σ d2 d4 w u Q rs4 ((rw2.mono (rs2.hp.kp e3)).mono (rs3.hp.kp e4)) ru p4
theorem AI {a b c:Expr}{fa fb fc:EF}{op op':CmpOp}{r r':R2}{g k:O2}(ho:OpR X (compareOp op) r)(ho':OpR X (compareOp op') r')(hg:Og X.K g r)(hk:Og X.K k r')(ha:ME X a fa)(hb:ME X b fb)(hc:ME X c fc)
    (hm:lastMarks [op,op'] [b,c] = false:=by with_unfolding_all rfl):ME X (.Compare a [op,op'] [b,c] pos) (oX g k fa fb fc) :=
  PE.imp (As ho ho' ha hb hc hm) fun _ _ _ ⟨_,_,_,rs,p⟩=>vY hg hk rs p
theorem aw:MA X [] ar:=PA.imp eu fun _ _ _ ⟨_,_,_,rs,p⟩=>p.here rs RDs.nil
theorem ae {e:Expr}{es:List Expr}{f:EF}{r:LF}(he:ME X e f)(hr:MA X es r)(hs:starEach (e :: es) X.env=(false,eval e X.env) :: starEach es X.env:=by rfl):MA X (e :: es) (ad f r):=by
  refine PA.imp (cu he hr hs) fun σ H Q ⟨ρ,σd,hd,rs,p⟩ => ?_
  refine⟨ρ,σd,hd,rs,(bQ.bind (R:=rD X.K) p).imp fun v H1 ⟨ρ1,d,hd1,e1,rs1,rv,p1⟩ => ?_⟩
  refine⟨ρ1,σd,hd1,rs1,(bQ.bind (R:=rDs X.K) p1).imp fun vs H2 ⟨ρ2,ds,hd2,e2,rs2,rvs,p2⟩ => ?_⟩
  exact p2.here rs2 (RDs.cons (rv.mono (rs1.hp.kp e2)) rvs)
theorem lA {n:Nat}(h:n≤SZ):n≤sizeLine:=ZM h (by show 1000000≤2 ^ 24;decide)
theorem ie {es:List Expr}{k}{r:LF}(h:MA X es r):ME X (.Tuple es k pos) (fL r):=by
  refine PE.imp (Fu h) fun σ H Q ⟨ρ,σd,hd,rs,p⟩ => ?_
  refine⟨ρ,σd,hd,rs,(bQ.bind (R:=rDs X.K) p).imp fun vs H1 ⟨ρ1,ds,hd1,e1,rs1,rvs,p1⟩ => ?_⟩
  by_cases hz:ds.length≤SZ
  · rw [if_pos hz] at p1
    refine⟨by rw [← rvs.length];exact lA hz,fun q hq => ?_⟩
    have sm:=cj (o:=HO.tup vs) hq
    exact p1.at (Ext.same sm) (rs1.same sm) (by simp only [rD,RD];exact⟨q,vs,rfl,aT,rvs.mono (Kp.same sm)⟩)
  · rw [if_neg hz] at p1;exact p1.elim
theorem Ext.fresh {ρ ρ':List Addr}{H H':Hp}{q:Addr}(e:Ext ρ H ρ' H')(h:H' q=none)(n:q ∉ ρ'):H q=none:=by
  cases z:H q with
  | none=>rfl
  | some o =>
    by_cases hq:q ∈ ρ
    · obtain⟨t,rfl⟩:=e.pre
      exact absurd (List.mem_append_left t hq) n
    · rw [e.frame q o z hq] at h;cases h
theorem RH.free {K:ZX}{ρ:List Addr}{H:Hp}{hd:Hd}(r:RH K ρ H hd){q:Addr}(h:H q=none):q ∉ ρ:=fun z=>by
  rcases r.mut z with ⟨_,e⟩|⟨_,e⟩<;>(rw [h] at e;cases e)
theorem uk.mk {K:ZX}{ρ ρ1:List Addr}{H H1:Hp}{hd1:Hd}{σd:Sd}{σ:St}{l:List D}{vs:List V}{Q:VK}(p:uk K ρ H σd σ (.ok l hd1) Q)(e1:Ext ρ H ρ1 H1)(rs1:RS K ρ1 H1 σd hd1 σ)(r:RDs K ρ1 H1 l vs) :
    ∀ q,H1 q=none→Q (.ref q) (upd H1 q (.lst vs)):=fun q hq=>by
  have sm:=cj (o:=HO.lst vs) hq
  have nq:=rs1.hp.free hq
  exact p q vs _ ρ1 (e1.trans (Ext.same sm)) (rs1.same sm) (e1.fresh hq nq) aT nq (r.mono (Kp.same sm))
theorem fv {es:List Expr}{r:LF}(h:MA X es r)(hz:∀ σd hd ds hd',r σd hd=.ok ds hd'→ds.length≤SZ):MF X (.List es pos) r:=by
  refine PE.imp (Fv h) fun σ H Q ⟨ρ,σd,hd,rs,p⟩ => ?_
  refine⟨ρ,σd,hd,rs,?_⟩
  cases e:r σd hd with
  | exc x h'=>rw [e] at p;exact p
  | bad=>rw [e] at p;exact p
  | ok ds hd1 =>
    rw [e] at p
    intro vs H1 ρ1 e1 rs1 rvs
    exact⟨by rw [← RDs.length rvs];exact lA (hz _ _ _ _ e),p.mk e1 rs1 rvs⟩
theorem bp {f:EF}{r:LF}{n:Nat}(h:∀ σd hd ds hd',r σd hd=.ok ds hd'→ds.length=n):∀ σd hd ds hd',ad f r σd hd=.ok ds hd'→ds.length=n + 1:=by
  intro σd hd ds hd' e
  simp only [ad] at e
  cases e1:f σd hd with
  | exc x h'=>rw [e1] at e;cases e
  | bad=>rw [e1] at e;cases e
  | ok d h1 =>
    rw [e1] at e
    simp only [aG] at e
    cases e2:r σd h1 with
    | exc x h'=>rw [e2] at e;cases e
    | bad=>rw [e2] at e;cases e
    | ok ds2 h2 =>
      rw [e2] at e
      simp only [aG] at e
      cases e
      simp [h _ _ _ _ e2]
theorem cW:∀ σd hd ds hd',ar σd hd=.ok ds hd'→ds.length=0:=by
  intro σd hd ds hd' e
  simp only [ar] at e
  cases e
  rfl
theorem dE {e:Expr}{r:LF}(h:MF X e r):ME X e (bL r):=by
  refine PE.imp h fun σ H Q ⟨ρ,σd,hd,rs,p⟩=>⟨ρ,σd,hd,rs,?_⟩
  unfold bL at p
  cases e:r σd hd with
  | exc x h'=>rw [e] at p;exact p
  | bad=>rw [e] at p;exact p
  | ok ds hd1 =>
    rw [e] at p
    simp only [aG] at p
    intro q vs H1 ρ1 e1 rs1 hq0 hq hn rvs
    by_cases hz:ds.length≤SZ
    · rw [if_pos hz] at p
      have rh:=rs1.hp.alloc hq hn rvs
      have ex:Ext ρ H (ρ1++[q]) H1:=⟨by obtain⟨t,rfl⟩:=e1.pre;exact⟨t++[q],by simp⟩,fun a ha=>by
        rcases List.mem_append.mp ha with z|z
        · exact e1.new a z
        · simp at z;subst z;exact .inr hq0,e1.frame⟩
      refine p.at ex (rs.ext ex rh) ?_
      simp only [rD,RD]
      refine⟨q,?_,rfl⟩
      rw [← rs1.hp.len]
      simp
    · rw [if_neg hz] at p;exact p.elim
theorem ig {e:Expr}{r:LF}(h:MF X e r):MQ X e r:=by
  refine PE.imp h fun σ H Q ⟨ρ,σd,hd,rs,p⟩=>⟨ρ,σd,hd,rs,?_⟩
  cases e:r σd hd with
  | exc x h'=>rw [e] at p;exact p
  | bad=>rw [e] at p;exact p
  | ok ds hd1 =>
    rw [e] at p
    intro q vs H1 ρ1 e1 rs1 hq0 hq hn rvs
    exact p (.ref q) H1 ρ1 e1 rs1 ⟨q,vs,rfl,.inl (SqL.of hq),rvs⟩
theorem nJ.sq {K:ZX}{H:Hp}{a:Addr}{xs:List V}(h:nJ K H a xs):SqL K H a xs:=by
  rcases h with ⟨o,h⟩|h
  · exact .inl (.inr ⟨o,h⟩)
  · exact .inr h
theorem xA {K:ZX}{ρ:List Addr}{H:Hp}{hd:Hd}{d:D}{v:V}{l:List D}(r:RH K ρ H hd)(h:RD K ρ H d v)(e:kx hd d=some l):∃ p vs,v=.ref p∧(SqL K H p vs∨H p=some (.tup vs))∧RDs K ρ H l vs:=by
  cases d<;>simp only [kx] at e<;>try (cases e;done)
  · cases e
    simp only [RD] at h
    obtain⟨p,vs,e1,e2,e3⟩:=h
    exact⟨p,vs,e1,.inr e2,e3⟩
  · rename_i n
    simp only [RD] at h
    obtain⟨a,e1,e2⟩:=h
    cases c:hd[n]? with
    | none=>rw [c] at e;cases e
    | some x =>
      rw [c] at e
      cases x with
      | dct l=>cases e
      | lst l' =>
        cases e
        obtain⟨vs,q1,q2⟩:=r.cel n _ a c e1
        exact⟨a,vs,e2,.inl (SqL.of q1),q2⟩
  · cases e
    simp only [RD] at h
    obtain⟨p,vs,e1,e2,e3⟩:=h
    exact⟨p,vs,e1,.inl e2.sq,e3⟩
theorem cH {e:Expr}{f:EF}(h:ME X e f):MQ X e (lOf f):=by
  refine PE.imp h fun σ H Q ⟨ρ,σd,hd,rs,p⟩=>⟨ρ,σd,hd,rs,(bQ.bind (R:=rD X.K) p).imp fun v H1 ⟨ρ1,d,hd1,e1,rs1,rv,p1⟩ => ?_⟩
  cases e:kx hd1 d with
  | none=>rw [e] at p1;exact p1.elim
  | some l=>rw [e] at p1;exact p1.here rs1 (xA rs1.hp rv e)
theorem xB {K:ZX}{ρ:List Addr}{H:Hp}{l:List D}{vs:List V}{i:Int}{d:D}(r:RDs K ρ H l vs)(e:atI l i=some d):∃ v,L2.atI vs i=some v∧RD K ρ H d v:=by
  unfold atI at e
  unfold L2.atI
  have hl:=r.length
  have hx:ixN l.length i=L2.ixN vs.length i:=by rw [hl];rfl
  rw [hx] at e
  cases c:L2.ixN vs.length i with
  | none=>rw [c] at e;cases e
  | some j =>
    rw [c] at e
    simp only [Option.bind_some] at e ⊢
    exact r.get e
theorem aR {a b:Expr}{fa fb:EF}(ha:ME X a fa)(hb:ME X b fb)(hs:sx b):ME X (.Subscript a b pos) (fAt fa fb):=by
  refine me2 (a:=a) (b:=b) (g:=oAt) (ED FC ha hb hs) fun ρ H σd hd σ d k v w Q rs rv rw' p => ?_
  unfold oAt at p
  cases e:kx hd d with
  | none=>rw [e] at p;exact p.elim
  | some l =>
    rw [e] at p
    cases k<;>first|exact p.elim|skip
    rename_i i
    simp only at p
    cases e2:atI l i with
    | none=>rw [e2] at p;exact p.elim
    | some x =>
      rw [e2] at p
      simp only [RD] at rw'
      obtain⟨q,vs,hv,sq,rvs⟩:=xA rs.hp rv e
      obtain⟨u,hu,ru⟩:=xB rvs e2
      rcases sq with sq|sq
      · exact .inl ⟨q,vs,i,u,hv,rw',sq,hu,p.here rs ru⟩
      · exact .inr (.inl ⟨q,vs,i,u,hv,rw',SqT.of sq,hu,p.here rs ru⟩)
theorem AJ {a b:Expr}{la:LF}{fb:EF}(ha:MF X a la)(hb:ME X b fb)(hs:sx b):ME X (.Subscript a b pos) (fIx la fb):=by
  refine PE.imp (ED xy ha hb hs) fun σ H Q ⟨ρ,σd,hd,rs,p⟩=>⟨ρ,σd,hd,rs,?_⟩
  unfold fIx at p
  cases e:la σd hd with
  | exc x h'=>rw [e] at p;exact p
  | bad=>rw [e] at p;exact p
  | ok l hd1 =>
    rw [e] at p
    simp only [aG] at p
    intro q vs H1 ρ1 e1 rs1 hq0 hq hn rvs
    refine⟨ρ1,σd,hd1,rs1,(bQ.bind (R:=rD X.K) (p.ext e1)).imp fun w H2 ⟨ρ2,k,hd2,e2,rs2,rw',p2⟩ => ?_⟩
    cases k<;>first|exact p2.elim|skip
    rename_i i
    simp only at p2
    cases e3:atI l i with
    | none=>rw [e3] at p2;exact p2.elim
    | some x =>
      rw [e3] at p2
      simp only [rD,RD] at rw'
      obtain⟨u,hu,ru⟩:=xB (rvs.mono (rs1.hp.kp e2)) e3
      exact⟨q,vs,i,u,rfl,rw',SqL.of (e2.frame q _ hq hn),hu,p2.here rs2 ru⟩
end
end Fm
namespace Fm
open PySem PySem.Spec L2
section
variable {X:Cx} {pos:Pos}
def B1 (X:Cx) (r:List V→Hp→VK→Prop) (x:Str) (p pos:Pos) (a:Expr):Prop:=∀ t,PA X [a] t→PE X (.Call (.Name x p) [a] [] pos) (tCB r t)
theorem xC {x:Str} {p:Pos} {a:Expr} {id:String} {r:List V→Hp→VK→Prop} (hc:fX X (.builtin id) r) (hg:Gl X x) (hm:X.mg x=none) (hv:bootBuiltins x=some (.builtin id)) (hn:x ≠ "__name__" := by decide) (hdb:(x == ("__debug__" : Str))=false:=by decide)
    (he:starEach [a] X.env=(false,eval a X.env) :: starEach [] X.env:=by rfl):B1 X r x p pos a:=fun _ ha=>iu hc hg hm hv ha hn hdb he
theorem Hz {x:Str} {p:Pos} {a:Expr} {T:String} {r:List V→Hp→VK→Prop} (hc:fX X (.type T) r) (hg:Gl X x) (hm:X.mg x=none) (hv:bootBuiltins x=some (.type T)) (hn:x ≠ "__name__" := by decide) (hdb:(x == ("__debug__" : Str))=false:=by decide)
    (he:starEach [a] X.env=(false,eval a X.env) :: starEach [] X.env:=by rfl):B1 X r x p pos a:=fun _ ha=>mw hc hg hm hv ha hn hdb he
theorem o8 {x:Str}{p:Pos}{a:Expr}{la:LF}{r:List V→Hp→VK→Prop}{g:List D→Hd→Res D}(hb:B1 X r x p pos a)(ha:MQ X a la)
    (hg:∀ ρ H σd hd σ l q vs Q,RS X.K ρ H σd hd σ → (SqL X.K H q vs∨H q=some (.tup vs))→RDs X.K ρ H l vs→bQ X.K (rD X.K) ρ H σd σ (g l hd) Q→r [.ref q] H Q)
    (hs:starEach [a] X.env=(false,eval a X.env) :: starEach [] X.env:=by rfl):ME X (.Call (.Name x p) [a] [] pos) (fun σ h=>(la σ h).bind fun l h=>g l h):=by
  refine PE.imp (hb _ (cu ha eu hs)) fun σ H Q ⟨ρ,σd,hd,rs,pp⟩=>⟨ρ,σd,hd,rs,(bQ.bind (R:=rQ X.K) pp).imp fun v H1 ⟨ρ1,l,hd1,e1,rs1,⟨q,vs,hv,sq,rvs⟩,p1⟩ => ?_⟩
  subst hv
  exact hg ρ1 H1 σd hd1 σ l q vs Q rs1 sq rvs p1
theorem cN {p:Pos} {a:Expr} {la:LF} (hg:Gl X "len") (hm:X.mg "len" = none) (ha:MQ X a la) (hs:starEach [a] X.env=(false,eval a X.env) :: starEach [] X.env:=by rfl):ME X (.Call (.Name "len" p) [a] [] pos) (cz la) :=
  o8 (g:=fun l h=>.ok (.int l.length) h) (xC sA hg hm PySem.boot_len (he:=hs)) ha (fun ρ H σd hd σ l q vs Q rs sq rvs p=>⟨q,vs,rfl,sq.imp id SqT.of,by rw [← rvs.length];exact p.here rs (by simp only [rD,RD])⟩) hs
theorem f7 {p:Pos} {a:Expr} {la:LF} (hg:Gl X "tuple") (hm:X.mg "tuple" = none) (ha:MQ X a la) (hs:starEach [a] X.env=(false,eval a X.env) :: starEach [] X.env:=by rfl):ME X (.Call (.Name "tuple" p) [a] [] pos) (er la):=by
  refine o8 (g:=fun l h=>.ok (.tup l) h) (Hz qz hg hm (by decide +kernel) (he:=hs)) ha (fun ρ H σd hd σ l q vs Q rs sq rvs p=>⟨q,vs,rfl,?_⟩) hs
  rcases sq with sq|sq
  · refine .inl ⟨sq,fun q' hq => ?_⟩
    have sm:=cj (o:=HO.tup vs) hq
    exact p.at (Ext.same sm) (rs.same sm) (by simp only [rD,RD];exact⟨q',vs,rfl,aT,rvs.mono (Kp.same sm)⟩)
  · exact .inr ⟨SqT.of sq,p.here rs (by simp only [rD,RD];exact⟨q,vs,rfl,sq,rvs⟩)⟩
theorem ul (ns:List Int):PySem.preSum (fun i=>ns.getD i 0) ns.length=ns.sum:=by
  have key:∀ k,k≤ns.length→PySem.preSum (fun i=>ns.getD i 0) k=(ns.take k).sum:=by
    intro k
    induction k with
    | zero=>intro _;simp [PySem.preSum]
    | succ k ih =>
      intro hk
      rw [PySem.preSum,ih (by omega),List.take_add_one,ZE (by omega),List.sum_append]
      simp [List.getD,ZE (show k < ns.length by omega)]
  rw [key _ (ZL _),List.take_length]
theorem xD {its:List Value}{ns:List Int}(r:aS (ns.map V.int) its)(i:Nat)(v:Value)(h:its.toArray[i]? = some v):∃ t,v=.int (ns.getD i 0) t:=by
  have h':its[i]? = some v:=by simpa using h
  have hl:=r.length
  have hi:i < its.length:=(List.getElem?_eq_some_iff.mp h').1
  have hn:i < ns.length:=by rw [← hl] at hi;simpa using hi
  obtain⟨u,hu,ru⟩:=r.get (i:=i) (x:=.int ns[i]) (by simp [hn])
  rw [h'] at hu
  cases hu
  obtain⟨t,e⟩:=ru
  exact⟨t,by rw [e];simp [List.getD,hn]⟩
theorem yJ (hc:X.calm=true):fX X (.builtin "sum") (fun xs H Q=>∃ (p:Addr) (ns:List Int),xs=[.ref p]∧(SqL X.K H p (ns.map V.int)∨SqT X.K H p (ns.map V.int))∧Q (.int ns.sum) H):=by
  intro pins s σ H xs us Q I r q
  obtain⟨p,ns,rfl,sq,q⟩:=q
  obtain⟨u,rfl,ru⟩:=aS.one r
  cases (show u=Value.ref p from ru)
  have fin:∀ {it:Obj} {h':Heap} {tk:Nat} {t':Tok} {n:Nat},n=ns.length→(∀ b o,b∉[s.heap.objs.size]→(s.heap.push it).get? b=some o→h'.get? b=some o)→EP X pins σ Q (.int (PySem.preSum (fun i=>ns.getD i 0) n) t') { s with heap:=h',toks:=tk }:=by
    intro it h' tk t' n hn hk
    subst hn
    refine⟨.int ns.sum,H,I.kept (t':=tk) fun b o e=>hk b o (by simp;exact ZN (ZI e)) (ZH _ e),⟨t',by rw [ul]⟩,q⟩
  have hA:(X.A.in1).handled=none:=I.ok.hd hc
  rcases sq with sq|sq
  · obtain⟨its,rv,pl,hz⟩:=I.list sq
    have il:s.heap.IsList p its.toArray:=pl.isList
    have hlt:p < s.heap.objs.size:=by obtain⟨o,ho,_⟩:=il;exact ZI ho
    refine PySem.call_sum_walkG (PySem.wpAny_pyIter_list il ?_)
    refine⟨s.heap.objs.size,_,[s.heap.objs.size],_,_,_,fun i=>ns.getD i 0,rfl,PySem.Walks.list hA s.heap.objs.size p (ZN hlt) its.toArray,⟨⟨_,ZJ _ rfl,rfl,rfl⟩,?_⟩,?_,xD rv,?_⟩
    · obtain⟨o,ho,r⟩:=il;exact⟨o,ZH _ ho,r⟩
    · intro b hb
      rcases List.mem_cons.mp hb with rfl|hb
      · rw [Heap.size_push];exact Nat.lt_succ_self _
      · simp at hb;subst hb;rw [Heap.size_push];exact Nat.lt_succ_of_lt hlt
    · exact fun h' tk t' hk=>fin (by simpa using rv.length.symm) hk
  · obtain⟨its,rv,pl,hz⟩:=I.tuple sq
    have il:s.heap.IsTuple p its.toArray:=pl
    have hlt:p < s.heap.objs.size:=by obtain⟨o,ho,_⟩:=il;exact ZI ho
    refine PySem.call_sum_walkG (PySem.wpAny_pyIter_tuple il ?_)
    refine⟨s.heap.objs.size,_,[s.heap.objs.size],_,_,_,fun i=>ns.getD i 0,rfl,PySem.Walks.tuple hA s.heap.objs.size p (ZN hlt) its.toArray,⟨⟨_,ZJ _ rfl,rfl,rfl⟩,?_⟩,?_,xD rv,?_⟩
    · obtain⟨o,ho,r⟩:=il;exact⟨o,ZH _ ho,r⟩
    · intro b hb
      rcases List.mem_cons.mp hb with rfl|hb
      · rw [Heap.size_push];exact Nat.lt_succ_self _
      · simp at hb;subst hb;rw [Heap.size_push];exact Nat.lt_succ_of_lt hlt
    · exact fun h' tk t' hk=>fin (by simpa using rv.length.symm) hk
theorem jD {K:ZX}{ρ:List Addr}{H:Hp}:∀ {l:List D} {vs:List V} {is:List Int},RDs K ρ H l vs→en l=some is→vs=is.map V.int
  | [],_,is,r,e=>by simp only [en] at e;cases e;simp only [RDs] at r;subst r;rfl
  | d :: l,_,is,r,e=>by
    simp only [RDs] at r
    obtain⟨v,vs,rfl,h1,h2⟩:=r
    cases d<;>simp only [en] at e<;>try (cases e;done)
    rename_i i
    cases c:en l with
    | none=>rw [c] at e;cases e
    | some js =>
      rw [c] at e
      cases e
      simp only [RD] at h1
      rw [h1,jD h2 c]
      rfl
theorem vZ {p:Pos} {a:Expr} {la:LF} (hc:X.calm=true) (hg:Gl X "sum") (hm:X.mg "sum" = none) (ha:MQ X a la) (hs:starEach [a] X.env=(false,eval a X.env) :: starEach [] X.env:=by rfl):ME X (.Call (.Name "sum" p) [a] [] pos) (oY la):=by
  refine o8 (g:=fun l h=>match en l with|some is=>.ok (.int is.sum) h|none=>.bad) (xC (yJ hc) hg hm (by decide +kernel) (he:=hs)) ha (fun ρ H σd hd σ l q vs Q rs sq rvs p => ?_) hs
  cases c:en l with
  | none=>simp only [c] at p;exact p.elim
  | some is =>
    simp only [c] at p
    have e:=jD rvs c
    subst e
    exact⟨q,is,rfl,sq.imp id SqT.of,p.here rs (by simp only [rD,RD])⟩
end
end Fm
namespace Fm
open PySem PySem.Spec L2
section
variable {K:ZX} {ρ:List Addr} {H:Hp}
mutual
theorem um:∀ {d k:D} {v:V} {b:Bool},RD K ρ H d v→RD K ρ H k v→peq d k=some b→b=true
  | .int i,k,v,b,h1,h2,e=>by
    simp only [RD] at h1;subst h1
    cases k<;>simp only [RD] at h2<;>try (cases h2;done)
    all_goals first
      | (cases h2;simp only [peq] at e;simpa using e.symm)
      | (obtain⟨_,_,z,_⟩:=h2;cases z;done)
      | (obtain⟨_,_,z⟩:=h2;cases z;done)
      | (obtain⟨_,_,_,z,_⟩:=h2;cases z;done)
  | .bl i,k,v,b,h1,h2,e=>by
    simp only [RD] at h1;subst h1
    cases k<;>simp only [RD] at h2<;>try (cases h2;done)
    all_goals first
      | (cases h2;simp only [peq] at e;simpa using e.symm)
      | (obtain⟨_,_,z,_⟩:=h2;cases z;done)
      | (obtain⟨_,_,z⟩:=h2;cases z;done)
      | (obtain⟨_,_,_,z,_⟩:=h2;cases z;done)
  | .str x,k,v,b,h1,h2,e=>by
    simp only [RD] at h1;subst h1
    cases k<;>simp only [RD] at h2<;>try (cases h2;done)
    all_goals first
      | (simp only [peq] at e;simp only [toS,V.str.injEq,PySem.Str.mk.injEq] at h2;have h3:=congrArg Array.toList h2;simp at h3;subst h3;simpa using e.symm)
      | (obtain⟨_,_,z,_⟩:=h2;cases z;done)
      | (obtain⟨_,_,z⟩:=h2;cases z;done)
      | (obtain⟨_,_,_,z,_⟩:=h2;cases z;done)
  | .non,k,v,b,h1,h2,e=>by
    simp only [RD] at h1;subst h1
    cases k<;>simp only [RD] at h2<;>try (cases h2;done)
    all_goals first
      | (simp only [peq] at e;simpa using e.symm)
      | (obtain⟨_,_,z,_⟩:=h2;cases z;done)
      | (obtain⟨_,_,z⟩:=h2;cases z;done)
      | (obtain⟨_,_,_,z,_⟩:=h2;cases z;done)
  | .tup xs,k,v,b,h1,h2,e=>by
    simp only [RD] at h1
    obtain⟨p,vs,rfl,hp,r1⟩:=h1
    cases k<;>simp only [peq] at e<;>try (cases e;done)
    · simp only [RD] at h2;cases h2
    · simp only [RD] at h2;cases h2
    · rename_i ys
      simp only [RD] at h2
      obtain⟨p',vs',z,hp',r2⟩:=h2
      cases z
      rw [hp] at hp';cases hp'
      cases c:ia xs ys with
      | none=>rw [c] at e;cases e
      | some b' =>
        rw [c] at e
        simp only [Option.map_some,Option.some.injEq] at e
        have:=rq r1 r2 c
        subst this
        rw [← e,r1.length,r2.length]
        simp
  | .ref n,k,v,b,h1,h2,e=>by cases k<;>simp only [peq] at e<;>cases e
  | .lit l,k,v,b,h1,h2,e=>by cases k<;>simp only [peq] at e<;>cases e
  | .exn c l,k,v,b,h1,h2,e=>by simp only [peq] at e<;>cases e
theorem rq:∀ {xs ys:List D} {vs:List V} {b:Bool},RDs K ρ H xs vs→RDs K ρ H ys vs→ia xs ys=some b→b=true
  | [],_,_,_,_,_,e=>by simp only [ia] at e;cases e;rfl
  | x :: xs,[],_,_,_,_,e=>by simp only [ia] at e;cases e;rfl
  | x :: xs,y :: ys,_,b,h1,h2,e=>by
    simp only [RDs] at h1 h2
    obtain⟨v,r,rfl,a1,a2⟩:=h1
    obtain⟨v',r',z,b1,b2⟩:=h2
    cases z
    simp only [ia] at e
    cases c:peq x y with
    | none=>rw [c] at e;cases e
    | some p =>
      cases c2:ia xs ys with
      | none=>rw [c,c2] at e;cases e
      | some q =>
        rw [c,c2] at e
        simp only [Option.some.injEq] at e
        rw [← e,um a1 b1 c,rq a2 b2 c2];rfl
end
end
section
variable {K:ZX} {ρ:List Addr} {H:Hp} {P:Program} {w:World} {s:Shared}
theorem iN (hok:HOk P w H s.heap){p:Addr}{vs:List V}(h:H p=some (.tup vs)):∃ its:List Value,aS vs its∧s.heap.IsTuple p its.toArray:=by
  obtain⟨z,its,r,t⟩:=hok p _ h
  exact⟨its,r,t⟩
mutual
theorem AK (hok:HOk P w H s.heap):∀ {d k:D} {v v':V} {u u':Value} {b:Bool} {A:Around},RD K ρ H d v→RD K ρ H k v'→bP v u→bP v' u'→peq d k=some b→A.units + dep d < cLine→SeqAt.EqAt A s u u' b
  | .int i,k,v,v',u,u',b,A,h1,h2,r1,r2,e,hu=>by
    simp only [RD] at h1;subst h1
    obtain⟨t,rfl⟩:=r1
    cases k<;>simp only [peq] at e<;>try (cases e;done)
    all_goals cases e
    · simp only [RD] at h2;subst h2;cases r2;exact SeqAt.EqAt.int_none i t
    · simp only [RD] at h2;subst h2;cases r2;exact SeqAt.EqAt.int_bool i t _
    · simp only [RD] at h2;subst h2;obtain⟨t',rfl⟩:=r2;exact SeqAt.EqAt.int_int i t _ t'
    · simp only [RD] at h2;obtain⟨p,vs,rfl,hp,_⟩:=h2;cases r2
      obtain⟨its,_,il⟩:=iN hok hp
      exact SeqAt.EqAt.int_tuple i t il (ZS (Nat.le_add_right _ _) hu)
  | .bl i,k,v,v',u,u',b,A,h1,h2,r1,r2,e,hu=>by
    simp only [RD] at h1;subst h1
    cases r1
    cases k<;>simp only [peq] at e<;>try (cases e;done)
    all_goals cases e
    · simp only [RD] at h2;subst h2;cases r2;exact SeqAt.EqAt.bool_bool i _
    · simp only [RD] at h2;subst h2;obtain⟨t',rfl⟩:=r2;exact SeqAt.EqAt.bool_int i _ t'
  | .str x,k,v,v',u,u',b,A,h1,h2,r1,r2,e,hu=>by
    simp only [RD] at h1;subst h1
    obtain⟨t,rfl⟩:=r1
    cases k<;>simp only [peq] at e<;>try (cases e;done)
    all_goals cases e
    rename_i y
    simp only [RD] at h2;subst h2;obtain⟨t',rfl⟩:=r2
    have:decide (x=y)=(toS x == toS y):=by
      by_cases z:x=y
      · subst z;simp
      · have : ¬ toS x=toS y:=fun q=>z (by have:=congrArg (fun (s:Str)=>s.cps.toList) q;simpa [toS] using this)
        simp [z,this]
    rw [this]
    exact SeqAt.EqAt.str_str _ t _ t'
  | .non,k,v,v',u,u',b,A,h1,h2,r1,r2,e,hu=>by
    simp only [RD] at h1;subst h1
    cases r1
    cases k<;>simp only [peq] at e<;>try (cases e;done)
    all_goals cases e
    · simp only [RD] at h2;subst h2;cases r2;exact SeqAt.EqAt.same _
    · simp only [RD] at h2;subst h2;obtain⟨t',rfl⟩:=r2;exact SeqAt.EqAt.none_int _ t'
    · simp only [RD] at h2;obtain⟨p,vs,rfl,hp,_⟩:=h2;cases r2
      obtain⟨its,_,il⟩:=iN hok hp
      exact SeqAt.EqAt.none_tuple il (ZS (Nat.le_add_right _ _) hu)
  | .tup xs,k,v,v',u,u',b,A,h1,h2,r1,r2,e,hu=>by
    have h1':=h1
    simp only [RD] at h1
    obtain⟨p,vs,rfl,hp,q1⟩:=h1
    cases r1
    obtain⟨its,rv,il⟩:=iN hok hp
    have hu0:A.units < cLine:=ZS (Nat.le_add_right _ _) hu
    cases k<;>simp only [peq] at e<;>try (cases e;done)
    · cases e;simp only [RD] at h2;subst h2;cases r2;exact SeqAt.EqAt.tuple_none il hu0
    · cases e;simp only [RD] at h2;subst h2;obtain⟨t',rfl⟩:=r2;exact SeqAt.EqAt.tuple_int _ t' il hu0
    · rename_i ys
      have h2':=h2
      simp only [RD] at h2
      obtain⟨p',vs',rfl,hp',q2⟩:=h2
      cases r2
      by_cases hpp:p=p'
      · subst hpp
        have:b=true:=um h1' h2' (by simp only [peq];exact e)
        subst this
        exact SeqAt.EqAt.same _
      · obtain⟨its',rv',il'⟩:=iN hok hp'
        cases c:ia xs ys with
        | none=>rw [c] at e;cases e
        | some b' =>
          rw [c] at e
          simp only [Option.map_some,Option.some.injEq] at e
          obtain⟨f,hf,ha⟩:=ox hok (A:=A.in1) q1 q2 rv rv' c (by simp only [dep] at hu;show A.units + 1 + n5 xs < cLine;omega)
          have:=SeqAt.RcAt.tuples (s:=s) (A:=A) (e:=f) il il' hu0 (fun j h1 h2=>by simpa using hf j (by simpa using h1) (by simpa using h2))
          rw [← e,← ha,q1.length,q2.length,rv.length,rv'.length]
          refine SeqAt.EqAt.of_refs hpp ?_
          rw [show (decide (its.length=its'.length))=(its.length == its'.length) from rfl]
          simpa using this
  | .ref n,k,v,v',u,u',b,A,h1,h2,r1,r2,e,hu=>by cases k<;>simp only [peq] at e<;>cases e
  | .lit l,k,v,v',u,u',b,A,h1,h2,r1,r2,e,hu=>by cases k<;>simp only [peq] at e<;>cases e
  | .exn c l,k,v,v',u,u',b,A,h1,h2,r1,r2,e,hu=>by simp only [peq] at e<;>cases e
theorem ox (hok:HOk P w H s.heap):∀ {xs ys:List D} {vs vs':List V} {us us':List Value} {b:Bool} {A:Around},RDs K ρ H xs vs→RDs K ρ H ys vs'→aS vs us→aS vs' us'→ia xs ys=some b→A.units + n5 xs < cLine →
    ∃ f:Nat→Bool,(∀ j (h1:j < us.length) (h2:j < us'.length),SeqAt.EqAt A s us[j] us'[j] (f j))∧(List.range (min us.length us'.length)).all f=b
  | [],ys,vs,vs',us,us',b,A,h1,h2,r1,r2,e,hu=>by
    simp only [RDs] at h1;subst h1;cases r1
    simp only [ia] at e;cases e
    exact⟨fun _=>true,fun j h1=>by simp at h1,by simp⟩
  | x :: xs,[],vs,vs',us,us',b,A,h1,h2,r1,r2,e,hu=>by
    simp only [RDs] at h2;subst h2;cases r2
    simp only [ia] at e;cases e
    exact⟨fun _=>true,fun j h1 h2=>by simp at h2,by simp⟩
  | x :: xs,y :: ys,vs,vs',us,us',b,A,h1,h2,r1,r2,e,hu=>by
    simp only [RDs] at h1 h2
    obtain⟨v,r,rfl,a1,a2⟩:=h1
    obtain⟨v',r',rfl,b1,b2⟩:=h2
    cases r1 with
    | cons p1 p2 =>
      cases r2 with
      | cons s1 s2 =>
        simp only [ia] at e
        cases c:peq x y with
        | none=>rw [c] at e;cases e
        | some p =>
          cases c2:ia xs ys with
          | none=>rw [c,c2] at e;cases e
          | some q =>
            rw [c,c2] at e
            simp only [Option.some.injEq] at e
            simp only [n5] at hu
            have g1:=AK hok (A:=A) a1 b1 p1 s1 c (by omega)
            obtain⟨f,hf,ha⟩:=ox hok (A:=A) a2 b2 p2 s2 c2 (by omega)
            refine⟨fun j=>match j with|0=>p|j + 1=>f j,fun j h1 h2 => ?_,?_⟩
            · cases j with
              | zero=>exact g1
              | succ j=>exact hf j (by simpa using h1) (by simpa using h2)
            · rw [← e,← ha,List.length_cons,List.length_cons,Nat.succ_min_succ,List.range_succ_eq_map,List.all_cons,List.all_map]
              rfl
end
theorem FK (hok:HOk P w H s.heap){d k:D}{v v':V}{u u':Value}{b:Bool}{A:Around}(h1:RD K ρ H d v)(h2:RD K ρ H k v')(r1:bP v u)(r2:bP v' u')(e:peq d k=some b)(hu:A.units + dep d < cLine) :
    SeqAt.RcAt A s u u' b∧SeqAt.RcNeAt A s u u' (!b):=by
  have hu0:A.units < cLine:=ZS (Nat.le_add_right _ _) hu
  cases d<;>simp only [RD] at h1
  · subst h1;cases r1
    cases k<;>simp only [peq] at e<;>try (cases e;done)
    all_goals cases e
    · simp only [RD] at h2;subst h2;cases r2;exact⟨SeqAt.RcAt.none_none,SeqAt.RcNeAt.none_none⟩
    · simp only [RD] at h2;subst h2;obtain⟨t',rfl⟩:=r2;exact⟨SeqAt.RcAt.none_int _ t',SeqAt.RcNeAt.none_int _ t'⟩
    · simp only [RD] at h2;obtain⟨p,vs,rfl,hp,_⟩:=h2;cases r2
      obtain⟨its,_,il⟩:=iN hok hp
      exact⟨SeqAt.RcAt.none_tuple il hu0,SeqAt.RcNeAt.none_tuple il hu0⟩
  · subst h1;cases r1
    cases k<;>simp only [peq] at e<;>try (cases e;done)
    all_goals cases e
    · simp only [RD] at h2;subst h2;cases r2;exact⟨SeqAt.RcAt.bool_bool _ _,SeqAt.RcNeAt.bool_bool _ _⟩
    · simp only [RD] at h2;subst h2;obtain⟨t',rfl⟩:=r2;exact⟨SeqAt.RcAt.bool_int _ _ t',SeqAt.RcNeAt.bool_int _ _ t'⟩
  · subst h1;obtain⟨t,rfl⟩:=r1
    cases k<;>simp only [peq] at e<;>try (cases e;done)
    all_goals cases e
    · simp only [RD] at h2;subst h2;cases r2;exact⟨SeqAt.RcAt.int_none _ t,SeqAt.RcNeAt.int_none _ t⟩
    · simp only [RD] at h2;subst h2;cases r2;exact⟨SeqAt.RcAt.int_bool _ t _,SeqAt.RcNeAt.int_bool _ t _⟩
    · simp only [RD] at h2;subst h2;obtain⟨t',rfl⟩:=r2;exact⟨SeqAt.RcAt.int_int _ t _ t',SeqAt.RcNeAt.int_int _ t _ t'⟩
    · simp only [RD] at h2;obtain⟨p,vs,rfl,hp,_⟩:=h2;cases r2
      obtain⟨its,_,il⟩:=iN hok hp
      exact⟨SeqAt.RcAt.int_tuple _ t il hu0,SeqAt.RcNeAt.int_tuple _ t il hu0⟩
  · subst h1;obtain⟨t,rfl⟩:=r1
    cases k<;>simp only [peq] at e<;>try (cases e;done)
    all_goals cases e
    rename_i x y
    simp only [RD] at h2;subst h2;obtain⟨t',rfl⟩:=r2
    have:decide (x=y)=(toS x == toS y):=by
      by_cases z:x=y
      · subst z;simp
      · have : ¬ toS x=toS y:=fun q=>z (by have:=congrArg (fun (s:Str)=>s.cps.toList) q;simpa [toS] using this)
        simp [z,this]
    rw [this]
    exact⟨SeqAt.RcAt.str_str _ t _ t',SeqAt.RcNeAt.str_str _ t _ t'⟩
  · rename_i xs
    obtain⟨p,vs,rfl,hp,q1⟩:=h1
    cases r1
    obtain⟨its,rv,il⟩:=iN hok hp
    cases k<;>simp only [peq] at e<;>try (cases e;done)
    · cases e;simp only [RD] at h2;subst h2;cases r2;exact⟨SeqAt.RcAt.tuple_none il hu0,SeqAt.RcNeAt.tuple_none il hu0⟩
    · cases e;simp only [RD] at h2;subst h2;obtain⟨t',rfl⟩:=r2;exact⟨SeqAt.RcAt.tuple_int _ t' il hu0,SeqAt.RcNeAt.tuple_int _ t' il hu0⟩
    · rename_i ys
      simp only [RD] at h2
      obtain⟨p',vs',rfl,hp',q2⟩:=h2
      cases r2
      obtain⟨its',rv',il'⟩:=iN hok hp'
      cases c:ia xs ys with
      | none=>rw [c] at e;cases e
      | some b' =>
        rw [c] at e
        simp only [Option.map_some,Option.some.injEq] at e
        obtain⟨f,hf,ha⟩:=ox hok (A:=A.in1) q1 q2 rv rv' c (by simp only [dep] at hu;show A.units + 1 + n5 xs < cLine;omega)
        have g1:=SeqAt.RcAt.tuples (s:=s) (A:=A) (e:=f) il il' hu0 (fun j h1 h2=>by simpa using hf j (by simpa using h1) (by simpa using h2))
        have g2:=SeqAt.RcNeAt.tuples (s:=s) (A:=A) (e:=f) il il' hu0 (fun j h1 h2=>by simpa using hf j (by simpa using h1) (by simpa using h2))
        rw [← e,← ha,q1.length,q2.length,rv.length,rv'.length,show (decide (its.length=its'.length))=(its.length == its'.length) from rfl]
        exact⟨by simpa using g1,by simpa using g2⟩
  · cases k<;>simp only [peq] at e<;>cases e
  · cases k<;>simp only [peq] at e<;>cases e
  · simp only [peq] at e<;>cases e
end
section
variable {X:Cx}
theorem lC {K:ZX}{ρ:List Addr}{H:Hp}{hd:Hd}{d:D}{v:V}{l:List D}(r:RH K ρ H hd)(h:RD K ρ H d v)(e:fg hd d=some l):∃ p vs,v=.ref p∧SqL K H p vs∧RDs K ρ H l vs:=by
  cases d<;>simp only [fg] at e<;>try (cases e;done)
  · rename_i n
    simp only [RD] at h
    obtain⟨a,e1,e2⟩:=h
    cases c:hd[n]? with
    | none=>rw [c] at e;cases e
    | some x =>
      rw [c] at e
      cases x with
      | dct l=>cases e
      | lst l' =>
        cases e
        obtain⟨vs,q1,q2⟩:=r.cel n _ a c e1
        exact⟨a,vs,e2,SqL.of q1,q2⟩
  · cases e
    simp only [RD] at h
    obtain⟨p,vs,e1,e2,e3⟩:=h
    exact⟨p,vs,e1,e2.sq,e3⟩
theorem AL {pins:List (Addr × Obj)}{σ:St}{H:Hp}{s:Shared}{ρ:List Addr}{hd:Hd}{d k:D}{v v':V}{u u':Value}{b:Bool}(hu:X.A.units + 24 < cLine)(I:Inv X pins σ H s)(r:RH X.K ρ H hd)(h1:RD X.K ρ H d v)(h2:RD X.K ρ H k v')
    (r1:bP v u) (r2:bP v' u') (e:eqG hd d k=some b):SeqAt.RcAt X.A s u u' b∧SeqAt.RcNeAt X.A s u u' (!b):=by
  have hu0:X.A.units < cLine:=by omega
  simp only [eqG] at e
  cases c1:fg hd d with
  | none =>
    cases c2:fg hd k with
    | some l=>rw [c1,c2] at e;cases e
    | none =>
      rw [c1,c2] at e
      simp only at e
      split at e
      · rename_i hd20
        exact FK I.hok h1 h2 r1 r2 e (by omega)
      · cases e
  | some xs =>
    cases c2:fg hd k with
    | none=>rw [c1,c2] at e;cases e
    | some ys =>
      rw [c1,c2] at e
      simp only [eqL] at e
      obtain⟨p,vs,rfl,s1,q1⟩:=lC r h1 c1
      obtain⟨p',vs',rfl,s2,q2⟩:=lC r h2 c2
      cases r1;cases r2
      obtain⟨its,rv,pl,_⟩:=I.list s1
      obtain⟨its',rv',pl',_⟩:=I.list s2
      have il:s.heap.IsList p its.toArray:=pl.isList
      have il':s.heap.IsList p' its'.toArray:=pl'.isList
      have l1:xs.length=its.length:=q1.length.trans rv.length
      have l2:ys.length=its'.length:=q2.length.trans rv'.length
      split at e
      · rename_i hd20
        split at e
        · rename_i hl
          obtain⟨f,hf,ha⟩:=ox I.hok (A:=X.A.in1) q1 q2 rv rv' e (by show X.A.units + 1 + n5 xs < cLine;omega)
          have hs:its.toArray.size=its'.toArray.size:=by simp;omega
          have g1:=SeqAt.RcAt.lists (s:=s) (A:=X.A) (e:=f) il il' hs hu0 (fun j h1 h2=>by simpa using hf j (by simpa using h1) (by simpa using h2))
          have g2:=SeqAt.RcNeAt.lists (s:=s) (A:=X.A) (e:=f) il il' hs hu0 (fun j h1 h2=>by simpa using hf j (by simpa using h1) (by simpa using h2))
          have hm:min its.length its'.length=its.length:=by omega
          rw [hm] at ha
          rw [← ha]
          exact⟨by simpa using g1,by simpa using g2⟩
        · rename_i hl
          cases e
          have hs:(its.toArray.size != its'.toArray.size)=true:=by simp;omega
          exact⟨SeqAt.RcAt.lists_lengths il il' hs hu0,SeqAt.RcNeAt.lists_lengths il il' hs hu0⟩
      · cases e
def Dq (K:ZX) (f:Bool→Bool):R2:=fun x y H Q=>∃ ρ hd d k b,RH K ρ H hd∧RD K ρ H d x∧RD K ρ H k y∧eqG hd d k=some b∧Q (.bl (f b)) H
theorem fN (hu:X.A.units + 24 < cLine):OpR X (compareOp .Eq) (Dq X.K id):=by
  intro pins s σ H x y v u Q I rx ry h
  obtain⟨ρ,hd,d,k,b,r,h1,h2,e,q⟩:=h
  exact (AL hu I r h1 h2 rx ry e).1 _ _ _ _ ⟨.bl b,H,I,rfl,q⟩
theorem fO (hu:X.A.units + 24 < cLine):OpR X (compareOp .NotEq) (Dq X.K not):=by
  intro pins s σ H x y v u Q I rx ry h
  obtain⟨ρ,hd,d,k,b,r,h1,h2,e,q⟩:=h
  exact (AL hu I r h1 h2 rx ry e).2 _ _ _ _ ⟨.bl (!b),H,I,rfl,q⟩
theorem jn {K:ZX}:Og K oEq (Dq K id):=by
  intro ρ H σd hd σ d k v w Q rs rv rw' p
  unfold oEq at p
  cases e:eqG hd d k with
  | none=>rw [e] at p;exact p.elim
  | some b=>rw [e] at p;exact⟨ρ,hd,d,k,b,rs.hp,rv,rw',e,p.here rs (by simp only [rD,RD];rfl)⟩
theorem jo {K:ZX}:Og K oNe (Dq K not):=by
  intro ρ H σd hd σ d k v w Q rs rv rw' p
  unfold oNe at p
  cases e:eqG hd d k with
  | none=>rw [e] at p;exact p.elim
  | some b=>rw [e] at p;exact⟨ρ,hd,d,k,b,rs.hp,rv,rw',e,p.here rs (by simp only [rD,RD])⟩
end
end Fm
namespace Fm
open PySem PySem.Spec L2
section
variable {K:ZX} {ρ ρ':List Addr} {H H':Hp} {hd hd':Hd} {σd:Sd} {σ:St}
theorem cC.outE {r:Res D}{k:D→Hd→Out}{En:sr}(p:cC K ρ H (outE r σd k) En) :
    bQ K (rD K) ρ H σd σ r (fun v H'=>∃ ρ' d hd',Ext ρ H ρ' H'∧RS K ρ' H' σd hd' σ ∧ RD K ρ' H' d v∧cC K ρ' H' (k d hd') En):=by
  cases r with
  | ok d h'=>exact fun b H' ρ' ex rs q=>⟨ρ',d,h',ex,rs,q,cC.ext ex p⟩
  | exc x h'=>exact p
  | bad=>exact p
theorem RSt.set (r:RSt K ρ H σd σ){d:D}{v:V}(i:Nat)(h:RD K ρ H d v):RSt K ρ H (σd.set i (some d)) (σ.set i (some v)):=by
  refine⟨by simp [r.len],fun j x e => ?_⟩
  by_cases hj:i=j
  · subst hj
    by_cases hl:i < σd.length
    · simp only [slot,List.getElem?_set_self hl] at e
      cases e
      exact⟨v,by rw [List.getElem?_set_self (by rw [← r.len];exact hl)],h⟩
    · simp only [slot] at e
      rw [List.getElem?_eq_none (by simp;omega)] at e
      cases e
  · simp only [slot,ZP hj] at e
    rw [ZP hj]
    exact r.at' j x (by simpa only [slot] using e)
def HA (K:ZX) (g:GF):TG:=fun v σ H Q=>∃ ρ σd hd d σd',RS K ρ H σd hd σ ∧ RD K ρ H d v∧g d σd=some σd' ∧ ∀ σ',RS K ρ H σd' hd σ'→Q σ' H
def FM (σ:Sd) (l:List Nat) (xs:List D):Sd:=(l.zip xs).foldl (fun σ p => σ.set p.1 (some p.2)) σ
def FN (K:ZX) (l:List Nat):TGs:=fun vs σ H Q=>∃ ρ σd hd ds,RS K ρ H σd hd σ ∧ RDs K ρ H ds vs∧ds.length=l.length ∧ ∀ σ',RS K ρ H (FM σd l ds) hd σ'→Q σ' H
end
def MG (X:Cx) (tg:Expr) (g:GF):Prop:=PG X tg (HA X.K g)
def MGs (X:Cx) (ts:List Expr) (l:List Nat):Prop:=PGs X ts (FN X.K l)
section
variable {X:Cx} {pos:Pos}
theorem PG.imp {tg:Expr}{t u:TG}(h:PG X tg t)(i:∀ v σ H Q,u v σ H Q→t v σ H Q):PG X tg u:=fun pins s σ H v w Q I r q=>h pins s σ H v w Q I r (i v σ H Q q)
theorem PGs.imp {tg:List Expr}{t u:TGs}(h:PGs X tg t)(i:∀ v σ H Q,u v σ H Q→t v σ H Q):PGs X tg u:=fun pins s σ H v w Q I r q=>h pins s σ H v w Q I r (i v σ H Q q)
theorem aC {i:Nat}{x:Str}(hN:X.N.Nodup)(hi:X.N[i]? = some x)(hx:Loc X.env.scope x)(hf:X.fn x=true∨X.env.scope.names.lookup x=some .local:=by first|exact .inl rfl|exact .inr rfl|assumption):MG X (.Name x pos) (gN i):=by
  refine PG.imp (Da hN hi hx hf) fun v σ H Q ⟨ρ,σd,hd,d,σd',rs,rv,e,q⟩ => ?_
  simp only [gN,Option.some.injEq] at e
  subst e
  exact q _ ⟨rs.hp,rs.st.set i rv⟩
theorem ge:MGs X [] []:=by
  refine PGs.imp Db fun vs σ H Q ⟨ρ,σd,hd,ds,rs,rv,e,q⟩ => ?_
  have:ds=[]:=by simpa using e
  subst this
  simp only [RDs] at rv
  exact⟨rv,q σ rs⟩
theorem bT {e:Expr}{es:List Expr}{i:Nat}{l:List Nat}(h1:MG X e (gN i))(h2:MGs X es l)
    (hs:(assignEach (e :: es) X.env).map (·.2)=assign e X.env :: (assignEach es X.env).map (·.2):=by rfl):MGs X (e :: es) (i :: l):=by
  refine PGs.imp (Am h1 h2 hs) fun vs σ H Q ⟨ρ,σd,hd,ds,rs,rv,e,q⟩ => ?_
  cases ds with
  | nil=>simp at e
  | cons d ds =>
    simp only [RDs] at rv
    obtain⟨v,r,rfl,h1,h2⟩:=rv
    refine⟨v,r,rfl,ρ,σd,hd,d,_,rs,h1,rfl,fun σ' rs' => ?_⟩
    exact⟨ρ,_,hd,ds,rs',h2,by simpa using e,fun σ2 rs2=>q σ2 rs2⟩
theorem iO {es:List Expr}{k:Nat}{l:List Nat}(hc:X.calm=true)(h:MGs X es l)
    (hn:(assignEach es X.env).length=l.length:=by rfl) (hst:(assignEach es X.env).findIdx? (·.1)=none:=by rfl):MG X (.Tuple es k pos) (gT l):=by
  refine PG.imp (Fj hc h hn hst) fun v σ H Q ⟨ρ,σd,hd,d,σd',rs,rv,e,q⟩ => ?_
  cases d<;>simp only [gT] at e<;>try (cases e;done)
  rename_i xs
  split at e
  · rename_i hl
    cases e
    simp only [RD] at rv
    obtain⟨p,vs,rfl,hp,r⟩:=rv
    exact⟨p,vs,rfl,SqT.of hp,by rw [← r.length];exact hl,ρ,σd,hd,xs,rs,r,hl,q⟩
  · cases e
theorem aW:MSs X [] bw:=PSs.imp C7 fun En σ H ⟨ρ,σd,hd,rs,p⟩=>p σ H ρ Ext.refl rs
theorem ag {st:Stmt}{rest:List Stmt}{a b:SF}(h1:MS X st a)(h2:MSs X rest b):MSs X (st :: rest) (aA a b):=by
  refine PSs.imp (Ak h1 h2) fun En σ H ⟨ρ,σd,hd,rs,p⟩=>⟨ρ,σd,hd,rs,?_⟩
  unfold aA at p
  cases e:a σd hd with
  | nx σ1 h1=>rw [e] at p;exact fun σ' H' ρ' ex rs'=>⟨ρ',σ1,h1,rs',cC.ext ex p⟩
  | rt d h1=>rw [e] at p;exact p
  | bk σ1 h1=>rw [e] at p;exact p
  | ct σ1 h1=>rw [e] at p;exact p
  | exc x σ1 h1=>rw [e] at p;exact p
  | bad=>rw [e] at p;exact p
theorem ak {st:Stmt}{a:SF}(h:MS X st a):MSs X [st] a:=C8 h
theorem fw {st:Stmt}:MS X st f6:=PS.imp Al fun En σ H ⟨ρ,σd,hd,rs,p⟩=>p.elim
theorem aL {e:Expr}{f:EF}(h:ME X e f):MS X (.Return (some e) pos) (bc f):=by
  refine PS.imp (Ff h) fun En σ H ⟨ρ,σd,hd,rs,p⟩=>⟨ρ,σd,hd,rs,(cC.outE p).imp fun v H1 ⟨ρ1,d,hd1,e1,rs1,rv,p1⟩ => ?_⟩
  exact p1 v H1 ρ1 Ext.refl rs1.hp rv
theorem eX {e:Expr}{f:EF}(h:ME X e f)(hs:swapsWith e none pos.line X.env=pure false:=by rfl):MS X (.Expr e pos) (gX f):=by
  refine PS.imp (C9 h hs) fun En σ H ⟨ρ,σd,hd,rs,p⟩=>⟨ρ,σd,hd,rs,(cC.outE p).imp fun v H1 ⟨ρ1,d,hd1,e1,rs1,rv,p1⟩ => ?_⟩
  exact p1 σ H1 ρ1 Ext.refl rs1
theorem cm {c:Expr}{a b:List Stmt}{t:TF}{fa fb:SF}(hc:MT X c t)(ha:MSs X a fa)(hb:MSs X b fb):MS X (.If c a b pos) (sIf t fa fb):=by
  refine PS.imp (Ha hc ha hb) fun En σ H ⟨ρ,σd,hd,rs,p⟩=>⟨ρ,σd,hd,rs,?_⟩
  unfold sIf at p
  cases e:t σd hd with
  | ok c h1 =>
    rw [e] at p
    intro b H' ρ' ex rs' q
    cases q
    cases c with
    | true=>simp only [if_true] at p ⊢;exact⟨ρ',σd,h1,rs',cC.ext ex p⟩
    | false=>simp only [Bool.false_eq_true,if_false] at p ⊢;exact⟨ρ',σd,h1,rs',cC.ext ex p⟩
  | exc x h1=>rw [e] at p;exact p
  | bad=>rw [e] at p;exact p
theorem aM {i:Nat}{x:Str}{e:Expr}{f:EF}{pos':Pos}(hN:X.N.Nodup)(hi:X.N[i]? = some x)(hx:Loc X.env.scope x)(he:ME X e f)(hs:swapsWith e (some (.Name x pos')) pos.line X.env=pure false:=by rfl)(hf:X.fn x=true∨X.env.scope.names.lookup x=some .local:=by first|exact .inl rfl|exact .inr rfl|assumption) :
    MS X (.Assign [.Name x pos'] e pos) (aD (gN i) f):=by
  refine PS.imp (Fk hN hi hx he hs hf) fun En σ H ⟨ρ,σd,hd,rs,p⟩=>⟨ρ,σd,hd,rs,(cC.outE p).imp fun v H1 ⟨ρ1,d,hd1,e1,rs1,rv,p1⟩ => ?_⟩
  exact p1 _ H1 ρ1 Ext.refl ⟨rs1.hp,rs1.st.set i rv⟩
theorem AM {tg e:Expr}{f:EF}{g:GF}(he:ME X e f)(hg:MG X tg g)(hs:swapsWithSole [tg] e pos.line X.env=pure false:=by rfl)(hw:swappedStores [tg] e X.env=pure none:=by rfl)
    (h1:(assignEach [tg] X.env).map (·.2)=[assign tg X.env]:=by rfl):MS X (.Assign [tg] e pos) (aD g f):=by
  refine PS.imp (vN he hg hs hw h1) fun En σ H ⟨ρ,σd,hd,rs,p⟩=>⟨ρ,σd,hd,rs,(cC.outE p).imp fun v H1 ⟨ρ1,d,hd1,e1,rs1,rv,p1⟩ => ?_⟩
  cases c:g d σd with
  | none=>rw [c] at p1;exact p1.elim
  | some σ1=>rw [c] at p1;exact⟨ρ1,σd,hd1,d,σ1,rs1,rv,c,fun σ' rs'=>p1 σ' H1 ρ1 Ext.refl rs'⟩
theorem FO:Fm.ixN=L2.ixN:=rfl
theorem o9 {o i e:Expr}{fo fi fe:EF}{p2:Pos}(he:ME X e fe)(ho:ME X o fo)(hi:ME X i fi)(hs:swapsWithSole [.Subscript o i p2] e pos.line X.env=pure false:=by rfl)(hw:swappedStores [.Subscript o i p2] e X.env=pure none:=by rfl)
    (h1:(assignEach [.Subscript o i p2] X.env).map (·.2)=[assign (.Subscript o i p2) X.env]:=by rfl) (ha:∀ v,assign (.Subscript o i p2) X.env v=(do
      let ov ← holding [v] (eval o X.env)
      let iv ← holding [v,ov] (eval i X.env)
      standAt p2
      holding [v,ov,iv] (setItem ov iv v)
      release [v,ov,iv] []):=by intro _;rfl):MS X (.Assign [.Subscript o i p2] e pos) (kH fo fi fe):=by
  refine PS.imp (vN he (An ho hi Az ha) hs hw h1) fun En σ H ⟨ρ,σd,hd,rs,p⟩=>⟨ρ,σd,hd,rs,(cC.outE p).imp fun v H1 ⟨ρ1,d,hd1,e1,rs1,rv,p1⟩ => ?_⟩
  refine⟨ρ1,σd,hd1,rs1,(cC.outE p1).imp fun vo H2 ⟨ρ2,dO,hd2,e2,rs2,ro,p2⟩ => ?_⟩
  refine⟨ρ2,σd,hd2,rs2,(cC.outE p2).imp fun vi H3 ⟨ρ3,di,hd3,e3,rs3,ri,p3⟩ => ?_⟩
  have rv3:=(rv.mono (rs1.hp.kp e2)).mono (rs2.hp.kp e3)
  have ro3:=ro.mono (rs2.hp.kp e3)
  cases dO with
  | ref n =>
    cases di with
    | int j =>
      simp only at p3
      cases c:hd3[n]? with
      | none=>rw [c] at p3;exact p3.elim
      | some cell =>
        rw [c] at p3
        cases cell with
        | dct l=>exact p3.elim
        | lst l =>
          simp only at p3
          cases c2:ixN l.length j with
          | none=>rw [c2] at p3;exact p3.elim
          | some k =>
            rw [c2] at p3
            simp only [RD] at ro3 ri
            obtain⟨a,ha,rfl⟩:=ro3
            obtain⟨vs,hv,rvs⟩:=rs3.hp.cel n _ a c ha
            refine⟨a,vs,j,k,rfl,ri,hv,by rw [← rvs.length,← FO];exact c2,?_⟩
            have hn:n < hd3.length:=(List.getElem?_eq_some_iff.mp c).1
            have rh:=rs3.hp.write ha hn (RDs.set rv3 k rvs)
            have ex:Ext ρ3 H3 ρ3 (upd H3 a (.lst (vs.set k v))):=Ext.write (ZK ha)
            exact p3 σ _ ρ3 ex (rs3.ext ex rh)
    | _=>exact p3.elim
  | _=>exact p3.elim
end
section
variable (K:ZX)
structure pf (ρ0:List Addr) (H0:Hp) (J:It) (l:List D) (g:Option Nat):Prop where
  go:∀ ρ H hd (i:Nat) d,Ext ρ0 H0 ρ H→RH K ρ H hd→ib g l hd→l[i]? = some d→J.go i H ∧ ∀ x H',J.yld i H x H'→jr H H'∧RD K ρ H' d x
  stop:∀ ρ H hd,Ext ρ0 H0 ρ H→RH K ρ H hd→ib g l hd→J.stop l.length H
  sz:l.length≤sizeLine
def HB (ρ:List Addr) (H:Hp) (σd:Sd) (σ:St) (r:Res (List D × Option Nat)) (R:It→Hp→Prop):Prop:=match r with
  | .ok p hd'=>∀ J H' ρ',Ext ρ H ρ' H'→RS K ρ' H' σd hd' σ → pf K ρ' H' J p.1 p.2→R J H'
  | _=>False
def HC (f:IF):TI:=fun σ H R=>∃ ρ σd hd,RS K ρ H σd hd σ ∧ HB K ρ H σd σ (f σd hd) R
end
def MI (X:Cx) (tg e:Expr) (f:IF):Prop:=PI X tg e (HC X.K f)
section
variable {X:Cx} {pos:Pos} {tg:Expr}
theorem PI.imp {e:Expr}{t u:TI}(h:PI X tg e t)(i:∀ σ H R,u σ H R→t σ H R):PI X tg e u:=fun pins s σ H R I q=>h pins s σ H R I (i σ H R q)
theorem cX {iter:Expr}{body:List Stmt}{f:IF}{g:GF}{b:SF}(hp:PassesOwn (model X.prog X.w) X.A X.env X.xe)(hc:X.calm=true)(hi:MI X tg iter f)(hg:MG X tg g)(hb:MSs X body b)
    (hs:∀ x,foldedSetIterable iter X.env x=pure x:=by intro _;rfl):MS X (.For tg iter body [] pos) (dA f g b):=by
  refine PS.imp (Fo hp hc hi hg hb hs) fun En σ H ⟨ρ,σd,hd,rs,p⟩=>⟨ρ,σd,hd,rs,?_⟩
  unfold dA at p
  cases e:f σd hd with
  | exc x h'=>rw [e] at p;exact p
  | bad=>rw [e] at p;exact p
  | ok q hd1 =>
    rw [e] at p
    obtain⟨l,gd⟩:=q
    intro J H1 ρ1 ex1 rs1 wk
    simp only at p wk
    refine⟨fun i m σ' H'=>∃ ρ' σd' hd',Ext ρ1 H1 ρ' H'∧RS X.K ρ' H' σd' hd' σ'∧i≤l.length∧m=l.length - i∧cC X.K ρ' H' (fq gd l g b (l.drop i) σd' hd') En,
      ⟨l.length,ρ1,σd,hd1,Ext.refl,rs1,Nat.zero_le _,by simp,by simpa using cC.ext ex1 p⟩,?_⟩
    rintro i m σ' H' ⟨ρ',σd',hd',ex,rs',hil,rfl,pp⟩
    by_cases hlt:i < l.length
    · have hdi:l[i]? = some l[i]:=by simp [hlt]
      rw [List.drop_eq_getElem_cons hlt] at pp
      unfold fq at pp
      by_cases hh:ib gd l hd'
      · rw [if_pos hh] at pp
        obtain⟨go,yl⟩:=wk.go ρ' H' hd' i _ ex rs'.hp hh hdi
        refine .inr ⟨go,fun σ2 H2=>∃ ρ2 σd2 hd2,Ext ρ1 H1 ρ2 H2∧RS X.K ρ2 H2 σd2 hd2 σ2∧cC X.K ρ2 H2 (fq gd l g b (l.drop (i + 1)) σd2 hd2) En,
          fun σ2 H2 ⟨ρ2,σd2,hd2,a1,a2,a3⟩=>⟨l.length - (i + 1),by omega,ρ2,σd2,hd2,a1,a2,hlt,rfl,a3⟩,fun x H2 y => ?_⟩
        obtain⟨sm,rx⟩:=yl x H2 y
        cases c:g l[i] σd' with
        | none=>rw [c] at pp;exact pp.elim
        | some σd2 =>
          rw [c] at pp
          simp only at pp
          refine⟨ρ',σd',hd',l[i],σd2,rs'.same sm,rx,c,fun σ2 rs2=>⟨ρ',σd2,hd',rs2,?_⟩⟩
          have e12:Ext ρ' H' ρ' H2:=Ext.same sm
          cases c2:b σd2 hd' with
          | nx σ3 h3=>rw [c2] at pp;exact fun σ4 H4 ρ4 ex4 rs4=>⟨ρ4,σ3,h3,ex.trans (e12.trans ex4),rs4,cC.ext (e12.trans ex4) pp⟩
          | ct σ3 h3=>rw [c2] at pp;exact fun σ4 H4 ρ4 ex4 rs4=>⟨ρ4,σ3,h3,ex.trans (e12.trans ex4),rs4,cC.ext (e12.trans ex4) pp⟩
          | bk σ3 h3=>rw [c2] at pp;exact fun σ4 H4 ρ4 ex4 rs4=>pp σ4 H4 ρ4 (e12.trans ex4) rs4
          | rt d h3=>rw [c2] at pp;exact fun v H4 ρ4 ex4 rs4 rv=>pp v H4 ρ4 (e12.trans ex4) rs4 rv
          | exc x σ3 h3=>rw [c2] at pp;exact pp
          | bad=>rw [c2] at pp;exact pp
      · rw [if_neg hh] at pp;exact pp.elim
    · have e0:i=l.length:=by omega
      subst e0
      rw [List.drop_length] at pp
      unfold fq at pp
      by_cases hh:ib gd l hd'
      · rw [if_pos hh] at pp
        exact .inl ⟨wk.stop ρ' H' hd' ex rs'.hp hh,pp σ' H' ρ' Ext.refl rs'⟩
      · rw [if_neg hh] at pp;exact pp.elim
theorem AN {c:Expr}{body:List Stmt}{t:TF}{b:SF}(hp:PassesOwn (model X.prog X.w) X.A X.env X.xe)(hc:MT X c t)(hb:MSs X body b):MS X (.While c body [] pos) (oZ t b):=by
  refine PS.imp (Ao hp hc hb) fun En σ H ⟨ρ,σd,hd,rs,p⟩ => ?_
  unfold oZ at p
  refine⟨fun m σ' H'=>∃ ρ' σd' hd',RS X.K ρ' H' σd' hd' σ'∧cC X.K ρ' H' (ez t b m σd' hd') En,⟨cR t b σd hd,ρ,σd,hd,rs,p⟩,?_⟩
  rintro m σ' H' ⟨ρ',σd',hd',rs',pp⟩
  cases m with
  | zero=>exact pp.elim
  | succ m =>
    unfold ez at pp
    refine⟨ρ',σd',hd',rs',?_⟩
    cases e:t σd' hd' with
    | exc x h1=>rw [e] at pp;exact pp
    | bad=>rw [e] at pp;exact pp
    | ok c h1 =>
      rw [e] at pp
      intro b' H2 ρ2 ex2 rs2 q
      cases q
      cases c with
      | false=>simp only [Bool.false_eq_true,if_false] at pp ⊢;exact pp σ' H2 ρ2 ex2 rs2
      | true =>
        simp only [if_true] at pp ⊢
        refine⟨fun σ3 H3=>∃ ρ3 σd3 hd3,RS X.K ρ3 H3 σd3 hd3 σ3∧cC X.K ρ3 H3 (ez t b m σd3 hd3) En,fun σ3 H3 q=>⟨m,Nat.lt_succ_self _,q⟩,ρ2,σd',h1,rs2,?_⟩
        cases c2:b σd' h1 with
        | nx σ3 h3=>rw [c2] at pp;exact fun σ4 H4 ρ4 ex4 rs4=>⟨ρ4,σ3,h3,rs4,cC.ext (ex2.trans ex4) pp⟩
        | ct σ3 h3=>rw [c2] at pp;exact fun σ4 H4 ρ4 ex4 rs4=>⟨ρ4,σ3,h3,rs4,cC.ext (ex2.trans ex4) pp⟩
        | bk σ3 h3=>rw [c2] at pp;exact fun σ4 H4 ρ4 ex4 rs4=>pp σ4 H4 ρ4 (ex2.trans ex4) rs4
        | rt d h3=>rw [c2] at pp;exact fun v H4 ρ4 ex4 rs4 rv=>pp v H4 ρ4 (ex2.trans ex4) rs4 rv
        | exc x σ3 h3=>rw [c2] at pp;exact pp
        | bad=>rw [c2] at pp;exact pp
theorem AO {K:ZX}{ρ:List Addr}{H:Hp}{hd:Hd}{q:Addr}{l:List D}{vs:List V}(r:RH K ρ H hd)(hq:H q=some (.tup vs))(rv:RDs K ρ H l vs)(hz:vs.length≤sizeLine):pf K ρ H (Itt K q) l none where
  go:=fun ρ' H' hd' i d ex rh _ hi=>by
    have k:=r.kp ex
    obtain⟨v,hv,rd⟩:=(rv.mono k).get hi
    have sq:SqT K H' q vs:=SqT.of (k.tup q vs hq)
    refine⟨⟨vs,v,sq,hv⟩,fun x H2 y => ?_⟩
    obtain⟨rfl,y⟩:=y
    have:=y vs sq
    rw [hv] at this
    cases this
    exact⟨jr.refl _,rd⟩
  stop:=fun ρ' H' hd' ex rh _=>⟨vs,SqT.of ((r.kp ex).tup q vs hq),by rw [rv.length];exact ZL _⟩
  sz:=by rw [rv.length];exact hz
theorem AQ {K:ZX}{ρ:List Addr}{H:Hp}{hd:Hd}{q:Addr}{l:List D}{vs:List V}(r:RH K ρ H hd)(hq:nJ K H q vs)(rv:RDs K ρ H l vs)(hz:vs.length≤sizeLine):pf K ρ H (Itl K q) l none where
  go:=fun ρ' H' hd' i d ex rh _ hi=>by
    have k:=r.kp ex
    obtain⟨v,hv,rd⟩:=(rv.mono k).get hi
    have sq:SqL K H' q vs:=(hq.mono k).sq
    refine⟨⟨vs,v,sq,hv⟩,fun x H2 y => ?_⟩
    obtain⟨rfl,y⟩:=y
    have:=y vs sq
    rw [hv] at this
    cases this
    exact⟨jr.refl _,rd⟩
  stop:=fun ρ' H' hd' ex rh _=>⟨vs,(hq.mono (r.kp ex)).sq,by rw [rv.length];exact ZL _⟩
  sz:=by rw [rv.length];exact hz
theorem AR {K:ZX}{ρ:List Addr}{H:Hp}{n:Nat}{q:Addr}{l:List D}(hq : ρ[n]? = some q)(hz:l.length≤sizeLine):pf K ρ H (Itl K q) l (some n) where
  sz:=hz
  go:=fun ρ' H' hd' i d ex rh hl hi=>by
    obtain⟨vs,e,rv⟩:=rh.cel n _ q hl (ex.get hq)
    obtain⟨v,hv,rd⟩:=rv.get hi
    have sq:SqL K H' q vs:=SqL.of e
    refine⟨⟨vs,v,sq,hv⟩,fun x H2 y => ?_⟩
    obtain⟨rfl,y⟩:=y
    have:=y vs sq
    rw [hv] at this
    cases this
    exact⟨jr.refl _,rd⟩
  stop:=fun ρ' H' hd' ex rh hl=>by
    obtain⟨vs,e,rv⟩:=rh.cel n _ q hl (ex.get hq)
    exact⟨vs,SqL.of e,by rw [rv.length];exact ZL _⟩
theorem FP {l:Expr}{tl:TE}(hl:PE X l tl):PI X tg l (fun σ H R=>tl σ H fun x H1=>(∃ a xs,x=.ref a∧SqL X.K H1 a xs∧(xs.length≤sizeLine→R (Itl X.K a) H1)) ∨ ∃ a xs,x=.ref a∧SqT X.K H1 a xs∧(xs.length≤sizeLine→R (Itt X.K a) H1)):=by
  intro pins s σ H R I h
  refine thn (hl pins s σ H _ I h) fun v s1 ⟨x,H1,I1,r1,q1⟩ => ?_
  rcases q1 with ⟨a,xs,e,hq,q⟩|⟨a,xs,e,hq,q⟩
  · subst e
    cases r1
    obtain⟨its,rv,p,hz⟩:=I1.list hq
    refine wpAny_pyIter_list p.isList ?_
    refine⟨s1.heap.objs.size,[s1.heap.objs.size],_,_,H1,rfl,I1.kept (t':=s1.toks) fun b o e=>ZH _ e,yx a _,⟨_,ZJ _ rfl,rfl,rfl⟩,fun b hb => ?_,q hz⟩
    have e:b=s1.heap.objs.size:=by simpa using hb
    subst e
    exact I1.fpOk (ZL _) (I1.hok.fresh (ZL _))
  · subst e
    cases r1
    obtain⟨its,rv,p,hz⟩:=I1.tuple hq
    refine wpAny_pyIter_tuple (show s1.heap.IsTuple a its.toArray from p) ?_
    refine⟨s1.heap.objs.size,[s1.heap.objs.size],_,_,H1,rfl,I1.kept (t':=s1.toks) fun b o e=>ZH _ e,vO a _,⟨_,ZJ _ rfl,rfl,rfl⟩,fun b hb => ?_,q hz⟩
    have e:b=s1.heap.objs.size:=by simpa using hb
    subst e
    exact I1.fpOk (ZL _) (I1.hok.fresh (ZL _))
theorem dY {e:Expr}{f:EF}(h:ME X e f):MI X tg e (dW f):=by
  refine PI.imp (FP h) fun σ H R ⟨ρ,σd,hd,rs,p⟩=>⟨ρ,σd,hd,rs,?_⟩
  unfold dW at p
  cases e:f σd hd with
  | exc x h1=>rw [e] at p;exact p
  | bad=>rw [e] at p;exact p
  | ok d hd1 =>
    rw [e] at p
    simp only [aG] at p
    intro v H1 ρ1 ex1 rs1 rv
    cases d<;>try exact p.elim
    · rename_i l
      simp only [rD,RD] at rv
      obtain⟨q,vs,rfl,hq,rvs⟩:=rv
      exact .inr ⟨q,vs,rfl,SqT.of hq,fun hz=>p _ H1 ρ1 ex1 rs1 (AO rs1.hp hq rvs hz)⟩
    · rename_i n
      simp only [rD,RD] at rv
      obtain⟨a,ha,rfl⟩:=rv
      cases c:hd1[n]? with
      | none=>simp only [c] at p;exact p.elim
      | some cell =>
        cases cell with
        | dct l=>simp only [c] at p;exact p.elim
        | lst l =>
          simp only [c] at p
          obtain⟨vs,hv,rvs⟩:=rs1.hp.cel n _ a c ha
          exact .inl ⟨a,vs,rfl,SqL.of hv,fun hz=>p _ H1 ρ1 ex1 rs1 (AR ha (by rw [rvs.length];exact hz))⟩
    · rename_i l
      simp only [rD,RD] at rv
      obtain⟨q,vs,rfl,hq,rvs⟩:=rv
      exact .inl ⟨q,vs,rfl,hq.sq,fun hz=>p _ H1 ρ1 ex1 rs1 (AQ rs1.hp hq rvs hz)⟩
theorem ph {K:ZX}{ρ:List Addr}{H:Hp}(lo:Int)(n:Nat)(hz:n≤2000000):pf K ρ H (Itr lo n) ((List.range n).map fun k:Nat=>.int (lo + k)) none where
  go:=fun ρ' H' hd' i d ex rh _ hi=>by
    have hin:i < n:=by
      have:=(List.getElem?_eq_some_iff.mp hi).1
      simpa using this
    refine⟨hin,fun x H2 y => ?_⟩
    obtain⟨rfl,rfl⟩:=y
    have e:d=.int (lo + i):=by simpa [hin] using hi.symm
    subst e
    exact⟨jr.refl _,by simp only [RD]⟩
  stop:=fun ρ' H' hd' ex rh _=>by
    show n≤_
    simp
  sz:=by
    have:(2000000:Nat)≤sizeLine:=by rw [sizeLine_eq];decide
    simp;omega
theorem cn {a:Expr} {f:EF} {p:Pos} (hg:Gl X "range") (hm:X.mg "range" = none) (ha:ME X a f) (hs:starEach [a] X.env=[(false,eval a X.env)]:=by rfl):MI X tg (.Call (.Name "range" p) [a] [] pos) (bi f):=by
  refine PI.imp (yy hg hm (cu ha eu hs) hs) fun σ H R ⟨ρ,σd,hd,rs,pp⟩=>⟨ρ,σd,hd,rs,?_⟩
  unfold bi at pp
  cases e:f σd hd with
  | exc x h1=>rw [e] at pp;exact pp
  | bad=>rw [e] at pp;exact pp
  | ok d hd1 =>
    rw [e] at pp
    simp only [aG] at pp
    intro v H1 ρ1 ex1 rs1 rv
    cases d<;>try exact pp.elim
    rename_i n
    simp only at pp
    simp only [rD,RD] at rv
    subst rv
    split at pp
    · rename_i hb
      refine⟨n,rfl,by omega,by omega,pp _ H1 ρ1 ex1 rs1 ?_⟩
      have:=ph (K:=X.K) (ρ := ρ1) (H:=H1) 0 n.toNat (by omega)
      simpa using this
    · exact pp.elim
theorem yK {a b:Expr} {f g:EF} {p:Pos} (hg:Gl X "range") (hm:X.mg "range" = none) (ha:ME X a f) (hb:ME X b g) (hs:starEach [a,b] X.env=[(false,eval a X.env),(false,eval b X.env)]:=by rfl) (hs2:starEach [b] X.env=[(false,eval b X.env)]:=by rfl):MI X tg (.Call (.Name "range" p) [a,b] [] pos) (lx f g):=by
  refine PI.imp (yz hg hm (cu ha (cu hb eu hs2) (by rw [hs,hs2])) hs hs2) fun σ H R ⟨ρ,σd,hd,rs,pp⟩=>⟨ρ,σd,hd,rs,?_⟩
  unfold lx at pp
  cases e:f σd hd with
  | exc x h1=>rw [e] at pp;exact pp
  | bad=>rw [e] at pp;exact pp
  | ok d hd1 =>
    rw [e] at pp
    simp only [aG] at pp
    intro v H1 ρ1 ex1 rs1 rv
    refine⟨ρ1,σd,hd1,rs1,?_⟩
    cases e2:g σd hd1 with
    | exc x h1=>rw [e2] at pp;exact pp
    | bad=>rw [e2] at pp;exact pp
    | ok d2 hd2 =>
      rw [e2] at pp
      simp only [aG] at pp
      intro v2 H2 ρ2 ex2 rs2 rv2
      cases d<;>try exact pp.elim
      cases d2<;>try exact pp.elim
      rename_i i j
      simp only at pp
      simp only [rD,RD] at rv rv2
      subst rv rv2
      split at pp
      · rename_i hb
        exact⟨i,j,rfl,⟨by omega,by omega,by omega,by omega⟩,pp _ H2 ρ2 (ex1.trans ex2) rs2 (ph (K:=X.K) i (j - i).toNat (by omega))⟩
      · exact pp.elim
end
end Fm
namespace Fm
noncomputable section
open Classical
def fj (G:Hd→Prop) (tg:GF) (cs:List TF) (e:EF):List D→Sd→Hd→Res (List D)
  | [],_,h=>if G h then .ok [] h else .bad
  | x :: xs,σ,h=>if G h then match tg x σ with
      | some σ=>(jm cs σ h).bind fun b h=>if b then (e σ h).bind fun d h=>(fj G tg cs e xs σ h).bind fun ds h=>.ok (d :: ds) h
        else fj G tg cs e xs σ h
      | none=>.bad
    else .bad
end
theorem sE {g:Option Nat}{all:List D}{tg:GF}{cs:List TF}{e:EF}:∀ (xs:List D) (σ:Sd) (h:Hd),cx g all tg cs e xs σ h=fj (ib g all) tg cs e xs σ h
  | [],_,h=>by unfold cx fj;rfl
  | x :: xs,σ,h=>by
    unfold cx fj
    by_cases hh:ib g all h
    · rw [if_pos hh,if_pos hh]
      cases tg x σ with
      | none=>rfl
      | some σ'=>simp only [sE xs]
    · rw [if_neg hh,if_neg hh]
end Fm
namespace Fm
open PySem PySem.Spec L2
section
variable {prog:Program} {w:World} {A:Around} {R:Result→Shared→Prop} {s:Shared}
theorem sF {elt target iter:Expr}{ifs:List Expr}{scope:Scope}{pos:Pos}{it acc:Value}{env:Env}{E:Value→Shared→Prop}(hE:∀ e s,¬ E e s)(I:Nat→Shared→Prop)
    (turn:∀ n s,I n s→wpAny (model prog w) A (pyNext it) (fun r s₁ => match r with
      | none=>R (.ok .next) s₁
      | some v=>wpAny (model prog w) A (letOwnedTupleGo target it v) (fun _ s₁ => wpAny (model prog w) A (assign target env v) (fun _ s₂ =>
          wpAny (model prog w) A (forIn ifs true fun c r=>if r=true then do let ok ← isTrue c env (eval c env);pure (ForInStep.yield ok) else pure (ForInStep.yield r)) (fun ok s₃ =>
            if ok=true then wpAny (model prog w) A (eval elt env) (fun x s₄ =>
              wpAny (model prog w) A (call (.builtin "list.append") [acc,x]) (fun _ s₅ => ∃ m,m < n∧I m s₅) E s₄) E s₃
            else ∃ m,m < n∧I m s₃) E s₂) E s₁) E s₁) E s)
    (n:Nat) (h:I n s) :
    codeAny (model prog w) A (.compLoop (.ListComp elt [⟨target,iter,ifs,0⟩] scope pos) 0 it acc env) R s:=by
  refine codeAny_loop rfl I (fun n s hI => ?_) n h
  show wpAny _ A ((compTurn (.ListComp elt [⟨target,iter,ifs,0⟩] scope pos) 0 it acc env).onRaise (fun x=>do noteFrame x env;theTreesLotGoes x)) _ _ s
  refine wpAny_noted ?_
  rw [compTurn_list]
  have no:∀ {α : Type} {t:Sem α} {Q Q' : α → Shared→Prop} {E':Value→Shared→Prop} {s:Shared},wpAny (model prog w) A t Q E s→(∀ a s,Q a s→Q' a s)→wpAny (model prog w) A t Q' E' s:=fun h hq=>wpAny_mono h hq fun e s z=>(hE e s z).elim
  refine wpAny_bind (wpAny_standAt (wpAny_bind (no (turn n s hI) fun r s₁ h₁ => ?_)))
  cases r with
  | none=>exact wpAny_pure h₁
  | some v =>
    refine wpAny_bind (no h₁ fun _ s₁ h₁ => ?_)
    refine wpAny_bind (no h₁ fun _ s₂ h₂ => wpAny_bind (no h₂ fun ok s₃ h₃ => ?_))
    cases ok with
    | false=>exact wpAny_pure ⟨rfl,h₃⟩
    | true =>
      exact wpAny_bind (wpAny_bind (no h₃ fun x s₄ h₄ => wpAny_bind (no h₄ fun _ s₅ h₅ => wpAny_pure (wpAny_pure ⟨rfl,h₅⟩))))
end
theorem kI {env:Env}:∀ (l:List (Str × NameKind)) (cs:List (Str × Addr)),(∀ y∈l,y.2=.free → ∃ c,env.cells.lookup y.1=some c) →
    ∃ cl,(forIn l cs fun (x:Str × NameKind) (r:List (Str × Addr))=>if (x.2 == .free)=true then do let a ← cellOf env x.1;pure (ForInStep.yield ((x.1,a) :: r)) else pure (ForInStep.yield r))=(pure cl:Sem _) ∧
      (∀ x c,cl.lookup x=some c→cs.lookup x=some c∨env.cells.lookup x=some c)∧(∀ y∈l,y.2=.free → ∃ c,cl.lookup y.1=some c) ∧ ∀ x c,cs.lookup x=some c → ∃ c',cl.lookup x=some c'
  | [],cs,_=>⟨cs,by simp,fun x c h=>.inl h,fun y hy=>by simp at hy,fun x c h=>⟨c,h⟩⟩
  | (n,k) :: l,cs,hf=>by
    by_cases hk:k=.free
    · subst hk
      obtain⟨c,hc⟩:=hf (n,.free) (by simp) rfl
      obtain⟨cl,h1,h2,h3,h4⟩:=kI l ((n,c) :: cs) fun y hy=>hf y (by simp [hy])
      refine⟨cl,?_,fun x d h => ?_,fun y hy hyf => ?_,fun x d h => ?_⟩
      · rw [List.forIn_cons]
        simp only [beq_self_eq_true,if_true,cellOf,hc]
        exact h1
      · rcases h2 x d h with q|q
        · rw [List.lookup_cons] at q
          cases e:x == n with
          | true =>
            rw [e] at q
            have:x=n:=by simpa using e
            subst this
            cases q
            exact .inr hc
          | false=>rw [e] at q;exact .inl q
        · exact .inr q
      · rcases List.mem_cons.mp hy with e|e
        · subst e
          exact h4 n c (by simp [List.lookup_cons])
        · exact h3 y e hyf
      · by_cases e:x=n
        · subst e
          exact h4 x c (by simp [List.lookup_cons])
        · exact h4 x d (by rw [List.lookup_cons,beq_eq_false_iff_ne.mpr e];exact h)
    · obtain⟨cl,h1,h2,h3,h4⟩:=kI l cs fun y hy=>hf y (by simp [hy])
      refine⟨cl,?_,h2,fun y hy hyf => ?_,h4⟩
      · rw [List.forIn_cons]
        have:(k == NameKind.free)=false:=by simpa using hk
        simp only [this,Bool.false_eq_true,if_false]
        exact h1
      · rcases List.mem_cons.mp hy with e|e
        · subst e;exact absurd hyf hk
        · exact h3 y e hyf
theorem kJ {scope:Scope}{env:Env}(hf:∀ y∈scope.names,y.2=.free → ∃ c,env.cells.lookup y.1=some c) :
    ∃ cl,closureFor scope env=pure cl∧(∀ x c,cl.lookup x=some c→env.cells.lookup x=some c) ∧ ∀ y∈scope.names,y.2=.free → ∃ c,cl.lookup y.1=some c:=by
  obtain⟨cl,h1,h2,h3,_⟩:=kI scope.names [] hf
  refine⟨cl,?_,fun x c h=>(h2 x c h).elim (fun z=>by simp at z) id,h3⟩
  unfold closureFor
  have e:(forIn scope.names ([] : List (Str × Addr)) fun (x:Str × NameKind) (r:List (Str × Addr))=>if (x.2 == .free)=true then do let a ← cellOf env x.1;pure (ForInStep.yield ((x.1,a) :: r)) else pure (ForInStep.yield r))=(pure cl:Sem _):=h1
  exact (congrArg (fun t:Sem (List (Str × Addr))=>t >>= fun r=>pure r) e).trans rfl
def cxC (X:Cx) (N:List Str) (scope:Scope) (cl:List (Str × Addr)) (C:Addr) (s:Shared) (H:Hp) (ex:List Addr):Cx where
  prog:=X.prog
  w:=X.w
  K:=X.K
  mg:=X.mg
  base:=X.base
  A:=X.A
  N:=N
  s₀ := s
  H₀ := H
  env:=compEnvC scope cl C X.env
  outer:=X.stack
  stack:=X.stack
  ex:=ex
  fn:=fun _=>false
  calm:=X.calm
  pn:=[]
  xe:=fun _ _=>False
def MTs (X:Cx) (ifs:List Expr) (cs:List TF):Prop :=
  ∀ (pins:List (Addr × Obj)) (s:Shared) (σ:St) (H:Hp) (Q:Bool→Hp→Prop),Inv X pins σ H s→kt X.K rB (jm cs) σ H Q →
    wpAny (model X.prog X.w) X.A (forIn ifs true fun c r=>if r=true then do let ok ← isTrue c X.env (eval c X.env);pure (ForInStep.yield ok) else pure (ForInStep.yield r)) (TP X pins σ Q) X.xe s
theorem cV {X:Cx}:MTs X [] []:=fun pins s σ H Q I ⟨ρ,σd,hd,rs,p⟩=>wpAny_tests_nil ⟨H,I,p.here rs rfl⟩
theorem sG {X:Cx}{c:Expr}{t:TF}(h:MT X c t):MTs X [c] [t]:=fun pins s σ H Q I ⟨ρ,σd,hd,rs,p⟩=>wpAny_tests_one (h pins s σ H Q I ⟨ρ,σd,hd,rs,by
  have e:jm [t] σd hd=t σd hd:=by
    simp only [jm]
    cases c:t σd hd with
    | ok b h'=>cases b<;>simp
    | exc x h'=>rfl
    | bad=>rfl
  rw [e] at p
  exact p⟩)
theorem jE {env:Env}{x:Str}:∀ {names:List (Str × NameKind)} {k:NameKind},(names.map fun (n,k)=>if (k == NameKind.free && env.scope.kind == .function && env.kindOf n == some .cell) then (n,NameKind.cell) else (n,k)).lookup x=some k →
    ∃ k0,names.lookup x=some k0∧(k=k0∨(k0=.free∧k=.cell))
  | [],_,h=>by simp at h
  | (n,k') :: r,k,h=>by
    have ih := @jE env x r k
    have h':List.lookup x ((if (k' == NameKind.free && env.scope.kind == .function && env.kindOf n == some .cell)=true then (n,NameKind.cell) else (n,k')) :: _)=some k:=h
    cases hx:x == n with
    | true =>
      refine⟨k',by simp [List.lookup_cons,hx],?_⟩
      by_cases hc:(k' == NameKind.free && env.scope.kind == .function && env.kindOf n == some .cell)=true
      · rw [if_pos hc] at h'
        simp only [List.lookup_cons,hx,Option.some.injEq] at h'
        simp only [Bool.and_eq_true,beq_iff_eq] at hc
        exact .inr ⟨hc.1.1,h'.symm⟩
      · rw [if_neg hc] at h'
        simp only [List.lookup_cons,hx,Option.some.injEq] at h'
        exact .inl h'.symm
    | false =>
      have:List.lookup x ((n,k') :: r)=List.lookup x r:=by simp [List.lookup_cons,hx]
      rw [this]
      refine ih ?_
      by_cases hc:(k' == NameKind.free && env.scope.kind == .function && env.kindOf n == some .cell)=true
      · rw [if_pos hc] at h';simpa only [List.lookup_cons,hx] using h'
      · rw [if_neg hc] at h';simpa only [List.lookup_cons,hx] using h'
theorem gy {x:Str}{k:NameKind}:∀ {l:List (Str × NameKind)},l.lookup x=some k→(x,k)∈l
  | [],h=>by simp at h
  | (n,k') :: r,h=>by
    rw [List.lookup_cons] at h
    cases e:x == n with
    | true =>
      rw [e] at h
      have:x=n:=by simpa using e
      subst this
      cases h
      exact ZV
    | false=>rw [e] at h;exact ZW _ (gy h)
structure bM (X:Cx) (scope:Scope) (own capn:List Str) (caps:List Nat):Prop where
  kind:scope.kind=.function
  cell:∀ y∈scope.names,y.2 ≠ .cell
  names:∀ y∈scope.names,y.2=.local→scope.names.lookup y.1=some .local
  free:∀ y∈scope.names,y.2=.free→X.env.kindOf y.1=some .cell∨X.env.kindOf y.1=some .free
  cap:∀ (j:Nat) x,capn[j]? = some x → ∃ i,caps[j]? = some i∧X.N[i]? = some x∧scope.names.lookup x=some .free
  len:capn.length=caps.length
section
variable {X:Cx} {pins:List (Addr × Obj)} {σ:St} {H1:Hp} {s2:Shared} {scope:Scope} {own capn:List Str} {caps:List Nat} {cl:List (Str × Addr)} {C:Addr} {ex:List Addr}
def stC (own:List Str) (caps:List Nat) (σ:St):St:=List.replicate own.length none++caps.map fun i=>(σ[i]?).join
theorem FQ (I:Inv X pins σ H1 s2)(S:bM X scope own capn caps)(hC:s2.heap.objs.size≤C)(hcl1:∀ x c,cl.lookup x=some c→X.env.cells.lookup x=some c)(hcl2:∀ y∈scope.names,y.2=.free → ∃ c,cl.lookup y.1=some c)
    (hf:∀ b∈ex,oN X pins H1 b) (hlt:∀ b∈ex,b < s2.heap.objs.size):(cxC X (own++capn) scope cl C s2 H1 ex).Ok where
  mod:=I.ok.mod
  kind:=S.kind
  glob:=I.ok.glob
  blt:=I.ok.blt
  above:=hC
  inj:=fun x y c h1 h2=>I.ok.inj x y c (hcl1 x c h1) (hcl1 y c h2)
  has:=fun x hx=>by
    have key:∀ k,(relabel scope X.env).names.lookup x=some k→k=.cell∨k=.free → ∃ c,cl.lookup x=some c:=fun k h hk=>by
      obtain⟨k0,h0,q⟩:=jE h
      have hm:=gy h0
      have:k0=.free:=by
        rcases q with q|q
        · subst q
          rcases hk with e|e
          · exact absurd e (S.cell _ hm)
          · exact e
        · exact q.1
      exact hcl2 _ hm this
    rcases hx with h|h
    · exact key _ h (.inl rfl)
    · exact key _ h (.inr rfl)
  cab:=fun x c h=>by cases h
  hd:=I.ok.hd
  frames:=I.ok.frames
  stk:=.inl rfl
  exf:=fun b hb=>by
    obtain⟨f0,f1,f2,f3,f4,f5⟩:=hf b hb
    exact⟨fun z=>absurd (Nat.lt_of_lt_of_le (hlt b hb) hC) (by rw [z];exact Nat.lt_irrefl _),fun x c e=>f4 x c (hcl1 x c e)⟩
  bs:=I.bs
  bsz:=ZM I.ok.bsz I.sz
  noex:=fun b o e hb=>by
    obtain⟨f0,f1,f2,f3,f4,f5⟩:=hf b hb
    rcases f3 with z|z
    · exact I.ok.noex b o e z
    · exact absurd (Nat.lt_of_lt_of_le (ZI (I.ok.bs b o e).1) z) (Nat.lt_irrefl _)
  exfs:=fun b hb hs=>by
    obtain⟨f0,f1,f2,f3,f4,f5⟩:=hf b hb
    rcases List.mem_cons.mp (I.stkSub b hs) with z|z
    · exact f1 z
    · exact f2 z
  funs:=I.stack
  frf:=I.stkFree
theorem lD {env:Env}{x:Str}:∀ {names:List (Str × NameKind)},names.lookup x=some .free →
    (names.map fun (n,k)=>if (k == NameKind.free && env.scope.kind == .function && env.kindOf n == some .cell) then (n,NameKind.cell) else (n,k)).lookup x=some .cell ∨
    (names.map fun (n,k)=>if (k == NameKind.free && env.scope.kind == .function && env.kindOf n == some .cell) then (n,NameKind.cell) else (n,k)).lookup x=some .free
  | [],h=>by simp at h
  | (n,k') :: r,h=>by
    have ih := @lD env x r
    show List.lookup x ((if (k' == NameKind.free && env.scope.kind == .function && env.kindOf n == some .cell)=true then (n,NameKind.cell) else (n,k')) :: _)=_∨List.lookup x ((if (k' == NameKind.free && env.scope.kind == .function && env.kindOf n == some .cell)=true then (n,NameKind.cell) else (n,k')) :: _)=_
    cases hx:x == n with
    | true =>
      simp only [List.lookup_cons,hx,Option.some.injEq] at h
      subst h
      by_cases hc:(NameKind.free == NameKind.free && env.scope.kind == .function && env.kindOf n == some .cell)=true
      · rw [if_pos hc];exact .inl (by simp only [List.lookup_cons,hx])
      · rw [if_neg hc];exact .inr (by simp only [List.lookup_cons,hx])
    | false =>
      simp only [List.lookup_cons,hx] at h
      by_cases hc:(k' == NameKind.free && env.scope.kind == .function && env.kindOf n == some .cell)=true
      · rw [if_pos hc];simp only [List.lookup_cons,hx];exact ih h
      · rw [if_neg hc];simp only [List.lookup_cons,hx];exact ih h
theorem Dr {i:Nat}{v:V}(h:(stC own caps σ)[i]? = some (some v)):∃ j k,i=own.length + j∧caps[j]? = some k ∧ σ[k]? = some (some v):=by
  unfold stC at h
  by_cases hi:i < own.length
  · rw [ZC (by simpa using hi)] at h
    simp [hi] at h
  · rw [ZD (by simpa using Nat.le_of_not_lt hi)] at h
    simp only [List.length_replicate,ZQ] at h
    cases c:caps[i - own.length]? with
    | none=>rw [c] at h;cases h
    | some k =>
      rw [c] at h
      simp only [Option.map_some,Option.some.injEq] at h
      refine⟨i - own.length,k,by omega,c,?_⟩
      cases e : σ[k]? with
      | none=>rw [e] at h;cases h
      | some o=>rw [e] at h;simp only [Option.join_some] at h;rw [h]
theorem yL (I:Inv X pins σ H1 s2)(S:bM X scope own capn caps)(hC:s2.heap.objs.size < C)(hcl1:∀ x c,cl.lookup x=some c→X.env.cells.lookup x=some c)(hcl2:∀ y∈scope.names,y.2=.free → ∃ c,cl.lookup y.1=some c)
    (hf:∀ b∈ex,oN X pins H1 b) (hlt:∀ b∈ex,b < s2.heap.objs.size) {h1:Heap} {m:Str→Option Value} {tk:Nat} (hn:h1.Ns C m) (hk:∀ b o,s2.heap.get? b=some o→h1.get? b=some o)
    (hD:h1.get? s2.heap.objs.size=some { cls:=.type "list",data:=.seq #[] }) :
    Inv (cxC X (own++capn) scope cl C s2 H1 ex) [] (stC own caps σ) (upd H1 s2.heap.objs.size (.lst [])) { s2 with heap:=h1,toks:=tk } where
  ok:=FQ I S (Nat.le_of_lt hC) hcl1 hcl2 hf hlt
  os:=rfl
  bare:=I.bare
  base:=Un.laid hk (ZL _) (I.hok.fresh (ZL _))
  loc:=by
    refine⟨m,hn,fun i x v e1 e2 e3 => ?_⟩
    obtain⟨j,k,rfl,hj,hk'⟩:=Dr e2
    have e1':capn[j]? = some x:=by
      have:(own++capn)[own.length + j]? = some x:=e1
      rw [ZD (by omega)] at this
      simpa using this
    obtain⟨k2,q1,q2,q3⟩:=S.cap j x e1'
    rw [hj] at q1;cases q1
    have hm:=gy q3
    have kd:=S.free _ hm rfl
    obtain⟨m0,hn0,hl⟩:=I.loc
    obtain⟨u,r,lk⟩:=hl k x v q2 hk' (.inr kd)
    refine⟨u,r,.inr ⟨lD q3,?_⟩⟩
    rcases lk with ⟨z,_⟩|⟨_,c,hc,o,ho,hd⟩
    · rcases kd with e|e<;>(rw [z] at e;cases e)
    · obtain⟨c',hc'⟩:=hcl2 _ hm rfl
      have:=hcl1 _ _ hc'
      rw [hc] at this
      cases this
      exact⟨c,hc',o,hk c o ho,hd⟩
  cell:=fun x c e=>by
    obtain⟨v,o,ho,hd⟩:=I.cell x c (hcl1 x c e)
    exact⟨v,o,hk c o ho,hd⟩
  free:=by
    show upd H1 _ _ C=none
    rw [ay (Nat.ne_of_gt hC)]
    exact I.hok.fresh (Nat.le_of_lt hC)
  freeC:=fun x c e=>by
    obtain⟨v,o,ho,hd⟩:=I.cell x c (hcl1 x c e)
    rw [ay (ZN (ZI ho))]
    exact I.freeC x c (hcl1 x c e)
  pin:=fun p hp=>absurd (show p∈([] : List (Addr × Obj)) from hp) (by simp)
  hok:=I.hok.laid hk (ZL _) ⟨Nat.zero_le _,[],0,.nil,hD⟩
  len:=by
    show (stC own caps σ).length=(own++capn).length
    simp [stC,S.len]
end
theorem RS.other {K:ZX}{ρ:List Addr}{H:Hp}{σd:Sd}{hd:Hd}{σ:St}{d:Addr}{ys zs:List V}(r:RS K ρ H σd hd σ)(h:H d=some (.lst ys))(n:d ∉ ρ):RS K ρ (upd H d (.lst zs)) σd hd σ ∧ Kp ρ H ρ (upd H d (.lst zs)):=by
  have k:Kp ρ H ρ (upd H d (.lst zs)):=⟨fun _ _ h=>h,fun a us e=>by
    rw [ay (fun z=>by rw [z,h] at e;cases e)];exact e,fun a o u e=>by
    rw [ay (fun z=>by rw [z,h] at e;cases e)];exact e,fun a φ e=>by
    rw [ay (fun z=>by rw [z,h] at e;cases e)];exact e⟩
  refine⟨⟨⟨r.hp.len,r.hp.nd,fun m c a h1 h2=>(r.hp.cel m c a h1 h2).mono k (ay fun z=>n (by rw [← z];exact ZK h2))⟩,r.st.mono k⟩,k⟩
theorem Ext.other {ρ ρ':List Addr}{H H':Hp}{d:Addr}{o:HO}(e:Ext ρ H ρ' H')(h:H d=none):Ext ρ H ρ' (upd H' d o) :=
  ⟨e.pre,e.new,fun p u hp n=>by rw [ay (aU hp h)];exact e.frame p u hp n⟩
theorem uo {nl:Nat}{caps:List Nat}{σd:Sd}{i:Nat}{d:D}(h:slot (gw nl caps σd) i=some d):∃ j k,i=nl + j∧caps[j]? = some k∧slot σd k=some d:=by
  unfold gw at h
  simp only [slot] at h
  by_cases hi:i < nl
  · rw [ZC (by simpa using hi)] at h
    simp [hi] at h
  · rw [ZD (by simpa using Nat.le_of_not_lt hi)] at h
    simp only [List.length_replicate,ZQ] at h
    cases c:caps[i - nl]? with
    | none=>rw [c] at h;cases h
    | some k =>
      rw [c] at h
      simp only [Option.map_some] at h
      refine⟨i - nl,k,by omega,c,?_⟩
      simp only [slot]
      revert h
      cases e : σd[k]? with
      | none=>simp
      | some o=>cases o<;>simp
structure uq (K:ZX) (ρ0:List Addr) (H0:Hp) (J:It) (l:List D) (G:Hd→Prop):Prop where
  go:∀ ρ H hd (i:Nat) d,Ext ρ0 H0 ρ H→RH K ρ H hd→G hd→l[i]? = some d→J.go i H ∧ ∀ x H',J.yld i H x H'→jr H H'∧RD K ρ H' d x
  stop:∀ ρ H hd,Ext ρ0 H0 ρ H→RH K ρ H hd→G hd→J.stop l.length H
  sz:l.length≤sizeLine
theorem pf.g {K:ZX}{ρ:List Addr}{H:Hp}{J:It}{l:List D}{g:Option Nat}(w:pf K ρ H J l g):uq K ρ H J l (ib g l):=⟨w.go,w.stop,w.sz⟩
structure CD where
  i:Nat
  ys:List V
  acc:List D
  rest:List D
  ρ:List Addr
  σd:Sd
  hd:Hd
  H:Hp
  σ:St
structure CI (X:Cx) (own capn:List Str) (scope:Scope) (cl:List (Str × Addr)) (s2:Shared) (C:Addr) (H1:Hp) (ρ1:List Addr) (fp:List Addr) (tn:Nat→Heap→Prop) (G:Hd→Prop) (g:GF) (cs:List TF) (e:EF) (l:List D) (hdF:Hd) (ds:List D) (d:CD) (s':Shared):Prop where
  le:d.i≤l.length
  inv:Inv (cxC X (own++capn) scope cl C s2 H1 fp) [] d.σ d.H s'
  st:tn d.i s'.heap
  fr:∀ b∈fp,d.H b=none
  at':d.H s2.heap.objs.size=some (.lst d.ys)
  out:s2.heap.objs.size∉d.ρ
  yl:d.ys.length≤d.i
  ex:Ext ρ1 H1 d.ρ d.H
  rs:RS X.K d.ρ d.H d.σd d.hd d.σ
  ac:RDs X.K d.ρ d.H d.acc d.ys
  run:fj G g cs e (l.drop d.i) d.σd d.hd=.ok d.rest hdF
  eq:d.acc++d.rest=ds
section
variable {X:Cx} {pins:List (Addr × Obj)} {σ:St} {H1:Hp} {s2:Shared} {scope:Scope} {own capn:List Str} {caps:List Nat} {cl:List (Str × Addr)}
theorem v5 {ρ1:List Addr}{σd:Sd}{hd1:Hd}(S:bM X scope own capn caps)(r:RS X.K ρ1 H1 σd hd1 σ){d:Addr}(hd:H1 d=none):RS X.K ρ1 (upd H1 d (.lst [])) (gw own.length caps σd) hd1 (stC own caps σ):=by
  have sm:=cj (o:=HO.lst []) hd
  refine⟨r.hp.same sm,⟨by simp [stC,gw],fun i x e => ?_⟩⟩
  obtain⟨j,k,rfl,hj,hs⟩:=uo e
  obtain⟨v,h1,h2⟩:=r.st.at' k x hs
  refine⟨v,?_,h2.mono (Kp.same sm)⟩
  unfold stC
  rw [ZD (by simp)]
  simp [hj,h1]
theorem mz {elt tg iter:Expr}{ifs:List Expr}{pos:Pos}{it:Addr}{fp:List Addr}{tn:Nat→Heap→Prop}{J:It}{l:List D}{G:Hd→Prop}{g:GF}{cs:List TF}{e:EF}{ρ1:List Addr}{σd:Sd}{hd1 hdF:Hd}{ds:List D}{E:Value→Shared→Prop}{RR:Value→Addr→Result→Shared→Prop}
    (hc:X.calm=true) (S:bM X scope own capn caps) (hin:∀ cl C s H ex,MG (cxC X (own++capn) scope cl C s H ex) tg g∧MTs (cxC X (own++capn) scope cl C s H ex) ifs cs∧ME (cxC X (own++capn) scope cl C s H ex) elt e)
    (I1:Inv X pins σ H1 s2) (T:ue X.prog X.w X.K tg J fp it tn) (st0:tn 0 s2.heap) (hf:∀ b∈fp,oN X pins H1 b) (rs1:RS X.K ρ1 H1 σd hd1 σ) (wk:uq X.K ρ1 H1 J l G)
    (hcl1:∀ x c,cl.lookup x=some c→X.env.cells.lookup x=some c) (hcl2:∀ y∈scope.names,y.2=.free → ∃ c,cl.lookup y.1=some c)
    (run:fj G g cs e l (gw own.length caps σd) hd1=.ok ds hdF)
    (hRR:∀ C s' m H' ρ' vs,s2.heap.objs.size < C→s'.heap.Ns C m→Inv X pins σ H' s'→H' C=none→Ext ρ1 H1 ρ' H'→RH X.K ρ' H' hdF→H1 s2.heap.objs.size=none→H' s2.heap.objs.size=some (.lst vs)→s2.heap.objs.size ∉ ρ'→RDs X.K ρ' H' ds vs →
      RR (.ref s2.heap.objs.size) C (.ok .next) s') :
    wpAny (model X.prog X.w) X.A (newList []) (fun acc s₃ => wpAny (model X.prog X.w) X.A (newFunctionEnv scope X.env.globals cl [] X.env.qual none .none (some X.env)) (fun cenv s₄ =>
      codeAny (model X.prog X.w) X.A (.compStart (.ListComp elt [⟨tg,iter,ifs,0⟩] scope pos) 0 (.ref it) acc { cenv with scope:=relabel scope X.env }) (RR acc cenv.locals) s₄) E s₃) E s2:=by
  refine wpAny_newObj_type (wpAny_newFunctionEnv S.cell (by intro y hy;simp at hy) (fun h₁ hns₁ hsb₁ => ?_) S.kind)
  dsimp only at hns₁ hsb₁ ⊢
  generalize hH2:s2.heap.push { cls:=.type "list",dict:=none,data:=.seq ([] : List Value).toArray } = H2 at hns₁ hsb₁ ⊢
  have hC:H2.objs.size=s2.heap.objs.size + 1:=by rw [← hH2,Heap.size_push]
  have hDC:s2.heap.objs.size≠H2.objs.size:=by rw [hC];exact ZN (Nat.lt_succ_self _)
  have old:∀ b o,s2.heap.get? b=some o→h₁.get? b=some o:=fun b o e=>hsb₁.extBut b o (by rw [hC];exact ZN (Nat.lt_succ_of_lt (ZI e))) (ZH _ (hH2 ▸ ZH _ e))
  have hacc:h₁.get? s2.heap.objs.size=some { cls:=.type "list",data:=.seq #[] }:=hsb₁.extBut _ _ hDC (ZH _ (hH2 ▸ ZJ _ rfl))
  have hlt:∀ b∈fp,b < s2.heap.objs.size:=fun b hb=>by
    obtain⟨o,ho,_⟩:=T.obj 0 _ st0 b hb
    exact ZI ho
  have hCl:s2.heap.objs.size < H2.objs.size:=by rw [hC];exact Nat.lt_succ_self _
  have hD0:H1 s2.heap.objs.size=none:=I1.hok.fresh (ZL _)
  have st1:tn 0 h₁ := T.keep 0 _ _ st0 fun b hb o e=>old b o e
  have hn1:s2.heap.objs.size ∉ ρ1:=rs1.hp.free hD0
  obtain⟨hG,hT,hE⟩:=hin cl H2.objs.size s2 H1 fp
  have I':=yL (tk:=s2.toks + ([] : List (Str × Value)).length) I1 S hCl hcl1 hcl2 hf hlt hns₁ old hacc
  have fpC:∀ {pins':List (Addr × Obj)} {H':Hp},(∀ b∈fp,H' b=none) → ∀ b∈fp,oN (cxC X (own++capn) scope cl H2.objs.size s2 H1 fp) [] H' b:=fun {pins' H'} hn b hb=>by
    obtain⟨f0,f1,f2,f3,f4,f5⟩:=hf b hb
    have lt:=hlt b hb
    refine⟨hn b hb,fun z=>absurd lt (by rw [show b=H2.objs.size from z,hC];exact Nat.not_lt.mpr (Nat.le_succ _)),fun z => ?_,.inl hb,fun x c e=>f4 x c (hcl1 x c e),fun p hp=>absurd (show p∈([] : List (Addr × Obj)) from hp) (by simp)⟩
    rcases List.mem_cons.mp (I1.stkSub b z) with q|q
    · exact f1 q
    · exact f2 q
  have loop:∀ s₃ : Shared,s₃ = { s2 with heap:=h₁,toks:=s2.toks + ([] : List (Str × Value)).length } →
      codeAny (model X.prog X.w) X.A (.compLoop (.ListComp elt [⟨tg,iter,ifs,0⟩] scope pos) 0 (.ref it) (.ref s2.heap.objs.size) (compEnvC scope cl H2.objs.size X.env)) (RR (.ref s2.heap.objs.size) H2.objs.size) s₃ := by
    rintro s₃ rfl
    refine sF (E:=fun _ _=>False) (fun _ _ z=>z) (fun n s'=>∃ d:CD,n=l.length - d.i∧CI X own capn scope cl s2 H2.objs.size H1 ρ1 fp tn G g cs e l hdF ds d s') ?_ l.length
      ⟨⟨0,[],[],ds,ρ1,_,hd1,_,_⟩,by simp,Nat.zero_le _,I',st1,fun b hb => ?_,aT,hn1,ZL _,Ext.same (cj hD0),v5 S rs1 hD0,RDs.nil,by simpa using run,rfl⟩
    · rintro n s' ⟨⟨i,ys,acc,rest,ρ',σd',hd',H',σ'⟩,rfl,ci⟩
      have hil:i≤l.length:=ci.le
      have I':Inv (cxC X (own++capn) scope cl H2.objs.size s2 H1 fp) [] σ' H' s':=ci.inv
      have stn:tn i s'.heap:=ci.st
      have hfp:∀ b∈fp,H' b=none:=ci.fr
      have hDy:H' s2.heap.objs.size=some (.lst ys):=ci.at'
      have hnD:s2.heap.objs.size ∉ ρ':=ci.out
      have hyl:ys.length≤i:=ci.yl
      have ex:Ext ρ1 H1 ρ' H':=ci.ex
      have rs':RS X.K ρ' H' σd' hd' σ':=ci.rs
      have racc:RDs X.K ρ' H' acc ys:=ci.ac
      have hrun:fj G g cs e (l.drop i) σd' hd'=.ok rest hdF:=ci.run
      have hds:acc++rest=ds:=ci.eq
      by_cases hlt':i < l.length
      · have hdi:l[i]? = some l[i]:=by simp [hlt']
        rw [List.drop_eq_getElem_cons hlt'] at hrun
        unfold fj at hrun
        by_cases hh:G hd'
        · rw [if_pos hh] at hrun
          obtain⟨go,yl⟩:=wk.go ρ' H' hd' i _ ex rs'.hp hh hdi
          cases c:g l[i] σd' with
          | none=>rw [c] at hrun;cases hrun
          | some σd2 =>
            rw [c] at hrun
            simp only at hrun
            refine thn (T.item (cxC X (own++capn) scope cl H2.objs.size s2 H1 fp) rfl rfl rfl hc i [] s' σ' H' (fun _ _=>False) I' (fpC (pins':=[]) hfp) stn go) fun r s₁ ⟨u,hr,h4⟩ => ?_
            subst hr
            refine thn h4 fun _ s5 ⟨x,H5,I5,r5,y5,st5,fr5⟩ => ?_
            obtain⟨sm,rx⟩:=yl x H5 y5
            have I5':=I5.pinned (fpC (pins':=[]) fr5) (T.obj _ _ st5)
            have rs5:=rs'.same sm
            have hDy5:=sm _ _ hDy
            refine thn (hG _ s5 σ' H5 x u (fun σ6 H6=>H6=H5∧RS X.K ρ' H5 σd2 hd' σ6) I5' r5 ⟨ρ',σd',hd',l[i],σd2,rs5,rx,c,fun σ6 rs6=>⟨rfl,rs6⟩⟩) fun _ s6 ⟨σ6,H6,I6,hH6,rs6⟩ => ?_
            subst hH6
            cases c2:jm cs σd2 hd' with
            | exc z h7=>rw [c2] at hrun;cases hrun
            | bad=>rw [c2] at hrun;cases hrun
            | ok b hd7 =>
              rw [c2] at hrun
              simp only [aG] at hrun
              refine thn (hT _ s6 σ6 H6 (fun b' H7=>b'=b ∧ ∃ ρ7,Ext ρ' H6 ρ7 H7∧RS X.K ρ7 H7 σd2 hd7 σ6) I6 ⟨ρ',σd2,hd',rs6,by
                rw [c2]
                exact fun b' H7 ρ7 ex7 rs7 q=>⟨q.symm,ρ7,ex7,rs7⟩⟩) fun b' s7 ⟨H7,I7,hb',ρ7,ex7,rs7⟩ => ?_
              subst hb'
              have stay:∀ {σ8:St} {H8:Hp} {s8:Shared},Inv (cxC X (own++capn) scope cl H2.objs.size s2 H1 fp) ([]++oO fp s5.heap) σ8 H8 s8→tn (i + 1) s8.heap ∧ ∀ b∈fp,H8 b=none:=fun {σ8 H8 s8} I8 =>
                ⟨T.keep _ _ _ st5 fun b hb o e=>(I8.pin (b,o) (List.mem_append_right _ (List.mem_append_right _ (iM hb e)))).1,fun b hb=>by
                  obtain⟨o,e,d⟩:=T.obj _ _ st5 b hb
                  exact (I8.pin (b,o) (List.mem_append_right _ (List.mem_append_right _ (iM hb e)))).2.1⟩
              have ex5:Ext ρ' H' ρ7 H7:=(Ext.same sm).trans ex7
              have hDy7:H7 s2.heap.objs.size=some (.lst ys):=ex5.frame _ _ hDy hnD
              have hnD7:=ex5.out hDy hnD
              have racc7:=racc.mono (rs'.hp.kp ex5)
              cases b' with
              | false =>
                simp only [Bool.false_eq_true,if_false] at hrun ⊢
                obtain⟨st8,f8⟩:=stay I7
                exact⟨l.length - (i + 1),by omega,⟨i + 1,ys,acc,rest,ρ7,σd2,hd7,H7,σ6⟩,rfl,hlt',I7.unpinned,st8,f8,hDy7,hnD7,Nat.le_succ_of_le hyl,ex.trans ex5,rs7,racc7,hrun,hds⟩
              | true =>
                simp only [if_true] at hrun ⊢
                cases c3:e σd2 hd7 with
                | exc z h7=>rw [c3] at hrun;cases hrun
                | bad=>rw [c3] at hrun;cases hrun
                | ok d hd8 =>
                  rw [c3] at hrun
                  simp only [aG] at hrun
                  cases c4:fj G g cs e (l.drop (i + 1)) σd2 hd8 with
                  | exc z h7=>rw [c4] at hrun;cases hrun
                  | bad=>rw [c4] at hrun;cases hrun
                  | ok rest' hd9 =>
                    rw [c4] at hrun
                    simp only [aG,Res.ok.injEq] at hrun
                    obtain⟨hrest,hF⟩:=hrun
                    subst hrest hF
                    refine thn (hE _ s7 σ6 H7 (fun v H8=>∃ ρ8,Ext ρ7 H7 ρ8 H8∧RS X.K ρ8 H8 σd2 hd8 σ6∧RD X.K ρ8 H8 d v) I7 ⟨ρ7,σd2,hd7,rs7,by
                      rw [c3]
                      exact fun v H8 ρ8 ex8 rs8 q=>⟨ρ8,ex8,rs8,q⟩⟩) fun u8 s8 ⟨v8,H8,I8,r8,ρ8,ex8,rs8,rd8⟩ => ?_
                    have hDy8:H8 s2.heap.objs.size=some (.lst ys):=ex8.frame _ _ hDy7 hnD7
                    have hnD8:=ex8.out hDy7 hnD7
                    refine thn (rn _ s8 σ6 H8 (.ref s2.heap.objs.size) [v8] (.ref s2.heap.objs.size) [u8] (fun _ H9=>H9=upd H8 s2.heap.objs.size (.lst (ys++[v8]))) I8 rfl (.cons r8 .nil) ⟨_,ys,v8,rfl,rfl,hDy8,by have:=wk.sz;omega,rfl⟩) fun u9 s9 ⟨v9,H9,I9,r9,q9⟩ => ?_
                    subst q9
                    obtain⟨st9,f9⟩:=stay I9
                    obtain⟨rs9,k9⟩:=rs8.other (zs:=ys++[v8]) hDy8 hnD8
                    exact⟨l.length - (i + 1),by omega,⟨i + 1,ys++[v8],acc++[d],rest',ρ8,σd2,hd8,_,σ6⟩,rfl,hlt',I9.unpinned,st9,f9,aT,hnD8,by simp;exact hyl,(ex.trans (ex5.trans ex8)).other hD0,rs9,
                      ((racc7.mono (rs7.hp.kp ex8)).mono k9).append (RDs.cons (rd8.mono k9) RDs.nil),c4,by rw [← hds];simp⟩
        · rw [if_neg hh] at hrun;cases hrun
      · have e0:i=l.length:=by omega
        subst e0
        rw [List.drop_length] at hrun
        unfold fj at hrun
        by_cases hh:G hd'
        · rw [if_pos hh] at hrun
          simp only [Res.ok.injEq] at hrun
          obtain⟨hrest,hF⟩:=hrun
          subst hrest hF
          rw [List.append_nil] at hds
          subst hds
          refine thn (T.done (cxC X (own++capn) scope cl H2.objs.size s2 H1 fp) rfl rfl rfl hc _ [] s' σ' H' (fun _ _=>False) I' (fpC (pins':=[]) hfp) stn (wk.stop ρ' H' hd' ex rs'.hp hh)) fun r s₁ ⟨hr,I4⟩ => ?_
          subst hr
          obtain⟨m,hm,_⟩:=I4.loc
          refine hRR H2.objs.size s₁ m H' ρ' ys hCl hm ?_ I4.free ex rs'.hp hD0 hDy hnD racc
          exact I1.call' I4.os I4.base I4.hok I4.bare fun b hb=>by
            obtain⟨f0,f1,f2,f3,f4,f5⟩:=hf b hb
            exact⟨f3,f1,f4,f5⟩
        · rw [if_neg hh] at hrun;cases hrun
    · show upd H1 _ _ b=none
      rw [ay (ZN (hlt b hb))]
      exact (hf b hb).1
  exact codeAny_compStart_list (loop _ rfl) (T.self _ 0 _ _ _ st1 (loop _ rfl))
end
section
variable {X:Cx} {pos:Pos} {scope:Scope} {own capn:List Str} {caps:List Nat}
theorem eI {elt tg iter:Expr}{ifs:List Expr}{f:IF}{g:GF}{cs:List TF}{e:EF}(hc:X.calm=true)(S:bM X scope own capn caps)(hi:MI X tg iter f)
    (hin:∀ cl C s H ex,MG (cxC X (own++capn) scope cl C s H ex) tg g∧MTs (cxC X (own++capn) scope cl C s H ex) ifs cs∧ME (cxC X (own++capn) scope cl C s H ex) elt e)
    (hs:∀ x,foldedSetIterable iter X.env x=pure x:=by intro _;rfl):MF X (.ListComp elt [⟨tg,iter,ifs,0⟩] scope pos) (bJ own.length caps f g cs e):=by
  intro pins s σ H Q I ⟨ρ,σd,hd,rs,p⟩
  rw [eval_ListComp]
  unfold bJ at p
  cases c:f σd hd with
  | exc z h7=>rw [c] at p;exact p.elim
  | bad=>rw [c] at p;exact p.elim
  | ok q hd1 =>
    obtain⟨l,gd⟩:=q
    rw [c] at p
    simp only [aG] at p
    obtain⟨cl,h1,hcl1,hcl2⟩:=kJ (scope:=scope) (env:=X.env) fun y hy hyf=>I.ok.has y.1 (S.free y hy hyf)
    refine wpAny_comprehension_free (use:=none) rfl hs h1 S.kind S.names (thn (hi pins s σ H (fun J H1=>∃ ρ1,Ext ρ H ρ1 H1∧RS X.K ρ1 H1 σd hd1 σ ∧ pf X.K ρ1 H1 J l gd) I ⟨ρ,σd,hd,rs,by
      rw [c]
      exact fun J H' ρ' ex rs' wk=>⟨ρ',ex,rs',wk⟩⟩) fun v s1 h1=>thn h1 fun itv s2 h2 => ?_)
    obtain⟨it,fp,tn,J,H1,rfl,I1,T,st0,hf,ρ1,ex1,rs1,wk⟩:=h2
    cases c2:cx gd l g cs e l (gw own.length caps σd) hd1 with
    | exc z h7=>rw [c2] at p;exact p.elim
    | bad=>rw [c2] at p;exact p.elim
    | ok ds hdF =>
      rw [c2] at p
      refine mz (RR:=fun acc C=>compPost (model X.prog X.w) X.A X.xe none (EP X pins σ Q) acc C) hc S hin I1 T st0 hf rs1 wk.g hcl1 hcl2 ((sE _ _ _).symm.trans c2) fun C s' m H' ρ' vs hC hn I' hCn ex rh hD0 hD hnD rds => ?_
      refine⟨m,hn,fun h' sb=>⟨.ref s2.heap.objs.size,H',?_,rfl,?_⟩⟩
      · refine I'.turned (it:=C) (t':=s'.toks) (fun b o hb e=>(sb.2 b hb).trans e) hCn ?_ (.inr (Nat.le_of_lt (ZS I1.sz hC))) (fun x c e z => ?_) fun q hq z => ?_
        · exact Nat.ne_of_gt (Nat.lt_trans I1.lt hC)
        · obtain⟨v,o,ho,hd⟩:=I1.cell x c e
          exact absurd (Nat.lt_trans (ZI ho) hC) (by rw [z];exact Nat.lt_irrefl _)
        · exact absurd (Nat.lt_trans (ZI (I1.pin q hq).1) hC) (by rw [z];exact Nat.lt_irrefl _)
      · exact p _ vs H' ρ' (ex1.trans ex) (rs.ext (ex1.trans ex) rh) (ex1.fresh hD0 (rs1.hp.free hD0)) hD hnD rds
theorem ke {i:Nat}{x:Str}{pos':Pos}{elt tg iter:Expr}{ifs:List Expr}{f:IF}{g:GF}{cs:List TF}{e:EF}{cpos:Pos}(hN:X.N.Nodup)(hi':X.N[i]? = some x)(hx:Loc X.env.scope x)(hc:X.calm=true)(S:bM X scope own capn caps)(hi:MI X tg iter f)
    (hin:∀ cl C s H ex,MG (cxC X (own++capn) scope cl C s H ex) tg g∧MTs (cxC X (own++capn) scope cl C s H ex) ifs cs∧ME (cxC X (own++capn) scope cl C s H ex) elt e)
    (hsw:swapsWith (.ListComp elt [⟨tg,iter,ifs,0⟩] scope cpos) (some (.Name x pos')) pos.line X.env=pure true:=by rfl)
    (hs:∀ x,foldedSetIterable iter X.env x=pure x:=by intro _;rfl) (hf':X.fn x=true∨X.env.scope.names.lookup x=some .local:=by first|exact .inl rfl|exact .inr rfl|assumption) :
    MS X (.Assign [.Name x pos'] (.ListComp elt [⟨tg,iter,ifs,0⟩] scope cpos) pos) (aD (gN i) (bL (bJ own.length caps f g cs e))):=by
  intro pins s σ H En I ⟨ρ,σd,hd,rs,p⟩
  rw [exec_Assign_Name_used _ _ _ _ hsw]
  refine wpAny_bind (wpAny_standAt ?_)
  show wpAny _ _ ((comprehension _ scope X.env _ (newList []) _ _ _ >>= fun _=>pure ()) >>= fun _=>pure Flow.next) _ _ _
  have p1:=cC.outE (σ := σ) p
  unfold bL bJ at p1
  cases c:f σd hd with
  | exc z h7=>rw [c] at p1;exact p1.elim
  | bad=>rw [c] at p1;exact p1.elim
  | ok q hd1 =>
    obtain⟨l,gd⟩:=q
    rw [c] at p1
    simp only [aG] at p1
    obtain⟨cl,h1,hcl1,hcl2⟩:=kJ (scope:=scope) (env:=X.env) fun y hy hyf=>I.ok.has y.1 (S.free y hy hyf)
    refine wpAny_bind (wpAny_bind (wpAny_comprehension_free (Q:=fun _ s'=>wpAny (model X.prog X.w) X.A (pure ()) (fun _ s'=>wpAny (model X.prog X.w) X.A (pure Flow.next) (SP X pins En) X.xe s') X.xe s') (use:=some (assign (.Name x pos') X.env)) rfl hs h1 S.kind S.names (thn (hi pins s σ H (fun J H1=>∃ ρ1,Ext ρ H ρ1 H1∧RS X.K ρ1 H1 σd hd1 σ ∧ pf X.K ρ1 H1 J l gd) I ⟨ρ,σd,hd,rs,by
      rw [c]
      exact fun J H' ρ' ex rs' wk=>⟨ρ',ex,rs',wk⟩⟩) fun v s1 h1=>thn h1 fun itv s2 h2 => ?_)))
    obtain⟨it,fp,tn,J,H1,rfl,I1,T,st0,hf,ρ1,ex1,rs1,wk⟩:=h2
    cases c2:cx gd l g cs e l (gw own.length caps σd) hd1 with
    | exc z h7=>rw [c2] at p1;exact p1.elim
    | bad=>rw [c2] at p1;exact p1.elim
    | ok ds hdF =>
      rw [c2] at p1
      simp only [aG] at p1
      by_cases hz:ds.length≤SZ
      · rw [if_pos hz] at p1
        refine mz (RR:=fun acc C=>compPost (model X.prog X.w) X.A X.xe (some (assign (.Name x pos') X.env)) _ acc C) hc S hin I1 T st0 hf rs1 wk.g hcl1 hcl2 ((sE _ _ _).symm.trans c2) fun C s' m H' ρ' vs hC hn I' hCn ex rh hD0 hD hnD rds => ?_
        refine wpAny_assign_Name (qZ I' hN hi' hx (v:=.ref s2.heap.objs.size) rfl (fun s'' I'' hsb => ?_) hf')
        have hCl:C≠X.env.locals:=Nat.ne_of_gt (Nat.lt_trans I1.lt hC)
        have hCc:∀ y c,X.env.cells.lookup y=some c→c≠C:=fun y c e z=>by
          obtain⟨v,o,ho,hd⟩:=I1.cell y c e
          exact absurd (Nat.lt_trans (ZI ho) hC) (by rw [z];exact Nat.lt_irrefl _)
        refine⟨m,?_,fun h' sb=>wpAny_pure (wpAny_pure ?_)⟩
        · obtain⟨a,sa,ha⟩:=hsb
          refine hn.sameBut sa ?_
          rcases ha with z|z
          · rw [z];exact hCl
          · exact Ne.symm (hCc _ _ z)
        · have I3:Inv X pins (σ.set i (some (.ref s2.heap.objs.size))) H' { s'' with heap:=h' }:=I''.turned (it:=C) (t':=s''.toks) (fun b o hb e=>(sb.2 b hb).trans e) hCn hCl (.inr (Nat.le_of_lt (ZS I1.sz hC))) hCc fun q hq z =>
            absurd (Nat.lt_trans (ZI (I1.pin q hq).1) hC) (by rw [z];exact Nat.lt_irrefl _)
          have ex':Ext ρ H ρ' H':=ex1.trans ex
          have rh':=rh.alloc hD hnD rds
          have hH0:H s2.heap.objs.size=none:=ex1.fresh hD0 (rs1.hp.free hD0)
          have exA:Ext ρ H (ρ'++[s2.heap.objs.size]) H':=⟨by obtain⟨t,rfl⟩:=ex'.pre;exact⟨t++[s2.heap.objs.size],by simp⟩,fun a ha=>by
            rcases List.mem_append.mp ha with z|z
            · exact ex'.new a z
            · simp at z;subst z;exact .inr hH0,ex'.frame⟩
          obtain⟨ρ2,d2,hd2,e2,rs2,rd2,pn⟩:=p1 (.ref s2.heap.objs.size) H' (ρ'++[s2.heap.objs.size]) exA (rs.ext exA rh') (by
            simp only [rD,RD]
            refine⟨s2.heap.objs.size,?_,rfl⟩
            rw [← rh.len]
            simp)
          exact⟨_,H',I3,pn _ H' ρ2 Ext.refl ⟨rs2.hp,rs2.st.set i rd2⟩⟩
      · rw [if_neg hz] at p1;exact p1.elim
end
end Fm
namespace Fm
open PySem PySem.Spec L2 PyProof.Rows
mutual
def rfs (k:Nat):D→Prop
  | .ref n=>n < k
  | .tup l=>jt k l
  | .lit l=>jt k l
  | .exn _ l=>jt k l
  | _=>True
def jt (k:Nat):List D→Prop
  | []=>True
  | x :: xs=>rfs k x∧jt k xs
end
section
variable {K:ZX} {ρ ρ' t:List Addr} {H H':Hp} {hd hd':Hd}
mutual
theorem RD.rfs:∀ {d:D} {v:V},RD K ρ H d v→Fm.rfs ρ.length d
  | .non,_,_=>by simp only [Fm.rfs]
  | .bl _,_,_=>by simp only [Fm.rfs]
  | .int _,_,_=>by simp only [Fm.rfs]
  | .str _,_,_=>by simp only [Fm.rfs]
  | .tup l,_,h=>by
    simp only [RD] at h;obtain⟨p,vs,_,_,h2⟩:=h
    simp only [Fm.rfs];exact RDs.rfs h2
  | .lit l,_,h=>by
    simp only [RD] at h;obtain⟨p,vs,_,_,h2⟩:=h
    simp only [Fm.rfs];exact RDs.rfs h2
  | .ref n,_,h=>by
    simp only [RD] at h;obtain⟨a,h1,_⟩:=h
    simp only [Fm.rfs];exact (List.getElem?_eq_some_iff.mp h1).1
  | .exn _ _,_,h=>by simp only [RD] at h;obtain⟨rfl,_⟩:=h;simp only [Fm.rfs,Fm.jt]
theorem RDs.rfs:∀ {l:List D} {vs:List V},RDs K ρ H l vs→Fm.jt ρ.length l
  | [],_,_=>by simp only [Fm.jt]
  | d :: ds,_,h=>by
    simp only [RDs] at h;obtain⟨v,r,_,h1,h2⟩:=h
    simp only [Fm.jt];exact⟨RD.rfs h1,RDs.rfs h2⟩
end
mutual
theorem RD.cut:∀ {d:D} {v:V},RD K (ρ ++ t) H d v→Fm.rfs ρ.length d→RD K ρ H d v
  | .non,_,h,_=>by simp only [RD] at h ⊢;exact h
  | .bl _,_,h,_=>by simp only [RD] at h ⊢;exact h
  | .int _,_,h,_=>by simp only [RD] at h ⊢;exact h
  | .str _,_,h,_=>by simp only [RD] at h ⊢;exact h
  | .tup l,_,h,q=>by
    simp only [RD] at h ⊢;simp only [Fm.rfs] at q
    obtain⟨p,vs,e,h1,h2⟩:=h
    exact⟨p,vs,e,h1,RDs.cut h2 q⟩
  | .lit l,_,h,q=>by
    simp only [RD] at h ⊢;simp only [Fm.rfs] at q
    obtain⟨p,vs,e,h1,h2⟩:=h
    exact⟨p,vs,e,h1,RDs.cut h2 q⟩
  | .ref n,_,h,q=>by
    simp only [RD] at h ⊢;simp only [Fm.rfs] at q
    obtain⟨a,h1,h2⟩:=h
    exact⟨a,by rwa [ZC q] at h1,h2⟩
  | .exn _ _,_,h,_=>by simp only [RD] at h ⊢;exact h
theorem RDs.cut:∀ {l:List D} {vs:List V},RDs K (ρ ++ t) H l vs→Fm.jt ρ.length l→RDs K ρ H l vs
  | [],_,h,_=>by simp only [RDs] at h ⊢;exact h
  | d :: ds,_,h,q=>by
    simp only [RDs] at h ⊢;simp only [Fm.jt] at q
    obtain⟨v,r,e,h1,h2⟩:=h
    exact⟨v,r,e,RD.cut h1 q.1,RDs.cut h2 q.2⟩
end
mutual
theorem pv {k:Nat}:∀ {d:D},pure? d=true→Fm.rfs k d
  | .non,_=>by simp only [Fm.rfs]
  | .bl _,_=>by simp only [Fm.rfs]
  | .int _,_=>by simp only [Fm.rfs]
  | .str _,_=>by simp only [Fm.rfs]
  | .tup l,h=>by simp only [pure?] at h;simp only [Fm.rfs];exact iy h
  | .lit l,h=>by simp only [pure?] at h;simp only [Fm.rfs];exact iy h
  | .exn _ l,h=>by simp only [pure?] at h;simp only [Fm.rfs];exact iy h
  | .ref _,h=>by simp only [pure?] at h;cases h
theorem iy {k:Nat}:∀ {l:List D},gx l=true→Fm.jt k l
  | [],_=>by simp only [Fm.jt]
  | x :: xs,h=>by
    simp only [gx,Bool.and_eq_true] at h
    simp only [Fm.jt];exact⟨pv h.1,iy h.2⟩
end
def AS (k:Nat):du→Prop
  | .lst l=>Fm.jt k l
  | .dct l=>Fm.jt k (l.map (·.2))
theorem RC.rfs {c:du}{a:Addr}(h:RC K ρ H c a):AS ρ.length c:=by
  cases c with
  | lst l=>obtain⟨vs,_,h2⟩:=h;exact h2.rfs
  | dct l=>obtain⟨vs,_,_,h2⟩:=h;exact h2.rfs
theorem RC.cut {c:du}{a:Addr}(h:RC K (ρ ++ t) H c a)(q:AS ρ.length c):RC K ρ H c a:=by
  cases c with
  | lst l=>obtain⟨vs,h1,h2⟩:=h;exact⟨vs,h1,h2.cut q⟩
  | dct l=>obtain⟨vs,h1,h2,h3⟩:=h;exact⟨vs,h1,h2,h3.cut q⟩
theorem sH {k:Nat}{c:du}(h:uj c=true):AS k c:=by
  cases c with
  | lst l=>exact iy h
  | dct l =>
    have:∀ l:List (Int × D),(l.all fun p=>pure? p.2)=true→Fm.jt k (l.map (·.2)):=by
      intro l
      induction l with
      | nil=>intro _;simp only [List.map_nil,Fm.jt]
      | cons x l ih=>intro h;simp only [List.all_cons,Bool.and_eq_true] at h;simp only [List.map_cons,Fm.jt];exact⟨pv h.1,ih h.2⟩
    exact this l h
theorem RH.back (r:RH K ρ H hd)(r':RH K (ρ ++ t) H' hd')(o:AD hd hd'):RH K ρ H' (hd'.take hd.length):=by
  have hl:(ρ ++ t).length=hd'.length:=r'.len
  refine⟨by rw [List.length_take,← hl,ZB,← r.len];omega,(List.nodup_append.mp r'.nd).1,fun n c a h1 h2 => ?_⟩
  have hn:n < hd.length:=by rw [← r.len];exact (List.getElem?_eq_some_iff.mp h2).1
  rw [List.getElem?_take_of_lt hn] at h1
  have q:=r'.cel n c a h1 (by rw [ZC (by rw [r.len];exact hn)];exact h2)
  refine q.cut ?_
  rcases o n c hn h1 with z|z
  · exact (r.cel n c a z h2).rfs
  · exact sH z
def pw (K:ZX) (ρ:List Addr) (H:Hp) (r:Res D) (Q:VK):Prop:=match r with
  | .ok d hd'=>∀ v H' ρ',Ext ρ H ρ' H'→RH K ρ' H' hd'→RD K ρ' H' d v→Q v H'
  | _=>False
def spF (K:ZX) (F:Fn) (np:Nat):Sp:=fun vs H Q _=>∃ ρ hd ds,RH K ρ H hd∧RDs K ρ H ds vs∧ds.length=np∧pw K ρ H (F ds hd) Q
theorem Ext.short (e:Ext ρ H (ρ ++ t) H'):Ext ρ H ρ H':=⟨⟨[],by simp⟩,fun _ h=>.inl h,e.frame⟩
theorem pw.letGo {r:Res D}{Q:VK}(rh:RH K ρ H hd)(p:pw K ρ H (letGo hd r) Q):pw K ρ H r Q:=by
  cases r with
  | exc x h'=>exact p
  | bad=>exact p
  | ok d h' =>
    intro v H' ρ' ex rh' rd
    simp only [Fm.letGo] at p
    split at p
    · rename_i hc
      obtain⟨t,rfl⟩:=ex.pre
      exact p v H' ρ ex.short (rh.back rh' hc.2) (rd.cut (pv hc.1))
    · exact p v H' ρ' ex rh' rd
theorem pw.runB {n:Nat}{b:SF}{ds:List D}{Q:VK}(p:pw K ρ H (runB n b ds hd) Q):cC K ρ H (b (ds.map some++List.replicate (n - ds.length) none) hd) { nx:=fun _ H'=>Q .non H',rt:=Q }:=by
  unfold Fm.runB at p
  cases e:b (ds.map some++List.replicate (n - ds.length) none) hd with
  | nx σ h'=>rw [e] at p;exact fun σ' H' ρ' ex rs=>p .non H' ρ' ex rs.hp (by simp only [RD])
  | rt d h'=>rw [e] at p;exact p
  | bk σ h'=>rw [e] at p;exact p.elim
  | ct σ h'=>rw [e] at p;exact p.elim
  | exc x σ h'=>rw [e] at p;exact p.elim
  | bad=>rw [e] at p;exact p.elim
theorem yM {N:List Str}{ds:List D}{vs:List V}(r:RDs K ρ H ds vs):RSt K ρ H (ds.map some++List.replicate (N.length - ds.length) none) (L2.jy N vs):=by
  have hl:=r.length
  refine⟨by simp [L2.jy,hl],fun i d e => ?_⟩
  simp only [slot] at e
  by_cases hi:i < ds.length
  · rw [ZC (by simpa using hi)] at e
    simp only [ZQ,ZE hi,Option.map_some] at e
    cases e
    obtain⟨v,hv,q⟩:=r.get (i:=i) (d:=ds[i]) (by simp [hi])
    refine⟨v,?_,q⟩
    unfold L2.jy
    rw [ZC (by simp;omega)]
    simp [hv]
  · rw [ZD (by simpa using Nat.le_of_not_lt hi)] at e
    simp only [List.getElem?_replicate] at e
    by_cases hq:i - (List.map some ds).length < N.length - ds.length
    · simp only [hq,if_true] at e;cases e
    · simp only [hq,if_false] at e;cases e
end
structure Def (P:Program) (w:World) (K:ZX) (mg:Str→Option Value) (base:Heap) (x:Str) (k np:Nat) (F:Fn):Prop where
  ex:∃ f fd ps,mg x=some (.ref f)∧PySem.W.keepIn K (.ref f)=true∧lq K fd ps []∧bS P w K mg base CX0 k f fd ps (spF K F np)
section
variable {P:Program} {w:World} {K:ZX} {mg:Str→Option Value} {base:Heap}
theorem bK {x:Str}{st:Stmt}{f:Addr}{fd:FuncData}{N ps:List Str}{k:Nat}{b:SF}(F:Fun K x x st f fd)(S:aF N ps (ax st))
    (body:∀ (cdv:Value) (A:Around) (outer:List Env) (s:Shared) (H:Hp) (E:XK),gW k (A.deeper (envOfC x (ax st) s.heap.objs.size f cdv))→MSs (vS CX0 P w K mg base N x (ax st) f cdv A outer s H E).nox (dP st) b) :
    bS P w K mg base CX0 (k + 1) f fd ps (spF K (bB ps.length N.length b) ps.length):=by
  refine F.ok S (fun vs H Q E ⟨ρ,hd,ds,rh,rd,hl,p⟩=>by rw [← rd.length];exact hl) fun cdv A outer s H vs Q E hr ⟨ρ,hd,ds,rh,rd,hl,p⟩=>⟨_,body cdv A outer s H E hr,ρ,_,hd,⟨rh,yM rd⟩,?_⟩
  simp only [bB,hl,if_true] at p
  exact (pw.letGo rh p).runB
theorem Def.mk' {x:Str}{f:Addr}{fd:FuncData}{ps:List Str}{k np:Nat}{F:Fn}(hm:mg x=some (.ref f))(hk:PySem.W.keepIn K (.ref f)=true)(hb:lq K fd ps [])(h:bS P w K mg base CX0 k f fd ps (spF K F np)):Def P w K mg base x k np F:=⟨f,fd,ps,hm,hk,hb,h⟩
end
section
variable {X:Cx} {pos p:Pos}
theorem Ds {x:Str}{k np:Nat}{F:Fn}{e:Expr}{es:List Expr}{r:LF}(hd:Def X.prog X.w X.K X.mg X.base x k np F)(hr:gW k X.A)(hg:Gl X x)(ha:MA X (e :: es) r)(hnp:∀ ds h d h',F ds h=.ok d h'→ds.length=np)
    (hdb:(x == ("__debug__" : Str))=false:=by decide) (he:starEach (e :: es) X.env=(false,eval e X.env) :: starEach es X.env:=by rfl) (hpl:(backTo pos (starEach es X.env)).any (·.1)=false:=by rfl) :
    ME X (.Call (.Name x p) (e :: es) [] pos) (am F r):=by
  obtain⟨f,fd,ps,h1,h2,h3,h4⟩:=hd.ex
  refine PE.imp (Dg h4 hr hg h1 h2 h3 .nil Hu ha hdb he hpl) fun σ H Q ⟨ρ,σd,hd,rs,pp⟩=>⟨ρ,σd,hd,rs,(bQ.bind (R:=rDs X.K) pp).imp fun vs H1 ⟨ρ1,ds,hd1,e1,rs1,rv,p1⟩ => ?_⟩
  rw [List.append_nil]
  cases c:F ds hd1 with
  | exc z h'=>rw [c] at p1;exact p1.elim
  | bad=>rw [c] at p1;exact p1.elim
  | ok d hd2 =>
    rw [c] at p1
    refine⟨ρ1,hd1,ds,rs1.hp,rv,hnp _ _ _ _ c,?_⟩
    rw [c]
    exact fun v H' ρ' ex rh rd=>p1 v H' ρ' ex (rs1.ext ex rh) rd
theorem Dt {np n:Nat}{b:SF}:∀ ds h d h',bB np n b ds h=.ok d h'→ds.length=np:=by
  intro ds h d h' e
  unfold bB at e
  split at e
  · assumption
  · cases e
end
theorem HD {l:PySem.W.OpenLaw}{q:Program}{loose:List Str}{XP:(Str→Option Value)→Heap→Prop}{YP:World→Heap→Prop}{d:DefRec}{K:Params→ZX}{F:Fn}{k:Nat}{x:Str}(hn:l.most=some 63)(hdf:d.params.defaults=[])(hr:gW k callerA)
    (hY:∀ (w:World) (h:Heap),YP w h→(K w.params).In h)
    (hF:∀ (w:World) (mg:Str→Option Value) (fa:Addr) (h:Heap),(K w.params).In h→h.Ns mainGlobals mg→mg d.name=some (.ref fa) →
      ∃ fd:FuncData,(∀ (s:Shared) (u:Value),BindsTo s fd ⟨[u],[]⟩ [(x,u)]) ∧ ∀ base:Heap,(K w.params).In base→base.Ns mainGlobals mg→bS l.prog w (K w.params) mg base CX0 k fa fd [x] (spF (K w.params) F 1))
    (law:∀ ns:List Int,ns.length≤63 → ∃ h,F [.lit (ns.map .int)] []=.ok (.bl true) h) :
    PySem.W.WalkO q loose XP YP l.row.toRowW d [] (fun f vs=>PySem.call f vs):=by
  refine L2.Do (n:=63) (k:=k) (x:=x) (CX:=fun _=>CX0) (sp:=fun w=>spF (K w.params) F 1) hn (by decide) hdf hr hY hF (fun w H a ns hl hO hS => ?_) fun _ _ _ _ _ z=>z
  obtain⟨h,e⟩:=law ns hl
  have hL:nJ (K w.params) H a (ns.map V.int):=by
    rcases hS with (z|⟨o,z⟩)|z
    · rcases hO a with y|⟨o,xs,y⟩<;>(rw [z] at y;cases y)
    · exact .inl ⟨o,z⟩
    · exact .inr z
  have hI:RDs (K w.params) [] H (ns.map D.int) (ns.map V.int):=by
    clear hl hS e hL law
    induction ns with
    | nil=>exact RDs.nil
    | cons n ns ih=>exact RDs.cons (by simp only [RD]) ih
  refine⟨[],[],[.lit (ns.map .int)],⟨rfl,List.nodup_nil,fun n c a h1=>by simp at h1⟩,RDs.cons (by simp only [RD];exact⟨a,_,rfl,hL,hI⟩) RDs.nil,rfl,?_⟩
  rw [e]
  intro v H' ρ' ex rh rd
  simpa only [RD] using rd
end Fm
namespace Fm
open PySem PySem.Spec L2
open PyProof.Rows (Subscript_ tail_any)
def tyS:Ty→String
  | .int => "int" | .bool => "bool" | .tuple => "tuple" | .list => "list" | .str => "str"
theorem gf (t:Ty):typeOf (.type (tyS t))=pure (.type "type"):=by
  cases t
  · exact F.isi_meta_int
  · exact F.isi_meta_bool
  · exact F.isi_meta_tuple
  · exact F.isi_meta_list
  · exact F.isi_meta_str
theorem Du (t:Ty):isSubtype (.type "NoneType") (.type (tyS t))=pure false:=by cases t<;>(rw [isSubtype_type];kernel_rfl)
theorem FR {t:Ty} (h:t ≠ .int):isSubtype (.type "int") (.type (tyS t))=pure false:=by cases t<;>first|exact absurd rfl h|(rw [isSubtype_type];kernel_rfl)
theorem Dv {t:Ty} (h:t ≠ .int) (h2:t ≠ .bool):isSubtype (.type "bool") (.type (tyS t))=pure false:=by cases t<;>first|exact absurd rfl h|exact absurd rfl h2|(rw [isSubtype_type];kernel_rfl)
theorem FS {t:Ty} (h:t ≠ .str):isSubtype (.type "str") (.type (tyS t))=pure false:=by cases t<;>first|exact absurd rfl h|(rw [isSubtype_type];kernel_rfl)
theorem AT {t:Ty} (h:t ≠ .tuple):isSubtype (.type "tuple") (.type (tyS t))=pure false:=by cases t<;>first|exact absurd rfl h|(rw [isSubtype_type];kernel_rfl)
theorem xE {t:Ty} (h:t ≠ .list):isSubtype (.type "list") (.type (tyS t))=pure false:=by cases t<;>first|exact absurd rfl h|(rw [isSubtype_type];kernel_rfl)
theorem Dw (t:Ty):isSubtype (.type "dict") (.type (tyS t))=pure false:=by cases t<;>(rw [isSubtype_type];kernel_rfl)
theorem kg (t:Ty):isSubtype (.type (tyS t)) (.type (tyS t))=pure true:=by cases t<;>(rw [isSubtype_type];kernel_rfl)
theorem ur:isSubtype (.type "bool") (.type (tyS .int))=pure true:=by rw [isSubtype_type];kernel_rfl
theorem nK {n:String}{t:Ty}(h:n≠tyS t):(Value.type n == Value.type (tyS t))=false:=by
  rw [beq_eq_false_iff_ne];intro e;cases e;exact h rfl
theorem v6 {a b:Ty}(h:a≠b):(a == b)=false:=by cases a<;>cases b<;>first|rfl|exact absurd rfl h
section
variable {X:Cx} {pos p:Pos}
theorem FT {pins:List (Addr × Obj)}{σ:St}{H:Hp}{s:Shared}{ρ:List Addr}{hd:Hd}{d:D}{v:V}{u:Value}{t:Ty}{b:Bool}{Q:Value→Shared→Prop}{E:Value→Shared→Prop}(I:Inv X pins σ H s)(rh:RH X.K ρ H hd)(rd:RD X.K ρ H d v)(r:bP v u)(e:yH hd t d=some b)
    (q:∀ s',Inv X pins σ H s'→Q (.bool b) s'):wpAny (model X.prog X.w) X.A (call (.builtin "isinstance") [u,.type (tyS t)]) Q E s:=by
  have q0:=q s I
  have q1:=q { s with toks:=s.toks + 1 } (I.tok _)
  have yes:∀ {n:String},s.TypeIs u n→isSubtype (.type n) (.type (tyS t))=pure true→Q (.bool true) s→wpAny (model X.prog X.w) X.A (call (.builtin "isinstance") [u,.type (tyS t)]) Q E s:=fun h1 h2 h3=>call_isinstance (isinstance_true (gf t) h2) ⟨h1,h3⟩
  cases d<;>simp only [RD] at rd<;>simp only [yH] at e
  · subst rd;cases r;cases e
    exact call_isinstance (isinstance_false_none (by cases t<;>exact nK (by decide)) (gf t) (Du t)) q1
  · subst rd;cases r
    by_cases h1:t=.int
    · subst h1;cases e;exact yes (n := "bool") rfl ur q0
    · by_cases h2:t=.bool
      · subst h2;cases e;exact yes (n := "bool") rfl (kg .bool) q0
      · rw [v6 h1,v6 h2] at e;cases e
        exact call_isinstance (isinstance_false_bool (by cases t<;>first|exact absurd rfl h1|exact absurd rfl h2|exact nK (by decide)) (gf t) (Dv h1 h2)) q1
  · subst rd;obtain⟨tk,rfl⟩:=r
    by_cases h1:t=.int
    · subst h1;cases e;exact yes (n := "int") rfl (kg .int) q0
    · rw [v6 h1] at e;cases e
      exact call_isinstance (isinstance_false_int (by cases t<;>first|exact absurd rfl h1|exact nK (by decide)) (gf t) (FR h1)) q1
  · subst rd;obtain⟨tk,rfl⟩:=r
    by_cases h1:t=.str
    · subst h1;cases e;exact yes (n := "str") rfl (kg .str) q0
    · rw [v6 h1] at e;cases e
      exact call_isinstance (isinstance_false_str (by cases t<;>first|exact absurd rfl h1|exact nK (by decide)) (gf t) (FS h1)) q1
  · obtain⟨a,vs,rfl,ha,_⟩:=rd
    cases r
    obtain⟨its,_,o,ho,hc,_⟩:=iN I.hok ha
    by_cases h1:t=.tuple
    · subst h1;cases e;exact yes (n := "tuple") ⟨o,ho,hc⟩ (kg .tuple) q0
    · rw [v6 h1] at e;cases e
      exact call_isinstance (isinstance_false_tuple (by cases t<;>first|exact absurd rfl h1|exact nK (by decide)) (gf t) (AT h1)) ⟨⟨o,ho,hc⟩,q1⟩
  · rename_i n
    obtain⟨a,ha,rfl⟩:=rd
    cases r
    cases c:hd[n]? with
    | none=>rw [c] at e;cases e
    | some cell =>
      rw [c] at e
      cases cell with
      | lst l =>
        obtain⟨vs,hv,_⟩:=rh.cel n _ a c ha
        obtain⟨z,its,k,_,ho⟩:=I.hok a _ hv
        by_cases h1:t=.list
        · subst h1;cases e;exact yes (n := "list") ⟨_,ho,rfl⟩ (kg .list) q0
        · simp only [v6 h1] at e;cases e
          exact call_isinstance (isinstance_false_list (by cases t<;>first|exact absurd rfl h1|exact nK (by decide)) (gf t) (xE h1)) ⟨⟨_,ho,rfl⟩,q1⟩
      | dct l =>
        obtain⟨vs,hv,_,_⟩:=rh.cel n _ a c ha
        obtain⟨_,_,_,_,o,_,_,ho,ex,_⟩:=I.hok a _ hv
        cases e
        exact call_isinstance (isinstance_false_dict (by cases t<;>exact nK (by decide)) (gf t) (Dw t)) ⟨⟨o,ho,ex.1⟩,q1⟩
  · obtain⟨a,vs,rfl,ha,_⟩:=rd
    cases r
    obtain⟨its,_,pl,_⟩:=I.list ha.sq
    obtain⟨o,ho,hc,_⟩:=pl.isList
    by_cases h1:t=.list
    · subst h1;cases e;exact yes (n := "list") ⟨o,ho,hc⟩ (kg .list) q0
    · simp only [v6 h1] at e;cases e
      exact call_isinstance (isinstance_false_list (by cases t<;>first|exact absurd rfl h1|exact nK (by decide)) (gf t) (xE h1)) ⟨⟨o,ho,hc⟩,q1⟩
  · cases e
def IQ (K:ZX) (t:Ty):List V→Hp→VK→Prop:=fun xs H Q=>∃ ρ hd d v b,xs=[v,.ty (tyS t)]∧RH K ρ H hd∧RD K ρ H d v∧yH hd t d=some b∧Q (.bl b) H
theorem AU (t:Ty):fX X (.builtin "isinstance") (IQ X.K t):=by
  intro pins s σ H xs us Q I r h
  obtain⟨ρ,hd,d,v,b,rfl,rh,rd,e,q⟩:=h
  obtain⟨u,u2,rfl,ru,ru2⟩:=aS.two r
  cases (show u2=Value.type (tyS t) from ru2)
  exact FT I rh rd ru e fun s' I'=>⟨.bl b,H,I',rfl,q⟩
theorem iP {t:Ty} {a:Expr} {fa:EF} {p2:Pos} {n:Str} (hg:Gl X "isinstance") (hm:X.mg "isinstance" = none) (hg2:Gl X n) (hm2:X.mg n=none) (hv:bootBuiltins n=some (.type (tyS t))) (ha:ME X a fa)
    (hs:starEach [a,.Name n p2] X.env=(false,eval a X.env) :: starEach [.Name n p2] X.env:=by rfl) (hs2:starEach [.Name n p2] X.env=(false,eval (.Name n p2) X.env) :: starEach [] X.env:=by rfl) (hn:n ≠ "__name__" := by decide) (hd:(n == ("__debug__" : Str))=false:=by decide) :
    ME X (.Call (.Name "isinstance" p) [a,.Name n p2] [] pos) (gv t fa):=by
  refine PE.imp (iu (AU t) hg hm (by decide +kernel) (cu ha (cu (CZ (v:=.ty (tyS t)) hg2 hm2 hv rfl hn hd) eu hs2) hs) (he:=hs)) fun σ H Q ⟨ρ,σd,hd,rs,pp⟩=>⟨ρ,σd,hd,rs,(bQ.bind (R:=rD X.K) pp).imp fun v H1 ⟨ρ1,d,hd1,e1,rs1,rv,p1⟩ => ?_⟩
  cases c:yH hd1 t d with
  | none=>simp only [c] at p1;exact p1.elim
  | some b=>simp only [c] at p1;exact⟨ρ1,hd1,d,v,b,rfl,rs1.hp,rv,c,p1.here rs1 (by simp only [rD,RD])⟩
theorem d8:OpR X (binaryOp .Add) (fun x y H Q=>rI0 (fun i j=>.int (i + j)) x y H Q∨uh X.K x y H Q):=Fs.or xw
theorem fx {K:ZX}:Og K cE (fun x y H Q=>rI0 (fun i j=>.int (i + j)) x y H Q∨uh K x y H Q):=by
  intro ρ H σd hd σ d k v w Q rs rv rw' pp
  cases d<;>try exact pp.elim
  · cases k<;>try exact pp.elim
    simp only [RD] at rv rw'
    exact .inl ⟨_,_,rv,rw',pp.here rs (by simp only [rD,RD])⟩
  · rename_i l
    cases l with
    | nil=>exact pp.elim
    | cons x xs =>
      cases k<;>try exact pp.elim
      rename_i ys
      simp only [cE] at pp
      split at pp
      · rename_i hz
        simp only [RD] at rv rw'
        obtain⟨a,vs,rfl,ha,rvs⟩:=rv
        obtain⟨b,ws,rfl,hb,rws⟩:=rw'
        refine .inr ⟨a,b,vs,ws,rfl,rfl,SqT.of ha,SqT.of hb,?_,?_,fun z => ?_,fun _ q hq => ?_⟩
        · intro z;subst z;have:=rvs.length;simp at this
        · rw [← rvs.length,← rws.length];exact lA hz
        · subst z
          have hy:ys=[]:=by have:=rws.length;simpa using this
          subst hy
          exact pp.here rs (by simp only [rD,RD];exact⟨a,vs,rfl,ha,by simpa using rvs⟩)
        · have sm:=cj (o:=HO.tup (vs++ws)) hq
          exact pp.at (Ext.same sm) (rs.same sm) (by simp only [rD,RD];exact⟨q,_,rfl,aT,(RDs.append rvs rws).mono (Kp.same sm)⟩)
      · exact pp.elim
theorem oy {a:Expr} {la:LF} (hg:Gl X "list") (hm:X.mg "list" = none) (ha:MQ X a la) (hs:starEach [a] X.env=(false,eval a X.env) :: starEach [] X.env:=by rfl):MF X (.Call (.Name "list" p) [a] [] pos) la:=by
  refine PE.imp (mw sB hg hm (by decide +kernel) (cu ha eu hs) (he:=hs)) fun σ H Q ⟨ρ,σd,hd,rs,pp⟩=>⟨ρ,σd,hd,rs,?_⟩
  cases e:la σd hd with
  | exc x h'=>rw [e] at pp;exact pp
  | bad=>rw [e] at pp;exact pp
  | ok l hd1 =>
    rw [e] at pp
    intro v H1 ρ1 e1 rs1 ⟨q,vs,hv,sq,rvs⟩
    subst hv
    exact⟨q,vs,rfl,sq.imp id SqT.of,pp.mk e1 rs1 rvs⟩
def MO (X:Cx) (e:Option Expr) (f:OF):Prop:=PO X e (kt X.K rO f)
theorem EH:MO X none pNo:=fun pins s σ H Q I ⟨ρ,σd,hd,rs,pp⟩=>Di pins s σ H Q I (pp.here rs rfl)
theorem EI {e:Expr}{f:EF}(h:ME X e f):MO X (some e) (pAt f):=fun pins s σ H Q I ⟨ρ,σd,hd,rs,pp⟩=>Dj h pins s σ H Q I ⟨ρ,σd,hd,rs,(bQ.bind (R:=rD X.K) pp).imp fun v H1 ⟨ρ1,d,hd1,e1,rs1,rv,p1⟩=>by
  cases d<;>try exact p1.elim
  simp only [rD,RD] at rv
  exact⟨_,rv,p1.here rs1 rfl⟩⟩
theorem xF {K:ZX}{ρ:List Addr}{H:Hp}{l:List D}{vs:List V}{lo hi:Option Int}(r:RDs K ρ H l vs):RDs K ρ H (cut l lo hi) (oW vs lo hi):=by
  have e:∀ (n d:Nat) (o:Option Int),Fm.sIx n d o=HT.sIx n d o:=fun n d o=>by cases o<;>rfl
  unfold cut oW
  rw [r.length,e,e]
  exact (r.drop _).take _
theorem ut {a:Expr}{fa:EF}{lo hi:Option Expr}{fl fh:OF}{p2:Pos}(ha:ME X a fa)(hl:MO X lo fl)(hh:MO X hi fh):ME X (.Subscript a (.Slice lo hi none p2) pos) (jA fa fl fh):=by
  refine PE.imp (Ay (SlR.or Dk Fy) ha hl hh) fun σ H Q ⟨ρ,σd,hd,rs,pp⟩ => ?_
  unfold jA at pp
  refine⟨ρ,σd,hd,rs,(bQ.bind (R:=rD X.K) pp).imp fun v H1 ⟨ρ1,d,hd1,e1,rs1,rv,p1⟩ => ?_⟩
  refine⟨ρ1,σd,hd1,rs1,(bQ.bind (R:=rO) p1).imp fun o1 H2 ⟨ρ2,o1',hd2,e2,rs2,q2,p2⟩ => ?_⟩
  cases q2
  refine⟨ρ2,σd,hd2,rs2,(bQ.bind (R:=rO) p2).imp fun o2 H3 ⟨ρ3,o2',hd3,e3,rs3,q3,p3⟩ => ?_⟩
  cases q3
  have rv3:=(rv.mono (rs1.hp.kp e2)).mono (rs2.hp.kp e3)
  have list:∀ l,fg hd3 d=some l→bQ X.K (rD X.K) ρ3 H3 σd σ (.ok (.ref hd3.length) (hd3++[.lst (cut l o1 o2)])) Q→Ht X.K v o1 o2 H3 Q:=fun l c p=>by
    obtain⟨q,vs,hv,sq,rvs⟩:=lC rs3.hp rv3 c
    refine⟨q,vs,hv,sq,fun q' hq => ?_⟩
    have sm:=cj (o:=HO.lst (oW vs o1 o2)) hq
    have nq:=rs3.hp.free hq
    have rh:=(rs3.hp.same sm).alloc aT nq ((xF rvs).mono (Kp.same sm))
    have ex:Ext ρ3 H3 (ρ3++[q']) (upd H3 q' (.lst (oW vs o1 o2))):=Ext.alloc hq
    refine p.at ex (rs3.ext ex rh) ?_
    simp only [rD,RD]
    exact⟨q',by rw [← rs3.hp.len];simp,rfl⟩
  cases d with
  | tup l =>
    simp only at p3
    split at p3
    · exact p3.elim
    · rename_i hw
      simp only [RD] at rv3
      obtain⟨q,vs,rfl,hq,rvs⟩:=rv3
      have e:∀ (n d:Nat) (o:Option Int),Fm.sIx n d o=HT.sIx n d o:=fun n d o=>by cases o<;>rfl
      refine .inr ⟨q,vs,rfl,SqT.of hq,by rw [← rvs.length,← e,← e];exact hw,fun q' hq' => ?_⟩
      have sm:=cj (o:=HO.tup (oW vs o1 o2)) hq'
      exact p3.at (Ext.same sm) (rs3.same sm) (by simp only [rD,RD];exact⟨q',_,rfl,aT,(xF rvs).mono (Kp.same sm)⟩)
  | ref n =>
    simp only at p3
    cases c:fg hd3 (.ref n) with
    | none=>rw [c] at p3;exact p3.elim
    | some l=>rw [c] at p3;exact .inl (list l c p3)
  | lit l' =>
    simp only at p3
    cases c:fg hd3 (.lit l') with
    | none=>rw [c] at p3;exact p3.elim
    | some l=>rw [c] at p3;exact .inl (list l c p3)
  | _=>exact p3.elim
theorem kK {o e:Expr} {fo fe:EF} {apos cpos:Pos} (ho:ME X o fo) (he:ME X e fe) (hbase:attributeBase o "append" X.env (eval o X.env)=eval o X.env:=by rfl)
    (hfew:((backTo cpos (starEach [e] X.env)).all (fun x => !x.1) && (backToKw cpos (keywordEach [] X.env)).all (fun x=>x.1.isSome)
      && decide (([e] : List Expr).length + ([] : List Keyword).length + (if ([] : List Keyword).isEmpty then 0 else 1) < 30))=true:=by rfl)
    (hline:(apos.endLine == cpos.line)=true:=by rfl) (hs:starEach [e] X.env=(false,eval e X.env) :: starEach [] X.env:=by rfl) :
    ME X (.Call (.Attribute o "append" apos) [e] [] cpos) (kr fo fe):=by
  refine PE.imp (EE PySem.F.plainAttrs_list PySem.F.slot_list_append PySem.F.type_list_append rn ho (cu he eu hs) hbase hfew hline hs) fun σ H Q ⟨ρ,σd,hd,rs,pp⟩=>⟨ρ,σd,hd,rs,?_⟩
  unfold kr at pp
  refine (bQ.bind (R:=rD X.K) pp).imp fun v H1 ⟨ρ1,d,hd1,e1,rs1,rv,p1⟩ => ?_
  cases d<;>try exact p1.elim
  rename_i n
  simp only [rD,RD] at rv
  obtain⟨a,ha,rfl⟩:=rv
  simp only at p1
  cases c1:hd1[n]? with
  | none=>rw [c1] at p1;exact p1.elim
  | some cell1 =>
    rw [c1] at p1
    cases cell1 with
    | dct l=>exact p1.elim
    | lst l1 =>
      obtain⟨vs,hv,_⟩:=rs1.hp.cel n _ a c1 ha
      simp only at p1
      refine⟨.inl ⟨rfl,vs,SqL.of hv⟩,ρ1,σd,hd1,rs1,(bQ.bind (R:=rD X.K) p1).imp fun w H2 ⟨ρ2,k,hd2,e2,rs2,rw',p2⟩ => ?_⟩
      simp only [FH] at p2
      cases c:hd2[n]? with
      | none=>rw [c] at p2;exact p2.elim
      | some cell =>
        rw [c] at p2
        cases cell with
        | dct l=>exact p2.elim
        | lst l =>
          simp only at p2
          split at p2
          · rename_i hz
            have ha2:=e2.get ha
            obtain⟨vs2,hv2,rvs2⟩:=rs2.hp.cel n _ a c ha2
            refine⟨a,vs2,w,rfl,rfl,hv2,?_,?_⟩
            · rw [← rvs2.length];exact Nat.lt_of_lt_of_le hz (by rw [sizeLine_eq];decide)
            · have hn:n < hd2.length:=(List.getElem?_eq_some_iff.mp c).1
              have rh:=rs2.hp.write ha2 hn (RDs.append rvs2 (RDs.cons rw' RDs.nil))
              have ex:Ext ρ2 H2 ρ2 (upd H2 a (.lst (vs2++[w]))):=Ext.write (ZK ha2)
              exact p2.at ex (rs2.ext ex rh) (by simp only [rD,RD])
          · exact p2.elim
end
end Fm
namespace Fm
open PySem PySem.Spec L2
open AutoSeq1 (wpAny_loadPart')
open PyProof.Rows (Call_)
theorem uv {a b:String}(h:Value.type a=Value.type b)(n:a≠b):False:=by injection h with h;exact n h
theorem jF (l:Addr)(items:Array Value)(n:Nat)(dct:Option Addr)(sl:Array (Option Value)) :
    Meets (Builtin.«enumerate.__new__» ⟨[.type "enumerate",.ref l],[]⟩) (fun _ R s=>s.heap.get? l=some { cls:=.type "tuple",dict:=dct,data:=.seq items n,slots:=sl } ∧
      R (.ok (.ret (.ref (s.heap.push { cls:=.type "tuple_iterator",data:=.fields #[.ref l,.int 0 0] }).objs.size)))
        { s with heap:=(s.heap.push { cls:=.type "tuple_iterator",data:=.fields #[.ref l,.int 0 0] }).push { cls:=.type "enumerate",data:=.fields #[.none,.bool false,.ref s.heap.objs.size,rawInt 0,.none,.none] } }) :=
  .of_wp fun prog w A R s h=>by
    obtain⟨hp,g,d,tk,os⟩:=s;obtain⟨hl,h⟩:=h
    have hsub:=sub_enumerate
    have hL:Heap.IsTuple (Shared.heap ⟨hp,g,d,tk,os⟩) l items:=⟨_,hl,rfl,n,rfl⟩
    wp_walk using wpAny_loadPart' hl
    refine wpAny_stack_any fun st=>wpAny_pure ?_
    split
    · rename_i c _ _ _ _ _
      cases (c == Value.type "enumerate")
      · wp_walk using wpAny_loadPart' hl,wpAny_pyIter_tuple hL
        exact⟨_,rfl,h⟩
      · wp_walk using wpAny_loadPart' hl,wpAny_pyIter_tuple hL
        exact⟨_,rfl,h⟩
    · wp_walk using wpAny_loadPart' hl,wpAny_pyIter_tuple hL
      exact⟨_,rfl,h⟩
section
variable {prog:Program} {w:World} {A:Around} {E:Value→Shared→Prop} {s:Shared}
theorem jG {l:Addr}{items:Array Value}{Q:Value→Shared→Prop}(hL:s.heap.IsTuple l items)
    (h:∀ h',IsEnum h' (s.heap.objs.size + 1) s.heap.objs.size 0 .none→h'.IsTupleIter s.heap.objs.size l 0→h'.objs.size=s.heap.objs.size + 2 →
      (∀ b o,s.heap.get? b=some o→h'.get? b=some o)→Q (.ref (s.heap.objs.size + 1)) { s with heap:=h' }) :
    wpAny (model prog w) A (call (.type "enumerate") [.ref l]) Q E s:=by
  obtain⟨⟨c,dct,dt,sl⟩,hl,hc,n,hd⟩:=hL
  replace hc:c=.type "tuple" := hc
  replace hd:dt=.seq items n:=hd
  subst hc hd
  refine callType_new F.called_enumerate (by decide) (F.typeCall_enumerate_1 _) (F.newCall_enumerate_1 _) (fun obj=>F.args_object_init_2 obj _) F.entry_enumerate_new
    (jF l items n dct sl) ⟨hl,?_⟩
  have hz:(s.heap.push { cls:=.type "tuple_iterator",data:=.fields #[.ref l,.int 0 0] }).objs.size=s.heap.objs.size + 1:=Heap.size_push ..
  show _∧_
  rw [hz]
  have he:IsEnum ((s.heap.push { cls:=.type "tuple_iterator",data:=.fields #[.ref l,.int 0 0] }).push
      { cls:=.type "enumerate",data:=.fields #[.none,.bool false,.ref s.heap.objs.size,rawInt 0,.none,.none] }) (s.heap.objs.size + 1) s.heap.objs.size 0 .none:=by
    have:=ZJ (s.heap.push { cls:=.type "tuple_iterator",data:=.fields #[.ref l,.int 0 0] })
      (o:={ cls:=.type "enumerate",data:=.fields #[.none,.bool false,.ref s.heap.objs.size,rawInt 0,.none,.none] }) rfl
    rw [hz] at this;exact this
  refine⟨⟨_,he,rfl⟩,h _ he ⟨_,ZH _ (ZJ _ rfl),rfl,rfl⟩ (by rw [Heap.size_push,hz]) fun b o x=>ZH _ (ZH _ x)⟩
theorem dQ {it l:Addr}{i:Nat}{items:Array Value}{x:Value}{Q:Value→Shared→Prop}(hit:s.heap.IsTupleIter it l i)
    (hl:s.heap.IsTuple l items) (hx:items[i]? = some x)
    (hQ:∀ h',h'.IsTupleIter it l (i + 1)→Heap.SameBut it s.heap h'→Q x { s with heap:=h' }) :
    wpAny (model prog w) A (Builtin.SmallTypes.nextOf (.ref it)) Q E s:=by
  obtain⟨o,ho,hc,hd⟩:=id hit
  obtain⟨ol,hol,_,nl,hdl⟩:=hl
  unfold Builtin.SmallTypes.nextOf
  refine wpAny_bind (wpAny_callSpecial?_slot (name:=Str.ofString "__next__") hit.typeIs F.slot_tuple_iterator_next
    (wpAny_call_entry F.slot_tuple_iterator_next hit.typeIs F.entry_tuple_iterator_next ?_ (F.args_tuple_iterator_next_1 _)))
  show wpAny _ _ (field (.ref it) 0 >>= _) _ _ s
  refine wpAny_bind (wpAny_field ho hd (x:=.ref l) rfl ?_)
  show wpAny _ _ (if (Value.ref l == Value.none)=true then _ else _) _ _ s
  rw [if_neg (show ¬ ((Value.ref l == Value.none)=true) from Bool.false_ne_true)]
  show wpAny _ _ (field (.ref it) 1 >>= _) _ _ s
  refine wpAny_bind (wpAny_field ho hd (x:=.int i 0) rfl ?_)
  show wpAny _ _ (seqItems? (.ref l) >>= _) _ _ s
  refine wpAny_bind (wpAny_seqItems hol hdl ?_)
  simp only [Int.toNat_natCast,hx]
  refine wpAny_bind (wpAny_setField ho hd (by simp) (wpAny_pure ⟨x,rfl,wpAny_pure (hQ _ ?_ (Heap.SameBut.update ..))⟩))
  exact⟨_,Heap.get?_update_self _ ho (Obj.isFreed_of_fields (Obj.data_mapFields hd _)),(Obj.cls_mapFields ..).trans hc,by
    rw [Obj.data_mapFields hd];simp [rawInt]⟩
theorem fy {it l:Addr}{i:Nat}{items:Array Value}{Q:Value→Shared→Prop}(hh:A.handled=none)
    (hit:s.heap.IsTupleIter it l i) (hl:s.heap.IsTuple l items) (hx:items[i]? = none)
    (hE:∀ h' e,Heap.ExtBut it s.heap h'→(∃ o,h'.get? e=some o∧o.cls=.type "StopIteration")→E (.ref e) { s with heap:=h' }) :
    wpAny (model prog w) A (Builtin.SmallTypes.nextOf (.ref it)) Q E s:=by
  obtain⟨o,ho,hc,hd⟩:=id hit
  obtain⟨ol,hol,_,nl,hdl⟩:=hl
  unfold Builtin.SmallTypes.nextOf
  refine wpAny_bind (wpAny_callSpecial?_slot (name:=Str.ofString "__next__") hit.typeIs F.slot_tuple_iterator_next
    (wpAny_call_entry F.slot_tuple_iterator_next hit.typeIs F.entry_tuple_iterator_next ?_ (F.args_tuple_iterator_next_1 _)))
  show wpAny _ _ (field (.ref it) 0 >>= _) _ _ s
  refine wpAny_bind (wpAny_field ho hd (x:=.ref l) rfl ?_)
  show wpAny _ _ (if (Value.ref l == Value.none)=true then _ else _) _ _ s
  rw [if_neg (show ¬ ((Value.ref l == Value.none)=true) from Bool.false_ne_true)]
  show wpAny _ _ (field (.ref it) 1 >>= _) _ _ s
  refine wpAny_bind (wpAny_field ho hd (x:=.int i 0) rfl ?_)
  show wpAny _ _ (seqItems? (.ref l) >>= _) _ _ s
  refine wpAny_bind (wpAny_seqItems hol hdl ?_)
  simp only [Int.toNat_natCast,hx]
  refine wpAny_bind (wpAny_rule (wpAny_bind (wpAny_setField ho hd (by simp) ?_)))
  show wpAny _ _ (newExc (.type "StopIteration") [] >>= _) _ _ _
  refine wpAny_bind ?_
  simp only [newExc,newTuple]
  refine wpAny_bind (wpAny_newObj_type ?_ (by size_fits))
  refine wpAny_bind (m:=firstArgMember _ _) (wpAny_of_eq (a:=Value.none) (by first|rfl|(simp only [firstArgMember];rfl)) ?_)
  refine wpAny_newObj_type ?_ (by size_fits)
  simp only [raiseNew]
  refine wpAny_bind (wpAny_handled ?_)
  first|rw [show A.in1.handled=none from hh] | rw [hh]
  refine wpAny_bind (wpAny_pure (wpAny_throw ?_))
  exact hE _ _ (((Heap.SameBut.update ..).extBut.push _).push _) ⟨_,ZJ _ rfl,rfl⟩
end
theorem nM {prog:Program}{w:World}{A:Around}(hh:A.handled=none)(it l:Addr)(hne:l≠it)(items:Array Value) :
    Draws prog w A it [it,l] items.size (fun i v=>items[i]? = some v) (fun i h=>h.IsTupleIter it l i∧h.IsTuple l items) where
  live:=fun _ _ st=>let ⟨o,ho,_⟩:=st.1;⟨o,ho⟩
  frame:=fun _ _ _ st hk=>⟨st.1.at fun o e=>hk it (by simp) o e,let ⟨o,ho,r⟩:=st.2;⟨o,hk l (by simp) o ho,r⟩⟩
  item:=fun i s Q E hi st hQ=>by
    have hx:items[i]? = some items[i]:=by simp [hi]
    refine dQ st.1 st.2 hx fun h' hit' hs' => ?_
    refine hQ _ h' s.toks hx ⟨hit',?_⟩ hs'
    obtain⟨o,ho,r⟩:=st.2
    exact⟨o,(hs'.2 l hne).trans ho,r⟩
  done:=fun s Q E st hE=>fy hh st.1 st.2 (by simp) hE
def Ite (K:ZX) (a:Addr):It :=
  ⟨fun i H=>∃ xs x,SqT K H a xs∧xs[i]? = some x,fun i H x H'=>∃ q v,x=.ref q∧H q=none∧H'=upd H q (.tup [.int (i:Nat),v]) ∧ ∀ xs,SqT K H a xs→xs[i]? = some v,fun i H=>∃ xs,SqT K H a xs∧xs.length=i⟩
theorem yN {P:Program}{w:World}{K:ZX}{elts:List Expr}{k:Nat}{pos:Pos}(e it a:Addr):ue P w K (.Tuple elts k pos) (Ite K a) [e,it] e (fun i h=>(∃ old,IsEnum h e it (i:Nat) old)∧h.IsTupleIter it a i) where
  mem:=by simp
  obj:=fun i h st b hb=>by
    obtain⟨⟨old,he⟩,o,ho,hc,hd⟩:=st
    rcases List.mem_cons.mp hb with rfl|hb
    · exact⟨_,he,fun v z=>by
        have z':Data.fields _=Data.cell v:=z
        cases z'⟩
    · have:b=it:=by simpa using hb
      subst this
      exact⟨o,ho,fun v z=>by rw [hd] at z;cases z⟩
  keep:=fun i h h' st kk=>by
    obtain⟨⟨old,he⟩,st⟩:=st
    exact⟨⟨old,kk e (by simp) _ he⟩,st.at fun o x=>kk it (by simp) o x⟩
  item:=by
    intro X hP hw hK hc i pins s σ H E I hf st hg
    subst hP hw hK
    obtain⟨⟨old,he⟩,hit⟩:=st
    obtain⟨xs,x,hq,hx⟩:=hg
    obtain⟨its,rv,p,hz⟩:=I.tuple hq
    have ht:s.heap.IsTuple a its.toArray:=p
    obtain⟨oi,hoi,hci,hdi⟩:=id hit
    obtain⟨oa,hoa,hca,na,hda⟩:=id ht
    have hei:e≠it:=fun z=>by
      subst z
      have he':s.heap.get? e=_:=he
      rw [hoi] at he';cases he';exact uv hci (by decide)
    have hea:e≠a:=fun z=>by
      subst z
      have he':s.heap.get? e=_:=he
      rw [hoa] at he';cases he';exact uv hca (by decide)
    have hai:a≠it:=fun z=>by
      subst z
      rw [hoi] at hoa;cases hoa;rw [hci] at hca;exact uv hca (by decide)
    obtain⟨e0,e1,e2,e3,e4,e5⟩:=hf e (by simp)
    obtain⟨f0,f1,f2,f3,f4,f5⟩:=hf it (by simp)
    have hlt:i < its.toArray.size:=by
      have:=(List.getElem?_eq_some_iff.mp hx).1
      have hl:=rv.length
      simp;omega
    refine wpAny_pyNext_enum_itemD (nM (prog:=X.prog) (w:=X.w) (A:=X.A.in1) (I.ok.hd hc) it a hai its.toArray) he ⟨hit,ht⟩ hlt hei (by simp;exact⟨hei,hea⟩) fun y h' tk hy heo hst' htup hsz hk => ?_
    refine⟨_,rfl,wpAny_letOwnedTupleGo_enum heo fun h2 he2 hs2 => ?_⟩
    replace hs2:Heap.SameBut e h' h2:=hs2
    obtain⟨u,hu,ru⟩:=rv.get hx
    have hyu:y=u:=by
      have:its.toArray[i]? = some u:=by simpa using hu
      rw [hy] at this;exact ZT this
    subst hyu
    have elt:e < s.heap.objs.size:=ZI he
    have ilt:it < s.heap.objs.size:=ZI hoi
    have hN:H s.heap.objs.size=none:=I.hok.fresh (ZL _)
    have keep:∀ b o,b≠e→b≠it→s.heap.get? b=some o→h2.get? b=some o:=fun b o b1 b2 q=>(hs2.2 b b1).trans (hk b o b1 b2 q)
    have htup2:h2.get? s.heap.objs.size=some { cls:=.type "tuple",data:=.seq #[.int i tk,y] }:=(hs2.2 _ (Nat.ne_of_gt elt)).trans htup
    have nch:∀ b,b∉([e,it] : List Addr)→b≠e∧b≠it:=fun b hb=>by simpa using hb
    refine⟨.ref s.heap.objs.size,upd H s.heap.objs.size (.tup [.int (i:Nat),x]),?_,rfl,⟨_,x,rfl,hN,rfl,fun ys hys=>by rw [I.tuple_inj hys hq];exact hx⟩,⟨⟨_,by simpa using he2⟩,hst'.1.extBut hs2.extBut (Ne.symm hei)⟩,fun b hb => ?_⟩
    · suffices I2:L2.Inv X pins σ (upd H s.heap.objs.size (.tup [.int (i:Nat),x])) { s with heap:=h2,gens:=s.gens,drawn:=s.drawn,toks:=tk + 1 } from I2
      refine I.step (g':=s.gens) (d':=s.drawn) (t':=tk + 1) (ch:=[e,it]) (fun b hb => ?_) (fun b o _ _ hb q _=>keep b o (nch b hb).1 (nch b hb).2 q) (fun b o _ _ hb q _=>⟨o.slots,keep b o (nch b hb).1 (nch b hb).2 q⟩) (fun b o _ q n => ?_) (fun b o hb q=>⟨o,keep b o (nch b hb).1 (nch b hb).2 q⟩)
        (fun b ys q => ?_) (fun b o u q => ?_) (fun b ps q=>⟨#[],?_⟩) (fun m hm => ?_) (fun b u q => ?_) I.bare
      · rcases List.mem_cons.mp hb with rfl|hb
        · exact⟨e3,e1,e4,e5⟩
        · have:b=it:=by simpa using hb
          subst this
          exact⟨f3,f1,f4,f5⟩
      · rw [ay (ZN (ZI q))];exact n
      · rw [ay (aU q hN)];exact q
      · rw [ay (aU q hN)];exact q
      · rw [ay (aU q hN),q];simp
      · obtain⟨o,es,ep,ho,r⟩:=hm
        exact⟨o,es,ep,keep _ o (Ne.symm e1) (Ne.symm f1) ho,r⟩
      · by_cases hb:b=s.heap.objs.size
        · subst hb
          rw [aT] at q
          cases q
          exact⟨by show 2≤sizeLine;rw [sizeLine_eq];decide,[.int i tk,y],.cons ⟨tk,rfl⟩ (.cons ru .nil),_,htup2,rfl,_,rfl⟩
        · rw [ay hb] at q
          have ne1:∀ c v,H c=some v→c≠e:=fun c v z w=>by rw [w,e0] at z;cases z
          have ne2:∀ c v,H c=some v→c≠it:=fun c v z w=>by rw [w,f0] at z;cases z
          refine (I.hok b u q).stay (fun c v hc' z => ?_) (fun c z=>by rw [ay (aU z hN)];exact z) fun c ys z=>by rw [ay (aU z hN)];exact z
          rcases hc' with w|w
          · subst w;exact keep c v (ne1 c _ q) (ne2 c _ q) z
          · exact keep c v (ne1 c _ w) (ne2 c _ w) z
    · have:b≠s.heap.objs.size:=by
        rcases List.mem_cons.mp hb with rfl|hb
        · exact ZN elt
        · have:b=it:=by simpa using hb
          subst this
          exact ZN ilt
      rw [ay this]
      exact (hf b hb).1
  done:=by
    intro X hP hw hK hc i pins s σ H E I hf st hg
    subst hP hw hK
    obtain⟨⟨old,he⟩,hit⟩:=st
    obtain⟨xs,hq,hx⟩:=hg
    obtain⟨its,rv,p,hz⟩:=I.tuple hq
    have ht:s.heap.IsTuple a its.toArray:=p
    obtain⟨oi,hoi,hci,hdi⟩:=id hit
    obtain⟨oa,hoa,hca,na,hda⟩:=id ht
    have hai:a≠it:=fun z=>by
      subst z
      rw [hoi] at hoa;cases hoa;rw [hci] at hca;exact uv hca (by decide)
    obtain⟨f0,f1,f2,f3,f4,f5⟩:=hf it (by simp)
    have hsz:its.toArray.size=i:=by have:=rv.length;simp;omega
    refine wpAny_pyNext_enum_endD (nM (prog:=X.prog) (w:=X.w) (A:=X.A.in1) (I.ok.hd hc) it a hai its.toArray) he ⟨by rw [hsz];exact hit,ht⟩ fun h' hx'=>⟨rfl,I.turned (t':=s.toks) (fun b o hb e=>hx' b o hb e) f0 f1 f3 f4 f5⟩
  self:=fun _ _ _ _ _ st h=>by
    obtain⟨⟨old,he⟩,_⟩:=st
    exact wpAny_pyIter_enum he h
section
variable {X:Cx} {pos p tp:Pos} {elts:List Expr} {tk:Nat}
def iEn (K:ZX) (ta:TE):TI:=fun σ H R=>ta σ H fun x H1=>∃ a xs,x=.ref a∧SqT K H1 a xs∧(xs.length≤sizeLine→R (Ite K a) H1)
theorem Dx {a:Expr} {ta:TE} (hg:Gl X "enumerate") (hm:X.mg "enumerate" = none) (ha:PE X a ta) (hs:starEach [a] X.env=[(false,eval a X.env)]:=by rfl):PI X (.Tuple elts tk tp) (.Call (.Name "enumerate" p) [a] [] pos) (iEn X.K ta):=by
  intro pins s σ H R I h
  have hpa:=cu ha eu hs
  refine Call_ (jx I hg hm PyProof.Rows.boot_enumerate (PyProof.Rows.callWith_type1 (thn (hpa pos pins s σ H (fun vs H1=>∃ a xs,vs=[.ref a]∧SqT X.K H1 a xs∧(xs.length≤sizeLine→R (Ite X.K a) H1)) I ?_) fun us s1 ⟨vs,H1,I1,r1,q1⟩ => ?_) hs rfl))
  · show ta σ H fun x H1=>_
    have key:∀ (x:V) (H1:Hp),(∃ a xs,x=.ref a∧SqT X.K H1 a xs∧(xs.length≤sizeLine→R (Ite X.K a) H1))=(∃ a xs,[x] = [.ref a]∧SqT X.K H1 a xs∧(xs.length≤sizeLine→R (Ite X.K a) H1)):=fun x H1=>by simp
    have h':ta σ H fun x H1=>∃ a xs,x=.ref a∧SqT X.K H1 a xs∧(xs.length≤sizeLine→R (Ite X.K a) H1):=h
    simp only [key] at h'
    exact h'
  · obtain⟨a,xs,e,hq,q⟩:=q1
    subst e
    obtain⟨u,rfl,ru⟩:=aS.one r1
    cases (show u=Value.ref a from ru)
    obtain⟨its,rv,pt,hz⟩:=I1.tuple hq
    refine jG (show s1.heap.IsTuple a its.toArray from pt) fun h' he hit hsz hk => ?_
    refine wpAny_pyIter_enum (s:={ s1 with heap:=h' }) he ?_
    have I2:Inv X pins σ H1 { s1 with heap:=h' }:=I1.kept (t':=s1.toks) hk
    refine⟨s1.heap.objs.size + 1,[s1.heap.objs.size + 1,s1.heap.objs.size],_,_,H1,rfl,I2,yN (s1.heap.objs.size + 1) s1.heap.objs.size a,⟨⟨_,by simpa using he⟩,hit⟩,fun b hb => ?_,q hz⟩
    have hb':s1.heap.objs.size≤b:=by
      rcases List.mem_cons.mp hb with e|hb
      · rw [e];exact Nat.le_succ _
      · have:b=s1.heap.objs.size:=by simpa using hb
        rw [this];exact ZL _
    exact I1.fpOk hb' (I1.hok.fresh hb')
theorem yO {K:ZX}{ρ:List Addr}{H:Hp}{hd:Hd}{q:Addr}{l:List D}{vs:List V}(r:RH K ρ H hd)(hq:H q=some (.tup vs))(rv:RDs K ρ H l vs)(hz:vs.length≤sizeLine) :
    pf K ρ H (Ite K q) ((List.range l.length).zip l |>.map fun p=>.tup [.int (p.1:Nat),p.2]) none where
  go:=fun ρ' H' hd' i d ex rh _ hi=>by
    have k:=r.kp ex
    obtain⟨hil,hi2⟩:=List.getElem?_eq_some_iff.mp hi
    have hl:i < l.length:=by simpa using hil
    have hd:d=.tup [.int (i:Nat),l[i]]:=by rw [← hi2];simp
    subst hd
    obtain⟨v,hv,rd⟩:=(rv.mono k).get (i:=i) (d:=l[i]) (by simp [hl])
    have sq:SqT K H' q vs:=SqT.of (k.tup q vs hq)
    refine⟨⟨vs,v,sq,hv⟩,fun x H2 y => ?_⟩
    obtain⟨q2,v2,rfl,hn,rfl,y⟩:=y
    have:=y vs sq
    rw [hv] at this
    cases this
    have sm:=cj (o:=HO.tup [.int (i:Nat),v]) hn
    refine⟨sm,?_⟩
    simp only [RD]
    exact⟨q2,_,rfl,aT,RDs.cons (by simp only [RD]) (RDs.cons (rd.mono (Kp.same sm)) RDs.nil)⟩
  stop:=fun ρ' H' hd' ex rh _=>⟨vs,SqT.of ((r.kp ex).tup q vs hq),by rw [← rv.length];simp⟩
  sz:=by
    have:=rv.length
    simp;omega
theorem Dy {a:Expr} {f:EF} (hg:Gl X "enumerate") (hm:X.mg "enumerate" = none) (ha:ME X a f) (hs:starEach [a] X.env=[(false,eval a X.env)]:=by rfl):MI X (.Tuple elts tk tp) (.Call (.Name "enumerate" p) [a] [] pos) (AC f):=by
  refine PI.imp (Dx hg hm ha hs) fun σ H R ⟨ρ,σd,hd,rs,pp⟩=>⟨ρ,σd,hd,rs,?_⟩
  unfold AC at pp
  cases e:f σd hd with
  | exc x h1=>rw [e] at pp;exact pp
  | bad=>rw [e] at pp;exact pp
  | ok d hd1 =>
    rw [e] at pp
    simp only [aG] at pp
    intro v H1 ρ1 ex1 rs1 rv
    cases d<;>try exact pp.elim
    rename_i l
    simp only [rD,RD] at rv
    obtain⟨q,vs,rfl,hq,rvs⟩:=rv
    exact⟨q,vs,rfl,SqT.of hq,fun hz=>pp _ H1 ρ1 ex1 rs1 (yO rs1.hp hq rvs hz)⟩
end
end Fm
namespace Fm
open PySem PySem.Spec L2 PySem.W PyProof.Rows
section
variable {prog:Program} {w:World} {A:Around} {E:Value→Shared→Prop} {s:Shared}
theorem v7 {a:Addr} {vs:List Value} {n:Nat} {P:PySem.Fin→Shared→Prop} (ho:s.heap.get? a=some (seqObj "list" vs.toArray n)) (h2:vs.length < 2)
    (h:P (.done (.ret .none)) { s with heap:=sortedHeap s.heap a vs vs.toArray }):wpAny (model prog w) A (Builtin.«list.sort» ⟨[.ref a],[]⟩) P E s:=by
  rw [list_sort_plain]
  have ha:a < s.heap.objs.size:=ZI ho
  refine wpAny_bind (listItems_at ho rfl ?_)
  refine wpAny_bind (listUpdate_at ho rfl ?_)
  obtain⟨e1,ho1⟩ : ∃ e1,(s.heap.update a (Obj.mapSeq fun _ => #[])).get? a=some (seqObj "list" #[] e1):=⟨_,get?_update_seq ho (fun _ => #[])⟩
  refine wpAny_bind (seqEpoch_at ho1 rfl ?_)
  refine wpAny_bind (wpAny_newTuple ?_)
  refine wpAny_bind (wpAny_newList ?_)
  refine wpAny_holding ?_
  have ho6:(((s.heap.update a (Obj.mapSeq fun _ => #[])).push (seqObj "tuple" vs.toArray 0)).push (seqObj "list" #[] 0)).get? a=some (seqObj "list" #[] e1):=by
    rw [Heap.get?_push_ne _ _ _ (by rw [size_push',Heap.size_update];exact ZN (Nat.lt_succ_of_lt ha)),Heap.get?_push_ne _ _ _ (by rw [Heap.size_update];exact ZN ha)]
    exact ho1
  show wpAny (model prog w) A _ P E { s with heap:=((s.heap.update a (Obj.mapSeq fun _ => #[])).push (seqObj "tuple" vs.toArray 0)).push (seqObj "list" #[] 0) }
  dsimp only
  have hsz:vs.toArray.size=vs.length:=by simp
  have h2':vs.toArray.size < 2:=by rw [hsz];exact h2
  rw [if_pos h2',if_pos h2']
  refine wpAny_bind (wpAny_pure ?_)
  rw [StateT.run_pure]
  refine wpAny_bind (wpAny_pure ?_)
  dsimp only
  refine wpAny_bind (seqEpoch_at ho6 rfl ?_)
  refine wpAny_bind (listUpdate_at ho6 rfl ?_ (hsz2:=by rw [Array.size_map];show (pairsOf vs).size≤_;rw [pairsOf_size,sizeLine_eq];omega))
  simp only [bne_self_eq_false,Bool.false_eq_true,if_false]
  have e:(arrOf (SortSt.mk' general' (vs.toArray.zip vs.toArray) #[] 7 none)).map (·.2)=vs.toArray:=by
    show (vs.toArray.zip vs.toArray).map (·.2)=vs.toArray
    apply Array.ext
    · simp
    · intro i h1 h2
      simp
  refine wpAny_pure ?_
  have h':=h
  unfold sortedHeap at h'
  rw [e]
  exact h'
theorem FU {Q:Bool→Shared→Prop}:∀ (ns ms:List Int) {xs ys:List Value} (i:Nat),IntsAre xs ns→IntsAre ys ms→Q (Fm.lexLt ns ms) s→KatLex prog w A true (decide (xs.length < ys.length)) Q (xs.zip ys) i s:=by
  intro ns
  induction ns with
  | nil =>
    intro ms xs ys i hx hy h
    cases hx
    cases ms with
    | nil=>cases hy;exact h
    | cons m ms =>
      cases hy
      have h':Q true s:=h
      exact h'
  | cons n ns ih =>
    intro ms xs ys i hx hy h
    cases hx with
    | cons _ t r =>
      cases ms with
      | nil =>
        cases hy
        have h':Q false s:=h
        exact h'
      | cons m ms =>
        cases hy with
        | cons _ t' r' =>
          rename_i xs ys
          refine kat_cons (SeqAt.EqAt.int_int n t m t' prog w _ _ ?_)
          by_cases e:n=m
          · subst e
            rw [show (n == n)=true by simp]
            refine kat_yes ?_
            have h':Q (Fm.lexLt ns ms) s:=by simpa [Fm.lexLt] using h
            have:=ih ms (i + 1) r r' h'
            have e2:decide ((Value.int n t :: xs).length < (Value.int n t' :: ys).length)=decide (xs.length < ys.length):=by simp
            rw [e2]
            exact this
          · rw [show (n == m)=false by simpa using e]
            refine kat_no ?_
            have h':Q (decide (n < m)) s:=by simpa [Fm.lexLt,e] using h
            cases i with
            | zero=>exact oneLt_int h'
            | succ i =>
              have:(true && (i + 1 == 0))=false:=by simp
              rw [this]
              exact kat_one _ _ (lt_int (by first|exact⟨_,rfl,h'⟩|exact h'))
end
theorem FV {h:Heap}{a:Addr}{m m':Str→Option Value}(x:h.Ns a m)(y:h.Ns a m'):m=m':=by
  obtain⟨o,es,ep,ho,hd,_,r⟩:=x
  obtain⟨o',es',ep',ho',hd',_,r'⟩:=y
  rw [ho] at ho';cases ho'
  rw [hd] at hd';cases hd'
  funext z
  rw [← r z,← r' z]
inductive cD (H:Hp):List V→List (List Int)→Prop
  | nil:cD H [] []
  | cons {a:Addr} {r:List Int} {vs:List V} {rs:List (List Int)}:H a=some (.tup (r.map V.int))→cD H vs rs→cD H (.ref a :: vs) (r :: rs)
theorem cD.get {H:Hp}:∀ {vs:List V} {rs:List (List Int)} {i:Nat} {v:V},cD H vs rs→vs[i]? = some v → ∃ a,v=.ref a∧H a=some (.tup ((rs.getD i []).map V.int))
  | _,_,_,_,.nil,e=>by simp at e
  | _,_,0,_,.cons h t,e=>by simp at e;subst e;exact⟨_,rfl,h⟩
  | _,_,i + 1,v,.cons h t,e=>by
    obtain⟨a,h1,h2⟩:=cD.get (i:=i) (v:=v) t (by simpa using e)
    exact⟨a,h1,by simpa using h2⟩
theorem cD.length {H:Hp}:∀ {vs:List V} {rs:List (List Int)},cD H vs rs→vs.length=rs.length
  | _,_,.nil=>rfl
  | _,_,.cons _ t=>by simp [cD.length t]
section
variable {X:Cx} {pos p:Pos}
theorem sI {i:Int}{u:Value}(r:bP (.int i) u):∃ t,u=.int i t:=r
theorem lF {K:ZX}{ρ:List Addr}{H:Hp}:∀ {l:List D} {vs:List V} {rs:List (List Int)},RDs K ρ H l vs→kG l=some rs→cD H vs rs
  | [],_,_,r,e=>by simp only [kG] at e;cases e;simp only [RDs] at r;subst r;exact .nil
  | d :: l,_,rs,r,e=>by
    simp only [RDs] at r
    obtain⟨v,vs,rfl,h1,h2⟩:=r
    cases d<;>simp only [kG] at e<;>try (cases e;done)
    rename_i l1
    cases c1:en l1 with
    | none=>rw [c1] at e;cases e
    | some is =>
      cases c2:kG l with
      | none=>rw [c1,c2] at e;cases e
      | some r2 =>
        rw [c1,c2] at e
        cases e
        simp only [RD] at h1
        obtain⟨p,ws,rfl,hp,rws⟩:=h1
        have:=jD rws c1
        subst this
        exact .cons hp (lF h2 c2)
end
end Fm
namespace Fm
open PySem PySem.Spec L2
section
variable {X:Cx}
theorem mv (i:Nat) {x:Str} {pos:Pos} (hN:X.N[i]? = some x:=by rfl) (hv:Vis X.env.scope x:=by first|exact Or.inl rfl|exact Or.inr (Or.inl rfl)|exact Or.inr (Or.inr rfl)) (hd:(x == ("__debug__" : Str))=false:=by decide)
    (hcd:(x == ("__classdict__" : Str))=false:=by decide):ME X (.Name x pos) (aa i):=FI hN hv hd hcd
end
theorem cS {k:Nat}{A:Around}(r:gW k A):A.units + 24 < cLine:=by have:=r.un;omega
def fz (X:Cx):List (Str × NameKind)→Prop
  | []=>True
  | y :: r=>(y.2=.free→X.env.kindOf y.1=some .cell∨X.env.kindOf y.1=some .free)∧fz X r
def bG (X:Cx) (scope:Scope):List Str→List Nat→Prop
  | [],[]=>True
  | x :: xs,i :: is=>(X.N[i]? = some x∧scope.names.lookup x=some .free)∧bG X scope xs is
  | _,_=>False
theorem fz.get {X:Cx}:∀ {l:List (Str × NameKind)},fz X l → ∀ y∈l,y.2=.free→X.env.kindOf y.1=some .cell∨X.env.kindOf y.1=some .free
  | [],_,y,hy=>by simp at hy
  | z :: r,h,y,hy=>by
    rcases List.mem_cons.mp hy with rfl|hy
    · exact h.1
    · exact fz.get h.2 y hy
theorem bG.get {X:Cx}{scope:Scope}:∀ {capn:List Str} {caps:List Nat},bG X scope capn caps→(∀ (j:Nat) x,capn[j]? = some x → ∃ i,caps[j]? = some i∧X.N[i]? = some x∧scope.names.lookup x=some .free)∧capn.length=caps.length
  | [],[],_=>⟨fun j x e=>by simp at e,rfl⟩
  | x :: xs,i :: is,h=>by
    obtain⟨h1,h2⟩:=bG.get h.2
    refine⟨fun j y e => ?_,by simp [h2]⟩
    cases j with
    | zero=>simp at e;subst e;exact⟨i,rfl,h.1⟩
    | succ j=>exact h1 j y (by simpa using e)
  | [],_ :: _,h=>h.elim
  | _ :: _,[],h=>h.elim
theorem fz.nil {X:Cx}:fz X []:=trivial
theorem fz.cons {X:Cx}{y:Str × NameKind}{r:List (Str × NameKind)}(h:y.2=.free→X.env.kindOf y.1=some .cell∨X.env.kindOf y.1=some .free)(t:fz X r):fz X (y :: r):=⟨h,t⟩
theorem bG.nil {X:Cx}{scope:Scope}:bG X scope [] []:=trivial
theorem bG.cons {X:Cx}{scope:Scope}{x:Str}{xs:List Str}{i:Nat}{is:List Nat}(h1:X.N[i]? = some x)(h2:scope.names.lookup x=some .free)(t:bG X scope xs is):bG X scope (x :: xs) (i :: is):=⟨⟨h1,h2⟩,t⟩
theorem bM.mk' {X:Cx}{scope:Scope}{own capn:List Str}{caps:List Nat}(k:scope.kind=.function)(c:∀ y∈scope.names,y.2 ≠ .cell)(n:∀ y∈scope.names,y.2=.local→scope.names.lookup y.1=some .local)(f:fz X scope.names)(cp:bG X scope capn caps):bM X scope own capn caps :=
  ⟨k,c,n,f.get,cp.get.1,cp.get.2⟩
end Fm
namespace Fm
open PySem PySem.Spec L2
section
variable {K:ZX} {ρ:List Addr} {H:Hp}
end
section
variable {X:Cx} {pos:Pos}
theorem oz {i:Int}{j:Nat}{p2:Pos}:ME X (.UnaryOp .USub (.Constant (.int i) j p2) pos) (fC (.int (-i))) :=
  PE.imp (Hg Ft Ai) fun σ H Q ⟨ρ,σd,hd,rs,p⟩=>⟨i,rfl,p.here rs (by simp only [rD,RD])⟩
end
end Fm
namespace Fm
open PySem PySem.Spec L2 PySem.W PyProof.Rows
theorem FW {l r:Nat}(h:l < r):l≤(l + r) / 2∧(l + r) / 2 < r:=by omega
section
variable {cmp:Nat→Nat→(Bool→Shared→Prop)→Shared→Prop} {n:Nat} {s:Shared} {lt:Nat→Nat→Bool}
structure Ord (lt:Nat→Nat→Bool) (n:Nat):Prop where
  asy:∀ i j,i < n→j < n→lt i j=true→lt j i=false
  tr:∀ i j k,i < n→j < n→k < n→lt i j=true→lt j k=true→lt i k=true
  tot:∀ i j,i < n→j < n→i≠j→lt i j=false→lt j i=true
structure Gd (n:Nat) (p:Array Nat):Prop where
  sz:p.size=n
  pm:p.Perm (List.toArray (List.range n))
theorem Gd.below (g:Gd n p){i:Nat}(hi:i < n):p.getD i 0 < n:=by
  have h1:i < p.size:=by rw [g.sz];exact hi
  have e:p.getD i 0=p[i]:=by simp [Array.getD,h1]
  rw [e]
  have m:p[i]∈p.toList:=by simp
  have:=(Array.perm_iff_toList_perm.mp g.pm).mem_iff.mp m
  simpa using this
theorem Gd.ne (g:Gd n p){i j:Nat}(hi:i < n)(hj:j < n)(h:i≠j):p.getD i 0≠p.getD j 0:=by
  have h1:i < p.size:=by rw [g.sz];exact hi
  have h2:j < p.size:=by rw [g.sz];exact hj
  have e:p.getD i 0=p[i]:=by simp [Array.getD,h1]
  have e':p.getD j 0=p[j]:=by simp [Array.getD,h2]
  rw [e,e']
  have nd:p.toList.Nodup:=(Array.perm_iff_toList_perm.mp g.pm).nodup_iff.mpr (by simpa using List.nodup_range)
  intro z
  have:=(List.getElem_inj (xs:=p.toList) nd (i:=i) (j:=j) (h₀ := by simpa using h1) (h₁ := by simpa using h2)).mp (by simpa using z)
  exact h this
def Srt (lt:Nat→Nat→Bool) (p:Array Nat) (m:Nat):Prop:=∀ i j,i < j→j < m→lt (p.getD i 0) (p.getD j 0)=true
def Dsc (lt:Nat→Nat→Bool) (p:Array Nat) (m:Nat):Prop:=∀ i j,i < j→j < m→lt (p.getD j 0) (p.getD i 0)=true
theorem gB:Gd n (List.toArray (List.range n)):=⟨by simp,Array.Perm.refl _⟩
theorem Srt.next {p:Array Nat}{m:Nat}(O:Ord lt n)(g:Gd n p)(h:Srt lt p m)(h1:1≤m)(hm:m < n)(c:lt (p.getD (m - 1) 0) (p.getD m 0)=true):Srt lt p (m + 1):=by
  intro i j hij hj
  by_cases e:j < m
  · exact h i j hij e
  · have:j=m:=by omega
    subst this
    by_cases e2:i=j - 1
    · subst e2;exact c
    · exact O.tr _ _ _ (g.below (by omega)) (g.below (by omega)) (g.below hm) (h i (j - 1) (by omega) (by omega)) c
theorem Dsc.next {p:Array Nat}{m:Nat}(O:Ord lt n)(g:Gd n p)(h:Dsc lt p m)(h1:1≤m)(hm:m < n)(c:lt (p.getD m 0) (p.getD (m - 1) 0)=true):Dsc lt p (m + 1):=by
  intro i j hij hj
  by_cases e:j < m
  · exact h i j hij e
  · have:j=m:=by omega
    subst this
    by_cases e2:i=j - 1
    · subst e2;exact c
    · exact O.tr _ _ _ (g.below hm) (g.below (by omega)) (g.below (by omega)) c (h i (j - 1) (by omega) (by omega))
variable (O:Ord lt n) (hc:∀ i j,i < n→j < n → ∀ C:Bool→Shared→Prop,C (lt i j) s→cmp i j C s)
include O hc
theorem kL {p:Array Nat}(g:Gd n p){Q:Nat→Shared→Prop}(q:∀ m,1≤m→m≤n→Srt lt p m→(m < n→lt (p.getD m 0) (p.getD (m - 1) 0)=true)→Q m s) :
    ∀ (f m:Nat),1≤m→m + f=n→Srt lt p m→(kas_asc p f m).kasWp cmp Q s
  | 0,m,h1,e,h=>q m h1 (by omega) h fun z=>by omega
  | f + 1,m,h1,e,h=>by
    refine hc _ _ (g.below (by omega)) (g.below (by omega)) _ ?_
    cases c:lt (p.getD m 0) (p.getD (m - 1) 0) with
    | true=>((try dsimp only);(try rw [if_pos rfl]));exact q m h1 (by omega) h fun _=>c
    | false =>
      ((try dsimp only);(try rw [if_neg Bool.false_ne_true]))
      have c':=O.tot _ _ (g.below (by omega)) (g.below (by omega)) (g.ne (i:=m) (j:=m - 1) (by omega) (by omega) (by omega)) c
      exact kL g q f (m + 1) (by omega) (by omega) (h.next O g h1 (by omega) c')
theorem nN {p:Array Nat}(g:Gd n p){Q:Array Nat × Nat × Nat→Shared→Prop}(q:∀ m,1≤m→m≤n→Dsc lt p m→Q (p,m,0) s) :
    ∀ (f m:Nat),1≤m→m + f=n→Dsc lt p m→(kas_desc f p m 0).kasWp cmp Q s
  | 0,m,h1,e,h=>q m h1 (by omega) h
  | f + 1,m,h1,e,h=>by
    refine hc _ _ (g.below (by omega)) (g.below (by omega)) _ ?_
    cases c:lt (p.getD m 0) (p.getD (m - 1) 0) with
    | true =>
      ((try dsimp only);(try rw [if_pos rfl]));(try rw [if_neg (by omega)])
      exact nN g q f (m + 1) (by omega) (by omega) (h.next O g h1 (by omega) c)
    | false =>
      ((try dsimp only);(try rw [if_neg Bool.false_ne_true]))
      have c':=O.tot _ _ (g.below (by omega)) (g.below (by omega)) (g.ne (i:=m) (j:=m - 1) (by omega) (by omega) (by omega)) c
      refine hc _ _ (g.below (by omega)) (g.below (by omega)) _ ?_
      rw [c'];((try dsimp only);(try rw [if_pos rfl]))
      exact q m h1 (by omega) h
omit hc in
theorem FX {p:Array Nat}(g:Gd n p){m:Nat}(hm:m≤n)(h:Dsc lt p m):Gd n (kas_rev p 0 m)∧Srt lt (kas_rev p 0 m) m:=by
  have at':∀ k,k < m→(kas_rev p 0 m).getD k 0=p.getD (m - 1 - k) 0:=fun k hk=>by
    have e:=getElem?_mirror_all (xs:=p) (i:=0) (j:=m) (by rw [g.sz];exact hm) k
    rw [if_pos ⟨Nat.zero_le _,hk⟩] at e
    unfold kas_rev
    rw [Array.getD_eq_getD_getElem?,Array.getD_eq_getD_getElem?,e,Nat.zero_add]
  refine⟨⟨by unfold kas_rev;rw [mirror_size,g.sz],(mirror_perm _ _ _ _).trans g.pm⟩,fun i j hij hj => ?_⟩
  rw [at' i (by omega),at' j hj]
  exact h _ _ (by omega) (by omega)
theorem sJ (h2:2≤n){Q:Nat × Array Nat→Shared→Prop}(q:∀ m p,Gd n p→1≤m→m≤n→Srt lt p m→Q (m,p) s):(kas_count n (List.toArray (List.range n))).kasWp cmp Q s:=by
  unfold kas_count
  rw [KasT.kasWp_bind]
  refine kL O hc gB (fun m h1 hm hs hd => ?_) (n - 1) 1 (ZL _) (by omega) (fun i j hij hj=>by omega)
  by_cases e:m=n
  · subst e
    rw [if_pos (by simp)]
    exact q m _ gB h1 (ZL _) hs
  · rw [if_neg (by simpa using e)]
    by_cases e1:m > 1
    · rw [if_pos e1]
      refine hc _ _ (gB.below (by omega)) (gB.below (by omega)) _ ?_
      have:=hs 0 (m - 1) (by omega) (by omega)
      rw [this];((try dsimp only);(try rw [if_pos rfl]))
      exact q m _ gB h1 hm hs
    · rw [if_neg e1]
      have:m=1:=by omega
      subst this
      have c:=hd (by omega)
      unfold kas_descPart
      rw [KasT.kasWp_bind]
      refine nN O hc gB (fun m h1 hm hs => ?_) (n - 2) 2 (by omega) (by omega) (fun i j hij hj => ?_)
      · rw [if_neg (by simp)]
        unfold kas_tail3
        rw [KasT.kasWp_bind]
        obtain⟨g',s'⟩:=FX O gB hm hs
        exact kL O hc g' (fun m' h1' hm' hs' _=>q m' _ g' h1' hm' hs') (n - m) m h1 (by omega) s'
      · have hi:i=0:=by omega
        have hj:j=1:=by omega
        subst hi hj
        exact c
theorem iQ {p:Array Nat}(g:Gd n p){k:Nat}(hk:k < n)(hs:Srt lt p k){Q:Nat→Shared→Prop}(q:∀ l,l≤k→(∀ i,i < l→lt (p.getD i 0) (p.getD k 0)=true)→(∀ i,l≤i→i < k→lt (p.getD k 0) (p.getD i 0)=true)→Q l s) :
    ∀ (f l r:Nat),r - l≤f→l≤r→r≤k→(∀ i,i < l→lt (p.getD i 0) (p.getD k 0)=true)→(∀ i,r≤i→i < k→lt (p.getD k 0) (p.getD i 0)=true)→(kas_place p k f l r).kasWp cmp Q s
  | 0,l,r,hf,hl,hr,a,b=>q l (ZM hl hr) a fun i h1 h2=>b i (ZM (Nat.le_of_sub_eq_zero (Nat.le_zero.mp hf)) h1) h2
  | f + 1,l,r,hf,hl,hr,a,b=>by
    unfold kas_place
    by_cases e:l ≥ r
    · rw [if_pos e]
      exact q l (ZM hl hr) a fun i h1 h2=>b i (ZM e h1) h2
    · rw [if_neg e]
      have lr:l < r:=Nat.not_le.mp e
      have hh:=FW lr
      generalize (l + r) / 2=M at hh
      have hm:M < k:=Nat.lt_of_lt_of_le hh.2 hr
      have hMn:M < n:=Nat.lt_trans hm hk
      refine hc _ _ (g.below hk) (g.below hMn) _ ?_
      cases c:lt (p.getD k 0) (p.getD M 0) with
      | true =>
        ((try dsimp only);(try rw [if_pos rfl]))
        refine iQ g hk hs q f l M (Nat.le_of_lt_succ (Nat.lt_of_lt_of_le (Nat.sub_lt_sub_right hh.1 hh.2) hf)) hh.1 (Nat.le_of_lt hm) a fun i h1 h2 => ?_
        by_cases z:i=M
        · subst z;exact c
        · exact O.tr _ _ _ (g.below hk) (g.below hMn) (g.below (Nat.lt_trans h2 hk)) c (hs _ i (Nat.lt_of_le_of_ne h1 (Ne.symm z)) h2)
      | false =>
        ((try dsimp only);(try rw [if_neg Bool.false_ne_true]))
        have c':=O.tot _ _ (g.below hk) (g.below hMn) (g.ne (i:=k) (j:=M) hk hMn (Nat.ne_of_gt hm)) c
        refine iQ g hk hs q f (M + 1) r (Nat.le_of_lt_succ (Nat.lt_of_lt_of_le (Nat.sub_lt_sub_left lr (Nat.lt_succ_of_le hh.1)) hf)) hh.2 hr (fun i h1 => ?_) b
        by_cases z:i=M
        · subst z;exact c'
        · have hi:i < M:=Nat.lt_of_le_of_ne (Nat.le_of_lt_succ h1) z
          exact O.tr _ _ _ (g.below (Nat.lt_trans hi hMn)) (g.below hMn) (g.below hk) (hs i _ hi hm) c'
theorem px {Q:Array Nat→Shared→Prop}(q:∀ p,Gd n p→Srt lt p n→Q p s):∀ (f:Nat) (p:Array Nat) (k:Nat),Gd n p→k + f=n→Srt lt p k→(kas_bin f p k).kasWp cmp Q s
  | 0,p,k,g,e,h=>by
    have:k=n:=e
    subst this
    exact q p g h
  | f + 1,p,k,g,e,h=>by
    unfold kas_bin
    rw [KasT.kasWp_bind]
    have hk:k < n:=e ▸ Nat.lt_add_of_pos_right (Nat.succ_pos f)
    refine iQ O hc g hk h (fun l hl a b => ?_) k 0 k (ZL _) (Nat.zero_le _) (ZL _) (fun i z=>absurd z (Nat.not_lt_zero _)) (fun i z z'=>absurd z' (Nat.not_lt.mpr z))
    have hks:k < p.size:=by rw [g.sz];exact hk
    have at':∀ i,(bubble p k (k - l)).getD i 0=if i=l then p.getD k 0 else if l < i∧i≤k then p.getD (i - 1) 0 else p.getD i 0:=fun i=>by
      have:=getElem?_bubble hks (k - l) (Nat.sub_le _ _) i
      rw [Nat.sub_sub_self hl] at this
      simp only [Array.getD_eq_getD_getElem?]
      rw [this]
      by_cases c1:i=l
      · rw [if_pos c1,if_pos c1]
      · rw [if_neg c1,if_neg c1]
        by_cases c2:l < i∧i≤k
        · rw [if_pos c2,if_pos c2]
        · rw [if_neg c2,if_neg c2]
    refine px q f _ (k + 1) ⟨by rw [bubble_size,g.sz],(bubble_perm _ _ _).trans g.pm⟩ (by rw [Nat.add_right_comm];exact e) fun i j hij hj => ?_
    have jk:j≤k:=Nat.le_of_lt_succ hj
    have j1:j - 1 < k:=Nat.sub_one_lt_of_le (Nat.zero_lt_of_lt hij) jk
    rw [at' i,at' j]
    by_cases c1:i=l
    · have lj:l < j:=c1 ▸ hij
      rw [if_pos c1,if_neg (Nat.ne_of_gt lj),if_pos ⟨lj,jk⟩]
      exact b _ (Nat.le_sub_one_of_lt lj) j1
    · rw [if_neg c1]
      by_cases c2:l < i∧i≤k
      · have lj:l < j:=Nat.lt_trans c2.1 hij
        rw [if_pos c2,if_neg (Nat.ne_of_gt lj),if_pos ⟨lj,jk⟩]
        exact h _ _ (Nat.sub_lt_sub_right (Nat.zero_lt_of_lt c2.1) hij) j1
      · rw [if_neg c2]
        have il:i < l:=Nat.lt_of_le_of_ne (Nat.not_lt.mp fun z=>c2 ⟨z,ZM (Nat.le_of_lt hij) jk⟩) c1
        by_cases c3:j=l
        · rw [if_pos c3];exact a _ il
        · rw [if_neg c3]
          by_cases c4:l < j∧j≤k
          · rw [if_pos c4]
            exact h _ _ (Nat.lt_of_lt_of_le il (Nat.le_sub_one_of_lt c4.1)) j1
          · rw [if_neg c4]
            have jl:j < l:=Nat.lt_of_le_of_ne (Nat.not_lt.mp fun z=>c4 ⟨z,jk⟩) c3
            exact h _ _ hij (Nat.lt_of_lt_of_le jl hl)
theorem uw (h2:2≤n){Q:Array Nat→Shared→Prop}(q:∀ p,Gd n p→Srt lt p n→Q p s):(kas_sort n).kasWp cmp Q s:=by
  unfold kas_sort
  rw [KasT.kasWp_bind]
  refine sJ O hc h2 fun m p g h1 hm hs => ?_
  by_cases e:m < n
  · rw [if_pos e]
    have:max m 1=m:=by omega
    show KasT.kasWp cmp (kas_bin (n - max m 1) p (max m 1)) Q s
    rw [this]
    exact px O hc q (n - m) p m g (by omega) hs
  · rw [if_neg e]
    have:m=n:=by omega
    subst this
    exact q p g hs
end
end Fm
namespace Fm
def sK (x:List Int):List (List Int)→List (List Int)
  | []=>[x]
  | y :: r=>if lexLt x y=true then x :: y :: r else y :: sK x r
def cY:List (List Int)→List (List Int)
  | []=>[]
  | x :: r=>sK x (cY r)
def fP (r:List Int):D:=.tup (r.map .int)
theorem gg:∀ a,lexLt a a=false
  | []=>rfl
  | x :: a=>by simp [lexLt,gg a]
theorem hJ:∀ {a b c},lexLt a b=true→lexLt b c=true→lexLt a c=true
  | [],[],_,h,_=>by simp [lexLt] at h
  | [],_ :: _,[],_,h=>by simp [lexLt] at h
  | [],_ :: _,_ :: _,_,_=>rfl
  | _ :: _,[],_,h,_=>by simp [lexLt] at h
  | _ :: _,_ :: _,[],_,h=>by simp [lexLt] at h
  | x :: a,y :: b,z :: c,h,h'=>by
    simp only [lexLt] at h h' ⊢
    by_cases e:x=y
    · subst e
      rw [if_pos rfl] at h
      by_cases e2:x=z
      · subst e2
        rw [if_pos rfl] at h' ⊢
        exact hJ h h'
      · rw [if_neg e2] at h' ⊢;exact h'
    · rw [if_neg e] at h
      by_cases e2:y=z
      · subst e2
        rw [if_neg e];exact h
      · rw [if_neg e2] at h'
        simp at h h'
        rw [if_neg (by omega)]
        simp;omega
theorem kh:∀ {a b},a≠b→lexLt a b=false→lexLt b a=true
  | [],[],h,_=>absurd rfl h
  | [],_ :: _,_,h=>by simp [lexLt] at h
  | _ :: _,[],_,_=>rfl
  | x :: a,y :: b,h,h'=>by
    simp only [lexLt] at h' ⊢
    by_cases e:x=y
    · subst e
      rw [if_pos rfl] at h' ⊢
      exact kh (fun z=>h (by rw [z])) h'
    · rw [if_neg e] at h'
      rw [if_neg (Ne.symm e)]
      simp at h' ⊢;omega
theorem jH {a b:List Int}(h:lexLt a b=true):lexLt b a=false:=by
  cases c:lexLt b a with
  | false=>rfl
  | true=>have:=hJ h c;rw [gg] at this;cases this
theorem mB (x:List Int):∀ r,(sK x r).Perm (x :: r)
  | []=>.refl _
  | y :: r=>by
    simp only [sK]
    split
    · exact .refl _
    · exact ((mB x r).cons y).trans (.swap x y r)
theorem ii:∀ r,(cY r).Perm r
  | []=>.refl _
  | x :: r=>(mB x _).trans ((ii r).cons x)
theorem pz {x:List Int}:∀ {r:List (List Int)},x∉r→r.Pairwise (fun a b=>lexLt a b=true)→(sK x r).Pairwise (fun a b=>lexLt a b=true)
  | [],_,_=>by simp [sK]
  | y :: r,hx,h=>by
    simp only [sK]
    have hy : ¬ x=y:=fun z=>hx (by simp [z])
    have hr:x∉r:=fun z=>hx (by simp [z])
    obtain⟨h1,h2⟩:=List.pairwise_cons.mp h
    split
    · rename_i c
      refine List.pairwise_cons.mpr ⟨fun b hb => ?_,h⟩
      rcases List.mem_cons.mp hb with rfl|hb
      · exact c
      · exact hJ c (h1 b hb)
    · rename_i c
      have c':=kh hy (by simpa using c)
      refine List.pairwise_cons.mpr ⟨fun b hb => ?_,pz hr h2⟩
      rcases List.mem_cons.mp ((mB x r).mem_iff.mp hb) with rfl|hb
      · exact c'
      · exact h1 b hb
theorem jI:∀ {r:List (List Int)},r.Nodup→(cY r).Pairwise (fun a b=>lexLt a b=true)
  | [],_=>.nil
  | x :: r,h=>by
    obtain⟨h1,h2⟩:=List.nodup_cons.mp h
    exact pz (fun z=>h1 ((ii r).mem_iff.mp z)) (jI h2)
theorem yP {a b:List (List Int)}(p:a.Perm b)(ha:a.Pairwise (fun a b=>lexLt a b=true))(hb:b.Pairwise (fun a b=>lexLt a b=true)):a=b :=
  List.Perm.eq_of_pairwise (fun x y _ _ h h'=>by have:=jH h;rw [h'] at this;cases this) ha hb p
theorem jJ (r:List (List Int)):kG (r.map fP)=some r:=by
  have hi:∀ l:List Int,en (l.map .int)=some l:=fun l=>by
    induction l with
    | nil=>rfl
    | cons x l ih=>simp [en,ih]
  induction r with
  | nil=>rfl
  | cons x r ih=>simp [kG,fP,hi] at ih ⊢;simp [ih]
end Fm
namespace Fm
open PySem PySem.Spec L2 PySem.W PyProof.Rows
section
variable {X:Cx} {pos p:Pos}
theorem cD.rds {K:ZX}{ρ:List Addr}{H:Hp}:∀ {vs:List V} {rs:List (List Int)},cD H vs rs→RDs K ρ H (rs.map fP) vs
  | _,_,.nil=>RDs.nil
  | _,_,.cons (a:=a) (r:=r) h t=>by
    refine RDs.cons ?_ (cD.rds t)
    unfold fP
    simp only [RD]
    refine⟨a,_,rfl,h,?_⟩
    clear h
    induction r with
    | nil=>exact RDs.nil
    | cons x r ih=>exact RDs.cons (by simp only [RD]) ih
theorem cD.pick {H:Hp}{vs:List V}{rs:List (List Int)}(h:cD H vs rs):∀ (l:List Nat),(∀ i∈l,i < vs.length)→cD H (l.map fun i=>vs.getD i .non) (l.map fun i=>rs.getD i [])
  | [],_=>.nil
  | i :: l,hl=>by
    have hi:i < vs.length:=hl i (by simp)
    obtain⟨a,e,ha⟩:=h.get (i:=i) (v:=vs[i]) (by simp [hi])
    have t:=cD.pick h l fun j hj=>hl j (by simp [hj])
    have:vs.getD i .non=.ref a:=by simp [List.getD,hi,e]
    simp only [List.map_cons,this]
    exact .cons ha t
theorem aS.pick {vs:List V}{us:List Value}(h:aS vs us):∀ (l:List Nat),(∀ i∈l,i < vs.length)→aS (l.map fun i=>vs.getD i .non) (l.map fun i=>us.getD i Value.none)
  | [],_=>.nil
  | i :: l,hl=>by
    have hi:i < vs.length:=hl i (by simp)
    obtain⟨u,e,ru⟩:=h.get (i:=i) (x:=vs[i]) (by simp [hi])
    have t:=aS.pick h l fun j hj=>hl j (by simp [hj])
    simp only [List.map_cons]
    refine .cons ?_ t
    simp [List.getD,hi,e]
    exact ru
end
end Fm
namespace Fm
open PySem PySem.Spec L2 PySem.W PyProof.Rows
section
variable {X:Cx} {pos p:Pos}
theorem RDs.rep {K:ZX}{ρ:List Addr}{H:Hp}{l:List D}{vs:List V}(r:RDs K ρ H l vs):∀ k,RDs K ρ H (List.replicate k l).flatten (List.replicate k vs).flatten
  | 0=>RDs.nil
  | k + 1=>by
    rw [List.replicate_succ,List.replicate_succ,List.flatten_cons,List.flatten_cons]
    exact RDs.append r (RDs.rep r k)
end
end Fm
namespace Fm
@[simp] def rA:EF:=fun _ h=>.ok (.ref h.length) (h++[.dct []])
def pA (l:List (Int × D)) (k:Int):Option D:=(l.find? fun p=>decide (p.1=k)).map (·.2)
def wa (l:List (Int × D)) (k:Int) (v:D):List (Int × D):=if (l.any fun p=>decide (p.1=k))=true then l.map (fun p=>if p.1=k then (p.1,v) else p) else l++[(k,v)]
@[simp] def yQ:O2:=fun x y h=>match x,y with
  | .int k,.ref n=>match h[n]? with|some (.dct l)=>.ok (.bl (pA l k).isSome) h|_=>.bad
  | _,_=>.bad
@[simp] def pB (x i e:EF):SF:=fun σ h=>outE (e σ h) σ fun d h=>outE (x σ h) σ fun p h=>outE (i σ h) σ fun j h=>match p,j with
  | .ref n,.int k=>match h[n]? with
    | some (.dct l)=>if l.length < SZ then .nx σ (h.set n (.dct (wa l k d))) else .bad
    | _=>.bad
  | _,_=>.bad
def eY:List (Int × D)→Option (List (List Int))
  | []=>some []
  | (k,.int v) :: r=>(eY r).map fun l=>[k,v] :: l
  | _=>none
@[simp] def kM (a:EF):LF:=fun σ h=>(a σ h).bind fun x h=>match x with
  | .ref n=>match h[n]? with
    | some (.dct l)=>match eY l with
      | some r=>if r.length < 64∧r.Nodup then .ok ((cY r).map fP) h else .bad
      | none=>.bad
    | _=>.bad
  | _=>.bad
end Fm
namespace L2
open PySem PySem.Spec PyProof.Rows
section
variable {κ : Type} [DecidableEq κ]
def ju (kvs:List (κ × V)) (k : κ):Option V:=(kvs.find? fun kv=>decide (kv.1=k)).map (·.2)
def kN (kvs:List (κ × V)) (k : κ) (v:V):List (κ × V) :=
  if (kvs.any fun kv=>decide (kv.1=k))=true then kvs.map (fun kv=>if kv.1=k then (kv.1,v) else kv) else kvs++[(k,v)]
theorem pC {p : κ × V}{r:List (κ × V)}{k : κ}(e:p.1=k):ju (p :: r) k=some p.2:=by simp [ju,List.find?_cons,e]
theorem lG {p : κ × V}{r:List (κ × V)}{k : κ}(e : ¬ p.1=k):ju (p :: r) k=ju r k:=by simp [ju,List.find?_cons,e]
theorem ux (k : κ):∀ kvs:List (κ × V),(kvs.any fun kv=>decide (kv.1=k))=(ju kvs k).isSome
  | []=>rfl
  | p :: r=>by
    rw [List.any_cons]
    by_cases e:p.1=k
    · simp only [pC e,decide_eq_true e,Bool.true_or,Option.isSome_some]
    · rw [lG e,decide_eq_false e,Bool.false_or];exact ux k r
theorem nO (kvs:List (κ × V))(k : κ)(v:V):(kN kvs k v).length≤kvs.length + 1:=by
  unfold kN
  split
  · rw [ZA];omega
  · rw [ZB,List.length_cons,List.length_nil];omega
theorem yv.isSome_eq {o:Option V}{u:Option Value}(r:yv o u):o.isSome=u.isSome:=by
  cases o with
  | none=>cases u with
    | none=>rfl
    | some _=>exact (show False from r).elim
  | some _=>cases u with
    | none=>exact (show False from r).elim
    | some _=>rfl
theorem KV.val {kvs:List (κ × V)}{vs:List (κ × Value)}(r:KV kvs vs)(k : κ):yv (ju kvs k) (valueAt vs k):=by
  unfold KV at r
  induction r with
  | nil=>exact True.intro
  | @cons p q ps qs h t ih =>
    obtain⟨h1,h2⟩:=h
    by_cases e:p.1=k
    · have e':q.1=k:=h1.symm.trans e
      have b:valueAt (q :: qs) k=some q.2:=by simp [valueAt,List.find?_cons,e']
      rw [pC e,b];exact h2
    · have e' : ¬ q.1=k:=fun z=>e (h1.trans z)
      have b:valueAt (q :: qs) k=valueAt qs k:=by simp [valueAt,List.find?_cons,e']
      rw [lG e,b];exact ih
theorem KV.any {kvs:List (κ × V)}{vs:List (κ × Value)}(r:KV kvs vs)(k : κ):(kvs.any fun kv=>decide (kv.1=k))=vs.any fun kv=>decide (kv.1=k):=by
  unfold KV at r
  induction r with
  | nil=>rfl
  | cons h t ih=>rw [List.any_cons,List.any_cons,ih,h.1]
theorem KV.repl {kvs:List (κ × V)}{vs:List (κ × Value)}(r:KV kvs vs)(k : κ){y:V}{u:Value}(ry:bP y u) :
    KV (kvs.map fun kv=>if kv.1=k then (kv.1,y) else kv) (vs.map fun kv=>if kv.1=k then (kv.1,u) else kv):=by
  unfold KV at r ⊢
  induction r with
  | nil=>exact .nil
  | @cons p q ps qs h t ih =>
    rw [List.map_cons,List.map_cons]
    refine .cons ?_ ih
    obtain⟨h1,h2⟩:=h
    by_cases e:p.1=k
    · rw [if_pos e,if_pos (h1.symm.trans e)];exact⟨h1,ry⟩
    · rw [if_neg e,if_neg (fun z=>e (h1.trans z))];exact⟨h1,h2⟩
theorem KV.put {kvs:List (κ × V)}{vs:List (κ × Value)}(r:KV kvs vs)(k : κ){y:V}{u:Value}(ry:bP y u):KV (kN kvs k y) (stored vs k u):=by
  unfold kN stored
  rw [r.any k]
  by_cases e:(vs.any fun kv=>decide (kv.1=k))=true
  · rw [if_pos e,if_pos e];exact r.repl k ry
  · rw [if_neg e,if_neg e];exact Paired.snoc r ⟨rfl,ry⟩
theorem KV.length {kvs:List (κ × V)}{vs:List (κ × Value)}(r:KV kvs vs):kvs.length=vs.length:=Paired.length r
end
theorem AV {P:Program}{w:World}{k:Key}{u:Value}(r:bP (kV k) u):(cU P w).is k u=true:=by
  cases k with
  | inl i=>obtain⟨t,e⟩:=(show ∃ t,u=Value.int i t from r);subst e;exact ua P w i t
  | inr x=>obtain⟨t,e⟩:=(show ∃ t,u=Value.str x t from r);subst e;exact ub P w x t
theorem rC {P:Program}{w:World}:∀ {ks:List Key} {us:List Value},aS (ks.map kV) us→ItemsAre (cU P w) ks us
  | [],_,r=>by rw [List.map_nil] at r;cases r;exact .nil
  | k :: ks,_,r=>by
    rw [List.map_cons] at r
    cases r with
    | cons h t=>exact .cons (AV h) (rC t)
abbrev KT (H:Hp):List (List Key × V)→List (List Key × Addr × Value)→Prop:=Paired fun p q=>p.1=q.1∧H q.2.1=some (.tup (p.1.map kV))∧bP p.2 q.2.2
theorem KT.val {H:Hp}{kvs:List (List Key × V)}{xs:List (List Key × Addr × Value)}(r:KT H kvs xs)(k:List Key):yv (ju kvs k) ((atKey xs k).map (·.2)):=by
  induction r with
  | nil=>exact True.intro
  | @cons p q ps qs h t ih =>
    obtain⟨h1,_,h2⟩:=h
    by_cases e:p.1=k
    · have e':q.1=k:=h1.symm.trans e
      have b:atKey (q :: qs) k=some q.2:=by simp [atKey,List.find?_cons,e']
      rw [pC e,b];exact h2
    · have e' : ¬ q.1=k:=fun z=>e (h1.trans z)
      have b:atKey (q :: qs) k=atKey qs k:=by simp [atKey,List.find?_cons,e']
      rw [lG e,b];exact ih
theorem KT.repl {H:Hp}{kvs:List (List Key × V)}{xs:List (List Key × Addr × Value)}(r:KT H kvs xs)(k:List Key){y:V}{u:Value}(ry:bP y u) :
    KT H (kvs.map fun kv=>if kv.1=k then (kv.1,y) else kv) (xs.map (putAt k u)):=by
  induction r with
  | nil=>exact .nil
  | @cons p q ps qs h t ih =>
    rw [List.map_cons,List.map_cons]
    refine .cons ?_ ih
    obtain⟨h1,h2,h3⟩:=h
    unfold putAt
    by_cases e:p.1=k
    · rw [if_pos e,if_pos (h1.symm.trans e)];exact⟨h1,h2,ry⟩
    · rw [if_neg e,if_neg (fun z=>e (h1.trans z))];exact⟨h1,h2,h3⟩
theorem KT.put {H:Hp}{kvs:List (List Key × V)}{xs:List (List Key × Addr × Value)}(r:KT H kvs xs)(k:List Key){b:Addr}{y:V}{u:Value}(hb:H b=some (.tup (k.map kV)))(ry:bP y u) :
    KT H (kN kvs k y) (storedH xs k b u):=by
  have e:(kvs.any fun kv=>decide (kv.1=k))=(atKey xs k).isSome:=by
    rw [ux,(r.val k).isSome_eq,Option.isSome_map]
  unfold kN storedH
  rw [e]
  by_cases q:(atKey xs k).isSome=true
  · rw [if_pos q,if_pos q];exact r.repl k ry
  · rw [if_neg q,if_neg q];exact Paired.snoc r ⟨rfl,hb,ry⟩
theorem KT.keeps {H H':Hp}{kvs:List (List Key × V)}{xs:List (List Key × Addr × Value)}(r:KT H kvs xs)(ht:∀ b ys,H b=some (.tup ys)→H' b=some (.tup ys)):KT H' kvs xs :=
  Paired.mapP r fun _ _ z=>⟨z.1,ht _ _ z.2.1,z.2.2⟩
section
variable {P:Program} {w:World} {H:Hp} {h:Heap} {a:Addr}
theorem EJ {u:HO}(ok:HOk P w H h)(e:Rd H a u):em P w H h a u:=e.ok ok
theorem AW {kvs:List (Key × V)}(ok:HOk P w H h)(e:Rd H a (.dK kvs)):kvs.length≤sizeLine∧(a == sysModules)=false ∧ ∃ vs,KV kvs vs∧h.DictOf (cU P w) a vs :=
  show em P w H h a (.dK kvs) from EJ ok e
theorem AX {kvs:List (Key × V)}(ok:HOk P w H h)(e:H a=some (.dK kvs)):kvs.length≤sizeLine∧(a == sysModules)=false ∧ ∃ vs,KV kvs vs∧h.DictOf (cU P w) a vs:=AW ok (.inl e)
theorem wb {ks:List Key}(ok:HOk P w H h)(e:H a=some (.tup (ks.map kV))):(tupleKind (cU P w)).is h ks a:=by
  obtain⟨_,its,r,o,h1,h2,n,h3⟩:=(show em P w H h a (.tup (ks.map kV)) from ok a _ e)
  exact⟨o,its.toArray,n,h1,h2,h3,by simpa using rC r⟩
theorem AY {kvs:List (List Key × V)}(ok:HOk P w H h)(e:Rd H a (.dT kvs)):kvs.length≤sizeLine∧(a == sysModules)=false ∧
    ∃ xs,KT H kvs xs∧h.DictOfH (tupleKind (cU P w)) a xs:=by
  obtain⟨z,y,xs,r,o,es,ep,h1,h2,h3,h4,h5⟩:=(show em P w H h a (.dT kvs) from EJ ok e)
  refine⟨z,y,xs,r,o,es,ep,h1,h2,h3,h4,fun x hx => ?_,h5⟩
  have all:∀ {l:List (List Key × V)} {m:List (List Key × Addr × Value)},KT H l m → ∀ x∈m,(tupleKind (cU P w)).is h x.1 x.2.1:=by
    intro l m q
    induction q with
    | nil=>intro x hx;exact nomatch hx
    | @cons p q ps qs hq t ih =>
      intro x hx
      rcases List.mem_cons.mp hx with e|hx
      · subst e
        exact wb ok (by rw [← hq.1];exact hq.2.1)
      · exact ih x hx
  exact all r x hx
theorem HE {kvs:List (List Key × V)}(ok:HOk P w H h)(e:H a=some (.dT kvs)):kvs.length≤sizeLine∧(a == sysModules)=false ∧
    ∃ xs,KT H kvs xs∧h.DictOfH (tupleKind (cU P w)) a xs:=AY ok (.inl e)
end
def AZ (H:Hp) (a:Addr) (y:V) (r:Option V):Prop :=
  (∃ kvs k,Rd H a (.dK kvs)∧y=kV k∧r=ju kvs k) ∨ ∃ kvs k b,Rd H a (.dT kvs)∧y=.ref b∧H b=some (.tup (k.map kV))∧r=ju kvs k
def A0 (H:Hp) (a:Addr) (y v:V) (H':Hp):Prop :=
  (∃ kvs k,H a=some (.dK kvs)∧y=kV k∧kvs.length < sizeLine∧H'=upd H a (.dK (kN kvs k v))) ∨
  ∃ kvs k b,H a=some (.dT kvs)∧y=.ref b∧H b=some (.tup (k.map kV))∧kvs.length < sizeLine∧H'=upd H a (.dT (kN kvs k v))
theorem AZ.k {H:Hp}{a:Addr}{kvs:List (Key × V)}{k:Key}(e:H a=some (.dK kvs)):AZ H a (kV k) (ju kvs k):=.inl ⟨kvs,k,.inl e,rfl,rfl⟩
theorem A0.k {H:Hp}{a:Addr}{kvs:List (Key × V)}{k:Key}{v:V}(e:H a=some (.dK kvs))(hl:kvs.length < sizeLine):A0 H a (kV k) v (upd H a (.dK (kN kvs k v))):=.inl ⟨kvs,k,e,rfl,hl,rfl⟩
section
variable {X:Cx} {pins:List (Addr × Obj)} {σ:St} {H:Hp} {s:Shared} {a:Addr} {y v:V} {u r:Value} {o:Option V} {A:Around} {E:Value→Shared→Prop}
theorem Inv.big (I:Inv X pins σ H s):sysModules < s.heap.objs.size:=by
  have h:mainGlobals < s.heap.objs.size:=(I.mod.glob.keeps I.bk).lt
  exact Nat.lt_trans (by decide) h
theorem IR {Q:Value→Shared→Prop}(hu:A.units + 1 < cLine)(I:Inv X pins σ H s)(g:AZ H a y o)(ry:bP y u)(h:∀ s',Inv X pins σ H s'→Q (.bool o.isSome) s') :
    wpAny (model X.prog X.w) A (compareOp .In u (.ref a)) Q E s:=by
  rcases g with ⟨kvs,k,e,ey,l⟩|⟨kvs,k,b,e,ey,eb,l⟩
  · subst ey
    obtain⟨z,hd,vs,rel,dd⟩:=AW I.hok e
    refine wpAny_in_of (AV ry) hd dd.mapOf ?_
    rw [← (rel.val k).isSome_eq,← l]
    exact h _ (I.tok _)
  · subst ey
    cases (show u=Value.ref b from ry)
    obtain⟨z,hd,xs,rel,dd⟩:=AY I.hok e
    refine wpAny_in_heap (tupleKind_room_in1 hu) (wb I.hok eb) hd dd ?_
    have q:=(rel.val k).isSome_eq
    rw [Option.isSome_map] at q
    rw [← q,← l]
    exact h _ (I.tok _)
theorem xG {h':Heap}{t':Nat}{ob:HO}(I:Inv X pins σ H s)(mu:Mut (H a))(hs:Heap.SameBut a s.heap h')(he:∃ q,h'.get? a=some q)(new:em X.prog X.w (upd H a ob) h' a ob) :
    Inv X pins σ (upd H a ob) { s with heap:=h',toks:=t' } :=
  I.write (x:=a) (e:=a) mu (.inl rfl) (fun b q hb z=>(hs.2 b hb).trans z) he new
theorem FY {P:Program}{w:World}{H':Hp}{h':Heap}{kvs:List (Key × V)}{vs:List (Key × Value)}(z:kvs.length≤sizeLine)(hd:(a == sysModules)=false)(rel:KV kvs vs)(dd:h'.DictOf (cU P w) a vs) :
    em P w H' h' a (.dK kvs):=⟨z,hd,vs,rel,dd⟩
theorem yR {H':Hp}{Q:Unit→Shared→Prop}(hu:A.units + 1 < cLine)(I:Inv X pins σ H s)(g:A0 H a y v H')(ry:bP y u)(rv:bP v r)(h:∀ s',Inv X pins σ H' s'→Q () s') :
    wpAny (model X.prog X.w) A (setItem (.ref a) u r) Q E s:=by
  rcases g with ⟨kvs,k,e,ey,l,eH⟩|⟨kvs,k,b,e,ey,eb,l,eH⟩
  · subst ey eH
    obtain⟨z,hd,vs,rel,dd⟩:=AX I.hok e
    have hz:vs.length≤sizeLine:=by rw [← rel.length];exact z
    have hl:(kN kvs k v).length≤sizeLine:=by have:=nO kvs k v;omega
    refine wpAny_setItem_pairs (hsz:=hz) (AV ry) dd fun h' dd' hs=>h _ ?_
    have he:∃ q,h'.get? a=some q:=let ⟨q,_,_,hq,_⟩:=dd';⟨q,hq⟩
    exact xG I (by rw [e];exact True.intro) hs he (FY hl hd (rel.put k rv) dd')
  · subst ey eH
    cases (show u=Value.ref b from ry)
    obtain⟨z,hd,xs,rel,dd⟩:=HE I.hok e
    have hz:xs.length≤sizeLine:=by rw [← Paired.length rel];exact z
    have hl:(kN kvs k v).length≤sizeLine:=by have:=nO kvs k v;omega
    refine wpAny_setItem_heap (hsz:=hz) (tupleKind_room_in1 hu) (wb I.hok eb) dd fun h' dd' hs=>h _ ?_
    obtain⟨q,es,ep,hq,h2,h3,h4,_,h5⟩:=dd'
    refine xG I (by rw [e];exact True.intro) hs ⟨q,hq⟩ ⟨hl,hd,_,(rel.put k eb rv).keeps fun c ys ec => ?_,q,es,ep,hq,h2,h3,h4,h5⟩
    rw [ay (Ey ec e (fun z=>nomatch z))]
    exact ec
end
section
variable {X:Cx} {pins:List (Addr × Obj)} {σ:St} {H:Hp} {s:Shared} {a:Addr} {kvs:List (Key × V)} {k:Key} {u:Value} {A:Around} {E:Value→Shared→Prop}
end
section
variable {X:Cx} {o i e value:Expr} {pos pos' tpos:Pos} {td ty tv:TE}
end
theorem A1 {P:Program} {w:World} {H:Hp} (h:Heap) (hb:sysModules < h.objs.size):em P w H (h.push { cls:=.type "dict",data:=.dict #[] }) h.objs.size (.dK []) :=
  ⟨Nat.zero_le _,beq_eq_false_iff_ne.mpr (Ne.symm (ZN hb)),[],.nil,Heap.DictOf.new h⟩
def FZ:TE:=fun _ H Q=>∀ p,H p=none→Q (.ref p) (upd H p (.dK []))
section
variable {X:Cx} {pos:Pos}
theorem A2:PE X (.Dict [] [] pos) FZ:=fun pins s σ H Q I h =>
  wpAny_Dict_empty ⟨.ref s.heap.objs.size,_,I.laid (a:=s.heap.objs.size) (o:=.dK []) (t':=s.toks) (fun _ _ q=>ZH _ q) (ZL _) (A1 s.heap I.big),rfl,h _ (I.hok.fresh (ZL _))⟩
end
structure M1 (X:Cx) (o:Expr) (m:Str) (apos:Pos) (e:Expr) (cpos:Pos):Prop where
  base:attributeBase o m X.env (eval o X.env)=eval o X.env
  few:((backTo cpos (starEach [e] X.env)).all (fun x => !x.1) && (backToKw cpos (keywordEach [] X.env)).all (fun x=>x.1.isSome)
    && decide (([e] : List Expr).length + ([] : List Keyword).length + (if ([] : List Keyword).isEmpty then 0 else 1) < 30))=true
  line:(apos.endLine == cpos.line)=true
  trees:backTo cpos (starEach [e] X.env)=[(false,eval e X.env)]
structure M2 (X:Cx) (o:Expr) (m:Str) (apos:Pos) (e f:Expr) (cpos:Pos):Prop where
  base:attributeBase o m X.env (eval o X.env)=eval o X.env
  few:((backTo cpos (starEach [e,f] X.env)).all (fun x => !x.1) && (backToKw cpos (keywordEach [] X.env)).all (fun x=>x.1.isSome)
    && decide (([e,f] : List Expr).length + ([] : List Keyword).length + (if ([] : List Keyword).isEmpty then 0 else 1) < 30))=true
  line:(apos.endLine == cpos.line)=true
  trees:backTo cpos (starEach [e,f] X.env)=[(false,eval e X.env),(false,eval f X.env)]
def IsD (H:Hp) (a:Addr):Prop:=(∃ kvs,Rd H a (.dK kvs)) ∨ ∃ kvs,Rd H a (.dT kvs)
theorem F3 {X:Cx}{pins:List (Addr × Obj)}{σ:St}{H:Hp}{s:Shared}{a:Addr}(I:Inv X pins σ H s)(d:IsD H a) :
    s.TypeIs (.ref a) "dict" ∧ (∀ b,Value.ref a=.ref b → ∃ ob,s.heap.get? b=some ob∧ob.dict=none)∧(a == sysModules)=false:=by
  rcases d with ⟨kvs,e⟩|⟨kvs,e⟩
  · obtain⟨_,hd,vs,_,dd⟩:=AW I.hok e
    refine⟨dd.typeIs,fun b q => ?_,hd⟩
    cases q
    obtain⟨ob,_,_,h1,h2,_⟩:=dd
    exact⟨ob,h1,h2.2.1⟩
  · obtain⟨_,hd,xs,_,dd⟩:=AY I.hok e
    refine⟨dd.typeIs,fun b q => ?_,hd⟩
    cases q
    obtain⟨ob,_,_,h1,h2,_⟩:=dd
    exact⟨ob,h1,h2.2.1⟩
section
variable {X:Cx} {pins:List (Addr × Obj)} {σ:St} {H:Hp} {s:Shared} {a:Addr} {y d:V} {u r:Value} {o:Option V} {A:Around} {E:Value→Shared→Prop}
end
section
variable {X:Cx} {o e f:Expr} {apos cpos:Pos} {td ty tx:TE}
end
section
variable {X:Cx} {pins:List (Addr × Obj)} {σ:St} {H:Hp} {s:Shared} {a:Addr} {kvs:List (Key × V)} {A:Around} {E:Value→Shared→Prop}
end
section
variable {X:Cx} {pins:List (Addr × Obj)} {σ:St} {H:Hp} {s:Shared} {a:Addr} {y:V} {u:Value} {A:Around} {E:Value→Shared→Prop}
end
end L2
namespace Fm
open PySem PySem.Spec L2 PySem.W PyProof.Rows
section
variable {K:ZX} {ρ:List Addr} {H:Hp} {hd:Hd}
theorem RH.allocD (r:RH K ρ H hd){p:Addr}{l:List (Int × D)}(hp:RC K ρ H (.dct l) p)(hn:p ∉ ρ):RH K (ρ ++ [p]) H (hd++[.dct l]):=by
  have k:Kp ρ H (ρ ++ [p]) H:=⟨fun n a e=>by rw [ZC (List.getElem?_eq_some_iff.mp e).1];exact e,fun _ _ h=>h,fun _ _ _ h=>h,fun _ _ h=>h⟩
  refine⟨by simp [r.len],?_,fun n c a h1 h2 => ?_⟩
  · rw [List.nodup_append]
    exact⟨r.nd,by simp,fun a ha b hb=>by simp at hb;subst hb;intro e;subst e;exact hn ha⟩
  · by_cases hlt:n < hd.length
    · rw [ZC hlt] at h1
      rw [ZC (by rw [r.len];exact hlt)] at h2
      exact (r.cel n c a h1 h2).mono k rfl
    · have e1:n=hd.length:=by
        have:=(List.getElem?_eq_some_iff.mp h1).1
        simp at this
        omega
      subst e1
      simp at h1
      subst h1
      rw [← r.len] at h2
      simp at h2
      subst h2
      obtain⟨kvs,q1,q2,q3⟩:=hp
      exact⟨kvs,q1,q2,q3.mono k⟩
theorem RH.writeD (r:RH K ρ H hd){n:Nat}{p:Addr}{l:List (Int × D)}{kvs:List (Key × V)}(hp : ρ[n]? = some p)(hn:n < hd.length)(h1:kvs.map (·.1)=l.map (fun p=>(Sum.inl p.1:Key)))(h2:RDs K ρ H (l.map (·.2)) (kvs.map (·.2))):RH K ρ (upd H p (.dK kvs)) (hd.set n (.dct l)):=by
  have k:Kp ρ H ρ (upd H p (.dK kvs)):=by
    have hm:=ZK hp
    refine⟨fun _ _ h=>h,fun a us e => ?_,fun a o u e => ?_,fun a φ e => ?_⟩
    · rw [ay (fun z=>r.noTup e (by rw [z];exact hm))];exact e
    · rw [ay (fun z=>r.noFrz e (by rw [z];exact hm))];exact e
    · rw [ay (fun z=>r.noExt e (by rw [z];exact hm))];exact e
  refine⟨by simp [r.len],r.nd,fun m c a q1 q2 => ?_⟩
  by_cases e:n=m
  · subst e
    rw [List.getElem?_set_self hn] at q1
    cases q1
    rw [hp] at q2
    cases q2
    exact⟨kvs,aT,h1,h2.mono k⟩
  · rw [ZP e] at q1
    have ne:a≠p:=fun z=>by
      subst z
      exact e (o3 r.nd hp q2)
    exact (r.cel m c a q1 q2).mono k (ay ne)
theorem uy (k:Int):∀ {l:List (Int × D)} {kvs:List (Key × V)},kvs.map (·.1)=l.map (fun p=>(Sum.inl p.1:Key))→RDs K ρ H (l.map (·.2)) (kvs.map (·.2)) →
    (pA l k=none∧ju kvs (Sum.inl k)=none) ∨ ∃ d v,pA l k=some d∧ju kvs (Sum.inl k)=some v∧RD K ρ H d v
  | [],[],_,_=>.inl ⟨rfl,rfl⟩
  | [],_ :: _,h,_=>by simp at h
  | _ :: _,[],h,_=>by simp at h
  | (j,d) :: l,(kk,v) :: kvs,h1,h2=>by
    simp only [List.map_cons,List.cons.injEq] at h1
    simp only [List.map_cons,RDs] at h2
    obtain⟨v',r',e,q1,q2⟩:=h2
    cases e
    obtain⟨e1,e2⟩:=h1
    subst e1
    by_cases e:j=k
    · subst e
      exact .inr ⟨d,v,by simp [pA],by simp [ju],q1⟩
    · have ih:=uy k e2 q2
      have a1:pA ((j,d) :: l) k=pA l k:=by simp [pA,e]
      have a2:ju ((Sum.inl j,v) :: kvs) (Sum.inl k)=ju kvs (Sum.inl k):=lG (fun z=>e (by cases z;rfl))
      rw [a1,a2]
      exact ih
theorem uz (k:Int):∀ {l:List (Int × D)} {kvs:List (Key × V)},kvs.map (·.1)=l.map (fun p=>(Sum.inl p.1:Key))→(kvs.any fun kv=>decide (kv.1=(Sum.inl k:Key)))=l.any fun p=>decide (p.1=k)
  | [],[],_=>rfl
  | [],_ :: _,h=>by simp at h
  | _ :: _,[],h=>by simp at h
  | (j,d) :: l,(kk,v) :: kvs,h1=>by
    simp only [List.map_cons,List.cons.injEq] at h1
    obtain⟨e1,e2⟩:=h1
    subst e1
    simp [uz k e2]
theorem uA (k:Int){d0:D}{v0:V}(hv:RD K ρ H d0 v0):∀ {l:List (Int × D)} {kvs:List (Key × V)},kvs.map (·.1)=l.map (fun p=>(Sum.inl p.1:Key))→RDs K ρ H (l.map (·.2)) (kvs.map (·.2)) →
    (kvs.map fun kv=>if kv.1=(Sum.inl k:Key) then (kv.1,v0) else kv).map (·.1)=(l.map fun p=>if p.1=k then (p.1,d0) else p).map (fun p=>(Sum.inl p.1:Key))∧RDs K ρ H ((l.map fun p=>if p.1=k then (p.1,d0) else p).map (·.2)) ((kvs.map fun kv=>if kv.1=(Sum.inl k:Key) then (kv.1,v0) else kv).map (·.2))
  | [],[],_,_=>⟨rfl,RDs.nil⟩
  | [],_ :: _,h,_=>by simp at h
  | _ :: _,[],h,_=>by simp at h
  | (j,d) :: l,(kk,v) :: kvs,h1,h2=>by
    simp only [List.map_cons,List.cons.injEq] at h1
    simp only [List.map_cons,RDs] at h2
    obtain⟨v',r',e,q1,q2⟩:=h2
    cases e
    obtain⟨e1,e2⟩:=h1
    subst e1
    obtain⟨i1,i2⟩:=uA k hv e2 q2
    by_cases e:j=k
    · subst e
      simp only [List.map_cons,if_true]
      exact⟨by rw [i1],RDs.cons hv i2⟩
    · have e' : ¬ (Sum.inl j:Key)=Sum.inl k:=fun z=>e (by cases z;rfl)
      simp only [List.map_cons,if_neg e,if_neg e']
      exact⟨by rw [i1],RDs.cons q1 i2⟩
theorem A3 (k:Int){d0:D}{v0:V}(hv:RD K ρ H d0 v0){l:List (Int × D)}{kvs:List (Key × V)}(h1:kvs.map (·.1)=l.map (fun p=>(Sum.inl p.1:Key)))(h2:RDs K ρ H (l.map (·.2)) (kvs.map (·.2))) :
    (kN kvs (Sum.inl k) v0).map (·.1)=(wa l k d0).map (fun p=>(Sum.inl p.1:Key))∧RDs K ρ H ((wa l k d0).map (·.2)) ((kN kvs (Sum.inl k) v0).map (·.2)):=by
  unfold kN wa
  rw [uz k h1]
  split
  · exact uA k hv h1 h2
  · refine⟨by simp [h1],?_⟩
    rw [ZR,ZR]
    exact RDs.append h2 (RDs.cons hv RDs.nil)
end
section
variable {X:Cx} {pos p:Pos}
theorem Dz:ME X (.Dict [] [] pos) rA:=by
  refine PE.imp A2 fun σ H Q ⟨ρ,σd,hd,rs,pp⟩=>fun q hq => ?_
  have sm:=cj (o:=HO.dK []) hq
  have hn:=rs.hp.free hq
  have rh:=(rs.hp.same sm).allocD (p:=q) (l:=[]) ⟨[],aT,rfl,RDs.nil⟩ hn
  have ex:Ext ρ H (ρ ++ [q]) (upd H q (.dK [])):=Ext.alloc hq
  refine bQ.at (R:=rD X.K) (a:=.ref hd.length) pp ex (rs.ext ex rh) ?_
  simp only [rD,RD]
  refine⟨q,?_,rfl⟩
  rw [← rs.hp.len]
  simp
def HF (K:ZX):R2:=fun x y H Q=>∃ a o,y=.ref a∧AZ H a x o∧Q (.bl o.isSome) H
theorem F4 (hu:X.A.units + 1 < cLine):OpR X (compareOp .In) (HF X.K):=by
  intro pins s σ H x y v u Q I rx ry h
  obtain⟨a,o,rfl,g,q⟩:=h
  obtain rfl:u=Value.ref a:=ry
  exact IR hu I g rx fun s3 I3=>⟨.bl o.isSome,H,I3,rfl,q⟩
theorem F5 {K:ZX}:Og K yQ (HF K):=by
  intro ρ H σd hd σ d k v w Q rs rv rw' pp
  cases d<;>try exact pp.elim
  cases k<;>try exact pp.elim
  rename_i i n
  simp only [yQ] at pp
  simp only [RD] at rv rw'
  subst rv
  obtain⟨a,ha,rfl⟩:=rw'
  cases c:hd[n]? with
  | none=>rw [c] at pp;exact pp.elim
  | some cell =>
    rw [c] at pp
    cases cell with
    | lst l=>exact pp.elim
    | dct l =>
      simp only at pp
      obtain⟨kvs,q1,q2,q3⟩:=rs.hp.cel n _ a c ha
      refine⟨a,ju kvs (Sum.inl i),rfl,AZ.k (k:=Sum.inl i) q1,?_⟩
      have e:(ju kvs (Sum.inl i)).isSome=(pA l i).isSome:=by
        rcases uy i q2 q3 with ⟨e1,e2⟩|⟨d,v,e1,e2,_⟩<;>rw [e1,e2]<;>rfl
      rw [e]
      exact pp.here rs (by simp only [rD,RD])
def HG:V→V→V→Hp→(Hp→Prop)→Prop:=fun o i v H Q=>∃ a H',o=.ref a∧A0 H a i v H'∧Q H'
theorem A4 (hu:X.A.units + 1 < cLine):Fi X HG:=by
  intro pins s σ H o i v ov iv u Q I ro ri rv h
  obtain⟨a,H',rfl,g,q⟩:=h
  obtain rfl:ov=Value.ref a:=ro
  exact yR hu I g ri rv fun s' I'=>⟨H',I',q⟩
theorem xH {o i e:Expr}{fo fi fe:EF}{p2:Pos}(hu:X.A.units + 1 < cLine)(he:ME X e fe)(ho:ME X o fo)(hi:ME X i fi)(hs:swapsWithSole [.Subscript o i p2] e pos.line X.env=pure false:=by rfl)(hw:swappedStores [.Subscript o i p2] e X.env=pure none:=by rfl)
    (h1:(assignEach [.Subscript o i p2] X.env).map (·.2)=[assign (.Subscript o i p2) X.env]:=by rfl) (ha:∀ v,assign (.Subscript o i p2) X.env v=(do
      let ov ← holding [v] (eval o X.env)
      let iv ← holding [v,ov] (eval i X.env)
      standAt p2
      holding [v,ov,iv] (setItem ov iv v)
      release [v,ov,iv] []):=by intro _;rfl):MS X (.Assign [.Subscript o i p2] e pos) (pB fo fi fe):=by
  refine PS.imp (vN he (An ho hi (A4 hu) ha) hs hw h1) fun En σ H ⟨ρ,σd,hd,rs,p⟩=>⟨ρ,σd,hd,rs,(cC.outE p).imp fun v H1 ⟨ρ1,d,hd1,e1,rs1,rv,p1⟩ => ?_⟩
  refine⟨ρ1,σd,hd1,rs1,(cC.outE p1).imp fun vo H2 ⟨ρ2,dO,hd2,e2,rs2,ro,p2⟩ => ?_⟩
  refine⟨ρ2,σd,hd2,rs2,(cC.outE p2).imp fun vi H3 ⟨ρ3,di,hd3,e3,rs3,ri,p3⟩ => ?_⟩
  have rv3:=(rv.mono (rs1.hp.kp e2)).mono (rs2.hp.kp e3)
  have ro3:=ro.mono (rs2.hp.kp e3)
  cases dO with
  | ref n =>
    cases di with
    | int j =>
      simp only at p3
      cases c:hd3[n]? with
      | none=>rw [c] at p3;exact p3.elim
      | some cell =>
        rw [c] at p3
        cases cell with
        | lst l=>exact p3.elim
        | dct l =>
          simp only at p3
          split at p3
          · rename_i hz
            simp only [RD] at ro3 ri
            subst ri
            obtain⟨a,ha,rfl⟩:=ro3
            obtain⟨kvs,q1,q2,q3⟩:=rs3.hp.cel n _ a c ha
            have hl:kvs.length=l.length:=by have:=congrArg List.length q2;simpa using this
            refine⟨a,_,rfl,A0.k (k:=Sum.inl j) q1 (by rw [hl];exact Nat.lt_of_lt_of_le hz (by rw [sizeLine_eq];decide)),?_⟩
            have hn:n < hd3.length:=(List.getElem?_eq_some_iff.mp c).1
            obtain⟨u1,u2⟩:=A3 j rv3 q2 q3
            have rh:=rs3.hp.writeD ha hn u1 u2
            have ex:Ext ρ3 H3 ρ3 (upd H3 a (.dK (kN kvs (Sum.inl j) v))):=Ext.write (ZK ha)
            exact p3 σ _ ρ3 ex (rs3.ext ex rh)
          · exact p3.elim
    | _=>exact p3.elim
  | _=>exact p3.elim
end
end Fm
namespace Fm
open PySem PySem.Spec L2 PySem.W PyProof.Rows
section
variable {X:Cx} {pos p:Pos}
theorem rE {P:Program}{w:World}{H:Hp}{h h':Heap}(hok:HOk P w H h)(hk:∀ b o xs,H b=some (.tup xs)→h.get? b=some o→h'.get? b=some o):∀ {vs:List V} {rs:List (List Int)} {its:List Value},cD H vs rs→aS vs its→(rs.all fun x => !x.isEmpty)=true →
    ∃ fs,KatTups h' its fs∧fs.length=its.length ∧ ∀ v∈fs,∃ i t,v=Value.int i t
  | _,_,_,.nil,.nil,_=>⟨[],.nil,rfl,fun v hv=>by simp at hv⟩
  | _,_,_,.cons (a:=a) (r:=r) ha t,.cons rv rt,hne=>by
    simp only [List.all_cons,Bool.and_eq_true,Bool.not_eq_true'] at hne
    obtain⟨fs,h1,h2,h3⟩:=rE hok hk t rt hne.2
    obtain⟨z,its0,r0,o,ho,hc,n,hd⟩:=hok a _ ha
    cases r with
    | nil=>simp at hne
    | cons i r =>
      cases r0 with
      | cons q0 qr =>
        rename_i u us
        obtain⟨tk,rfl⟩:=sI q0
        cases rv
        refine⟨.int i tk :: fs,KatTups.cons (hk a o _ ha ho) hc hd (by simp) h1,by simp [h2],fun v hv => ?_⟩
        rcases List.mem_cons.mp hv with rfl|hv
        · exact⟨i,tk,rfl⟩
        · exact h3 v hv
theorem F6 {pins:List (Addr × Obj)}{σ:L2.St}{H:Hp}{s:Shared}{B:Addr}{vs:List V}{rs:List (List Int)}{A:Around}{E:Value→Shared→Prop}{Q:Value→Shared→Prop}(I:Inv X pins σ H s)(hB:H B=some (.lst vs))(h64:vs.length < 64)(rv:cD H vs rs)(nd:rs.Nodup)(hne:(rs.all fun x => !x.isEmpty)=true)
    (q:∀ vs' s',cD H vs' (cY rs)→Inv X pins σ (upd H B (.lst vs')) s'→Q .none s'):wpAny (model X.prog X.w) A (call (.builtin "list.sort") [.ref B]) Q E s:=by
  obtain⟨hz,its,n0,rvs,ho⟩:=I.hok B _ hB
  have hlen:its.length=vs.length:=rvs.length.symm
  obtain⟨m,hm,_⟩:=id I.loc
  have nL:∀ b u,H b=some u→b≠X.env.locals:=fun b u e z=>by rw [z,I.free] at e;cases e
  have BL:=nL B _ hB
  have selfUpd:∀ vs',vs'=vs→upd H B (.lst vs')=H:=fun vs' e=>by
    subst e
    funext b
    by_cases z:b=B
    · subst z;rw [aT,hB]
    · rw [ay z]
  have after:∀ (h2:Heap) (its':List Value) (vs':List V) (c t':Nat),cD H vs' (cY rs)→aS vs' its'→vs'.length≤sizeLine→h2.get? B=some (PySem.W.listOf its'.toArray c)→(∀ b o,b≠X.env.locals→b≠B→s.heap.get? b=some o→h2.get? b=some o)→h2.Ns X.env.locals m→Inv X pins σ (upd H B (.lst vs')) { s with heap:=h2,toks:=t' }:=fun h2 its' vs' c t' rv' rvs' hz' hB2 keep2 ns2=>by
    have I2:L2.Inv X pins σ (upd H B (.lst vs')) { s with heap:=h2,gens:=s.gens,drawn:=s.drawn,toks:=t' }:=by
      refine I.step (g':=s.gens) (d':=s.drawn) (t':=t') (ch:=[]) (fun _ z=>nomatch z) (fun b o hb _ _ e n=>keep2 b o hb (fun z=>by subst z;rw [hB] at n;cases n) e) (fun b o hb _ _ e n=>⟨o.slots,keep2 b o hb (fun z=>by subst z;rw [hB] at n;cases n) e⟩) (fun b o _ e n=>by rw [ay (fun z=>by subst z;rw [hB] at n;cases n)];exact n) (fun b o _ e => ?_)
        (fun b ys e=>by rw [ay (fun z=>by subst z;rw [hB] at e;cases e)];exact e) (fun b o u e=>by rw [ay (fun z=>by subst z;rw [hB] at e;cases e)];exact e) (fun b ps e=>⟨#[],by rw [ay (fun z=>by subst z;rw [hB] at e;cases e),e];simp⟩) (fun m' hm'=>by rw [FV hm' hm];exact ns2) (fun b u e => ?_) I.bare
      · by_cases hb:b=X.env.locals
        · obtain⟨o',_,_,ho',_⟩:=ns2
          rw [hb];exact⟨o',ho'⟩
        · by_cases hb2:b=B
          · subst hb2;exact⟨_,hB2⟩
          · exact⟨o,keep2 b o hb hb2 e⟩
      · by_cases hb:b=B
        · subst hb
          rw [aT] at e
          cases e
          exact⟨hz',its',c,rvs',hB2⟩
        · rw [ay hb] at e
          refine (I.hok b u e).stay (fun c v hc z => ?_) (fun c z=>by rw [ay (fun y=>by subst y;rw [hB] at z;cases z)];exact z) fun c ys z=>by rw [ay (fun y=>by subst y;rw [hB] at z;cases z)];exact z
          rcases hc with w|w
          · subst w;exact keep2 c v (nL c _ e) hb z
          · exact keep2 c v (nL c _ w) (fun y=>by subst y;rw [hB] at w;cases w) z
    exact I2
  by_cases h2:its.length < 2
  · have hs:cY rs=rs:=by
      have:rs.length < 2:=by rw [← rv.length];omega
      match rs,this with
      | [],_=>rfl
      | [_],_=>rfl
    have ha:B < s.heap.objs.size:=ZI ho
    have ho':s.heap.get? B=some (seqObj "list" its.toArray n0):=ho
    refine wpAny_call_entry slot_list_sort ⟨_,ho,rfl⟩ entry_list_sort (v7 ho' h2 ⟨_,rfl,?_⟩) (args_list_sort _)
    obtain⟨e1,ho1⟩ : ∃ e1,(s.heap.update B (Obj.mapSeq fun _ => #[])).get? B=some (seqObj "list" #[] e1):=⟨_,get?_update_seq ho' (fun _ => #[])⟩
    have ho6:(((s.heap.update B (Obj.mapSeq fun _ => #[])).push (seqObj "tuple" its.toArray 0)).push (seqObj "list" #[] 0)).get? B=some (seqObj "list" #[] e1):=by
      rw [Heap.get?_push_ne _ _ _ (by rw [size_push',Heap.size_update];exact ZN (Nat.lt_succ_of_lt ha)),Heap.get?_push_ne _ _ _ (by rw [Heap.size_update];exact ZN ha)]
      exact ho1
    have keepS:∀ b o,b≠B→s.heap.get? b=some o→(sortedHeap s.heap B its its.toArray).get? b=some o:=fun b o hb e=>by
      have hlt:b < s.heap.objs.size:=ZI e
      unfold sortedHeap
      rw [Heap.get?_update_ne _ _ _ _ hb,Heap.get?_push_ne _ _ _ (by rw [size_push',Heap.size_update];exact ZN (Nat.lt_succ_of_lt hlt)),Heap.get?_push_ne _ _ _ (by rw [Heap.size_update];exact ZN hlt),Heap.get?_update_ne _ _ _ _ hb]
      exact e
    have ns2:(sortedHeap s.heap B its its.toArray).Ns X.env.locals m:=by
      obtain⟨o',es,ep,h1,r⟩:=hm
      exact⟨o',es,ep,keepS _ _ (Ne.symm BL) h1,r⟩
    refine q vs _ (by rw [hs];exact rv) (after _ its vs _ s.toks (by rw [hs];exact rv) rvs hz (get?_update_seq ho6 _) (fun b o _ hb e=>keepS b o hb e) ns2)
  · have N0:News (Att.noObjs s.heap) X.env.locals s.heap ((B,PySem.W.listOf its.toArray n0) :: Att.ledger s.heap X.env.locals B):=fun ⟨b,o⟩ hb=>by
      rcases List.mem_cons.mp hb with e|hb
      · cases e
        exact⟨ho,BL,Att.noObjs_get _ _⟩
      · obtain⟨n1,n2,e⟩:=Att.mem_ledger.mp hb
        exact⟨e,n1,Att.noObjs_get _ _⟩
    have hDn:∀ q∈Att.ledger s.heap X.env.locals B,q.1≠B:=fun ⟨b,o⟩ hq=>(Att.mem_ledger.mp hq).2.1
    refine kat_lsort (vs:=its) (Att.fr_all hm) N0 (UpdF.head hDn) (by simp) (by omega) (by omega) fun e1 h' F' N' => ?_
    have inN:∀ b o,b≠X.env.locals→b≠B→s.heap.get? b=some o→(b,o)∈Att.ledger s.heap X.env.locals B:=fun b o hb hb2 e=>Att.mem_ledger.mpr ⟨hb,hb2,e⟩
    have keep':∀ b o,b≠X.env.locals→b≠B→s.heap.get? b=some o→h'.get? b=some o:=fun b o hb hb2 e=>(N' (b,o) (ZW _ (inN b o hb hb2 e))).1
    obtain⟨fs,t1,t2,t3⟩:=rE I.hok (h':=h') (fun b o xs hb e=>keep' b o (nL b _ hb) (fun z=>by subst z;rw [hB] at hb;cases hb) e) rv rvs hne
    refine kat_kind (s:={ s with heap:=h' }) (T:=.type "int") t1 (by omega) (fun v hv => ?_) rfl ?_
    · obtain⟨i,t,rfl⟩:=t3 v hv
      exact Looks.of_pure rfl
    · have hT:(Value.type "int" != Value.type "tuple")=true:=by decide
      rw [hT]
      have hrl:rs.length=its.length:=by rw [← rv.length,hlen]
      have dif:∀ i j,i < its.length→j < its.length→i≠j→rs.getD i []≠rs.getD j []:=fun i j hi hj hij z=>by
        have e1:rs.getD i [] = rs[i]'(by omega):=by simp [List.getD,show i < rs.length by omega]
        have e2:rs.getD j [] = rs[j]'(by omega):=by simp [List.getD,show j < rs.length by omega]
        rw [e1,e2] at z
        exact hij ((List.getElem_inj nd).mp z)
      have O:Ord (fun i j=>Fm.lexLt (rs.getD i []) (rs.getD j [])) its.length:=⟨fun i j _ _ h=>jH h,fun i j k _ _ _ h h'=>hJ h h',fun i j hi hj hij h=>kh (dif i j hi hj hij) h⟩
      refine uw O (fun i j hi hj C hC => ?_) (by omega) fun pp g srt => ?_
      · unfold kas_ask
        have at':∀ i,i < its.length → ∃ b,its.getD i Value.none=.ref b ∧ ∃ (o:Obj) (zs:List Value) (n:Nat),h'.get? b=some o∧o.data=.seq zs.toArray n∧IntsAre zs (rs.getD i []):=fun i hi=>by
          have hv:vs[i]? = some (vs[i]'(by omega)):=by simp [show i < vs.length by omega]
          obtain⟨b,e1,e2⟩:=rv.get hv
          obtain⟨u,hu,ru⟩:=rvs.get hv
          rw [e1] at ru
          cases (show u=Value.ref b from ru)
          obtain⟨z,zs,r0,o,ho,hc,n,hd⟩:=I.hok b _ e2
          exact⟨b,by simp [List.getD,hu],o,zs,n,keep' b o (nL b _ e2) (fun z=>by subst z;rw [hB] at e2;cases e2) ho,hd,kF r0⟩
        obtain⟨b1,x1,o1,z1,n1,y1,d1,i1⟩:=at' i hi
        obtain⟨b2,x2,o2,z2,n2,y2,d2,i2⟩:=at' j hj
        rw [x1,x2]
        refine kat_lt (s:={ s with heap:=h' }) y1 d1 y2 d2 ?_
        have:=FU (prog:=X.prog) (w:=X.w) (A:=A.in1) (s:={ s with heap:=h' }) (Q:=C) (rs.getD i []) (rs.getD j []) 0 i1 i2 hC
        simpa using this
      · have pmL:pp.toList.Perm (List.range its.length):=by simpa using Array.perm_iff_toList_perm.mp g.pm
        have inR:∀ i∈pp.toList,i < vs.length:=fun i hi=>by
          have:=pmL.mem_iff.mp hi
          rw [← hlen];simpa using this
        obtain⟨vs',hvs'⟩ : ∃ vs',vs'=pp.toList.map fun i=>vs.getD i .non:=⟨_,rfl⟩
        obtain⟨its',hits'⟩ : ∃ its',its'=pp.toList.map fun i=>its.getD i Value.none:=⟨_,rfl⟩
        have rv':cD H vs' (cY rs):=by
          have e:(pp.toList.map fun i=>rs.getD i [])=cY rs:=by
            refine yP (?_:List.Perm _ _) ?_ (jI nd)
            · refine ((pmL.map fun i=>rs.getD i []).trans ?_).trans (ii rs).symm
              have:((List.range its.length).map fun i=>rs.getD i [])=rs:=by
                apply List.ext_getElem?
                intro i
                by_cases hi:i < rs.length
                · have:i < its.length:=by omega
                  simp [List.getD,hi,this]
                · have : ¬ i < its.length:=by omega
                  simp [hi,this]
              rw [this]
            · rw [List.pairwise_map]
              rw [List.pairwise_iff_getElem]
              intro i j hi hj hij
              have s1:=srt i j hij (by rw [← g.sz];simpa using hj)
              have g1:pp.getD i 0=pp.toList[i]:=by simp [Array.getD,show i < pp.size by simpa using hi]
              have g2:pp.getD j 0=pp.toList[j]:=by simp [Array.getD,show j < pp.size by simpa using hj]
              rw [g1,g2] at s1
              exact s1
          have:=rv.pick pp.toList inR
          rw [e,← hvs'] at this
          exact this
        have rvs':aS vs' its':=by rw [hvs',hits'];exact aS.pick rvs pp.toList inR
        have hz':vs'.length≤sizeLine:=by
          have l1:vs'.length=its.length:=by rw [hvs',ZA,pmL.length_eq,ZO]
          rw [l1,hlen];exact hz
        rw [← hits']
        refine KasFin.intro F' N' (UpdF.head hDn) fun h2 c F2 N2 => ?_
        have hD2:h2.get? B=some (PySem.W.listOf its'.toArray c):=(N2 (B,_) (ZV ..)).1
        have keep2:∀ b o,b≠X.env.locals→b≠B→s.heap.get? b=some o→h2.get? b=some o:=fun b o hb hb2 e=>(N2 (b,o) (ZW _ (inN b o hb hb2 e))).1
        exact q vs' _ rv' (after h2 its' vs' c s.toks rv' rvs' hz' hD2 keep2 F2.ns)
end
end Fm
namespace Fm
open PySem PySem.Spec L2 PySem.W PyProof.Rows
section
variable {X:Cx} {pos p:Pos}
def sL (p d:Addr):Heap→Prop:=fun h=>h.get? p=some { cls:=.type "dict_items",data:=.fields #[.ref d] }
def F7 (td:TE):TE:=fun σ H Q=>td σ H fun x H1=>∃ a kvs,x=.ref a∧H1 a=some (.dK kvs) ∧ ∀ p,H1 p=none→Q (.ref p) (upd H1 p (.ext (sL p a)))
theorem A5 {o:Expr} {td:TE} {apos cpos:Pos} (ho:PE X o td) (hbase:attributeBase o "items" X.env (eval o X.env)=eval o X.env:=by rfl) (hline:(apos.endLine == cpos.line)=true:=by rfl) :
    PE X (.Call (.Attribute o "items" apos) [] [] cpos) (F7 td):=by
  intro pins s σ H Q I h
  refine wpAny_Call_method0_late hbase hline (thn (ho pins s σ H _ I h) fun v s1 ⟨x,H1,I1,r1,a,kvs,ex,e,q1⟩ => ?_)
  subst ex
  obtain rfl:v=Value.ref a:=r1
  obtain⟨t1,t2,hs⟩:=F3 I1 (.inl ⟨kvs,.inl e⟩)
  obtain⟨_,hd,vs,_,dd⟩:=AX I1.hok e
  refine⟨"dict", "dict.items",PySem.F.plainAttrs_dict,PySem.F.slot_dict_items,PySem.F.type_dict_items,t1,t2,Calls.callWith_builtin rfl (PySem.evalArgs_none ?_)⟩
  refine call_meetsIn PySem.F.slot_dict_items t1 PySem.F.entry_dict_items (PySem.F.args_dict_items_1 _) (meets_dict_items (cU X.prog X.w) a hd) ⟨⟨vs,dd⟩,?_⟩
  refine⟨.ref s1.heap.objs.size,_,I1.laid (t':=s1.toks) (o:=.ext (sL s1.heap.objs.size a)) (fun b ob q=>ZH _ q) (ZL _) ⟨ZJ _ rfl,⟨_,ZJ _ rfl⟩,fun h1 h2 f k=>k _ f⟩,rfl,q1 _ (I1.hok.fresh (ZL _))⟩
theorem A6 {pins:List (Addr × Obj)}{σ:L2.St}{H H':Hp}{s:Shared}{h':Heap}{t':Nat}(I:Inv X pins σ H s)(keep:∀ b o,s.heap.get? b=some o→h'.get? b=some o)(sm:jr H H')(fresh:∀ b,b < s.heap.objs.size→H' b=H b)(new:∀ b u,s.heap.objs.size≤b→H' b=some u→em X.prog X.w H' h' b u ∧ ∀ c,u ≠ .own c):Inv X pins σ H' { s with heap:=h',toks:=t' }:=by
  have I2:L2.Inv X pins σ H' { s with heap:=h',gens:=s.gens,drawn:=s.drawn,toks:=t' }:=by
    refine I.step (g':=s.gens) (d':=s.drawn) (t':=t') (ch:=[]) (fun _ z=>nomatch z) (fun b o _ _ _ e _=>keep b o e) (fun b o _ _ _ e _=>⟨o.slots,keep b o e⟩) (fun b o _ e n=>by rw [fresh b (ZI e)];exact n) (fun b o _ e=>⟨o,keep b o e⟩)
      (fun b ys e=>sm _ _ e) (fun b o u e=>sm _ _ e) (fun b ps e=>⟨#[],by rw [sm _ _ e];simp⟩) (fun m hm => ?_) (fun b u e => ?_) I.bare
    · obtain⟨o',es,ep,h1,r⟩:=hm
      exact⟨o',es,ep,keep _ _ h1,r⟩
    · by_cases hb:b < s.heap.objs.size
      · rw [fresh b hb] at e
        refine (I.hok b u e).stay (fun c v hc z=>keep c v z) (fun c z=>sm _ _ z) fun c ys z=>sm _ _ z
      · exact (new b u (Nat.le_of_not_lt hb) e).1
  exact I2
def ov:List Addr→List (List Int)→Hp→Hp
  | a :: as,r :: rs,H=>upd (ov as rs H) a (.tup (r.map V.int))
  | _,_,H=>H
theorem xI {b:Addr}{H:Hp}:∀ {as:List Addr} {rs:List (List Int)},b∉as→ov as rs H b=H b
  | [],_,_=>rfl
  | a :: as,[],_=>rfl
  | a :: as,r :: rs,h=>by
    have h1:b≠a:=fun z=>h (by simp [z])
    have h2:b∉as:=fun z=>h (by simp [z])
    show upd _ _ _ b=_
    rw [ay h1,xI h2]
theorem A7 {H:Hp}:∀ {as:List Addr} {rs:List (List Int)} {j:Nat} {a:Addr} {r:List Int},as.Nodup→as[j]? = some a→rs[j]? = some r→ov as rs H a=some (.tup (r.map V.int))
  | [],_,_,_,_,_,e,_=>by simp at e
  | a :: as,[],_,_,_,_,_,e=>by simp at e
  | a :: as,r :: rs,0,_,_,_,e,e'=>by simp at e e';subst e e';exact aT
  | a :: as,r :: rs,j + 1,b,q,nd,e,e'=>by
    obtain⟨n1,n2⟩:=List.nodup_cons.mp nd
    have e:as[j]? = some b:=by simpa using e
    have hb:b≠a:=fun z=>n1 (by rw [← z];exact ZK e)
    show upd _ _ _ b=_
    rw [ay hb]
    exact A7 n2 e (by simpa using e')
theorem cD.mono {H H':Hp}(k:∀ a xs,H a=some (.tup xs)→H' a=some (.tup xs)):∀ {vs:List V} {rs:List (List Int)},cD H vs rs→cD H' vs rs
  | _,_,.nil=>.nil
  | _,_,.cons h t=>.cons (k _ _ h) (cD.mono k t)
theorem xJ {H':Hp}:∀ {as:List Addr} {rs:List (List Int)},as.length=rs.length→(∀ (j:Nat) a r,as[j]? = some a→rs[j]? = some r→H' a=some (.tup (r.map V.int)))→cD H' (as.map V.ref) rs
  | [],[],_,_=>.nil
  | [],_ :: _,h,_=>by simp at h
  | _ :: _,[],h,_=>by simp at h
  | a :: as,r :: rs,h,f=>.cons (f 0 a r rfl rfl) (xJ (by simpa using h) fun j b q e e'=>f (j + 1) b q (by simpa using e) (by simpa using e'))
def F8:List V→Hp→VK→Prop:=fun xs H Q=>∃ (p a:Addr) (ps:List (Int × Int)),xs=[.ref p]∧H p=some (.ext (sL p a))∧H a=some (.dK (ps.map fun q=>((Sum.inl q.1:Key),V.int q.2)))∧ps.length < 64∧(ps.map fun q=>[q.1,q.2]).Nodup ∧
  ∀ H' q vs',jr H H'→H q=none→H' q=some (.lst vs')→cD H' vs' (cY (ps.map fun q=>[q.1,q.2]))→Q (.ref q) H'
theorem HH {κ : Type}{kvs:List (κ × V)}{vs:List (κ × Value)}(r:KV kvs vs):∀ {j:Nat} {k : κ} {x:Value} {k' : κ} {v:V},vs[j]? = some (k,x)→kvs[j]? = some (k',v)→k'=k∧bP v x:=by
  induction r with
  | nil=>intro j k x k' v e;simp at e
  | cons h t ih =>
    intro j k x k' v e e'
    cases j with
    | zero=>simp at e e';subst e e';exact h
    | succ j=>exact ih (by simpa using e) (by simpa using e')
theorem wc (hc:X.calm=true):fX X (.builtin "sorted") F8:=by
  intro pins s σ H xs us Q I r h
  obtain⟨p,a,ps,rfl,hp,ha,h64,nd,q⟩:=h
  obtain⟨u,rfl,ru⟩:=aS.one r
  cases (show u=Value.ref p from ru)
  obtain⟨rs,hrs⟩ : ∃ rs,rs=ps.map fun q=>[q.1,q.2]:=⟨_,rfl⟩
  rw [← hrs] at nd q
  have view:sL p a s.heap:=(I.hok p _ hp).1
  obtain⟨hz,_,vs,rel,dd⟩:=AX I.hok ha
  have lv:vs.length=ps.length:=by rw [← rel.length];simp
  obtain⟨o,es,ep,d1,d2⟩:=id dd
  have dat:s.heap.DictAt (cU X.prog X.w) a vs ep:=⟨o,es,d1,d2⟩
  refine Calls.call_function_entry kind_sorted plain_sorted entry_sorted (args_sorted1 _) ?_
  unfold Builtin.«sorted»
  refine wpAny_bind (m:=checkCount "sorted" 1 1 _) (wpAny_pure ?_)
  refine wpAny_bind (kdx_collect (A:=X.A.in1) (knd:=cU X.prog X.w) (kvs:=vs) (ep:=ep) (I.ok.hd hc) ⟨_,view,rfl,rfl⟩ dat (by rw [lv,sizeLine_eq];omega) fun h' tk as hk hl hG => ?_)
  have ndA:as.Nodup:=hG.rise.imp fun h=>ZN h
  have lr:as.length=rs.length:=by rw [hl,lv,hrs];simp
  have newA:∀ b∈as,s.heap.objs.size≤b:=fun b hb=>Nat.le_of_lt (hG.above b hb)
  have sm:jr H (ov as rs H):=fun b u e=>by
    rw [xI]
    · exact e
    · intro z
      exact absurd (I.hok.lt e) (Nat.not_lt.mpr (newA b z))
  have I1:Inv X pins σ (ov as rs H) { s with heap:=h',toks:=tk }:=by
    refine A6 I hk sm (fun b hb=>xI fun z=>absurd hb (Nat.not_lt.mpr (newA b z))) fun b u hb e => ?_
    by_cases hm:b∈as
    · obtain⟨j,hj⟩:=List.getElem?_of_mem hm
      have hjl:j < as.length:=(List.getElem?_eq_some_iff.mp hj).1
      obtain⟨key,k,x,e1,e2,e3⟩:=hG.pairs j b hj
      obtain⟨pq,hpq⟩ : ∃ pq,ps[j]? = some pq:=⟨ps[j]'(by omega),by simp [show j < ps.length by omega]⟩
      have hr:rs[j]? = some [pq.1,pq.2]:=by rw [hrs,ZQ,hpq];rfl
      rw [A7 ndA hj hr] at e
      cases e
      refine⟨?_,fun c z=>by cases z⟩
      obtain⟨hkk,rx⟩:=HH rel e1 (show (ps.map fun q=>((Sum.inl q.1:Key),V.int q.2))[j]? = some (Sum.inl pq.1,V.int pq.2) by rw [ZQ,hpq];rfl)
      obtain⟨t,rfl⟩:=sI rx
      subst hkk
      have:∃ t',key=Value.int pq.1 t':=Value.isInt_shape e2
      obtain⟨t',rfl⟩:=this
      exact⟨by simp [sizeLine_eq],[_,_],.cons ⟨t',rfl⟩ (.cons ⟨t,rfl⟩ .nil),_,e3,rfl,_,rfl⟩
    · rw [xI hm] at e
      exact absurd (I.hok.lt e) (Nat.not_lt.mpr hb)
  refine wpAny_bind (wpAny_newList ?_ (by rw [ZA,hl,lv,sizeLine_eq];omega))
  have rvA:aS (as.map V.ref) (as.map Value.ref):=by
    clear hl hG ndA lr newA sm I1 q
    induction as with
    | nil=>exact .nil
    | cons a as ih=>exact .cons rfl ih
  have I2:Inv X pins σ (upd (ov as rs H) h'.objs.size (.lst (as.map V.ref))) { s with heap:=h'.push { cls:=.type "list",data:=.seq (as.map Value.ref).toArray },toks:=tk }:=I1.lnew (t':=tk) rvA (by rw [ZA,hl,lv,sizeLine_eq];omega)
  have fr:ov as rs H h'.objs.size=none:=I1.hok.fresh (ZL _)
  have sm2:jr (ov as rs H) (upd (ov as rs H) h'.objs.size (.lst (as.map V.ref))):=cj fr
  have rowsA:cD (upd (ov as rs H) h'.objs.size (.lst (as.map V.ref))) (as.map V.ref) rs:=xJ lr fun j b r e e'=>sm2 _ _ (A7 ndA e e')
  have hne:(rs.all fun x => !x.isEmpty)=true:=by rw [hrs,List.all_map,List.all_eq_true];intro q _;rfl
  refine wpAny_bind (wpAny_holding (F6 (A:=X.A.in1) I2 aT (by rw [ZA,hl,lv];exact h64) rowsA nd hne fun vs' s' rv' I3=>wpAny_pure ⟨_,rfl,?_⟩))
  have uu:upd (upd (ov as rs H) h'.objs.size (.lst (as.map V.ref))) h'.objs.size (.lst vs')=upd (ov as rs H) h'.objs.size (.lst vs'):=by
    funext b
    by_cases z:b=h'.objs.size
    · subst z;rw [aT,aT]
    · rw [ay z,ay z,ay z]
  rw [uu] at I3
  refine⟨.ref h'.objs.size,_,I3,rfl,q _ _ vs' (fun b u e=>cj fr _ _ (sm _ _ e)) ?_ aT ?_⟩
  · cases e:H h'.objs.size with
    | none=>rfl
    | some u=>rw [sm _ _ e] at fr;cases fr
  · refine rv'.mono fun b ys e => ?_
    have hb:b≠h'.objs.size:=fun z=>by subst z;rw [aT] at e;cases e
    rw [ay hb] at e ⊢
    exact e
theorem nP:∀ {l:List (Int × D)} {r:List (List Int)},eY l=some r → ∃ ps:List (Int × Int),l=ps.map (fun q=>(q.1,D.int q.2))∧r=ps.map fun q=>[q.1,q.2]
  | [],r,e=>by simp only [eY] at e;cases e;exact⟨[],rfl,rfl⟩
  | (k,d) :: l,r,e=>by
    cases d<;>simp only [eY] at e<;>try (cases e;done)
    rename_i v
    cases c:eY l with
    | none=>rw [c] at e;cases e
    | some r' =>
      rw [c] at e
      cases e
      obtain⟨ps,rfl,rfl⟩:=nP c
      exact⟨(k,v) :: ps,rfl,rfl⟩
theorem A8 {K:ZX}{ρ:List Addr}{H:Hp}:∀ {ps:List (Int × Int)} {kvs:List (Key × V)},kvs.map (·.1)=(ps.map fun q=>(q.1,D.int q.2)).map (fun p=>(Sum.inl p.1:Key))→RDs K ρ H ((ps.map fun q=>(q.1,D.int q.2)).map (·.2)) (kvs.map (·.2))→kvs=ps.map fun q=>((Sum.inl q.1:Key),V.int q.2)
  | [],[],_,_=>rfl
  | [],_ :: _,h,_=>by simp at h
  | _ :: _,[],h,_=>by simp at h
  | (j,d) :: ps,(kk,v) :: kvs,h1,h2=>by
    simp only [List.map_cons,List.cons.injEq] at h1
    simp only [List.map_cons,RDs] at h2
    obtain⟨v',r',e,q1,q2⟩:=h2
    cases e
    obtain⟨e1,e2⟩:=h1
    subst e1
    simp only [RD] at q1
    subst q1
    rw [A8 e2 q2]
    rfl
theorem A9 {o:Expr} {fo:EF} {apos cpos:Pos} (hc:X.calm=true) (hg:Gl X "sorted") (hm:X.mg "sorted" = none) (ho:ME X o fo)
    (hs:starEach [.Call (.Attribute o "items" apos) [] [] cpos] X.env=(false,eval (.Call (.Attribute o "items" apos) [] [] cpos) X.env) :: starEach [] X.env:=by rfl)
    (hbase:attributeBase o "items" X.env (eval o X.env)=eval o X.env:=by rfl) (hline:(apos.endLine == cpos.line)=true:=by rfl) :
    MF X (.Call (.Name "sorted" p) [.Call (.Attribute o "items" apos) [] [] cpos] [] pos) (kM fo):=by
  refine PE.imp (iu (wc hc) hg hm (by decide +kernel) (cu (A5 ho hbase hline) eu hs) (he:=hs)) fun σ H Q ⟨ρ,σd,hd,rs,pp⟩=>⟨ρ,σd,hd,rs,?_⟩
  unfold kM at pp
  cases e:fo σd hd with
  | exc x h'=>rw [e] at pp;exact pp
  | bad=>rw [e] at pp;exact pp
  | ok d hd1 =>
    rw [e] at pp
    simp only [aG] at pp
    intro v H1 ρ1 e1 rs1 rv
    cases d<;>try exact pp.elim
    rename_i n
    simp only at pp
    simp only [rD,RD] at rv
    obtain⟨a,ha,rfl⟩:=rv
    cases c:hd1[n]? with
    | none=>rw [c] at pp;exact pp.elim
    | some cell =>
      rw [c] at pp
      cases cell with
      | lst l=>exact pp.elim
      | dct l =>
        simp only at pp
        cases c2:eY l with
        | none=>rw [c2] at pp;exact pp.elim
        | some r =>
          rw [c2] at pp
          simp only at pp
          split at pp
          · rename_i hz
            obtain⟨ps,rfl,rfl⟩:=nP c2
            obtain⟨kvs,q1,q2,q3⟩:=rs1.hp.cel n _ a c ha
            have hk:=A8 q2 q3
            subst hk
            refine⟨a,_,rfl,q1,fun q hq=>⟨q,a,ps,rfl,aT,by rw [ay (aU q1 hq)];exact q1,by simpa using hz.1,hz.2,fun H' q' vs' sm hq' hl' rv' => ?_⟩⟩
            have sm1:jr H1 H':=fun b u eb=>sm _ _ (cj hq _ _ eb)
            have nq:q'≠q:=fun z=>by subst z;rw [aT] at hq';cases hq'
            rw [ay nq] at hq'
            have hn:=rs1.hp.free hq'
            exact pp q' vs' H' ρ1 (e1.trans (Ext.same sm1)) (rs1.same sm1) (e1.fresh hq' hn) hl' hn rv'.rds
          · exact pp.elim
end
end Fm
namespace Fm
@[simp] def pD (la:LF) (b:EF):LF:=fun σ h=>(la σ h).bind fun l h=>(b σ h).bind fun y h=>match y with
  | .int n=>if 0≤n∧n≤1000∧l.length * n.toNat≤1000 then .ok (List.replicate n.toNat l).flatten h else .bad
  | _=>.bad
@[simp] def IS (x i e:EF):EF:=fun σ h=>(x σ h).bind fun p h=>match p with
  | .ref n=>match h[n]? with
    | some (.lst _)=>(i σ h).bind fun j h=>(e σ h).bind fun d h=>match j with
      | .int k=>match h[n]? with
        | some (.lst l)=>if 0≤k∧k≤l.length∧l.length < SZ then .ok .non (h.set n (.lst (l.take k.toNat++[d]++l.drop k.toNat))) else .bad
        | _=>.bad
      | _=>.bad
    | _=>.bad
  | _=>.bad
@[simp] def we (a b:EF):EF:=fun σ h=>(a σ h).bind fun x h=>(b σ h).bind fun y h=>match x,y with
  | .int i,.int j=>.ok (.int (if j > i then j else i)) h
  | _,_=>.bad
@[simp] def kA (a b:EF):LF:=fun σ h=>(a σ h).bind fun x h=>(b σ h).bind fun y h=>match x,y with
  | .ref n,.ref m=>match h[n]?,h[m]? with
    | some (.lst l),some (.lst k)=>if l.length + k.length≤SZ then .ok (l++k) h else .bad
    | _,_=>.bad
  | _,_=>.bad
@[simp] def kB:O2:=fun x y h=>match x,y with
  | .tup xs,.tup ys=>if xs.length + ys.length≤SZ then .ok (.tup (xs++ys)) h else .bad
  | _,_=>.bad
end Fm
namespace Fm
open PySem PySem.Spec L2 PySem.W PyProof.Rows
section
variable {X:Cx} {pos p:Pos}
theorem mC {K:ZX}{ρ:List Addr}{H:Hp}:∀ {l:List D} {vs:List V} {bs:List Bool},RDs K ρ H l vs→fY l=some bs→vs=bs.map V.bl
  | [],_,is,r,e=>by simp only [fY] at e;cases e;simp only [RDs] at r;subst r;rfl
  | d :: l,_,is,r,e=>by
    simp only [RDs] at r
    obtain⟨v,vs,rfl,h1,h2⟩:=r
    cases d<;>simp only [fY] at e<;>try (cases e;done)
    rename_i i
    cases c:fY l with
    | none=>rw [c] at e;cases e
    | some js =>
      rw [c] at e
      cases e
      simp only [RD] at h1
      rw [h1,mC h2 c]
      rfl
theorem uB {bs:List Bool}{its:List Value}(r:aS (bs.map V.bl) its):∀ (i:Nat) (v:Value),its.toArray[i]? = some v→v=.bool (bs.getD i false):=by
  intro i v e
  have e':its[i]? = some v:=by simpa using e
  have hi:i < bs.length:=by
    have:=(List.getElem?_eq_some_iff.mp e').1
    have:=r.length
    simp at this
    omega
  obtain⟨u,hu,ru⟩:=r.get (i:=i) (x:=V.bl bs[i]) (by simp [hi])
  rw [hu] at e'
  cases e'
  rw [show v=Value.bool bs[i] from ru]
  simp [List.getD,hi]
theorem Bc (bs:List Bool):(List.range bs.length).all (fun i=>bs.getD i false)=bs.all id:=by
  have:bs=(List.range bs.length).map fun i=>bs.getD i false:=by
    apply List.ext_getElem?
    intro i
    by_cases hi:i < bs.length<;>simp [List.getD,hi]
  conv=>rhs;rw [this]
  rw [List.all_map]
  rfl
theorem yS (hc:X.calm=true):fX X (.builtin "all") (fun xs H Q=>∃ (p:Addr) (bs:List Bool),xs=[.ref p]∧(SqL X.K H p (bs.map V.bl)∨SqT X.K H p (bs.map V.bl))∧Q (.bl (bs.all id)) H):=by
  intro pins s σ H xs us Q I r q
  obtain⟨p,bs,rfl,sq,q⟩:=q
  obtain⟨u,rfl,ru⟩:=aS.one r
  cases (show u=Value.ref p from ru)
  have hA:(X.A.in1).handled=none:=I.ok.hd hc
  have tr:∀ (its:List Value),aS (bs.map V.bl) its→TruthOf X.prog X.w X.A.in1 (fun i v=>its.toArray[i]? = some v) (fun i=>bs.getD i false):=fun its rv i v s Q E hP hQ=>by
    rw [uB rv i v hP]
    exact wpAny_truthy_bool hQ
  have fin:∀ {it:Obj} {h':Heap} {tk:Nat} {n:Nat},n=bs.length→(∀ b o,b∉[s.heap.objs.size]→(s.heap.push it).get? b=some o→h'.get? b=some o)→EP X pins σ Q (.bool ((List.range n).all fun i=>bs.getD i false)) { s with heap:=h',toks:=tk }:=by
    intro it h' tk n hn hk
    subst hn
    refine⟨.bl (bs.all id),H,I.kept (t':=tk) fun b o e=>hk b o (by simp;exact ZN (ZI e)) (ZH _ e),by rw [Bc];rfl,q⟩
  rcases sq with sq|sq
  · obtain⟨its,rv,pl,hz⟩:=I.list sq
    have il:s.heap.IsList p its.toArray:=pl.isList
    have hlt:p < s.heap.objs.size:=by obtain⟨o,ho,_⟩:=il;exact ZI ho
    refine PySem.call_all_walk (PySem.wpAny_pyIter_list il ?_)
    refine⟨s.heap.objs.size,_,[s.heap.objs.size],_,_,_,fun i=>bs.getD i false,rfl,PySem.Walks.list hA s.heap.objs.size p (ZN hlt) its.toArray,⟨⟨_,ZJ _ rfl,rfl,rfl⟩,?_⟩,tr its rv,?_⟩
    · obtain⟨o,ho,r⟩:=il;exact⟨o,ZH _ ho,r⟩
    · exact fun h' tk hk=>fin (by simpa using rv.length.symm) hk
  · obtain⟨its,rv,pl,hz⟩:=I.tuple sq
    have il:s.heap.IsTuple p its.toArray:=pl
    have hlt:p < s.heap.objs.size:=by obtain⟨o,ho,_⟩:=il;exact ZI ho
    refine PySem.call_all_walk (PySem.wpAny_pyIter_tuple il ?_)
    refine⟨s.heap.objs.size,_,[s.heap.objs.size],_,_,_,fun i=>bs.getD i false,rfl,PySem.Walks.tuple hA s.heap.objs.size p (ZN hlt) its.toArray,⟨⟨_,ZJ _ rfl,rfl,rfl⟩,?_⟩,tr its rv,?_⟩
    · obtain⟨o,ho,r⟩:=il;exact⟨o,ZH _ ho,r⟩
    · exact fun h' tk hk=>fin (by simpa using rv.length.symm) hk
theorem Be {a:Expr} {la:LF} (hc:X.calm=true) (hg:Gl X "all") (hm:X.mg "all" = none) (ha:MQ X a la) (hs:starEach [a] X.env=(false,eval a X.env) :: starEach [] X.env:=by rfl):ME X (.Call (.Name "all" p) [a] [] pos) (vX la):=by
  refine o8 (g:=fun l h=>match fY l with|some bs=>.ok (.bl (bs.all id)) h|none=>.bad) (xC (yS hc) hg hm (by decide +kernel) (he:=hs)) ha (fun ρ H σd hd σ l q vs Q rs sq rvs p => ?_) hs
  cases c:fY l with
  | none=>simp only [c] at p;exact p.elim
  | some is =>
    simp only [c] at p
    have e:=mC rvs c
    subst e
    exact⟨q,is,rfl,sq.imp id SqT.of,p.here rs (by simp only [rD,RD])⟩
theorem Bf {a b:Expr}{la:LF}{fb:EF}(ha:MF X a la)(hb:ME X b fb):MF X (.BinOp a .Mult b pos) (pD la fb):=by
  refine PE.imp (Aq FF ha hb) fun σ H Q ⟨ρ,σd,hd,rs,pp⟩=>⟨ρ,σd,hd,rs,?_⟩
  unfold pD at pp
  cases e:la σd hd with
  | exc x h'=>rw [e] at pp;exact pp
  | bad=>rw [e] at pp;exact pp
  | ok l hd1 =>
    rw [e] at pp
    simp only [aG] at pp
    intro q vs H1 ρ1 e1 rs1 hq0 hq hn rvs
    refine⟨ρ1,σd,hd1,rs1,?_⟩
    cases e2:fb σd hd1 with
    | exc x h'=>rw [e2] at pp;exact pp
    | bad=>rw [e2] at pp;exact pp
    | ok y hd2 =>
      rw [e2] at pp
      simp only [aG] at pp
      intro v H2 ρ2 ex2 rs2 rv
      cases y<;>try exact pp.elim
      rename_i n
      simp only at pp
      split at pp
      · rename_i hz
        simp only [rD,RD] at rv
        subst rv
        have hq2:H2 q=some (.lst vs):=ex2.frame q _ hq hn
        have rvs2:=rvs.mono (rs1.hp.kp ex2)
        refine⟨q,n,vs,rfl,rfl,hq2,by omega,by omega,by rw [← rvs.length,sizeLine_eq];omega,fun p' hp' => ?_⟩
        exact uk.mk pp (e1.trans ex2) rs2 (RDs.rep rvs2 n.toNat) p' hp'
      · exact pp.elim
theorem F9 {a b:Expr} {fa fb:EF} (hc:X.calm=true) (hg:Gl X "max") (hm:X.mg "max" = none) (ha:ME X a fa) (hb:ME X b fb) (hs:starEach [a,b] X.env=(false,eval a X.env) :: starEach [b] X.env:=by rfl) (hs2:starEach [b] X.env=(false,eval b X.env) :: starEach [] X.env:=by rfl) (hpl:(backTo pos (starEach [b] X.env)).any (fun x=>x.1)=false:=by rfl):ME X (.Call (.Name "max" p) [a,b] [] pos) (we fa fb):=by
  refine PE.imp (iu (yB hc) hg hm (by decide +kernel) (cu ha (cu hb eu hs2) hs) (he:=hs) (hpl:=hpl)) fun σ H Q ⟨ρ,σd,hd,rs,pp⟩=>⟨ρ,σd,hd,rs,?_⟩
  unfold we at pp
  refine (bQ.bind (R:=rD X.K) pp).imp fun v H1 ⟨ρ1,d,hd1,e1,rs1,rv,p1⟩ => ?_
  refine⟨ρ1,σd,hd1,rs1,(bQ.bind (R:=rD X.K) p1).imp fun w H2 ⟨ρ2,k,hd2,e2,rs2,rw',p2⟩ => ?_⟩
  cases d<;>try exact p2.elim
  cases k<;>try exact p2.elim
  simp only [rD,RD] at rv rw'
  subst rv rw'
  exact⟨_,_,rfl,p2.here rs2 (by simp only [rD,RD])⟩
theorem xK {a b:Expr}{fa fb:EF}(ha:ME X a fa)(hb:ME X b fb):MF X (.BinOp a .Add b pos) (kA fa fb):=by
  refine PE.imp (Aq FE ha hb) fun σ H Q ⟨ρ,σd,hd,rs,pp⟩=>⟨ρ,σd,hd,rs,?_⟩
  unfold kA at pp
  cases e:fa σd hd with
  | exc x h'=>rw [e] at pp;exact pp
  | bad=>rw [e] at pp;exact pp
  | ok d hd1 =>
    rw [e] at pp
    simp only [aG] at pp
    intro v H1 ρ1 e1 rs1 rv
    refine⟨ρ1,σd,hd1,rs1,?_⟩
    cases e2:fb σd hd1 with
    | exc x h'=>rw [e2] at pp;exact pp
    | bad=>rw [e2] at pp;exact pp
    | ok k hd2 =>
      rw [e2] at pp
      simp only [aG] at pp
      intro w H2 ρ2 ex2 rs2 rw'
      cases d with
      | ref n =>
        cases k with
        | ref m =>
          simp only at pp
          simp only [rD,RD] at rv rw'
          obtain⟨a1,ha1,rfl⟩:=rv
          obtain⟨b1,hb1,rfl⟩:=rw'
          have ha2:=ex2.get ha1
          cases c1:hd2[n]? with
          | none=>rw [c1] at pp;exact pp.elim
          | some x1 =>
            cases c2:hd2[m]? with
            | none=>rw [c1,c2] at pp;cases x1<;>exact pp.elim
            | some x2 =>
              rw [c1,c2] at pp
              cases x1 with
              | dct _=>exact pp.elim
              | lst l =>
                cases x2 with
                | dct _=>exact pp.elim
                | lst k =>
                  simp only at pp
                  split at pp
                  · rename_i hz
                    obtain⟨vs1,hv1,rvs1⟩:=rs2.hp.cel n _ a1 c1 ha2
                    obtain⟨vs2,hv2,rvs2⟩:=rs2.hp.cel m _ b1 c2 hb1
                    refine⟨a1,b1,vs1,vs2,rfl,rfl,hv1,hv2,by rw [← rvs1.length,← rvs2.length];exact lA hz,fun p' hp' => ?_⟩
                    exact uk.mk pp (e1.trans ex2) rs2 (RDs.append rvs1 rvs2) p' hp'
                  · exact pp.elim
        | _=>exact pp.elim
      | _=>exact pp.elim
theorem uC (l b:Addr)(items items2:Array Value)(n n2:Nat)(dd dd2:Option Addr)(sl sl2:Array (Option Value))(hc0:items.isEmpty=true) :
    Meets (Builtin.«tuple.__add__» ⟨[.ref l,.ref b],[]⟩) (fun _ R s=>s.heap.get? l=some { cls:=.type "tuple",dict:=dd,data:=.seq items n,slots:=sl } ∧ s.heap.get? b=some { cls:=.type "tuple",dict:=dd2,data:=.seq items2 n2,slots:=sl2 } ∧ R (.ok (.ret (Value.ref b))) s) :=
  .of_wp fun prog w A R s h=>by obtain⟨hp,g,d,tk,os⟩:=s;obtain⟨hl,hb,h⟩:=h;have f1:=PySem.AutoSeq1.idx_int;have f2:=PySem.AutoSeq1.sub_tuple_tuple;wp_walk using wpAny_loadPart' hl,wpAny_loadPart' hb;exact⟨_,rfl,h⟩
def Bg (K:ZX):R2:=fun x y H Q=>∃ a b ys,x=.ref a∧y=.ref b∧SqT K H a []∧SqT K H b ys∧Q (.ref b) H
theorem DA:OpR X (binaryOp .Add) (Bg X.K):=by
  intro pins s σ H x y v u Q I rx ry h
  obtain⟨a,b,ys,rfl,rfl,ha,hb,q⟩:=h
  cases rx
  cases ry
  obtain⟨its,r1,p1,_⟩:=I.tuple ha
  obtain⟨its2,r2,p2,_⟩:=I.tuple hb
  cases r1
  obtain⟨⟨cls,dd,data,sl⟩,ho,hc,n,hd⟩:=id p1
  obtain⟨⟨cls2,dd2,data2,sl2⟩,ho2,hc2,n2,hd2⟩:=id p2
  simp only at hc hd hc2 hd2
  subst hc hd hc2 hd2
  exact concat_meets ⟨_,ho,rfl⟩ ⟨_,ho2,rfl⟩ noFill_tuple_add seq_tuple_add PySem.F.slot_tuple_add PySem.F.entry_tuple_add (PySem.F.args_tuple_add_2 _ _)
    (uC a b _ its2.toArray n n2 dd dd2 sl sl2 rfl) ⟨ho,ho2,⟨.ref b,H,I,rfl,q⟩⟩
theorem xL:OpR X (binaryOp .Add) (fun x y H Q=>Bg X.K x y H Q∨uh X.K x y H Q):=DA.or xw
theorem xM {K:ZX}:Og K kB (fun x y H Q=>Bg K x y H Q∨uh K x y H Q):=by
  intro ρ H σd hd σ d k v w Q rs rv rw' pp
  cases d with
  | tup xs =>
    cases k with
    | tup ys =>
      simp only [kB] at pp
      split at pp
      · rename_i hz
        simp only [RD] at rv
        obtain⟨a,vs,rfl,ha,rvs⟩:=rv
        have rw2:=rw'
        simp only [RD] at rw'
        obtain⟨b,ws,rfl,hb,rws⟩:=rw'
        cases xs with
        | nil =>
          simp only [RDs] at rvs
          subst rvs
          exact .inl ⟨a,b,ws,rfl,rfl,SqT.of ha,SqT.of hb,pp.here rs (by simpa using rw2)⟩
        | cons x xs =>
          refine .inr ⟨a,b,vs,ws,rfl,rfl,SqT.of ha,SqT.of hb,?_,?_,fun z => ?_,fun _ q hq => ?_⟩
          · intro z;subst z;have:=rvs.length;simp at this
          · rw [← rvs.length,← rws.length];exact lA hz
          · subst z
            have hy:ys=[]:=by have:=rws.length;simpa using this
            subst hy
            exact pp.here rs (by simp only [rD,RD];exact⟨a,vs,rfl,ha,by simpa using rvs⟩)
          · have sm:=cj (o:=HO.tup (vs++ws)) hq
            exact pp.at (Ext.same sm) (rs.same sm) (by simp only [rD,RD];exact⟨q,_,rfl,aT,(RDs.append rvs rws).mono (Kp.same sm)⟩)
      · exact pp.elim
    | _=>exact pp.elim
  | _=>exact pp.elim
end
end Fm
namespace Fm
@[simp] def DB (a b:EF):IF:=fun σ h=>(a σ h).bind fun x h=>(b σ h).bind fun y h=>match x,y with
  | .tup l,.tup k=>.ok ((l.zip k).map fun p=>.tup [p.1,p.2],none) h
  | _,_=>.bad
@[simp] def Jd (a:EF):EF:=fun σ h=>(a σ h).bind fun x h=>match x with | .int i=>.ok (.int i.natAbs) h|_=>.bad
@[simp] def yT (a b:EF):EF:=fun σ h=>(a σ h).bind fun x h=>(b σ h).bind fun y h=>match x,y with
  | .int i,.int j=>.ok (.int (if j < i then j else i)) h
  | _,_=>.bad
noncomputable section
open Classical
def iz (l:List D):List D:=(List.range l.length).zip l |>.map fun p=>.tup [.int (p.1:Nat),p.2]
end
end Fm
namespace Fm
open PySem PySem.Spec L2
open PyProof.Rows (Call_)
theorem gh {h h':Heap}{i l:Addr}{xs:Array Value}(t:h.IsTuple l xs)(e:Heap.ExtBut i h h')(n:l≠i):h'.IsTuple l xs:=by
  obtain⟨o,ho,r⟩:=t
  exact⟨o,e _ _ n ho,r⟩
section
variable {prog:Program} {w:World} {A:Around} {E:Value→Shared→Prop} {s:Shared} {z TI TO i1 i2 l1 l2:Addr} {k:Nat} {xs ys:Array Value} {a b:Value}
theorem yU {x y:Value}{Q:Value→Shared→Prop}(Z:ZipApart z TI TO i1 i2 l1 l2)(gz:IsZip s.heap z TI TO .none)(gI:IsPair s.heap TI (.ref i1) (.ref i2))(gO:IsPair s.heap TO a b)
    (t1:s.heap.IsTupleIter i1 l1 k) (t2:s.heap.IsTupleIter i2 l2 k) (u1:s.heap.IsTuple l1 xs) (u2:s.heap.IsTuple l2 ys) (ex:xs[k]? = some x) (ey:ys[k]? = some y)
    (q:∀ h',IsZip h' z TI TO (rawInt s.heap.objs.size)→IsPair h' TO x y→h'.IsTupleIter i1 l1 (k + 1)→h'.IsTupleIter i2 l2 (k + 1)→IsPair h' s.heap.objs.size x y→h'.objs.size=s.heap.objs.size + 1 →
      (∀ c o,c≠z→c≠TO→c≠i1→c≠i2→s.heap.get? c=some o→h'.get? c=some o)→Q (.ref s.heap.objs.size) { s with heap:=h' }) :
    wpAny (model prog w) A (Builtin.«zip.__next__» ⟨[.ref z],[]⟩) (fun fin s'=>∃ v,fin=.done (.ret v)∧Q v s') E s:=by
  show wpAny _ _ (field (.ref z) 2 >>= fun _=>_) _ _ _
  refine wpAny_bind (wpAny_field gz rfl (x:=.bool false) rfl ?_)
  show wpAny _ _ (field (.ref z) 3 >>= fun _=>_) _ _ _
  refine wpAny_bind (wpAny_field gz rfl (x:=.ref TI) rfl (wpAny_bind (wpAny_seqItems gI rfl ?_)))
  show wpAny _ _ (Builtin.SmallTypes.ownedTupleIsFree (.ref z) >>= fun _=>_) _ _ _
  unfold Builtin.SmallTypes.ownedTupleIsFree
  refine wpAny_bind (wpAny_bind (wpAny_field gz rfl (x:=.none) rfl (wpAny_pure ?_)))
  simp only [if_true]
  refine wpAny_bind (wpAny_rule (wpAny_bind (wpAny_field gz rfl (x:=.ref TO) rfl (wpAny_bind (wpAny_setField_rec gz (by simp) fun g1 gz1 b1=>wpAny_bind ?_)))))
  replace gz1:IsZip g1 z TI TO .ellipsis:=gz1
  simp only [List.zipIdx_cons,List.zipIdx_nil,List.forIn_cons,List.forIn_nil]
  refine wpAny_bind (wpAny_bind (wpAny_onRaise ?_))
  show wpAny _ _ (Builtin.SmallTypes.nextOf (.ref i1) >>= fun _=>_) _ _ _
  refine wpAny_bind (dQ (t1.extBut b1.extBut Z.i1z) (gh u1 b1.extBut Z.l1z) ex fun g2 t12 b2=>wpAny_pure ?_)
  have gO2:IsPair g2 TO a b:=b2.extBut _ _ Z.TOi1 (b1.extBut _ _ Z.TOz gO)
  refine wpAny_bind (wpAny_seqItems gO2 rfl (wpAny_bind (wpAny_updateSeq_pair gO2 fun g3 gO3 b3=>wpAny_bind (wpAny_letGo (wpAny_pure ?_)))))
  replace gO3:IsPair g3 TO x b:=gO3
  refine wpAny_bind (wpAny_bind (wpAny_onRaise ?_))
  show wpAny _ _ (Builtin.SmallTypes.nextOf (.ref i2) >>= fun _=>_) _ _ _
  refine wpAny_bind (dQ (((t2.extBut b1.extBut Z.i2z).extBut b2.extBut Z.i12.symm).extBut b3.extBut Z.TOi2.symm) (gh (gh (gh u2 b1.extBut Z.l2z) b2.extBut Z.l2i1) b3.extBut Z.l2TO) ey fun g4 t24 b4=>wpAny_pure ?_)
  have gO4:IsPair g4 TO x b:=b4.extBut _ _ Z.TOi2 gO3
  refine wpAny_bind (wpAny_seqItems gO4 rfl (wpAny_bind (wpAny_updateSeq_pair gO4 fun g5 gO5 b5=>wpAny_bind (wpAny_letGo (wpAny_pure (wpAny_pure ?_))))))
  replace gO5:IsPair g5 TO x y:=gO5
  refine wpAny_bind (wpAny_seqItems gO5 rfl (wpAny_bind (wpAny_newTuple ?_)))
  have sz:g5.objs.size=s.heap.objs.size:=by rw [b5.1,b4.1,b3.1,b2.1,b1.1]
  have gz5:IsZip g5 z TI TO .ellipsis:=b5.extBut _ _ Z.TOz.symm (b4.extBut _ _ Z.i2z.symm (b3.extBut _ _ Z.TOz.symm (b2.extBut _ _ Z.i1z.symm gz1)))
  have kp:∀ c o,c≠z→c≠TO→c≠i1→c≠i2→s.heap.get? c=some o→g5.get? c=some o:=fun c o n1 n2 n3 n4 e=>b5.extBut _ _ n2 (b4.extBut _ _ n4 (b3.extBut _ _ n2 (b2.extBut _ _ n3 (b1.extBut _ _ n1 e))))
  have t15:g5.IsTupleIter i1 l1 (k + 1):=((t12.extBut b3.extBut Z.TOi1.symm).extBut b4.extBut Z.i12).extBut b5.extBut Z.TOi1.symm
  have t25:g5.IsTupleIter i2 l2 (k + 1):=t24.extBut b5.extBut Z.TOi2.symm
  have zl:z < g5.objs.size:=ZI gz5
  show wpAny _ _ (Builtin.SmallTypes.ownedTupleHandOut (.ref z) (.ref g5.objs.size) >>= fun _=>_) _ _ _
  unfold Builtin.SmallTypes.ownedTupleHandOut
  have gz6:IsZip (g5.push { cls:=.type "tuple",data:=.seq #[x,y] }) z TI TO .ellipsis:=ZH _ gz5
  refine wpAny_bind (wpAny_bind (wpAny_setField_rec gz6 (by simp) fun g7 gz7 b7 => ?_))
  replace gz7:IsZip g7 z TI TO (rawInt g5.objs.size):=gz7
  refine wpAny_setField_rec gz7 (by simp) fun g8 gz8 b8 => ?_
  replace gz8:IsZip g8 z TI TO (rawInt g5.objs.size):=gz8
  have up:∀ c o,c≠z→g5.get? c=some o→g8.get? c=some o:=fun c o n1 e=>b8.extBut _ _ n1 (b7.extBut _ _ n1 (ZH _ e))
  have gT:IsPair g8 g5.objs.size x y:=b8.extBut _ _ (Nat.ne_of_gt zl) (b7.extBut _ _ (Nat.ne_of_gt zl) (ZJ _ rfl))
  have s8:g8.objs.size=g5.objs.size + 1:=by rw [b8.1,b7.1,Heap.size_push]
  rw [sz] at gz8 gT s8
  refine wpAny_pure ⟨_,rfl,?_⟩
  show Q (.ref g5.objs.size) _
  rw [sz]
  exact q g8 gz8 (up _ _ Z.TOz gO5) (let ⟨o,e,r⟩:=t15;⟨o,up _ o Z.i1z e,r⟩) (let ⟨o,e,r⟩:=t25;⟨o,up _ o Z.i2z e,r⟩) gT s8 fun c o n1 n2 n3 n4 e=>up c o n1 (kp c o n1 n2 n3 n4 e)
theorem Bh {Q:Fin→Shared→Prop}(hh:A.handled=none)(Z:ZipApart z TI TO i1 i2 l1 l2)(gz:IsZip s.heap z TI TO .none)(gI:IsPair s.heap TI (.ref i1) (.ref i2))(gO:IsPair s.heap TO a b)
    (t1:s.heap.IsTupleIter i1 l1 k) (t2:s.heap.IsTupleIter i2 l2 k) (u1:s.heap.IsTuple l1 xs) (u2:s.heap.IsTuple l2 ys) (nd:xs[k]? = none∨ys[k]? = none)
    (q:∀ h' e,(∀ c o,c≠z→c≠TO→c≠i1→c≠i2→s.heap.get? c=some o→h'.get? c=some o)→(∃ o,h'.get? e=some o∧o.cls=.type "StopIteration")→E (.ref e) { s with heap:=h' }) :
    wpAny (model prog w) A (Builtin.«zip.__next__» ⟨[.ref z],[]⟩) Q E s:=by
  show wpAny _ _ (field (.ref z) 2 >>= fun _=>_) _ _ _
  refine wpAny_bind (wpAny_field gz rfl (x:=.bool false) rfl ?_)
  show wpAny _ _ (field (.ref z) 3 >>= fun _=>_) _ _ _
  refine wpAny_bind (wpAny_field gz rfl (x:=.ref TI) rfl (wpAny_bind (wpAny_seqItems gI rfl ?_)))
  show wpAny _ _ (Builtin.SmallTypes.ownedTupleIsFree (.ref z) >>= fun _=>_) _ _ _
  unfold Builtin.SmallTypes.ownedTupleIsFree
  refine wpAny_bind (wpAny_bind (wpAny_field gz rfl (x:=.none) rfl (wpAny_pure ?_)))
  simp only [if_true]
  refine wpAny_bind (wpAny_rule (wpAny_bind (wpAny_field gz rfl (x:=.ref TO) rfl (wpAny_bind (wpAny_setField_rec gz (by simp) fun g1 gz1 b1=>wpAny_bind ?_)))))
  replace gz1:IsZip g1 z TI TO .ellipsis:=gz1
  simp only [List.zipIdx_cons,List.zipIdx_nil,List.forIn_cons,List.forIn_nil]
  refine wpAny_bind (wpAny_bind (wpAny_onRaise ?_))
  show wpAny _ _ (Builtin.SmallTypes.nextOf (.ref i1) >>= fun _=>_) _ _ _
  cases ex:xs[k]? with
  | none =>
    refine wpAny_bind (fy hh (t1.extBut b1.extBut Z.i1z) (gh u1 b1.extBut Z.l1z) ex fun g2 e b2 he => ?_)
    obtain⟨oe,ho,hc⟩:=he
    have gz2:IsZip g2 z TI TO .ellipsis:=b2 _ _ Z.i1z.symm gz1
    have ne:e≠z:=fun v=>by subst v;rw [gz2] at ho;cases ho;simp at hc
    exact wpAny_setField_rec gz2 (by simp) fun g3 _ b3=>q g3 e (fun c o n1 _ n3 _ v=>b3.extBut _ _ n1 (b2 _ _ n3 (b1.extBut _ _ n1 v))) ⟨oe,b3.extBut _ _ ne ho,hc⟩
  | some x =>
    have ey:ys[k]? = none:=nd.resolve_left (by rw [ex];exact Option.some_ne_none _)
    refine wpAny_bind (dQ (t1.extBut b1.extBut Z.i1z) (gh u1 b1.extBut Z.l1z) ex fun g2 t12 b2=>wpAny_pure ?_)
    have gO2:IsPair g2 TO a b:=b2.extBut _ _ Z.TOi1 (b1.extBut _ _ Z.TOz gO)
    refine wpAny_bind (wpAny_seqItems gO2 rfl (wpAny_bind (wpAny_updateSeq_pair gO2 fun g3 gO3 b3=>wpAny_bind (wpAny_letGo (wpAny_pure ?_)))))
    refine wpAny_bind (wpAny_bind (wpAny_onRaise ?_))
    show wpAny _ _ (Builtin.SmallTypes.nextOf (.ref i2) >>= fun _=>_) _ _ _
    refine wpAny_bind (fy hh (((t2.extBut b1.extBut Z.i2z).extBut b2.extBut Z.i12.symm).extBut b3.extBut Z.TOi2.symm) (gh (gh (gh u2 b1.extBut Z.l2z) b2.extBut Z.l2i1) b3.extBut Z.l2TO) ey fun g4 e b4 he => ?_)
    obtain⟨oe,ho,hc⟩:=he
    have gz4:IsZip g4 z TI TO .ellipsis:=b4 _ _ Z.i2z.symm (b3.extBut _ _ Z.TOz.symm (b2.extBut _ _ Z.i1z.symm gz1))
    have ne:e≠z:=fun v=>by subst v;rw [gz4] at ho;cases ho;simp at hc
    exact wpAny_setField_rec gz4 (by simp) fun g5 _ b5=>q g5 e (fun c o n1 n2 n3 n4 v=>b5.extBut _ _ n1 (b4 _ _ n4 (b3.extBut _ _ n2 (b2.extBut _ _ n3 (b1.extBut _ _ n1 v))))) ⟨oe,b5.extBut _ _ ne ho,hc⟩
theorem sM {x y:Value}{Q:Option Value→Shared→Prop}(Z:ZipApart z TI TO i1 i2 l1 l2)(gz:IsZip s.heap z TI TO .none)(gI:IsPair s.heap TI (.ref i1) (.ref i2))(gO:IsPair s.heap TO a b)
    (t1:s.heap.IsTupleIter i1 l1 k) (t2:s.heap.IsTupleIter i2 l2 k) (u1:s.heap.IsTuple l1 xs) (u2:s.heap.IsTuple l2 ys) (ex:xs[k]? = some x) (ey:ys[k]? = some y)
    (q:∀ h',IsZip h' z TI TO (rawInt s.heap.objs.size)→IsPair h' TO x y→h'.IsTupleIter i1 l1 (k + 1)→h'.IsTupleIter i2 l2 (k + 1)→IsPair h' s.heap.objs.size x y→h'.objs.size=s.heap.objs.size + 1 →
      (∀ c o,c≠z→c≠TO→c≠i1→c≠i2→s.heap.get? c=some o→h'.get? c=some o)→Q (some (.ref s.heap.objs.size)) { s with heap:=h' }) :
    wpAny (model prog w) A (pyNext (.ref z)) Q E s:=by
  have ty:s.TypeIs (.ref z) "zip" := ⟨_,gz,rfl⟩
  unfold pyNext
  refine wpAny_bind (wpAny_attempt (wpAny_callSpecial?_slot (name:=Str.ofString "__next__") ty F.slot_zip_next (wpAny_call_entry F.slot_zip_next ty F.entry_zip_next ?_ (F.args_zip_next_1 _))))
  exact yU Z gz gI gO t1 t2 u1 u2 ex ey fun h' a1 a2 a3 a4 a5 a6 a7=>wpAny_pure (q h' a1 a2 a3 a4 a5 a6 a7)
theorem uD {Q:Option Value→Shared→Prop}(hh:A.handled=none)(Z:ZipApart z TI TO i1 i2 l1 l2)(gz:IsZip s.heap z TI TO .none)(gI:IsPair s.heap TI (.ref i1) (.ref i2))(gO:IsPair s.heap TO a b)
    (t1:s.heap.IsTupleIter i1 l1 k) (t2:s.heap.IsTupleIter i2 l2 k) (u1:s.heap.IsTuple l1 xs) (u2:s.heap.IsTuple l2 ys) (nd:xs[k]? = none∨ys[k]? = none)
    (q:∀ h',(∀ c o,c≠z→c≠TO→c≠i1→c≠i2→s.heap.get? c=some o→h'.get? c=some o)→Q none { s with heap:=h' }):wpAny (model prog w) A (pyNext (.ref z)) Q E s:=by
  have ty:s.TypeIs (.ref z) "zip" := ⟨_,gz,rfl⟩
  unfold pyNext
  refine wpAny_bind (wpAny_attempt (wpAny_callSpecial?_slot (name:=Str.ofString "__next__") ty F.slot_zip_next (wpAny_call_entry F.slot_zip_next ty F.entry_zip_next ?_ (F.args_zip_next_1 _))))
  refine Bh hh Z gz gI gO t1 t2 u1 u2 nd fun h' e kk he => ?_
  obtain⟨o,ho,hc⟩:=he
  exact wpAny_bind (wpAny_isInstance (T := "StopIteration") (b:=true) ⟨o,ho,hc⟩ isSubtype_stop (wpAny_pure (q _ kk)))
end
def zt1 (h:Heap) (l1:Addr):Heap:=h.push { cls:=.type "tuple_iterator",data:=.fields #[.ref l1,.int 0 0] }
def zt2 (h:Heap) (l1 l2:Addr):Heap:=(zt1 h l1).push { cls:=.type "tuple_iterator",data:=.fields #[.ref l2,.int 0 0] }
def zt3 (h:Heap) (l1 l2:Addr):Heap:=(zt2 h l1 l2).push { cls:=.type "tuple",data:=.seq #[.ref h.objs.size,.ref (zt1 h l1).objs.size] }
def zt4 (h:Heap) (l1 l2:Addr):Heap:=(zt3 h l1 l2).push { cls:=.type "tuple",data:=.seq #[.none,.none] }
def zt5 (h:Heap) (l1 l2:Addr):Heap:=(zt4 h l1 l2).push { cls:=.type "zip",data:=.fields #[.none,.bool false,.bool false,.ref (zt2 h l1 l2).objs.size,.ref (zt3 h l1 l2).objs.size] }
theorem wf (l1 l2:Addr)(xs ys:Array Value) :
    Meets (Builtin.«zip.__new__» ⟨[.type "zip",.ref l1,.ref l2],[]⟩) (fun _ R s=>s.heap.IsTuple l1 xs∧s.heap.IsTuple l2 ys∧R (.ok (.ret (.ref (zt4 s.heap l1 l2).objs.size))) { s with heap:=zt5 s.heap l1 l2 }) :=
  .of_wp fun prog w A R s h=>by
    obtain⟨hp,g,d,tk,os⟩:=s;obtain⟨u1,u2,h⟩:=h
    have hsub:=sub_zip
    have T1:Heap.IsTuple (Shared.heap ⟨hp,g,d,tk,os⟩) l1 xs:=u1
    have T2:Heap.IsTuple (Shared.heap ⟨hp.push { cls:=.type "tuple_iterator",data:=.fields #[.ref l1,.int 0 0] },g,d,tk,os⟩) l2 ys:=by
      obtain⟨o,ho,r⟩:=u2
      exact⟨o,ZH _ ho,r⟩
    wp_walk using wpAny_pyIter_tuple T1,wpAny_pyIter_tuple T2
    exact⟨_,rfl,h⟩
section
variable {prog:Program} {w:World} {A:Around} {E:Value→Shared→Prop} {s:Shared}
theorem yV {l1 l2:Addr}{xs ys:Array Value}{Q:Value→Shared→Prop}(u1:s.heap.IsTuple l1 xs)(u2:s.heap.IsTuple l2 ys)
    (q:∀ h',IsZip h' (s.heap.objs.size + 4) (s.heap.objs.size + 2) (s.heap.objs.size + 3) .none→IsPair h' (s.heap.objs.size + 2) (.ref s.heap.objs.size) (.ref (s.heap.objs.size + 1)) →
      IsPair h' (s.heap.objs.size + 3) .none .none→h'.IsTupleIter s.heap.objs.size l1 0→h'.IsTupleIter (s.heap.objs.size + 1) l2 0→h'.objs.size=s.heap.objs.size + 5 →
      (∀ c o,s.heap.get? c=some o→h'.get? c=some o)→Q (.ref (s.heap.objs.size + 4)) { s with heap:=h' }) :
    wpAny (model prog w) A (call (.type "zip") [.ref l1,.ref l2]) Q E s:=by
  refine callType_new F.called_zip (by decide) (F.typeCall_zip_2 _ _) (F.newCall_zip_2 _ _) (fun obj=>F.args_object_init_3 obj _ _) F.entry_zip_new (wf l1 l2 xs ys) ⟨u1,u2,?_⟩
  have z1:(zt1 s.heap l1).objs.size=s.heap.objs.size + 1:=Heap.size_push ..
  have z2:(zt2 s.heap l1 l2).objs.size=s.heap.objs.size + 2:=(Heap.size_push ..).trans (by rw [z1])
  have z3:(zt3 s.heap l1 l2).objs.size=s.heap.objs.size + 3:=(Heap.size_push ..).trans (by rw [z2])
  have z4:(zt4 s.heap l1 l2).objs.size=s.heap.objs.size + 4:=(Heap.size_push ..).trans (by rw [z3])
  have z5:(zt5 s.heap l1 l2).objs.size=s.heap.objs.size + 5:=(Heap.size_push ..).trans (by rw [z4])
  have p1:∀ {c o},(zt1 s.heap l1).get? c=some o→(zt5 s.heap l1 l2).get? c=some o:=fun e=>ZH _ (ZH _ (ZH _ (ZH _ e)))
  have p2:∀ {c o},(zt2 s.heap l1 l2).get? c=some o→(zt5 s.heap l1 l2).get? c=some o:=fun e=>ZH _ (ZH _ (ZH _ e))
  have p3:∀ {c o},(zt3 s.heap l1 l2).get? c=some o→(zt5 s.heap l1 l2).get? c=some o:=fun e=>ZH _ (ZH _ e)
  have g1:(zt5 s.heap l1 l2).get? s.heap.objs.size=some { cls:=.type "tuple_iterator",data:=.fields #[.ref l1,.int 0 0] }:=p1 (ZJ _ rfl)
  have g2:(zt5 s.heap l1 l2).get? (s.heap.objs.size + 1)=some { cls:=.type "tuple_iterator",data:=.fields #[.ref l2,.int 0 0] }:=by rw [← z1];exact p2 (ZJ _ rfl)
  have g3:(zt5 s.heap l1 l2).get? (s.heap.objs.size + 2)=some { cls:=.type "tuple",data:=.seq #[.ref s.heap.objs.size,.ref (s.heap.objs.size + 1)] }:=by rw [← z2,← z1];exact p3 (ZJ _ rfl)
  have g4:(zt5 s.heap l1 l2).get? (s.heap.objs.size + 3)=some { cls:=.type "tuple",data:=.seq #[.none,.none] }:=by rw [← z3];exact ZH _ (ZJ _ rfl)
  have g5:(zt5 s.heap l1 l2).get? (s.heap.objs.size + 4)=some { cls:=.type "zip",data:=.fields #[.none,.bool false,.bool false,.ref (s.heap.objs.size + 2),.ref (s.heap.objs.size + 3)] }:=by rw [← z4,← z2,← z3];exact ZJ _ rfl
  show _∧_
  rw [z4]
  exact⟨⟨_,g5,rfl⟩,q _ g5 g3 g4 ⟨_,g1,rfl,rfl⟩ ⟨_,g2,rfl,rfl⟩ z5 fun c o e=>p1 (ZH _ e)⟩
end
theorem DC {X:Cx}{pins:List (Addr × Obj)}{σ:St}{H:Hp}{s:Shared}{h':Heap}{t':Nat}{ch:List Addr}(I:L2.Inv X pins σ H s)(k:∀ b o,b∉ch→s.heap.get? b=some o→h'.get? b=some o)(hf:∀ b∈ch,oN X pins H b) :
    L2.Inv X pins σ H { s with heap:=h',toks:=t' }:=by
  have nit:∀ b u,H b=some u→b∉ch:=fun b u e z=>by rw [(hf b z).1] at e;cases e
  refine I.step (g':=s.gens) (d':=s.drawn) (ch:=ch) (fun b hb=>⟨(hf b hb).2.2.2.1,(hf b hb).2.1,(hf b hb).2.2.2.2.1,(hf b hb).2.2.2.2.2⟩) (fun b o _ _ hc e _=>k b o hc e) (fun b o _ _ hc e _=>⟨o.slots,k b o hc e⟩) (fun _ _ _ _ n=>n)
    (fun b o hc e=>⟨o,k b o hc e⟩) (fun _ _ e=>e) (fun _ _ _ e=>e) (fun b ps e=>⟨#[],by rw [e];simp⟩) (fun m hm => ?_) (fun b u e => ?_) I.bare
  · obtain⟨o,es,ep,ho,r⟩:=hm
    exact⟨o,es,ep,k _ o (fun z=>(hf _ z).2.1 rfl) ho,r⟩
  · refine (I.hok b u e).stay (fun c v hc q=>k c v ?_ q) (fun _ q=>q) fun _ _ q=>q
    rcases hc with z|z
    · rw [z];exact nit b u e
    · exact nit c _ z
def Itz (K:ZX) (a b:Addr):It :=
  ⟨fun i H=>∃ xs ys x y,SqT K H a xs∧SqT K H b ys∧xs[i]? = some x∧ys[i]? = some y,fun i H x H'=>∃ q v u,x=.ref q∧H q=none∧H'=upd H q (.tup [v,u])∧(∀ xs,SqT K H a xs→xs[i]? = some v) ∧ ∀ ys,SqT K H b ys→ys[i]? = some u,fun i H=>∃ xs ys,SqT K H a xs∧SqT K H b ys∧min xs.length ys.length=i⟩
theorem Bi {P:Program}{w:World}{K:ZX}{elts:List Expr}{k:Nat}{pos:Pos}(z TI TO i1 i2 a b:Addr)(Z:ZipApart z TI TO i1 i2 a b) :
    ue P w K (.Tuple elts k pos) (Itz K a b) [z,TI,TO,i1,i2] z (fun i h=>IsZip h z TI TO .none∧IsPair h TI (.ref i1) (.ref i2)∧(∃ x y,IsPair h TO x y)∧h.IsTupleIter i1 a i∧h.IsTupleIter i2 b i) where
  mem:=by simp
  obj:=fun i h st c hc=>by
    obtain⟨gz,gI,⟨x,y,gO⟩,⟨o1,q1,c1,d1⟩,⟨o2,q2,c2,d2⟩⟩:=st
    have hc':c=z∨c=TI∨c=TO∨c=i1∨c=i2:=by simpa using hc
    rcases hc' with rfl|rfl|rfl|rfl|rfl
    · exact⟨_,gz,fun v e=>by
        have e':Data.fields _=Data.cell v:=e
        cases e'⟩
    · exact⟨_,gI,fun v e=>by
        have e':Data.seq _ _=Data.cell v:=e
        cases e'⟩
    · exact⟨_,gO,fun v e=>by
        have e':Data.seq _ _=Data.cell v:=e
        cases e'⟩
    · exact⟨o1,q1,fun v e=>by rw [d1] at e;cases e⟩
    · exact⟨o2,q2,fun v e=>by rw [d2] at e;cases e⟩
  keep:=fun i h h' st kk=>by
    obtain⟨gz,gI,⟨x,y,gO⟩,⟨o1,q1,r1⟩,⟨o2,q2,r2⟩⟩:=st
    exact⟨kk z (by simp) _ gz,kk TI (by simp) _ gI,⟨x,y,kk TO (by simp) _ gO⟩,⟨o1,kk i1 (by simp) _ q1,r1⟩,⟨o2,kk i2 (by simp) _ q2,r2⟩⟩
  item:=by
    intro X hP hw hK hc i pins s σ H E I hf st hg
    subst hP hw hK
    obtain⟨gz,gI,⟨x0,y0,gO⟩,t1,t2⟩:=st
    obtain⟨xs,ys,x,y,hq1,hq2,hx,hy⟩:=hg
    obtain⟨is1,rv1,p1,hz1⟩:=I.tuple hq1
    obtain⟨is2,rv2,p2,hz2⟩:=I.tuple hq2
    obtain⟨u,hu,ru⟩:=rv1.get hx
    obtain⟨v,hv,rv⟩:=rv2.get hy
    have T1:s.heap.IsTuple a is1.toArray:=p1
    have T2:s.heap.IsTuple b is2.toArray:=p2
    have ld:=fun c (h:c∈[z,TI,TO,i1,i2])=>hf c h
    refine sM Z gz gI gO t1 t2 T1 T2 (by simpa using hu) (by simpa using hv) fun h' az aO a1 a2 aN asz kk=>⟨_,rfl,wpAny_letOwnedTupleGo_zip az fun h2 az2 b2 => ?_⟩
    have zl:z < s.heap.objs.size:=ZI gz
    have Il:TI < s.heap.objs.size:=ZI gI
    have Ol:TO < s.heap.objs.size:=ZI gO
    have l1:i1 < s.heap.objs.size:=by obtain⟨_,e,_⟩:=t1;exact ZI e
    have l2:i2 < s.heap.objs.size:=by obtain⟨_,e,_⟩:=t2;exact ZI e
    have hN:H s.heap.objs.size=none:=I.hok.fresh (ZL _)
    have keep:∀ c o,c∉[z,TO,i1,i2]→s.heap.get? c=some o→h2.get? c=some o:=fun c o hc e=>by
      have hc':c≠z∧c≠TO∧c≠i1∧c≠i2:=by simpa using hc
      exact (b2.2 c hc'.1).trans (kk c o hc'.1 hc'.2.1 hc'.2.2.1 hc'.2.2.2 e)
    have nw:IsPair h2 s.heap.objs.size u v:=(b2.2 _ (Nat.ne_of_gt zl)).trans aN
    have sub:∀ c∈[z,TO,i1,i2],c∈[z,TI,TO,i1,i2]:=fun c hc=>by simp at hc ⊢;rcases hc with e|e|e|e<;>simp [e]
    have hTI2:IsPair h2 TI (.ref i1) (.ref i2):=keep TI _ (by simp;exact⟨Z.TIz,Z.TITO,Z.TIi1,Z.TIi2⟩) gI
    refine⟨.ref s.heap.objs.size,upd H s.heap.objs.size (.tup [x,y]),?_,rfl,⟨_,x,y,rfl,hN,rfl,fun zs hzs=>by rw [I.tuple_inj hzs hq1];exact hx,fun zs hzs=>by rw [I.tuple_inj hzs hq2];exact hy⟩,
      ⟨az2,hTI2,⟨_,_,(b2.2 _ Z.TOz).trans aO⟩,(let ⟨o,e,r⟩:=a1;⟨o,(b2.2 _ Z.i1z).trans e,r⟩),(let ⟨o,e,r⟩:=a2;⟨o,(b2.2 _ Z.i2z).trans e,r⟩)⟩,fun c hc => ?_⟩
    · suffices I2:L2.Inv X pins σ (upd H s.heap.objs.size (.tup [x,y])) { s with heap:=h2,gens:=s.gens,drawn:=s.drawn,toks:=s.toks } from I2
      have nch:∀ c u',H c=some u'→c∉[z,TO,i1,i2]:=fun c u' e q=>by rw [(hf c (sub c q)).1] at e;cases e
      refine I.step (g':=s.gens) (d':=s.drawn) (t':=s.toks) (ch:=[z,TO,i1,i2]) (fun c hc => ?_) (fun c o _ _ hc q _=>keep c o hc q) (fun c o _ _ hc q _=>⟨o.slots,keep c o hc q⟩) (fun c o _ q n => ?_) (fun c o hc q=>⟨o,keep c o hc q⟩)
        (fun c zs q => ?_) (fun c o u' q => ?_) (fun c ps q=>⟨#[],?_⟩) (fun m hm => ?_) (fun c u' q => ?_) I.bare
      · have:=hf c (sub c hc)
        exact⟨this.2.2.2.1,this.2.1,this.2.2.2.2.1,this.2.2.2.2.2⟩
      · rw [ay (ZN (ZI q))];exact n
      · rw [ay (aU q hN)];exact q
      · rw [ay (aU q hN)];exact q
      · rw [ay (aU q hN),q];simp
      · obtain⟨o,es,ep,ho,r⟩:=hm
        exact⟨o,es,ep,keep _ o (fun q=>(hf _ (sub _ q)).2.1 rfl) ho,r⟩
      · by_cases hb:c=s.heap.objs.size
        · subst hb
          rw [aT] at q
          cases q
          exact⟨by show 2≤sizeLine;rw [sizeLine_eq];decide,[u,v],.cons ru (.cons rv .nil),_,nw,rfl,_,rfl⟩
        · rw [ay hb] at q
          refine (I.hok c u' q).stay (fun d v' hd' e => ?_) (fun d e=>by rw [ay (aU e hN)];exact e) fun d zs e=>by rw [ay (aU e hN)];exact e
          rcases hd' with e'|e'
          · subst e';exact keep d v' (nch d _ q) e
          · exact keep d v' (nch d _ e') e
    · have hc':c=z∨c=TI∨c=TO∨c=i1∨c=i2:=by simpa using hc
      have:c≠s.heap.objs.size:=by rcases hc' with e|e|e|e|e<;>rw [e]<;>exact ZN (by assumption)
      rw [ay this]
      exact (hf c hc).1
  done:=by
    intro X hP hw hK hc i pins s σ H E I hf st hg
    subst hP hw hK
    obtain⟨gz,gI,⟨x0,y0,gO⟩,t1,t2⟩:=st
    obtain⟨xs,ys,hq1,hq2,hi⟩:=hg
    obtain⟨is1,rv1,p1,hz1⟩:=I.tuple hq1
    obtain⟨is2,rv2,p2,hz2⟩:=I.tuple hq2
    have T1:s.heap.IsTuple a is1.toArray:=p1
    have T2:s.heap.IsTuple b is2.toArray:=p2
    have e1:=rv1.length
    have e2:=rv2.length
    have nd:is1.toArray[i]? = none∨is2.toArray[i]? = none:=by
      rcases Nat.le_total xs.length ys.length with h|h
      · exact .inl (Array.getElem?_eq_none (by simp;omega))
      · exact .inr (Array.getElem?_eq_none (by simp;omega))
    have sub:∀ c∈[z,TO,i1,i2],c∈[z,TI,TO,i1,i2]:=fun c hc=>by simp at hc ⊢;rcases hc with e|e|e|e<;>simp [e]
    refine uD (I.ok.hd hc) Z gz gI gO t1 t2 T1 T2 nd fun h' kk=>⟨rfl,DC (t':=s.toks) (ch:=[z,TO,i1,i2]) I (fun c o hc e => ?_) fun c hc=>hf c (sub c hc)⟩
    have hc':c≠z∧c≠TO∧c≠i1∧c≠i2:=by simpa using hc
    exact kk c o hc'.1 hc'.2.1 hc'.2.2.1 hc'.2.2.2 e
  self:=fun _ _ _ _ _ st h=>wpAny_pyIter_zip st.1 h
section
variable {X:Cx} {pos p tp:Pos} {elts:List Expr} {tk:Nat}
def iZp (K:ZX) (ta:TA):TI:=fun σ H R=>ta σ H fun vs H1=>∃ a b xs ys,vs=[.ref a,.ref b]∧SqT K H1 a xs∧SqT K H1 b ys∧(xs.length≤sizeLine→ys.length≤sizeLine→R (Itz K a b) H1)
theorem Ga {a b:Expr} {ta:TA} (hg:Gl X "zip") (hm:X.mg "zip" = none) (ha:PA X [a,b] ta) (hs:starEach [a,b] X.env=[(false,eval a X.env),(false,eval b X.env)]:=by rfl) (hs2:starEach [b] X.env=[(false,eval b X.env)]:=by rfl):PI X (.Tuple elts tk tp) (.Call (.Name "zip" p) [a,b] [] pos) (iZp X.K ta):=by
  intro pins s σ H R I h
  refine Call_ (jx I hg hm PyProof.Rows.boot_zip (PyProof.Rows.callWith_type1 (thn (ha pos pins s σ H _ I h) fun us s1 ⟨vs,H1,I1,r1,q1⟩ => ?_) (by rw [hs,hs2]) (by rw [hs2];rfl)))
  obtain⟨a1,b1,xs,ys,e,hq1,hq2,q⟩:=q1
  subst e
  cases r1 with
  | cons r rr =>
    cases rr with
    | cons r' rr =>
      cases rr
      cases r
      cases r'
      obtain⟨is1,rv1,p1,hz1⟩:=I1.tuple hq1
      obtain⟨is2,rv2,p2,hz2⟩:=I1.tuple hq2
      have T1:s1.heap.IsTuple a1 is1.toArray:=p1
      have T2:s1.heap.IsTuple b1 is2.toArray:=p2
      have la:a1 < s1.heap.objs.size:=by obtain⟨_,e,_⟩:=T1;exact ZI e
      have lb:b1 < s1.heap.objs.size:=by obtain⟨_,e,_⟩:=T2;exact ZI e
      refine yV T1 T2 fun h' gz gI gO t1 t2 hsz hk => ?_
      refine wpAny_pyIter_zip (s:={ s1 with heap:=h' }) gz ?_
      have I2:Inv X pins σ H1 { s1 with heap:=h' }:=I1.kept (t':=s1.toks) hk
      have Z:ZipApart (s1.heap.objs.size + 4) (s1.heap.objs.size + 2) (s1.heap.objs.size + 3) s1.heap.objs.size (s1.heap.objs.size + 1) a1 b1:=by
        constructor<;>simp only [Addr] at *<;>omega
      refine⟨s1.heap.objs.size + 4,[s1.heap.objs.size + 4,s1.heap.objs.size + 2,s1.heap.objs.size + 3,s1.heap.objs.size,s1.heap.objs.size + 1],_,_,H1,rfl,I2,Bi _ _ _ _ _ a1 b1 Z,⟨gz,gI,⟨_,_,gO⟩,t1,t2⟩,fun c hc => ?_,q hz1 hz2⟩
      have hc':s1.heap.objs.size≤c:=by
        have:c=s1.heap.objs.size + 4∨c=s1.heap.objs.size + 2∨c=s1.heap.objs.size + 3∨c=s1.heap.objs.size∨c=s1.heap.objs.size + 1:=by simpa using hc
        rcases this with e|e|e|e|e<;>rw [e]<;>first|exact Nat.le_add_right _ _|exact ZL _
      exact I1.fpOk hc' (I1.hok.fresh hc')
theorem Bj {K:ZX}{ρ:List Addr}{H:Hp}{hd:Hd}{q q':Addr}{l l':List D}{vs vs':List V}(r:RH K ρ H hd)(hq:H q=some (.tup vs))(rv:RDs K ρ H l vs)(hz:vs.length≤sizeLine)(hq':H q'=some (.tup vs'))(rv':RDs K ρ H l' vs') :
    pf K ρ H (Itz K q q') ((l.zip l').map fun p=>.tup [p.1,p.2]) none where
  go:=fun ρ' H' hd' i d ex rh _ hi=>by
    have k:=r.kp ex
    obtain⟨hil,hi2⟩:=List.getElem?_eq_some_iff.mp hi
    have hl:i < l.length:=by simp at hil;omega
    have hl':i < l'.length:=by simp at hil;omega
    have hd:d=.tup [l[i],l'[i]]:=by rw [← hi2];simp
    subst hd
    obtain⟨v,hv,rd⟩:=(rv.mono k).get (i:=i) (d:=l[i]) (by simp [hl])
    obtain⟨v',hv',rd'⟩:=(rv'.mono k).get (i:=i) (d:=l'[i]) (by simp [hl'])
    have sq:SqT K H' q vs:=SqT.of (k.tup q vs hq)
    have sq':SqT K H' q' vs':=SqT.of (k.tup q' vs' hq')
    refine⟨⟨vs,vs',v,v',sq,sq',hv,hv'⟩,fun x H2 y => ?_⟩
    obtain⟨q2,v2,v3,rfl,hn,rfl,y,y'⟩:=y
    have e1:=y vs sq
    have e2:=y' vs' sq'
    rw [hv] at e1
    rw [hv'] at e2
    cases e1
    cases e2
    have sm:=cj (o:=HO.tup [v,v']) hn
    refine⟨sm,?_⟩
    simp only [RD]
    exact⟨q2,_,rfl,aT,RDs.cons (rd.mono (Kp.same sm)) (RDs.cons (rd'.mono (Kp.same sm)) RDs.nil)⟩
  stop:=fun ρ' H' hd' ex rh _=>⟨vs,vs',SqT.of ((r.kp ex).tup q vs hq),SqT.of ((r.kp ex).tup q' vs' hq'),by rw [← rv.length,← rv'.length];simp⟩
  sz:=by
    have:=rv.length
    simp;omega
theorem Gb {a b:Expr} {f g:EF} (hg:Gl X "zip") (hm:X.mg "zip" = none) (ha:ME X a f) (hb:ME X b g) (hs:starEach [a,b] X.env=[(false,eval a X.env),(false,eval b X.env)]:=by rfl) (hs2:starEach [b] X.env=[(false,eval b X.env)]:=by rfl):MI X (.Tuple elts tk tp) (.Call (.Name "zip" p) [a,b] [] pos) (DB f g):=by
  refine PI.imp (Ga hg hm (cu ha (cu hb eu hs2) (by rw [hs,hs2])) hs hs2) fun σ H R ⟨ρ,σd,hd,rs,pp⟩=>⟨ρ,σd,hd,rs,?_⟩
  unfold DB at pp
  cases e:f σd hd with
  | exc x h1=>rw [e] at pp;exact pp
  | bad=>rw [e] at pp;exact pp
  | ok d hd1 =>
    rw [e] at pp
    simp only [aG] at pp
    intro v H1 ρ1 ex1 rs1 rv
    refine⟨ρ1,σd,hd1,rs1,?_⟩
    cases e2:g σd hd1 with
    | exc x h1=>rw [e2] at pp;exact pp
    | bad=>rw [e2] at pp;exact pp
    | ok d2 hd2 =>
      rw [e2] at pp
      simp only [aG] at pp
      intro v2 H2 ρ2 ex2 rs2 rv2
      cases d<;>try exact pp.elim
      cases d2<;>try exact pp.elim
      rename_i l l'
      simp only at pp
      have rv:=RD.mono (rs1.hp.kp ex2) rv
      simp only [rD,RD] at rv rv2
      obtain⟨q,vs,rfl,hq,rvs⟩:=rv
      obtain⟨q',vs',rfl,hq',rvs'⟩:=rv2
      exact⟨q,q',vs,vs',rfl,SqT.of hq,SqT.of hq',fun hz hz'=>pp _ H2 ρ2 (ex1.trans ex2) rs2 (Bj rs2.hp hq rvs hz hq' rvs')⟩
end
end Fm
namespace Fm
open PySem PySem.Spec L2 PySem.W PyProof.Rows
section
variable {X:Cx} {pos p:Pos}
theorem Gc {a b:Expr} {fa fb:EF} (hc:X.calm=true) (hg:Gl X "min") (hm:X.mg "min" = none) (ha:ME X a fa) (hb:ME X b fb) (hs:starEach [a,b] X.env=(false,eval a X.env) :: starEach [b] X.env:=by rfl) (hs2:starEach [b] X.env=(false,eval b X.env) :: starEach [] X.env:=by rfl) (hpl:(backTo pos (starEach [b] X.env)).any (fun x=>x.1)=false:=by rfl):ME X (.Call (.Name "min" p) [a,b] [] pos) (yT fa fb):=by
  refine PE.imp (iu (yC hc) hg hm (by decide +kernel) (cu ha (cu hb eu hs2) hs) (he:=hs) (hpl:=hpl)) fun σ H Q ⟨ρ,σd,hd,rs,pp⟩=>⟨ρ,σd,hd,rs,?_⟩
  unfold yT at pp
  refine (bQ.bind (R:=rD X.K) pp).imp fun v H1 ⟨ρ1,d,hd1,e1,rs1,rv,p1⟩ => ?_
  refine⟨ρ1,σd,hd1,rs1,(bQ.bind (R:=rD X.K) p1).imp fun w H2 ⟨ρ2,k,hd2,e2,rs2,rw',p2⟩ => ?_⟩
  cases d<;>try exact p2.elim
  cases k<;>try exact p2.elim
  simp only [rD,RD] at rv rw'
  subst rv rw'
  exact⟨_,_,rfl,p2.here rs2 (by simp only [rD,RD])⟩
end
section
variable {prog:Program} {w:World} {A:Around} {E:Value→Shared→Prop} {s:Shared}
end
section
variable {X:Cx} {pos p:Pos}
end
end Fm
namespace Fm
open PySem PySem.Spec L2
open AutoSeq1 (wpAny_loadPart')
open PyProof.Rows (Call_)
def ItL (K:ZX) (a:Addr):It :=
  ⟨fun i H=>∃ xs x,SqL K H a xs∧xs[i]? = some x,fun i H x H'=>∃ q v,x=.ref q∧H q=none∧H'=upd H q (.tup [.int (i:Nat),v]) ∧ ∀ xs,SqL K H a xs→xs[i]? = some v,fun i H=>∃ xs,SqL K H a xs∧xs.length=i⟩
theorem wg {P:Program}{w:World}{K:ZX}{elts:List Expr}{k:Nat}{pos:Pos}(e it a:Addr):ue P w K (.Tuple elts k pos) (ItL K a) [e,it] e (fun i h=>(∃ old,IsEnum h e it (i:Nat) old)∧h.IsListIter it a i) where
  mem:=by simp
  obj:=fun i h st b hb=>by
    obtain⟨⟨old,he⟩,o,ho,hc,hd⟩:=st
    rcases List.mem_cons.mp hb with rfl|hb
    · exact⟨_,he,fun v z=>by
        have z':Data.fields _=Data.cell v:=z
        cases z'⟩
    · have:b=it:=by simpa using hb
      subst this
      exact⟨o,ho,fun v z=>by rw [hd] at z;cases z⟩
  keep:=fun i h h' st kk=>by
    obtain⟨⟨old,he⟩,st⟩:=st
    exact⟨⟨old,kk e (by simp) _ he⟩,st.at fun o x=>kk it (by simp) o x⟩
  item:=by
    intro X hP hw hK hc i pins s σ H E I hf st hg
    subst hP hw hK
    obtain⟨⟨old,he⟩,hit⟩:=st
    obtain⟨xs,x,hq,hx⟩:=hg
    obtain⟨its,rv,p,hz⟩:=I.list hq
    have ht:s.heap.IsList a its.toArray:=p.isList
    obtain⟨oi,hoi,hci,hdi⟩:=id hit
    obtain⟨oa,hoa,hca,na,hda⟩:=id ht
    have hei:e≠it:=fun z=>by
      subst z
      have he':s.heap.get? e=_:=he
      rw [hoi] at he';cases he';exact uv hci (by decide)
    have hea:e≠a:=fun z=>by
      subst z
      have he':s.heap.get? e=_:=he
      rw [hoa] at he';cases he';exact uv hca (by decide)
    have hai:a≠it:=fun z=>by
      subst z
      rw [hoi] at hoa;cases hoa;rw [hci] at hca;exact uv hca (by decide)
    obtain⟨e0,e1,e2,e3,e4,e5⟩:=hf e (by simp)
    obtain⟨f0,f1,f2,f3,f4,f5⟩:=hf it (by simp)
    have hlt:i < its.toArray.size:=by
      have:=(List.getElem?_eq_some_iff.mp hx).1
      have hl:=rv.length
      simp;omega
    refine wpAny_pyNext_enum_itemD (Draws.list (prog:=X.prog) (w:=X.w) (A:=X.A.in1) (I.ok.hd hc) it a hai its.toArray) he ⟨hit,ht⟩ hlt hei (by simp;exact⟨hei,hea⟩) fun y h' tk hy heo hst' htup hsz hk => ?_
    refine⟨_,rfl,wpAny_letOwnedTupleGo_enum heo fun h2 he2 hs2 => ?_⟩
    replace hs2:Heap.SameBut e h' h2:=hs2
    obtain⟨u,hu,ru⟩:=rv.get hx
    have hyu:y=u:=by
      have:its.toArray[i]? = some u:=by simpa using hu
      rw [hy] at this;exact ZT this
    subst hyu
    have elt:e < s.heap.objs.size:=ZI he
    have ilt:it < s.heap.objs.size:=ZI hoi
    have hN:H s.heap.objs.size=none:=I.hok.fresh (ZL _)
    have keep:∀ b o,b≠e→b≠it→s.heap.get? b=some o→h2.get? b=some o:=fun b o b1 b2 q=>(hs2.2 b b1).trans (hk b o b1 b2 q)
    have htup2:h2.get? s.heap.objs.size=some { cls:=.type "tuple",data:=.seq #[.int i tk,y] }:=(hs2.2 _ (Nat.ne_of_gt elt)).trans htup
    have nch:∀ b,b∉([e,it] : List Addr)→b≠e∧b≠it:=fun b hb=>by simpa using hb
    refine⟨.ref s.heap.objs.size,upd H s.heap.objs.size (.tup [.int (i:Nat),x]),?_,rfl,⟨_,x,rfl,hN,rfl,fun ys hys=>by rw [I.list_inj hys hq];exact hx⟩,⟨⟨_,by simpa using he2⟩,hst'.1.extBut hs2.extBut (Ne.symm hei)⟩,fun b hb => ?_⟩
    · suffices I2:L2.Inv X pins σ (upd H s.heap.objs.size (.tup [.int (i:Nat),x])) { s with heap:=h2,gens:=s.gens,drawn:=s.drawn,toks:=tk + 1 } from I2
      refine I.step (g':=s.gens) (d':=s.drawn) (t':=tk + 1) (ch:=[e,it]) (fun b hb => ?_) (fun b o _ _ hb q _=>keep b o (nch b hb).1 (nch b hb).2 q) (fun b o _ _ hb q _=>⟨o.slots,keep b o (nch b hb).1 (nch b hb).2 q⟩) (fun b o _ q n => ?_) (fun b o hb q=>⟨o,keep b o (nch b hb).1 (nch b hb).2 q⟩)
        (fun b ys q => ?_) (fun b o u q => ?_) (fun b ps q=>⟨#[],?_⟩) (fun m hm => ?_) (fun b u q => ?_) I.bare
      · rcases List.mem_cons.mp hb with rfl|hb
        · exact⟨e3,e1,e4,e5⟩
        · have:b=it:=by simpa using hb
          subst this
          exact⟨f3,f1,f4,f5⟩
      · rw [ay (ZN (ZI q))];exact n
      · rw [ay (aU q hN)];exact q
      · rw [ay (aU q hN)];exact q
      · rw [ay (aU q hN),q];simp
      · obtain⟨o,es,ep,ho,r⟩:=hm
        exact⟨o,es,ep,keep _ o (Ne.symm e1) (Ne.symm f1) ho,r⟩
      · by_cases hb:b=s.heap.objs.size
        · subst hb
          rw [aT] at q
          cases q
          exact⟨by show 2≤sizeLine;rw [sizeLine_eq];decide,[.int i tk,y],.cons ⟨tk,rfl⟩ (.cons ru .nil),_,htup2,rfl,_,rfl⟩
        · rw [ay hb] at q
          have ne1:∀ c v,H c=some v→c≠e:=fun c v z w=>by rw [w,e0] at z;cases z
          have ne2:∀ c v,H c=some v→c≠it:=fun c v z w=>by rw [w,f0] at z;cases z
          refine (I.hok b u q).stay (fun c v hc' z => ?_) (fun c z=>by rw [ay (aU z hN)];exact z) fun c ys z=>by rw [ay (aU z hN)];exact z
          rcases hc' with w|w
          · subst w;exact keep c v (ne1 c _ q) (ne2 c _ q) z
          · exact keep c v (ne1 c _ w) (ne2 c _ w) z
    · have:b≠s.heap.objs.size:=by
        rcases List.mem_cons.mp hb with rfl|hb
        · exact ZN elt
        · have:b=it:=by simpa using hb
          subst this
          exact ZN ilt
      rw [ay this]
      exact (hf b hb).1
  done:=by
    intro X hP hw hK hc i pins s σ H E I hf st hg
    subst hP hw hK
    obtain⟨⟨old,he⟩,hit⟩:=st
    obtain⟨xs,hq,hx⟩:=hg
    obtain⟨its,rv,p,hz⟩:=I.list hq
    have ht:s.heap.IsList a its.toArray:=p.isList
    obtain⟨oi,hoi,hci,hdi⟩:=id hit
    obtain⟨oa,hoa,hca,na,hda⟩:=id ht
    have hai:a≠it:=fun z=>by
      subst z
      rw [hoi] at hoa;cases hoa;rw [hci] at hca;exact uv hca (by decide)
    obtain⟨f0,f1,f2,f3,f4,f5⟩:=hf it (by simp)
    have hsz:its.toArray.size=i:=by have:=rv.length;simp;omega
    refine wpAny_pyNext_enum_endD (Draws.list (prog:=X.prog) (w:=X.w) (A:=X.A.in1) (I.ok.hd hc) it a hai its.toArray) he ⟨by rw [hsz];exact hit,ht⟩ fun h' hx'=>⟨rfl,I.turned (t':=s.toks) (fun b o hb e=>hx' b o hb e) f0 f1 f3 f4 f5⟩
  self:=fun _ _ _ _ _ st h=>by
    obtain⟨⟨old,he⟩,_⟩:=st
    exact wpAny_pyIter_enum he h
section
variable {X:Cx} {pos p tp:Pos} {elts:List Expr} {tk:Nat}
def IT (K:ZX) (ta:TE):TI:=fun σ H R=>ta σ H fun x H1=>∃ a xs,x=.ref a∧SqL K H1 a xs∧(xs.length≤sizeLine→R (ItL K a) H1)
theorem Bk {a:Expr} {ta:TE} (hg:Gl X "enumerate") (hm:X.mg "enumerate" = none) (ha:PE X a ta) (hs:starEach [a] X.env=[(false,eval a X.env)]:=by rfl):PI X (.Tuple elts tk tp) (.Call (.Name "enumerate" p) [a] [] pos) (IT X.K ta):=by
  intro pins s σ H R I h
  have hpa:=cu ha eu hs
  refine Call_ (jx I hg hm PyProof.Rows.boot_enumerate (PyProof.Rows.callWith_type1 (thn (hpa pos pins s σ H (fun vs H1=>∃ a xs,vs=[.ref a]∧SqL X.K H1 a xs∧(xs.length≤sizeLine→R (ItL X.K a) H1)) I ?_) fun us s1 ⟨vs,H1,I1,r1,q1⟩ => ?_) hs rfl))
  · show ta σ H fun x H1=>_
    have key:∀ (x:V) (H1:Hp),(∃ a xs,x=.ref a∧SqL X.K H1 a xs∧(xs.length≤sizeLine→R (ItL X.K a) H1))=(∃ a xs,[x] = [.ref a]∧SqL X.K H1 a xs∧(xs.length≤sizeLine→R (ItL X.K a) H1)):=fun x H1=>by simp
    have h':ta σ H fun x H1=>∃ a xs,x=.ref a∧SqL X.K H1 a xs∧(xs.length≤sizeLine→R (ItL X.K a) H1):=h
    simp only [key] at h'
    exact h'
  · obtain⟨a,xs,e,hq,q⟩:=q1
    subst e
    obtain⟨u,rfl,ru⟩:=aS.one r1
    cases (show u=Value.ref a from ru)
    obtain⟨its,rv,pt,hz⟩:=I1.list hq
    refine call_enumerate_list (show s1.heap.IsList a its.toArray from pt.isList) fun h' he hit hsz hk => ?_
    refine wpAny_pyIter_enum (s:={ s1 with heap:=h' }) he ?_
    have I2:Inv X pins σ H1 { s1 with heap:=h' }:=I1.kept (t':=s1.toks) hk
    refine⟨s1.heap.objs.size + 1,[s1.heap.objs.size + 1,s1.heap.objs.size],_,_,H1,rfl,I2,wg (s1.heap.objs.size + 1) s1.heap.objs.size a,⟨⟨_,by simpa using he⟩,hit⟩,fun b hb => ?_,q hz⟩
    have hb':s1.heap.objs.size≤b:=by
      rcases List.mem_cons.mp hb with e|hb
      · rw [e];exact Nat.le_succ _
      · have:b=s1.heap.objs.size:=by simpa using hb
        rw [this];exact ZL _
    exact I1.fpOk hb' (I1.hok.fresh hb')
theorem wj {K:ZX}{ρ:List Addr}{H:Hp}{n:Nat}{q:Addr}{l:List D}(hq : ρ[n]? = some q)(hz:(iz l).length≤sizeLine):uq K ρ H (ItL K q) (iz l) (fun h=>h[n]? = some (.lst l)) where
  go:=fun ρ' H' hd' i d ex rh hh hi=>by
    have hq':=ex.get hq
    obtain⟨vs,hv,rvs⟩:=rh.cel n _ q hh hq'
    unfold iz at hi
    obtain⟨hil,hi2⟩:=List.getElem?_eq_some_iff.mp hi
    have hl:i < l.length:=by simpa using hil
    have hd:d=.tup [.int (i:Nat),l[i]]:=by rw [← hi2];simp
    subst hd
    obtain⟨v,hvi,rd⟩:=rvs.get (i:=i) (d:=l[i]) (by simp [hl])
    have sq:SqL K H' q vs:=SqL.of hv
    refine⟨⟨vs,v,sq,hvi⟩,fun x H2 y => ?_⟩
    obtain⟨q2,v2,rfl,hn,rfl,y⟩:=y
    have:=y vs sq
    rw [hvi] at this
    cases this
    have sm:=cj (o:=HO.tup [.int (i:Nat),v]) hn
    refine⟨sm,?_⟩
    simp only [RD]
    exact⟨q2,_,rfl,aT,RDs.cons (by simp only [RD]) (RDs.cons (rd.mono (Kp.same sm)) RDs.nil)⟩
  stop:=fun ρ' H' hd' ex rh hh=>by
    have hq':=ex.get hq
    obtain⟨vs,hv,rvs⟩:=rh.cel n _ q hh hq'
    exact⟨vs,SqL.of hv,by rw [← rvs.length];simp [iz]⟩
  sz:=hz
def Bl (K:ZX) (ρ:List Addr) (H:Hp) (σd:Sd) (σ:St) (r:Res D) (R:It→Hp→Prop):Prop:=match r with
  | .ok (.ref n) hd'=>match hd'[n]? with
    | some (.lst l)=>∀ J H' ρ',Ext ρ H ρ' H'→RS K ρ' H' σd hd' σ → uq K ρ' H' J (iz l) (fun h=>h[n]? = some (.lst l))→R J H'
    | _=>False
  | _=>False
def HI (K:ZX) (f:EF):TI:=fun σ H R=>∃ ρ σd hd,RS K ρ H σd hd σ ∧ Bl K ρ H σd σ (f σd hd) R
def MIE (X:Cx) (tg e:Expr) (f:EF):Prop:=PI X tg e (HI X.K f)
theorem Bm {a:Expr} {f:EF} (hg:Gl X "enumerate") (hm:X.mg "enumerate" = none) (ha:ME X a f) (hs:starEach [a] X.env=[(false,eval a X.env)]:=by rfl):MIE X (.Tuple elts tk tp) (.Call (.Name "enumerate" p) [a] [] pos) f:=by
  refine PI.imp (Bk hg hm ha hs) fun σ H R ⟨ρ,σd,hd,rs,pp⟩=>⟨ρ,σd,hd,rs,?_⟩
  unfold Bl at pp
  cases e:f σd hd with
  | exc x h1=>rw [e] at pp;exact pp
  | bad=>rw [e] at pp;exact pp
  | ok d hd1 =>
    rw [e] at pp
    intro v H1 ρ1 ex1 rs1 rv
    cases d<;>try exact pp.elim
    rename_i n
    cases c1:hd1[n]? with
    | none=>simp only [c1] at pp
    | some cell =>
      simp only [c1] at pp
      cases cell with
      | dct l=>exact pp.elim
      | lst l =>
        simp only at pp
        simp only [rD,RD] at rv
        obtain⟨q,hq,rfl⟩:=rv
        obtain⟨vs,hv,rvs⟩:=rs1.hp.cel n _ q c1 hq
        exact⟨q,vs,rfl,SqL.of hv,fun hz=>pp _ H1 ρ1 ex1 rs1 (wj hq (by rw [show (iz l).length=vs.length by rw [← rvs.length];simp [iz]];exact hz))⟩
end
section
variable {X:Cx} {pos:Pos} {tg:Expr}
end
end Fm
namespace Fm
end Fm
namespace Fm
open PySem PySem.Spec L2
open PyProof.Rows (Call_)
section
variable {X:Cx} {pos p p2 pos2:Pos}
end
end Fm
namespace Fm
end Fm
namespace Fm
noncomputable section
open Classical
@[simp] def pE (nl:Nat) (caps:List Nat) (a:EF) (tg:GF) (cs:List TF) (e:EF):LF:=fun σ h=>match a σ h with
  | .ok (.ref n) h=>match h[n]? with
    | some (.lst l)=>fj (fun h=>h[n]? = some (.lst l)) tg cs e (iz l) (gw nl caps σ) h
    | _=>.bad
  | .ok _ _=>.bad
  | .exc x h=>.exc x h
  | .bad=>.bad
end
@[simp] def rF (x:EF) (L:LF):EF:=fun σ h=>(x σ h).bind fun p h=>match p with
  | .ref n=>match h[n]? with
    | some (.lst _)=>(L σ h).bind fun ds h=>match h[n]? with
      | some (.lst l)=>if l.length + ds.length≤SZ then .ok .non (h.set n (.lst (l++ds))) else .bad
      | _=>.bad
    | _=>.bad
  | _=>.bad
end Fm
namespace Fm
open PySem PySem.Spec L2
section
variable {X:Cx} {pos:Pos} {scope:Scope} {own capn:List Str} {caps:List Nat}
theorem Bn {elt tg iter:Expr}{ifs:List Expr}{f:EF}{g:GF}{cs:List TF}{e:EF}(hc:X.calm=true)(S:bM X scope own capn caps)(hi:MIE X tg iter f)
    (hin:∀ cl C s H ex,MG (cxC X (own++capn) scope cl C s H ex) tg g∧MTs (cxC X (own++capn) scope cl C s H ex) ifs cs∧ME (cxC X (own++capn) scope cl C s H ex) elt e)
    (hs:∀ x,foldedSetIterable iter X.env x=pure x:=by intro _;rfl):MF X (.ListComp elt [⟨tg,iter,ifs,0⟩] scope pos) (pE own.length caps f g cs e):=by
  intro pins s σ H Q I ⟨ρ,σd,hd,rs,p⟩
  rw [eval_ListComp]
  unfold pE at p
  cases c:f σd hd with
  | exc z h7=>rw [c] at p;exact p.elim
  | bad=>rw [c] at p;exact p.elim
  | ok d hd1 =>
    rw [c] at p
    cases d<;>try exact p.elim
    rename_i n
    simp only at p
    cases c1:hd1[n]? with
    | none=>rw [c1] at p;exact p.elim
    | some cell =>
      rw [c1] at p
      cases cell with
      | dct l=>exact p.elim
      | lst l0 =>
        simp only at p
        obtain⟨cl,h1,hcl1,hcl2⟩:=kJ (scope:=scope) (env:=X.env) fun y hy hyf=>I.ok.has y.1 (S.free y hy hyf)
        refine wpAny_comprehension_free (use:=none) rfl hs h1 S.kind S.names (thn (hi pins s σ H (fun J H1=>∃ ρ1,Ext ρ H ρ1 H1∧RS X.K ρ1 H1 σd hd1 σ ∧ uq X.K ρ1 H1 J (iz l0) (fun h=>h[n]? = some (.lst l0))) I ⟨ρ,σd,hd,rs,by
          unfold Bl
          rw [c]
          simp only [c1]
          exact fun J H' ρ' ex rs' wk=>⟨ρ',ex,rs',wk⟩⟩) fun v s1 h1=>thn h1 fun itv s2 h2 => ?_)
        obtain⟨it,fp,tn,J,H1,rfl,I1,T,st0,hf,ρ1,ex1,rs1,wk⟩:=h2
        generalize hG:(fun h:Hd=>h[n]? = some (.lst l0))=G at p wk
        cases c2:fj G g cs e (iz l0) (gw own.length caps σd) hd1 with
        | exc z h7=>rw [c2] at p;exact p.elim
        | bad=>rw [c2] at p;exact p.elim
        | ok ds hdF =>
          rw [c2] at p
          refine mz (RR:=fun acc C=>compPost (model X.prog X.w) X.A X.xe none (EP X pins σ Q) acc C) hc S hin I1 T st0 hf rs1 wk hcl1 hcl2 c2 fun C s' m H' ρ' vs hC hn I' hCn ex rh hD0 hD hnD rds => ?_
          refine⟨m,hn,fun h' sb=>⟨.ref s2.heap.objs.size,H',?_,rfl,?_⟩⟩
          · refine I'.turned (it:=C) (t':=s'.toks) (fun b o hb e=>(sb.2 b hb).trans e) hCn ?_ (.inr (Nat.le_of_lt (ZS I1.sz hC))) (fun x c e z => ?_) fun q hq z => ?_
            · exact Nat.ne_of_gt (Nat.lt_trans I1.lt hC)
            · obtain⟨v,o,ho,hd⟩:=I1.cell x c e
              exact absurd (Nat.lt_trans (ZI ho) hC) (by rw [z];exact Nat.lt_irrefl _)
            · exact absurd (Nat.lt_trans (ZI (I1.pin q hq).1) hC) (by rw [z];exact Nat.lt_irrefl _)
          · exact p _ vs H' ρ' (ex1.trans ex) (rs.ext (ex1.trans ex) rh) (ex1.fresh hD0 (rs1.hp.free hD0)) hD hnD rds
end
section
variable {X:Cx}
theorem xN {o e:Expr} {fo:EF} {L:LF} {apos cpos:Pos} (ho:ME X o fo) (he:MF X e L) (hbase:attributeBase o "extend" X.env (eval o X.env)=eval o X.env:=by rfl)
    (hfew:((backTo cpos (starEach [e] X.env)).all (fun x => !x.1) && (backToKw cpos (keywordEach [] X.env)).all (fun x=>x.1.isSome)
      && decide (([e] : List Expr).length + ([] : List Keyword).length + (if ([] : List Keyword).isEmpty then 0 else 1) < 30))=true:=by rfl)
    (hline:(apos.endLine == cpos.line)=true:=by rfl) (hs:starEach [e] X.env=(false,eval e X.env) :: starEach [] X.env:=by rfl) :
    ME X (.Call (.Attribute o "extend" apos) [e] [] cpos) (rF fo L):=by
  refine PE.imp (EE PySem.F.plainAttrs_list PySem.F.slot_list_extend PySem.F.type_list_extend yE ho (cu he eu hs) hbase hfew hline hs) fun σ H Q ⟨ρ,σd,hd,rs,pp⟩=>⟨ρ,σd,hd,rs,?_⟩
  unfold rF at pp
  refine (bQ.bind (R:=rD X.K) pp).imp fun v H1 ⟨ρ1,d,hd1,e1,rs1,rv,p1⟩ => ?_
  cases d<;>try exact p1.elim
  rename_i n
  simp only [rD,RD] at rv
  obtain⟨a,ha,rfl⟩:=rv
  simp only at p1
  cases c1:hd1[n]? with
  | none=>rw [c1] at p1;exact p1.elim
  | some cell1 =>
    rw [c1] at p1
    cases cell1 with
    | dct l=>exact p1.elim
    | lst l1 =>
      obtain⟨vs,hv,_⟩:=rs1.hp.cel n _ a c1 ha
      simp only at p1
      refine⟨.inl ⟨rfl,vs,SqL.of hv⟩,ρ1,σd,hd1,rs1,?_⟩
      cases c2:L σd hd1 with
      | exc z h7=>rw [c2] at p1;exact p1.elim
      | bad=>rw [c2] at p1;exact p1.elim
      | ok ds hd2 =>
        rw [c2] at p1
        simp only [aG] at p1
        intro q ws H2 ρ2 e2 rs2 hq0 hq hn rws
        cases c:hd2[n]? with
        | none=>rw [c] at p1;exact p1.elim
        | some cell =>
          rw [c] at p1
          cases cell with
          | dct l=>exact p1.elim
          | lst l =>
            simp only at p1
            split at p1
            · rename_i hz
              have ha2:=e2.get ha
              obtain⟨vs2,hv2,rvs2⟩:=rs2.hp.cel n _ a c ha2
              refine⟨a,q,vs2,ws,rfl,rfl,hv2,hq,?_,?_⟩
              · rw [← rvs2.length,← rws.length];exact ZM hz (by rw [sizeLine_eq];decide)
              · have hn:n < hd2.length:=(List.getElem?_eq_some_iff.mp c).1
                have rh:=rs2.hp.write ha2 hn (RDs.append rvs2 rws)
                have ex:Ext ρ2 H2 ρ2 (upd H2 a (.lst (vs2++ws))):=Ext.write (ZK ha2)
                exact (p1.ext e2).at ex (rs2.ext ex rh) (by simp only [rD,RD])
            · exact p1.elim
end
end Fm
namespace Fm
open PySem PySem.Spec L2
theorem lc {p q:Prop}(h:p∨q:=by first|exact .inl rfl|exact .inr rfl):p∨q:=h
theorem bM.a {X:Cx}{scope:Scope}{own capn:List Str}{caps:List Nat}(cp:bG X scope capn caps)(k:scope.kind=.function:=by rfl)(c:∀ y∈scope.names,y.2 ≠ .cell:=by decide +kernel)(n:∀ y∈scope.names,y.2=.local→scope.names.lookup y.1=some .local:=by decide +kernel)
    (f:fz X scope.names:=by repeat' (first|exact fz.nil|refine fz.cons (by first|exact (fun _=>.inl rfl)|exact (fun _=>.inr rfl)|(intro z;cases z;done)) ?_)):bM X scope own capn caps:=bM.mk' k c n f cp
section
variable {X:Cx} {pos p:Pos}
theorem ao {x:Str}{k j np:Nat}{F:Fn}{e:Expr}{es:List Expr}{r:LF}(hd:Def X.prog X.w X.K X.mg X.base x k np F)(hr:gW j X.A)(ha:MA X (e :: es) r)(hj:k≤j:=by decide)(hg:Gl X x:=by rfl)(hnp:∀ ds h d h',F ds h=.ok d h'→ds.length=np:=by exact Dt)
    (hdb:(x == ("__debug__" : Str))=false:=by decide) (he:starEach (e :: es) X.env=(false,eval e X.env) :: starEach es X.env:=by rfl) (hpl:(backTo pos (starEach es X.env)).any (·.1)=false:=by rfl) :
    ME X (.Call (.Name x p) (e :: es) [] pos) (am F r):=Ds hd (hr.mono hj) hg ha hnp hdb he hpl
end
def At (K:ZX) (n:Str) (st:Stmt):Prop:=∃ (f:Addr) (od an:Option Addr) (sl:Array (Option Value)) (oc kV dc pm cd ct:Value),PySem.W.nsIn K mainGlobals n=some (some (.ref f))∧K.lookup f=some ⟨oc,od,.func (PySem.W.fnOf n n (eF st) (dP st) (ax st) .none kV dc pm an cd ct),sl⟩ ∧ PySem.W.codeIn K cd n=true∧PySem.W.keepIn K (.ref f)=true
def Nb (K:ZX) (n:Str):Prop:=PySem.W.nsIn K mainGlobals n=some none
structure En (P:Program) (w:World) (K:ZX) (mg:Str→Option Value) (base:Heap):Prop where
  ex:∃ h:Heap,K.In h∧h.Ns mainGlobals mg
section
variable {P:Program} {w:World} {K:ZX} {mg:Str→Option Value} {base h:Heap} {n:Str} {st:Stmt} {ps:List Str} {k np:Nat} {F:Fn}
theorem At.i {f:Addr}{od an:Option Addr}{sl:Array (Option Value)}{oc kV dc pm cd ct:Value}(h1:PySem.W.nsIn K mainGlobals n=some (some (.ref f)))(h2:K.lookup f=some ⟨oc,od,.func (PySem.W.fnOf n n (eF st) (dP st) (ax st) .none kV dc pm an cd ct),sl⟩)(h3:PySem.W.codeIn K cd n=true)(h4:PySem.W.keepIn K (.ref f)=true):At K n st:=⟨f,od,an,sl,oc,kV,dc,pm,cd,ct,h1,h2,h3,h4⟩
theorem At.out (a:At K n st)(X:K.In h)(G:h.Ns mainGlobals mg):∃ f fd,mg n=some (.ref f)∧PySem.W.keepIn K (.ref f)=true∧Fun K n n st f fd:=by
  obtain⟨f,od,an,sl,oc,kV,dc,pm,cd,ct,h1,h2,h3,h4⟩:=a
  exact⟨f,_,PySem.W.mg_of X G h1,h4,AB (st:=st) h2 h3 h4⟩
theorem At.df (a:At K n st)(q:En P w K mg base)(ok:∀ {f fd},Fun K n n st f fd→bS P w K mg base CX0 k f fd ps (spF K F np))
    (hb:∀ (kV doc pm:Value) (an:Option Addr) (cdv ct:Value) (us:List Value),us.length=ps.length→bindArgs (PySem.W.fnOf n n (eF st) (dP st) (ax st) .none kV doc pm an cdv ct) ⟨us,[]⟩ = pure (ps.zip us)):Def P w K mg base n k np F:=by
  obtain⟨h,X,G⟩:=q.ex
  obtain⟨f,fd,h1,h2,U⟩:=a.out X G
  exact Def.mk' h1 h2 (U.binds hb) (ok U)
theorem At.df1 (a:At K n st)(q:En P w K mg base)(ok:∀ {f fd},Fun K n n st f fd→bS P w K mg base CX0 k f fd ps (spF K F np))(hl:ps.length=1:=by rfl)
    (hb:∀ (kV doc pm:Value) (an:Option Addr) (cdv ct a:Value),bindArgs (PySem.W.fnOf n n (eF st) (dP st) (ax st) .none kV doc pm an cdv ct) ⟨[a],[]⟩ = pure (ps.zip [a]):=by intros;rfl):Def P w K mg base n k np F :=
  a.df q ok fun kV doc pm an cdv ct us h=>match us,h.trans hl with | [a],_=>hb kV doc pm an cdv ct a
theorem At.df2 (a:At K n st)(q:En P w K mg base)(ok:∀ {f fd},Fun K n n st f fd→bS P w K mg base CX0 k f fd ps (spF K F np))(hl:ps.length=2:=by rfl)
    (hb:∀ (kV doc pm:Value) (an:Option Addr) (cdv ct a b:Value),bindArgs (PySem.W.fnOf n n (eF st) (dP st) (ax st) .none kV doc pm an cdv ct) ⟨[a,b],[]⟩ = pure (ps.zip [a,b]):=by intros;rfl):Def P w K mg base n k np F :=
  a.df q ok fun kV doc pm an cdv ct us h=>match us,h.trans hl with | [a,b],_=>hb kV doc pm an cdv ct a b
theorem At.df3 (a:At K n st)(q:En P w K mg base)(ok:∀ {f fd},Fun K n n st f fd→bS P w K mg base CX0 k f fd ps (spF K F np))(hl:ps.length=3:=by rfl)
    (hb:∀ (kV doc pm:Value) (an:Option Addr) (cdv ct a b c:Value),bindArgs (PySem.W.fnOf n n (eF st) (dP st) (ax st) .none kV doc pm an cdv ct) ⟨[a,b,c],[]⟩ = pure (ps.zip [a,b,c]):=by intros;rfl):Def P w K mg base n k np F :=
  a.df q ok fun kV doc pm an cdv ct us h=>match us,h.trans hl with | [a,b,c],_=>hb kV doc pm an cdv ct a b c
theorem At.df4 (a:At K n st)(q:En P w K mg base)(ok:∀ {f fd},Fun K n n st f fd→bS P w K mg base CX0 k f fd ps (spF K F np))(hl:ps.length=4:=by rfl)
    (hb:∀ (kV doc pm:Value) (an:Option Addr) (cdv ct a b c d:Value),bindArgs (PySem.W.fnOf n n (eF st) (dP st) (ax st) .none kV doc pm an cdv ct) ⟨[a,b,c,d],[]⟩ = pure (ps.zip [a,b,c,d]):=by intros;rfl):Def P w K mg base n k np F :=
  a.df q ok fun kV doc pm an cdv ct us h=>match us,h.trans hl with | [a,b,c,d],_=>hb kV doc pm an cdv ct a b c d
theorem fsc {N P:List Str}{sc:Scope}(h1:sc.kind=.function:=by rfl)(h2:sc.isCoroutine=false:=by rfl)(h3:sc.isGenerator=false:=by rfl)(h4:N.Nodup:=by decide +kernel)(h5:N.take P.length=P:=by rfl)(h6:∀ x∈P,sc.names.lookup x=some .local ∨sc.names.lookup x=some .cell:=by decide +kernel)(h7:∀ y∈sc.names,y.2 ≠ .free:=by decide +kernel):aF N P sc:=⟨h1,h2,h3,h4,h5,h6,h7⟩
end
end Fm
namespace Fm
end Fm
namespace L2
open PySem PySem.Spec PyProof.Rows PySem.W PySem.Builtin PySem.Builtin.ObjectAttr PySem.Builtin.Getset_descriptor
structure Je (K:ZX) (D:Addr):Prop where
  ga:PySem.W.findIn K (.ref D) "__getattribute__" = some (some (.builtin "BaseException.__getattribute__"))
  gt:PySem.W.findIn K (.ref D) "__getattr__" = some none
  cl:PySem.W.findIn K (.ref D) "__class__" = some (some (.builtin "object.__class__"))
  be:PySem.W.subIn K (.ref D) (.type "BaseException")=some true
  ob:PySem.W.mroIn K D (.type "object")=some true
  is:(PySem.W.clsIn K D).isSome=true
section
variable {prog:Program} {w:World} {A:Around} {E:Value→Shared→Prop} {K:ZX} {D:Addr} {h:Heap} {g:Array GenState} {d:Drawn} {t:Nat} {os:OsState} {a:Addr} {o:Obj} {vs:Array Value}
end
end L2
namespace L2
open PySem PySem.Spec PyProof.Rows
section
variable {P:Program} {w:World} {H:Hp} {h:Heap} {a:Addr} {o:HO}
end
structure Cov (X:Cx) (pins:List (Addr × Obj)) (H:Hp) (B:Heap):Prop where
  trk:∀ b u,H b=some u → ∃ o,B.get? b=some o
  old:∀ b o,X.s₀.heap.get? b=some o→b∉frs X.stack→b∉X.ex → ∃ o,B.get? b=some o
  pin:∀ p∈X.pn++pins,∃ o,B.get? p.1=some o
section
variable {X:Cx} {pins:List (Addr × Obj)} {σ:St} {H:Hp} {s:Shared} {B h':Heap}
def XAt (X:Cx) (pins:List (Addr × Obj)) (σ:St) (H:Hp) (a C:Addr) (s':Shared):Prop :=
  (∃ s1 h' vs,Inv X pins σ H s1∧Heap.MadeExcOf s1.heap h' a (.ref C) vs∧s' = { s1 with heap:=h' }) ∨
  (∃ B t,Inv X pins σ H s'∧Heap.FlyingW B X.stack a (.ref C) (.ref t) s'.heap∧Cov X pins H B)
def XP (X:Cx) (E:Addr→Hp→Prop) (e:Value) (s':Shared):Prop:=∃ pins σ H a C,e=.ref a∧XAt X pins σ H a C s'∧E C H
def CX1 (P:Program) (w:World):CXT:=fun outer H s E e s'=>∃ a C B t H',e=.ref a∧s'.os=s.os∧AllBare s'.gens∧Un (frs outer) [] H H' s.heap s'.heap∧HOk P w H' s'.heap ∧
  Heap.FlyingW B outer a (.ref C) (.ref t) s'.heap∧(∀ b u,H' b=some u → ∃ o,B.get? b=some o)∧(∀ b o,s.heap.get? b=some o→b∉frs outer → ∃ o,B.get? b=some o)∧E (.ref C) none H'
end
end L2
namespace L2
open PySem PySem.Spec PyProof.Rows
section
variable {X:Cx} {E:Addr→Hp→Prop} {x:Str} {C:Addr} {bm:List Value} {B newId initId:String} {np cpos pos:Pos} {e₀ : Expr} {rest:List Expr} {ta:TA}
end
section
variable {P:Program} {w:World} {K:ZX} {mg:Str→Option Value} {base:Heap}
end
section
variable {X:Cx} {pins:List (Addr × Obj)} {σ:St} {H:Hp} {s:Shared}
end
section
variable {X:Cx} {body:List Stmt} {x n c:Str} {M:Addr} {i j:Nat} {np cp vp ap hp pos:Pos} {tb:(Addr→Hp→Prop)→TS}
end
end L2
namespace Fm
open PySem PySem.Spec L2 PyProof.Rows
section
variable (K:ZX) (mg:Str→Option Value)
def spX (F:Fn) (np:Nat):Sp:=fun vs H _ E=>∃ ρ hd ds,RH K ρ H hd∧RDs K ρ H ds vs∧ds.length=np ∧
  ∃ c l hd' C,F ds hd=.exc (.exn c l) hd'∧mg (Str.ofString c)=some (.ref C) ∧ ∀ H' ρ',Ext ρ H ρ' H'→RH K ρ' H' hd'→E (.ref C) none H'
end
section
variable {K:ZX} {mg:Str→Option Value} {ρ ρ':List Addr} {H H':Hp} {E:Addr→Hp→Prop} {En:sr}
end
abbrev Wi:=(Addr→Hp→Prop)→Value→Shared→Prop
structure Jf (P:Program) (w:World) (K:ZX) (mg:Str→Option Value) (base:Heap) (x:Str) (k np:Nat) (F:Fn):Prop where
  ex:∃ f fd ps,mg x=some (.ref f)∧PySem.W.keepIn K (.ref f)=true∧lq K fd ps []∧bS P w K mg base (CX1 P w) k f fd ps (spX K mg F np)
section
variable {X:Cx} {R:Wi} {pos p:Pos}
end
section
variable {P:Program} {w:World} {K:ZX} {mg:Str→Option Value} {base:Heap}
end
end Fm
namespace Fm
open PySem PySem.Spec L2 PyProof.Rows
section
variable {X:Cx} {pos p:Pos}
end
end Fm
namespace Fm
open PySem PySem.Spec L2 PyProof.Rows
end Fm
namespace Fm
def noX {α : Type}:Res α → Res α
  | .exc _ _=>.bad
  | r=>r
def fPl {α : Type} (f:Sd→Hd→Res α):Sd→Hd→Res α := fun σ h=>noX (f σ h)
end Fm
namespace L2
open PySem PySem.Spec PyProof.Rows
end L2
namespace Fm
open PySem PySem.Spec L2 PyProof.Rows
section
variable (K:ZX) (mg:Str→Option Value)
def XC (ρ:List Addr) (H:Hp) (E:Addr→Hp→Prop) (x:D) (hd:Hd):Prop:=∃ c l C,x=.exn c l∧mg (Str.ofString c)=some (.ref C) ∧ ∀ H' ρ',Ext ρ H ρ' H'→RH K ρ' H' hd→E C H'
def HJ {α β : Type} (R:VR α β) (ρ:List Addr) (H:Hp) (σd:Sd) (σ:L2.St) (r:Res α) (E:Addr→Hp→Prop) (Q : β → Hp→Prop):Prop:=match r with
  | .ok a hd'=>∀ b H' ρ',Ext ρ H ρ' H'→RS K ρ' H' σd hd' σ → R ρ' H' a b→Q b H'
  | .exc x hd'=>XC K mg ρ H E x hd'
  | .bad=>False
def HK {α β : Type} (R:VR α β) (E:Addr→Hp→Prop) (f:Sd→Hd→Res α):L2.St→Hp→(β → Hp→Prop)→Prop:=fun σ H Q=>∃ ρ σd hd,RS K ρ H σd hd σ ∧ HJ K mg R ρ H σd σ (f σd hd) E Q
def spY (F:Fn) (np:Nat):Sp:=fun vs H Q E=>∃ ρ hd ds,RH K ρ H hd∧RDs K ρ H ds vs∧ds.length=np∧match F ds hd with
  | .ok d hd'=>∀ v H' ρ',Ext ρ H ρ' H'→RH K ρ' H' hd'→RD K ρ' H' d v→Q v H'
  | .exc x hd'=>XC K mg ρ H (fun C H'=>E (.ref C) none H') x hd'
  | .bad=>False
end
section
variable {K:ZX} {mg:Str→Option Value} {ρ ρ':List Addr} {H H':Hp} {E:Addr→Hp→Prop} {σd:Sd} {σ:L2.St} {hd:Hd} {α β α' β':Type} {R:VR α β} {R':VR α' β'}
end
def NE (X:Cx) (E:Addr→Hp→Prop) (e:Expr) (f:EF):Prop:=PE X e (HK X.K X.mg (rD X.K) E f)
structure Jg (P:Program) (w:World) (K:ZX) (mg:Str→Option Value) (base:Heap) (x:Str) (k np:Nat) (F:Fn):Prop where
  ex:∃ f fd ps,mg x=some (.ref f)∧PySem.W.keepIn K (.ref f)=true∧lq K fd ps []∧bS P w K mg base (CX1 P w) k f fd ps (spY K mg F np)
section
variable {X:Cx} {E:Addr→Hp→Prop} {pos p:Pos}
end
end Fm
namespace L2
open PySem PySem.Spec PyProof.Rows
section
variable {X:Cx} {E:Addr→Hp→Prop} {e:Value} {s':Shared} {R:Value→Shared→Prop}
end
end L2
namespace Fm
open PySem PySem.Spec L2 PyProof.Rows
section
variable {X:Cx} {E:Addr→Hp→Prop} {pos p:Pos}
end
section
variable {P:Program} {w:World} {K:ZX} {mg:Str→Option Value} {base:Heap}
end
end Fm
namespace Fm
open PySem PySem.Spec L2 PyProof.Rows
section
variable {X:Cx} {pos p:Pos}
end
end Fm
namespace Fm
end Fm
namespace L2
open PySem PySem.Spec PyProof.Rows
section
variable {X:Cx} {body:List Stmt} {x n c:Str} {M:Addr} {i j:Nat} {np cp vp ap hp pos:Pos} {tb:(Addr→Hp→Prop)→TS}
end
end L2
namespace Fm
open PySem PySem.Spec L2 PyProof.Rows
section
variable {X:Cx} {pos p:Pos}
end
end Fm
namespace Fm
def ltT:D→D→Option Bool
  | .tup xs,.tup ys=>match en xs,en ys with
    | some ns,some ms=>some (lexLt ns ms)
    | _,_=>none
  | _,_=>none
@[simp] def wm:O2:=fun x y h=>match ltT x y with|some b=>.ok (.bl b) h|none=>.bad
end Fm
namespace Fm
open PySem PySem.Spec L2 PyProof.Rows
section
variable (K:ZX) (mg:Str→Option Value)
end
section
variable {X:Cx} {E:Addr→Hp→Prop} {pos p:Pos} {scope:Scope} {own capn:List Str} {caps:List Nat}
theorem uE:∀ (a b:List Int),HT.lexLt a b=lexLt a b
  | [],[]=>rfl
  | [],_ :: _=>rfl
  | _ :: _,[]=>rfl
  | x :: xs,y :: ys=>by
    show (if x=y then HT.lexLt xs ys else decide (x < y))=_
    rw [uE xs ys];rfl
theorem Ge {K:ZX}:Og K wm (Hn K):=by
  intro ρ H σd hd σ d k v w Q rs rv rw' p
  unfold wm at p
  cases d<;>try exact p.elim
  cases k<;>try exact p.elim
  rename_i xs ys
  simp only [ltT] at p
  cases e1:en xs with
  | none=>rw [e1] at p;exact p.elim
  | some ns =>
    cases e2:en ys with
    | none=>rw [e1,e2] at p;exact p.elim
    | some ms =>
      rw [e1,e2] at p
      simp only [RD] at rv rw'
      obtain⟨a,vs,rfl,ha,rvs⟩:=rv
      obtain⟨b,ws,rfl,hb,rws⟩:=rw'
      refine⟨a,b,ns,ms,rfl,rfl,SqT.of (by rw [ha,jD rvs e1]),SqT.of (by rw [hb,jD rws e2]),?_⟩
      rw [uE]
      exact p.here rs (by simp only [rD,RD])
end
end Fm
namespace Fm
end Fm
namespace Fm
@[simp] def DD (a:LF):EF:=fun σ h=>(a σ h).bind fun l h=>match fY l with|some bs=>.ok (.bl (bs.any id)) h|none=>.bad
end Fm
namespace Fm
open PySem PySem.Spec L2 PySem.W PyProof.Rows
section
variable {prog:Program} {w:World} {A:Around} {E:Value→Shared→Prop} {s:Shared}
end
section
variable {X:Cx} {pos p:Pos}
end
end Fm
namespace Fm
open PySem PySem.Spec L2 PySem.W PyProof.Rows
section
variable {X:Cx} {pos p:Pos}
theorem Bo (bs:List Bool):(List.range bs.length).any (fun i=>bs.getD i false)=bs.any id:=by
  have:bs=(List.range bs.length).map fun i=>bs.getD i false:=by
    apply List.ext_getElem?
    intro i
    by_cases hi:i < bs.length<;>simp [List.getD,hi]
  conv=>rhs;rw [this]
  rw [List.any_map]
  rfl
theorem yW (hc:X.calm=true):fX X (.builtin "any") (fun xs H Q=>∃ (p:Addr) (bs:List Bool),xs=[.ref p]∧(SqL X.K H p (bs.map V.bl)∨SqT X.K H p (bs.map V.bl))∧Q (.bl (bs.any id)) H):=by
  intro pins s σ H xs us Q I r q
  obtain⟨p,bs,rfl,sq,q⟩:=q
  obtain⟨u,rfl,ru⟩:=aS.one r
  cases (show u=Value.ref p from ru)
  have hA:(X.A.in1).handled=none:=I.ok.hd hc
  have tr:∀ (its:List Value),aS (bs.map V.bl) its→TruthOf X.prog X.w X.A.in1 (fun i v=>its.toArray[i]? = some v) (fun i=>bs.getD i false):=fun its rv i v s Q E hP hQ=>by
    rw [uB rv i v hP]
    exact wpAny_truthy_bool hQ
  have fin:∀ {it:Obj} {h':Heap} {tk:Nat} {n:Nat},n=bs.length→(∀ b o,b∉[s.heap.objs.size]→(s.heap.push it).get? b=some o→h'.get? b=some o)→EP X pins σ Q (.bool ((List.range n).any fun i=>bs.getD i false)) { s with heap:=h',toks:=tk }:=by
    intro it h' tk n hn hk
    subst hn
    refine⟨.bl (bs.any id),H,I.kept (t':=tk) fun b o e=>hk b o (by simp;exact ZN (ZI e)) (ZH _ e),by rw [Bo];rfl,q⟩
  rcases sq with sq|sq
  · obtain⟨its,rv,pl,hz⟩:=I.list sq
    have il:s.heap.IsList p its.toArray:=pl.isList
    have hlt:p < s.heap.objs.size:=by obtain⟨o,ho,_⟩:=il;exact ZI ho
    refine PySem.call_any_walk (PySem.wpAny_pyIter_list il ?_)
    refine⟨s.heap.objs.size,_,[s.heap.objs.size],_,_,_,fun i=>bs.getD i false,rfl,PySem.Walks.list hA s.heap.objs.size p (ZN hlt) its.toArray,⟨⟨_,ZJ _ rfl,rfl,rfl⟩,?_⟩,tr its rv,?_⟩
    · obtain⟨o,ho,r⟩:=il;exact⟨o,ZH _ ho,r⟩
    · exact fun h' tk hk=>fin (by simpa using rv.length.symm) hk
  · obtain⟨its,rv,pl,hz⟩:=I.tuple sq
    have il:s.heap.IsTuple p its.toArray:=pl
    have hlt:p < s.heap.objs.size:=by obtain⟨o,ho,_⟩:=il;exact ZI ho
    refine PySem.call_any_walk (PySem.wpAny_pyIter_tuple il ?_)
    refine⟨s.heap.objs.size,_,[s.heap.objs.size],_,_,_,fun i=>bs.getD i false,rfl,PySem.Walks.tuple hA s.heap.objs.size p (ZN hlt) its.toArray,⟨⟨_,ZJ _ rfl,rfl,rfl⟩,?_⟩,tr its rv,?_⟩
    · obtain⟨o,ho,r⟩:=il;exact⟨o,ZH _ ho,r⟩
    · exact fun h' tk hk=>fin (by simpa using rv.length.symm) hk
theorem Gf {a:Expr} {la:LF} (hc:X.calm=true) (hg:Gl X "any") (hm:X.mg "any" = none) (ha:MQ X a la) (hs:starEach [a] X.env=(false,eval a X.env) :: starEach [] X.env:=by rfl):ME X (.Call (.Name "any" p) [a] [] pos) (DD la):=by
  refine o8 (g:=fun l h=>match fY l with|some bs=>.ok (.bl (bs.any id)) h|none=>.bad) (xC (yW hc) hg hm (by decide +kernel) (he:=hs)) ha (fun ρ H σd hd σ l q vs Q rs sq rvs p => ?_) hs
  cases c:fY l with
  | none=>simp only [c] at p;exact p.elim
  | some is =>
    simp only [c] at p
    have e:=mC rvs c
    subst e
    exact⟨q,is,rfl,sq.imp id SqT.of,p.here rs (by simp only [rD,RD])⟩
end
section
variable {prog:Program} {w:World} {A:Around} {E:Value→Shared→Prop} {s:Shared} {κ : Type} [DecidableEq κ] {knd:KeyKind prog w κ}
end
section
variable {prog:Program} {w:World} {A:Around} {E:Value→Shared→Prop} {s:Shared}
end
section
variable {X:Cx} {pos p:Pos}
end
end Fm
namespace Fm
open PySem PySem.Spec L2
section
variable {M:Model} {A:Around} {E:Value→Shared→Prop} {s:Shared}
end
def IU (x:Str) (X:Cx) (N:List Str) (scope:Scope) (cl:List (Str × Addr)) (C:Addr) (s:Shared) (H:Hp) (ex:List Addr):Cx where
  prog:=X.prog
  w:=X.w
  K:=X.K
  mg:=X.mg
  base:=X.base
  A:=X.A
  N:=N
  s₀ := s
  H₀ := H
  env:=compEnvC scope ((x,C + 1) :: cl) C X.env
  outer:=X.stack
  stack:=X.stack
  ex:=ex
  fn:=fun y=>y == x
  calm:=X.calm
  pn:=[]
  xe:=fun _ _=>False
structure Iq (x:Str) (X:Cx) (scope:Scope) (own capn:List Str) (caps:List Nat):Prop where
  kind:scope.kind=.function
  cell1:∀ y∈scope.names,y.2=.cell→y.1=x
  names:∀ y∈scope.names,y.2=.local→scope.names.lookup y.1=some .local
  free:∀ y∈scope.names,y.2=.free→X.env.kindOf y.1=some .cell∨X.env.kindOf y.1=some .free
  cap:∀ (j:Nat) x,capn[j]? = some x → ∃ i,caps[j]? = some i∧X.N[i]? = some x∧scope.names.lookup x=some .free
  len:capn.length=caps.length
  nox:∀ y∈scope.names,y.2=.free→y.1≠x
  cf:∀ n acc,cellsFrom n scope.names acc=(x,n) :: acc
  pc:∀ h,pushCells h scope.names=h.push { cls:=.type "cell",data:=.cell none }
section
variable {X:Cx} {pins:List (Addr × Obj)} {σ:St} {H1:Hp} {s2:Shared} {c0:Str} {scope:Scope} {own capn:List Str} {caps:List Nat} {cl:List (Str × Addr)} {C:Addr} {ex:List Addr}
end
structure CIc (c0:Str) (X:Cx) (own capn:List Str) (scope:Scope) (cl:List (Str × Addr)) (s2:Shared) (C:Addr) (H1:Hp) (ρ1:List Addr) (fp:List Addr) (tn:Nat→Heap→Prop) (G:Hd→Prop) (g:GF) (cs:List TF) (e:EF) (l:List D) (hdF:Hd) (ds:List D) (d:CD) (s':Shared):Prop where
  le:d.i≤l.length
  inv:Inv (IU c0 X (own++capn) scope cl C s2 H1 fp) [] d.σ d.H s'
  st:tn d.i s'.heap
  fr:∀ b∈fp,d.H b=none
  at':d.H s2.heap.objs.size=some (.lst d.ys)
  out:s2.heap.objs.size∉d.ρ
  yl:d.ys.length≤d.i
  ex:Ext ρ1 H1 d.ρ d.H
  rs:RS X.K d.ρ d.H d.σd d.hd d.σ
  ac:RDs X.K d.ρ d.H d.acc d.ys
  run:fj G g cs e (l.drop d.i) d.σd d.hd=.ok d.rest hdF
  eq:d.acc++d.rest=ds
section
variable {X:Cx} {pins:List (Addr × Obj)} {σ:St} {H1:Hp} {s2:Shared} {c0:Str} {scope:Scope} {own capn:List Str} {caps:List Nat} {cl:List (Str × Addr)}
end
section
variable {X:Cx} {pos:Pos} {c0:Str} {scope:Scope} {own capn:List Str} {caps:List Nat}
end
end Fm
namespace Fm
open PySem
abbrev pF (xs:Array Nat):Prop:=xs.toList.Pairwise (· < ·)
theorem pF.lt {xs:Array Nat}(r:pF xs){i j:Nat}(hj:j < xs.size)(h:i < j):xs[i]'(by omega) < xs[j]:=by
  have:=List.pairwise_iff_getElem.mp r i j (by simpa using Nat.lt_trans h hj) (by simpa using hj) h
  simpa using this
theorem pG {xs:Array Nat}{j:Nat}(r:pF xs):∀ (cR lo hi:Nat),lo≤hi→hi≤xs.size→hi - lo≤cR→(∀ i (q:i < xs.size),i < lo→xs[i] < j)→(∀ i (q:i < xs.size),hi≤i→j≤xs[i]) →
    SetTable.below.go xs j cR lo hi≤xs.size∧(∀ i (q:i < xs.size),i < SetTable.below.go xs j cR lo hi→xs[i] < j)∧(∀ i (q:i < xs.size),SetTable.below.go xs j cR lo hi≤i→j≤xs[i])
  | 0,lo,hi,h1,h2,h3,h4,h5=>by
    have:lo=hi:=by omega
    subst this
    exact⟨h2,h4,h5⟩
  | cR + 1,lo,hi,h1,h2,h3,h4,h5=>by
    unfold SetTable.below.go
    by_cases c:lo < hi
    · rw [if_pos c]
      have hm:(lo + hi) / 2 < xs.size:=by omega
      have e:xs.getD ((lo + hi) / 2) j=xs[(lo + hi) / 2]:=by simp [Array.getD,hm]
      simp only [e]
      by_cases c2:xs[(lo + hi) / 2] < j
      · rw [if_pos c2]
        refine pG r cR _ _ (by omega) h2 (by omega) (fun i q l => ?_) h5
        by_cases e2:i=(lo + hi) / 2
        · subst e2;exact c2
        · exact Nat.lt_trans (r.lt hm (by omega)) c2
      · rw [if_neg c2]
        refine pG r cR _ _ (by omega) (by omega) (by omega) h4 fun i q l => ?_
        by_cases e2:i=(lo + hi) / 2
        · subst e2;omega
        · have:=r.lt q (i:=(lo + hi) / 2) (by omega)
          omega
    · rw [if_neg c]
      have:lo=hi:=by omega
      subst this
      exact⟨h2,h4,h5⟩
theorem pH {xs:Array Nat}{j:Nat}(r:pF xs):SetTable.below xs j≤xs.size∧(∀ i (q:i < xs.size),i < SetTable.below xs j→xs[i] < j)∧(∀ i (q:i < xs.size),SetTable.below xs j≤i→j≤xs[i]) :=
  pG r _ _ _ (Nat.zero_le _) (ZL _) (by omega) (fun i q l=>absurd l (Nat.not_lt_zero _)) fun i q l=>absurd q (Nat.not_lt.mpr l)
theorem uF {xs:Array Nat}{j:Nat}(r:pF xs)(n:xs[SetTable.below xs j]? ≠some j):pF (SetTable.insertAt xs (SetTable.below xs j) j):=by
  obtain⟨a,b,c⟩:=pH (j:=j) r
  generalize SetTable.below xs j=p at a b c n
  show List.Pairwise _ _
  rw [SetTable.toList_insertAt]
  have r0:(xs.toList.take p++xs.toList.drop p).Pairwise (· < ·):=by rw [List.take_append_drop];exact r
  rw [List.pairwise_append] at r0 ⊢
  have lo:∀ x∈xs.toList.take p,x < j:=fun x hx=>by
    obtain⟨i,hi,e⟩:=List.mem_take_iff_getElem.mp hx
    have q:i < xs.size:=by simp at hi;omega
    have:=b i q (by omega)
    simpa [← e] using this
  have up:∀ x∈xs.toList.drop p,j < x:=fun x hx=>by
    obtain⟨i,hi,e⟩:=List.mem_drop_iff_getElem.mp hx
    have q:i + p < xs.size:=by simp at hi;omega
    have h1:=c (i + p) q (by omega)
    have e1:x=xs[i + p]:=by rw [← e];simp;congr 1;omega
    rcases Nat.lt_or_ge j x with h|h
    · exact h
    · exfalso
      have h2:x=j:=by omega
      by_cases i0:i=0
      · subst i0
        apply n
        have q':p < xs.size:=by omega
        rw [Array.getElem?_eq_getElem q',← h2,e1]
        congr 1;congr 1;omega
      · have q':p < xs.size:=by omega
        have h3:=r.lt q (i:=p) (by omega)
        have h4:=c p q' (ZL _)
        omega
  exact⟨r0.1,List.pairwise_cons.mpr ⟨up,r0.2.1⟩,fun x hx y hy=>by
    rcases List.mem_cons.mp hy with rfl|hy
    · exact lo x hx
    · exact Nat.lt_trans (lo x hx) (up y hy)⟩
structure GT (led:Bool) (t:SetTable):Prop where
  up:pF t.place
  no:t.dummies = #[]
  le:t.led=led
theorem wn (j:Nat):SetTable.has #[] j=false:=rfl
theorem sN {t:SetTable}{j:Nat}(n:t.dummies = #[]):t.slot j ≠ .dummy:=fun e=>by
  unfold SetTable.slot at e
  rw [n] at e
  simp only [wn] at e
  split at e<;>simp at e
theorem qB (t:SetTable)(p:SetTable.Probe):(t.advance p).dummy=p.dummy:=by
  unfold SetTable.advance
  split<;>rfl
theorem pI {t:SetTable}(n:t.dummies = #[])(f:Nat→Int)(h:Int):∀ (cR:Nat) (p:SetTable.Probe) {j:Nat} {d:Option Nat},p.dummy=none→SetTable.probe.go t f h cR p=some (.empty j d)→d=none∧t.slot j=.empty
  | 0,_,_,_,_,e=>by cases e
  | cR + 1,p,j,d,pd,e=>by
    unfold SetTable.probe.go at e
    cases c:t.slot p.j with
    | empty =>
      rw [c] at e
      simp only [Option.some.injEq,SetTable.Met.empty.injEq] at e
      obtain⟨rfl,rfl⟩:=e
      exact⟨pd,c⟩
    | dummy=>exact absurd c (sN n)
    | live i =>
      rw [c] at e
      simp only at e
      split at e
      · simp at e
      · exact pI n f h cR _ (by rw [qB];exact pd) e
theorem sO {t:SetTable}(n:t.dummies = #[]){h:Int}{j:Nat}{b:Bool}(e:t.freeSlot h=some (j,b)):t.slot j=.empty:=by
  unfold SetTable.freeSlot at e
  split at e
  · rename_i j' d q
    obtain⟨rfl,s⟩:=pI n _ h _ _ rfl q
    cases e
    exact s
  · cases e
end Fm
namespace Sb
open PySem SetTable
def nx (N x:Nat):Nat:=(x * 5 + 1) % N
def it (N:Nat):Nat→Nat→Nat
  | 0,x=>x
  | k + 1,x=>it N k (nx N x)
theorem pJ (N:Nat):∀ (a b x:Nat),it N (a + b) x=it N b (it N a x)
  | 0,b,x=>by rw [Nat.zero_add];rfl
  | a + 1,b,x=>by rw [Nat.add_right_comm];exact pJ N a b (nx N x)
theorem DE (N k x:Nat):it N (k + 1) x=nx N (it N k x):=pJ N k 1 x
def orb (N:Nat):Nat→Nat→Nat→Nat
  | 0,_,acc=>acc
  | k + 1,x,acc=>orb N k (nx N x) (acc ||| (1 <<< x))
theorem xO (N s:Nat):∀ (k x acc:Nat),(orb N k x acc).testBit s=true→acc.testBit s=true ∨ ∃ b,b < k∧it N b x=s
  | 0,x,acc,h=>.inl h
  | k + 1,x,acc,h=>by
    rcases xO N s k (nx N x) _ h with q|⟨b,hb,e⟩
    · rw [Nat.testBit_or,Bool.or_eq_true] at q
      rcases q with q|q
      · exact .inl q
      · refine .inr ⟨0,Nat.succ_pos _,?_⟩
        rw [Nat.testBit_shiftLeft] at q
        simp only [Bool.and_eq_true,decide_eq_true_eq] at q
        have:=q.2
        rw [Nat.testBit_one_eq_true_iff_self_eq_zero] at this
        show x=s
        omega
    · exact .inr ⟨b + 1,by omega,e⟩
structure Cyc (N:Nat):Prop where
  all:orb N N 0 0=2 ^ N - 1
  back:it N N 0=0
  pos:0 < N
theorem Cyc.get {N:Nat}(c:Cyc N){s:Nat}(h:s < N):∃ b,b < N∧it N b 0=s:=by
  have:=xO N s N 0 0 (by rw [c.all,Nat.testBit_two_pow_sub_one];exact decide_eq_true h)
  rcases this with q|q
  · simp at q
  · exact q
theorem Cyc.from {N:Nat}(c:Cyc N){i s:Nat}(hi:i < N)(hs:s < N):∃ k,k < N∧it N k i=s:=by
  obtain⟨a,ha,ea⟩:=c.get hi
  obtain⟨b,hb,eb⟩:=c.get hs
  by_cases h:a≤b
  · refine⟨b - a,by omega,?_⟩
    rw [← ea,← pJ,show a + (b - a)=b by omega,eb]
  · refine⟨N - a + b,by omega,?_⟩
    rw [← ea,← pJ,show a + (N - a + b)=N + b by omega,pJ,c.back,eb]
theorem HL:Cyc 8:=⟨by decide +kernel,by decide +kernel,by decide⟩
theorem HM:Cyc 16:=⟨by decide +kernel,by decide +kernel,by decide⟩
theorem HN:Cyc 32:=⟨by decide +kernel,by decide +kernel,by decide⟩
theorem HP:Cyc 64:=⟨by decide +kernel,by decide +kernel,by decide⟩
theorem Gg:Cyc 128:=⟨by decide +kernel,by decide +kernel,by decide⟩
theorem Gh:Cyc 256:=⟨by decide +kernel,by decide +kernel,by decide⟩
set_option exponentiation.threshold 5000
theorem Gi:Cyc 512:=⟨by decide +kernel,by decide +kernel,by decide⟩
theorem DF:Cyc 1024:=⟨by decide +kernel,by decide +kernel,by decide⟩
theorem DG:Cyc 2048:=⟨by decide +kernel,by decide +kernel,by decide⟩
theorem DH:Cyc 4096:=⟨by decide +kernel,by decide +kernel,by decide⟩
end Sb
namespace Sb
open PySem SetTable
def ch (m:Nat) (h:Int):Nat→Nat × Nat
  | 0=>(bits h % (m + 1),bits h)
  | k + 1=>leap m (ch m h k).1 (ch m h k).2
theorem Bp (m:Nat)(h:Int):∀ k,(ch m h k).1 < m + 1
  | 0=>Nat.mod_lt _ (Nat.succ_pos _)
  | k + 1=>Nat.mod_lt _ (Nat.succ_pos _)
theorem EK (m:Nat)(h:Int):∀ k,(ch m h k).2=bits h / 32 ^ k
  | 0=>by simp [ch]
  | k + 1=>by
    show (ch m h k).2 / 32=_
    rw [EK m h k,Nat.div_div_eq_div_mul,Nat.pow_succ]
theorem DI (h:Int):bits h < 2 ^ 64:=by
  unfold bits
  have h1:=Int.emod_nonneg h (show (2 ^ 64:Int)≠0 by decide)
  have h2:=Int.emod_lt_of_pos h (show (0:Int) < 2 ^ 64 by decide)
  omega
theorem DJ (m:Nat)(h:Int)(k:Nat):(ch m h (13 + k)).2=0:=by
  rw [EK,Nat.pow_add,← Nat.div_div_eq_div_mul,Nat.div_eq_of_lt (Nat.lt_of_lt_of_le (DI h) (by decide)),Nat.zero_div]
theorem EL (m:Nat)(h:Int):∀ k,(ch m h (13 + k)).1=it (m + 1) k (ch m h 13).1
  | 0=>rfl
  | k + 1=>by
    rw [DE,← EL m h k]
    show ((ch m h (13 + k)).1 * 5 + 1 + (ch m h (13 + k)).2 / 32) % (m + 1)=_
    rw [DJ]
    rfl
theorem uG {m:Nat}(c:Cyc (m + 1))(h:Int){s:Nat}(hs:s≤m):∃ K,K≤m + 13∧(ch m h K).1=s:=by
  obtain⟨k,hk,e⟩:=c.from (Bp m h 13) (show s < m + 1 by omega)
  exact⟨13 + k,by omega,by rw [EL,e]⟩
def adv (m:Nat) (p:Probe):Probe :=
  if p.more > 0 then { p with j:=p.j + 1,more:=p.more - 1 } else
  let (i,perturb):=leap m p.i p.perturb
  { p with j:=i,more:=runEnd m i - i,i,perturb }
def pst (m:Nat) (h:Int):Nat→Probe
  | 0=>{ j:=bits h % (m + 1),more:=runEnd m (bits h % (m + 1)) - bits h % (m + 1),i:=bits h % (m + 1),perturb:=bits h,dummy:=none }
  | k + 1=>adv m (pst m h k)
def gC (m:Nat) (h:Int) (K:Nat):Nat:=runEnd m (ch m h K).1 - (ch m h K).1
theorem DK (m:Nat)(h:Int)(K:Nat):gC m h K≤9:=by unfold gC runEnd;split<;>omega
def fl (m:Nat) (h:Int):Nat→Nat
  | 0=>0
  | K + 1=>fl m h K + gC m h K + 1
theorem EM (m:Nat)(h:Int):∀ K,fl m h K≤10 * K
  | 0=>ZL _
  | K + 1=>by
    have:=EM m h K
    have:=DK m h K
    rw [fl];omega
theorem EN (m:Nat)(h:Int):∀ K,K≤fl m h K
  | 0=>ZL _
  | K + 1=>by
    have:=EN m h K
    rw [fl];omega
theorem sP {m:Nat}{h:Int}{K:Nat}(s:pst m h (fl m h K) = { j:=(ch m h K).1,more:=gC m h K,i:=(ch m h K).1,perturb:=(ch m h K).2,dummy:=none }):∀ off,off≤gC m h K→pst m h (fl m h K + off) = { j:=(ch m h K).1 + off,more:=gC m h K - off,i:=(ch m h K).1,perturb:=(ch m h K).2,dummy:=none }
  | 0,_=>s
  | off + 1,l=>by
    have ih:=sP s off (by omega)
    show adv m (pst m h (fl m h K + off))=_
    rw [ih,adv,if_pos (by show gC m h K - off > 0;omega)]
    rfl
theorem sQ (m:Nat)(h:Int):∀ K,pst m h (fl m h K) = { j:=(ch m h K).1,more:=gC m h K,i:=(ch m h K).1,perturb:=(ch m h K).2,dummy:=none }
  | 0=>rfl
  | K + 1=>by
    have ih:=sP (sQ m h K) (gC m h K) (ZL _)
    show adv m (pst m h (fl m h K + gC m h K))=_
    rw [ih,adv,if_neg (by show ¬ gC m h K - gC m h K > 0;omega)]
    rfl
theorem Bq (m:Nat)(h:Int)(K:Nat){off:Nat}(l:off≤gC m h K):(pst m h (fl m h K + off)).j=(ch m h K).1 + off:=by rw [sP (sQ m h K) off l]
theorem yX {m:Nat}{p:Probe}:(adv m p).dummy=p.dummy:=by unfold adv;split<;>rfl
theorem rG (m:Nat)(h:Int):∀ k,(pst m h k).dummy=none
  | 0=>rfl
  | k + 1=>by show (adv m _).dummy=none;rw [yX];exact rG m h k
def at' (m:Nat) (h:Int) (k:Nat):Nat:=(pst m h k).j
theorem Br {m:Nat}(c:Cyc (m + 1))(h:Int){s:Nat}(hs:s≤m):∃ k,k < 10 * turns m∧at' m h k=s:=by
  obtain⟨K,hK,e⟩:=uG c h hs
  refine⟨fl m h K,?_,?_⟩
  · have:=EM m h K
    unfold turns;omega
  · unfold at';rw [sQ];exact e
theorem EO (m:Nat)(h:Int):∀ k,at' m h k≤m:=fun k=>by
  have run:∀ K,∀ k,fl m h K≤k→k < fl m h (K + 1)→at' m h k≤m:=fun K k h1 h2=>by
    obtain⟨off,rfl⟩ : ∃ off,k=fl m h K + off:=⟨k - fl m h K,by omega⟩
    have l:off≤gC m h K:=by rw [fl] at h2;omega
    show (pst m h _).j≤m
    rw [Bq m h K l]
    have:=Bp m h K
    unfold gC runEnd at l
    split at l<;>omega
  have:∀ K,∀ k,k < fl m h K→at' m h k≤m:=fun K=>by
    induction K with
    | zero=>intro k hk;exact absurd hk (Nat.not_lt_zero _)
    | succ K ih =>
      intro k hk
      by_cases c:k < fl m h K
      · exact ih k c
      · exact run K k (by omega) hk
  exact this (k + 1) k (by have:=EN m h (k + 1);omega)
theorem EQ {P:Nat→Prop}:∀ {k:Nat},P k → ∃ K,K≤k∧P K ∧ ∀ j,j < K → ¬ P j:=by
  intro k
  induction k using Nat.strongRecOn with
  | ind k ih =>
    intro p
    by_cases c:∃ j,j < k∧P j
    · obtain⟨j,hj,pj⟩:=c
      obtain⟨K,h1,h2,h3⟩:=ih j hj pj
      exact⟨K,by omega,h2,h3⟩
    · exact⟨k,ZL _,p,fun j hj pj=>c ⟨j,hj,pj⟩⟩
def nQ (m:Nat) (occ:Nat→Prop) (h:Int) (j:Nat):Prop:=∃ k,at' m h k=j ∧ ∀ k',k' < k→occ (at' m h k')
theorem nQ.mono {m:Nat}{occ occ':Nat→Prop}{h:Int}{j:Nat}(r:nQ m occ h j)(f:∀ x,occ x→occ' x):nQ m occ' h j:=by
  obtain⟨k,e,q⟩:=r
  exact⟨k,e,fun k' l=>f _ (q k' l)⟩
theorem wo {m:Nat}(c:Cyc (m + 1))(h:Int){occ:Nat→Prop}{s:Nat}(hs:s≤m)(n : ¬ occ s):∃ K,K < 10 * turns m ∧ ¬ occ (at' m h K) ∧ ∀ k,k < K→occ (at' m h k):=by
  obtain⟨k,hk,e⟩:=Br c h hs
  obtain⟨K,h1,h2,h3⟩:=EQ (P:=fun k=>¬ occ (at' m h k)) (k:=k) (by rw [e];exact n)
  exact⟨K,by omega,h2,fun j hj=>Classical.not_not.mp (h3 j hj)⟩
theorem Bs {m:Nat}{l:List Nat}(h:l.length≤m):∃ s,s≤m∧s∉l:=by
  refine Classical.byContradiction fun z => ?_
  have all:∀ s,s∈List.range (m + 1)→s∈l:=fun s hs=>Classical.byContradiction fun q=>z ⟨s,by have:=List.mem_range.mp hs;omega,q⟩
  have:=(List.nodup_range (n:=m + 1)).length_le_of_subset all
  rw [ZO] at this
  omega
end Sb
namespace Sb
open PySem SetTable Fm
theorem jK {xs:Array Nat}(r:pF xs){i j:Nat}(h:xs[i]? = some j):SetTable.below xs j=i:=by
  obtain⟨hi,e⟩:=Array.getElem?_eq_some_iff.mp h
  obtain⟨a,b,c⟩:=pH (j:=j) r
  rcases Nat.lt_trichotomy (SetTable.below xs j) i with q|q|q
  · have h1:SetTable.below xs j < xs.size:=by omega
    have h2:=c _ h1 (ZL _)
    have h3:=r.lt hi q
    omega
  · exact q
  · have:=b i hi q
    omega
theorem rH {t:SetTable}(r:pF t.place){i j:Nat}(h:t.place[i]? = some j):t.slot j=.live i:=by
  unfold SetTable.slot
  dsimp only
  rw [jK r h,h]
  simp
theorem yY {t:SetTable}(n:t.dummies = #[]){j:Nat}(h:j∉t.place):t.slot j=.empty:=by
  unfold SetTable.slot
  have e:(t.place[SetTable.below t.place j]? == some j)=false:=by
    rw [beq_eq_false_iff_ne]
    intro q
    exact h (Array.mem_of_getElem? q)
  simp only [e,n,wn]
  rfl
theorem uH {t:SetTable}(r:pF t.place)(n:t.dummies = #[])(f:Nat→Int)(h:Int){K:Nat}(free:at' t.mask h K∉t.place)(ib:∀ k,k < K→at' t.mask h k∈t.place) :
    ∀ (cR k:Nat),k≤K→K - k < cR →
      (SetTable.probe.go t f h cR (pst t.mask h k)=some (.empty (at' t.mask h K) none) ∧ ∀ k' i,k≤k'→k' < K→t.place[i]? = some (at' t.mask h k')→f i≠h)
      ∨ ∃ k' i,k≤k'∧k' < K∧t.place[i]? = some (at' t.mask h k')∧f i=h∧SetTable.probe.go t f h cR (pst t.mask h k)=some (.candidate (at' t.mask h k') i (pst t.mask h (k' + 1))) ∧ ∀ k'' i,k≤k''→k'' < k'→t.place[i]? = some (at' t.mask h k'')→f i≠h
  | 0,k,_,l=>absurd l (Nat.not_lt_zero _)
  | cR + 1,k,l1,l2=>by
    by_cases e:k=K
    · subst e
      refine .inl ⟨?_,fun k' i h1 h2=>by omega⟩
      unfold SetTable.probe.go
      have:t.slot (pst t.mask h k).j=.empty:=yY n free
      rw [this,rG]
      rfl
    · have hk:k < K:=by omega
      have m:=ib k hk
      obtain⟨i,hi⟩:=Array.getElem?_of_mem m
      have sl:t.slot (pst t.mask h k).j=.live i:=rH r hi
      have one:∀ i',t.place[i']? = some (at' t.mask h k)→i'=i:=fun i' q=>by rw [← jK r q,jK r hi]
      by_cases c:f i=h
      · refine .inr ⟨k,i,ZL _,hk,hi,c,?_,fun k'' i h1 h2=>by omega⟩
        unfold SetTable.probe.go
        rw [sl]
        dsimp only
        rw [if_pos (by rw [c];exact beq_self_eq_true _)]
        rfl
      · have ih:=uH r n f h free ib cR (k + 1) (by omega) (by omega)
        have e2:SetTable.probe.go t f h (cR + 1) (pst t.mask h k)=SetTable.probe.go t f h cR (pst t.mask h (k + 1)):=by
          conv=>lhs;unfold SetTable.probe.go
          rw [sl]
          dsimp only
          rw [if_neg (by simpa using c)]
          rfl
        rw [e2]
        rcases ih with ⟨q1,q2⟩|⟨k',i',a1,a2,a3,a4,a5,a6⟩
        · refine .inl ⟨q1,fun k' i' h1 h2 h3 => ?_⟩
          by_cases z:k'=k
          · subst z;rw [one i' h3];exact c
          · exact q2 k' i' (by omega) h2 h3
        · refine .inr ⟨k',i',by omega,a2,a3,a4,a5,fun k'' j h1 h2 h3 => ?_⟩
          by_cases z:k''=k
          · subst z;rw [one j h3];exact c
          · exact a6 k'' j (by omega) h2 h3
structure jL (led:Bool) (t:SetTable) (es:Array (Int × Value)):Prop where
  up:pF t.place
  no:t.dummies = #[]
  le:t.led=led
  sz:t.place.size=es.size
  cy:Cyc (t.mask + 1)
  room:es.size≤t.mask
  ev:t.mask % 2=1
  re:∀ (i j:Nat) (e:Int × Value),t.place[i]? = some j→es[i]? = some e→j≤t.mask∧nQ t.mask (· ∈t.place) e.1 j
theorem jL.fits {led:Bool}{t:SetTable}{es:Array (Int × Value)}(o:jL led t es):t.fits es.size=true:=by
  have h1:=o.sz
  have h2:=o.room
  unfold SetTable.fits SetTable.fill
  rw [o.no]
  simp only [Bool.and_eq_true,beq_iff_eq,decide_eq_true_eq,Array.size_empty]
  omega
theorem jL.way {led:Bool}{t:SetTable}{es:Array (Int × Value)}(o:jL led t es):t.gaveWay=false:=by
  unfold SetTable.gaveWay
  rw [o.ev]
  rfl
theorem jL.free {led:Bool}{t:SetTable}{es:Array (Int × Value)}(o:jL led t es)(h:Int):∃ K,K < 10 * turns t.mask∧at' t.mask h K∉t.place ∧ ∀ k,k < K→at' t.mask h k∈t.place:=by
  obtain⟨s,h1,h2⟩:=Bs (m:=t.mask) (l:=t.place.toList) (by rw [Array.length_toList,o.sz];exact o.room)
  exact wo o.cy h (occ:=(· ∈t.place)) h1 (by simpa using h2)
theorem Gj {led:Bool}{t:SetTable}{es:Array (Int × Value)}(o:jL led t es)(h:Int)(v:Value){K:Nat}(f1:at' t.mask h K∉t.place)(f2:∀ k,k < K→at' t.mask h k∈t.place)(room:es.size + 1≤t.mask) :
    jL led (t.put (at' t.mask h K)).1 (SetTable.insertAt es (t.put (at' t.mask h K)).2 (h,v)):=by
  obtain⟨j,hj⟩ : ∃ j,j=at' t.mask h K:=⟨_,rfl⟩
  rw [← hj] at f1 ⊢
  have e0:(t.put j).2=SetTable.below t.place j:=rfl
  have ep:(t.put j).1.place=SetTable.insertAt t.place (SetTable.below t.place j) j:=rfl
  have bl:=(pH (j:=j) o.up).1
  have nf:t.place[SetTable.below t.place j]? ≠some j:=fun e=>f1 (Array.mem_of_getElem? e)
  rw [e0]
  obtain⟨p,hp⟩ : ∃ p,p=SetTable.below t.place j:=⟨_,rfl⟩
  have r1:=uF o.up nf
  rw [← hp] at bl r1 ep ⊢
  have l1:(SetTable.insertAt t.place p j).toList=t.place.toList.take p++j :: t.place.toList.drop p:=SetTable.toList_insertAt _ _ _
  have l2:(SetTable.insertAt es p (h,v)).toList=es.toList.take p++(h,v) :: es.toList.drop p:=SetTable.toList_insertAt _ _ _
  have s1:(SetTable.insertAt t.place p j).size=t.place.size + 1:=by rw [← Array.length_toList,l1];simp;omega
  have sz:=o.sz
  have s2:(SetTable.insertAt es p (h,v)).size=es.size + 1:=by rw [← Array.length_toList,l2];simp;omega
  have mem:∀ x,x∈SetTable.insertAt t.place p j ↔ x=j∨x∈t.place:=fun x=>by
    rw [← Array.mem_toList_iff,l1,← Array.mem_toList_iff]
    constructor
    · intro q
      rcases List.mem_append.mp q with q|q
      · exact .inr (List.mem_of_mem_take q)
      · rcases List.mem_cons.mp q with q|q
        · exact .inl q
        · exact .inr (List.mem_of_mem_drop q)
    · rintro (q|q)
      · rw [q];simp
      · rw [← List.take_append_drop p t.place.toList] at q
        rcases List.mem_append.mp q with q|q
        · exact List.mem_append.mpr (.inl q)
        · exact List.mem_append.mpr (.inr (ZW _ q))
  refine⟨by rw [ep];exact r1,?_,o.le,by rw [ep,s1,s2,sz],o.cy,by rw [s2];exact room,o.ev,fun i x e h1 h2 => ?_⟩
  · show (if SetTable.has t.dummies j then _ else t.dummies) = #[]
    rw [o.no,wn];rfl
  · rw [ep] at h1
    show x≤t.mask∧nQ t.mask (· ∈(t.put j).1.place) e.1 x
    rw [ep]
    have up:∀ {x e},x≤t.mask∧nQ t.mask (· ∈t.place) e x→x≤t.mask∧nQ t.mask (· ∈SetTable.insertAt t.place p j) e x:=fun {x e} q=>⟨q.1,q.2.mono fun y hy=>(mem y).mpr (.inr hy)⟩
    rw [← Array.getElem?_toList,l1] at h1
    rw [← Array.getElem?_toList,l2] at h2
    have t1:(t.place.toList.take p).length=p:=by simp;omega
    have t2:(es.toList.take p).length=p:=by simp;omega
    rcases Nat.lt_trichotomy i p with c|c|c
    · rw [ZC (by omega),List.getElem?_take_of_lt c] at h1 h2
      exact up (o.re i x e (by rw [← Array.getElem?_toList];exact h1) (by rw [← Array.getElem?_toList];exact h2))
    · rw [ZD (by omega),t1,c,Nat.sub_self,List.getElem?_cons_zero] at h1
      rw [ZD (by omega),t2,c,Nat.sub_self,List.getElem?_cons_zero] at h2
      cases h1;cases h2
      refine⟨by rw [hj];exact EO _ _ _,K,hj.symm,fun k hk=>(mem _).mpr (.inr (f2 k hk))⟩
    · obtain⟨d,rfl⟩ : ∃ d,i=p + (d + 1):=⟨i - p - 1,by omega⟩
      rw [ZD (by omega),t1,Nat.add_sub_cancel_left,List.getElem?_cons_succ,List.getElem?_drop] at h1
      rw [ZD (by omega),t2,Nat.add_sub_cancel_left,List.getElem?_cons_succ,List.getElem?_drop] at h2
      exact up (o.re (p + d) x e (by rw [← Array.getElem?_toList];exact h1) (by rw [← Array.getElem?_toList];exact h2))
end Sb
namespace Sb
open PySem SetTable Fm
def Occ (owner:Array (Option Nat)) (j:Nat):Prop:=∃ k,owner[j]? = some (some k)
structure Own (m:Nat) (owner:Array (Option Nat)) (l:List Int):Prop where
  sz:owner.size=m + 1
  le:∀ (j k:Nat),owner[j]? = some (some k) → ∃ h,l[k]? = some h∧nQ m (Occ owner) h j
  ex:∀ k:Nat,k < l.length → ∃ j:Nat,owner[j]? = some (some k)
  one:∀ (j j' k:Nat),owner[j]? = some (some k)→owner[j']? = some (some k)→j=j'
theorem Own.lt {m:Nat}{owner:Array (Option Nat)}{l:List Int}(o:Own m owner l){j k:Nat}(h:owner[j]? = some (some k)):j≤m∧k < l.length:=by
  obtain⟨x,h1,_⟩:=o.le j k h
  have:=(Array.getElem?_eq_some_iff.mp h).1
  have:=o.sz
  exact⟨by omega,(List.getElem?_eq_some_iff.mp h1).1⟩
theorem Own.free {m:Nat}{owner:Array (Option Nat)}{l:List Int}(o:Own m owner l)(r:l.length≤m):∃ s,s≤m ∧ ¬ Occ owner s:=by
  refine Classical.byContradiction fun z => ?_
  have all:∀ s,s≤m→Occ owner s:=fun s hs=>Classical.byContradiction fun q=>z ⟨s,hs,q⟩
  have:∃ kf:Nat→Nat,∀ s,s≤m→owner[s]? = some (some (kf s)):=⟨fun s=>((owner[s]?).join).getD 0,fun s hs=>by obtain⟨k,hk⟩:=all s hs;show owner[s]? = some (some (owner[s]?.join.getD 0));rw [hk];rfl⟩
  obtain⟨kf,kq⟩:=this
  have nd:((List.range (m + 1)).map kf).Nodup:=by
    rw [List.nodup_iff_pairwise_ne,List.pairwise_map]
    refine (List.nodup_iff_pairwise_ne.mp (List.nodup_range (n:=m + 1))).imp_of_mem fun {a b} ha hb hne e=>hne ?_
    have ha:=List.mem_range.mp ha
    have hb:=List.mem_range.mp hb
    have q1:=kq a (by omega)
    have q2:=kq b (by omega)
    rw [e] at q1
    exact o.one a b _ q1 q2
  have sub:∀ x,x∈(List.range (m + 1)).map kf→x∈List.range l.length:=fun x hx=>by
    obtain⟨s,hs,rfl⟩:=List.mem_map.mp hx
    have hs:=List.mem_range.mp hs
    exact List.mem_range.mpr (o.lt (kq s (by omega))).2
  have:=nd.length_le_of_subset sub
  rw [ZA,ZO,ZO] at this
  omega
theorem DL (m:Nat)(h:Int):∀ {a b:Nat},a≤b→fl m h a≤fl m h b:=fun {a b} l=>by
  induction b with
  | zero=>rw [Nat.le_zero.mp l];exact ZL _
  | succ b ih =>
    by_cases c:a=b + 1
    · rw [c];exact ZL _
    · have:=ih (by omega)
      rw [fl];omega
theorem uI {m:Nat}(c:Cyc (m + 1))(h:Int){occ:Nat→Prop}{s:Nat}(hs:s≤m)(n : ¬ occ s):∃ K,K < fl m h (turns m) ∧ ¬ occ (at' m h K) ∧ ∀ k,k < K→occ (at' m h k):=by
  obtain⟨K0,hK,e⟩:=uG c h hs
  have e0:at' m h (fl m h K0)=s:=by unfold at';rw [sQ];exact e
  obtain⟨K,h1,h2,h3⟩:=EQ (P:=fun k=>¬ occ (at' m h k)) (k:=fl m h K0) (by rw [e0];exact n)
  refine⟨K,?_,h2,fun j hj=>Classical.not_not.mp (h3 j hj)⟩
  have l1:=DL m h (show K0 + 1≤turns m by unfold turns;omega)
  have l2:fl m h (K0 + 1)=fl m h K0 + gC m h K0 + 1:=rfl
  omega
theorem getD_none {owner:Array (Option Nat)}{j:Nat}(h:j < owner.size):(owner.getD j (some 0)).isNone=true ↔ ¬ Occ owner j:=by
  have e:owner.getD j (some 0)=owner[j]:=by simp [Array.getD,h]
  have e2:owner[j]? = some owner[j]:=Array.getElem?_eq_getElem h
  rw [e]
  unfold Occ
  rw [e2]
  cases owner[j]<;>simp
theorem sO {m:Nat}{owner:Array (Option Nat)}{h:Int}(sz:owner.size=m + 1){K:Nat}(f1 : ¬ Occ owner (at' m h K))(f2:∀ k,k < K→Occ owner (at' m h k)) :
    ∀ (cR c:Nat),fl m h c≤K→K < fl m h (c + cR)→layClean.free m owner cR (ch m h c).1 (ch m h c).2=some (at' m h K)
  | 0,c,h1,h2=>by rw [Nat.add_zero] at h2;omega
  | cR + 1,c,h1,h2=>by
    unfold layClean.free
    have cl:=Bp m h c
    have wd:runEnd m (ch m h c).1 + 1 - (ch m h c).1=gC m h c + 1:=by unfold gC runEnd;split<;>omega
    have inb:∀ off,off≤gC m h c→(ch m h c).1 + off < owner.size:=fun off l=>by
      rw [sz]
      unfold gC runEnd at l
      split at l<;>omega
    have pt:∀ off,off≤gC m h c→at' m h (fl m h c + off)=(ch m h c).1 + off:=fun off l=>Bq m h c l
    by_cases q:K < fl m h (c + 1)
    · obtain⟨off,rfl⟩ : ∃ off,K=fl m h c + off:=⟨K - fl m h c,by omega⟩
      have lo:off≤gC m h c:=by rw [fl] at q;omega
      have fd:(List.range (runEnd m (ch m h c).1 + 1 - (ch m h c).1)).find? (fun k=>(owner.getD ((ch m h c).1 + k) (some 0)).isNone)=some off:=by
        rw [wd,List.find?_range_eq_some]
        refine⟨(getD_none (inb off lo)).mpr (by rw [← pt off lo];exact f1),List.mem_range.mpr (by omega),fun j hj => ?_⟩
        have:=f2 (fl m h c + j) (by omega)
        rw [pt j (by omega)] at this
        rw [Bool.not_eq_true',Bool.eq_false_iff];exact fun z=>(getD_none (inb j (by omega))).mp z this
      rw [fd]
      dsimp only
      rw [pt off lo]
    · have fd:(List.range (runEnd m (ch m h c).1 + 1 - (ch m h c).1)).find? (fun k=>(owner.getD ((ch m h c).1 + k) (some 0)).isNone)=none:=by
        rw [wd,List.find?_range_eq_none]
        intro j hj
        have lj:j≤gC m h c:=by omega
        have:=f2 (fl m h c + j) (by rw [fl] at q;omega)
        rw [pt j lj] at this
        rw [Bool.not_eq_true',Bool.eq_false_iff];exact fun z=>(getD_none (inb j lj)).mp z this
      rw [fd]
      exact sO sz f1 f2 cR (c + 1) (by omega) (by rw [show c + 1 + cR=c + (cR + 1) by omega];exact h2)
theorem Bt {m:Nat}(cy:Cyc (m + 1)){owner:Array (Option Nat)}{l:List Int}(o:Own m owner l)(r:l.length≤m)(h:Int) :
    ∃ j,layClean.free m owner (turns m) (bits h % (m + 1)) (bits h)=some j∧Own m (owner.setIfInBounds j (some l.length)) (l++[h]):=by
  obtain⟨s,s1,s2⟩:=o.free r
  obtain⟨K,k1,k2,k3⟩:=uI cy h s1 s2
  refine⟨at' m h K,sO o.sz k2 k3 (turns m) 0 (Nat.zero_le _) (by rw [Nat.zero_add];exact k1),?_⟩
  have jl:=EO m h K
  have inb:at' m h K < owner.size:=by rw [o.sz];omega
  obtain⟨j,hj⟩ : ∃ j,j=at' m h K:=⟨_,rfl⟩
  rw [← hj] at jl inb k2 ⊢
  have g:∀ x,(owner.setIfInBounds j (some l.length))[x]? = if j=x then some (some l.length) else owner[x]? := fun x=>by
    rw [Array.getElem?_setIfInBounds]
    by_cases e:j=x
    · subst e;simp [inb]
    · simp [e]
  have mono:∀ x,Occ owner x→Occ (owner.setIfInBounds j (some l.length)) x:=fun x ⟨k,hk⟩=>by
    unfold Occ
    rw [g]
    by_cases e:j=x
    · exact⟨_,if_pos e⟩
    · exact⟨k,by rw [if_neg e];exact hk⟩
  refine⟨by rw [Array.size_setIfInBounds];exact o.sz,fun x k hx => ?_,fun k hk => ?_,fun x y k hx hy => ?_⟩
  · rw [g] at hx
    by_cases e:j=x
    · rw [if_pos e] at hx
      cases hx
      refine⟨h,by simp,K,by rw [← hj];exact e,fun k' l'=>mono _ (k3 k' l')⟩
    · rw [if_neg e] at hx
      obtain⟨hh,h1,h2⟩:=o.le x k hx
      exact⟨hh,by rw [ZC (List.getElem?_eq_some_iff.mp h1).1];exact h1,h2.mono mono⟩
  · rw [ZB] at hk
    by_cases e:k < l.length
    · obtain⟨x,hx⟩:=o.ex k e
      refine⟨x,?_⟩
      rw [g,if_neg (fun z=>k2 ⟨k,by rw [z];exact hx⟩)]
      exact hx
    · have:k=l.length:=by simp at hk;omega
      exact⟨j,by rw [g,if_pos rfl,this]⟩
  · rw [g] at hx hy
    by_cases e1:j=x
    · by_cases e2:j=y
      · rw [← e1,← e2]
      · rw [if_pos e1] at hx
        rw [if_neg e2] at hy
        cases hx
        exact absurd (o.lt hy).2 (Nat.lt_irrefl _)
    · rw [if_neg e1] at hx
      by_cases e2:j=y
      · rw [if_pos e2] at hy
        cases hy
        exact absurd (o.lt hx).2 (Nat.lt_irrefl _)
      · rw [if_neg e2] at hy
        exact o.one x y k hx hy
theorem uJ {m:Nat}(cy:Cyc (m + 1)):∀ (rest pre:List Int) (owner:Array (Option Nat)),Own m owner pre→pre.length + rest.length≤m + 1 →
    ∃ owner',rest.foldl (init:=(some (owner,pre.length):Option (Array (Option Nat) × Nat))) (fun acc h=>do
      let (owner,k) ← acc
      let j ← layClean.free m owner (turns m) (bits h % (m + 1)) (bits h)
      pure (owner.setIfInBounds j (some k),k + 1))=some (owner',(pre++rest).length)∧Own m owner' (pre++rest)
  | [],pre,owner,o,_=>⟨owner,by rw [List.append_nil];rfl,by rw [List.append_nil];exact o⟩
  | h :: rest,pre,owner,o,r=>by
    rw [List.length_cons] at r
    obtain⟨j,e,o1⟩:=Bt cy o (by omega) h
    obtain⟨ow,e2,o2⟩:=uJ cy rest (pre++[h]) _ o1 (by rw [ZB,List.length_cons,List.length_nil];omega)
    refine⟨ow,?_,by rw [show pre++h :: rest=pre++[h]++rest by simp];exact o2⟩
    rw [List.foldl_cons]
    have e3:((do
      let (owner,k) ← (some (owner,pre.length):Option (Array (Option Nat) × Nat))
      let j ← layClean.free m owner (turns m) (bits h % (m + 1)) (bits h)
      pure (owner.setIfInBounds j (some k),k + 1)):Option (Array (Option Nat) × Nat))=some (owner.setIfInBounds j (some pre.length),(pre++[h]).length):=by
      show (layClean.free m owner (turns m) (bits h % (m + 1)) (bits h)).bind _=_
      rw [e,ZB]
      rfl
    rw [e3,e2]
    simp
theorem Gk {m:Nat}(cy:Cyc (m + 1))(hs:Array Int)(r:hs.size≤m):∃ owner,layClean m hs=some owner∧Own m owner hs.toList:=by
  have nn:∀ j k:Nat,(Array.replicate (m + 1) (none:Option Nat))[j]? ≠some (some k):=fun j k h=>by
    rw [Array.getElem?_replicate] at h
    split at h<;>cases h
  have o0:Own m (Array.replicate (m + 1) none) []:=⟨by simp,fun j k h=>absurd h (nn j k),fun k hk=>absurd hk (Nat.not_lt_zero _),fun j j' k h=>absurd h (nn j k)⟩
  obtain⟨ow,e,o⟩:=uJ cy hs.toList [] _ o0 (by simp;omega)
  rw [List.nil_append] at e o
  refine⟨ow,?_,o⟩
  unfold layClean
  rw [← Array.foldl_toList]
  show (List.foldl _ (some (Array.replicate (m + 1) none,([] : List Int).length)) _).map _=_
  rw [e]
  rfl
end Sb
namespace Sb
open PySem SetTable Fm
theorem aX {n f s:Nat}(h:s≤n):sizeAbove.go n (f + 1) s=sizeAbove.go n f (s * 2):=by rw [sizeAbove.go,if_pos h]
theorem kC {n f s:Nat}(h : ¬ s≤n):sizeAbove.go n (f + 1) s=s:=by rw [sizeAbove.go,if_neg h]
theorem above {n:Nat}(h:n < 4096):n < sizeAbove n∧Cyc (sizeAbove n)∧sizeAbove n≤4096∧(sizeAbove n - 1) % 2=1:=by
  have fin:∀ {N:Nat},sizeAbove n=N→n < N→Cyc N→N≤4096→(N - 1) % 2=1→n < sizeAbove n∧Cyc (sizeAbove n)∧sizeAbove n≤4096∧(sizeAbove n - 1) % 2=1:=fun e a b c d=>by rw [e];exact⟨a,b,c,d⟩
  by_cases c0:8≤n
  · by_cases c1:16≤n
    · by_cases c2:32≤n
      · by_cases c3:64≤n
        · by_cases c4:128≤n
          · by_cases c5:256≤n
            · by_cases c6:512≤n
              · by_cases c7:1024≤n
                · by_cases c8:2048≤n
                  · exact fin (by unfold sizeAbove;rw [aX c0,aX c1,aX c2,aX c3,aX c4,aX c5,aX c6,aX c7,aX c8,kC (by omega)]) h DH (by omega) (by decide)
                  · exact fin (by unfold sizeAbove;rw [aX c0,aX c1,aX c2,aX c3,aX c4,aX c5,aX c6,aX c7,kC (by omega)]) (by omega) DG (by omega) (by decide)
                · exact fin (by unfold sizeAbove;rw [aX c0,aX c1,aX c2,aX c3,aX c4,aX c5,aX c6,kC (by omega)]) (by omega) DF (by omega) (by decide)
              · exact fin (by unfold sizeAbove;rw [aX c0,aX c1,aX c2,aX c3,aX c4,aX c5,kC (by omega)]) (by omega) Gi (by omega) (by decide)
            · exact fin (by unfold sizeAbove;rw [aX c0,aX c1,aX c2,aX c3,aX c4,kC (by omega)]) (by omega) Gh (by omega) (by decide)
          · exact fin (by unfold sizeAbove;rw [aX c0,aX c1,aX c2,aX c3,kC (by omega)]) (by omega) Gg (by omega) (by decide)
        · exact fin (by unfold sizeAbove;rw [aX c0,aX c1,aX c2,kC (by omega)]) (by omega) HP (by omega) (by decide)
      · exact fin (by unfold sizeAbove;rw [aX c0,aX c1,kC (by omega)]) (by omega) HN (by omega) (by decide)
    · exact fin (by unfold sizeAbove;rw [aX c0,kC (by omega)]) (by omega) HM (by omega) (by decide)
  · exact fin (by unfold sizeAbove;rw [kC (by omega)]) (by omega) HL (by omega) (by decide)
def live (m:Nat) (owner:Array (Option Nat)):List (Nat × Nat):=(List.range (m + 1)).filterMap fun j=>(owner.getD j none).map (j,·)
theorem getD_some {owner:Array (Option Nat)}{j k:Nat}:owner.getD j none=some k ↔ owner[j]? = some (some k):=by
  by_cases h:j < owner.size
  · simp [Array.getD,h]
  · simp [Array.getD,h]
theorem gD {m:Nat}{owner:Array (Option Nat)}{l:List Int}(o:Own m owner l){j k:Nat}:(j,k)∈live m owner ↔ owner[j]? = some (some k):=by
  unfold live
  rw [List.mem_filterMap]
  constructor
  · rintro⟨x,_,e⟩
    obtain⟨y,hy,q⟩:=Option.map_eq_some_iff.mp e
    cases q
    exact getD_some.mp hy
  · intro h
    exact⟨j,List.mem_range.mpr (by have:=(o.lt h).1;omega),by rw [getD_some.mpr h];rfl⟩
theorem xP (m:Nat)(owner:Array (Option Nat)):((live m owner).map (·.1)).Pairwise (· < ·):=by
  unfold live
  rw [List.map_filterMap,List.pairwise_filterMap]
  refine List.Pairwise.imp ?_ List.pairwise_lt_range
  intro a b hab x hx y hy
  have ex:x=a:=by
    cases q:owner.getD a none with
    | none=>rw [q] at hx;cases hx
    | some k=>rw [q] at hx;cases hx;rfl
  have ey:y=b:=by
    cases q:owner.getD b none with
    | none=>rw [q] at hy;cases hy
    | some k=>rw [q] at hy;cases hy;rfl
  subst ex;subst ey;exact hab
theorem yZ {m:Nat}{owner:Array (Option Nat)}{l:List Int}(o:Own m owner l):((live m owner).map (·.2)).Perm (List.range l.length):=by
  have up:=xP m owner
  have nd:((live m owner).map (·.2)).Nodup:=by
    rw [List.nodup_iff_pairwise_ne,List.pairwise_map]
    rw [List.pairwise_map] at up
    refine up.imp_of_mem fun {a b} ha hb hab e => ?_
    obtain⟨ja,ka⟩:=a
    obtain⟨jb,kb⟩:=b
    have qa:=(gD o).mp ha
    have qb:=(gD o).mp hb
    have e:ka=kb:=e
    subst e
    have:=o.one ja jb ka qa qb
    have hab:ja < jb:=hab
    omega
  refine (List.perm_ext_iff_of_nodup nd List.nodup_range).mpr fun k => ?_
  rw [List.mem_map,List.mem_range]
  constructor
  · rintro⟨⟨j,k'⟩,h,rfl⟩
    exact (o.lt ((gD o).mp h)).2
  · intro h
    obtain⟨j,hj⟩:=o.ex k h
    exact⟨(j,k),(gD o).mpr hj,rfl⟩
theorem DM {α : Type}(es:Array α):(List.range es.size).filterMap (fun k=>es[k]?)=es.toList:=by
  apply List.ext_getElem?
  intro i
  have:∀ n,n≤es.size→(List.range n).filterMap (fun k=>es[k]?)=es.toList.take n:=fun n=>by
    induction n with
    | zero=>intro _;rfl
    | succ n ih =>
      intro hn
      rw [List.range_succ,List.filterMap_append,ih (by omega),List.take_add_one]
      congr 1
      simp [show n < es.size by omega]
  rw [this _ (ZL _),List.take_of_length_le (by simp)]
theorem Bu {led:Bool}{t:SetTable}{es:Array (Int × Value)}(le:t.led=led){wanted:Nat}(hw:wanted < 4096)(hn:es.size≤wanted) :
    ∃ t' order,t.relaid (es.map (·.1)) wanted=some (t',order)∧(order.filterMap (fun k=>es[k]?)).toList.Perm es.toList∧jL led t' (order.filterMap (fun k=>es[k]?))∧wanted≤t'.mask∧t'.mask < 4096:=by
  obtain⟨a1,a2,a3,a4⟩:=above hw
  obtain⟨m,hm⟩ : ∃ m,m + 1=sizeAbove wanted:=⟨sizeAbove wanted - 1,by omega⟩
  have hm2:sizeAbove wanted - 1=m:=by omega
  rw [← hm] at a1 a2
  rw [hm2] at a4
  obtain⟨owner,e1,o⟩:=Gk a2 (es.map (·.1)) (by rw [Array.size_map];omega)
  obtain⟨L,hL⟩ : ∃ L,L=live m owner:=⟨_,rfl⟩
  have e2:t.relaid (es.map (·.1)) wanted=some ({ mask:=m,place:=(L.map (·.1)).toArray,dummies := #[],finger:=t.finger,led:=t.led,moves:=t.movedTo m,plain:=t.plain },(L.map (·.2)).toArray):=by
    unfold SetTable.relaid SetTable.laid
    rw [hm2,e1,hL]
    rfl
  have up:=xP m owner
  have pm:=yZ o
  have lt:∀ p∈L,p.2 < es.size:=fun p hp=>by
    rw [hL] at hp
    have:=(o.lt ((gD o (j:=p.1) (k:=p.2)).mp hp)).2
    simpa using this
  rw [← hL] at up pm
  have eO:((L.map (·.2)).toArray.filterMap (fun k=>es[k]?)).toList=L.filterMap (fun p=>es[p.2]?):=by
    rw [Array.toList_filterMap,List.filterMap_map]
    rfl
  have eG:∀ L':List (Nat × Nat),(∀ p∈L',p.2 < es.size)→(L'.filterMap (fun p=>es[p.2]?)).length=L'.length ∧ ∀ i:Nat,(L'.filterMap (fun p=>es[p.2]?))[i]? = (L'[i]?).bind fun p=>es[p.2]? := fun L'=>by
    induction L' with
    | nil=>intro _;exact⟨rfl,fun i=>by simp⟩
    | cons p L' ih =>
      intro h
      obtain⟨i1,i2⟩:=ih fun q hq=>h q (ZW _ hq)
      have hp:=h p ZV
      have ep:es[p.2]? = some es[p.2]:=Array.getElem?_eq_getElem hp
      rw [List.filterMap_cons,ep]
      refine⟨by rw [List.length_cons,List.length_cons,i1],fun i => ?_⟩
      cases i with
      | zero=>rw [List.getElem?_cons_zero,List.getElem?_cons_zero];exact ep.symm
      | succ i=>rw [List.getElem?_cons_succ,List.getElem?_cons_succ];exact i2 i
  obtain⟨g1,g2⟩:=eG L lt
  have perm:((L.map (·.2)).toArray.filterMap (fun k=>es[k]?)).toList.Perm es.toList:=by
    rw [Array.toList_filterMap]
    have:=pm.filterMap (fun k=>es[k]?)
    rw [Array.toList_map,ZA,Array.length_toList,DM] at this
    exact this
  have len:((L.map (·.2)).toArray.filterMap (fun k=>es[k]?)).size=es.size:=by rw [← Array.length_toList,perm.length_eq,Array.length_toList]
  refine⟨_,_,e2,perm,⟨?_,rfl,le,?_,a2,by rw [len];show es.size≤m;omega,a4,fun i j e h1 h2 => ?_⟩,by show wanted≤m;omega,by show m < 4096;omega⟩
  · show List.Pairwise _ _
    exact up
  · rw [← Array.length_toList (xs:=((L.map (·.2)).toArray.filterMap (fun k=>es[k]?))),eO,g1]
    simp
  · have h1:(L.map (·.1))[i]? = some j:=by simpa using h1
    rw [← Array.getElem?_toList,eO,g2] at h2
    rw [ZQ] at h1
    obtain⟨p,q1,q2⟩:=Option.map_eq_some_iff.mp h1
    rw [q1] at h2
    have h2:es[p.2]? = some e:=h2
    have mp:p∈live m owner:=by rw [← hL];exact ZK q1
    have ow:=(gD o (j:=p.1) (k:=p.2)).mp mp
    obtain⟨hh,r1,r2⟩:=o.le _ _ ow
    have eh:hh=e.1:=by
      rw [Array.getElem?_toList,Array.getElem?_map,h2] at r1
      cases r1;rfl
    rw [eh,q2] at r2
    refine⟨by rw [← q2];exact (o.lt ow).1,r2.mono fun x hx => ?_⟩
    obtain⟨k,hk⟩:=hx
    show x∈(L.map (·.1)).toArray
    rw [List.mem_toArray,List.mem_map]
    exact⟨(x,k),by rw [hL];exact (gD o).mpr hk,rfl⟩
end Sb
namespace Sb
open PySem SetTable Fm
section
variable {prog:Program} {w:World} {A:Around} {E:Value→Shared→Prop} {s:Shared}
abbrev TK (prog:Program) (w:World):=IsTupleKey (intKind prog w)
abbrev th (prog:Program) (w:World) (ns:List Int):Int:=tupleKeyHash (intKind prog w) ns
theorem Bv {k:Int}{v:Value}(h:(intKind prog w).is k v=true):∃ t,v=.int k t:=Value.isInt_shape (show Value.isInt k v=true from h)
theorem mD {ks:List Int}{vs:List Value}(h:ItemsAre (intKind prog w) ks vs):∀ v∈vs,∃ n t,v=.int n t:=by
  induction h with
  | nil=>intro v hv;simp at hv
  | @cons k v' ks vs h1 _ ih =>
    intro v hv
    rcases List.mem_cons.mp hv with rfl|hv
    · obtain⟨t,e⟩:=Bv h1;exact⟨_,t,e⟩
    · exact ih v hv
theorem wp {ns:List Int}{b:Addr}{Q:Bool→Shared→Prop}(hk:TK prog w s.heap ns b)(h:Q true s):wpAny (model prog w) A (hashByValue 8 (.ref b)) Q E s:=by
  have hT:=hk.typeIs
  obtain⟨o,items,n,ho,_,hd,hi⟩:=hk
  unfold hashByValue
  refine wpAny_bind (wpAny_specialOf hT F.slot_tuple_hash.lookup ?_)
  show wpAny _ _ (seqItems? (.ref b) >>= _) _ _ s
  refine wpAny_bind (wpAny_seqItems ho hd ?_)
  refine wpAny_bind ?_
  show wpAny _ _ (forIn items _ _) _ _ s
  rw [← Array.forIn_toList]
  refine wpAny_forIn_list _ (fun rest r s'=>r.1=none∧s'=s ∧ ∀ v∈rest,∃ n t,v=Value.int n t) _ ?_ ?_ _ _ ⟨rfl,rfl,mD hi⟩
  · rintro v rest r s' ⟨hr,rfl,hall⟩
    obtain⟨n,t,rfl⟩:=hall v ZV
    have e:hashByValue 7 (.int n t)=pure true:=rfl
    rw [e]
    refine wpAny_bind (wpAny_pure ?_)
    simp only [Bool.not_true,Bool.false_eq_true,if_false]
    exact wpAny_pure ⟨rfl,rfl,fun u hu'=>hall u (ZW _ hu')⟩
  · rintro⟨r1,r2⟩ s' ⟨hr,rfl,_⟩
    simp only at hr
    subst hr
    exact wpAny_pure h
theorem xQ {ns:List Int}{b:Addr}{Q:Bool→Shared→Prop}(hk:TK prog w s.heap ns b)(h:Q false s):wpAny (model prog w) A (ofAClassStatement 8 (.ref b)) Q E s:=by
  have hT:=hk.typeIs
  obtain⟨o,items,n,ho,_,hd,hi⟩:=hk
  unfold ofAClassStatement
  refine wpAny_bind (wpAny_typeOf hT ?_)
  dsimp only
  rw [if_pos (show ("tuple" == "tuple")=true from by decide)]
  refine wpAny_bind (wpAny_pure ?_)
  simp only [Bool.not_true,Bool.false_eq_true,if_false]
  refine wpAny_bind (wpAny_seqItems ho hd ?_)
  refine wpAny_bind ?_
  show wpAny _ _ (forIn items _ _) _ _ s
  rw [← Array.forIn_toList]
  refine wpAny_forIn_list _ (fun rest r s'=>r.1=none∧s'=s ∧ ∀ v∈rest,∃ n t,v=Value.int n t) _ ?_ ?_ _ _ ⟨rfl,rfl,mD hi⟩
  · rintro v rest r s' ⟨hr,rfl,hall⟩
    obtain⟨n,t,rfl⟩:=hall v ZV
    have e:ofAClassStatement 7 (.int n t)=pure false:=rfl
    rw [e]
    refine wpAny_bind (wpAny_pure ?_)
    simp only [Bool.false_eq_true,if_false]
    exact wpAny_pure ⟨rfl,rfl,fun u hu'=>hall u (ZW _ hu')⟩
  · rintro⟨r1,r2⟩ s' ⟨hr,rfl,_⟩
    simp only at hr
    subst hr
    exact wpAny_pure h
theorem Gm {ns:List Int}{b:Addr}{stored:List Value}{Q:Bool→Shared→Prop}(hk:TK prog w s.heap ns b)(hs:∀ y∈stored,∃ c ms,y=.ref c∧TK prog w s.heap ms c)(h:Q false s):wpAny (model prog w) A (searchCouldBeSeen (.ref b) stored) Q E s:=by
  unfold searchCouldBeSeen
  refine wpAny_bind ?_
  refine wpAny_forIn_list _ (fun rest r s'=>r.1=none∧s'=s ∧ ∀ y∈rest,∃ c ms,y=.ref c∧TK prog w s.heap ms c) _ ?_ ?_ _ _ ⟨rfl,rfl,hs⟩
  · rintro v rest r s' ⟨hr,rfl,hall⟩
    obtain⟨c,ms,rfl,hc⟩:=hall v ZV
    have rest':∀ y∈rest,∃ c ms,y=.ref c∧TK prog w s'.heap ms c:=fun u hu'=>hall u (ZW _ hu')
    dsimp only
    refine wpAny_ite_split (fun _=>wpAny_pure ⟨rfl,rfl,rest'⟩) fun _ => ?_
    refine wpAny_bind (wpAny_eqIsQuiet_tuple hk ?_)
    rw [if_neg (by decide)]
    refine wpAny_bind (wpAny_eqIsQuiet_tuple hc ?_)
    rw [if_neg (by decide)]
    refine wpAny_bind (xQ hk ?_)
    rw [if_neg (by decide)]
    refine wpAny_bind (xQ hc ?_)
    rw [if_neg (by decide)]
    exact wpAny_pure ⟨rfl,rfl,rest'⟩
  · rintro⟨r1,r2⟩ s' ⟨hr,rfl,_⟩
    simp only at hr
    subst hr
    exact wpAny_pure h
inductive ij (prog:Program) (w:World) (h:Heap):List (Int × Value)→List (List Int)→Prop
  | nil:ij prog w h [] []
  | cons {b:Addr} {ns:List Int} {es:List (Int × Value)} {ks:List (List Int)}:TK prog w h ns b→ij prog w h es ks→ij prog w h ((th prog w ns,.ref b) :: es) (ns :: ks)
theorem ij.len {h:Heap}{es:List (Int × Value)}{ks:List (List Int)}(x:ij prog w h es ks):es.length=ks.length:=by
  induction x with
  | nil=>rfl
  | cons _ _ ih=>simp [ih]
theorem ij.get {h:Heap}{es:List (Int × Value)}{ks:List (List Int)}(x:ij prog w h es ks):∀ {i:Nat} {e:Int × Value},es[i]? = some e → ∃ b ns,e=(th prog w ns,.ref b)∧ks[i]? = some ns∧TK prog w h ns b:=by
  induction x with
  | nil=>intro i e he;simp at he
  | @cons b ns es ks hb _ ih =>
    intro i e he
    cases i with
    | zero=>simp at he;exact⟨b,ns,he.symm,rfl,hb⟩
    | succ i=>rw [List.getElem?_cons_succ] at he ⊢;exact ih he
theorem ij.perm {h:Heap}{es es':List (Int × Value)}(p:es.Perm es'):∀ {ks:List (List Int)},ij prog w h es ks → ∃ ks',ij prog w h es' ks'∧ks.Perm ks':=by
  induction p with
  | nil=>intro ks x;exact⟨ks,x,.refl _⟩
  | cons a _ ih =>
    intro ks x
    cases x with
    | cons hb x =>
      obtain⟨ks',y,q⟩:=ih x
      exact⟨_,.cons hb y,q.cons _⟩
  | swap a b l =>
    intro ks x
    cases x with
    | cons hb x =>
      cases x with
      | cons hc x=>exact⟨_,.cons hc (.cons hb x),.swap _ _ _⟩
  | trans _ _ ih1 ih2 =>
    intro ks x
    obtain⟨k1,y1,q1⟩:=ih1 x
    obtain⟨k2,y2,q2⟩:=ih2 y1
    exact⟨k2,y2,q1.trans q2⟩
theorem ij.kept {h h':Heap}{es:List (Int × Value)}{ks:List (List Int)}(x:ij prog w h es ks)(k:∀ b o,(∃ ns,TK prog w h ns b)→h.get? b=some o→h'.get? b=some o):ij prog w h' es ks:=by
  induction x with
  | nil=>exact .nil
  | @cons b ns es ks hb _ ih =>
    refine .cons ?_ ih
    obtain⟨o,items,n,ho,hc,hd,hi⟩:=hb
    exact⟨o,items,n,k b o ⟨ns,o,items,n,ho,hc,hd,hi⟩ ho,hc,hd,hi⟩
theorem rJ {led:Bool}{a b:Addr}{ns:List Int}{o:Obj}{es:Array (Int × Value)}{ep:Nat}{t:SetTable}{ks:List (List Int)}(hu:A.units < cLine)(ho:s.heap.get? a=some o)(hd:o.data=.set es ep t)(O:jL led t es)(hK:ij prog w s.heap es.toList ks)(hb:TK prog w s.heap ns b)
    {K:Nat} (k1:K < 10 * turns t.mask) (f1:at' t.mask (th prog w ns) K∉t.place) (f2:∀ k,k < K→at' t.mask (th prog w ns) k∈t.place) {Q:SetFound→Shared→Prop}
    (h1:ns∈ks→Q (.there none) s) (h2:ns∉ks→Q (.free (at' t.mask (th prog w ns) K) false) s) :
    ∀ (cR k:Nat) (stand:Option Probe),stand.getD (t.probeStart (th prog w ns))=pst t.mask (th prog w ns) k→k≤K→K - k < cR→(∀ k' i:Nat,k' < k→t.place[i]? = some (at' t.mask (th prog w ns) k')→ks[i]? ≠some ns) →
      wpAny (model prog w) A (setSearchFrom a (.ref b) (th prog w ns) true cR stand) Q E s
  | 0,k,stand,_,_,l,_=>absurd l (Nat.not_lt_zero _)
  | cR + 1,k,stand,st,l1,l2,hn=>by
    unfold setSearchFrom
    refine wpAny_bind (wpAny_setState_of ho hd O.fits ?_)
    dsimp only
    rw [if_neg (by rw [O.way];decide),st]
    have pr:=uH O.up O.no (fun i=>(es[i]?.map (·.1)).getD 0) (th prog w ns) f1 f2 (10 * turns t.mask) k l1 (by omega)
    have hin:∀ {i:Nat} {e:Int × Value},es[i]? = some e → ∃ c ms,e=(th prog w ms,.ref c)∧ks[i]? = some ms∧TK prog w s.heap ms c:=fun {i e} q=>hK.get (by rw [Array.getElem?_toList];exact q)
    have inb:∀ {i j:Nat},t.place[i]? = some j → ∃ e,es[i]? = some e:=fun {i j} q=>by
      have:=(Array.getElem?_eq_some_iff.mp q).1
      rw [O.sz] at this
      exact⟨es[i],Array.getElem?_eq_getElem this⟩
    rcases pr with ⟨q1,q2⟩|⟨k',i,a1,a2,a3,a4,a5,a6⟩
    · have q1:t.probe (fun i=>(es[i]?.map (·.1)).getD 0) (th prog w ns) (pst t.mask (th prog w ns) k)=some (.empty (at' t.mask (th prog w ns) K) none):=q1
      erw [q1]
      dsimp only
      refine wpAny_pure (h2 fun m => ?_)
      obtain⟨i,hi⟩:=List.getElem?_of_mem m
      have il:i < es.size:=by
        have:=(List.getElem?_eq_some_iff.mp hi).1
        rw [← hK.len,Array.length_toList] at this
        exact this
      have ei:es[i]? = some es[i]:=Array.getElem?_eq_getElem il
      obtain⟨c,ms,e1,e2,e3⟩:=hin ei
      rw [hi] at e2
      cases e2
      have pl:i < t.place.size:=by rw [O.sz];exact il
      have pi:t.place[i]? = some t.place[i]:=Array.getElem?_eq_getElem pl
      obtain⟨_,kk,r1,r2⟩:=O.re i _ _ pi ei
      rw [e1] at r1 r2
      have r1:at' t.mask (th prog w ns) kk=t.place[i]:=r1
      have lk:kk < K:=by
        rcases Nat.lt_or_ge kk K with z|z
        · exact z
        · exfalso
          by_cases ze:kk=K
          · apply f1;rw [← ze,r1];exact Array.getElem_mem pl
          · exact f1 (r2 K (by omega))
      by_cases lkk:kk < k
      · exact hn kk i lkk (by rw [r1];exact pi) hi
      · refine q2 kk i (by omega) lk (by rw [r1];exact pi) ?_
        show (es[i]?.map (·.1)).getD 0=_
        rw [ei,e1]
        rfl
    · have a5:t.probe (fun i=>(es[i]?.map (·.1)).getD 0) (th prog w ns) (pst t.mask (th prog w ns) k)=some (.candidate (at' t.mask (th prog w ns) k') i (pst t.mask (th prog w ns) (k' + 1))):=a5
      erw [a5]
      dsimp only
      obtain⟨e,ei⟩:=inb a3
      obtain⟨c,ms,e1,e2,e3⟩:=hin ei
      subst e1
      rw [ei]
      dsimp only
      have hs:∀ y∈List.map (fun x=>x.snd) (Array.filter (fun x=>x.fst == th prog w ns) es).toList,∃ c ms,y=.ref c∧TK prog w s.heap ms c:=fun y hy=>by
        obtain⟨x,hx,rfl⟩:=List.mem_map.mp hy
        have hx:=(Array.mem_filter.mp (Array.mem_toList_iff.mp hx)).1
        obtain⟨j,hj⟩:=Array.getElem?_of_mem hx
        obtain⟨c,ms,e,_,q⟩:=hin hj
        rw [e]
        exact⟨c,ms,rfl,q⟩
      have tail:wpAny (model prog w) A (holding [Value.ref c] (eqBool (Value.ref c) (Value.ref b)) >>= fun equal=>setState a >>= fun __x=>if (true && equal)=true then pure (SetFound.there none)
                else
                  match __x.2.snd.sameMemory t.moves t.mask with
                  | some same =>
                    match if same=true then __x.2.snd.slot (at' t.mask (th prog w ns) k') else Slot.empty with
                    | Slot.live i' =>
                      match __x.fst[i']? with
                      | some (fst,y')=>do
                        let __do_lift ← isSame y' (Value.ref c)
                        let still ← pure (if __do_lift=true then some i' else none)
                        match still with
                          | none=>do
                            rule "set.search.anew"
                            setSearchFrom a (Value.ref b) (th prog w ns) true cR none
                          | some i' =>
                            if equal=true then pure (SetFound.there (some i'))
                            else
                              setSearchFrom a (Value.ref b) (th prog w ns) true cR
                                (some (pst t.mask (th prog w ns) (k' + 1)))
                      | none=>do
                        let still ← pure none
                        match still with
                          | none=>do
                            rule "set.search.anew"
                            setSearchFrom a (Value.ref b) (th prog w ns) true cR none
                          | some i' =>
                            if equal=true then pure (SetFound.there (some i'))
                            else
                              setSearchFrom a (Value.ref b) (th prog w ns) true cR
                                (some (pst t.mask (th prog w ns) (k' + 1)))
                    | x=>do
                      let still ← pure none
                      match still with
                        | none=>do
                          rule "set.search.anew"
                          setSearchFrom a (Value.ref b) (th prog w ns) true cR none
                        | some i' =>
                          if equal=true then pure (SetFound.there (some i'))
                          else
                            setSearchFrom a (Value.ref b) (th prog w ns) true cR
                              (some (pst t.mask (th prog w ns) (k' + 1)))
                  | x=>unsupported "set.changed-during-lookup:is-the-new-block-at-the-old-address") Q E s:=by
        refine wpAny_bind (wpAny_holding (wpAny_eqBool_tuple hu e3 hb ?_))
        refine wpAny_bind (wpAny_setState_of ho hd O.fits ?_)
        dsimp only
        by_cases c1:ms=ns
        · rw [decide_eq_true c1,if_pos (by decide)]
          exact wpAny_pure (h1 (by rw [← c1];exact ZK e2))
        · rw [decide_eq_false c1,if_neg (by decide)]
          have sm:t.sameMemory t.moves t.mask=some true:=by unfold SetTable.sameMemory;rw [if_pos (beq_self_eq_true _)]
          rw [sm]
          dsimp only
          rw [if_pos rfl,rH O.up a3]
          dsimp only
          rw [ei]
          dsimp only
          refine wpAny_bind (wpAny_isSame_ref_self ?_)
          refine wpAny_bind (wpAny_pure ?_)
          rw [if_pos rfl]
          dsimp only
          rw [if_neg (by decide)]
          refine rJ hu ho hd O hK hb k1 f1 f2 h1 h2 cR (k' + 1) _ rfl (by omega) (by omega) fun kk j l pj ej => ?_
          by_cases z:kk=k'
          · subst z
            have:j=i:=by rw [← jK O.up pj,jK O.up a3]
            rw [this,e2] at ej
            cases ej
            exact c1 rfl
          · by_cases z2:kk < k
            · exact hn kk j z2 pj ej
            · refine a6 kk j (by omega) (by omega) pj ?_
              obtain⟨e',q'⟩:=inb pj
              obtain⟨c',ms',e1',e2',_⟩:=hin q'
              rw [ej] at e2'
              cases e2'
              rw [q',e1']
              rfl
      refine wpAny_ite_split (fun _ => ?_) fun _=>tail
      refine wpAny_bind (Gm hb hs ?_)
      rw [if_neg (by decide)]
      exact tail
end
end Sb
namespace Sb
open PySem SetTable Fm
section
variable {prog:Program} {w:World} {A:Around} {E:Value→Shared→Prop} {s:Shared} {led:Bool} {a b:Addr} {ns:List Int} {ks:List (List Int)}
def fQ (prog:Program) (w:World) (led:Bool) (a:Addr) (ks:List (List Int)) (h:Heap):Prop :=
  ∃ es ep t ms,h.get? a=some { cls:=.type "set",dict:=none,data:=.set es ep t } ∧ jL led t es∧es.size * 5 < t.mask * 3∧t.mask < 4096∧ij prog w h es.toList ms∧ms.Perm ks
theorem Bw {h:Heap} {o:Obj} (ho:h.get? a=some o) (hc:o.cls=.type "set") (hb:TK prog w h ns b):b≠a:=fun e=>by
  obtain⟨o',items,n,ho',hc',_⟩:=hb
  rw [e,ho] at ho'
  cases ho'
  rw [hc] at hc'
  exact absurd hc' (by decide)
theorem uK {h h':Heap} {o:Obj} {es:List (Int × Value)} {ms:List (List Int)} (ho:h.get? a=some o) (hc:o.cls=.type "set") (sb:Heap.SameBut a h h') (k:ij prog w h es ms):ij prog w h' es ms :=
  k.kept fun b o' ⟨ns,q⟩ e=>(sb.2 b (Bw ho hc q)).trans e
theorem xR {h:Heap} {es es':Array (Int × Value)} {ep:Nat} {t t':SetTable} (ho:h.get? a=some { cls:=.type "set",dict:=none,data:=.set es ep t }) :
    (h.update a (Obj.putSet es' t')).get? a=some { cls:=.type "set",dict:=none,data:=.set es' (ep + 1) t' }:=Heap.get?_update_self (Obj.putSet es' t') ho rfl
theorem Gn {h h':Heap} {o:Obj} (ho:h.get? a=some o) (hc:o.cls=.type "set") (sb:Heap.SameBut a h h') (hb:TK prog w h ns b):TK prog w h' ns b:=by
  have ne:=Bw ho hc hb
  obtain⟨o',items,n,ho',hc',hd,hi⟩:=hb
  exact⟨o',items,n,(sb.2 b ne).trans ho',hc',hd,hi⟩
theorem Bx {Q:Bool→Shared→Prop}(hu:A.units < cLine)(hS:fQ prog w led a ks s.heap)(hb:TK prog w s.heap ns b)(hz:ks.length + 1≤1000)
    (h:∀ h' c,Heap.SameBut a s.heap h'→fQ prog w led a (if ns∈ks then ks else ns :: ks) h'→Q c { s with heap:=h' }) :
    wpAny (model prog w) A (setAddHashed a (.ref b) (th prog w ns)) Q E s:=by
  obtain⟨es,ep,t,ms,ho,O,nf,mk,hK,pm⟩:=hS
  have sz:es.size=ks.length:=by rw [← Array.length_toList,hK.len,pm.length_eq]
  obtain⟨K,k1,f1,f2⟩:=O.free (th prog w ns)
  unfold setAddHashed setAddHashedIn
  refine wpAny_holding (wpAny_bind (wpAny_setState_of ho rfl O.fits ?_))
  dsimp only
  rw [if_neg (show ¬ byScan (Value.ref b) es=true from fun z=>by cases z)]
  unfold setSearch
  have mem:ns∈ms ↔ ns∈ks:=pm.mem_iff
  refine wpAny_bind (rJ hu ho rfl O hK hb k1 f1 f2 (fun m => ?_) (fun m => ?_) 100000 0 none rfl (Nat.zero_le _) (by unfold turns at k1;omega) fun k' i l=>absurd l (Nat.not_lt_zero _))
  · dsimp only
    have m:=mem.mp m
    refine wpAny_pure ?_
    have:=h s.heap false (Heap.SameBut.refl a s.heap)
    rw [if_pos m] at this
    exact this ⟨es,ep,t,ms,ho,O,nf,mk,hK,pm⟩
  · dsimp only
    have m:ns∉ks:=fun z=>m (mem.mpr z)
    refine wpAny_bind (wpAny_setState_of ho rfl O.fits ?_)
    dsimp only
    have O1:=Gj O (th prog w ns) (Value.ref b) f1 f2 (by omega)
    have lenE:(insertAt es (t.put (at' t.mask (th prog w ns) K)).snd (th prog w ns,Value.ref b)).toList.Perm ((th prog w ns,Value.ref b) :: es.toList):=by
      rw [SetTable.toList_insertAt]
      have:=List.perm_middle (a:=(th prog w ns,Value.ref b)) (l₁ := es.toList.take (t.put (at' t.mask (th prog w ns) K)).snd) (l₂ := es.toList.drop (t.put (at' t.mask (th prog w ns) K)).snd)
      rwa [List.take_append_drop] at this
    have km:(t.put (at' t.mask (th prog w ns) K)).1.mask=t.mask:=rfl
    generalize insertAt es (t.put (at' t.mask (th prog w ns) K)).snd (th prog w ns,Value.ref b)=es1 at O1 lenE ⊢
    generalize (t.put (at' t.mask (th prog w ns) K)).1=t1 at O1 km ⊢
    obtain⟨ms1,K1,pm1⟩:=ij.perm lenE.symm (ij.cons hb hK)
    have pm2:ms1.Perm (ns :: ks):=pm1.symm.trans (pm.cons ns)
    have sz1:es1.size=es.size + 1:=by rw [← Array.length_toList,lenE.length_eq];simp
    have goal:wpAny (model prog w) A (storeSet a es1 t1 >>= fun _=>if (!false && t1.tooFull)=true then setRelay a (grown (es.size + 1)) >>= fun _=>pure true else pure true) (fun r s'=>Q r s') E s:=by
      refine wpAny_bind (wpAny_storeSet_of ho rfl ?_ (by rw [sz1,sizeLine_eq];omega))
      have sb:=Heap.SameBut.update s.heap a (Obj.putSet es1 t1)
      have o1:=xR (es':=es1) (t':=t1) ho
      have K2:=uK ho rfl sb K1
      refine wpAny_ite_split (fun tf => ?_) fun tf => ?_
      · unfold setRelay
        refine wpAny_bind (wpAny_bind (wpAny_setState_of o1 rfl O1.fits ?_))
        dsimp only
        have gr:grown (es.size + 1)=(es.size + 1) * 4:=by unfold grown;rw [if_neg (by omega)]
        rw [gr]
        have ab:=above (show (es.size + 1) * 4 < 4096 by omega)
        rw [if_neg (by rw [sizeLine_eq];omega)]
        obtain⟨t2,order,r1,r2,r3,r4,r5⟩:=Bu (t:=t1) (es:=es1) O1.le (show (es.size + 1) * 4 < 4096 by omega) (by omega)
        rw [r1]
        obtain⟨ms3,K3,pm3⟩:=ij.perm r2.symm K2
        have szz:(order.filterMap (fun k=>es1[k]?)).size=es1.size:=by rw [← Array.length_toList,r2.length_eq,Array.length_toList]
        refine wpAny_bind ?_
        show wpAny _ _ (if ((order.filterMap (fun k=>es1[k]?)).size != es1.size)=true then _ else _) _ _ _
        rw [if_neg (by rw [szz];simp)]
        refine wpAny_pure ?_
        dsimp only
        refine wpAny_storeSet_of o1 rfl ?_ (by rw [szz,sz1,sizeLine_eq];omega)
        refine wpAny_pure ?_
        have sb2:=Heap.SameBut.update (s.heap.update a (Obj.putSet es1 t1)) a (Obj.putSet (order.filterMap (fun k=>es1[k]?)) t2)
        refine h _ true (sb.trans sb2) ?_
        rw [if_neg m]
        exact⟨_,_,t2,ms3,xR o1,r3,by rw [szz,sz1];omega,r5,uK o1 rfl sb2 K3,pm3.symm.trans pm2⟩
      · refine wpAny_pure (h _ true sb ?_)
        rw [if_neg m]
        refine⟨es1,_,t1,ms1,o1,O1,?_,by rw [km];exact mk,K2,pm2⟩
        have : ¬ t1.tooFull=true:=by simpa using tf
        unfold SetTable.tooFull SetTable.fill at this
        rw [O1.no,O1.sz] at this
        simpa using this
    refine wpAny_ite_split (fun _=>wpAny_bind (wp hb ?_)) fun _=>wpAny_bind (wpAny_pure ?_)
    · rw [if_pos rfl];exact goal
    · rw [if_pos rfl];exact goal
end
end Sb
namespace Fm
end Fm
namespace Fm
noncomputable def inR (h:Hd) (x y:D):Option Bool:=match fg h y with
  | some l=>match kG l with
    | some rs=>match kG [x] with
      | some [r]=>if ∀ z∈rs,z.length=r.length then some (decide (r∈rs)) else none
      | _=>none
    | none=>none
  | none=>none
noncomputable def iR:O2:=fun x y h=>match inR h x y with|some b=>.ok (.bl (!b)) h|none=>.bad
end Fm
namespace Fm
def n8 (ns:List (List Int)) (k:List Int):List (List Int):=if k∈ns then ns else k :: ns
def ddr (l:List (List Int)):List (List Int):=l.foldl n8 []
theorem By (ns:List (List Int))(k x:List Int):x∈n8 ns k ↔ x∈ns∨x=k:=by
  unfold n8
  split
  · rename_i h
    exact⟨.inl,fun q=>q.elim id fun e=>e ▸ h⟩
  · rw [List.mem_cons];exact Or.comm
theorem wu {ns:List (List Int)}(h:ns.Nodup)(k:List Int):(n8 ns k).Nodup:=by
  unfold n8
  split
  · exact h
  · exact List.nodup_cons.mpr ⟨by assumption,h⟩
theorem rK:∀ (l acc:List (List Int)) (x:List Int),x∈l.foldl n8 acc ↔ x∈acc∨x∈l
  | [],acc,x=>by simp
  | k :: l,acc,x=>by
    rw [List.foldl_cons,rK l,By,List.mem_cons,or_assoc]
theorem nR:∀ (l acc:List (List Int)),acc.Nodup→(l.foldl n8 acc).Nodup
  | [],acc,h=>h
  | k :: l,acc,h=>nR l _ (wu h k)
theorem rL:∀ (l acc:List (List Int)),(l.foldl n8 acc).length≤acc.length + l.length
  | [],acc=>by simp
  | k :: l,acc=>by
    have:=rL l (n8 acc k)
    have h:(n8 acc k).length≤acc.length + 1:=by unfold n8;split<;>simp
    rw [List.foldl_cons,List.length_cons]
    omega
theorem DN (l:List (List Int))(x:List Int):x∈ddr l ↔ x∈l:=by unfold ddr;rw [rK];simp
theorem y4 (l:List (List Int)):(ddr l).Nodup:=nR l [] List.nodup_nil
theorem xS (l:List (List Int)):(ddr l).length≤l.length:=by unfold ddr;have:=rL l [];simpa using this
theorem Bz {l:List (List Int)}{i:Nat}(h:i < l.length):ddr (l.take (i + 1))=n8 (ddr (l.take i)) (l.getD i []):=by
  unfold ddr
  have e:l.take (i + 1)=l.take i++[l.getD i []]:=by
    rw [List.take_add_one,ZE h]
    simp [List.getD,h]
  rw [e,List.foldl_append]
  rfl
theorem qC {l:List (List Int)}(h:l.Nodup):(ddr l).length=l.length :=
  ((List.perm_ext_iff_of_nodup (y4 l) h).mpr fun x=>DN l x).length_eq
def lH (a:EF):EF:=fun σ h=>(a σ h).bind fun x h=>match fg h x with
  | some l=>match kG l with
    | some r=>if l.length < 1000 then .ok (.int (ddr r).length) h else .bad
    | none=>.bad
  | none=>.bad
end Fm
namespace Sb
open PySem PySem.Spec SetTable Fm
section
variable {prog:Program} {w:World} {A:Around} {R:Result→Shared→Prop} {I:Addr} {fp wr:List Addr} {G:Array GenState→Array GenState→Prop} {P:Nat→Value→Prop} {St:Nat→Shared→Prop} {led:Bool}
theorem TK.kept {h h':Heap}{ns:List Int}{b:Addr}(x:TK prog w h ns b)(k:∀ o,h.get? b=some o→h'.get? b=some o):TK prog w h' ns b:=by
  obtain⟨o,items,n,ho,hc,hd,hi⟩:=x
  exact⟨o,items,n,k _ ho,hc,hd,hi⟩
theorem fQ.kept {a:Addr} {ks:List (List Int)} {h h':Heap} (x:fQ prog w led a ks h) (k:∀ b o,b=a∨o.cls=.type "tuple" → h.get? b=some o→h'.get? b=some o):fQ prog w led a ks h':=by
  obtain⟨es,ep,t,ms,ho,O,nf,mk,hK,pm⟩:=x
  exact⟨es,ep,t,ms,k _ _ (.inl rfl) ho,O,nf,mk,hK.kept fun b o ⟨ns,o',_,_,ho',hc,_⟩ e=>by
    rw [e] at ho';cases ho';exact k b o (.inr hc) e,pm⟩
theorem TK.cls {h:Heap} {ns:List Int} {b:Addr} (x:TK prog w h ns b):∀ o,h.get? b=some o→o.cls=.type "tuple" := by
  obtain⟨o,items,n,ho,hc,hd,hi⟩:=x
  intro o' e
  rw [ho] at e;cases e;exact hc
theorem y6 (ks:List (List Int))(bs:List Addr)(W:WalksS prog w A.in1 I fp wr G ks.length P St)(S:Addr)(hSf:S∉fp)(hu:A.units + 8 < cLine)
    (hval:∀ i v,i < ks.length→P i v→v=.ref (bs.getD i 0)) (hz:ks.length + 1≤1000) (hwr:∀ i s,St i s → ∀ b∈wr,∀ o,s.heap.get? b=some o→o.cls ≠ .type "tuple") :
    ∀ (k i:Nat) (s:Shared),ks.length - i=k→i≤ks.length→St i s→fQ prog w led S (ddr (ks.take i)) s.heap→(∀ i,i < ks.length→TK prog w s.heap (ks.getD i []) (bs.getD i 0)) →
      (∀ s',Moved (S :: wr) G s s'→fQ prog w led S (ddr ks) s'.heap→R (.ok (.ret .none)) s')→codeAny (model prog w) A (.builtin "set.update.loop" ⟨[.ref S,.ref I],[]⟩) R s:=by
  have hSw:S∉wr:=fun h=>hSf (W.sub _ h)
  have up:∀ b∈wr,b∈S :: wr:=fun b q=>ZW _ q
  have kp:∀ {i:Nat} {s s':Shared},St i s→Moved wr G s s' → ∀ b o,b=S∨o.cls=.type "tuple" → s.heap.get? b=some o→s'.heap.get? b=some o:=fun {i s s'} st hm b o q e=>hm.heap b o (fun z=>q.elim (fun q=>hSw (q ▸ z)) fun q=>hwr i s st b z o e q) e
  intro k
  induction k with
  | zero =>
    intro i s hk hi st hS hT hR
    have e:i=ks.length:=by omega
    subst e
    rw [List.take_length] at hS
    refine codeAny_builtin PyProof.Rows.F.entry_set_update_loop ?_
    rw [Around.under_plainId PyProof.Rows.F.plain_set_update_loop _]
    show wpAny _ A.in1 (pyNext (.ref I) >>= _) _ _ s
    refine wpAny_bind (W.done s _ _ st fun s' hm => ?_)
    show wpAny _ A.in1 (ret Value.none) _ _ s'
    exact wpAny_pure (hR s' (hm.mono up) (hS.kept (kp st hm)))
  | succ k ih =>
    intro i s hk hi st hS hT hR
    have hlt:i < ks.length:=by omega
    refine codeAny_builtin PyProof.Rows.F.entry_set_update_loop ?_
    rw [Around.under_plainId PyProof.Rows.F.plain_set_update_loop _]
    show wpAny _ A.in1 (pyNext (.ref I) >>= _) _ _ s
    refine wpAny_bind (W.item i s _ _ hlt st fun v s' hP st' hm => ?_)
    have hv:=hval i v hlt hP
    subst hv
    have kp1:=kp st hm
    have hS1:fQ prog w led S (ddr (ks.take i)) s'.heap:=hS.kept kp1
    have hT1:∀ i,i < ks.length→TK prog w s'.heap (ks.getD i []) (bs.getD i 0):=fun j hj=>TK.kept (hT j hj) fun o e=>kp1 _ o (.inr (TK.cls (hT j hj) o e)) e
    generalize hB:bs.getD i 0=B
    have hTi:=hT1 i hlt
    rw [hB] at hTi
    show wpAny _ A.in1 (holding [Value.ref B] (setAdd S (.ref B)) >>= _) _ _ s'
    unfold setAdd
    refine wpAny_bind (wpAny_holding (wpAny_holding (wpAny_bind (wpAny_pyHash_tuple (by rw [Around.in1_units];omega) hTi ?_))))
    have room:(ddr (ks.take i)).length + 1≤1000:=by
      have h1:=xS (ks.take i)
      rw [List.length_take] at h1
      omega
    refine Bx (s:={ s' with toks:=s'.toks + ((ks.getD i []).length + 1) }) (by rw [Around.in1_units];omega) hS1 hTi room fun h' b sb hS2 => ?_
    have hS3:fQ prog w led S (ddr (ks.take (i + 1))) h':=by rw [Bz hlt];exact hS2
    obtain⟨oS,hoS,hcS⟩ : ∃ o,s'.heap.get? S=some o∧o.cls=.type "set" := by obtain⟨es,ep,t,ms,ho,_⟩:=hS1;exact⟨_,ho,rfl⟩
    refine wpAny_pure ⟨plainId_quiet PyProof.Rows.F.plain_set_update_loop _,ih (i + 1) _ (by omega) hlt (W.frame _ s' _ _ st' (Nat.le_add_right _ _) fun b hb o e => ?_) hS3 (fun j hj=>Gn hoS hcS sb (hT1 j hj)) fun s'' hm2 hS4 => ?_⟩
    · rw [sb.2 b (fun q:b=S=>hSf (q ▸ hb))];exact e
    · refine hR s'' (Moved.trans W.gtrans ((hm.mono up).then_heap (Nat.le_add_right _ _) fun b o hb e => ?_) hm2) hS4
      rw [sb.2 b (fun q:b=S=>hb (q ▸ ZV))];exact e
end
end Sb
namespace Sb
open PySem PySem.Spec SetTable Fm
def uL (w:World):Bool := !(w.params.followText "set-order")
def cZ (w:World):Obj:={ cls:=.type "set",dict:=none,data:=.set #[] 0 (.fresh 0 0 (uL w)) }
section
variable {prog:Program} {w:World} {A:Around} {E:Value→Shared→Prop} {s:Shared}
theorem DO (a:Value){Q:Value→Shared→Prop}(h:Q (.ref s.heap.objs.size) { s with heap:=s.heap.push (cZ w) }) :
    codeAny (model prog w) A (.call (.builtin "set.__new__") ⟨[.type "set",a],[]⟩) (wants Q E) s:=by
  refine codeAny_of_tree ?_
  show wpAny _ A.in1 (checkBuiltinCall "set.__new__" ⟨[.type "set",a],[]⟩ >>= fun _=>again (.builtin "set.__new__" ⟨[.type "set",a],[]⟩)) _ _ s
  refine wpAny_bind (wpAny_of_eq (F.newCall_set_1 a) (wpAny_pure ⟨plainId_quiet F.plain_set_new _,codeAny_builtin F.entry_set_new ?_⟩))
  rw [Around.under_plainId F.plain_set_new _]
  unfold Builtin.«set.__new__» Builtin.Frozenset.newClass
  have hs:=sub_set_self
  obtain⟨hp,g,d,tk,os⟩:=s
  dsimp only
  wp_walk
  refine wpAny_askSetting (wpAny_pure ?_)
  dsimp only
  simp only [newObj]
  exact wpAny_bind (wpAny_alloc (wpAny_pure (wpAny_pure h)))
theorem BA (ks:List (List Int))(e:ks=[]):fQ prog w (uL w) s.heap.objs.size ks (s.heap.push (cZ w)):=by
  subst e
  refine⟨#[],0,_,[],ZJ _ rfl,⟨List.Pairwise.nil,rfl,rfl,rfl,HL,(show 0≤7 by decide),(show 7 % 2=1 by decide),fun i j e h=>by simp [SetTable.fresh] at h⟩,(show 0 * 5 < 7 * 3 by decide),(show 7 < 4096 by decide),ij.nil,List.Perm.nil⟩
set_option maxHeartbeats 3200000 in
theorem set_of_listT {l:Addr}{items:Array Value}{ks:List (List Int)}{bs:List Addr}{Q:Value→Shared→Prop}(hh:A.handled=none)(hu:A.units + 24 < cLine)(hl:s.heap.IsList l items)(hlen:items.size=ks.length)(hval:∀ (i:Nat) (v:Value),items[i]? = some v→v=.ref (bs.getD i 0))(hTK:∀ i,i < ks.length→TK prog w s.heap (ks.getD i []) (bs.getD i 0))(hz:ks.length + 1≤1000)
    (h:∀ (h':Heap) (tk:Nat),fQ prog w (uL w) s.heap.objs.size (ddr ks) h'→(∀ b o,s.heap.get? b=some o→h'.get? b=some o)→Q (.ref s.heap.objs.size) { s with heap:=h',toks:=tk }) :
    wpAny (model prog w) A (call (.type "set") [.ref l]) Q E s:=by
  obtain⟨c,tl,hmro⟩:=F.called_set.mro
  have hmade:=F.called_set.made
  have hsub:=F.called_set.sub
  refine wpAny_call (codeAny_of_tree ?_)
  show wpAny _ _ (callAny (.type "set") _) _ _ _
  refine wpAny_pure ⟨Code.quiet_builtin _ (by decide +kernel),codeAny_builtin F.entry_type_call ?_⟩
  rw [Around.under_plain (weight_type_call_type "set" [.ref l] []) rfl]
  have h1:=F.called_set.notType
  have h2:=F.called_set.canCreate
  have hct:=F.typeCall_set_1 (.ref l)
  repeat (any_goals (first|assumption|wp_step))
  refine codeAny_mono (DO (.ref l) (E:=E) (Q:=fun v s₁ => v=.ref s.heap.objs.size∧s₁ = { s with heap:=s.heap.push (cZ w) }) ⟨rfl,rfl⟩) fun r s₁ hr => ?_
  cases r with
  | error e=>exact hr
  | ok fl =>
    cases fl with
    | ret obj =>
      obtain⟨rfl,rfl⟩:=hr
      have hS:(s.heap.push (cZ w)).get? s.heap.objs.size=some (cZ w):=ZJ _ rfl
      have hT:Shared.TypeIs { s with heap:=s.heap.push (cZ w) } (.ref s.heap.objs.size) "set" := ⟨_,hS,rfl⟩
      have hli:=F.called_set.init.lookup
      have hbi:=F.called_set.init.bind (.ref s.heap.objs.size)
      repeat (any_goals (first|assumption|wp_step))
      refine codeAny_mono (codeAny_call_builtin (R:=wants (fun r s₂ => r=.none ∧ ∃ h' tk,s₂ = { s with heap:=h',toks:=tk } ∧ fQ prog w (uL w) s.heap.objs.size (ddr ks) h'∧(∀ b o,s.heap.get? b=some o→h'.get? b=some o)) E) F.called_set.init.plain F.entry_set_init (check_set_init_1 hT ?_)) fun r₂ s₂ hr₂ => ?_
      · obtain⟨ol,hol,hcl,nl,hdl⟩:=hl
        obtain⟨ocls,odict,odata,oslots⟩:=ol
        simp only at hcl hdl
        subst hcl;subst hdl
        have ho1:(s.heap.push (cZ w)).get? l=some { cls:=.type "list",dict:=odict,data:=.seq items nl,slots:=oslots }:=ZH _ hol
        have hsls:=F.sub_list_set
        have hslf:=F.sub_list_frozenset
        have hne:(Value.type "list" == Value.type "dict")=false:=by decide
        have hl1:(s.heap.push (cZ w)).IsList l items:=⟨_,ho1,rfl,nl,rfl⟩
        unfold Builtin.«set.__init__» noKeywords Builtin.Frozenset.updateFrom
        generalize hPI:pyIter=PI
        wp_walk
        subst hPI
        refine wpAny_pyIter_list hl1 ?_
        refine wpAny_bind (wpAny_runValue ?_)
        have lt:l < s.heap.objs.size:=ZI hol
        have hh3:A.in1.in1.in1.handled=none:=by simp [hh]
        have nI:l≠(s.heap.push (cZ w)).objs.size:=by rw [Heap.size_push];exact ZN (Nat.lt_succ_of_lt lt)
        have nS:s.heap.objs.size∉[(s.heap.push (cZ w)).objs.size,l]:=by
          rw [Heap.size_push]
          simp only [List.mem_cons,List.not_mem_nil,or_false,not_or]
          exact⟨ZN (Nat.lt_succ_self _),Nat.ne_of_gt lt⟩
        have W:=(Walks.list (prog:=prog) (w:=w) hh3 (s.heap.push (cZ w)).objs.size l nI items).toS
        rw [hlen] at W
        refine y6 (led:=uL w) ks bs W s.heap.objs.size nS (by simp only [Around.in1_units];omega) (fun i v _ hv=>hval i v hv) hz (fun i s1 st b hb o e => ?_) (ks.length - 0) 0 _ rfl (Nat.zero_le _) ⟨⟨_,ZJ _ rfl,rfl,rfl⟩,hl1.push _⟩ ((BA _ rfl).kept fun b o _ q=>ZH _ q) (fun i hi=>TK.kept (hTK i hi) fun o q=>ZH _ (ZH _ q)) fun s' hm hS' => ?_
        · rw [List.mem_singleton.mp hb] at e
          obtain⟨⟨o1,q1,q2,_⟩,_⟩:=st
          rw [e] at q1;cases q1
          rw [q2];decide
        obtain⟨h',g',d',tk',os'⟩:=s'
        have eg:g'=s.gens:=hm.gens
        have ed:d'=s.drawn:=hm.drawn
        have eo:os'=s.os:=hm.os
        subst eg;subst ed;subst eo
        show wpAny _ _ _ _ _ _
        refine wpAny_pure ?_
        show wpAny _ _ (ret Value.none) _ _ _
        refine wpAny_pure ⟨rfl,h',tk',rfl,hS',fun b o e => ?_⟩
        have hlt:=ZI e
        exact hm.heap b o (by rw [Heap.size_push];simp only [List.mem_cons,List.not_mem_nil,or_false,not_or];exact⟨ZN hlt,ZN (Nat.lt_succ_of_lt hlt)⟩) (ZH _ (ZH _ e))
      · cases r₂ with
        | error e=>exact hr₂
        | ok fl₂ =>
          cases fl₂ with
          | ret r =>
            obtain⟨rfl,h',tk,rfl,hS',hk'⟩:=hr₂
            repeat (any_goals (first|assumption|wp_step))
            exact h _ _ hS' hk'
          | _=>exact hr₂.elim
    | _=>exact hr.elim
end
end Sb
namespace Fm
open PySem PySem.Spec L2
section
variable {X:Cx}
theorem uM:∀ r:List Int,n5 (r.map D.int)=0
  | []=>rfl
  | x :: r=>by rw [List.map_cons,n5,uM r];rfl
theorem uN:∀ {a b:List Int},a.length=b.length→ia (a.map D.int) (b.map D.int)=some (decide (a=b))
  | [],[],_=>rfl
  | [],_ :: _,h=>by cases h
  | _ :: _,[],h=>by cases h
  | x :: a,y :: b,h=>by
    have ih:=uN (a:=a) (b:=b) (Nat.succ.inj h)
    simp only [List.map_cons,ia,ih,peq]
    by_cases e:x=y
    · subst e;by_cases e2:a=b<;>simp [e2]
    · simp [e]
theorem sR {K:ZX}{ρ:List Addr}{H:Hp}:∀ r:List Int,RDs K ρ H (r.map D.int) (r.map V.int)
  | []=>rfl
  | x :: r=>⟨_,_,rfl,rfl,sR r⟩
end
end Fm
namespace Fm
open PySem PySem.Spec L2
section
variable {X:Cx}
def Go (K:ZX) (neg:Bool):R2:=fun x y H Q=>∃ (l q:Addr) (ws:List V) (rs:List (List Int)) (r:List Int),y=.ref l∧x=.ref q∧SqL K H l ws∧cD H ws rs∧H q=some (.tup (r.map V.int))∧(∀ z∈rs,z.length=r.length)∧Q (.bl (if neg then !decide (r∈rs) else decide (r∈rs))) H
theorem DP (hu:X.A.units + 24 < cLine){pins:List (Addr × Obj)}{σ:St}{H:Hp}{s:Shared}{l q:Addr}{ws:List V}{rs:List (List Int)}{r:List Int}(I:Inv X pins σ H s)(sq:SqL X.K H l ws)(hr:cD H ws rs)(hq:H q=some (.tup (r.map V.int)))(hlen:∀ z∈rs,z.length=r.length) :
    ∃ (its:List Value) (ef:Value→Bool),s.heap.IsList l its.toArray∧(∀ y,y∈its.toArray→SeqAt.EqAt X.A.in1 s y (.ref q) (ef y))∧its.toArray.any ef=decide (r∈rs):=by
  obtain⟨its,rel,pl,_⟩:=I.list sq
  have lw:ws.length=rs.length:=hr.length
  have li:its.length=rs.length:=by rw [← lw];exact rel.length.symm
  have at':∀ (i:Nat) (hi:i < its.length),∃ a,its[i]=.ref a∧H a=some (.tup ((rs.getD i []).map V.int)):=fun i hi=>by
    have hi2:i < ws.length:=by omega
    obtain⟨a,ea,ha⟩:=hr.get (i:=i) (v:=ws[i]) (by simp [hi2])
    obtain⟨w,hw,rw'⟩:=rel.get (i:=i) (x:=ws[i]) (by simp [hi2])
    rw [ea] at rw'
    rw [ZE hi] at hw
    exact⟨a,by rw [ZT hw];exact rw',ha⟩
  have gd:∀ i,i < rs.length→rs.getD i []∈rs:=fun i hi=>by rw [ZF,ZE hi];exact List.getElem_mem hi
  have inj:∀ {a b:List Int},a.map V.int=b.map V.int→a=b:=fun {a b} h=>by
    have:=congrArg (List.map fun v=>match v with|V.int i=>i|_=>0) h
    rw [List.map_map,List.map_map] at this
    exact (List.map_id' a).symm.trans (this.trans (List.map_id' b))
  classical
  refine⟨its,fun y=>decide (∃ p,y=Value.ref p∧H p=some (.tup (r.map V.int))),pl.isList,?_,?_⟩
  · intro y hy
    obtain⟨i,hi,rfl⟩:=List.getElem_of_mem (by simpa using hy:y∈its)
    obtain⟨a,ea,ha⟩:=at' i hi
    have ev:decide (∃ p,its[i] = Value.ref p∧H p=some (.tup (r.map V.int)))=decide (rs.getD i [] = r):=by
      congr 1
      apply propext
      constructor
      · rintro⟨p,ep,hp⟩
        rw [ea] at ep
        cases ep
        rw [ha] at hp
        injection hp with hp
        injection hp with hp
        exact inj hp
      · intro z
        exact⟨a,ea,by rw [ha,z]⟩
    show SeqAt.EqAt X.A.in1 s its[i] (.ref q) (decide (∃ p,its[i] = Value.ref p∧H p=some (.tup (r.map V.int))))
    rw [ev,ea]
    have pe:peq (fP (rs.getD i [])) (fP r)=some (decide (rs.getD i [] = r)):=by
      have hl':=hlen _ (gd i (by omega))
      simp only [fP,peq,uN hl',Option.map_some,ZA,hl']
      simp
    exact AK (K:=X.K) (ρ:=[]) I.hok (d:=fP (rs.getD i [])) (k:=fP r) ⟨a,_,rfl,ha,sR _⟩ ⟨q,_,rfl,hq,sR _⟩ rfl rfl pe (by
      have:dep (fP (rs.getD i []))=1:=by show dep (.tup _)=1;rw [dep,uM]
      rw [this]
      show X.A.in1.units + 1 < cLine
      have:X.A.in1.units≤X.A.units + 1:=by first|exact ZL _|decide
      omega)
  · apply Bool.eq_iff_iff.mpr
    rw [Array.any_eq_true',decide_eq_true_eq]
    constructor
    · rintro⟨y,hy,e⟩
      obtain⟨i,hi,rfl⟩:=List.getElem_of_mem (by simpa using hy:y∈its)
      obtain⟨a,ea,ha⟩:=at' i hi
      obtain⟨p,ep,hp⟩:=of_decide_eq_true e
      rw [ea] at ep
      cases ep
      rw [ha] at hp
      injection hp with hp
      injection hp with hp
      rw [← inj hp]
      exact gd i (by omega)
    · intro hm
      obtain⟨i,hi,e⟩:=List.getElem_of_mem hm
      have hi':i < its.length:=by omega
      obtain⟨a,ea,ha⟩:=at' i hi'
      refine⟨its[i],by simp,decide_eq_true ⟨a,ea,?_⟩⟩
      rw [ha,ZF,ZE hi,e];rfl
theorem mE (hu:X.A.units + 24 < cLine):OpR X (compareOp .NotIn) (Go X.K true):=by
  intro pins s σ H x y v u Q I rx ry h
  obtain⟨l,q,ws,rs,r,rfl,rfl,sq,hr,hq,hlen,hQ⟩:=h
  cases rx
  cases ry
  obtain⟨its,ef,hl,he,ha⟩:=DP hu I sq hr hq hlen
  refine SeqAt.notIn_listAt ef hl he ?_
  rw [ha]
  exact vQ I hQ rfl
theorem BB {K:ZX}{neg:Bool}{ρ:List Addr}{H:Hp}{σd:Sd}{hd:Hd}{σ:St}{d k:D}{v w:V}{Q:VK}{b:Bool}(rs:RS K ρ H σd hd σ)(rv:RD K ρ H d v)(rw':RD K ρ H k w)(e:inR hd d k=some b)
    (q:Q (.bl (if neg then !b else b)) H):Go K neg v w H Q:=by
  unfold inR at e
  cases c:fg hd k with
  | none=>rw [c] at e;cases e
  | some l =>
    rw [c] at e
    simp only at e
    cases ci:kG l with
    | none=>rw [ci] at e;cases e
    | some R =>
      rw [ci] at e
      simp only at e
      split at e
      · rename_i r ck
        split at e
        · rename_i hz
          cases e
          obtain⟨p,vs,rfl,sq,rvs⟩:=lC rs.hp rw' c
          have hk:=lF (K:=K) (ρ := ρ) (H:=H) (l:=[d]) (vs:=[v]) ⟨v,[],rfl,rv,rfl⟩ ck
          obtain⟨q',rfl,hq⟩:=hk.get (i:=0) (v:=v) rfl
          exact⟨p,q',vs,R,r,rfl,rfl,sq,lF rvs ci,hq,hz,q⟩
        · cases e
      · cases e
theorem mF {K:ZX}:Og K iR (Go K true):=by
  intro ρ H σd hd σ d k v w Q rs rv rw' p
  unfold iR at p
  cases e:inR hd d k with
  | none=>rw [e] at p;exact p.elim
  | some b=>rw [e] at p;exact BB rs rv rw' e (p.here rs (by simp only [rD,RD];rfl))
end
end Fm
namespace Fm
open PySem PySem.Spec L2 PySem.W PyProof.Rows
section
variable {X:Cx} {pos p pos2 p2:Pos}
def adr:Value→Addr
  | .ref b=>b
  | _=>0
theorem uO {prog:Program}{w:World}:∀ {ns:List Int} {its:List Value},aS (ns.map V.int) its→ItemsAre (intKind prog w) ns its
  | [],_,.nil=>.nil
  | n :: ns,_,.cons r t=>by
    obtain⟨tk,rfl⟩:=sI r
    exact .cons (show Value.isInt n (Value.int n tk)=true by simp [Value.isInt]) (uO t)
def BC (q:Addr) (n:Nat) (h:Heap):Prop:=∃ es ep t,h.get? q=some { cls:=.type "set",dict:=none,data:=.set es ep t } ∧ es.size=n∧t.fits es.size=true
def HQ (X:Cx):List V→Hp→VK→Prop:=fun xs H Q=>∃ (a:Addr) (vs:List V) (rs:List (List Int)),xs=[.ref a]∧SqL X.K H a vs∧cD H vs rs∧rs.length < 1000 ∧ ∀ q,H q=none→Q (.ref q) (upd H q (.ext (BC q (ddr rs).length)))
theorem uP (hc:X.calm=true) (hu:X.A.units + 24 < cLine):fX X (.type "set") (HQ X):=by
  intro pins s σ H xs us Q I r h
  obtain⟨a,vs,rs,rfl,sq,hr,hz,q⟩:=h
  obtain⟨u,rfl,ru⟩:=aS.one r
  cases (show u=Value.ref a from ru)
  obtain⟨its,rvs,pl,_⟩:=I.list sq
  have lw:vs.length=rs.length:=hr.length
  have li:its.length=rs.length:=by rw [← lw];exact rvs.length.symm
  have at':∀ (i:Nat) (hi:i < its.length),∃ a,its[i]=.ref a∧H a=some (.tup ((rs.getD i []).map V.int)):=fun i hi=>by
    have hi2:i < vs.length:=by omega
    obtain⟨a,ea,ha⟩:=hr.get (i:=i) (v:=vs[i]) (by simp [hi2])
    obtain⟨w,hw,rw'⟩:=rvs.get (i:=i) (x:=vs[i]) (by simp [hi2])
    rw [ea] at rw'
    rw [ZE hi] at hw
    exact⟨a,by rw [ZT hw];exact rw',ha⟩
  have gb:∀ (i:Nat) (hi:i < its.length),(its.map adr).getD i 0=adr its[i]:=fun i hi=>by
    rw [ZF,ZQ,ZE hi];rfl
  refine Sb.set_of_listT (ks:=rs) (bs:=its.map adr) (I.ok.hd hc) hu pl.isList (by simpa using li) (fun i v hv => ?_) (fun i hi => ?_) (by omega) fun h' tk st k => ?_
  · have hv:its[i]? = some v:=by simpa using hv
    have hi:=(List.getElem?_eq_some_iff.mp hv).1
    obtain⟨b,eb,_⟩:=at' i hi
    rw [ZE hi] at hv
    rw [gb i hi,eb,← ZT hv,eb];rfl
  · have hi':i < its.length:=by omega
    obtain⟨b,eb,hb⟩:=at' i hi'
    rw [gb i hi',eb]
    obtain⟨z,its0,r0,o,ho,hc,n,hd⟩:=I.hok b _ hb
    exact⟨o,_,n,ho,hc,hd,by simpa using uO r0⟩
  · have sz:BC s.heap.objs.size (ddr rs).length h':=by
      obtain⟨es,ep,t,ms,ho,O,_,_,hK,pm⟩:=st
      exact⟨es,ep,t,ho,by rw [← Array.length_toList,hK.len,pm.length_eq],O.fits⟩
    exact⟨.ref s.heap.objs.size,_,I.laid (t':=tk) (o:=.ext (BC s.heap.objs.size (ddr rs).length)) k (ZL _) ⟨sz,by obtain⟨es,ep,t,e,_⟩:=sz;exact⟨_,e⟩,fun h1 h2 f k=>by obtain⟨es,ep,t,e,f1,f2⟩:=f;exact⟨es,ep,t,k _ e,f1,f2⟩⟩,rfl,q _ (I.hok.fresh (ZL _))⟩
def HR (X:Cx):List V→Hp→VK→Prop:=fun xs H Q=>∃ (a:Addr) (n:Nat),xs=[.ref a]∧H a=some (.ext (BC a n))∧n < 1000∧Q (.int n) H
theorem y7:fX X (.builtin "len") (HR X):=by
  intro pins s σ H xs us Q I r h
  obtain⟨a,n,rfl,ha,hn,q⟩:=h
  obtain⟨u,rfl,ru⟩:=aS.one r
  cases (show u=Value.ref a from ru)
  obtain⟨es,ep,t,ho,hs,hf⟩:=(I.hok a _ ha).1
  subst hs
  exact call_len_set ho ⟨rfl,rfl,rfl⟩ rfl hf (by omega) ⟨.int es.size,H,I.tok _,⟨s.toks + 1,rfl⟩,q⟩
theorem y8 {a:Expr} {fa:EF} (hc:X.calm=true) (hu:X.A.units + 24 < cLine) (hg:Gl X "len") (hm:X.mg "len" = none) (hg2:Gl X "set") (hm2:X.mg "set" = none) (ha:ME X a fa)
    (hs:starEach [.Call (.Name "set" p2) [a] [] pos2] X.env=(false,eval (.Call (.Name "set" p2) [a] [] pos2) X.env) :: starEach [] X.env:=by rfl)
    (hs2:starEach [a] X.env=(false,eval a X.env) :: starEach [] X.env:=by rfl) :
    ME X (.Call (.Name "len" p) [.Call (.Name "set" p2) [a] [] pos2] [] pos) (lH fa):=by
  refine PE.imp (iu y7 hg hm (by decide +kernel) (cu (mw (uP hc hu) hg2 hm2 (by decide +kernel) (cu ha eu hs2) (he:=hs2)) eu hs) (he:=hs)) fun σ H Q ⟨ρ,σd,hd,rs,pp⟩=>⟨ρ,σd,hd,rs,?_⟩
  unfold lH at pp
  cases e:fa σd hd with
  | exc x h'=>rw [e] at pp;exact pp
  | bad=>rw [e] at pp;exact pp
  | ok d hd1 =>
    rw [e] at pp
    simp only [aG] at pp
    intro v H1 ρ1 e1 rs1 rv
    cases c:fg hd1 d with
    | none=>rw [c] at pp;exact pp.elim
    | some l =>
      rw [c] at pp
      simp only at pp
      cases c2:kG l with
      | none=>rw [c2] at pp;exact pp.elim
      | some r =>
        rw [c2] at pp
        simp only at pp
        split at pp
        · rename_i hz
          obtain⟨q,vs,rfl,sq,rvs⟩:=lC rs1.hp rv c
          have hr:=lF rvs c2
          have lr:r.length < 1000:=by rw [← hr.length,← rvs.length];exact hz
          refine⟨q,vs,r,rfl,sq,hr,lr,fun q1 hq1 => ?_⟩
          have sm:=cj (o:=HO.ext (BC q1 (ddr r).length)) hq1
          exact⟨q1,_,rfl,aT,ZS (xS r) lr,pp.at (e1.trans (Ext.same sm)) (rs1.same sm) (by simp only [rD,RD])⟩
        · exact pp.elim
end
end Fm
namespace Fm
open PySem PySem.Spec L2 PySem.W PyProof.Rows
section
variable {X:Cx} {pos p:Pos}
end
end Fm
namespace Fm
noncomputable section
open Classical
end
end Fm
namespace Fm
open PySem PySem.Spec L2
open PyProof.Rows (Call_)
section
variable {prog:Program} {w:World} {A:Around} {E:Value→Shared→Prop} {s:Shared}
end
section
variable {La Lb:Bool} {prog:Program} {w:World} {A:Around} {E:Value→Shared→Prop} {s:Shared} {z TI TO i1 i2 l1 l2:Addr} {k:Nat} {xs ys:Array Value} {a b:Value}
end
section
variable {La Lb:Bool} {prog:Program} {w:World} {A:Around} {E:Value→Shared→Prop} {s:Shared}
end
section
variable {X:Cx} {pos p tp:Pos} {elts:List Expr} {tk:Nat}
end
section
variable {X:Cx} {pos:Pos} {tg:Expr}
end
end Fm
namespace Fm
theorem y9 {h h':Hd}{d:D}(e:h'.length≤h.length):letGo h (.ok d h')=.ok d h':=by
  simp only [letGo];split
  · rw [List.take_of_length_le e]
  · rfl
@[simp] theorem bj {h:Hd} {d:D}:letGo h (.ok d h)=.ok d h:=y9 (ZL _)
theorem rM {h h':Hd}{d:D}(e:pure? d=false):letGo h (.ok d h')=.ok d h':=by
  simp [letGo,e]
@[simp] theorem cA {h h':Hd} {n:Nat}:letGo h (.ok (.ref n) h')=.ok (.ref n) h':=rM rfl
theorem cO {h g:Hd}{d:D}(e:pure? d=true):letGo h (.ok d (h++g))=.ok d h:=by
  have:AD h (h++g):=fun n c hn hc=>.inl (by rwa [ZC hn] at hc)
  simp [letGo,e,this]
structure Web where
  ties:List (List (Nat × Int))
  bars:List Int
  stays:List (Option Int)
def bN:Option Int→D
  | none=>.non
  | some i=>.int i
def kO (p:Nat × Int):D:=.tup [.int p.1,.int p.2]
def n9 (r:List (Nat × Int)):D:=.tup (r.map kO)
def af (l:List Int):D:=.tup (l.map .int)
def Web.enc (w:Web):D:=.tup [.tup (w.ties.map n9),.tup (w.bars.map .int),.tup (w.stays.map bN)]
structure Web.Ok (w:Web) (n:Nat):Prop where
  t:w.ties.length=n
  b:w.bars.length=n
  s:w.stays.length=n
  lt:∀ r∈w.ties,∀ p∈r,p.1 < n
  sz:n≤1000
structure ce (w:Web) (n:Nat) (s:List Int):Prop where
  len:s.length=n
  op:∀ x∈s,x=0∨x=1
  st:∀ (i:Nat) (x:Int),w.stays[i]? = some (some x)→s[i]? = some x
theorem fJ {l:List D}{i:Nat}{d:D}(e:l[i]? = some d):atI l (i:Int)=some d:=by
  have:=(List.getElem?_eq_some_iff.mp e).1
  simp [atI,ixN,this]
  simpa [ZE this] using e
theorem bD {g:Option Nat}{all:List D}{tg:GF}{cs:List TF}{e:EF}{h:Hd}(I:Sd→Prop)(p:D→Bool)(f:D→D)(hh:ib g all h) :
    ∀ {xs:List D} {σ:Sd},(∀ x∈xs,∀ σ,I σ → ∃ σ',tg x σ = some σ'∧I σ'∧jm cs σ' h=.ok (p x) h∧(p x=true→e σ' h=.ok (f x) h))→I σ →
      cx g all tg cs e xs σ h=.ok ((xs.filter p).map f) h
  | [],_,_,_=>by simp [cx,hh]
  | x :: xs,σ,st,i=>by
    obtain⟨σ',h1,h2,h3,h4⟩:=st x (by simp) σ i
    have ih:=bD I p f hh (xs:=xs) (σ := σ') (fun y hy=>st y (by simp [hy])) h2
    cases hp:p x with
    | true=>simp [cx,hh,h1,h3,hp,h4 hp,ih]
    | false=>simp [cx,hh,h1,h3,hp,ih]
theorem mG {g:Option Nat}{all:List D}{tg:GF}{b:SF}{rest:List D}(P:Nat→Sd→Hd→Prop)(hh:∀ i σ h,P i σ h→ib g all h) :
    ∀ {xs:List D} {k:Nat} {σ:Sd} {h:Hd},(∀ (i:Nat) x σ h,xs[i]? = some x→P (k + i) σ h → ∃ σ',tg x σ = some σ' ∧ ∃ σ'' h'',b σ' h=.nx σ'' h''∧P (k + i + 1) σ'' h'')→P k σ h →
      ∃ σ' h',fq g all tg b (xs++rest) σ h=fq g all tg b rest σ' h'∧P (k + xs.length) σ' h'
  | [],k,σ,h,_,p=>⟨σ,h,rfl,by simpa using p⟩
  | x :: xs,k,σ,h,st,p=>by
    obtain⟨σ',h1,σ2,h2,h3,h4⟩:=st 0 x σ h (by simp) (by simpa using p)
    have st':∀ (i:Nat) y σ h,xs[i]? = some y→P (k + 1 + i) σ h → ∃ σ',tg y σ = some σ' ∧ ∃ σ'' h'',b σ' h=.nx σ'' h''∧P (k + 1 + i + 1) σ'' h'':=fun i y σ h e q=>by
      have e1:k + 1 + i=k + (i + 1):=by omega
      rw [e1] at q ⊢
      exact st (i + 1) y σ h (by simpa using e) q
    obtain⟨σ3,h5,h6,h7⟩:=mG P hh st' (by simpa using h4)
    refine⟨σ3,h5,?_,?_⟩
    · rw [← h6,List.cons_append,fq,if_pos (hh _ _ _ p),h1]
      simp only [h3]
    · have e1:k + (x :: xs).length=k + 1 + xs.length:=by simp;omega
      rw [e1];exact h7
theorem bE {g:Option Nat}{all:List D}{tg:GF}{b:SF}(P:Nat→Sd→Hd→Prop)(hh:∀ i σ h,P i σ h→ib g all h)
    {xs:List D} {k:Nat} {σ:Sd} {h:Hd} (st:∀ (i:Nat) x σ h,xs[i]? = some x→P (k + i) σ h → ∃ σ',tg x σ = some σ' ∧ ∃ σ'' h'',b σ' h=.nx σ'' h''∧P (k + i + 1) σ'' h'') (p:P k σ h) :
      ∃ σ' h',fq g all tg b xs σ h=.nx σ' h'∧P (k + xs.length) σ' h':=by
  obtain⟨σ',h',q,z⟩:=mG (rest:=[]) P hh st p
  rw [List.append_nil] at q
  exact⟨σ',h',q.trans (by unfold fq;exact if_pos (hh _ _ _ z)),z⟩
theorem kP {g:Option Nat}{all:List D}{tg:GF}{e:EF}(P:Nat→Sd→Hd→Prop)(V:Nat→D→Prop)(hh:∀ i σ h,P i σ h→ib g all h) :
    ∀ {xs:List D} {k:Nat} {σ:Sd} {h:Hd},(∀ (i:Nat) x σ h,xs[i]? = some x→P (k + i) σ h → ∃ σ',tg x σ = some σ' ∧ ∃ d h'',e σ' h=.ok d h''∧V (k + i) d∧P (k + i + 1) σ' h'')→P k σ h →
      ∃ ds h',cx g all tg [] e xs σ h=.ok ds h'∧ds.length=xs.length∧(∀ (i:Nat) d,ds[i]? = some d→V (k + i) d) ∧ ∃ σ',P (k + xs.length) σ' h'
  | [],k,σ,h,_,p=>⟨[],h,by simp [cx,hh _ _ _ p],rfl,by simp,σ,by simpa using p⟩
  | x :: xs,k,σ,h,st,p=>by
    obtain⟨σ',h1,d,h2,h3,hv,h4⟩:=st 0 x σ h (by simp) (by simpa using p)
    have st':∀ (i:Nat) y σ h,xs[i]? = some y→P (k + 1 + i) σ h → ∃ σ',tg y σ = some σ' ∧ ∃ d h'',e σ' h=.ok d h''∧V (k + 1 + i) d∧P (k + 1 + i + 1) σ' h'':=fun i y σ h e q=>by
      have e1:k + 1 + i=k + (i + 1):=by omega
      rw [e1] at q ⊢
      exact st (i + 1) y σ h (by simpa using e) q
    obtain⟨ds,h5,h6,hl,hvs,σ3,h7⟩:=kP P V hh st' (by simpa using h4)
    refine⟨d :: ds,h5,?_,by simp [hl],fun i d' hd => ?_,σ3,?_⟩
    · simp [cx,hh _ _ _ p,h1,jm,h3,h6]
    · cases i with
      | zero=>simp at hd;subst hd;simpa using hv
      | succ i =>
        have:=hvs i d' (by simpa using hd)
        rwa [show k + 1 + i=k + (i + 1) by omega] at this
    · have e1:k + (x :: xs).length=k + 1 + xs.length:=by simp;omega
      rw [e1];exact h7
theorem pK {α : Type}{n:Nat}{ds:List α}{f:Nat → α}(hl:ds.length=n)(h:∀ (i:Nat) d,ds[i]? = some d→d=f i):ds=(List.range n).map f:=by
  apply List.ext_getElem?
  intro i
  by_cases hi:i < n
  · have:ds[i]? = some (ds[i]'(by omega)):=by simp [hl,hi]
    rw [this,h i _ this]
    simp [hi]
  · simp [hi,hl]
theorem hU {t:TF}{b:SF}:∀ {n:Nat} {σ:Sd} {h:Hd} {r:Out},ez t b n σ h=r→r ≠ .bad → ∀ {m:Nat},n≤m→ez t b m σ h=r
  | 0,σ,h,r,e,hr,m,_=>by simp only [ez] at e;exact absurd e.symm hr
  | n + 1,σ,h,r,e,hr,m,hm=>by
    cases m with
    | zero=>omega
    | succ m =>
      simp only [ez] at e ⊢
      cases c:t σ h with
      | bad=>rw [c] at e;exact e
      | exc x h1=>rw [c] at e;exact e
      | ok cb h1 =>
        rw [c] at e
        cases cb with
        | false=>exact e
        | true =>
          simp only at e ⊢
          cases c2:b σ h1 with
          | nx σ2 h2=>rw [c2] at e;exact hU e hr (by omega)
          | ct σ2 h2=>rw [c2] at e;exact hU e hr (by omega)
          | bk σ2 h2=>rw [c2] at e;exact e
          | rt d h2=>rw [c2] at e;exact e
          | exc x σ2 h2=>rw [c2] at e;exact e
          | bad=>rw [c2] at e;exact e
theorem za {t:TF}{b:SF}{n:Nat}{σ:Sd}{h:Hd}{r:Out}(e:ez t b n σ h=r)(hr:r ≠ .bad):oZ t b σ h=r:=by
  have ex:∃ n,ez t b n σ h ≠ .bad:=⟨n,by rw [e];exact hr⟩
  have hf:cR t b σ h=Classical.choose ex:=by simp [cR,ex]
  have h2:=Classical.choose_spec ex
  unfold oZ
  rw [hf]
  by_cases hle:n≤Classical.choose ex
  · exact hU e hr hle
  · have:=hU (n:=Classical.choose ex) rfl h2 (m:=n) (by omega)
    rw [← this,e]
end Fm
namespace Fm
theorem av {F:Fn}{r:LF}{σ:Sd}{h h1 h':Hd}{ds:List D}{d:D}(a:r σ h=.ok ds h1)(b:F ds h1=.ok d h'):am F r σ h=.ok d h':=by
  show Res.bind _ _=_;rw [a];exact b
theorem aj {a:EF}{r:LF}{σ:Sd}{h h1 h2:Hd}{d:D}{ds:List D}(p:a σ h=.ok d h1)(q:r σ h1=.ok ds h2):ad a r σ h=.ok (d :: ds) h2:=by
  show Res.bind _ _=_;rw [p,aG,q];rfl
theorem aq {g:O2}{a b:EF}{σ:Sd}{h h1 h2 h3:Hd}{x y z:D}(p:a σ h=.ok x h1)(q:b σ h1=.ok y h2)(r:g x y h2=.ok z h3):ah g a b σ h=.ok z h3:=by
  show Res.bind _ _=_;rw [p,aG,q];exact r
theorem iS {r:LF}{σ:Sd}{h h':Hd}{xs:List D}(p:r σ h=.ok xs h')(q:xs.length≤SZ:=by exact of_decide_eq_true rfl):fL r σ h=.ok (.tup xs) h':=by
  show Res.bind _ _=_;rw [p];exact if_pos q
theorem eM {r:LF}{σ:Sd}{h h':Hd}{xs:List D}(p:r σ h=.ok xs h')(q:xs.length≤SZ:=by exact of_decide_eq_true rfl):bL r σ h=.ok (.ref h'.length) (h'++[.lst xs]):=by
  show Res.bind _ _=_;rw [p];exact if_pos q
theorem BD {a:LF}{b:EF}{σ:Sd}{h h1 h2:Hd}{l:List D}{i:Int}{d:D}(p:a σ h=.ok l h1)(q:b σ h1=.ok (.int i) h2)(r:atI l i=some d):fIx a b σ h=.ok d h2:=by
  show Res.bind _ _=_;rw [p,aG,q];simp only [aG,r]
theorem aP {a b:EF}{σ:Sd}{h h1 h2:Hd}{x:D}{l:List D}{i:Int}{d:D}(p:a σ h=.ok x h1)(q:b σ h1=.ok (.int i) h2)(s:kx h2 x=some l)(r:atI l i=some d):fAt a b σ h=.ok d h2:=by
  show ah _ _ _ _ _=_;exact aq p q (by simp only [oAt,s,r])
theorem aJ {h:Hd}{n:Nat}{l:List D}(p:h[n]? = some (.lst l)):kx h (.ref n)=some l:=by simp only [kx,p]
theorem aH {i:Nat}{e:EF}{σ:Sd}{h h':Hd}{d:D}(p:e σ h=.ok d h'):aD (gN i) e σ h=.nx (σ.set i (some d)) h':=by
  show outE _ _ _=_;rw [p];rfl
theorem bh {e:EF}{σ:Sd}{h h':Hd}{d:D}(p:e σ h=.ok d h'):bc e σ h=.rt d h':=by
  show outE _ _ _=_;rw [p];rfl
theorem gE {e:EF}{σ:Sd}{h h':Hd}{d:D}(p:e σ h=.ok d h'):gX e σ h=.nx σ h':=by
  show outE _ _ _=_;rw [p];rfl
theorem pL {t:TF}{a b:SF}{σ:Sd}{h h1:Hd}(p:t σ h=.ok true h1):sIf t a b σ h=a σ h1:=by
  unfold sIf;rw [p];rfl
theorem d9 {t:TF}{a b:SF}{σ:Sd}{h h1:Hd}(p:t σ h=.ok false h1):sIf t a b σ h=b σ h1:=by
  unfold sIf;rw [p];rfl
theorem bn {a:EF}{σ:Sd}{h h':Hd}{b:Bool}(p:a σ h=.ok (.bl b) h'):tE a σ h=.ok b h':=by
  show asB _=_;rw [p];rfl
theorem fA {t:TF}{σ:Sd}{h h':Hd}{b:Bool}(p:t σ h=.ok b h'):eT t σ h=.ok (!b) h':=by
  show Res.bind _ _=_;rw [p];rfl
theorem pM {t u:TF}{σ:Sd}{h h1 h':Hd}{b:Bool}(p:t σ h=.ok true h1)(q:u σ h1=.ok b h'):kE t u σ h=.ok b h':=by
  show Res.bind _ _=_;rw [p];exact q
theorem xT {t u:TF}{σ:Sd}{h h1:Hd}(p:t σ h=.ok false h1):kE t u σ h=.ok false h1:=by
  show Res.bind _ _=_;rw [p];rfl
theorem jM {t u:TF}{σ:Sd}{h h1 h':Hd}{b:Bool}(p:t σ h=.ok false h1)(q:u σ h1=.ok b h'):tOr t u σ h=.ok b h':=by
  show Res.bind _ _=_;rw [p];exact q
theorem Gp {t u:TF}{σ:Sd}{h h1:Hd}(p:t σ h=.ok true h1):tOr t u σ h=.ok true h1:=by
  show Res.bind _ _=_;rw [p];rfl
theorem xU {i j:Int}{h:Hd}:oEq (.int i) (.int j) h=.ok (.bl (decide (i=j))) h:=rfl
theorem dF {a:LF}{σ:Sd}{h h1:Hd}{l:List D}(p:a σ h=.ok l h1):cz a σ h=.ok (.int l.length) h1:=by
  show Res.bind _ _=_;rw [p];rfl
theorem bU {a:EF}{σ:Sd}{h h1:Hd}{x:D}{l:List D}(p:a σ h=.ok x h1)(s:kx h1 x=some l):lOf a σ h=.ok l h1:=by
  show Res.bind _ _=_;rw [p];simp only [aG,s]
theorem mH {x i e:EF}{σ:Sd}{h h1 h2 h3:Hd}{d:D}{n k:Nat}{j:Int}{l:List D}(p:e σ h=.ok d h1)(q:x σ h1=.ok (.ref n) h2)(r:i σ h2=.ok (.int j) h3)(s:h3[n]? = some (.lst l))(t:ixN l.length j=some k):kH x i e σ h=.nx σ (h3.set n (.lst (l.set k d))):=by
  simp only [kH,p,q,r,outE,s,t]
theorem kQ {x e:EF}{σ:Sd}{h h1 h2:Hd}{d:D}{n:Nat}{l l0:List D}(p:x σ h=.ok (.ref n) h1)(q:h1[n]? = some (.lst l0))(r:e σ h1=.ok d h2)(s:h2[n]? = some (.lst l))(t:l.length < SZ):kr x e σ h=.ok .non (h2.set n (.lst (l++[d]))):=by
  simp only [kr,p,aG,q,r,FH,s,if_pos t]
theorem dG {i j:Int}{h:Hd}(p:0 < j):cL (.int i) (.int j) h=.ok (.int (i % j)) h:=by
  simp only [cL,oIc,decide_eq_true p,if_true]
theorem iT {i j:Int}{h:Hd}(p:0 < j)(q:j < 2 ^ 250):iw (.int i) (.int j) h=.ok (.int (i / j)) h:=by
  simp only [iw,oIc,decide_eq_true p,decide_eq_true q,Bool.and_self,if_true]
theorem sS {i j:Int}{h:Hd}(e:i=j):oEq (.int i) (.int j) h=.ok (.bl true) h:=by rw [xU,decide_eq_true e]
theorem pN {i j:Int}{h:Hd}(e : ¬ i=j):oEq (.int i) (.int j) h=.ok (.bl false) h:=by rw [xU,decide_eq_false e]
theorem Gq {i j:Int}{h:Hd}(e : ¬ i < j):oLt (.int i) (.int j) h=.ok (.bl false) h:=by show Res.ok (D.bl (decide (i < j))) h=_;rw [decide_eq_false e]
theorem Gr {i j:Int}{h:Hd}(e:i < j):oLt (.int i) (.int j) h=.ok (.bl true) h:=by show Res.ok (D.bl (decide (i < j))) h=_;rw [decide_eq_true e]
theorem BE {i j:Int}{h:Hd}(p:(sml i || sml j)=true):bC (.int i) (.int j) h=.ok (.int (i * j)) h:=by
  show (if (sml i || sml j)=true then _ else _)=_
  exact if_pos p
theorem gj {i j:Int}{h:Hd}(p:sml i=true):bC (.int i) (.int j) h=.ok (.int (i * j)) h:=BE (by rw [p];rfl)
theorem DQ {i j:Int}{h:Hd}(p:sml j=true):bC (.int i) (.int j) h=.ok (.int (i * j)) h:=BE (by rw [p,Bool.or_true])
theorem rN {t:TF}{σ:Sd}{h h':Hd}{b:Bool}(p:t σ h=.ok b h'):fT t σ h=.ok (.bl b) h':=by
  show Res.bind _ _=_;rw [p];rfl
theorem oA {r:LF}{σ:Sd}{h0 h g:Hd}{xs:List D}{A:Nat}(hA:A=h0.length)(p:r σ h=.ok xs (h0++g))(q:xs.length≤SZ):bL r σ h=.ok (.ref (A + g.length)) (h0++(g++[.lst xs])):=by
  rw [eM p q,hA,ZB,ZU]
theorem oC {h0 g:Hd}{A:Nat}(hA:A=h0.length)(k:Nat)(c:du):(h0++g).set (A + k) c=h0++g.set k c:=by
  subst hA
  rw [List.set_append_right _ _ (by omega)]
  congr 2;omega
theorem iU {h0 g:Hd}{A:Nat}(hA:A=h0.length)(k:Nat):(h0++g)[A + k]? = g[k]? := by
  subst hA
  rw [ZD (by omega),Nat.add_sub_cancel_left]
theorem dH {h0:Hd}{j:Nat}{c:du}(g:Hd)(e:h0[j]? = some c):(h0++g)[j]? = some c:=(ZC (List.getElem?_eq_some_iff.mp e).1).trans e
theorem cv {a:EF}{σ:Sd}{h h1:Hd}{n:Nat}(p:a σ h=.ok (.int n) h1)(hn:n≤1000):bi a σ h=.ok ((List.range n).map (fun k:Nat=>D.int k),none) h1:=by
  show Res.bind _ _=_
  rw [p]
  exact if_pos ⟨Int.le_trans (by decide) (Int.natCast_nonneg n),Int.le_trans (Int.ofNat_le.mpr hn) (by decide)⟩
theorem c9 {it:IF}{tg:GF}{b:SF}{σ:Sd}{h h1:Hd}{l:List D}{g:Option Nat}{o:Out}(p:it σ h=.ok (l,g) h1)(q:fq g l tg b l σ h1=o):dA it tg b σ h=o:=by
  unfold dA;rw [p];exact q
theorem cM {nl:Nat}{caps:List Nat}{it:IF}{tg:GF}{cs:List TF}{e:EF}{σ:Sd}{h h1 h2:Hd}{l ds:List D}{g:Option Nat}(p:it σ h=.ok (l,g) h1)(q:cx g l tg cs e l (gw nl caps σ) h1=.ok ds h2):bJ nl caps it tg cs e σ h=.ok ds h2:=by
  show Res.bind _ _=_;rw [p];exact q
theorem Gs {la:LF}{b:EF}{σ:Sd}{h h1 h2:Hd}{l:List D}{n:Int}(p:la σ h=.ok l h1)(q:b σ h1=.ok (.int n) h2)(r:0≤n∧n≤1000∧l.length * n.toNat≤1000):pD la b σ h=.ok (List.replicate n.toNat l).flatten h2:=by
  simp only [pD,p,aG,q,if_pos r]
theorem Gu {k:Int}{n:Nat}{h:Hd}{l:List (Int × D)}(p:h[n]? = some (.dct l)):yQ (.int k) (.ref n) h=.ok (.bl (pA l k).isSome) h:=by simp only [yQ,p]
theorem xV {x i e:EF}{σ:Sd}{h h1 h2 h3:Hd}{d:D}{n:Nat}{j:Int}{l:List (Int × D)}(p:e σ h=.ok d h1)(q:x σ h1=.ok (.ref n) h2)(r:i σ h2=.ok (.int j) h3)(s:h3[n]? = some (.dct l))(t:l.length < SZ):pB x i e σ h=.nx σ (h3.set n (.dct (wa l j d))):=by
  simp only [pB,p,q,r,outE,s,if_pos t]
theorem wv {a:EF}{σ:Sd}{h h1:Hd}{n:Nat}{l:List D}(p:a σ h=.ok (.ref n) h1)(q:h1[n]? = some (.lst l)):gv .list a σ h=.ok (.bl true) h1:=by
  simp only [gv,p,aG,yH,q];rfl
theorem dR {a:EF}{σ:Sd}{h h1:Hd}{n:Nat}{l:List D}(p:a σ h=.ok (.ref n) h1)(q:h1[n]? = some (.lst l)):dW a σ h=.ok (l,some n) h1:=by
  simp only [dW,p,aG,q]
theorem Gv {a b:EF}{σ:Sd}{h h1 h2:Hd}{i j:Int}(p:a σ h=.ok (.int i) h1)(q:b σ h1=.ok (.int j) h2):we a b σ h=.ok (.int (if j > i then j else i)) h2:=by
  simp only [we,p,aG,q]
theorem ww {a:LF}{σ:Sd}{h h1:Hd}{l:List D}{is:List Int}(p:a σ h=.ok l h1)(q:en l=some is):oY a σ h=.ok (.int is.sum) h1:=by
  simp only [oY,p,aG,q]
theorem iV {a:LF}{σ:Sd}{h h1:Hd}{l:List D}(p:a σ h=.ok l h1):er a σ h=.ok (.tup l) h1:=by
  show Res.bind _ _=_;rw [p];rfl
theorem BF {i j:Int}{h:Hd}(e:j < i):oGt (.int i) (.int j) h=.ok (.bl true) h:=by show Res.ok (D.bl (decide (j < i))) h=_;rw [decide_eq_true e]
theorem sT {i j:Int}{h:Hd}(e : ¬ j < i):oGt (.int i) (.int j) h=.ok (.bl false) h:=by show Res.ok (D.bl (decide (j < i))) h=_;rw [decide_eq_false e]
theorem dv {h:Hd}{A:Nat}(hA:A=h.length)(c:du):(h++[c])[A]? = some c:=by rw [hA];exact ZG
theorem iW {h:Hd}{A:Nat}(hA:A=h.length)(c d:du):(h++[c]).set A d=h++[d]:=by
  have:=oC (g:=[c]) hA 0 d
  rwa [Nat.add_zero] at this
theorem hV {r:LF}{σ:Sd}{h h':Hd}{xs:List D}{A:Nat}(hA:A=h'.length)(p:r σ h=.ok xs h')(q:xs.length≤SZ):bL r σ h=.ok (.ref A) (h'++[.lst xs]):=by rw [hA];exact eM p q
theorem lI {l:List Int}{i:Nat}(h:i < l.length):atI (l.map D.int) (i:Int)=some (.int (l.getD i 0)):=fJ (by rw [ZQ,ZE h,ZF,ZE h];rfl)
theorem wx {t:TF}{a b:EF}{σ:Sd}{h h1:Hd}(p:t σ h=.ok true h1):fIf t a b σ h=a σ h1:=by
  show Res.bind _ _=_;rw [p];rfl
theorem wy {t:TF}{a b:EF}{σ:Sd}{h h1:Hd}(p:t σ h=.ok false h1):fIf t a b σ h=b σ h1:=by
  show Res.bind _ _=_;rw [p];rfl
theorem bx {a b:SF}{σ σ':Sd}{h h':Hd}(e:a σ h=.nx σ' h'):aA a b σ h=b σ' h':=by simp only [aA,e]
theorem ER {a b:SF}{σ:Sd}{h h':Hd}{d:D}(e:a σ h=.rt d h'):aA a b σ h=.rt d h':=by simp only [aA,e]
theorem cI {np n:Nat}{b:SF}{ds:List D}{σ:Sd}{h h':Hd}{d:D}(hl:ds.length=np)(st:(ds.map some++List.replicate (n - ds.length) none:Sd) = σ)(e:b σ h=.rt d h'):bB np n b ds h=letGo h (.ok d h'):=by
  unfold bB runB;rw [if_pos hl,st,e]
theorem ES {np n:Nat}{b:SF}{ds:List D}{σ σ':Sd}{h h':Hd}(hl:ds.length=np)(st:(ds.map some++List.replicate (n - ds.length) none:Sd) = σ)(e:b σ h=.nx σ' h'):bB np n b ds h=letGo h (.ok .non h'):=by
  unfold bB runB;rw [if_pos hl,st,e]
theorem mI {t:TF}{σ:Sd}{h:Hd}{b:Bool}(p:t σ h=.ok b h):jm [t] σ h=.ok b h:=by
  simp only [jm,p,aG];cases b<;>rfl
theorem pO {a:EF}{σ:Sd}{h h1:Hd}{l:List D}(p:a σ h=.ok (.tup l) h1):dW a σ h=.ok (l,none) h1:=by
  show Res.bind _ _=_;rw [p];rfl
theorem BG {a:LF}{σ:Sd}{h h1:Hd}{l:List D}{bs:List Bool}(p:a σ h=.ok l h1)(q:fY l=some bs):vX a σ h=.ok (.bl (bs.all id)) h1:=by
  simp only [vX,p,aG,q]
theorem wz (a b:Int)(h:Hd):oNe (.int a) (.int b) h=.ok (.bl (!decide (a=b))) h:=rfl
theorem Gw {a b:EF}{σ:Sd}{h h1 h2:Hd}{i j:Int}(p:a σ h=.ok (.int i) h1)(q:b σ h1=.ok (.int j) h2):yT a b σ h=.ok (.int (if j < i then j else i)) h2:=by
  simp only [yT,p,aG,q]
theorem de {a b:EF}{σ:Sd}{h h1 h2:Hd}{d e:D}(p:a σ h=.ok d h1)(q:b σ h1=.ok e h2):ad a (ad b ar) σ h=.ok [d,e] h2:=aj p (aj q rfl)
theorem gY {n m:Nat}(h:n≤30)(q:30≤m:=by decide):n≤m:=ZM h q
end Fm
namespace Fm
noncomputable def cP:Fn:=bB 1 1 (bc (fT (kE (tE (gv .int (aa 0))) (eT (tE (gv .bool (aa 0)))))))
noncomputable def bo:Fn:=bB 3 3 (bc (fT (kE (tE (am cP (ad (aa 0) ar))) (tE (oX oLe oLe (aa 1) (aa 0) (aa 2))))))
noncomputable def bV:Fn:=bB 1 1 (bc (am bo (ad (aa 0) (ad (fC (.int 0)) (ad (fC (.int 1)) ar)))))
noncomputable def bq:Fn:=bB 1 1 (bc (cz (lOf (fAt (aa 0) (fC (.int 0))))))
noncomputable def dg:Fn:=bB 2 2 (bc (fAt (fAt (aa 0) (fC (.int 0))) (aa 1)))
noncomputable def jN:Fn:=bB 2 2 (bc (fAt (fAt (aa 0) (fC (.int 1))) (aa 1)))
noncomputable def fB:Fn:=bB 2 2 (bc (fAt (fAt (aa 0) (fC (.int 2))) (aa 1)))
noncomputable abbrev xW:SF:=(aA (sIf (eT (tE (am bV (ad (aa 3) ar)))) (bc (fC (.bl false))) bw)
    (aA (aD (gN 4) (am fB (ad (aa 0) (ad (aa 2) ar))))
    (sIf (kE (tE (ah fZ (aa 4) (fC .non))) (tE (ah oNe (aa 3) (aa 4)))) (bc (fC (.bl false))) bw)))
noncomputable def sU:Fn:=bB 2 5 (aA (sIf (tOr (eT (tE (gv .tuple (aa 1)))) (tE (ah oNe (cz (lOf (aa 1))) (am bq (ad (aa 0) ar))))) (bc (fC (.bl false))) bw)
    (aA (dA (AC (aa 1)) (gT [2,3]) xW)
    (bc (fC (.bl true)))))
noncomputable def eB:Fn:=bB 2 2 (sIf (eT (tE (am sU (ad (aa 0) (ad (aa 1) ar))))) f6 bw)
noncomputable def iA:Fn:=bB 3 3 (bc (ah bC (fC (.int 2)) (oY (bJ 2 [1] (dW (am dg (ad (aa 0) (ad (aa 2) ar)))) (gT [0,1]) [(tE (ah oEq (fAt (aa 2) (aa 0)) (fC (.int 1))))] (aa 1)))))
theorem lJ (i:Int)(h:Hd):cP [.int i] h=.ok (.bl true) h:=(cI (d:=.bl true) (h':=h) rfl rfl rfl).trans bj
theorem gF (i a b:Int)(h:Hd):bo [.int i,.int a,.int b] h=.ok (.bl (decide (a≤i) && decide (i≤b))) h:=by
  have ch:oX oLe oLe (aa 1) (aa 0) (aa 2) [some (.int i),some (.int a),some (.int b)] h=.ok (.bl (decide (a≤i) && decide (i≤b))) h:=by
    show (match D.bl (decide (a≤i)) with | .bl true=>Res.ok (D.bl (decide (i≤b))) h | .bl false=>.ok (.bl false) h|_=>.bad)=_
    cases decide (a≤i)<;>rfl
  have t:kE (tE (am cP (ad (aa 0) ar))) (tE (oX oLe oLe (aa 1) (aa 0) (aa 2))) [some (.int i),some (.int a),some (.int b)] h=.ok (decide (a≤i) && decide (i≤b)) h:=pM (bn (av (aj rfl rfl) (lJ i h))) (bn ch)
  exact (cI rfl rfl (bh (rN t))).trans bj
theorem gG (i:Int)(h:Hd):bV [.int i] h=.ok (.bl (decide (0≤i) && decide (i≤1))) h:=by
  exact (cI rfl rfl (bh (av (aj rfl (de rfl rfl)) (gF i 0 1 h)))).trans bj
theorem jO (w:Web)(h:Hd):bq [w.enc] h=.ok (.int w.ties.length) h:=by
  have:=(cI (np:=1) (n:=1) (b:=bc (cz (lOf (fAt (aa 0) (fC (.int 0)))))) (ds:=[w.enc]) (h:=h) rfl rfl (bh (dF (bU (aP rfl rfl rfl rfl) rfl)))).trans bj
  rwa [ZA] at this
theorem jP (w:Web)(h:Hd){p:Nat}{r:List (Nat × Int)}(e:w.ties[p]? = some r):dg [w.enc,.int p] h=.ok (n9 r) h:=by
  have q:atI (w.ties.map n9) (p:Int)=some (n9 r):=fJ (by simp [e])
  exact (cI rfl rfl (bh (aP (aP rfl rfl rfl rfl) rfl rfl q))).trans bj
theorem wA (w:Web)(h:Hd){p:Nat}{r:Int}(e:w.bars[p]? = some r):jN [w.enc,.int p] h=.ok (.int r) h:=by
  have q:atI (w.bars.map .int) (p:Int)=some (.int r):=fJ (by simp [e])
  exact (cI rfl rfl (bh (aP (aP rfl rfl rfl rfl) rfl rfl q))).trans bj
theorem jQ (w:Web)(h:Hd){p:Nat}{r:Option Int}(e:w.stays[p]? = some r):fB [w.enc,.int p] h=.ok (bN r) h:=by
  have q:atI (w.stays.map bN) (p:Int)=some (bN r):=fJ (by simp [e])
  exact (cI rfl rfl (bh (aP (aP rfl rfl rfl rfl) rfl rfl q))).trans bj
theorem DR {w:Web}{n:Nat}{s:List Int}(W:w.Ok n)(F:ce w n s)(h:Hd):sU [w.enc,af s] h=.ok (.bl true) h:=by
  obtain⟨σ',h',h1,h2,a,b,c,h3⟩:=bE (P:=fun _ σ h'=>h'=h ∧ ∃ a b c,σ = [some w.enc,some (af s),a,b,c]) (g:=none) (k:=0)
      (all:=((List.range (s.map D.int).length).zip (s.map D.int)).map fun p=>D.tup [.int (p.1:Nat),p.2]) (fun _ _ _ _=>trivial)
      (xs:=((List.range (s.map D.int).length).zip (s.map D.int)).map fun p=>D.tup [.int (p.1:Nat),p.2]) (tg:=gT [2,3]) (σ:=[some w.enc,some (af s),none,none,none]) (h:=h)
      (b:=xW) (by
      rintro i x σ h0 hx ⟨rfl,a,b,c,rfl⟩
      have hi:i < s.length:=by
        have:=(List.getElem?_eq_some_iff.mp hx).1
        simpa using this
      have hx':x=.tup [.int (i:Nat),.int s[i]]:=by simpa [hi,ZE] using hx.symm
      subst hx'
      have hs:w.stays[i]? = some (w.stays[i]'(by rw [W.s,← F.len];exact hi)):=ZE _
      generalize w.stays[i]'(by rw [W.s,← F.len];exact hi)=st at hs
      have op:bV [.int s[i]] h0=.ok (.bl true) h0:=by
        rw [gG];rcases F.op _ (List.getElem_mem hi) with e|e<;>rw [e]<;>rfl
      have s1:sIf (eT (tE (am bV (ad (aa 3) ar)))) (bc (fC (.bl false))) bw [some w.enc,some (af s),some (.int i),some (.int s[i]),c] h0=.nx [some w.enc,some (af s),some (.int i),some (.int s[i]),c] h0:=d9 (fA (bn (av (aj rfl rfl) op)))
      have sv:=jQ w h0 hs
      cases st with
      | none=>exact⟨_,rfl,_,h0,(bx s1).trans ((bx (aH (av (de rfl rfl) sv))).trans (d9 (xT (bn (aq rfl rfl rfl))))),rfl,_,_,_,rfl⟩
      | some y =>
        have hy:s[i] = y:=by have:=F.st i y hs;rw [ZE hi] at this;exact ZT this
        exact⟨_,rfl,_,h0,(bx s1).trans ((bx (aH (av (de rfl rfl) sv))).trans (d9 (pM (bn (aq rfl rfl rfl)) (bn (aq rfl rfl (by rw [show bN (some y)=D.int y from rfl,wz,decide_eq_true hy];rfl)))))),rfl,_,_,_,rfl⟩) ⟨rfl,_,_,_,rfl⟩
  rw [h2,h3] at h1
  have s1:sIf (tOr (eT (tE (gv .tuple (aa 1)))) (tE (ah oNe (cz (lOf (aa 1))) (am bq (ad (aa 0) ar))))) (bc (fC (.bl false))) bw [some w.enc,some (af s),none,none,none] h=.nx [some w.enc,some (af s),none,none,none] h :=
    d9 (jM (fA (b:=true) (bn rfl)) (bn (aq (dF (bU rfl rfl)) (av (aj rfl rfl) (jO w h)) (by rw [wz,ZA,F.len,W.t,decide_eq_true rfl];rfl))))
  exact (cI rfl rfl ((bx s1).trans ((bx (c9 rfl h1)).trans (bh rfl)))).trans bj
theorem BH {w:Web}{n:Nat}{s:List Int}(W:w.Ok n)(F:ce w n s)(h:Hd):eB [w.enc,af s] h=.ok .non h:=by
  exact (ES rfl rfl (d9 (fA (bn (av (de rfl rfl) (DR W F h)))))).trans bj
theorem mJ (l:List Int):en (l.map .int)=some l:=by
  induction l with
  | nil=>rfl
  | cons x xs ih=>simp [en,ih]
theorem Gx {s:List Int}{i:Nat}(h:i < s.length):atI (s.map .int) (i:Int)=some (.int s[i]):=fJ (by simp [h])
def eJ (r:List (Nat × Int)) (s:List Int):List Int:=(r.filter fun p=>decide (s.getD p.1 0=1)).map (·.2)
def aV (r:List (Nat × Int)) (s:List Int):Int:=(eJ r s).sum
theorem BI {r:List (Nat × Int)}{s:List Int}(hr:∀ q∈r,q.1 < s.length)(h:Hd):cx none (r.map kO) (gT [0,1]) [(tE (ah oEq (fAt (aa 2) (aa 0)) (fC (.int 1))))] (aa 1) (r.map kO) [none,none,some (af s)] h=.ok ((eJ r s).map D.int) h:=by
  have key:cx none (r.map kO) (gT [0,1]) [(tE (ah oEq (fAt (aa 2) (aa 0)) (fC (.int 1))))] (aa 1) (r.map kO) [none,none,some (af s)] h
      = .ok (((r.map kO).filter fun d=>match d with | .tup [.int i,_]=>decide (s.getD i.toNat 0=1)|_=>false).map fun d=>match d with | .tup [_,x]=>x|_=>.non) h:=by
    refine bD (g:=none) (I:=fun σ=>∃ a b,σ = [a,b,some (af s)]) _ _ trivial ?_ ⟨_,_,rfl⟩
    rintro x hx σ ⟨a,b,rfl⟩
    obtain⟨⟨q,wt⟩,hq,rfl⟩:=List.mem_map.mp hx
    exact⟨_,rfl,⟨_,_,rfl⟩,mI (bn (aq (aP rfl rfl rfl (lI (hr _ hq))) rfl xU)),fun _=>rfl⟩
  rw [key,eJ,List.filter_map,List.map_map,List.map_map]
  rfl
theorem wB {w:Web}{n:Nat}{s:List Int}(W:w.Ok n)(hs:s.length=n){p:Nat}{r:List (Nat × Int)}(e:w.ties[p]? = some r)(h:Hd) :
    iA [w.enc,af s,.int p] h=.ok (.int (2 * aV r s)) h:=by
  have hr:∀ q∈r,q.1 < s.length:=fun q hq=>by rw [hs];exact W.lt r (ZK e) q hq
  exact (cI rfl rfl (bh (aq rfl (ww (cM (pO (av (de rfl rfl) (jP w h e))) (BI hr h)) (mJ _)) (gj (by decide))))).trans bj
theorem DS {x:Int}(h:x=0∨x=1):sml x=true:=by rcases h with e|e<;>subst e<;>decide
end Fm
namespace Fm
noncomputable def gu:Fn:=bB 3 6 (aA (aD (gN 3) (am fB (ad (aa 0) (ad (aa 2) ar))))
    (aA (sIf (tE (ah fZ (aa 3) (fC .non))) (bc (aa 3)) bw)
    (aA (aD (gN 4) (am iA (ad (aa 0) (ad (aa 1) (ad (aa 2) ar)))))
    (aA (aD (gN 5) (am jN (ad (aa 0) (ad (aa 2) ar))))
    (aA (sIf (tE (ah oEq (aa 4) (aa 5))) (bc (fAt (aa 1) (aa 2))) bw)
    (bc (fIf (tE (ah oGt (aa 4) (aa 5))) (fC (.int 1)) (fC (.int 0)))))))))
noncomputable def bO:Fn:=bB 2 2 (bc (er (bJ 1 [0,1] (bi (am bq (ad (aa 0) ar))) (gN 0) [] (am gu (ad (aa 1) (ad (aa 2) (ad (aa 0) ar)))))))
noncomputable abbrev pP:SF:=(aA (gX (kr (aa 2) (aa 3)))
    (aD (gN 3) (am bO (ad (aa 0) (ad (aa 3) ar)))))
noncomputable def iX:Fn:=bB 2 5 (aA (gX (am eB (ad (aa 0) (ad (aa 1) ar))))
    (aA (aD (gN 2) (bL (ad (aa 1) (ad (am bO (ad (aa 0) (ad (aa 1) ar))) ar))))
    (aA (aD (gN 3) (am bO (ad (aa 0) (ad (fAt (aa 2) (fC (.int 1))) ar))))
    (aA (oZ (tE (ah oNe (aa 3) (fAt (aa 2) (fC (.int (-2)))))) pP)
    (aA (aD (gN 4) (fIf (tE (ah oEq (fAt (aa 2) (fC (.int (-1)))) (fAt (aa 2) (fC (.int (-2)))))) (fC (.str [114,101,115,116])) (fC (.str [112,97,105,114]))))
    (bc (fL (ad (ah nZ (cz (lOf (aa 2))) (fC (.int 2))) (ad (aa 4) (ad (aa 2) ar))))))))))
def bW (w:Web) (s:List Int) (p:Nat):Int:=match w.stays.getD p none with
  | some x=>x
  | none=>if 2 * aV (w.ties.getD p []) s=w.bars.getD p 0 then s.getD p 0 else if w.bars.getD p 0 < 2 * aV (w.ties.getD p []) s then 1 else 0
def aB (w:Web) (n:Nat) (s:List Int):List Int:=(List.range n).map (bW w s)
theorem wC {w:Web}{n:Nat}{s:List Int}(W:w.Ok n)(F:ce w n s){p:Nat}(hp:p < n)(h:Hd):gu [w.enc,af s,.int p] h=.ok (.int (bW w s p)) h:=by
  have ht:p < w.ties.length:=by rw [W.t];exact hp
  have hb:p < w.bars.length:=by rw [W.b];exact hp
  have hst:p < w.stays.length:=by rw [W.s];exact hp
  have hs:p < s.length:=by rw [F.len];exact hp
  have et:w.ties[p]? = some w.ties[p]:=by simp [ht]
  have eb:w.bars[p]? = some w.bars[p]:=by simp [hb]
  have es:w.stays[p]? = some w.stays[p]:=by simp [hst]
  have pull:=wB W F.len et h
  have gt:w.ties.getD p [] = w.ties[p]:=by simp [List.getD,ht]
  have gb:w.bars.getD p 0=w.bars[p]:=by simp [List.getD,hb]
  have gs:w.stays.getD p none=w.stays[p]:=by simp [List.getD,hst]
  have gi:s.getD p 0=s[p]:=by simp [List.getD,hs]
  have ai:=Gx hs
  cases c:w.stays[p] with
  | some x =>
    rw [c] at es
    have nx:bW w s p=x:=by unfold bW;rw [gs,c]
    rw [nx]
    exact (cI rfl rfl ((bx (aH (av (de rfl rfl) (jQ w h es)))).trans (ER ((pL (bn (aq rfl rfl rfl))).trans (bh rfl))))).trans bj
  | none =>
    rw [c] at es
    have sv:=jQ w h es
    have bv:=wA w h eb
    simp only [bW,gs,c,gt,gb,gi]
    have s1:aD (gN 3) (am fB (ad (aa 0) (ad (aa 2) ar))) [some w.enc,some (af s),some (.int p),none,none,none] h=.nx [some w.enc,some (af s),some (.int p),some .non,none,none] h:=aH (av (de rfl rfl) sv)
    have s2:sIf (tE (ah fZ (aa 3) (fC .non))) (bc (aa 3)) bw [some w.enc,some (af s),some (.int p),some .non,none,none] h=.nx [some w.enc,some (af s),some (.int p),some .non,none,none] h:=d9 (bn (aq rfl rfl rfl))
    generalize 2 * aV w.ties[p] s=P at pull
    have s3:aD (gN 4) (am iA (ad (aa 0) (ad (aa 1) (ad (aa 2) ar)))) [some w.enc,some (af s),some (.int p),some .non,none,none] h=.nx [some w.enc,some (af s),some (.int p),some .non,some (.int P),none] h:=aH (av (aj rfl (de rfl rfl)) pull)
    have s4:aD (gN 5) (am jN (ad (aa 0) (ad (aa 2) ar))) [some w.enc,some (af s),some (.int p),some .non,some (.int P),none] h=.nx [some w.enc,some (af s),some (.int p),some .non,some (.int P),some (.int w.bars[p])] h:=aH (av (de rfl rfl) bv)
    have go:∀ {v:Int},aA (sIf (tE (ah oEq (aa 4) (aa 5))) (bc (fAt (aa 1) (aa 2))) bw) (bc (fIf (tE (ah oGt (aa 4) (aa 5))) (fC (.int 1)) (fC (.int 0)))) [some w.enc,some (af s),some (.int p),some .non,some (.int P),some (.int w.bars[p])] h=.rt (.int v) h→gu [w.enc,af s,.int p] h=.ok (.int v) h:=fun e=>(cI rfl rfl ((bx s1).trans ((bx s2).trans ((bx s3).trans ((bx s4).trans e))))).trans bj
    by_cases e1:P=w.bars[p]
    · rw [if_pos e1];exact go (ER ((pL (bn (aq rfl rfl (sS e1)))).trans (bh (aP rfl rfl rfl ai))))
    · rw [if_neg e1]
      by_cases e2:w.bars[p] < P
      · rw [if_pos e2];exact go ((bx (d9 (bn (aq rfl rfl (pN e1))))).trans (bh ((wx (bn (aq rfl rfl (BF e2)))).trans rfl)))
      · rw [if_neg e2];exact go ((bx (d9 (bn (aq rfl rfl (pN e1))))).trans (bh ((wy (bn (aq rfl rfl (sT e2)))).trans rfl)))
theorem fD {w:Web}{n:Nat}{s:List Int}(W:w.Ok n)(F:ce w n s)(h:Hd):bO [w.enc,af s] h=.ok (af (aB w n s)) h:=by
  have key:cx none ((List.range n).map fun k:Nat=>D.int k) (gN 0) [] (am gu (ad (aa 1) (ad (aa 2) (ad (aa 0) ar)))) ((List.range n).map fun k:Nat=>D.int k) [none,some w.enc,some (af s)] h
      = .ok (((((List.range n).map fun k:Nat=>D.int k).filter fun _=>true)).map fun d=>match d with | .int i=>.int (bW w s i.toNat)|_=>.non) h:=by
    refine bD (g:=none) (I:=fun σ=>∃ a,σ = [a,some w.enc,some (af s)]) _ _ trivial ?_ ⟨_,rfl⟩
    rintro x hx σ ⟨a,rfl⟩
    obtain⟨i,hi,rfl⟩:=List.mem_map.mp hx
    have hi:=List.mem_range.mp hi
    exact⟨_,rfl,⟨_,rfl⟩,by simp,fun _=>av (aj rfl (de rfl rfl)) (wC W F hi h)⟩
  have k2:((((List.range n).map fun k:Nat=>D.int k).filter fun _=>true)).map (fun d=>match d with | .int i=>D.int (bW w s i.toNat)|_=>.non)=(aB w n s).map D.int:=by
    rw [List.filter_eq_self.mpr (by simp),List.map_map,aB,List.map_map];rfl
  rw [k2] at key
  have mq:bq [w.enc] h=.ok (.int n) h:=W.t ▸ jO w h
  exact (cI rfl rfl (bh (iV (cM (cv (av (aj rfl rfl) mq) W.sz) key)))).trans bj
def cw (w:Web):Prop:=∀ x∈w.stays,x=none∨x=some 0∨x=some 1
theorem uQ {w:Web}{n:Nat}{s:List Int}(F:ce w n s)(i:Nat):s.getD i 0=0∨s.getD i 0=1:=by
  by_cases hi:i < s.length
  · rw [List.getD,ZE hi];exact F.op _ (List.getElem_mem hi)
  · rw [List.getD,List.getElem?_eq_none (by omega)];exact .inl rfl
theorem pQ {w:Web}{n:Nat}{s:List Int}(F:ce w n s)(S:cw w)(p:Nat):bW w s p=0∨bW w s p=1:=by
  unfold bW
  cases c:w.stays.getD p none with
  | some x =>
    have:some x∈w.stays:=by
      rw [List.getD] at c
      cases e:w.stays[p]? with
      | none=>rw [e] at c;cases c
      | some y=>rw [e] at c;simp at c;subst c;exact ZK e
    have:=S _ this
    simp at this
    exact this
  | none =>
    simp only
    split
    · exact uQ F p
    · split<;>simp
theorem dB {w:Web}{n:Nat}{s:List Int}(W:w.Ok n)(S:cw w)(F:ce w n s):ce w n (aB w n s) where
  len:=by simp [aB]
  op:=fun x hx=>by
    obtain⟨p,hp,rfl⟩:=List.mem_map.mp hx
    exact pQ F S p
  st:=fun i x e=>by
    have hi:i < n:=by rw [← W.s];exact (List.getElem?_eq_some_iff.mp e).1
    have:w.stays.getD i none=some x:=by simp [List.getD,e]
    have hn:bW w s i=x:=by unfold bW;rw [this]
    simp [aB,hi,hn]
def aI (w:Web) (n:Nat) (s:List Int):Nat→List Int
  | 0=>s
  | k + 1=>aB w n (aI w n s k)
theorem bF {w:Web}{n:Nat}{s:List Int}(W:w.Ok n)(S:cw w)(F:ce w n s):∀ k,ce w n (aI w n s k)
  | 0=>F
  | k + 1=>dB W S (bF W S F k)
def bR (w:Web) (n:Nat) (s:List Int) (m:Nat):List (List Int):=(List.range m).map (aI w n s)
theorem wD {w:Web}{n:Nat}{s:List Int}(m:Nat):bR w n s (m + 1)=bR w n s m++[aI w n s m]:=by simp [bR,List.range_succ]
theorem ki {w:Web}{n:Nat}{s:List Int}(m:Nat):(bR w n s m).length=m:=by simp [bR]
theorem BJ {w:Web}{n:Nat}{s:List Int}{m i:Nat}(h:i < m):atI ((bR w n s m).map af) (i:Int)=some (af (aI w n s i)):=fJ (by simp [bR,h])
end Fm
namespace Fm
def LeS (a b:List Int):Prop:=∀ i:Nat,a.getD i 0≤b.getD i 0
theorem LeS.refl (a:List Int):LeS a a:=fun _=>Int.le_refl _
def kR (a:List Int):Prop:=∀ i:Nat,a.getD i 0=0∨a.getD i 0=1
theorem LeS.eq {a b:List Int}(l:a.length=b.length)(x:LeS a b)(y:LeS b a):a=b:=by
  apply List.ext_getElem l
  intro i h1 h2
  have x1:=x i
  have y1:=y i
  simp only [List.getD,ZE h1,ZE h2,Option.getD_some] at x1 y1
  omega
theorem dr (p:Nat × Int)(r:List (Nat × Int))(s:List Int):aV (p :: r) s=(if s.getD p.1 0=1 then p.2 else 0) + aV r s:=by
  unfold aV eJ
  by_cases e:s.getD p.1 0=1
  · rw [List.filter_cons,if_pos (by simp only [decide_eq_true_eq];exact e),if_pos e];rfl
  · rw [List.filter_cons,if_neg (by simp only [decide_eq_true_eq];exact e),if_neg e];omega
theorem nT {a b:List Int}(B:kR b)(l:LeS a b):∀ {r:List (Nat × Int)},(∀ p∈r,0≤p.2)→aV r a≤aV r b
  | [],_=>Int.le_refl _
  | p :: r,h=>by
    have ih:=nT B l (r:=r) fun q hq=>h q (by simp [hq])
    have h0:=h p (by simp)
    have l0:=l p.1
    have b0:=B p.1
    rw [dr,dr]
    by_cases e:a.getD p.1 0=1
    · have e2:b.getD p.1 0=1:=by omega
      rw [if_pos e,if_pos e2];omega
    · rw [if_neg e]
      by_cases e2:b.getD p.1 0=1
      · rw [if_pos e2];omega
      · rw [if_neg e2];omega
theorem DT {P1 P2 c1 c2 x y:Int}(hp:P1≤P2)(hb:c2≤c1)(l:x≤y)(b1:x=0∨x=1)(b2:y=0∨y=1):(if 2 * P1=c1 then x else if c1 < 2 * P1 then 1 else 0)≤(if 2 * P2=c2 then y else if c2 < 2 * P2 then (1:Int) else 0):=by
  have y0:0≤y:=by rcases b2 with rfl|rfl<;>decide
  have x1:x≤1:=by rcases b1 with rfl|rfl<;>decide
  have q:2 * P1≤2 * P2:=Int.mul_le_mul_of_nonneg_left hp (by decide)
  generalize 2 * P1=A at q
  generalize 2 * P2=B at q
  by_cases e1:A=c1
  · rw [if_pos e1]
    by_cases e2:B=c2
    · rw [if_pos e2];exact l
    · rw [if_neg e2,if_pos (Int.lt_iff_le_and_ne.mpr ⟨Int.le_trans hb (e1 ▸ q),Ne.symm e2⟩)];exact x1
  · rw [if_neg e1]
    by_cases e3:c1 < A
    · have e4:c2 < B:=Int.lt_of_le_of_lt hb (Int.lt_of_lt_of_le e3 q)
      rw [if_pos e3,if_neg (Int.ne_of_gt e4),if_pos e4];exact Int.le_refl _
    · rw [if_neg e3]
      by_cases e2:B=c2
      · rw [if_pos e2];exact y0
      · rw [if_neg e2]
        split
        · decide
        · exact Int.le_refl _
theorem wE {w1 w2:Web}{a b:List Int}{p:Nat}(hp:aV (w1.ties.getD p []) a≤aV (w2.ties.getD p []) b)(hb:w2.bars.getD p 0≤w1.bars.getD p 0)(B1:kR a)(B2:kR b)(le:LeS a b)
    (st:(w1.stays.getD p none=none∧w2.stays.getD p none=none)∨w1.stays.getD p none=some 0∨w2.stays.getD p none=some 1) (n1:bW w1 a p=0∨bW w1 a p=1) (n2:bW w2 b p=0∨bW w2 b p=1):bW w1 a p≤bW w2 b p:=by
  rcases st with ⟨s1,s2⟩|s|s
  · have b1:=B1 p
    have b2:=B2 p
    have l:=le p
    unfold bW
    rw [s1,s2]
    generalize aV (w1.ties.getD p []) a=P1 at *
    generalize aV (w2.ties.getD p []) b=P2 at *
    generalize w1.bars.getD p 0=c1 at *
    generalize w2.bars.getD p 0=c2 at *
    generalize a.getD p 0=x at *
    generalize b.getD p 0=y at *
    exact DT hp hb l b1 b2
  · have:bW w1 a p=0:=by unfold bW;rw [s]
    omega
  · have:bW w2 b p=1:=by unfold bW;rw [s]
    omega
theorem rP (w:Web)(n:Nat)(s:List Int)(i:Nat):(aB w n s).getD i 0=if i < n then bW w s i else 0:=by
  unfold aB
  by_cases h:i < n<;>simp [List.getD,h]
theorem ce.bits {w:Web}{n:Nat}{s:List Int}(F:ce w n s):kR s:=fun i=>uQ F i
structure mK (w1 w2:Web) (n:Nat):Prop where
  go:∀ a b,ce w1 n a→ce w2 n b→LeS a b→LeS (aB w1 n a) (aB w2 n b)
theorem DU {w1 w2:Web}{n:Nat}(S1:cw w1)(S2:cw w2)(hp:∀ p,p < n → ∀ a b,kR a→kR b→LeS a b→aV (w1.ties.getD p []) a≤aV (w2.ties.getD p []) b)(hb:∀ p,p < n→w2.bars.getD p 0≤w1.bars.getD p 0)
    (st:∀ p,p < n→(w1.stays.getD p none=none∧w2.stays.getD p none=none)∨w1.stays.getD p none=some 0∨w2.stays.getD p none=some 1):mK w1 w2 n :=
  ⟨fun a b Fa Fb le i=>by
    rw [rP,rP]
    by_cases h:i < n
    · rw [if_pos h,if_pos h]
      exact wE (hp i h a b Fa.bits Fb.bits le) (hb i h) Fa.bits Fb.bits le (st i h) (pQ Fa S1 i) (pQ Fb S2 i)
    · rw [if_neg h,if_neg h];exact Int.le_refl _⟩
theorem kj {w1 w2:Web}{n:Nat}(W1:w1.Ok n)(W2:w2.Ok n)(S1:cw w1)(S2:cw w2)(M:mK w1 w2 n){a b:List Int}(Fa:ce w1 n a)(Fb:ce w2 n b)(le:LeS a b):∀ k,LeS (aI w1 n a k) (aI w2 n b k)
  | 0=>le
  | k + 1=>M.go _ _ (bF W1 S1 Fa k) (bF W2 S2 Fb k) (kj W1 W2 S1 S2 M Fa Fb le k)
end Fm
namespace Fm
def S2 (R:Nat→List (Nat × Int)) (f s:Nat→Int):Nat→Int
  | 0=>0
  | k + 1=>S2 R f s k + ((R k).map fun p=>p.2 * f p.1 * s k).sum
def gZ (g:Nat→Int):Nat→Int
  | 0=>0
  | n + 1=>gZ g n + g n
theorem zc (g:Nat→Int)(n:Nat):((List.range n).map g).sum=gZ g n:=by
  induction n with
  | zero=>rfl
  | succ n ih=>rw [List.range_succ,ZR,List.sum_append,ih];simp [gZ]
end Fm
namespace Fm
theorem rR:∀ (a b:List Int),a.length=b.length→ia (a.map .int) (b.map .int)=some (decide (a=b))
  | [],[],_=>by simp [ia]
  | x :: a,y :: b,h=>by
    have ih:=rR a b (by simpa using h)
    simp only [List.map_cons,ia,peq,ih]
    by_cases e:x=y<;>by_cases e2:a=b<;>simp [e,e2]
  | [],_ :: _,h=>by simp at h
  | _ :: _,[],h=>by simp at h
theorem zd (l:List Int):n5 (l.map .int)=0:=by
  induction l with
  | nil=>rfl
  | cons x l ih=>simp [n5,dep,ih]
theorem DV (l:List Int):dep (af l)=1:=by simp [af,dep,zd]
theorem DW {a b:List Int}(h:a.length=b.length):peq (af a) (af b)=some (decide (a=b)):=by
  simp only [af,peq,rR a b h,Option.map_some,ZA,h]
  simp
theorem xX {a b:List Int}(h:a.length=b.length)(hd:Hd):eqG hd (af a) (af b)=some (decide (a=b)):=by
  have e1:∀ l,fg hd (af l)=none:=fun l=>rfl
  simp only [eqG,e1,DV,DW h]
  rfl
theorem oD {a b:List Int}(h:a.length=b.length)(hd:Hd):oNe (af a) (af b) hd=.ok (.bl (!decide (a=b))) hd:=by
  unfold oNe;rw [xX h]
theorem lK {a b:List Int}(h:a.length=b.length)(hd:Hd):oEq (af a) (af b) hd=.ok (.bl (decide (a=b))) hd:=by
  unfold oEq;rw [xX h]
theorem HS {k n:Nat}(h1:1≤k)(h2:k≤n) : ¬ 0 ≤ -(k:Int) ∧ -(n:Int) ≤ -(k:Int)∧(-(k:Int) + (n:Int)).toNat=n - k:=by omega
theorem DX {l:List D}{k:Nat}(h1:1≤k)(h2:k≤l.length):atI l (-(k:Int))=l[l.length - k]? := by
  have q:=HS h1 h2
  unfold atI ixN
  rw [if_neg q.1,if_pos q.2.1,q.2.2];rfl
theorem jR {w:Web}{n:Nat}{s:List Int}(k j:Nat)(h1:1≤j):atI ((bR w n s (k + j)).map af) (-(j:Int))=some (af (aI w n s k)):=by
  rw [DX h1 (by rw [ZA,ki];exact Nat.le_add_left j k),ZA,ki,Nat.add_sub_cancel,ZQ,bR,ZQ,List.getElem?_range (Nat.lt_add_of_pos_right h1)];rfl
theorem mL {a b:SF}{σ σ':Sd}{h h':Hd}(e:a σ h=.nx σ' h'):aA a b σ h=b σ' h':=by simp [aA,e]
theorem BK {w:Web}{n:Nat}{s:List Int}(W:w.Ok n)(S:cw w)(F:ce w n s){t:Nat}(ht:aI w n s (t + 2)=aI w n s t)(hm:∀ k,k < t→aI w n s (k + 2)≠aI w n s k)(hz:t≤900000)(h:Hd) :
    iX [w.enc,af s] h=.ok (.tup [.int t,.str (if aI w n s (t + 1)=aI w n s t then [114,101,115,116] else [112,97,105,114]),.ref h.length]) (h++[.lst ((bR w n s (t + 2)).map af)]):=by
  have L:∀ k,(aI w n s k).length=n:=fun k=>(bF W S F k).len
  have loop:∀ j k,k + j=t→ez (tE (ah oNe (aa 3) (fAt (aa 2) (fC (.int (-2)))))) pP (j + 1) [some w.enc,some (af s),some (.ref h.length),some (af (aI w n s (k + 2))),none] (h++[.lst ((bR w n s (k + 2)).map af)])
      = .nx [some w.enc,some (af s),some (.ref h.length),some (af (aI w n s (t + 2))),none] (h++[.lst ((bR w n s (t + 2)).map af)]):=by
    intro j
    induction j with
    | zero =>
      intro k hk
      have:k=t:=hk
      subst this
      have b':atI ((bR w n s (k + 2)).map af) (-2)=some (af (aI w n s k)):=jR k 2 (by decide)
      have test:tE (ah oNe (aa 3) (fAt (aa 2) (fC (.int (-2))))) [some w.enc,some (af s),some (.ref h.length),some (af (aI w n s (k + 2))),none] (h++[.lst ((bR w n s (k + 2)).map af)])=.ok false (h++[.lst ((bR w n s (k + 2)).map af)]):=by
        rw [ht]
        exact bn (aq rfl (aP rfl rfl (aJ ZG) b') (by rw [oD rfl,decide_eq_true rfl];rfl))
      simp only [ez,test]
    | succ j ih =>
      intro k hk
      have b':atI ((bR w n s (k + 2)).map af) (-2)=some (af (aI w n s k)):=jR k 2 (by decide)
      have test:tE (ah oNe (aa 3) (fAt (aa 2) (fC (.int (-2))))) [some w.enc,some (af s),some (.ref h.length),some (af (aI w n s (k + 2))),none] (h++[.lst ((bR w n s (k + 2)).map af)])=.ok true (h++[.lst ((bR w n s (k + 2)).map af)]):=by
        exact bn (aq rfl (aP rfl rfl (aJ ZG) b') (by rw [oD ((L (k + 2)).trans (L k).symm),decide_eq_false (hm k (hk ▸ Nat.lt_add_of_pos_right (Nat.succ_pos j)))];rfl))
      have lz:((bR w n s (k + 2)).map af).length < SZ:=by rw [ZA,ki];exact ZS (Nat.add_le_add_right (ZM (hk ▸ Nat.le_add_right k (j + 1)) hz) 2) (by decide)
      have tk:=fD W (bF W S F (k + 2)) (h++[.lst ((bR w n s (k + 3)).map af)])
      have body:pP [some w.enc,some (af s),some (.ref h.length),some (af (aI w n s (k + 2))),none] (h++[.lst ((bR w n s (k + 2)).map af)])=.nx [some w.enc,some (af s),some (.ref h.length),some (af (aI w n s (k + 3))),none] (h++[.lst ((bR w n s (k + 3)).map af)]):=by
        have st1:gX (kr (aa 2) (aa 3)) [some w.enc,some (af s),some (.ref h.length),some (af (aI w n s (k + 2))),none] (h++[.lst ((bR w n s (k + 2)).map af)])=.nx [some w.enc,some (af s),some (.ref h.length),some (af (aI w n s (k + 2))),none] (h++[.lst ((bR w n s (k + 3)).map af)]):=by
          rw [show bR w n s (k + 3)=bR w n s (k + 2)++[aI w n s (k + 2)] from wD (k + 2),ZR]
          exact (gE (kQ rfl ZG rfl ZG lz)).trans (by rw [iW rfl];rfl)
        exact (mL st1).trans (aH (av (de rfl rfl) tk))
      rw [ez,test]
      simp only [body]
      exact ih (k + 1) (by rw [Nat.add_right_comm];exact hk)
  have wl:=za (loop t 0 (Nat.zero_add t)) (by simp)
  have t0:=fD W F h
  have t1:=fD W (bF W S F 1) (h++[.lst ((bR w n s 2).map af)])
  have e1 : [af s,af (aB w n s)] = (bR w n s 2).map af:=by simp [bR,List.range_succ,aI]
  have a1:atI ((bR w n s 2).map af) 1=some (af (aI w n s 1)):=BJ (w:=w) (n:=n) (s:=s) (m:=2) (i:=1) (by decide)
  have b1':atI ((bR w n s (t + 2)).map af) (-1)=some (af (aI w n s (t + 1))):=jR (t + 1) 1 (by decide)
  have b2':atI ((bR w n s (t + 2)).map af) (-2)=some (af (aI w n s t)):=jR t 2 (by decide)
  have ln:(bR w n s (t + 2)).length=t + 2:=ki _
  have eqw:=lK (a:=aI w n s (t + 1)) (b:=aI w n s t) ((L (t + 1)).trans (L t).symm) (h++[.lst ((bR w n s (t + 2)).map af)])
  simp only [aI] at t1
  simp only [aI] at a1
  have hh1:aI w n s (0 + 2)=aB w n (aB w n s):=rfl
  rw [hh1,show 0 + 2=2 from rfl] at wl
  have s1:aD (gN 2) (bL (ad (aa 1) (ad (am bO (ad (aa 0) (ad (aa 1) ar))) ar))) [some w.enc,some (af s),none,none,none] h
      = .nx [some w.enc,some (af s),some (.ref h.length),none,none] (h++[.lst ((bR w n s 2).map af)]):=by
    rw [← e1];exact aH (eM (aj rfl (aj (av (de rfl rfl) t0) rfl)))
  have s2:aD (gN 3) (am bO (ad (aa 0) (ad (fAt (aa 2) (fC (.int 1))) ar))) [some w.enc,some (af s),some (.ref h.length),none,none] (h++[.lst ((bR w n s 2).map af)])
      = .nx [some w.enc,some (af s),some (.ref h.length),some (af (aB w n (aB w n s))),none] (h++[.lst ((bR w n s 2).map af)]):=by
    exact aH (av (aj rfl (aj (aP rfl rfl (aJ ZG) a1) rfl)) t1)
  have s3:aD (gN 4) (fIf (tE (ah oEq (fAt (aa 2) (fC (.int (-1)))) (fAt (aa 2) (fC (.int (-2)))))) (fC (.str [114,101,115,116])) (fC (.str [112,97,105,114]))) [some w.enc,some (af s),some (.ref h.length),some (af (aI w n s (t + 2))),none] (h++[.lst ((bR w n s (t + 2)).map af)])
      = .nx [some w.enc,some (af s),some (.ref h.length),some (af (aI w n s (t + 2))),some (.str (if aI w n s (t + 1)=aI w n s t then [114,101,115,116] else [112,97,105,114]))] (h++[.lst ((bR w n s (t + 2)).map af)]):=by
    by_cases q:aI w n s (t + 1)=aI w n s t
    · rw [if_pos q];rw [decide_eq_true q] at eqw
      exact aH ((wx (bn (aq (aP rfl rfl (aJ ZG) b1') (aP rfl rfl (aJ ZG) b2') eqw))).trans rfl)
    · rw [if_neg q];rw [decide_eq_false q] at eqw
      exact aH ((wy (bn (aq (aP rfl rfl (aJ ZG) b1') (aP rfl rfl (aJ ZG) b2') eqw))).trans rfl)
  have ck:gX (am eB (ad (aa 0) (ad (aa 1) ar))) [some w.enc,some (af s),none,none,none] h=.nx [some w.enc,some (af s),none,none,none] h:=gE (av (de rfl rfl) (BH W F h))
  have st:([w.enc,af s].map some++List.replicate (5 - [w.enc,af s].length) none:Sd)=[some w.enc,some (af s),none,none,none]:=rfl
  unfold iX bB runB
  rw [if_pos (show [w.enc,af s].length=2 from rfl),st,mL ck,mL s1,mL s2,mL wl,mL s3]
  have z:((t:Int) + 2) - 2=t:=by omega
  simp [ln,SZ,z,letGo,pure?,gx]
end Fm
namespace Fm
noncomputable def iB:Fn:=bB 2 2 (bc (fAt (fAt (am iX (ad (aa 0) (ad (aa 1) ar))) (fC (.int 2))) (fC (.int (-1)))))
noncomputable def bX:Fn:=bB 1 1 (bc (bL (lOf (fAt (aa 0) (fC (.int 2))))))
noncomputable def cG:Fn:=bB 2 2 (bc (er (bJ 1 [1] (dW (am bX (ad (aa 0) ar))) (gN 0) [] (fIf (tE (ah jz (aa 0) (fC .non))) (aa 1) (aa 0)))))
noncomputable def cB:Fn:=bB 1 1 (bc (am iB (ad (aa 0) (ad (am cG (ad (aa 0) (ad (fC (.int 0)) ar))) ar))))
noncomputable def bI:Fn:=bB 1 1 (bc (am iB (ad (aa 0) (ad (am cG (ad (aa 0) (ad (fC (.int 1)) ar))) ar))))
end Fm
namespace Fm
noncomputable def lL:Fn:=bB 2 4 (aA (sIf (tOr (eT (tE (gv .tuple (aa 1)))) (tE (ah oNe (cz (lOf (aa 1))) (fC (.int 3))))) (bc (fC (.bl false))) bw)
    (aA (aD (gN 2) (fAt (aa 1) (fC (.int 0))))
    (aA (aD (gN 3) (fAt (aa 1) (fC (.int 1))))
    (aA (sIf (tOr (eT (tE (am bo (ad (aa 2) (ad (fC (.int 0)) (ad (ah nZ (aa 0) (fC (.int 1))) ar)))))) (eT (tE (am bo (ad (aa 3) (ad (fC (.int 0)) (ad (ah nZ (aa 0) (fC (.int 1))) ar))))))) (bc (fC (.bl false))) bw)
    (bc (fT (kE (tE (ah oNe (aa 2) (aa 3))) (tE (am bo (ad (fAt (aa 1) (fC (.int 2))) (ad (fC (.int 1)) (ad (fC (.int 400)) ar))))))))))))
noncomputable abbrev dC:SF:=(aA (sIf (eT (tE (am lL (ad (aa 0) (ad (aa 3) ar))))) f6 bw)
    (aA (aD (gN 4) (fAt (aa 3) (fC (.int 0))))
    (aA (aD (gN 5) (fAt (aa 3) (fC (.int 1))))
    (aA (sIf (tE (ah yQ (aa 5) (fAt (aa 2) (aa 4)))) f6 bw)
    (aA (pB (fAt (aa 2) (aa 4)) (aa 5) (fAt (aa 3) (fC (.int 2))))
    (pB (fAt (aa 2) (aa 5)) (aa 4) (fAt (aa 3) (fC (.int 2)))))))))
noncomputable def ee:Fn:=bB 2 6 (aA (sIf (eT (tE (gv .list (aa 1)))) f6 bw)
    (aA (aD (gN 2) (bL (bJ 1 [] (bi (aa 0)) (gN 0) [] rA)))
    (aA (dA (dW (aa 1)) (gN 3) dC)
    (bc (aa 2)))))
noncomputable def eN:Fn:=bB 2 2 (aA (sIf (tE (ah jz (aa 1) (fC .non))) f6 bw)
    (aA (sIf (tOr (eT (tE (gv .list (aa 1)))) (tE (ah oNe (cz (lOf (aa 1))) (cz (lOf (aa 0)))))) f6 bw)
    (aA (sIf (eT (tE (vX (bJ 1 [] (dW (aa 1)) (gN 0) [] (am cP (ad (aa 0) ar)))))) f6 bw)
    (bc (er (lOf (aa 1)))))))
noncomputable def ek:Fn:=bB 2 2 (aA (sIf (tE (ah jz (aa 1) (fC .non))) (bc (er (bJ 1 [] (bi (aa 0)) (gN 0) [] (fC .non)))) bw)
    (aA (sIf (tOr (eT (tE (gv .list (aa 1)))) (tE (ah oNe (cz (lOf (aa 1))) (aa 0)))) f6 bw)
    (aA (sIf (eT (tE (vX (bJ 1 [] (dW (aa 1)) (gN 0) [] (fT (tOr (tE (ah jz (aa 0) (fC .non))) (tE (am bV (ad (aa 0) ar))))))))) f6 bw)
    (bc (er (lOf (aa 1)))))))
noncomputable def eC:Fn:=bB 4 6 (aA (sIf (eT (tE (am bo (ad (aa 0) (ad (fC (.int 1)) (ad (fC (.int 30)) ar)))))) f6 bw)
    (aA (aD (gN 4) (am ee (ad (aa 0) (ad (aa 1) ar))))
    (aA (aD (gN 5) (er (bJ 1 [] (dW (aa 4)) (gN 0) [] (er (kM (aa 0))))))
    (bc (fL (ad (aa 5) (ad (am eN (ad (aa 4) (ad (aa 2) ar))) (ad (am ek (ad (aa 0) (ad (aa 3) ar))) ar))))))))
noncomputable def rS:Fn:=bB 2 4 (aA (aD (gN 2) (fC (.int 0)))
    (aA (sIf (tE (ah oLt (aa 1) (cz (lOf (aa 0))))) (aD (gN 2) (fAt (aa 0) (aa 1))) bw)
    (aA (aD (gN 3) (fT (tOr (tE (ah oEq (cz (lOf (aa 0))) (fC (.int 0)))) (tE (ah oEq (ah cL (fAt (aa 0) (fC (.int 0))) (fC (.int 2))) (fC (.int 1)))))))
    (aA (sIf (tE (aa 3)) (aD (gN 2) (ah cE (ah cL (aa 2) (fC (.int 2147483647))) (ah bC (fC (.int 1000003)) (aa 1)))) bw)
    (bc (bL (ad (aa 2) (ad (fC (.int 0)) (ad (aa 3) ar)))))))))
noncomputable def dh:Fn:=bB 2 4 (aA (kH (aa 0) (fC (.int 1)) (ah cE (fAt (aa 0) (fC (.int 1))) (fC (.int 1))))
    (aA (sIf (tE (fAt (aa 0) (fC (.int 2)))) (aA (aD (gN 2) (ah cL (ah bC (ah cE (ah cE (fAt (aa 0) (fC (.int 0))) (ah bC (fC (.int 7919)) (fAt (aa 0) (fC (.int 1))))) (fC (.int 1))) (fC (.int 48271))) (fC (.int 2147483647))))
    (aA (aD (gN 2) (ah cL (ah bC (aa 2) (ah cE (ah cL (aa 2) (fC (.int 65521))) (fAt (aa 0) (fC (.int 1))))) (fC (.int 2147483629))))
    (bc (ah cL (ah cL (ah cE (ah bC (aa 2) (aa 2)) (ah bC (fC (.int 69621)) (aa 2))) (fC (.int 2147483563))) (aa 1))))) bw)
    (aA (aD (gN 3) (ah cL (fAt (aa 0) (fC (.int 0))) (aa 1)))
    (aA (kH (aa 0) (fC (.int 0)) (ah iw (fAt (aa 0) (fC (.int 0))) (aa 1)))
    (bc (aa 3))))))
noncomputable def DY:Fn:=bB 3 3 (aA (sIf (tE (ah oEq (aa 0) (fC (.int 0)))) (bc (aa 2)) bw)
    (aA (sIf (tE (ah oEq (aa 0) (fC (.int 1)))) (bc (ah nZ (aa 1) (fC (.int 60)))) bw)
    (aA (sIf (tE (ah oEq (aa 0) (fC (.int 2)))) (bc (ah nZ (ah cE (aa 2) (ah cL (aa 1) (fC (.int 5)))) (fC (.int 2)))) bw)
    (aA (sIf (tE (ah oEq (aa 0) (fC (.int 3)))) (bc (ah bC (fC (.int 2)) (ah cL (aa 1) (ah cE (aa 2) (fC (.int 1)))))) bw)
    (bc (ah bC (ah cE (ah IP (fC (.int 10)) (fC (.int 59))) (aa 1)) (fIx (ad (fC (.int 1)) (ad (fC (.int (-1))) ar)) (ah cL (aa 1) (fC (.int 2))))))))))
noncomputable abbrev uR:SF:=(sIf (tE (ah oEq (am dh (ad (aa 9) (ad (aa 3) ar))) (fC (.int 0)))) (aA (aD (gN 11) (ah cE (fC (.int 1)) (am dh (ad (aa 9) (ad (fIx (ad (fC (.int 3)) (ad (fC (.int 400)) ar)) (am dh (ad (aa 9) (ad (fC (.int 2)) ar)))) ar)))))
    (aA (gX (IS (aa 4) (am dh (ad (aa 9) (ad (ah cE (cz (lOf (aa 4))) (fC (.int 1))) ar))) (fIx (ad (fL (ad (aa 8) (ad (aa 10) (ad (aa 11) ar)))) (ad (fL (ad (aa 10) (ad (aa 8) (ad (aa 11) ar)))) ar)) (ah cL (aa 11) (fC (.int 2))))))
    (aA (kH (aa 7) (aa 8) (ah cE (fAt (aa 7) (aa 8)) (aa 11)))
    (kH (aa 7) (aa 10) (ah cE (fAt (aa 7) (aa 10)) (aa 11)))))) bw)
noncomputable abbrev uS:SF:=(aA (aD (gN 9) (am rS (ad (aa 0) (ad (ah cE (fC (.int 1)) (aa 8)) ar))))
    (aA (gX (kr (aa 6) (fIx (ad (fC .non) (ad (fC .non) (ad (fC .non) (ad (fC (.int 0)) (ad (fC (.int 1)) ar))))) (am dh (ad (aa 9) (ad (fC (.int 5)) ar))))))
    (aA (gX (kr (aa 5) (fL (ad (am dh (ad (aa 9) (ad (fC (.int 5)) ar))) (ad (am dh (ad (aa 9) (ad (fC (.int 200)) ar))) ar)))))
    (dA (bi (aa 8)) (gN 10) uR))))
noncomputable def wF:Fn:=bB 1 12 (aA (aD (gN 1) (am rS (ad (aa 0) (ad (fC (.int 0)) ar))))
    (aA (gX (am dh (ad (aa 1) (ad (fC (.int 2)) ar))))
    (aA (aD (gN 2) (ah cE (fC (.int 1)) (am dh (ad (aa 1) (ad (fIx (ad (fC (.int 6)) (ad (fC (.int 12)) (ad (fC (.int 30)) ar))) (am dh (ad (aa 1) (ad (fC (.int 3)) ar)))) ar)))))
    (aA (aD (gN 3) (fIx (ad (fC (.int 1)) (ad (fC (.int 2)) (ad (fC (.int 5)) ar))) (am dh (ad (aa 1) (ad (fC (.int 3)) ar)))))
    (aA (aD (gN 4) (bL ar))
    (aA (aD (gN 5) (bL ar))
    (aA (aD (gN 6) (bL ar))
    (aA (aD (gN 7) (bL (pD (ad (fC (.int 0)) ar) (aa 2))))
    (aA (dA (bi (aa 2)) (gN 8) uS)
    (aA (aD (gN 5) (bL (bJ 1 [7,5] (bi (aa 2)) (gN 0) [] (am DY (ad (fAt (fAt (aa 2) (aa 0)) (fC (.int 0))) (ad (fAt (fAt (aa 2) (aa 0)) (fC (.int 1))) (ad (fAt (aa 1) (aa 0)) ar)))))))
    (bc (fL (ad (aa 2) (ad (aa 4) (ad (aa 5) (ad (aa 6) (ad (aa 7) ar)))))))))))))))))
end Fm
namespace Fm
theorem aE {a b:SF}{σ σ':Sd}{h h':Hd}(e:a σ h=.nx σ' h'):aA a b σ h=b σ' h':=by simp [aA,e]
theorem oE {x:Int}(h0:0≤x)(h1:x < 4611686018427387904):sml x=true:=by
  simp only [sml,Bool.and_eq_true,decide_eq_true_eq];omega
theorem gm {α : Type}{f : α → D}{l:List α}{i:Nat}(h:i < l.length):atI (l.map f) (i:Int)=some (f l[i]):=fJ (by simp [h])
end Fm
namespace Fm
theorem cF {n i:Nat}{x:D}(hx:((List.range n).map fun k:Nat=>D.int k)[i]? = some x):i < n∧x=.int (i:Nat):=by
  have hi:i < n:=by
    have:=(List.getElem?_eq_some_iff.mp hx).1
    simpa using this
  exact⟨hi,by simpa [hi,ZE] using hx.symm⟩
theorem HU {α : Type}(f : α → D)(l:List α){x:Int}(h0:0≤x)(h:x < l.length):∃ v∈l,atI (l.map f) x=some (f v):=by
  have h3:x.toNat < l.length:=by omega
  refine⟨l[x.toNat],List.getElem_mem h3,?_⟩
  have:=gm (f:=f) h3
  rwa [show ((x.toNat:Nat):Int)=x by omega] at this
structure Tie where
  a:Nat
  b:Nat
  w:Int
def cr (t:Tie):D:=.tup [.int t.a,.int t.b,.int t.w]
def far (i:Nat) (t:Tie):Option Nat:=if t.a=i then some t.b else if t.b=i then some t.a else none
def wOf (i:Nat) (t:Tie):Int:=if t.a=i∨t.b=i then t.w else 0
def ET (T:List Tie) (i:Nat):Int:=(T.map (wOf i)).sum
def HV (one other:Nat) (t:Tie):Prop:=(t.a < one∧t.b < one)∨(t.a=one∧t.b < other)∨(t.b=one∧t.a < other)
def gH (s t:Tie):Prop:=¬ (s.a=t.a∧s.b=t.b) ∧ ¬ (s.a=t.b∧s.b=t.a)
structure TOk (n one other:Nat) (T:List Tie):Prop where
  ne:∀ t∈T,t.a≠t.b
  lt:∀ t∈T,t.a < n∧t.b < n
  wt:∀ t∈T,1≤t.w∧t.w≤400
  be:∀ t∈T,HV one other t
  un:T.Pairwise gH
  len:T.length≤30 * one + other
theorem gH.symm {s t:Tie}(h:gH s t):gH t s:=⟨fun z=>h.1 ⟨z.1.symm,z.2.symm⟩,fun z=>h.2 ⟨z.2.symm,z.1.symm⟩⟩
theorem TOk.skip {n one other:Nat}{T:List Tie}(o:TOk n one other T):TOk n one (other + 1) T :=
  ⟨o.ne,o.lt,o.wt,fun t ht=>by
    rcases o.be t ht with h|h|h
    · exact .inl h
    · exact .inr (.inl ⟨h.1,Nat.lt_succ_of_lt h.2⟩)
    · exact .inr (.inr ⟨h.1,Nat.lt_succ_of_lt h.2⟩),o.un,Nat.le_succ_of_le o.len⟩
theorem TOk.step {n one:Nat}{T:List Tie}(o:TOk n one one T)(h:one < n)(hn:n≤30):TOk n (one + 1) 0 T :=
  ⟨o.ne,o.lt,o.wt,fun t ht=>by
    rcases o.be t ht with h|h|h
    · exact .inl ⟨Nat.lt_succ_of_lt h.1,Nat.lt_succ_of_lt h.2⟩
    · exact .inl ⟨Nat.lt_succ_of_le (Nat.le_of_eq h.1),Nat.lt_succ_of_lt h.2⟩
    · exact .inl ⟨Nat.lt_succ_of_lt h.2,Nat.lt_succ_of_le (Nat.le_of_eq h.1)⟩,o.un,ZM o.len (Nat.add_le_add_left (ZM (Nat.le_of_lt h) hn) _)⟩
theorem oF {α : Type}{x y : α}{l:List α}{k:Nat}(h:y∈l.take k++[x]++l.drop k):y=x∨y∈l:=by
  simp only [ZU,List.mem_append,List.mem_singleton] at h
  rcases h with h|h|h
  · exact .inr (List.mem_of_mem_take h)
  · exact .inl h
  · exact .inr (List.mem_of_mem_drop h)
theorem BM {α : Type}{R : α → α → Prop}(sym:∀ a b,R a b→R b a){x : α}{l:List α}(k:Nat)(h:l.Pairwise R)(hx:∀ y∈l,R x y):(l.take k++[x]++l.drop k).Pairwise R:=by
  have hl:(l.take k++l.drop k).Pairwise R:=by rw [List.take_append_drop];exact h
  rw [List.pairwise_append] at hl
  obtain⟨h1,h2,h3⟩:=hl
  rw [ZU,List.pairwise_append]
  refine⟨h1,?_,fun a ha b hb => ?_⟩
  · rw [List.singleton_append,List.pairwise_cons]
    exact⟨fun y hy=>hx y (List.mem_of_mem_drop hy),h2⟩
  · rcases List.mem_append.mp hb with hb|hb
    · simp at hb;subst hb;exact sym _ _ (hx a (List.mem_of_mem_take ha))
    · exact h3 a ha b hb
theorem TOk.put {n one other:Nat}{T:List Tie}(o:TOk n one other T)(h1:one < n)(h2:other < one){w:Int}(w1:1≤w)(w2:w≤400){t:Tie}(ht:t=⟨one,other,w⟩ ∨t=⟨other,one,w⟩)(k:Nat):TOk n one (other + 1) (T.take k++[t]++T.drop k) where
  ne:=fun s hs=>by
    rcases oF hs with rfl|hs
    · rcases ht with e|e<;>subst e
      · exact Nat.ne_of_gt h2
      · exact ZN h2
    · exact o.ne s hs
  lt:=fun s hs=>by
    rcases oF hs with rfl|hs
    · rcases ht with e|e<;>subst e
      · exact⟨h1,Nat.lt_trans h2 h1⟩
      · exact⟨Nat.lt_trans h2 h1,h1⟩
    · exact o.lt s hs
  wt:=fun s hs=>by
    rcases oF hs with rfl|hs
    · rcases ht with e|e<;>subst e<;>exact⟨w1,w2⟩
    · exact o.wt s hs
  be:=fun s hs=>by
    rcases oF hs with rfl|hs
    · rcases ht with e|e<;>subst e
      · exact .inr (.inl ⟨rfl,Nat.lt_succ_self _⟩)
      · exact .inr (.inr ⟨rfl,Nat.lt_succ_self _⟩)
    · exact o.skip.be s hs
  un:=BM (fun _ _=>gH.symm) k o.un fun s hs=>by
    have hb:=o.be s hs
    rcases ht with e|e<;>subst e<;>rcases hb with hb|hb|hb
    · exact⟨fun z=>Nat.ne_of_gt hb.1 z.1,fun z=>Nat.ne_of_gt hb.2 z.1⟩
    · exact⟨fun z=>Nat.ne_of_gt hb.2 z.2,fun z=>Nat.ne_of_gt (Nat.lt_trans hb.2 h2) z.1⟩
    · exact⟨fun z=>Nat.ne_of_gt (Nat.lt_trans hb.2 h2) z.1,fun z=>Nat.ne_of_gt hb.2 z.2⟩
    · exact⟨fun z=>Nat.ne_of_gt hb.2 z.2,fun z=>Nat.ne_of_gt hb.1 z.2⟩
    · exact⟨fun z=>Nat.ne_of_gt (Nat.lt_trans hb.2 h2) z.2,fun z=>Nat.ne_of_gt hb.2 z.1⟩
    · exact⟨fun z=>Nat.ne_of_gt hb.2 z.1,fun z=>Nat.ne_of_gt (Nat.lt_trans hb.2 h2) z.2⟩
  len:=by
    have e:(T.take k).length + (T.drop k).length=T.length:=by rw [← ZB,List.take_append_drop]
    rw [ZB,ZB,List.length_singleton,Nat.add_right_comm,e]
    exact Nat.succ_le_succ o.len
end Fm
namespace Fm
def IV (p:Int × Int):D:=.tup [.int p.1,.int p.2]
structure PH (n i:Nat) (T:List Tie) (bs:List (Int × Int)) (ss:List (Option Int)) (h:Hd):Prop where
  ti:h[1]? = some (.lst (T.map cr))
  ba:h[2]? = some (.lst (bs.map IV))
  st:h[3]? = some (.lst (ss.map bN))
  to:h[4]? = some (.lst (((List.range n).map (ET T)).map .int))
  len:h.length=5 + i
  lb:bs.length=i
  ls:ss.length=i
  os:∀ x∈ss,x=none∨x=some 0∨x=some 1
theorem Gy {g:Hd}{k:Nat}{c:du}(cc:du)(h:g[k]? = some c):(g.set k cc)[k]? = some cc:=List.getElem?_set_self (List.getElem?_eq_some_iff.mp h).1
theorem lM {j n:Nat}(h:j < n):ixN n (j:Int)=some j:=by simp [ixN,h]
noncomputable abbrev XP (lit:D) (hd:Option D) (n thin one:Nat) (a b:Option D):Sd:=[some lit,hd,some (.int n),some (.int thin),some (.ref 1),some (.ref 2),some (.ref 3),some (.ref 4),some (.int one),some (.ref (5 + one)),a,b]
abbrev SC (c t:Int) (b:Bool):du:=.lst [.int c,.int t,.bl b]
inductive PI (lit:D) (hd:Option D) (n thin one:Nat) (bs:List (Int × Int)) (ss:List (Option Int)) (m:Bool):Nat→Sd→Hd→Prop
  | mk {i:Nat} {h:Hd} {T:List Tie} {a b:Option D} {c t:Int} (P:PH n (one + 1) T bs ss h) (O:TOk n one i T) (hs:h[5 + one]? = some (SC c t m)):PI lit hd n thin one bs ss m i (XP lit hd n thin one a b) h
theorem few {l one n i:Nat}(h:l≤30 * one + i)(h1:one < n)(hn:n≤30)(hi:i < one):l < 1000:=by omega
end Fm
namespace Fm
noncomputable abbrev XQ (lit:D) (hd:Option D) (n thin:Nat) (a b c d:Option D):Sd:=[some lit,hd,some (.int n),some (.int thin),some (.ref 1),some (.ref 2),some (.ref 3),some (.ref 4),a,b,c,d]
theorem Ir {u:Option Int}(h:u∈[none,none,none,some 0,some 1]):u=none∨u=some 0∨u=some 1:=by
  simp at h;exact h
inductive PO (ns:List Int) (hd:Option D) (n thin:Nat):Nat→Sd→Hd→Prop
  | mk {i:Nat} {h:Hd} {a b c d:Option D} {T:List Tie} {bs:List (Int × Int)} {ss:List (Option Int)} (P:PH n i T bs ss h) (O:TOk n i 0 T):PO ns hd n thin i (XQ (.lit (ns.map .int)) hd n thin a b c d) h
structure IW (ns:List Int) (n:Nat) (T:List Tie) (bs:List Int) (ss:List (Option Int)) (h:Hd):Prop where
  run:wF [.lit (ns.map .int)] []=.ok (.tup [.int n,.ref 1,.ref (5 + n),.ref 3,.ref 4]) h
  n1:1≤n
  n30:n≤30
  ok:TOk n n 0 T
  ti:h[1]? = some (.lst (T.map cr))
  ba:h[5 + n]? = some (.lst (bs.map .int))
  st:h[3]? = some (.lst (ss.map bN))
  to:h[4]? = some (.lst (((List.range n).map (ET T)).map .int))
  len:h.length=6 + n
  lb:bs.length=n
  ls:ss.length=n
  os:∀ x∈ss,x=none∨x=some 0∨x=some 1
end Fm
namespace Fm
theorem fE {α : Type}{f : α → D}:∀ {l:List α},(∀ x∈l,pure? (f x)=true)→gx (l.map f)=true
  | [],_=>rfl
  | x :: l,h=>by
    simp only [List.map_cons,gx,Bool.and_eq_true]
    exact⟨h x (by simp),fE fun y hy=>h y (by simp [hy])⟩
theorem pR (w:Web):pure? w.enc=true:=by
  have h1:∀ r:List (Nat × Int),pure? (n9 r)=true:=fun r=>by
    unfold n9
    simp only [pure?]
    exact fE fun p _=>rfl
  have h2:gx (w.ties.map n9)=true:=fE fun r _=>h1 r
  have h3:gx (w.bars.map D.int)=true:=fE fun r _=>rfl
  have h4:gx (w.stays.map bN)=true:=fE fun r _=>by cases r<;>rfl
  unfold Web.enc
  simp only [pure?,gx,h2,h3,h4]
  rfl
def lN (p:Nat × Int):List Int:=[(p.1:Int),p.2]
def mM (x:Nat × Int):List (Nat × Int)→List (Nat × Int)
  | []=>[x]
  | y :: r=>if lexLt (lN x) (lN y)=true then x :: y :: r else y :: mM x r
def ca:List (Nat × Int)→List (Nat × Int)
  | []=>[]
  | x :: r=>mM x (ca r)
theorem uT (x:Nat × Int):∀ r,(mM x r).map lN=sK (lN x) (r.map lN)
  | []=>rfl
  | y :: r=>by
    simp only [mM,sK,List.map_cons]
    split
    · rfl
    · simp [uT x r]
theorem rT:∀ r,(ca r).map lN=cY (r.map lN)
  | []=>rfl
  | x :: r=>by simp only [ca,cY,List.map_cons,uT,rT r]
theorem pS {x p:Nat × Int}:∀ {r},p∈mM x r ↔ p=x∨p∈r
  | []=>by simp [mM]
  | y :: r=>by
    simp only [mM]
    split
    · simp
    · simp only [List.mem_cons,pS (r:=r)]
      constructor
      · rintro (h|h|h)
        · exact .inr (.inl h)
        · exact .inl h
        · exact .inr (.inr h)
      · rintro (h|h|h)
        · exact .inr (.inl h)
        · exact .inl h
        · exact .inr (.inr h)
theorem dj {p:Nat × Int}:∀ {r},p∈ca r ↔ p∈r
  | []=>by simp [ca]
  | x :: r=>by simp only [ca,pS,dj (r:=r),List.mem_cons]
theorem uU (f:Nat × Int→Int)(x:Nat × Int):∀ r,((mM x r).map f).sum=f x + (r.map f).sum
  | []=>by simp [mM]
  | y :: r=>by
    simp only [mM]
    split
    · simp
    · simp [uU f x r];omega
theorem mN (f:Nat × Int→Int):∀ r,((ca r).map f).sum=(r.map f).sum
  | []=>rfl
  | x :: r=>by simp [ca,uU,mN f r]
def nbs (T:List Tie) (i:Nat):List (Nat × Int):=T.filterMap fun t=>(far i t).map fun j=>(j,t.w)
def og (p:Nat × Int):Int × D:=((p.1:Int),.int p.2)
theorem uV (T:List Tie)(t:Tie)(i:Nat):nbs (T++[t]) i=nbs T i++(match far i t with|some j=>[(j,t.w)] | none=>[]):=by
  unfold nbs
  rw [List.filterMap_append]
  congr 1
  cases e:far i t<;>simp [e]
theorem zf {l:List (Nat × Int)}{k:Nat}(h:∀ p∈l,p.1≠k):pA (l.map og) k=none:=by
  unfold pA
  rw [List.find?_eq_none.mpr]
  · rfl
  · intro x hx
    obtain⟨p,hp,rfl⟩:=List.mem_map.mp hx
    have hne:=h p hp
    have : ¬ ((p.1:Int)=(k:Int)):=fun z=>hne (by omega)
    show ¬ (decide ((p.1:Int)=(k:Int))=true)
    rw [decide_eq_true_eq]
    exact this
theorem uW {l:List (Nat × Int)}{k:Nat}{v:Int}(h:∀ p∈l,p.1≠k):wa (l.map og) k (.int v)=(l++[(k,v)]).map og:=by
  unfold wa
  rw [if_neg]
  · simp [og]
  · simp only [List.any_eq_true,List.mem_map,decide_eq_true_eq]
    rintro⟨x,⟨p,hp,rfl⟩,e⟩
    have hne:=h p hp
    have e:(p.1:Int)=(k:Int):=e
    exact hne (by omega)
theorem uX {i j:Nat}{t:Tie}(h:far i t=some j):(t.a=i∧t.b=j)∨(t.b=i∧t.a=j):=by
  unfold far at h
  by_cases a:t.a=i
  · rw [if_pos a] at h;exact .inl ⟨a,ZT h⟩
  · rw [if_neg a] at h
    by_cases b:t.b=i
    · rw [if_pos b] at h;exact .inr ⟨b,ZT h⟩
    · rw [if_neg b] at h;cases h
theorem wG {T:List Tie}{t:Tie}{i j:Nat}(hf:far i t=some j)(un:∀ s∈T,gH s t):∀ p∈nbs T i,p.1≠j:=fun p hp e=>by
  obtain⟨s,hs,q⟩:=List.mem_filterMap.mp hp
  obtain⟨k,hk,rfl⟩:=Option.map_eq_some_iff.mp q
  have u:=un s hs
  rw [show k=j from e] at hk
  rcases uX hf with ⟨a1,a2⟩|⟨a1,a2⟩<;>rcases uX hk with ⟨b1,b2⟩|⟨b1,b2⟩
  · exact u.1 ⟨b1.trans a1.symm,b2.trans a2.symm⟩
  · exact u.2 ⟨b2.trans a2.symm,b1.trans a1.symm⟩
  · exact u.2 ⟨b1.trans a1.symm,b2.trans a2.symm⟩
  · exact u.1 ⟨b2.trans a2.symm,b1.trans a1.symm⟩
theorem zg {n:Nat}{t:Tie}(h1:t.a≠t.b)(h2:t.a < n)(h3:t.b < n)(h4:1≤t.w∧t.w≤400)(h:Hd):lL [.int n,cr t] h=.ok (.bl true) h:=by
  have e1:(t.a:Int)≤n - 1:=Int.le_sub_one_of_lt (Int.ofNat_lt.mpr h2)
  have e2:(t.b:Int)≤n - 1:=Int.le_sub_one_of_lt (Int.ofNat_lt.mpr h3)
  have e3 : ¬ (t.a:Int)=t.b:=fun z=>h1 (Int.ofNat.inj z)
  have bt:∀ {i a b:Int},a≤i→i≤b→bo [.int i,.int a,.int b] h=.ok (.bl true) h:=fun x y=>by rw [gF,decide_eq_true x,decide_eq_true y];rfl
  have s1:sIf (tOr (eT (tE (gv .tuple (aa 1)))) (tE (ah oNe (cz (lOf (aa 1))) (fC (.int 3))))) (bc (fC (.bl false))) bw [some (.int n),some (cr t),none,none] h=.nx [some (.int n),some (cr t),none,none] h:=d9 (jM (fA (b:=true) (bn rfl)) (bn (aq (dF (bU rfl rfl)) rfl rfl)))
  have s4:sIf (tOr (eT (tE (am bo (ad (aa 2) (ad (fC (.int 0)) (ad (ah nZ (aa 0) (fC (.int 1))) ar)))))) (eT (tE (am bo (ad (aa 3) (ad (fC (.int 0)) (ad (ah nZ (aa 0) (fC (.int 1))) ar))))))) (bc (fC (.bl false))) bw [some (.int n),some (cr t),some (.int t.a),some (.int t.b)] h=.nx [some (.int n),some (cr t),some (.int t.a),some (.int t.b)] h:=d9 (jM (fA (b:=true) (bn (av (aj rfl (aj rfl (aj (aq rfl rfl rfl) rfl))) (bt (Int.natCast_nonneg _) e1)))) (fA (b:=true) (bn (av (aj rfl (aj rfl (aj (aq rfl rfl rfl) rfl))) (bt (Int.natCast_nonneg _) e2)))))
  have s5:bc (fT (kE (tE (ah oNe (aa 2) (aa 3))) (tE (am bo (ad (fAt (aa 1) (fC (.int 2))) (ad (fC (.int 1)) (ad (fC (.int 400)) ar))))))) [some (.int n),some (cr t),some (.int t.a),some (.int t.b)] h=.rt (.bl true) h:=bh (rN (pM (bn (aq rfl rfl (by rw [wz,decide_eq_false e3];rfl))) (bn (av (aj (aP rfl rfl rfl rfl) (aj rfl (aj rfl rfl))) (bt h4.1 h4.2)))))
  exact (cI rfl rfl ((bx s1).trans ((bx (aH (aP rfl rfl rfl rfl))).trans ((bx (aH (aP rfl rfl rfl rfl))).trans ((bx s4).trans s5))))).trans bj
structure NH (n A:Nat) (h0:Hd) (T:List Tie) (h:Hd):Prop where
  pre:∃ g,h=h0++g∧g.length=n + 1
  dc:∀ j,j < n→h[A + j]? = some (.dct ((nbs T j).map og))
  rf:h[A + n]? = some (.lst ((List.range n).map fun i=>.ref (A + i)))
theorem NH.put {n A:Nat}{h0:Hd}{T:List Tie}{h:Hd}(hA:A=h0.length)(N:NH n A h0 T h){j:Nat}(hj:j < n)(c:du):(∃ g,h.set (A + j) c=h0++g∧g.length=n + 1)∧(h.set (A + j) c)[A + j]? = some c∧(∀ k,k≠j→(h.set (A + j) c)[A + k]? = h[A + k]?):=by
  obtain⟨g,e,l⟩:=N.pre
  have lt:=(List.getElem?_eq_some_iff.mp (N.dc j hj)).1
  exact⟨⟨g.set j c,by rw [e,oC hA],by rw [List.length_set];exact l⟩,List.getElem?_set_self lt,fun k hk=>ZP fun z=>hk (Nat.add_left_cancel z).symm⟩
def SNx (a b:SF):Prop:=∀ {σ h σ' h'},a σ h=.nx σ' h'→b σ h=.nx σ' h'
theorem SNx.refl {a:SF}:SNx a a:=fun e=>e
theorem BN {n i j:Nat}{T:List Tie}(hn:n≤30)(O:TOk n n 0 T):((nbs (T.take i) j).map og).length < SZ:=by
  rw [ZA]
  exact ZS (ZM (List.length_filterMap_le _ _) (ZM (List.length_take_le' _ _) (ZM O.len (Nat.add_le_add_right (Nat.mul_le_mul_left 30 hn) 0)))) (by decide)
noncomputable abbrev XN (n tk A:Nat) (a b c:Option D):Sd:=[some (.int n),some (.ref tk),some (.ref (A + n)),a,b,c]
theorem DZ {n A tk i:Nat}(hn:n≤30){T:List Tie}(O:TOk n n 0 T){h h0:Hd}(hA:A=h.length)(N:NH n A h (T.take i) h0){t:Tie}(mt:t∈T)(un:∀ s∈T.take i,gH s t)(tk1:T.take (i + 1)=T.take i++[t])(b c:Option D) :
    ∃ h6,dC (XN n tk A (some (cr t)) b c) h0=.nx (XN n tk A (some (cr t)) (some (.int t.a)) (some (.int t.b))) h6∧NH n A h (T.take (i + 1)) h6:=by
  have tne:=O.ne t mt
  have tlt:=O.lt t mt
  have fa:far t.a t=some t.b:=if_pos rfl
  have fb:far t.b t=some t.a:=(if_neg tne).trans (if_pos rfl)
  have na:=wG fa un
  have nb:=wG fb un
  have rat:∀ j:Nat,j < n→atI ((List.range n).map fun i=>D.ref (A + i)) (j:Int)=some (.ref (A + j)):=fun j hj=>fJ (by rw [ZQ,List.getElem?_range hj];rfl)
  have ra:=rat t.a tlt.1
  have rb:=rat t.b tlt.2
  have da:=N.dc t.a tlt.1
  obtain⟨p1,p2,p3⟩:=N.put hA tlt.1 (.dct ((nbs (T.take i) t.a++[(t.b,t.w)]).map og))
  obtain⟨h5,hh5⟩ : ∃ h5,h5=h0.set (A + t.a) (.dct ((nbs (T.take i) t.a++[(t.b,t.w)]).map og)):=⟨_,rfl⟩
  rw [← hh5] at p1 p2 p3
  have rf5:h5[A + n]? = some (.lst ((List.range n).map fun i=>.ref (A + i))):=(p3 n (Nat.ne_of_gt tlt.1)).trans N.rf
  have db:h5[A + t.b]? = some (.dct ((nbs (T.take i) t.b).map og)):=(p3 t.b (Ne.symm tne)).trans (N.dc t.b tlt.2)
  obtain⟨h6,hh6⟩ : ∃ h6,h6=h5.set (A + t.b) (.dct ((nbs (T.take i) t.b++[(t.a,t.w)]).map og)):=⟨_,rfl⟩
  have s4:sIf (tE (ah yQ (aa 5) (fAt (aa 2) (aa 4)))) f6 bw (XN n tk A (some (cr t)) (some (.int t.a)) (some (.int t.b))) h0=.nx (XN n tk A (some (cr t)) (some (.int t.a)) (some (.int t.b))) h0:=by
    refine d9 (bn (aq rfl (aP rfl rfl (aJ N.rf) ra) ?_))
    rw [Gu da,zf na];rfl
  have s5:pB (fAt (aa 2) (aa 4)) (aa 5) (fAt (aa 3) (fC (.int 2))) (XN n tk A (some (cr t)) (some (.int t.a)) (some (.int t.b))) h0=.nx (XN n tk A (some (cr t)) (some (.int t.a)) (some (.int t.b))) h5:=by
    rw [hh5,← uW na]
    exact xV (aP rfl rfl rfl rfl) (aP rfl rfl (aJ N.rf) ra) rfl da (BN hn O)
  have s6:pB (fAt (aa 2) (aa 5)) (aa 4) (fAt (aa 3) (fC (.int 2))) (XN n tk A (some (cr t)) (some (.int t.a)) (some (.int t.b))) h5=.nx (XN n tk A (some (cr t)) (some (.int t.a)) (some (.int t.b))) h6:=by
    rw [hh6,← uW nb]
    exact xV (aP rfl rfl rfl rfl) (aP rfl rfl (aJ rf5) rb) rfl db (BN hn O)
  refine⟨h6,(aE (d9 (fA (bn (av (aj rfl (aj rfl rfl)) (zg tne tlt.1 tlt.2 (O.wt t mt) h0)))))).trans ((aE (aH (aP rfl rfl rfl rfl))).trans ((aE (aH (aP rfl rfl rfl rfl))).trans ((aE s4).trans ((aE s5).trans s6)))),?_,fun j hj => ?_,?_⟩
  · obtain⟨g,e,l⟩:=p1
    exact⟨_,by rw [hh6,e,oC hA],by rw [List.length_set];exact l⟩
  · rw [tk1,uV]
    by_cases e1:t.b=j
    · subst e1
      rw [hh6,Gy _ db,fb]
    · rw [hh6,ZP (fun z=>e1 (Nat.add_left_cancel z))]
      by_cases e2:t.a=j
      · subst e2
        rw [p2,fa]
      · have:far j t=none:=(if_neg e2).trans (if_neg e1)
        rw [p3 j (Ne.symm e2),this,N.dc j hj]
        simp only [List.append_nil]
  · rw [hh6];exact (ZP (fun z=>ZN tlt.2 (Nat.add_left_cancel z))).trans rf5
theorem zh {n:Nat}{h:Hd}{A:Nat}(hA:A=h.length):∃ h1 g,cx none ((List.range n).map fun k:Nat=>D.int k) (gN 0) [] rA ((List.range n).map fun k:Nat=>D.int k) [none] h=.ok ((List.range n).map fun i=>.ref (A + i)) h1∧h1=h++g∧g.length=n ∧ ∀ j,j < n→h1[A + j]? = some (.dct []):=by
  obtain⟨ds,h1,k1,l1,v1,σ1,-,g,hg,lg,g1⟩:=kP (g:=none) (all:=(List.range n).map fun k:Nat=>D.int k) (tg:=gN 0) (xs:=(List.range n).map fun k:Nat=>D.int k) (k:=0)
    (e:=rA) (σ:=[none]) (h:=h)
    (P:=fun i σ h'=>(∃ a,σ = [a]) ∧ ∃ g,h'=h++g∧g.length=i ∧ ∀ j,j < i→h'[A + j]? = some (.dct [])) (V:=fun i d=>d=.ref (A + i)) (fun _ _ _ _=>trivial) (by
      rintro i x σ h0 hx ⟨⟨a,rfl⟩,g,e0,lg,e1⟩
      obtain⟨hi,rfl⟩:=cF hx
      rw [Nat.zero_add] at lg e1 ⊢
      have hl:h0.length=A + i:=by rw [e0,ZB,lg,hA]
      refine⟨_,rfl,.ref h0.length,h0++[.dct []],rfl,by rw [hl],⟨_,rfl⟩,g++[.dct []],by rw [e0,ZU],by rw [ZB,lg];rfl,fun j hj => ?_⟩
      by_cases hji:j < i
      · exact dH _ (e1 j hji)
      · rw [Nat.le_antisymm (Nat.le_of_lt_succ hj) (Nat.not_lt.mp hji),← hl];exact ZG) ⟨⟨_,rfl⟩,[],(List.append_nil _).symm,rfl,fun j hj=>absurd hj (Nat.not_lt_zero _)⟩
  rw [ZA,ZO] at l1
  rw [Nat.zero_add,ZA,ZO] at lg g1
  have e1:ds=(List.range n).map fun i=>.ref (A + i):=pK l1 fun i d hd=>by have:=v1 i d hd;rwa [Nat.zero_add] at this
  exact⟨h1,g,by rw [k1,e1],hg,lg,g1⟩
inductive NI (n A tk:Nat) (h:Hd) (T:List Tie):Nat→Sd→Hd→Prop
  | mk {i:Nat} {h':Hd} {a b c:Option D} (N:NH n A h (T.take i) h'):NI n A tk h T i (XN n tk A a b c) h'
theorem Gz {n:Nat}(hn1:1≤n)(hn:n≤30){T:List Tie}(O:TOk n n 0 T){B:SF}(hB:SNx dC B){rest:List D}{h:Hd}{tk:Nat}(ht:h[tk]? = some (.lst (T.map cr++rest))) :
    ∃ h2 h3 a3 b3 c3,aD (gN 2) (bL (bJ 1 [] (bi (aa 0)) (gN 0) [] rA)) [some (.int n),some (.ref tk),none,none,none,none] h=.nx [some (.int n),some (.ref tk),some (.ref (h.length + n)),none,none,none] h2∧h2[tk]? = some (.lst (T.map cr++rest)) ∧
      fq (some tk) (T.map cr++rest) (gN 3) B (T.map cr++rest) [some (.int n),some (.ref tk),some (.ref (h.length + n)),none,none,none] h2=fq (some tk) (T.map cr++rest) (gN 3) B rest [some (.int n),some (.ref tk),some (.ref (h.length + n)),a3,b3,c3] h3 ∧
      h3[tk]? = some (.lst (T.map cr++rest))∧NH n h.length h T h3:=by
  obtain⟨A,hA⟩ : ∃ A,A=h.length:=⟨_,rfl⟩
  obtain⟨h1,g,k1,hg,lg,g1⟩:=zh (n:=n) hA
  obtain⟨h2,hh2⟩ : ∃ h2,h2=h1++[.lst ((List.range n).map fun i=>.ref (A + i))]:=⟨_,rfl⟩
  have l1':h1.length=A + n:=by rw [hg,ZB,lg,hA]
  have N0:NH n A h [] h2:=⟨⟨g++[.lst ((List.range n).map fun i=>.ref (A + i))],by rw [hh2,hg,ZU],by rw [ZB,lg];rfl⟩,fun j hj=>by rw [hh2];exact dH _ (g1 j hj),by rw [hh2,← l1'];exact ZG⟩
  obtain⟨_,h3,k3,@⟨_,a3,b3,c3,N3⟩⟩:=mG (rest:=rest) (P:=NI n A tk h T) (g:=some tk) (k:=0)
      (all:=T.map cr++rest) (fun _ _ h' q=>by
        obtain⟨N⟩:=q
        obtain⟨g,e,_⟩:=N.pre
        show h'[tk]? = _
        rw [e];exact dH _ ht)
      (xs:=T.map cr) (tg:=gN 3) (σ:=XN n tk A none none none) (h:=h2) (b:=B) (by
      intro i x σ h0 hx z
      rw [Nat.zero_add] at z ⊢
      obtain @⟨_,a,b,c,N⟩:=z
      have hiT:i < T.length:=by have:=(List.getElem?_eq_some_iff.mp hx).1;rwa [ZA] at this
      rw [ZQ,ZE hiT] at hx
      cases hx
      have mt:T[i]∈T:=List.getElem_mem hiT
      have un:∀ s∈T.take i,gH s T[i]:=fun s hs=>by
        obtain⟨k,hk,rfl⟩:=List.getElem_of_mem hs
        rw [List.length_take] at hk
        rw [List.getElem_take]
        exact List.pairwise_iff_getElem.mp O.un k i _ hiT (Nat.lt_of_lt_of_le hk (Nat.min_le_left _ _))
      obtain⟨h6,q6,N6⟩:=DZ (tk:=tk) hn O hA N mt un (List.take_succ_eq_append_getElem hiT) b c
      exact⟨_,rfl,_,h6,hB q6,.mk N6⟩) (.mk N0)
  rw [Nat.zero_add,ZA,List.take_length] at N3
  have s2:aD (gN 2) (bL (bJ 1 [] (bi (aa 0)) (gN 0) [] rA)) [some (.int n),some (.ref tk),none,none,none,none] h=.nx [some (.int n),some (.ref tk),some (.ref (A + n)),none,none,none] h2:=by
    rw [hh2,← l1']
    exact aH (eM (cM (cv rfl (ZM hn (by decide))) k1) (by rw [ZA,ZO];exact ZM hn (by decide)))
  have t2:h2[tk]? = some (.lst (T.map cr++rest)):=by rw [hh2,hg];exact dH _ (dH _ ht)
  obtain⟨g3,e3,_⟩:=N3.pre
  refine⟨h2,h3,a3,b3,c3,by rw [← hA];exact s2,t2,by rw [← hA];exact k3,?_,by rw [← hA];exact N3⟩
  rw [e3];exact dH _ ht
theorem qD {n:Nat}(hn1:1≤n)(hn:n≤30){T:List Tie}(O:TOk n n 0 T){h:Hd}{tk:Nat}(ht:h[tk]? = some (.lst (T.map cr))) :
    ∃ h',ee [.int n,.ref tk] h=.ok (.ref (h.length + n)) h'∧NH n h.length h T h':=by
  obtain⟨h2,h3,a3,b3,c3,s2,t2,k3,t3,N3⟩:=Gz hn1 hn O (B:=dC) SNx.refl (rest:=[]) (h:=h) (tk:=tk) (by rw [List.append_nil];exact ht)
  rw [List.append_nil] at t2 t3 k3
  refine⟨h3,?_,N3⟩
  have s1:sIf (eT (tE (gv .list (aa 1)))) f6 bw [some (.int n),some (.ref tk),none,none,none,none] h=.nx [some (.int n),some (.ref tk),none,none,none,none] h:=d9 (fA (bn (wv rfl ht)))
  have s3:dA (dW (aa 1)) (gN 3) dC [some (.int n),some (.ref tk),some (.ref (h.length + n)),none,none,none] h2=.nx [some (.int n),some (.ref tk),some (.ref (h.length + n)),a3,b3,c3] h3:=by
    have e:fq (some tk) (T.map cr) (gN 3) dC [] [some (.int n),some (.ref tk),some (.ref (h.length + n)),a3,b3,c3] h3=.nx [some (.int n),some (.ref tk),some (.ref (h.length + n)),a3,b3,c3] h3:=by
      unfold fq
      exact if_pos t3
    rw [e] at k3
    exact c9 (dR rfl t2) k3
  have st:([D.int n,D.ref tk].map some++List.replicate (6 - [D.int n,D.ref tk].length) none:Sd)=[some (.int n),some (.ref tk),none,none,none,none]:=rfl
  unfold ee bB runB
  rw [if_pos (show [D.int n,D.ref tk].length=2 from rfl),st,aE s1,aE s2,aE s3]
  simp [letGo,pure?]
end Fm
namespace Fm
theorem HW (a b:Int)(h:Hd):oNe (.int a) (.int b) h=.ok (.bl (!decide (a=b))) h:=rfl
theorem BO {l:List Nat}{n:Nat}(nd:l.Nodup)(h:∀ x∈l,x < n):l.length≤n:=by
  induction n generalizing l with
  | zero=>match l,h with
    | [],_=>exact ZL _
    | x :: _,h=>exact absurd (h x ZV) (Nat.not_lt_zero _)
  | succ n ih =>
    by_cases m:n∈l
    · have:=ih (nd.erase n) fun x hx=>by
        have z:=(List.Nodup.mem_erase_iff nd).mp hx
        exact Nat.lt_of_le_of_ne (Nat.le_of_lt_succ (h x z.2)) z.1
      rw [List.length_erase_of_mem m] at this
      exact Nat.le_add_of_sub_le this
    · exact Nat.le_succ_of_le (ih nd fun x hx=>Nat.lt_of_le_of_ne (Nat.le_of_lt_succ (h x hx)) fun z=>m (z ▸ hx))
def bH (n:Nat) (T:List Tie) (bs:List Int) (ss:List (Option Int)):Web:=⟨(List.range n).map fun i=>ca (nbs T i),bs,ss⟩
theorem lO:∀ l:List (Nat × Int),eY (l.map og)=some (l.map lN)
  | []=>rfl
  | p :: l=>by
    have ih:=lO l
    simp only [List.map_cons]
    show (eY (l.map og)).map _=_
    rw [ih]
    rfl
theorem mO {T:List Tie}(un:T.Pairwise gH)(i:Nat):((nbs T i).map (·.1)).Nodup:=by
  unfold nbs
  induction T with
  | nil=>simp
  | cons t T ih =>
    obtain⟨h1,h2⟩:=List.pairwise_cons.mp un
    have ih:=ih h2
    cases e:far i t with
    | none=>simp only [List.filterMap_cons,e,Option.map_none];exact ih
    | some j =>
      simp only [List.filterMap_cons,e,Option.map_some,List.map_cons,List.nodup_cons]
      refine⟨fun z => ?_,ih⟩
      obtain⟨p,hp,hpj⟩:=List.mem_map.mp z
      exact wG (T:=T) e (fun s hs=>(h1 s hs).symm) p hp hpj
theorem D0 {l:List (Nat × Int)}(nd:(l.map (·.1)).Nodup):(l.map lN).Nodup:=by
  rw [List.nodup_iff_pairwise_ne,List.pairwise_map] at nd ⊢
  exact nd.imp fun {a b} h e=>h (by have:=(List.cons.inj e).1;omega)
theorem rV {α : Type}{l:List α}:fY (l.map fun _=>D.bl true)=some (l.map fun _=>true):=by
  induction l with
  | nil=>rfl
  | cons x l ih=>simp [fY,ih]
theorem sV {n:Nat}{h:Hd}{nk bk:Nat}{l:List D}{bs:List Int}(hn:h[nk]? = some (.lst l))(hl:l.length=n)(hb:h[bk]? = some (.lst (bs.map .int)))(lb:bs.length=n):eN [.ref nk,.ref bk] h=.ok (.tup (bs.map .int)) h:=by
  have c:cx (some bk) (bs.map D.int) (gN 0) [] (am cP (ad (aa 0) ar)) (bs.map D.int) [none] h=.ok ((bs.map D.int).map fun _=>D.bl true) h:=by
    have:=bD (g:=some bk) (all:=bs.map D.int) (tg:=gN 0) (cs:=[]) (e:=am cP (ad (aa 0) ar)) (h:=h) (I:=fun σ=>∃ a,σ = [a]) (fun _=>true) (fun _=>.bl true) hb (xs:=bs.map D.int) (σ:=[none]) (by
      rintro x hx σ ⟨a,rfl⟩
      obtain⟨i,_,rfl⟩:=List.mem_map.mp hx
      exact⟨_,rfl,⟨_,rfl⟩,rfl,fun _=>av (aj rfl rfl) (lJ _ _)⟩) ⟨_,rfl⟩
    rw [this,List.filter_eq_self.mpr (by simp)]
  have al:((bs.map D.int).map fun _=>true).all id=true:=by simp
  have lg:=cO (h:=h) (g:=[]) (d:=.tup (bs.map D.int)) (by simp only [pure?];exact fE fun _ _=>rfl)
  rw [List.append_nil] at lg
  have s1:sIf (tE (ah jz (aa 1) (fC .non))) f6 bw [some (.ref nk),some (.ref bk)] h=.nx [some (.ref nk),some (.ref bk)] h:=d9 (bn (aq rfl rfl rfl))
  have s2:sIf (tOr (eT (tE (gv .list (aa 1)))) (tE (ah oNe (cz (lOf (aa 1))) (cz (lOf (aa 0)))))) f6 bw [some (.ref nk),some (.ref bk)] h=.nx [some (.ref nk),some (.ref bk)] h:=by
    exact d9 (jM (fA (b:=true) (bn (wv rfl hb))) (bn (aq (dF (bU rfl (aJ hb))) (dF (bU rfl (aJ hn))) (by rw [HW,ZA,lb,hl,decide_eq_true rfl];rfl))))
  have s3:sIf (eT (tE (vX (bJ 1 [] (dW (aa 1)) (gN 0) [] (am cP (ad (aa 0) ar)))))) f6 bw [some (.ref nk),some (.ref bk)] h=.nx [some (.ref nk),some (.ref bk)] h:=by
    exact d9 (fA (b:=true) (bn ((BG (cM (dR rfl hb) c) rV).trans (by rw [al]))))
  have s4:bc (er (lOf (aa 1))) [some (.ref nk),some (.ref bk)] h=.rt (.tup (bs.map .int)) h:=bh (iV (bU rfl (aJ hb)))
  have st:([D.ref nk,D.ref bk].map some++List.replicate (2 - [D.ref nk,D.ref bk].length) none:Sd)=[some (.ref nk),some (.ref bk)]:=rfl
  unfold eN bB runB
  rw [if_pos (show [D.ref nk,D.ref bk].length=2 from rfl),st,aE s1,aE s2,aE s3,s4]
  exact lg
theorem qE {n:Nat}{h:Hd}{sk:Nat}{ss:List (Option Int)}(hs:h[sk]? = some (.lst (ss.map bN)))(ls:ss.length=n)(os:∀ x∈ss,x=none∨x=some 0∨x=some 1):ek [.int n,.ref sk] h=.ok (.tup (ss.map bN)) h:=by
  have c:cx (some sk) (ss.map bN) (gN 0) [] (fT (tOr (tE (ah jz (aa 0) (fC .non))) (tE (am bV (ad (aa 0) ar))))) (ss.map bN) [none] h=.ok ((ss.map bN).map fun _=>D.bl true) h:=by
    have:=bD (g:=some sk) (all:=ss.map bN) (tg:=gN 0) (cs:=[]) (e:=fT (tOr (tE (ah jz (aa 0) (fC .non))) (tE (am bV (ad (aa 0) ar))))) (h:=h) (I:=fun σ=>∃ a,σ = [a]) (fun _=>true) (fun _=>.bl true) hs (xs:=ss.map bN) (σ:=[none]) (by
      rintro x hx σ ⟨a,rfl⟩
      obtain⟨i,hi,rfl⟩:=List.mem_map.mp hx
      refine⟨_,rfl,⟨_,rfl⟩,rfl,fun _ => ?_⟩
      rcases os i hi with e|e|e<;>subst e
      · exact rN (Gp (bn (aq rfl rfl rfl)))
      · exact rN (jM (bn (aq rfl rfl rfl)) (bn (av (aj rfl rfl) (gG 0 h))))
      · exact rN (jM (bn (aq rfl rfl rfl)) (bn (av (aj rfl rfl) (gG 1 h))))) ⟨_,rfl⟩
    rw [this,List.filter_eq_self.mpr (by simp)]
  have lg:=cO (h:=h) (g:=[]) (d:=.tup (ss.map bN)) (by simp only [pure?];exact fE fun x _=>by cases x<;>rfl)
  rw [List.append_nil] at lg
  have s1:sIf (tE (ah jz (aa 1) (fC .non))) (bc (er (bJ 1 [] (bi (aa 0)) (gN 0) [] (fC .non)))) bw [some (.int n),some (.ref sk)] h=.nx [some (.int n),some (.ref sk)] h:=d9 (bn (aq rfl rfl rfl))
  have s2:sIf (tOr (eT (tE (gv .list (aa 1)))) (tE (ah oNe (cz (lOf (aa 1))) (aa 0)))) f6 bw [some (.int n),some (.ref sk)] h=.nx [some (.int n),some (.ref sk)] h:=by
    exact d9 (jM (fA (b:=true) (bn (wv rfl hs))) (bn (aq (dF (bU rfl (aJ hs))) rfl (by rw [HW,ZA,ls,decide_eq_true rfl];rfl))))
  have s3:sIf (eT (tE (vX (bJ 1 [] (dW (aa 1)) (gN 0) [] (fT (tOr (tE (ah jz (aa 0) (fC .non))) (tE (am bV (ad (aa 0) ar))))))))) f6 bw [some (.int n),some (.ref sk)] h=.nx [some (.int n),some (.ref sk)] h:=by
    have al:((ss.map bN).map fun _=>true).all id=true:=by simp
    exact d9 (fA (b:=true) (bn ((BG (cM (dR rfl hs) c) rV).trans (by rw [al]))))
  have s4:bc (er (lOf (aa 1))) [some (.int n),some (.ref sk)] h=.rt (.tup (ss.map bN)) h:=bh (iV (bU rfl (aJ hs)))
  have st:([D.int n,D.ref sk].map some++List.replicate (2 - [D.int n,D.ref sk].length) none:Sd)=[some (.int n),some (.ref sk)]:=rfl
  unfold ek bB runB
  rw [if_pos (show [D.int n,D.ref sk].length=2 from rfl),st,aE s1,aE s2,aE s3,s4]
  exact lg
theorem D1 {n A:Nat}(hn:n≤30){T:List Tie}(O:TOk n n 0 T){h h1:Hd}(N:NH n A h T h1) :
    cx (some (A + n)) ((List.range n).map fun i=>.ref (A + i)) (gN 0) [] (er (kM (aa 0))) ((List.range n).map fun i=>.ref (A + i)) [none] h1=.ok (((List.range n).map fun i=>ca (nbs T i)).map n9) h1:=by
  have:=bD (g:=some (A + n)) (all:=(List.range n).map fun i=>.ref (A + i)) (tg:=gN 0) (cs:=[]) (e:=er (kM (aa 0))) (h:=h1) (I:=fun σ=>∃ a,σ = [a]) (fun _=>true)
    (fun d=>match d with | .ref k=>n9 (ca (nbs T (k - A)))|_=>.non) N.rf (xs:=(List.range n).map fun i=>.ref (A + i)) (σ:=[none]) (by
      rintro x hx σ ⟨a,rfl⟩
      obtain⟨i,hi,rfl⟩:=List.mem_map.mp hx
      have hi:=List.mem_range.mp hi
      refine⟨_,rfl,⟨_,rfl⟩,rfl,fun _ => ?_⟩
      have nd:=mO O.un i
      have l64:((nbs T i).map lN).length < 64:=by
        have lt:∀ p∈nbs T i,p.1 < n:=fun p hp=>by
          unfold nbs at hp
          obtain⟨t,ht',q⟩:=List.mem_filterMap.mp hp
          have:=O.lt t ht'
          unfold far at q
          by_cases a1:t.a=i
          · rw [if_pos a1] at q;simp at q;subst q;exact this.2
          · rw [if_neg a1] at q
            by_cases a2:t.b=i
            · rw [if_pos a2] at q;simp at q;subst q;exact this.1
            · rw [if_neg a2] at q;cases q
        have:=BO nd (n:=n) (fun x hx=>by
          obtain⟨p,hp,rfl⟩:=List.mem_map.mp hx
          exact lt p hp)
        simp at this ⊢
        omega
      have e:((cY ((nbs T i).map lN)).map fP)=(ca (nbs T i)).map kO:=by rw [← rT,List.map_map];rfl
      simp only [List.set_cons_zero,er,kM,aa,slot,List.getElem?_cons_zero,aG,N.dc i hi,lO,if_pos (And.intro l64 (D0 nd)),e,n9,Nat.add_sub_cancel_left]) ⟨_,rfl⟩
  rw [this,List.filter_eq_self.mpr (by simp),List.map_map,List.map_map]
  congr 1
  apply List.map_congr_left
  intro i _
  simp
theorem rW {n:Nat}(hn1:1≤n)(hn:n≤30){T:List Tie}(O:TOk n n 0 T){bs:List Int}{ss:List (Option Int)}(lb:bs.length=n)(ls:ss.length=n)(os:∀ x∈ss,x=none∨x=some 0∨x=some 1){h:Hd}{tk bk sk:Nat}
    (ht:h[tk]? = some (.lst (T.map cr))) (hb:h[bk]? = some (.lst (bs.map .int))) (hs:h[sk]? = some (.lst (ss.map bN))):eC [.int n,.ref tk,.ref bk,.ref sk] h=.ok (bH n T bs ss).enc h:=by
  obtain⟨h1,r1,N⟩:=qD hn1 hn O ht
  obtain⟨A,hA⟩ : ∃ A,A=h.length:=⟨_,rfl⟩
  rw [← hA] at r1 N
  obtain⟨g,hg,lg⟩:=N.pre
  have old:∀ {k:Nat} {c:du},h[k]? = some c→h1[k]? = some c:=fun {k c} e=>by rw [hg,ZC (List.getElem?_eq_some_iff.mp e).1];exact e
  have comp:=D1 hn O N
  have bt:=sV (n:=n) (l:=(List.range n).map fun i=>.ref (A + i)) N.rf (by simp) (old hb) lb
  have stt:=qE (n:=n) (old hs) ls os
  have i1:(1:Int)≤n:=Int.ofNat_le.mpr hn1
  have i2:(n:Int)≤30:=Int.ofNat_le.mpr hn
  have rf:=N.rf
  have s1:sIf (eT (tE (am bo (ad (aa 0) (ad (fC (.int 1)) (ad (fC (.int 30)) ar)))))) f6 bw [some (.int n),some (.ref tk),some (.ref bk),some (.ref sk),none,none] h=.nx [some (.int n),some (.ref tk),some (.ref bk),some (.ref sk),none,none] h:=d9 (fA (b:=true) (bn (av (aj rfl (aj rfl (aj rfl rfl))) (by rw [gF,decide_eq_true i1,decide_eq_true i2];rfl))))
  have s2:aD (gN 4) (am ee (ad (aa 0) (ad (aa 1) ar))) [some (.int n),some (.ref tk),some (.ref bk),some (.ref sk),none,none] h=.nx [some (.int n),some (.ref tk),some (.ref bk),some (.ref sk),some (.ref (A + n)),none] h1:=aH (av (aj rfl (aj rfl rfl)) r1)
  have s3:aD (gN 5) (er (bJ 1 [] (dW (aa 4)) (gN 0) [] (er (kM (aa 0))))) [some (.int n),some (.ref tk),some (.ref bk),some (.ref sk),some (.ref (A + n)),none] h1=.nx [some (.int n),some (.ref tk),some (.ref bk),some (.ref sk),some (.ref (A + n)),some (.tup (((List.range n).map fun i=>ca (nbs T i)).map n9))] h1:=by
    exact aH (iV (cM (dR rfl rf) comp))
  have s4:bc (fL (ad (aa 5) (ad (am eN (ad (aa 4) (ad (aa 2) ar))) (ad (am ek (ad (aa 0) (ad (aa 3) ar))) ar)))) [some (.int n),some (.ref tk),some (.ref bk),some (.ref sk),some (.ref (A + n)),some (.tup (((List.range n).map fun i=>ca (nbs T i)).map n9))] h1=.rt (bH n T bs ss).enc h1:=by
    exact bh (iS (aj rfl (aj (av (aj rfl (aj rfl rfl)) bt) (aj (av (aj rfl (aj rfl rfl)) stt) rfl))) (by exact of_decide_eq_true rfl))
  have st:([D.int n,D.ref tk,D.ref bk,D.ref sk].map some++List.replicate (6 - [D.int n,D.ref tk,D.ref bk,D.ref sk].length) none:Sd)=[some (.int n),some (.ref tk),some (.ref bk),some (.ref sk),none,none]:=rfl
  unfold eC bB runB
  rw [if_pos (show [D.int n,D.ref tk,D.ref bk,D.ref sk].length=4 from rfl),st,aE s1,aE s2,aE s3,s4]
  show letGo h (.ok _ h1)=_
  rw [hg]
  exact cO (pR _)
end Fm
namespace Fm
theorem dZ (s:List Int):∀ r:List (Nat × Int),aV r s=(r.map fun p=>if s.getD p.1 0=1 then p.2 else 0).sum
  | []=>rfl
  | p :: r=>by
    have ih:=dZ s r
    simp only [aV,eJ,List.filter_cons,List.map_cons,List.sum_cons] at ih ⊢
    by_cases e:s.getD p.1 0=1
    · simp only [e,decide_true,if_true,List.map_cons,List.sum_cons];rw [ih]
    · simp only [e,decide_false,if_false,Bool.false_eq_true];rw [ih];omega
theorem jS (s:List Int)(r:List (Nat × Int)):aV (ca r) s=aV r s:=by rw [dZ,dZ,mN]
theorem pT {n:Nat}{T:List Tie}(lt:∀ t∈T,t.a < n∧t.b < n){i:Nat}:∀ p∈nbs T i,p.1 < n:=fun p hp=>by
  unfold nbs at hp
  obtain⟨t,ht',q⟩:=List.mem_filterMap.mp hp
  have:=lt t ht'
  unfold far at q
  by_cases a1:t.a=i
  · rw [if_pos a1] at q;simp at q;subst q;exact this.2
  · rw [if_neg a1] at q
    by_cases a2:t.b=i
    · rw [if_pos a2] at q;simp at q;subst q;exact this.1
    · rw [if_neg a2] at q;cases q
theorem uY {n:Nat}(hn:n≤30){T:List Tie}(O:TOk n n 0 T){bs:List Int}{ss:List (Option Int)}(lb:bs.length=n)(ls:ss.length=n):(bH n T bs ss).Ok n:=by
  refine⟨by simp [bH],lb,ls,fun r hr p hp => ?_,by omega⟩
  obtain⟨i,_,rfl⟩:=List.mem_map.mp hr
  exact pT O.lt p (dj.mp hp)
structure Jh (n:Nat) (T:List Tie) (bs:List Int) (ss:List (Option Int)) (tk bk sk:Nat) (h:Hd):Prop where
  ti:h[tk]? = some (.lst (T.map cr))
  ba:h[bk]? = some (.lst (bs.map .int))
  st:h[sk]? = some (.lst (ss.map bN))
theorem wH {n:Nat}{T:List Tie}{bs:List Int}{ss:List (Option Int)}{s:List Int}{one:Nat}(h1:one < n):bW (bH n T bs ss) s one=match ss.getD one none with
    | some x=>x
    | none=>if 2 * aV (nbs T one) s=bs.getD one 0 then s.getD one 0 else if bs.getD one 0 < 2 * aV (nbs T one) s then 1 else 0:=by
  have e:((bH n T bs ss).ties.getD one [])=ca (nbs T one):=by simp [bH,List.getD,h1]
  unfold bW
  rw [e,jS]
  rfl
structure Ji (n:Nat) (ss:List (Option Int)) (s:List Int):Prop where
  len:s.length=n
  op:∀ x∈s,x=0∨x=1
  st:∀ (i:Nat) x,ss[i]? = some (some x)→s[i]? = some x
end Fm
namespace Fm
theorem kl (l:List Int):pure? (af l)=true:=by
  unfold af;simp only [pure?]
  induction l with
  | nil=>rfl
  | cons x l ih=>simp [gx,pure?,ih]
def dI (ss:List (Option Int)):List Int:=ss.map fun u=>if u=some 1 then 1 else 0
def d5 (ss:List (Option Int)):List Int:=ss.map fun u=>if u=some 0 then 0 else 1
theorem mP {w:Web}{n:Nat}(W:w.Ok n)(S:cw w):ce w n (dI w.stays):=by
  refine⟨by simp [dI,W.s],fun x hx => ?_,fun i x hx => ?_⟩
  · obtain⟨u,_,rfl⟩:=List.mem_map.mp hx
    split<;>simp
  · have:=S _ (ZK hx)
    simp at this
    rcases this with e|e<;>subst e<;>simp [dI,hx]
theorem mQ {w:Web}{n:Nat}(W:w.Ok n)(S:cw w):ce w n (d5 w.stays):=by
  refine⟨by simp [d5,W.s],fun x hx => ?_,fun i x hx => ?_⟩
  · obtain⟨u,_,rfl⟩:=List.mem_map.mp hx
    split<;>simp
  · have:=S _ (ZK hx)
    simp at this
    rcases this with e|e<;>subst e<;>simp [d5,hx]
theorem pU {w:Web}{n:Nat}{s:List Int}(F:ce w n s):LeS (dI w.stays) s:=fun i=>by
  have b:=F.bits i
  cases e:w.stays[i]? with
  | none =>
    have z:(dI w.stays).getD i 0=0:=by simp [dI,List.getD,e]
    omega
  | some u =>
    by_cases c:u=some 1
    · subst c
      have:=F.st i 1 e
      simp [dI,List.getD,e,this]
    · simp only [dI,List.getD,ZQ,e,Option.map_some,Option.getD_some,if_neg c] at b ⊢;omega
theorem uZ {w:Web}{n:Nat}{s:List Int}(W:w.Ok n)(F:ce w n s):LeS s (d5 w.stays):=fun i=>by
  have b:=F.bits i
  cases e:w.stays[i]? with
  | none =>
    have l:w.stays.length≤i:=List.getElem?_eq_none_iff.mp e
    have l2:s.length≤i:=by rw [F.len,← W.s];exact l
    simp [d5,List.getD,e,List.getElem?_eq_none l2]
  | some u =>
    by_cases c:u=some 0
    · subst c
      have:=F.st i 0 e
      simp [d5,List.getD,e,this]
    · simp only [d5,List.getD,ZQ,e,Option.map_some,Option.getD_some,if_neg c] at b ⊢;omega
def kS (s:List Int):Nat→Int
  | 0=>0
  | n + 1=>kS s n + s.getD n 0
theorem lP {s:List Int}(B:kR s):∀ n,0≤kS s n∧kS s n≤n
  | 0=>by simp [kS]
  | n + 1=>by have:=lP B n;have:=B n;rw [kS];omega
theorem xY {a b:List Int}(l:LeS a b):∀ n,kS a n≤kS b n
  | 0=>Int.le_refl _
  | n + 1=>by have:=xY l n;have:=l n;rw [kS,kS];omega
theorem ol1 {A B x y:Int}(h:A≤B)(l:x≤y)(ne:x≠y):A + x + 1≤B + y:=by omega
theorem ol2 {A B x y:Int}(h:A + 1≤B)(l:x≤y):A + x + 1≤B + y:=by omega
theorem sW {a b:List Int}(l:LeS a b):∀ {n:Nat},(∃ p,p < n∧a.getD p 0≠b.getD p 0)→kS a n + 1≤kS b n
  | 0,h=>by obtain⟨p,hp,_⟩:=h;exact absurd hp (Nat.not_lt_zero _)
  | n + 1,h=>by
    obtain⟨p,hp,ne⟩:=h
    have l0:=l n
    rw [kS,kS]
    by_cases e:p=n
    · subst e
      exact ol1 (xY l p) l0 ne
    · exact ol2 (sW l (n:=n) ⟨p,Nat.lt_of_le_of_ne (Nat.le_of_lt_succ hp) e,ne⟩) l0
theorem EU {a b:List Int}{n:Nat}(ha:a.length=n)(hb:b.length=n)(h:a≠b):∃ p,p < n∧a.getD p 0≠b.getD p 0:=by
  by_cases c:∃ p,p < n∧a.getD p 0≠b.getD p 0
  · exact c
  · exfalso
    apply h
    apply List.ext_getElem (by omega)
    intro i h1 h2
    by_cases e:a.getD i 0=b.getD i 0
    · simpa [List.getD,h1,h2] using e
    · exact absurd ⟨i,by omega,e⟩ c
section
variable {w:Web} {n:Nat} {s:List Int}
theorem rX (W:w.Ok n)(S:cw w)(M:mK w w n)(F:ce w n s)(r:LeS s (aB w n s)):∀ k,LeS (aI w n s k) (aI w n s (k + 1))
  | 0=>r
  | k + 1=>M.go _ _ (bF W S F k) (bF W S F (k + 1)) (rX W S M F r k)
theorem rY (W:w.Ok n)(S:cw w)(M:mK w w n)(F:ce w n s)(r:LeS (aB w n s) s):∀ k,LeS (aI w n s (k + 1)) (aI w n s k)
  | 0=>r
  | k + 1=>M.go _ _ (bF W S F (k + 1)) (bF W S F k) (rY W S M F r k)
theorem el {t:Nat}(h:aI w n s (t + 1)=aI w n s t):∀ k,t≤k→aI w n s k=aI w n s t
  | 0,hk=>by rw [Nat.le_zero.mp hk]
  | k + 1,hk=>by
    by_cases e:t=k + 1
    · subst e;rfl
    · rw [aI,el h k (Nat.le_of_lt_succ (Nat.lt_of_le_of_ne hk e))];exact h
theorem wI (W:w.Ok n)(S:cw w)(M:mK w w n)(F:ce w n s)(r:LeS s (aB w n s)):∃ t,t≤n∧aI w n s (t + 1)=aI w n s t:=by
  by_cases c:∃ t,t≤n∧aI w n s (t + 1)=aI w n s t
  · exact c
  · exfalso
    have up:∀ k:Nat,k≤n + 1→(k:Int)≤kS (aI w n s k) n:=fun k=>by
      induction k with
      | zero=>intro _;have:=lP F.bits n;simp [aI];omega
      | succ k ih =>
        intro hk
        have i1:=ih (by omega)
        have ne:aI w n s k≠aI w n s (k + 1):=fun z=>c ⟨k,by omega,z.symm⟩
        have:=sW (rX W S M F r k) (EU (bF W S F k).len (bF W S F (k + 1)).len ne)
        omega
    have:=up (n + 1) (ZL _)
    have:=lP (bF W S F (n + 1)).bits n
    omega
theorem wJ (W:w.Ok n)(S:cw w)(M:mK w w n)(F:ce w n s)(r:LeS (aB w n s) s):∃ t,t≤n∧aI w n s (t + 1)=aI w n s t:=by
  by_cases c:∃ t,t≤n∧aI w n s (t + 1)=aI w n s t
  · exact c
  · exfalso
    have dn:∀ k:Nat,k≤n + 1→kS (aI w n s k) n + k≤n:=fun k=>by
      induction k with
      | zero=>intro _;have:=lP F.bits n;simp [aI];omega
      | succ k ih =>
        intro hk
        have i1:=ih (by omega)
        have ne:aI w n s (k + 1)≠aI w n s k:=fun z=>c ⟨k,by omega,z⟩
        have:=sW (rY W S M F r k) (EU (bF W S F (k + 1)).len (bF W S F k).len ne)
        omega
    have:=dn (n + 1) (ZL _)
    have:=lP (bF W S F (n + 1)).bits n
    omega
theorem lt2 (a t:Nat):t≤a + 2 * t∧t≤a + 2 * t + 1:=by omega
theorem IX {t:Nat}(h:aI w n s (t + 1)=aI w n s t):∃ t0,t0≤t∧aI w n s (t0 + 2)=aI w n s t0∧(∀ k,k < t0→aI w n s (k + 2)≠aI w n s k)∧aI w n s t0=aI w n s t∧aI w n s (t0 + 1)=aI w n s t:=by
  have ex:∃ k,aI w n s (k + 2)=aI w n s k:=⟨t,by rw [el h (t + 2) (Nat.le_add_right t 2)]⟩
  have mn:∃ k,aI w n s (k + 2)=aI w n s k ∧ ∀ j,j < k→aI w n s (j + 2)≠aI w n s j:=by
    obtain⟨k,hk⟩:=ex
    induction k using Nat.strongRecOn with
    | _ k ih =>
      by_cases c:∃ j,j < k∧aI w n s (j + 2)=aI w n s j
      · obtain⟨j,hj,e⟩:=c
        exact ih j hj e
      · exact⟨k,hk,fun j hj e=>c ⟨j,hj,e⟩⟩
  obtain⟨t0,e0,m0⟩:=mn
  have le:t0≤t:=by
    by_cases z:t0≤t
    · exact z
    · exact absurd (by rw [el h (t + 2) (Nat.le_add_right t 2)]) (m0 t (Nat.not_le.mp z))
  have per:∀ m,aI w n s (t0 + 2 * m)=aI w n s t0∧aI w n s (t0 + 2 * m + 1)=aI w n s (t0 + 1):=fun m=>by
    induction m with
    | zero=>exact⟨rfl,rfl⟩
    | succ m ih =>
      have e1:t0 + 2 * (m + 1)=(t0 + 2 * m + 1) + 1:=rfl
      have a:aI w n s (t0 + 2 * (m + 1))=aI w n s t0:=by
        rw [e1,aI,ih.2,← e0];rfl
      refine⟨a,?_⟩
      rw [aI,a];rfl
  refine⟨t0,le,e0,m0,?_,?_⟩
  · rw [← (per t).1];exact el h _ (lt2 t0 t).1
  · rw [← (per t).2];exact el h _ (lt2 t0 t).2
theorem zi (W:w.Ok n)(S:cw w)(F:ce w n s){t:Nat}(h:aI w n s (t + 1)=aI w n s t)(hz:t≤900000)(g:Hd) :
    ∃ (t0:Nat) (L:List D),iX [w.enc,af s] g=.ok (.tup [.int t0,.str [114,101,115,116],.ref g.length]) (g++[.lst L])∧atI L (-1)=some (af (aI w n s t)):=by
  obtain⟨t0,le,e0,m0,a1,a2⟩:=IX h
  have q:=BK W S F e0 m0 (ZM le hz) g
  have e1:aI w n s (t0 + 1)=aI w n s t0:=by rw [a1,a2]
  refine⟨t0,(bR w n s (t0 + 2)).map af,?_,?_⟩
  · rw [q,if_pos e1]
  · rw [← a2];exact jR (t0 + 1) 1 (by decide)
theorem rZ (W:w.Ok n)(S:cw w)(F:ce w n s){t:Nat}(h:aI w n s (t + 1)=aI w n s t)(hz:t≤900000)(g:Hd):iB [w.enc,af s] g=.ok (af (aI w n s t)) g:=by
  obtain⟨t0,L,q,a⟩:=zi W S F h hz g
  have i2:atI [D.int t0,.str [114,101,115,116],.ref g.length] 2=some (.ref g.length):=rfl
  have gl:(g++[du.lst L])[g.length]? = some (.lst L):=by simp
  have e:bc (fAt (fAt (am iX (ad (aa 0) (ad (aa 1) ar))) (fC (.int 2))) (fC (.int (-1)))) [some w.enc,some (af s)] g=.rt (af (aI w n s t)) (g++[.lst L]):=by
    exact bh (aP (aP (av (de rfl rfl) q) rfl rfl i2) rfl (aJ gl) a)
  exact (cI rfl rfl e).trans (cO (kl _))
end
end Fm
namespace Fm
section
variable {w:Web} {n:Nat} {s:List Int}
theorem BP (S:cw w){v:Int}(hv:v=0∨v=1){h:Hd}{k:Nat}(hk:h[k]? = some (.lst (w.stays.map bN)))(a:Option D):cx (some k) (w.stays.map bN) (gN 0) [] (fIf (tE (ah jz (aa 0) (fC .non))) (aa 1) (aa 0)) (w.stays.map bN) [a,some (.int v)] h=.ok ((if v=0 then dI w.stays else d5 w.stays).map .int) h:=by
  have:=bD (g:=some k) (all:=w.stays.map bN) (tg:=gN 0) (cs:=[]) (e:=fIf (tE (ah jz (aa 0) (fC .non))) (aa 1) (aa 0)) (h:=h) (I:=fun σ=>∃ a,σ = [a,some (.int v)]) (fun _=>true) (fun d=>match d with | .int i=>.int i|_=>.int v) hk
    (xs:=w.stays.map bN) (σ:=[a,some (.int v)]) (by
      rintro x hx σ ⟨c,rfl⟩
      obtain⟨u,hu,rfl⟩:=List.mem_map.mp hx
      refine⟨_,rfl,⟨_,rfl⟩,rfl,fun _ => ?_⟩
      cases u with
      | none=>exact (wx (bn (aq rfl rfl rfl))).trans rfl
      | some z=>exact (wy (bn (aq rfl rfl rfl))).trans rfl) ⟨_,rfl⟩
  rw [this,List.filter_eq_self.mpr (by simp),List.map_map]
  congr 1
  rcases hv with e|e
  · subst e
    rw [if_pos rfl,dI,List.map_map]
    apply List.map_congr_left
    intro u hu
    rcases S u hu with z|z|z<;>subst z<;>rfl
  · subst e
    rw [if_neg (by decide),d5,List.map_map]
    apply List.map_congr_left
    intro u hu
    rcases S u hu with z|z|z<;>subst z<;>rfl
theorem lQ (W:w.Ok n)(S:cw w){v:Int}(hv:v=0∨v=1)(h:Hd):cG [w.enc,.int v] h=.ok (af (if v=0 then dI w.stays else d5 w.stays)) h:=by
  have c2:=BP S hv (h:=h++[.lst (w.stays.map bN)]) (k:=h.length) ZG none
  have lz:(w.stays.map bN).length≤SZ:=by rw [ZA,W.s];exact ZM W.sz (by decide)
  have so:bX [w.enc] h=.ok (.ref h.length) (h++[.lst (w.stays.map bN)]):=(cI rfl rfl (bh (eM (bU (aP rfl rfl rfl rfl) rfl) lz))).trans cA
  generalize (if v=0 then dI w.stays else d5 w.stays)=l at c2 ⊢
  have s2:bc (er (bJ 1 [1] (dW (am bX (ad (aa 0) ar))) (gN 0) [] (fIf (tE (ah jz (aa 0) (fC .non))) (aa 1) (aa 0)))) [some w.enc,some (.int v)] h=.rt (af l) (h++[.lst (w.stays.map bN)]):=by
    exact bh (iV (cM (dR (av (aj rfl rfl) so) ZG) c2))
  have st:([w.enc,D.int v].map some++List.replicate (2 - [w.enc,D.int v].length) none:Sd)=[some w.enc,some (.int v)]:=rfl
  unfold cG bB runB
  rw [if_pos (by rfl),st,s2]
  exact cO (kl _)
theorem u0 (W:w.Ok n)(S:cw w)(M:mK w w n):∃ t,t≤n∧aI w n (dI w.stays) (t + 1)=aI w n (dI w.stays) t:=by
  have F:=mP W S
  exact wI W S M F (pU (dB W S F))
theorem u3 (W:w.Ok n)(S:cw w)(M:mK w w n):∃ t,t≤n∧aI w n (d5 w.stays) (t + 1)=aI w n (d5 w.stays) t:=by
  have F:=mQ W S
  exact wJ W S M F (uZ W (dB W S F))
theorem qF (W:w.Ok n)(S:cw w){t:Nat}(ht:t≤1000)(e:aI w n (dI w.stays) (t + 1)=aI w n (dI w.stays) t)(h:Hd):cB [w.enc] h=.ok (af (aI w n (dI w.stays) t)) h:=by
  have q1:=lQ W S (v:=0) (.inl rfl) h
  rw [if_pos rfl] at q1
  have q2:=rZ W S (mP W S) e (ZM ht (by decide)) h
  exact (cI rfl rfl (bh (av (aj rfl (aj (av (de rfl rfl) q1) rfl)) q2))).trans bj
theorem qG (W:w.Ok n)(S:cw w){t:Nat}(ht:t≤1000)(e:aI w n (d5 w.stays) (t + 1)=aI w n (d5 w.stays) t)(h:Hd):bI [w.enc] h=.ok (af (aI w n (d5 w.stays) t)) h:=by
  have q1:=lQ W S (v:=1) (.inr rfl) h
  rw [if_neg (by decide)] at q1
  have q2:=rZ W S (mQ W S) e (ZM ht (by decide)) h
  exact (cI rfl rfl (bh (av (aj rfl (aj (av (de rfl rfl) q1) rfl)) q2))).trans bj
end
section
variable {w:Web} {n:Nat} {a b:List Int}
end
end Fm
namespace Fm
noncomputable def bA:Fn:=bB 2 2 (aA (sIf (tE (ah oLt (aa 1) (cz (lOf (aa 0))))) (bc (fAt (aa 0) (aa 1))) bw)
    (bc (ah cE (ah bC (ah bC (fC (.int 71)) (aa 1)) (aa 1)) (ah bC (fC (.int 7)) (aa 1)))))
noncomputable abbrev pV:SF:=(sIf (tE (ah oEq (ah cL (aa 1) (fC (.int 2))) (fC (.int 1)))) (aA (aD (gN 5) (ah cL (ah cE (ah cE (ah cE (ah bC (aa 5) (aa 5)) (ah bC (fC (.int 69621)) (aa 5))) (ah bC (fC (.int 11)) (aa 6))) (fC (.int 5))) (fC (.int 2147483549))))
    (gX (kr (aa 4) (ah cL (ah iw (aa 5) (fC (.int 7))) (aa 3))))) (aA (gX (kr (aa 4) (ah cL (aa 5) (aa 3))))
    (aD (gN 5) (ah iw (aa 5) (aa 3)))))
noncomputable def dw:Fn:=bB 4 7 (aA (aD (gN 4) (bL ar))
    (aA (aD (gN 5) (aa 0))
    (aA (sIf (tE (ah oEq (ah cL (aa 1) (fC (.int 2))) (fC (.int 1)))) (aD (gN 5) (ah cL (ah bC (ah cL (aa 0) (fC (.int 2147483629))) (fC (.int 48271))) (fC (.int 2147483647)))) bw)
    (aA (dA (bi (aa 2)) (gN 6) pV)
    (bc (aa 4))))))
noncomputable abbrev gJ:SF:=(kH (aa 9) (aa 6) (fIx (ad (ah nZ (fAt (aa 10) (aa 6)) (fC (.int 1000))) (ad (ah nZ (ah cE (fAt (aa 9) (aa 6)) (ah cL (fAt (aa 10) (aa 6)) (fC (.int 7)))) (fC (.int 3))) ar)) (ah cL (ah iw (aa 2) (fC (.int 256))) (fC (.int 2)))))
noncomputable abbrev kT:SF:=(aA (aD (gN 8) (we (fC (.int 0)) (ah nZ (fAt (aa 5) (ah cE (ah bC (aa 6) (aa 3)) (aa 7))) (fC (.int 402)))))
    (aA (sIf (tE (ah oEq (ah cL (ah iw (aa 2) (fC (.int 64))) (fC (.int 2))) (fC (.int 1)))) (aD (gN 8) (fIx (ad (fC (.int 0)) (ad (fC (.int 0)) (ad (fC (.int 1)) (ad (fC (.int 1)) (ad (fC (.int 2)) (ad (fC (.int 3)) (ad (fC (.int 1)) ar))))))) (ah cL (fAt (aa 5) (ah cE (ah bC (aa 6) (aa 3)) (aa 7))) (fC (.int 7))))) bw)
    (aA (kH (fAt (aa 4) (aa 6)) (aa 7) (aa 8))
    (kH (fAt (aa 4) (aa 7)) (aa 6) (aa 8)))))
noncomputable abbrev iY:SF:=(dA (bi (aa 6)) (gN 7) kT)
noncomputable def iC:Fn:=bB 2 12 (aA (aD (gN 2) (am bA (ad (aa 0) (ad (fC (.int 0)) ar))))
    (aA (aD (gN 3) (ah cE (fC (.int 1)) (ah cL (ah iw (aa 2) (fC (.int 2))) (aa 1))))
    (aA (aD (gN 4) (bL (bJ 1 [3] (bi (aa 3)) (gN 0) [] (bL (pD (ad (fC (.int 0)) ar) (aa 1))))))
    (aA (aD (gN 5) (am dw (ad (am bA (ad (aa 0) (ad (fC (.int 1)) ar))) (ad (aa 2) (ad (ah bC (aa 3) (aa 3)) (ad (fC (.int 803)) ar))))))
    (aA (dA (bi (aa 3)) (gN 6) iY)
    (aA (aD (gN 9) (bL (bJ 1 [] (dW (aa 4)) (gN 0) [] (oY (lOf (aa 0))))))
    (aA (sIf (tE (ah oEq (ah cL (ah iw (aa 2) (fC (.int 128))) (fC (.int 2))) (fC (.int 1)))) (aA (aD (gN 10) (am dw (ad (am bA (ad (aa 0) (ad (fC (.int 2)) ar))) (ad (aa 2) (ad (aa 3) (ad (fC (.int 2001)) ar))))))
    (dA (bi (aa 3)) (gN 6) gJ)) bw)
    (aA (aD (gN 11) (bL (pD (ad (fC .non) ar) (aa 3))))
    (aA (sIf (tE (ah oEq (ah cL (ah iw (aa 2) (fC (.int 512))) (fC (.int 2))) (fC (.int 1)))) (aA (aD (gN 5) (am dw (ad (am bA (ad (aa 0) (ad (fC (.int 3)) ar))) (ad (aa 2) (ad (aa 3) (ad (fC (.int 7)) ar))))))
    (aD (gN 11) (bL (bJ 1 [] (dW (aa 5)) (gN 0) [] (fIx (ad (fC (.int 0)) (ad (fC (.int 1)) (ad (fC .non) (ad (fC .non) (ad (fC .non) (ad (fC .non) (ad (fC .non) ar))))))) (aa 0)))))) bw)
    (bc (fL (ad (aa 4) (ad (aa 9) (ad (aa 11) ar))))))))))))))
noncomputable abbrev pW:SF:=(sIf (tE (ah oGt (fAt (fAt (fAt (aa 0) (fC (.int 0))) (aa 2)) (aa 3)) (fC (.int 0)))) (gX (kr (aa 1) (fL (ad (aa 3) (ad (aa 2) (ad (fAt (fAt (fAt (aa 0) (fC (.int 0))) (aa 2)) (aa 3)) ar)))))) bw)
noncomputable abbrev kU:SF:=(dA (bi (aa 2)) (gN 3) pW)
noncomputable def fF:Fn:=bB 1 4 (aA (aD (gN 1) (bL ar))
    (aA (dA (bi (cz (lOf (fAt (aa 0) (fC (.int 1)))))) (gN 2) kU)
    (bc (aa 1))))
noncomputable abbrev mR:SF:=(aA (aD (gN 7) (ah bC (fC (.int 2)) (oY (bJ 1 [1,2,6] (bi (cz (lOf (aa 3)))) (gN 0) [] (ah bC (fAt (fAt (aa 2) (aa 3)) (aa 0)) (fAt (aa 1) (aa 0)))))))
    (aA (aD (gN 8) (fAt (aa 1) (aa 6)))
    (aA (sIf (tE (ah oGt (aa 7) (fAt (aa 3) (aa 6)))) (aD (gN 8) (fC (.int 1))) bw)
    (aA (sIf (tE (ah oLt (aa 7) (fAt (aa 3) (aa 6)))) (aD (gN 8) (fC (.int 0))) bw)
    (aA (sIf (tE (ah fZ (fAt (aa 4) (aa 6)) (fC .non))) (aD (gN 8) (fAt (aa 4) (aa 6))) bw)
    (gX (kr (aa 5) (aa 8))))))))
noncomputable def gL:Fn:=bB 2 9 (aA (aD (gT [2,3,4]) (aa 0))
    (aA (aD (gN 5) (bL ar))
    (aA (dA (bi (cz (lOf (aa 3)))) (gN 6) mR)
    (bc (er (lOf (aa 5)))))))
noncomputable abbrev iZ:SF:=(aA (gX (kr (aa 2) (fAt (aa 1) (aa 3))))
    (sIf (tE (ah fZ (fAt (fAt (aa 0) (fC (.int 2))) (aa 3)) (fC .non))) (kH (aa 2) (aa 3) (fAt (fAt (aa 0) (fC (.int 2))) (aa 3))) bw))
noncomputable def eP:Fn:=bB 2 4 (aA (aD (gN 2) (bL ar))
    (aA (dA (bi (cz (lOf (aa 1)))) (gN 3) iZ)
    (bc (er (lOf (aa 2))))))
noncomputable def jT:Fn:=bB 1 1 (bc (am eC (ad (cz (lOf (fAt (aa 0) (fC (.int 1))))) (ad (am fF (ad (aa 0) ar)) (ad (bL (lOf (fAt (aa 0) (fC (.int 1))))) (ad (bL (lOf (fAt (aa 0) (fC (.int 2))))) ar))))))
end Fm
namespace Fm
noncomputable def iD:Fn:=bB 1 1 (bc (bL (lOf (fAt (aa 0) (fC (.int 1))))))
noncomputable def iE:Fn:=bB 1 1 (bc (bL (pE 2 [] (am bX (ad (aa 0) ar)) (gT [0,1]) [(tE (ah jz (aa 1) (fC .non)))] (aa 0))))
noncomputable abbrev ik:SF:=(sIf (tE (DD (bJ 2 [] (dW (am dg (ad (aa 0) (ad (aa 1) ar)))) (gT [0,1]) [] (ah oGt (aa 1) (fC (.int 200)))))) f6 bw)
noncomputable def eZ:Fn:=bB 1 2 (aA (sIf (tE (ah oGt (am bq (ad (aa 0) ar)) (fC (.int 15)))) f6 bw)
    (dA (bi (am bq (ad (aa 0) ar))) (gN 1) ik))
noncomputable abbrev fR:SF:=(gX (rF (aa 2) (bJ 2 [3,1] (dW (am dg (ad (aa 0) (ad (aa 3) ar)))) (gT [0,1]) [] (fL (ad (aa 2) (ad (ah cE (aa 3) (aa 0)) (ad (ah bC (fC (.int 2)) (aa 1)) ar)))))))
noncomputable def dk:Fn:=bB 1 4 (aA (aD (gN 1) (am bq (ad (aa 0) ar)))
    (aA (aD (gN 2) (bL (bJ 1 [1] (bi (aa 1)) (gN 0) [] (fL (ad (aa 0) (ad (ah cE (aa 1) (aa 0)) (ad (fC (.int 1)) ar)))))))
    (aA (dA (bi (aa 1)) (gN 3) fR)
    (bc (aa 2)))))
noncomputable def kn:Fn:=bB 1 3 (aA (gX (am eZ (ad (aa 0) ar)))
    (aA (aD (gN 1) (bL (bJ 1 [] (dW (am iD (ad (aa 0) ar))) (gN 0) [] (ah cE (ah bC (fC (.int 2)) (aa 0)) (fC (.int 1))))))
    (aA (aD (gN 2) (am bX (ad (aa 0) ar)))
    (bc (am eC (ad (ah bC (fC (.int 2)) (am bq (ad (aa 0) ar))) (ad (am dk (ad (aa 0) ar)) (ad (bL (kA (aa 1) (aa 1))) (ad (bL (kA (aa 2) (aa 2))) ar)))))))))
noncomputable def iF:Fn:=bB 1 2 (aA (aD (gN 1) (ah iw (cz (lOf (aa 0))) (fC (.int 2))))
    (bc (fL (ad (jA (aa 0) pNo (pAt (aa 1))) (ad (jA (aa 0) (pAt (aa 1)) pNo) ar)))))
noncomputable def gn:Fn:=bB 2 2 (bc (ah kB (aa 0) (aa 1)))
noncomputable abbrev dS:SF:=(gX (rF (aa 5) (bJ 1 [6] (lx (aa 3) (ah cE (aa 4) (fC (.int 1)))) (gN 0) [] (ah kB (aa 1) (fL (ad (aa 0) ar))))))
noncomputable abbrev hW:SF:=(aA (aD (gN 5) (bL ar))
    (aA (dA (dW (aa 2)) (gN 6) dS)
    (aD (gN 2) (aa 5))))
noncomputable def dl:Fn:=bB 2 7 (aA (aD (gN 2) (bL (ad (fL ar) ar)))
    (aA (dA (DB (aa 0) (aa 1)) (gT [3,4]) hW)
    (bc (aa 2))))
noncomputable def cJ:Fn:=bB 1 1 (aA (sIf (tE (ah oGt (cz (lOf (am iE (ad (aa 0) ar)))) (fC (.int 12)))) f6 bw)
    (bc (am dl (ad (am cB (ad (aa 0) ar)) (ad (am bI (ad (aa 0) ar)) ar)))))
noncomputable def i3:Fn:=bB 1 1 (bc (bL (bJ 1 [0] (dW (am cJ (ad (aa 0) ar))) (gN 0) [(tE (ah oEq (am bO (ad (aa 1) (ad (aa 0) ar))) (aa 0)))] (aa 0))))
noncomputable abbrev pX:SF:=(aA (aD (gN 3) (am bO (ad (aa 0) (ad (aa 2) ar))))
    (sIf (kE (tE (ah wm (aa 2) (aa 3))) (tE (ah oEq (am bO (ad (aa 0) (ad (aa 3) ar))) (aa 2)))) (gX (kr (aa 1) (fL (ad (aa 2) (ad (aa 3) ar))))) bw))
noncomputable def lS:Fn:=bB 1 4 (aA (aD (gN 1) (bL ar))
    (aA (dA (dW (am cJ (ad (aa 0) ar))) (gN 2) pX)
    (bc (aa 1))))
noncomputable abbrev BQ:SF:=(aD (gN 1) (am iC (ad (aa 0) (ad (fC (.int 6)) ar))))
noncomputable abbrev wK:SF:=(kH (fAt (fAt (aa 1) (fC (.int 0))) (aa 2)) (aa 3) (yT (fC (.int 200)) (fAt (fAt (fAt (aa 1) (fC (.int 0))) (aa 2)) (aa 3))))
noncomputable abbrev wL:SF:=(dA (bi (cz (lOf (fAt (aa 1) (fC (.int 1)))))) (gN 3) wK)
noncomputable abbrev BR:SF:=(dA (bi (cz (lOf (fAt (aa 1) (fC (.int 1)))))) (gN 2) wL)
noncomputable abbrev BS:SF:=(aD (gN 4) (am jT (ad (aa 1) ar)))
noncomputable abbrev BT:SF:=(aD (gN 5) (am kn (ad (aa 4) ar)))
noncomputable abbrev BU:SF:=(aD (gN 6) (am i3 (ad (aa 5) ar)))
noncomputable abbrev wM:SF:=(aA (aD (gT [2,3]) (am iF (ad (aa 7) ar)))
    (sIf (tOr (tE (ah oNe (am eP (ad (aa 1) (ad (aa 2) ar))) (aa 2))) (tOr (tE (ah oNe (am gL (ad (aa 1) (ad (aa 2) ar))) (aa 3))) (tE (ah oNe (am gL (ad (aa 1) (ad (aa 3) ar))) (aa 2))))) (bc (fC (.bl false))) bw))
noncomputable abbrev BV:SF:=(dA (dW (aa 6)) (gN 7) wM)
noncomputable abbrev BW:SF:=(aD (gN 8) (am i3 (ad (aa 4) ar)))
noncomputable abbrev BX:SF:=(aD (gN 9) (am lS (ad (aa 4) ar)))
noncomputable abbrev BY:SF:=(sIf (tE (ah iR (am gn (ad (aa 7) (ad (aa 7) ar))) (aa 6))) (bc (fC (.bl false))) bw)
noncomputable abbrev BZ:SF:=(dA (dW (aa 8)) (gN 7) BY)
noncomputable abbrev B0:SF:=(sIf (tOr (tE (ah iR (am gn (ad (aa 2) (ad (aa 3) ar))) (aa 6))) (tE (ah iR (am gn (ad (aa 3) (ad (aa 2) ar))) (aa 6)))) (bc (fC (.bl false))) bw)
noncomputable abbrev B3:SF:=(dA (dW (aa 9)) (gT [2,3]) B0)
noncomputable abbrev xZ:SF:=(sIf (tOr (tE (ah oNe (cz (lOf (aa 6))) (ah cE (cz (lOf (aa 8))) (ah bC (fC (.int 2)) (cz (lOf (aa 9))))))) (tE (ah oNe (lH (aa 6)) (cz (lOf (aa 6)))))) (bc (fC (.bl false))) bw)
noncomputable abbrev x9:SF:=(aD (gN 10) (am cB (ad (aa 4) ar)))
noncomputable abbrev ya:SF:=(aD (gN 11) (am bI (ad (aa 4) ar)))
noncomputable abbrev yb:SF:=(bc (fT (kE (tE (ah oEq (am cB (ad (aa 5) ar)) (am gn (ad (aa 10) (ad (aa 10) ar))))) (tE (ah oEq (am bI (ad (aa 5) ar)) (am gn (ad (aa 11) (ad (aa 11) ar))))))))
noncomputable def yc:Fn:=bB 1 12 (aA BQ (aA BR (aA BS (aA BT (aA BU (aA BV (aA BW (aA BX (aA BZ (aA B3 (aA xZ (aA x9 (aA ya yb)))))))))))))
end Fm
set_option maxHeartbeats 4000000
namespace Fm
open PySem PySem.Spec L2
section
abbrev cT (i : Nat) : Stmt := PySem.Challenge.pw_followmost_k29_whole_rests_of_the_double.main.body.getD i (.Pass ⟨0, 0, 0, 0⟩)
abbrev kW:Stmt:=cT 6
abbrev i4:Stmt:=cT 7
abbrev i5:Stmt:=cT 8
abbrev pY:Stmt:=cT 21
abbrev i6:Stmt:=cT 20
abbrev jU:Stmt:=cT 22
abbrev i7:Stmt:=cT 23
abbrev pZ:Stmt:=cT 12
abbrev mS:Stmt:=cT 13
abbrev mT:Stmt:=cT 14
abbrev p0:Stmt:=cT 15
abbrev mU:Stmt:=cT 16
abbrev mV:Stmt:=cT 17
abbrev kX:Stmt:=cT 18
abbrev mW:Stmt:=cT 19
abbrev i8:Stmt:=cT 30
abbrev gM:Stmt:=cT 31
abbrev mX:Stmt:=cT 27
abbrev p5:Stmt:=cT 28
abbrev sX:Stmt:=cT 29
abbrev wN:Stmt:=cT 33
abbrev im:Stmt:=cT 34
abbrev mY:Stmt:=cT 35
abbrev mZ:Stmt:=cT 36
abbrev nc:Stmt:=cT 37
abbrev sY:Stmt:=cT 39
abbrev p6:Stmt:=cT 47
abbrev gP:Stmt:=cT 46
abbrev i9:Stmt:=cT 42
abbrev fS:Stmt:=cT 43
abbrev fG:Stmt:=cT 49
abbrev fU:Stmt:=cT 48
abbrev sZ:Stmt:=cT 44
abbrev s0:Stmt:=cT 45
abbrev jV:Stmt:=cT 51
abbrev kY:Stmt:=cT 52
abbrev jc:Stmt:=cT 53
abbrev jd:Stmt:=cT 54
abbrev jW:Stmt:=cT 55
abbrev gQ:Stmt:=cT 56
abbrev jX:Stmt:=cT 57
abbrev p7:Stmt:=cT 58
variable {P:Program} {w:World} {K:ZX} {mg:Str→Option Value} {base:Heap} {f:Addr} {fd:FuncData}
theorem u4:aF ["thing"] ["thing"] (ax kW):=fsc
theorem u5 (F:Fun K "is_whole" "is_whole" kW f fd) (aQ:mg "isinstance" = none) (xo:mg "bool" = none) (Cz:mg "int" = none):bS P w K mg base CX0 1 f fd ["thing"] (spF K cP 1):=bK F u4 fun _ _ _ _ _ _ hr=>have hu:=cS hr;(ak (aL (MB.me (sD (kz (iP (t:=.int) rfl aQ rfl Cz (by decide +kernel) (mv 0))) (o7 (FJ (kz (iP (t:=.bool) rfl aQ rfl xo (by decide +kernel) (mv 0)))))))))
theorem qH:aF ["thing", "least", "most"] ["thing", "least", "most"] (ax i4):=fsc
theorem qI (F:Fun K "is_between" "is_between" i4 f fd) (lf:Def P w K mg base "is_whole" 1 1 cP):bS P w K mg base CX0 2 f fd ["thing", "least", "most"] (spF K bo 3):=bK F qH fun _ _ _ _ _ _ hr=>have hu:=cS hr;(ak (aL (MB.me (sD (kz (ao lf hr (ae (mv 0) aw))) (o7 (kz (AI EB EB qA qA (mv 1) (mv 0) (mv 2))))))))
theorem qJ:aF ["thing"] ["thing"] (ax i5):=fsc
theorem qK (F:Fun K "is_opinion" "is_opinion" i5 f fd) (dy:Def P w K mg base "is_between" 2 3 bo):bS P w K mg base CX0 3 f fd ["thing"] (spF K bV 1):=bK F qJ fun _ _ _ _ _ _ hr=>have hu:=cS hr;(ak (aL (ao dy hr (ae (mv 0) (ae au (ae au aw))))))
theorem ng:aF ["many", "thing", "one", "other"] ["many", "thing"] (ax pY):=fsc
theorem zj (F:Fun K "is_tie" "is_tie" pY f fd) (br:mg "len" = none) (aQ:mg "isinstance" = none) (bu:mg "tuple" = none) {io:Tok} (ip:mg "MOST_WEIGHT" = some (.int 400 io)) (dy:Def P w K mg base "is_between" 2 3 bo):bS P w K mg base CX0 3 f fd ["many", "thing"] (spF K lL 2):=bK F ng fun _ _ _ _ _ _ hr=>have hu:=cS hr;(ag (cm (MW.mt (ly (fu (eW (iP (t:=.tuple) rfl aQ rfl bu (by decide +kernel) (mv 1)))) (ic (bg (fO hu) jo (cN rfl br (cH (mv 1))) au (bf _)) (.inr rfl)))) (ak (aL ky)) aW)
    (ag (aM (i:=2) ng.nd rfl lc (aR (mv 1) au (fun _ _=>rfl)))
    (ag (aM (i:=3) ng.nd rfl lc (aR (mv 1) au (fun _ _=>rfl)))
    (ag (cm (MW.mt (ly (fu (eW (ao dy hr (ae (mv 2) (ae au (ae (aY mr yI (mv 0) au) aw)))))) (ic (fu (eW (ao dy hr (ae (mv 3) (ae au (ae (aY mr yI (mv 0) au) aw)))))) (.inr rfl)))) (ak (aL ky)) aW)
    (ak (aL (MB.me (sD (kz (o5 (fO hu) jo (mv 2) (mv 3) (bf _))) (o7 (kz (ao dy hr (ae (aR (mv 1) au (fun _ _=>rfl)) (ae au (ae (jB rfl ip) aw))))))))))))))
theorem eD:aF ["many", "ties", "near", "tie", "one", "other"] ["many", "ties"] (ax i6):=fsc
theorem qL (F:Fun K "neighbours" "neighbours" i6 f fd) (aK:mg "range" = none) (aQ:mg "isinstance" = none) (dz:mg "list" = none) (CA:Def P w K mg base "is_tie" 3 2 lL):bS P w K mg base CX0 4 f fd ["many", "ties"] (spF K ee 2):=bK F eD fun _ _ _ _ _ _ hr=>have hu:=cS hr;(ag (cm (fu (eW (iP (t:=.list) rfl aQ rfl dz (by decide +kernel) (mv 1)))) (ak fw) aW)
    (ag (ke (i:=2) eD.nd rfl lc (own:=["person"]) (capn:=[]) (caps:=[]) rfl (bM.a bG.nil) (cn rfl aK (mv 0))
      (fun cl C s H ex=>⟨(aC (i:=0) (show ((["person"] : List Str)++([] : List Str)).Nodup by decide +kernel) rfl lc),cV,Dz⟩))
    (ag (cX PassesOwn.never rfl (dY (mv 1)) (aC (i:=3) eD.nd rfl lc) (ag (cm (fu (eW (ao CA hr (ae (mv 0) (ae (mv 3) aw))))) (ak fw) aW)
    (ag (aM (i:=4) eD.nd rfl lc (aR (mv 3) au (fun _ _=>rfl)))
    (ag (aM (i:=5) eD.nd rfl lc (aR (mv 3) au (fun _ _=>rfl)))
    (ag (cm (bg (F4 (ZS (Nat.add_le_add_left (by decide) _) hu)) F5 (mv 5) (aR (mv 2) (mv 4) (fun _ _=>rfl)) rfl) (ak fw) aW)
    (ag (xH (ZS (Nat.add_le_add_left (by decide) _) hu) (aR (mv 3) au (fun _ _=>rfl)) (aR (mv 2) (mv 4) (fun _ _=>rfl)) (mv 5))
    (ak (xH (ZS (Nat.add_le_add_left (by decide) _) hu) (aR (mv 3) au (fun _ _=>rfl)) (aR (mv 2) (mv 5) (fun _ _=>rfl)) (mv 4)))))))))
    (ak (aL (mv 2))))))
theorem tj:aF ["near", "bars"] ["near", "bars"] (ax jU):=fsc
theorem tm (F:Fun K "bars_told" "bars_told" jU f fd) (bu:mg "tuple" = none) (sh:mg "all" = none) (br:mg "len" = none) (aQ:mg "isinstance" = none) (dz:mg "list" = none) (lf:Def P w K mg base "is_whole" 1 1 cP):bS P w K mg base CX0 2 f fd ["near", "bars"] (spF K eN 2):=bK F tj fun _ _ _ _ _ _ hr=>have hu:=cS hr;(ag (cm (bg oP o6 (mv 1) eA (bf _)) (ak fw) aW)
    (ag (cm (MW.mt (ly (fu (eW (iP (t:=.list) rfl aQ rfl dz (by decide +kernel) (mv 1)))) (ic (bg (fO hu) jo (cN rfl br (cH (mv 1))) (cN rfl br (cH (mv 0))) (bf _)) (.inr rfl)))) (ak fw) aW)
    (ag (cm (fu (eW (Be rfl rfl sh (ig (eI (own:=["bar"]) (capn:=[]) (caps:=[]) rfl (bM.a bG.nil) (dY (mv 1))
      (fun cl C s H ex=>⟨(aC (i:=0) (show ((["bar"] : List Str)++([] : List Str)).Nodup by decide +kernel) rfl lc),cV,(ao lf hr (ae (mv 0) aw))⟩)))))) (ak fw) aW)
    (ak (aL (f7 rfl bu (cH (mv 1))))))))
theorem qM:aF ["many", "stays"] ["many", "stays"] (ax i7):=fsc
theorem qN (F:Fun K "stays_told" "stays_told" i7 f fd) (bu:mg "tuple" = none) (sh:mg "all" = none) (br:mg "len" = none) (aQ:mg "isinstance" = none) (dz:mg "list" = none) (aK:mg "range" = none) (ji:Def P w K mg base "is_opinion" 3 1 bV):bS P w K mg base CX0 4 f fd ["many", "stays"] (spF K ek 2):=bK F qM fun _ _ _ _ _ _ hr=>have hu:=cS hr;(ag (cm (bg oP o6 (mv 1) eA (bf _)) (ak (aL (f7 rfl bu (ig (eI (own:=["person"]) (capn:=[]) (caps:=[]) rfl (bM.a bG.nil) (cn rfl aK (mv 0))
      (fun cl C s H ex=>⟨(aC (i:=0) (show ((["person"] : List Str)++([] : List Str)).Nodup by decide +kernel) rfl lc),cV,eA⟩)))))) aW)
    (ag (cm (MW.mt (ly (fu (eW (iP (t:=.list) rfl aQ rfl dz (by decide +kernel) (mv 1)))) (ic (bg (fO hu) jo (cN rfl br (cH (mv 1))) (mv 0) (bf _)) (.inr rfl)))) (ak fw) aW)
    (ag (cm (fu (eW (Be rfl rfl sh (ig (eI (own:=["stay"]) (capn:=[]) (caps:=[]) rfl (bM.a bG.nil) (dY (mv 1))
      (fun cl C s H ex=>⟨(aC (i:=0) (show ((["stay"] : List Str)++([] : List Str)).Nodup by decide +kernel) rfl lc),cV,(MB.me (Hy (kz (o5 oP o6 (mv 0) eA (bf _))) (o7 (kz (ao ji hr (ae (mv 0) aw))))))⟩)))))) (ak fw) aW)
    (ak (aL (f7 rfl bu (cH (mv 1))))))))
theorem ni:aF ["many", "ties", "bars", "stays", "near", "rows"] ["many", "ties", "bars", "stays"] (ax pZ):=fsc
theorem zk (F:Fun K "web_of" "web_of" pZ f fd) (bu:mg "tuple" = none) (qg:mg "sorted" = none) {iq:Tok} (ir:mg "MOST_PEOPLE" = some (.int 30 iq)) (tM:Def P w K mg base "stays_told" 4 2 ek) (vz:Def P w K mg base "bars_told" 2 2 eN) (tN:Def P w K mg base "neighbours" 4 2 ee) (dy:Def P w K mg base "is_between" 2 3 bo):bS P w K mg base CX0 5 f fd ["many", "ties", "bars", "stays"] (spF K eC 4):=bK F ni fun _ _ _ _ _ _ hr=>have hu:=cS hr;(ag (cm (fu (eW (ao dy hr (ae (mv 0) (ae au (ae (jB rfl ir) aw)))))) (ak fw) aW)
    (ag (aM (i:=4) ni.nd rfl lc (ao tN hr (ae (mv 0) (ae (mv 1) aw))))
    (ag (aM (i:=5) ni.nd rfl lc (f7 rfl bu (ig (eI (own:=["row"]) (capn:=[]) (caps:=[]) rfl (bM.a bG.nil) (dY (mv 4))
      (fun cl C s H ex=>⟨(aC (i:=0) (show ((["row"] : List Str)++([] : List Str)).Nodup by decide +kernel) rfl lc),cV,(f7 rfl bu (ig (A9 rfl rfl qg (mv 0))))⟩)))))
    (ak (aL (ie (ae (mv 5) (ae (ao vz hr (ae (mv 4) (ae (mv 2) aw))) (ae (ao tM hr (ae (mv 0) (ae (mv 3) aw))) aw)))))))))
theorem wO:aF ["web"] ["web"] (ax mS):=fsc
theorem wP (F:Fun K "many_of" "many_of" mS f fd) (br:mg "len" = none):bS P w K mg base CX0 1 f fd ["web"] (spF K bq 1):=bK F wO fun _ _ _ _ _ _ hr=>have hu:=cS hr;(ak (aL (cN rfl br (cH (aR (mv 0) au (fun _ _=>rfl))))))
theorem wQ:aF ["web", "person"] ["web", "person"] (ax mT):=fsc
theorem wR (F:Fun K "ties_of" "ties_of" mT f fd):bS P w K mg base CX0 1 f fd ["web", "person"] (spF K dg 2):=bK F wQ fun _ _ _ _ _ _ hr=>have hu:=cS hr;(ak (aL (aR (aR (mv 0) au (fun _ _=>rfl)) (mv 1) (fun _ _=>rfl))))
theorem zm:aF ["web", "person"] ["web", "person"] (ax p0):=fsc
theorem zn (F:Fun K "bar_of" "bar_of" p0 f fd):bS P w K mg base CX0 1 f fd ["web", "person"] (spF K jN 2):=bK F zm fun _ _ _ _ _ _ hr=>have hu:=cS hr;(ak (aL (aR (aR (mv 0) au (fun _ _=>rfl)) (mv 1) (fun _ _=>rfl))))
theorem wS:aF ["web", "person"] ["web", "person"] (ax mU):=fsc
theorem wT (F:Fun K "stay_of" "stay_of" mU f fd):bS P w K mg base CX0 1 f fd ["web", "person"] (spF K fB 2):=bK F wS fun _ _ _ _ _ _ hr=>have hu:=cS hr;(ak (aL (aR (aR (mv 0) au (fun _ _=>rfl)) (mv 1) (fun _ _=>rfl))))
theorem wU:aF ["web"] ["web"] (ax mV):=fsc
theorem wV (F:Fun K "bars_of" "bars_of" mV f fd) (dz:mg "list" = none):bS P w K mg base CX0 1 f fd ["web"] (spF K iD 1):=bK F wU fun _ _ _ _ _ _ hr=>have hu:=cS hr;(ak (aL (dE (oy rfl dz (cH (aR (mv 0) au (fun _ _=>rfl)))))))
theorem u6:aF ["web"] ["web"] (ax kX):=fsc
theorem u7 (F:Fun K "stays_of" "stays_of" kX f fd) (dz:mg "list" = none):bS P w K mg base CX0 1 f fd ["web"] (spF K bX 1):=bK F u6 fun _ _ _ _ _ _ hr=>have hu:=cS hr;(ak (aL (dE (oy rfl dz (cH (aR (mv 0) au (fun _ _=>rfl)))))))
theorem wW:aF ["web"] ["web"] (ax mW):=fsc
theorem wX (F:Fun K "free_of" "free_of" mW f fd) (eR:mg "enumerate" = none) (gS:Def P w K mg base "stays_of" 1 1 bX):bS P w K mg base CX0 2 f fd ["web"] (spF K iE 1):=bK F wW fun _ _ _ _ _ _ hr=>have hu:=cS hr;(ak (aL (dE (Bn (own:=["person", "stay"]) (capn:=[]) (caps:=[]) rfl (bM.a bG.nil) (Bm rfl eR (ao gS hr (ae (mv 0) aw)))
      (fun cl C s H ex=>⟨(iO rfl (bT (aC (i:=0) (show ((["person", "stay"] : List Str)++([] : List Str)).Nodup by decide +kernel) rfl lc) (bT (aC (i:=1) (show ((["person", "stay"] : List Str)++([] : List Str)).Nodup by decide +kernel) rfl lc) ge))),(sG (bg oP o6 (mv 1) eA (bf _))),(mv 0)⟩)))))
theorem kD:aF ["web", "person"] ["web"] (ax i8):=fsc
theorem qO (F:Fun K "check_size" "check_size" i8 f fd) (aK:mg "range" = none) (CB:mg "any" = none) {dJ:Tok} (dL:mg "MOST_WEIGHT_DOUBLED" = some (.int 200 dJ)) {dM:Tok} (dN:mg "MOST_PEOPLE_DOUBLED" = some (.int 15 dM)) (dD:Def P w K mg base "many_of" 1 1 bq) (iK:Def P w K mg base "ties_of" 1 2 dg):bS P w K mg base CX0 2 f fd ["web"] (spF K eZ 1):=bK F kD fun _ _ _ _ _ _ hr=>have hu:=cS hr;(ag (cm (bg rc qA (ao dD hr (ae (mv 0) aw)) (jB rfl dN) (bf _)) (ak fw) aW)
    (ak (cX PassesOwn.never rfl (cn rfl aK (ao dD hr (ae (mv 0) aw))) (aC (i:=1) kD.nd rfl lc) (ak (cm (eW (Gf rfl rfl CB (ig (eI (own:=["other", "weight"]) (capn:=[]) (caps:=[]) rfl (bM.a bG.nil) (dY (ao iK hr (ae (mv 0) (ae (mv 1) aw))))
      (fun cl C s H ex=>⟨(iO rfl (bT (aC (i:=0) (show ((["other", "weight"] : List Str)++([] : List Str)).Nodup by decide +kernel) rfl lc) (bT (aC (i:=1) (show ((["other", "weight"] : List Str)++([] : List Str)).Nodup by decide +kernel) rfl lc) ge))),cV,(o5 rc qA (mv 1) (jB rfl dL) (bf _))⟩))))) (ak fw) aW)))))
theorem eK:aF ["web", "many", "ties", "person"] ["web"] (ax gM):=fsc
theorem oh (F:Fun K "doubled_ties" "doubled_ties" gM f fd) (aK:mg "range" = none) (iK:Def P w K mg base "ties_of" 1 2 dg) (dD:Def P w K mg base "many_of" 1 1 bq):bS P w K mg base CX0 2 f fd ["web"] (spF K dk 1):=bK F eK fun _ _ _ _ _ _ hr=>have hu:=cS hr;(ag (aM (i:=1) eK.nd rfl lc (ao dD hr (ae (mv 0) aw)))
    (ag (ke (i:=2) eK.nd rfl lc (own:=["person"]) (capn:=["many"]) (caps:=[1]) rfl (bM.a (bG.cons rfl rfl bG.nil)) (cn rfl aK (mv 1))
      (fun cl C s H ex=>⟨(aC (i:=0) (show ((["person"] : List Str)++(["many"] : List Str)).Nodup by decide +kernel) rfl lc),cV,(ie (ae (mv 0) (ae (aY d8 fx (mv 1) (mv 0)) (ae au aw))))⟩))
    (ag (cX PassesOwn.never rfl (cn rfl aK (mv 1)) (aC (i:=3) eK.nd rfl lc) (ak (eX (xN (mv 2) (eI (own:=["other", "weight"]) (capn:=["person", "many"]) (caps:=[3,1]) rfl (bM.a (bG.cons rfl rfl (bG.cons rfl rfl bG.nil))) (dY (ao iK hr (ae (mv 0) (ae (mv 3) aw))))
      (fun cl C s H ex=>⟨(iO rfl (bT (aC (i:=0) (show ((["other", "weight"] : List Str)++(["person", "many"] : List Str)).Nodup by decide +kernel) rfl lc) (bT (aC (i:=1) (show ((["other", "weight"] : List Str)++(["person", "many"] : List Str)).Nodup by decide +kernel) rfl lc) ge))),cV,(ie (ae (mv 2) (ae (aY d8 fx (mv 3) (mv 0)) (ae (aY dU dX au (mv 1)) aw))))⟩))))))
    (ak (aL (mv 2))))))
theorem kZ:aF ["web", "bars", "stays"] ["web"] (ax mX):=fsc
theorem wY (F:Fun K "doubled" "doubled" mX f fd) (qh:Def P w K mg base "web_of" 5 4 eC) (qi:Def P w K mg base "doubled_ties" 2 1 dk) (dD:Def P w K mg base "many_of" 1 1 bq) (gS:Def P w K mg base "stays_of" 1 1 bX) (zS:Def P w K mg base "bars_of" 1 1 iD) (tO:Def P w K mg base "check_size" 2 1 eZ):bS P w K mg base CX0 6 f fd ["web"] (spF K kn 1):=bK F kZ fun _ _ _ _ _ _ hr=>have hu:=cS hr;(ag (eX (ao tO hr (ae (mv 0) aw)))
    (ag (ke (i:=1) kZ.nd rfl lc (own:=["bar"]) (capn:=[]) (caps:=[]) rfl (bM.a bG.nil) (dY (ao zS hr (ae (mv 0) aw)))
      (fun cl C s H ex=>⟨(aC (i:=0) (show ((["bar"] : List Str)++([] : List Str)).Nodup by decide +kernel) rfl lc),cV,(aY d8 fx (aY dU dX au (mv 0)) au)⟩))
    (ag (aM (i:=2) kZ.nd rfl lc (ao gS hr (ae (mv 0) aw)))
    (ak (aL (ao qh hr (ae (aY dU dX au (ao dD hr (ae (mv 0) aw))) (ae (ao qi hr (ae (mv 0) aw)) (ae (dE (xK (mv 1) (mv 1))) (ae (dE (xK (mv 2) (mv 2))) aw))))))))))
theorem r6:aF ["stand", "many"] ["stand"] (ax p5):=fsc
theorem zo (F:Fun K "halves" "halves" p5 f fd) (br:mg "len" = none):bS P w K mg base CX0 1 f fd ["stand"] (spF K iF 1):=bK F r6 fun _ _ _ _ _ _ hr=>have hu:=cS hr;(ag (aM (i:=1) r6.nd rfl lc (aY fM jC (cN rfl br (cH (mv 0))) au))
    (ak (aL (ie (ae (ut (mv 0) EH (EI (mv 1))) (ae (ut (mv 0) (EI (mv 1)) EH) aw))))))
theorem B4:aF ["one", "other"] ["one", "other"] (ax sX):=fsc
theorem B5 (F:Fun K "whole" "whole" sX f fd):bS P w K mg base CX0 1 f fd ["one", "other"] (spF K gn 2):=bK F B4 fun _ _ _ _ _ _ hr=>have hu:=cS hr;(ak (aL (aY xL xM (mv 0) (mv 1))))
theorem oG:aF ["web", "thing", "person", "opinion", "stay"] ["web", "thing"] (ax wN):=fsc
theorem D2 (F:Fun K "fits" "fits" wN f fd) (eR:mg "enumerate" = none) (br:mg "len" = none) (aQ:mg "isinstance" = none) (bu:mg "tuple" = none) (nB:Def P w K mg base "stay_of" 1 2 fB) (ji:Def P w K mg base "is_opinion" 3 1 bV) (dD:Def P w K mg base "many_of" 1 1 bq):bS P w K mg base CX0 4 f fd ["web", "thing"] (spF K sU 2):=bK F oG fun _ _ _ _ _ _ hr=>have hu:=cS hr;(ag (cm (MW.mt (ly (fu (eW (iP (t:=.tuple) rfl aQ rfl bu (by decide +kernel) (mv 1)))) (ic (bg (fO hu) jo (cN rfl br (cH (mv 1))) (ao dD hr (ae (mv 0) aw)) (bf _)) (.inr rfl)))) (ak (aL ky)) aW)
    (ag (cX PassesOwn.never rfl (Dy rfl eR (mv 1)) (iO rfl (bT (aC (i:=2) oG.nd rfl lc) (bT (aC (i:=3) oG.nd rfl lc) ge))) (ag (cm (fu (eW (ao ji hr (ae (mv 3) aw)))) (ak (aL ky)) aW)
    (ag (aM (i:=4) oG.nd rfl lc (ao nB hr (ae (mv 0) (ae (mv 2) aw))))
    (ak (cm (MW.mt (AG (bg ou kc (mv 4) eA (bf _)) (ic (bg (fO hu) jo (mv 3) (mv 4) (bf _)) (.inl rfl)))) (ak (aL ky)) aW)))))
    (ak (aL ky))))
theorem p8:aF ["web", "thing"] ["web", "thing"] (ax im):=fsc
theorem p9 (F:Fun K "check_stand" "check_stand" im f fd) (GQ:Def P w K mg base "fits" 4 2 sU):bS P w K mg base CX0 5 f fd ["web", "thing"] (spF K eB 2):=bK F p8 fun _ _ _ _ _ _ hr=>have hu:=cS hr;(ak (cm (fu (eW (ao GQ hr (ae (mv 0) (ae (mv 1) aw))))) (ak fw) aW))
theorem wZ:aF ["web", "stand", "person"] ["web", "stand", "person"] (ax mY):=fsc
theorem w4 (F:Fun K "pull_at" "pull_at" mY f fd) (mh:mg "sum" = none) (iK:Def P w K mg base "ties_of" 1 2 dg):bS P w K mg base CX0 2 f fd ["web", "stand", "person"] (spF K iA 3):=bK F wZ fun _ _ _ _ _ _ hr=>have hu:=cS hr;(ak (aL (aY dU dX au (vZ rfl rfl mh (ig (eI (own:=["other", "weight"]) (capn:=["stand"]) (caps:=[1]) rfl (bM.a (bG.cons rfl rfl bG.nil)) (dY (ao iK hr (ae (mv 0) (ae (mv 2) aw))))
      (fun cl C s H ex=>⟨(iO rfl (bT (aC (i:=0) (show ((["other", "weight"] : List Str)++(["stand"] : List Str)).Nodup by decide +kernel) rfl lc) (bT (aC (i:=1) (show ((["other", "weight"] : List Str)++(["stand"] : List Str)).Nodup by decide +kernel) rfl lc) ge))),(sG (bg (fN hu) jn (aR (mv 2) (mv 0) (fun _ _=>rfl)) au (bf _))),(mv 1)⟩)))))))
theorem je:aF ["web", "stand", "person", "stay", "strength", "bar"] ["web", "stand", "person"] (ax mZ):=fsc
theorem w5 (F:Fun K "next_at" "next_at" mZ f fd) (CC:Def P w K mg base "bar_of" 1 2 jN) (zT:Def P w K mg base "pull_at" 2 3 iA) (nB:Def P w K mg base "stay_of" 1 2 fB):bS P w K mg base CX0 3 f fd ["web", "stand", "person"] (spF K gu 3):=bK F je fun _ _ _ _ _ _ hr=>have hu:=cS hr;(ag (aM (i:=3) je.nd rfl lc (ao nB hr (ae (mv 0) (ae (mv 2) aw))))
    (ag (cm (bg ou kc (mv 3) eA (bf _)) (ak (aL (mv 3))) aW)
    (ag (aM (i:=4) je.nd rfl lc (ao zT hr (ae (mv 0) (ae (mv 1) (ae (mv 2) aw)))))
    (ag (aM (i:=5) je.nd rfl lc (ao CC hr (ae (mv 0) (ae (mv 2) aw))))
    (ag (cm (bg (fN hu) jn (mv 4) (mv 5) (bf _)) (ak (aL (aR (mv 1) (mv 2) (fun _ _=>rfl)))) aW)
    (ak (aL (AH (bg rc qA (mv 4) (mv 5) (bf _)) au au))))))))
theorem w6:aF ["web", "stand"] ["web", "stand"] (ax nc):=fsc
theorem w8 (F:Fun K "turn_at" "turn_at" nc f fd) (bu:mg "tuple" = none) (aK:mg "range" = none) (dD:Def P w K mg base "many_of" 1 1 bq) (zU:Def P w K mg base "next_at" 3 3 gu):bS P w K mg base CX0 4 f fd ["web", "stand"] (spF K bO 2):=bK F w6 fun _ _ _ _ _ _ hr=>have hu:=cS hr;(ak (aL (f7 rfl bu (ig (eI (own:=["person"]) (capn:=["web", "stand"]) (caps:=[0,1]) rfl (bM.a (bG.cons rfl rfl (bG.cons rfl rfl bG.nil))) (cn rfl aK (ao dD hr (ae (mv 0) aw)))
      (fun cl C s H ex=>⟨(aC (i:=0) (show ((["person"] : List Str)++(["web", "stand"] : List Str)).Nodup by decide +kernel) rfl lc),cV,(ao zU hr (ae (mv 1) (ae (mv 2) (ae (mv 0) aw))))⟩))))))
theorem jY:aF ["web", "stand", "stands", "later", "word"] ["web", "stand"] (ax sY):=fsc
theorem B6 (F:Fun K "ended" "ended" sY f fd) (br:mg "len" = none) (eS:Def P w K mg base "turn_at" 4 2 bO) (qT:Def P w K mg base "check_stand" 5 2 eB):bS P w K mg base CX0 6 f fd ["web", "stand"] (spF K iX 2):=bK F jY fun _ _ _ _ _ _ hr=>have hu:=cS hr;(ag (eX (ao qT hr (ae (mv 0) (ae (mv 1) aw))))
    (ag (aM (i:=2) jY.nd rfl lc (dE (fv (ae (mv 1) (ae (ao eS hr (ae (mv 0) (ae (mv 1) aw))) aw)) (fun _ _ _ _ z=>by rw [(bp (bp cW)) _ _ _ _ z];decide))))
    (ag (aM (i:=3) jY.nd rfl lc (ao eS hr (ae (mv 0) (ae (aR (mv 2) au (fun _ _=>rfl)) aw))))
    (ag (AN PassesOwn.never (bg (fO hu) jo (mv 3) (aR (mv 2) oz (fun _ _=>rfl)) (bf _)) (ag (eX (kK (mv 2) (mv 3)))
    (ak (aM (i:=3) jY.nd rfl lc (ao eS hr (ae (mv 0) (ae (mv 3) aw)))))))
    (ag (aM (i:=4) jY.nd rfl lc (AH (bg (fN hu) jn (aR (mv 2) oz (fun _ _=>rfl)) (aR (mv 2) oz (fun _ _=>rfl)) (bf _)) (AE [114,101,115,116] rfl) (AE [112,97,105,114] rfl)))
    (ak (aL (ie (ae (aY mr yI (cN rfl br (cH (mv 2))) au) (ae (mv 4) (ae (mv 2) aw)))))))))))
theorem zq:aF ["web", "stand"] ["web", "stand"] (ax p6):=fsc
theorem zr (F:Fun K "end_of" "end_of" p6 f fd) (Ek:Def P w K mg base "ended" 6 2 iX):bS P w K mg base CX0 7 f fd ["web", "stand"] (spF K iB 2):=bK F zq fun _ _ _ _ _ _ hr=>have hu:=cS hr;(ak (aL (aR (aR (ao Ek hr (ae (mv 0) (ae (mv 1) aw))) au (fun _ _=>rfl)) oz (fun _ _=>rfl))))
theorem oj:aF ["web", "opinion"] ["web", "opinion"] (ax gP):=fsc
theorem om (F:Fun K "stand_of_all" "stand_of_all" gP f fd) (bu:mg "tuple" = none) (gS:Def P w K mg base "stays_of" 1 1 bX):bS P w K mg base CX0 2 f fd ["web", "opinion"] (spF K cG 2):=bK F oj fun _ _ _ _ _ _ hr=>have hu:=cS hr;(ak (aL (f7 rfl bu (ig (eI (own:=["stay"]) (capn:=["opinion"]) (caps:=[1]) rfl (bM.a (bG.cons rfl rfl bG.nil)) (dY (ao gS hr (ae (mv 0) aw)))
      (fun cl C s H ex=>⟨(aC (i:=0) (show ((["stay"] : List Str)++(["opinion"] : List Str)).Nodup by decide +kernel) rfl lc),cV,(AH (bg oP o6 (mv 0) eA (bf _)) (mv 1) (mv 0))⟩))))))
theorem qP:aF ["web"] ["web"] (ax i9):=fsc
theorem qQ (F:Fun K "least_rest" "least_rest" i9 f fd) (qj:Def P w K mg base "end_of" 7 2 iB) (gU:Def P w K mg base "stand_of_all" 2 2 cG):bS P w K mg base CX0 8 f fd ["web"] (spF K cB 1):=bK F qP fun _ _ _ _ _ _ hr=>have hu:=cS hr;(ak (aL (ao qj hr (ae (mv 0) (ae (ao gU hr (ae (mv 0) (ae au aw))) aw)))))
theorem nj:aF ["web"] ["web"] (ax fS):=fsc
theorem nr (F:Fun K "greatest_rest" "greatest_rest" fS f fd) (qj:Def P w K mg base "end_of" 7 2 iB) (gU:Def P w K mg base "stand_of_all" 2 2 cG):bS P w K mg base CX0 8 f fd ["web"] (spF K bI 1):=bK F nj fun _ _ _ _ _ _ hr=>have hu:=cS hr;(ak (aL (ao qj hr (ae (mv 0) (ae (ao gU hr (ae (mv 0) (ae au aw))) aw)))))
theorem bY:aF ["low", "high", "stands", "least", "greatest", "longer", "stand"] ["low", "high"] (ax fG):=fsc
theorem lV (F:Fun K "stands_between" "stands_between" fG f fd) (CF:mg "zip" = none) (aK:mg "range" = none):bS P w K mg base CX0 1 f fd ["low", "high"] (spF K dl 2):=bK F bY fun _ _ _ _ _ _ hr=>have hu:=cS hr;(ag (aM (i:=2) bY.nd rfl lc (dE (fv (ae (ie aw) aw) (fun _ _ _ _ z=>by rw [(bp cW) _ _ _ _ z];decide))))
    (ag (cX PassesOwn.never rfl (Gb rfl CF (mv 0) (mv 1)) (iO rfl (bT (aC (i:=3) bY.nd rfl lc) (bT (aC (i:=4) bY.nd rfl lc) ge))) (ag (aM (i:=5) bY.nd rfl lc (dE (fv aw (fun _ _ _ _ z=>by rw [cW _ _ _ _ z];decide))))
    (ag (cX PassesOwn.never rfl (dY (mv 2)) (aC (i:=6) bY.nd rfl lc) (ak (eX (xN (mv 5) (eI (own:=["opinion"]) (capn:=["stand"]) (caps:=[6]) rfl (bM.a (bG.cons rfl rfl bG.nil)) (yK rfl aK (mv 3) (aY d8 fx (mv 4) au))
      (fun cl C s H ex=>⟨(aC (i:=0) (show ((["opinion"] : List Str)++(["stand"] : List Str)).Nodup by decide +kernel) rfl lc),cV,(aY xL xM (mv 1) (ie (ae (mv 0) aw)))⟩))))))
    (ak (aM (i:=2) bY.nd rfl lc (mv 5))))))
    (ak (aL (mv 2)))))
theorem nt:aF ["web"] ["web"] (ax fU):=fsc
theorem nu (F:Fun K "stands_to_try" "stands_to_try" fU f fd) (br:mg "len" = none) {j7:Tok} (j8:mg "MOST_FREE" = some (.int 12 j7)) (nC:Def P w K mg base "stands_between" 1 2 dl) (eL:Def P w K mg base "greatest_rest" 8 1 bI) (gq:Def P w K mg base "least_rest" 8 1 cB) (zV:Def P w K mg base "free_of" 2 1 iE):bS P w K mg base CX0 9 f fd ["web"] (spF K cJ 1):=bK F nt fun _ _ _ _ _ _ hr=>have hu:=cS hr;(ag (cm (bg rc qA (cN rfl br (cH (ao zV hr (ae (mv 0) aw)))) (jB rfl j8) (bf _)) (ak fw) aW)
    (ak (aL (ao nC hr (ae (ao gq hr (ae (mv 0) aw)) (ae (ao eL hr (ae (mv 0) aw)) aw))))))
theorem B7:aF ["web"] ["web"] (ax sZ):=fsc
theorem B8 (F:Fun K "rests" "rests" sZ f fd) (eS:Def P w K mg base "turn_at" 4 2 bO) (fW:Def P w K mg base "stands_to_try" 9 1 cJ):bS P w K mg base CX0 10 f fd ["web"] (spF K i3 1):=bK F B7 fun _ _ _ _ _ _ hr=>have hu:=cS hr;(ak (aL (dE (eI (own:=["stand"]) (capn:=["web"]) (caps:=[0]) rfl (bM.a (bG.cons rfl rfl bG.nil)) (dY (ao fW hr (ae (mv 0) aw)))
      (fun cl C s H ex=>⟨(aC (i:=0) (show ((["stand"] : List Str)++(["web"] : List Str)).Nodup by decide +kernel) rfl lc),(sG (bg (fN hu) jn (ao eS hr (ae (mv 1) (ae (mv 0) aw))) (mv 0) (bf _))),(mv 0)⟩)))))
theorem lW:aF ["web", "found", "one", "other"] ["web"] (ax s0):=fsc
theorem B9 (F:Fun K "pairs" "pairs" s0 f fd) (fW:Def P w K mg base "stands_to_try" 9 1 cJ) (eS:Def P w K mg base "turn_at" 4 2 bO):bS P w K mg base CX0 10 f fd ["web"] (spF K lS 1):=bK F lW fun _ _ _ _ _ _ hr=>have hu:=cS hr;(ag (aM (i:=1) lW.nd rfl lc (dE (fv aw (fun _ _ _ _ z=>by rw [cW _ _ _ _ z];decide))))
    (ag (cX PassesOwn.never rfl (dY (ao fW hr (ae (mv 0) aw))) (aC (i:=2) lW.nd rfl lc) (ag (aM (i:=3) lW.nd rfl lc (ao eS hr (ae (mv 0) (ae (mv 2) aw))))
    (ak (cm (MW.mt (AG (bg (Fz hr.units0) Ge (mv 2) (mv 3) (bf _)) (ic (bg (fN hu) jn (ao eS hr (ae (mv 0) (ae (mv 3) aw))) (mv 2) (bf _)) (.inl rfl)))) (ak (eX (kK (mv 1) (ie (ae (mv 2) (ae (mv 3) aw)))))) aW))))
    (ak (aL (mv 1)))))
theorem tw:aF ["_law_script", "_law_k"] ["_law_script", "_law_k"] (ax jV):=fsc
theorem tD (F:Fun K "_law_cell" "_law_cell" jV f fd) (br:mg "len" = none):bS P w K mg base CX0 1 f fd ["_law_script", "_law_k"] (spF K bA 2):=bK F tw fun _ _ _ _ _ _ hr=>have hu:=cS hr;(ag (cm (bg EA qA (mv 1) (cN rfl br (cH (mv 0))) (bf _)) (ak (aL (aR (mv 0) (mv 1) (fun _ _=>rfl)))) aW)
    (ak (aL (aY d8 fx (aY dU dX (aY dU dX au (mv 1)) (mv 1)) (aY dU dX au (mv 1))))))
theorem d6:aF ["_law_cell_here", "_law_way", "_law_many", "_law_base", "_law_found", "_law_number", "_law_k"] ["_law_cell_here", "_law_way", "_law_many", "_law_base"] (ax kY):=fsc
theorem va (F:Fun K "_law_row" "_law_row" kY f fd) (aK:mg "range" = none):bS P w K mg base CX0 1 f fd ["_law_cell_here", "_law_way", "_law_many", "_law_base"] (spF K dw 4):=bK F d6 fun _ _ _ _ _ _ hr=>have hu:=cS hr;(ag (aM (i:=4) d6.nd rfl lc (dE (fv aw (fun _ _ _ _ z=>by rw [cW _ _ _ _ z];decide))))
    (ag (aM (i:=5) d6.nd rfl lc (mv 0))
    (ag (cm (bg (fN hu) jn (aY eU eV (mv 1) au) au (bf _)) (ak (aM (i:=5) d6.nd rfl lc (aY eU eV (aY dU dX (aY eU eV (mv 0) au) au) au))) aW)
    (ag (cX PassesOwn.never rfl (cn rfl aK (mv 2)) (aC (i:=6) d6.nd rfl lc) (ak (cm (bg (fN hu) jn (aY eU eV (mv 1) au) au (bf _)) (ag (aM (i:=5) d6.nd rfl lc (aY eU eV (aY d8 fx (aY d8 fx (aY d8 fx (aY dU dX (mv 5) (mv 5)) (aY dU dX au (mv 5))) (aY dU dX au (mv 6))) au) au))
    (ak (eX (kK (mv 4) (aY eU eV (aY fM jC (mv 5) au) (mv 3)))))) (ag (eX (kK (mv 4) (aY eU eV (mv 5) (mv 3))))
    (ak (aM (i:=5) d6.nd rfl lc (aY fM jC (mv 5) (mv 3))))))))
    (ak (aL (mv 4)))))))
theorem aZ:aF ["_law_script", "_law_most", "_law_way", "_law_many", "_law_tied", "_law_told", "_law_one", "_law_other", "_law_heavy", "_law_levels", "_law_steps", "_law_holders"] ["_law_script", "_law_most"] (ax jc):=fsc
theorem qR (F:Fun K "_law_model" "_law_model" jc f fd) (aK:mg "range" = none) (mh:mg "sum" = none) (CG:mg "max" = none) (lh:Def P w K mg base "_law_row" 1 4 dw) (hZ:Def P w K mg base "_law_cell" 1 2 bA):bS P w K mg base CX0 2 f fd ["_law_script", "_law_most"] (spF K iC 2):=bK F aZ fun _ _ _ _ _ _ hr=>have hu:=cS hr;(ag (aM (i:=2) aZ.nd rfl lc (ao hZ hr (ae (mv 0) (ae au aw))))
    (ag (aM (i:=3) aZ.nd rfl lc (aY d8 fx au (aY eU eV (aY fM jC (mv 2) au) (mv 1))))
    (ag (ke (i:=4) aZ.nd rfl lc (own:=["_law_one"]) (capn:=["_law_many"]) (caps:=[3]) rfl (bM.a (bG.cons rfl rfl bG.nil)) (cn rfl aK (mv 3))
      (fun cl C s H ex=>⟨(aC (i:=0) (show ((["_law_one"] : List Str)++(["_law_many"] : List Str)).Nodup by decide +kernel) rfl lc),cV,(dE (Bf (fv (ae au aw) (fun _ _ _ _ z=>by rw [(bp cW) _ _ _ _ z];decide)) (mv 1)))⟩))
    (ag (aM (i:=5) aZ.nd rfl lc (ao lh hr (ae (ao hZ hr (ae (mv 0) (ae au aw))) (ae (mv 2) (ae (aY dU dX (mv 3) (mv 3)) (ae au aw))))))
    (ag (cX PassesOwn.never rfl (cn rfl aK (mv 3)) (aC (i:=6) aZ.nd rfl lc) (ak (cX PassesOwn.never rfl (cn rfl aK (mv 6)) (aC (i:=7) aZ.nd rfl lc) (ag (aM (i:=8) aZ.nd rfl lc (F9 rfl rfl CG au (aY mr yI (aR (mv 5) (aY d8 fx (aY dU dX (mv 6) (mv 3)) (mv 7)) (fun _ _=>rfl)) au)))
    (ag (cm (bg (fN hu) jn (aY eU eV (aY fM jC (mv 2) au) au) au (bf _)) (ak (aM (i:=8) aZ.nd rfl lc (AJ (fv (ae au (ae au (ae au (ae au (ae au (ae au (ae au aw))))))) (fun _ _ _ _ z=>by rw [(bp (bp (bp (bp (bp (bp (bp cW))))))) _ _ _ _ z];decide)) (aY eU eV (aR (mv 5) (aY d8 fx (aY dU dX (mv 6) (mv 3)) (mv 7)) (fun _ _=>rfl)) au) (fun _ _=>rfl)))) aW)
    (ag (o9 (mv 8) (aR (mv 4) (mv 6) (fun _ _=>rfl)) (mv 7))
    (ak (o9 (mv 8) (aR (mv 4) (mv 7) (fun _ _=>rfl)) (mv 6)))))))))
    (ag (ke (i:=9) aZ.nd rfl lc (own:=["_law_row_here"]) (capn:=[]) (caps:=[]) rfl (bM.a bG.nil) (dY (mv 4))
      (fun cl C s H ex=>⟨(aC (i:=0) (show ((["_law_row_here"] : List Str)++([] : List Str)).Nodup by decide +kernel) rfl lc),cV,(vZ rfl rfl mh (cH (mv 0)))⟩))
    (ag (cm (bg (fN hu) jn (aY eU eV (aY fM jC (mv 2) au) au) au (bf _)) (ag (aM (i:=10) aZ.nd rfl lc (ao lh hr (ae (ao hZ hr (ae (mv 0) (ae au aw))) (ae (mv 2) (ae (mv 3) (ae au aw))))))
    (ak (cX PassesOwn.never rfl (cn rfl aK (mv 3)) (aC (i:=6) aZ.nd rfl lc) (ak (o9 (AJ (fv (ae (aY mr yI (aR (mv 10) (mv 6) (fun _ _=>rfl)) au) (ae (aY mr yI (aY d8 fx (aR (mv 9) (mv 6) (fun _ _=>rfl)) (aY eU eV (aR (mv 10) (mv 6) (fun _ _=>rfl)) au)) au) aw)) (fun _ _ _ _ z=>by rw [(bp (bp cW)) _ _ _ _ z];decide)) (aY eU eV (aY fM jC (mv 2) au) au) (fun _ _=>rfl)) (mv 9) (mv 6)))))) aW)
    (ag (aM (i:=11) aZ.nd rfl lc (dE (Bf (fv (ae eA aw) (fun _ _ _ _ z=>by rw [(bp cW) _ _ _ _ z];decide)) (mv 3))))
    (ag (cm (bg (fN hu) jn (aY eU eV (aY fM jC (mv 2) au) au) au (bf _)) (ag (aM (i:=5) aZ.nd rfl lc (ao lh hr (ae (ao hZ hr (ae (mv 0) (ae au aw))) (ae (mv 2) (ae (mv 3) (ae au aw))))))
    (ak (ke (i:=11) aZ.nd rfl lc (own:=["_law_number"]) (capn:=[]) (caps:=[]) rfl (bM.a bG.nil) (dY (mv 5))
      (fun cl C s H ex=>⟨(aC (i:=0) (show ((["_law_number"] : List Str)++([] : List Str)).Nodup by decide +kernel) rfl lc),cV,(AJ (fv (ae au (ae au (ae eA (ae eA (ae eA (ae eA (ae eA aw))))))) (fun _ _ _ _ z=>by rw [(bp (bp (bp (bp (bp (bp (bp cW))))))) _ _ _ _ z];decide)) (mv 0) (fun _ _=>rfl))⟩)))) aW)
    (ak (aL (ie (ae (mv 4) (ae (mv 9) (ae (mv 11) aw)))))))))))))))
theorem fK:aF ["_law_model_here", "_law_found", "_law_one", "_law_other"] ["_law_model_here"] (ax jd):=fsc
theorem qS (F:Fun K "_law_lines" "_law_lines" jd f fd) (aK:mg "range" = none) (br:mg "len" = none):bS P w K mg base CX0 1 f fd ["_law_model_here"] (spF K fF 1):=bK F fK fun _ _ _ _ _ _ hr=>have hu:=cS hr;(ag (aM (i:=1) fK.nd rfl lc (dE (fv aw (fun _ _ _ _ z=>by rw [cW _ _ _ _ z];decide))))
    (ag (cX PassesOwn.never rfl (cn rfl aK (cN rfl br (cH (aR (mv 0) au (fun _ _=>rfl))))) (aC (i:=2) fK.nd rfl lc) (ak (cX PassesOwn.never rfl (cn rfl aK (mv 2)) (aC (i:=3) fK.nd rfl lc) (ak (cm (bg rc qA (aR (aR (aR (mv 0) au (fun _ _=>rfl)) (mv 2) (fun _ _=>rfl)) (mv 3) (fun _ _=>rfl)) au (bf _)) (ak (eX (kK (mv 1) (ie (ae (mv 3) (ae (mv 2) (ae (aR (aR (aR (mv 0) au (fun _ _=>rfl)) (mv 2) (fun _ _=>rfl)) (mv 3) (fun _ _=>rfl)) aw))))))) aW)))))
    (ak (aL (mv 1)))))
theorem bZ:aF ["_law_model_here", "_law_stand", "_law_tied", "_law_levels", "_law_holders", "_law_found", "_law_one", "_law_force", "_law_held"] ["_law_model_here", "_law_stand"] (ax jW):=fsc
theorem tF (F:Fun K "_law_turn" "_law_turn" jW f fd) (bu:mg "tuple" = none) (aK:mg "range" = none) (br:mg "len" = none) (mh:mg "sum" = none):bS P w K mg base CX0 1 f fd ["_law_model_here", "_law_stand"] (spF K gL 2):=bK F bZ fun _ _ _ _ _ _ hr=>have hu:=cS hr;(ag (AM (mv 0) (iO rfl (bT (aC (i:=2) bZ.nd rfl lc) (bT (aC (i:=3) bZ.nd rfl lc) (bT (aC (i:=4) bZ.nd rfl lc) ge)))))
    (ag (aM (i:=5) bZ.nd rfl lc (dE (fv aw (fun _ _ _ _ z=>by rw [cW _ _ _ _ z];decide))))
    (ag (cX PassesOwn.never rfl (cn rfl aK (cN rfl br (cH (mv 3)))) (aC (i:=6) bZ.nd rfl lc) (ag (aM (i:=7) bZ.nd rfl lc (aY dU dX au (vZ rfl rfl mh (ig (eI (own:=["_law_other"]) (capn:=["_law_stand", "_law_tied", "_law_one"]) (caps:=[1,2,6]) rfl (bM.a (bG.cons rfl rfl (bG.cons rfl rfl (bG.cons rfl rfl bG.nil)))) (cn rfl aK (cN rfl br (cH (mv 3))))
      (fun cl C s H ex=>⟨(aC (i:=0) (show ((["_law_other"] : List Str)++(["_law_stand", "_law_tied", "_law_one"] : List Str)).Nodup by decide +kernel) rfl lc),cV,(aY dU dX (aR (aR (mv 2) (mv 3) (fun _ _=>rfl)) (mv 0) (fun _ _=>rfl)) (aR (mv 1) (mv 0) (fun _ _=>rfl)))⟩))))))
    (ag (aM (i:=8) bZ.nd rfl lc (aR (mv 1) (mv 6) (fun _ _=>rfl)))
    (ag (cm (bg rc qA (mv 7) (aR (mv 3) (mv 6) (fun _ _=>rfl)) (bf _)) (ak (aM (i:=8) bZ.nd rfl lc au)) aW)
    (ag (cm (bg EA qA (mv 7) (aR (mv 3) (mv 6) (fun _ _=>rfl)) (bf _)) (ak (aM (i:=8) bZ.nd rfl lc au)) aW)
    (ag (cm (bg ou kc (aR (mv 4) (mv 6) (fun _ _=>rfl)) eA (bf _)) (ak (aM (i:=8) bZ.nd rfl lc (aR (mv 4) (mv 6) (fun _ _=>rfl)))) aW)
    (ak (eX (kK (mv 5) (mv 8))))))))))
    (ak (aL (f7 rfl bu (cH (mv 5))))))))
theorem fV:aF ["_law_model_here", "_law_some", "_law_found", "_law_one"] ["_law_model_here", "_law_some"] (ax gQ):=fsc
theorem oo (F:Fun K "_law_fitting" "_law_fitting" gQ f fd) (bu:mg "tuple" = none) (aK:mg "range" = none) (br:mg "len" = none):bS P w K mg base CX0 1 f fd ["_law_model_here", "_law_some"] (spF K eP 2):=bK F fV fun _ _ _ _ _ _ hr=>have hu:=cS hr;(ag (aM (i:=2) fV.nd rfl lc (dE (fv aw (fun _ _ _ _ z=>by rw [cW _ _ _ _ z];decide))))
    (ag (cX PassesOwn.never rfl (cn rfl aK (cN rfl br (cH (mv 1)))) (aC (i:=3) fV.nd rfl lc) (ag (eX (kK (mv 2) (aR (mv 1) (mv 3) (fun _ _=>rfl))))
    (ak (cm (bg ou kc (aR (aR (mv 0) au (fun _ _=>rfl)) (mv 3) (fun _ _=>rfl)) eA (bf _)) (ak (o9 (aR (aR (mv 0) au (fun _ _=>rfl)) (mv 3) (fun _ _=>rfl)) (mv 2) (mv 3))) aW))))
    (ak (aL (f7 rfl bu (cH (mv 2)))))))
theorem tG:aF ["_law_model_here"] ["_law_model_here"] (ax jX):=fsc
theorem tH (F:Fun K "_law_made" "_law_made" jX f fd) (dz:mg "list" = none) (br:mg "len" = none) (qh:Def P w K mg base "web_of" 5 4 eC) (tP:Def P w K mg base "_law_lines" 1 1 fF):bS P w K mg base CX0 6 f fd ["_law_model_here"] (spF K jT 1):=bK F tG fun _ _ _ _ _ _ hr=>have hu:=cS hr;(ak (aL (ao qh hr (ae (cN rfl br (cH (aR (mv 0) au (fun _ _=>rfl)))) (ae (ao tP hr (ae (mv 0) aw)) (ae (dE (oy rfl dz (cH (aR (mv 0) au (fun _ _=>rfl))))) (ae (dE (oy rfl dz (cH (aR (mv 0) au (fun _ _=>rfl))))) aw)))))))
theorem d7:aF ["_law_script", "_law_model_here", "_law_one", "_law_other", "_law_web", "_law_double", "_law_told", "_law_stand", "_law_calm", "_law_swinging", "_law_low", "_law_high"] ["_law_script"] (ax p7):=fsc
theorem GA (F:Fun K "law" "law" p7 f fd) (br:mg "len" = none) (CH:mg "set" = none) (aK:mg "range" = none) (CJ:mg "min" = none) (eL:Def P w K mg base "greatest_rest" 8 1 bI) (mi:Def P w K mg base "whole" 1 2 gn) (gq:Def P w K mg base "least_rest" 8 1 cB) (El:Def P w K mg base "pairs" 10 1 lS) (yr:Def P w K mg base "rests" 10 1 i3) (nX:Def P w K mg base "_law_turn" 1 2 gL) (qk:Def P w K mg base "_law_fitting" 1 2 eP) (CK:Def P w K mg base "halves" 1 1 iF) (zW:Def P w K mg base "doubled" 6 1 kn) (vA:Def P w K mg base "_law_made" 6 1 jT) (tQ:Def P w K mg base "_law_model" 2 2 iC):bS P w K mg base CX0 11 f fd ["_law_script"] (spF K yc 1):=bK F d7 fun _ _ _ _ _ _ hr=>have hu:=cS hr;(ag (aM (i:=1) d7.nd rfl lc (ao tQ hr (ae (mv 0) (ae au aw))))
    (ag (cX PassesOwn.never rfl (cn rfl aK (cN rfl br (cH (aR (mv 1) au (fun _ _=>rfl))))) (aC (i:=2) d7.nd rfl lc) (ak (cX PassesOwn.never rfl (cn rfl aK (cN rfl br (cH (aR (mv 1) au (fun _ _=>rfl))))) (aC (i:=3) d7.nd rfl lc) (ak (o9 (Gc rfl rfl CJ au (aR (aR (aR (mv 1) au (fun _ _=>rfl)) (mv 2) (fun _ _=>rfl)) (mv 3) (fun _ _=>rfl))) (aR (aR (mv 1) au (fun _ _=>rfl)) (mv 2) (fun _ _=>rfl)) (mv 3))))))
    (ag (aM (i:=4) d7.nd rfl lc (ao vA hr (ae (mv 1) aw)))
    (ag (aM (i:=5) d7.nd rfl lc (ao zW hr (ae (mv 4) aw)))
    (ag (aM (i:=6) d7.nd rfl lc (ao yr hr (ae (mv 5) aw)))
    (ag (cX PassesOwn.never rfl (dY (mv 6)) (aC (i:=7) d7.nd rfl lc) (ag (AM (ao CK hr (ae (mv 7) aw)) (iO rfl (bT (aC (i:=2) d7.nd rfl lc) (bT (aC (i:=3) d7.nd rfl lc) ge))))
    (ak (cm (MW.mt (ly (bg (fO hu) jo (ao qk hr (ae (mv 1) (ae (mv 2) aw))) (mv 2) (bf _)) (ly (bg (fO hu) jo (ao nX hr (ae (mv 1) (ae (mv 2) aw))) (mv 3) (bf _)) (ic (bg (fO hu) jo (ao nX hr (ae (mv 1) (ae (mv 3) aw))) (mv 2) (bf _)) (.inr rfl))))) (ak (aL ky)) aW))))
    (ag (aM (i:=8) d7.nd rfl lc (ao yr hr (ae (mv 4) aw)))
    (ag (aM (i:=9) d7.nd rfl lc (ao El hr (ae (mv 4) aw)))
    (ag (cX PassesOwn.never rfl (dY (mv 8)) (aC (i:=7) d7.nd rfl lc) (ak (cm (bg (mE hu) mF (ao mi hr (ae (mv 7) (ae (mv 7) aw))) (mv 6) rfl) (ak (aL ky)) aW)))
    (ag (cX PassesOwn.never rfl (dY (mv 9)) (iO rfl (bT (aC (i:=2) d7.nd rfl lc) (bT (aC (i:=3) d7.nd rfl lc) ge))) (ak (cm (MW.mt (ly (bg (mE hu) mF (ao mi hr (ae (mv 2) (ae (mv 3) aw))) (mv 6) rfl) (ic (bg (mE hu) mF (ao mi hr (ae (mv 3) (ae (mv 2) aw))) (mv 6) rfl) (.inr rfl)))) (ak (aL ky)) aW)))
    (ag (cm (MW.mt (ly (bg (fO hu) jo (cN rfl br (cH (mv 6))) (aY d8 fx (cN rfl br (cH (mv 8))) (aY dU dX au (cN rfl br (cH (mv 9))))) (bf _)) (ic (bg (fO hu) jo (y8 rfl hu rfl br rfl CH (mv 6)) (cN rfl br (cH (mv 6))) (bf _)) (.inr rfl)))) (ak (aL ky)) aW)
    (ag (aM (i:=10) d7.nd rfl lc (ao gq hr (ae (mv 4) aw)))
    (ag (aM (i:=11) d7.nd rfl lc (ao eL hr (ae (mv 4) aw)))
    (ak (aL (MB.me (sD (kz (o5 (fN hu) jn (ao gq hr (ae (mv 5) aw)) (ao mi hr (ae (mv 10) (ae (mv 10) aw))) (bf _))) (o7 (kz (o5 (fN hu) jn (ao eL hr (ae (mv 5) aw)) (ao mi hr (ae (mv 11) (ae (mv 11) aw))) (bf _)))))))))))))))))))))
end
theorem GB {l:PySem.W.OpenLaw} {w:World} {K:ZX} {h:Heap} {mg:Str→Option Value} {fa:Addr} (X:K.In h) (G:h.Ns mainGlobals mg) (hfa:mg "law" = some (.ref fa)) (xp:At K "is_whole" kW) (tR:At K "is_between" i4) (tS:At K "is_opinion" i5) (CL:At K "is_tie" pY) (tT:At K "neighbours" i6) (vB:At K "bars_told" jU) (tU:At K "stays_told" i7) (CM:At K "web_of" pZ) (zX:At K "many_of" mS) (zY:At K "ties_of" mT) (CN:At K "bar_of" p0) (zZ:At K "stay_of" mU) (z6:At K "bars_of" mV) (xq:At K "stays_of" kX) (z7:At K "free_of" mW) (tV:At K "check_size" i8) (qm:At K "doubled_ties" gM) (z8:At K "doubled" mX) (CO:At K "halves" p5) (Em:At K "whole" sX) (GR:At K "fits" wN) (qU:At K "check_stand" im) (z9:At K "pull_at" mY) (Aa:At K "next_at" mZ) (Ab:At K "turn_at" nc) (Eo:At K "ended" sY) (CP:At K "end_of" p6) (qo:At K "stand_of_all" gP) (tW:At K "least_rest" i9) (oq:At K "greatest_rest" fS) (nD:At K "stands_between" fG) (ot:At K "stands_to_try" fU) (Ep:At K "rests" sZ) (Er:At K "pairs" s0) (vC:At K "_law_cell" jV) (xr:At K "_law_row" kY) (tX:At K "_law_model" jc) (tY:At K "_law_lines" jd) (vD:At K "_law_turn" jW) (qp:At K "_law_fitting" gQ) (vE:At K "_law_made" jX) (HZ:At K "law" p7) (tZ:Nb K "isinstance") (GS:Nb K "bool") (Ia:Nb K "int") (Ib:Nb K "len") (Es:Nb K "tuple") (Et:Nb K "range") (GU:Nb K "list") (Ic:Nb K "all") (CQ:Nb K "sorted") (vF:Nb K "enumerate") (Id:Nb K "any") (Ie:Nb K "sum") (Ig:Nb K "zip") (Ih:Nb K "max") (Ii:Nb K "set") (Ij:Nb K "min") {io:Tok} (qV:PySem.W.nsIn K mainGlobals "MOST_WEIGHT" = some (some (.int 400 io))) {iq:Tok} (qW:PySem.W.nsIn K mainGlobals "MOST_PEOPLE" = some (some (.int 30 iq))) {dJ:Tok} (jv:PySem.W.nsIn K mainGlobals "MOST_WEIGHT_DOUBLED" = some (some (.int 200 dJ))) {dM:Tok} (jw:PySem.W.nsIn K mainGlobals "MOST_PEOPLE_DOUBLED" = some (some (.int 15 dM))) {j7:Tok} (vG:PySem.W.nsIn K mainGlobals "MOST_FREE" = some (some (.int 12 j7))):∃ fd:FuncData,(∀ (s:Shared) (v:Value),BindsTo s fd ⟨[v],[]⟩ [("_law_script",v)]) ∧ ∀ base:Heap,K.In base→base.Ns mainGlobals mg→bS l.prog w K mg base CX0 11 fa fd ["_law_script"] (spF K yc 1):=by
  obtain⟨f,od,GV,sl,oc,GW,GX,GY,GZ,G0,e,Ik,Im,Io⟩:=HZ
  have e:=hfa.symm.trans (PySem.W.mg_of X G e)
  cases e
  have Ip:=AB (st:=p7) Ik Im Io
  have aQ:=PySem.W.mg_none_of X G tZ
  have xo:=PySem.W.mg_none_of X G GS
  have Cz:=PySem.W.mg_none_of X G Ia
  have br:=PySem.W.mg_none_of X G Ib
  have bu:=PySem.W.mg_none_of X G Es
  have aK:=PySem.W.mg_none_of X G Et
  have dz:=PySem.W.mg_none_of X G GU
  have sh:=PySem.W.mg_none_of X G Ic
  have qg:=PySem.W.mg_none_of X G CQ
  have eR:=PySem.W.mg_none_of X G vF
  have CB:=PySem.W.mg_none_of X G Id
  have mh:=PySem.W.mg_none_of X G Ie
  have CF:=PySem.W.mg_none_of X G Ig
  have CG:=PySem.W.mg_none_of X G Ih
  have CH:=PySem.W.mg_none_of X G Ii
  have CJ:=PySem.W.mg_none_of X G Ij
  have ip:=PySem.W.mg_of X G qV
  have ir:=PySem.W.mg_of X G qW
  have dL:=PySem.W.mg_of X G jv
  have dN:=PySem.W.mg_of X G jw
  have j8:=PySem.W.mg_of X G vG
  refine⟨PySem.W.fnOf "law" "law" (eF p7) (dP p7) (ax p7) .none GW GX GY GV GZ G0,fun s v=>.of_eq rfl,fun base KB _ => ?_⟩
  have q:En l.prog w K mg base:=⟨h,X,G⟩
  have qq:=xp.df1 q fun U=>u5 U aQ xo Cz
  have jj:=tR.df3 q fun U=>qI U qq
  have mj:=tS.df1 q fun U=>qK U jj
  have CS:=CL.df2 q fun U=>zj U br aQ bu ip jj
  have t5:=tT.df2 q fun U=>qL U aK aQ dz CS
  have vH:=vB.df2 q fun U=>tm U bu sh br aQ dz qq
  have t6:=tU.df2 q fun U=>qN U bu sh br aQ dz aK mj
  have vI:=CM.df4 q fun U=>zk U bu qg ir t6 vH t5 jj
  have iL:=zX.df1 q fun U=>wP U br
  have nE:=zY.df2 q fun U=>wR U
  have CT:=CN.df2 q fun U=>zn U
  have si:=zZ.df2 q fun U=>wT U
  have Ac:=z6.df1 q fun U=>wV U dz
  have lm:=xq.df1 q fun U=>u7 U dz
  have Ad:=z7.df1 q fun U=>wX U eR lm
  have t7:=tV.df1 q fun U=>qO U aK CB dL dN iL nE
  have qu:=qm.df1 q fun U=>oh U aK nE iL
  have Ae:=z8.df1 q fun U=>wY U vI qu iL lm Ac t7
  have CU:=CO.df1 q fun U=>zo U br
  have Eu:=Em.df2 q fun U=>B5 U
  have G1:=GR.df2 q fun U=>D2 U eR br aQ bu si mj iL
  have qX:=qU.df2 q fun U=>p9 U G1
  have Af:=z9.df3 q fun U=>w4 U mh nE
  have Ag:=Aa.df3 q fun U=>w5 U CT Af si
  have nF:=Ab.df2 q fun U=>w8 U bu aK iL Ag
  have Ev:=Eo.df2 q fun U=>B6 U br nF qX
  have vJ:=CP.df2 q fun U=>zr U Ev
  have j9:=qo.df2 q fun U=>om U bu lm
  have ml:=tW.df1 q fun U=>qQ U vJ j9
  have jp:=oq.df1 q fun U=>nr U vJ j9
  have nG:=nD.df2 q fun U=>lV U CF aK
  have jq:=ot.df1 q fun U=>nu U br j8 nG jp ml Ad
  have Ew:=Ep.df1 q fun U=>B8 U nF jq
  have Ex:=Er.df1 q fun U=>B9 U jq nF
  have vK:=vC.df2 q fun U=>tD U br
  have xt:=xr.df4 q fun U=>va U aK
  have t8:=tX.df2 q fun U=>qR U aK mh CG xt vK
  have t9:=tY.df1 q fun U=>qS U aK br
  have vL:=vD.df2 q fun U=>tF U bu aK br mh
  have qv:=qp.df2 q fun U=>oo U bu aK br
  have vM:=vE.df1 q fun U=>tH U dz br vI t9
  exact GA (P:=l.prog) (w:=w) (base:=base) Ip br CH aK CJ jp Eu ml Ex Ew vL qv CU Ae vM t8
end Fm
namespace Fm
theorem HX {t:TF}{a b:SF}{σ:Sd}{h h':Hd}(e:t σ h=.ok true h'):sIf t a b σ h=a σ h':=by simp [sIf,e]
theorem D3 {t:TF}{a b:SF}{σ:Sd}{h h':Hd}(e:t σ h=.ok false h'):sIf t a b σ h=b σ h':=by simp [sIf,e]
theorem yc1 (ns:List Int)(k:Nat)(e:k < ns.length)(h:Hd):bA [.lit (ns.map .int),.int k] h=.ok (.int ns[k]) h:=by
  have pk:=gm (f:=D.int) e
  simp [bA,bB,runB,e,pk]
theorem zt {x y:Int}(e:(sml x || sml y)=true)(h:Hd):bC (.int x) (.int y) h=.ok (.int (x * y)) h:=by
  simp only [bC,oIc,e,if_true]
theorem yc2 (ns:List Int)(K:Int)(e : ¬ K < (ns.length:Int))(s3:sml K=true)(h:Hd):bA [.lit (ns.map .int),.int K] h=.ok (.int (71 * K * K + 7 * K)) h:=by
  have m1:∀ h,bC (.int 71) (.int K) h=.ok (.int (71 * K)) h:=fun h=>zt (by rw [s3,Bool.or_true]) h
  have m2:∀ h,bC (.int (71 * K)) (.int K) h=.ok (.int (71 * K * K)) h:=fun h=>zt (by rw [s3,Bool.or_true]) h
  have m3:∀ h,bC (.int 7) (.int K) h=.ok (.int (7 * K)) h:=fun h=>zt (by rw [s3,Bool.or_true]) h
  generalize 71 * K=a at m1 m2 ⊢
  generalize a * K=b at m2 ⊢
  generalize 7 * K=c at m3 ⊢
  simp [-bC,bA,bB,runB,e,m1,m2,m3]
theorem yd (ns:List Int)(k:Nat)(hk:k≤63):∃ v,∀ h,bA [.lit (ns.map .int),.int k] h=.ok (.int v) h:=by
  by_cases e:k < ns.length
  · exact⟨_,yc1 ns k e⟩
  · exact⟨_,yc2 ns k (by omega) (oE (by omega) (by omega))⟩
theorem GC (c way base:Int)(m:Nat)(hm:m≤1000)(b0:0 < base)(b1:base < 2 ^ 250)(h:Hd):∃ l:List Int,dw [.int c,.int way,.int m,.int base] h=.ok (.ref h.length) (h++[.lst (l.map .int)])∧l.length=m ∧ ∀ x∈l,0≤x∧x < base:=by
  obtain⟨A,hA⟩ : ∃ A,A=h.length:=⟨_,rfl⟩
  obtain⟨z0,hz0⟩ : ∃ z0:Int,z0=if way % 2=1 then c % 2147483629 * 48271 % 2147483647 else c:=⟨_,rfl⟩
  have zb:way % 2=1→0≤z0∧z0 < 4611686018427387904:=fun e=>by
    rw [hz0,if_pos e]
    exact⟨Int.emod_nonneg _ (by decide),Int.lt_trans (Int.emod_lt_of_pos _ (by decide)) (by decide)⟩
  obtain⟨σ',h',k1,l,z,y,k2,k3,k4,k5,k6⟩:=bE (P:=fun i σ h'=>∃ (l:List Int) (z:Int) (y:Option D),σ = [some (.int c),some (.int way),some (.int m),some (.int base),some (.ref A),some (.int z),y]∧h'=h++[.lst (l.map .int)]∧l.length=i∧(∀ x∈l,0≤x∧x < base)∧(way % 2=1→0≤z∧z < 4611686018427387904)) (g:=none) (k:=0)
      (all:=(List.range m).map fun k:Nat=>D.int k) (fun _ _ _ _=>trivial)
      (xs:=(List.range m).map fun k:Nat=>D.int k) (tg:=gN 6) (σ:=[some (.int c),some (.int way),some (.int m),some (.int base),some (.ref A),some (.int z0),none]) (h:=h++[.lst []]) (b:=pV) (by
      rintro i x σ h0 hx ⟨l,z,y,rfl,hh0,ll,bl,bz⟩
      obtain⟨hi,rfl⟩:=cF hx
      rw [Nat.zero_add] at ll ⊢
      have gA:h0[A]? = some (.lst (l.map .int)):=by rw [hh0];exact dv hA _
      have lz:(l.map D.int).length < SZ:=by rw [ZA,ll];exact Nat.lt_trans hi (ZS hm (by decide))
      have st:∀ v:Int,h0.set A (.lst (l.map .int++[.int v]))=h++[.lst ((l++[v]).map .int)]:=fun v=>by rw [hh0,iW hA,ZR];rfl
      have nb:∀ q:Int,(0≤q % base∧q % base < base):=fun q=>⟨Int.emod_nonneg q (Int.ne_of_gt b0),Int.emod_lt_of_pos q b0⟩
      by_cases e:way % 2=1
      · have bz':=bz e
        have sz:sml z=true:=oE bz'.1 bz'.2
        have s9:sml 69621=true:=by decide
        have s11:sml 11=true:=by decide
        obtain⟨z',hz'⟩ : ∃ z',z'=(z * z + 69621 * z + 11 * i + 5) % 2147483549:=⟨_,rfl⟩
        have c1:0≤z':=by rw [hz'];exact Int.emod_nonneg _ (by decide)
        have c2:z' < 2147483549:=by rw [hz'];exact Int.emod_lt_of_pos _ (by decide)
        refine⟨_,rfl,[some (.int c),some (.int way),some (.int m),some (.int base),some (.ref A),some (.int z'),some (.int i)],_,?_,l++[z' / 7 % base],z',_,rfl,rfl,by simp [ll],fun x hx => ?_,fun _=>⟨c1,Int.lt_trans c2 (by decide)⟩⟩
        · rw [← st]
          have t1:aD (gN 5) (ah cL (ah cE (ah cE (ah cE (ah bC (aa 5) (aa 5)) (ah bC (fC (.int 69621)) (aa 5))) (ah bC (fC (.int 11)) (aa 6))) (fC (.int 5))) (fC (.int 2147483549))) [some (.int c),some (.int way),some (.int m),some (.int base),some (.ref A),some (.int z),some (.int i)] h0=.nx [some (.int c),some (.int way),some (.int m),some (.int base),some (.ref A),some (.int z'),some (.int i)] h0:=by
            rw [hz'];exact aH (aq (aq (aq (aq (aq rfl rfl (gj sz)) (aq rfl rfl (gj s9)) rfl) (aq rfl rfl (gj s11)) rfl) rfl rfl) rfl (dG (by decide)))
          have tt:tE (ah oEq (ah cL (aa 1) (fC (.int 2))) (fC (.int 1))) [some (.int c),some (.int way),some (.int m),some (.int base),some (.ref A),some (.int z),some (.int i)] h0=.ok true h0:=bn (aq (aq rfl rfl (dG (by decide))) rfl (sS e))
          show sIf _ _ _ [some (.int c),some (.int way),some (.int m),some (.int base),some (.ref A),some (.int z),some (.int i)] h0=_
          rw [HX tt,aE t1]
          exact gE (kQ rfl gA (aq (aq rfl rfl (iT (by decide) (by decide))) rfl (dG b0)) gA lz)
        · rcases List.mem_append.mp hx with hx|hx
          · exact bl x hx
          · simp at hx;subst hx;exact nb _
      · refine⟨_,rfl,[some (.int c),some (.int way),some (.int m),some (.int base),some (.ref A),some (.int (z / base)),some (.int i)],_,?_,l++[z % base],z / base,_,rfl,rfl,by simp [ll],fun x hx => ?_,fun q=>absurd q e⟩
        · rw [← st]
          have tt:tE (ah oEq (ah cL (aa 1) (fC (.int 2))) (fC (.int 1))) [some (.int c),some (.int way),some (.int m),some (.int base),some (.ref A),some (.int z),some (.int i)] h0=.ok false h0:=bn (aq (aq rfl rfl (dG (by decide))) rfl (pN e))
          show sIf _ _ _ [some (.int c),some (.int way),some (.int m),some (.int base),some (.ref A),some (.int z),some (.int i)] h0=_
          rw [D3 tt]
          exact (aE (gE (kQ rfl gA (aq rfl rfl (dG b0)) gA lz))).trans (aH (aq rfl rfl (iT b0 b1)))
        · rcases List.mem_append.mp hx with hx|hx
          · exact bl x hx
          · simp at hx;subst hx;exact nb _) ⟨[],z0,none,rfl,rfl,rfl,by simp,zb⟩
  have e0:0 + ((List.range m).map fun k:Nat=>D.int k).length=m:=by simp
  rw [e0] at k4
  refine⟨l,?_,k4,k5⟩
  have s1:aD (gN 4) (bL ar) [some (.int c),some (.int way),some (.int m),some (.int base),none,none,none] h=.nx [some (.int c),some (.int way),some (.int m),some (.int base),some (.ref A),none,none] (h++[.lst []]):=aH (hV hA rfl (Nat.zero_le _))
  have s2:aD (gN 5) (aa 0) [some (.int c),some (.int way),some (.int m),some (.int base),some (.ref A),none,none] (h++[.lst []])=.nx [some (.int c),some (.int way),some (.int m),some (.int base),some (.ref A),some (.int c),none] (h++[.lst []]):=rfl
  have s3:sIf (tE (ah oEq (ah cL (aa 1) (fC (.int 2))) (fC (.int 1)))) (aD (gN 5) (ah cL (ah bC (ah cL (aa 0) (fC (.int 2147483629))) (fC (.int 48271))) (fC (.int 2147483647)))) bw [some (.int c),some (.int way),some (.int m),some (.int base),some (.ref A),some (.int c),none] (h++[.lst []])=.nx [some (.int c),some (.int way),some (.int m),some (.int base),some (.ref A),some (.int z0),none] (h++[.lst []]):=by
    have s48:sml 48271=true:=by decide
    rw [hz0]
    by_cases e:way % 2=1
    · rw [if_pos e];exact (pL (bn (aq (aq rfl rfl (dG (by decide))) rfl (sS e)))).trans (aH (aq (aq (aq rfl rfl (dG (by decide))) rfl (DQ s48)) rfl (dG (by decide))))
    · rw [if_neg e];exact d9 (bn (aq (aq rfl rfl (dG (by decide))) rfl (pN e)))
  have s4:dA (bi (aa 2)) (gN 6) pV [some (.int c),some (.int way),some (.int m),some (.int base),some (.ref A),some (.int z0),none] (h++[.lst []])=.nx [some (.int c),some (.int way),some (.int m),some (.int base),some (.ref A),some (.int z),y] (h++[.lst (l.map .int)]):=by
    rw [k2,k3] at k1
    exact c9 (cv rfl hm) k1
  have s5:bc (aa 4) [some (.int c),some (.int way),some (.int m),some (.int base),some (.ref A),some (.int z),y] (h++[.lst (l.map .int)])=.rt (.ref A) (h++[.lst (l.map .int)]):=bh rfl
  have st:([D.int c,D.int way,D.int m,D.int base].map some++List.replicate (7 - [D.int c,D.int way,D.int m,D.int base].length) none:Sd)=[some (.int c),some (.int way),some (.int m),some (.int base),none,none,none]:=rfl
  unfold dw bB runB
  rw [if_pos (by rfl),st,aE s1,aE s2,aE s3,aE s4,s5,← hA]
  exact cA
end Fm
namespace Fm
def eE (M:Nat→Nat→Int) (n i:Nat):List Int:=(List.range n).map (M i)
def lY (M:Nat→Nat→Int) (a b:Nat) (v:Int):Nat→Nat→Int:=fun i j=>if i=a∧j=b then v else M i j
structure fH (A n:Nat) (M:Nat→Nat→Int) (h:Hd):Prop where
  ro:∀ i,i < n→h[A + i]? = some (.lst ((eE M n i).map .int))
  ti:h[A + n]? = some (.lst ((List.range n).map fun i=>.ref (A + i)))
structure MOk (M:Nat→Nat→Int):Prop where
  sym:∀ i j,M i j=M j i
  bd:∀ i j,0≤M i j∧M i j≤400
  no:∀ i,M i i=0
theorem Ca (M:Nat→Nat→Int)(n a b:Nat)(v:Int)(i:Nat):eE (lY M a b v) n i=if i=a then (eE M n a).set b v else eE M n i:=by
  by_cases e:i=a
  · subst e
    rw [if_pos rfl]
    apply List.ext_getElem?
    intro j
    by_cases hj:j < n
    · by_cases ej:j=b
      · subst ej
        rw [List.getElem?_set_self (by simp [eE,hj])]
        simp [eE,lY,hj]
      · rw [ZP (by omega)]
        simp [eE,lY,hj,ej]
    · rw [List.getElem?_eq_none (by simp [eE];omega),List.getElem?_eq_none (by simp [eE];omega)]
  · rw [if_neg e]
    apply List.map_congr_left
    intro j _
    simp [lY,e]
theorem fH.put {A n:Nat}{M:Nat→Nat→Int}{h:Hd}(m:fH A n M h){a b:Nat}(ha:a < n)(v:Int):fH A n (lY M a b v) (h.set (A + a) (.lst (((eE M n a).map .int).set b (.int v)))) where
  ro:=fun i hi=>by
    rw [Ca]
    by_cases e:i=a
    · subst e
      rw [if_pos rfl,List.getElem?_set_self (List.getElem?_eq_some_iff.mp (m.ro i hi)).1,List.map_set]
    · rw [if_neg e,ZP (fun z=>e (Nat.add_left_cancel z).symm)];exact m.ro i hi
  ti:=by rw [ZP (fun z=>ZN ha (Nat.add_left_cancel z))];exact m.ti
theorem fH.more {A n:Nat}{M:Nat→Nat→Int}{h:Hd}(m:fH A n M h)(g:Hd):fH A n M (h++g):=by
  have k:∀ {i:Nat} {x:du},h[i]? = some x→(h++g)[i]? = some x:=fun {i x} e=>by
    rw [ZC (List.getElem?_eq_some_iff.mp e).1];exact e
  exact⟨fun i hi=>k (m.ro i hi),k m.ti⟩
theorem fH.set {A n:Nat}{M:Nat→Nat→Int}{h:Hd}(m:fH A n M h){k:Nat}(hk:A + n < k)(c:du):fH A n M (h.set k c) :=
  ⟨fun i hi=>by rw [ZP (by omega)];exact m.ro i hi,by rw [ZP (by omega)];exact m.ti⟩
theorem MOk.put {M:Nat→Nat→Int}(o:MOk M){a b:Nat}(ne:a≠b){v:Int}(h0:0≤v)(h1:v≤400):MOk (lY (lY M a b v) b a v) where
  sym:=fun i j=>by
    simp only [lY]
    by_cases q:i=b∧j=a
    · rw [if_pos q]
      by_cases r:j=b∧i=a
      · rw [if_pos r]
      · rw [if_neg r,if_pos ⟨q.2,q.1⟩]
    · rw [if_neg q]
      by_cases p:i=a∧j=b
      · rw [if_pos p,if_pos ⟨p.2,p.1⟩]
      · rw [if_neg p,if_neg fun z=>p ⟨z.2,z.1⟩,if_neg fun z=>q ⟨z.2,z.1⟩];exact o.sym i j
  bd:=fun i j=>by
    simp only [lY]
    split
    · exact⟨h0,h1⟩
    · split
      · exact⟨h0,h1⟩
      · exact o.bd i j
  no:=fun i=>by
    simp only [lY]
    rw [if_neg fun z=>ne (z.2.symm.trans z.1),if_neg fun z=>ne (z.1.symm.trans z.2)]
    exact o.no i
theorem IY {t:Int}(h:0≤t∧t < 803):0≤(if t - 402 > 0 then t - 402 else 0)∧(if t - 402 > 0 then t - 402 else 0)≤400:=by split<;>omega
theorem Cb {M:Nat→Nat→Int}{n i j:Nat}(hj:j < n):atI ((eE M n i).map D.int) (j:Int)=some (.int (M i j)):=by
  rw [gm (by simp [eE,hj])];simp [eE]
theorem vc {A n i:Nat}(hi:i < n):atI ((List.range n).map fun i=>D.ref (A + i)) (i:Int)=some (.ref (A + i)):=by
  refine fJ ?_
  simp [hi]
theorem EV {x0 x1 x2 x4 x5:Option D}{r:Sd}{N O:Int}(e:(sml O || sml N)=true)(h:Hd):ah bC (aa 6) (aa 3) (x0 :: x1 :: x2 :: some (.int N) :: x4 :: x5 :: some (.int O) :: r) h=.ok (.int (O * N)) h:=by
  rw [show ah bC (aa 6) (aa 3) (x0 :: x1 :: x2 :: some (.int N) :: x4 :: x5 :: some (.int O) :: r) h=bC (.int O) (.int N) h from rfl]
  exact zt e h
theorem q1 {tk n one i:Nat}{S0 p1:D}{way t q:Int}{td:List D}{c b:Option D}{h0:Hd}{E:EF}(pr:E [some S0,some p1,some (.int way),some (.int n),c,some (.ref tk),some (.int one),some (.int i),b,none,none,none] h0=.ok (.int q) h0)(t1:h0[tk]? = some (.lst td))(at1:atI td (q + i)=some (.int t)):aD (gN 8) (we (fC (.int 0)) (ah nZ (fAt (aa 5) (ah cE E (aa 7))) (fC (.int 402)))) [some S0,some p1,some (.int way),some (.int n),c,some (.ref tk),some (.int one),some (.int i),b,none,none,none] h0=.nx [some S0,some p1,some (.int way),some (.int n),c,some (.ref tk),some (.int one),some (.int i),some (.int (if t - 402 > 0 then t - 402 else 0)),none,none,none] h0:=by
  exact aH (Gv rfl (aq (aP rfl (aq pr rfl rfl) (aJ t1) at1) rfl rfl))
theorem q2 {tk n one i:Nat}{S0 p1:D}{way t y q v0:Int}{td:List D}{c:Option D}{h0:Hd}{E:EF}(pr:E [some S0,some p1,some (.int way),some (.int n),c,some (.ref tk),some (.int one),some (.int i),some (.int v0),none,none,none] h0=.ok (.int q) h0)(t1:h0[tk]? = some (.lst td))(at1:atI td (q + i)=some (.int t))(e:way / 64 % 2=1)(py:atI [D.int 0,.int 0,.int 1,.int 1,.int 2,.int 3,.int 1] (t % 7)=some (.int y)):sIf (tE (ah oEq (ah cL (ah iw (aa 2) (fC (.int 64))) (fC (.int 2))) (fC (.int 1)))) (aD (gN 8) (fIx (ad (fC (.int 0)) (ad (fC (.int 0)) (ad (fC (.int 1)) (ad (fC (.int 1)) (ad (fC (.int 2)) (ad (fC (.int 3)) (ad (fC (.int 1)) ar))))))) (ah cL (fAt (aa 5) (ah cE E (aa 7))) (fC (.int 7))))) bw [some S0,some p1,some (.int way),some (.int n),c,some (.ref tk),some (.int one),some (.int i),some (.int v0),none,none,none] h0=.nx [some S0,some p1,some (.int way),some (.int n),c,some (.ref tk),some (.int one),some (.int i),some (.int y),none,none,none] h0:=by
  exact (pL (bn (aq (aq (aq rfl rfl (iT (by decide) (by decide))) rfl (dG (by decide))) rfl (sS e)))).trans (aH (BD (aj rfl (aj rfl (aj rfl (aj rfl (aj rfl (de rfl rfl)))))) (aq (aP rfl (aq pr rfl rfl) (aJ t1) at1) rfl (dG (by decide))) py))
theorem q3 {tk n one i:Nat}{S0 p1:D}{way v0:Int}{c:Option D}{h0:Hd}{B:SF}(e : ¬ way / 64 % 2=1):sIf (tE (ah oEq (ah cL (ah iw (aa 2) (fC (.int 64))) (fC (.int 2))) (fC (.int 1)))) B bw [some S0,some p1,some (.int way),some (.int n),c,some (.ref tk),some (.int one),some (.int i),some (.int v0),none,none,none] h0=.nx [some S0,some p1,some (.int way),some (.int n),c,some (.ref tk),some (.int one),some (.int i),some (.int v0),none,none,none] h0:=by
  exact d9 (bn (aq (aq (aq rfl rfl (iT (by decide) (by decide))) rfl (dG (by decide))) rfl (pN e)))
theorem D4 {A n one tk:Nat}{way:Int}{td:List Int}(h1:one < n)(hn:n≤30)(tl:td.length=n * n)(tb:∀ x∈td,0≤x∧x < 803)(hA:A + n < tk){M:Nat→Nat→Int}(O:MOk M){h:Hd}(m:fH A n M h)(ht:h[tk]? = some (.lst (td.map .int))){S0 p1:D}{a b:Option D}{L:Nat}(hL:h.length=L) :
    ∃ M' h' a' b',fq none ((List.range one).map fun k:Nat=>D.int k) (gN 7) kT ((List.range one).map fun k:Nat=>D.int k) [some S0,some p1,some (.int way),some (.int n),some (.ref (A + n)),some (.ref tk),some (.int one),a,b,none,none,none] h
      = .nx [some S0,some p1,some (.int way),some (.int n),some (.ref (A + n)),some (.ref tk),some (.int one),a',b',none,none,none] h'∧MOk M'∧fH A n M' h'∧h'[tk]? = some (.lst (td.map .int))∧h'.length=L:=by
  obtain⟨σ',h',k1,M',a',b',k2,k3,k4,k5,k6⟩:=bE (P:=fun i σ h'=>∃ (M':Nat→Nat→Int) (a b:Option D),σ = [some S0,some p1,some (.int way),some (.int n),some (.ref (A + n)),some (.ref tk),some (.int one),a,b,none,none,none]∧MOk M'∧fH A n M' h'∧h'[tk]? = some (.lst (td.map .int))∧h'.length=L) (g:=none) (k:=0)
      (all:=(List.range one).map fun k:Nat=>D.int k) (fun _ _ _ _=>trivial)
      (xs:=(List.range one).map fun k:Nat=>D.int k) (tg:=gN 7) (σ:=[some S0,some p1,some (.int way),some (.int n),some (.ref (A + n)),some (.ref tk),some (.int one),a,b,none,none,none]) (h:=h) (b:=kT) (by
      rintro i x σ h0 hx ⟨M1,a,b,rfl,O1,m1,t1,l1⟩
      obtain⟨hi,rfl⟩:=cF hx
      have hin:i < n:=Nat.lt_trans hi h1
      have lt:one * n + i < td.length:=by
        rw [tl]
        exact Nat.lt_of_lt_of_le (Nat.add_lt_add_left hin _) (by rw [← Nat.succ_mul];exact Nat.mul_le_mul_right n h1)
      have at1:atI (td.map D.int) ((one:Int) * n + i)=some (.int td[one * n + i]):=by
        have:=gm (f:=D.int) lt
        rw [show (one:Int) * n + i=((one * n + i:Nat):Int) by rw [Int.natCast_add,Int.natCast_mul]]
        exact this
      have tb1:=tb _ (List.getElem_mem lt)
      generalize td[one * n + i] = t at at1 tb1
      have sn:sml (n:Int)=true:=oE (Int.natCast_nonneg n) (Int.lt_of_le_of_lt (Int.ofNat_le.mpr hn) (by decide))
      obtain⟨v0,hv0⟩ : ∃ v0:Int,v0=if t - 402 > 0 then t - 402 else 0:=⟨_,rfl⟩
      have v0b:0≤v0∧v0≤400:=by rw [hv0];exact IY tb1
      have s1:aD (gN 8) (we (fC (.int 0)) (ah nZ (fAt (aa 5) (ah cE (ah bC (aa 6) (aa 3)) (aa 7))) (fC (.int 402)))) [some S0,some p1,some (.int way),some (.int n),some (.ref (A + n)),some (.ref tk),some (.int one),some (.int i),b,none,none,none] h0=.nx [some S0,some p1,some (.int way),some (.int n),some (.ref (A + n)),some (.ref tk),some (.int one),some (.int i),some (.int v0),none,none,none] h0:=by
        rw [hv0];exact q1 (E:=ah bC (aa 6) (aa 3)) (EV (by rw [sn,Bool.or_true]) h0) t1 at1
      obtain⟨v,vb,s2⟩ : ∃ v:Int,(0≤v∧v≤400)∧sIf (tE (ah oEq (ah cL (ah iw (aa 2) (fC (.int 64))) (fC (.int 2))) (fC (.int 1)))) (aD (gN 8) (fIx (ad (fC (.int 0)) (ad (fC (.int 0)) (ad (fC (.int 1)) (ad (fC (.int 1)) (ad (fC (.int 2)) (ad (fC (.int 3)) (ad (fC (.int 1)) ar))))))) (ah cL (fAt (aa 5) (ah cE (ah bC (aa 6) (aa 3)) (aa 7))) (fC (.int 7))))) bw [some S0,some p1,some (.int way),some (.int n),some (.ref (A + n)),some (.ref tk),some (.int one),some (.int i),some (.int v0),none,none,none] h0=.nx [some S0,some p1,some (.int way),some (.int n),some (.ref (A + n)),some (.ref tk),some (.int one),some (.int i),some (.int v),none,none,none] h0:=by
        by_cases e:way / 64 % 2=1
        · obtain⟨y,hy,py⟩:=HU D.int [0,0,1,1,2,3,1] (x:=t % 7) (Int.emod_nonneg t (by decide)) (Int.emod_lt_of_pos t (by decide))
          simp only [List.map_cons,List.map_nil] at py
          refine⟨y,by simp at hy;rcases hy with rfl|rfl|rfl|rfl|rfl<;>decide,?_⟩
          exact q2 (E:=ah bC (aa 6) (aa 3)) (EV (by rw [sn,Bool.or_true]) h0) t1 at1 e py
        · refine⟨v0,v0b,?_⟩
          exact q3 e
      have lr:∀ (M:Nat→Nat→Int) (i:Nat),(eE M n i).length=n:=fun M i=>by simp [eE]
      have ne:one≠i:=Nat.ne_of_gt hi
      have m2:=m1.put (b:=i) h1 v
      have m3:=m2.put (b:=one) hin v
      have ro1:=m1.ro one h1
      have ro2:=m2.ro i hin
      have a1:=vc (A:=A) h1
      have a2:=vc (A:=A) hin
      have s3:kH (fAt (aa 4) (aa 6)) (aa 7) (aa 8) [some S0,some p1,some (.int way),some (.int n),some (.ref (A + n)),some (.ref tk),some (.int one),some (.int i),some (.int v),none,none,none] h0=.nx [some S0,some p1,some (.int way),some (.int n),some (.ref (A + n)),some (.ref tk),some (.int one),some (.int i),some (.int v),none,none,none] (h0.set (A + one) (.lst (((eE M1 n one).map .int).set i (.int v)))):=by
        exact mH rfl (aP rfl rfl (aJ m1.ti) a1) rfl ro1 (lM (by rw [ZA,lr];exact hin))
      have s4:kH (fAt (aa 4) (aa 7)) (aa 6) (aa 8) [some S0,some p1,some (.int way),some (.int n),some (.ref (A + n)),some (.ref tk),some (.int one),some (.int i),some (.int v),none,none,none] (h0.set (A + one) (.lst (((eE M1 n one).map .int).set i (.int v))))=.nx [some S0,some p1,some (.int way),some (.int n),some (.ref (A + n)),some (.ref tk),some (.int one),some (.int i),some (.int v),none,none,none] ((h0.set (A + one) (.lst (((eE M1 n one).map .int).set i (.int v)))).set (A + i) (.lst (((eE (lY M1 one i v) n i).map .int).set one (.int v)))):=by
        exact mH rfl (aP rfl rfl (aJ m2.ti) a2) rfl ro2 (lM (by rw [ZA,lr];exact h1))
      refine⟨_,rfl,[some S0,some p1,some (.int way),some (.int n),some (.ref (A + n)),some (.ref tk),some (.int one),some (.int i),some (.int v),none,none,none],_,?_,lY (lY M1 one i v) i one v,_,_,rfl,O1.put ne vb.1 vb.2,m3,?_,by simp [l1]⟩
      · show aA _ _ [some S0,some p1,some (.int way),some (.int n),some (.ref (A + n)),some (.ref tk),some (.int one),some (.int i),b,none,none,none] h0=_
        rw [aE s1,aE s2,aE s3,s4]
      · exact (ZP (ZN (Nat.lt_trans (Nat.add_lt_add_left hin A) hA))).trans ((ZP (ZN (Nat.lt_trans (Nat.add_lt_add_left h1 A) hA))).trans t1)) ⟨M,a,b,rfl,O,m,ht,hL⟩
  exact⟨M',h',a',b',by rw [k1,k2],k3,k4,k5,k6⟩
theorem D5 {A n tk:Nat}{way:Int}{td:List Int}(hn:n≤30)(tl:td.length=n * n)(tb:∀ x∈td,0≤x∧x < 803)(hA:A + n < tk){M:Nat→Nat→Int}(O:MOk M){h:Hd}(m:fH A n M h)(ht:h[tk]? = some (.lst (td.map .int))){S0 p1:D}{L:Nat}(hL:h.length=L) :
    ∃ M' h' c a b,fq none ((List.range n).map fun k:Nat=>D.int k) (gN 6) iY ((List.range n).map fun k:Nat=>D.int k) [some S0,some p1,some (.int way),some (.int n),some (.ref (A + n)),some (.ref tk),none,none,none,none,none,none] h
      = .nx [some S0,some p1,some (.int way),some (.int n),some (.ref (A + n)),some (.ref tk),c,a,b,none,none,none] h'∧MOk M'∧fH A n M' h'∧h'.length=L:=by
  obtain⟨σ',h',k1,M',c',a',b',k2,k3,k4,k5,k6⟩:=bE (P:=fun i σ h'=>∃ (M':Nat→Nat→Int) (c a b:Option D),σ = [some S0,some p1,some (.int way),some (.int n),some (.ref (A + n)),some (.ref tk),c,a,b,none,none,none]∧MOk M'∧fH A n M' h'∧h'[tk]? = some (.lst (td.map .int))∧h'.length=L) (g:=none) (k:=0)
      (all:=(List.range n).map fun k:Nat=>D.int k) (fun _ _ _ _=>trivial)
      (xs:=(List.range n).map fun k:Nat=>D.int k) (tg:=gN 6) (σ:=[some S0,some p1,some (.int way),some (.int n),some (.ref (A + n)),some (.ref tk),none,none,none,none,none,none]) (h:=h) (b:=iY) (by
      rintro i x σ h0 hx ⟨M1,c,a,b,rfl,O1,m1,t1,l1⟩
      obtain⟨hi,rfl⟩:=cF hx
      obtain⟨M2,h2,a2,b2,q,O2,m2,t2,l2⟩:=D4 hi hn tl tb hA O1 m1 t1 (S0:=S0) (p1:=p1) (way:=way) (a:=a) (b:=b) l1
      refine⟨_,rfl,_,h2,?_,M2,some (.int i),a2,b2,rfl,O2,m2,t2,l2⟩
      show dA _ _ _ [some S0,some p1,some (.int way),some (.int n),some (.ref (A + n)),some (.ref tk),some (.int i),a,b,none,none,none] h0=_
      exact c9 (cv rfl (ZM (Nat.le_of_lt hi) (gY hn))) q) ⟨M,none,none,none,rfl,O,m,ht,hL⟩
  exact⟨M',h',c',a',b',by rw [k1,k2],k3,k4,k6⟩
end Fm
namespace Fm
structure Mdl (ns:List Int) (mo:Int) (n:Nat) (M:Nat→Nat→Int) (bs:List Int) (ss:List (Option Int)) (bk sk:Nat) (h:Hd):Prop where
  run:iC [.lit (ns.map .int),.int mo] []=.ok (.tup [.ref (0 + n),.ref bk,.ref sk]) h
  n1:1≤n
  n30:n≤30
  nmo:(n:Int)≤mo
  bkn:n < bk
  skn:n < sk
  mt:fH 0 n M h
  mo:MOk M
  ba:h[bk]? = some (.lst (bs.map .int))
  st:h[sk]? = some (.lst (ss.map bN))
  lb:bs.length=n
  ls:ss.length=n
  os:∀ x∈ss,x=none∨x=some 0∨x=some 1
  bb:∀ x∈bs,-20000≤x∧x≤20000
theorem vd {way d:Int}{σ:Sd}{h:Hd}{i:Nat}(hi : σ[i]? = some (some (.int way)))(d0:0 < d)(d1:d < 2 ^ 250):tE (ah oEq (ah cL (ah iw (aa i) (fC (.int d))) (fC (.int 2))) (fC (.int 1))) σ h=.ok (decide (way / d % 2=1)) h:=by
  have v:aa i σ h=.ok (.int way) h:=by simp only [aa,slot,hi]
  exact bn (aq (aq (aq v rfl (iT d0 d1)) rfl (dG (by decide))) rfl xU)
theorem GD (x:Int):x % 2=0∨x % 2=1:=Int.emod_two_eq x
theorem lv1 {x:Int}(h:0≤x∧x < 2001) : -20000≤x - 1000∧x - 1000≤20000:=by omega
theorem lv2 {x y:Int}(h:0≤x∧x≤12000) : -20000≤x + y % 7 - 3∧x + y % 7 - 3≤20000:=by omega
theorem lv3 {x:Int}(h:0≤x∧x≤12000) : -20000≤x∧x≤20000:=by omega
theorem Cc {A n lk tk:Nat}{way:Int}{stp:List Int}(hn:n≤30)(sl:stp.length=n)(ne:lk≠tk){h:Hd}{bs:List Int}(lb:bs.length=n)(sb:∀ x∈stp,0≤x∧x < 2001)(bb:∀ x∈bs,0≤x∧x≤12000)(hl:h[lk]? = some (.lst (bs.map .int)))(ht:h[tk]? = some (.lst (stp.map .int))){S0 p1 q4 q5:D}{a b c:Option D} :
    ∃ (bs':List Int) (c':Option D),fq none ((List.range n).map fun k:Nat=>D.int k) (gN 6) gJ ((List.range n).map fun k:Nat=>D.int k) [some S0,some p1,some (.int way),some (.int n),some q4,some q5,c,a,b,some (.ref lk),some (.ref tk),none] h
      = .nx [some S0,some p1,some (.int way),some (.int n),some q4,some q5,c',a,b,some (.ref lk),some (.ref tk),none] (h.set lk (.lst (bs'.map .int)))∧bs'.length=n ∧ ∀ x∈bs',-20000≤x∧x≤20000:=by
  have hlt:lk < h.length:=(List.getElem?_eq_some_iff.mp hl).1
  obtain⟨σ',h',k1,bs',c',k2,k3,k4,k5⟩:=bE (P:=fun i σ h'=>∃ (bs':List Int) (c':Option D),σ = [some S0,some p1,some (.int way),some (.int n),some q4,some q5,c',a,b,some (.ref lk),some (.ref tk),none]∧h'=h.set lk (.lst (bs'.map .int))∧bs'.length=n ∧ ∀ (j:Nat) x,bs'[j]? = some x→(-20000≤x∧x≤20000)∧(i≤j→0≤x∧x≤12000)) (g:=none) (k:=0)
      (all:=(List.range n).map fun k:Nat=>D.int k) (fun _ _ _ _=>trivial)
      (xs:=(List.range n).map fun k:Nat=>D.int k) (tg:=gN 6) (σ:=[some S0,some p1,some (.int way),some (.int n),some q4,some q5,c,a,b,some (.ref lk),some (.ref tk),none]) (h:=h) (b:=gJ) (by
      rintro i x σ h0 hx ⟨b1,c1,rfl,hh0,l1,bd1⟩
      rw [Nat.zero_add] at bd1 ⊢
      obtain⟨hi,rfl⟩:=cF hx
      have g1:h0[lk]? = some (.lst (b1.map .int)):=by rw [hh0,List.getElem?_set_self hlt]
      have g2:h0[tk]? = some (.lst (stp.map .int)):=by rw [hh0,ZP ne];exact ht
      have hi1:i < b1.length:=l1 ▸ hi
      have a1:atI (b1.map D.int) (i:Int)=some (.int b1[i]):=gm hi1
      have a2:atI (stp.map D.int) (i:Int)=some (.int stp[i]):=gm (sl ▸ hi)
      have bx1:=(bd1 i b1[i] (by simp [hi1])).2 (ZL _)
      have bx2:=sb stp[i] (List.getElem_mem _)
      generalize b1[i] = x1 at a1 bx1
      generalize stp[i] = x2 at a2 bx2
      have e2:=GD (way / 256)
      have ix:ixN (b1.map D.int).length (i:Int)=some i:=lM (by rw [ZA];exact hi1)
      obtain⟨y,hy,s1⟩ : ∃ y:Int,(-20000≤y∧y≤20000)∧gJ [some S0,some p1,some (.int way),some (.int n),some q4,some q5,some (.int i),a,b,some (.ref lk),some (.ref tk),none] h0=.nx [some S0,some p1,some (.int way),some (.int n),some q4,some q5,some (.int i),a,b,some (.ref lk),some (.ref tk),none] (h0.set lk (.lst ((b1.map .int).set i (.int y)))):=by
        rcases e2 with e|e
        · exact⟨x2 - 1000,lv1 bx2,(mH (BD (aj (aq (aP rfl rfl (aJ g2) a2) rfl rfl) (aj (aq (aq (aP rfl rfl (aJ g1) a1) (aq (aP rfl rfl (aJ g2) a2) rfl (dG (by decide))) rfl) rfl rfl) rfl)) (aq (aq rfl rfl (iT (by decide) (by decide))) rfl (dG (by decide))) (by rw [e];rfl)) rfl rfl g1 ix)⟩
        · exact⟨x1 + x2 % 7 - 3,lv2 bx1,(mH (BD (aj (aq (aP rfl rfl (aJ g2) a2) rfl rfl) (aj (aq (aq (aP rfl rfl (aJ g1) a1) (aq (aP rfl rfl (aJ g2) a2) rfl (dG (by decide))) rfl) rfl rfl) rfl)) (aq (aq rfl rfl (iT (by decide) (by decide))) rfl (dG (by decide))) (by rw [e];rfl)) rfl rfl g1 ix)⟩
      refine⟨_,rfl,_,_,s1,b1.set i y,some (.int i),rfl,?_,by simp [l1],fun j z hz => ?_⟩
      · rw [hh0,List.set_set,List.map_set]
      · by_cases e:i=j
        · subst e
          rw [List.getElem?_set_self hi1] at hz
          cases hz
          exact⟨hy,fun q=>absurd q (Nat.not_succ_le_self _)⟩
        · rw [ZP e] at hz
          have q:=bd1 j z hz
          exact⟨q.1,fun le=>q.2 (Nat.le_of_succ_le le)⟩) ⟨bs,c,rfl,by
        apply List.ext_getElem?
        intro j
        by_cases e:lk=j
        · subst e;rw [List.getElem?_set_self hlt];exact hl
        · rw [ZP e],lb,fun j z hz=>by
          have q:=bb z (ZK hz)
          exact⟨lv3 q,fun _=>q⟩⟩
  exact⟨bs',c',by rw [k1,k2,k3],k4,fun z hz=>by
    obtain⟨j,hj⟩:=List.getElem?_of_mem hz
    exact (k5 j z hj).1⟩
theorem ye (v:D):∀ n,(List.replicate n [v]).flatten=List.replicate n v
  | 0=>rfl
  | n + 1=>by rw [List.replicate_succ,List.replicate_succ,List.flatten_cons,ye v n];rfl
theorem zu {l:List Int}(hb:∀ x∈l,0≤x∧x < 7){h:Hd}{k:Nat}(hk:h[k]? = some (.lst (l.map .int)))(a:Option D):∃ ss:List (Option Int),cx (some k) (l.map .int) (gN 0) [] (fIx (ad (fC (.int 0)) (ad (fC (.int 1)) (ad (fC .non) (ad (fC .non) (ad (fC .non) (ad (fC .non) (ad (fC .non) ar))))))) (aa 0)) (l.map .int) [a] h=.ok (ss.map bN) h∧ss.length=l.length ∧ ∀ x∈ss,x=none∨x=some 0∨x=some 1:=by
  have:=bD (g:=some k) (all:=l.map .int) (tg:=gN 0) (cs:=[]) (e:=fIx (ad (fC (.int 0)) (ad (fC (.int 1)) (ad (fC .non) (ad (fC .non) (ad (fC .non) (ad (fC .non) (ad (fC .non) ar))))))) (aa 0)) (h:=h) (I:=fun σ=>∃ a,σ = [a]) (fun _=>true) (fun d=>match d with | .int x=>bN (if x=0 then some 0 else if x=1 then some 1 else none)|_=>.non) hk
    (xs:=l.map .int) (σ:=[a]) (by
      rintro x hx σ ⟨c,rfl⟩
      obtain⟨u,hu,rfl⟩:=List.mem_map.mp hx
      have b:=hb u hu
      refine⟨_,rfl,⟨_,rfl⟩,rfl,fun _ => ?_⟩
      obtain⟨u,rfl⟩:=Int.eq_ofNat_of_zero_le b.1
      match u,Int.ofNat_lt.mp b.2 with
      | 0,_|1,_|2,_|3,_|4,_|5,_|6,_=>rfl
      | k + 7,z=>exact absurd z (Nat.not_lt.mpr (Nat.le_add_left 7 k))) ⟨_,rfl⟩
  refine⟨l.map fun x=>if x=0 then some 0 else if x=1 then some 1 else none,?_,by simp,fun x hx => ?_⟩
  · rw [this,List.filter_eq_self.mpr (by simp),List.map_map,List.map_map];rfl
  · obtain⟨u,_,rfl⟩:=List.mem_map.mp hx
    split
    · exact .inr (.inl rfl)
    · split
      · exact .inr (.inr rfl)
      · exact .inl rfl
theorem HY {x0 x1 x2:Option D}{r:Sd}{N:Int}(e:(sml N || sml N)=true)(h:Hd):ah bC (aa 3) (aa 3) (x0 :: x1 :: x2 :: some (.int N) :: r) h=.ok (.int (N * N)) h:=by
  rw [show ah bC (aa 3) (aa 3) (x0 :: x1 :: x2 :: some (.int N) :: r) h=bC (.int N) (.int N) h from rfl]
  exact zt e h
theorem GE {S0:D}{x1 x3 x4:D}{way c1 q:Int}{k:Nat}{E:EF}{h3 h4:Hd}(hc1:bA [S0,.int 1] h3=.ok (.int c1) h3)(pr:E [some S0,some x1,some (.int way),some x3,some x4,none,none,none,none,none,none,none] h3=.ok (.int q) h3)(q4:dw [.int c1,.int way,.int q,.int 803] h3=.ok (.ref k) h4) :
    aD (gN 5) (am dw (ad (am bA (ad (aa 0) (ad (fC (.int 1)) ar))) (ad (aa 2) (ad E (ad (fC (.int 803)) ar))))) [some S0,some x1,some (.int way),some x3,some x4,none,none,none,none,none,none,none] h3=.nx [some S0,some x1,some (.int way),some x3,some x4,some (.ref k),none,none,none,none,none,none] h4:=by
  exact aH (av (aj (av (de rfl rfl) hc1) (aj rfl (aj pr (aj rfl rfl)))) q4)
theorem EW {n:Nat}(hn:n≤30){v:D}{σ:Sd}{h:Hd}{b:EF}(hb:b σ h=.ok (.int n) h):bL (pD (ad (fC v) ar) b) σ h=.ok (.ref h.length) (h++[.lst (List.replicate n v)]) :=
  eM (by rw [Gs (l:=[v]) rfl hb ⟨Int.natCast_nonneg n,Int.le_trans (Int.ofNat_le.mpr hn) (by decide),by rw [Int.toNat_natCast];exact ZM (Nat.le_of_eq (Nat.one_mul n)) (gY hn)⟩,Int.toNat_natCast,ye]) (by rw [List.length_replicate];exact gY hn)
theorem GG (way:Int){mo:Int}(h0:0 < mo)(h1:mo≤17):∃ n:Nat,(n:Int)=1 + way / 2 % mo∧1≤n∧n≤30∧(n:Int)≤mo:=by
  have a:=Int.emod_nonneg (way / 2) (Int.ne_of_gt h0)
  have b:=Int.emod_lt_of_pos (way / 2) h0
  generalize way / 2 % mo=x at a b
  obtain⟨k,rfl⟩:=Int.eq_ofNat_of_zero_le a
  exact⟨1 + k,rfl,Nat.le_add_right 1 k,by omega,by have b:(k:Int) < mo:=b;omega⟩
theorem EX:∀ l:List Int,(∀ y∈l,0≤y∧y≤400)→0≤l.sum∧l.sum≤400 * l.length
  | [],_=>⟨Int.le_refl _,Int.le_refl _⟩
  | y :: l,h=>by
    have a:=h y ZV
    have b:=EX l fun z hz=>h z (ZW _ hz)
    rw [List.sum_cons,List.length_cons]
    omega
theorem IZ {n:Nat}{x:Int}(hn:n≤30)(h:0≤x∧x≤400 * n):0≤x∧x≤12000:=⟨h.1,Int.le_trans h.2 (Int.mul_le_mul_of_nonneg_left (Int.ofNat_le.mpr hn) (by decide))⟩
noncomputable abbrev XM (S0:D) (mo way:Int) (n:Nat) (a5 a6 a7 a8 a9 a10 a11:Option D):Sd:=[some S0,some (.int mo),some (.int way),some (.int n),some (.ref (0 + n)),a5,a6,a7,a8,a9,a10,a11]
theorem Cd (ns:List Int){mo:Int}(h0:0 < mo)(h17:mo≤17):∃ n M bs ss bk sk h,Mdl ns mo n M bs ss bk sk h:=by
  obtain⟨way,hway⟩:=yd ns 0 (by decide)
  obtain⟨c1,hc1⟩:=yd ns 1 (by decide)
  obtain⟨c2,hc2⟩:=yd ns 2 (by decide)
  obtain⟨c3,hc3⟩:=yd ns 3 (by decide)
  obtain⟨S0,hS0⟩ : ∃ S0:D,S0=.lit (ns.map .int):=⟨_,rfl⟩
  have hway:∀ h,bA [S0,.int 0] h=.ok (.int way) h:=by rw [hS0];exact hway
  have hc1:∀ h,bA [S0,.int 1] h=.ok (.int c1) h:=by rw [hS0];exact hc1
  have hc2:∀ h,bA [S0,.int 2] h=.ok (.int c2) h:=by rw [hS0];exact hc2
  have hc3:∀ h,bA [S0,.int 3] h=.ok (.int c3) h:=by rw [hS0];exact hc3
  obtain⟨n,hn,n1,n30,nmo⟩:=GG way h0 h17
  have e0:aD (gN 2) (am bA (ad (aa 0) (ad (fC (.int 0)) ar))) [some S0,some (.int mo),none,none,none,none,none,none,none,none,none,none] []=.nx [some S0,some (.int mo),some (.int way),none,none,none,none,none,none,none,none,none] []:=aH (av (de rfl rfl) (hway _))
  have e1:aD (gN 3) (ah cE (fC (.int 1)) (ah cL (ah iw (aa 2) (fC (.int 2))) (aa 1))) [some S0,some (.int mo),some (.int way),none,none,none,none,none,none,none,none,none] []=.nx [some S0,some (.int mo),some (.int way),some (.int n),none,none,none,none,none,none,none,none] []:=by rw [hn];exact aH (aq rfl (aq (aq rfl rfl (iT (by decide) (by decide))) rfl (dG h0)) rfl)
  obtain⟨ds,h2,k2,l2,v2,σ2,q2,hh2,g2⟩:=kP (g:=none) (all:=(List.range n).map fun k:Nat=>D.int k) (tg:=gN 0) (xs:=(List.range n).map fun k:Nat=>D.int k) (k:=0)
    (e:=bL (pD (ad (fC (.int 0)) ar) (aa 1))) (σ:=[none,some (.int n)]) (h:=[])
    (P:=fun i σ h=>(∃ a,σ = [a,some (.int n)])∧h.length=i ∧ ∀ j,j < i→h[j]? = some (.lst ((List.replicate n 0).map .int))) (V:=fun i d=>d=.ref i) (fun _ _ _ _=>trivial) (by
      rintro i x σ h0 hx ⟨⟨a,rfl⟩,hl,e1⟩
      obtain⟨hi,rfl⟩:=cF hx
      rw [Nat.zero_add] at hl e1 ⊢
      refine⟨_,rfl,.ref h0.length,h0++[.lst ((List.replicate n 0).map .int)],?_,by rw [hl],⟨_,rfl⟩,by simp [hl],fun j hj => ?_⟩
      · rw [List.map_replicate];exact EW n30 rfl
      · by_cases hji:j < i
        · exact dH _ (e1 j hji)
        · have:j=i:=Nat.le_antisymm (Nat.le_of_lt_succ hj) (Nat.not_lt.mp hji)
          subst this
          rw [← hl];exact ZG) ⟨⟨_,rfl⟩,rfl,fun j hj=>absurd hj (Nat.not_lt_zero _)⟩
  simp at l2 hh2 g2
  have e2':ds=(List.range n).map fun i=>.ref (0 + i):=pK l2 fun i d hd=>by simpa using v2 i d hd
  subst e2'
  obtain⟨h3,hh3⟩ : ∃ h3,h3=h2++[du.lst ((List.range n).map fun i=>.ref (0 + i))]:=⟨_,rfl⟩
  have l3:h3.length=n + 1:=by rw [hh3];simp [hh2]
  have e2:aD (gN 4) (bL (bJ 1 [3] (bi (aa 3)) (gN 0) [] (bL (pD (ad (fC (.int 0)) ar) (aa 1))))) [some S0,some (.int mo),some (.int way),some (.int n),none,none,none,none,none,none,none,none] []=.nx (XM S0 mo way n none none none none none none none) h3:=by
    rw [hh3]
    show _=Out.nx [some S0,some (.int mo),some (.int way),some (.int n),some (.ref (0 + n)),none,none,none,none,none,none,none] _
    rw [show D.ref (0 + n)=.ref h2.length by rw [hh2,Nat.zero_add]]
    exact aH (eM (cM (cv rfl (gY n30)) k2) (by rw [ZA,ZO];exact (gY n30)))
  have m3:fH 0 n (fun _ _=>0) h3:=by
    refine⟨fun i hi => ?_,?_⟩
    · rw [hh3,Nat.zero_add,dH _ (g2 i hi)]
      congr 2
      simp only [eE,List.map_map]
      apply List.ext_getElem?
      intro j
      by_cases hj:j < n<;>simp [hj]
    · rw [hh3,Nat.zero_add,← hh2];exact ZG
  have O3:MOk (fun _ _=>0):=⟨fun _ _=>rfl,fun _ _=>⟨Int.le_refl _,by decide⟩,fun _=>rfl⟩
  obtain⟨td,q4,tl,tb⟩:=GC c1 way 803 (n * n) (ZM (Nat.mul_le_mul n30 n30) (by decide)) (by decide) (by decide) h3
  obtain⟨h4,hh4⟩ : ∃ h4,h4=h3++[du.lst (td.map .int)]:=⟨_,rfl⟩
  rw [← hh4,l3] at q4
  have sn:sml (n:Int)=true:=oE (Int.natCast_nonneg n) (Int.lt_of_le_of_lt (Int.ofNat_le.mpr n30) (by decide))
  have e3:aD (gN 5) (am dw (ad (am bA (ad (aa 0) (ad (fC (.int 1)) ar))) (ad (aa 2) (ad (ah bC (aa 3) (aa 3)) (ad (fC (.int 803)) ar))))) (XM S0 mo way n none none none none none none none) h3=.nx (XM S0 mo way n (some (.ref (n + 1))) none none none none none none) h4:=by
    have q4':dw [.int c1,.int way,.int ((n:Int) * n),.int 803] h3=.ok (.ref (n + 1)) h4:=by rw [← Int.natCast_mul];exact q4
    exact GE (E:=ah bC (aa 3) (aa 3)) (hc1 h3) (HY (by rw [sn,Bool.or_self]) h3) q4'
  have m4:fH 0 n (fun _ _=>0) h4:=by rw [hh4];exact m3.more _
  have t4:h4[n + 1]? = some (.lst (td.map .int)):=by rw [hh4,← l3];exact ZG
  obtain⟨M,h5,x6,x7,x8,q5,O5,m5,l5⟩:=D5 (A:=0) (tk:=n + 1) (way:=way) n30 tl tb (by omega) O3 m4 t4 (S0:=S0) (p1:=.int mo) (L:=n + 2) (by rw [hh4];simp [l3])
  have e4:dA (bi (aa 3)) (gN 6) iY (XM S0 mo way n (some (.ref (n + 1))) none none none none none none) h4=.nx (XM S0 mo way n (some (.ref (n + 1))) x6 x7 x8 none none none) h5:=c9 (cv rfl (gY n30)) q5
  have cs:cx (some (0 + n)) ((List.range n).map fun i=>.ref (0 + i)) (gN 0) [] (oY (lOf (aa 0))) ((List.range n).map fun i=>.ref (0 + i)) [none] h5=.ok (((List.range n).map fun i=>(eE M n i).sum).map D.int) h5:=by
    have:=bD (g:=some (0 + n)) (all:=(List.range n).map fun i=>.ref (0 + i)) (tg:=gN 0) (cs:=[]) (e:=oY (lOf (aa 0))) (h:=h5) (I:=fun σ=>∃ a,σ = [a]) (fun _=>true) (fun d=>match d with | .ref k=>.int (eE M n k).sum|_=>.non) m5.ti (xs:=(List.range n).map fun i=>.ref (0 + i)) (σ:=[none]) (by
      rintro x hx σ ⟨a,rfl⟩
      obtain⟨i,hi,rfl⟩:=List.mem_map.mp hx
      have hi:=List.mem_range.mp hi
      have r:=m5.ro i hi
      simp only [Nat.zero_add] at r ⊢
      refine⟨_,rfl,⟨_,rfl⟩,rfl,fun _ => ?_⟩
      exact ww (bU rfl (aJ r)) (mJ _)) ⟨_,rfl⟩
    rw [this,List.filter_eq_self.mpr (by simp),List.map_map,List.map_map]
    refine congrArg (fun l=>Res.ok l h5) ?_
    apply List.map_congr_left
    intro i _
    simp
  obtain⟨bs0,hbs0⟩ : ∃ bs0,bs0=(List.range n).map fun i=>(eE M n i).sum:=⟨_,rfl⟩
  rw [← hbs0] at cs
  have lb0:bs0.length=n:=by rw [hbs0];simp
  have bb0:∀ x∈bs0,0≤x∧x≤12000:=fun x hx=>by
    rw [hbs0] at hx
    obtain⟨i,_,rfl⟩:=List.mem_map.mp hx
    have:=EX (eE M n i) fun y hy=>by
      obtain⟨j,_,rfl⟩:=List.mem_map.mp hy
      exact O5.bd i j
    have ll:(eE M n i).length=n:=by simp [eE]
    rw [ll] at this
    exact IZ n30 this
  obtain⟨h6,hh6⟩ : ∃ h6,h6=h5++[du.lst (bs0.map .int)]:=⟨_,rfl⟩
  have l6:h6.length=n + 3:=by rw [hh6];simp [l5]
  have e5:aD (gN 9) (bL (bJ 1 [] (dW (aa 4)) (gN 0) [] (oY (lOf (aa 0))))) (XM S0 mo way n (some (.ref (n + 1))) x6 x7 x8 none none none) h5=.nx (XM S0 mo way n (some (.ref (n + 1))) x6 x7 x8 (some (.ref (n + 2))) none none) h6:=by
    rw [hh6,← l5]
    exact aH (eM (cM (dR rfl m5.ti) cs) (by rw [ZA,lb0];exact (gY n30)))
  have m6:fH 0 n M h6:=by rw [hh6];exact m5.more _
  have b6:h6[n + 2]? = some (.lst (bs0.map .int)):=by rw [hh6,← l5];exact ZG
  have e6:∃ (bs:List Int) (x6' x10:Option D) (h7:Hd),sIf (tE (ah oEq (ah cL (ah iw (aa 2) (fC (.int 128))) (fC (.int 2))) (fC (.int 1)))) (aA (aD (gN 10) (am dw (ad (am bA (ad (aa 0) (ad (fC (.int 2)) ar))) (ad (aa 2) (ad (aa 3) (ad (fC (.int 2001)) ar))))))
    (dA (bi (aa 3)) (gN 6) gJ)) bw (XM S0 mo way n (some (.ref (n + 1))) x6 x7 x8 (some (.ref (n + 2))) none none) h6=.nx (XM S0 mo way n (some (.ref (n + 1))) x6' x7 x8 (some (.ref (n + 2))) x10 none) h7∧fH 0 n M h7∧h7[n + 2]? = some (.lst (bs.map .int))∧bs.length=n∧n + 3≤h7.length ∧ ∀ x∈bs,-20000≤x∧x≤20000:=by
    have bt:=vd (way:=way) (d:=128) (σ:=(XM S0 mo way n (some (.ref (n + 1))) x6 x7 x8 (some (.ref (n + 2))) none none)) (h:=h6) (i:=2) rfl (by decide) (by decide)
    by_cases e:way / 128 % 2=1
    · rw [decide_eq_true e] at bt
      obtain⟨stp,q7,sl,sb⟩:=GC c2 way 2001 n (gY n30) (by decide) (by decide) h6
      rw [l6] at q7
      have t1:aD (gN 10) (am dw (ad (am bA (ad (aa 0) (ad (fC (.int 2)) ar))) (ad (aa 2) (ad (aa 3) (ad (fC (.int 2001)) ar))))) (XM S0 mo way n (some (.ref (n + 1))) x6 x7 x8 (some (.ref (n + 2))) none none) h6=.nx (XM S0 mo way n (some (.ref (n + 1))) x6 x7 x8 (some (.ref (n + 2))) (some (.ref (n + 3))) none) (h6++[.lst (stp.map .int)]):=by
        exact aH (av (aj (av (de rfl rfl) (hc2 _)) (aj rfl (de rfl rfl))) q7)
      obtain⟨bs',c',q8,lb',bb'⟩:=Cc (A:=0) (lk:=n + 2) (tk:=n + 3) (way:=way) n30 sl (ZN (Nat.lt_succ_self _)) (h:=h6++[.lst (stp.map .int)]) lb0 sb bb0 (dH _ b6) (by rw [← l6];exact ZG) (S0:=S0) (p1:=.int mo) (q4:=.ref (0 + n)) (q5:=.ref (n + 1)) (a:=x7) (b:=x8) (c:=x6)
      refine⟨bs',c',some (.ref (n + 3)),_,?_,(m6.more [.lst (stp.map .int)]).set (k:=n + 2) (by omega) (.lst (bs'.map .int)),?_,lb',by simp [l6],bb'⟩
      · exact (pL bt).trans ((aE t1).trans (c9 (cv rfl (gY n30)) q8))
      · rw [List.getElem?_set_self (by simp [l6])]
    · rw [decide_eq_false e] at bt
      exact⟨bs0,x6,none,h6,by rw [D3 bt];rfl,m6,b6,lb0,Nat.le_of_eq l6.symm,fun x hx=>lv3 (bb0 x hx)⟩
  obtain⟨bs,x6',x10,h7,e6,m7,b7,lb7,l7,bb7⟩:=e6
  obtain⟨h8,hh8⟩ : ∃ h8,h8=h7++[du.lst ((List.replicate n (none:Option Int)).map bN)]:=⟨_,rfl⟩
  have e7:aD (gN 11) (bL (pD (ad (fC .non) ar) (aa 3))) (XM S0 mo way n (some (.ref (n + 1))) x6' x7 x8 (some (.ref (n + 2))) x10 none) h7=.nx (XM S0 mo way n (some (.ref (n + 1))) x6' x7 x8 (some (.ref (n + 2))) x10 (some (.ref h7.length))) h8:=by
    rw [hh8,List.map_replicate]
    exact aH (EW n30 rfl)
  have m8:fH 0 n M h8:=by rw [hh8];exact m7.more _
  have b8:h8[n + 2]? = some (.lst (bs.map .int)):=by rw [hh8];exact dH _ b7
  have s8:h8[h7.length]? = some (.lst ((List.replicate n (none:Option Int)).map bN)):=by rw [hh8];simp
  have e8:∃ (ss:List (Option Int)) (x5:D) (sk:Nat) (h9:Hd),sIf (tE (ah oEq (ah cL (ah iw (aa 2) (fC (.int 512))) (fC (.int 2))) (fC (.int 1)))) (aA (aD (gN 5) (am dw (ad (am bA (ad (aa 0) (ad (fC (.int 3)) ar))) (ad (aa 2) (ad (aa 3) (ad (fC (.int 7)) ar))))))
    (aD (gN 11) (bL (bJ 1 [] (dW (aa 5)) (gN 0) [] (fIx (ad (fC (.int 0)) (ad (fC (.int 1)) (ad (fC .non) (ad (fC .non) (ad (fC .non) (ad (fC .non) (ad (fC .non) ar))))))) (aa 0)))))) bw (XM S0 mo way n (some (.ref (n + 1))) x6' x7 x8 (some (.ref (n + 2))) x10 (some (.ref h7.length))) h8=.nx (XM S0 mo way n (some x5) x6' x7 x8 (some (.ref (n + 2))) x10 (some (.ref sk))) h9∧fH 0 n M h9∧h9[n + 2]? = some (.lst (bs.map .int))∧h9[sk]? = some (.lst (ss.map bN))∧ss.length=n∧(∀ x∈ss,x=none∨x=some 0∨x=some 1)∧n < sk:=by
    have bt:=vd (way:=way) (d:=512) (σ:=(XM S0 mo way n (some (.ref (n + 1))) x6' x7 x8 (some (.ref (n + 2))) x10 (some (.ref h7.length)))) (h:=h8) (i:=2) rfl (by decide) (by decide)
    by_cases e:way / 512 % 2=1
    · rw [decide_eq_true e] at bt
      obtain⟨tl3,q9,sl,sb⟩:=GC c3 way 7 n (gY n30) (by decide) (by decide) h8
      obtain⟨hA,hhA⟩ : ∃ hA,hA=h8++[du.lst (tl3.map .int)]:=⟨_,rfl⟩
      rw [← hhA] at q9
      have g9:hA[h8.length]? = some (.lst (tl3.map .int)):=by rw [hhA];simp
      obtain⟨ss,cq,lss,oss⟩:=zu sb g9 none
      have t1:aD (gN 5) (am dw (ad (am bA (ad (aa 0) (ad (fC (.int 3)) ar))) (ad (aa 2) (ad (aa 3) (ad (fC (.int 7)) ar))))) (XM S0 mo way n (some (.ref (n + 1))) x6' x7 x8 (some (.ref (n + 2))) x10 (some (.ref h7.length))) h8=.nx (XM S0 mo way n (some (.ref h8.length)) x6' x7 x8 (some (.ref (n + 2))) x10 (some (.ref h7.length))) hA:=by
        exact aH (av (aj (av (de rfl rfl) (hc3 _)) (aj rfl (de rfl rfl))) q9)
      have t2:aD (gN 11) (bL (bJ 1 [] (dW (aa 5)) (gN 0) [] (fIx (ad (fC (.int 0)) (ad (fC (.int 1)) (ad (fC .non) (ad (fC .non) (ad (fC .non) (ad (fC .non) (ad (fC .non) ar))))))) (aa 0)))) (XM S0 mo way n (some (.ref h8.length)) x6' x7 x8 (some (.ref (n + 2))) x10 (some (.ref h7.length))) hA=.nx (XM S0 mo way n (some (.ref h8.length)) x6' x7 x8 (some (.ref (n + 2))) x10 (some (.ref hA.length))) (hA++[.lst (ss.map bN)]):=by
        exact aH (eM (cM (dR rfl g9) cq) (by rw [ZA,lss,sl];exact (gY n30)))
      refine⟨ss,.ref h8.length,hA.length,hA++[.lst (ss.map bN)],?_,by rw [hhA];exact (m8.more _).more _,?_,by simp,lss.trans sl,oss,by rw [hhA,hh8];simp;omega⟩
      · exact (pL bt).trans ((aE t1).trans t2)
      · exact dH _ (by rw [hhA];exact dH _ b8)
    · rw [decide_eq_false e] at bt
      exact⟨List.replicate n none,.ref (n + 1),h7.length,h8,by rw [D3 bt];rfl,m8,b8,s8,by simp,fun x hx=>.inl (List.eq_of_mem_replicate hx),by omega⟩
  obtain⟨ss,x5,sk,h9,e8,m9,b9,s9,ls9,os9,k9⟩:=e8
  have e9:bc (fL (ad (aa 4) (ad (aa 9) (ad (aa 11) ar)))) (XM S0 mo way n (some x5) x6' x7 x8 (some (.ref (n + 2))) x10 (some (.ref sk))) h9=.rt (.tup [.ref (0 + n),.ref (n + 2),.ref sk]) h9:=bh (iS (aj rfl (de rfl rfl)))
  refine⟨n,M,bs,ss,n + 2,sk,h9,?_,n1,n30,nmo,by omega,k9,m9,O5,b9,s9,lb7,ls9,os9,bb7⟩
  have st:([S0,D.int mo].map some++List.replicate (12 - [S0,D.int mo].length) none:Sd)=[some S0,some (.int mo),none,none,none,none,none,none,none,none,none,none]:=rfl
  rw [← hS0]
  unfold iC bB runB
  rw [if_pos (by rfl),st,aE e0,aE e1,aE e2,aE e3,aE e4,aE e5,aE e6,aE e7,aE e8,e9]
  exact rM rfl
end Fm
namespace Fm
def ku (one other i j:Nat):Prop:=(i < one∧j < one)∨(i=one∧j < other)∨(j=one∧i < other)
instance (one other i j:Nat):Decidable (ku one other i j):=by unfold ku;infer_instance
def fk (M:Nat→Nat→Int) (s:List Int) (one other i j:Nat):Int:=if ku one other i j∧s.getD j 0=1 then M i j else 0
structure LP (n:Nat) (M:Nat→Nat→Int) (one other:Nat) (T:List Tie):Prop where
  ok:TOk n one other T
  pl:∀ i,i < n → ∀ s,aV (nbs T i) s=gZ (fk M s one other i) n
theorem pa1 (a b c:Int):a + (b + c)=a + b + c:=(Int.add_assoc a b c).symm
theorem qc (r r':List (Nat × Int))(s:List Int):aV (r++r') s=aV r s + aV r' s:=by
  induction r with
  | nil=>simp [aV,eJ]
  | cons p r ih=>rw [List.cons_append,dr,dr,ih];exact pa1 _ _ _
theorem sr1 (S x y:Int):S + 0 + x=S + y + (x - y):=by omega
theorem oH {f g:Nat→Int}{p:Nat}(h:∀ j,j≠p→f j=g j):∀ n,gZ f n=gZ g n + if p < n then f p - g p else 0
  | 0=>by simp [gZ]
  | n + 1=>by
    rw [gZ,gZ,oH h n]
    by_cases e:n=p
    · subst e
      rw [if_neg (Nat.lt_irrefl _),if_pos (Nat.lt_succ_self _)];exact sr1 _ _ _
    · rw [h n e]
      by_cases l:p < n
      · rw [if_pos l,if_pos (Nat.lt_succ_of_lt l)];exact Int.add_right_comm _ _ _
      · rw [if_neg l,if_neg fun z=>(Nat.lt_succ_iff_lt_or_eq.mp z).elim l fun z=>e z.symm,Int.add_zero,Int.add_zero]
theorem jf {f g:Nat→Int}:∀ n,(∀ j,j < n→f j=g j)→gZ f n=gZ g n
  | 0,_=>rfl
  | n + 1,h=>by rw [gZ,gZ,jf n fun j hj=>h j (by omega),h n (by omega)]
theorem zv {one other i j:Nat}:ku one (other + 1) i j ↔ ku one other i j∨(i=one∧j=other)∨(j=one∧i=other):=by
  constructor
  · rintro (h|⟨a,b⟩|⟨a,b⟩)
    · exact .inl (.inl h)
    · exact (Nat.lt_succ_iff_lt_or_eq.mp b).elim (fun b=>.inl (.inr (.inl ⟨a,b⟩))) fun b=>.inr (.inl ⟨a,b⟩)
    · exact (Nat.lt_succ_iff_lt_or_eq.mp b).elim (fun b=>.inl (.inr (.inr ⟨a,b⟩))) fun b=>.inr (.inr ⟨a,b⟩)
  · rintro ((h|⟨a,b⟩|⟨a,b⟩)|⟨a,b⟩|⟨a,b⟩)
    · exact .inl h
    · exact .inr (.inl ⟨a,Nat.lt_succ_of_lt b⟩)
    · exact .inr (.inr ⟨a,Nat.lt_succ_of_lt b⟩)
    · exact .inr (.inl ⟨a,b ▸ Nat.lt_succ_self _⟩)
    · exact .inr (.inr ⟨a,b ▸ Nat.lt_succ_self _⟩)
theorem nv {one other i j:Nat}(h1 : ¬ (i=one∧j=other))(h2 : ¬ (j=one∧i=other)):ku one (other + 1) i j ↔ ku one other i j :=
  zv.trans ⟨fun z=>z.elim id fun z=>z.elim (fun z=>absurd z h1) fun z=>absurd z h2,.inl⟩
theorem yf {one other:Nat}(ho:other < one) : ¬ ku one other one other ∧ ¬ ku one other other one:=by
  refine⟨?_,?_⟩
  · rintro (h|h|h)
    · exact Nat.lt_irrefl _ h.1
    · exact Nat.lt_irrefl _ h.2
    · exact Nat.lt_irrefl _ (h.1 ▸ ho)
  · rintro (h|h|h)
    · exact Nat.lt_irrefl _ h.2
    · exact Nat.lt_irrefl _ (h.1 ▸ ho)
    · exact Nat.lt_irrefl _ h.2
theorem zw {one i j:Nat}(e : ¬ (i=one∧j=one)):ku one one i j ↔ ku (one + 1) 0 i j:=by
  constructor
  · rintro (h|h|h)
    · exact .inl ⟨Nat.lt_succ_of_lt h.1,Nat.lt_succ_of_lt h.2⟩
    · exact .inl ⟨h.1 ▸ Nat.lt_succ_self _,Nat.lt_succ_of_lt h.2⟩
    · exact .inl ⟨Nat.lt_succ_of_lt h.2,h.1 ▸ Nat.lt_succ_self _⟩
  · rintro (⟨a,b⟩|h|h)
    · rcases Nat.lt_succ_iff_lt_or_eq.mp a with a|a<;>rcases Nat.lt_succ_iff_lt_or_eq.mp b with b|b
      · exact .inl ⟨a,b⟩
      · exact .inr (.inr ⟨b,a⟩)
      · exact .inr (.inl ⟨a,b⟩)
      · exact absurd ⟨a,b⟩ e
    · exact absurd h.2 (Nat.not_lt_zero _)
    · exact absurd h.2 (Nat.not_lt_zero _)
theorem sd {n:Nat}{M:Nat→Nat→Int}(O:MOk M){one other:Nat}(ho:other < one)(hn:one < n)(i:Nat)(s:List Int) :
    gZ (fk M s one (other + 1) i) n=gZ (fk M s one other i) n + (if i=one then (if s.getD other 0=1 then M one other else 0) else if i=other then (if s.getD one 0=1 then M one other else 0) else 0):=by
  by_cases e1:i=one
  · subst e1
    rw [if_pos rfl,oH (p:=other) (g:=fk M s i other i) (fun j hj => ?_),if_pos (Nat.lt_trans ho hn)]
    · have p1:ku i (other + 1) i other:=.inr (.inl ⟨rfl,Nat.lt_succ_self _⟩)
      have p2:=(yf ho).1
      simp only [fk,p1,p2,true_and,false_and,if_false,Int.sub_zero]
    · have:=nv (one:=i) (i:=i) (fun z=>hj z.2) fun z=>Nat.ne_of_gt ho z.2
      simp only [fk,this]
  · rw [if_neg e1]
    by_cases e2:i=other
    · subst e2
      rw [if_pos rfl,oH (p:=one) (g:=fk M s one i i) (fun j hj => ?_),if_pos hn]
      · have p1:ku one (i + 1) i one:=.inr (.inr ⟨rfl,Nat.lt_succ_self _⟩)
        have p2:=(yf ho).2
        simp only [fk,p1,p2,true_and,false_and,if_false,O.sym i one,Int.sub_zero]
      · have:=nv (i:=i) (other:=i) (fun z=>e1 z.1) fun z=>hj z.1
        simp only [fk,this]
    · rw [if_neg e2,jf n (g:=fk M s one other i) fun j _ => ?_]
      · exact (Int.add_zero _).symm
      · have:=nv (i:=i) (j:=j) (fun z=>e1 z.1) fun z=>e2 z.2
        simp only [fk,this]
theorem LP.skip {n:Nat}{M:Nat→Nat→Int}(O:MOk M){one other:Nat}{T:List Tie}(L:LP n M one other T)(ho:other < one)(hn:one < n)(z:M one other=0):LP n M one (other + 1) T :=
  ⟨L.ok.skip,fun i hi s=>by
    rw [L.pl i hi s,sd O ho hn i s,z]
    split<;>(try split)<;>(try split)<;>omega⟩
theorem LP.put {n:Nat}{M:Nat→Nat→Int}(O:MOk M){one other:Nat}{T:List Tie}(L:LP n M one other T)(ho:other < one)(hn:one < n)(z:0 < M one other):LP n M one (other + 1) (T++[⟨other,one,M one other⟩]):=by
  have b:=O.bd one other
  refine⟨?_,fun i hi s => ?_⟩
  · have:=L.ok.put hn ho (w:=M one other) z b.2 (t:=⟨other,one,M one other⟩) (.inr rfl) T.length
    simpa using this
  · rw [uV,qc,L.pl i hi s,sd O ho hn i s]
    congr 1
    by_cases e1:i=one
    · have f:far i ⟨other,one,M one other⟩ = some other:=by
        unfold far;rw [if_neg (fun z:other=i=>ZN ho (z.trans e1)),if_pos e1.symm]
      rw [f,if_pos e1]
      simp only
      rw [dr]
      simp [aV,eJ]
    · rw [if_neg e1]
      by_cases e2:i=other
      · have f:far i ⟨other,one,M one other⟩ = some one:=by unfold far;rw [if_pos e2.symm]
        rw [f,if_pos e2]
        simp only
        rw [dr]
        simp [aV,eJ]
      · have f:far i ⟨other,one,M one other⟩ = none:=by
          unfold far;rw [if_neg (fun z:other=i=>e2 z.symm),if_neg (fun z:one=i=>e1 z.symm)]
        rw [f,if_neg e2]
        simp [aV,eJ]
theorem LP.step {n:Nat}{M:Nat→Nat→Int}(O:MOk M){one:Nat}{T:List Tie}(L:LP n M one one T)(h:one < n)(hn:n≤30):LP n M (one + 1) 0 T :=
  ⟨L.ok.step h hn,fun i hi s=>by
    rw [L.pl i hi s]
    refine jf n fun j _ => ?_
    unfold fk
    by_cases e:i=one∧j=one
    · rw [e.1,e.2,O.no one];split<;>split<;>rfl
    · have:=zw e
      simp only [this]⟩
structure Md (Z n:Nat) (M:Nat→Nat→Int) (bs:List Int) (ss:List (Option Int)) (bk sk:Nat) (h:Hd):Prop where
  n1:1≤n
  n30:n≤30
  mt:fH Z n M h
  mo:MOk M
  ba:h[bk]? = some (.lst (bs.map .int))
  st:h[sk]? = some (.lst (ss.map bN))
  lb:bs.length=n
  ls:ss.length=n
  os:∀ x∈ss,x=none∨x=some 0∨x=some 1
theorem Md.more {Z n:Nat}{M:Nat→Nat→Int}{bs:List Int}{ss:List (Option Int)}{bk sk:Nat}{h:Hd}(m:Md Z n M bs ss bk sk h)(g:Hd):Md Z n M bs ss bk sk (h++g):=by
  have k:∀ {i:Nat} {x:du},h[i]? = some x→(h++g)[i]? = some x:=fun {i x} e=>by
    rw [ZC (List.getElem?_eq_some_iff.mp e).1];exact e
  exact⟨m.n1,m.n30,m.mt.more g,m.mo,k m.ba,k m.st,m.lb,m.ls,m.os⟩
theorem Ce {Z n:Nat}{M:Nat→Nat→Int}{bs:List Int}{ss:List (Option Int)}{bk sk:Nat}{h:Hd}(m:Md Z n M bs ss bk sk h) :
    ∃ T,fF [.tup [.ref (Z + n),.ref bk,.ref sk]] h=.ok (.ref h.length) (h++[.lst (T.map cr)])∧LP n M n 0 T:=by
  have n30:=m.n30
  obtain⟨td,htd⟩ : ∃ td:D,td=.tup [.ref (Z + n),.ref bk,.ref sk]:=⟨_,rfl⟩
  obtain⟨A,hA⟩ : ∃ A,A=h.length:=⟨_,rfl⟩
  have t0:∀ g,fAt (aa 0) (fC (.int 0)) (some td :: g)=fun h=>.ok (.ref (Z + n)) h:=fun g=>by
    funext h;rw [htd]
    exact aP rfl rfl rfl rfl
  obtain⟨σ',h',k1,T,a,b,k2,k3,k4⟩:=bE (P:=fun i σ h'=>∃ (T:List Tie) (a b:Option D),σ = [some td,some (.ref A),a,b]∧h'=h++[.lst (T.map cr)]∧LP n M i 0 T) (g:=none) (k:=0)
      (all:=(List.range n).map fun k:Nat=>D.int k) (fun _ _ _ _=>trivial)
      (xs:=(List.range n).map fun k:Nat=>D.int k) (tg:=gN 2) (σ:=[some td,some (.ref A),none,none]) (h:=h++[.lst []]) (b:=kU) (by
      rintro i x σ h0 hx ⟨T,a,b,rfl,hh0,L⟩
      obtain⟨hi,rfl⟩:=cF hx
      rw [Nat.zero_add] at L ⊢
      obtain⟨σ2,h2,j1,T2,b2,j2,j3,j4⟩:=bE (P:=fun j σ h'=>∃ (T:List Tie) (b:Option D),σ = [some td,some (.ref A),some (.int i),b]∧h'=h++[.lst (T.map cr)]∧LP n M i j T) (g:=none) (k:=0)
          (all:=(List.range i).map fun k:Nat=>D.int k) (fun _ _ _ _=>trivial)
          (xs:=(List.range i).map fun k:Nat=>D.int k) (tg:=gN 3) (σ:=[some td,some (.ref A),some (.int i),b]) (h:=h0) (b:=pW) (by
          rintro j x σ h1 hx ⟨T1,b1,rfl,hh1,L1⟩
          obtain⟨hj,rfl⟩:=cF hx
          rw [Nat.zero_add] at L1 ⊢
          have m1:Md Z n M bs ss bk sk h1:=by rw [hh1];exact m.more _
          have a1:=vc (A:=Z) hi
          have r1:=m1.mt.ro i hi
          have v1:=Cb (M:=M) (n:=n) (i:=i) (j:=j) (Nat.lt_trans hj hi)
          have ti1:=m1.mt.ti
          have cellE:fAt (fAt (fAt (aa 0) (fC (.int 0))) (aa 2)) (aa 3) [some td,some (.ref A),some (.int i),some (.int j)] h1=.ok (.int (M i j)) h1:=by
            have e0:=congrFun (t0 [some (.ref A),some (.int i),some (.int j)]) h1
            exact aP (aP e0 rfl (aJ ti1) a1) rfl (aJ r1) v1
          have gA:h1[A]? = some (.lst (T1.map cr)):=by rw [hh1];exact dv hA _
          have tz:(T1.map cr).length < SZ:=by rw [ZA];exact Nat.lt_trans (few L1.ok.len hi n30 hj) (by decide)
          have tt:tE (ah oGt (fAt (fAt (fAt (aa 0) (fC (.int 0))) (aa 2)) (aa 3)) (fC (.int 0))) [some td,some (.ref A),some (.int i),some (.int j)] h1=.ok (decide (0 < M i j)) h1:=by
            exact bn (aq cellE rfl rfl)
          by_cases c:0 < M i j
          · refine⟨_,rfl,[some td,some (.ref A),some (.int i),some (.int j)],h++[.lst ((T1++[(⟨j,i,M i j⟩ : Tie)]).map cr)],?_,T1++[(⟨j,i,M i j⟩ : Tie)],_,rfl,rfl,L1.put m.mo hj hi c⟩
            rw [decide_eq_true c] at tt
            show sIf _ _ _ [some td,some (.ref A),some (.int i),some (.int j)] h1=_
            rw [HX tt]
            have st:h1.set A (.lst (T1.map cr++[.tup [.int j,.int i,.int (M i j)]]))=h++[.lst ((T1++[(⟨j,i,M i j⟩ : Tie)]).map cr)]:=by rw [hh1,iW hA,ZR];rfl
            rw [← st]
            exact gE (kQ rfl gA (iS (aj rfl (aj rfl (aj cellE rfl)))) gA tz)
          · have z:M i j=0:=Int.le_antisymm (Int.not_lt.mp c) (m.mo.bd i j).1
            refine⟨_,rfl,[some td,some (.ref A),some (.int i),some (.int j)],h1,?_,T1,_,rfl,hh1,L1.skip m.mo hj hi z⟩
            rw [decide_eq_false c] at tt
            show sIf _ _ _ [some td,some (.ref A),some (.int i),some (.int j)] h1=_
            rw [D3 tt];rfl) ⟨T,b,rfl,hh0,L⟩
      have e0:0 + ((List.range i).map fun k:Nat=>D.int k).length=i:=by simp
      rw [e0] at j4
      refine⟨_,rfl,[some td,some (.ref A),some (.int i),b2],h2,?_,T2,_,_,rfl,j3,j4.step m.mo hi n30⟩
      show dA _ _ _ [some td,some (.ref A),some (.int i),b] h0=_
      exact (c9 (cv rfl (ZM (Nat.le_of_lt hi) (gY n30))) j1).trans (by rw [j2])) ⟨[],none,none,rfl,rfl,⟨⟨by simp,by simp,by simp,by simp,List.Pairwise.nil,by simp⟩,fun i hi s=>by
        have:∀ k,gZ (fk M s 0 0 i) k=0:=fun k=>by
          induction k with
          | zero=>rfl
          | succ k ih =>
            rw [gZ,ih]
            have : ¬ ku 0 0 i k:=by unfold ku;omega
            simp [fk,this]
        rw [this];rfl⟩⟩
  have e0:0 + ((List.range n).map fun k:Nat=>D.int k).length=n:=by simp
  rw [e0] at k4
  refine⟨T,?_,k4⟩
  have s1:aD (gN 1) (bL ar) [some td,none,none,none] h=.nx [some td,some (.ref A),none,none] (h++[.lst []]):=aH (hV hA rfl (Nat.zero_le _))
  have b1:=(m.more [.lst []]).ba
  have ln:cz (lOf (fAt (aa 0) (fC (.int 1)))) [some td,some (.ref A),none,none] (h++[.lst []])=.ok (.int n) (h++[.lst []]):=by
    rw [htd]
    exact (dF (bU (aP rfl rfl rfl rfl) (aJ b1))).trans (by rw [ZA,m.lb])
  have s2:dA (bi (cz (lOf (fAt (aa 0) (fC (.int 1)))))) (gN 2) kU [some td,some (.ref A),none,none] (h++[.lst []])=.nx [some td,some (.ref A),a,b] (h++[.lst (T.map cr)]):=by
    rw [k2,k3] at k1
    exact c9 (cv ln (gY n30)) k1
  have s3:bc (aa 1) [some td,some (.ref A),a,b] (h++[.lst (T.map cr)])=.rt (.ref A) (h++[.lst (T.map cr)]):=bh rfl
  have st:([td].map some++List.replicate (4 - [td].length) none:Sd)=[some td,none,none,none]:=rfl
  rw [← htd]
  unfold fF bB runB
  rw [if_pos (by rfl),st,aE s1,aE s2,s3,← hA]
  exact cA
end Fm
namespace Fm
section
variable {Z n:Nat} {M:Nat→Nat→Int} {bs:List Int} {ss:List (Option Int)} {bk sk:Nat} {h:Hd}
noncomputable abbrev XT (td:D) (s:List Int) (Z n bk sk:Nat) (a5 a6 a7 a8:Option D):Sd:=[some td,some (af s),some (.ref (Z + n)),some (.ref bk),some (.ref sk),a5,a6,a7,a8]
theorem ve {T:List Tie}(L:LP n M n 0 T){s:List Int}(B:kR s){i:Nat}(hi:i < n):gZ (fun j=>M i j * s.getD j 0) n=aV (nbs T i) s:=by
  rw [L.pl i hi s]
  refine jf n fun j hj => ?_
  have p:ku n 0 i j:=.inl ⟨hi,hj⟩
  rcases B j with e|e
  · simp only [fk,e];simp
  · simp only [fk,p,e];simp
theorem D6 (m:Md Z n M bs ss bk sk h){T:List Tie}(q:fF [.tup [.ref (Z + n),.ref bk,.ref sk]] h=.ok (.ref h.length) (h++[.lst (T.map cr)]))(L:LP n M n 0 T) :
    jT [.tup [.ref (Z + n),.ref bk,.ref sk]] h=.ok (bH n T bs ss).enc h:=by
  have n30:=m.n30
  obtain⟨td,htd⟩ : ∃ td:D,td=.tup [.ref (Z + n),.ref bk,.ref sk]:=⟨_,rfl⟩
  have f1:∀ g,fAt (aa 0) (fC (.int 1)) [some td] g=.ok (.ref bk) g:=fun g=>by
    rw [htd];exact (aP rfl rfl rfl rfl)
  have f2:∀ g,fAt (aa 0) (fC (.int 2)) [some td] g=.ok (.ref sk) g:=fun g=>by
    rw [htd];exact (aP rfl rfl rfl rfl)
  obtain⟨h1,hh1⟩ : ∃ h1,h1=h++[du.lst (T.map cr)]:=⟨_,rfl⟩
  have m1:Md Z n M bs ss bk sk h1:=by rw [hh1];exact m.more _
  obtain⟨h2,hh2⟩ : ∃ h2,h2=h1++[du.lst (bs.map .int)]:=⟨_,rfl⟩
  have m2:Md Z n M bs ss bk sk h2:=by rw [hh2];exact m1.more _
  obtain⟨h3,hh3⟩ : ∃ h3,h3=h2++[du.lst (ss.map bN)]:=⟨_,rfl⟩
  have old1:∀ {k:Nat} {x:du},h1[k]? = some x→h3[k]? = some x:=fun {k x} e=>by
    have z:=(List.getElem?_eq_some_iff.mp e).1
    rw [hh3,hh2,ZU,ZC z];exact e
  have g1:h3[h.length]? = some (.lst (T.map cr)):=old1 (by rw [hh1];simp)
  have g2:h3[h1.length]? = some (.lst (bs.map .int)):=by rw [hh3,hh2];exact dH _ ZG
  have g3:h3[h2.length]? = some (.lst (ss.map bN)):=by rw [hh3];simp
  have wq:=rW m.n1 n30 L.ok m.lb m.ls m.os g1 g2 g3
  have lb:(bs.map D.int).length≤SZ:=by rw [ZA,m.lb];exact (gY n30)
  have ls:(ss.map bN).length≤SZ:=by rw [ZA,m.ls];exact (gY n30)
  have ba:=m.ba
  have ba1:=m1.ba
  have st2:=m2.st
  rw [← htd,← hh1] at q
  have r:am eC (ad (cz (lOf (fAt (aa 0) (fC (.int 1))))) (ad (am fF (ad (aa 0) ar)) (ad (bL (lOf (fAt (aa 0) (fC (.int 1))))) (ad (bL (lOf (fAt (aa 0) (fC (.int 2))))) ar)))) [some td] h=.ok (bH n T bs ss).enc h3:=by
    have e1:bL (lOf (fAt (aa 0) (fC (.int 1)))) [some td] h1=.ok (.ref h1.length) h2:=by rw [hh2];exact eM (bU (f1 _) (aJ ba1)) lb
    have e2:bL (lOf (fAt (aa 0) (fC (.int 2)))) [some td] h2=.ok (.ref h2.length) h3:=by rw [hh3];exact eM (bU (f2 _) (aJ st2)) ls
    have e3:cz (lOf (fAt (aa 0) (fC (.int 1)))) [some td] h=.ok (.int n) h:=by
      have:=dF (bU (f1 h) (aJ ba))
      rwa [ZA,m.lb] at this
    exact av (aj e3 (aj (av (aj rfl rfl) q) (aj e1 (aj e2 rfl)))) wq
  have fin:letGo h (.ok (bH n T bs ss).enc h3)=.ok (bH n T bs ss).enc h:=by
    rw [hh3,hh2,hh1,ZU,ZU];exact cO (pR _)
  rw [← htd]
  unfold jT bB runB
  rw [if_pos (by rfl)]
  show letGo h (match outE (am eC _ [some td] h) _ _ with | .nx _ h=>_ | .rt d h=>_ | .exc x _ h=>_|_=>_)=_
  rw [r]
  exact fin
theorem I0 {x y:Int}(e:y=0∨y=1)(h:Hd):bC (.int x) (.int y) h=.ok (.int (x * y)) h:=zt (by rw [DS e,Bool.or_true]) h
theorem w9 (m:Md Z n M bs ss bk sk h){s:List Int}(ls:s.length=n)(B:kR s){i:Nat}(hi:i < n)(a:Option D) :
    cx none ((List.range n).map fun k:Nat=>D.int k) (gN 0) [] (ah bC (fAt (fAt (aa 2) (aa 3)) (aa 0)) (fAt (aa 1) (aa 0))) ((List.range n).map fun k:Nat=>D.int k) [a,some (af s),some (.ref (Z + n)),some (.int i)] h=.ok (((List.range n).map fun j=>M i j * s.getD j 0).map .int) h:=by
  have:=bD (g:=none) (all:=(List.range n).map fun k:Nat=>D.int k) (tg:=gN 0) (cs:=[]) (e:=ah bC (fAt (fAt (aa 2) (aa 3)) (aa 0)) (fAt (aa 1) (aa 0))) (h:=h) (I:=fun σ=>∃ a,σ = [a,some (af s),some (.ref (Z + n)),some (.int i)]) (fun _=>true) (fun d=>match d with | .int j=>.int (M i j.toNat * s.getD j.toNat 0)|_=>.non) trivial
    (xs:=(List.range n).map fun k:Nat=>D.int k) (σ:=[a,some (af s),some (.ref (Z + n)),some (.int i)]) (by
      rintro x hx σ ⟨c,rfl⟩
      obtain⟨j,hj,rfl⟩:=List.mem_map.mp hx
      have hj:=List.mem_range.mp hj
      refine⟨_,rfl,⟨_,rfl⟩,rfl,fun _ => ?_⟩
      have a1:=vc (A:=Z) hi
      have r1:=m.mt.ro i hi
      have v1:=Cb (M:=M) (n:=n) (i:=i) hj
      have ti1:=m.mt.ti
      have v2:=lI (l:=s) (i:=j) (ls ▸ hj)
      have e1:fAt (fAt (aa 2) (aa 3)) (aa 0) [some (.int (j:Nat)),some (af s),some (.ref (Z + n)),some (.int i)] h=.ok (.int (M i j)) h:=by
        exact aP (aP rfl rfl (aJ ti1) a1) rfl (aJ r1) v1
      have e2:fAt (aa 1) (aa 0) [some (.int (j:Nat)),some (af s),some (.ref (Z + n)),some (.int i)] h=.ok (.int (s.getD j 0)) h:=by
        exact aP rfl rfl rfl v2
      show ah bC (fAt (fAt (aa 2) (aa 3)) (aa 0)) (fAt (aa 1) (aa 0)) [some (.int (j:Nat)),some (af s),some (.ref (Z + n)),some (.int i)] h=_
      exact aq e1 e2 (I0 (B j) h)) ⟨_,rfl⟩
  rw [this,List.filter_eq_self.mpr (by simp),List.map_map,List.map_map]
  rfl
theorem GH (m:Md Z n M bs ss bk sk h){T:List Tie}(L:LP n M n 0 T){s:List Int}(ls:s.length=n)(B:kR s) :
    gL [.tup [.ref (Z + n),.ref bk,.ref sk],af s] h=.ok (af (aB (bH n T bs ss) n s)) h:=by
  have n30:=m.n30
  obtain⟨w,hw⟩ : ∃ w,w=bH n T bs ss:=⟨_,rfl⟩
  obtain⟨td,htd⟩ : ∃ td:D,td=.tup [.ref (Z + n),.ref bk,.ref sk]:=⟨_,rfl⟩
  obtain⟨A,hA⟩ : ∃ A,A=h.length:=⟨_,rfl⟩
  obtain⟨σ',h',k1,x6,x7,x8,k2,k3⟩:=bE (P:=fun i σ h'=>∃ (a b c:Option D),σ = (XT td s Z n bk sk (some (.ref A)) a b c)∧h'=h++[.lst (((List.range i).map (bW w s)).map .int)]) (g:=none) (k:=0)
      (all:=(List.range n).map fun k:Nat=>D.int k) (fun _ _ _ _=>trivial)
      (xs:=(List.range n).map fun k:Nat=>D.int k) (tg:=gN 6) (σ:=(XT td s Z n bk sk (some (.ref A)) none none none)) (h:=h++[.lst []]) (b:=mR) (by
      rintro i x σ h0 hx ⟨a,b,c,rfl,hh0⟩
      obtain⟨hi,rfl⟩:=cF hx
      rw [Nat.zero_add] at hh0 ⊢
      have m0:Md Z n M bs ss bk sk h0:=by rw [hh0];exact m.more _
      have fc:=w9 m0 ls B hi none
      have v2:=lI (l:=s) (i:=i) (ls ▸ hi)
      have l3:i < ss.length:=by rw [m.ls];exact hi
      have v3:=lI (l:=bs) (i:=i) (m.lb ▸ hi)
      have v4:atI (ss.map bN) (i:Int)=some (bN (ss.getD i none)):=by rw [gm l3];simp [List.getD,l3]
      have ba:=m0.ba
      have st:=m0.st
      have nx:=wH (T:=T) (bs:=bs) (ss:=ss) (s:=s) hi
      rw [← hw] at nx
      obtain⟨P,hP⟩ : ∃ P,P=aV (nbs T i) s:=⟨_,rfl⟩
      have fe:=ve L B hi
      rw [← hP] at fe nx
      have sm:en (((List.range n).map fun j=>M i j * s.getD j 0).map .int)=some ((List.range n).map fun j=>M i j * s.getD j 0):=mJ _
      have su:((List.range n).map fun j=>M i j * s.getD j 0).sum=P:=by rw [zc];exact fe
      generalize (List.range n).map (fun j=>M i j * s.getD j 0)=FL at fc sm su
      have s1:aD (gN 7) (ah bC (fC (.int 2)) (oY (bJ 1 [1,2,6] (bi (cz (lOf (aa 3)))) (gN 0) [] (ah bC (fAt (fAt (aa 2) (aa 3)) (aa 0)) (fAt (aa 1) (aa 0)))))) (XT td s Z n bk sk (some (.ref A)) (some (.int i)) b c) h0=.nx (XT td s Z n bk sk (some (.ref A)) (some (.int i)) (some (.int (2 * P))) c) h0:=by
        have ss2:oY (bJ 1 [1,2,6] (bi (cz (lOf (aa 3)))) (gN 0) [] (ah bC (fAt (fAt (aa 2) (aa 3)) (aa 0)) (fAt (aa 1) (aa 0)))) (XT td s Z n bk sk (some (.ref A)) (some (.int i)) b c) h0=.ok (.int P) h0:=by
          rw [← su]
          have ln:=dF (bU (a:=aa 3) (σ:=(XT td s Z n bk sk (some (.ref A)) (some (.int i)) b c)) rfl (aJ ba))
          rw [ZA,m.lb] at ln
          exact ww (cM (cv ln (gY n30)) fc) sm
        exact aH (aq rfl ss2 (gj (by decide)))
      generalize ss.getD i none=u at v4 nx
      generalize bs.getD i 0=bb at v3 nx
      generalize s.getD i 0=x at v2 nx
      generalize 2 * P=F at s1 nx
      obtain⟨y1,hy1⟩ : ∃ y1:Int,y1=if bb < F then 1 else x:=⟨_,rfl⟩
      obtain⟨y2,hy2⟩ : ∃ y2:Int,y2=if F < bb then 0 else y1:=⟨_,rfl⟩
      obtain⟨y3,hy3⟩ : ∃ y3:Int,y3=u.getD y2:=⟨_,rfl⟩
      have ny:bW w s i=y3:=by
        rw [nx,hy3]
        cases u with
        | some z=>rfl
        | none =>
          simp only [Option.getD_none]
          rw [hy2,hy1]
          split<;>split<;>(try split)<;>omega
      have s2:aD (gN 8) (fAt (aa 1) (aa 6)) (XT td s Z n bk sk (some (.ref A)) (some (.int i)) (some (.int F)) c) h0=.nx (XT td s Z n bk sk (some (.ref A)) (some (.int i)) (some (.int F)) (some (.int x))) h0:=aH (aP rfl rfl rfl v2)
      have s3:sIf (tE (ah oGt (aa 7) (fAt (aa 3) (aa 6)))) (aD (gN 8) (fC (.int 1))) bw (XT td s Z n bk sk (some (.ref A)) (some (.int i)) (some (.int F)) (some (.int x))) h0=.nx (XT td s Z n bk sk (some (.ref A)) (some (.int i)) (some (.int F)) (some (.int y1))) h0:=by
        rw [hy1]
        by_cases e:bb < F
        · rw [if_pos e];exact (pL (bn (aq rfl (aP rfl rfl (aJ ba) v3) (BF e)))).trans (aH rfl)
        · rw [if_neg e];exact d9 (bn (aq rfl (aP rfl rfl (aJ ba) v3) (sT e)))
      have s4:sIf (tE (ah oLt (aa 7) (fAt (aa 3) (aa 6)))) (aD (gN 8) (fC (.int 0))) bw (XT td s Z n bk sk (some (.ref A)) (some (.int i)) (some (.int F)) (some (.int y1))) h0=.nx (XT td s Z n bk sk (some (.ref A)) (some (.int i)) (some (.int F)) (some (.int y2))) h0:=by
        rw [hy2]
        by_cases e:F < bb
        · rw [if_pos e];exact (pL (bn (aq rfl (aP rfl rfl (aJ ba) v3) (Gr e)))).trans (aH rfl)
        · rw [if_neg e];exact d9 (bn (aq rfl (aP rfl rfl (aJ ba) v3) (Gq e)))
      have s5:sIf (tE (ah fZ (fAt (aa 4) (aa 6)) (fC .non))) (aD (gN 8) (fAt (aa 4) (aa 6))) bw (XT td s Z n bk sk (some (.ref A)) (some (.int i)) (some (.int F)) (some (.int y2))) h0=.nx (XT td s Z n bk sk (some (.ref A)) (some (.int i)) (some (.int F)) (some (.int y3))) h0:=by
        rw [hy3]
        cases u with
        | none=>exact d9 (bn (aq (aP rfl rfl (aJ st) v4) rfl rfl))
        | some z=>exact (pL (bn (aq (aP rfl rfl (aJ st) v4) rfl rfl))).trans (aH (aP rfl rfl (aJ st) v4))
      have gA:h0[A]? = some (.lst (((List.range i).map (bW w s)).map .int)):=by rw [hh0];exact dv hA _
      have lz:(((List.range i).map (bW w s)).map D.int).length < SZ:=by rw [ZA,ZA,ZO];exact Nat.lt_trans hi (ZS n30 (by decide))
      have st6:h0.set A (.lst (((List.range i).map (bW w s)).map .int++[.int y3]))=h++[.lst (((List.range (i + 1)).map (bW w s)).map .int)]:=by
        rw [hh0,iW hA,List.range_succ,← ny,ZR,ZR];rfl
      have s6:gX (kr (aa 5) (aa 8)) (XT td s Z n bk sk (some (.ref A)) (some (.int i)) (some (.int F)) (some (.int y3))) h0=.nx (XT td s Z n bk sk (some (.ref A)) (some (.int i)) (some (.int F)) (some (.int y3))) (h++[.lst (((List.range (i + 1)).map (bW w s)).map .int)]):=by
        rw [← st6]
        exact gE (kQ rfl gA rfl gA lz)
      refine⟨_,rfl,(XT td s Z n bk sk (some (.ref A)) (some (.int i)) (some (.int F)) (some (.int y3))),_,?_,_,_,_,rfl,rfl⟩
      show aA _ _ (XT td s Z n bk sk (some (.ref A)) (some (.int i)) b c) h0=_
      rw [aE s1,aE s2,aE s3,aE s4,aE s5,s6]) ⟨none,none,none,rfl,by simp⟩
  have e0:0 + ((List.range n).map fun k:Nat=>D.int k).length=n:=by simp
  rw [e0] at k3
  have b1:=(m.more [.lst []]).ba
  have s1:aD (gT [2,3,4]) (aa 0) [some td,some (af s),none,none,none,none,none,none,none] h=.nx (XT td s Z n bk sk none none none none) h:=by rw [htd];rfl
  have s2:aD (gN 5) (bL ar) (XT td s Z n bk sk none none none none) h=.nx (XT td s Z n bk sk (some (.ref A)) none none none) (h++[.lst []]):=aH (hV hA rfl (Nat.zero_le _))
  have s3:dA (bi (cz (lOf (aa 3)))) (gN 6) mR (XT td s Z n bk sk (some (.ref A)) none none none) (h++[.lst []])=.nx (XT td s Z n bk sk (some (.ref A)) x6 x7 x8) (h++[.lst ((aB w n s).map .int)]):=by
    rw [k2,k3] at k1
    have ln:cz (lOf (aa 3)) (XT td s Z n bk sk (some (.ref A)) none none none) (h++[.lst []])=.ok (.int n) (h++[.lst []]):=by
      exact (dF (bU rfl (aJ b1))).trans (by rw [ZA,m.lb])
    exact c9 (cv ln (gY n30)) k1
  have s4:bc (er (lOf (aa 5))) (XT td s Z n bk sk (some (.ref A)) x6 x7 x8) (h++[.lst ((aB w n s).map .int)])=.rt (af (aB w n s)) (h++[.lst ((aB w n s).map .int)]):=by
    exact bh (iV (bU rfl (aJ (dv hA _))))
  have st:([td,af s].map some++List.replicate (9 - [td,af s].length) none:Sd)=[some td,some (af s),none,none,none,none,none,none,none]:=rfl
  rw [← htd,← hw]
  unfold gL bB runB
  rw [if_pos (by rfl),st,aE s1,aE s2,aE s3,s4]
  exact cO (kl _)
def vf (ss:List (Option Int)) (l:List Int):List Int:=(List.range l.length).map fun i=>(ss.getD i none).getD (l.getD i 0)
end
end Fm
namespace Fm
theorem se {x:Nat × Int}:∀ {r:List (Nat × Int)},(∀ p∈r,p.1≠x.1)→r.Pairwise (fun a b=>a.1 < b.1)→(mM x r).Pairwise (fun a b=>a.1 < b.1)
  | [],_,_=>by simp [mM]
  | y :: r,hne,hp=>by
    obtain⟨h1,h2⟩:=List.pairwise_cons.mp hp
    have hy:=hne y (by simp)
    have ih:=se (x:=x) (r:=r) (fun p hp=>hne p (by simp [hp])) h2
    have e:lexLt (lN x) (lN y)=decide (x.1 < y.1):=by
      simp only [lN,lexLt]
      rw [if_neg (by omega)]
      simp
    simp only [mM]
    split
    · rename_i c
      rw [e,decide_eq_true_eq] at c
      refine List.pairwise_cons.mpr ⟨fun b hb => ?_,hp⟩
      rcases List.mem_cons.mp hb with z|hb
      · rw [z];exact c
      · exact Nat.lt_trans c (h1 b hb)
    · rename_i c
      rw [e,decide_eq_true_eq] at c
      refine List.pairwise_cons.mpr ⟨fun b hb => ?_,ih⟩
      rcases pS.mp hb with z|hb
      · rw [z];omega
      · exact h1 b hb
theorem jg:∀ {r:List (Nat × Int)},(r.map (·.1)).Nodup→(ca r).Pairwise (fun a b=>a.1 < b.1)
  | [],_=>by simp [ca]
  | x :: r,nd=>by
    rw [List.map_cons,List.nodup_cons] at nd
    refine se (fun p hp e=>nd.1 ?_) (jg nd.2)
    rw [← e]
    exact List.mem_map.mpr ⟨p,dj.mp hp,rfl⟩
theorem yg:∀ {a b:List (Nat × Int)},a.Pairwise (fun a b=>a.1 < b.1)→b.Pairwise (fun a b=>a.1 < b.1)→(∀ p,p∈a ↔ p∈b)→a=b
  | [],[],_,_,_=>rfl
  | [],y :: b,_,_,h=>absurd ((h y).mpr (by simp)) (by simp)
  | x :: a,[],_,_,h=>absurd ((h x).mp (by simp)) (by simp)
  | x :: a,y :: b,ha,hb,h=>by
    obtain⟨a1,a2⟩:=List.pairwise_cons.mp ha
    obtain⟨b1,b2⟩:=List.pairwise_cons.mp hb
    have e:x=y:=by
      rcases List.mem_cons.mp ((h x).mp (by simp)) with e|e
      · exact e
      · rcases List.mem_cons.mp ((h y).mpr (by simp)) with e2|e2
        · exact e2.symm
        · have q1:=b1 x e
          have q2:=a1 y e2
          omega
    subst e
    have t:=yg a2 b2 fun p=>⟨fun hp=>by
      rcases List.mem_cons.mp ((h p).mp (by simp [hp])) with e|e
      · subst e;exact absurd (a1 p hp) (Nat.lt_irrefl _)
      · exact e,fun hp=>by
      rcases List.mem_cons.mp ((h p).mpr (by simp [hp])) with e|e
      · subst e;exact absurd (b1 p hp) (Nat.lt_irrefl _)
      · exact e⟩
    rw [t]
theorem xa {a b:List (Nat × Int)}(na:(a.map (·.1)).Nodup)(nb:(b.map (·.1)).Nodup)(h:∀ p,p∈a ↔ p∈b):ca a=ca b :=
  yg (jg na) (jg nb) fun p=>by rw [dj,dj];exact h p
theorem yh {T:List Tie}{i:Nat}{p:Nat × Int}:p∈nbs T i ↔ ∃ t∈T,far i t=some p.1∧t.w=p.2:=by
  unfold nbs
  rw [List.mem_filterMap]
  constructor
  · rintro⟨t,ht,q⟩
    cases e:far i t with
    | none=>rw [e] at q;cases q
    | some j=>rw [e] at q;simp at q;subst q;exact⟨t,ht,e,rfl⟩
  · rintro⟨t,ht,q1,q2⟩
    exact⟨t,ht,by rw [q1,q2];rfl⟩
theorem zx:∀ r:List (Nat × Int),(ca r).length=r.length:=fun r=>by
  have:=mN (fun _=>1) r
  have q:∀ l:List (Nat × Int),(l.map fun _=>(1:Int)).sum=l.length:=fun l=>by
    induction l with
    | nil=>rfl
    | cons x l ih=>simp only [List.map_cons,List.sum_cons,ih,List.length_cons];omega
  rw [q,q] at this
  omega
theorem D7 {n:Nat}{T:List Tie}(lt:∀ t∈T,t.a < n∧t.b < n)(un:T.Pairwise gH)(i:Nat):(nbs T i).length≤n:=by
  have:=BO (mO un i) (n:=n) fun x hx=>by
    obtain⟨p,hp,rfl⟩:=List.mem_map.mp hx
    exact pT lt p hp
  simpa using this
end Fm
namespace Fm
theorem xb {j:Nat}:∀ {r:List (Nat × Int)},(∀ p∈r,p.1≠j)→(r.map fun p=>if p.1=j then p.2 else 0).sum=0
  | [],_=>rfl
  | p :: r,h=>by
    rw [List.map_cons,List.sum_cons,xb fun q hq=>h q (ZW _ hq),if_neg (h p ZV)];rfl
theorem xc {j:Nat}{v:Int}:∀ {r:List (Nat × Int)},(r.map (·.1)).Nodup→(j,v)∈r→(r.map fun p=>if p.1=j then p.2 else 0).sum=v
  | [],_,h=>by cases h
  | p :: r,nd,h=>by
    rw [List.map_cons] at nd
    obtain⟨n1,n2⟩:=List.nodup_cons.mp nd
    rw [List.map_cons,List.sum_cons]
    rcases List.mem_cons.mp h with e|h
    · subst e
      rw [if_pos rfl,xb fun q hq z=>n1 (List.mem_map.mpr ⟨q,hq,z⟩)]
      exact Int.add_zero _
    · rw [if_neg fun z=>n1 (List.mem_map.mpr ⟨_,h,z.symm⟩),xc n2 h];exact Int.zero_add _
def yi (n j:Nat):List Int:=(List.range n).map fun k=>if k=j then 1 else 0
theorem ko (n j k:Nat):(yi n j).getD k 0=if k < n∧k=j then 1 else 0:=by
  unfold yi
  rw [ZF,ZQ]
  by_cases h:k < n
  · rw [List.getElem?_range h]
    by_cases e:k=j
    · rw [if_pos ⟨h,e⟩];simp [e]
    · rw [if_neg (fun z=>e z.2)];simp [e]
  · rw [List.getElem?_eq_none (by rw [ZO];omega),if_neg (fun z=>h z.1)];rfl
theorem Cf:∀ n,gZ (fun _=>0) n=0
  | 0=>rfl
  | n + 1=>by rw [gZ,Cf n];rfl
theorem hX {n:Nat}{M:Nat→Nat→Int}{T:List Tie}(L:LP n M n 0 T){i j:Nat}{v:Int}(hi:i < n):(j,v)∈nbs T i ↔ j < n∧M i j=v∧0 < v:=by
  have key:j < n→((nbs T i).map fun p=>if p.1=j then p.2 else 0).sum=M i j:=fun hj=>by
    have e:=L.pl i hi (yi n j)
    rw [dZ] at e
    have e1:((nbs T i).map fun p=>if (yi n j).getD p.1 0=1 then p.2 else 0)=(nbs T i).map fun p=>if p.1=j then p.2 else 0:=List.map_congr_left fun p hp=>by
      have hp:=pT L.ok.lt p hp
      by_cases c:p.1=j
      · rw [if_pos c,if_pos (by rw [ko,if_pos ⟨hp,c⟩])]
      · rw [if_neg c,if_neg (by rw [ko,if_neg (fun z=>c z.2)];decide)]
    rw [e1] at e
    rw [e,oH (p:=j) (g:=fun _=>0) (fun k hk => ?_) n,if_pos hj,Cf]
    · unfold fk
      rw [if_pos ⟨.inl ⟨hi,hj⟩,by rw [ko,if_pos ⟨hj,rfl⟩]⟩]
      omega
    · unfold fk
      rw [if_neg]
      rintro⟨_,z⟩
      rw [ko,if_neg fun z=>hk z.2] at z
      exact absurd z (by decide)
  constructor
  · intro h
    have hj:=pT L.ok.lt _ h
    obtain⟨t,ht,_,q⟩:=yh.mp h
    have w:=L.ok.wt t ht
    exact⟨hj,(key hj).symm.trans (xc (mO L.ok.un i) h),by rw [q] at w;exact Int.lt_of_lt_of_le (by decide) w.1⟩
  · rintro⟨hj,e,p⟩
    by_cases c:∃ w,(j,w)∈nbs T i
    · obtain⟨w,hw⟩:=c
      have:=(key hj).symm.trans (xc (mO L.ok.un i) hw)
      rw [← e,this];exact hw
    · have:=(key hj).symm.trans (xb fun p hp z=>c ⟨p.2,by rw [← z];exact hp⟩)
      omega
def lZ (n p:Nat) (r:List (Nat × Int)):List Tie:=r.map fun q=>⟨p,n + q.1,2 * q.2⟩
def k7 (n:Nat):List Tie:=(List.range n).map fun p=>⟨p,n + p,1⟩
def cQ (n:Nat) (T:List Tie) (k:Nat):List Tie:=k7 n++(List.range k).flatMap fun p=>lZ n p (ca (nbs T p))
theorem qd (n:Nat)(T:List Tie)(k:Nat):cQ n T (k + 1)=cQ n T k++lZ n k (ca (nbs T k)):=by
  unfold cQ
  rw [List.range_succ,List.flatMap_append,ZU]
  congr 2
  simp
theorem eQ {n:Nat}{T:List Tie}{k:Nat}{t:Tie}:t∈cQ n T k ↔ (∃ p,p < n∧t=⟨p,n + p,1⟩) ∨ ∃ p q,p < k∧q∈nbs T p∧t=⟨p,n + q.1,2 * q.2⟩:=by
  unfold cQ k7 lZ
  rw [List.mem_append,List.mem_map,List.mem_flatMap]
  constructor
  · rintro (⟨p,hp,rfl⟩|⟨p,hp,h⟩)
    · exact .inl ⟨p,List.mem_range.mp hp,rfl⟩
    · obtain⟨q,hq,rfl⟩:=List.mem_map.mp h
      exact .inr ⟨p,q,List.mem_range.mp hp,dj.mp hq,rfl⟩
  · rintro (⟨p,hp,rfl⟩|⟨p,q,hp,hq,rfl⟩)
    · exact .inl ⟨p,List.mem_range.mpr hp,rfl⟩
    · exact .inr ⟨p,List.mem_range.mpr hp,List.mem_map.mpr ⟨q,dj.mpr hq,rfl⟩⟩
theorem vg {f:Nat→List Tie}{m:Nat}:∀ l:List Nat,(∀ p∈l,(f p).length≤m)→(l.flatMap f).length≤m * l.length
  | [],_=>ZL _
  | p :: l,h=>by
    have a:=h p ZV
    have b:=vg l fun q hq=>h q (ZW _ hq)
    rw [List.flatMap_cons,ZB,List.length_cons,Nat.mul_succ]
    omega
theorem sf {n:Nat}{M:Nat→Nat→Int}{T:List Tie}(L:LP n M n 0 T){k:Nat}(hk:k≤n):(cQ n T k).length≤n + n * n:=by
  have a:((List.range k).flatMap fun p=>lZ n p (ca (nbs T p))).length≤n * (List.range k).length:=vg _ fun p _=>by
    unfold lZ
    rw [ZA,zx]
    exact D7 L.ok.lt L.ok.un p
  rw [ZO] at a
  have b:=Nat.mul_le_mul_left n hk
  unfold cQ k7
  rw [ZB,ZA,ZO]
  omega
theorem yj {s t:Tie}{n:Nat}(h1:s.a < n)(h2:n≤t.b)(h3 : ¬ (s.a=t.a∧s.b=t.b)):gH s t:=⟨h3,fun z=>absurd (z.1 ▸ h1) (Nat.not_lt.mpr h2)⟩
theorem vh {n:Nat}(n1:1≤n)(n15:n≤15){M:Nat→Nat→Int}(O:MOk M)(w2:∀ i j,i < n→j < n→M i j≤200){T:List Tie}(L:LP n M n 0 T):TOk (2 * n) (2 * n) 0 (cQ n T n):=by
  have lt:∀ t∈cQ n T n,t.a < n∧n≤t.b∧t.b < 2 * n:=fun t ht=>by
    rcases eQ.mp ht with ⟨p,hp,rfl⟩|⟨p,q,hp,hq,rfl⟩
    · exact⟨hp,Nat.le_add_right _ _,by show n + p < 2 * n;omega⟩
    · have:=pT L.ok.lt q hq
      exact⟨hp,Nat.le_add_right _ _,by show n + q.1 < 2 * n;omega⟩
  refine⟨fun t ht => ?_,fun t ht => ?_,fun t ht => ?_,fun t ht => ?_,?_,?_⟩
  · have:=lt t ht;omega
  · have:=lt t ht;omega
  · rcases eQ.mp ht with ⟨p,hp,rfl⟩|⟨p,q,hp,hq,rfl⟩
    · exact⟨by show (1:Int)≤1;decide,by show (1:Int)≤400;decide⟩
    · have:=(hX L hp).mp (show (q.1,q.2)∈nbs T p from hq)
      have b:=w2 p q.1 hp this.1
      rw [this.2.1] at b
      exact⟨by show 1≤2 * q.2;omega,by show 2 * q.2≤400;omega⟩
  · have:=lt t ht
    exact .inl ⟨by omega,by omega⟩
  · unfold cQ
    refine List.pairwise_append.mpr ⟨?_,?_,fun s hs t ht => ?_⟩
    · unfold k7
      rw [List.pairwise_map]
      refine List.Pairwise.imp_of_mem (R:=fun a b:Nat=>a < b) (fun {a b} ha hb h=>yj (n:=n) (List.mem_range.mp ha) (Nat.le_add_right _ _) fun z=>ZN h z.1) List.pairwise_lt_range
    · rw [List.pairwise_flatMap]
      refine⟨fun p hp => ?_,?_⟩
      · unfold lZ
        rw [List.pairwise_map]
        exact (jg (mO L.ok.un p)).imp fun {a b} h=>yj (n:=n) (List.mem_range.mp hp) (Nat.le_add_right _ _) fun z=>absurd (Nat.add_left_cancel z.2) (ZN h)
      · refine List.Pairwise.imp_of_mem (R:=fun a b:Nat=>a < b) (fun {a b} ha hb h s hs t ht => ?_) List.pairwise_lt_range
        obtain⟨q,hq,rfl⟩:=List.mem_map.mp hs
        obtain⟨q',hq',rfl⟩:=List.mem_map.mp ht
        exact yj (n:=n) (List.mem_range.mp ha) (Nat.le_add_right _ _) fun z=>ZN h z.1
    · obtain⟨p,hp,rfl⟩:=List.mem_map.mp hs
      obtain⟨p',hp',ht⟩:=List.mem_flatMap.mp ht
      obtain⟨q,hq,rfl⟩:=List.mem_map.mp ht
      have hp:=List.mem_range.mp hp
      have hp':=List.mem_range.mp hp'
      refine yj (n:=n) hp (Nat.le_add_right _ _) fun z => ?_
      have z1:p=p':=z.1
      have z2:p=q.1:=Nat.add_left_cancel z.2
      have:=(hX L hp').mp (show (q.1,q.2)∈nbs T p' from dj.mp hq)
      rw [← z2,← z1,O.no p] at this
      omega
  · have a:=sf L (ZL n)
    have b:=Nat.mul_le_mul_left n n15
    omega
def qe (n:Nat) (M:Nat→Nat→Int) (i k:Nat):List (Nat × Int):=(i,1) :: ((List.range k).filter fun o=>decide (0 < M i o)).map fun o=>(o,2 * M i o)
def k8 (n:Nat) (r:List (Nat × Int)):List (Nat × Int):=r.map fun p=>(p.1 + n,p.2)
def vj (n:Nat) (M:Nat→Nat→Int) (i:Nat):List (Nat × Int):=if i < n then k8 n (qe n M i n) else qe n M (i - n) n
theorem jZ {n:Nat}{M:Nat→Nat→Int}{i k j:Nat}{v:Int}:(j,v)∈qe n M i k ↔ (j=i∧v=1)∨(j < k∧0 < M i j∧v=2 * M i j):=by
  unfold qe
  rw [List.mem_cons,List.mem_map]
  constructor
  · rintro (e|⟨o,ho,e⟩)
    · cases e;exact .inl ⟨rfl,rfl⟩
    · obtain⟨a,b⟩:=List.mem_filter.mp ho
      cases e
      exact .inr ⟨List.mem_range.mp a,of_decide_eq_true b,rfl⟩
  · rintro (⟨rfl,rfl⟩|⟨a,b,rfl⟩)
    · exact .inl rfl
    · exact .inr ⟨j,List.mem_filter.mpr ⟨List.mem_range.mpr a,decide_eq_true b⟩,rfl⟩
theorem yk {n:Nat}{M:Nat→Nat→Int}(O:MOk M)(i k:Nat):((qe n M i k).map (·.1)).Nodup:=by
  unfold qe
  rw [List.map_cons,List.map_map,List.nodup_cons]
  refine⟨fun z => ?_,?_⟩
  · obtain⟨o,ho,e⟩:=List.mem_map.mp z
    have e:o=i:=e
    have:=of_decide_eq_true (List.mem_filter.mp ho).2
    rw [e,O.no i] at this
    exact absurd this (by decide)
  · have:((fun x:Nat × Int=>x.1) ∘ fun o=>(o,2 * M i o))=id:=rfl
    rw [this,List.map_id]
    exact List.nodup_range.filter _
theorem zy {n:Nat}{r:List (Nat × Int)}(h:(r.map (·.1)).Nodup):((k8 n r).map (·.1)).Nodup:=by
  unfold k8
  rw [List.nodup_iff_pairwise_ne,List.pairwise_map] at h
  rw [List.map_map,List.nodup_iff_pairwise_ne,List.pairwise_map]
  exact h.imp fun {a b} h z=>h (Nat.add_right_cancel z)
theorem D8 {n:Nat}{M:Nat→Nat→Int}(O:MOk M)(i:Nat):((vj n M i).map (·.1)).Nodup:=by
  unfold vj
  split
  · exact zy (yk O _ _)
  · exact yk O _ _
theorem nU {n i p b:Nat}{w:Int}(hp:p < n)(hb:n≤b):far i ⟨p,b,w⟩ = if p=i then some b else if b=i then some p else none:=rfl
theorem zz {n:Nat}{M:Nat→Nat→Int}(O:MOk M){T:List Tie}(L:LP n M n 0 T)(ok:TOk (2 * n) (2 * n) 0 (cQ n T n))(i:Nat)(hi:i < 2 * n):ca (nbs (cQ n T n) i)=ca (vj n M i):=by
  refine xa (mO ok.un i) (D8 O i) fun ⟨j,v⟩ => ?_
  rw [yh]
  show (∃ t∈cQ n T n,far i t=some j∧t.w=v) ↔ _
  unfold vj
  by_cases c:i < n
  · rw [if_pos c]
    unfold k8
    rw [List.mem_map]
    constructor
    · rintro⟨t,ht,f,e⟩
      rcases eQ.mp ht with ⟨p,hp,rfl⟩|⟨p,q,hp,hq,rfl⟩
      · rw [nU hp (Nat.le_add_right _ _)] at f
        by_cases z:p=i
        · rw [if_pos z] at f
          have f:=ZT f
          have e:(1:Int)=v:=e
          exact⟨(i,1),jZ.mpr (.inl ⟨rfl,rfl⟩),by rw [← f,← e,z,Nat.add_comm]⟩
        · rw [if_neg z,if_neg (by omega)] at f;cases f
      · rw [nU hp (Nat.le_add_right _ _)] at f
        have m:=(hX L hp).mp (show (q.1,q.2)∈nbs T p from hq)
        by_cases z:p=i
        · rw [if_pos z] at f
          have f:=ZT f
          have e:2 * q.2=v:=e
          rw [z] at m
          exact⟨(q.1,2 * q.2),jZ.mpr (.inr ⟨m.1,by rw [m.2.1];exact m.2.2,by rw [m.2.1]⟩),by rw [← f,← e,Nat.add_comm]⟩
        · rw [if_neg z,if_neg (by omega)] at f;cases f
    · rintro⟨⟨a,u⟩,ha,e⟩
      have e1:a + n=j:=congrArg Prod.fst e
      have e2:u=v:=congrArg Prod.snd e
      subst e1 e2
      rcases jZ.mp ha with ⟨rfl,rfl⟩|⟨x,y,rfl⟩
      · exact⟨⟨a,n + a,1⟩,eQ.mpr (.inl ⟨a,c,rfl⟩),by rw [nU c (Nat.le_add_right _ _),if_pos rfl,Nat.add_comm],rfl⟩
      · exact⟨⟨i,n + a,2 * M i a⟩,eQ.mpr (.inr ⟨i,(a,M i a),c,(hX L c).mpr ⟨x,rfl,y⟩,rfl⟩),by rw [nU c (Nat.le_add_right _ _),if_pos rfl,Nat.add_comm],rfl⟩
  · rw [if_neg c]
    obtain⟨k,rfl⟩ : ∃ k,i=n + k:=⟨i - n,by omega⟩
    have hk:k < n:=by omega
    rw [Nat.add_sub_cancel_left,jZ]
    constructor
    · rintro⟨t,ht,f,e⟩
      rcases eQ.mp ht with ⟨p,hp,rfl⟩|⟨p,q,hp,hq,rfl⟩
      · rw [nU hp (Nat.le_add_right _ _),if_neg (by omega)] at f
        by_cases z:n + p=n + k
        · rw [if_pos z] at f
          exact .inl ⟨(ZT f).symm.trans (Nat.add_left_cancel z),e.symm⟩
        · rw [if_neg z] at f;cases f
      · rw [nU hp (Nat.le_add_right _ _),if_neg (by omega)] at f
        have m:=(hX L hp).mp (show (q.1,q.2)∈nbs T p from hq)
        by_cases z:n + q.1=n + k
        · rw [if_pos z] at f
          have f:=ZT f
          have e:2 * q.2=v:=e
          rw [Nat.add_left_cancel z,f] at m
          rw [f] at hp
          exact .inr ⟨hp,by rw [O.sym,m.2.1];exact m.2.2,by rw [O.sym,m.2.1];exact e.symm⟩
        · rw [if_neg z] at f;cases f
    · rintro (⟨rfl,rfl⟩|⟨x,y,rfl⟩)
      · exact⟨⟨j,n + j,1⟩,eQ.mpr (.inl ⟨j,hk,rfl⟩),by rw [nU hk (Nat.le_add_right _ _),if_neg (by omega),if_pos rfl],rfl⟩
      · have y':0 < M j k:=by rw [O.sym];exact y
        exact⟨⟨j,n + k,2 * M j k⟩,eQ.mpr (.inr ⟨j,(k,M j k),x,(hX L x).mpr ⟨hk,rfl,y'⟩,rfl⟩),by rw [nU x (Nat.le_add_right _ _),if_neg (by omega),if_pos rfl],by rw [O.sym k j]⟩
end Fm
namespace Fm
theorem D9 {g:Option Nat}{all:List D}{tg:GF}{b:SF}{x:D}{xs:List D}{σ σ' σ'':Sd}{h h':Hd}(hh:ib g all h)(t:tg x σ = some σ')(e:b σ' h=.nx σ'' h'):fq g all tg b (x :: xs) σ h=fq g all tg b xs σ'' h':=by
  rw [fq,if_pos hh,t];simp only [e]
theorem ym {a b:EF}{σ:Sd}{h h1 h2:Hd}{n m:Nat}{l k:List D}(p:a σ h=.ok (.ref n) h1)(q:b σ h1=.ok (.ref m) h2)(r:h2[n]? = some (.lst l))(s:h2[m]? = some (.lst k))(t:l.length + k.length≤SZ):kA a b σ h=.ok (l++k) h2:=by
  simp only [kA,p,aG,q,r,s,if_pos t]
theorem yn {g:Option Nat}{all:List D}{tg:GF}{B:SF}{σ:Option D→Sd}{h:Hd}(hh:ib g all h)(ht:∀ x a,tg x (σ a)=some (σ (some x))):∀ {xs:List D} (a:Option D),(∀ x∈xs,B (σ (some x)) h=.nx (σ (some x)) h) → ∃ a',fq g all tg B xs (σ a) h=.nx (σ a') h
  | [],a,_=>⟨a,by rw [fq,if_pos hh]⟩
  | x :: xs,a,q=>by
    obtain⟨a',e⟩:=yn hh ht (xs:=xs) (some x) fun y hy=>q y (ZW _ hy)
    exact⟨a',(D9 hh (ht x a) (q x ZV)).trans e⟩
theorem Cg {x:EF}{L:LF}{σ:Sd}{h h1 h2:Hd}{n:Nat}{l l0 ds:List D}(p:x σ h=.ok (.ref n) h1)(q:h1[n]? = some (.lst l0))(r:L σ h1=.ok ds h2)(s:h2[n]? = some (.lst l))(t:l.length + ds.length≤SZ):rF x L σ h=.ok .non (h2.set n (.lst (l++ds))):=by
  simp only [rF,p,aG,q,r,s,if_pos t]
section
variable {n:Nat} {M:Nat→Nat→Int} {T:List Tie} {bs:List Int} {ss:List (Option Int)}
theorem oJ {p:Nat}(hp:p < n):(bH n T bs ss).ties[p]? = some (ca (nbs T p)):=by
  show ((List.range n).map fun i=>ca (nbs T i))[p]? = _
  rw [ZQ,List.getElem?_range hp];rfl
theorem l4 (h:Hd):bq [(bH n T bs ss).enc] h=.ok (.int n) h:=by
  rw [jO]
  show Res.ok (D.int (((List.range n).map fun i=>ca (nbs T i)).length:Nat)) h=_
  rw [ZA,ZO]
theorem vk {α : Type}(f : α → Bool):∀ l:List α,fY (l.map fun x=>D.bl (f x))=some (l.map f)
  | []=>rfl
  | x :: l=>by simp only [List.map_cons,fY,vk f l];rfl
theorem xf (r:List (Nat × Int))(h:Hd):cx none (r.map kO) (gT [0,1]) [] (ah oGt (aa 1) (fC (.int 200))) (r.map kO) [none,none] h=.ok (r.map fun p=>D.bl (decide (200 < p.2))) h:=by
  have:=bD (g:=none) (all:=r.map kO) (tg:=gT [0,1]) (cs:=[]) (e:=ah oGt (aa 1) (fC (.int 200))) (h:=h) (I:=fun σ=>∃ a b,σ = [a,b]) (fun _=>true) (fun d=>match d with | .tup [_,.int v]=>.bl (decide (200 < v))|_=>.non) trivial (xs:=r.map kO) (σ:=[none,none]) (by
    rintro x hx σ ⟨a,b,rfl⟩
    obtain⟨p,_,rfl⟩:=List.mem_map.mp hx
    exact⟨_,rfl,⟨_,_,rfl⟩,rfl,fun _=>rfl⟩) ⟨_,_,rfl⟩
  rw [this,List.filter_eq_self.mpr (fun _ _=>rfl),List.map_map];rfl
theorem xg {p:Nat}(hp:p < n)(h:Hd):tE (DD (bJ 2 [] (dW (am dg (ad (aa 0) (ad (aa 1) ar)))) (gT [0,1]) [] (ah oGt (aa 1) (fC (.int 200))))) [some (bH n T bs ss).enc,some (.int p)] h=.ok ((ca (nbs T p)).any fun q=>decide (200 < q.2)) h:=by
  have e:bJ 2 [] (dW (am dg (ad (aa 0) (ad (aa 1) ar)))) (gT [0,1]) [] (ah oGt (aa 1) (fC (.int 200))) [some (bH n T bs ss).enc,some (.int p)] h=.ok ((ca (nbs T p)).map fun q=>D.bl (decide (200 < q.2))) h:=cM (pO (av (de rfl rfl) (jP _ h (oJ hp)))) (xf _ h)
  refine bn ?_
  simp only [DD,e,aG,vk]
  rw [List.any_map];rfl
def Ch (n:Nat) (M:Nat→Nat→Int):Prop:=∃ i j,i < n∧j < n∧200 < M i j
theorem zA (L:LP n M n 0 T){p:Nat}(hp:p < n):((ca (nbs T p)).any fun q=>decide (200 < q.2))=true ↔ ∃ j,j < n∧200 < M p j:=by
  rw [List.any_eq_true]
  constructor
  · rintro⟨q,hq,e⟩
    have m:=(hX L hp).mp (show (q.1,q.2)∈nbs T p from dj.mp hq)
    exact⟨q.1,m.1,by rw [m.2.1];exact of_decide_eq_true e⟩
  · rintro⟨j,hj,e⟩
    exact⟨(j,M p j),dj.mpr ((hX L hp).mpr ⟨hj,rfl,Int.lt_trans (by decide) e⟩),decide_eq_true e⟩
theorem Ea (n15:n≤15)(L:LP n M n 0 T)(nh : ¬ Ch n M)(h:Hd):eZ [(bH n T bs ss).enc] h=.ok .non h:=by
  have s1:sIf (tE (ah oGt (am bq (ad (aa 0) ar)) (fC (.int 15)))) f6 bw [some (bH n T bs ss).enc,none] h=.nx [some (bH n T bs ss).enc,none] h:=d9 (bn (aq (av (aj rfl rfl) (l4 h)) rfl (sT (by omega))))
  obtain⟨a',e⟩:=yn (g:=none) (all:=(List.range n).map fun k:Nat=>D.int k) (tg:=gN 1) (B:=ik) (σ:=fun a=>[some (bH n T bs ss).enc,a]) (h:=h) trivial (fun _ _=>rfl) (xs:=(List.range n).map fun k:Nat=>D.int k) none (fun x hx=>by
    obtain⟨i,hi,rfl⟩:=List.mem_map.mp hx
    have hi:=List.mem_range.mp hi
    refine d9 ((xg hi h).trans ?_)
    cases c:(ca (nbs T i)).any fun q=>decide (200 < q.2) with
    | false=>rfl
    | true=>exact absurd (let ⟨j,a,b⟩:=(zA L hi).mp c;⟨i,j,hi,a,b⟩) nh)
  have s2:dA (bi (am bq (ad (aa 0) ar))) (gN 1) ik [some (bH n T bs ss).enc,none] h=.nx [some (bH n T bs ss).enc,a'] h:=c9 (cv (av (aj rfl rfl) (l4 h)) (by omega)) e
  exact (ES rfl rfl ((bx s1).trans s2)).trans bj
theorem zC (p:Nat)(r:List (Nat × Int))(h:Hd):cx none (r.map kO) (gT [0,1]) [] (fL (ad (aa 2) (ad (ah cE (aa 3) (aa 0)) (ad (ah bC (fC (.int 2)) (aa 1)) ar)))) (r.map kO) [none,none,some (.int p),some (.int n)] h=.ok ((lZ n p r).map cr) h:=by
  have:=bD (g:=none) (all:=r.map kO) (tg:=gT [0,1]) (cs:=[]) (e:=fL (ad (aa 2) (ad (ah cE (aa 3) (aa 0)) (ad (ah bC (fC (.int 2)) (aa 1)) ar)))) (h:=h) (I:=fun σ=>∃ a b,σ = [a,b,some (.int p),some (.int n)]) (fun _=>true) (fun d=>match d with | .tup [.int o,.int v]=>.tup [.int p,.int (n + o),.int (2 * v)] | _=>.non) trivial (xs:=r.map kO) (σ:=[none,none,some (.int p),some (.int n)]) (by
    rintro x hx σ ⟨a,b,rfl⟩
    obtain⟨q,_,rfl⟩:=List.mem_map.mp hx
    exact⟨_,rfl,⟨_,_,rfl⟩,rfl,fun _=>iS (aj rfl (aj (aq rfl rfl rfl) (aj (aq rfl rfl (gj (by decide))) rfl)))⟩) ⟨_,_,rfl⟩
  rw [this,List.filter_eq_self.mpr (fun _ _=>rfl),List.map_map]
  unfold lZ
  rw [List.map_map]
  congr 1
theorem xh (h:Hd):cx none ((List.range n).map fun k:Nat=>D.int k) (gN 0) [] (fL (ad (aa 0) (ad (ah cE (aa 1) (aa 0)) (ad (fC (.int 1)) ar)))) ((List.range n).map fun k:Nat=>D.int k) [none,some (.int n)] h=.ok ((k7 n).map cr) h:=by
  have:=bD (g:=none) (all:=(List.range n).map fun k:Nat=>D.int k) (tg:=gN 0) (cs:=[]) (e:=fL (ad (aa 0) (ad (ah cE (aa 1) (aa 0)) (ad (fC (.int 1)) ar)))) (h:=h) (I:=fun σ=>∃ a,σ = [a,some (.int n)]) (fun _=>true) (fun d=>match d with | .int p=>.tup [.int p,.int (n + p),.int 1] | _=>.non) trivial (xs:=(List.range n).map fun k:Nat=>D.int k) (σ:=[none,some (.int n)]) (by
    rintro x hx σ ⟨a,rfl⟩
    obtain⟨q,_,rfl⟩:=List.mem_map.mp hx
    exact⟨_,rfl,⟨_,rfl⟩,rfl,fun _=>iS (aj rfl (aj (aq rfl rfl rfl) (aj rfl rfl)))⟩) ⟨_,rfl⟩
  rw [this,List.filter_eq_self.mpr (fun _ _=>rfl),List.map_map]
  unfold k7
  rw [List.map_map]
  congr 1
theorem zD (n15:n≤15)(L:LP n M n 0 T){h:Hd}{A:Nat}(hA:A=h.length):dk [(bH n T bs ss).enc] h=.ok (.ref A) (h++[.lst ((cQ n T n).map cr)]):=by
  obtain⟨w,hw⟩ : ∃ w:D,w=(bH n T bs ss).enc:=⟨_,rfl⟩
  have sz:∀ k,k≤n→((cQ n T k).map cr).length≤1000:=fun k hk=>by
    have a:=sf L hk
    have b:=Nat.mul_le_mul_left n n15
    rw [ZA];omega
  have s1:aD (gN 1) (am bq (ad (aa 0) ar)) [some w,none,none,none] h=.nx [some w,some (.int n),none,none] h:=by rw [hw];exact aH (av (aj rfl rfl) (l4 h))
  have s2:aD (gN 2) (bL (bJ 1 [1] (bi (aa 1)) (gN 0) [] (fL (ad (aa 0) (ad (ah cE (aa 1) (aa 0)) (ad (fC (.int 1)) ar)))))) [some w,some (.int n),none,none] h=.nx [some w,some (.int n),some (.ref A),none] (h++[.lst ((cQ n T 0).map cr)]):=by
    have e0:cQ n T 0=k7 n:=by unfold cQ;simp
    rw [e0]
    exact aH (hV hA (cM (cv rfl (by omega)) (xh h)) (by have:=sz 0 (Nat.zero_le _);rw [e0] at this;exact ZM this (by decide)))
  obtain⟨σ',h',k1,a,k2,k3⟩:=bE (P:=fun i σ h'=>∃ a,σ = [some w,some (.int n),some (.ref A),a]∧h'=h++[.lst ((cQ n T i).map cr)]) (g:=none) (k:=0) (all:=(List.range n).map fun k:Nat=>D.int k) (fun _ _ _ _=>trivial)
    (xs:=(List.range n).map fun k:Nat=>D.int k) (tg:=gN 3) (σ:=[some w,some (.int n),some (.ref A),none]) (h:=h++[.lst ((cQ n T 0).map cr)]) (b:=fR) (by
      rintro i x σ h0 hx ⟨a,rfl,rfl⟩
      obtain⟨hi,rfl⟩:=cF hx
      rw [Nat.zero_add]
      have e:bJ 2 [3,1] (dW (am dg (ad (aa 0) (ad (aa 3) ar)))) (gT [0,1]) [] (fL (ad (aa 2) (ad (ah cE (aa 3) (aa 0)) (ad (ah bC (fC (.int 2)) (aa 1)) ar)))) [some w,some (.int n),some (.ref A),some (.int i)] (h++[.lst ((cQ n T i).map cr)])=.ok ((lZ n i (ca (nbs T i))).map cr) (h++[.lst ((cQ n T i).map cr)]):=by
        rw [hw]
        exact cM (pO (av (de rfl rfl) (jP _ _ (oJ hi)))) (zC i _ _)
      refine⟨_,rfl,[some w,some (.int n),some (.ref A),some (.int i)],_,gE (Cg rfl (dv hA _) e (dv hA _) ?_),_,rfl,?_⟩
      · have:=sz (i + 1) hi
        rw [qd,ZR,ZB] at this
        exact ZM this (by decide)
      · rw [iW hA,qd,ZR]) ⟨_,rfl,rfl⟩
  have e0:0 + ((List.range n).map fun k:Nat=>D.int k).length=n:=by simp
  rw [e0] at k3
  rw [k2,k3] at k1
  have s3:dA (bi (aa 1)) (gN 3) fR [some w,some (.int n),some (.ref A),none] (h++[.lst ((cQ n T 0).map cr)])=.nx [some w,some (.int n),some (.ref A),a] (h++[.lst ((cQ n T n).map cr)]):=c9 (cv rfl (by omega)) k1
  rw [← hw]
  exact (cI (σ:=[some w,none,none,none]) rfl rfl ((bx s1).trans ((bx s2).trans ((bx s3).trans (bh rfl))))).trans cA
def ff (bs:List Int):List Int:=bs.map fun b=>2 * b + 1
def kw (n:Nat) (T:List Tie) (bs:List Int) (ss:List (Option Int)):Web:=bH (2 * n) (cQ n T n) (ff bs++ff bs) (ss++ss)
theorem zE {h:Hd}{g:Option Nat}(hk:ib g (bs.map .int) h):cx g (bs.map D.int) (gN 0) [] (ah cE (ah bC (fC (.int 2)) (aa 0)) (fC (.int 1))) (bs.map D.int) [none] h=.ok ((ff bs).map .int) h:=by
  have:=bD (g:=g) (all:=bs.map D.int) (tg:=gN 0) (cs:=[]) (e:=ah cE (ah bC (fC (.int 2)) (aa 0)) (fC (.int 1))) (h:=h) (I:=fun σ=>∃ a,σ = [a]) (fun _=>true) (fun d=>match d with | .int b=>.int (2 * b + 1)|_=>.non) hk (xs:=bs.map D.int) (σ:=[none]) (by
    rintro x hx σ ⟨a,rfl⟩
    obtain⟨q,_,rfl⟩:=List.mem_map.mp hx
    exact⟨_,rfl,⟨_,rfl⟩,rfl,fun _=>aq (aq rfl rfl (gj (by decide))) rfl rfl⟩) ⟨_,rfl⟩
  rw [this,List.filter_eq_self.mpr (fun _ _=>rfl),List.map_map]
  unfold ff
  rw [List.map_map]
  congr 1
theorem xi (n1:1≤n)(n15:n≤15)(O:MOk M)(L:LP n M n 0 T)(nh : ¬ Ch n M)(lb:bs.length=n)(ls:ss.length=n)(os:∀ x∈ss,x=none∨x=some 0∨x=some 1)(h:Hd):kn [(bH n T bs ss).enc] h=.ok (kw n T bs ss).enc h:=by
  have w2:∀ i j,i < n→j < n→M i j≤200:=fun i j hi hj=>Int.not_lt.mp fun z=>nh ⟨i,j,hi,hj,z⟩
  have ok:=vh n1 n15 O w2 L
  obtain⟨A,hA⟩ : ∃ A,A=h.length:=⟨_,rfl⟩
  obtain⟨w,hw⟩ : ∃ w:D,w=(bH n T bs ss).enc:=⟨_,rfl⟩
  have lb2:(ff bs).length=n:=by unfold ff;rw [ZA,lb]
  obtain⟨C0,hC0⟩ : ∃ C0:du,C0=.lst (bs.map .int):=⟨_,rfl⟩
  obtain⟨C1,hC1⟩ : ∃ C1:du,C1=.lst ((ff bs).map .int):=⟨_,rfl⟩
  obtain⟨C2,hC2⟩ : ∃ C2:du,C2=.lst (ss.map bN):=⟨_,rfl⟩
  obtain⟨C3,hC3⟩ : ∃ C3:du,C3=.lst ((cQ n T n).map cr):=⟨_,rfl⟩
  obtain⟨C4,hC4⟩ : ∃ C4:du,C4=.lst ((ff bs++ff bs).map .int):=⟨_,rfl⟩
  obtain⟨C5,hC5⟩ : ∃ C5:du,C5=.lst ((ss++ss).map bN):=⟨_,rfl⟩
  have qb:iD [w] h=.ok (.ref A) (h++[C0]):=by
    rw [hw,hC0]
    exact (cI rfl rfl (bh (hV hA (bU (aP rfl rfl rfl rfl) rfl) (by rw [ZA];show bs.length≤_;rw [lb];exact ZM n15 (by decide))))).trans cA
  have qs:bX [w] (h++[C0,C1])=.ok (.ref (A + 2)) (h++[C0,C1,C2]):=by
    rw [hw,hC2]
    exact (cI rfl rfl (bh (oA (g:=[C0,C1]) hA (bU (aP rfl rfl rfl rfl) rfl) (by rw [ZA];show ss.length≤_;rw [ls];exact ZM n15 (by decide))))).trans cA
  have qt:dk [w] (h++[C0,C1,C2])=.ok (.ref (A + 3)) (h++[C0,C1,C2,C3]):=by
    have:=zD (bs:=bs) (ss:=ss) n15 L (h:=h++[C0,C1,C2]) (A:=A + 3) (by rw [ZB,hA];rfl)
    rw [hw,this,hC3,ZU];rfl
  have s1:gX (am eZ (ad (aa 0) ar)) [some w,none,none] h=.nx [some w,none,none] h:=by rw [hw];exact gE (av (aj rfl rfl) (Ea n15 L nh h))
  have s2:aD (gN 1) (bL (bJ 1 [] (dW (am iD (ad (aa 0) ar))) (gN 0) [] (ah cE (ah bC (fC (.int 2)) (aa 0)) (fC (.int 1))))) [some w,none,none] h=.nx [some w,some (.ref (A + 1)),none] (h++[C0,C1]):=by
    have g0:(h++[C0])[A]? = some (.lst (bs.map .int)):=by rw [hC0];exact dv hA _
    rw [hC1]
    exact aH (oA (g:=[C0]) hA (cM (dR (av (aj rfl rfl) qb) g0) (zE (g:=some A) g0)) (by rw [ZA,lb2];exact ZM n15 (by decide)))
  have s3:aD (gN 2) (am bX (ad (aa 0) ar)) [some w,some (.ref (A + 1)),none] (h++[C0,C1])=.nx [some w,some (.ref (A + 1)),some (.ref (A + 2))] (h++[C0,C1,C2]):=aH (av (aj rfl rfl) qs)
  have m2:ah bC (fC (.int 2)) (am bq (ad (aa 0) ar)) [some w,some (.ref (A + 1)),some (.ref (A + 2))] (h++[C0,C1,C2])=.ok (.int ((2 * n:Nat):Int)) (h++[C0,C1,C2]):=by
    rw [hw,show ((2 * n:Nat):Int)=2 * (n:Int) from Int.natCast_mul 2 n]
    exact aq rfl (av (aj rfl rfl) (l4 _)) (gj (by decide))
  have b2:bL (kA (aa 1) (aa 1)) [some w,some (.ref (A + 1)),some (.ref (A + 2))] (h++[C0,C1,C2,C3])=.ok (.ref (A + 4)) (h++[C0,C1,C2,C3,C4]):=by
    have g:(h++[C0,C1,C2,C3])[A + 1]? = some (.lst ((ff bs).map .int)):=by rw [← hC1];exact iU hA 1
    rw [hC4,ZR]
    exact oA (g:=[C0,C1,C2,C3]) hA (ym rfl rfl g g (by rw [ZA,lb2];exact ZM (Nat.add_le_add n15 n15) (by decide))) (by rw [ZB,ZA,lb2];exact ZM (Nat.add_le_add n15 n15) (by decide))
  have c2:bL (kA (aa 2) (aa 2)) [some w,some (.ref (A + 1)),some (.ref (A + 2))] (h++[C0,C1,C2,C3,C4])=.ok (.ref (A + 5)) (h++[C0,C1,C2,C3,C4,C5]):=by
    have g:(h++[C0,C1,C2,C3,C4])[A + 2]? = some (.lst (ss.map bN)):=by rw [← hC2];exact iU hA 2
    rw [hC5,ZR]
    exact oA (g:=[C0,C1,C2,C3,C4]) hA (ym rfl rfl g g (by rw [ZA,ls];exact ZM (Nat.add_le_add n15 n15) (by decide))) (by rw [ZB,ZA,ls];exact ZM (Nat.add_le_add n15 n15) (by decide))
  have wq:=rW (n:=2 * n) (by omega) (by omega) ok (bs:=ff bs++ff bs) (ss:=ss++ss) (by rw [ZB,lb2];omega) (by rw [ZB,ls];omega) (fun x hx=>os x ((List.mem_append.mp hx).elim id id)) (h:=h++[C0,C1,C2,C3,C4,C5]) (tk:=A + 3) (bk:=A + 4) (sk:=A + 5) (by rw [← hC3];exact iU hA 3) (by rw [← hC4];exact iU hA 4) (by rw [← hC5];exact iU hA 5)
  have s4:bc (am eC (ad (ah bC (fC (.int 2)) (am bq (ad (aa 0) ar))) (ad (am dk (ad (aa 0) ar)) (ad (bL (kA (aa 1) (aa 1))) (ad (bL (kA (aa 2) (aa 2))) ar))))) [some w,some (.ref (A + 1)),some (.ref (A + 2))] (h++[C0,C1,C2])=.rt (kw n T bs ss).enc (h++[C0,C1,C2,C3,C4,C5]):=bh (av (aj m2 (aj (av (aj rfl rfl) qt) (aj b2 (aj c2 rfl)))) wq)
  rw [← hw]
  exact (cI (σ:=[some w,none,none]) rfl rfl ((bx s1).trans ((bx s2).trans ((bx s3).trans s4)))).trans (cO (pR _))
end
theorem yo {n d k:Nat}(h:k≤n):sIx n d (some (k:Int))=k:=by
  show (if (k:Int) < 0 then ((k:Int) + (n:Nat)).toNat else min ((k:Int)).toNat n)=k
  rw [if_neg (Int.not_lt.mpr (Int.natCast_nonneg k)),Int.toNat_natCast]
  exact Nat.min_eq_left h
theorem GI {l:List D}{k:Nat}(h:k≤l.length):cut l none (some (k:Int))=l.take k:=by
  unfold cut
  rw [yo h];rfl
theorem GJ {l:List D}{k:Nat}(h:k≤l.length):cut l (some (k:Int)) none=l.drop k:=by
  unfold cut
  rw [yo h]
  show List.take (l.length - k) (l.drop k)=_
  exact List.take_of_length_le (by rw [List.length_drop];exact ZL _)
theorem Ci {e k:EF}{σ:Sd}{h:Hd}{l:List D}{n:Nat}(pe:e σ h=.ok (.tup l) h)(pk:k σ h=.ok (.int (n:Nat)) h)(ln:l.length=2 * n)(n1:1≤n):jA e pNo (pAt k) σ h=.ok (.tup (l.take n)) h:=by
  simp only [jA,pe,aG,pNo,pAt,pk]
  rw [if_neg (fun z=>by rw [yo (by omega)] at z;omega),GI (by omega)]
theorem Cj {e k:EF}{σ:Sd}{h:Hd}{l:List D}{n:Nat}(pe:e σ h=.ok (.tup l) h)(pk:k σ h=.ok (.int (n:Nat)) h)(ln:l.length=2 * n)(n1:1≤n):jA e (pAt k) pNo σ h=.ok (.tup (l.drop n)) h:=by
  simp only [jA,pe,aG,pNo,pAt,pk]
  rw [if_neg (fun z=>by rw [yo (by omega)] at z;omega),GJ (by omega)]
theorem Ck {e:EF}{σ:Sd}{h:Hd}{l:List D}{n:Nat}(pe:e σ h=.ok (.tup l) h)(ln:l.length=2 * n):ah iw (cz (lOf e)) (fC (.int 2)) σ h=.ok (.int (n:Nat)) h:=by
  have a:=dF (bU (l:=l) pe rfl)
  have e2:((l.length:Nat):Int) / 2=(n:Nat):=by rw [ln];omega
  rw [← e2]
  exact aq a rfl (iT (by decide) (by decide))
theorem zF {l:List D}{n:Nat}(ln:l.length=2 * n)(n1:1≤n)(h:Hd):iF [.tup l] h=.ok (.tup [.tup (l.take n),.tup (l.drop n)]) h :=
  (cI rfl rfl ((bx (aH (Ck rfl ln))).trans (bh (iS (de (Ci rfl rfl ln n1) (Cj rfl rfl ln n1)))))).trans bj
theorem Cl {a b:List D}(z:a.length + b.length≤SZ)(h:Hd):gn [.tup a,.tup b] h=.ok (.tup (a++b)) h :=
  (cI rfl rfl (bh (aq (x:=.tup a) (y:=.tup b) rfl rfl (by simp only [kB,if_pos z])))).trans bj
end Fm
namespace Fm
theorem Eb {xs ys:List D}{h:Hd}(p:xs.length + ys.length≤SZ):kB (.tup xs) (.tup ys) h=.ok (.tup (xs++ys)) h:=by simp only [kB,if_pos p]
def Ec (o:Option Int) (s:List Int):List (List Int):=match o with|none=>[s++[0],s++[1]] | some v=>[s++[v]]
def ma (E:List (List Int)) (o:Option Int):List (List Int):=E.flatMap (Ec o)
def fI (ss:List (Option Int)):List (List Int):=ss.foldl ma [[]]
theorem j0 {ss:List (Option Int)}{k:Nat}{o:Option Int}(h:ss[k]? = some o):fI (ss.take (k + 1))=ma (fI (ss.take k)) o:=by
  unfold fI
  rw [List.take_succ,h,List.foldl_append];rfl
theorem Cm (E:List (List Int))(o:Option Int):(ma E o).length≤2 * E.length:=by
  unfold ma
  induction E with
  | nil=>exact ZL _
  | cons s E ih =>
    rw [List.flatMap_cons,ZB,List.length_cons]
    have:(Ec o s).length≤2:=by
      cases o with
      | none=>exact ZL 2
      | some v=>exact Nat.le_succ 1
    omega
theorem yp (ss:List (Option Int)):∀ k,k≤ss.length→(fI (ss.take k)).length≤2 ^ k
  | 0,_=>by rw [List.take_zero];exact ZL _
  | k + 1,hk=>by
    rw [j0 (ZE (show k < ss.length by omega)),Nat.pow_succ]
    have:=Cm (fI (ss.take k)) (ss[k]'(by omega))
    have:=yp ss k (by omega)
    omega
structure InK (ss:List (Option Int)) (k:Nat) (s:List Int):Prop where
  len:s.length=k
  op:∀ x∈s,x=0∨x=1
  st:∀ (i:Nat) x,i < k→ss[i]? = some (some x)→s[i]? = some x
theorem oK {ss:List (Option Int)}(os:∀ x∈ss,x=none∨x=some 0∨x=some 1):∀ k,k≤ss.length → ∀ s,s∈fI (ss.take k) ↔ InK ss k s
  | 0,_,s=>by
    rw [List.take_zero]
    constructor
    · intro h
      have h:s=[]:=List.mem_singleton.mp h
      subst h
      exact⟨rfl,(fun x hx=>absurd hx List.not_mem_nil),fun i x hi=>absurd hi (Nat.not_lt_zero i)⟩
    · intro h
      rw [List.eq_nil_of_length_eq_zero h.len];exact List.mem_singleton.mpr rfl
  | k + 1,hk,s=>by
    have hk':k < ss.length:=hk
    have e:ss[k]? = some ss[k]:=ZE hk'
    have ok:=os _ (List.getElem_mem hk')
    obtain⟨o,ho⟩ : ∃ o,o=ss[k]:=⟨_,rfl⟩
    rw [← ho] at e ok
    rw [j0 e]
    unfold ma
    rw [List.mem_flatMap]
    have ih:=oK os k (Nat.le_of_lt hk')
    constructor
    · rintro⟨t,ht,hs⟩
      have T:=(ih t).mp ht
      have:∃ v,s=t++[v]∧(v=0∨v=1)∧(∀ x,o=some x→v=x):=by
        cases o with
        | none =>
          rcases List.mem_cons.mp hs with z|z
          · exact⟨0,z,.inl rfl,fun x q=>by cases q⟩
          · exact⟨1,List.mem_singleton.mp z,.inr rfl,fun x q=>by cases q⟩
        | some v=>exact⟨v,List.mem_singleton.mp hs,by simpa using ok,fun x q=>by cases q;rfl⟩
      obtain⟨v,rfl,vb,vo⟩:=this
      refine⟨by rw [ZB,T.len];rfl,fun x hx => ?_,fun i x hi q => ?_⟩
      · rcases List.mem_append.mp hx with z|z
        · exact T.op x z
        · rw [List.mem_singleton.mp z];exact vb
      · by_cases hik:i < k
        · rw [ZC (by rw [T.len];exact hik)];exact T.st i x hik q
        · have:i=k:=by omega
          subst this
          rw [e] at q
          rw [ZD (by rw [T.len];exact ZL _),T.len,Nat.sub_self,vo x (ZT q)];rfl
    · intro S
      have ls:k < s.length:=by rw [S.len];exact Nat.lt_succ_self k
      have dec:s=s.take k++[s[k]]:=by
        conv=>lhs;rw [← List.take_append_drop k s]
        rw [List.drop_eq_getElem_cons ls,List.drop_of_length_le (by rw [S.len];exact ZL _)]
      refine⟨s.take k,(ih _).mpr ⟨by rw [List.length_take];omega,fun x hx=>S.op x (List.mem_of_mem_take hx),fun i x hi q=>by rw [List.getElem?_take_of_lt hi];exact S.st i x (Nat.lt_succ_of_lt hi) q⟩,?_⟩
      have vb:=S.op _ (List.getElem_mem ls)
      obtain⟨t,ht⟩ : ∃ t,t=s.take k:=⟨_,rfl⟩
      obtain⟨v,hv⟩ : ∃ v,v=s[k]:=⟨_,rfl⟩
      have sv:=fun x q=>S.st k x (Nat.lt_succ_self k) q
      rw [ZE ls] at sv
      rw [← hv] at vb sv
      rw [← ht,← hv] at dec
      rw [← ht,dec]
      cases o with
      | none =>
        rcases vb with z|z
        · rw [z];exact ZV
        · rw [z];exact ZW _ ZV
      | some w =>
        rw [ZT (sv w e)];exact ZV
theorem Cn {a b:List Int}{x y:Int}{k:Nat}(la:a.length=k)(lb:b.length=k)(h:LeS (b++[y]) (a++[x])):LeS b a∧y≤x:=by
  have at_:∀ (c:List Int) (z:Int) (i:Nat),c.length=k→(c++[z]).getD i 0=if i < k then c.getD i 0 else if i=k then z else 0:=fun c z i lc=>by
    rw [ZF,ZF]
    by_cases h1:i < k
    · rw [ZC (by rw [lc];exact h1),if_pos h1]
    · rw [ZD (by rw [lc];exact Nat.not_lt.mp h1),if_neg h1,lc]
      by_cases h2:i=k
      · subst h2;rw [Nat.sub_self,if_pos rfl];rfl
      · rw [if_neg h2,List.getElem?_eq_none (by show 1≤i - k;omega)];rfl
  constructor
  · intro i
    have:=h i
    rw [at_ b y i lb,at_ a x i la] at this
    by_cases h1:i < k
    · rw [if_pos h1,if_pos h1] at this;exact this
    · rw [ZF,List.getElem?_eq_none (by omega),ZF,List.getElem?_eq_none (by omega)];exact Int.le_refl _
  · have:=h k
    rw [at_ b y k lb,at_ a x k la,if_neg (Nat.lt_irrefl k),if_pos rfl,if_neg (Nat.lt_irrefl k),if_pos rfl] at this
    exact this
theorem vm {ss:List (Option Int)}(os:∀ x∈ss,x=none∨x=some 0∨x=some 1):∀ k,k≤ss.length→(fI (ss.take k)).Pairwise fun a b=>¬ LeS b a
  | 0,_=>by rw [List.take_zero];exact List.pairwise_singleton _ _
  | k + 1,hk=>by
    have hk':k < ss.length:=hk
    rw [j0 (ZE hk')]
    unfold ma
    rw [List.pairwise_flatMap]
    have lk:∀ s∈fI (ss.take k),s.length=k:=fun s hs=>((oK os k (Nat.le_of_lt hk') s).mp hs).len
    refine⟨fun a ha => ?_,?_⟩
    · cases ss[k] with
      | none =>
        refine List.pairwise_cons.mpr ⟨fun b hb => ?_,List.pairwise_singleton _ _⟩
        rw [List.mem_singleton.mp hb]
        intro z
        have:=(Cn (lk a ha) (lk a ha) z).2
        omega
      | some v=>exact List.pairwise_singleton _ _
    · refine List.Pairwise.imp_of_mem ?_ (vm os k (Nat.le_of_lt hk'))
      intro a b ha hb nl x hx y hy z
      have ex:∀ (c t:List Int),t∈Ec ss[k] c → ∃ v,t=c++[v]:=fun c t ht=>by
        cases q:ss[k] with
        | none =>
          rw [q] at ht
          rcases List.mem_cons.mp ht with z|z
          · exact⟨0,z⟩
          · exact⟨1,List.mem_singleton.mp z⟩
        | some v=>rw [q] at ht;exact⟨v,List.mem_singleton.mp ht⟩
      obtain⟨u,rfl⟩:=ex a x hx
      obtain⟨v,rfl⟩:=ex b y hy
      exact nl (Cn (lk a ha) (lk b hb) z).1
theorem Ed (s:List Int)(v:Int)(ls:s.length≤30)(h:Hd):kB (af s) (.tup [.int v]) h=.ok (af (s++[v])) h:=by
  have:=Eb (xs:=s.map D.int) (ys:=[.int v]) (h:=h) (by rw [ZA];exact ZM (Nat.add_le_add_right ls 1) (by decide))
  unfold af
  rw [ZR];exact this
def fm (E:List (List Int)) (p:Int × Int):List (List Int):=E.flatMap fun s=>(List.range (p.2 + 1 - p.1).toNat).map fun k:Nat=>s++[p.1 + k]
def g6 (l:List (Int × Int)):List (List Int):=l.foldl fm [[]]
theorem nz {l:List (Int × Int)}{k:Nat}{p:Int × Int}(h:l[k]? = some p):g6 (l.take (k + 1))=fm (g6 (l.take k)) p:=by
  unfold g6
  rw [List.take_succ,h,List.foldl_append];rfl
def btw (l:List (Int × Int)) (s:List Int):Bool:=(l.zip s).all fun q=>decide (q.1.1≤q.2) && decide (q.2≤q.1.2)
theorem md {l:List (Int × Int)}{p:Int × Int}{s:List Int}{v:Int}(h:s.length=l.length):btw (l++[p]) (s++[v])=(btw l s && (decide (p.1≤v) && decide (v≤p.2))):=by
  unfold btw
  rw [List.zip_append h.symm,List.all_append]
  simp only [List.zip_cons_cons,List.zip_nil_right,List.all_cons,List.all_nil,Bool.and_true]
theorem vn {α β : Type}(E:List α)(q : α → Bool)(f g : α → List β)(p : β → Bool)(h:∀ s∈E,(f s).filter p=if q s then g s else []):(E.flatMap f).filter p=(E.filter q).flatMap g:=by
  induction E with
  | nil=>rfl
  | cons s E ih =>
    have ih:=ih fun x hx=>h x (ZW _ hx)
    have hs:=h s ZV
    rw [List.flatMap_cons,List.filter_append,ih,hs]
    cases c:q s with
    | true=>rw [List.filter_cons_of_pos c,List.flatMap_cons,if_pos rfl]
    | false=>rw [List.filter_cons_of_neg (by rw [c];decide),if_neg (by decide)];rfl
structure Bd (ss:List (Option Int)) (l:List (Int × Int)):Prop where
  len:l.length=ss.length
  bit:∀ p∈l,(p.1=0∨p.1=1)∧(p.2=0∨p.2=1)∧p.1≤p.2
  st:∀ (i:Nat) x p,ss[i]? = some (some x)→l[i]? = some p→p=(x,x)
theorem j5 {ss:List (Option Int)}(os:∀ x∈ss,x=none∨x=some 0∨x=some 1){l:List (Int × Int)}(B:Bd ss l):∀ k,k≤ss.length→g6 (l.take k)=(fI (ss.take k)).filter (btw (l.take k))
  | 0,_=>rfl
  | k + 1,hk=>by
    have hk':k < ss.length:=hk
    have hl':k < l.length:=by rw [B.len];exact hk'
    obtain⟨o,ho⟩ : ∃ o,ss[k]? = some o:=⟨_,ZE hk'⟩
    obtain⟨p,hp⟩ : ∃ p,l[k]? = some p:=⟨_,ZE hl'⟩
    rw [nz hp,j0 ho,j5 os B k (Nat.le_of_lt hk')]
    have lt:l.take (k + 1)=l.take k++[p]:=by rw [List.take_succ,hp];rfl
    have lk:(l.take k).length=k:=by rw [List.length_take];exact Nat.min_eq_left (Nat.le_of_lt hl')
    unfold fm ma
    symm
    refine vn _ _ _ _ _ fun s hs => ?_
    have ls:s.length=(l.take k).length:=by rw [lk];exact ((oK os k (Nat.le_of_lt hk') s).mp hs).len
    obtain⟨b1,b2,b3⟩:=B.bit p (ZK hp)
    rw [lt]
    cases c:btw (l.take k) s with
    | false =>
      rw [if_neg (by decide),List.filter_eq_nil_iff]
      intro t ht
      have:∃ v,t=s++[v]:=by
        cases o with
        | none =>
          rcases List.mem_cons.mp ht with z|z
          · exact⟨0,z⟩
          · exact⟨1,List.mem_singleton.mp z⟩
        | some v=>exact⟨v,List.mem_singleton.mp ht⟩
      obtain⟨v,rfl⟩:=this
      rw [md ls,c,Bool.false_and];decide
    | true =>
      rw [if_pos rfl]
      cases o with
      | some v =>
        have e:=B.st k v p ho hp
        rw [e]
        show ([s++[v]]).filter _=_
        rw [List.filter_cons_of_pos (by rw [md ls,c];simp),List.filter_nil]
        have e1:(v + 1 - v).toNat=1:=by omega
        show _=(List.range (v + 1 - v).toNat).map _
        rw [e1]
        show [s++[v]] = [s++[v + ((0:Nat):Int)]]
        rw [show v + ((0:Nat):Int)=v from Int.add_zero v]
      | none =>
        obtain⟨x,y⟩:=p
        show ([s++[0],s++[1]]).filter _=_
        have f0:btw (l.take k++[(x,y)]) (s++[0])=(decide (x≤0) && decide (0≤y)):=by rw [md ls,c,Bool.true_and]
        have f1:btw (l.take k++[(x,y)]) (s++[1])=(decide (x≤1) && decide (1≤y)):=by rw [md ls,c,Bool.true_and]
        simp only at b1 b2 b3
        rcases b1 with rfl|rfl<;>rcases b2 with rfl|rfl
        · rw [List.filter_cons_of_pos (by rw [f0];decide),List.filter_cons_of_neg (by rw [f1];decide)];rfl
        · rw [List.filter_cons_of_pos (by rw [f0];decide),List.filter_cons_of_pos (by rw [f1];decide)];rfl
        · exact absurd b3 (by decide)
        · rw [List.filter_cons_of_neg (by rw [f0];decide),List.filter_cons_of_pos (by rw [f1];decide)];rfl
theorem zG {a b:EF}{σ:Sd}{h h1 h2:Hd}{m n:Int}(p:a σ h=.ok (.int m) h1)(q:b σ h1=.ok (.int n) h2)(c:(-1000000≤m∧m≤1000000) ∧ -1000000≤n∧n≤1000000):lx a b σ h=.ok ((List.range (n - m).toNat).map (fun k:Nat=>D.int (m + k)),none) h2:=by
  simp only [lx,p,q,aG,if_pos c]
theorem zH {p:Int × Int}(pb:(p.1=0∨p.1=1)∧(p.2=0∨p.2=1))(E:List (List Int)):(fm E p).length≤2 * E.length:=by
  unfold fm
  induction E with
  | nil=>exact ZL _
  | cons s E ih =>
    rw [List.flatMap_cons,ZB,List.length_cons,ZA,ZO]
    omega
theorem Co {x y:D}{k A:Nat}{E:List (List Int)}{p:Int × Int}(pb:(p.1=0∨p.1=1)∧(p.2=0∨p.2=1))(lE:E.length≤100000)(ls:∀ s∈E,s.length≤30){h:Hd}(hk:h[k]? = some (.lst (E.map af)))(hA:A=h.length)(c:Option D) :
    ∃ c',fq (some k) (E.map af) (gN 6) dS (E.map af) [some x,some y,some (.ref k),some (.int p.1),some (.int p.2),some (.ref A),c] (h++[.lst []])=.nx [some x,some y,some (.ref k),some (.int p.1),some (.int p.2),some (.ref A),c'] (h++[.lst ((fm E p).map af)]):=by
  obtain⟨σ',h',q,c',e1,e2⟩:=bE (P:=fun i σ h'=>∃ c,σ = [some x,some y,some (.ref k),some (.int p.1),some (.int p.2),some (.ref A),c]∧h'=h++[.lst ((fm (E.take i) p).map af)]) (g:=some k) (k:=0) (all:=E.map af) (fun i σ h' ⟨_,_,e⟩=>by show h'[k]? = _;rw [e];exact dH _ hk)
    (xs:=E.map af) (tg:=gN 6) (σ:=[some x,some y,some (.ref k),some (.int p.1),some (.int p.2),some (.ref A),c]) (h:=h++[.lst []]) (b:=dS) (by
      rintro i x' σ h0 hx ⟨c,rfl,rfl⟩
      rw [Nat.zero_add]
      have hx':E[i]?.map af=some x':=by rw [← ZQ];exact hx
      obtain⟨s,hs,rfl⟩:=Option.map_eq_some_iff.mp hx'
      have l30:=ls s (ZK hs)
      have gA:=dv hA (.lst ((fm (E.take i) p).map af))
      have tk:E.take (i + 1)=E.take i++[s]:=by rw [List.take_succ,hs];rfl
      have st:fm (E.take (i + 1)) p=fm (E.take i) p++(List.range (p.2 + 1 - p.1).toNat).map fun k:Nat=>s++[p.1 + k]:=by rw [tk];unfold fm;rw [List.flatMap_append];simp only [List.flatMap_cons,List.flatMap_nil,List.append_nil]
      have lz:((fm (E.take i) p).map af).length≤200000:=by
        rw [ZA]
        have:=zH pb (E.take i)
        have:(E.take i).length≤E.length:=List.length_take_le' _ _
        omega
      obtain⟨H0,hH0⟩ : ∃ H0:Hd,H0=h++[.lst ((fm (E.take i) p).map af)]:=⟨_,rfl⟩
      have cp:cx none ((List.range (p.2 + 1 - p.1).toNat).map fun k:Nat=>D.int (p.1 + k)) (gN 0) [] (ah kB (aa 1) (fL (ad (aa 0) ar))) ((List.range (p.2 + 1 - p.1).toNat).map fun k:Nat=>D.int (p.1 + k)) [none,some (af s)] H0=.ok (((List.range (p.2 + 1 - p.1).toNat).map fun k:Nat=>s++[p.1 + k]).map af) H0:=by
        have:=bD (g:=none) (all:=(List.range (p.2 + 1 - p.1).toNat).map fun k:Nat=>D.int (p.1 + k)) (tg:=gN 0) (cs:=[]) (e:=ah kB (aa 1) (fL (ad (aa 0) ar))) (h:=H0) (I:=fun σ=>∃ x,σ = [x,some (af s)]) (fun _=>true) (fun d=>match d with | .int v=>af (s++[v])|_=>.non) trivial (xs:=(List.range (p.2 + 1 - p.1).toNat).map fun k:Nat=>D.int (p.1 + k)) (σ:=[none,some (af s)]) (by
          rintro d hd σ ⟨u,rfl⟩
          obtain⟨j,hj,rfl⟩:=List.mem_map.mp hd
          exact⟨_,rfl,⟨_,rfl⟩,rfl,fun _=>aq rfl (iS (aj rfl rfl)) (Ed s _ l30 _)⟩) ⟨_,rfl⟩
        rw [this,List.filter_eq_self.mpr (fun _ _=>rfl),List.map_map,List.map_map];rfl
      refine⟨_,rfl,[some x,some y,some (.ref k),some (.int p.1),some (.int p.2),some (.ref A),some (af s)],h++[.lst ((fm (E.take (i + 1)) p).map af)],?_,_,rfl,rfl⟩
      rw [st,ZR]
      rw [← hH0] at gA ⊢
      have z:((fm (E.take i) p).map af).length + (((List.range (p.2 + 1 - p.1).toNat).map fun k:Nat=>s++[p.1 + k]).map af).length≤SZ:=by
        rw [ZA] at lz
        rw [ZA,ZA,ZA,ZO]
        show _≤1000000
        omega
      refine (gE (Cg rfl gA (cM (zG rfl (aq rfl rfl rfl) (by show (-1000000≤p.1∧p.1≤1000000) ∧ -1000000≤p.2 + 1∧p.2 + 1≤1000000;omega)) cp) gA z)).trans ?_
      rw [hH0,iW hA];rfl) ⟨_,rfl,by rw [List.take_zero];rfl⟩
  have l0:0 + (E.map af).length=E.length:=by rw [ZA,Nat.zero_add]
  rw [l0,List.take_length] at e2
  rw [e1,e2] at q
  exact⟨c',q⟩
theorem vq {l:List (Int × Int)}:∀ k,k≤l.length → ∀ s∈g6 (l.take k),s.length=k
  | 0,_,s,h=>by rw [List.take_zero] at h;rw [List.mem_singleton.mp h];rfl
  | k + 1,hk,s,h=>by
    rw [nz (ZE (show k < l.length from hk))] at h
    unfold fm at h
    obtain⟨t,ht,hs⟩:=List.mem_flatMap.mp h
    obtain⟨j,_,rfl⟩:=List.mem_map.mp hs
    rw [ZB,vq k (Nat.le_of_succ_le hk) t ht];rfl
theorem xj {low high:List Int}(pb:∀ p∈low.zip high,(p.1=0∨p.1=1)∧(p.2=0∨p.2=1))(hn:(low.zip high).length≤30)(hz:∀ k,k≤(low.zip high).length→(g6 ((low.zip high).take k)).length≤100000)(h:Hd) :
    ∃ k g,dl [af low,af high] h=.ok (.ref k) (h++g)∧(h++g)[k]? = some (.lst ((g6 (low.zip high)).map af))∧h.length≤k:=by
  obtain⟨A,hA⟩ : ∃ A,A=h.length:=⟨_,rfl⟩
  obtain⟨l,hl⟩ : ∃ l,l=low.zip high:=⟨_,rfl⟩
  rw [← hl] at pb hn hz ⊢
  have zp:∀ (a b c d e:Option D) (H:Hd),DB (aa 0) (aa 1) [some (af low),some (af high),a,b,c,d,e] H=.ok (l.map (fun p=>D.tup [.int p.1,.int p.2]),none) H:=fun a b c d e H=>by
    show Res.ok (((low.map D.int).zip (high.map D.int)).map fun p=>D.tup [p.1,p.2],none) H=_
    rw [hl,List.zip_map,List.map_map];rfl
  obtain⟨σ',h',q,k,g,b3,b4,b5,b6,e1,e2,e3,e4⟩:=bE (P:=fun i σ h'=>∃ (k:Nat) (g:Hd) (b3 b4 b5 b6:Option D),σ = [some (af low),some (af high),some (.ref k),b3,b4,b5,b6]∧h'=h++g∧h'[k]? = some (.lst ((g6 (l.take i)).map af))∧h.length≤k) (g:=none) (k:=0) (all:=l.map fun p=>D.tup [.int p.1,.int p.2]) (fun _ _ _ _=>trivial)
    (xs:=l.map fun p=>D.tup [.int p.1,.int p.2]) (tg:=gT [3,4]) (σ:=[some (af low),some (af high),some (.ref A),none,none,none,none]) (h:=h++[.lst [.tup []]]) (b:=hW) (by
      rintro i x σ h0 hx ⟨k,g,b3,b4,b5,b6,rfl,rfl,hk,_⟩
      rw [Nat.zero_add] at hk ⊢
      have hx':l[i]?.map (fun p=>D.tup [.int p.1,.int p.2])=some x:=by rw [← ZQ];exact hx
      obtain⟨p,hp,rfl⟩:=Option.map_eq_some_iff.mp hx'
      have hi:i < l.length:=(List.getElem?_eq_some_iff.mp hp).1
      have l30:∀ s∈g6 (l.take i),s.length≤30:=fun s hs=>by rw [vq i (Nat.le_of_lt hi) s hs];omega
      obtain⟨c',lp⟩:=Co (x:=af low) (y:=af high) (A:=(h++g).length) (pb p (ZK hp)) (hz i (Nat.le_of_lt hi)) l30 hk rfl b6
      have s1:aD (gN 5) (bL ar) [some (af low),some (af high),some (.ref k),some (.int p.1),some (.int p.2),b5,b6] (h++g)=.nx [some (af low),some (af high),some (.ref k),some (.int p.1),some (.int p.2),some (.ref (h++g).length),b6] (h++g++[.lst []]):=aH (eM (xs:=[]) rfl (Nat.zero_le _))
      have s2:dA (dW (aa 2)) (gN 6) dS [some (af low),some (af high),some (.ref k),some (.int p.1),some (.int p.2),some (.ref (h++g).length),b6] (h++g++[.lst []])=.nx [some (af low),some (af high),some (.ref k),some (.int p.1),some (.int p.2),some (.ref (h++g).length),c'] (h++g++[.lst ((fm (g6 (l.take i)) p).map af)]):=c9 (dR rfl (dH _ hk)) lp
      refine⟨_,rfl,_,_,(bx s1).trans ((bx s2).trans (aH rfl)),(h++g).length,g++[.lst ((fm (g6 (l.take i)) p).map af)],_,_,_,_,rfl,by rw [ZU],?_,by rw [ZB];exact Nat.le_add_right _ _⟩
      rw [nz hp];exact ZG) ⟨A,[.lst [.tup []]],none,none,none,none,rfl,rfl,by rw [List.take_zero];exact dv hA _,Nat.le_of_eq hA.symm⟩
  have l0:0 + (l.map fun p=>D.tup [.int p.1,.int p.2]).length=l.length:=by rw [ZA,Nat.zero_add]
  rw [l0,List.take_length] at e3
  rw [e1,e2] at q
  rw [e2] at e3
  refine⟨k,g,?_,e3,e4⟩
  exact (cI rfl rfl ((bx (aH (hV hA (aj (iS (xs:=[]) rfl (Nat.zero_le _)) rfl) (by exact of_decide_eq_true rfl)))).trans ((bx (c9 (zp _ _ _ _ _ _) q)).trans (bh rfl)))).trans cA
theorem nV {G:Hd→Prop}{tg:GF}{cs:List TF}{e:EF}{h:Hd}(I:Sd→Prop)(p:D→Bool)(f:D→D)(hh:G h) :
    ∀ {xs:List D} {σ:Sd},(∀ x∈xs,∀ σ,I σ → ∃ σ',tg x σ = some σ'∧I σ'∧jm cs σ' h=.ok (p x) h∧(p x=true→e σ' h=.ok (f x) h))→I σ → fj G tg cs e xs σ h=.ok ((xs.filter p).map f) h
  | [],_,_,_=>by unfold fj;rw [if_pos hh];rfl
  | x :: xs,σ,st,i=>by
    obtain⟨σ',h1,h2,h3,h4⟩:=st x ZV σ i
    have ih:=nV I p f hh (xs:=xs) (σ := σ') (fun y hy=>st y (ZW _ hy)) h2
    unfold fj
    rw [if_pos hh,h1]
    simp only [h3,aG]
    cases c:p x with
    | true=>rw [List.filter_cons_of_pos c,List.map_cons,h4 c];simp [ih]
    | false=>rw [List.filter_cons_of_neg (by rw [c];decide),ih];simp
def j6 (ss:List (Option Int)):Nat:=(ss.filter fun o=>o.isNone).length
theorem Cp (ss:List (Option Int)):∀ k,((((List.range' k ss.length).zip (ss.map bN)).map fun p=>D.tup [.int (p.1:Nat),p.2]).filter fun d=>match d with | .tup [_,x]=>lu x|_=>false).length=j6 ss:=by
  induction ss with
  | nil=>intro k;rfl
  | cons o ss ih =>
    intro k
    rw [List.length_cons,List.range'_succ,List.map_cons,List.zip_cons_cons,List.map_cons]
    have ih:=ih (k + 1)
    unfold j6 at ih ⊢
    cases o with
    | none =>
      rw [List.filter_cons_of_pos (by rfl),List.filter_cons_of_pos (by rfl),List.length_cons,List.length_cons,ih]
    | some v =>
      rw [List.filter_cons_of_neg (by show ¬ false=true;decide),List.filter_cons_of_neg (by show ¬ false=true;decide),ih]
section
variable {w:Web} {n:Nat}
theorem Ee (W:w.Ok n)(hn:n≤30)(h:Hd):∃ l g,iE [w.enc] h=.ok (.ref (h++g).length) (h++g++[.lst l])∧l.length=j6 w.stays:=by
  obtain⟨K,hK⟩ : ∃ K,K=h.length:=⟨_,rfl⟩
  have lz:(w.stays.map bN).length≤SZ:=by rw [ZA,W.s];exact gY hn
  have so:bX [w.enc] h=.ok (.ref h.length) (h++[.lst (w.stays.map bN)]):=(cI rfl rfl (bh (eM (bU (aP rfl rfl rfl rfl) rfl) lz))).trans cA
  obtain⟨l,hl⟩ : ∃ l:List D,l=((iz (w.stays.map bN)).filter fun d=>match d with | .tup [_,x]=>lu x|_=>false).map fun d=>match d with | .tup [x,_]=>x|_=>.non:=⟨_,rfl⟩
  have gK:(h++[.lst (w.stays.map bN)])[h.length]? = some (.lst (w.stays.map bN)):=ZG
  have cg:fj (fun h'=>h'[h.length]? = some (.lst (w.stays.map bN))) (gT [0,1]) [(tE (ah jz (aa 1) (fC .non)))] (aa 0) (iz (w.stays.map bN)) [none,none] (h++[.lst (w.stays.map bN)])=.ok l (h++[.lst (w.stays.map bN)]):=by
    rw [hl]
    refine nV (I:=fun σ=>∃ a b,σ = [a,b]) _ _ gK (fun x hx σ ⟨a,b,e⟩ => ?_) ⟨_,_,rfl⟩
    subst e
    obtain⟨p,hp,rfl⟩:=List.mem_map.mp hx
    exact⟨_,rfl,⟨_,_,rfl⟩,mI (bn (aq rfl rfl rfl)),fun _=>rfl⟩
  have cp:pE 2 [] (am bX (ad (aa 0) ar)) (gT [0,1]) [(tE (ah jz (aa 1) (fC .non)))] (aa 0) [some w.enc] h=.ok l (h++[.lst (w.stays.map bN)]):=by
    have e:am bX (ad (aa 0) ar) [some w.enc] h=.ok (.ref h.length) (h++[.lst (w.stays.map bN)]):=av (aj rfl rfl) so
    unfold pE
    rw [e]
    simp only [gK]
    exact cg
  have ll:l.length=j6 w.stays:=by
    rw [hl,ZA]
    have:=Cp w.stays 0
    rw [← List.range_eq_range'] at this
    rw [← this]
    unfold iz
    rw [ZA]
  refine⟨l,[.lst (w.stays.map bN)],(cI rfl rfl (bh (eM cp ?_))).trans cA,ll⟩
  rw [ll]
  exact ZM (List.length_filter_le _ _) (by rw [W.s];exact gY hn)
end
def Ef:D→List Int
  | .tup l=>l.map fun d=>match d with | .int i=>i|_=>0
  | _=>[]
theorem yq (s:List Int):Ef (af s)=s:=by
  show (s.map D.int).map _=s
  rw [List.map_map];exact List.map_id' s
theorem zI {E:List (List Int)}{k:Nat}{t:TF}{cp:Sd}{h:Hd}(p:List Int→Bool)(hk:h[k]? = some (.lst (E.map af)))(ht:∀ s∈E,t (some (af s) :: cp) h=.ok (p s) h)(a:Option D):cx (some k) (E.map af) (gN 0) [t] (aa 0) (E.map af) (a :: cp) h=.ok ((E.filter p).map af) h:=by
  have:=bD (g:=some k) (all:=E.map af) (tg:=gN 0) (cs:=[t]) (e:=aa 0) (h:=h) (I:=fun σ=>∃ x,σ = x :: cp) (fun d=>p (Ef d)) (fun d=>d) hk (xs:=E.map af) (σ:=a :: cp) (by
    rintro x hx σ ⟨u,rfl⟩
    obtain⟨s,hs,rfl⟩:=List.mem_map.mp hx
    refine⟨_,rfl,⟨_,rfl⟩,mI ?_,fun _=>rfl⟩
    rw [yq];exact ht s hs) ⟨_,rfl⟩
  rw [this,List.map_id',List.filter_map]
  have e:((fun d=>p (Ef d)) ∘ af)=p:=funext fun s=>by show p (Ef (af s))=p s;rw [yq]
  rw [e]
theorem sg (ss:List (Option Int)):∀ k,k≤ss.length→(fI (ss.take k)).length≤2 ^ j6 (ss.take k)
  | 0,_=>by rw [List.take_zero];exact ZL _
  | k + 1,hk=>by
    have hk':k < ss.length:=hk
    obtain⟨o,ho⟩ : ∃ o,ss[k]? = some o:=⟨_,ZE hk'⟩
    have ih:=sg ss k (Nat.le_of_lt hk')
    have tk:ss.take (k + 1)=ss.take k++[o]:=by rw [List.take_succ,ho];rfl
    rw [j0 ho,tk]
    unfold j6 at ih ⊢
    rw [List.filter_append,ZB]
    generalize (fI (ss.take k))=E at ih ⊢
    generalize ((ss.take k).filter fun o=>o.isNone).length=m at ih ⊢
    have st:∀ (c:Nat) (E:List (List Int)),(∀ s,(Ec o s).length=c)→(ma E o).length=E.length * c:=fun c E hc=>by
      unfold ma
      induction E with
      | nil=>rw [List.flatMap_nil,List.length_nil,Nat.zero_mul]
      | cons s E ih=>rw [List.flatMap_cons,ZB,ih,hc,List.length_cons,Nat.succ_mul,Nat.add_comm]
    cases o with
    | none =>
      rw [st 2 E (fun s=>rfl)]
      show E.length * 2≤2 ^ (m + 1)
      rw [Nat.pow_succ];exact Nat.mul_le_mul_right 2 ih
    | some v =>
      rw [st 1 E (fun s=>rfl),Nat.mul_one];exact ih
theorem xk (ss:List (Option Int))(k:Nat):j6 (ss.take k)≤j6 ss:=by
  unfold j6
  exact ((List.take_sublist k ss).filter _).length_le
structure Jj (w:Web) (n:Nat) (a:List Int):Prop where
  fit:ce w n a
  rest:aB w n a=a
theorem tI {w:Web}{n:Nat}{ss:List (Option Int)}(W:w.Ok n)(wst:w.stays=ss)(ls:ss.length=n)(os:∀ x∈ss,x=none∨x=some 0∨x=some 1)(s:List Int):s∈fI ss ↔ ce w n s:=by
  have:=oK os n (Nat.le_of_eq ls.symm) s
  rw [List.take_of_length_le (Nat.le_of_eq ls)] at this
  rw [this]
  constructor
  · intro k
    exact⟨k.len,k.op,fun i x e=>k.st i x (by rw [wst] at e;rw [← ls];exact (List.getElem?_eq_some_iff.mp e).1) (by rw [← wst];exact e)⟩
  · intro F
    exact⟨F.len,F.op,fun i x _ e=>F.st i x (by rw [wst];exact e)⟩
structure G23 (w:Web) (n:Nat) (lo hi:List Int):Prop where
  W:w.Ok n
  hn:n≤30
  S:cw w
  M:mK w w n
  f12:j6 w.stays≤12
  lo_is:∀ h,cB [w.enc] h=.ok (af lo) h
  hi_is:∀ h,bI [w.enc] h=.ok (af hi) h
  loF:ce w n lo
  hiF:ce w n hi
  le:LeS lo hi
  mid:∀ s,ce w n s→aB w n (aB w n s)=s→LeS lo s∧LeS s hi
  loR:aB w n lo=lo
  hiR:aB w n hi=hi
section
variable {w:Web} {n:Nat} {lo hi:List Int}
theorem G23.bd (G:G23 w n lo hi):Bd w.stays (lo.zip hi):=by
  have l1:=G.loF.len
  have l2:=G.hiF.len
  refine⟨by rw [List.length_zip,l1,l2,G.W.s];exact Nat.min_self n,fun p hp => ?_,fun i x p e1 e2 => ?_⟩
  · obtain⟨i,hi'⟩:=List.mem_iff_getElem?.mp hp
    obtain⟨h1,h2⟩:=List.getElem?_zip_eq_some.mp hi'
    have le:=G.le i
    rw [ZF,ZF,h1,h2] at le
    exact⟨G.loF.op _ (ZK h1),G.hiF.op _ (ZK h2),le⟩
  · obtain⟨h1,h2⟩:=List.getElem?_zip_eq_some.mp e2
    have a:=G.loF.st i x e1
    have b:=G.hiF.st i x e1
    rw [h1] at a
    rw [h2] at b
    exact Prod.ext (ZT a) (ZT b)
theorem G23.btw (G:G23 w n lo hi):g6 (lo.zip hi)=(fI w.stays).filter (btw (lo.zip hi)):=by
  have:=j5 G.S G.bd w.stays.length (ZL _)
  rw [List.take_length,List.take_of_length_le (Nat.le_of_eq G.bd.len)] at this
  exact this
theorem G23.sz (G:G23 w n lo hi)(k:Nat)(hk:k≤(lo.zip hi).length):(g6 ((lo.zip hi).take k)).length≤100000:=by
  have hk':k≤w.stays.length:=by rw [← G.bd.len];exact hk
  rw [j5 G.S G.bd k hk']
  refine ZM (List.length_filter_le _ _) (ZM (sg w.stays k hk') ?_)
  exact ZM (Nat.pow_le_pow_right (by decide) (ZM (xk _ _) G.f12)) (by decide)
theorem GK {s:List Int}(l1:lo.length=n)(l2:hi.length=n)(l3:s.length=n)(a:LeS lo s)(b:LeS s hi):btw (lo.zip hi) s=true:=by
  unfold btw
  rw [List.all_eq_true]
  intro x hx
  obtain⟨i,hi'⟩:=List.mem_iff_getElem?.mp hx
  obtain⟨h1,h2⟩:=List.getElem?_zip_eq_some.mp hi'
  obtain⟨h3,h4⟩:=List.getElem?_zip_eq_some.mp h1
  have q1:=a i
  have q2:=b i
  rw [ZF,ZF,h3,h2] at q1
  rw [ZF,ZF,h2,h4] at q2
  rw [Bool.and_eq_true]
  exact⟨decide_eq_true q1,decide_eq_true q2⟩
theorem G23.pick (G:G23 w n lo hi)(p:List Int→Bool)(hp:∀ s,ce w n s→p s=true→LeS lo s∧LeS s hi):(g6 (lo.zip hi)).filter p=(fI w.stays).filter p:=by
  rw [G.btw,List.filter_filter]
  refine List.filter_congr fun s hs => ?_
  have F:=(tI G.W rfl G.W.s G.S s).mp hs
  cases c:p s with
  | false=>rfl
  | true =>
    obtain⟨a,b⟩:=hp s F c
    rw [GK G.loF.len G.hiF.len F.len a b];rfl
theorem Cq (G:G23 w n lo hi)(h:Hd):∃ k g,cJ [w.enc] h=.ok (.ref k) (h++g)∧(h++g)[k]? = some (.lst ((g6 (lo.zip hi)).map af))∧h.length≤k:=by
  obtain⟨l,g1,f1,f2⟩:=Ee G.W G.hn h
  obtain⟨k,g,b1,b2,b3⟩:=xj (low:=lo) (high:=hi) (fun p hp=>⟨(G.bd.bit p hp).1,(G.bd.bit p hp).2.1⟩) (by rw [G.bd.len,G.W.s];exact G.hn) G.sz (h++g1++[.lst l])
  have s1:sIf (tE (ah oGt (cz (lOf (am iE (ad (aa 0) ar)))) (fC (.int 12)))) f6 bw [some w.enc] h=.nx [some w.enc] (h++g1++[.lst l]) :=
    d9 (bn (aq (dF (bU (av (aj rfl rfl) f1) (aJ (dv rfl _)))) rfl (sT (by rw [f2];have:=G.f12;omega))))
  have s2:bc (am dl (ad (am cB (ad (aa 0) ar)) (ad (am bI (ad (aa 0) ar)) ar))) [some w.enc] (h++g1++[.lst l])=.rt (.ref k) (h++g1++[.lst l]++g):=bh (av (de (av (aj rfl rfl) (G.lo_is _)) (av (aj rfl rfl) (G.hi_is _))) b1)
  refine⟨k,g1++[.lst l]++g,?_,?_,?_⟩
  · have:=(cI (np:=1) (n:=1) (ds:=[w.enc]) (h:=h) rfl rfl ((bx s1).trans s2)).trans cA
    rw [← ZU,← ZU]
    exact this
  · rw [← ZU,← ZU];exact b2
  · rw [ZB,ZB] at b3;omega
end
theorem zJ (l:List Int):en (l.map D.int)=some l:=by
  induction l with
  | nil=>rfl
  | cons x l ih=>rw [List.map_cons,en,ih];rfl
theorem GL (a b:List Int)(h:Hd):wm (af a) (af b) h=.ok (.bl (lexLt a b)) h:=by
  have:ltT (af a) (af b)=some (lexLt a b):=by
    unfold af ltT
    simp only [zJ]
  simp only [wm,this]
section
variable {w:Web} {n:Nat} {lo hi:List Int}
def isR (w:Web) (n:Nat) (s:List Int):Bool:=decide (aB w n s=s)
def isP (w:Web) (n:Nat) (s:List Int):Bool:=lexLt s (aB w n s) && decide (aB w n (aB w n s)=s)
def nA (w:Web) (n:Nat) (s:List Int):D:=.tup [af s,af (aB w n s)]
theorem G23.mem (G:G23 w n lo hi){s:List Int}(h:s∈g6 (lo.zip hi)):ce w n s:=by
  rw [G.btw] at h
  exact (tI G.W rfl G.W.s G.S s).mp (List.mem_filter.mp h).1
theorem G23.rs (G:G23 w n lo hi):(g6 (lo.zip hi)).filter (isR w n)=(fI w.stays).filter (isR w n):=G.pick _ fun s F e=>G.mid s F (by have:=of_decide_eq_true e;rw [this,this])
theorem G23.ps (G:G23 w n lo hi):(g6 (lo.zip hi)).filter (isP w n)=(fI w.stays).filter (isP w n):=G.pick _ fun s F e=>by
  unfold isP at e
  rw [Bool.and_eq_true] at e
  exact G.mid s F (of_decide_eq_true e.2)
theorem G23.zB (G:G23 w n lo hi):(g6 (lo.zip hi)).length≤100000:=by
  have:=G.sz (lo.zip hi).length (ZL _)
  rwa [List.take_length] at this
theorem zK (G:G23 w n lo hi){h:Hd}{k:Nat}(hk:h[k]? = some (.lst ((g6 (lo.zip hi)).map af))):cx (some k) ((g6 (lo.zip hi)).map af) (gN 0) [(tE (ah oEq (am bO (ad (aa 1) (ad (aa 0) ar))) (aa 0)))] (aa 0) ((g6 (lo.zip hi)).map af) [none,some w.enc] h=.ok (((fI w.stays).filter (isR w n)).map af) h:=by
  rw [← G.rs]
  exact zI (cp:=[some w.enc]) (isR w n) hk (fun s hs=>bn (aq (av (de rfl rfl) (fD G.W (G.mem hs) h)) rfl (lK (by rw [(G.mem hs).len];simp [aB]) h))) none
theorem zR (G:G23 w n lo hi):(((fI w.stays).filter (isR w n)).map af).length≤SZ:=by
  rw [ZA,← G.rs]
  exact ZM (List.length_filter_le _ _) (ZM G.zB (by decide))
theorem vt (G:G23 w n lo hi)(h:Hd):∃ g,i3 [w.enc] h=.ok (.ref (h++g).length) (h++g++[.lst (((fI w.stays).filter (isR w n)).map af)]):=by
  obtain⟨k,g,t1,hk,_⟩:=Cq G h
  exact⟨g,(cI rfl rfl (bh (eM (cM (dR (av (aj rfl rfl) t1) hk) (zK G hk)) (zR G)))).trans cA⟩
theorem Eg (W:w.Ok n){A:Nat}{s:List Int}(F:ce w n s)(F2:ce w n (aB w n s)){X:List D}{H:Hd}(hA:H[A]? = some (.lst X))(lX:X.length < SZ)(c:Option D) :
    pX [some w.enc,some (.ref A),some (af s),c] H=.nx [some w.enc,some (.ref A),some (af s),some (af (aB w n s))] (if isP w n s then H.set A (.lst (X++[nA w n s])) else H):=by
  have s1:aD (gN 3) (am bO (ad (aa 0) (ad (aa 2) ar))) [some w.enc,some (.ref A),some (af s),c] H=.nx [some w.enc,some (.ref A),some (af s),some (af (aB w n s))] H:=aH (av (de rfl rfl) (fD W F H))
  have t1:tE (ah wm (aa 2) (aa 3)) [some w.enc,some (.ref A),some (af s),some (af (aB w n s))] H=.ok (lexLt s (aB w n s)) H:=bn (aq rfl rfl (GL _ _ H))
  have t2:tE (ah oEq (am bO (ad (aa 0) (ad (aa 3) ar))) (aa 2)) [some w.enc,some (.ref A),some (af s),some (af (aB w n s))] H=.ok (decide (aB w n (aB w n s)=s)) H:=bn (aq (av (de rfl rfl) (fD W F2 H)) rfl (lK (by rw [F.len];simp [aB]) H))
  have t:kE (tE (ah wm (aa 2) (aa 3))) (tE (ah oEq (am bO (ad (aa 0) (ad (aa 3) ar))) (aa 2))) [some w.enc,some (.ref A),some (af s),some (af (aB w n s))] H=.ok (isP w n s) H:=by
    unfold isP
    cases c:lexLt s (aB w n s) with
    | true=>rw [c] at t1;rw [Bool.true_and];exact pM t1 t2
    | false=>rw [c] at t1;rw [Bool.false_and];exact xT t1
  refine (bx s1).trans ?_
  cases c:isP w n s with
  | true =>
    rw [c] at t
    rw [if_pos rfl]
    exact (pL t).trans (gE (kQ rfl hA (iS (de rfl rfl)) hA lX))
  | false =>
    rw [c] at t
    rw [if_neg (by decide)]
    exact d9 t
theorem xl {B:SF}{A k:Nat}{h g:Hd}(hA:A=h.length){E:List (List Int)}(lE:E.length≤100000)(hk:∀ X,(h++(.lst X :: g))[k]? = some (.lst (E.map af)))
    (hB:∀ s∈E,∀ (X:List D) (H:Hd) (c:Option D),H[A]? = some (.lst X)→X.length < SZ→B [some w.enc,some (.ref A),some (af s),c] H=.nx [some w.enc,some (.ref A),some (af s),some (af (aB w n s))] (if isP w n s then H.set A (.lst (X++[nA w n s])) else H)) :
    ∃ a b,fq (some k) (E.map af) (gN 2) B (E.map af) [some w.enc,some (.ref A),none,none] (h++(.lst [] :: g))=.nx [some w.enc,some (.ref A),a,b] (h++(.lst ((E.filter (isP w n)).map (nA w n)) :: g)):=by
  obtain⟨σ',h',q,a,b,e1,e2⟩:=bE (P:=fun i σ h'=>∃ a b,σ = [some w.enc,some (.ref A),a,b]∧h'=h++(.lst (((E.take i).filter (isP w n)).map (nA w n)) :: g)) (g:=some k) (k:=0) (all:=E.map af) (fun i σ h' ⟨_,_,_,e⟩=>by show h'[k]? = _;rw [e];exact hk _)
    (xs:=E.map af) (tg:=gN 2) (σ:=[some w.enc,some (.ref A),none,none]) (h:=h++(.lst [] :: g)) (b:=B) (by
      rintro i x σ h0 hx ⟨a,b,rfl,rfl⟩
      rw [Nat.zero_add]
      have hx':E[i]?.map af=some x:=by rw [← ZQ];exact hx
      obtain⟨s,hs,rfl⟩:=Option.map_eq_some_iff.mp hx'
      have gA:(h++(.lst (((E.take i).filter (isP w n)).map (nA w n)) :: g))[A]? = some (.lst (((E.take i).filter (isP w n)).map (nA w n))):=iU hA 0
      have lX:(((E.take i).filter (isP w n)).map (nA w n)).length < SZ:=by
        rw [ZA]
        exact ZS (ZM (List.length_filter_le _ _) (ZM (List.length_take_le' _ _) lE)) (by decide)
      have tk:E.take (i + 1)=E.take i++[s]:=by rw [List.take_succ,hs];rfl
      refine⟨_,rfl,_,_,hB s (ZK hs) _ _ b gA lX,_,_,rfl,?_⟩
      rw [tk,List.filter_append,ZR]
      cases c:isP w n s with
      | true =>
        rw [if_pos rfl,List.filter_cons_of_pos c]
        exact oC hA 0 _
      | false=>rw [if_neg (by decide),List.filter_cons_of_neg (by rw [c];decide),List.filter_nil,List.map_nil,List.append_nil]) ⟨_,_,rfl,by rw [List.take_zero];rfl⟩
  have l0:0 + (E.map af).length=E.length:=by rw [ZA,Nat.zero_add]
  rw [l0,List.take_length] at e2
  rw [e1,e2] at q
  exact⟨a,b,q⟩
theorem Eh {h g:Hd}{k:Nat}{c:du}(lk:(h++[du.lst []]).length≤k)(hk:(h++[.lst []]++g)[k]? = some c)(X:List D):(h++(.lst X :: g))[k]? = some c:=by
  rw [ZD lk] at hk
  rw [ZB] at lk hk
  have lk:h.length + 1≤k:=lk
  rw [ZD (Nat.le_of_succ_le lk)]
  have:k - h.length=(k - (h.length + 1)) + 1:=by omega
  rw [this,List.getElem?_cons_succ]
  exact hk
theorem Cr (G:G23 w n lo hi)(h:Hd):∃ g,lS [w.enc] h=.ok (.ref h.length) (h++(.lst (((fI w.stays).filter (isP w n)).map (nA w n)) :: g)):=by
  obtain⟨A,hA⟩ : ∃ A,A=h.length:=⟨_,rfl⟩
  obtain⟨k,g,t1,hk,lk⟩:=Cq G (h++[.lst []])
  obtain⟨a,b,lp⟩:=xl (w:=w) (n:=n) (B:=pX) (A:=A) hA G.zB (fun X=>Eh lk hk X) fun s hs X H c e1 e2=>Eg G.W (G.mem hs) (dB G.W G.S (G.mem hs)) e1 e2 c
  rw [G.ps] at lp
  have ap:h++[.lst []]++g=h++(.lst [] :: g):=by rw [ZU];rfl
  rw [ap] at t1 hk
  refine⟨g,?_⟩
  rw [← hA]
  exact (cI rfl rfl ((bx (aH (hV hA (xs:=[]) rfl (Nat.zero_le _)))).trans ((bx (c9 (dR (av (aj rfl rfl) t1) hk) lp)).trans (bh rfl)))).trans cA
end
theorem Cs {w:Web}{n:Nat}(W:w.Ok n)(hn:n≤30)(S:cw w)(M:mK w w n)(f12:j6 w.stays≤12):∃ lo hi,G23 w n lo hi:=by
  obtain⟨t0,l0,e0⟩:=u0 W S M
  obtain⟨t1,l1,e1⟩:=u3 W S M
  have F0:=mP W S
  have F1:=mQ W S
  have two:∀ s,aB w n (aB w n s)=s → ∀ k,aI w n s (2 * k)=s:=fun s h k=>by
    induction k with
    | zero=>rfl
    | succ k ih =>
      show aB w n (aB w n (aI w n s (2 * k)))=s
      rw [ih,h]
  refine⟨aI w n (dI w.stays) t0,aI w n (d5 w.stays) t1,W,hn,S,M,f12,fun h=>qF W S (by omega) e0 h,fun h=>qG W S (by omega) e1 h,bF W S F0 t0,bF W S F1 t1,?_,fun s F h=>⟨?_,?_⟩,e0,e1⟩
  · have:=kj W W S S M F0 F1 (pU F1) (t0 + t1)
    rwa [el e0 _ (Nat.le_add_right _ _),el e1 _ (Nat.le_add_left _ _)] at this
  · have:=kj W W S S M F0 F (pU F) (2 * t0)
    rwa [el e0 _ (by omega),two s h] at this
  · have:=kj W W S S M F F1 (uZ W F) (2 * t1)
    rwa [el e1 _ (by omega),two s h] at this
end Fm
namespace Fm
section
variable {n:Nat} {M:Nat→Nat→Int} {T:List Tie} {bs:List Int} {ss:List (Option Int)}
theorem qf {n:Nat}{T:List Tie}(O:TOk n n 0 T){bs:List Int}{ss:List (Option Int)}(os:∀ x∈ss,x=none∨x=some 0∨x=some 1):mK (bH n T bs ss) (bH n T bs ss) n:=by
  refine DU os os (fun p hp a b _ B l=>nT B l fun q hq => ?_) (fun _ _=>Int.le_refl _) fun p _ => ?_
  · have e:(bH n T bs ss).ties.getD p [] = ca (nbs T p):=by simp [bH,List.getD,hp]
    rw [e] at hq
    have hq:=dj.mp hq
    unfold nbs at hq
    obtain⟨t,ht',z⟩:=List.mem_filterMap.mp hq
    have:=O.wt t ht'
    cases e:far p t with
    | none=>rw [e] at z;cases z
    | some j=>rw [e] at z;simp at z;subst z;simp only;omega
  · show (ss.getD p none=none∧ss.getD p none=none)∨ss.getD p none=some 0∨ss.getD p none=some 1
    by_cases h:p < ss.length
    · have:=os _ (List.getElem_mem h)
      rw [show ss.getD p none=ss[p] by simp [List.getD,h]]
      rcases this with e|e|e
      · exact .inl ⟨e,e⟩
      · exact .inr (.inl e)
      · exact .inr (.inr e)
    · left;simp [List.getD,List.getElem?_eq_none (show ss.length≤p by omega)]
theorem oM {α : Type}{a b:List α}{d : α}{i:Nat}(h:i < a.length):(a++b).getD i d=a.getD i d:=by
  rw [ZF,ZC h,← ZF]
theorem mf {α : Type}{a b:List α}{d : α}{i:Nat}(h:a.length≤i):(a++b).getD i d=b.getD (i - a.length) d:=by
  rw [ZF,ZD h,← ZF]
theorem vv (O:MOk M){s:List Int}(B:kR s)(i:Nat):∀ k,aV (((List.range k).filter fun o=>decide (0 < M i o)).map fun o=>(o,2 * M i o)) s=2 * gZ (fun j=>M i j * s.getD j 0) k
  | 0=>rfl
  | k + 1=>by
    rw [List.range_succ,List.filter_append,ZR,qc,vv O B i k,gZ,Int.mul_add]
    congr 1
    have b:=(O.bd i k).1
    by_cases c:0 < M i k
    · rw [List.filter_cons,if_pos (decide_eq_true c),List.filter_nil,List.map_cons,List.map_nil,dr]
      rcases B k with e|e
      · rw [e];simp [aV,eJ]
      · rw [e];simp [aV,eJ]
    · have z:M i k=0:=by omega
      rw [List.filter_cons,if_neg (by simp [c]),z]
      simp [aV,eJ]
theorem nW (O:MOk M)(L:LP n M n 0 T){s:List Int}(B:kR s){i:Nat}(hi:i < n):aV (qe n M i n) s=s.getD i 0 + 2 * aV (nbs T i) s:=by
  unfold qe
  rw [dr,vv O B,ve L B hi]
  rcases B i with e|e
  · simp only [e];simp
  · simp only [e];simp
theorem tJ {r:List (Nat × Int)}{s t:List Int}(h:∀ q∈r,s.getD q.1 0=t.getD q.1 0):aV r s=aV r t:=by
  rw [dZ,dZ]
  congr 1
  exact List.map_congr_left fun q hq=>by rw [h q hq]
theorem tK {s a:List Int}(la:a.length=n)(r:List (Nat × Int)):aV (k8 n r) (a++s)=aV r s:=by
  rw [dZ,dZ]
  unfold k8
  rw [List.map_map]
  congr 1
  refine List.map_congr_left fun q _ => ?_
  show (if (a++s).getD (q.1 + n) 0=1 then q.2 else 0)=_
  rw [mf (by omega),la,Nat.add_sub_cancel]
theorem Ct {P b s:Int}(hs:s=0∨s=1):(if 2 * (s + 2 * P)=2 * b + 1 then x else if 2 * b + 1 < 2 * (s + 2 * P) then (1:Int) else 0)=if 2 * P=b then s else if b < 2 * P then 1 else 0:=by
  rcases hs with rfl|rfl
  · rw [if_neg (by omega)]
    by_cases c:b < 2 * P
    · rw [if_pos (by omega),if_neg (by omega),if_pos c]
    · rw [if_neg (by omega)]
      by_cases d:2 * P=b
      · rw [if_pos d]
      · rw [if_neg d,if_neg c]
  · rw [if_neg (by omega)]
    by_cases d:2 * P=b
    · rw [if_pos (by omega),if_pos d]
    · rw [if_neg d]
      by_cases c:b < 2 * P
      · rw [if_pos (by omega),if_pos c]
      · rw [if_neg (by omega),if_neg c]
theorem vw {α : Type}{l:List α}{d : α}(ll:l.length=n){p:Nat}:(l++l).getD p d=if p < n then l.getD p d else l.getD (p - n) d:=by
  split
  · rw [oM (by omega)]
  · rw [mf (by omega),ll]
theorem Cu (n15:n≤15)(O:MOk M)(L:LP n M n 0 T)(ok:TOk (2 * n) (2 * n) 0 (cQ n T n))(lb:bs.length=n)(ls:ss.length=n){a b:List Int}(la:a.length=n)(lB:b.length=n)(Ba:kR a)(Bb:kR b) :
    aB (kw n T bs ss) (2 * n) (a++b)=aB (bH n T bs ss) n b++aB (bH n T bs ss) n a:=by
  have lt1:(aB (bH n T bs ss) n b).length=n:=by simp [aB]
  have lt2:(aB (bH n T bs ss) n a).length=n:=by simp [aB]
  have ld:(ff bs).length=n:=by unfold ff;rw [ZA,lb]
  have nx:∀ p,p < 2 * n→bW (kw n T bs ss) (a++b) p=if p < n then bW (bH n T bs ss) b p else bW (bH n T bs ss) a (p - n):=fun p hp=>by
    have row:(kw n T bs ss).ties.getD p [] = ca (vj n M p):=by
      rw [ZF,show (kw n T bs ss).ties[p]? = some (ca (nbs (cQ n T n) p)) from oJ hp,zz O L ok p hp];rfl
    have bar:(kw n T bs ss).bars.getD p 0=(ff bs++ff bs).getD p 0:=rfl
    have sty:(kw n T bs ss).stays.getD p none=(ss++ss).getD p none:=rfl
    rw [vw ld] at bar
    rw [vw ls] at sty
    have bd:∀ q,q < n→(ff bs).getD q 0=2 * bs.getD q 0 + 1:=fun q hq=>by
      unfold ff
      rw [ZF,ZQ,ZF,ZE (by omega)];rfl
    have key:∀ (q:Nat) (s:List Int) (x:Int),q < n→kR s→aV (vj n M p) (a++b)=s.getD q 0 + 2 * aV (nbs T q) s→(kw n T bs ss).bars.getD p 0=2 * bs.getD q 0 + 1→(kw n T bs ss).stays.getD p none=ss.getD q none→bW (kw n T bs ss) (a++b) p=bW (bH n T bs ss) s q:=fun q s x hq B h1 h2 h3=>by
      have row2:(bH n T bs ss).ties.getD q [] = ca (nbs T q):=by
        rw [ZF,oJ hq];rfl
      unfold bW
      rw [h3]
      show (match ss.getD q none with|some x=>x|none=>_)=(match ss.getD q none with|some x=>x|none=>_)
      cases ss.getD q none with
      | some z=>rfl
      | none =>
        show (if 2 * aV ((kw n T bs ss).ties.getD p []) (a++b)=(kw n T bs ss).bars.getD p 0 then _ else if (kw n T bs ss).bars.getD p 0 < 2 * aV ((kw n T bs ss).ties.getD p []) (a++b) then (1:Int) else 0)=if 2 * aV ((bH n T bs ss).ties.getD q []) s=bs.getD q 0 then s.getD q 0 else if bs.getD q 0 < 2 * aV ((bH n T bs ss).ties.getD q []) s then 1 else 0
        rw [row,row2,jS,jS,h1,h2]
        exact Ct (B q)
    by_cases c:p < n
    · rw [if_pos c] at bar sty ⊢
      refine key p b 0 c Bb ?_ (by rw [bar,bd p c]) sty
      rw [show vj n M p=k8 n (qe n M p n) from if_pos c,tK la,nW O L Bb c]
    · rw [if_neg c] at bar sty ⊢
      have hq:p - n < n:=by omega
      refine key (p - n) a 0 hq Ba ?_ (by rw [bar,bd _ hq]) sty
      rw [show vj n M p=qe n M (p - n) n from if_neg c,← nW O L Ba hq]
      refine tJ fun q hq' => ?_
      have:q.1 < n:=by
        rcases jZ.mp (show (q.1,q.2)∈qe n M (p - n) n from hq') with ⟨e,_⟩|⟨e,_⟩
        · omega
        · exact e
      rw [oM (by omega)]
  apply List.ext_getElem?
  intro i
  unfold aB
  by_cases hi:i < 2 * n
  · rw [ZQ,List.getElem?_range hi,Option.map_some,nx i hi]
    by_cases c:i < n
    · rw [ZC (by simpa using c),if_pos c,ZQ,List.getElem?_range c];rfl
    · rw [ZD (by simp;omega),if_neg c,ZA,ZO,ZQ,List.getElem?_range (by omega)];rfl
  · rw [List.getElem?_eq_none (by simp;omega),List.getElem?_eq_none (by simp;omega)]
end
end Fm
namespace Fm
structure Dbl (w d:Web) (n:Nat) (lo hi lo2 hi2:List Int):Prop where
  G:G23 w n lo hi
  G2:G23 d (2 * n) lo2 hi2
  st:d.stays=w.stays++w.stays
  tu:∀ a b,ce w n a→ce w n b→aB d (2 * n) (a++b)=aB w n b++aB w n a
section
variable {w d:Web} {n:Nat} {lo hi lo2 hi2:List Int}
theorem Dbl.fit (H:Dbl w d n lo hi lo2 hi2){a b:List Int}(Fa:ce w n a)(Fb:ce w n b):ce d (2 * n) (a++b):=by
  refine⟨by rw [ZB,Fa.len,Fb.len];omega,fun x hx=>(List.mem_append.mp hx).elim (Fa.op x) (Fb.op x),fun i x e => ?_⟩
  rw [H.st] at e
  have ls:=H.G.W.s
  by_cases c:i < n
  · rw [ZC (by omega)] at e
    rw [ZC (by rw [Fa.len];exact c)]
    exact Fa.st i x e
  · rw [ZD (by omega)] at e
    rw [ZD (by rw [Fa.len];omega),Fa.len]
    rw [ls] at e
    exact Fb.st _ x e
theorem Dbl.halves (H:Dbl w d n lo hi lo2 hi2){s:List Int}(F:ce d (2 * n) s):∃ a b,s=a++b∧a=s.take n∧b=s.drop n∧ce w n a∧ce w n b:=by
  have ls:=H.G.W.s
  have l:=F.len
  refine⟨s.take n,s.drop n,(List.take_append_drop n s).symm,rfl,rfl,⟨by rw [List.length_take];omega,fun x hx=>F.op x (List.mem_of_mem_take hx),fun i x e => ?_⟩,⟨by rw [List.length_drop];omega,fun x hx=>F.op x (List.mem_of_mem_drop hx),fun i x e => ?_⟩⟩
  · have hi:i < n:=by rw [← ls];exact (List.getElem?_eq_some_iff.mp e).1
    rw [List.getElem?_take_of_lt hi]
    refine F.st i x ?_
    rw [H.st,ZC (by omega)]
    exact e
  · rw [List.getElem?_drop]
    refine F.st (n + i) x ?_
    rw [H.st,ZD (by omega),ls,Nat.add_sub_cancel_left]
    exact e
theorem jh {a b c e:List Int}(l:a.length=c.length)(h:a++b=c++e):a=c∧b=e:=List.append_inj h l
def dm (d:Web) (n:Nat):List (List Int):=(fI d.stays).filter (isR d (2 * n))
def iG (w:Web) (n:Nat):List (List Int):=(fI w.stays).filter (isR w n)
def iH (w:Web) (n:Nat):List (List Int):=(fI w.stays).filter (isP w n)
theorem gR {n:Nat}{w:Web}{lo hi:List Int}(G:G23 w n lo hi)(s:List Int):s∈fI w.stays ↔ ce w n s:=tI G.W rfl G.W.s G.S s
theorem tL {n:Nat}{w:Web}{lo hi:List Int}(G:G23 w n lo hi):(fI w.stays).Nodup:=by
  have:=vm G.S w.stays.length (ZL _)
  rw [List.take_length] at this
  exact this.imp fun {a b} h e=>h (by rw [e];exact LeS.refl _)
theorem vx (G:G23 w n lo hi)(s:List Int):s∈iG w n ↔ ce w n s∧aB w n s=s:=by
  unfold iG
  rw [List.mem_filter,gR G]
  exact and_congr_right fun _=>by unfold isR;exact decide_eq_true_iff
theorem vy (G:G23 w n lo hi)(s:List Int):s∈iH w n ↔ ce w n s∧lexLt s (aB w n s)=true∧aB w n (aB w n s)=s:=by
  unfold iH
  rw [List.mem_filter,gR G]
  exact and_congr_right fun _=>by unfold isP;rw [Bool.and_eq_true,decide_eq_true_iff]
theorem Dbl.mem (H:Dbl w d n lo hi lo2 hi2)(s:List Int):s∈dm d n ↔ ∃ a,s=a++aB w n a∧ce w n a∧aB w n (aB w n a)=a:=by
  have tf:∀ {a},ce w n a→ce w n (aB w n a):=fun F=>dB H.G.W H.G.S F
  unfold dm
  rw [List.mem_filter,gR H.G2]
  constructor
  · rintro⟨F,e⟩
    have e:aB d (2 * n) s=s:=of_decide_eq_true e
    obtain⟨a,b,hs,_,_,Fa,Fb⟩:=H.halves F
    rw [hs,H.tu a b Fa Fb] at e
    obtain⟨e1,e2⟩:=jh (by rw [(tf Fb).len,Fa.len]) e
    exact⟨a,by rw [hs,e2],Fa,by rw [e2,e1]⟩
  · rintro⟨a,rfl,Fa,e⟩
    exact⟨H.fit Fa (tf Fa),decide_eq_true (by rw [H.tu _ _ Fa (tf Fa),e])⟩
theorem Dbl.told_nd (H:Dbl w d n lo hi lo2 hi2):(dm d n).Nodup:=(tL H.G2).sublist List.filter_sublist
theorem xm {α β : Type}{f : α → β}{l:List α}(h:l.Nodup)(inj:∀ a∈l,∀ b∈l,f a=f b→a=b):(l.map f).Nodup:=by
  rw [List.nodup_iff_pairwise_ne,List.pairwise_map]
  exact (List.nodup_iff_pairwise_ne.mp h).imp_of_mem fun {a b} ha hb ne e=>ne (inj a ha b hb e)
theorem Dbl.count (H:Dbl w d n lo hi lo2 hi2):(dm d n).length=(iG w n).length + 2 * (iH w n).length:=by
  have tf:∀ {a},ce w n a→ce w n (aB w n a):=fun F=>dB H.G.W H.G.S F
  have C:=vx H.G
  have S:=vy H.G
  have ndC:(iG w n).Nodup:=(tL H.G).sublist List.filter_sublist
  have ndS:(iH w n).Nodup:=(tL H.G).sublist List.filter_sublist
  have p:(dm d n).Perm ((iG w n).map (fun a=>a++a)++((iH w n).map (fun a=>a++aB w n a)++(iH w n).map (fun a=>aB w n a++a))):=by
    refine (List.perm_ext_iff_of_nodup H.told_nd ?_).mpr fun s => ?_
    · rw [List.nodup_append]
      refine⟨xm ndC fun a ha b hb e=>(jh (by rw [((C a).mp ha).1.len,((C b).mp hb).1.len]) e).1,?_,fun x hx y hy e => ?_⟩
      · rw [List.nodup_append]
        refine⟨xm ndS fun a ha b hb e=>(jh (by rw [((S a).mp ha).1.len,((S b).mp hb).1.len]) e).1,xm ndS fun a ha b hb e=>(jh (by rw [(tf ((S a).mp ha).1).len,(tf ((S b).mp hb).1).len]) e).2,fun x hx y hy e => ?_⟩
        obtain⟨a,ha,rfl⟩:=List.mem_map.mp hx
        obtain⟨b,hb,rfl⟩:=List.mem_map.mp hy
        obtain⟨e1,e2⟩:=jh (by rw [((S a).mp ha).1.len,(tf ((S b).mp hb).1).len]) e
        have l1:=((S a).mp ha).2.1
        have l2:=((S b).mp hb).2.1
        rw [e2,e1] at l1
        rw [jH l1] at l2
        cases l2
      · obtain⟨a,ha,rfl⟩:=List.mem_map.mp hx
        have Fa:=((C a).mp ha).1
        rcases List.mem_append.mp hy with hy|hy
        · obtain⟨b,hb,rfl⟩:=List.mem_map.mp hy
          obtain⟨e1,e2⟩:=jh (by rw [Fa.len,((S b).mp hb).1.len]) e
          have l:=((S b).mp hb).2.1
          rw [← e1,← show a=aB w n a from ((C a).mp ha).2.symm,gg] at l
          cases l
        · obtain⟨b,hb,rfl⟩:=List.mem_map.mp hy
          obtain⟨e1,e2⟩:=jh (by rw [Fa.len,(tf ((S b).mp hb).1).len]) e
          have l:=((S b).mp hb).2.1
          rw [← e1,← e2,gg] at l
          cases l
    · rw [H.mem,List.mem_append,List.mem_append,List.mem_map,List.mem_map,List.mem_map]
      constructor
      · rintro⟨a,rfl,Fa,e⟩
        by_cases c:aB w n a=a
        · exact .inl ⟨a,(C a).mpr ⟨Fa,c⟩,by rw [c]⟩
        · cases c2:lexLt a (aB w n a) with
          | true=>exact .inr (.inl ⟨a,(S a).mpr ⟨Fa,c2,e⟩,rfl⟩)
          | false=>exact .inr (.inr ⟨aB w n a,(S _).mpr ⟨tf Fa,by rw [e];exact kh (Ne.symm c) c2,by rw [e]⟩,by rw [e]⟩)
      · rintro (⟨a,ha,rfl⟩|⟨a,ha,rfl⟩|⟨a,ha,rfl⟩)
        · obtain⟨F,e⟩:=(C a).mp ha
          exact⟨a,by rw [e],F,by rw [e,e]⟩
        · obtain⟨F,_,e⟩:=(S a).mp ha
          exact⟨a,rfl,F,e⟩
        · obtain⟨F,_,e⟩:=(S a).mp ha
          exact⟨aB w n a,by rw [e],tf F,by rw [e]⟩
  rw [p.length_eq,ZB,ZB,ZA,ZA,ZA]
  omega
theorem Cv {a b c e:List Int}(l:a.length=c.length)(h1:LeS a c)(h2:LeS b e):LeS (a++b) (c++e):=fun i=>by
  by_cases q:i < a.length
  · rw [oM q,oM (by omega)];exact h1 i
  · rw [mf (by omega),mf (by omega),l];exact h2 _
theorem Dbl.low (H:Dbl w d n lo hi lo2 hi2):lo2=lo++lo:=by
  have m1:lo++lo∈dm d n:=(H.mem _).mpr ⟨lo,by rw [H.G.loR],H.G.loF,by rw [H.G.loR,H.G.loR]⟩
  have m2:lo2∈dm d n:=by
    unfold dm
    rw [List.mem_filter,gR H.G2]
    exact⟨H.G2.loF,decide_eq_true H.G2.loR⟩
  have F:=H.fit H.G.loF H.G.loF
  have r:aB d (2 * n) (lo++lo)=lo++lo:=by rw [H.tu _ _ H.G.loF H.G.loF,H.G.loR]
  refine LeS.eq (by rw [H.G2.loF.len,F.len]) (H.G2.mid _ F (by rw [r,r])).1 ?_
  obtain⟨a,e,Fa,ea⟩:=(H.mem _).mp m2
  have Fb:=dB H.G.W H.G.S Fa
  rw [e]
  exact Cv (by rw [H.G.loF.len,Fa.len]) (H.G.mid a Fa ea).1 (H.G.mid _ Fb (by rw [ea])).1
theorem Dbl.high (H:Dbl w d n lo hi lo2 hi2):hi2=hi++hi:=by
  have m2:hi2∈dm d n:=by
    unfold dm
    rw [List.mem_filter,gR H.G2]
    exact⟨H.G2.hiF,decide_eq_true H.G2.hiR⟩
  have F:=H.fit H.G.hiF H.G.hiF
  have r:aB d (2 * n) (hi++hi)=hi++hi:=by rw [H.tu _ _ H.G.hiF H.G.hiF,H.G.hiR]
  refine LeS.eq (by rw [H.G2.hiF.len,F.len]) ?_ (H.G2.mid _ F (by rw [r,r])).2
  obtain⟨a,e,Fa,ea⟩:=(H.mem _).mp m2
  have Fb:=dB H.G.W H.G.S Fa
  rw [e]
  exact Cv (by rw [H.G.hiF.len,Fa.len]) (H.G.mid a Fa ea).2 (H.G.mid _ Fb (by rw [ea])).2
end
end Fm
namespace Fm
section
variable {Z n:Nat} {M:Nat→Nat→Int} {bs:List Int} {ss:List (Option Int)} {bk sk:Nat} {h:Hd}
theorem zL (m:Md Z n M bs ss bk sk h){l:List Int}(ll:l.length=n) :
    eP [.tup [.ref (Z + n),.ref bk,.ref sk],af l] h=.ok (af (vf ss l)) h:=by
  have n30:=m.n30
  obtain⟨td,htd⟩ : ∃ td:D,td=.tup [.ref (Z + n),.ref bk,.ref sk]:=⟨_,rfl⟩
  obtain⟨A,hA⟩ : ∃ A,A=h.length:=⟨_,rfl⟩
  obtain⟨f,hf⟩ : ∃ f:Nat→Int,f=fun i=>(ss.getD i none).getD (l.getD i 0):=⟨_,rfl⟩
  obtain⟨σ',h',k1,x3,k2,k3⟩:=bE (P:=fun i σ h'=>∃ (a:Option D),σ = [some td,some (af l),some (.ref A),a]∧h'=h++[.lst (((List.range i).map f).map .int)]) (g:=none) (k:=0)
      (all:=(List.range n).map fun k:Nat=>D.int k) (fun _ _ _ _=>trivial)
      (xs:=(List.range n).map fun k:Nat=>D.int k) (tg:=gN 3) (σ:=[some td,some (af l),some (.ref A),none]) (h:=h++[.lst []]) (b:=iZ) (by
      rintro i x σ h0 hx ⟨a,rfl,hh0⟩
      obtain⟨hi,rfl⟩:=cF hx
      rw [Nat.zero_add] at hh0 ⊢
      have m0:Md Z n M bs ss bk sk h0:=by rw [hh0];exact m.more _
      have l3:i < ss.length:=by rw [m.ls];exact hi
      have v2:=lI (l:=l) (i:=i) (ll ▸ hi)
      have v4:atI (ss.map bN) (i:Int)=some (bN (ss.getD i none)):=by rw [gm l3];simp [List.getD,l3]
      have fi:f i=(ss.getD i none).getD (l.getD i 0):=by rw [hf]
      generalize l.getD i 0=x at v2 fi
      generalize ss.getD i none=u at v4 fi
      have gA:h0[A]? = some (.lst (((List.range i).map f).map .int)):=by rw [hh0];exact dv hA _
      have lz:(((List.range i).map f).map D.int).length < SZ:=by rw [ZA,ZA,ZO];exact Nat.lt_trans hi (ZS n30 (by decide))
      have st1:h0.set A (.lst (((List.range i).map f).map .int++[.int x]))=h++[.lst (((List.range i).map f++[x]).map .int)]:=by rw [hh0,iW hA,ZR];rfl
      have s1:gX (kr (aa 2) (fAt (aa 1) (aa 3))) [some td,some (af l),some (.ref A),some (.int i)] h0=.nx [some td,some (af l),some (.ref A),some (.int i)] (h++[.lst (((List.range i).map f++[x]).map .int)]):=by
        rw [← st1]
        exact gE (kQ rfl gA (aP rfl rfl rfl v2) gA lz)
      obtain⟨h1,hh1⟩ : ∃ h1,h1=h++[du.lst (((List.range i).map f++[x]).map .int)]:=⟨_,rfl⟩
      have m1:Md Z n M bs ss bk sk h1:=by rw [hh1];exact m.more _
      have f2:fAt (fAt (aa 0) (fC (.int 2))) (aa 3) [some td,some (af l),some (.ref A),some (.int i)] h1=.ok (bN u) h1:=by
        have st:=m1.st
        rw [htd]
        exact aP (aP rfl rfl rfl rfl) rfl (aJ st) v4
      have g1:h1[A]? = some (.lst (((List.range i).map f++[x]).map .int)):=by rw [hh1];exact dv hA _
      have s2:sIf (tE (ah fZ (fAt (fAt (aa 0) (fC (.int 2))) (aa 3)) (fC .non))) (kH (aa 2) (aa 3) (fAt (fAt (aa 0) (fC (.int 2))) (aa 3))) bw [some td,some (af l),some (.ref A),some (.int i)] h1=.nx [some td,some (af l),some (.ref A),some (.int i)] (h++[.lst (((List.range (i + 1)).map f).map .int)]):=by
        have lst:((List.range i).map f).length=i:=by simp
        cases u with
        | none =>
          have e:h1=h++[.lst (((List.range (i + 1)).map f).map .int)]:=by rw [hh1,List.range_succ];simp [fi]
          rw [← e]
          exact d9 (bn (aq f2 rfl rfl))
        | some z =>
          have ix:ixN (((List.range i).map f++[x]).map D.int).length (i:Int)=some i:=lM (by rw [ZA,ZB,lst];exact Nat.lt_succ_self _)
          have e:h1.set A (.lst ((((List.range i).map f++[x]).map .int).set i (.int z)))=h++[.lst (((List.range (i + 1)).map f).map .int)]:=by
            have z':f i=z:=fi
            rw [hh1,hA,List.range_succ]
            simp [z',List.set_append_right]
          rw [← e]
          exact (pL (bn (aq f2 rfl rfl))).trans (mH f2 rfl rfl g1 ix)
      refine⟨_,rfl,[some td,some (af l),some (.ref A),some (.int i)],_,?_,_,rfl,rfl⟩
      show aA _ _ [some td,some (af l),some (.ref A),some (.int i)] h0=_
      rw [aE s1,← hh1,s2]) ⟨none,rfl,by simp⟩
  have e0:0 + ((List.range n).map fun k:Nat=>D.int k).length=n:=by simp
  rw [e0] at k3
  have s1:aD (gN 2) (bL ar) [some td,some (af l),none,none] h=.nx [some td,some (af l),some (.ref A),none] (h++[.lst []]):=aH (hV hA rfl (Nat.zero_le _))
  have s2:dA (bi (cz (lOf (aa 1)))) (gN 3) iZ [some td,some (af l),some (.ref A),none] (h++[.lst []])=.nx [some td,some (af l),some (.ref A),x3] (h++[.lst ((vf ss l).map .int)]):=by
    rw [k2,k3] at k1
    have ln:cz (lOf (aa 1)) [some td,some (af l),some (.ref A),none] (h++[.lst []])=.ok (.int n) (h++[.lst []]):=by
      exact (dF (bU rfl rfl)).trans (by rw [ZA,ll])
    exact (c9 (cv ln (gY n30)) k1).trans (by rw [vf,ll,hf])
  have s3:bc (er (lOf (aa 2))) [some td,some (af l),some (.ref A),x3] (h++[.lst ((vf ss l).map .int)])=.rt (af (vf ss l)) (h++[.lst ((vf ss l).map .int)]):=by
    exact bh (iV (bU rfl (aJ (dv hA _))))
  have st:([td,af l].map some++List.replicate (4 - [td,af l].length) none:Sd)=[some td,some (af l),none,none]:=rfl
  rw [← htd]
  unfold eP bB runB
  rw [if_pos (by rfl),st,aE s1,aE s2,s3]
  exact cO (kl _)
theorem zM {w:Web}{s:List Int}(F:ce w n s)(st:w.stays=ss):vf ss s=s:=by
  apply List.ext_getElem?
  intro i
  unfold vf
  by_cases hi:i < s.length
  · rw [ZQ,List.getElem?_range hi,Option.map_some]
    cases e:ss[i]? with
    | none=>rw [ZF,e];simp [hi]
    | some o =>
      rw [ZF,e]
      cases o with
      | none=>simp [hi]
      | some x=>rw [F.st i x (by rw [st];exact e)];rfl
  · rw [List.getElem?_eq_none (by simp;omega),List.getElem?_eq_none (by omega)]
def clp (M:Nat→Nat→Int):Nat→Nat→Int:=fun i j=>min 200 (M i j)
theorem GM (O:MOk M):MOk (clp M):=⟨fun i j=>by unfold clp;rw [O.sym],fun i j=>by have:=O.bd i j;unfold clp;omega,fun i=>by unfold clp;rw [O.no];rfl⟩
def iI (M:Nat→Nat→Int) (a b:Nat):Nat→Nat→Int:=fun i j=>if i < a∨i=a∧j < b then clp M i j else M i j
noncomputable abbrev XL (S0 td:D) (a2 a3:Option D):Sd:=[some S0,some td,a2,a3,none,none,none,none,none,none,none,none]
theorem fH.congr {A n:Nat}{M M':Nat→Nat→Int}{h:Hd}(m:fH A n M h)(e:∀ i j,i < n→j < n→M i j=M' i j):fH A n M' h :=
  ⟨fun i hi=>by
    rw [m.ro i hi]
    congr 3
    unfold eE
    exact List.map_congr_left fun j hj=>e i j hi (List.mem_range.mp hj),m.ti⟩
structure Cut (n:Nat) (M:Nat→Nat→Int) (bs:List Int) (ss:List (Option Int)) (bk sk:Nat) (h:Hd):Prop where
  mt:fH 0 n M h
  ba:h[bk]? = some (.lst (bs.map .int))
  st:h[sk]? = some (.lst (ss.map bN))
theorem Cw {S0 td:D}(htd:td=.tup [.ref (0 + n),.ref bk,.ref sk])(hb:n < bk)(hs:n < sk){one oth:Nat}(h1:one < n)(h2:oth < n)(c:Cut n (iI M one oth) bs ss bk sk h) :
    ∃ h',wK (XL S0 td (some (.int one)) (some (.int oth))) h=.nx (XL S0 td (some (.int one)) (some (.int oth))) h'∧Cut n (iI M one (oth + 1)) bs ss bk sk h':=by
  have a0:fAt (aa 1) (fC (.int 0)) (XL S0 td (some (.int one)) (some (.int oth))) h=.ok (.ref (0 + n)) h:=by rw [htd];exact aP rfl rfl rfl rfl
  have a1:fAt (fAt (aa 1) (fC (.int 0))) (aa 2) (XL S0 td (some (.int one)) (some (.int oth))) h=.ok (.ref (0 + one)) h:=aP a0 rfl (aJ c.mt.ti) (vc h1)
  have r:=c.mt.ro one h1
  have v:atI ((eE (iI M one oth) n one).map D.int) (oth:Int)=some (.int (M one oth)):=by
    rw [gm (show oth < (eE (iI M one oth) n one).length by simp [eE,h2])]
    simp [eE,h2,iI]
  have a2:fAt (fAt (fAt (aa 1) (fC (.int 0))) (aa 2)) (aa 3) (XL S0 td (some (.int one)) (some (.int oth))) h=.ok (.int (M one oth)) h:=aP a1 rfl (aJ r) v
  have mn:yT (fC (.int 200)) (fAt (fAt (fAt (aa 1) (fC (.int 0))) (aa 2)) (aa 3)) (XL S0 td (some (.int one)) (some (.int oth))) h=.ok (.int (min 200 (M one oth))) h:=by
    refine (Gw rfl a2).trans ?_
    congr 2
    split<;>omega
  refine⟨_,mH mn a1 rfl r (lM (by simp [eE,h2])),?_⟩
  have p:=c.mt.put (b:=oth) h1 (min 200 (M one oth))
  refine⟨p.congr fun i j hi hj => ?_,by rw [ZP (by omega)];exact c.ba,by rw [ZP (by omega)];exact c.st⟩
  unfold lY iI clp
  by_cases e:i=one∧j=oth
  · rw [if_pos e,if_pos (by omega),e.1,e.2]
  · rw [if_neg e]
    by_cases q:i < one∨i=one∧j < oth
    · rw [if_pos q,if_pos (by omega)]
    · rw [if_neg q,if_neg (by omega)]
theorem GN {S0 td:D}(htd:td=.tup [.ref (0 + n),.ref bk,.ref sk])(n30:n≤30)(lb:bs.length=n)(hb:n < bk)(hs:n < sk){one:Nat}(h1:one < n)(c:Cut n (iI M one 0) bs ss bk sk h)(a3:Option D) :
    ∃ h' a,wL (XL S0 td (some (.int one)) a3) h=.nx (XL S0 td (some (.int one)) a) h'∧Cut n (iI M (one + 1) 0) bs ss bk sk h':=by
  obtain⟨σ',h',k1,a,k2,k3⟩:=bE (P:=fun i σ h'=>∃ a,σ = XL S0 td (some (.int one)) a∧Cut n (iI M one i) bs ss bk sk h') (g:=none) (k:=0) (all:=(List.range n).map fun k:Nat=>D.int k) (fun _ _ _ _=>trivial)
    (xs:=(List.range n).map fun k:Nat=>D.int k) (tg:=gN 3) (σ:=XL S0 td (some (.int one)) a3) (h:=h) (b:=wK) (by
      rintro i x σ h0 hx ⟨a,rfl,c0⟩
      obtain⟨hi,rfl⟩:=cF hx
      rw [Nat.zero_add] at c0 ⊢
      obtain⟨h',q,c'⟩:=Cw (S0:=S0) htd hb hs h1 hi c0
      exact⟨_,rfl,_,_,q,_,rfl,c'⟩) ⟨_,rfl,c⟩
  have e0:0 + ((List.range n).map fun k:Nat=>D.int k).length=n:=by simp
  rw [e0] at k3
  rw [k2] at k1
  have a1:fAt (aa 1) (fC (.int 1)) (XL S0 td (some (.int one)) a3) h=.ok (.ref bk) h:=by rw [htd];exact aP rfl rfl rfl rfl
  have ln:cz (lOf (fAt (aa 1) (fC (.int 1)))) (XL S0 td (some (.int one)) a3) h=.ok (.int n) h:=by
    have:=dF (bU a1 (aJ c.ba))
    rwa [ZA,lb] at this
  refine⟨h',a,c9 (cv ln (gY n30)) k1,k3.mt.congr fun i j hi hj => ?_,k3.ba,k3.st⟩
  unfold iI
  by_cases q:i < one∨i=one∧j < n
  · rw [if_pos q,if_pos (by omega)]
  · rw [if_neg q,if_neg (by omega)]
theorem Ei {S0 td:D}(htd:td=.tup [.ref (0 + n),.ref bk,.ref sk])(n30:n≤30)(lb:bs.length=n)(hb:n < bk)(hs:n < sk)(c:Cut n M bs ss bk sk h) :
    ∃ h' a2 a3,BR (XL S0 td none none) h=.nx (XL S0 td a2 a3) h'∧Cut n (clp M) bs ss bk sk h':=by
  obtain⟨σ',h',k1,a2,a3,k2,k3⟩:=bE (P:=fun i σ h'=>∃ a2 a3,σ = XL S0 td a2 a3∧Cut n (iI M i 0) bs ss bk sk h') (g:=none) (k:=0) (all:=(List.range n).map fun k:Nat=>D.int k) (fun _ _ _ _=>trivial)
    (xs:=(List.range n).map fun k:Nat=>D.int k) (tg:=gN 2) (σ:=XL S0 td none none) (h:=h) (b:=wL) (by
      rintro i x σ h0 hx ⟨a2,a3,rfl,c0⟩
      obtain⟨hi,rfl⟩:=cF hx
      rw [Nat.zero_add] at c0 ⊢
      obtain⟨h',a,q,c'⟩:=GN (S0:=S0) htd n30 lb hb hs hi c0 a3
      exact⟨_,rfl,_,_,q,_,_,rfl,c'⟩) ⟨_,_,rfl,⟨c.mt.congr fun i j _ _=>by unfold iI;rw [if_neg (by omega)],c.ba,c.st⟩⟩
  have e0:0 + ((List.range n).map fun k:Nat=>D.int k).length=n:=by simp
  rw [e0] at k3
  rw [k2] at k1
  have a1:fAt (aa 1) (fC (.int 1)) (XL S0 td none none) h=.ok (.ref bk) h:=by rw [htd];exact aP rfl rfl rfl rfl
  have ln:cz (lOf (fAt (aa 1) (fC (.int 1)))) (XL S0 td none none) h=.ok (.int n) h:=by
    have:=dF (bU a1 (aJ c.ba))
    rwa [ZA,lb] at this
  exact⟨h',a2,a3,c9 (cv ln (gY n30)) k1,k3.mt.congr fun i j hi hj=>by unfold iI;rw [if_pos (by omega)],k3.ba,k3.st⟩
end
end Fm
namespace Fm
theorem GO {h:Hd}{K:Nat}{R:List (List Int)}{n:Nat}{U:List Int}(hK:h[K]? = some (.lst (R.map af)))(lR:∀ s∈R,s.length=n)(lU:U.length=n):inR h (af U) (.ref K)=some (decide (U∈R)):=by
  have r1:kG (R.map af)=some R:=jJ R
  have r2:kG [af U] = some [U]:=jJ [U]
  have c:∀ z∈R,z.length=U.length:=fun z hz=>by rw [lR z hz,lU]
  simp only [inR,fg,hK,r1,r2,if_pos c]
theorem xn {h:Hd}{K:Nat}{R:List (List Int)}{n:Nat}{U:List Int}(hK:h[K]? = some (.lst (R.map af)))(lR:∀ s∈R,s.length=n)(lU:U.length=n)(m:U∈R):iR (af U) (.ref K) h=.ok (.bl false) h:=by
  simp only [iR,GO hK lR lU,decide_eq_true m];rfl
theorem Ej {h:Hd}{K:Nat}{R:List (List Int)}{a:EF}{σ:Sd}(p:a σ h=.ok (.ref K) h)(hK:h[K]? = some (.lst (R.map af)))(nd:R.Nodup)(l:R.length < 1000):lH a σ h=.ok (.int (R.length:Nat)) h:=by
  have r1:kG (R.map af)=some R:=jJ R
  have l':(R.map af).length < 1000:=by rw [ZA];exact l
  simp only [lH,p,aG,fg,hK,r1,if_pos l',qC nd]
theorem iJ {a b:List Int}(la:a.length≤30)(lb:b.length≤30)(h:Hd):gn [af a,af b] h=.ok (af (a++b)) h:=by
  have:=Cl (a:=a.map D.int) (b:=b.map D.int) (by rw [ZA,ZA];exact ZM (Nat.add_le_add la lb) (by decide)) h
  rw [← ZR] at this
  exact this
section
variable {Z n:Nat} {M:Nat→Nat→Int} {bs:List Int} {ss:List (Option Int)} {bk sk:Nat} {T:List Tie} {w d:Web} {lo hi lo2 hi2:List Int} {S0 td:D}
noncomputable abbrev X29 (S0 td:D) (w d:Web) (a2 a3 a6 a7 a8 a9 a10 a11:Option D):Sd:=[some S0,some td,a2,a3,some w.enc,some d.enc,a6,a7,a8,a9,a10,a11]
structure All (Z n:Nat) (M:Nat→Nat→Int) (bs:List Int) (ss:List (Option Int)) (bk sk:Nat) (w d:Web) (td:D) (lo hi lo2 hi2:List Int):Prop where
  H:Dbl w d n lo hi lo2 hi2
  n1:1≤n
  n6:n≤6
  ft:∀ (h:Hd) (s:List Int),Md Z n M bs ss bk sk h→ce w n s→eP [td,af s] h=.ok (af s) h
  tq:∀ (h:Hd) (s:List Int),Md Z n M bs ss bk sk h→ce w n s→gL [td,af s] h=.ok (af (aB w n s)) h
theorem zN (Q:All Z n M bs ss bk sk w d td lo hi lo2 hi2){h:Hd}(m:Md Z n M bs ss bk sk h){a b:List Int}(Fa:ce w n a)(Fb:ce w n b)(e1:aB w n a=b)(e2:aB w n b=a)(a2 a3 a6 a8 a9 a10 a11:Option D) :
    wM (X29 S0 td w d a2 a3 a6 (some (af (a++b))) a8 a9 a10 a11) h=.nx (X29 S0 td w d (some (af a)) (some (af b)) a6 (some (af (a++b))) a8 a9 a10 a11) h:=by
  have ln:((a++b).map D.int).length=2 * n:=by rw [ZA,ZB,Fa.len,Fb.len];omega
  have hv:=zF ln Q.n1 h
  rw [← List.map_take,← List.map_drop,show (a++b).take n=a by rw [← Fa.len];simp,show (a++b).drop n=b by rw [← Fa.len];simp] at hv
  have s1:aD (gT [2,3]) (am iF (ad (aa 7) ar)) (X29 S0 td w d a2 a3 a6 (some (af (a++b))) a8 a9 a10 a11) h=.nx (X29 S0 td w d (some (af a)) (some (af b)) a6 (some (af (a++b))) a8 a9 a10 a11) h:=by
    have:am iF (ad (aa 7) ar) (X29 S0 td w d a2 a3 a6 (some (af (a++b))) a8 a9 a10 a11) h=.ok (.tup [af a,af b]) h:=av (aj rfl rfl) hv
    show outE _ _ _=_
    rw [this]
    rfl
  have t1:oNe (af a) (af a) h=.ok (.bl false) h:=by rw [oD rfl];simp
  have t2:oNe (af b) (af b) h=.ok (.bl false) h:=by rw [oD rfl];simp
  have q1:=Q.tq h a m Fa
  have q2:=Q.tq h b m Fb
  rw [e1] at q1
  rw [e2] at q2
  exact (bx s1).trans (d9 (jM (bn (aq (av (de rfl rfl) (Q.ft h a m Fa)) rfl t1)) (jM (bn (aq (av (de rfl rfl) q1) rfl t2)) (bn (aq (av (de rfl rfl) q2) rfl t1)))))
theorem zO (Q:All Z n M bs ss bk sk w d td lo hi lo2 hi2){h:Hd}(m:Md Z n M bs ss bk sk h){k:Nat}(hk:h[k]? = some (.lst ((dm d n).map af)))(a2 a3 a7 a8 a9 a10 a11:Option D) :
    ∃ b2 b3 b7,BV (X29 S0 td w d a2 a3 (some (.ref k)) a7 a8 a9 a10 a11) h=.nx (X29 S0 td w d b2 b3 (some (.ref k)) b7 a8 a9 a10 a11) h:=by
  obtain⟨σ',h',k1,b2,b3,b7,k2,k3⟩:=bE (P:=fun _ σ h'=>∃ b2 b3 b7,σ = X29 S0 td w d b2 b3 (some (.ref k)) b7 a8 a9 a10 a11∧h'=h) (g:=some k) (k:=0) (all:=(dm d n).map af) (fun i σ h' ⟨_,_,_,_,e⟩=>by show h'[k]? = _;rw [e];exact hk)
    (xs:=(dm d n).map af) (tg:=gN 7) (σ:=X29 S0 td w d a2 a3 (some (.ref k)) a7 a8 a9 a10 a11) (h:=h) (b:=wM) (by
      rintro i x σ h0 hx ⟨b2,b3,b7,rfl,rfl⟩
      rw [ZQ] at hx
      obtain⟨s,hs,rfl⟩:=Option.map_eq_some_iff.mp hx
      obtain⟨a,rfl,Fa,e⟩:=(Q.H.mem s).mp (ZK hs)
      exact⟨_,rfl,_,_,zN Q m Fa (dB Q.H.G.W Q.H.G.S Fa) rfl e _ _ _ _ _ _ _,_,_,_,rfl,rfl⟩) ⟨_,_,_,rfl,rfl⟩
  rw [k2,k3] at k1
  exact⟨b2,b3,b7,c9 (dR rfl hk) k1⟩
theorem zP (Q:All Z n M bs ss bk sk w d td lo hi lo2 hi2){h:Hd}{k c:Nat}(hk:h[k]? = some (.lst ((dm d n).map af)))(hc:h[c]? = some (.lst ((iG w n).map af)))(a2 a3 a7 a9 a10 a11:Option D) :
    ∃ b7,BZ (X29 S0 td w d a2 a3 (some (.ref k)) a7 (some (.ref c)) a9 a10 a11) h=.nx (X29 S0 td w d a2 a3 (some (.ref k)) b7 (some (.ref c)) a9 a10 a11) h:=by
  have lT:∀ s∈dm d n,s.length=2 * n:=fun s hs=>((gR Q.H.G2 s).mp (List.mem_filter.mp hs).1).len
  obtain⟨σ',h',k1,b7,k2,k3⟩:=bE (P:=fun _ σ h'=>∃ b7,σ = X29 S0 td w d a2 a3 (some (.ref k)) b7 (some (.ref c)) a9 a10 a11∧h'=h) (g:=some c) (k:=0) (all:=(iG w n).map af) (fun i σ h' ⟨_,_,e⟩=>by show h'[c]? = _;rw [e];exact hc)
    (xs:=(iG w n).map af) (tg:=gN 7) (σ:=X29 S0 td w d a2 a3 (some (.ref k)) a7 (some (.ref c)) a9 a10 a11) (h:=h) (b:=BY) (by
      rintro i x σ h0 hx ⟨b7,rfl,rfl⟩
      rw [ZQ] at hx
      obtain⟨s,hs,rfl⟩:=Option.map_eq_some_iff.mp hx
      obtain⟨F,e⟩:=(vx Q.H.G s).mp (ZK hs)
      have mm:s++s∈dm d n:=(Q.H.mem _).mpr ⟨s,by rw [e],F,by rw [e,e]⟩
      have l30:s.length≤30:=by rw [F.len];have:=Q.n6;omega
      exact⟨_,rfl,_,_,d9 (bn (aq (av (de rfl rfl) (iJ l30 l30 _)) rfl (xn hk lT (lT _ mm) mm))),_,rfl,rfl⟩) ⟨_,rfl,rfl⟩
  rw [k2,k3] at k1
  exact⟨b7,c9 (dR rfl hc) k1⟩
theorem zQ (Q:All Z n M bs ss bk sk w d td lo hi lo2 hi2){h:Hd}{k c:Nat}(hk:h[k]? = some (.lst ((dm d n).map af)))(hc:h[c]? = some (.lst ((iH w n).map (nA w n))))(a2 a3 a7 a8 a10 a11:Option D) :
    ∃ b2 b3,B3 (X29 S0 td w d a2 a3 (some (.ref k)) a7 a8 (some (.ref c)) a10 a11) h=.nx (X29 S0 td w d b2 b3 (some (.ref k)) a7 a8 (some (.ref c)) a10 a11) h:=by
  have lT:∀ s∈dm d n,s.length=2 * n:=fun s hs=>((gR Q.H.G2 s).mp (List.mem_filter.mp hs).1).len
  obtain⟨σ',h',k1,b2,b3,k2,k3⟩:=bE (P:=fun _ σ h'=>∃ b2 b3,σ = X29 S0 td w d b2 b3 (some (.ref k)) a7 a8 (some (.ref c)) a10 a11∧h'=h) (g:=some c) (k:=0) (all:=(iH w n).map (nA w n)) (fun i σ h' ⟨_,_,_,e⟩=>by show h'[c]? = _;rw [e];exact hc)
    (xs:=(iH w n).map (nA w n)) (tg:=gT [2,3]) (σ:=X29 S0 td w d a2 a3 (some (.ref k)) a7 a8 (some (.ref c)) a10 a11) (h:=h) (b:=B0) (by
      rintro i x σ h0 hx ⟨b2,b3,rfl,rfl⟩
      rw [ZQ] at hx
      obtain⟨s,hs,rfl⟩:=Option.map_eq_some_iff.mp hx
      obtain⟨F,_,e⟩:=(vy Q.H.G s).mp (ZK hs)
      have F2:=dB Q.H.G.W Q.H.G.S F
      have m1:s++aB w n s∈dm d n:=(Q.H.mem _).mpr ⟨s,rfl,F,e⟩
      have m2:aB w n s++s∈dm d n:=(Q.H.mem _).mpr ⟨aB w n s,by rw [e],F2,by rw [e]⟩
      have l1:s.length≤30:=by rw [F.len];have:=Q.n6;omega
      have l2:(aB w n s).length≤30:=by rw [F2.len];have:=Q.n6;omega
      exact⟨X29 S0 td w d (some (af s)) (some (af (aB w n s))) (some (.ref k)) a7 a8 (some (.ref c)) a10 a11,rfl,_,_,d9 (jM (bn (aq (av (de rfl rfl) (iJ l1 l2 _)) rfl (xn hk lT (lT _ m1) m1))) (bn (aq (av (de rfl rfl) (iJ l2 l1 _)) rfl (xn hk lT (lT _ m2) m2)))),_,_,rfl,rfl⟩) ⟨_,_,rfl,rfl⟩
  rw [k2,k3] at k1
  exact⟨b2,b3,c9 (dR rfl hc) k1⟩
end
end Fm
namespace Fm
theorem Cy {w d:Web}{n:Nat}{lo hi lo2 hi2:List Int}(H:Dbl w d n lo hi lo2 hi2)(n6:n≤6):(dm d n).length < 1000:=by
  have l1:=yp w.stays w.stays.length (ZL _)
  rw [List.take_length,H.G.W.s] at l1
  have l2:2 ^ n≤2 ^ 6:=Nat.pow_le_pow_right (by decide) n6
  have c:=H.count
  have a:(iG w n).length≤(fI w.stays).length:=List.length_filter_le _ _
  have b:(iH w n).length≤(fI w.stays).length:=List.length_filter_le _ _
  omega
theorem GP (ns:List Int)(hns:ns.length≤63):∃ h,yc [.lit (ns.map .int)] []=.ok (.bl true) h:=by
  obtain⟨n,M0,bs,ss,bk,sk,h0,P⟩:=Cd ns (mo:=6) (by decide) (by decide)
  have n30:=P.n30
  have n6:n≤6:=by have:=P.nmo;omega
  obtain⟨td,htd⟩ : ∃ td:D,td=.tup [.ref (0 + n),.ref bk,.ref sk]:=⟨_,rfl⟩
  obtain⟨S0,hS0⟩ : ∃ S0:D,S0=.lit (ns.map .int):=⟨_,rfl⟩
  have run:=P.run
  rw [← htd,← hS0] at run
  obtain⟨h1,a2,a3,e1,C⟩:=Ei (S0:=S0) htd n30 P.lb P.bkn P.skn ⟨P.mt,P.ba,P.st⟩
  obtain⟨M,hM⟩ : ∃ M,M=clp M0:=⟨_,rfl⟩
  rw [← hM] at C
  have O:MOk M:=by rw [hM];exact GM P.mo
  have w2:∀ i j,i < n→j < n→M i j≤200:=fun i j _ _=>by rw [hM];unfold clp;omega
  have nh : ¬ Ch n M:=fun ⟨i,j,hi,hj,z⟩=>absurd (w2 i j hi hj) (Int.not_le.mpr z)
  have m:Md 0 n M bs ss bk sk h1:=⟨P.n1,P.n30,C.mt,O,C.ba,C.st,P.lb,P.ls,P.os⟩
  obtain⟨T,ql,LL⟩:=Ce m
  have mq:=D6 m ql LL
  obtain⟨w,hw⟩ : ∃ w,w=bH n T bs ss:=⟨_,rfl⟩
  obtain⟨d,hd⟩ : ∃ d,d=kw n T bs ss:=⟨_,rfl⟩
  have dq:=xi P.n1 (by omega) O LL nh P.lb P.ls P.os h1
  rw [← htd,← hw] at mq
  rw [← hw,← hd] at dq
  have ok:=vh P.n1 (show n≤15 by omega) O w2 LL
  have W:w.Ok n:=by rw [hw];exact uY n30 LL.ok P.lb P.ls
  have S:cw w:=by rw [hw];exact P.os
  have MM:mK w w n:=by rw [hw];exact qf LL.ok P.os
  have wst:w.stays=ss:=by rw [hw];rfl
  have dst:d.stays=ss++ss:=by rw [hd];rfl
  have os2:∀ x∈ss++ss,x=none∨x=some 0∨x=some 1:=fun x hx=>P.os x ((List.mem_append.mp hx).elim id id)
  have W2:d.Ok (2 * n):=by rw [hd];exact uY (by omega) ok (by unfold ff;rw [ZB,ZA,P.lb];omega) (by rw [ZB,P.ls];omega)
  have S2:cw d:=by rw [hd];exact os2
  have MM2:mK d d (2 * n):=by rw [hd];exact qf ok os2
  obtain⟨lo,hi,G⟩:=Cs W n30 S MM (by rw [wst];refine ZM (List.length_filter_le _ _) ?_;rw [P.ls];omega)
  obtain⟨lo2,hi2,G2⟩:=Cs W2 (by omega) S2 MM2 (by rw [dst];refine ZM (List.length_filter_le _ _) ?_;rw [ZB,P.ls];omega)
  have H:Dbl w d n lo hi lo2 hi2:=⟨G,G2,by rw [dst,wst],fun a b Fa Fb=>by rw [hd,hw];exact Cu (by omega) O LL ok P.lb P.ls Fa.len Fb.len Fa.bits Fb.bits⟩
  have Q:All 0 n M bs ss bk sk w d td lo hi lo2 hi2:=⟨H,P.n1,n6,fun h s m F=>by
    have:=zL m F.len
    rw [zM F wst,← htd] at this
    exact this,fun h s m F=>by
    have:=GH m LL F.len F.bits
    rw [← htd,← hw] at this
    exact this⟩
  have e0:BQ [some S0,none,none,none,none,none,none,none,none,none,none,none] []=.nx (XL S0 td none none) h0:=aH (av (de rfl rfl) run)
  have e2:BS (XL S0 td a2 a3) h1=.nx [some S0,some td,a2,a3,some w.enc,none,none,none,none,none,none,none] h1:=aH (av (aj rfl rfl) mq)
  have e3:BT [some S0,some td,a2,a3,some w.enc,none,none,none,none,none,none,none] h1=.nx (X29 S0 td w d a2 a3 none none none none none none) h1:=aH (av (aj rfl rfl) dq)
  obtain⟨g2,r2⟩:=vt G2 h1
  obtain⟨k,hk⟩ : ∃ k,k=(h1++g2).length:=⟨_,rfl⟩
  obtain⟨h2,hh2⟩ : ∃ h2:Hd,h2=h1++g2++[.lst ((dm d n).map af)]:=⟨_,rfl⟩
  have r2:i3 [d.enc] h1=.ok (.ref k) h2:=by rw [hk,hh2];exact r2
  have gk:h2[k]? = some (.lst ((dm d n).map af)):=by rw [hh2];exact dv hk _
  have m2:Md 0 n M bs ss bk sk h2:=by rw [hh2];exact (m.more _).more _
  have e4:BU (X29 S0 td w d a2 a3 none none none none none none) h1=.nx (X29 S0 td w d a2 a3 (some (.ref k)) none none none none none) h2:=aH (av (aj rfl rfl) r2)
  obtain⟨b2,b3,b7,e5⟩:=zO (S0:=S0) Q m2 gk a2 a3 none none none none none
  obtain⟨g3,r3⟩:=vt G h2
  obtain⟨c,hc⟩ : ∃ c,c=(h2++g3).length:=⟨_,rfl⟩
  obtain⟨h3,hh3⟩ : ∃ h3:Hd,h3=h2++g3++[.lst ((iG w n).map af)]:=⟨_,rfl⟩
  have r3:i3 [w.enc] h2=.ok (.ref c) h3:=by rw [hc,hh3];exact r3
  have gc:h3[c]? = some (.lst ((iG w n).map af)):=by rw [hh3];exact dv hc _
  have gk3:h3[k]? = some (.lst ((dm d n).map af)):=by rw [hh3,ZU];exact dH _ gk
  have e6:BW (X29 S0 td w d b2 b3 (some (.ref k)) b7 none none none none) h2=.nx (X29 S0 td w d b2 b3 (some (.ref k)) b7 (some (.ref c)) none none none) h3:=aH (av (aj rfl rfl) r3)
  obtain⟨g4,r4⟩:=Cr G h3
  obtain⟨p,hp⟩ : ∃ p,p=h3.length:=⟨_,rfl⟩
  obtain⟨h4,hh4⟩ : ∃ h4:Hd,h4=h3++(.lst ((iH w n).map (nA w n)) :: g4):=⟨_,rfl⟩
  have r4:lS [w.enc] h3=.ok (.ref p) h4:=by rw [hp,hh4];exact r4
  have gp:h4[p]? = some (.lst ((iH w n).map (nA w n))):=by rw [hh4];exact iU hp 0
  have gc4:h4[c]? = some (.lst ((iG w n).map af)):=by rw [hh4];exact dH _ gc
  have gk4:h4[k]? = some (.lst ((dm d n).map af)):=by rw [hh4];exact dH _ gk3
  have e7:BX (X29 S0 td w d b2 b3 (some (.ref k)) b7 (some (.ref c)) none none none) h3=.nx (X29 S0 td w d b2 b3 (some (.ref k)) b7 (some (.ref c)) (some (.ref p)) none none) h4:=aH (av (aj rfl rfl) r4)
  obtain⟨c7,e8⟩:=zP (S0:=S0) Q gk4 gc4 b2 b3 b7 (some (.ref p)) none none
  obtain⟨c2,c3,e9⟩:=zQ (S0:=S0) Q gk4 gp b2 b3 c7 (some (.ref c)) none none
  have few:=Cy H n6
  have e10:xZ (X29 S0 td w d c2 c3 (some (.ref k)) c7 (some (.ref c)) (some (.ref p)) none none) h4=.nx (X29 S0 td w d c2 c3 (some (.ref k)) c7 (some (.ref c)) (some (.ref p)) none none) h4:=by
    have l6:cz (lOf (aa 6)) (X29 S0 td w d c2 c3 (some (.ref k)) c7 (some (.ref c)) (some (.ref p)) none none) h4=.ok (.int ((dm d n).length:Nat)) h4:=(dF (bU rfl (aJ gk4))).trans (by rw [ZA])
    have l8:cz (lOf (aa 8)) (X29 S0 td w d c2 c3 (some (.ref k)) c7 (some (.ref c)) (some (.ref p)) none none) h4=.ok (.int ((iG w n).length:Nat)) h4:=(dF (bU rfl (aJ gc4))).trans (by rw [ZA])
    have l9:cz (lOf (aa 9)) (X29 S0 td w d c2 c3 (some (.ref k)) c7 (some (.ref c)) (some (.ref p)) none none) h4=.ok (.int ((iH w n).length:Nat)) h4:=(dF (bU rfl (aJ gp))).trans (by rw [ZA])
    have q1:ah cE (cz (lOf (aa 8))) (ah bC (fC (.int 2)) (cz (lOf (aa 9)))) (X29 S0 td w d c2 c3 (some (.ref k)) c7 (some (.ref c)) (some (.ref p)) none none) h4=.ok (.int ((dm d n).length:Nat)) h4:=by
      rw [H.count]
      refine (aq l8 (aq rfl l9 (gj (by decide))) rfl).trans ?_
      congr 2
    have ne:∀ x:Int,oNe (.int x) (.int x) h4=.ok (.bl false) h4:=fun x=>by
      have:eqG h4 (.int x) (.int x)=some true:=by simp [eqG,dep,peq]
      simp only [oNe,this];rfl
    exact d9 (jM (bn (aq l6 q1 (ne _))) (bn (aq (Ej rfl gk4 H.told_nd few) l6 (ne _))))
  have e11:x9 (X29 S0 td w d c2 c3 (some (.ref k)) c7 (some (.ref c)) (some (.ref p)) none none) h4=.nx (X29 S0 td w d c2 c3 (some (.ref k)) c7 (some (.ref c)) (some (.ref p)) (some (af lo)) none) h4:=aH (av (aj rfl rfl) (G.lo_is _))
  have e12:ya (X29 S0 td w d c2 c3 (some (.ref k)) c7 (some (.ref c)) (some (.ref p)) (some (af lo)) none) h4=.nx (X29 S0 td w d c2 c3 (some (.ref k)) c7 (some (.ref c)) (some (.ref p)) (some (af lo)) (some (af hi))) h4:=aH (av (aj rfl rfl) (G.hi_is _))
  have llo:lo.length≤30:=by rw [G.loF.len];omega
  have lhi:hi.length≤30:=by rw [G.hiF.len];omega
  have e13:yb (X29 S0 td w d c2 c3 (some (.ref k)) c7 (some (.ref c)) (some (.ref p)) (some (af lo)) (some (af hi))) h4=.rt (.bl true) h4:=by
    have q1:oEq (af lo2) (af (lo++lo)) h4=.ok (.bl true) h4:=by rw [H.low,lK rfl];simp
    have q2:oEq (af hi2) (af (hi++hi)) h4=.ok (.bl true) h4:=by rw [H.high,lK rfl];simp
    exact bh (rN (pM (bn (aq (av (aj rfl rfl) (G2.lo_is _)) (av (de rfl rfl) (iJ llo llo _)) q1)) (bn (aq (av (aj rfl rfl) (G2.hi_is _)) (av (de rfl rfl) (iJ lhi lhi _)) q2))))
  rw [← hS0]
  exact⟨[],(cI (σ:=[some S0,none,none,none,none,none,none,none,none,none,none,none]) rfl rfl ((bx e0).trans ((bx e1).trans ((bx e2).trans ((bx e3).trans ((bx e4).trans ((bx e5).trans ((bx e6).trans ((bx e7).trans ((bx e8).trans ((bx e9).trans ((bx e10).trans ((bx e11).trans ((bx e12).trans e13)))))))))))))).trans (cO (h:=[]) (g:=h4) rfl)⟩
end Fm
def PySem.W.Fast.tw90343872475197607 : Type := PySem.Params
theorem PySem.W.Fast.te90343872475197607 : PySem.Params = PySem.W.Fast.tw90343872475197607 := rfl
open PySem PySem.W PyProof.Rows
set_option maxRecDepth 100000 in
set_option maxHeartbeats 0 in
theorem PySem.Challenge.cw_followmost_k29_whole_rests_of_the_double_holds : PySem.Challenge.rw_followmost_k29_whole_rests_of_the_double.Holds := by
  w_on;o_law;k_head;(case hw=>w_witness2)
  k_fill
  refine Fm.HD (l := PySem.Challenge.rw_followmost_k29_whole_rests_of_the_double) (F := Fm.yc) (k := 11) (x := "_law_script") rfl rfl ⟨rfl, by decide, by decide, rfl⟩ (fun w h Y => PySem.W.kIn_of Y) ?F Fm.GP
  case F =>
    intro w mg fa h KX G hmg
    refine' Fm.GB KX G hmg ?_ ?_ ?_ ?_ ?_ ?_ ?_ ?_ ?_ ?_ ?_ ?_ ?_ ?_ ?_ ?_ ?_ ?_ ?_ ?_ ?_ ?_ ?_ ?_ ?_ ?_ ?_ ?_ ?_ ?_ ?_ ?_ ?_ ?_ ?_ ?_ ?_ ?_ ?_ ?_ ?_ ?_ ?_ ?_ ?_ ?_ ?_ ?_ ?_ ?_ ?_ ?_ ?_ ?_ ?_ ?_ ?_ ?_ ?_ ?_ ?_ ?_ ?_
    all_goals first|refine' Fm.At.i ?_ ?_ ?_ ?_|unfold Fm.Nb|skip
    all_goals try first|k_is|k_exc|kit_is
