import PyProof.Rows.All
import Wide.All
import OpenK.AllK
import Wide.FinOn
import Lean
import PyProof.EqAt
import PyProof.EqKinds
import PyProof.TupleCall
import PyProof.NeKinds
import PyProof.IsInstanceH
import PyProof.IsiNone
import PyProof.EnumMake
import PyProof.Draws
import PyProof.ZipIter
import PyProof.ListRange
import KE.RegKIsAll
import PyProof.ExcAttrAll.ValueError
import PyProof.NsDelKeeps
import PyProof.Rows.SortRuns
import PySem.Challenge.RW_followmost_k39_fewest_of_too_many
set_option Elab.async false
set_option linter.all false
set_option maxRecDepth 100000
abbrev ZA:=@List.length_map
abbrev ZB:=@List.length_append
abbrev ZC:=@List.getElem?_append_left
abbrev ZD:=@List.getElem?_append_right
abbrev ZE:=@List.getElem?_eq_getElem
abbrev ZF:=@List.getD_eq_getElem?_getD
abbrev ZG:=@List.getElem?_concat_length
abbrev ZH:=@PySem.Heap.get?_push_of_some
abbrev ZI:=@PySem.Heap.lt_size
abbrev ZJ:=@PySem.Heap.get?_push_size
abbrev ZK:=@List.mem_of_getElem?
abbrev ZL:=@Nat.le_refl
abbrev ZM:=@Nat.le_trans
abbrev ZN:=@Nat.ne_of_lt
abbrev ZO:=@List.length_range
abbrev ZP:=@List.getElem?_set_ne
abbrev ZQ:=@List.getElem?_map
abbrev ZR:=@List.map_append
abbrev ZS:=@Nat.lt_of_le_of_lt
abbrev ZT:=@Option.some.inj
abbrev ZU:=@List.append_assoc
abbrev ZV:=@List.mem_cons_self
abbrev ZW:=@List.mem_cons_of_mem
abbrev ZX:=PySem.W.Frag
namespace L2
open PySem PySem.Spec PyProof.Rows
abbrev Key:=Sum Int Str
def uP:Key→Value→Bool
 | .inl k,v=>Value.isInt k v
 | .inr x,v=>Value.isStrOf x v
def Qv (w:World):Key→Int
 | .inl k=>hashInt k
 | .inr x=>hashStr w x
theorem cz:∀ {k:Key} {v:Value},uP k v=true→(∃ i t,k=Sum.inl i∧v=Value.int i t)∨(∃ x t,k=Sum.inr x∧v=Value.str x t)
 | .inl i,v,h=>by
  obtain⟨t,e⟩:=Value.isInt_shape (k:=i) (v:=v) h
  exact .inl ⟨i,t,rfl,e⟩
 | .inr x,v,h=>by
  obtain⟨t,e⟩:=Value.isStrOf_shape (x:=x) (v:=v) h
  exact .inr ⟨x,t,rfl,e⟩
theorem EU (i:Int)(t:Tok):uP (.inl i) (.int i t)=true:=by simp [uP,Value.isInt]
theorem EV (x:Str)(t:Tok):uP (.inr x) (.str x t)=true:=by simp [uP,Value.isStrOf]
theorem My (a b:Int):decide ((Sum.inl a:Key)=Sum.inl b)=(a == b):=by
 by_cases e:a=b
 ·subst e;simp
 ·have h : ¬ (Sum.inl a:Key)=Sum.inl b:=fun q=>e (Sum.inl.inj q)
  rw [decide_eq_false h]
  exact (beq_eq_false_iff_ne.mpr e).symm
theorem Mz (a b:Str):decide ((Sum.inr a:Key)=Sum.inr b)=decide (a=b):=by
 by_cases e:a=b
 ·subst e;simp
 ·have h : ¬ (Sum.inr a:Key)=Sum.inr b:=fun q=>e (Sum.inr.inj q)
  rw [decide_eq_false h,decide_eq_false e]
theorem MC (a:Int)(b:Str):decide ((Sum.inl a:Key)=Sum.inr b)=false:=decide_eq_false (fun q=>nomatch q)
theorem MD (a:Str)(b:Int):decide ((Sum.inr a:Key)=Sum.inl b)=false:=decide_eq_false (fun q=>nomatch q)
def cH (prog:Program) (w:World):PySem.KeyKind prog w Key where
 is:=uP
 hash:=Qv w
 inj:=fun v a b ha hb=>by
  rcases cz ha with ⟨i,t,rfl,rfl⟩|⟨x,t,rfl,rfl⟩
  ·rcases cz hb with ⟨j,u,rfl,e⟩|⟨y,u,rfl,e⟩
   ·injection e with e1 _;rw [e1]
   ·exact nomatch e
  ·rcases cz hb with ⟨j,u,rfl,e⟩|⟨y,u,rfl,e⟩
   ·exact nomatch e
   ·injection e with e1 _;rw [e1]
 byValue:=fun k v h=>by
  rcases cz h with ⟨i,t,rfl,rfl⟩|⟨x,t,rfl,rfl⟩<;>rfl
 pyHash:=fun hv h=>by
  rcases cz hv with ⟨i,t,rfl,rfl⟩|⟨x,t,rfl,rfl⟩
  ·exact wpAny_pyHash_int h
  ·exact wpAny_pyHash_str h
 eqBool:=fun hu hv h=>by
  rcases cz hu with ⟨i,t,rfl,rfl⟩|⟨x,t,rfl,rfl⟩
  ·rcases cz hv with ⟨j,u,rfl,rfl⟩|⟨y,u,rfl,rfl⟩
   ·rw [My] at h;exact wpAny_eqBool_int h
   ·rw [MC] at h;exact SeqAt.EqAt.int_str i t y u _ _ _ _ h
  ·rcases cz hv with ⟨j,u,rfl,rfl⟩|⟨y,u,rfl,rfl⟩
   ·rw [MD] at h;exact SeqAt.EqAt.str_int x t j u _ _ _ _ h
   ·rw [Mz] at h;exact wpAny_eqBool_str h
 «strs» := fun k x t v h=>by
  rcases cz h with ⟨i,u,rfl,e⟩|⟨y,u,rfl,e⟩
  ·exact nomatch e
  ·injection e with e1 _
   subst e1
   cases v<;>rfl
theorem yL (prog:Program)(w:World)(i:Int)(t:Tok):(cH prog w).is (.inl i) (.int i t)=true:=EU i t
theorem yM (prog:Program)(w:World)(x:Str)(t:Tok):(cH prog w).is (.inr x) (.str x t)=true:=EV x t
end L2
namespace L2
open PySem PySem.Spec PyProof.Rows
inductive V where
 | non|bl (b:Bool)|int (i:Int)|str (x:Str)|byt (b:Array UInt8)|flt (b:UInt64)|ref (a:Addr)|ty (n:String)
 deriving DecidableEq
def bg:V→Value→Prop
 | .non,u=>u=Value.none
 | .bl b,u=>u=Value.bool b
 | .int i,u=>∃ t,u=Value.int i t
 | .str x,u=>∃ t,u=Value.str x t
 | .byt b,u=>∃ t,u=Value.bytes b t
 | .flt b,u=>∃ t,u=Value.float b t
 | .ref a,u=>u=Value.ref a
 | .ty n,u=>u=Value.type n
abbrev aI:List V→List Value→Prop:=Paired bg
theorem aI.length {xs:List V}{us:List Value}(r:aI xs us):xs.length=us.length:=Paired.length r
theorem aI.get:∀ {xs:List V} {us:List Value} {i:Nat} {x:V},aI xs us→xs[i]? = some x → ∃ u,us[i]? = some u∧bg x u
 | _,_,_,_,.nil,e=>by simp at e
 | _,_,0,_,.cons r _,e=>by simp at e;subst e;exact⟨_,rfl,r⟩
 | _,_,i + 1,x,.cons _ t,e=>by
  obtain⟨u,h1,h2⟩:=aI.get (i:=i) (x:=x) t (by simpa using e)
  exact⟨u,by simpa using h1,h2⟩
theorem aI.set {x:V}{u:Value}(r:bg x u):∀ {xs:List V} {us:List Value} (i:Nat),aI xs us→aI (xs.set i x) (us.set i u)
 | _,_,_,.nil=>.nil
 | _,_,0,.cons _ t=>.cons r t
 | _,_,i + 1,.cons q t=>.cons q (aI.set r i t)
theorem aI.append:∀ {xs ys:List V} {us ws:List Value},aI xs us→aI ys ws→aI (xs++ys) (us++ws)
 | _,_,_,_,.nil,s=>s
 | _,_,_,_,.cons r t,s=>.cons r (aI.append t s)
theorem aI.take:∀ {xs:List V} {us:List Value} (n:Nat),aI xs us→aI (xs.take n) (us.take n)
 | _,_,0,_=>.nil
 | _,_,_ + 1,.nil=>.nil
 | _,_,n + 1,.cons r t=>.cons r (aI.take n t)
theorem aI.drop:∀ {xs:List V} {us:List Value} (n:Nat),aI xs us→aI (xs.drop n) (us.drop n)
 | _,_,0,r=>r
 | _,_,_ + 1,.nil=>.nil
 | _,_,n + 1,.cons _ t=>aI.drop n t
def su:Option V→Option Value→Prop
 | some v,some u=>bg v u
 | none,none=>True
 | _,_=>False
def KV {κ : Type}:List (κ × V)→List (κ × Value)→Prop:=Paired fun (p : κ × V) (q : κ × Value)=>p.1=q.1∧bg p.2 q.2
def kV:Key→V
 | .inl i=>.int i
 | .inr x=>.str x
inductive HO where
  | lst (xs:List V)
  | tup (xs:List V)
  | dK (kvs:List (Key × V))|dT (kvs:List (List Key × V))
  | set (S:Int→Bool) (n:Nat)
  | ins (C dx:Addr) (fs:List (Str × V))
  | own (x:Addr)
  | xd (fs:List (Str × V))
  | met (f x:Addr)
  | rng (lo hi:Int)
  | frz (o:Obj) (u:HO)
  | tbl (ps:Array Value)
  | ext (φ : Heap→Prop)
abbrev Hp:=Addr→Option HO
def upd (H:Hp) (a:Addr) (o:HO):Hp:=fun b=>if b=a then some o else H b
theorem aO {H:Hp}{a:Addr}{o:HO}:upd H a o a=some o:=by unfold upd;rw [if_pos rfl]
theorem ax {H:Hp}{a b:Addr}{o:HO}(h:b≠a):upd H a o b=H b:=by unfold upd;rw [if_neg h]
theorem Mc {H:Hp}{a b:Addr}{o u:HO}(h:H a=some o)(h':H b=some u)(d:o≠u):a≠b:=by
 intro e;subst e;rw [h] at h';exact d (ZT h')
theorem bb {H:Hp}{a b:Addr}{o:HO}(h:H a=some o)(h':H b=none):a≠b:=by
 intro e;subst e;rw [h] at h';cases h'
section
variable (P:Program) (w:World)
def cX (H:Hp) (h:Heap) (a:Addr):HO→Prop
 | .lst xs=>xs.length≤sizeLine ∧ ∃ (its:List Value) (n:Nat),aI xs its∧h.get? a=some { cls:=.type "list",data:=.seq its.toArray n }
 | .tup xs=>xs.length≤sizeLine ∧ ∃ its:List Value,aI xs its∧IsTup h a its.toArray
 | .dK kvs=>kvs.length≤sizeLine∧(a == sysModules)=false ∧ ∃ vs,KV kvs vs∧h.DictOf (cH P w) a vs
 | .dT kvs=>kvs.length≤sizeLine∧(a == sysModules)=false ∧ ∃ xs:List (List Key × Addr × Value),
   Paired (fun (p:List Key × V) (q:List Key × Addr × Value)=>p.1=q.1∧H q.2.1=some (.tup (p.1.map kV))∧bg p.2 q.2.2) kvs xs ∧
   ∃ o es ep,h.get? a=some o∧o.ExactDict∧o.data=.dict es ep∧es.toList=xs.map (entryOfKey (tupleKind (cH P w)))∧(xs.map (·.1)).Nodup
 | .set S n=>h.SetOf (intKind P w) a S n
 | .ins C dx fs=>H dx=some (.own a)∧fs.length≤1000∧dx≠a∧h.get? a=some (PySem.W.instObj C dx) ∧
   ∃ mA,h.Ns1 dx mA∧(∀ f,su (fs.lookup f) (mA f))∧PySem.Within mA (fs.map (·.1))
 | .own _=>∃ o,h.get? a=some o
 | .xd fs=>∃ mA,h.Ns1 a mA ∧ ∀ f,su (fs.lookup f) (mA f)
 | .rng lo hi=>∃ t u v,h.get? a=some { cls:=.type "range",data:=.fields #[.int lo t,.int hi u,.int 1 v] }
 | .frz o u=>h.get? a=some o∧cX H h a u
 | .tbl ps=>h.get? a=some { cls:=.none,data:=.fields ps }
 | .met f x=>h.get? a=some (PySem.W.methodObj (.ref f) (.ref x))
 | .ext φ => φ h∧(∃ o,h.get? a=some o) ∧ ∀ h1 h2:Heap,φ h1→(∀ o,h1.get? a=some o→h2.get? a=some o) → φ h2
def HOk (H:Hp) (h:Heap):Prop:=∀ a o,H a=some o→cX P w H h a o
end
section
variable {P:Program} {w:World} {H H':Hp} {h h':Heap} {a:Addr} {o:HO}
theorem cX.lt (x:cX P w H h a o):a < h.objs.size:=by
 cases o with
 | lst xs=>obtain⟨_,_,_,_,e⟩:=x;exact ZI e
 | tup xs=>obtain⟨_,_,_,p⟩:=x;exact p.lt
 | dK kvs=>obtain⟨_,_,_,_,o,_,_,e,_⟩:=x;exact ZI e
 | dT kvs=>obtain⟨_,_,_,_,o,_,_,e,_⟩:=x;exact ZI e
 | set S n=>obtain⟨o,_,_,_,e,_⟩:=x;exact ZI e
 | ins C dx fs=>obtain⟨_,_,_,e,_⟩:=x;exact ZI e
 | own y=>obtain⟨_,e⟩:=x;exact ZI e
 | xd fs=>obtain⟨_,⟨_,_,_,e,_⟩,_⟩:=x;exact ZI e
 | rng lo hi=>obtain⟨_,_,_,e⟩:=x;exact ZI e
 | frz ob u=>obtain⟨e,_⟩:=x;exact ZI e
 | tbl ps=>exact ZI (show h.get? a=some _ from x)
 | met f y=>exact ZI (show h.get? a=some _ from x)
 | ext φ => obtain⟨_,⟨_,e⟩,_⟩:=x;exact ZI e
theorem Paired.mapP {α β : Type}{F G : α → β → Prop}:∀ {l₁ : List α} {l₂ : List β},Paired F l₁ l₂ → (∀ a b,F a b→G a b)→Paired G l₁ l₂
 | _,_,.nil,_=>.nil
 | _,_,.cons r t,f=>.cons (f _ _ r) (Paired.mapP t f)
theorem cX.stay (x:cX P w H h a o)(k:∀ b u,(b=a∨H b=some (.own a))→h.get? b=some u→h'.get? b=some u)
  (ho:∀ b,H b=some (.own a)→H' b=some (.own a)) (ht:∀ b xs,H b=some (.tup xs)→H' b=some (.tup xs)):cX P w H' h' a o:=by
 induction o with
 | lst xs=>obtain⟨z,its,n,r,e⟩:=x;exact⟨z,its,n,r,k _ _ (.inl rfl) e⟩
 | tup xs=>obtain⟨z,its,r,ob,e,c⟩:=x;exact⟨z,its,r,ob,k _ _ (.inl rfl) e,c⟩
 | dK kvs=>obtain⟨z,y,vs,r,ob,es,ep,e,c⟩:=x;exact⟨z,y,vs,r,ob,es,ep,k _ _ (.inl rfl) e,c⟩
 | dT kvs =>
  obtain⟨z,y,xs,r,ob,es,ep,e,c⟩:=x
  exact⟨z,y,xs,Paired.mapP r fun p q z=>⟨z.1,ht _ _ z.2.1,z.2.2⟩,ob,es,ep,k _ _ (.inl rfl) e,c⟩
 | set S n=>obtain⟨ob,es,ep,t,e,c⟩:=x;exact⟨ob,es,ep,t,k _ _ (.inl rfl) e,c⟩
 | ins C dx fs =>
  obtain⟨d,z,ne,e,mA,⟨od,es,ep,e2,c⟩,r⟩:=x
  exact⟨ho _ d,z,ne,k _ _ (.inl rfl) e,mA,⟨od,es,ep,k _ _ (.inr d) e2,c⟩,r⟩
 | own y=>obtain⟨ob,e⟩:=x;exact⟨ob,k _ _ (.inl rfl) e⟩
 | xd fs=>obtain⟨mA,⟨od,es,ep,e,c⟩,r⟩:=x;exact⟨mA,⟨od,es,ep,k _ _ (.inl rfl) e,c⟩,r⟩
 | rng lo hi=>obtain⟨t,u,v,e⟩:=x;exact⟨t,u,v,k _ _ (.inl rfl) e⟩
 | frz ob u ih=>obtain⟨e,q⟩:=x;exact⟨k _ _ (.inl rfl) e,ih q⟩
 | tbl ps =>
  have e:h.get? a=some { cls:=.none,data:=.fields ps }:=x
  show h'.get? a=some { cls:=.none,data:=.fields ps }
  exact k a _ (.inl rfl) e
 | met f y =>
  have e:h.get? a=some (PySem.W.methodObj (.ref f) (.ref y)):=x
  show h'.get? a=some (PySem.W.methodObj (.ref f) (.ref y))
  exact k a _ (.inl rfl) e
 | ext φ => obtain⟨p,⟨o,e⟩,st⟩:=x;exact⟨st _ _ p fun o q=>k _ _ (.inl rfl) q,⟨o,k _ _ (.inl rfl) e⟩,st⟩
theorem HOk.lt (x:HOk P w H h)(e:H a=some o):a < h.objs.size:=(x a o e).lt
theorem HOk.fresh (x:HOk P w H h)(e:h.objs.size≤a):H a=none:=by
 cases q:H a with
 | none=>rfl
 | some u=>exact absurd (Nat.lt_of_lt_of_le (x.lt q) e) (Nat.lt_irrefl _)
theorem HOk.kept (x:HOk P w H h)(k:∀ b u,h.get? b=some u→h'.get? b=some u):HOk P w H h':=fun a o e =>
 (x a o e).stay (fun b u _ q=>k b u q) (fun _ q=>q) fun _ _ q=>q
theorem HOk.laid (x:HOk P w H h)(k:∀ b u,h.get? b=some u→h'.get? b=some u)(hp:h.objs.size≤a)(new:cX P w (upd H a o) h' a o):HOk P w (upd H a o) h':=fun b u e=>by
 have hn:=x.fresh hp
 by_cases hb:b=a
 ·subst hb;rw [aO] at e;cases e;exact new
 ·rw [ax hb] at e
  exact (x b u e).stay (fun c v _ q=>k c v q) (fun c q=>by rw [ax (bb q hn)];exact q) fun c xs q=>by rw [ax (bb q hn)];exact q
end
def Rd (H:Hp) (a:Addr) (u:HO):Prop:=H a=some u ∨ ∃ o,H a=some (.frz o u)
theorem Rd.ok {P:Program}{w:World}{H:Hp}{h:Heap}{a:Addr}{u:HO}(r:Rd H a u)(x:HOk P w H h):cX P w H h a u:=by
 rcases r with r|⟨o,r⟩
 ·exact x a u r
 ·obtain⟨_,q⟩:=x a _ r
  exact q
def Mut:Option HO→Prop
 | some (.lst _)=>True
 | some (.dK _)=>True
 | some (.dT _)=>True
 | some (.set _ _)=>True
 | some (.ins _ _ _)=>True
 | some (.ext _)=>True
 | _=>False
section
variable {P:Program} {w:World} {H:Hp} {h h':Heap} {x e:Addr} {o':HO}
theorem HOk.write (ok:HOk P w H h)(mu:Mut (H x))(he:e=x∨H e=some (.own x))(k:∀ b u,b≠e→h.get? b=some u→h'.get? b=some u)(heo:∃ u,h'.get? e=some u)
  (new:cX P w (upd H x o') h' x o'):HOk P w (upd H x o') h':=fun b u q=>by
 have nown:∀ c y,H c=some (.own y)→c≠x:=fun c y r z=>by subst z;rw [r] at mu;exact mu
 have ntup:∀ c xs,H c=some (.tup xs)→c≠x:=fun c xs r z=>by subst z;rw [r] at mu;exact mu
 by_cases hb:b=x
 ·subst hb;rw [aO] at q;cases q;exact new
 ·rw [ax hb] at q
  by_cases hbe:b=e
  ·have q':H b=some (.own x):=by
    rcases he with z|z
    ·exact absurd (hbe.trans z) hb
    ·rw [hbe];exact z
   rw [q] at q';cases q'
   obtain⟨v,hv⟩:=heo
   exact⟨v,by rw [hbe];exact hv⟩
  ·refine (ok b u q).stay (fun c v hc r=>k c v ?_ r) (fun c r=>by rw [ax (nown c b r)];exact r) fun c xs r=>by rw [ax (ntup c xs r)];exact r
   rcases hc with rfl|hc
   ·exact hbe
   ·rintro rfl
    rcases he with z|z
    ·exact nown c b hc z
    ·rw [hc] at z;cases z;exact hb rfl
end
structure Un (fs ex:List Addr) (H H':Hp) (h h':Heap):Prop where
 keep:∀ b o,h.get? b=some o→H b=none→b∉fs→b∉ex→h'.get? b=some o
 slot:∀ b o,h.get? b=some o→H b=none→b∈fs→b∉ex → ∃ sl,h'.get? b=some { o with slots:=sl }
 free:∀ b o,h.get? b=some o→H b=none→b∉ex→H' b=none
 there:∀ b o,h.get? b=some o→b∉ex → ∃ o',h'.get? b=some o'
 tups:∀ b xs,H b=some (.tup xs)→H' b=some (.tup xs)
 frzs:∀ b o u,H b=some (.frz o u)→H' b=some (.frz o u)
 tbls:∀ b ps,H b=some (.tbl ps) → ∃ more,H' b=some (.tbl (ps++more))
section
variable {fs fs' ex ex':List Addr} {H H1 H2:Hp} {h h1 h2 h':Heap} {a x e:Addr} {o:HO}
theorem Un.any (u:Un fs ex H H1 h h1){b:Addr}{ob:Obj}(q:h.get? b=some ob)(n:H b=none)(hx:b∉ex):∃ sl,h1.get? b=some { ob with slots:=sl }:=by
 by_cases hb:b∈fs
 ·exact u.slot b ob q n hb hx
 ·exact⟨ob.slots,u.keep b ob q n hb hx⟩
theorem Un.kept (k:∀ b u,h.get? b=some u→h'.get? b=some u):Un fs ex H H h h' :=
 ⟨fun b ob q _ _ _=>k b ob q,fun b ob q _ _ _=>⟨ob.slots,k b ob q⟩,fun _ _ _ n _=>n,fun b ob q _=>⟨ob,k b ob q⟩,fun _ _ q=>q,fun _ _ _ q=>q,fun _ ps q=>⟨#[],by rw [q];simp⟩⟩
theorem Un.refl:Un fs ex H H h h:=Un.kept fun _ _ q=>q
theorem Un.laid (k:∀ b u,h.get? b=some u→h'.get? b=some u)(hp:h.objs.size≤a)(hn:H a=none):Un fs ex H (upd H a o) h h' where
 keep:=fun b u q _ _ _=>k b u q
 slot:=fun b u q _ _ _=>⟨u.slots,k b u q⟩
 free:=fun b u q n _=>by rw [ax (ZN (Nat.lt_of_lt_of_le (ZI q) hp))];exact n
 there:=fun b u q _=>⟨u,k b u q⟩
 tups:=fun b xs q=>by rw [ax (bb q hn)];exact q
 frzs:=fun b u xs q=>by rw [ax (bb q hn)];exact q
 tbls:=fun b ps q=>⟨#[],by rw [ax (bb q hn),q];simp⟩
theorem Un.write (mu:Mut (H x))(he:e=x∨H e=some (.own x))(k:∀ b u,b≠e→h.get? b=some u→h'.get? b=some u)(heo:∃ u,h'.get? e=some u):Un fs ex H (upd H x o) h h':=by
 have hx:∀ b,H b=none→b≠x:=fun b n z=>by subst z;rw [n] at mu;exact mu
 have hb:∀ b,H b=none→b≠e:=fun b n z=>by
  subst z
  rcases he with r|r
  ·exact hx b n r
  ·rw [n] at r;cases r
 have hm:∀ b u,H b=some u → ¬ Mut (some u)→b≠x:=fun b u q nm z=>by subst z;rw [q] at mu;exact nm mu
 refine⟨fun b u q n _ _=>k b u (hb b n) q,fun b u q n _ _=>⟨u.slots,k b u (hb b n) q⟩,fun b u q n _=>by rw [ax (hx b n)];exact n,fun b u q _ => ?_,
  fun b xs q=>by rw [ax (hm b _ q fun z=>z)];exact q,fun b u xs q=>by rw [ax (hm b _ q fun z=>z)];exact q,fun b ps q=>⟨#[],by rw [ax (hm b _ q fun z=>z),q];simp⟩⟩
 by_cases hbe:b=e
 ·subst hbe;exact heo
 ·exact⟨u,k b u hbe q⟩
end
def trk (h:Heap) (H:Hp):List Addr:=(List.range h.objs.size).filter fun a=>(H a).isSome
def vT (h:Heap) (H:Hp):Heap:=PySem.W.hideAll h (trk h H)
theorem EW (h:Heap)(H:Hp):(vT h H).objs.size=h.objs.size:=PySem.W.hideAll_size _ _
theorem G0 {h:Heap}{H:Hp}{b:Addr}{o:Obj}(e:h.get? b=some o)(n:H b=none):(vT h H).get? b=some o :=
 PySem.W.hideAll_get _ e fun hm=>by
  have q:(H b).isSome=true:=(List.mem_filter.mp hm).2
  rw [n] at q;simp at q
theorem Ko {h:Heap}{H:Hp}{b:Addr}{o:Obj}(e:(vT h H).get? b=some o):h.get? b=some o∧H b=none:=by
 have e':h.get? b=some o:=PySem.W.of_hideAll (trk h H) e
 refine⟨e',?_⟩
 cases q:H b with
 | none=>rfl
 | some x =>
  have hm:b∈trk h H:=List.mem_filter.mpr ⟨List.mem_range.mpr (ZI e'),by simp [q]⟩
  have z:(vT h H).get? b=none:=PySem.W.hideAll_none (trk h H) hm
  rw [z] at e;cases e
def Kq (g h:Heap) (L:Addr):List (Addr × Obj):=(List.range h.objs.size).filterMap fun a=>if a=L∨(g.get? a).isSome=true then none else (h.get? a).map fun o=>(a,o)
def rest (g h:Heap) (L d:Addr):List (Addr × Obj):=(Kq g h L).filter fun p=>decide (p.1≠d)
end L2
namespace L2
open PySem PySem.Spec PyProof.Rows
structure Mod (K:ZX) (mg:Str→Option Value) (base:Heap):Prop where
 kin:K.In base
 glob:base.Ns mainGlobals mg
 blt:∃ mb,base.Ns builtinsNs mb ∧ ∀ x:Str,x ≠ "__name__" → mb x=bootBuiltins x
 nolimit:base.NoLimit
structure Cx where
 prog:Program
 w:World
 K:ZX
 mg:Str→Option Value
 base:Heap
 A:Around
 N:List Str
 s₀ : Shared
 H₀ : Hp
 env:Env
 outer:List Env
 stack:List Env
 ex:List Addr
 fn:Str→Bool
 calm:Bool
 pn:List (Addr × Obj)
 xe:Value→Shared→Prop
def frs (l:List Env):List Addr:=l.filterMap (·.frame)
abbrev Cx.fs (X:Cx):List Addr:=frs X.outer
def Vis (sc:Scope) (x:Str):Prop:=sc.names.lookup x=some .local ∨sc.names.lookup x=some .cell∨sc.names.lookup x=some .free
def Loc (sc:Scope) (x:Str):Prop:=sc.names.lookup x=some .local ∨sc.names.lookup x=some .cell
def Qw (env:Env) (h:Heap) (m:Str→Option Value) (x:Str) (u:Value):Prop :=
 (env.kindOf x=some .local∧m x=some u)∨((env.kindOf x=some .cell∨env.kindOf x=some .free) ∧ ∃ c,env.cells.lookup x=some c∧h.IsCell c (some u))
structure Cx.Ok (X:Cx):Prop where
 mod:Mod X.K X.mg X.base
 kind:X.env.scope.kind=.function
 glob:X.env.globals=mainGlobals
 blt:X.env.builtins=builtinsNs
 above:X.s₀.heap.objs.size≤X.env.locals
 inj:∀ x y c,X.env.cells.lookup x=some c→X.env.cells.lookup y=some c→x=y
 has:∀ x,(X.env.kindOf x=some .cell∨X.env.kindOf x=some .free) → ∃ c,X.env.cells.lookup x=some c
 cab:∀ x c,X.fn x=true→X.env.cells.lookup x=some c→X.s₀.heap.objs.size≤c
 hd:X.calm=true→X.A.handled=none
 frames:X.A.frames=some X.stack
 stk:X.stack=X.outer∨(X.stack=X.env :: X.outer∧X.env.frame=some X.env.locals)
 exf:∀ b∈X.ex,b≠X.env.locals ∧ ∀ x c,X.env.cells.lookup x=some c→c≠b
 bs:∀ b o,X.base.get? b=some o→X.s₀.heap.get? b=some o∧X.H₀ b=none
 bsz:X.base.objs.size≤X.s₀.heap.objs.size
 noex:∀ b o,X.base.get? b=some o→b∉X.ex
 exfs:∀ b∈X.ex,b∉X.fs
 funs:X.s₀.heap.FunFrames X.base X.outer
 frf:∀ b∈X.fs,X.H₀ b=none
structure Inv (X:Cx) (pins:List (Addr × Obj)) (σ:List (Option V)) (H:Hp) (s:Shared):Prop where
 ok:X.Ok
 os:s.os=X.s₀.os
 bare:AllBare s.gens
 base:Un X.fs X.ex X.H₀ H X.s₀.heap s.heap
 loc:∃ m,s.heap.Ns X.env.locals m ∧ ∀ (i:Nat) (x:Str) (v:V),X.N[i]? = some x → σ[i]? = some (some v)→Vis X.env.scope x → ∃ u,bg v u∧Qw X.env s.heap m x u
 cell:∀ x c,X.env.cells.lookup x=some c → ∃ v,s.heap.IsCell c v
 free:H X.env.locals=none
 freeC:∀ x c,X.env.cells.lookup x=some c→H c=none
 pin:∀ p∈X.pn++pins,s.heap.get? p.1=some p.2∧H p.1=none∧p.1≠X.env.locals∧p.1∉X.fs ∧ ∀ v,p.2.data ≠ .cell v
 hok:HOk X.prog X.w H s.heap
 len : σ.length=X.N.length
section
variable {X:Cx} {pins:List (Addr × Obj)} {σ:List (Option V)} {H H':Hp} {s:Shared} {h':Heap}
theorem Cx.Ok.nofr (ok:X.Ok){b:Addr}{o:Obj}(e:X.base.get? b=some o):b∉X.fs:=fun hb=>by
 have:=(ok.funs.mem hb).1
 rw [e] at this;cases this
theorem Inv.bs (I:Inv X pins σ H s):∀ b o,X.base.get? b=some o→s.heap.get? b=some o∧H b=none:=fun b o e =>
 ⟨I.base.keep b o (I.ok.bs b o e).1 (I.ok.bs b o e).2 (I.ok.nofr e) (I.ok.noex b o e),I.base.free b o (I.ok.bs b o e).1 (I.ok.bs b o e).2 (I.ok.noex b o e)⟩
theorem Inv.bk (I:Inv X pins σ H s):∀ b o,X.base.get? b=some o→s.heap.get? b=some o:=fun b o e=>(I.bs b o e).1
theorem Inv.mod (I:Inv X pins σ H s):Mod X.K X.mg X.base:=I.ok.mod
theorem Inv.kIn (I:Inv X pins σ H s):X.K.In s.heap:=I.ok.mod.kin.keeps I.bk
theorem Inv.lt (I:Inv X pins σ H s):X.env.locals < s.heap.objs.size:=let ⟨_,hn,_⟩:=I.loc;hn.lt
theorem Inv.sz (I:Inv X pins σ H s):X.s₀.heap.objs.size≤s.heap.objs.size:=ZM I.ok.above (Nat.le_of_lt I.lt)
theorem Inv.nofs (I:Inv X pins σ H s){a:Addr}(h:s.heap.objs.size≤a):a∉X.fs:=fun hb=>by
 obtain⟨_,o,ho,_⟩:=I.ok.funs.mem hb
 exact absurd (Nat.lt_of_lt_of_le (ZI ho) (ZM I.sz h)) (Nat.lt_irrefl _)
theorem Inv.cne (I:Inv X pins σ H s):∀ x c,X.env.cells.lookup x=some c→c≠X.env.locals:=fun x c e z=>by
 obtain⟨v,o,ho,hd⟩:=I.cell x c e
 obtain⟨m,⟨o',es,ep,ho',hd',_⟩,_⟩:=I.loc
 rw [z,ho'] at ho;cases ho;rw [hd'] at hd;cases hd
theorem Inv.funs (I:Inv X pins σ H s):s.heap.FunFrames X.base X.outer:=by
 have all:∀ (l:List Env),(∀ b∈frs l,b∈X.fs)→X.s₀.heap.FunFrames X.base l→s.heap.FunFrames X.base l:=by
  intro l
  induction l with
  | nil=>intro _ _;trivial
  | cons env r ih =>
   intro hs hl
   obtain⟨hk,⟨L,o,hf,hn,ho,hd⟩,hr⟩:=hl
   have hL:L∈X.fs:=hs L (by unfold frs;rw [List.filterMap_cons,hf];exact ZV)
   obtain⟨sl,e⟩:=I.base.slot L o ho (I.ok.frf L hL) hL fun z=>I.ok.exfs L z hL
   exact⟨hk,⟨L,_,hf,hn,e,hd⟩,ih (fun b hb=>hs b (by unfold frs;rw [List.filterMap_cons,hf];exact ZW _ hb)) hr⟩
 exact all X.outer (fun _ hb=>hb) I.ok.funs
theorem Inv.stack (I:Inv X pins σ H s):s.heap.FunFrames X.base X.stack:=by
 rcases I.ok.stk with e|⟨e,hf⟩
 ·rw [e];exact I.funs
 ·rw [e]
  obtain⟨m,hn,_⟩:=I.loc
  refine .cons (by rw [I.ok.kind];decide) hf hn ?_ I.funs
  exact Heap.get?_none_of_le (ZM I.ok.bsz I.ok.above)
theorem Inv.stkSub (I:Inv X pins σ H s):∀ b∈frs X.stack,b∈X.env.locals :: X.fs:=fun b hb=>by
 rcases I.ok.stk with e|⟨e,hf⟩
 ·rw [e] at hb;exact ZW _ hb
 ·rw [e] at hb
  unfold frs at hb
  rw [List.filterMap_cons,hf] at hb
  exact hb
theorem Inv.stkFree (I:Inv X pins σ H s):∀ b∈frs X.stack,H b=none:=fun b hb=>by
 rcases List.mem_cons.mp (I.stkSub b hb) with e|hb
 ·rw [e];exact I.free
 ·obtain⟨_,o,ho,_⟩:=I.ok.funs.mem hb
  exact I.base.free b o ho (I.ok.frf b hb) fun z=>I.ok.exfs b z hb
theorem Inv.step {g':Array GenState}{t':Nat}{d':Drawn}{ch:List Addr}(I:Inv X pins σ H s)
  (hch:∀ b∈ch,(b∈X.ex∨X.s₀.heap.objs.size≤b)∧b≠X.env.locals∧(∀ x c,X.env.cells.lookup x=some c→c≠b) ∧ ∀ p∈X.pn++pins,p.1≠b)
  (keep:∀ b o,b≠X.env.locals→b∉X.fs→b∉ch→s.heap.get? b=some o→H b=none→h'.get? b=some o)
  (slot:∀ b o,b≠X.env.locals→b∈X.fs→b∉ch→s.heap.get? b=some o→H b=none → ∃ sl,h'.get? b=some { o with slots:=sl }) (free:∀ b o,b∉ch→s.heap.get? b=some o→H b=none→H' b=none)
  (there:∀ b o,b∉ch→s.heap.get? b=some o → ∃ o',h'.get? b=some o')
  (tups:∀ b xs,H b=some (.tup xs)→H' b=some (.tup xs)) (frzs:∀ b o u,H b=some (.frz o u)→H' b=some (.frz o u)) (tbls:∀ b ps,H b=some (.tbl ps) → ∃ more,H' b=some (.tbl (ps++more)))
  (ns:∀ m,s.heap.Ns X.env.locals m→h'.Ns X.env.locals m) (hok:HOk X.prog X.w H' h') (hg:AllBare g') :
  Inv X pins σ H' { s with heap:=h',gens:=g',drawn:=d',toks:=t' }:=by
 have neL:∀ b o,X.s₀.heap.get? b=some o→b≠X.env.locals:=fun b o e=>ZN (Nat.lt_of_lt_of_le (ZI e) I.ok.above)
 have neC:∀ b o,X.s₀.heap.get? b=some o→b∉X.ex→b∉ch:=fun b o e hx hb=>by
  rcases (hch b hb).1 with z|z
  ·exact hx z
  ·exact absurd (Nat.lt_of_lt_of_le (ZI e) z) (Nat.lt_irrefl _)
 have cellK:∀ x c,X.env.cells.lookup x=some c → ∀ v,s.heap.IsCell c v→h'.IsCell c v:=fun x c e v ⟨o,ho,hd⟩=>by
  have nch:c∉ch:=fun z=>(hch c z).2.2.1 x c e rfl
  by_cases hc:c∈X.fs
  ·obtain⟨sl,q⟩:=slot c o (I.cne x c e) hc nch ho (I.freeC x c e)
   exact⟨_,q,hd⟩
  ·exact⟨o,keep c o (I.cne x c e) hc nch ho (I.freeC x c e),hd⟩
 refine⟨I.ok,I.os,hg,⟨fun b o e n hb hx => ?_,fun b o e n hb hx => ?_,fun b o e n hx => ?_,fun b o e hx => ?_,fun b xs e=>tups b xs (I.base.tups b xs e),fun b o xs e=>frzs b o xs (I.base.frzs b o xs e),fun b ps e => ?_⟩,?_,fun x c e => ?_,?_,fun x c e => ?_,fun p hp => ?_,hok,I.len⟩
 ·exact keep b o (neL b o e) hb (neC b o e hx) (I.base.keep b o e n hb hx) (I.base.free b o e n hx)
 ·obtain⟨sl,e1⟩:=I.base.slot b o e n hb hx
  obtain⟨sl',e2⟩:=slot b _ (neL b o e) hb (neC b o e hx) e1 (I.base.free b o e n hx)
  exact⟨sl',e2⟩
 ·obtain⟨o',e1⟩:=I.base.there b o e hx
  exact free b o' (neC b o e hx) e1 (I.base.free b o e n hx)
 ·obtain⟨o',e1⟩:=I.base.there b o e hx
  exact there b o' (neC b o e hx) e1
 ·obtain⟨m1,e1⟩:=I.base.tbls b ps e
  obtain⟨m2,e2⟩:=tbls b _ e1
  exact⟨m1++m2,by rw [e2,Array.append_assoc]⟩
 ·obtain⟨m,hn,hl⟩:=I.loc
  refine⟨m,ns m hn,fun i x v e1 e2 e3 => ?_⟩
  obtain⟨u,r,l⟩:=hl i x v e1 e2 e3
  refine⟨u,r,?_⟩
  rcases l with l|⟨k,c,e,z⟩
  ·exact .inl l
  ·exact .inr ⟨k,c,e,cellK x c e _ z⟩
 ·obtain⟨v,z⟩:=I.cell x c e
  exact⟨v,cellK x c e v z⟩
 ·obtain⟨m,⟨o,_,_,ho,_⟩,_⟩:=I.loc
  exact free _ o (fun z=>(hch _ z).2.1 rfl) ho I.free
 ·obtain⟨v,o,ho,hd⟩:=I.cell x c e
  exact free c o (fun z=>(hch c z).2.2.1 x c e rfl) ho (I.freeC x c e)
 ·obtain⟨e,n,ne,nf,d⟩:=I.pin p hp
  have nch:p.1∉ch:=fun z=>(hch p.1 z).2.2.2 p hp rfl
  exact⟨keep p.1 p.2 ne nf nch e n,free p.1 p.2 nch e n,ne,nf,d⟩
theorem Inv.un {t':Nat}(I:Inv X pins σ H s)(u:Un X.fs [] H H' s.heap h')(hok:HOk X.prog X.w H' h'):Inv X pins σ H' { s with heap:=h',toks:=t' }:=by
 obtain⟨m,⟨o,es,ep,ho,r⟩,_⟩:=id I.loc
 obtain⟨sl,hL⟩:=u.any ho I.free (by simp)
 exact I.step (g':=s.gens) (d':=s.drawn) (ch:=[]) (fun _ z=>nomatch z) (fun b o _ hb _ e n=>u.keep b o e n hb (by simp)) (fun b o _ hb _ e n=>u.slot b o e n hb (by simp)) (fun b o _ e n=>u.free b o e n (by simp)) (fun b o _ e=>u.there b o e (by simp)) u.tups u.frzs u.tbls (fun m' hm=>by
  obtain⟨o',es',ep',ho',r'⟩:=hm
  rw [ho] at ho';cases ho'
  exact⟨_,es',ep',hL,r'⟩) hok I.bare
theorem Inv.call {g':Array GenState}{t':Nat}{d':Drawn}{ch:List Addr}(I:Inv X pins σ H s)(u:Un (frs X.stack) ch H H' s.heap h')(hok:HOk X.prog X.w H' h')(hg:AllBare g')
  (hch:∀ b∈ch,(b∈X.ex∨X.s₀.heap.objs.size≤b)∧b≠X.env.locals∧(∀ x c,X.env.cells.lookup x=some c→c≠b) ∧ ∀ p∈X.pn++pins,p.1≠b) :
  Inv X pins σ H' { s with heap:=h',gens:=g',drawn:=d',toks:=t' }:=by
 obtain⟨m,⟨o,es,ep,ho,r⟩,_⟩:=id I.loc
 obtain⟨sl,hL⟩:=u.any ho I.free fun z=>(hch _ z).2.1 rfl
 exact I.step (ch:=ch) hch (fun b o hL hb hc e n=>u.keep b o e n (fun z=>(List.mem_cons.mp (I.stkSub b z)).elim hL hb) hc) (fun b o _ _ hc e n=>u.any e n hc) (fun b o hc e n=>u.free b o e n hc) (fun b o hc e=>u.there b o e hc) u.tups u.frzs u.tbls (fun m' hm=>by
  obtain⟨o',es',ep',ho',r'⟩:=hm
  rw [ho] at ho';cases ho'
  exact⟨_,es',ep',hL,r'⟩) hok hg
theorem Inv.turned {t':Nat}{it:Addr}(I:Inv X pins σ H s)(k:∀ b o,b≠it→s.heap.get? b=some o→h'.get? b=some o)(hn:H it=none)(hL:it≠X.env.locals)
  (h1:it∈X.ex∨X.s₀.heap.objs.size≤it) (h2:∀ x c,X.env.cells.lookup x=some c→c≠it) (h3:∀ p∈X.pn++pins,p.1≠it):Inv X pins σ H { s with heap:=h',toks:=t' }:=by
 have nit:∀ b u,H b=some u→b≠it:=fun b u e z=>by rw [z,hn] at e;cases e
 refine I.step (g':=s.gens) (d':=s.drawn) (ch:=[it]) (fun b hb => ?_) (fun b o _ _ hc e _=>k b o (fun z=>hc (by simp [z])) e) (fun b o _ _ hc e _=>⟨o.slots,k b o (fun z=>hc (by simp [z])) e⟩) (fun _ _ _ _ n=>n)
  (fun b o hc e=>⟨o,k b o (fun z=>hc (by simp [z])) e⟩) (fun _ _ e=>e) (fun _ _ _ e=>e) (fun b ps e=>⟨#[],by rw [e];simp⟩) (fun m hm => ?_) (fun b u e => ?_) I.bare
 ·have e:b=it:=by simpa using hb
  subst e
  exact⟨h1,hL,h2,h3⟩
 ·obtain⟨o,es,ep,ho,r⟩:=hm
  exact⟨o,es,ep,k _ o (Ne.symm hL) ho,r⟩
 ·refine (I.hok b u e).stay (fun c v hc q=>k c v ?_ q) (fun _ q=>q) fun _ _ q=>q
  rcases hc with z|z
  ·rw [z];exact nit b u e
  ·exact nit c _ z
theorem Inv.tok (I:Inv X pins σ H s)(t:Nat):Inv X pins σ H { s with toks:=t }:=I.un (h':=s.heap) (t':=t) Un.refl I.hok
theorem Inv.kept {t':Nat}(I:Inv X pins σ H s)(k:∀ b u,s.heap.get? b=some u→h'.get? b=some u):Inv X pins σ H { s with heap:=h',toks:=t' }:=I.un (Un.kept k) (I.hok.kept k)
theorem Inv.laid {a:Addr}{o:HO}{t':Nat}(I:Inv X pins σ H s)(k:∀ b u,s.heap.get? b=some u→h'.get? b=some u)(hp:s.heap.objs.size≤a)(new:cX X.prog X.w (upd H a o) h' a o) :
  Inv X pins σ (upd H a o) { s with heap:=h',toks:=t' }:=I.un (Un.laid k hp (I.hok.fresh hp)) (I.hok.laid k hp new)
theorem Inv.write {x e:Addr}{o:HO}{t':Nat}(I:Inv X pins σ H s)(mu:Mut (H x))(he:e=x∨H e=some (.own x))(k:∀ b u,b≠e→s.heap.get? b=some u→h'.get? b=some u)(heo:∃ u,h'.get? e=some u)
  (new:cX X.prog X.w (upd H x o) h' x o):Inv X pins σ (upd H x o) { s with heap:=h',toks:=t' }:=I.un (Un.write mu he k heo) (I.hok.write mu he k heo new)
theorem Inv.pins_of {pins':List (Addr × Obj)}(I:Inv X pins σ H s)(h:∀ p∈pins',s.heap.get? p.1=some p.2∧H p.1=none∧p.1≠X.env.locals∧p.1∉X.fs ∧ ∀ v,p.2.data ≠ .cell v):Inv X pins' σ H s :=
 ⟨I.ok,I.os,I.bare,I.base,I.loc,I.cell,I.free,I.freeC,fun p hp=>(List.mem_append.mp hp).elim (fun z=>I.pin p (List.mem_append_left _ z)) (h p),I.hok,I.len⟩
theorem pR {N:List Str}(hN:N.Nodup){i j:Nat}{x:Str}(a:N[i]? = some x)(b:N[j]? = some x):i=j:=by
 obtain⟨h1,e1⟩:=List.getElem?_eq_some_iff.mp a
 obtain⟨h2,e2⟩:=List.getElem?_eq_some_iff.mp b
 exact (List.getElem_inj hN).mp (e1.trans e2.symm)
theorem uQ {M:Model}{A:Around}{E:Value→Shared→Prop}{i:Nat}{x:Str}{v:V}{u:Value}{Q:Unit→Shared→Prop}(I:Inv X pins σ H s)(hN:X.N.Nodup)(hi:X.N[i]? = some x)(hx:Loc X.env.scope x)(r:bg v u)
  (h:∀ s',Inv X pins (σ.set i (some v)) H s'→(∃ a,Heap.SameBut a s.heap s'.heap∧(a=X.env.locals∨X.env.cells.lookup x=some a))→Q () s') (hf:X.fn x=true∨X.env.scope.names.lookup x=some .local:=by first|exact .inl rfl|exact .inr rfl|assumption):wpAny M A (storeName X.env x u) Q E s:=by
 obtain⟨m,hn,hl⟩:=id I.loc
 have hcls:(X.env.scope.kind == .class || (X.env.scope.kind == .module && X.env.locals != X.env.globals))=false:=by rw [I.ok.kind];rfl
 have hiσ:i < σ.length:=by rw [I.len];exact (List.getElem?_eq_some_iff.mp hi).1
 have cne:=I.cne
 have tracked:∀ {a:Addr} {h':Heap},(∃ o,s.heap.get? a=some o∧H a=none)→Heap.SameBut a s.heap h'→HOk X.prog X.w H h':=fun {a h'} ha hs b ob e=>by
  obtain⟨_,_,hfree⟩:=ha
  refine (I.hok b ob e).stay (fun c w' hc q=>(hs.2 c ?_).trans q) (fun _ q=>q) fun _ _ q=>q
  rintro rfl
  rcases hc with rfl|hc
  ·rw [hfree] at e;cases e
  ·rw [hfree] at hc;cases hc
 rcases hx with hk|hk
 ·refine wpAny_storeName_local hk hn (fun h' hn' hs => ?_) hcls
  obtain⟨oL,_,_,hoL,_⟩:=id hn
  refine h _ ⟨I.ok,I.os,I.bare,⟨fun b o e n hb hx => ?_,fun b o e n hb hx => ?_,I.base.free,fun b o e hx => ?_,I.base.tups,I.base.frzs,I.base.tbls⟩,⟨_,hn',fun j y v' e1 e2 e3 => ?_⟩,fun y c e => ?_,I.free,I.freeC,fun p hp => ?_,tracked ⟨oL,hoL,I.free⟩ hs,by simpa using I.len⟩ ⟨_,hs,.inl rfl⟩
  ·exact (hs.2 b (ZN (Nat.lt_of_lt_of_le (ZI e) I.ok.above))).trans (I.base.keep b o e n hb hx)
  ·obtain⟨sl,e1⟩:=I.base.slot b o e n hb hx
   exact⟨sl,(hs.2 b (ZN (Nat.lt_of_lt_of_le (ZI e) I.ok.above))).trans e1⟩
  ·obtain⟨o',e1⟩:=I.base.there b o e hx
   exact⟨o',(hs.2 b (ZN (Nat.lt_of_lt_of_le (ZI e) I.ok.above))).trans e1⟩
  ·by_cases hj:j=i
   ·subst hj
    rw [hi] at e1;cases e1
    rw [List.getElem?_set_self hiσ] at e2
    cases e2
    exact⟨u,r,.inl ⟨hk,by simp⟩⟩
   ·rw [ZP (Ne.symm hj)] at e2
    obtain⟨u',r',q⟩:=hl j y v' e1 e2 e3
    refine⟨u',r',?_⟩
    rcases q with ⟨k,e⟩|⟨k,c,e,z⟩
    ·refine .inl ⟨k,?_⟩
     have:y≠x:=fun e=>hj (pR hN e1 (e ▸ hi))
     simp [this,e]
    ·exact .inr ⟨k,c,e,z.sameBut hs (cne y c e)⟩
  ·obtain⟨w',z⟩:=I.cell y c e
   exact⟨w',z.sameBut hs (cne y c e)⟩
  ·obtain⟨e,n,ne,nf,d⟩:=I.pin p hp
   exact⟨(hs.2 p.1 ne).trans e,n,ne,nf,d⟩
 ·have hfn:X.fn x=true:=by
   rcases hf with z|z
   ·exact z
   ·rw [z] at hk;cases hk
  obtain⟨c,hc⟩:=I.ok.has x (.inl hk)
  obtain⟨w',z⟩:=I.cell x c hc
  refine wpAny_storeName_cell I.ok.kind hk hc z (fun h' hc' hs => ?_)
  obtain⟨oc,hoc,hocd⟩:=id z
  refine h { s with heap:=h' } ⟨I.ok,I.os,I.bare,⟨fun b o e n hb hx => ?_,fun b o e n hb hx => ?_,I.base.free,fun b o e hx => ?_,I.base.tups,I.base.frzs,I.base.tbls⟩,⟨m,hn.sameBut hs (Ne.symm (cne x c hc)),fun j y v' e1 e2 e3 => ?_⟩,fun y c' e => ?_,I.free,I.freeC,fun p hp => ?_,tracked ⟨oc,hoc,I.freeC x c hc⟩ hs,by simpa using I.len⟩ ⟨c,hs,.inr hc⟩
  ·exact (hs.2 b (ZN (Nat.lt_of_lt_of_le (ZI e) (I.ok.cab x c hfn hc)))).trans (I.base.keep b o e n hb hx)
  ·obtain⟨sl,e1⟩:=I.base.slot b o e n hb hx
   exact⟨sl,(hs.2 b (ZN (Nat.lt_of_lt_of_le (ZI e) (I.ok.cab x c hfn hc)))).trans e1⟩
  ·obtain⟨o',e1⟩:=I.base.there b o e hx
   exact⟨o',(hs.2 b (ZN (Nat.lt_of_lt_of_le (ZI e) (I.ok.cab x c hfn hc)))).trans e1⟩
  ·by_cases hj:j=i
   ·subst hj
    rw [hi] at e1;cases e1
    rw [List.getElem?_set_self hiσ] at e2
    cases e2
    exact⟨u,r,.inr ⟨.inl hk,c,hc,hc'⟩⟩
   ·rw [ZP (Ne.symm hj)] at e2
    obtain⟨u',r',q⟩:=hl j y v' e1 e2 e3
    refine⟨u',r',?_⟩
    rcases q with q|⟨k,c',e,z'⟩
    ·exact .inl q
    ·refine .inr ⟨k,c',e,z'.sameBut hs ?_⟩
     rintro rfl
     exact hj (pR hN e1 (I.ok.inj _ _ _ e hc ▸ hi))
  ·by_cases hcc:c'=c
   ·subst hcc;exact⟨_,hc'⟩
   ·obtain⟨w2,z2⟩:=I.cell y c' e
    exact⟨w2,z2.sameBut hs hcc⟩
  ·obtain⟨e,n,ne,nf,d⟩:=I.pin p hp
   refine⟨(hs.2 p.1 ?_).trans e,n,ne,nf,d⟩
   intro q
   rw [q,hoc] at e
   have q':oc=p.2:=ZT e
   exact d w' (by rw [← q'];exact hocd)
theorem pS {M:Model}{A:Around}{E:Value→Shared→Prop}{i:Nat}{x:Str}{v:V}{u:Value}{Q:Unit→Shared→Prop}(I:Inv X pins σ H s)(hN:X.N.Nodup)(hi:X.N[i]? = some x)(hx:Loc X.env.scope x)(r:bg v u)
  (h:∀ s',Inv X pins (σ.set i (some v)) H s'→Q () s') (hf:X.fn x=true∨X.env.scope.names.lookup x=some .local:=by first|exact .inl rfl|exact .inr rfl|assumption):wpAny M A (storeName X.env x u) Q E s :=
 uQ I hN hi hx r (fun s' I' _=>h s' I') hf
theorem Inv.call' {s':Shared}{ch:List Addr}(I:Inv X pins σ H s)(ho:s'.os=s.os)(u:Un (frs X.stack) ch H H' s.heap s'.heap)(hok:HOk X.prog X.w H' s'.heap)(hg:AllBare s'.gens)
  (hch:∀ b∈ch,(b∈X.ex∨X.s₀.heap.objs.size≤b)∧b≠X.env.locals∧(∀ x c,X.env.cells.lookup x=some c→c≠b) ∧ ∀ p∈X.pn++pins,p.1≠b):Inv X pins σ H' s':=by
 obtain⟨h',g',d',t',o'⟩:=s'
 have e:o'=s.os:=ho
 subst e
 exact I.call (g':=g') (t':=t') (d':=d') u hok hg hch
end
abbrev XK:=Value→Option Addr→Hp→Prop
abbrev St:=List (Option V)
abbrev VK:=V→Hp→Prop
abbrev TE:=St→Hp→VK→Prop
abbrev TT:=St→Hp→(Bool→Hp→Prop)→Prop
abbrev TA:=St→Hp→(List V→Hp→Prop)→Prop
structure fg where
 nx:St→Hp→Prop
 rt:VK
 bk:St→Hp→Prop:=fun _ _=>False
 ct:St→Hp→Prop:=fun _ _=>False
abbrev TS:=fg→St→Hp→Prop
def EP (X:Cx) (pins:List (Addr × Obj)) (σ:St) (Q:VK) (u:Value) (s':Shared):Prop:=∃ v H',Inv X pins σ H' s'∧bg v u∧Q v H'
def TP (X:Cx) (pins:List (Addr × Obj)) (σ:St) (Q:Bool→Hp→Prop) (b:Bool) (s':Shared):Prop:=∃ H',Inv X pins σ H' s'∧Q b H'
def AP (X:Cx) (pins:List (Addr × Obj)) (σ:St) (Q:List V→Hp→Prop) (us:List Value) (s':Shared):Prop:=∃ vs H',Inv X pins σ H' s'∧aI vs us∧Q vs H'
def SP (X:Cx) (pins:List (Addr × Obj)) (D:fg) (f:Flow) (s':Shared):Prop :=
 match f with
 | .next=>∃ σ' H',Inv X pins σ' H' s'∧D.nx σ' H'
 | .brk=>∃ σ' H',Inv X pins σ' H' s'∧D.bk σ' H'
 | .cont=>∃ σ' H',Inv X pins σ' H' s'∧D.ct σ' H'
 | .ret u=>∃ v σ' H',Inv X pins σ' H' s'∧bg v u∧D.rt v H'
def PE (X:Cx) (e:Expr) (t:TE):Prop :=
 ∀ (pins:List (Addr × Obj)) (s:Shared) (σ:St) (H:Hp) (Q:VK),Inv X pins σ H s→t σ H Q→wpAny (model X.prog X.w) X.A (eval e X.env) (EP X pins σ Q) X.xe s
def PT (X:Cx) (e:Expr) (t:TT):Prop :=
 ∀ (pins:List (Addr × Obj)) (s:Shared) (σ:St) (H:Hp) (Q:Bool→Hp→Prop),Inv X pins σ H s→t σ H Q→wpAny (model X.prog X.w) X.A (isTrue e X.env (eval e X.env)) (TP X pins σ Q) X.xe s
def PW (X:Cx) (e:Expr) (t:TT):Prop :=
 ∀ (whole:Sem Value) (pins:List (Addr × Obj)) (s:Shared) (σ:St) (H:Hp) (Q:Bool→Hp→Prop),Inv X pins σ H s→t σ H Q→wpAny (model X.prog X.w) X.A (isTrue e X.env whole) (TP X pins σ Q) X.xe s
theorem PW.pt {X:Cx}{e:Expr}{t:TT}(h:PW X e t):PT X e t:=h _
def PA (X:Cx) (es:List Expr) (t:TA):Prop :=
 ∀ (pos:Pos) (pins:List (Addr × Obj)) (s:Shared) (σ:St) (H:Hp) (Q:List V→Hp→Prop),Inv X pins σ H s→t σ H Q→wpAny (model X.prog X.w) X.A (spliced (backTo pos (starEach es X.env))) (AP X pins σ Q) X.xe s
def PS (X:Cx) (st:Stmt) (t:TS):Prop :=
 ∀ (pins:List (Addr × Obj)) (s:Shared) (σ:St) (H:Hp) (D:fg),Inv X pins σ H s→t D σ H→wpAny (model X.prog X.w) X.A (exec st X.env) (SP X pins D) X.xe s
def PSs (X:Cx) (st:List Stmt) (t:TS):Prop :=
 ∀ (pins:List (Addr × Obj)) (s:Shared) (σ:St) (H:Hp) (D:fg),Inv X pins σ H s→t D σ H→wpAny (model X.prog X.w) X.A (execs st X.env) (SP X pins D) X.xe s
theorem thn {α : Type}{t:Sem α}{Q Q' : α → Shared→Prop}{M:Model}{A:Around}{E:Value→Shared→Prop}{s:Shared}(h:wpAny M A t Q E s)(hQ:∀ a s,Q a s→Q' a s):wpAny M A t Q' E s:=wpAny_mono h hQ fun _ _ x=>x
end L2
namespace L2
open PySem PySem.Spec PyProof.Rows
section
variable {X:Cx}
theorem bin {a b:Expr}{ta tb:TE}(ha:PE X a ta)(hb:PE X b tb){pins:List (Addr × Obj)}{s:Shared}{σ:St}{H:Hp}{R:V→V→Hp→Prop}(I:Inv X pins σ H s)(h:ta σ H fun x H1=>tb σ H1 fun y H2=>R x y H2)
  {α : Type} {Q : α → Shared→Prop} {f:Value→Value→Sem α}
  (hf:∀ v u s2 x y H2,Inv X pins σ H2 s2→bg x v→bg y u→R x y H2→wpAny (model X.prog X.w) X.A (f v u) Q X.xe s2) :
  wpAny (model X.prog X.w) X.A (eval a X.env) (fun v s₁ => wpAny (model X.prog X.w) X.A (eval b X.env) (fun u s₂ => wpAny (model X.prog X.w) X.A (f v u) Q X.xe s₂) X.xe s₁) X.xe s:=by
 refine thn (ha pins s σ H _ I h) fun v s1 ⟨x,H1,I1,r1,q1⟩ => ?_
 refine thn (hb pins s1 σ H1 _ I1 q1) fun u s2 ⟨y,H2,I2,r2,q2⟩ => ?_
 exact hf v u s2 x y H2 I2 r1 r2 q2
def Pc (i:Nat):TE:=fun σ H Q=>∃ v,σ[i]? = some (some v)∧Q v H
def tC (v:V):TE:=fun _ H Q=>Q v H
theorem G1 {i:Nat} {x:Str} {pos:Pos} (hN:X.N[i]? = some x) (hv:Vis X.env.scope x) (hd:(x == ("__debug__" : Str))=false:=by decide) (hcd:(x == ("__classdict__" : Str))=false:=by decide):PE X (.Name x pos) (Pc i):=by
 intro pins s σ H Q I h
 obtain⟨v,e,h⟩:=h
 obtain⟨m,hn,hl⟩:=I.loc
 obtain⟨u,r,l⟩:=hl i x v hN e hv
 have fin:EP X pins σ Q u s:=⟨v,H,I,r,h⟩
 rcases l with ⟨hk,hm⟩|⟨hk,c,hc,hcell⟩
 ·exact wpAny_Name (wpAny_loadName_local I.ok.kind hk hn hm fin) hd
 ·rcases hk with hk|hk
  ·exact wpAny_Name (wpAny_loadName_cell I.ok.kind hk hc hcell fin) hd
  ·exact wpAny_Name (wpAny_loadName_free I.ok.kind hk hc hcell fin hcd) hd
theorem G3 {i j pos}:PE X (.Constant (.int i) j pos) (tC (.int i)):=fun _ _ _ H _ I h=>wpAny_Constant_int ⟨.int i,H,I.tok _,⟨_,rfl⟩,h⟩
theorem Pd {b j pos}:PE X (.Constant (.bool b) j pos) (tC (.bl b)):=fun _ _ _ H _ I h=>Constant_bool ⟨.bl b,H,I,rfl,h⟩
theorem MJ {j pos}:PE X (.Constant .none j pos) (tC .non):=fun _ _ _ H _ I h=>Constant_none ⟨.non,H,I,rfl,h⟩
theorem G4 {x j pos}:PE X (.Constant (.str x) j pos) (tC (.str x)):=fun _ _ _ H _ I h=>Calls.Constant_str ⟨.str x,H,I.tok _,⟨_,rfl⟩,h⟩
def Gl (X:Cx) (x:Str):Prop:=X.env.kindOf x=some .globalImplicit
theorem vU {E:Value→Shared→Prop}{pins:List (Addr × Obj)}{s:Shared}{σ:St}{H:Hp}{x:Str}{u:Value}{pos:Pos}{Q:Value→Shared→Prop}(I:Inv X pins σ H s)(hg:Gl X x)(hm:X.mg x=some u)(h:Q u s)
  (hd:(x == ("__debug__" : Str))=false:=by decide):wpAny (model X.prog X.w) X.A (eval (.Name x pos) X.env) Q E s :=
 Calls.Name_function_global I.ok.kind hg (Calls.loadGlobal_global (by rw [I.ok.glob];exact I.mod.glob.keeps I.bk) hm h) hd
theorem iS {E:Value→Shared→Prop}{pins:List (Addr × Obj)}{s:Shared}{σ:St}{H:Hp}{x:Str}{u:Value}{pos:Pos}{Q:Value→Shared→Prop}(I:Inv X pins σ H s)(hg:Gl X x)(hm:X.mg x=none)(hv:bootBuiltins x=some u)(h:Q u s)
  (hn:x ≠ "__name__" := by decide) (hd:(x == ("__debug__" : Str))=false:=by decide):wpAny (model X.prog X.w) X.A (eval (.Name x pos) X.env) Q E s:=by
 obtain⟨mb,h1,h2⟩:=I.mod.blt
 exact Calls.Name_function_global I.ok.kind hg (Calls.loadGlobal_builtin (by rw [I.ok.glob];exact I.mod.glob.keeps I.bk) hm (by rw [I.ok.blt];exact h1.keeps I.bk) ((h2 x hn).trans hv) h) hd
theorem eV {x:Str} {v:V} {u:Value} {pos:Pos} (hg:Gl X x) (hm:X.mg x=some u) (r:bg v u) (hd:(x == ("__debug__" : Str))=false:=by decide):PE X (.Name x pos) (tC v) :=
 fun _ _ _ H _ I h=>vU I hg hm ⟨v,H,I,r,h⟩ hd
theorem DW {x:Str} {v:V} {u:Value} {pos:Pos} (hg:Gl X x) (hm:X.mg x=none) (hv:bootBuiltins x=some u) (r:bg v u) (hn:x ≠ "__name__" := by decide) (hd:(x == ("__debug__" : Str))=false:=by decide):PE X (.Name x pos) (tC v) :=
 fun _ _ _ H _ I h=>iS I hg hm hv ⟨v,H,I,r,h⟩ hn hd
variable {a b:Expr} {ta tb:TE} {pos:Pos}
def tB (t:TE):TT:=fun σ H Q=>t σ H fun x H1=>∃ c,x=.bl c∧Q c H1
theorem MK {e:Expr}{t:TE}(h:PE X e t)(he:∀ whole,isTrue e X.env whole=(do let v ← whole;standAt e.pos;holding [v] (truthy v)):=by intro _;rfl):PT X e (tB t):=by
 intro pins s σ H Q I hw
 refine isTrue_plain (thn (h pins s σ H _ I hw) fun v s1 ⟨x,H1,I1,r1,q1⟩ => ?_) (he _)
 obtain⟨d,rfl,q⟩:=q1
 cases r1
 exact wpAny_truthy_bool ⟨H1,I1,q⟩
variable {tA tB':TT} {rest:List Expr}
def oY (t u:TT):TT:=fun σ H Q=>t σ H fun c H1=>if c=true then u σ H1 Q else Q false H1
def tOr (t u:TT):TT:=fun σ H Q=>t σ H fun c H1=>if c=true then Q true H1 else u σ H1 Q
def dq (t:TT):TT:=fun σ H Q=>t σ H fun c H1=>Q (!c) H1
theorem Kr (ha:PT X a tA):PW X (.BoolOp .And [a] pos) tA:=by
 intro wh pins s σ H Q I h
 refine isTrue_and (thn (ha pins s σ H Q I h) fun c s1 e => ?_)
 cases c with
 | true=>exact isTrue_and_nil e
 | false=>exact e
theorem ML (ha:PT X a tA):PW X (.BoolOp .Or [a] pos) tA:=by
 intro wh pins s σ H Q I h
 refine isTrue_or (thn (ha pins s σ H Q I h) fun c s1 e => ?_)
 cases c with
 | false=>exact isTrue_or_nil e
 | true=>exact e
theorem MM (ha:PT X a tA)(hb:PW X (.BoolOp .And (b :: rest) pos) tB'):PW X (.BoolOp .And (a :: b :: rest) pos) (oY tA tB'):=by
 intro wh pins s σ H Q I h
 refine isTrue_and (thn (ha pins s σ H _ I h) fun c s1 ⟨H1,I1,q1⟩ => ?_)
 cases c with
 | true=>exact hb wh pins s1 σ H1 Q I1 q1
 | false=>exact⟨H1,I1,q1⟩
theorem Pe (ha:PT X a tA)(hb:PW X (.BoolOp .Or (b :: rest) pos) tB'):PW X (.BoolOp .Or (a :: b :: rest) pos) (tOr tA tB'):=by
 intro wh pins s σ H Q I h
 refine isTrue_or (thn (ha pins s σ H _ I h) fun c s1 ⟨H1,I1,q1⟩ => ?_)
 cases c with
 | true=>exact⟨H1,I1,q1⟩
 | false=>exact hb wh pins s1 σ H1 Q I1 q1
theorem MN (ha:PT X a tA):PT X (.UnaryOp .Not a pos) (dq tA):=by
 intro pins s σ H Q I h
 exact isTrue_not (ha pins s σ H (fun c H1=>Q (!c) H1) I h)
def Pf (ta tb:TE):TE:=fun σ H Q=>ta σ H fun x H1=>∃ c,x=.bl c∧if c=true then tb σ H1 Q else Q (.bl false) H1
def Qx (ta tb:TE):TE:=fun σ H Q=>ta σ H fun x H1=>∃ c,x=.bl c∧if c=true then Q (.bl true) H1 else tb σ H1 Q
def Pg (ta:TE):TE:=fun σ H Q=>ta σ H fun x H1=>∃ c,x=.bl c∧Q (.bl (!c)) H1
theorem MP {op}{t:TE}(h:PE X a t):PE X (.BoolOp op [a] pos) t:=fun pins s σ H Q I hw=>BoolOp_one (h pins s σ H Q I hw)
theorem MR (ha:PE X a ta)(hb:PE X (.BoolOp .And (b :: rest) pos) tb):PE X (.BoolOp .And (a :: b :: rest) pos) (Pf ta tb):=by
 intro pins s σ H Q I h
 refine BoolOp_and (thn (ha pins s σ H _ I h) fun v s1 ⟨x,H1,I1,r1,q1⟩ => ?_)
 obtain⟨c,rfl,q1⟩:=q1
 cases r1
 refine wpAny_truthy_bool ?_
 cases c with
 | true=>exact hb pins s1 σ H1 Q I1 q1
 | false=>exact⟨.bl false,H1,I1,rfl,q1⟩
theorem Ph (ha:PE X a ta)(hb:PE X (.BoolOp .Or (b :: rest) pos) tb):PE X (.BoolOp .Or (a :: b :: rest) pos) (Qx ta tb):=by
 intro pins s σ H Q I h
 refine BoolOp_or (thn (ha pins s σ H _ I h) fun v s1 ⟨x,H1,I1,r1,q1⟩ => ?_)
 obtain⟨c,rfl,q1⟩:=q1
 cases r1
 refine wpAny_truthy_bool ?_
 cases c with
 | false=>exact hb pins s1 σ H1 Q I1 q1
 | true=>exact⟨.bl true,H1,I1,rfl,q1⟩
theorem MU (ha:PE X a ta):PE X (.UnaryOp .Not a pos) (Pg ta):=by
 intro pins s σ H Q I h
 refine UnaryOp_ (thn (ha pins s σ H _ I h) fun v s1 ⟨x,H1,I1,r1,q1⟩ => ?_)
 obtain⟨c,rfl,q1⟩:=q1
 cases r1
 exact not_of (wpAny_truthy_bool ⟨.bl (!c),H1,I1,rfl,q1⟩)
def tIf (t:TT) (ta tb:TE):TE:=fun σ H Q=>t σ H fun c H1=>if c=true then ta σ H1 Q else tb σ H1 Q
theorem G5 {c:Expr}(hc:PT X c tA)(ha:PE X a ta)(hb:PE X b tb):PE X (.IfExp c a b pos) (tIf tA ta tb):=by
 intro pins s σ H Q I h
 refine wpAny_IfExp (thn (hc pins s σ H _ I h) fun d s1 ⟨H1,I1,q1⟩ => ?_)
 cases d with
 | true=>exact ha pins s1 σ H1 Q I1 q1
 | false=>exact hb pins s1 σ H1 Q I1 q1
end
end L2
namespace L2
open PySem PySem.Spec PyProof.Rows
def SqL (K:ZX) (H:Hp) (a:Addr) (xs:List V):Prop :=
 Rd H a (.lst xs) ∨
  ∃ (o:Obj) (its:Array Value) (n:Nat),K.lookup a=some o∧o.cls=.type "list" ∧ o.dict=none∧o.data=.seq its n∧its.size≤sizeLine∧aI xs its.toList
def SqT (K:ZX) (H:Hp) (a:Addr) (xs:List V):Prop :=
 Rd H a (.tup xs) ∨
  ∃ (o:Obj) (its:Array Value) (n:Nat),K.lookup a=some o∧o.cls=.type "tuple" ∧ o.data=.seq its n∧its.size≤sizeLine∧aI xs its.toList
def Qy:Value→Option V
 | .none=>some .non
 | .bool b=>some (.bl b)
 | .int i _=>some (.int i)
 | .str x _=>some (.str x)
 | .bytes b _=>some (.byt b)
 | .float b _=>some (.flt b)
 | .ref a=>some (.ref a)
 | .type n=>some (.ty n)
 | _=>none
theorem bg.abs {x:V}{u:Value}(r:bg x u):Qy u=some x:=by
 cases x with
 | non=>cases r;rfl
 | bl _=>cases r;rfl
 | int _=>obtain⟨t,rfl⟩:=r;rfl
 | str _=>obtain⟨t,rfl⟩:=r;rfl
 | byt _=>obtain⟨t,rfl⟩:=r;rfl
 | flt _=>obtain⟨t,rfl⟩:=r;rfl
 | ref _=>cases r;rfl
 | ty _=>cases r;rfl
theorem bg.inj {x y:V}{u:Value}(r:bg x u)(q:bg y u):x=y:=ZT (r.abs.symm.trans q.abs)
theorem aI.inj:∀ {xs ys:List V} {us:List Value},aI xs us→aI ys us→xs=ys
 | _,_,_,.nil,.nil=>rfl
 | _,_,_,.cons r t,.cons r' t'=>by rw [r.inj r',aI.inj t t']
section
variable {X:Cx} {pins:List (Addr × Obj)} {σ:St} {H:Hp} {s:Shared} {a:Addr} {xs ys:List V}
theorem SqL.of {K:ZX}(h:H a=some (.lst xs)):SqL K H a xs:=.inl (.inl h)
theorem SqT.of {K:ZX}(h:H a=some (.tup xs)):SqT K H a xs:=.inl (.inl h)
theorem Inv.list (I:Inv X pins σ H s)(h:SqL X.K H a xs):∃ its:List Value,aI xs its∧PlainL s.heap a its.toArray∧xs.length≤sizeLine:=by
 rcases h with h|⟨o,its,n,hk,hc,hd,hs,hz,r⟩
 ·obtain⟨z,its,n,r,e⟩:=h.ok I.hok
  exact⟨its,r,⟨_,n,e,rfl,rfl,rfl⟩,z⟩
 ·refine⟨its.toList,r,⟨o,n,I.kIn a o hk,hc,hd,by simpa using hs⟩,?_⟩
  have e:=r.length
  simp only [Array.length_toList] at e
  omega
theorem Inv.tuple (I:Inv X pins σ H s)(h:SqT X.K H a xs):∃ its:List Value,aI xs its∧IsTup s.heap a its.toArray∧xs.length≤sizeLine:=by
 rcases h with h|⟨o,its,n,hk,hc,hs,hz,r⟩
 ·obtain⟨z,its,r,p⟩:=h.ok I.hok
  exact⟨its,r,p,z⟩
 ·refine⟨its.toList,r,⟨o,I.kIn a o hk,hc,n,by simpa using hs⟩,?_⟩
  have e:=r.length
  simp only [Array.length_toList] at e
  omega
theorem Inv.list_inj (I:Inv X pins σ H s)(h:SqL X.K H a xs)(h':SqL X.K H a ys):xs=ys:=by
 obtain⟨its,r,⟨o,n,e,_,_,d⟩,_⟩:=I.list h
 obtain⟨its',r',⟨o',n',e',_,_,d'⟩,_⟩:=I.list h'
 rw [e] at e';cases e'
 rw [d] at d'
 injection d' with d1 _
 have:its=its':=by simpa using congrArg Array.toList d1
 subst this
 exact r.inj r'
theorem Inv.tuple_inj (I:Inv X pins σ H s)(h:SqT X.K H a xs)(h':SqT X.K H a ys):xs=ys:=by
 obtain⟨its,r,⟨o,e,_,n,d⟩,_⟩:=I.tuple h
 obtain⟨its',r',⟨o',e',_,n',d'⟩,_⟩:=I.tuple h'
 rw [e] at e';cases e'
 rw [d] at d'
 injection d' with d1 _
 have:its=its':=by simpa using congrArg Array.toList d1
 subst this
 exact r.inj r'
end
abbrev Cx.wish (X:Cx) (E:Value→Shared→Prop):Cx:={ X with xe:=E }
abbrev Cx.nox (X:Cx):Cx:=X.wish fun _ _=>False
theorem Cx.Ok.wish {X:Cx}(ok:X.Ok)(E:Value→Shared→Prop):(X.wish E).Ok :=
 ⟨ok.mod,ok.kind,ok.glob,ok.blt,ok.above,ok.inj,ok.has,ok.cab,ok.hd,ok.frames,ok.stk,ok.exf,ok.bs,ok.bsz,ok.noex,ok.exfs,ok.funs,ok.frf⟩
theorem Cx.Ok.unwish {X:Cx}{E:Value→Shared→Prop}(ok:(X.wish E).Ok):X.Ok :=
 ⟨ok.mod,ok.kind,ok.glob,ok.blt,ok.above,ok.inj,ok.has,ok.cab,ok.hd,ok.frames,ok.stk,ok.exf,ok.bs,ok.bsz,ok.noex,ok.exfs,ok.funs,ok.frf⟩
section
variable {X:Cx} {pins:List (Addr × Obj)} {σ:St} {H:Hp} {s:Shared} {E:Value→Shared→Prop}
theorem Inv.wish (I:Inv X pins σ H s)(E:Value→Shared→Prop):Inv (X.wish E) pins σ H s:=⟨I.ok.wish E,I.os,I.bare,I.base,I.loc,I.cell,I.free,I.freeC,I.pin,I.hok,I.len⟩
theorem Inv.unwish (I:Inv (X.wish E) pins σ H s):Inv X pins σ H s:=⟨I.ok.unwish,I.os,I.bare,I.base,I.loc,I.cell,I.free,I.freeC,I.pin,I.hok,I.len⟩
theorem SP.unwish {D:fg}{f:Flow}{s':Shared}(h:SP (X.wish E) pins D f s'):SP X pins D f s':=by
 cases f with
 | next=>obtain⟨σ',H',I,q⟩:=h;exact⟨σ',H',I.unwish,q⟩
 | brk=>obtain⟨σ',H',I,q⟩:=h;exact⟨σ',H',I.unwish,q⟩
 | cont=>obtain⟨σ',H',I,q⟩:=h;exact⟨σ',H',I.unwish,q⟩
 | ret u=>obtain⟨v,σ',H',I,r,q⟩:=h;exact⟨v,σ',H',I.unwish,r,q⟩
theorem PSs.nox {st:List Stmt}{t:TS}(h:PSs X.nox st t):PSs X st t:=fun pins s σ H D I hw =>
 wpAny_mono (h pins s σ H D (I.wish _) hw) (fun _ _ q=>q.unwish) fun _ _ z=>False.elim z
end
section
variable {X:Cx} {st:Stmt} {rest:List Stmt} {t u:TS} {e:Expr} {te:TE} {pos:Pos}
def Pi:TS:=fun D σ H=>D.nx σ H
def Qz (t u:TS):TS:=fun D σ H=>t { D with nx:=u D } σ H
theorem vV:PSs X [] Pi:=fun _ _ σ H _ I h=>wpAny_execs_nil ⟨σ,H,I,h⟩
theorem yN (h1:PS X st t)(h2:PSs X rest u):PSs X (st :: rest) (Qz t u):=by
 intro pins s σ H D I h
 refine wpAny_execs_cons (thn (h1 pins s σ H { D with nx:=u D } I h) fun f s1 q => ?_)
 cases f with
 | next =>
  obtain⟨σ',H',I',q⟩:=q
  exact h2 pins s1 σ' H' D I' q
 | ret v=>exact q
 | brk=>exact q
 | cont=>exact q
theorem vW (h1:PS X st t):PSs X [st] t:=by
 intro pins s σ H D I h
 refine wpAny_execs_cons (thn (h1 pins s σ H D I h) fun f s1 q => ?_)
 cases f with
 | next=>exact wpAny_execs_nil q
 | ret v=>exact q
 | brk=>exact q
 | cont=>exact q
theorem Inv.quiet {pins:List (Addr × Obj)}{σ:St}{H:Hp}{s:Shared}(I:Inv X pins σ H s):interactive X.env=false:=by simp [interactive,I.ok.kind]
def Pj (te:TE):TS:=fun D σ H=>te σ H fun _ H1=>D.nx σ H1
theorem Ks (he:PE X e te)(hs:swapsWith e none pos.line X.env=pure false:=by rfl):PS X (.Expr e pos) (Pj te):=by
 intro pins s σ H D I h
 exact wpAny_Expr_any (thn (he pins s σ H _ I h) fun v s1 ⟨x,H1,I1,r1,q1⟩=>⟨σ,H1,I1,q1⟩) I.quiet hs
def QA (te:TE):TS:=fun D σ H=>te σ H D.rt
theorem MV (he:PE X e te):PS X (.Return (some e) pos) (QA te):=by
 intro pins s σ H D I h
 exact wpAny_Return_some (thn (he pins s σ H _ I h) fun v s1 ⟨x,H1,I1,r1,q1⟩=>⟨x,σ,H1,I1,r1,q1⟩)
def QB (c:TT) (t u:TS):TS:=fun D σ H=>c σ H fun b H1=>if b=true then t D σ H1 else u D σ H1
theorem Md {c:Expr}{a b:List Stmt}{tc:TT}(hc:PT X c tc)(ha:PSs X a t)(hb:PSs X b u):PS X (.If c a b pos) (QB tc t u):=by
 intro pins s σ H D I h
 refine wpAny_If (thn (hc pins s σ H _ I h) fun d s1 ⟨H1,I1,q1⟩ => ?_)
 cases d with
 | true=>exact ha pins s1 σ H1 D I1 q1
 | false=>exact hb pins s1 σ H1 D I1 q1
def G6:TS:=fun _ _ _=>False
theorem G7:PS X st G6:=fun _ _ _ _ _ _ h=>h.elim
theorem EX {sts:List Stmt}:PSs X sts G6:=fun _ _ _ _ _ _ h=>h.elim
end
abbrev TG:=V→St→Hp→(St→Hp→Prop)→Prop
abbrev TGs:=List V→St→Hp→(St→Hp→Prop)→Prop
def PG (X:Cx) (target:Expr) (t:TG):Prop :=
 ∀ (pins:List (Addr × Obj)) (s:Shared) (σ:St) (H:Hp) (v:V) (u:Value) (Q:St→Hp→Prop),Inv X pins σ H s→bg v u→t v σ H Q →
  wpAny (model X.prog X.w) X.A (assign target X.env u) (fun _ s'=>∃ σ' H',Inv X pins σ' H' s'∧Q σ' H') X.xe s
def PGs (X:Cx) (ts:List Expr) (t:TGs):Prop :=
 ∀ (pins:List (Addr × Obj)) (s:Shared) (σ:St) (H:Hp) (vs:List V) (us:List Value) (Q:St→Hp→Prop),Inv X pins σ H s→aI vs us→t vs σ H Q →
  wpAny (model X.prog X.w) X.A (assignInOrder ((assignEach ts X.env).map (·.2)) us) (fun _ s'=>∃ σ' H',Inv X pins σ' H' s'∧Q σ' H') X.xe s
abbrev MY:=V→V→V→Hp→(Hp→Prop)→Prop
def MZ (X:Cx) (t:MY):Prop :=
 ∀ (pins:List (Addr × Obj)) (s:Shared) (σ:St) (H:Hp) (o i v:V) (ov iv u:Value) (Q:Hp→Prop),Inv X pins σ H s→bg o ov→bg i iv→bg v u→t o i v H Q →
  wpAny (model X.prog X.w) X.A (setItem ov iv u) (fun _ s'=>∃ H',Inv X pins σ H' s'∧Q H') X.xe s
section
variable {X:Cx} {pos:Pos}
def G8 (i:Nat):TG:=fun v σ H Q=>Q (σ.set i (some v)) H
theorem Kt {i:Nat}{x:Str}(hN:X.N.Nodup)(hi:X.N[i]? = some x)(hx:Loc X.env.scope x)(hf:X.fn x=true∨X.env.scope.names.lookup x=some .local:=by first|exact .inl rfl|exact .inr rfl|assumption):PG X (.Name x pos) (G8 i):=by
 intro pins s σ H v u Q I r h
 exact wpAny_assign_Name (pS I hN hi hx r (fun s' I'=>⟨_,H,I',h⟩) hf)
def QC:TGs:=fun vs σ H Q=>vs=[]∧Q σ H
def Pk (t:TG) (u:TGs):TGs:=fun vs σ H Q=>∃ v r,vs=v :: r∧t v σ H fun σ' H'=>u r σ' H' Q
theorem Ku:PGs X [] QC:=by
 intro pins s σ H vs us Q I r h
 obtain⟨e,h⟩:=h
 subst e
 cases r
 exact assignInOrder_nil ⟨σ,H,I,h⟩
theorem G9 {e:Expr}{es:List Expr}{t:TG}{u:TGs}(h1:PG X e t)(h2:PGs X es u)
  (hs:(assignEach (e :: es) X.env).map (·.2)=assign e X.env :: (assignEach es X.env).map (·.2):=by rfl):PGs X (e :: es) (Pk t u):=by
 intro pins s σ H vs us Q I r h
 obtain⟨v,vr,e1,h⟩:=h
 subst e1
 cases r with
 | cons r rr =>
  rw [hs]
  refine assignInOrder_cons (thn (h1 pins s σ H _ _ _ I r h) fun _ s1 ⟨σ1,H1,I1,q1⟩ => ?_)
  exact h2 pins s1 σ1 H1 _ _ Q I1 rr q1
def QD (K:ZX) (n:Nat) (t:TGs):TG:=fun v σ H Q=>∃ a xs,v=.ref a∧SqT K H a xs∧xs.length=n∧t xs σ H Q
theorem M0 {es:List Expr}{k:Nat}{t:TGs}{n:Nat}(hc:X.calm=true)(h:PGs X es t)
  (hn:(assignEach es X.env).length=n:=by rfl) (hst:(assignEach es X.env).findIdx? (·.1)=none:=by rfl):PG X (.Tuple es k pos) (QD X.K n t):=by
 intro pins s σ H v u Q I r hw
 obtain⟨a,xs,e1,hq,hl,hw⟩:=hw
 subst e1
 cases r
 obtain⟨its,rv,ht,hz⟩:=I.tuple hq
 refine assign_Tuple_tuple (I.ok.hd hc) ht (by simp [hn,← hl,rv.length]) hst fun h' hx => ?_
 have I1:Inv X pins σ H { s with heap:=h' }:=I.kept (t':=s.toks) fun b o e=>hx b o (ZN (ZI e)) e
 exact h pins _ σ H xs _ Q I1 (by simpa using rv) hw
def QE (to ti:TE) (t:MY):TG:=fun v σ H Q=>to σ H fun o H1=>ti σ H1 fun i H2=>t o i v H2 fun H3=>Q σ H3
theorem A9 {o i:Expr}{to ti:TE}{t:MY}(ho:PE X o to)(hi:PE X i ti)(hs:MZ X t)
  (ha:∀ v,assign (.Subscript o i pos) X.env v=(do
   let ov ← holding [v] (eval o X.env)
   let iv ← holding [v,ov] (eval i X.env)
   standAt pos
   holding [v,ov,iv] (setItem ov iv v)
   release [v,ov,iv] []):=by intro _;rfl):PG X (.Subscript o i pos) (QE to ti t):=by
 intro pins s σ H v u Q I r h
 rw [ha]
 refine wpAny_bind (wpAny_holding (thn (ho pins s σ H _ I h) fun ov s1 ⟨x,H1,I1,r1,q1⟩ => ?_))
 refine wpAny_bind (wpAny_holding (thn (hi pins s1 σ H1 _ I1 q1) fun iv s2 ⟨y,H2,I2,r2,q2⟩ => ?_))
 refine wpAny_bind (wpAny_standAt (wpAny_bind (wpAny_holding (thn (hs pins s2 σ H2 x y v ov iv u _ I2 r1 r2 r q2) fun _ s3 ⟨H3,I3,q3⟩ => ?_))))
 exact wpAny_release ⟨σ,H3,I3,q3⟩
def M3 (te:TE) (g:TG):TS:=fun D σ H=>te σ H fun x H1=>g x σ H1 D.nx
theorem Ba {tg e:Expr}{te:TE}{g:TG}(he:PE X e te)(hg:PG X tg g)(hs:swapsWithSole [tg] e pos.line X.env=pure false:=by rfl)(hw:swappedStores [tg] e X.env=pure none:=by rfl)
  (h1:(assignEach [tg] X.env).map (·.2)=[assign tg X.env]:=by rfl):PS X (.Assign [tg] e pos) (M3 te g):=by
 intro pins s σ H D I h
 refine wpAny_Assign_stores (thn (he pins s σ H _ I h) fun v s1 ⟨x,H1,I1,r1,q1⟩ => ?_) hs hw
 rw [h1]
 exact thn (hg pins s1 σ H1 x v _ I1 r1 q1) fun _ s2 q=>q
theorem Bb {i:Nat}{x:Str}{e:Expr}{te:TE}{pos':Pos}(hN:X.N.Nodup)(hi:X.N[i]? = some x)(hx:Loc X.env.scope x)(he:PE X e te)(hs:swapsWith e (some (.Name x pos')) pos.line X.env=pure false:=by rfl)(hf:X.fn x=true∨X.env.scope.names.lookup x=some .local:=by first|exact .inl rfl|exact .inr rfl|assumption) :
  PS X (.Assign [.Name x pos'] e pos) (M3 te (G8 i)):=by
 intro pins s σ H D I h
 refine wpAny_Assign_Name (thn (he pins s σ H _ I h) fun v s1 ⟨y,H1,I1,r1,q1⟩ => ?_) hs
 exact pS I1 hN hi hx r1 (fun s2 I2=>⟨_,H1,I2,q1⟩) hf
end
section
variable {X:Cx} {pos:Pos}
def M4 (c:TT) (tb:TS):TS:=fun D σ H=>∃ W:Nat→St→Hp→Prop,(∃ m,W m σ H) ∧ ∀ m σ H,W m σ H →
 c σ H fun b H1=>if b=true then ∃ N:St→Hp→Prop,(∀ σ' H',N σ' H' → ∃ m',m' < m∧W m' σ' H')∧tb { D with nx:=N,ct:=N,bk:=D.nx } σ H1 else D.nx σ H1
theorem Ha {c:Expr}{body:List Stmt}{tc:TT}{tb:TS}(hp:PassesOwn (model X.prog X.w) X.A X.env X.xe)(hc:PT X c tc)(hb:PSs X body tb):PS X (.While c body [] pos) (M4 tc tb):=by
 intro pins s σ H D I h
 obtain⟨W,⟨m0,w0⟩,turn⟩:=h
 refine wpAny_While (codeAny_whileLoop (fun n s'=>∃ σ' H',Inv X pins σ' H' s'∧W n σ' H') ?_ m0 ⟨σ,H,I,w0⟩)
 rintro n s1 ⟨σ1,H1,I1,w1⟩
 refine wpAny_passesOwn hp (thn (hc pins s1 σ1 H1 _ I1 (turn n σ1 H1 w1)) fun b s2 ⟨H2,I2,q2⟩ => ?_)
 cases b with
 | true =>
  obtain⟨N,hN,q2⟩:=q2
  rw [if_pos rfl]
  refine wpAny_passesOwn hp (thn (hb pins s2 σ1 H2 _ I2 q2) fun f s3 q3 => ?_)
  cases f with
  | next =>
   obtain⟨σ3,H3,I3,n3⟩:=q3
   obtain⟨m',hm,w3⟩:=hN σ3 H3 n3
   exact⟨m',hm,σ3,H3,I3,w3⟩
  | cont =>
   obtain⟨σ3,H3,I3,n3⟩:=q3
   obtain⟨m',hm,w3⟩:=hN σ3 H3 n3
   exact⟨m',hm,σ3,H3,I3,w3⟩
  | brk=>exact q3
  | ret v=>exact q3
 | false =>
  rw [if_neg Bool.false_ne_true]
  exact wpAny_execs_nil ⟨σ1,H2,I2,q2⟩
end
structure It where
 go:Nat→Hp→Prop
 yld:Nat→Hp→V→Hp→Prop
 stop:Nat→Hp→Prop
def sw (X:Cx) (pins:List (Addr × Obj)) (H:Hp) (b:Addr):Prop :=
 H b=none∧b≠X.env.locals∧b∉X.fs∧(b∈X.ex∨X.s₀.heap.objs.size≤b)∧(∀ x c,X.env.cells.lookup x=some c→c≠b) ∧ ∀ p∈X.pn++pins,p.1≠b
theorem Inv.fpOk {X:Cx}{pins:List (Addr × Obj)}{σ:St}{H H':Hp}{s:Shared}{b:Addr}(I:Inv X pins σ H s)(hb:s.heap.objs.size≤b)(hn:H' b=none):sw X pins H' b:=by
 refine⟨hn,Nat.ne_of_gt (Nat.lt_of_lt_of_le I.lt hb),I.nofs hb,.inr (ZM I.sz hb),fun x c e z => ?_,fun p hp z => ?_⟩
 ·obtain⟨v,q⟩:=I.cell x c e
  exact absurd (Nat.lt_of_lt_of_le q.lt (by rw [z];exact hb)) (Nat.lt_irrefl _)
 ·exact absurd (Nat.lt_of_lt_of_le (ZI (I.pin p hp).1) (by rw [z];exact hb)) (Nat.lt_irrefl _)
structure Bc (P:Program) (w:World) (K:ZX) (tg:Expr) (J:It) (fp:List Addr) (it:Addr) (tn:Nat→Heap→Prop):Prop where
 mem:it∈fp
 obj:∀ i h,tn i h → ∀ b∈fp,∃ o,h.get? b=some o ∧ ∀ v,o.data ≠ .cell v
 keep:∀ i h h',tn i h→(∀ b∈fp,∀ o,h.get? b=some o→h'.get? b=some o)→tn i h'
 item:∀ (X:Cx),X.prog=P→X.w=w→X.K=K→X.calm=true → ∀ (i:Nat) (pins:List (Addr × Obj)) (s:Shared) (σ:St) (H:Hp) (E:Value→Shared→Prop),Inv X pins σ H s→(∀ b∈fp,sw X pins H b)→tn i s.heap→J.go i H →
  wpAny (model P w) X.A (pyNext (.ref it)) (fun r s1=>∃ u,r=some u ∧
   wpAny (model P w) X.A (letOwnedTupleGo tg (.ref it) u) (fun _ s2=>∃ x H',Inv X pins σ H' s2∧bg x u∧J.yld i H x H'∧tn (i + 1) s2.heap ∧ ∀ b∈fp,H' b=none) E s1) E s
 done:∀ (X:Cx),X.prog=P→X.w=w→X.K=K→X.calm=true → ∀ (i:Nat) (pins:List (Addr × Obj)) (s:Shared) (σ:St) (H:Hp) (E:Value→Shared→Prop),Inv X pins σ H s→(∀ b∈fp,sw X pins H b)→tn i s.heap→J.stop i H →
  wpAny (model P w) X.A (pyNext (.ref it)) (fun r s1=>r=none∧Inv X pins σ H s1) E s
 self:∀ (A:Around) (i:Nat) (s:Shared) (Q:Value→Shared→Prop) (E:Value→Shared→Prop),tn i s.heap→Q (.ref it) s→wpAny (model P w) A (pyIter (.ref it)) Q E s
abbrev TI:=St→Hp→(It→Hp→Prop)→Prop
def PIE (X:Cx) (pins:List (Addr × Obj)) (σ:St) (tg:Expr) (R:It→Hp→Prop) (itv:Value) (s2:Shared):Prop :=
 ∃ (it:Addr) (fp:List Addr) (tn:Nat→Heap→Prop) (J:It) (H':Hp),itv=.ref it∧Inv X pins σ H' s2∧Bc X.prog X.w X.K tg J fp it tn∧tn 0 s2.heap∧(∀ b∈fp,sw X pins H' b)∧R J H'
def PI (X:Cx) (tg iter:Expr) (wi:TI):Prop :=
 ∀ (pins:List (Addr × Obj)) (s:Shared) (σ:St) (H:Hp) (R:It→Hp→Prop),Inv X pins σ H s→wi σ H R →
  wpAny (model X.prog X.w) X.A (eval iter X.env) (fun v s1=>wpAny (model X.prog X.w) X.A (pyIter v) (PIE X pins σ tg R) X.xe s1) X.xe s
theorem Hb {M:Model}{A:Around}{E:Value→Shared→Prop}{s:Shared}{tg:Expr}{it:Addr}{u:Value}{o:Obj}{n:String}{vs:Array Value}{Q:Unit→Shared→Prop}(ho:s.heap.get? it=some o)(hc:o.cls=.type n)(hd:o.data=.fields vs)
  (hn : ["enumerate", "zip", "dict_itemiterator", "dict_reverseitemiterator", "odict_iterator", "itertools.zip_longest", "itertools.pairwise"].contains n=false) (hQ:Q () s):wpAny M A (letOwnedTupleGo tg (.ref it) u) Q E s:=by
 unfold letOwnedTupleGo
 cases tg<;>first
  | exact wpAny_pure hQ
  | (cases u<;>first
    | exact wpAny_pure hQ
    | (refine wpAny_bind (wpAny_load ho ?_)
       rw [hc,hd]
       show wpAny M A (if (["enumerate", "zip", "dict_itemiterator", "dict_reverseitemiterator", "odict_iterator", "itertools.zip_longest", "itertools.pairwise"].contains n && vs[0]? == some (rawInt _))=true then _ else _) Q E s
       rw [if_neg (by intro h;rw [hn,Bool.false_and] at h;cases h)]
       exact wpAny_pure hQ))
def Itl (K:ZX) (a:Addr):It :=
 ⟨fun i H=>∃ xs x,SqL K H a xs∧xs[i]? = some x,fun i H x H'=>H'=H ∧ ∀ xs,SqL K H a xs→xs[i]? = some x,fun i H=>∃ xs,SqL K H a xs∧xs.length≤i⟩
def Itt (K:ZX) (a:Addr):It :=
 ⟨fun i H=>∃ xs x,SqT K H a xs∧xs[i]? = some x,fun i H x H'=>H'=H ∧ ∀ xs,SqT K H a xs→xs[i]? = some x,fun i H=>∃ xs,SqT K H a xs∧xs.length≤i⟩
def Itr (lo:Int) (n:Nat):It:=⟨fun i _=>i < n,fun i H x H'=>H'=H∧x=.int (lo + i),fun i _=>n≤i⟩
theorem EY {P:Program}{w:World}{K:ZX}{tg:Expr}(a it:Addr):Bc P w K tg (Itl K a) [it] it (fun i h=>h.IsListIter it a i) where
 mem:=by simp
 obj:=fun i h st b hb=>by
  have e:b=it:=by simpa using hb
  subst e
  obtain⟨o,e,c,d⟩:=st
  exact⟨o,e,fun v z=>by rw [d] at z;cases z⟩
 keep:=fun i h h' st k=>st.at fun o e=>k it (by simp) o e
 item:=by
  intro X hP hw hK hc i pins s σ H E I hf st hg
  subst hP hw hK
  obtain⟨xs,x,hq,hx⟩:=hg
  obtain⟨its,rv,p,hz⟩:=I.list hq
  obtain⟨u,hu,ru⟩:=rv.get hx
  obtain⟨f0,f1,f2,f3,f4,f5⟩:=hf it (by simp)
  refine wpAny_pyNext_list_item st p.isList (x:=u) (by simpa using hu) fun h' st' sb => ?_
  have I1:Inv X pins σ H { s with heap:=h' }:=I.turned (t':=s.toks) (fun b o hb e=>(sb.2 b hb).trans e) f0 f1 f3 f4 f5
  obtain⟨o,e,c,d⟩:=id st'
  exact⟨u,rfl,Hb (s:={ s with heap:=h' }) e c d (by decide) ⟨x,H,I1,ru,⟨rfl,fun ys hy=>by rw [I.list_inj hy hq];exact hx⟩,st',fun b hb=>(hf b hb).1⟩⟩
 done:=by
  intro X hP hw hK hc i pins s σ H E I hf st hg
  subst hP hw hK
  obtain⟨xs,hq,hx⟩:=hg
  obtain⟨its,rv,p,hz⟩:=I.list hq
  obtain⟨f0,f1,f2,f3,f4,f5⟩:=hf it (by simp)
  have hl:=rv.length
  exact wpAny_pyNext_list_end (I.ok.hd hc) st p.isList (by simp;omega) fun h' eb=>⟨rfl,I.turned (t':=s.toks) (fun b o hb e=>eb b o hb e) f0 f1 f3 f4 f5⟩
 self:=fun _ _ _ _ _ st h=>wpAny_pyIter_listiter st h
theorem Bd {P:Program}{w:World}{K:ZX}{tg:Expr}(a it:Addr):Bc P w K tg (Itt K a) [it] it (fun i h=>h.IsTupleIter it a i) where
 mem:=by simp
 obj:=fun i h st b hb=>by
  have e:b=it:=by simpa using hb
  subst e
  obtain⟨o,e,c,d⟩:=st
  exact⟨o,e,fun v z=>by rw [d] at z;cases z⟩
 keep:=fun i h h' st k=>st.at fun o e=>k it (by simp) o e
 item:=by
  intro X hP hw hK hc i pins s σ H E I hf st hg
  subst hP hw hK
  obtain⟨xs,x,hq,hx⟩:=hg
  obtain⟨its,rv,p,hz⟩:=I.tuple hq
  obtain⟨u,hu,ru⟩:=rv.get hx
  obtain⟨f0,f1,f2,f3,f4,f5⟩:=hf it (by simp)
  refine wpAny_pyNext_tuple_item st (show s.heap.IsTuple a its.toArray from p) (x:=u) (by simpa using hu) fun h' st' sb => ?_
  have I1:Inv X pins σ H { s with heap:=h' }:=I.turned (t':=s.toks) (fun b o hb e=>(sb.2 b hb).trans e) f0 f1 f3 f4 f5
  obtain⟨o,e,c,d⟩:=id st'
  exact⟨u,rfl,Hb (s:={ s with heap:=h' }) e c d (by decide) ⟨x,H,I1,ru,⟨rfl,fun ys hy=>by rw [I.tuple_inj hy hq];exact hx⟩,st',fun b hb=>(hf b hb).1⟩⟩
 done:=by
  intro X hP hw hK hc i pins s σ H E I hf st hg
  subst hP hw hK
  obtain⟨xs,hq,hx⟩:=hg
  obtain⟨its,rv,p,hz⟩:=I.tuple hq
  obtain⟨f0,f1,f2,f3,f4,f5⟩:=hf it (by simp)
  have hl:=rv.length
  exact wpAny_pyNext_tuple_end (I.ok.hd hc) st (show s.heap.IsTuple a its.toArray from p) (by simp;omega) fun h' eb=>⟨rfl,I.turned (t':=s.toks) (fun b o hb e=>eb b o hb e) f0 f1 f3 f4 f5⟩
 self:=fun _ _ _ _ _ st h=>wpAny_pyIter_tupleiter st h
theorem Be {P:Program}{w:World}{K:ZX}{tg:Expr}(it:Addr)(lo:Int)(n:Nat):Bc P w K tg (Itr lo n) [it] it (fun i h=>IsRangeIter h it (lo + (i:Nat) * 1) ((n:Int) - (i:Nat)) 1) where
 mem:=by simp
 obj:=fun i h st b hb=>by
  have e:b=it:=by simpa using hb
  subst e
  exact⟨_,st,fun v z=>by
   have z':Data.fields _=Data.cell v:=z
   cases z'⟩
 keep:=fun i h h' st k=>k it (by simp) _ st
 item:=by
  intro X hP hw hK hc i pins s σ H E I hf st hg
  subst hP hw hK
  obtain⟨f0,f1,f2,f3,f4,f5⟩:=hf it (by simp)
  have W:=Walks.range (prog:=X.prog) (w:=X.w) (I.ok.hd hc) it lo 1 n
  refine W.item i s _ _ hg st fun v h' tk hv st' kk => ?_
  obtain⟨t,rfl⟩:=hv
  have I1:Inv X pins σ H { s with heap:=h',toks:=tk }:=I.turned (fun b o hb e=>kk b o (by simpa using hb) e) f0 f1 f3 f4 f5
  refine⟨_,rfl,Hb (s:={ s with heap:=h',toks:=tk }) (n := "range_iterator") st' rfl rfl (by decide) ⟨.int (lo + i),H,I1,⟨t,?_⟩,⟨rfl,rfl⟩,st',fun b hb=>(hf b hb).1⟩⟩
  rw [Int.mul_one]
 done:=by
  intro X hP hw hK hc i pins s σ H E I hf st hg
  subst hP hw hK
  obtain⟨f0,f1,f2,f3,f4,f5⟩:=hf it (by simp)
  exact wpAny_pyNext_range_end (I.ok.hd hc) st (by have:n≤i:=hg;omega) fun h' eb=>⟨rfl,I.turned (t':=s.toks) (fun b o hb e=>eb b o hb e) f0 f1 f3 f4 f5⟩
 self:=fun _ _ _ _ _ st h=>wpAny_pyIter_rangeiter st h
end L2
namespace L2
open PySem PySem.Spec PyProof.Rows
section
variable {X:Cx} {tg:Expr}
theorem yO {pins:List (Addr × Obj)}{σ:St}{H:Hp}{s:Shared}{R:It→Hp→Prop}{E:Value→Shared→Prop}{lo hi:Int}{t u v:Tok}{tk:Nat}(I:Inv X pins σ H s)(h1 : -(2 ^ 62)≤lo)(h2:lo < 2 ^ 62)(h3 : -(2 ^ 62)≤hi)(h4:hi < 2 ^ 62)
  (q:R (Itr lo (hi - lo).toNat) H):wpAny (model X.prog X.w) X.A (pyIter (.ref s.heap.objs.size)) (PIE X pins σ tg R) E { s with heap:=s.heap.push { cls:=.type "range",data:=.fields #[.int lo t,.int hi u,.int 1 v] },toks:=tk }:=by
 refine wpAny_pyIter_range (IsRange.new ..) (small_one h1 h2 h3 h4) ?_
 have I1:Inv X pins σ H { s with heap:=s.heap.push { cls:=.type "range",data:=.fields #[.int lo t,.int hi u,.int 1 v] },toks:=tk }:=I.kept fun b o e=>ZH _ e
 refine⟨(s.heap.push { cls:=.type "range",data:=.fields #[.int lo t,.int hi u,.int 1 v] }).objs.size,[(s.heap.push { cls:=.type "range",data:=.fields #[.int lo t,.int hi u,.int 1 v] }).objs.size],_,_,H,rfl,
  I1.kept (t':=tk) fun b o e=>ZH _ e,Be _ lo (hi - lo).toNat,?_,fun b hb => ?_,q⟩
 ·have e1:lo + ((0:Nat):Int) * 1=lo:=by simp
  have e2:(((hi - lo).toNat:Nat):Int) - ((0:Nat):Int)=Builtin.Range.rangeSize lo hi 1:=by rw [rangeSize_one];split<;>omega
  show IsRangeIter _ _ (lo + ((0:Nat):Int) * 1) ((((hi - lo).toNat:Nat):Int) - ((0:Nat):Int)) 1
  rw [e1,e2]
  exact ZJ _ rfl
 ·have e:b=(s.heap.push { cls:=.type "range",data:=.fields #[.int lo t,.int hi u,.int 1 v] }).objs.size:=by simpa using hb
  subst e
  exact I1.fpOk (ZL _) (I1.hok.fresh (ZL _))
def Pl (ta:TA):TI:=fun σ H R=>ta σ H fun vs H1=>∃ j:Int,vs=[.int j] ∧ -(2 ^ 62)≤j∧j < 2 ^ 62∧R (Itr 0 j.toNat) H1
def Pm (ta:TA):TI:=fun σ H R=>ta σ H fun vs H1=>∃ i j:Int,vs=[.int i,.int j]∧(-(2 ^ 62)≤i∧i < 2 ^ 62 ∧ -(2 ^ 62)≤j∧j < 2 ^ 62)∧R (Itr i (j - i).toNat) H1
theorem EZ {a:Expr} {ta:TA} {p pos:Pos} (hg:Gl X "range") (hm:X.mg "range" = none) (ha:PA X [a] ta) (hs:starEach [a] X.env=[(false,eval a X.env)]:=by rfl):PI X tg (.Call (.Name "range" p) [a] [] pos) (Pl ta):=by
 intro pins s σ H R I h
 refine Call_ (iS I hg hm boot_range (PyProof.Rows.callWith_type1 (thn (ha pos pins s σ H _ I h) fun us s1 ⟨vs,H1,I1,r1,q1⟩ => ?_) hs rfl))
 obtain⟨j,e,q1,q2,q⟩:=q1
 subst e
 cases r1 with
 | cons r rr =>
  cases rr
  obtain⟨t,rfl⟩:=r
  exact call_range_1 (yO I1 (by omega) (by omega) q1 q2 (by simpa using q))
theorem E1 {a b:Expr} {ta:TA} {p pos:Pos} (hg:Gl X "range") (hm:X.mg "range" = none) (ha:PA X [a,b] ta) (hs:starEach [a,b] X.env=[(false,eval a X.env),(false,eval b X.env)]:=by rfl) (hs2:starEach [b] X.env=[(false,eval b X.env)]:=by rfl) :
  PI X tg (.Call (.Name "range" p) [a,b] [] pos) (Pm ta):=by
 intro pins s σ H R I h
 refine Call_ (iS I hg hm boot_range (PyProof.Rows.callWith_type1 (thn (ha pos pins s σ H _ I h) fun us s1 ⟨vs,H1,I1,r1,q1⟩ => ?_) (by rw [hs,hs2]) (by rw [hs2];rfl)))
 obtain⟨i,j,e,⟨q1,q2,q3,q4⟩,q⟩:=q1
 subst e
 cases r1 with
 | cons r rr =>
  cases rr with
  | cons r' rr =>
   cases rr
   obtain⟨t,rfl⟩:=r
   obtain⟨t',rfl⟩:=r'
   exact call_range_2 (yO I1 q1 q2 q3 q4 q)
def QF (wi:TI) (g:TG) (tb:TS):TS:=fun D σ H=>wi σ H fun J H1=>∃ W:Nat→Nat→St→Hp→Prop,(∃ m,W 0 m σ H1) ∧ ∀ i m σ H,W i m σ H →
 (J.stop i H∧D.nx σ H)∨(J.go i H ∧ ∃ N:St→Hp→Prop,(∀ σ' H',N σ' H' → ∃ m',m' < m∧W (i + 1) m' σ' H') ∧ ∀ x H',J.yld i H x H'→g x σ H' fun σ2 H2=>tb { D with nx:=N,ct:=N,bk:=D.nx } σ2 H2)
def pT (fp:List Addr) (h:Heap):List (Addr × Obj):=fp.filterMap fun b=>(h.get? b).map fun o=>(b,o)
theorem iT {fp:List Addr}{h:Heap}{b:Addr}{o:Obj}(hb:b∈fp)(e:h.get? b=some o):(b,o)∈pT fp h:=List.mem_filterMap.mpr ⟨b,hb,by rw [e];rfl⟩
theorem E2 {fp:List Addr}{h:Heap}{p:Addr × Obj}(hp:p∈pT fp h):p.1∈fp∧h.get? p.1=some p.2:=by
 obtain⟨b,hb,e⟩:=List.mem_filterMap.mp hp
 cases q:h.get? b with
 | none=>rw [q] at e;cases e
 | some o =>
  rw [q] at e
  have e':(b,o)=p:=ZT e
  subst e'
  exact⟨hb,q⟩
theorem Inv.pinned {pins:List (Addr × Obj)}{σ:St}{H:Hp}{s:Shared}{fp:List Addr}(I:Inv X pins σ H s)(hf:∀ b∈fp,sw X pins H b)(ho:∀ b∈fp,∃ o,s.heap.get? b=some o ∧ ∀ v,o.data ≠ .cell v):Inv X (pins++pT fp s.heap) σ H s :=
 I.pins_of fun p hp=>(List.mem_append.mp hp).elim (fun z=>I.pin p (List.mem_append_right _ z)) fun z=>by
  obtain⟨hb,e⟩:=E2 z
  obtain⟨f0,f1,f2,_⟩:=hf p.1 hb
  obtain⟨o,e',d⟩:=ho p.1 hb
  rw [e] at e';cases e'
  exact⟨e,f0,f1,f2,d⟩
theorem Inv.unpinned {pins pl:List (Addr × Obj)}{σ:St}{H:Hp}{s:Shared}(I:Inv X (pins++pl) σ H s):Inv X pins σ H s:=I.pins_of fun p hp=>I.pin p (List.mem_append_right _ (List.mem_append_left _ hp))
theorem M5 {iter:Expr}{body:List Stmt}{wi:TI}{g:TG}{tb:TS}{pos:Pos}(hp:PassesOwn (model X.prog X.w) X.A X.env X.xe)(hc:X.calm=true)(hi:PI X tg iter wi)(hg:PG X tg g)(hb:PSs X body tb)
  (hs:∀ x,foldedSetIterable iter X.env x=pure x:=by intro _;rfl):PS X (.For tg iter body [] pos) (QF wi g tb):=by
 intro pins s σ H D I h
 refine wpAny_For (thn (hi pins s σ H _ I h) fun v s1 h1=>thn h1 fun itv s2 h2 => ?_) hs
 obtain⟨it,fp,tn,J,H2,e,I2,T,st2,f2,W,⟨m0,w0⟩,turn⟩:=h2
 subst e
 have stat:∀ {H':Hp},(∀ b∈fp,H' b=none) → ∀ b∈fp,sw X pins H' b:=fun hn b hb=>⟨hn b hb,(f2 b hb).2⟩
 refine codeAny_forLoop_any (fun n s'=>∃ i σ' H',Inv X pins σ' H' s'∧tn i s'.heap∧(∀ b∈fp,H' b=none)∧W i n σ' H') ?_ m0 ⟨0,σ,H2,I2,st2,fun b hb=>(f2 b hb).1,w0⟩
 rintro n s3 ⟨i,σ3,H3,I3,st3,fr3,w3⟩
 rcases turn i n σ3 H3 w3 with ⟨stop,qn⟩|⟨go,N,hN,step⟩
 ·refine wpAny_passesOwn hp (thn (T.done X rfl rfl rfl hc i pins s3 σ3 H3 X.xe I3 (stat fr3) st3 stop) fun r s4 ⟨hr,I4⟩ => ?_)
  subst hr
  exact wpAny_execs_nil ⟨σ3,H3,I4,qn⟩
 ·refine wpAny_passesOwn hp (thn (T.item X rfl rfl rfl hc i pins s3 σ3 H3 X.xe I3 (stat fr3) st3 go) fun r s4 ⟨u,hr,h4⟩ => ?_)
  subst hr
  refine wpAny_passesOwn hp (thn h4 fun _ s5 ⟨x,H5,I5,r5,y5,st5,fr5⟩ => ?_)
  have I5':=I5.pinned (stat fr5) (T.obj _ _ st5)
  refine wpAny_passesOwn hp (thn (hg _ s5 σ3 H5 x u _ I5' r5 (step x H5 y5)) fun _ s6 ⟨σ6,H6,I6,q6⟩ => ?_)
  refine wpAny_passesOwn hp (thn (hb _ s6 σ6 H6 _ I6 q6) fun f s7 q7 => ?_)
  have again:∀ {σ7:St} {H7:Hp},Inv X (pins++pT fp s5.heap) σ7 H7 s7→N σ7 H7 → ∃ m,m < n ∧ ∃ i σ' H',Inv X pins σ' H' s7∧tn i s7.heap∧(∀ b∈fp,H' b=none)∧W i m σ' H':=fun {σ7 H7} I7 n7=>by
   obtain⟨m',hm,w7⟩:=hN σ7 H7 n7
   refine⟨m',hm,i + 1,σ7,H7,I7.unpinned,T.keep _ _ _ st5 fun b hb o e=>(I7.pin (b,o) (List.mem_append_right _ (List.mem_append_right _ (iT hb e)))).1,fun b hb => ?_,w7⟩
   obtain⟨o,e,d⟩:=T.obj _ _ st5 b hb
   exact (I7.pin (b,o) (List.mem_append_right _ (List.mem_append_right _ (iT hb e)))).2.1
  cases f with
  | next=>obtain⟨σ7,H7,I7,n7⟩:=q7;exact again I7 n7
  | cont=>obtain⟨σ7,H7,I7,n7⟩:=q7;exact again I7 n7
  | brk=>obtain⟨σ7,H7,I7,q7⟩:=q7;exact⟨σ7,H7,I7.unpinned,q7⟩
  | ret v=>obtain⟨x7,σ7,H7,I7,r7,q7⟩:=q7;exact⟨x7,σ7,H7,I7.unpinned,r7,q7⟩
end
end L2
namespace L2
open PySem PySem.Spec PyProof.Rows
abbrev R2:=V→V→Hp→VK→Prop
def OpR (X:Cx) (f:Value→Value→Sem Value) (r:R2):Prop :=
 ∀ (pins:List (Addr × Obj)) (s:Shared) (σ:St) (H:Hp) (x y:V) (v u:Value) (Q:VK),Inv X pins σ H s→bg x v→bg y u→r x y H Q →
  wpAny (model X.prog X.w) X.A (f v u) (EP X pins σ Q) X.xe s
def UnR (X:Cx) (f:Value→Sem Value) (r:V→Hp→VK→Prop):Prop :=
 ∀ (pins:List (Addr × Obj)) (s:Shared) (σ:St) (H:Hp) (x:V) (v:Value) (Q:VK),Inv X pins σ H s→bg x v→r x H Q →
  wpAny (model X.prog X.w) X.A (f v) (EP X pins σ Q) X.xe s
def ig (X:Cx) (f:Value) (r:List V→Hp→VK→Prop):Prop :=
 ∀ (pins:List (Addr × Obj)) (s:Shared) (σ:St) (H:Hp) (xs:List V) (us:List Value) (Q:VK),Inv X pins σ H s→aI xs us→r xs H Q →
  wpAny (model X.prog X.w) X.A (call f us) (EP X pins σ Q) X.xe s
def tOp (r:R2) (ta tb:TE):TE:=fun σ H Q=>ta σ H fun x H1=>tb σ H1 fun y H2=>r x y H2 Q
def tUn (r:V→Hp→VK→Prop) (ta:TE):TE:=fun σ H Q=>ta σ H fun x H1=>r x H1 Q
def rI (C:Int→Int→Prop) (g:Int→Int→V):R2:=fun x y H Q=>∃ i j,x=.int i∧y=.int j∧C i j∧Q (g i j) H
def rI0 (g:Int→Int→V):R2:=fun x y H Q=>∃ i j,x=.int i∧y=.int j∧Q (g i j) H
def rU (g:Int→V):V→Hp→VK→Prop:=fun x H Q=>∃ i,x=.int i∧Q (g i) H
section
variable {X:Cx} {a b c:Expr} {ta tb tc:TE} {pos:Pos}
theorem yP (ha:PE X a ta)(hb:PE X b tb){pins:List (Addr × Obj)}{s:Shared}{σ:St}{H:Hp}{R:V→V→Hp→Prop}(I:Inv X pins σ H s)
  (h:ta σ H fun x H1=>tb σ H1 fun y H2=>R x y H2) {Q:Value→Shared→Prop} {f:Value→Value→Sem Value}
  (hf:∀ v u s2 x y H2,Inv X pins σ H2 s2→bg x v→bg y u→R x y H2→wpAny (model X.prog X.w) X.A (f v u) Q X.xe s2) :
  wpAny (model X.prog X.w) X.A (eval a X.env) (fun v s₁ => wpAny (model X.prog X.w) X.A (eval b X.env) (fun u s₂ => wpAny (model X.prog X.w) X.A (f v u) Q X.xe s₂) X.xe s₁) X.xe s:=by
 refine thn (ha pins s σ H _ I h) fun v s1 ⟨x,H1,I1,r1,q1⟩ => ?_
 refine thn (hb pins s1 σ H1 _ I1 q1) fun u s2 ⟨y,H2,I2,r2,q2⟩ => ?_
 exact hf v u s2 x y H2 I2 r1 r2 q2
theorem Hc {op:Operator}{r:R2}(ho:OpR X (binaryOp op) r)(ha:PE X a ta)(hb:PE X b tb):PE X (.BinOp a op b pos) (tOp r ta tb):=by
 intro pins s σ H Q I h
 exact wpAny_BinOp (yP ha hb I h fun v u s2 x y H2 I2 rx ry q=>ho pins s2 σ H2 x y v u Q I2 rx ry q)
theorem Pn {op:UnaryOp}{r:V→Hp→VK→Prop}(ho:UnR X (unaryOp op) r)(ha:PE X a ta):PE X (.UnaryOp op a pos) (tUn r ta):=by
 intro pins s σ H Q I h
 exact UnaryOp_ (thn (ha pins s σ H _ I h) fun v s1 ⟨x,H1,I1,r1,q1⟩=>ho pins s1 σ H1 x v Q I1 r1 q1)
theorem opI {f:Value→Value→Sem Value}{C:Int→Int→Prop}{g:Int→Int→Int}
  (rule:∀ (i j:Int) (t u:Tok) (s:Shared) (Q:Value→Shared→Prop) (E:Value→Shared→Prop),C i j→Q (.int (g i j) s.toks) { s with toks:=s.toks + 1 } → wpAny (model X.prog X.w) X.A (f (.int i t) (.int j u)) Q E s) :
  OpR X f (rI C fun i j=>.int (g i j)):=by
 intro pins s σ H x y v u Q I rx ry h
 obtain⟨i,j,rfl,rfl,hc,q⟩:=h
 obtain⟨t,rfl⟩:=rx
 obtain⟨t',rfl⟩:=ry
 exact rule i j t t' s _ _ hc ⟨.int (g i j),H,I.tok _,⟨_,rfl⟩,q⟩
theorem Po {f:Value→Value→Sem Value}{g:Int→Int→Int}
  (rule:∀ (i j:Int) (t u:Tok) (s:Shared) (Q:Value→Shared→Prop) (E:Value→Shared→Prop),Q (.int (g i j) s.toks) { s with toks:=s.toks + 1 } → wpAny (model X.prog X.w) X.A (f (.int i t) (.int j u)) Q E s) :
  OpR X f (rI0 fun i j=>.int (g i j)):=by
 intro pins s σ H x y v u Q I rx ry h
 obtain⟨i,j,rfl,rfl,q⟩:=h
 obtain⟨t,rfl⟩:=rx
 obtain⟨t',rfl⟩:=ry
 exact rule i j t t' s _ _ ⟨.int (g i j),H,I.tok _,⟨_,rfl⟩,q⟩
theorem M6 {f:Value→Value→Sem Value}{g:Int→Int→Bool}
  (rule:∀ (i j:Int) (t u:Tok) (s:Shared) (Q:Value→Shared→Prop) (E:Value→Shared→Prop),Q (.bool (g i j)) s→wpAny (model X.prog X.w) X.A (f (.int i t) (.int j u)) Q E s) :
  OpR X f (rI0 fun i j=>.bl (g i j)):=by
 intro pins s σ H x y v u Q I rx ry h
 obtain⟨i,j,rfl,rfl,q⟩:=h
 obtain⟨t,rfl⟩:=rx
 obtain⟨t',rfl⟩:=ry
 exact rule i j t t' s _ _ ⟨.bl (g i j),H,I,rfl,q⟩
def Kv (i j:Int):Prop:=(-(2 ^ 64) < i∧i < 2 ^ 64)∨(-(2 ^ 64) < j∧j < 2 ^ 64)
theorem Kv.ok {i j:Int}(h:Kv i j):IntMulOk i j:=by
 rcases h with ⟨h1,h2⟩|⟨h1,h2⟩
 ·exact .of_left (intBits_le_64 h1 h2)
 ·exact .of_right (intBits_le_64 h1 h2)
theorem M7:OpR X (binaryOp .Add) (rI0 fun i j=>.int (i + j)):=Po fun _ _ _ _ _ _ _ q=>add_int q
theorem gY:OpR X (binaryOp .Sub) (rI0 fun i j=>.int (i - j)):=Po fun _ _ _ _ _ _ _ q=>sub_int q
theorem mK:OpR X (binaryOp .Mult) (rI Kv fun i j=>.int (i * j)):=opI fun _ _ _ _ _ _ _ hc q=>mul_int q hc.ok
theorem Bf:OpR X (binaryOp .Mod) (rI (fun _ j=>0 < j) fun i j=>.int (i % j)):=opI fun i j _ _ _ _ _ hc q=>by
 have h1:(0:Int) < j:=hc
 exact mod_int' (by omega) (by rw [Int.fmod_eq_emod_of_nonneg i (by omega)];exact q)
theorem unI {f:Value→Sem Value}{g:Int→Int}
  (rule:∀ (i:Int) (t:Tok) (s:Shared) (Q:Value→Shared→Prop) (E:Value→Shared→Prop),Q (.int (g i) s.toks) { s with toks:=s.toks + 1 } → wpAny (model X.prog X.w) X.A (f (.int i t)) Q E s) :
  UnR X f (rU fun i=>.int (g i)):=by
 intro pins s σ H x v Q I rx h
 obtain⟨i,rfl,q⟩:=h
 obtain⟨t,rfl⟩:=rx
 exact rule i t s _ _ ⟨.int (g i),H,I.tok _,⟨_,rfl⟩,q⟩
theorem M8:UnR X (unaryOp .USub) (rU fun i=>.int (-i)):=unI fun _ _ _ _ _ q=>neg_int q
end
section
variable {X:Cx} {a b c:Expr} {ta tb tc:TE} {pos:Pos}
theorem He {pins:List (Addr × Obj)}{σ:St}{H:Hp}{s:Shared}{Q:VK}{k k':Bool}(I:Inv X pins σ H s)(q:Q (.bl k) H)(e:k=k'):EP X pins σ Q (.bool k') s:=by
 subst e
 exact⟨.bl k,H,I,rfl,q⟩
theorem Me:OpR X (compareOp .Lt) (rI0 fun i j=>.bl (decide (i < j))):=M6 fun _ _ _ _ _ _ _ q=>lt_int q
theorem Mf:OpR X (compareOp .LtE) (rI0 fun i j=>.bl (decide (i≤j))):=M6 fun _ _ _ _ _ _ _ q=>le_int q
theorem Hf:OpR X (compareOp .Gt) (rI0 fun i j=>.bl (decide (j < i))):=M6 fun _ _ _ _ _ _ _ q=>gt_int q
theorem kQ:OpR X (compareOp .Is) (fun x y H Q=>y=.non∧Q (.bl (decide (x=.non))) H):=by
 intro pins s σ H x y v u Q I rx ry h
 obtain⟨rfl,q⟩:=h
 cases ry
 refine is_none_gen (He I q ?_)
 cases x<;>first
  | (cases rx;rfl)
  | (obtain⟨t,rfl⟩:=rx;rfl)
theorem DX:OpR X (compareOp .IsNot) (fun x y H Q=>y=.non∧Q (.bl (!decide (x=.non))) H):=by
 intro pins s σ H x y v u Q I rx ry h
 obtain⟨rfl,q⟩:=h
 cases ry
 refine isnot_none_gen (He I q ?_)
 cases x<;>first
  | (cases rx;rfl)
  | (obtain⟨t,rfl⟩:=rx;rfl)
theorem OpR.or {f:Value→Value→Sem Value}{r r':R2}(h:OpR X f r)(h':OpR X f r'):OpR X f (fun x y H Q=>r x y H Q∨r' x y H Q):=by
 intro pins s σ H x y v u Q I rx ry q
 rcases q with q|q
 ·exact h pins s σ H x y v u Q I rx ry q
 ·exact h' pins s σ H x y v u Q I rx ry q
theorem aV (b:Expr){op:CmpOp}(h:op ≠ .In:=by decide)(h2:op ≠ .NotIn:=by decide):behindInMarks op b=false:=by
 have e1:(op == CmpOp.In)=false:=by cases op<;>first|rfl|exact absurd rfl h
 have e2:(op == CmpOp.NotIn)=false:=by cases op<;>first|rfl|exact absurd rfl h2
 cases b<;>simp [behindInMarks,e1,e2]
theorem Kw {op:CmpOp}{r:R2}(ho:OpR X (compareOp op) r)(ha:PE X a ta)(hb:PE X b tb)(hm:behindInMarks op b=false):PE X (.Compare a [op] [b] pos) (tOp r ta tb):=by
 intro pins s σ H Q I h
 exact wpAny_Compare1 (yP ha hb I h fun v u s2 x y H2 I2 rx ry q=>ho pins s2 σ H2 x y v u Q I2 rx ry q) hm
def Pp (t:TE):TT:=fun σ H Q=>t σ H fun x H'=>∃ k,x=.bl k∧Q k H'
theorem Kx {op:CmpOp}{r:R2}(ho:OpR X (compareOp op) r)(ha:PE X a ta)(hb:PE X b tb)(hm:behindInMarks op b=false):PT X (.Compare a [op] [b] pos) (Pp (tOp r ta tb)):=by
 intro pins s σ H Q I h
 refine wpAny_isTrue_Compare1 (thn (ha pins s σ H _ I h) fun v s1 ⟨x,H1,I1,r1,q1⟩=>thn (hb pins s1 σ H1 _ I1 q1) fun u s2 ⟨y,H2,I2,r2,q2⟩ =>
  thn (ho pins s2 σ H2 x y v u _ I2 r1 r2 q2) fun c s3 ⟨z,H3,I3,r3,k,e,q3⟩ => ?_) hm
 subst e
 cases r3
 exact wpAny_truthy_bool ⟨H3,I3,q3⟩
def Hg (r r':R2) (ta tb tc:TE):TE:=fun σ H Q=>ta σ H fun x H1=>tb σ H1 fun y H2=>r x y H2 fun z H3=>∃ k,z=.bl k ∧
 (if k=true then tc σ H3 fun w' H4=>r' y w' H4 Q else Q (.bl false) H3)
theorem Hh {op op':CmpOp}{r r':R2}(ho:OpR X (compareOp op) r)(ho':OpR X (compareOp op') r')(ha:PE X a ta)(hb:PE X b tb)(hc:PE X c tc)
  (hm:lastMarks [op,op'] [b,c] = false:=by with_unfolding_all rfl):PE X (.Compare a [op,op'] [b,c] pos) (Hg r r' ta tb tc):=by
 intro pins s σ H Q I h
 refine Compare_chain (thn (ha pins s σ H _ I h) fun v s1 ⟨x,H1,I1,r1,q1⟩=>chain_link (thn (hb pins s1 σ H1 _ I1 q1) fun u s2 ⟨y,H2,I2,r2,q2⟩ =>
  thn (ho pins s2 σ H2 x y v u _ I2 r1 r2 q2) fun d s3 ⟨z,H3,I3,r3,k,e,q3⟩ => ?_)) hm
 subst e
 cases r3
 refine wpAny_truthy_bool ?_
 cases k with
 | false=>exact ite_ff ⟨.bl false,H3,I3,rfl,q3⟩
 | true=>exact ite_tt (chain_last (thn (hc pins s3 σ H3 _ I3 q3) fun w' s4 ⟨z',H4,I4,r4,q4⟩=>ho' pins s4 σ H4 y z' u w' Q I4 r2 r4 q4))
theorem mL:(sizeLine:Nat) < 2 ^ 63:=by rw [sizeLine_eq];decide
theorem yQ {x:V}{us:List Value}(r:aI [x] us):∃ u,us=[u]∧bg x u:=by
 cases r with
 | cons r1 r2=>cases r2;exact⟨_,rfl,r1⟩
theorem E3:ig X (.type "int") (fun xs H Q=>(∃ i,xs=[.int i]∧Q (.int i) H) ∨ ∃ k,xs=[.bl k]∧Q (.int (if k then 1 else 0)) H):=by
 intro pins s σ H xs us Q I r h
 rcases h with ⟨i,rfl,q⟩|⟨k,rfl,q⟩
 ·obtain⟨u,rfl,t,rfl⟩:=yQ r
  exact call_int_int ⟨.int i,H,I,⟨_,rfl⟩,q⟩
 ·obtain⟨u,rfl,r1⟩:=yQ r
  cases r1
  exact call_int_bool ⟨.int (if k then 1 else 0),H,I.tok _,⟨_,rfl⟩,q⟩
end
end L2
namespace L2
open PySem PySem.Spec PyProof.Rows
structure Q6 (h:Heap) (x dx C:Addr) (mA:Str→Option Value):Prop where
 obj:h.get? x=some (PySem.W.instObj C dx)
 ns:h.Ns1 dx mA
 ne:dx≠x
section
variable {prog:Program} {w:World} {A:Around} {E:Value→Shared→Prop} {s:Shared} {K:ZX} {x dx C f:Addr} {mA:Str→Option Value} {name:Str} {v:Value}
end
theorem su.some_of {v:V}{o:Option Value}(r:su (some v) o):∃ u,o=some u∧bg v u:=by
 cases o with
 | none=>exact (show False from r).elim
 | some u=>exact⟨u,rfl,r⟩
section
variable {P:Program} {w:World} {H H':Hp} {h h':Heap} {a C dx:Addr} {fs fs':List (Str × V)}
end
structure Cls (K:ZX) (C:Addr):Prop where
 pg:PySem.W.plainGet K C Str.empty=true
 hd:PySem.W.hasDictIn K C=true
 po:PySem.W.plainOver K C=true
 sa:PySem.W.findIn K (.ref C) "__setattr__" = some (some (.builtin "object.__setattr__"))
structure Con (K:ZX) (C:Addr) (f:Str) (v:V) (u:Value):Prop where
 at_:PySem.W.findIn K (.ref C) f=some (some u)
 rel:bg v u
 get:PySem.W.specialIn K u "__get__" = some none
 cp:PySem.W.copiedNames.contains f=false
structure Q7 (K:ZX) (C:Addr) (m:Str) (f:Addr):Prop where
 at_:PySem.W.findIn K (.ref C) m=some (some (.ref f))
 fn:PySem.W.isFn K (.ref f)=true
 kp:PySem.W.keepIn K (.ref f)=true
section
variable {X:Cx} {pins:List (Addr × Obj)} {σ:St} {H:Hp} {s:Shared} {a C dx:Addr} {fs:List (Str × V)} {f:Str} {v:V} {A:Around} {E:Value→Shared→Prop}
end
section
variable {X:Cx} {o e value:Expr} {f:Str} {pos pos' tpos:Pos} {ta tv:TE}
end
section
variable {X:Cx} {pins:List (Addr × Obj)} {σ:St} {H:Hp} {s:Shared} {A:Around} {E:Value→Shared→Prop} {Q:Value→Shared→Prop} {c:Value} {b:Bool}
inductive pU (K:ZX) (H:Hp):V→Value→Prop where
 | non:pU K H .non (.type "NoneType")
 | bl (x:Bool):pU K H (.bl x) (.type "bool")
 | int (i:Int):pU K H (.int i) (.type "int")
 | str (x:Str):pU K H (.str x) (.type "str")
 | flt (x:UInt64):pU K H (.flt x) (.type "float")
 | lst {a:Addr} {xs:List V} (e:H a=some (.lst xs)):pU K H (.ref a) (.type "list")
 | frz {a:Addr} {o:Obj} {xs:List V} (e:H a=some (.frz o (.lst xs))):pU K H (.ref a) (.type "list")
 | tup {a:Addr} {xs:List V} (e:H a=some (.tup xs)):pU K H (.ref a) (.type "tuple")
 | dK {a:Addr} {kvs:List (Key × V)} (e:H a=some (.dK kvs)):pU K H (.ref a) (.type "dict")
 | dT {a:Addr} {kvs:List (List Key × V)} (e:H a=some (.dT kvs)):pU K H (.ref a) (.type "dict")
 | ins {a C dx:Addr} {fs:List (Str × V)} (e:H a=some (.ins C dx fs)) (cl:Cls K C) (ha:PySem.W.findIn K (.ref C) "__class__" = some (some (.builtin "object.__class__")))
   (hn:PySem.W.specialIn K (.builtin "object.__class__") "__get__" = some (some (.builtin "getset_descriptor.__get__"))) (htk:PySem.W.takesIn K (.builtin "object.__class__")=some true)
   (hm:PySem.W.mroIn K C (.type "object")=some true):pU K H (.ref a) (.ref C)
end
end L2
namespace L2
open PySem PySem.Spec PyProof.Rows
structure gF (k:Nat) (A:Around):Prop where
 hd:A.handled=none
 dp:A.depth + 3 * k + 5 < recursionLimit
 un:A.units + 16 * k + 200 < cLine
 gd:A.guards=some []
theorem gF.mono {j k:Nat}{A:Around}(r:gF k A)(h:j≤k):gF j A:=⟨r.hd,by have:=r.dp;omega,by have:=r.un;omega,r.gd⟩
theorem gF.deeper {k:Nat}{A:Around}(r:gF (k + 1) A)(env:Env):gF k (A.deeper env) :=
 ⟨r.hd,by have:=r.dp;show A.depth + 1 + 3 * k + 5 < _;omega,by have:=r.un;show A.units + 3 + 16 * k + 200 < _;omega,r.gd⟩
theorem gF.depth {k:Nat}{A:Around}(r:gF k A):A.depth < recursionLimit:=by have:=r.dp;omega
def Pq:TA:=fun _ H Q=>Q [] H
def Mg (ta:TE) (tr:TA):TA:=fun σ H Q=>ta σ H fun x H1=>tr σ H1 fun xs H2=>Q (x :: xs) H2
section
variable {X:Cx} {e:Expr} {es:List Expr} {te:TE} {t:TA} {pos:Pos}
theorem dX:PA X [] Pq:=fun _ _ _ _ H Q I h=>Calls.spliced_nil ⟨[],H,I,.nil,h⟩
theorem cf (ha:PE X e te)(hr:PA X es t)(hs:starEach (e :: es) X.env=(false,eval e X.env) :: starEach es X.env:=by rfl):PA X (e :: es) (Mg te t):=by
 intro pos pins s σ H Q I h
 rw [hs]
 show wpAny _ _ (spliced ((false,eval e X.env) :: backTo pos (starEach es X.env))) _ _ s
 refine Calls.spliced_cons (thn (ha pins s σ H _ I h) fun u s1 ⟨x,H1,I1,r1,q1⟩ => ?_)
 exact thn (hr pos pins s1 σ H1 _ I1 q1) fun us s2 ⟨xs,H2,I2,r2,q2⟩=>⟨x :: xs,H2,I2,.cons r1 r2,q2⟩
def QG (t:TA):TE:=fun σ H Q=>t σ H fun xs H1=>xs.length≤sizeLine ∧ ∀ p,H1 p=none→Q (.ref p) (upd H1 p (.tup xs))
def QH (t:TA):TE:=fun σ H Q=>t σ H fun xs H1=>xs.length≤sizeLine ∧ ∀ p,H1 p=none→Q (.ref p) (upd H1 p (.lst xs))
theorem M9 {x1}(h:PA X es t):PE X (.Tuple es x1 pos) (QG t):=by
 intro pins s σ H Q I hq
 refine wpAny_Tuple_spliced (thn (h pos pins s σ H _ I hq) fun us s1 ⟨xs,H1,I1,r,z,q⟩=>⟨by rw [← r.length];exact z,?_⟩)
 have hf:H1 s1.heap.objs.size=none:=I1.hok.fresh (ZL _)
 refine⟨.ref s1.heap.objs.size,upd H1 s1.heap.objs.size (.tup xs),I1.laid (t':=s1.toks) (fun b u e=>ZH _ e) (ZL _) ?_,rfl,q _ hf⟩
 exact⟨z,us,r,⟨_,ZJ _ rfl,rfl,_,rfl⟩⟩
theorem Na (h:PA X es t):PE X (.List es pos) (QH t):=by
 intro pins s σ H Q I hq
 refine wpAny_List_spliced (thn (h pos pins s σ H _ I hq) fun us s1 ⟨xs,H1,I1,r,z,q⟩=>⟨by rw [← r.length];exact z,?_⟩)
 have hf:H1 s1.heap.objs.size=none:=I1.hok.fresh (ZL _)
 refine⟨.ref s1.heap.objs.size,upd H1 s1.heap.objs.size (.lst xs),I1.laid (t':=s1.toks) (fun b u e=>ZH _ e) (ZL _) ?_,rfl,q _ hf⟩
 exact⟨z,us,0,r,ZJ _ rfl⟩
end
abbrev Sp:=List V→Hp→VK→XK→Prop
abbrev CXT:=List Env→Hp→Shared→XK→Value→Shared→Prop
structure Ky (P:Program) (w:World) (K:ZX) (mg:Str→Option Value) (base:Heap) (A:Around) (outer:List Env) (s:Shared) (H:Hp):Prop where
 frames:A.frames=some outer
 mod:Mod K mg base
 bs:∀ b o,base.get? b=some o→s.heap.get? b=some o∧H b=none
 bsz:base.objs.size≤s.heap.objs.size
 funs:s.heap.FunFrames base outer
 frf:∀ b∈frs outer,H b=none
 hok:HOk P w H s.heap
 bare:AllBare s.gens
def CE (outer:List Env) (P:Program) (w:World) (H:Hp) (s:Shared) (Q:VK) (u:Value) (s':Shared):Prop :=
 ∃ v H',s'.os=s.os∧AllBare s'.gens∧Un (frs outer) [] H H' s.heap s'.heap∧HOk P w H' s'.heap∧bg v u∧Q v H'
def CR (CX:CXT) (outer:List Env) (P:Program) (w:World) (H:Hp) (s:Shared) (Q:VK) (E:XK) (r:Result) (s':Shared):Prop :=
 match r with
 | .ok (.ret u)=>CE outer P w H s Q u s'
 | .ok _=>False
 | .error e=>CX outer H s E e s'
structure bU (P:Program) (w:World) (K:ZX) (mg:Str→Option Value) (base:Heap) (CX:CXT) (k:Nat) (f:Addr) (fd:FuncData) (ps:List Str) (sp:Sp):Prop where
 len:∀ vs H Q E,sp vs H Q E→vs.length=ps.length
 run:∀ (A:Around) (outer:List Env) (s:Shared) (H:Hp) (args:Args) (us:List Value) (vs:List V) (Q:VK) (E:XK),gF k A→Ky P w K mg base A outer s H→BindsTo s fd args (ps.zip us)→aI vs us→sp vs H Q E →
  codeAny (model P w) A (.call (.ref f) args) (CR CX outer P w H s Q E) s
section
variable {X:Cx} {pins:List (Addr × Obj)} {σ:St} {H:Hp} {s s':Shared}
theorem Inv.env0 (I:Inv X pins σ H s):Ky X.prog X.w X.K X.mg X.base X.A X.stack s H :=
 ⟨I.ok.frames,I.ok.mod,I.bs,ZM I.ok.bsz I.sz,I.stack,I.stkFree,I.hok,I.bare⟩
theorem Inv.after {Q:VK}{u:Value}(I:Inv X pins σ H s)(h:CE X.stack X.prog X.w H s Q u s'):EP X pins σ Q u s':=by
 obtain⟨v,H',os,bare,un,hok,r,q⟩:=h
 obtain⟨hh,g,d,t,os'⟩:=s'
 obtain rfl:os'=s.os:=os
 exact⟨v,H',I.call (h':=hh) (g':=g) (d':=d) (t':=t) (ch:=[]) un hok bare (fun b z=>absurd z (by simp)),r,q⟩
end
def Pr (sp:Sp) (dvs:List V) (E:XK) (t:TA):TE:=fun σ H Q=>t σ H fun vs H1=>sp (vs++dvs) H1 Q E
def kC (K:ZX) (fd:FuncData) (ps:List Str) (ds:List Value):Prop :=
 ∀ (s:Shared) (us:List Value),K.In s.heap→(us++ds).length=ps.length→BindsTo s fd ⟨us,[]⟩ (ps.zip (us++ds))
theorem kC.all {K:ZX}{fd:FuncData}{ps:List Str}(h:∀ us:List Value,us.length=ps.length→bindArgs fd ⟨us,[]⟩ = pure (ps.zip us)):kC K fd ps []:=fun s us _ hl=>by
 rw [List.append_nil] at hl ⊢
 exact .of_eq (h us hl)
def pV (CX:CXT) (X:Cx) (E:XK):Prop:=∀ (pins:List (Addr × Obj)) (σ:St) (H:Hp) (s:Shared) (e:Value) (s':Shared),Inv X pins σ H s→CX X.stack H s E e s'→X.xe e s'
section
variable {X:Cx} {CX:CXT} {k:Nat} {f C:Addr} {fd:FuncData} {ps:List Str} {sp:Sp} {dvs:List V} {ds:List Value} {E:XK} {x m:Str} {p pos apos:Pos} {e o:Expr} {es:List Expr} {ta:TE} {t:TA}
theorem Nb {pins:List (Addr × Obj)}{σ:St}{H:Hp}{s:Shared}{Q:VK}{us:List Value}{vs:List V}(F:bU X.prog X.w X.K X.mg X.base CX k f fd ps sp)(hr:gF k X.A)(hb:kC X.K fd ps ds)(hd:aI dvs ds)(hx:pV CX X E)
  (I:Inv X pins σ H s) (r:aI vs us) (h:sp (vs++dvs) H Q E):wpAny (model X.prog X.w) X.A (call (.ref f) us) (EP X pins σ Q) X.xe s:=by
 have r2:aI (vs++dvs) (us++ds):=r.append hd
 have hl:(us++ds).length=ps.length:=by rw [← r2.length];exact F.len _ _ _ _ h
 refine wpAny_call (codeAny_mono (F.run X.A X.stack s H ⟨us,[]⟩ (us++ds) (vs++dvs) Q E hr I.env0 (hb s us I.kIn hl) r2 h) fun r s' hq => ?_)
 cases r with
 | error e=>exact hx pins σ H s e s' I hq
 | ok fl =>
  cases fl with
  | ret u=>exact I.after hq
  | next=>exact False.elim hq
  | brk=>exact False.elim hq
  | cont=>exact False.elim hq
theorem DY (F:bU X.prog X.w X.K X.mg X.base CX k f fd ps sp)(hr:gF k X.A)(hg:Gl X x)(hm:X.mg x=some (.ref f))(hk:PySem.W.keepIn X.K (.ref f)=true)(hb:kC X.K fd ps ds)(hd:aI dvs ds)(hx:pV CX X E)
  (ha:PA X (e :: es) t) (hdb:(x == ("__debug__" : Str))=false:=by decide) (he:starEach (e :: es) X.env=(false,eval e X.env) :: starEach es X.env:=by rfl) (hpl:(backTo pos (starEach es X.env)).any (·.1)=false:=by rfl) :
  PE X (.Call (.Name x p) (e :: es) [] pos) (Pr sp dvs E t):=by
 intro pins s σ H Q I h
 refine wpAny_Call_Name_kw (vU I hg hm ?_ hdb)
 refine PySem.W.callWith_K (h₀ := X.base) I.ok.mod.kin hk (thn (ha pos pins s σ H _ I h) fun us s1 ⟨vs,H1,I1,r,q⟩=>⟨I1.kIn,?_⟩) he hpl
 exact Nb F hr hb hd hx I1 r q
structure Mk (K:ZX) (C f:Addr):Prop where
 makes:PySem.W.makesIn K C=true
 init:PySem.W.findIn K (.ref C) "__init__" = some (some (.ref f))
 fn:PySem.W.isFn K (.ref f)=true
 kp:PySem.W.keepIn K (.ref C)=true
end
section
variable {X:Cx} {CX:CXT} {k:Nat} {f C:Addr} {fd:FuncData} {ps ks:List Str} {sp:Sp} {E:XK} {x m:Str} {p pos apos kpos:Pos} {e o:Expr} {es:List Expr} {kws:List Keyword} {te ta:TE} {t tk:TA} {nm:Option Str}
structure QI (K:ZX) (fd:FuncData) (ps ks:List Str) (g:List Value→List Value→List Value) (gV:List V→List V→List V):Prop where
 to:∀ (s:Shared) (us ws:List Value),K.In s.heap→(g us ws).length=ps.length→BindsTo s fd ⟨us,ks.zip ws⟩ (ps.zip (g us ws))
 rel:∀ {vs:List V} {us:List Value} {zs:List V} {ws:List Value},aI vs us→aI zs ws→aI (gV vs zs) (g us ws)
variable {g:List Value→List Value→List Value} {gV:List V→List V→List V}
end
structure aJ (N P:List Str) (sc:Scope):Prop where
 kind:sc.kind=.function
 co:sc.isCoroutine=false
 gen:sc.isGenerator=false
 nd:N.Nodup
 pre:N.take P.length=P
 par:∀ x∈P,sc.names.lookup x=some .local ∨sc.names.lookup x=some .cell
 nofree:∀ y∈sc.names,y.2 ≠ .free
theorem uR {kindOf:Str→Option NameKind}{x:Str}:∀ {binds:List (Str × Value)} {m:Str→Option Value},(∀ v,(x,v)∉binds)→bindL kindOf binds m x=m x
 | [],_,_=>rfl
 | (n,v) :: r,m,h=>by
  unfold bindL
  rw [uR fun w hw=>h w (ZW _ hw)]
  split
  ·have:x≠n:=by rintro rfl;exact h v ZV
   simp [this]
  ·rfl
theorem uS {kindOf:Str→Option NameKind}{x:Str}:∀ {binds:List (Str × Value)} {m:Str→Option Value},(∀ v,(x,v)∉binds)→bindC kindOf binds m x=m x
 | [],_,_=>rfl
 | (n,v) :: r,m,h=>by
  unfold bindC
  rw [uS fun w hw=>h w (ZW _ hw)]
  split
  ·rfl
  ·have:x≠n:=by rintro rfl;exact h v ZV
   simp [this]
theorem uT {kindOf:Str→Option NameKind}{x:Str}{v:Value}:∀ {P:List Str} {vs:List Value} {i:Nat} {m:Str→Option Value},P.Nodup→P[i]? = some x→vs[i]? = some v→kindOf x=some .local →
  bindL kindOf (P.zip vs) m x=some v
 | [],_,_,_,_,h,_,_=>by simp at h
 | _ :: _,[],_,_,_,_,h,_=>by simp at h
 | p :: P,w :: vs,0,m,nd,h1,h2,hk=>by
  simp at h1 h2;subst h1;subst h2
  show bindL kindOf ((p,w) :: P.zip vs) m p=_
  unfold bindL
  rw [uR fun v hv=>(List.nodup_cons.mp nd).1 (List.of_mem_zip hv).1,if_pos hk]
  simp
 | p :: P,w :: vs,i + 1,m,nd,h1,h2,hk=>by
  show bindL kindOf ((p,w) :: P.zip vs) m x=_
  unfold bindL
  exact uT (i:=i) (List.nodup_cons.mp nd).2 (by simpa using h1) (by simpa using h2) hk
theorem uU {kindOf:Str→Option NameKind}{x:Str}{v:Value}:∀ {P:List Str} {vs:List Value} {i:Nat} {m:Str→Option Value},P.Nodup→P[i]? = some x→vs[i]? = some v→kindOf x≠some .local →
  bindC kindOf (P.zip vs) m x=some v
 | [],_,_,_,_,h,_,_=>by simp at h
 | _ :: _,[],_,_,_,_,h,_=>by simp at h
 | p :: P,w :: vs,0,m,nd,h1,h2,hk=>by
  simp at h1 h2;subst h1;subst h2
  show bindC kindOf ((p,w) :: P.zip vs) m p=_
  unfold bindC
  rw [uS fun v hv=>(List.nodup_cons.mp nd).1 (List.of_mem_zip hv).1,if_neg hk]
  simp
 | p :: P,w :: vs,i + 1,m,nd,h1,h2,hk=>by
  show bindC kindOf ((p,w) :: P.zip vs) m x=_
  unfold bindC
  exact uU (i:=i) (List.nodup_cons.mp nd).2 (by simpa using h1) (by simpa using h2) hk
def jE (N:List Str) (vs:List V):St:=vs.map some++List.replicate (N.length - vs.length) none
def oZ (CX:CXT) (P:Program) (w:World) (K:ZX) (mg:Str→Option Value) (base:Heap) (N:List Str) (qual:Str) (scope:Scope) (f:Addr) (cd:Value) (A:Around) (outer:List Env) (s:Shared) (H:Hp) (E:XK):Cx where
 prog:=P
 w:=w
 K:=K
 mg:=mg
 base:=base
 A:=A.deeper (envOfC qual scope s.heap.objs.size f cd)
 N:=N
 s₀ := s
 H₀ := H
 env:=envOfC qual scope s.heap.objs.size f cd
 outer:=outer
 stack:=envOfC qual scope s.heap.objs.size f cd :: outer
 ex:=[]
 calm:=true
 fn:=fun _=>true
 pn:=[]
 xe:=fun e s'=>wpAny (model P w) (A.deeper (envOfC qual scope s.heap.objs.size f cd)) (leaving (envOfC qual scope s.heap.objs.size f cd) e) (fun _ s''=>CX outer H s E e s'') (fun e' s''=>CX outer H s E e' s'') s'
theorem yR {sc:Scope}{n:Nat}{x:Str}(h:sc.names.lookup x=some .cell):∃ c,(cellsFrom n sc.names []).lookup x=some c:=by
 have q:=PySem.W.cellsFrom_some sc.names n [] (.inl h)
 exact Option.isSome_iff_exists.mp q
theorem E4 {CX:CXT}{P:Program}{w:World}{K:ZX}{mg:Str→Option Value}{base:Heap}{N ps:List Str}{qual:Str}{scope:Scope}{f:Addr}{cd:Value}{A:Around}{outer:List Env}{s s1:Shared}{H:Hp}{E:XK}{us:List Value}{vs:List V}
  (S:aJ N ps scope) (hd:A.handled=none) (e0:Ky P w K mg base A outer s H) (hl:vs.length=ps.length) (r:aI vs us)
  (x:InCallC s s.heap.objs.size (bindL (envOfC qual scope s.heap.objs.size f cd).kindOf (ps.zip us) fun _=>none) (cellsFrom (s.heap.objs.size + 1) scope.names []) (bindC (envOfC qual scope s.heap.objs.size f cd).kindOf (ps.zip us) fun _=>none) s1) :
  Inv (oZ CX P w K mg base N qual scope f cd A outer s H E) [] (jE N vs) H s1:=by
 have hpl:ps.length≤N.length:=by have:=congrArg List.length S.pre;rw [List.length_take] at this;omega
 obtain⟨h1,tk,rfl,hk⟩:=x.done
 have noA:∀ b:Addr,b∉(oZ CX P w K mg base N qual scope f cd A outer s H E).ex:=fun b z=>absurd (show b∈([] : List Addr) from z) (by simp)
 refine⟨⟨e0.mod,S.kind,rfl,rfl,ZL _,fun y z c h1 h2 => ?_,fun y hy => ?_,fun y c _ h => ?_,fun _=>hd,Around.frames_deeper e0.frames,.inr ⟨rfl,rfl⟩,fun b z=>absurd z (noA b),e0.bs,e0.bsz,fun b _ _=>noA b,fun b z=>absurd z (noA b),e0.funs,e0.frf⟩,
  rfl,e0.bare,Un.kept hk,⟨_,x.toInCall.ns,fun i y v h1 h2 h3 => ?_⟩,fun y c h=>⟨_,x.cell y c h⟩,e0.hok.fresh (ZL _),fun y c h => ?_,fun p hp=>absurd (show p∈([] : List (Addr × Obj)) from hp) (by simp),e0.hok.kept hk,?_⟩
 ·exact name_of_addr x.apart (PySem.mem_of_lookup h1) (PySem.mem_of_lookup h2)
 ·have hy:scope.names.lookup y=some .cell∨scope.names.lookup y=some .free:=hy
  rcases hy with hy|hy
  ·exact yR hy
  ·exact absurd rfl (S.nofree _ (PySem.mem_of_lookup hy))
 ·exact Nat.le_of_lt (x.above y c (PySem.mem_of_lookup h))
 ·have hi:i < vs.length:=by
   unfold jE at h2
   by_cases hi:i < vs.length
   ·exact hi
   ·rw [ZD (by simpa using hi)] at h2
    rw [List.getElem?_replicate] at h2
    split at h2<;>cases h2
  have ha:vs[i]? = some v:=by
   unfold jE at h2
   rw [ZC (by simpa using hi),ZQ] at h2
   cases e:vs[i]? with
   | none=>rw [e] at h2;cases h2
   | some a=>rw [e] at h2;cases h2;rfl
  obtain⟨u,hu,rv⟩:=r.get ha
  have hp:ps[i]? = some y:=by
   rw [← S.pre,List.getElem?_take_of_lt (by omega)];exact h1
  have ndP:ps.Nodup:=by rw [← S.pre];exact S.nd.sublist (List.take_sublist _ _)
  refine⟨u,rv,?_⟩
  rcases S.par y (ZK hp) with k|k
  ·exact .inl ⟨k,uT ndP hp hu k⟩
  ·obtain⟨c,e⟩:=yR (n:=s.heap.objs.size + 1) k
   refine .inr ⟨.inl k,c,e,?_⟩
   have q:=x.cell y c e
   rw [uU ndP hp hu (by show scope.names.lookup y≠_;rw [k];decide)] at q
   exact q
 ·exact e0.hok.fresh (Nat.le_of_lt (x.above y c (PySem.mem_of_lookup h)))
 ·unfold jE
  show _=N.length
  rw [ZB,ZA,List.length_replicate]
  omega
theorem Mh {CX:CXT}{P:Program}{w:World}{K:ZX}{mg:Str→Option Value}{base:Heap}{k:Nat}{f:Addr}{name qual:Str}{params:Arguments}{body:List Stmt}{scope:Scope}{dV kV doc pm cdv ct oc:Value}{an od:Option Addr}
  {osl:Array (Option Value)} {N ps:List Str} {sp:Sp} (lk:K.lookup f=some ⟨oc,od,.func (PySem.W.fnOf name qual params body scope dV kV doc pm an cdv ct),osl⟩) (hcd:PySem.W.codeIn K cdv qual=true) (S:aJ N ps scope)
  (len:∀ vs H Q E,sp vs H Q E→vs.length=ps.length)
  (hbody:∀ (A:Around) (outer:List Env) (s:Shared) (H:Hp) (vs:List V) (Q:VK) (E:XK),gF k (A.deeper (envOfC qual scope s.heap.objs.size f cdv))→sp vs H Q E →
   ∃ t,PSs (oZ CX P w K mg base N qual scope f cdv A outer s H E) body t∧t { nx:=fun _ H'=>Q .non H',rt:=Q } (jE N vs) H) :
  bU P w K mg base CX (k + 1) f (PySem.W.fnOf name qual params body scope dV kV doc pm an cdv ct) ps sp:=by
 refine⟨len,fun A outer s H args us vs Q E hr e0 hb r hsp => ?_⟩
 have hl:=len _ _ _ _ hsp
 have KX:K.In s.heap:=e0.mod.kin.keeps fun b o e=>(e0.bs b o e).1
 have lim:s.heap.NoLimit:=e0.mod.nolimit.keeps fun b o e=>(e0.bs b o e).1
 have hkind:∀ y∈ps.zip us,scope.names.lookup y.1=some .local ∨(scope.names.lookup y.1=some .cell∧((cellsFrom (s.heap.objs.size + 1) scope.names []).lookup y.1).isSome=true):=fun ⟨n,v⟩ hy=>by
  rcases S.par n (List.of_mem_zip hy).1 with q|q
  ·exact .inl q
  ·exact .inr ⟨q,PySem.W.cellsFrom_some _ _ _ (.inl q)⟩
 refine codeAny_call_function hr.depth (KX _ _ lk) rfl S.co S.gen rfl (PySem.W.codeRec_of KX hcd) (hb _ _ _ _ ?_)
 refine wpAny_newFunctionEnv_cells S.kind hkind fun env he s1 x => ?_
 subst he
 refine⟨lim.keeps x.toInCall.keep,codeAny_func ?_⟩
 obtain⟨t,ht,hq⟩:=hbody A outer s H vs Q E (hr.deeper _) hsp
 have I:Inv (oZ CX P w K mg base N qual scope f cdv A outer s H E) [] (jE N vs) H s1:=E4 S hr.hd e0 hl r x
 refine wpAny_mono (ht [] s1 (jE N vs) H _ I hq) (fun fl s' hs => ?_) fun e s' hs=>hs
 have fin:∀ {σ':St} {H':Hp} {v:V} {u:Value},Inv (oZ CX P w K mg base N qual scope f cdv A outer s H E) [] σ' H' s'→bg v u→Q v H'→CE outer P w H s Q u s' :=
  fun {σ' H' v u} J rv q=>⟨v,H',J.os,J.bare,J.base,J.hok,rv,q⟩
 cases fl with
 | ret u =>
  obtain⟨v,σ',H',J,rv,q⟩:=hs
  exact fin J rv q
 | next =>
  obtain⟨σ',H',J,q⟩:=hs
  exact fin (v:=V.non) (u:=Value.none) J rfl q
 | brk =>
  obtain⟨_,_,_,q⟩:=hs
  exact False.elim q
 | cont =>
  obtain⟨_,_,_,q⟩:=hs
  exact False.elim q
end L2
namespace L2
open PySem PySem.Spec PyProof.Rows
section
variable {X:Cx} {x:Str} {p pos:Pos} {e:Expr} {es:List Expr} {t:TA} {id T:String} {r:List V→Hp→VK→Prop}
def tCB (r:List V→Hp→VK→Prop) (t:TA):TE:=fun σ H Q=>t σ H fun vs H1=>r vs H1 Q
theorem ly (hc:ig X (.builtin id) r) (hg:Gl X x) (hm:X.mg x=none) (hv:bootBuiltins x=some (.builtin id)) (ha:PA X (e :: es) t) (hn:x ≠ "__name__" := by decide) (hdb:(x == ("__debug__" : Str))=false:=by decide)
  (he:starEach (e :: es) X.env=(false,eval e X.env) :: starEach es X.env:=by rfl) (hpl:(backTo pos (starEach es X.env)).any (·.1)=false:=by rfl):PE X (.Call (.Name x p) (e :: es) [] pos) (tCB r t):=by
 intro pins s σ H Q I h
 refine wpAny_Call_Name_kw (iS I hg hm hv ?_ hn hdb)
 exact PyProof.Rows.callWith_builtin1 (thn (ha pos pins s σ H _ I h) fun us s1 ⟨vs,H1,I1,r1,q1⟩=>hc pins s1 σ H1 vs us Q I1 r1 q1) he hpl
theorem uV (hc:ig X (.type T) r) (hg:Gl X x) (hm:X.mg x=none) (hv:bootBuiltins x=some (.type T)) (ha:PA X (e :: es) t) (hn:x ≠ "__name__" := by decide) (hdb:(x == ("__debug__" : Str))=false:=by decide)
  (he:starEach (e :: es) X.env=(false,eval e X.env) :: starEach es X.env:=by rfl) (hpl:(backTo pos (starEach es X.env)).any (·.1)=false:=by rfl):PE X (.Call (.Name x p) (e :: es) [] pos) (tCB r t):=by
 intro pins s σ H Q I h
 refine wpAny_Call_Name_kw (iS I hg hm hv ?_ hn hdb)
 exact PyProof.Rows.callWith_type1 (thn (ha pos pins s σ H _ I h) fun us s1 ⟨vs,H1,I1,r1,q1⟩=>hc pins s1 σ H1 vs us Q I1 r1 q1) he hpl
end
end L2
namespace HT
open PySem PyProof.Rows
def bZ:List Int→List Int→Bool
 | [],[]=>false
 | [],_ :: _=>true
 | _ :: _,[]=>false
 | x :: xs,y :: ys=>if x=y then bZ xs ys else decide (x < y)
section
open PySem.SeqAt
open PySem.AutoSeq1 (wpAny_loadPart')
open PySem.MeetsSeq PySem.MeetsSeq2 PySem.MeetsSeq3
end
section
variable {prog:Program} {w:World} {A:Around} {E:Value→Shared→Prop} {s:Shared}
theorem cat_tup {t b:Addr}{vs ws:List Value}{Q:Value→Shared→Prop}(ht:IsTup s.heap t vs.toArray)(hb:IsTup s.heap b ws.toArray)(hv:vs≠[])
  (h1:ws=[]→Q (.ref t) s) (h2:ws≠[]→Q (.ref s.heap.objs.size) { s with heap:=s.heap.push { cls:=.type "tuple",data:=.seq (vs++ws).toArray } })
  (hsz:vs.length + ws.length≤sizeLine):wpAny (model prog w) A (binaryOp .Add (.ref t) (.ref b)) Q E s:=by
 obtain⟨⟨cls,dd,data,sl⟩,ho,hc,n,hd⟩:=id ht
 obtain⟨⟨cls2,dd2,data2,sl2⟩,ho2,hc2,n2,hd2⟩:=id hb
 simp only at hc hd hc2 hd2
 subst hc hd hc2 hd2
 have e:vs.toArray++ws.toArray=(vs++ws).toArray:=by simp
 by_cases hw:ws=[]
 ·exact concat_meets ⟨_,ho,rfl⟩ ⟨_,ho2,rfl⟩ noFill_tuple_add seq_tuple_add PySem.F.slot_tuple_add PySem.F.entry_tuple_add (PySem.F.args_tuple_add_2 _ _)
   (tuple_addW1 t b vs.toArray ws.toArray n n2 dd dd2 sl sl2 (by simpa using hv) (by simp [hw])) ⟨ho,ho2,h1 hw⟩
 ·refine concat_meets ⟨_,ho,rfl⟩ ⟨_,ho2,rfl⟩ noFill_tuple_add seq_tuple_add PySem.F.slot_tuple_add PySem.F.entry_tuple_add (PySem.F.args_tuple_add_2 _ _)
   (tuple_addW2 t b vs.toArray ws.toArray n n2 dd dd2 sl sl2 (by simpa using hv) (by simpa using hw) (by rw [List.size_toArray,List.size_toArray];exact hsz)) ⟨ho,ho2,?_⟩
  rw [e]
  exact h2 hw
def sIx (n d:Nat):Option Int→Nat
 | none=>d
 | some v=>if v < 0 then (v + (n:Int)).toNat else min v.toNat n
theorem Nc (n d:Nat)(hd:d≤n)(o:Option Int):sIx n d o≤n:=by
 cases o with
 | none=>exact hd
 | some v =>
  show (if v < 0 then (v + (n:Int)).toNat else min v.toNat n)≤n
  by_cases hv:v < 0
  ·rw [if_pos hv];omega
  ·rw [if_neg hv];exact Nat.min_le_right _ _
theorem DZ (v:Int)(n d:Nat):(if v < 0 then max (v + (n:Int)) 0 else min v (n:Int))=((sIx n d (some v):Nat):Int):=by
 show (if v < 0 then max (v + (n:Int)) 0 else min v (n:Int))=(((if v < 0 then (v + (n:Int)).toNat else min v.toNat n):Nat):Int)
 by_cases hv:v < 0
 ·simp only [if_pos hv];omega
 ·simp only [if_neg hv];omega
theorem Bg (lo hi:Option Int)(n:Nat):Builtin.Slice.sliceAdjust lo hi 1 (n:Int)=(((sIx n 0 lo:Nat):Int),((sIx n n hi:Nat):Int)):=by
 have h1 : ¬ ((1:Int) < 0):=by omega
 unfold Builtin.Slice.sliceAdjust
 simp only [h1,if_false]
 refine Prod.ext ?_ ?_
 ·cases lo with
  | none=>rfl
  | some v=>exact DZ v n 0
 ·cases hi with
  | none=>rfl
  | some v=>exact DZ v n n
theorem Bh (i j:Nat):Builtin.Slice.slicePlaces (i:Int) (j:Int) 1=j - i:=by
 unfold Builtin.Slice.slicePlaces
 have h1:(1:Int) > 0:=by omega
 simp only [h1,if_true,Int.ediv_one]
 split<;>omega
theorem pW {v:Value}{o:Option Int}{Q:Option Int→Shared→Prop}(p:IsPart v o)(h:Q o s):wpAny (model prog w) A (Builtin.Slice.slicePartIndex v) Q E s:=by
 cases p with
 | none=>exact slicePart_none h
 | int i t=>exact slicePart_int h
theorem mM {sl:Addr}{vl vu:Value}{lo hi:Option Int}{n:Nat}{Q:Int × Int × Nat→Shared→Prop}(hs:s.heap.IsSliceOf sl vl vu .none)(pl:IsPart vl lo)(pu:IsPart vu hi)
  (h:Q (((sIx n 0 lo:Nat):Int),1,sIx n n hi - sIx n 0 lo) s):wpAny (model prog w) A (Builtin.Slice.sliceApplied (.ref sl) (pure (n:Int))) Q E s:=by
 obtain⟨os,hos,hcs,hds⟩:=id hs
 unfold Builtin.Slice.sliceApplied Builtin.Slice.sliceFields
 refine wpAny_bind (wpAny_bind (wpAny_field hos hds (x:=vl) rfl (wpAny_bind (wpAny_field hos hds (x:=vu) rfl (wpAny_bind (wpAny_field hos hds (x:=.none) rfl (wpAny_pure ?_)))))))
 refine wpAny_bind (slicePart_none ?_)
 show wpAny _ _ (if ((1:Int) == 0)=true then _ else _) _ _ s
 rw [if_neg (by decide)]
 refine wpAny_bind (pW pl (wpAny_bind (pW pu (wpAny_bind (wpAny_pure ?_)))))
 show wpAny _ _ (match Builtin.Slice.sliceAdjust lo hi 1 (n:Int) with|(lo,hi)=>pure (lo,(1:Int),Builtin.Slice.slicePlaces lo hi 1)) _ _ s
 rw [Bg lo hi n]
 show wpAny _ _ (pure (((sIx n 0 lo:Nat):Int),(1:Int),Builtin.Slice.slicePlaces ((sIx n 0 lo:Nat):Int) ((sIx n n hi:Nat):Int) 1)) _ _ s
 rw [Bh]
 exact wpAny_pure h
theorem Hi (xs:Array Value)(i k:Nat):((List.range k).filterMap fun (m:Nat)=>xs[((i:Int) + (m:Int) * 1).toNat]?).toArray=((xs.toList.drop i).take k).toArray:=by
 have e:(fun (m:Nat)=>xs[((i:Int) + (m:Int) * 1).toNat]?)=fun m=>xs[i + m]? := by
  funext m
  have:((i:Int) + (m:Int) * 1).toNat=i + m:=by omega
  rw [this]
 rw [e]
 have:=pick_run xs i k
 rw [List.filterMap_map] at this
 have e2:((fun x=>xs[x]?) ∘ fun x=>i + x)=fun m=>xs[i + m]? := rfl
 rw [e2] at this
 rw [this]
theorem getItem_tuple_cut {t sl:Addr}{items:Array Value}{vl vu:Value}{lo hi:Option Int}{Q:Value→Shared→Prop}(ht:IsTup s.heap t items)(hs:s.heap.IsSliceOf sl vl vu .none)(pl:IsPart vl lo)(pu:IsPart vu hi)
  (hw : ¬ (sIx items.size 0 lo=0∧sIx items.size items.size hi=items.size))
  (h:Q (.ref s.heap.objs.size) { s with heap:=s.heap.push { cls:=.type "tuple",data:=.seq ((items.toList.drop (sIx items.size 0 lo)).take (sIx items.size items.size hi - sIx items.size 0 lo)).toArray } })
  (hsz:items.size≤sizeLine):wpAny (model prog w) A (getItem (.ref t) (.ref sl)) Q E s:=by
 have htake:sizeOk (.seq ((items.toList.drop (sIx items.size 0 lo)).take (sIx items.size items.size hi - sIx items.size 0 lo)).toArray):=by
  show ((items.toList.drop (sIx items.size 0 lo)).take (sIx items.size items.size hi - sIx items.size 0 lo)).toArray.size≤sizeLine
  rw [List.size_toArray,List.length_take,List.length_drop,Array.length_toList]
  omega
 have hj:sIx items.size items.size hi≤items.size:=Nc _ _ (ZL _) hi
 obtain⟨os,hos,hcs,hds⟩:=id hs
 have hTs:s.TypeIs (.ref sl) "slice" := ⟨os,hos,hcs⟩
 unfold getItem
 try with_reducible refine wpAny_holding ?_
 first|refine wpAny_bind (wpAny_pure ?_)|skip
 refine wpAny_bind (wpAny_sequenceKey ht.typeIs (by decide) ?_)
 refine wpAny_bind (wpAny_callSpecial?_slot (name:=Str.ofString "__getitem__") ht.typeIs PyProof.Rows.slot_tuple_getitem
  (wpAny_call_entry PyProof.Rows.slot_tuple_getitem ht.typeIs entry_tuple_getitem ?_ (args_tuple_getitem _ _)))
 show wpAny _ _ (Builtin.Tuple.tupleItemsOf (.ref t) >>= _) _ _ s
 refine wpAny_bind (tupleItemsOf_ ht ?_)
 refine wpAny_bind (wpAny_typeOf hTs ?_)
 rw [if_pos (by decide)]
 refine wpAny_bind (mM hs pl pu ?_)
 have hno : ¬ ((((sIx items.size 0 lo:Nat):Int) == 0 && (1:Int) == 1 && (sIx items.size items.size hi - sIx items.size 0 lo) == items.size)=true):=by
  intro q
  rw [Bool.and_eq_true,Bool.and_eq_true] at q
  have q1:((sIx items.size 0 lo:Nat):Int)=0:=eq_of_beq q.1.1
  have q2:sIx items.size items.size hi - sIx items.size 0 lo=items.size:=eq_of_beq q.2
  exact hw ⟨by omega,by omega⟩
 show wpAny _ _ (if (((sIx items.size 0 lo:Nat):Int) == 0 && (1:Int) == 1 && (sIx items.size items.size hi - sIx items.size 0 lo) == items.size)=true then _ else _) _ _ s
 rw [if_neg hno,Hi]
 first
  | exact wpAny_bind (m:=Builtin.Tuple.tupleExact _) (wpAny_newObj_type (wpAny_pure ⟨_,rfl,wpAny_pure h⟩) htake)
  | exact wpAny_bind (m:=Builtin.Tuple.tupleExact _) (wpAny_newObj_type (wpAny_bind (wpAny_pure (wpAny_pure ⟨_,rfl,wpAny_pure h⟩))) htake)
  | exact wpAny_bind (wpAny_bind (m:=Builtin.Tuple.tupleExact _) (wpAny_newObj_type (wpAny_pure (wpAny_pure ⟨_,rfl,wpAny_pure h⟩)) htake))
  | exact wpAny_bind (wpAny_bind (m:=Builtin.Tuple.tupleExact _) (wpAny_newObj_type (wpAny_pure ⟨_,rfl,wpAny_pure h⟩) htake))
end
end HT
namespace L2
open PySem PySem.Spec PyProof.Rows
abbrev TO:=St→Hp→(Option Int→Hp→Prop)→Prop
def PO (X:Cx) (e:Option Expr) (t:TO):Prop :=
 ∀ (pins:List (Addr × Obj)) (s:Shared) (σ:St) (H:Hp) (Q:Option Int→Hp→Prop),Inv X pins σ H s→t σ H Q →
  wpAny (model X.prog X.w) X.A (evalPart e X.env) (fun u s'=>∃ o H',Inv X pins σ H' s'∧IsPart u o∧Q o H') X.xe s
def Kz:TO:=fun _ H Q=>Q none H
def Ps (t:TE):TO:=fun σ H Q=>t σ H fun x H1=>∃ i,x=.int i∧Q (some i) H1
theorem Bi {ns:List Int}:∀ {us:List Value},aI (ns.map V.int) us→IntsAre us ns:=by
 induction ns with
 | nil=>intro us r;rw [List.map_nil] at r;cases r;exact .nil
 | cons n ns ih =>
  intro us r
  rw [List.map_cons] at r
  cases r with
  | cons r1 r2 =>
   obtain⟨t,e⟩:=r1
   subst e
   exact .cons n t (ih r2)
section
variable {X:Cx} {e:Expr} {te:TE} {lo hi:Option Expr} {tl th:TO} {pos p2:Pos}
theorem KA:PO X none Kz:=by
 intro pins s σ H Q I h
 rw [evalPart_none]
 exact wpAny_pure ⟨none,H,I,.none,h⟩
theorem KC (h:PE X e te):PO X (some e) (Ps te):=by
 intro pins s σ H Q I hw
 rw [evalPart_some]
 refine thn (h pins s σ H _ I hw) fun u s1 ⟨x,H1,I1,r1,q1⟩ => ?_
 obtain⟨i,rfl,q⟩:=q1
 obtain⟨t,rfl⟩:=r1
 exact⟨some i,H1,I1,.int i t,q⟩
def SlR (X:Cx) (r:V→Option Int→Option Int→Hp→VK→Prop):Prop :=
 ∀ (pins:List (Addr × Obj)) (s:Shared) (σ:St) (H:Hp) (x:V) (v vl vu:Value) (lo hi:Option Int) (sl:Addr) (Q:VK),Inv X pins σ H s→bg x v→s.heap.IsSliceOf sl vl vu .none→IsPart vl lo→IsPart vu hi→r x lo hi H Q →
  ∃ T id,typeLookup (.type T) "__getitem__" = pure (some (.builtin id))∧s.TypeIs v T∧wpAny (model X.prog X.w) X.A (getItem v (.ref sl)) (EP X pins σ Q) X.xe s
theorem SlR.or {r r':V→Option Int→Option Int→Hp→VK→Prop}(h:SlR X r)(h':SlR X r'):SlR X (fun x lo hi H Q=>r x lo hi H Q∨r' x lo hi H Q):=by
 intro pins s σ H x v vl vu lo hi sl Q I rx hs pl pu q
 rcases q with q|q
 ·exact h pins s σ H x v vl vu lo hi sl Q I rx hs pl pu q
 ·exact h' pins s σ H x v vl vu lo hi sl Q I rx hs pl pu q
def tSl (r:V→Option Int→Option Int→Hp→VK→Prop) (te:TE) (tl th:TO):TE:=fun σ H Q=>te σ H fun x H1=>tl σ H1 fun l H2=>th σ H2 fun u H3=>r x l u H3 Q
theorem Hj {r:V→Option Int→Option Int→Hp→VK→Prop}(hr:SlR X r)(he:PE X e te)(hl:PO X lo tl)(hu:PO X hi th):PE X (.Subscript e (.Slice lo hi none p2) pos) (tSl r te tl th):=by
 intro pins s σ H Q I h
 refine Subscript_ (thn (he pins s σ H _ I h) fun v s1 ⟨x,H1,I1,r1,q1⟩ => ?_)
 refine wpAny_Slice (thn (hl pins s1 σ H1 _ I1 q1) fun vl s2 ⟨l,H2,I2,pl,q2⟩=>thn (hu pins s2 σ H2 _ I2 q2) fun vu s3 ⟨u,H3,I3,pu,q3⟩ => ?_)
 rw [evalPart_none]
 refine wpAny_pure ?_
 have I4:Inv X pins σ H3 { s3 with heap:=s3.heap.push { cls:=.type "slice",data:=.fields #[vl,vu,.none] } }:=I3.kept (t':=s3.toks) fun b ob q=>ZH _ q
 obtain⟨T,id,hT,ht,hg⟩:=hr pins { s3 with heap:=s3.heap.push { cls:=.type "slice",data:=.fields #[vl,vu,.none] } } σ H3 x v vl vu l u s3.heap.objs.size Q I4 r1 (Heap.IsSliceOf.new ..) pl pu q3
 show wpAny (model X.prog X.w) X.A (subscriptTail e (.Slice lo hi none p2) v (.ref s3.heap.objs.size)) (EP X pins σ Q) X.xe { s3 with heap:=s3.heap.push { cls:=.type "slice",data:=.fields #[vl,vu,.none] } }
 exact tail_any (ops:=[.ref s3.heap.objs.size,v]) ht hT hg (by with_unfolding_all rfl)
def pX (xs:List V) (lo hi:Option Int):List V:=(xs.drop (HT.sIx xs.length 0 lo)).take (HT.sIx xs.length xs.length hi - HT.sIx xs.length 0 lo)
theorem ow (xs:List V)(lo hi:Option Int):(pX xs lo hi).length≤xs.length:=by
 unfold pX
 rw [List.length_take,List.length_drop]
 omega
def QJ (K:ZX):V→Option Int→Option Int→Hp→VK→Prop:=fun x lo hi H Q=>∃ a xs,x=.ref a∧SqT K H a xs ∧
 ¬ (HT.sIx xs.length 0 lo=0∧HT.sIx xs.length xs.length hi=xs.length) ∧ ∀ p,H p=none→Q (.ref p) (upd H p (.tup (pX xs lo hi)))
theorem Nd:SlR X (QJ X.K):=by
 intro pins s σ H x v vl vu lo hi sl Q I rx hs pl pu h
 obtain⟨a,xs,rfl,hx,hw,q⟩:=h
 cases rx
 obtain⟨its,r,ht,hz⟩:=I.tuple hx
 have hlen:its.toArray.size=xs.length:=by rw [List.size_toArray];exact r.length.symm
 refine⟨"tuple",_,PyProof.Rows.slot_tuple_getitem.lookup,ht.typeIs,?_⟩
 refine HT.getItem_tuple_cut ht hs pl pu (by rw [hlen];exact hw) ?_ (by rw [hlen];exact hz)
 rw [hlen]
 refine⟨.ref s.heap.objs.size,_,I.laid (t':=s.toks) (o:=.tup (pX xs lo hi)) (fun b ob q=>ZH _ q) (ZL _) ?_,rfl,q _ (I.hok.fresh (ZL _))⟩
 exact⟨ZM (ow xs lo hi) hz,_,(r.drop (HT.sIx xs.length 0 lo)).take (HT.sIx xs.length xs.length hi - HT.sIx xs.length 0 lo),IsTup.new _ _⟩
def Hk (K:ZX):R2:=fun x y H Q=>∃ a b xs ys,x=.ref a∧y=.ref b∧SqT K H a xs∧SqT K H b ys∧xs≠[]∧xs.length + ys.length≤sizeLine ∧
 (ys=[]→Q (.ref a) H)∧(ys≠[] → ∀ p,H p=none→Q (.ref p) (upd H p (.tup (xs++ys))))
theorem aI.nil_iff {xs:List V}{us:List Value}(r:aI xs us):us=[] ↔ xs=[]:=by
 cases r with
 | nil=>simp
 | cons _ _=>simp
theorem KD:OpR X (binaryOp .Add) (Hk X.K):=by
 intro pins s σ H x y v u Q I rx ry h
 obtain⟨a,b,xs,ys,rfl,rfl,ha,hb,hx,hz,q1,q2⟩:=h
 cases rx
 cases ry
 obtain⟨its,r1,p1,_⟩:=I.tuple ha
 obtain⟨its2,r2,p2,_⟩:=I.tuple hb
 refine HT.cat_tup p1 p2 (fun z=>hx (r1.nil_iff.mp z)) (fun z=>⟨.ref a,H,I,rfl,q1 (r2.nil_iff.mp z)⟩) (fun z => ?_) (by rw [← r1.length,← r2.length];exact hz)
 refine⟨.ref s.heap.objs.size,_,I.laid (t':=s.toks) (o:=.tup (xs++ys)) (fun b ob q=>ZH _ q) (ZL _) ?_,rfl,q2 (fun w=>z (r2.nil_iff.mpr w)) _ (I.hok.fresh (ZL _))⟩
 exact⟨by rw [ZB];exact hz,_,r1.append r2,IsTup.new _ _⟩
end
end L2
namespace L2
open PySem PySem.Spec PyProof.Rows
def ixN (n:Nat) (i:Int):Option Nat:=if 0≤i then (if i < n then some i.toNat else none) else if -(n:Int)≤i then some (i + n).toNat else none
def atI {α : Type} (xs:List α) (i:Int):Option α := (ixN xs.length i).bind fun j=>xs[j]?
theorem D0 {n:Nat}{i:Int}{j:Nat}(h:ixN n i=some j):seqIndex? i n=some j∧j < n ∧ -(n:Int)≤i∧i < n:=by
 unfold ixN at h
 by_cases h0:0≤i
 ·rw [if_pos h0] at h
  by_cases h1:i < n
  ·rw [if_pos h1] at h
   have e:i.toNat=j:=ZT h
   exact⟨by rw [seqIndex_of h0 h1,e],by omega,by omega,h1⟩
  ·rw [if_neg h1] at h;cases h
 ·rw [if_neg h0] at h
  by_cases h1 : -(n:Int)≤i
  ·rw [if_pos h1] at h
   have e:(i + n).toNat=j:=ZT h
   exact⟨by rw [seqIndex_neg (by omega) h1,e],by omega,h1,by omega⟩
  ·rw [if_neg h1] at h;cases h
theorem vX {α : Type}{xs:List α}{i:Int}{v : α}(h:atI xs i=some v):∃ j,seqIndex? i xs.length=some j∧xs[j]? = some v∧j < xs.length ∧ -(xs.length:Int)≤i∧i < xs.length:=by
 unfold atI at h
 cases e:ixN xs.length i with
 | none=>rw [e] at h;cases h
 | some j =>
  rw [e] at h
  obtain⟨h1,h2,h3,h4⟩:=D0 e
  exact⟨j,h1,h,h2,h3,h4⟩
theorem eh {α : Type}{xs:List α}{j:Nat}{v : α}(h:xs[j]? = some v):atI xs (j:Int)=some v:=by
 have hj:j < xs.length:=(List.getElem?_eq_some_iff.mp h).1
 have e:ixN xs.length (j:Int)=some j:=by
  unfold ixN
  rw [if_pos (by omega),if_pos (by omega)];simp
 unfold atI;rw [e];exact h
def D4 (b:Expr):Prop:=∀ o i,subscripted b false o i=operate [o,i] (getItem o i)
def IxR (X:Cx) (r:R2):Prop :=
 ∀ (value slice:Expr) (pins:List (Addr × Obj)) (s:Shared) (σ:St) (H:Hp) (x y:V) (v u:Value) (Q:VK),Inv X pins σ H s→bg x v→bg y u→r x y H Q →
  subscripted slice false v u=operate [v,u] (getItem v u)→wpAny (model X.prog X.w) X.A (subscriptTail value slice v u) (EP X pins σ Q) X.xe s
def MtR (X:Cx) (id:String) (r:V→List V→Hp→VK→Prop):Prop :=
 ∀ (pins:List (Addr × Obj)) (s:Shared) (σ:St) (H:Hp) (x:V) (xs:List V) (v:Value) (us:List Value) (Q:VK),Inv X pins σ H s→bg x v→aI xs us→r x xs H Q →
  wpAny (model X.prog X.w) X.A (call (.builtin id) (v :: us)) (EP X pins σ Q) X.xe s
section
variable {X:Cx} {a b:Expr} {ta tb:TE} {pos:Pos}
theorem IxR.or {r r':R2}(h:IxR X r)(h':IxR X r'):IxR X (fun x y H Q=>r x y H Q∨r' x y H Q):=by
 intro value slice pins s σ H x y v u Q I rx ry q hs
 rcases q with q|q
 ·exact h value slice pins s σ H x y v u Q I rx ry q hs
 ·exact h' value slice pins s σ H x y v u Q I rx ry q hs
theorem Pt {r:R2}(hr:IxR X r)(ha:PE X a ta)(hb:PE X b tb)(hs:D4 b):PE X (.Subscript a b pos) (tOp r ta tb):=by
 intro pins s σ H Q I h
 exact Subscript_ (yP ha hb I h fun v u s2 x y H2 I2 rx ry q=>hr a b pins s2 σ H2 x y v u Q I2 rx ry q (hs _ _))
def Pu (K:ZX):R2:=fun x y H Q=>∃ p xs i v,x=.ref p∧y=.int i∧SqL K H p xs∧atI xs i=some v∧Q v H
def Pv (K:ZX):R2:=fun x y H Q=>∃ p xs i v,x=.ref p∧y=.int i∧SqT K H p xs∧atI xs i=some v∧Q v H
def Pw:R2:=fun x y H Q=>∃ z i c,x=.str z∧y=.int i∧z.length≤sizeLine∧atI z.cps.toList i=some c∧Q (.str ⟨#[c]⟩) H
theorem KG:IxR X (Pu X.K):=by
 intro value slice pins s σ H x y v u Q I rx ry h hs
 obtain⟨p,xs,i,z,rfl,rfl,hq,he,q⟩:=h
 cases rx
 obtain⟨t,rfl⟩:=ry
 obtain⟨its,r,pl,hz⟩:=I.list hq
 obtain⟨j,h1,h2,h3,h4,h5⟩:=vX he
 obtain⟨w,ew,rw'⟩:=r.get h2
 have hl:=r.length
 have hn:=mL
 have fin:EP X pins σ Q w s:=⟨z,H,I,rw',q⟩
 by_cases h0:0≤i
 ·have hj:i.toNat=j:=by
   rw [seqIndex_of h0 h5] at h1
   exact ZT h1
  exact item_listR pl.isList h0 (by omega) (by rw [hj];simpa using ew) fin hs
 ·have hj:(i + (its.toArray.size:Int)).toNat=j:=by
   rw [seqIndex_neg (by omega) h4] at h1
   rw [List.size_toArray,← hl]
   exact ZT h1
  exact subscriptTail_builtinR (x:=w) pl.isList.typeIs slot_list_getitem.lookup
   (wpAny_getItem_list_neg (Q:=fun r s'=>r=w∧EP X pins σ Q r s') pl.isList (by omega) (by rw [List.size_toArray]<;>omega) (by omega) (by rw [hj];simpa using ew) ⟨rfl,fin⟩) hs
theorem Nf:IxR X (Pv X.K):=by
 intro value slice pins s σ H x y v u Q I rx ry h hs
 obtain⟨p,xs,i,z,rfl,rfl,hq,he,q⟩:=h
 cases rx
 obtain⟨t,rfl⟩:=ry
 obtain⟨its,r,pl,hz⟩:=I.tuple hq
 obtain⟨j,h1,h2,h3,h4,h5⟩:=vX he
 obtain⟨w,ew,rw'⟩:=r.get h2
 have hl:=r.length
 have hn:=mL
 have fin:EP X pins σ Q w s:=⟨z,H,I,rw',q⟩
 exact subscriptTail_builtinR (x:=w) pl.typeIs slot_tuple_getitem.lookup
  (getItem_tuple (j:=j) (Q:=fun r s'=>r=w∧EP X pins σ Q r s') pl (by omega) (by omega) (by rw [List.size_toArray,← hl];exact h1) (by simpa using ew) ⟨rfl,fin⟩) hs
theorem Ng:IxR X Pw:=by
 intro value slice pins s σ H x y v u Q I rx ry h hs
 obtain⟨z,i,c,rfl,rfl,hz,he,q⟩:=h
 obtain⟨t,rfl⟩:=rx
 obtain⟨t',rfl⟩:=ry
 obtain⟨j,h1,h2,h3,h4,h5⟩:=vX he
 have hl:z.cps.toList.length=z.length:=by simp [Str.length]
 rw [hl] at h1 h4 h5
 have hn:=mL
 exact tail_any (typeIs_str s z t) slot_str_getitem.lookup (getItem_str (c:=c) (by
  have e1:decide (i < -(2 ^ 63:Int))=false:=decide_eq_false (by omega)
  have e2:decide (i ≥ 2 ^ 63)=false:=decide_eq_false (by omega)
  rw [e1,e2,Bool.or_false]) (by rw [h1];simpa using h2) ⟨.str ⟨#[c]⟩,H,I.tok _,⟨_,rfl⟩,q⟩) hs
def rIx (K:ZX):R2:=fun x y H Q=>Pu K x y H Q∨Pv K x y H Q∨Pw x y H Q
theorem Nh:IxR X (rIx X.K):=KG.or (Nf.or Ng)
theorem Bj (its:List Value) (n j:Nat) (u:Value):Obj.mapSeq (·.setIfInBounds j u) { cls:=.type "list",data:=.seq its.toArray n } = { cls:=.type "list",data:=.seq (its.set j u).toArray n }:=by
 simp [Obj.mapSeq]
theorem Inv.lst {pins:List (Addr × Obj)}{σ:St}{H:Hp}{s:Shared}{p:Addr}{xs:List V}(I:Inv X pins σ H s)(h:H p=some (.lst xs)) :
  ∃ (its:List Value) (n:Nat),aI xs its∧s.heap.get? p=some { cls:=.type "list",data:=.seq its.toArray n } ∧ xs.length≤sizeLine:=by
 obtain⟨z,its,n,r,e⟩:=I.hok p _ h
 exact⟨its,n,r,e,z⟩
theorem Inv.lstUpd {pins:List (Addr × Obj)}{σ:St}{H:Hp}{s:Shared}{p:Addr}{xs ys:List V}{its its':List Value}{n n':Nat}{f:Obj→Obj}(I:Inv X pins σ H s)(h:H p=some (.lst xs))
  (ho:s.heap.get? p=some { cls:=.type "list",data:=.seq its.toArray n }) (hf:f { cls:=.type "list",data:=.seq its.toArray n } = { cls:=.type "list",data:=.seq its'.toArray n' }) (r:aI ys its') (hz:ys.length≤sizeLine) (t:Nat) :
  Inv X pins σ (upd H p (.lst ys)) { s with heap:=s.heap.update p f,toks:=t }:=by
 have e:(s.heap.update p f).get? p=some { cls:=.type "list",data:=.seq its'.toArray n' }:=by
  rw [Heap.get?_update_self f ho (by rw [hf]<;>rfl),hf]
 refine I.write (x:=p) (e:=p) (by rw [h];trivial) (.inl rfl) (fun b u hb q=>(Heap.get?_update_other _ _ (Ne.symm hb)).trans q) ⟨_,e⟩ ?_
 exact⟨hz,its',n',r,e⟩
def Px:V→V→V→Hp→(Hp→Prop)→Prop:=fun o i v H Q=>∃ p xs k j,o=.ref p∧i=.int k∧H p=some (.lst xs)∧ixN xs.length k=some j∧Q (upd H p (.lst (xs.set j v)))
theorem Hl:MZ X Px:=by
 intro pins s σ H o i v ov iv u Q I ro ri rv h
 obtain⟨p,xs,k,j,rfl,rfl,hp,hj,q⟩:=h
 cases ro
 obtain⟨t,rfl⟩:=ri
 obtain⟨its,n,r,ho,hz⟩:=I.lst hp
 obtain⟨h1,h2,h3,h4⟩:=D0 hj
 have hl:=r.length
 have hn:=mL
 have I':Inv X pins σ (upd H p (.lst (xs.set j v))) { s with heap:=s.heap.update p (Obj.mapSeq (·.setIfInBounds j u)) } :=
  I.lstUpd hp ho (Bj its n j u) (r.set rv j) (by rw [List.length_set];exact hz) s.toks
 by_cases h0:0≤k
 ·have hk:k.toNat=j:=by
   rw [seqIndex_of h0 h4] at h1
   exact ZT h1
  exact PySem.W.ki_setAt ho h0 (by omega) (by rw [List.size_toArray,← hl];exact h4) (by rw [hk];exact⟨_,I',q⟩)
 ·have hk:(k + (its.toArray.size:Int)).toNat=j:=by
   rw [seqIndex_neg (by omega) h3] at h1
   rw [List.size_toArray,← hl]
   exact ZT h1
  exact PySem.W.ki_setBack ho (by omega) (by rw [List.size_toArray,← hl];exact h3) (by omega) (by rw [hk];exact⟨_,I',q⟩)
theorem vY (lo hi:Option Int)(n:Nat):(sliceBounds lo hi none n).1=((HT.sIx n 0 lo:Nat):Int)∧(sliceBounds lo hi none n).2.1=((HT.sIx n n hi:Nat):Int)∧(sliceBounds lo hi none n).2.2=1:=by
 refine⟨?_,?_,rfl⟩
 ·cases lo with
  | none=>simp [sliceBounds,HT.sIx]
  | some i =>
   simp only [sliceBounds,HT.sIx,Option.getD_none,show (1:Int) > 0 by decide,if_true]
   by_cases h:i < 0
   ·simp only [h,if_true]<;>omega
   ·simp only [h,if_false]<;>omega
 ·cases hi with
  | none=>simp [sliceBounds,HT.sIx]
  | some i =>
   simp only [sliceBounds,HT.sIx,Option.getD_none,show (1:Int) > 0 by decide,if_true]
   by_cases h:i < 0
   ·simp only [h,if_true]<;>omega
   ·simp only [h,if_false]<;>omega
theorem sy (its:List Value)(lo hi:Option Int):slicePick its.toArray lo hi none=((its.drop (HT.sIx its.length 0 lo)).take (HT.sIx its.length its.length hi - HT.sIx its.length 0 lo)).toArray:=by
 obtain⟨h1,h2,h3⟩:=vY lo hi its.toArray.size
 unfold slicePick
 rw [h1,h2,h3]
 simp only [sliceRange_one,pick_run,List.size_toArray]<;>rfl
def Py (K:ZX):V→Option Int→Option Int→Hp→VK→Prop:=fun x lo hi H Q=>∃ a xs,x=.ref a∧SqL K H a xs ∧ ∀ p,H p=none→Q (.ref p) (upd H p (.lst (pX xs lo hi)))
theorem KH:SlR X (Py X.K):=by
 intro pins s σ H x v vl vu lo hi sl Q I rx hs pl pu h
 obtain⟨a,xs,rfl,hx,q⟩:=h
 cases rx
 obtain⟨its,r,ht,hz⟩:=I.list hx
 have hlen:=r.length
 refine⟨"list",_,slot_list_getitem.lookup,ht.isList.typeIs,?_⟩
 refine wpAny_getItem_list_slice ht.isList hs pl pu .none (by simp) ?_ (by rw [List.size_toArray]<;>omega)
 rw [sy,← hlen]
 refine⟨.ref s.heap.objs.size,_,I.laid (t':=s.toks) (o:=.lst (pX xs lo hi)) (fun b ob q=>ZH _ q) (ZL _) ?_,rfl,q _ (I.hok.fresh (ZL _))⟩
 exact⟨ZM (ow xs lo hi) hz,_,0,(r.drop (HT.sIx xs.length 0 lo)).take (HT.sIx xs.length xs.length hi - HT.sIx xs.length 0 lo),ZJ _ rfl⟩
def ii:V→Bool
 | .non=>true
 | .bl _=>true
 | .int _=>true
 | .str _=>true
 | _=>false
def eqV:V→V→Bool
 | .non,.non=>true
 | .bl a,.bl b=>a == b
 | .bl a,.int b=>(if a then 1 else 0) == b
 | .int a,.bl b=>a == (if b then 1 else 0)
 | .int a,.int b=>a == b
 | .str a,.str b=>a == b
 | _,_=>false
theorem Ni {A:Around}{s:Shared}{y x:V}{u v:Value}(ry:bg y u)(rx:bg x v)(fy:ii y=true)(fx:ii x=true):SeqAt.EqAt A s u v (eqV y x):=by
 cases y with
 | non =>
  cases ry
  cases x with
  | non=>cases rx;exact SeqAt.EqAt.same _
  | bl b=>cases rx;exact SeqAt.EqAt.none_bool b
  | int b=>obtain⟨t,rfl⟩:=rx;exact SeqAt.EqAt.none_int b t
  | str b=>obtain⟨t,rfl⟩:=rx;exact SeqAt.EqAt.none_str b t
  | _=>exact absurd (show false=true from fx) Bool.false_ne_true
 | bl a =>
  cases ry
  cases x with
  | non=>cases rx;exact SeqAt.EqAt.bool_none a
  | bl b=>cases rx;exact SeqAt.EqAt.bool_bool a b
  | int b=>obtain⟨t,rfl⟩:=rx;exact SeqAt.EqAt.bool_int a b t
  | str b=>obtain⟨t,rfl⟩:=rx;exact SeqAt.EqAt.bool_str a b t
  | _=>exact absurd (show false=true from fx) Bool.false_ne_true
 | int a =>
  obtain⟨t',rfl⟩:=ry
  cases x with
  | non=>cases rx;exact SeqAt.EqAt.int_none a t'
  | bl b=>cases rx;exact SeqAt.EqAt.int_bool a t' b
  | int b=>obtain⟨t,rfl⟩:=rx;exact SeqAt.EqAt.int_int a t' b t
  | str b=>obtain⟨t,rfl⟩:=rx;exact SeqAt.EqAt.int_str a t' b t
  | _=>exact absurd (show false=true from fx) Bool.false_ne_true
 | str a =>
  obtain⟨t',rfl⟩:=ry
  cases x with
  | non=>cases rx;exact SeqAt.EqAt.str_none a t'
  | bl b=>cases rx;exact SeqAt.EqAt.str_bool a t' b
  | int b=>obtain⟨t,rfl⟩:=rx;exact SeqAt.EqAt.str_int a t' b t
  | str b=>obtain⟨t,rfl⟩:=rx;exact SeqAt.EqAt.str_str a t' b t
  | _=>exact absurd (show false=true from fx) Bool.false_ne_true
 | _=>exact absurd (show false=true from fy) Bool.false_ne_true
def eqU (x:V) (u:Value):Bool:=match u with
 | .none=>eqV .non x
 | .bool b=>eqV (.bl b) x
 | .int i _=>eqV (.int i) x
 | .str z _=>eqV (.str z) x
 | _=>false
theorem Bk {x y:V}{u:Value}(r:bg y u)(f:ii y=true):eqU x u=eqV y x:=by
 cases y with
 | non=>cases r;rfl
 | bl b=>cases r;rfl
 | int i=>obtain⟨t,rfl⟩:=r;rfl
 | str z=>obtain⟨t,rfl⟩:=r;rfl
 | _=>exact absurd (show false=true from f) Bool.false_ne_true
theorem vZ {x:V}:∀ {xs:List V} {us:List Value},aI xs us→xs.all ii=true→us.any (eqU x)=xs.any fun y=>eqV y x
 | _,_,.nil,_=>rfl
 | y :: xs,u :: us,.cons r t,f=>by
  rw [List.all_cons,Bool.and_eq_true] at f
  rw [List.any_cons,List.any_cons,Bk r f.1,vZ t f.2]
theorem lA {A:Around}{s:Shared}{x:V}{v:Value}(rx:bg x v)(fx:ii x=true):∀ {xs:List V} {us:List Value},aI xs us→xs.all ii=true → ∀ u∈us,SeqAt.EqAt A s u v (eqU x u)
 | _,_,.nil,_=>fun u hu=>by cases hu
 | y :: xs,u :: us,.cons r t,f=>fun u' hu=>by
  rw [List.all_cons,Bool.and_eq_true] at f
  rcases List.mem_cons.mp hu with rfl|hu
  ·rw [Bk r f.1];exact Ni r rx f.1 fx
  ·exact lA rx fx t f.2 u' hu
def inV (x:V) (xs:List V):Bool:=xs.any fun y=>eqV y x
def rIn (K:ZX) (neg:Bool):R2:=fun x y H Q=>∃ p xs,y=.ref p∧(SqL K H p xs∨SqT K H p xs)∧ii x=true∧xs.all ii=true∧Q (.bl (if neg then !inV x xs else inV x xs)) H
theorem uW:OpR X (compareOp .In) (rIn X.K false):=by
 intro pins s σ H x y v u Q I rx ry h
 obtain⟨p,xs,rfl,hq,fx,fs,q⟩:=h
 cases ry
 rcases hq with hq|hq
 ·obtain⟨its,r,pl,hz⟩:=I.list hq
  refine SeqAt.in_listAt (eqU x) pl.isList (fun w hw=>lA rx fx r fs w (by simpa using hw)) ⟨.bl _,H,I,rfl,?_⟩
  rw [show its.toArray.any (eqU x)=its.any (eqU x) by simp,vZ r fs]
  exact q
 ·obtain⟨its,r,pl,hz⟩:=I.tuple hq
  refine SeqAt.in_tupleAt (eqU x) pl (fun w hw=>lA rx fx r fs w (by simpa using hw)) ⟨.bl _,H,I,rfl,?_⟩
  rw [show its.toArray.any (eqU x)=its.any (eqU x) by simp,vZ r fs]
  exact q
theorem v4:ig X (.builtin "len") (fun xs H Q=>∃ p ys,xs=[.ref p]∧(SqL X.K H p ys∨SqT X.K H p ys)∧Q (.int ys.length) H):=by
 intro pins s σ H xs us Q I r h
 obtain⟨p,ys,rfl,hq,q⟩:=h
 obtain⟨u,rfl,rx⟩:=yQ r
 cases rx
 have hn:=mL
 rcases hq with hq|hq
 ·obtain⟨its,r',pl,hz⟩:=I.list hq
  have hlen:=r'.length
  exact Calls.call_len_list pl.isList (by simp only [List.size_toArray]<;>omega) ⟨.int ys.length,H,I.tok _,⟨s.toks + 1,by rw [List.size_toArray,hlen]⟩,q⟩
 ·obtain⟨its,r',pl,hz⟩:=I.tuple hq
  have hlen:=r'.length
  exact len_tuple pl (by simp only [List.size_toArray]<;>omega) ⟨.int ys.length,H,I.tok _,⟨s.toks + 1,by rw [List.size_toArray,hlen]⟩,q⟩
theorem v5:ig X (.type "list") (fun xs H Q=>∃ p ys,xs=[.ref p]∧(SqL X.K H p ys∨SqT X.K H p ys) ∧ ∀ l,H l=none→Q (.ref l) (upd H l (.lst ys))):=by
 intro pins s σ H xs us Q I r h
 obtain⟨p,ys,rfl,hq,q⟩:=h
 obtain⟨u,rfl,rx⟩:=yQ r
 cases rx
 have fin:∀ (its:List Value),aI ys its→ys.length≤sizeLine → ∀ (h':Heap) (c':Nat),(∀ b o',s.heap.get? b=some o'→h'.get? b=some o') →
   h'.get? s.heap.objs.size=some { cls:=.type "list",dict:=none,data:=.seq its.toArray c',slots := #[] } → EP X pins σ Q (.ref s.heap.objs.size) { s with heap:=h' }:=fun its r' hz h' c' kp e =>
  ⟨.ref s.heap.objs.size,_,I.laid (t':=s.toks) kp (ZL _) (show cX X.prog X.w _ h' _ (.lst ys) from ⟨hz,its,c',r',e⟩),rfl,q _ (I.hok.fresh (ZL _))⟩
 rcases hq with hq|hq
 ·obtain⟨its,r',pl,hz⟩:=I.list hq
  have hlen:=r'.length
  obtain⟨o,ho,hc,n,hd⟩:=pl.isList
  exact call_list_seq p (.inl rfl) ho hc hd (fun h' c' kp e=>fin its r' hz h' c' kp e) (by simp only [List.size_toArray]<;>omega)
 ·obtain⟨its,r',pl,hz⟩:=I.tuple hq
  have hlen:=r'.length
  obtain⟨o,ho,hc,n,hd⟩:=pl
  exact call_list_seq p (.inr rfl) ho hc hd (fun h' c' kp e=>fin its r' hz h' c' kp e) (by simp only [List.size_toArray]<;>omega)
theorem sA:ig X (.type "tuple") (fun xs H Q=>∃ p ys,xs=[.ref p]∧((SqL X.K H p ys ∧ ∀ l,H l=none→Q (.ref l) (upd H l (.tup ys)))∨(SqT X.K H p ys∧Q (.ref p) H))):=by
 intro pins s σ H xs us Q I r h
 obtain⟨p,ys,rfl,h⟩:=h
 obtain⟨u,rfl,rx⟩:=yQ r
 cases rx
 rcases h with ⟨hq,q⟩|⟨hq,q⟩
 ·obtain⟨its,r',pl,hz⟩:=I.list hq
  have hlen:=r'.length
  refine call_tuple_list pl.isList (fun h' kp => ?_) (by simp only [List.size_toArray]<;>omega)
  have I1:Inv X pins σ H { s with heap:=h' }:=I.kept (t':=s.toks) kp
  have I2:Inv X pins σ (upd H h'.objs.size (.tup ys)) { s with heap:=h'.push { cls:=.type "tuple",data:=.seq its.toArray } } :=
   I1.laid (t':=s.toks) (fun b o e=>ZH _ e) (ZL _) (show cX X.prog X.w _ _ _ (.tup ys) from ⟨hz,its,r',IsTup.new _ _⟩)
  exact⟨.ref h'.objs.size,_,I2,rfl,q _ (I1.hok.fresh (ZL _))⟩
 ·obtain⟨its,r',pl,hz⟩:=I.tuple hq
  exact call_tuple_same pl ⟨.ref p,H,I,rfl,q⟩
def tyV (K:ZX) (T:String) (x:V) (H:Hp):Prop:=match x with
 | .str _=>T = "str"
 | .int _=>T = "int"
 | .ref p=>(T = "list" ∧ ∃ xs,SqL K H p xs)∨(T = "tuple" ∧ ∃ o,K.lookup p=some o∧o.cls=.type "tuple" ∧ o.dict=none) ∨
   (T = "dict" ∧ ((∃ kvs,H p=some (.dK kvs)) ∨ ∃ kvs,H p=some (.dT kvs)))∨(T = "set" ∧ ∃ S n,H p=some (.set S n))
 | _=>False
theorem Nj {pins:List (Addr × Obj)}{σ:St}{H:Hp}{s:Shared}{T:String}{x:V}{v:Value}(I:Inv X pins σ H s)(r:bg x v)(ty:tyV X.K T x H) :
  s.TypeIs v T ∧ ∀ a,v=.ref a → ∃ ob,s.heap.get? a=some ob∧ob.dict=none:=by
 cases x with
 | str z =>
  obtain⟨t,rfl⟩:=r
  cases (show T = "str" from ty)
  exact⟨typeIs_str s z t,fun _ e=>nomatch e⟩
 | int i =>
  obtain⟨t,rfl⟩:=r
  cases (show T = "int" from ty)
  exact⟨typeIs_int s i t,fun _ e=>nomatch e⟩
 | ref p =>
  cases r
  rcases ty with ⟨rfl,xs,hq⟩|⟨rfl,o,hk,hc,hd⟩|⟨rfl,hk⟩|⟨rfl,S,n,hk⟩
  ·obtain⟨its,_,pl,_⟩:=I.list hq
   refine⟨pl.isList.typeIs,fun a e => ?_⟩
   cases e
   obtain⟨o,n,e,c,hd,_⟩:=pl
   exact⟨o,e,hd⟩
  ·refine⟨⟨o,I.kIn p o hk,hc⟩,fun a e => ?_⟩
   cases e
   exact⟨o,I.kIn _ o hk,hd⟩
  ·have z:∃ o,s.heap.get? p=some o∧o.ExactDict:=by
    rcases hk with ⟨kvs,hk⟩|⟨kvs,hk⟩
    ·obtain⟨_,_,_,_,o,_,_,e,ex,_⟩:=I.hok p _ hk
     exact⟨o,e,ex⟩
    ·obtain⟨_,_,_,_,o,_,_,e,ex,_⟩:=I.hok p _ hk
     exact⟨o,e,ex⟩
   obtain⟨o,e,ex⟩:=z
   refine⟨⟨o,e,ex.1⟩,fun a e2 => ?_⟩
   cases e2
   exact⟨o,e,ex.2.1⟩
  ·obtain⟨o,_,_,_,e,ex,_⟩:=I.hok p _ hk
   refine⟨⟨o,e,ex.1⟩,fun a e2 => ?_⟩
   cases e2
   exact⟨o,e,ex.2.1⟩
 | _=>exact False.elim ty
def tBM (K:ZX) (T:String) (r:V→List V→Hp→VK→Prop) (to:TE) (t:TA):TE:=fun σ H Q=>to σ H fun x H1=>tyV K T x H1∧t σ H1 fun xs H2=>r x xs H2 Q
variable {o e:Expr} {es:List Expr} {to:TE} {t:TA} {name:Str} {apos cpos:Pos} {T id:String} {r:V→List V→Hp→VK→Prop}
theorem Mi (pa:PlainAttrs T) (slot:Slot T name id) (hty:typeOf (.builtin id)=pure (.type "method_descriptor")) (hm:MtR X id r) (ho:PE X o to) (ha:PA X (e :: es) t)
  (hbase:attributeBase o name X.env (eval o X.env)=eval o X.env:=by rfl)
  (hfew:((backTo cpos (starEach (e :: es) X.env)).all (fun x => !x.1) && (backToKw cpos (keywordEach [] X.env)).all (fun x=>x.1.isSome)
   && decide ((e :: es).length + ([] : List Keyword).length + (if ([] : List Keyword).isEmpty then 0 else 1) < 30))=true:=by rfl)
  (hline:(apos.endLine == cpos.line)=true:=by rfl) (hs:starEach (e :: es) X.env=(false,eval e X.env) :: starEach es X.env:=by rfl) (hplain:(backTo cpos (starEach es X.env)).any (·.1)=false:=by rfl) :
  PE X (.Call (.Attribute o name apos) (e :: es) [] cpos) (tBM X.K T r to t):=by
 intro pins s σ H Q I h
 refine wpAny_Call_method_late hbase hfew hline rfl (thn (ho pins s σ H _ I h) fun v s1 ⟨x,H1,I1,r1,ty,q1⟩ => ?_)
 obtain⟨h1,h2⟩:=Nj I1 r1 ty
 refine⟨T,id,pa,slot,hty,h1,h2,?_⟩
 have hA:=ha cpos pins s1 σ H1 _ I1 q1
 rw [hs] at hA ⊢
 refine Calls.callWith_builtin (by show (false || (backTo cpos (starEach es X.env)).any (·.1))=false;rw [hplain]<;>rfl) (Calls.evalArgs_plain ?_)
 exact thn hA fun us s2 ⟨vs,H2,I2,r2,q2⟩=>hm pins s2 σ H2 x vs v us Q I2 r1 r2 q2
end
end L2
namespace L2
open PySem PySem.Spec PyProof.Rows
def MtM (X:Cx) (id:String) (r:V→List V→Hp→VK→Prop):Prop :=
 ∀ (pins:List (Addr × Obj)) (s:Shared) (σ:St) (H:Hp) (x:V) (xs:List V) (v:Value) (us:List Value) (Q:VK),Inv X pins σ H s→bg x v→aI xs us→r x xs H Q →
  wpAny (model X.prog X.w) X.A (call (.builtin id) (v :: us)) (EP X pins σ Q) X.xe s
theorem aI.one:∀ {x:V} {us:List Value},aI [x] us → ∃ u,us=[u]∧bg x u
 | _,_,.cons r .nil=>⟨_,rfl,r⟩
theorem aI.two:∀ {x y:V} {us:List Value},aI [x,y] us → ∃ u v,us=[u,v]∧bg x u∧bg y v
 | _,_,_,.cons r (.cons q .nil)=>⟨_,_,rfl,r,q⟩
theorem aI.rep {xs:List V}{us:List Value}(h:aI xs us):∀ k:Nat,aI (List.replicate k xs).flatten (List.replicate k us).flatten
 | 0=>.nil
 | k + 1=>by
  rw [List.replicate_succ,List.replicate_succ,List.flatten_cons,List.flatten_cons]
  exact aI.append h (aI.rep h k)
theorem uX (its:List Value):∀ (k:Nat) (acc:List Value),
  List.foldl (fun x1 x2=>x1++x2) acc.toArray (List.replicate k its.toArray)=(acc++(List.replicate k its).flatten).toArray
 | 0,acc=>by simp
 | k + 1,acc=>by
  have e:acc.toArray++its.toArray=(acc++its).toArray:=by simp
  have e2:(acc++its)++(List.replicate k its).flatten=acc++(List.replicate (k + 1) its).flatten:=by
   rw [List.replicate_succ,List.flatten_cons,ZU]
  rw [← e2,← uX its k (acc++its),← e,List.replicate_succ,List.foldl_cons]
section
variable {X:Cx} {pins:List (Addr × Obj)} {σ:St} {H:Hp} {s:Shared} {l b:Addr} {xs ys zs:List V}
theorem Inv.lset {its its':List Value}{n:Nat}{f:Array Value→Array Value}{t':Nat}(I:Inv X pins σ H s)(hH:H l=some (.lst xs))
  (e:s.heap.get? l=some { cls:=.type "list",data:=.seq its.toArray n }) (hf:f its.toArray=its'.toArray) (hv:aI ys its') (hz:ys.length≤sizeLine) :
  Inv X pins σ (upd H l (.lst ys)) { s with heap:=s.heap.update l (Obj.mapSeq f),toks:=t' }:=by
 have q:=PySem.IsL.update e f
 rw [hf] at q
 refine I.write (x:=l) (e:=l) (by rw [hH];exact trivial) (.inl rfl) (fun b' u hb hu=>(Heap.get?_update_other s.heap (Obj.mapSeq f) (Ne.symm hb)).trans hu) ⟨_,q⟩ ?_
 exact⟨hz,its',_,hv,q⟩
theorem Inv.lnew {its:List Value}{t':Nat}(I:Inv X pins σ H s)(hv:aI ys its)(hz:ys.length≤sizeLine) :
  Inv X pins σ (upd H s.heap.objs.size (.lst ys)) { s with heap:=s.heap.push { cls:=.type "list",data:=.seq its.toArray },toks:=t' } :=
 I.laid (fun _ _ q=>ZH _ q) (ZL _) ⟨hz,its,0,hv,ZJ _ rfl⟩
theorem Inv.fresh (I:Inv X pins σ H s):H s.heap.objs.size=none:=I.hok.fresh (ZL _)
theorem Inv.lstM (I:Inv X pins σ H s) (hH:H l=some (.lst xs)):xs.length≤sizeLine ∧ ∃ (its:List Value) (n:Nat),aI xs its∧xs.length=its.length∧s.heap.get? l=some { cls:=.type "list",data:=.seq its.toArray n }:=by
 obtain⟨z,its,n,r,e⟩:=I.hok l _ hH
 exact⟨z,its,n,r,r.length,e⟩
theorem Hm {n:Nat}(h:n≤sizeLine):Builtin.List.listTooLong n=false:=by
 unfold Builtin.List.listTooLong
 exact decide_eq_false (by omega)
end
section
variable {X:Cx}
def KI:V→List V→Hp→VK→Prop:=fun x vs H Q=>∃ l xs y,x=.ref l∧vs=[y]∧H l=some (.lst xs)∧xs.length < sizeLine∧Q .non (upd H l (.lst (xs++[y])))
theorem uY:MtM X "list.append" KI:=by
 intro pins s σ H x vs v us Q I rx rv h
 obtain⟨l,xs,y,rfl,rfl,hH,hz,q⟩:=h
 cases rx
 obtain⟨u,rfl,ru⟩:=rv.one
 obtain⟨z,its,n,r,hl,e⟩:=I.lstM hH
 refine call_meets F.slot_list_append ⟨_,e,rfl⟩ F.entry_list_append (F.args_list_append_2 _ _) (PySem.list_append l its.toArray n u (by rw [List.size_toArray];omega)) ⟨e,?_⟩
 refine⟨.non,_,I.lset (its':=its++[u]) hH e (by simp) (r.append (.cons ru .nil)) ?_,rfl,q⟩
 rw [ZB,List.length_singleton]
 omega
def QK:R2:=fun x y H Q=>∃ l b xs zs,x=.ref l∧y=.ref b∧H l=some (.lst xs)∧H b=some (.lst zs)∧xs.length + zs.length≤sizeLine ∧ ∀ p,H p=none→Q (.ref p) (upd H p (.lst (xs++zs)))
theorem Nk:OpR X (binaryOp .Add) QK:=by
 intro pins s σ H x y v u Q I rx ry h
 obtain⟨l,b,xs,zs,rfl,rfl,hH,hB,hz,q⟩:=h
 cases rx
 cases ry
 obtain⟨z,its,n,r,hl,e⟩:=I.lstM hH
 obtain⟨z2,its2,n2,r2,hl2,e2⟩:=I.lstM hB
 refine PySem.P.add_list e e2 ?_ (by rw [List.size_toArray,List.size_toArray];omega)
 have ea:its.toArray++its2.toArray=(its++its2).toArray:=by simp
 rw [ea]
 exact⟨.ref _,_,I.lnew (t':=s.toks) (r.append r2) (by rw [ZB];omega),rfl,q _ I.fresh⟩
def QL:R2:=fun x y H Q=>∃ l k xs,x=.ref l∧y=.int k∧H l=some (.lst xs) ∧ -(2 ^ 63)≤k∧k < 2 ^ 63∧xs.length * k.toNat≤sizeLine ∧
 ∀ p,H p=none→Q (.ref p) (upd H p (.lst (List.replicate k.toNat xs).flatten))
theorem KJ {α : Type}(xs:List α)(k:Nat):(List.replicate k xs).flatten.length=k * xs.length:=by
 induction k with
 | zero=>simp
 | succ k ih=>rw [List.replicate_succ,List.flatten_cons,ZB,ih,Nat.succ_mul,Nat.add_comm]
theorem Nl:OpR X (binaryOp .Mult) QL:=by
 intro pins s σ H x y v u Q I rx ry h
 obtain⟨l,k,xs,rfl,rfl,hH,h1,h2,hz,q⟩:=h
 cases rx
 obtain⟨t,rfl⟩:=ry
 obtain⟨z,its,n,r,hl,e⟩:=I.lstM hH
 have hlen:its.toArray.size * k.toNat≤sizeLine:=by rw [List.size_toArray,← hl];exact hz
 have hcap : ¬ its.toArray.size * k.toNat > (2 ^ 63 - 1) / 8:=by
  have:(sizeLine:Nat)≤(2 ^ 63 - 1) / 8:=by decide
  omega
 have hfit : ¬ (!Builtin.List.listFitsIndex k)=true:=by
  rw [fitsIndex_both h1 h2]
  exact Bool.false_ne_true
 have hlong : ¬ Builtin.List.listTooLong (its.toArray.size * k.toNat)=true:=by
  rw [Hm hlen]
  exact Bool.false_ne_true
 have hnew:List.foldl (fun x1 x2=>x1++x2) #[] (List.replicate (if its.toArray.isEmpty=true then 0 else k.toNat) its.toArray)=(List.replicate k.toNat its).flatten.toArray:=by
  have f0:∀ m:Nat,List.foldl (fun x1 x2=>x1++x2) #[] (List.replicate m its.toArray)=(List.replicate m its).flatten.toArray:=fun m=>by
   have:=uX its m []
   rw [List.nil_append] at this
   exact this
  rw [f0]
  cases its with
  | nil=>simp
  | cons a r'=>rw [if_neg (by simp)]
 refine wpAny_binaryOp_repeat_ref (T := "list") (U := "int") (by decide) ⟨_,e,rfl⟩ (fun s'=>typeIs_int s' k t) noFill_list_mul F.fills_int_mul F.slot_int_rmul repeat_list F.slot_int_index.lookup
  (call_meets F.slot_int_rmul (typeIs_int s k t) F.entry_int_rmul (F.args_int_rmul_2 _ _) (int___rmul___int_list k t l its.toArray n)
   ⟨e,rfl,⟨_,e,rfl⟩,call_meets F.slot_list_mul ⟨_,e,rfl⟩ F.entry_list_mul (F.args_list_mul_2 _ _) (AutoListH.list___mul___list_int_3 l its.toArray n k t hfit hcap hlong) ⟨e,?_⟩⟩)
 rw [hnew]
 exact⟨.ref _,_,I.lnew (t':=s.toks) (r.rep k.toNat) (by rw [KJ,Nat.mul_comm];exact hz),rfl,q _ I.fresh⟩
end
section
variable {prog:Program} {w:World} {A:Around} {E:Value→Shared→Prop} {s:Shared}
end
section
variable {X:Cx}
end
end L2
namespace Att
open PySem PySem.W PySem.Calls PyProof.Rows
theorem o0 {P:Params}{h:Heap}:∀ (ns:List Int) (vs:List Value),WellAll P h vs (ns.map WData.int)→IntsAre vs ns:=by
 intro ns
 induction ns with
 | nil =>
  intro vs w
  rw [List.map_nil] at w
  cases w
  exact .nil
 | cons n ns ih =>
  intro vs w
  rw [List.map_cons] at w
  cases w with
  | cons a b =>
   cases a
   exact .cons _ _ (ih _ b)
theorem E5 {l:OpenLaw}{n:Nat}(hn:l.most=some n){P:Params}{h:Heap}{args:List WData}{vals:List Value}
  (hpre:l.row.toRowW.claim.pre args=true) (hwl:WellAll P h vals args) :
  ∃ a vs ns,vals=[Value.ref a]∧args=[WData.list (ns.map WData.int)]∧h.get? a=some { cls:=.type "list",data:=.seq vs.toArray } ∧ IntsAre vs ns∧ns.length≤n:=by
 have hsh:WShape.hasAll [] args [.list .int] = true:=(pre_splitW hpre).1
 have hc:l.pre.holds [] { args:=args } = true:=(pre_splitW hpre).2
 obtain⟨d,r,rfl,h1,h2⟩:=hasAllW_cons hsh
 obtain rfl:=hasAllW_nil h2
 obtain⟨xs,rfl,h3⟩:=hasW_list h1
 obtain⟨ns,rfl⟩:=items_int h3
 have hlen:ns.length≤n:=by
  unfold OpenLaw.pre at hc
  have h4:(WTm.not (.lt (.lit (.int (n:Int))) (.len (.arg 0)))).holds [] { args:=[.list (ns.map .int)] } = true:=by
   have h4:=(holds_andW hc).1
   rw [hn] at h4
   exact h4
  have h5:=condW_of h4 (w_not (w_lt w_lit (w_len_list (w_arg rfl))))
  rw [ZA] at h5
  refine Nat.le_of_not_lt fun q => ?_
  have q':(n:Int) < ((ns.length:Nat):Int):=by omega
  first
   | (rw [decide_eq_true q'] at h5;exact absurd h5 (by decide))
   | (simp at h5;omega)
 cases hwl with
 | cons w1 w2 =>
  cases w2
  cases w1 with
  | list ho hall=>exact⟨_,_,ns,rfl,rfl,ho,o0 ns _ hall,hlen⟩
theorem E6 (l:OpenLaw)(args:List WData):l.row.toRowW.claim.post args (.bool true) args=true :=
 postW_of (r:=l.row.toRowW) (X:=(true == true))
  (show WShape.has [] (.bool true) .bool=true by first|rfl|decide|simp [WShape.has,WShape.arms,WShape.armsAll])
  (show (WTm.eq .res (.lit (.bool true))).value [] { args:=args,res:=some (.bool true),after:=args } = some (.bool (true == true)) from w_eq_bool (w_res rfl) w_lit) rfl
theorem attach_call {l:OpenLaw}{n:Nat}{q:Program}{loose:List Str}{XP:(Str→Option Value)→Heap→Prop}{YP:World→Heap→Prop}{d:DefRec}
  (hn:l.most=some n) (hdf:d.params.defaults=[])
  (call:∀ (w:World) (s₀ s₁ : Shared) (mg mb:Str→Option Value) (fa:Addr) (o:Obj) (pm cd doc:Value) (a:Addr) (vs:List Value) (ns:List Int),
   Ground q loose [] XP w s₀ mg mb s₁.heap→YP w s₁.heap →
   s₁.heap.get? fa=some o→o.data=.func (docDef d.name d.params d.body d.scope pm cd doc)→s₁.heap.CodeRec cd d.name→mg d.name=some (.ref fa) →
   s₁.heap.get? a=some { cls:=.type "list",data:=.seq vs.toArray } → IntsAre vs ns→ns.length≤n→s₁.gens = #[] →
   codeAny (model l.prog w) callerA (.call (.ref fa) ⟨[.ref a],[]⟩) (fun r s'=>r=.ok (.ret (.bool true))∧OldK s₁.heap s'.heap∧s'.os=s₁.os∧AllBare s'.gens) s₁) :
  WalkO q loose XP YP l.row.toRowW d [] (fun f vs=>PySem.call f vs):=by
 intro w s₀ s₁ mg mb G Y fa o pm cd doc dV kV ho hd hcd hD hmg hg args vals as hpre hlay hrd hwl hlo
 obtain rfl:dV=.none:=Dflts.none hD hdf
 obtain rfl:kV=.none:=Dflts.noKw hD
 obtain⟨a,vs,ns,rfl,rfl,hobj,hints,hlen⟩:=E5 hn hpre hwl
 refine enter_call (codeAny_mono (call w s₀ s₁ mg mb fa o pm cd doc a vs ns G Y ho (fd_plain hd) hcd hmg hobj hints hlen hg) fun r s' hq => ?_)
 obtain⟨rfl,h2,h3,h4⟩:=hq
 exact⟨.inl ⟨.bool true,.bool true,[],rfl,fun _=>rfl,.bool true,E6 l _,fun _=>⟨List.Pairwise.nil,fun _ hm=>(nomatch hm)⟩⟩,h2,h3,h4⟩
section
variable {prog:Program} {w:World} {A:Around} {E:Value→Shared→Prop} {s:Shared} {K:Frag}
def noObjs (h:Heap):Heap:={ h with objs := #[] }
theorem noObjs_get (h:Heap)(b:Addr):(noObjs h).get? b=none:=by
 cases e:(noObjs h).get? b with
 | none=>rfl
 | some o=>exact absurd (ZI e) (Nat.not_lt_zero _)
def ledger (h:Heap) (L d:Addr):List (Addr × Obj):=(List.range h.objs.size).filterMap fun a=>if a=L∨a=d then none else (h.get? a).map fun o=>(a,o)
theorem mem_ledger {h:Heap}{L d a:Addr}{o:Obj}:(a,o)∈ledger h L d ↔ a≠L∧a≠d∧h.get? a=some o:=by
 unfold ledger
 rw [List.mem_filterMap]
 constructor
 ·rintro⟨b,_,e⟩
  split at e
  ·cases e
  ·rename_i hb
   obtain⟨o',ho,e'⟩:=Option.map_eq_some_iff.mp e
   cases e'
   exact⟨fun q=>hb (.inl q),fun q=>hb (.inr q),ho⟩
 ·rintro⟨n1,n2,ho⟩
  refine⟨a,List.mem_range.mpr (ZI ho),?_⟩
  rw [if_neg (show ¬ (a=L∨a=d) from fun q=>q.elim n1 n2),ho]<;>rfl
theorem fr_all {h:Heap}{L:Addr}{m:Str→Option Value}(n:h.Ns L m):Fr (noObjs h) L h m :=
 ⟨n,fun b o e=>(by rw [noObjs_get] at e;cases e),Nat.zero_le _⟩
end
end Att
namespace L2
open PySem PySem.Spec PyProof.Rows
theorem uZ:∀ {vs:List Value} {ns:List Int},IntsAre vs ns→aI (ns.map V.int) vs
 | _,_,.nil=>.nil
 | _,_,.cons n t h=>.cons ⟨t,rfl⟩ (uZ h)
def Nm (H:Hp):Prop:=∀ b,H b=none ∨ ∃ o xs,H b=some (.frz o (.lst xs))
theorem Hn {P:Program}{w:World}{K:ZX}{mg mb:Str→Option Value}{CX:CXT}{k:Nat}{fa a:Addr}{fd:FuncData}{x:Str}{sp:Sp}{s₁ : Shared}{vs:List Value}{ns:List Int}
  (KX:K.In s₁.heap) (hns:s₁.heap.Ns mainGlobals mg) (hb:s₁.heap.Ns builtinsNs mb) (hbb:∀ x:Str,x ≠ "__name__" → mb x=bootBuiltins x) (hlim:s₁.heap.NoLimit) (hg:s₁.gens = #[])
  (ha:s₁.heap.get? a=some { cls:=.type "list",data:=.seq vs.toArray }) (hi:IntsAre vs ns) (hl:ns.length≤sizeLine) (hr:gF k callerA)
  (F:∀ base:Heap,K.In base→base.Ns mainGlobals mg→bU P w K mg base CX k fa fd [x] sp) (hbind:∀ (s:Shared) (u:Value),BindsTo s fd ⟨[u],[]⟩ [(x,u)])
  (hsp:∀ H:Hp,Nm H→SqL K H a (ns.map V.int)→sp [.ref a] H (fun v _=>v=.bl true) fun _ _ _=>False)
  (hCX:∀ H e s',CX [] H s₁ (fun _ _ _=>False) e s'→False) :
  codeAny (model P w) callerA (.call (.ref fa) ⟨[.ref a],[]⟩) (fun r s'=>r=.ok (.ret (.bool true))∧OldK s₁.heap s'.heap∧s'.os=s₁.os∧AllBare s'.gens) s₁ := by
 have rv:=uZ hi
 have lenV:=hi.length
 have core:∀ H:Hp,Nm H→SqL K H a (ns.map V.int)→HOk P w H s₁.heap→(∀ b,H b≠none→b=a)→(H a≠none→K.lookup a=none) →
   codeAny (model P w) callerA (.call (.ref fa) ⟨[.ref a],[]⟩) (fun r s'=>r=.ok (.ret (.bool true))∧OldK s₁.heap s'.heap∧s'.os=s₁.os∧AllBare s'.gens) s₁ := by
  intro H hO hS hok hA hK
  have base_of:∀ {b:Addr} {o:Obj},s₁.heap.get? b=some o→H b=none→(vT s₁.heap H).get? b=some o:=fun e n=>G0 e n
  have noA:∀ {b:Addr} {o:Obj} {es:Array DictEntry} {ep:Nat},s₁.heap.get? b=some o→o.data=.dict es ep→H b=none:=fun {b o es ep} e d=>by
   cases q:H b with
   | none=>rfl
   | some u =>
    have e':b=a:=hA b (by rw [q];simp)
    subst e'
    rw [ha] at e;cases e
    have d':Data.seq vs.toArray _=Data.dict es ep:=d
    cases d'
  have nsK:∀ {b:Addr} {m:Str→Option Value},s₁.heap.Ns b m→(vT s₁.heap H).Ns b m:=fun {b m} ⟨o,es,ep,e,d,r⟩=>⟨o,es,ep,base_of e (noA e d),d,r⟩
  have hKb:K.In (vT s₁.heap H):=fun b o e=>base_of (KX b o e) (by
   cases q:H b with
   | none=>rfl
   | some u =>
    have e':b=a:=hA b (by rw [q];simp)
    subst e'
    rw [hK (by rw [q];simp)] at e;cases e)
  have hM:Mod K mg (vT s₁.heap H):=⟨hKb,nsK hns,⟨mb,nsK hb,hbb⟩,let ⟨mc,h1,h2⟩:=hlim;⟨mc,nsK h1,h2⟩⟩
  have e0:Ky P w K mg (vT s₁.heap H) callerA [] s₁ H:=⟨rfl,hM,fun b o e=>Ko e,Nat.le_of_eq (EW _ _),trivial,fun b hb=>absurd (show b∈([] : List Addr) from hb) (by simp),hok,.of_eq hg⟩
  refine codeAny_mono ((F _ hKb (nsK hns)).run callerA [] s₁ H ⟨[.ref a],[]⟩ [.ref a] [.ref a] _ _ hr e0 (hbind s₁ (.ref a)) (.cons rfl .nil) (hsp H hO hS)) fun r s' h => ?_
  cases r with
  | error e=>exact (hCX H e s' h).elim
  | ok fl =>
   cases fl with
   | next=>exact False.elim h
   | brk=>exact False.elim h
   | cont=>exact False.elim h
   | ret u =>
    obtain⟨v,H',os,bare,un,hok',r',q⟩:=h
    have q':v=.bl true:=q
    subst q'
    obtain rfl:u=Value.bool true:=r'
    refine⟨rfl,OldK.of_keep fun b o e => ?_,os,bare⟩
    cases q:H b with
    | none=>exact un.keep b o e q (by intro z;exact absurd (show b∈([] : List Addr) from z) (by simp)) (by simp)
    | some u =>
     rcases hO b with z|⟨ob,xs,z⟩
     ·rw [q] at z;cases z
     ·have z2:=un.frzs b ob _ z
      obtain⟨e1,_⟩:=hok b _ z
      obtain⟨e2,_⟩:=hok' b _ z2
      rw [e] at e1;cases e1
      exact e2
 cases hk:K.lookup a with
 | some o =>
  have e:=KX a o hk
  rw [ha] at e
  cases e
  refine core (fun _=>none) (fun _=>.inl rfl) (.inr ⟨_,vs.toArray,_,hk,rfl,rfl,rfl,by rw [List.size_toArray,lenV];exact hl,by simpa using rv⟩) (fun b u z=>by have z':(none:Option HO)=some u:=z;cases z') (fun b z=>absurd rfl z) fun z=>absurd rfl z
 | none =>
  refine core (fun b=>if b=a then some (.frz { cls:=.type "list",data:=.seq vs.toArray } (.lst (ns.map V.int))) else none) (fun b => ?_) (.inl (.inr ⟨{ cls:=.type "list",data:=.seq vs.toArray },if_pos rfl⟩)) (fun b u z => ?_) (fun b z => ?_) fun _=>hk
  ·by_cases hb:b=a
   ·exact .inr ⟨_,_,if_pos hb⟩
   ·exact .inl (if_neg hb)
  ·by_cases hb:b=a
   ·have z':=(if_pos hb).symm.trans z
    cases z'
    subst hb
    exact⟨ha,by rw [ZA];exact hl,vs,_,rv,ha⟩
   ·have z':=(if_neg hb).symm.trans z
    cases z'
  ·by_cases hb:b=a
   ·exact hb
   ·exact absurd (if_neg hb) z
end L2
namespace L2
open PySem PySem.Spec PyProof.Rows
theorem KK {l:PySem.W.OpenLaw}{n k:Nat}{q:Program}{loose:List Str}{XP:(Str→Option Value)→Heap→Prop}{YP:World→Heap→Prop}{d:DefRec}{K:Params→ZX}{CX:World→CXT}{sp:World→Sp}{x:Str}
  (hn:l.most=some n) (hn2:n≤sizeLine) (hdf:d.params.defaults=[]) (hr:gF k callerA)
  (hY:∀ (w:World) (h:Heap),YP w h→(K w.params).In h)
  (F:∀ (w:World) (mg:Str→Option Value) (fa:Addr) (h:Heap),(K w.params).In h→h.Ns mainGlobals mg→mg d.name=some (.ref fa) →
   ∃ fd:FuncData,(∀ (s:Shared) (u:Value),BindsTo s fd ⟨[u],[]⟩ [(x,u)]) ∧
    ∀ base:Heap,(K w.params).In base→base.Ns mainGlobals mg→bU l.prog w (K w.params) mg base (CX w) k fa fd [x] (sp w))
  (hsp:∀ (w:World) (H:Hp) (a:Addr) (ns:List Int),ns.length≤n→Nm H→SqL (K w.params) H a (ns.map V.int)→sp w [.ref a] H (fun v _=>v=.bl true) fun _ _ _=>False)
  (hCX:∀ (w:World) (H:Hp) (s:Shared) (e:Value) (s':Shared),CX w [] H s (fun _ _ _=>False) e s'→False) :
  PySem.W.WalkO q loose XP YP l.row.toRowW d [] (fun f vs=>PySem.call f vs):=by
 refine Att.attach_call hn hdf fun w s₀ s₁ mg mb fa o pm cd doc a vs ns G Y ho hd hcd hmg hobj hints hlen hg => ?_
 have KX:=hY w _ Y
 obtain⟨fd,hb,hF⟩:=F w mg fa _ KX G.T.g hmg
 exact Hn KX G.T.g G.T.b G.T.builtins G.T.nolimit hg hobj hints (ZM hlen hn2) hr hF hb (fun H hO hS=>hsp w H a ns hlen hO hS) fun H e s'=>hCX w H s₁ e s'
end L2
namespace L2
open PySem PySem.Spec PyProof.Rows
def aK (s:Stmt):Arguments:=match s with
 | .FunctionDef _ a _ _ _ _ _ _ _ _=>a
 | _=>{ posonlyargs:=[],args:=[],vararg:=none,kwonlyargs:=[],kw_defaults:=[],kwarg:=none,defaults:=[] }
def aE (s:Stmt):List Stmt:=match s with
 | .FunctionDef _ _ b _ _ _ _ _ _ _=>b
 | _=>[]
def af (s:Stmt):Scope:=match s with
 | .FunctionDef _ _ _ _ _ _ sc _ _ _=>sc
 | _=>{ kind:=.function,names:=[],isGenerator:=false,isCoroutine:=false }
abbrev CX0:CXT:=fun _ _ _ _ _ _=>False
abbrev E0:XK:=fun _ _ _=>False
theorem Pz {X:Cx}:pV CX0 X E0:=fun _ _ _ _ _ _ _ h=>h.elim
structure Fun (K:ZX) (x qual:Str) (st:Stmt) (f:Addr) (fd:FuncData):Prop where
 ex:∃ (oc:Value) (od:Option Addr) (kV doc pm:Value) (an:Option Addr) (cdv ct:Value) (osl:Array (Option Value)),
  fd=PySem.W.fnOf x qual (aK st) (aE st) (af st) .none kV doc pm an cdv ct∧K.lookup f=some ⟨oc,od,.func fd,osl⟩ ∧ PySem.W.codeIn K cdv qual=true
 kp:PySem.W.keepIn K (.ref f)=true
section
variable {P:Program} {w:World} {K:ZX} {mg:Str→Option Value} {base:Heap}
theorem Fun.ok {x qual:Str}{st:Stmt}{f:Addr}{fd:FuncData}{N ps:List Str}{k:Nat}{sp:Sp}(F:Fun K x qual st f fd)(S:aJ N ps (af st))(len:∀ vs H Q E,sp vs H Q E→vs.length=ps.length)
  (hbody:∀ (cdv:Value) (A:Around) (outer:List Env) (s:Shared) (H:Hp) (vs:List V) (Q:VK) (E:XK),gF k (A.deeper (envOfC qual (af st) s.heap.objs.size f cdv))→sp vs H Q E →
   ∃ t,PSs (oZ CX0 P w K mg base N qual (af st) f cdv A outer s H E).nox (aE st) t∧t { nx:=fun _ H'=>Q .non H',rt:=Q } (jE N vs) H):bU P w K mg base CX0 (k + 1) f fd ps sp:=by
 obtain⟨oc,od,kV,doc,pm,an,cdv,ct,osl,rfl,lk,hcd⟩:=F.ex
 refine Mh lk hcd S len fun A outer s H vs Q E hr hsp => ?_
 obtain⟨t,h,q⟩:=hbody cdv A outer s H vs Q E hr hsp
 exact⟨t,h.nox,q⟩
theorem Fun.binds {x qual:Str}{st:Stmt}{f:Addr}{fd:FuncData}{ps:List Str}(F:Fun K x qual st f fd)
  (h:∀ (kV doc pm:Value) (an:Option Addr) (cdv ct:Value) (us:List Value),us.length=ps.length→bindArgs (PySem.W.fnOf x qual (aK st) (aE st) (af st) .none kV doc pm an cdv ct) ⟨us,[]⟩ = pure (ps.zip us)):kC K fd ps []:=by
 obtain⟨oc,od,kV,doc,pm,an,cdv,ct,osl,rfl,lk,hcd⟩:=F.ex
 exact .all (h kV doc pm an cdv ct)
theorem bh {x qual:Str}{st:Stmt}{f:Addr}{oc:Value}{od an:Option Addr}{osl:Array (Option Value)}{kV doc pm cdv ct:Value}(l:K.lookup f=some ⟨oc,od,.func (PySem.W.fnOf x qual (aK st) (aE st) (af st) .none kV doc pm an cdv ct),osl⟩)
  (c:PySem.W.codeIn K cdv qual=true) (k:PySem.W.keepIn K (.ref f)=true):Fun K x qual st f (PySem.W.fnOf x qual (aK st) (aE st) (af st) .none kV doc pm an cdv ct):=⟨⟨oc,od,kV,doc,pm,an,cdv,ct,osl,rfl,l,c⟩,k⟩
end
section
variable {X:Cx}
end
def iU (H H':Hp):Prop:=∀ b o,H b=some o→H' b=some o
theorem iU.refl (H:Hp):iU H H:=fun _ _ h=>h
end L2
namespace L2
open PySem PySem.Spec
structure pZ (h:Heap) (a D:Addr) (o:Obj):Prop where
 at_:h.get? a=some o
 cls:o.cls=.ref D
def p5 (a C:Addr):HO:=.ext fun h=>∃ o,pZ h a C o
end L2
namespace Fm
inductive D where
 | non|bl (b:Bool)|int (i:Int)|str (x:List Nat)|tup (l:List D)|ref (n:Nat)|lit (l:List D)|exn (c:String) (l:List D)
deriving Inhabited
inductive cT where
 | lst (l:List D)|dct (l:List (Int × D))|dcT (l:List (List Int × D))
abbrev Hd:=List cT
inductive Res (α : Type) where
 | ok (a : α) (h:Hd)|exc (x:D) (h:Hd)|bad
def Res.bind {α β : Type} (r:Res α) (f : α → Hd→Res β):Res β := match r with
 | .ok a h=>f a h | .exc x h=>.exc x h | .bad=>.bad
@[simp] theorem aN {α β : Type} (a : α) (h:Hd) (f : α → Hd→Res β):(Res.ok a h).bind f=f a h:=rfl
abbrev Sd:=List (Option D)
abbrev EF:=Sd→Hd→Res D
abbrev TF:=Sd→Hd→Res Bool
abbrev LF:=Sd→Hd→Res (List D)
inductive Out where
 | nx (σ:Sd) (h:Hd)|rt (d:D) (h:Hd)|bk (σ:Sd) (h:Hd)|ct (σ:Sd) (h:Hd)|exc (x:D) (σ:Sd) (h:Hd)|bad
abbrev SF:=Sd→Hd→Out
abbrev Fn:=List D→Hd→Res D
abbrev SZ:Nat:=1000000
@[simp] def slot (σ:Sd) (i:Nat):Option D:=match σ[i]? with|some (some d)=>some d|_=>none
@[simp] def aa (i:Nat):EF:=fun σ h=>match slot σ i with|some d=>.ok d h|none=>.bad
@[simp] def fC (d:D):EF:=fun _ h=>.ok d h
abbrev O2:=D→D→Hd→Res D
@[simp] def ak (g:O2) (a b:EF):EF:=fun σ h=>(a σ h).bind fun x h=>(b σ h).bind fun y h=>g x y h
@[simp] def oI (g:Int→Int→Int):O2:=fun x y h=>match x,y with | .int i,.int j=>.ok (.int (g i j)) h|_,_=>.bad
@[simp] def oB (g:Int→Int→Bool):O2:=fun x y h=>match x,y with | .int i,.int j=>.ok (.bl (g i j)) h|_,_=>.bad
@[simp] def oIc (c:Int→Int→Bool) (g:Int→Int→Int):O2:=fun x y h=>match x,y with | .int i,.int j=>if c i j then .ok (.int (g i j)) h else .bad|_,_=>.bad
def sml (i:Int):Bool:=decide (-18446744073709551616 < i) && decide (i < 18446744073709551616)
@[simp] def eI:O2:=fun x y h=>match x,y with
 | .int i,.int j=>.ok (.int (i + j)) h
 | .tup (x :: xs),.tup ys=>if (x :: xs).length + ys.length≤SZ then .ok (.tup (x :: xs++ys)) h else .bad
 | _,_=>.bad
@[simp] def gZ:O2:=fun x y h=>(oI (· - ·)) x y h
@[simp] def eJ:O2:=fun x y h=>(oIc (fun i j=>sml i || sml j) (· * ·)) x y h
@[simp] def ij:O2:=fun x y h=>(oIc (fun _ j=>decide (0 < j)) (· % ·)) x y h
@[simp] def yS:O2:=fun x y h=>(oIc (fun _ j=>decide (0 < j) && decide (j < 2 ^ 250)) (· / ·)) x y h
@[simp] def QM:O2:=fun x y h=>(oIc (fun i j=>decide (0≤j) && decide (j≤1000000) && sml i) (fun i j=>i ^ j.toNat)) x y h
@[simp] def oLt:O2:=fun x y h=>(oB fun i j=>decide (i < j)) x y h
@[simp] def oLe:O2:=fun x y h=>(oB fun i j=>decide (i≤j)) x y h
@[simp] def oGt:O2:=fun x y h=>(oB fun i j=>decide (j < i)) x y h
@[simp] def Q8:D→Hd→Res D:=fun x h=>match x with | .int i=>.ok (.int (-i)) h|_=>.bad
@[simp] def p6:D→Bool | .non=>true|_=>false
@[simp] def kR:O2:=fun x y h=>if p6 y then .ok (.bl (p6 x)) h else .bad
@[simp] def pF:O2:=fun x y h=>if p6 y then .ok (.bl (!p6 x)) h else .bad
@[simp] def b2i (b:Bool):Int:=if b then 1 else 0
mutual
def peq:D→D→Option Bool
 | .int i,k=>match k with | .int j=>some (decide (i=j)) | .bl c=>some (decide (i=b2i c)) | .non=>some false | .tup _=>some false|_=>none
 | .bl c,k=>match k with | .int j=>some (decide (b2i c=j)) | .bl d=>some (decide (c=d))|_=>none
 | .str x,k=>match k with | .str y=>some (decide (x=y))|_=>none
 | .non,k=>match k with | .non=>some true | .int _=>some false | .tup _=>some false|_=>none
 | .tup xs,k=>match k with | .tup ys=>(ik xs ys).map fun b=>b && decide (xs.length=ys.length) | .non=>some false | .int _=>some false|_=>none
 | .ref _,_=>none
 | .lit _,_=>none
 | .exn _ _,_=>none
def ik:List D→List D→Option Bool
 | x :: xs,y :: ys=>match peq x y,ik xs ys with
  | some a,some b=>some (a && b)
  | _,_=>none
 | _,_=>some true
end
mutual
def dep:D→Nat
 | .tup l=>o4 l + 1
 | _=>0
def o4:List D→Nat
 | []=>0
 | x :: xs=>max (dep x) (o4 xs)
end
def eqL (xs ys:List D):Option Bool:=if o4 xs≤20 then (if xs.length=ys.length then ik xs ys else some false) else none
@[simp] def aS (h:Hd):D→Option (List D)
 | .ref n=>match h[n]? with|some (.lst l)=>some l|_=>none
 | .lit l=>some l
 | _=>none
@[simp] def eqG (h:Hd) (x y:D):Option Bool:=match aS h x,aS h y with
 | some xs,some ys=>eqL xs ys
 | none,none=>if dep x≤20 then peq x y else none
 | _,_=>none
@[simp] def oEq:O2:=fun x y h=>match eqG h x y with|some b=>.ok (.bl b) h|none=>.bad
@[simp] def oNe:O2:=fun x y h=>match eqG h x y with|some b=>.ok (.bl (!b)) h|none=>.bad
@[simp] def cF:D→Bool
 | .non=>true | .bl _=>true | .int _=>true | .str _=>true|_=>false
@[simp] def eqF:D→D→Bool
 | .non,k=>match k with | .non=>true|_=>false
 | .bl a,k=>match k with | .bl b=>a == b | .int b=>b2i a == b|_=>false
 | .int a,k=>match k with | .bl b=>a == b2i b | .int b=>a == b|_=>false
 | .str a,k=>match k with | .str b=>a == b|_=>false
 | .tup _,_=>false
 | .ref _,_=>false
 | .lit _,_=>false
 | .exn _ _,_=>false
@[simp] def asB (r:Res D):Res Bool:=r.bind fun x h=>match x with | .bl b=>.ok b h|_=>.bad
@[simp] def tE (a:EF):TF:=fun σ h=>asB (a σ h)
@[simp] def dq (t:TF):TF:=fun σ h=>(t σ h).bind fun b h=>.ok (!b) h
@[simp] def oY (t u:TF):TF:=fun σ h=>(t σ h).bind fun b h=>if b then u σ h else .ok false h
@[simp] def tOr (t u:TF):TF:=fun σ h=>(t σ h).bind fun b h=>if b then .ok true h else u σ h
@[simp] def fT (t:TF):EF:=fun σ h=>(t σ h).bind fun b h=>.ok (.bl b) h
@[simp] def fIf (t:TF) (a b:EF):EF:=fun σ h=>(t σ h).bind fun c h=>if c then a σ h else b σ h
@[simp] def p7 (g k:O2) (a b c:EF):EF:=fun σ h=>(a σ h).bind fun x h=>(b σ h).bind fun y h=>(g x y h).bind fun z h=>match z with
 | .bl true=>(c σ h).bind fun w h=>k y w h
 | .bl false=>.ok (.bl false) h
 | _=>.bad
@[simp] def aj:LF:=fun _ h=>.ok [] h
@[simp] def ad (a:EF) (r:LF):LF:=fun σ h=>(a σ h).bind fun x h=>(r σ h).bind fun xs h=>.ok (x :: xs) h
@[simp] def g7 (r:LF):EF:=fun σ h=>(r σ h).bind fun xs h=>if xs.length≤SZ then .ok (.tup xs) h else .bad
@[simp] def aG (r:LF):EF:=fun σ h=>(r σ h).bind fun xs h=>if xs.length≤SZ then .ok (.ref h.length) (h++[.lst xs]) else .bad
@[simp] def gI (h:Hd):D→Option (List D)
 | .tup l=>some l
 | .lit l=>some l
 | .ref n=>match h[n]? with|some (.lst l)=>some l|_=>none
 | _=>none
@[simp] def lOf (a:EF):LF:=fun σ h=>(a σ h).bind fun x h=>match gI h x with|some l=>.ok l h|none=>.bad
@[simp] def inL (h:Hd) (x y:D):Option Bool:=match gI h y with
 | some l=>if cF x && l.all cF then some (l.any fun z=>eqF z x) else none
 | none=>none
@[simp] def oIn:O2:=fun x y h=>match inL h x y with|some b=>.ok (.bl b) h|none=>.bad
@[simp] def v6 (x e:EF):EF:=fun σ h=>(x σ h).bind fun p h=>match aS h p with
 | some _=>(e σ h).bind fun d h=>match aS h p with
  | some l=>if cF d && l.all cF then .ok (.int (l.countP fun z=>eqF z d)) h else .bad
  | none=>.bad
 | none=>.bad
def ixN (n:Nat) (i:Int):Option Nat:=if 0≤i then (if i < n then some i.toNat else none) else if -(n:Int)≤i then some (i + n).toNat else none
def atI (xs:List D) (i:Int):Option D:=(ixN xs.length i).bind fun j=>xs[j]?
@[simp] def fIx (a:LF) (b:EF):EF:=fun σ h=>(a σ h).bind fun l h=>(b σ h).bind fun y h=>match y with
 | .int i=>match atI l i with|some d=>.ok d h|none=>.bad
 | _=>.bad
@[simp] def oAt:O2:=fun x y h=>match gI h x,y with
 | some l,.int i=>match atI l i with|some d=>.ok d h|none=>.bad
 | _,_=>.bad
@[simp] def fAt (a b:EF):EF:=fun σ h=>ak oAt a b σ h
@[simp] def fL (a:LF):EF:=fun σ h=>(a σ h).bind fun l h=>.ok (.int l.length) h
def dj:List D→Option (List Int)
 | []=>some []
 | .int i :: r=>(dj r).map (i :: ·)
 | _=>none
@[simp] def KL (a:LF):EF:=fun σ h=>(a σ h).bind fun l h=>match dj l with|some is=>.ok (.int is.sum) h|none=>.bad
def im:List D→Option (List Bool)
 | []=>some []
 | .bl b :: r=>(im r).map (b :: ·)
 | _=>none
@[simp] def yT (a:LF):EF:=fun σ h=>(a σ h).bind fun l h=>match im l with|some bs=>.ok (.bl (bs.all id)) h|none=>.bad
@[simp] def io (a:LF):EF:=fun σ h=>(a σ h).bind fun l h=>.ok (.tup l) h
@[simp] def mO (a:EF):EF:=fun σ h=>(a σ h).bind fun x h=>match x with | .int i=>.ok (.int i) h | .bl b=>.ok (.int (b2i b)) h|_=>.bad
inductive Ty where|int|bool|tuple|list|str
deriving DecidableEq
@[simp] def E7 (h:Hd) (t:Ty):D→Option Bool
 | .non=>some false
 | .bl _=>some (t == .bool || t == .int)
 | .int _=>some (t == .int)
 | .str _=>some (t == .str)
 | .tup _=>some (t == .tuple)
 | .lit _=>some (t == .list)
 | .ref n=>match h[n]? with|some (.lst _)=>some (t == .list)|some (.dct _)=>some false|some (.dcT _)=>none|none=>none
 | .exn _ _=>none
@[simp] def gj (t:Ty) (a:EF):EF:=fun σ h=>(a σ h).bind fun x h=>match E7 h t x with|some b=>.ok (.bl b) h|none=>.bad
def sIx (n d:Nat):Option Int→Nat
 | none=>d
 | some i=>if i < 0 then (i + n).toNat else min i.toNat n
def cut (l:List D) (lo hi:Option Int):List D:=(l.drop (sIx l.length 0 lo)).take (sIx l.length l.length hi - sIx l.length 0 lo)
abbrev OF:=Sd→Hd→Res (Option Int)
@[simp] def pNo:OF:=fun _ h=>.ok none h
@[simp] def pAt (a:EF):OF:=fun σ h=>(a σ h).bind fun x h=>match x with | .int i=>.ok (some i) h|_=>.bad
@[simp] def dY (a:EF) (lo hi:OF):EF:=fun σ h=>(a σ h).bind fun x h=>(lo σ h).bind fun i h=>(hi σ h).bind fun j h=>match x with
 | .tup l=>if sIx l.length 0 i=0∧sIx l.length l.length j=l.length then .bad else .ok (.tup (cut l i j)) h
 | x=>match aS h x with|some l=>.ok (.ref h.length) (h++[.lst (cut l i j)])|none=>.bad
def bZ:List Int→List Int→Bool
 | [],[]=>false
 | [],_ :: _=>true
 | _ :: _,[]=>false
 | x :: xs,y :: ys=>if x=y then bZ xs ys else decide (x < y)
def QN:List D→Option (List (List Int))
 | []=>some []
 | .tup l :: r=>match dj l,QN r with|some a,some b=>some (a :: b)|_,_=>none
 | _=>none
@[simp] def au (F:Fn) (r:LF):EF:=fun σ h=>(r σ h).bind fun xs h=>F xs h
abbrev IF:=Sd→Hd→Res (List D × Option Nat)
@[simp] def dL (a:EF):IF:=fun σ h=>(a σ h).bind fun x h=>match x with
 | .int n=>if -1000000≤n∧n≤1000000 then .ok ((List.range n.toNat).map (fun k:Nat=>.int k),none) h else .bad
 | _=>.bad
@[simp] def lB (a b:EF):IF:=fun σ h=>(a σ h).bind fun x h=>(b σ h).bind fun y h=>match x,y with
 | .int m,.int n=>if (-1000000≤m∧m≤1000000) ∧ -1000000≤n∧n≤1000000 then .ok ((List.range (n - m).toNat).map (fun k:Nat=>.int (m + k)),none) h else .bad
 | _,_=>.bad
@[simp] def iV (a:EF):IF:=fun σ h=>(a σ h).bind fun x h=>match x with
 | .tup l=>.ok (l,none) h
 | .lit l=>.ok (l,none) h
 | .ref n=>match h[n]? with|some (.lst l)=>.ok (l,some n) h|_=>.bad
 | _=>.bad
@[simp] def Ho (a:EF):IF:=fun σ h=>(a σ h).bind fun x h=>match x with
 | .tup l=>.ok ((List.range l.length).zip l |>.map fun p=>.tup [.int (p.1:Nat),p.2],none) h
 | _=>.bad
noncomputable section
open Classical
def iW (g:Option Nat) (all:List D) (h:Hd):Prop:=match g with|none=>True|some n=>h[n]? = some (.lst all)
abbrev GF:=D→Sd→Option Sd
@[simp] def gN (i:Nat):GF:=fun d σ=>some (σ.set i (some d))
@[simp] def gT (l:List Nat):GF:=fun d σ=>match d with
 | .tup xs=>if xs.length=l.length then some ((l.zip xs).foldl (fun σ p => σ.set p.1 (some p.2)) σ) else none
 | _=>none
@[simp] def aC (a b:SF):SF:=fun σ h=>match a σ h with | .nx σ h=>b σ h|r=>r
@[simp] def bM:SF:=fun σ h=>.nx σ h
@[simp] def outE (r:Res D) (σ:Sd) (k:D→Hd→Out):Out:=match r with | .ok d h=>k d h | .exc x h=>.exc x σ h | .bad=>.bad
@[simp] def bd (g:GF) (a:EF):SF:=fun σ h=>outE (a σ h) σ fun d h=>match g d σ with|some σ=>.nx σ h|none=>.bad
@[simp] def aT (a:EF):SF:=fun σ h=>outE (a σ h) σ fun d h=>.rt d h
@[simp] def kS (a:EF):SF:=fun σ h=>outE (a σ h) σ fun _ h=>.nx σ h
@[simp] def sIf (t:TF) (a b:SF):SF:=fun σ h=>match t σ h with | .ok c h=>if c then a σ h else b σ h | .exc x h=>.exc x σ h | .bad=>.bad
def kT:SF:=fun _ _=>.bad
@[simp] def yU (x i e:EF):SF:=fun σ h=>outE (e σ h) σ fun d h=>outE (x σ h) σ fun p h=>outE (i σ h) σ fun j h=>match p,j with
 | .ref n,.int j=>match h[n]? with
  | some (.lst l)=>match ixN l.length j with
   | some k=>.nx σ (h.set n (.lst (l.set k d)))
   | none=>.bad
  | _=>.bad
 | _,_=>.bad
@[simp] def Nn:O2:=fun p d h=>match p with
 | .ref n=>match h[n]? with
  | some (.lst l)=>if l.length < SZ then .ok .non (h.set n (.lst (l++[d]))) else .bad
  | _=>.bad
 | _=>.bad
@[simp] def mP (x e:EF):EF:=fun σ h=>(x σ h).bind fun p h=>match p with
 | .ref n=>match h[n]? with
  | some (.lst _)=>(e σ h).bind fun d h=>Nn (.ref n) d h
  | _=>.bad
 | _=>.bad
def gG (g:Option Nat) (all:List D) (tg:GF) (b:SF):List D→SF
 | [],σ,h=>if iW g all h then .nx σ h else .bad
 | x :: xs,σ,h=>if iW g all h then match tg x σ with
   | some σ=>match b σ h with
    | .nx σ h=>gG g all tg b xs σ h
    | .ct σ h=>gG g all tg b xs σ h
    | .bk σ h=>.nx σ h
    | r=>r
   | none=>.bad
  else .bad
@[simp] def o5 (it:IF) (tg:GF) (b:SF):SF:=fun σ h=>match it σ h with
 | .ok (l,g) h=>gG g l tg b l σ h
 | .exc x h=>.exc x σ h
 | .bad=>.bad
def dM (t:TF) (b:SF):Nat→SF
 | 0,_,_=>.bad
 | n + 1,σ,h=>match t σ h with
  | .ok true h=>match b σ h with
   | .nx σ h=>dM t b n σ h
   | .ct σ h=>dM t b n σ h
   | .bk σ h=>.nx σ h
   | r=>r
  | .ok false h=>.nx σ h
  | .exc x h=>.exc x σ h
  | .bad=>.bad
def KM (t:TF) (b:SF):Sd→Hd→Nat:=fun σ h=>if ex:∃ n,dM t b n σ h ≠ .bad then Classical.choose ex else 0
def p8 (t:TF) (b:SF):SF:=fun σ h=>dM t b (KM t b σ h) σ h
@[simp] def gJ:List TF→TF
 | [],_,h=>.ok true h
 | t :: r,σ,h=>(t σ h).bind fun b h=>if b then gJ r σ h else .ok false h
def b0 (g:Option Nat) (all:List D) (tg:GF) (cs:List TF) (e:EF):List D→Sd→Hd→Res (List D)
 | [],_,h=>if iW g all h then .ok [] h else .bad
 | x :: xs,σ,h=>if iW g all h then match tg x σ with
   | some σ=>(gJ cs σ h).bind fun b h=>if b then (e σ h).bind fun d h=>(b0 g all tg cs e xs σ h).bind fun ds h=>.ok (d :: ds) h
    else b0 g all tg cs e xs σ h
   | none=>.bad
  else .bad
@[simp] def fE (nl:Nat) (caps:List Nat) (σ:Sd):Sd:=List.replicate nl none++caps.map fun i=>slot σ i
@[simp] def cQ (nl:Nat) (caps:List Nat) (it:IF) (tg:GF) (cs:List TF) (e:EF):LF:=fun σ h=>(it σ h).bind fun p h =>
 b0 p.2 p.1 tg cs e p.1 (fE nl caps σ) h
mutual
def pure? : D→Bool
 | .ref _=>false
 | .tup l=>eE l
 | .lit l=>eE l
 | .exn _ l=>eE l
 | _=>true
def eE:List D→Bool
 | []=>true
 | x :: xs=>pure? x && eE xs
end
def p9:cT→Bool
 | .lst l=>eE l
 | .dct l=>l.all fun p=>pure? p.2
 | .dcT l=>l.all fun p=>pure? p.2
def D8 (h h':Hd):Prop:=∀ n c,n < h.length→h'[n]? = some c→h[n]? = some c∨p9 c=true
def letGo (h:Hd) (r:Res D):Res D:=match r with
 | .ok d h'=>if pure? d=true∧D8 h h' then .ok d (h'.take h.length) else .ok d h'
 | r=>r
def runB (n:Nat) (b:SF):Fn:=fun ds h=>match b (ds.map some++List.replicate (n - ds.length) none) h with
 | .nx _ h=>.ok .non h
 | .rt d h=>.ok d h
 | .exc x _ h=>.exc x h
 | _=>.bad
def bN (np n:Nat) (b:SF):Fn:=fun ds h=>if ds.length=np then letGo h (runB n b ds h) else .bad
end
end Fm
namespace Fm
open PySem PySem.Spec L2
def toS (x:List Nat):Str:=⟨x.toArray⟩
def oy (K:ZX) (H:Hp) (a:Addr) (xs:List V):Prop :=
 (∃ o,H a=some (.frz o (.lst xs))) ∨
  ∃ (o:Obj) (its:Array Value) (n:Nat),K.lookup a=some o∧o.cls=.type "list" ∧ o.dict=none∧o.data=.seq its n∧its.size≤sizeLine∧aI xs its.toList
section
variable (K:ZX) (ρ:List Addr) (H:Hp)
mutual
def RD:D→V→Prop
 | .non,v=>v=.non
 | .bl b,v=>v=.bl b
 | .int i,v=>v=.int i
 | .str x,v=>v=.str (toS x)
 | .tup l,v=>∃ p vs,v=.ref p∧H p=some (.tup vs)∧RDs l vs
 | .lit l,v=>∃ p vs,v=.ref p∧oy K H p vs∧RDs l vs
 | .ref n,v=>∃ a,ρ[n]? = some a∧v=.ref a
 | .exn c l,v=>l=[] ∧ ∃ a C,v=.ref a∧H a=some (p5 a C)∧PySem.W.nsIn K mainGlobals (Str.ofString c)=some (some (.ref C))
def RDs:List D→List V→Prop
 | [],vs=>vs=[]
 | d :: ds,vs=>∃ v r,vs=v :: r∧RD d v∧RDs ds r
end
def RC:cT→Addr→Prop
 | .lst l,a=>∃ vs,H a=some (.lst vs)∧RDs K ρ H l vs
 | .dct l,a=>∃ kvs,H a=some (.dK kvs)∧kvs.map (·.1)=l.map (fun p=>(Sum.inl p.1:Key))∧RDs K ρ H (l.map (·.2)) (kvs.map (·.2))
 | .dcT l,a=>∃ kvs,H a=some (.dT kvs)∧kvs.map (·.1)=l.map (fun p=>p.1.map fun i=>(Sum.inl i:Key))∧RDs K ρ H (l.map (·.2)) (kvs.map (·.2))
structure RH (hd:Hd):Prop where
 len : ρ.length=hd.length
 nd : ρ.Nodup
 cel:∀ (n:Nat) c a,hd[n]? = some c → ρ[n]? = some a→RC K ρ H c a
structure RSt (σd:Sd) (σ:St):Prop where
 len : σd.length = σ.length
 at':∀ i d,slot σd i=some d → ∃ v,σ[i]? = some (some v)∧RD K ρ H d v
structure RS (σd:Sd) (hd:Hd) (σ:St):Prop where
 hp:RH K ρ H hd
 st:RSt K ρ H σd σ
end
structure Ext (ρ:List Addr) (H:Hp) (ρ':List Addr) (H':Hp):Prop where
 pre:∃ t,ρ' = ρ ++ t
 new:∀ a ∈ ρ',a ∈ ρ ∨H a=none
 frame:∀ p o,H p=some o→p ∉ ρ → H' p=some o
section
variable {K:ZX} {ρ ρ' ρ'':List Addr} {H H' H'':Hp} {hd hd':Hd} {σd σd':Sd} {σ σ':St}
theorem Ext.refl:Ext ρ H ρ H:=⟨⟨[],by simp⟩,fun _ h=>.inl h,fun _ _ h _=>h⟩
theorem Ext.out (e:Ext ρ H ρ' H'){p:Addr}{o:HO}(h:H p=some o)(n:p ∉ ρ):p ∉ ρ':=fun z=>by
 rcases e.new p z with q|q
 ·exact n q
 ·rw [h] at q;cases q
theorem Ext.trans (a:Ext ρ H ρ' H')(b:Ext ρ' H' ρ'' H''):Ext ρ H ρ'' H'' where
 pre:=by
  obtain⟨t,rfl⟩:=a.pre
  obtain⟨u,rfl⟩:=b.pre
  exact⟨t++u,by simp⟩
 new:=fun x hx=>by
  rcases b.new x hx with q|q
  ·exact a.new x q
  ·cases e:H x with
   | none=>exact .inr rfl
   | some o =>
    by_cases hn:x ∈ ρ
    ·exact .inl hn
    ·rw [a.frame x o e hn] at q;cases q
 frame:=fun p o h n=>b.frame p o (a.frame p o h n) (a.out h n)
theorem Ext.same (s:iU H H'):Ext ρ H ρ H':=⟨⟨[],by simp⟩,fun _ h=>.inl h,fun p o h _=>s p o h⟩
theorem Ext.get (e:Ext ρ H ρ' H'){n:Nat}{a:Addr}(h : ρ[n]? = some a) : ρ'[n]? = some a:=by
 obtain⟨t,rfl⟩:=e.pre
 rw [ZC (List.getElem?_eq_some_iff.mp h).1]
 exact h
theorem RH.mut (r:RH K ρ H hd){a:Addr}(h:a ∈ ρ):(∃ vs,H a=some (.lst vs))∨(∃ kvs,H a=some (.dK kvs)) ∨ ∃ kvs,H a=some (.dT kvs):=by
 obtain⟨n,hn⟩:=List.getElem?_of_mem h
 have hl:=(List.getElem?_eq_some_iff.mp hn).1
 have hc:hd[n]? = some (hd[n]'(by rw [← r.len];exact hl)):=by simp
 have q:=r.cel n _ a hc hn
 cases e:hd[n]'(by rw [← r.len];exact hl) with
 | lst l=>rw [e] at q;obtain⟨vs,h1,_⟩:=q;exact .inl ⟨vs,h1⟩
 | dct l=>rw [e] at q;obtain⟨vs,h1,_⟩:=q;exact .inr (.inl ⟨vs,h1⟩)
 | dcT l=>rw [e] at q;obtain⟨vs,h1,_⟩:=q;exact .inr (.inr ⟨vs,h1⟩)
theorem RH.noTup (r:RH K ρ H hd){a:Addr}{vs:List V}(h:H a=some (.tup vs)):a ∉ ρ:=fun z=>by
 rcases r.mut z with ⟨_,q⟩|⟨_,q⟩|⟨_,q⟩<;>(rw [h] at q;cases q)
theorem RH.noFrz (r:RH K ρ H hd){a:Addr}{o:Obj}{u:HO}(h:H a=some (.frz o u)):a ∉ ρ:=fun z=>by
 rcases r.mut z with ⟨_,q⟩|⟨_,q⟩|⟨_,q⟩<;>(rw [h] at q;cases q)
theorem RH.noExt (r:RH K ρ H hd){a:Addr}{φ : Heap→Prop}(h:H a=some (.ext φ)):a ∉ ρ:=fun z=>by
 rcases r.mut z with ⟨_,q⟩|⟨_,q⟩|⟨_,q⟩<;>(rw [h] at q;cases q)
structure Kp (ρ:List Addr) (H:Hp) (ρ':List Addr) (H':Hp):Prop where
 get:∀ (n:Nat) a,ρ[n]? = some a → ρ'[n]? = some a
 tup:∀ a vs,H a=some (.tup vs)→H' a=some (.tup vs)
 frz:∀ a o u,H a=some (.frz o u)→H' a=some (.frz o u)
 ext:∀ a φ,H a=some (.ext φ)→H' a=some (.ext φ)
theorem RH.kp (r:RH K ρ H hd)(e:Ext ρ H ρ' H'):Kp ρ H ρ' H' :=
 ⟨fun _ _ h=>e.get h,fun _ _ h=>e.frame _ _ h (r.noTup h),fun _ _ _ h=>e.frame _ _ h (r.noFrz h),fun _ _ h=>e.frame _ _ h (r.noExt h)⟩
theorem Kp.same (s:iU H H'):Kp ρ H ρ H':=⟨fun _ _ h=>h,fun _ _ h=>s _ _ h,fun _ _ _ h=>s _ _ h,fun _ _ h=>s _ _ h⟩
theorem oy.mono {a:Addr}{xs:List V}(k:Kp ρ H ρ' H')(h:oy K H a xs):oy K H' a xs:=by
 rcases h with ⟨o,h⟩|h
 ·exact .inl ⟨o,k.frz _ _ _ h⟩
 ·exact .inr h
mutual
theorem RD.mono (k:Kp ρ H ρ' H'):∀ {d:D} {v:V},RD K ρ H d v→RD K ρ' H' d v
 | .non,_,h=>by simp only [RD] at h ⊢;exact h
 | .bl _,_,h=>by simp only [RD] at h ⊢;exact h
 | .int _,_,h=>by simp only [RD] at h ⊢;exact h
 | .str _,_,h=>by simp only [RD] at h ⊢;exact h
 | .tup l,_,h=>by
  simp only [RD] at h ⊢
  obtain⟨p,vs,e,h1,h2⟩:=h
  exact⟨p,vs,e,k.tup _ _ h1,RDs.mono k h2⟩
 | .lit l,_,h=>by
  simp only [RD] at h ⊢
  obtain⟨p,vs,e,h1,h2⟩:=h
  exact⟨p,vs,e,h1.mono k,RDs.mono k h2⟩
 | .ref n,_,h=>by
  simp only [RD] at h ⊢
  obtain⟨a,h1,h2⟩:=h
  exact⟨a,k.get _ _ h1,h2⟩
 | .exn _ _,_,h=>by
  simp only [RD] at h ⊢
  obtain⟨e0,a,C,e,h1,h2⟩:=h
  exact⟨e0,a,C,e,k.ext _ _ h1,h2⟩
theorem RDs.mono (k:Kp ρ H ρ' H'):∀ {l:List D} {vs:List V},RDs K ρ H l vs→RDs K ρ' H' l vs
 | [],_,h=>by simp only [RDs] at h ⊢;exact h
 | d :: ds,_,h=>by
  simp only [RDs] at h ⊢
  obtain⟨v,r,e,h1,h2⟩:=h
  exact⟨v,r,e,RD.mono k h1,RDs.mono k h2⟩
end
theorem RDs.nil:RDs K ρ H [] []:=by simp only [RDs]
theorem RDs.cons {d:D}{v:V}{ds:List D}{vs:List V}(h:RD K ρ H d v)(t:RDs K ρ H ds vs):RDs K ρ H (d :: ds) (v :: vs):=by
 simp only [RDs];exact⟨v,vs,rfl,h,t⟩
theorem RDs.length:∀ {l:List D} {vs:List V},RDs K ρ H l vs→l.length=vs.length
 | [],_,h=>by simp only [RDs] at h;subst h;rfl
 | d :: ds,_,h=>by
  simp only [RDs] at h
  obtain⟨v,r,e,h1,h2⟩:=h
  subst e
  simp [RDs.length h2]
theorem RDs.get:∀ {l:List D} {vs:List V} {i:Nat} {d:D},RDs K ρ H l vs→l[i]? = some d → ∃ v,vs[i]? = some v∧RD K ρ H d v
 | [],_,i,_,_,e=>by simp at e
 | d :: ds,_,0,_,h,e=>by
  simp only [RDs] at h
  obtain⟨v,r,e',h1,h2⟩:=h
  subst e'
  simp at e
  subst e
  exact⟨v,rfl,h1⟩
 | d :: ds,_,i + 1,x,h,e=>by
  simp only [RDs] at h
  obtain⟨v,r,e',h1,h2⟩:=h
  subst e'
  obtain⟨w,hw,q⟩:=RDs.get (i:=i) (d:=x) h2 (by simpa using e)
  exact⟨w,by simpa using hw,q⟩
theorem RDs.set {d:D}{v:V}(h:RD K ρ H d v):∀ {l:List D} {vs:List V} (i:Nat),RDs K ρ H l vs→RDs K ρ H (l.set i d) (vs.set i v)
 | [],_,_,q=>by simp only [RDs] at q;subst q;exact RDs.nil
 | x :: xs,_,i,q=>by
  simp only [RDs] at q
  obtain⟨w,r,e,h1,h2⟩:=q
  subst e
  cases i with
  | zero=>exact RDs.cons h h2
  | succ i=>exact RDs.cons h1 (RDs.set h i h2)
theorem RDs.append:∀ {l l':List D} {vs vs':List V},RDs K ρ H l vs→RDs K ρ H l' vs'→RDs K ρ H (l++l') (vs++vs')
 | [],_,_,_,h,q=>by simp only [RDs] at h;subst h;exact q
 | d :: ds,_,_,_,h,q=>by
  simp only [RDs] at h
  obtain⟨v,r,e,h1,h2⟩:=h
  subst e
  exact RDs.cons h1 (RDs.append h2 q)
theorem RDs.take:∀ {l:List D} {vs:List V} (n:Nat),RDs K ρ H l vs→RDs K ρ H (l.take n) (vs.take n)
 | _,_,0,_=>by simp;exact RDs.nil
 | [],_,n + 1,h=>by simp only [RDs] at h;subst h;exact RDs.nil
 | d :: ds,_,n + 1,h=>by
  simp only [RDs] at h
  obtain⟨v,r,e,h1,h2⟩:=h
  subst e
  exact RDs.cons h1 (RDs.take n h2)
theorem RDs.drop:∀ {l:List D} {vs:List V} (n:Nat),RDs K ρ H l vs→RDs K ρ H (l.drop n) (vs.drop n)
 | _,_,0,h=>by simpa using h
 | [],_,n + 1,h=>by simp only [RDs] at h;subst h;exact RDs.nil
 | d :: ds,_,n + 1,h=>by
  simp only [RDs] at h
  obtain⟨v,r,e,h1,h2⟩:=h
  subst e
  simpa using RDs.drop n h2
theorem RC.mono {c:cT}{a:Addr}(k:Kp ρ H ρ' H')(e:H' a=H a)(h:RC K ρ H c a):RC K ρ' H' c a:=by
 cases c with
 | lst l=>obtain⟨vs,h1,h2⟩:=h;exact⟨vs,e.trans h1,h2.mono k⟩
 | dct l=>obtain⟨vs,h1,h2,h3⟩:=h;exact⟨vs,e.trans h1,h2,h3.mono k⟩
 | dcT l=>obtain⟨vs,h1,h2,h3⟩:=h;exact⟨vs,e.trans h1,h2,h3.mono k⟩
theorem RH.same (r:RH K ρ H hd)(s:iU H H'):RH K ρ H' hd :=
 ⟨r.len,r.nd,fun n c a h1 h2=>(r.cel n c a h1 h2).mono (Kp.same s) (by
  rcases r.mut (ZK h2) with ⟨_,q⟩|⟨_,q⟩|⟨_,q⟩<;>rw [q,s _ _ q])⟩
theorem RSt.mono (k:Kp ρ H ρ' H')(r:RSt K ρ H σd σ):RSt K ρ' H' σd σ :=
 ⟨r.len,fun i d h=>let ⟨v,h1,h2⟩:=r.at' i d h;⟨v,h1,h2.mono k⟩⟩
theorem RS.same (r:RS K ρ H σd hd σ)(s:iU H H'):RS K ρ H' σd hd σ:=⟨r.hp.same s,r.st.mono (Kp.same s)⟩
theorem bO {p:Addr}{o:HO}(h:H p=none):iU H (upd H p o):=fun b u e=>by
 rw [ax (bb e h)];exact e
theorem RH.alloc (r:RH K ρ H hd){p:Addr}{l:List D}{vs:List V}(hp:H p=some (.lst vs))(hn:p ∉ ρ)(h:RDs K ρ H l vs):RH K (ρ ++ [p]) H (hd++[.lst l]):=by
 have k:Kp ρ H (ρ ++ [p]) H:=⟨fun n a e=>by rw [ZC (List.getElem?_eq_some_iff.mp e).1];exact e,fun _ _ h=>h,fun _ _ _ h=>h,fun _ _ h=>h⟩
 refine⟨by simp [r.len],?_,fun n c a h1 h2 => ?_⟩
 ·rw [List.nodup_append]
  exact⟨r.nd,by simp,fun a ha b hb=>by simp at hb;subst hb;intro e;subst e;exact hn ha⟩
 ·by_cases hlt:n < hd.length
  ·rw [ZC hlt] at h1
   rw [ZC (by rw [r.len];exact hlt)] at h2
   exact (r.cel n c a h1 h2).mono k rfl
  ·have e1:n=hd.length:=by
    have:=(List.getElem?_eq_some_iff.mp h1).1
    simp at this
    omega
   subst e1
   simp at h1
   subst h1
   rw [← r.len] at h2
   simp at h2
   subst h2
   exact⟨vs,hp,h.mono k⟩
theorem jF {α : Type}:∀ {l:List α},l.Nodup → ∀ {i j:Nat} {x : α},l[i]? = some x→l[j]? = some x→i=j
 | [],_,i,_,_,e,_=>by simp at e
 | a :: l,nd,0,0,_,_,_=>rfl
 | a :: l,nd,0,j + 1,x,e,e'=>by
  simp at e e'
  subst e
  exact absurd (ZK e') (List.nodup_cons.mp nd).1
 | a :: l,nd,i + 1,0,x,e,e'=>by
  simp at e e'
  subst e'
  exact absurd (ZK e) (List.nodup_cons.mp nd).1
 | a :: l,nd,i + 1,j + 1,x,e,e'=>by
  simp at e e'
  rw [jF (List.nodup_cons.mp nd).2 e e']
theorem RH.write (r:RH K ρ H hd){n:Nat}{p:Addr}{l:List D}{vs:List V}(hp : ρ[n]? = some p)(hn:n < hd.length)(h:RDs K ρ H l vs):RH K ρ (upd H p (.lst vs)) (hd.set n (.lst l)):=by
 have k:Kp ρ H ρ (upd H p (.lst vs)):=by
  have hm:=ZK hp
  refine⟨fun _ _ h=>h,fun a us e => ?_,fun a o u e => ?_,fun a φ e => ?_⟩
  ·rw [ax (fun z=>r.noTup e (by rw [z];exact hm))];exact e
  ·rw [ax (fun z=>r.noFrz e (by rw [z];exact hm))];exact e
  ·rw [ax (fun z=>r.noExt e (by rw [z];exact hm))];exact e
 refine⟨by simp [r.len],r.nd,fun m c a h1 h2 => ?_⟩
 by_cases e:n=m
 ·subst e
  rw [List.getElem?_set_self hn] at h1
  cases h1
  rw [hp] at h2
  cases h2
  exact⟨vs,aO,h.mono k⟩
 ·rw [ZP e] at h1
  have ne:a≠p:=fun z=>by
   subst z
   exact e (jF r.nd hp h2)
  exact (r.cel m c a h1 h2).mono k (ax ne)
theorem Ext.write {p:Addr}{o:HO}(hp:p ∈ ρ):Ext ρ H ρ (upd H p o) :=
 ⟨⟨[],by simp⟩,fun _ h=>.inl h,fun q u e n=>by rw [ax (fun z=>n (by rw [z];exact hp))];exact e⟩
theorem Ext.alloc {p:Addr}(h:H p=none){o:HO}:Ext ρ H (ρ ++ [p]) (upd H p o) :=
 ⟨⟨[p],rfl⟩,fun a ha=>by
  rcases List.mem_append.mp ha with q|q
  ·exact .inl q
  ·simp at q;subst q;exact .inr h,fun q u e _=>bO h q u e⟩
theorem RS.ext (r:RS K ρ H σd hd σ)(e:Ext ρ H ρ' H')(h:RH K ρ' H' hd'):RS K ρ' H' σd hd' σ:=⟨h,r.st.mono (r.hp.kp e)⟩
end
end Fm
namespace Fm
open PySem PySem.Spec L2
abbrev VR (α β : Type):=List Addr→Hp → α → β → Prop
section
variable (K:ZX)
def bx {α β : Type} (R:VR α β) (ρ:List Addr) (H:Hp) (σd:Sd) (σ:St) (r:Res α) (Q : β → Hp→Prop):Prop:=match r with
 | .ok a hd'=>∀ b H' ρ',Ext ρ H ρ' H'→RS K ρ' H' σd hd' σ → R ρ' H' a b→Q b H'
 | _=>False
def jG {α β : Type} (R:VR α β) (f:Sd→Hd→Res α):St→Hp→(β → Hp→Prop)→Prop:=fun σ H Q =>
 ∃ ρ σd hd,RS K ρ H σd hd σ ∧ bx K R ρ H σd σ (f σd hd) Q
abbrev rD:VR D V:=fun ρ H d v=>RD K ρ H d v
abbrev rDs:VR (List D) (List V):=fun ρ H d v=>RDs K ρ H d v
abbrev rB:VR Bool Bool:=fun _ _ a b=>a=b
abbrev rO:VR (Option Int) (Option Int):=fun _ _ a b=>a=b
def rQ:VR (List D) V:=fun ρ H l v=>∃ p vs,v=.ref p∧(SqL K H p vs∨H p=some (.tup vs))∧RDs K ρ H l vs
def yV (ρ:List Addr) (H:Hp) (σd:Sd) (σ:St) (r:Res (List D)) (Q:VK):Prop:=match r with
 | .ok l hd'=>∀ q vs H' ρ',Ext ρ H ρ' H'→RS K ρ' H' σd hd' σ → H q=none→H' q=some (.lst vs)→q ∉ ρ'→RDs K ρ' H' l vs→Q (.ref q) H'
 | _=>False
def PB (f:LF):TE:=fun σ H Q=>∃ ρ σd hd,RS K ρ H σd hd σ ∧ yV K ρ H σd σ (f σd hd) Q
def bw (ρ:List Addr) (H:Hp) (o:Out) (E:fg):Prop:=match o with
 | .nx σd hd=>∀ σ H' ρ',Ext ρ H ρ' H'→RS K ρ' H' σd hd σ → E.nx σ H'
 | .bk σd hd=>∀ σ H' ρ',Ext ρ H ρ' H'→RS K ρ' H' σd hd σ → E.bk σ H'
 | .ct σd hd=>∀ σ H' ρ',Ext ρ H ρ' H'→RS K ρ' H' σd hd σ → E.ct σ H'
 | .rt d hd=>∀ v H' ρ',Ext ρ H ρ' H'→RH K ρ' H' hd→RD K ρ' H' d v→E.rt v H'
 | _=>False
def Mj (f:SF):TS:=fun E σ H=>∃ ρ σd hd,RS K ρ H σd hd σ ∧ bw K ρ H (f σd hd) E
end
def ME (X:Cx) (e:Expr) (f:EF):Prop:=PE X e (jG X.K (rD X.K) f)
def MQ (X:Cx) (e:Expr) (f:LF):Prop:=PE X e (jG X.K (rQ X.K) f)
def MF (X:Cx) (e:Expr) (f:LF):Prop:=PE X e (PB X.K f)
def MT (X:Cx) (e:Expr) (f:TF):Prop:=PT X e (jG X.K rB f)
def MW (X:Cx) (e:Expr) (f:TF):Prop:=PW X e (jG X.K rB f)
def MA (X:Cx) (es:List Expr) (f:LF):Prop:=PA X es (jG X.K (rDs X.K) f)
def MS (X:Cx) (s:Stmt) (f:SF):Prop:=PS X s (Mj X.K f)
def MSs (X:Cx) (s:List Stmt) (f:SF):Prop:=PSs X s (Mj X.K f)
section
variable {X:Cx}
theorem PE.imp {e:Expr}{t u:TE}(h:PE X e t)(i:∀ σ H Q,u σ H Q→t σ H Q):PE X e u:=fun pins s σ H Q I q=>h pins s σ H Q I (i σ H Q q)
theorem PT.imp {e:Expr}{t u:TT}(h:PT X e t)(i:∀ σ H Q,u σ H Q→t σ H Q):PT X e u:=fun pins s σ H Q I q=>h pins s σ H Q I (i σ H Q q)
theorem PW.imp {e:Expr}{t u:TT}(h:PW X e t)(i:∀ σ H Q,u σ H Q→t σ H Q):PW X e u:=fun w pins s σ H Q I q=>h w pins s σ H Q I (i σ H Q q)
theorem PA.imp {e:List Expr}{t u:TA}(h:PA X e t)(i:∀ σ H Q,u σ H Q→t σ H Q):PA X e u:=fun p pins s σ H Q I q=>h p pins s σ H Q I (i σ H Q q)
theorem PS.imp {e:Stmt}{t u:TS}(h:PS X e t)(i:∀ D σ H,u D σ H→t D σ H):PS X e u:=fun pins s σ H D I q=>h pins s σ H D I (i D σ H q)
theorem PSs.imp {e:List Stmt}{t u:TS}(h:PSs X e t)(i:∀ D σ H,u D σ H→t D σ H):PSs X e u:=fun pins s σ H D I q=>h pins s σ H D I (i D σ H q)
end
section
variable {K:ZX} {ρ ρ':List Addr} {H H':Hp} {hd hd':Hd} {σd:Sd} {σ:St} {α β α' β':Type} {R:VR α β} {R':VR α' β'}
theorem bx.here {a : α}{b : β}{Q : β → Hp→Prop}(h:bx K R ρ H σd σ (.ok a hd) Q)(r:RS K ρ H σd hd σ)(q:R ρ H a b):Q b H:=h b H ρ Ext.refl r q
theorem bx.at {a : α}{b : β}{Q : β → Hp→Prop}(h:bx K R ρ H σd σ (.ok a hd) Q)(e:Ext ρ H ρ' H')(r:RS K ρ' H' σd hd σ)(q:R ρ' H' a b):Q b H':=h b H' ρ' e r q
theorem bx.imp {r:Res α}{Q Q' : β → Hp→Prop}(h:bx K R ρ H σd σ r Q)(i:∀ b H',Q b H'→Q' b H'):bx K R ρ H σd σ r Q':=by
 cases r with
 | ok a h'=>exact fun b H' ρ' e s q=>i b H' (h b H' ρ' e s q)
 | exc x h'=>exact h
 | bad=>exact h
theorem bx.ext {r:Res α}{Q : β → Hp→Prop}(e:Ext ρ H ρ' H')(h:bx K R ρ H σd σ r Q):bx K R ρ' H' σd σ r Q:=by
 cases r with
 | ok a h'=>exact fun b H'' ρ'' e' s q=>h b H'' ρ'' (e.trans e') s q
 | exc x h'=>exact h
 | bad=>exact h
theorem bx.bind {r:Res α}{k : α → Hd→Res α'}{Q : β'→Hp→Prop}(h:bx K R' ρ H σd σ (r.bind k) Q) :
  bx K R ρ H σd σ r (fun b H'=>∃ ρ' a hd',Ext ρ H ρ' H'∧RS K ρ' H' σd hd' σ ∧ R ρ' H' a b∧bx K R' ρ' H' σd σ (k a hd') Q):=by
 cases r with
 | ok a h'=>exact fun b H' ρ' e s q=>⟨ρ',a,h',e,s,q,bx.ext e h⟩
 | exc x h'=>exact h
 | bad=>exact h
theorem bw.ext {o:Out}{E:fg}(e:Ext ρ H ρ' H')(h:bw K ρ H o E):bw K ρ' H' o E:=by
 cases o with
 | nx σ h'=>exact fun σ' H'' ρ'' e' s=>h σ' H'' ρ'' (e.trans e') s
 | bk σ h'=>exact fun σ' H'' ρ'' e' s=>h σ' H'' ρ'' (e.trans e') s
 | ct σ h'=>exact fun σ' H'' ρ'' e' s=>h σ' H'' ρ'' (e.trans e') s
 | rt d h'=>exact fun v H'' ρ'' e' s q=>h v H'' ρ'' (e.trans e') s q
 | exc x σ h'=>exact h
 | bad=>exact h
end
section
variable {X:Cx} {pos:Pos}
theorem No {i:Nat} {x:Str} (hN:X.N[i]? = some x) (hv:Vis X.env.scope x) (hd:(x == ("__debug__" : Str))=false:=by decide) (hcd:(x == ("__classdict__" : Str))=false:=by decide):ME X (.Name x pos) (aa i):=by
 refine PE.imp (G1 hN hv hd hcd) fun σ H Q ⟨ρ,σd,hd,r,h⟩ => ?_
 unfold aa at h
 cases e:slot σd i with
 | none=>rw [e] at h;exact h.elim
 | some d =>
  rw [e] at h
  obtain⟨v,h1,h2⟩:=r.st.at' i d e
  exact⟨v,h1,h.here r h2⟩
theorem qa {K:ZX}{d:D}{v:V}(hv:∀ ρ H,RD K ρ H d v):∀ σ H Q,jG K (rD K) (fC d) σ H Q→tC v σ H Q:=fun _ H _ ⟨ρ,_,_,r,h⟩=>h.here r (hv ρ H)
theorem av {i:Int}{j}:ME X (.Constant (.int i) j pos) (fC (.int i)):=PE.imp G3 (qa fun _ _=>by simp only [RD])
theorem gL {b j}:ME X (.Constant (.bool b) j pos) (fC (.bl b)):=PE.imp Pd (qa fun _ _=>by simp only [RD])
theorem df {j}:ME X (.Constant .none j pos) (fC .non):=PE.imp MJ (qa fun _ _=>by simp only [RD])
theorem jH {x:Str}{j}(l:List Nat)(h:x=toS l):ME X (.Constant (.str x) j pos) (fC (.str l)):=PE.imp G4 (qa fun _ _=>by simp only [RD];rw [h])
theorem qb {x:Str} {i:Int} {t:Tok} (hg:Gl X x) (hm:X.mg x=some (.int i t)) (hd:(x == ("__debug__" : Str))=false:=by decide):ME X (.Name x pos) (fC (.int i)) :=
 PE.imp (eV (v:=.int i) hg hm ⟨t,rfl⟩ hd) (qa fun _ _=>by simp only [RD])
theorem me2 {a b:Expr}{fa fb:EF}{r:R2}{g:O2}{e:Expr}(h:PE X e (tOp r (jG X.K (rD X.K) fa) (jG X.K (rD X.K) fb)))
  (hg:∀ ρ H σd hd σ d k v w Q,RS X.K ρ H σd hd σ → RD X.K ρ H d v→RD X.K ρ H k w→bx X.K (rD X.K) ρ H σd σ (g d k hd) Q→r v w H Q):ME X e (ak g fa fb):=by
 refine PE.imp h fun σ H Q ⟨ρ,σd,hd,rs,p⟩ => ?_
 refine⟨ρ,σd,hd,rs,(bx.bind (R:=rD X.K) p).imp fun v H1 ⟨ρ1,d,hd1,e1,rs1,rv,p1⟩ => ?_⟩
 refine⟨ρ1,σd,hd1,rs1,(bx.bind (R:=rD X.K) p1).imp fun w H2 ⟨ρ2,k,hd2,e2,rs2,rw',p2⟩ => ?_⟩
 exact hg ρ2 H2 σd hd2 σ d k v w Q rs2 (rv.mono (rs1.hp.kp e2)) rw' p2
def Og (K:ZX) (g:O2) (r:R2):Prop:=∀ ρ H σd hd σ d k v w Q,RS K ρ H σd hd σ → RD K ρ H d v→RD K ρ H k w→bx K (rD K) ρ H σd σ (g d k hd) Q→r v w H Q
theorem cR {a b:Expr}{fa fb:EF}{op:Operator}{r:R2}{g:O2}(ho:OpR X (binaryOp op) r)(hg:Og X.K g r)(ha:ME X a fa)(hb:ME X b fb):ME X (.BinOp a op b pos) (ak g fa fb) :=
 me2 (a:=a) (b:=b) (Hc ho ha hb) hg
theorem gk {a b:Expr}{fa fb:EF}{op:CmpOp}{r:R2}{g:O2}(ho:OpR X (compareOp op) r)(hg:Og X.K g r)(ha:ME X a fa)(hb:ME X b fb)(hm:behindInMarks op b=false):ME X (.Compare a [op] [b] pos) (ak g fa fb) :=
 me2 (a:=a) (b:=b) (Kw ho ha hb hm) hg
theorem sB {K:ZX}{g:Int→Int→Int}:Og K (oI g) (rI0 fun i j=>.int (g i j)):=by
 intro ρ H σd hd σ d k v w Q rs rv rw' p
 cases d<;>cases k<;>first|exact p.elim|skip
 simp only [RD] at rv rw'
 exact⟨_,_,rv,rw',p.here rs (by simp only [rD,RD])⟩
theorem Bl {K:ZX}{g:Int→Int→Bool}:Og K (oB g) (rI0 fun i j=>.bl (g i j)):=by
 intro ρ H σd hd σ d k v w Q rs rv rw' p
 cases d<;>cases k<;>first|exact p.elim|skip
 simp only [RD] at rv rw'
 exact⟨_,_,rv,rw',p.here rs (by simp only [rD,RD])⟩
theorem Hq {K:ZX}{c:Int→Int→Bool}{C:Int→Int→Prop}{g:Int→Int→Int}(hc:∀ i j,c i j=true→C i j):Og K (oIc c g) (rI C fun i j=>.int (g i j)):=by
 intro ρ H σd hd σ d k v w Q rs rv rw' p
 cases d<;>cases k<;>first|exact p.elim|skip
 rename_i i j
 simp only [RD] at rv rw'
 cases e:c i j with
 | false=>simp only [oIc,e] at p;exact p.elim
 | true =>
  simp only [oIc,e,if_true] at p
  exact⟨i,j,rv,rw',hc i j e,p.here rs (by simp only [rD,RD])⟩
theorem D9 {i:Int}(h:sml i=true) : -(2 ^ 64) < i∧i < 2 ^ 64:=by
 simp only [sml,Bool.and_eq_true,decide_eq_true_eq] at h;exact h
theorem mQ {K:ZX}:Og K eJ (rI Kv fun i j=>.int (i * j)):=Hq fun i j h=>by
 rcases (Bool.or_eq_true _ _).mp h with q|q
 ·exact .inl (D9 q)
 ·exact .inr (D9 q)
theorem Bm {K:ZX}:Og K ij (rI (fun _ j=>0 < j) fun i j=>.int (i % j)):=Hq fun i j h=>of_decide_eq_true h
def PC (_ j:Int):Prop:=0 < j∧j < 2 ^ 250
theorem yW:OpR X (binaryOp .FloorDiv) (rI PC fun i j=>.int (i / j)):=opI fun i j _ _ _ _ _ hc q=>by
 have h0:j≠0:=by have:=hc.1;omega
 refine PyProof.Rows.floordiv_int h0 (by rw [Int.fdiv_eq_ediv_of_nonneg _ (Int.le_of_lt hc.1)];exact q) (.inl (PyProof.noPylong_of_log2 ?_))
 have h2:j.natAbs < 2 ^ 250:=by have:=hc.2;have:=hc.1;omega
 have h3:j.natAbs≠0:=by omega
 have:=(Nat.log2_lt h3).mpr h2
 omega
theorem Hr {K:ZX}:Og K yS (rI PC fun i j=>.int (i / j)):=Hq fun i j h=>by
 simp only [Bool.and_eq_true,decide_eq_true_eq] at h;exact h
theorem v7 {K:ZX}{ρ:List Addr}{H:Hp}{d:D}{v:V}(h:RD K ρ H d v):p6 d=decide (v=.non):=by
 cases d<;>simp only [RD] at h
 ·subst h;rfl
 ·subst h;rfl
 ·subst h;rfl
 ·subst h;rfl
 ·obtain⟨p,vs,rfl,_⟩:=h;rfl
 ·obtain⟨p,vs,rfl⟩:=h;rfl
 ·obtain⟨p,vs,rfl,_⟩:=h;rfl
 ·obtain⟨_,p,vs,rfl,_⟩:=h;rfl
theorem kU {K:ZX}:Og K kR (fun x y H Q=>y=.non∧Q (.bl (decide (x=.non))) H):=by
 intro ρ H σd hd σ d k v w Q rs rv rw' p
 unfold kR at p
 cases e:p6 k with
 | false=>rw [e] at p;exact p.elim
 | true =>
  rw [e,if_pos rfl] at p
  refine⟨of_decide_eq_true ((v7 rw').symm.trans e),?_⟩
  rw [← v7 rv]
  exact p.here rs (by simp only [rD,RD])
theorem u0 {K:ZX}:Og K pF (fun x y H Q=>y=.non∧Q (.bl (!decide (x=.non))) H):=by
 intro ρ H σd hd σ d k v w Q rs rv rw' p
 unfold pF at p
 cases e:p6 k with
 | false=>rw [e] at p;exact p.elim
 | true =>
  rw [e,if_pos rfl] at p
  refine⟨of_decide_eq_true ((v7 rw').symm.trans e),?_⟩
  rw [← v7 rv]
  exact p.here rs (by simp only [rD,RD])
theorem mR {K:ZX}{ρ:List Addr}{H:Hp}{σd:Sd}{σ:St}{r:Res D}{Q:Bool→Hp→Prop}(h:bx K rB ρ H σd σ (asB r) Q):bx K (rD K) ρ H σd σ r (fun x H'=>∃ c,x=.bl c∧Q c H'):=by
 refine (bx.bind (R:=rD K) h).imp fun v H1 ⟨ρ1,d,hd1,e1,rs1,rv,p1⟩ => ?_
 cases d<;>first|exact p1.elim|skip
 simp only [rD,RD] at rv
 exact⟨_,rv,p1.here rs1 rfl⟩
theorem cI {e:Expr}{f:EF}(h:ME X e f)(he:∀ whole,isTrue e X.env whole=(do let v ← whole;standAt e.pos;holding [v] (truthy v)):=by intro _;rfl):MT X e (tE f) :=
 PT.imp (MK h he) fun σ H Q ⟨ρ,σd,hd,rs,p⟩=>⟨ρ,σd,hd,rs,mR p⟩
theorem bp {a b:Expr}{fa fb:EF}{op:CmpOp}{r:R2}{g:O2}(ho:OpR X (compareOp op) r)(hg:Og X.K g r)(ha:ME X a fa)(hb:ME X b fb)(hm:behindInMarks op b=false):MT X (.Compare a [op] [b] pos) (tE (ak g fa fb)):=by
 refine PT.imp (Kx ho ha hb hm) fun σ H Q ⟨ρ,σd,hd,rs,p⟩ => ?_
 have p:=mR p
 refine⟨ρ,σd,hd,rs,(bx.bind (R:=rD X.K) p).imp fun v H1 ⟨ρ1,d,hd1,e1,rs1,rv,p1⟩ => ?_⟩
 refine⟨ρ1,σd,hd1,rs1,(bx.bind (R:=rD X.K) p1).imp fun w H2 ⟨ρ2,k,hd2,e2,rs2,rw',p2⟩ => ?_⟩
 exact hg ρ2 H2 σd hd2 σ d k v w _ rs2 (rv.mono (rs1.hp.kp e2)) rw' p2
theorem cU {a:Expr}{t:TF}(h:MT X a t):MT X (.UnaryOp .Not a pos) (dq t):=by
 refine PT.imp (MN h) fun σ H Q ⟨ρ,σd,hd,rs,p⟩=>⟨ρ,σd,hd,rs,(bx.bind (R:=rB) p).imp fun c H1 ⟨ρ1,d,hd1,e1,rs1,rv,p1⟩ => ?_⟩
 cases rv
 exact p1.here rs1 rfl
theorem iY {op a}{t:TF}(h:MT X a t)(ho:op=BoolOp.And∨op=BoolOp.Or):MW X (.BoolOp op [a] pos) t:=by
 rcases ho with rfl|rfl
 ·exact Kr h
 ·exact ML h
theorem Np {a b:Expr}{rest:List Expr}{t u:TF}(ha:MT X a t)(hb:MW X (.BoolOp .And (b :: rest) pos) u):MW X (.BoolOp .And (a :: b :: rest) pos) (oY t u):=by
 refine PW.imp (MM ha hb) fun σ H Q ⟨ρ,σd,hd,rs,p⟩=>⟨ρ,σd,hd,rs,(bx.bind (R:=rB) p).imp fun c H1 ⟨ρ1,d,hd1,e1,rs1,rv,p1⟩ => ?_⟩
 cases rv
 cases c with
 | true=>simp only [if_true] at p1 ⊢;exact⟨ρ1,σd,hd1,rs1,p1⟩
 | false=>simp only [Bool.false_eq_true,if_false] at p1 ⊢;exact p1.here rs1 rfl
theorem kD {a b:Expr}{rest:List Expr}{t u:TF}(ha:MT X a t)(hb:MW X (.BoolOp .Or (b :: rest) pos) u):MW X (.BoolOp .Or (a :: b :: rest) pos) (tOr t u):=by
 refine PW.imp (Pe ha hb) fun σ H Q ⟨ρ,σd,hd,rs,p⟩=>⟨ρ,σd,hd,rs,(bx.bind (R:=rB) p).imp fun c H1 ⟨ρ1,d,hd1,e1,rs1,rv,p1⟩ => ?_⟩
 cases rv
 cases c with
 | true=>simp only [if_true] at p1 ⊢;exact p1.here rs1 rfl
 | false=>simp only [Bool.false_eq_true,if_false] at p1 ⊢;exact⟨ρ1,σd,hd1,rs1,p1⟩
theorem MW.mt {e:Expr}{t:TF}(h:MW X e t):MT X e t:=h.pt
theorem KN {K:ZX}{t:TF}{σ:St}{H:Hp}{Q:VK}(h:jG K (rD K) (fT t) σ H Q):jG K rB t σ H (fun b H'=>Q (.bl b) H'):=by
 obtain⟨ρ,σd,hd,rs,p⟩:=h
 refine⟨ρ,σd,hd,rs,(bx.bind (R:=rB) p).imp fun c H1 ⟨ρ1,d,hd1,e1,rs1,rv,p1⟩ => ?_⟩
 cases rv
 exact p1.here rs1 (by simp only [rD,RD])
def MB (X:Cx) (e:Expr) (t:TF):Prop:=PE X e (fun σ H Q=>jG X.K rB t σ H fun b H'=>Q (.bl b) H')
theorem MB.me {e:Expr}{t:TF}(h:MB X e t):ME X e (fT t):=PE.imp h fun _ _ _ q=>KN q
theorem kE {e:Expr}{f:EF}(h:ME X e f):MB X e (tE f):=by
 refine PE.imp h fun σ H Q ⟨ρ,σd,hd,rs,p⟩=>⟨ρ,σd,hd,rs,(mR p).imp ?_⟩
 rintro v H1 ⟨c,rfl,q⟩
 exact q
theorem qc {op a}{t:TF}(h:MB X a t):MB X (.BoolOp op [a] pos) t:=MP h
theorem we {a b:Expr}{rest:List Expr}{t u:TF}(ha:MB X a t)(hb:MB X (.BoolOp .And (b :: rest) pos) u):MB X (.BoolOp .And (a :: b :: rest) pos) (oY t u):=by
 refine PE.imp (MR ha hb) fun σ H Q ⟨ρ,σd,hd,rs,p⟩=>⟨ρ,σd,hd,rs,(bx.bind (R:=rB) p).imp fun c H1 ⟨ρ1,d,hd1,e1,rs1,rv,p1⟩=>⟨c,rfl,?_⟩⟩
 cases rv
 cases c with
 | true=>simp only [if_true] at p1 ⊢;exact⟨ρ1,σd,hd1,rs1,p1⟩
 | false=>simp only [Bool.false_eq_true,if_false] at p1 ⊢;exact p1.here rs1 rfl
theorem PD {a b:Expr}{rest:List Expr}{t u:TF}(ha:MB X a t)(hb:MB X (.BoolOp .Or (b :: rest) pos) u):MB X (.BoolOp .Or (a :: b :: rest) pos) (tOr t u):=by
 refine PE.imp (Ph ha hb) fun σ H Q ⟨ρ,σd,hd,rs,p⟩=>⟨ρ,σd,hd,rs,(bx.bind (R:=rB) p).imp fun c H1 ⟨ρ1,d,hd1,e1,rs1,rv,p1⟩=>⟨c,rfl,?_⟩⟩
 cases rv
 cases c with
 | true=>simp only [if_true] at p1 ⊢;exact p1.here rs1 rfl
 | false=>simp only [Bool.false_eq_true,if_false] at p1 ⊢;exact⟨ρ1,σd,hd1,rs1,p1⟩
theorem Nq {a:Expr}{t:TF}(h:MB X a t):MB X (.UnaryOp .Not a pos) (dq t):=by
 refine PE.imp (MU h) fun σ H Q ⟨ρ,σd,hd,rs,p⟩=>⟨ρ,σd,hd,rs,(bx.bind (R:=rB) p).imp fun c H1 ⟨ρ1,d,hd1,e1,rs1,rv,p1⟩=>⟨c,rfl,?_⟩⟩
 cases rv
 exact p1.here rs1 rfl
theorem Ea {c a b:Expr}{t:TF}{fa fb:EF}(hc:MT X c t)(ha:ME X a fa)(hb:ME X b fb):ME X (.IfExp c a b pos) (fIf t fa fb):=by
 refine PE.imp (G5 hc ha hb) fun σ H Q ⟨ρ,σd,hd,rs,p⟩=>⟨ρ,σd,hd,rs,(bx.bind (R:=rB) p).imp fun c H1 ⟨ρ1,d,hd1,e1,rs1,rv,p1⟩ => ?_⟩
 cases rv
 cases c with
 | true=>simp only [if_true] at p1 ⊢;exact⟨ρ1,σd,hd1,rs1,p1⟩
 | false=>simp only [Bool.false_eq_true,if_false] at p1 ⊢;exact⟨ρ1,σd,hd1,rs1,p1⟩
end
end Fm
namespace Fm
open PySem PySem.Spec L2
section
variable {X:Cx} {pos:Pos}
theorem Bn {K:ZX}{ρ:List Addr}{H:Hp}{σd:Sd}{hd:Hd}{σ:St}{r r':R2}{g k:O2}{fa fb fc:EF}{Q:VK}(hg:Og K g r)(hk:Og K k r')(rs:RS K ρ H σd hd σ)
  (p:bx K (rD K) ρ H σd σ (p7 g k fa fb fc σd hd) Q):Hg r r' (jG K (rD K) fa) (jG K (rD K) fb) (jG K (rD K) fc) σ H Q:=by
 refine⟨ρ,σd,hd,rs,(bx.bind (R:=rD K) p).imp fun v H1 ⟨ρ1,d,hd1,e1,rs1,rv,p1⟩ => ?_⟩
 refine⟨ρ1,σd,hd1,rs1,(bx.bind (R:=rD K) p1).imp fun w H2 ⟨ρ2,d2,hd2,e2,rs2,rw2,p2⟩ => ?_⟩
 refine hg ρ2 H2 σd hd2 σ d d2 v w _ rs2 (rv.mono (rs1.hp.kp e2)) rw2 ((bx.bind (R:=rD K) p2).imp fun z H3 ⟨ρ3,d3,hd3,e3,rs3,rz,p3⟩ => ?_)
 cases d3<;>first|exact p3.elim|skip
 rename_i b
 simp only [rD,RD] at rz
 refine⟨b,rz,?_⟩
 cases b with
 | false =>
  rw [if_neg Bool.false_ne_true]
  exact p3.here rs3 (by simp only [rD,RD])
 | true =>
  rw [if_pos rfl]
  refine⟨ρ3,σd,hd3,rs3,(bx.bind (R:=rD K) p3).imp fun u H4 ⟨ρ4,d4,hd4,e4,rs4,ru,p4⟩ => ?_⟩
  exact hk ρ4 H4 σd hd4 σ d2 d4 w u Q rs4 ((rw2.mono (rs2.hp.kp e3)).mono (rs3.hp.kp e4)) ru p4
theorem Hs {a b c:Expr}{fa fb fc:EF}{op op':CmpOp}{r r':R2}{g k:O2}(ho:OpR X (compareOp op) r)(ho':OpR X (compareOp op') r')(hg:Og X.K g r)(hk:Og X.K k r')(ha:ME X a fa)(hb:ME X b fb)(hc:ME X c fc)
  (hm:lastMarks [op,op'] [b,c] = false:=by with_unfolding_all rfl):ME X (.Compare a [op,op'] [b,c] pos) (p7 g k fa fb fc) :=
 PE.imp (Hh ho ho' ha hb hc hm) fun _ _ _ ⟨_,_,_,rs,p⟩=>Bn hg hk rs p
theorem ar:MA X [] aj:=PA.imp dX fun _ _ _ ⟨_,_,_,rs,p⟩=>p.here rs RDs.nil
theorem ae {e:Expr}{es:List Expr}{f:EF}{r:LF}(he:ME X e f)(hr:MA X es r)(hs:starEach (e :: es) X.env=(false,eval e X.env) :: starEach es X.env:=by rfl):MA X (e :: es) (ad f r):=by
 refine PA.imp (cf he hr hs) fun σ H Q ⟨ρ,σd,hd,rs,p⟩ => ?_
 refine⟨ρ,σd,hd,rs,(bx.bind (R:=rD X.K) p).imp fun v H1 ⟨ρ1,d,hd1,e1,rs1,rv,p1⟩ => ?_⟩
 refine⟨ρ1,σd,hd1,rs1,(bx.bind (R:=rDs X.K) p1).imp fun vs H2 ⟨ρ2,ds,hd2,e2,rs2,rvs,p2⟩ => ?_⟩
 exact p2.here rs2 (RDs.cons (rv.mono (rs1.hp.kp e2)) rvs)
theorem pG {n:Nat}(h:n≤SZ):n≤sizeLine:=ZM h (by show 1000000≤2 ^ 24;decide)
theorem iZ {es:List Expr}{k}{r:LF}(h:MA X es r):ME X (.Tuple es k pos) (g7 r):=by
 refine PE.imp (M9 h) fun σ H Q ⟨ρ,σd,hd,rs,p⟩ => ?_
 refine⟨ρ,σd,hd,rs,(bx.bind (R:=rDs X.K) p).imp fun vs H1 ⟨ρ1,ds,hd1,e1,rs1,rvs,p1⟩ => ?_⟩
 by_cases hz:ds.length≤SZ
 ·rw [if_pos hz] at p1
  refine⟨by rw [← rvs.length];exact pG hz,fun q hq => ?_⟩
  have sm:=bO (o:=HO.tup vs) hq
  exact p1.at (Ext.same sm) (rs1.same sm) (by simp only [rD,RD];exact⟨q,vs,rfl,aO,rvs.mono (Kp.same sm)⟩)
 ·rw [if_neg hz] at p1;exact p1.elim
theorem Ext.fresh {ρ ρ':List Addr}{H H':Hp}{q:Addr}(e:Ext ρ H ρ' H')(h:H' q=none)(n:q ∉ ρ'):H q=none:=by
 cases z:H q with
 | none=>rfl
 | some o =>
  by_cases hq:q ∈ ρ
  ·obtain⟨t,rfl⟩:=e.pre
   exact absurd (List.mem_append_left t hq) n
  ·rw [e.frame q o z hq] at h;cases h
theorem RH.free {K:ZX}{ρ:List Addr}{H:Hp}{hd:Hd}(r:RH K ρ H hd){q:Addr}(h:H q=none):q ∉ ρ:=fun z=>by
 rcases r.mut z with ⟨_,e⟩|⟨_,e⟩|⟨_,e⟩<;>(rw [h] at e;cases e)
theorem yV.mk {K:ZX}{ρ ρ1:List Addr}{H H1:Hp}{hd1:Hd}{σd:Sd}{σ:St}{l:List D}{vs:List V}{Q:VK}(p:yV K ρ H σd σ (.ok l hd1) Q)(e1:Ext ρ H ρ1 H1)(rs1:RS K ρ1 H1 σd hd1 σ)(r:RDs K ρ1 H1 l vs) :
  ∀ q,H1 q=none→Q (.ref q) (upd H1 q (.lst vs)):=fun q hq=>by
 have sm:=bO (o:=HO.lst vs) hq
 have nq:=rs1.hp.free hq
 exact p q vs _ ρ1 (e1.trans (Ext.same sm)) (rs1.same sm) (e1.fresh hq nq) aO nq (r.mono (Kp.same sm))
theorem cj {es:List Expr}{r:LF}(h:MA X es r)(hz:∀ σd hd ds hd',r σd hd=.ok ds hd'→ds.length≤SZ):MF X (.List es pos) r:=by
 refine PE.imp (Na h) fun σ H Q ⟨ρ,σd,hd,rs,p⟩ => ?_
 refine⟨ρ,σd,hd,rs,?_⟩
 cases e:r σd hd with
 | exc x h'=>rw [e] at p;exact p
 | bad=>rw [e] at p;exact p
 | ok ds hd1 =>
  rw [e] at p
  intro vs H1 ρ1 e1 rs1 rvs
  exact⟨by rw [← RDs.length rvs];exact pG (hz _ _ _ _ e),p.mk e1 rs1 rvs⟩
theorem aQ {f:EF}{r:LF}{n:Nat}(h:∀ σd hd ds hd',r σd hd=.ok ds hd'→ds.length=n):∀ σd hd ds hd',ad f r σd hd=.ok ds hd'→ds.length=n + 1:=by
 intro σd hd ds hd' e
 simp only [ad] at e
 cases e1:f σd hd with
 | exc x h'=>rw [e1] at e;cases e
 | bad=>rw [e1] at e;cases e
 | ok d h1 =>
  rw [e1] at e
  simp only [aN] at e
  cases e2:r σd h1 with
  | exc x h'=>rw [e2] at e;cases e
  | bad=>rw [e2] at e;cases e
  | ok ds2 h2 =>
   rw [e2] at e
   simp only [aN] at e
   cases e
   simp [h _ _ _ _ e2]
theorem bo:∀ σd hd ds hd',aj σd hd=.ok ds hd'→ds.length=0:=by
 intro σd hd ds hd' e
 simp only [aj] at e
 cases e
 rfl
theorem bn {e:Expr}{r:LF}(h:MF X e r):ME X e (aG r):=by
 refine PE.imp h fun σ H Q ⟨ρ,σd,hd,rs,p⟩=>⟨ρ,σd,hd,rs,?_⟩
 unfold aG at p
 cases e:r σd hd with
 | exc x h'=>rw [e] at p;exact p
 | bad=>rw [e] at p;exact p
 | ok ds hd1 =>
  rw [e] at p
  simp only [aN] at p
  intro q vs H1 ρ1 e1 rs1 hq0 hq hn rvs
  by_cases hz:ds.length≤SZ
  ·rw [if_pos hz] at p
   have rh:=rs1.hp.alloc hq hn rvs
   have ex:Ext ρ H (ρ1++[q]) H1:=⟨by obtain⟨t,rfl⟩:=e1.pre;exact⟨t++[q],by simp⟩,fun a ha=>by
    rcases List.mem_append.mp ha with z|z
    ·exact e1.new a z
    ·simp at z;subst z;exact .inr hq0,e1.frame⟩
   refine p.at ex (rs.ext ex rh) ?_
   simp only [rD,RD]
   refine⟨q,?_,rfl⟩
   rw [← rs1.hp.len]
   simp
  ·rw [if_neg hz] at p;exact p.elim
theorem g8 {e:Expr}{r:LF}(h:MF X e r):MQ X e r:=by
 refine PE.imp h fun σ H Q ⟨ρ,σd,hd,rs,p⟩=>⟨ρ,σd,hd,rs,?_⟩
 cases e:r σd hd with
 | exc x h'=>rw [e] at p;exact p
 | bad=>rw [e] at p;exact p
 | ok ds hd1 =>
  rw [e] at p
  intro q vs H1 ρ1 e1 rs1 hq0 hq hn rvs
  exact p (.ref q) H1 ρ1 e1 rs1 ⟨q,vs,rfl,.inl (SqL.of hq),rvs⟩
theorem oy.sq {K:ZX}{H:Hp}{a:Addr}{xs:List V}(h:oy K H a xs):SqL K H a xs:=by
 rcases h with ⟨o,h⟩|h
 ·exact .inl (.inr ⟨o,h⟩)
 ·exact .inr h
theorem wf {K:ZX}{ρ:List Addr}{H:Hp}{hd:Hd}{d:D}{v:V}{l:List D}(r:RH K ρ H hd)(h:RD K ρ H d v)(e:gI hd d=some l):∃ p vs,v=.ref p∧(SqL K H p vs∨H p=some (.tup vs))∧RDs K ρ H l vs:=by
 cases d<;>simp only [gI] at e<;>try (cases e;done)
 ·cases e
  simp only [RD] at h
  obtain⟨p,vs,e1,e2,e3⟩:=h
  exact⟨p,vs,e1,.inr e2,e3⟩
 ·rename_i n
  simp only [RD] at h
  obtain⟨a,e1,e2⟩:=h
  cases c:hd[n]? with
  | none=>rw [c] at e;cases e
  | some x =>
   rw [c] at e
   cases x with
   | dct l=>cases e
   | dcT l=>cases e
   | lst l' =>
    cases e
    obtain⟨vs,q1,q2⟩:=r.cel n _ a c e1
    exact⟨a,vs,e2,.inl (SqL.of q1),q2⟩
 ·cases e
  simp only [RD] at h
  obtain⟨p,vs,e1,e2,e3⟩:=h
  exact⟨p,vs,e1,.inl e2.sq,e3⟩
theorem eF {e:Expr}{f:EF}(h:ME X e f):MQ X e (lOf f):=by
 refine PE.imp h fun σ H Q ⟨ρ,σd,hd,rs,p⟩=>⟨ρ,σd,hd,rs,(bx.bind (R:=rD X.K) p).imp fun v H1 ⟨ρ1,d,hd1,e1,rs1,rv,p1⟩ => ?_⟩
 cases e:gI hd1 d with
 | none=>rw [e] at p1;exact p1.elim
 | some l=>rw [e] at p1;exact p1.here rs1 (wf rs1.hp rv e)
theorem KO {K:ZX}{ρ:List Addr}{H:Hp}{l:List D}{vs:List V}{i:Int}{d:D}(r:RDs K ρ H l vs)(e:atI l i=some d):∃ v,L2.atI vs i=some v∧RD K ρ H d v:=by
 unfold atI at e
 unfold L2.atI
 have hl:=r.length
 have hx:ixN l.length i=L2.ixN vs.length i:=by rw [hl];rfl
 rw [hx] at e
 cases c:L2.ixN vs.length i with
 | none=>rw [c] at e;cases e
 | some j =>
  rw [c] at e
  simp only [Option.bind_some] at e ⊢
  exact r.get e
theorem bD {a b:Expr}{fa fb:EF}(ha:ME X a fa)(hb:ME X b fb)(hs:D4 b):ME X (.Subscript a b pos) (fAt fa fb):=by
 refine me2 (a:=a) (b:=b) (g:=oAt) (Pt Nh ha hb hs) fun ρ H σd hd σ d k v w Q rs rv rw' p => ?_
 unfold oAt at p
 cases e:gI hd d with
 | none=>rw [e] at p;exact p.elim
 | some l =>
  rw [e] at p
  cases k<;>first|exact p.elim|skip
  rename_i i
  simp only at p
  cases e2:atI l i with
  | none=>rw [e2] at p;exact p.elim
  | some x =>
   rw [e2] at p
   simp only [RD] at rw'
   obtain⟨q,vs,hv,sq,rvs⟩:=wf rs.hp rv e
   obtain⟨u,hu,ru⟩:=KO rvs e2
   rcases sq with sq|sq
   ·exact .inl ⟨q,vs,i,u,hv,rw',sq,hu,p.here rs ru⟩
   ·exact .inr (.inl ⟨q,vs,i,u,hv,rw',SqT.of sq,hu,p.here rs ru⟩)
end
end Fm
namespace Fm
open PySem PySem.Spec L2
section
variable {X:Cx} {pos:Pos}
def B1 (X:Cx) (r:List V→Hp→VK→Prop) (x:Str) (p pos:Pos) (a:Expr):Prop:=∀ t,PA X [a] t→PE X (.Call (.Name x p) [a] [] pos) (tCB r t)
theorem Ht {x:Str} {p:Pos} {a:Expr} {id:String} {r:List V→Hp→VK→Prop} (hc:ig X (.builtin id) r) (hg:Gl X x) (hm:X.mg x=none) (hv:bootBuiltins x=some (.builtin id)) (hn:x ≠ "__name__" := by decide) (hdb:(x == ("__debug__" : Str))=false:=by decide)
  (he:starEach [a] X.env=(false,eval a X.env) :: starEach [] X.env:=by rfl):B1 X r x p pos a:=fun _ ha=>ly hc hg hm hv ha hn hdb he
theorem Ml {x:Str} {p:Pos} {a:Expr} {T:String} {r:List V→Hp→VK→Prop} (hc:ig X (.type T) r) (hg:Gl X x) (hm:X.mg x=none) (hv:bootBuiltins x=some (.type T)) (hn:x ≠ "__name__" := by decide) (hdb:(x == ("__debug__" : Str))=false:=by decide)
  (he:starEach [a] X.env=(false,eval a X.env) :: starEach [] X.env:=by rfl):B1 X r x p pos a:=fun _ ha=>uV hc hg hm hv ha hn hdb he
theorem wg {x:Str}{p:Pos}{a:Expr}{la:LF}{r:List V→Hp→VK→Prop}{g:List D→Hd→Res D}(hb:B1 X r x p pos a)(ha:MQ X a la)
  (hg:∀ ρ H σd hd σ l q vs Q,RS X.K ρ H σd hd σ → (SqL X.K H q vs∨H q=some (.tup vs))→RDs X.K ρ H l vs→bx X.K (rD X.K) ρ H σd σ (g l hd) Q→r [.ref q] H Q)
  (hs:starEach [a] X.env=(false,eval a X.env) :: starEach [] X.env:=by rfl):ME X (.Call (.Name x p) [a] [] pos) (fun σ h=>(la σ h).bind fun l h=>g l h):=by
 refine PE.imp (hb _ (cf ha dX hs)) fun σ H Q ⟨ρ,σd,hd,rs,pp⟩=>⟨ρ,σd,hd,rs,(bx.bind (R:=rQ X.K) pp).imp fun v H1 ⟨ρ1,l,hd1,e1,rs1,⟨q,vs,hv,sq,rvs⟩,p1⟩ => ?_⟩
 subst hv
 exact hg ρ1 H1 σd hd1 σ l q vs Q rs1 sq rvs p1
theorem PF {x:Str}{p:Pos}{a:Expr}{fa:EF}{r:List V→Hp→VK→Prop}{g:D→Hd→Res D}(hb:B1 X r x p pos a)(ha:ME X a fa)
  (hg:∀ ρ H σd hd σ d v Q,RS X.K ρ H σd hd σ → RD X.K ρ H d v→bx X.K (rD X.K) ρ H σd σ (g d hd) Q→r [v] H Q)
  (hs:starEach [a] X.env=(false,eval a X.env) :: starEach [] X.env:=by rfl):ME X (.Call (.Name x p) [a] [] pos) (fun σ h=>(fa σ h).bind fun x h=>g x h):=by
 refine PE.imp (hb _ (cf ha dX hs)) fun σ H Q ⟨ρ,σd,hd,rs,pp⟩=>⟨ρ,σd,hd,rs,(bx.bind (R:=rD X.K) pp).imp fun v H1 ⟨ρ1,d,hd1,e1,rs1,rv,p1⟩ => ?_⟩
 exact hg ρ1 H1 σd hd1 σ d v Q rs1 rv p1
theorem ei {p:Pos} {a:Expr} {la:LF} (hg:Gl X "len") (hm:X.mg "len" = none) (ha:MQ X a la) (hs:starEach [a] X.env=(false,eval a X.env) :: starEach [] X.env:=by rfl):ME X (.Call (.Name "len" p) [a] [] pos) (fL la) :=
 wg (g:=fun l h=>.ok (.int l.length) h) (Ht v4 hg hm PySem.boot_len (he:=hs)) ha (fun ρ H σd hd σ l q vs Q rs sq rvs p=>⟨q,vs,rfl,sq.imp id SqT.of,by rw [← rvs.length];exact p.here rs (by simp only [rD,RD])⟩) hs
theorem gM {p:Pos} {a:Expr} {la:LF} (hg:Gl X "tuple") (hm:X.mg "tuple" = none) (ha:MQ X a la) (hs:starEach [a] X.env=(false,eval a X.env) :: starEach [] X.env:=by rfl):ME X (.Call (.Name "tuple" p) [a] [] pos) (io la):=by
 refine wg (g:=fun l h=>.ok (.tup l) h) (Ml sA hg hm (by decide +kernel) (he:=hs)) ha (fun ρ H σd hd σ l q vs Q rs sq rvs p=>⟨q,vs,rfl,?_⟩) hs
 rcases sq with sq|sq
 ·refine .inl ⟨sq,fun q' hq => ?_⟩
  have sm:=bO (o:=HO.tup vs) hq
  exact p.at (Ext.same sm) (rs.same sm) (by simp only [rD,RD];exact⟨q',vs,rfl,aO,rvs.mono (Kp.same sm)⟩)
 ·exact .inr ⟨SqT.of sq,p.here rs (by simp only [rD,RD];exact⟨q,vs,rfl,sq,rvs⟩)⟩
theorem Eb {p:Pos} {a:Expr} {fa:EF} (hg:Gl X "int") (hm:X.mg "int" = none) (ha:ME X a fa) (hs:starEach [a] X.env=(false,eval a X.env) :: starEach [] X.env:=by rfl):ME X (.Call (.Name "int" p) [a] [] pos) (mO fa):=by
 refine PF (g:=fun x h=>match x with | .int i=>.ok (.int i) h | .bl b=>.ok (.int (b2i b)) h|_=>.bad) (Ml E3 hg hm (by decide +kernel) (he:=hs)) ha (fun ρ H σd hd σ d v Q rs rv p => ?_) hs
 cases d<;>first|exact p.elim|skip
 ·simp only [RD] at rv;subst rv
  exact .inr ⟨_,rfl,p.here rs (by simp only [rD,RD];rfl)⟩
 ·simp only [RD] at rv;subst rv
  exact .inl ⟨_,rfl,p.here rs (by simp only [rD,RD])⟩
theorem yX (ns:List Int):PySem.preSum (fun i=>ns.getD i 0) ns.length=ns.sum:=by
 have key:∀ k,k≤ns.length→PySem.preSum (fun i=>ns.getD i 0) k=(ns.take k).sum:=by
  intro k
  induction k with
  | zero=>intro _;simp [PySem.preSum]
  | succ k ih =>
   intro hk
   rw [PySem.preSum,ih (by omega),List.take_add_one,ZE (by omega),List.sum_append]
   simp [List.getD,ZE (show k < ns.length by omega)]
 rw [key _ (ZL _),List.take_length]
theorem lC {its:List Value}{ns:List Int}(r:aI (ns.map V.int) its)(i:Nat)(v:Value)(h:its.toArray[i]? = some v):∃ t,v=.int (ns.getD i 0) t:=by
 have h':its[i]? = some v:=by simpa using h
 have hl:=r.length
 have hi:i < its.length:=(List.getElem?_eq_some_iff.mp h').1
 have hn:i < ns.length:=by rw [← hl] at hi;simpa using hi
 obtain⟨u,hu,ru⟩:=r.get (i:=i) (x:=.int ns[i]) (by simp [hn])
 rw [h'] at hu
 cases hu
 obtain⟨t,e⟩:=ru
 exact⟨t,by rw [e];simp [List.getD,hn]⟩
theorem E8 (hc:X.calm=true):ig X (.builtin "sum") (fun xs H Q=>∃ (p:Addr) (ns:List Int),xs=[.ref p]∧(SqL X.K H p (ns.map V.int)∨SqT X.K H p (ns.map V.int))∧Q (.int ns.sum) H):=by
 intro pins s σ H xs us Q I r q
 obtain⟨p,ns,rfl,sq,q⟩:=q
 obtain⟨u,rfl,ru⟩:=aI.one r
 cases (show u=Value.ref p from ru)
 have fin:∀ {it:Obj} {h':Heap} {tk:Nat} {t':Tok} {n:Nat},n=ns.length→(∀ b o,b∉[s.heap.objs.size]→(s.heap.push it).get? b=some o→h'.get? b=some o)→EP X pins σ Q (.int (PySem.preSum (fun i=>ns.getD i 0) n) t') { s with heap:=h',toks:=tk }:=by
  intro it h' tk t' n hn hk
  subst hn
  refine⟨.int ns.sum,H,I.kept (t':=tk) fun b o e=>hk b o (by simp;exact ZN (ZI e)) (ZH _ e),⟨t',by rw [yX]⟩,q⟩
 have hA:(X.A.in1).handled=none:=I.ok.hd hc
 rcases sq with sq|sq
 ·obtain⟨its,rv,pl,hz⟩:=I.list sq
  have il:s.heap.IsList p its.toArray:=pl.isList
  have hlt:p < s.heap.objs.size:=by obtain⟨o,ho,_⟩:=il;exact ZI ho
  refine PySem.call_sum_walkG (PySem.wpAny_pyIter_list il ?_)
  refine⟨s.heap.objs.size,_,[s.heap.objs.size],_,_,_,fun i=>ns.getD i 0,rfl,PySem.Walks.list hA s.heap.objs.size p (ZN hlt) its.toArray,⟨⟨_,ZJ _ rfl,rfl,rfl⟩,?_⟩,?_,lC rv,?_⟩
  ·obtain⟨o,ho,r⟩:=il;exact⟨o,ZH _ ho,r⟩
  ·intro b hb
   rcases List.mem_cons.mp hb with rfl|hb
   ·rw [Heap.size_push];exact Nat.lt_succ_self _
   ·simp at hb;subst hb;rw [Heap.size_push];exact Nat.lt_succ_of_lt hlt
  ·exact fun h' tk t' hk=>fin (by simpa using rv.length.symm) hk
 ·obtain⟨its,rv,pl,hz⟩:=I.tuple sq
  have il:s.heap.IsTuple p its.toArray:=pl
  have hlt:p < s.heap.objs.size:=by obtain⟨o,ho,_⟩:=il;exact ZI ho
  refine PySem.call_sum_walkG (PySem.wpAny_pyIter_tuple il ?_)
  refine⟨s.heap.objs.size,_,[s.heap.objs.size],_,_,_,fun i=>ns.getD i 0,rfl,PySem.Walks.tuple hA s.heap.objs.size p (ZN hlt) its.toArray,⟨⟨_,ZJ _ rfl,rfl,rfl⟩,?_⟩,?_,lC rv,?_⟩
  ·obtain⟨o,ho,r⟩:=il;exact⟨o,ZH _ ho,r⟩
  ·intro b hb
   rcases List.mem_cons.mp hb with rfl|hb
   ·rw [Heap.size_push];exact Nat.lt_succ_self _
   ·simp at hb;subst hb;rw [Heap.size_push];exact Nat.lt_succ_of_lt hlt
  ·exact fun h' tk t' hk=>fin (by simpa using rv.length.symm) hk
theorem qd {K:ZX}{ρ:List Addr}{H:Hp}:∀ {l:List D} {vs:List V} {is:List Int},RDs K ρ H l vs→dj l=some is→vs=is.map V.int
 | [],_,is,r,e=>by simp only [dj] at e;cases e;simp only [RDs] at r;subst r;rfl
 | d :: l,_,is,r,e=>by
  simp only [RDs] at r
  obtain⟨v,vs,rfl,h1,h2⟩:=r
  cases d<;>simp only [dj] at e<;>try (cases e;done)
  rename_i i
  cases c:dj l with
  | none=>rw [c] at e;cases e
  | some js =>
   rw [c] at e
   cases e
   simp only [RD] at h1
   rw [h1,qd h2 c]
   rfl
theorem Nr {p:Pos} {a:Expr} {la:LF} (hc:X.calm=true) (hg:Gl X "sum") (hm:X.mg "sum" = none) (ha:MQ X a la) (hs:starEach [a] X.env=(false,eval a X.env) :: starEach [] X.env:=by rfl):ME X (.Call (.Name "sum" p) [a] [] pos) (KL la):=by
 refine wg (g:=fun l h=>match dj l with|some is=>.ok (.int is.sum) h|none=>.bad) (Ht (E8 hc) hg hm (by decide +kernel) (he:=hs)) ha (fun ρ H σd hd σ l q vs Q rs sq rvs p => ?_) hs
 cases c:dj l with
 | none=>simp only [c] at p;exact p.elim
 | some is =>
  simp only [c] at p
  have e:=qd rvs c
  subst e
  exact⟨q,is,rfl,sq.imp id SqT.of,p.here rs (by simp only [rD,RD])⟩
end
end Fm
namespace Fm
open PySem PySem.Spec L2
section
variable {K:ZX} {ρ:List Addr} {H:Hp}
mutual
theorem yY:∀ {d k:D} {v:V} {b:Bool},RD K ρ H d v→RD K ρ H k v→peq d k=some b→b=true
 | .int i,k,v,b,h1,h2,e=>by
  simp only [RD] at h1;subst h1
  cases k<;>simp only [RD] at h2<;>try (cases h2;done)
  all_goals first
   | (cases h2;simp only [peq] at e;simpa using e.symm)
   | (obtain⟨_,_,z,_⟩:=h2;cases z;done)
   | (obtain⟨_,_,z⟩:=h2;cases z;done)
   | (obtain⟨_,_,_,z,_⟩:=h2;cases z;done)
 | .bl i,k,v,b,h1,h2,e=>by
  simp only [RD] at h1;subst h1
  cases k<;>simp only [RD] at h2<;>try (cases h2;done)
  all_goals first
   | (cases h2;simp only [peq] at e;simpa using e.symm)
   | (obtain⟨_,_,z,_⟩:=h2;cases z;done)
   | (obtain⟨_,_,z⟩:=h2;cases z;done)
   | (obtain⟨_,_,_,z,_⟩:=h2;cases z;done)
 | .str x,k,v,b,h1,h2,e=>by
  simp only [RD] at h1;subst h1
  cases k<;>simp only [RD] at h2<;>try (cases h2;done)
  all_goals first
   | (simp only [peq] at e;simp only [toS,V.str.injEq,PySem.Str.mk.injEq] at h2;have h3:=congrArg Array.toList h2;simp at h3;subst h3;simpa using e.symm)
   | (obtain⟨_,_,z,_⟩:=h2;cases z;done)
   | (obtain⟨_,_,z⟩:=h2;cases z;done)
   | (obtain⟨_,_,_,z,_⟩:=h2;cases z;done)
 | .non,k,v,b,h1,h2,e=>by
  simp only [RD] at h1;subst h1
  cases k<;>simp only [RD] at h2<;>try (cases h2;done)
  all_goals first
   | (simp only [peq] at e;simpa using e.symm)
   | (obtain⟨_,_,z,_⟩:=h2;cases z;done)
   | (obtain⟨_,_,z⟩:=h2;cases z;done)
   | (obtain⟨_,_,_,z,_⟩:=h2;cases z;done)
 | .tup xs,k,v,b,h1,h2,e=>by
  simp only [RD] at h1
  obtain⟨p,vs,rfl,hp,r1⟩:=h1
  cases k<;>simp only [peq] at e<;>try (cases e;done)
  ·simp only [RD] at h2;cases h2
  ·simp only [RD] at h2;cases h2
  ·rename_i ys
   simp only [RD] at h2
   obtain⟨p',vs',z,hp',r2⟩:=h2
   cases z
   rw [hp] at hp';cases hp'
   cases c:ik xs ys with
   | none=>rw [c] at e;cases e
   | some b' =>
    rw [c] at e
    simp only [Option.map_some,Option.some.injEq] at e
    have:=u4 r1 r2 c
    subst this
    rw [← e,r1.length,r2.length]
    simp
 | .ref n,k,v,b,h1,h2,e=>by cases k<;>simp only [peq] at e<;>cases e
 | .lit l,k,v,b,h1,h2,e=>by cases k<;>simp only [peq] at e<;>cases e
 | .exn c l,k,v,b,h1,h2,e=>by simp only [peq] at e<;>cases e
theorem u4:∀ {xs ys:List D} {vs:List V} {b:Bool},RDs K ρ H xs vs→RDs K ρ H ys vs→ik xs ys=some b→b=true
 | [],_,_,_,_,_,e=>by simp only [ik] at e;cases e;rfl
 | x :: xs,[],_,_,_,_,e=>by simp only [ik] at e;cases e;rfl
 | x :: xs,y :: ys,_,b,h1,h2,e=>by
  simp only [RDs] at h1 h2
  obtain⟨v,r,rfl,a1,a2⟩:=h1
  obtain⟨v',r',z,b1,b2⟩:=h2
  cases z
  simp only [ik] at e
  cases c:peq x y with
  | none=>rw [c] at e;cases e
  | some p =>
   cases c2:ik xs ys with
   | none=>rw [c,c2] at e;cases e
   | some q =>
    rw [c,c2] at e
    simp only [Option.some.injEq] at e
    rw [← e,yY a1 b1 c,u4 a2 b2 c2];rfl
end
end
section
variable {K:ZX} {ρ:List Addr} {H:Hp} {P:Program} {w:World} {s:Shared}
theorem gl (hok:HOk P w H s.heap){p:Addr}{vs:List V}(h:H p=some (.tup vs)):∃ its:List Value,aI vs its∧s.heap.IsTuple p its.toArray:=by
 obtain⟨z,its,r,t⟩:=hok p _ h
 exact⟨its,r,t⟩
mutual
theorem Hu (hok:HOk P w H s.heap):∀ {d k:D} {v v':V} {u u':Value} {b:Bool} {A:Around},RD K ρ H d v→RD K ρ H k v'→bg v u→bg v' u'→peq d k=some b→A.units + dep d < cLine→SeqAt.EqAt A s u u' b
 | .int i,k,v,v',u,u',b,A,h1,h2,r1,r2,e,hu=>by
  simp only [RD] at h1;subst h1
  obtain⟨t,rfl⟩:=r1
  cases k<;>simp only [peq] at e<;>try (cases e;done)
  all_goals cases e
  ·simp only [RD] at h2;subst h2;cases r2;exact SeqAt.EqAt.int_none i t
  ·simp only [RD] at h2;subst h2;cases r2;exact SeqAt.EqAt.int_bool i t _
  ·simp only [RD] at h2;subst h2;obtain⟨t',rfl⟩:=r2;exact SeqAt.EqAt.int_int i t _ t'
  ·simp only [RD] at h2;obtain⟨p,vs,rfl,hp,_⟩:=h2;cases r2
   obtain⟨its,_,il⟩:=gl hok hp
   exact SeqAt.EqAt.int_tuple i t il (ZS (Nat.le_add_right _ _) hu)
 | .bl i,k,v,v',u,u',b,A,h1,h2,r1,r2,e,hu=>by
  simp only [RD] at h1;subst h1
  cases r1
  cases k<;>simp only [peq] at e<;>try (cases e;done)
  all_goals cases e
  ·simp only [RD] at h2;subst h2;cases r2;exact SeqAt.EqAt.bool_bool i _
  ·simp only [RD] at h2;subst h2;obtain⟨t',rfl⟩:=r2;exact SeqAt.EqAt.bool_int i _ t'
 | .str x,k,v,v',u,u',b,A,h1,h2,r1,r2,e,hu=>by
  simp only [RD] at h1;subst h1
  obtain⟨t,rfl⟩:=r1
  cases k<;>simp only [peq] at e<;>try (cases e;done)
  all_goals cases e
  rename_i y
  simp only [RD] at h2;subst h2;obtain⟨t',rfl⟩:=r2
  have:decide (x=y)=(toS x == toS y):=by
   by_cases z:x=y
   ·subst z;simp
   ·have : ¬ toS x=toS y:=fun q=>z (by have:=congrArg (fun (s:Str)=>s.cps.toList) q;simpa [toS] using this)
    simp [z,this]
  rw [this]
  exact SeqAt.EqAt.str_str _ t _ t'
 | .non,k,v,v',u,u',b,A,h1,h2,r1,r2,e,hu=>by
  simp only [RD] at h1;subst h1
  cases r1
  cases k<;>simp only [peq] at e<;>try (cases e;done)
  all_goals cases e
  ·simp only [RD] at h2;subst h2;cases r2;exact SeqAt.EqAt.same _
  ·simp only [RD] at h2;subst h2;obtain⟨t',rfl⟩:=r2;exact SeqAt.EqAt.none_int _ t'
  ·simp only [RD] at h2;obtain⟨p,vs,rfl,hp,_⟩:=h2;cases r2
   obtain⟨its,_,il⟩:=gl hok hp
   exact SeqAt.EqAt.none_tuple il (ZS (Nat.le_add_right _ _) hu)
 | .tup xs,k,v,v',u,u',b,A,h1,h2,r1,r2,e,hu=>by
  have h1':=h1
  simp only [RD] at h1
  obtain⟨p,vs,rfl,hp,q1⟩:=h1
  cases r1
  obtain⟨its,rv,il⟩:=gl hok hp
  have hu0:A.units < cLine:=ZS (Nat.le_add_right _ _) hu
  cases k<;>simp only [peq] at e<;>try (cases e;done)
  ·cases e;simp only [RD] at h2;subst h2;cases r2;exact SeqAt.EqAt.tuple_none il hu0
  ·cases e;simp only [RD] at h2;subst h2;obtain⟨t',rfl⟩:=r2;exact SeqAt.EqAt.tuple_int _ t' il hu0
  ·rename_i ys
   have h2':=h2
   simp only [RD] at h2
   obtain⟨p',vs',rfl,hp',q2⟩:=h2
   cases r2
   by_cases hpp:p=p'
   ·subst hpp
    have:b=true:=yY h1' h2' (by simp only [peq];exact e)
    subst this
    exact SeqAt.EqAt.same _
   ·obtain⟨its',rv',il'⟩:=gl hok hp'
    cases c:ik xs ys with
    | none=>rw [c] at e;cases e
    | some b' =>
     rw [c] at e
     simp only [Option.map_some,Option.some.injEq] at e
     obtain⟨f,hf,ha⟩:=lF hok (A:=A.in1) q1 q2 rv rv' c (by simp only [dep] at hu;show A.units + 1 + o4 xs < cLine;omega)
     have:=SeqAt.RcAt.tuples (s:=s) (A:=A) (e:=f) il il' hu0 (fun j h1 h2=>by simpa using hf j (by simpa using h1) (by simpa using h2))
     rw [← e,← ha,q1.length,q2.length,rv.length,rv'.length]
     refine SeqAt.EqAt.of_refs hpp ?_
     rw [show (decide (its.length=its'.length))=(its.length == its'.length) from rfl]
     simpa using this
 | .ref n,k,v,v',u,u',b,A,h1,h2,r1,r2,e,hu=>by cases k<;>simp only [peq] at e<;>cases e
 | .lit l,k,v,v',u,u',b,A,h1,h2,r1,r2,e,hu=>by cases k<;>simp only [peq] at e<;>cases e
 | .exn c l,k,v,v',u,u',b,A,h1,h2,r1,r2,e,hu=>by simp only [peq] at e<;>cases e
theorem lF (hok:HOk P w H s.heap):∀ {xs ys:List D} {vs vs':List V} {us us':List Value} {b:Bool} {A:Around},RDs K ρ H xs vs→RDs K ρ H ys vs'→aI vs us→aI vs' us'→ik xs ys=some b→A.units + o4 xs < cLine →
  ∃ f:Nat→Bool,(∀ j (h1:j < us.length) (h2:j < us'.length),SeqAt.EqAt A s us[j] us'[j] (f j))∧(List.range (min us.length us'.length)).all f=b
 | [],ys,vs,vs',us,us',b,A,h1,h2,r1,r2,e,hu=>by
  simp only [RDs] at h1;subst h1;cases r1
  simp only [ik] at e;cases e
  exact⟨fun _=>true,fun j h1=>by simp at h1,by simp⟩
 | x :: xs,[],vs,vs',us,us',b,A,h1,h2,r1,r2,e,hu=>by
  simp only [RDs] at h2;subst h2;cases r2
  simp only [ik] at e;cases e
  exact⟨fun _=>true,fun j h1 h2=>by simp at h2,by simp⟩
 | x :: xs,y :: ys,vs,vs',us,us',b,A,h1,h2,r1,r2,e,hu=>by
  simp only [RDs] at h1 h2
  obtain⟨v,r,rfl,a1,a2⟩:=h1
  obtain⟨v',r',rfl,b1,b2⟩:=h2
  cases r1 with
  | cons p1 p2 =>
   cases r2 with
   | cons s1 s2 =>
    simp only [ik] at e
    cases c:peq x y with
    | none=>rw [c] at e;cases e
    | some p =>
     cases c2:ik xs ys with
     | none=>rw [c,c2] at e;cases e
     | some q =>
      rw [c,c2] at e
      simp only [Option.some.injEq] at e
      simp only [o4] at hu
      have g1:=Hu hok (A:=A) a1 b1 p1 s1 c (by omega)
      obtain⟨f,hf,ha⟩:=lF hok (A:=A) a2 b2 p2 s2 c2 (by omega)
      refine⟨fun j=>match j with|0=>p|j + 1=>f j,fun j h1 h2 => ?_,?_⟩
      ·cases j with
       | zero=>exact g1
       | succ j=>exact hf j (by simpa using h1) (by simpa using h2)
      ·rw [← e,← ha,List.length_cons,List.length_cons,Nat.succ_min_succ,List.range_succ_eq_map,List.all_cons,List.all_map]
       rfl
end
theorem Nt (hok:HOk P w H s.heap){d k:D}{v v':V}{u u':Value}{b:Bool}{A:Around}(h1:RD K ρ H d v)(h2:RD K ρ H k v')(r1:bg v u)(r2:bg v' u')(e:peq d k=some b)(hu:A.units + dep d < cLine) :
  SeqAt.RcAt A s u u' b∧SeqAt.RcNeAt A s u u' (!b):=by
 have hu0:A.units < cLine:=ZS (Nat.le_add_right _ _) hu
 cases d<;>simp only [RD] at h1
 ·subst h1;cases r1
  cases k<;>simp only [peq] at e<;>try (cases e;done)
  all_goals cases e
  ·simp only [RD] at h2;subst h2;cases r2;exact⟨SeqAt.RcAt.none_none,SeqAt.RcNeAt.none_none⟩
  ·simp only [RD] at h2;subst h2;obtain⟨t',rfl⟩:=r2;exact⟨SeqAt.RcAt.none_int _ t',SeqAt.RcNeAt.none_int _ t'⟩
  ·simp only [RD] at h2;obtain⟨p,vs,rfl,hp,_⟩:=h2;cases r2
   obtain⟨its,_,il⟩:=gl hok hp
   exact⟨SeqAt.RcAt.none_tuple il hu0,SeqAt.RcNeAt.none_tuple il hu0⟩
 ·subst h1;cases r1
  cases k<;>simp only [peq] at e<;>try (cases e;done)
  all_goals cases e
  ·simp only [RD] at h2;subst h2;cases r2;exact⟨SeqAt.RcAt.bool_bool _ _,SeqAt.RcNeAt.bool_bool _ _⟩
  ·simp only [RD] at h2;subst h2;obtain⟨t',rfl⟩:=r2;exact⟨SeqAt.RcAt.bool_int _ _ t',SeqAt.RcNeAt.bool_int _ _ t'⟩
 ·subst h1;obtain⟨t,rfl⟩:=r1
  cases k<;>simp only [peq] at e<;>try (cases e;done)
  all_goals cases e
  ·simp only [RD] at h2;subst h2;cases r2;exact⟨SeqAt.RcAt.int_none _ t,SeqAt.RcNeAt.int_none _ t⟩
  ·simp only [RD] at h2;subst h2;cases r2;exact⟨SeqAt.RcAt.int_bool _ t _,SeqAt.RcNeAt.int_bool _ t _⟩
  ·simp only [RD] at h2;subst h2;obtain⟨t',rfl⟩:=r2;exact⟨SeqAt.RcAt.int_int _ t _ t',SeqAt.RcNeAt.int_int _ t _ t'⟩
  ·simp only [RD] at h2;obtain⟨p,vs,rfl,hp,_⟩:=h2;cases r2
   obtain⟨its,_,il⟩:=gl hok hp
   exact⟨SeqAt.RcAt.int_tuple _ t il hu0,SeqAt.RcNeAt.int_tuple _ t il hu0⟩
 ·subst h1;obtain⟨t,rfl⟩:=r1
  cases k<;>simp only [peq] at e<;>try (cases e;done)
  all_goals cases e
  rename_i x y
  simp only [RD] at h2;subst h2;obtain⟨t',rfl⟩:=r2
  have:decide (x=y)=(toS x == toS y):=by
   by_cases z:x=y
   ·subst z;simp
   ·have : ¬ toS x=toS y:=fun q=>z (by have:=congrArg (fun (s:Str)=>s.cps.toList) q;simpa [toS] using this)
    simp [z,this]
  rw [this]
  exact⟨SeqAt.RcAt.str_str _ t _ t',SeqAt.RcNeAt.str_str _ t _ t'⟩
 ·rename_i xs
  obtain⟨p,vs,rfl,hp,q1⟩:=h1
  cases r1
  obtain⟨its,rv,il⟩:=gl hok hp
  cases k<;>simp only [peq] at e<;>try (cases e;done)
  ·cases e;simp only [RD] at h2;subst h2;cases r2;exact⟨SeqAt.RcAt.tuple_none il hu0,SeqAt.RcNeAt.tuple_none il hu0⟩
  ·cases e;simp only [RD] at h2;subst h2;obtain⟨t',rfl⟩:=r2;exact⟨SeqAt.RcAt.tuple_int _ t' il hu0,SeqAt.RcNeAt.tuple_int _ t' il hu0⟩
  ·rename_i ys
   simp only [RD] at h2
   obtain⟨p',vs',rfl,hp',q2⟩:=h2
   cases r2
   obtain⟨its',rv',il'⟩:=gl hok hp'
   cases c:ik xs ys with
   | none=>rw [c] at e;cases e
   | some b' =>
    rw [c] at e
    simp only [Option.map_some,Option.some.injEq] at e
    obtain⟨f,hf,ha⟩:=lF hok (A:=A.in1) q1 q2 rv rv' c (by simp only [dep] at hu;show A.units + 1 + o4 xs < cLine;omega)
    have g1:=SeqAt.RcAt.tuples (s:=s) (A:=A) (e:=f) il il' hu0 (fun j h1 h2=>by simpa using hf j (by simpa using h1) (by simpa using h2))
    have g2:=SeqAt.RcNeAt.tuples (s:=s) (A:=A) (e:=f) il il' hu0 (fun j h1 h2=>by simpa using hf j (by simpa using h1) (by simpa using h2))
    rw [← e,← ha,q1.length,q2.length,rv.length,rv'.length,show (decide (its.length=its'.length))=(its.length == its'.length) from rfl]
    exact⟨by simpa using g1,by simpa using g2⟩
 ·cases k<;>simp only [peq] at e<;>cases e
 ·cases k<;>simp only [peq] at e<;>cases e
 ·simp only [peq] at e<;>cases e
end
section
variable {X:Cx}
theorem dy {K:ZX}{ρ:List Addr}{H:Hp}{hd:Hd}{d:D}{v:V}{l:List D}(r:RH K ρ H hd)(h:RD K ρ H d v)(e:aS hd d=some l):∃ p vs,v=.ref p∧SqL K H p vs∧RDs K ρ H l vs:=by
 cases d<;>simp only [aS] at e<;>try (cases e;done)
 ·rename_i n
  simp only [RD] at h
  obtain⟨a,e1,e2⟩:=h
  cases c:hd[n]? with
  | none=>rw [c] at e;cases e
  | some x =>
   rw [c] at e
   cases x with
   | dct l=>cases e
   | dcT l=>cases e
   | lst l' =>
    cases e
    obtain⟨vs,q1,q2⟩:=r.cel n _ a c e1
    exact⟨a,vs,e2,SqL.of q1,q2⟩
 ·cases e
  simp only [RD] at h
  obtain⟨p,vs,e1,e2,e3⟩:=h
  exact⟨p,vs,e1,e2.sq,e3⟩
theorem Hv {pins:List (Addr × Obj)}{σ:St}{H:Hp}{s:Shared}{ρ:List Addr}{hd:Hd}{d k:D}{v v':V}{u u':Value}{b:Bool}(hu:X.A.units + 24 < cLine)(I:Inv X pins σ H s)(r:RH X.K ρ H hd)(h1:RD X.K ρ H d v)(h2:RD X.K ρ H k v')
  (r1:bg v u) (r2:bg v' u') (e:eqG hd d k=some b):SeqAt.RcAt X.A s u u' b∧SeqAt.RcNeAt X.A s u u' (!b):=by
 have hu0:X.A.units < cLine:=by omega
 simp only [eqG] at e
 cases c1:aS hd d with
 | none =>
  cases c2:aS hd k with
  | some l=>rw [c1,c2] at e;cases e
  | none =>
   rw [c1,c2] at e
   simp only at e
   split at e
   ·rename_i hd20
    exact Nt I.hok h1 h2 r1 r2 e (by omega)
   ·cases e
 | some xs =>
  cases c2:aS hd k with
  | none=>rw [c1,c2] at e;cases e
  | some ys =>
   rw [c1,c2] at e
   simp only [eqL] at e
   obtain⟨p,vs,rfl,s1,q1⟩:=dy r h1 c1
   obtain⟨p',vs',rfl,s2,q2⟩:=dy r h2 c2
   cases r1;cases r2
   obtain⟨its,rv,pl,_⟩:=I.list s1
   obtain⟨its',rv',pl',_⟩:=I.list s2
   have il:s.heap.IsList p its.toArray:=pl.isList
   have il':s.heap.IsList p' its'.toArray:=pl'.isList
   have l1:xs.length=its.length:=q1.length.trans rv.length
   have l2:ys.length=its'.length:=q2.length.trans rv'.length
   split at e
   ·rename_i hd20
    split at e
    ·rename_i hl
     obtain⟨f,hf,ha⟩:=lF I.hok (A:=X.A.in1) q1 q2 rv rv' e (by show X.A.units + 1 + o4 xs < cLine;omega)
     have hs:its.toArray.size=its'.toArray.size:=by simp;omega
     have g1:=SeqAt.RcAt.lists (s:=s) (A:=X.A) (e:=f) il il' hs hu0 (fun j h1 h2=>by simpa using hf j (by simpa using h1) (by simpa using h2))
     have g2:=SeqAt.RcNeAt.lists (s:=s) (A:=X.A) (e:=f) il il' hs hu0 (fun j h1 h2=>by simpa using hf j (by simpa using h1) (by simpa using h2))
     have hm:min its.length its'.length=its.length:=by omega
     rw [hm] at ha
     rw [← ha]
     exact⟨by simpa using g1,by simpa using g2⟩
    ·rename_i hl
     cases e
     have hs:(its.toArray.size != its'.toArray.size)=true:=by simp;omega
     exact⟨SeqAt.RcAt.lists_lengths il il' hs hu0,SeqAt.RcNeAt.lists_lengths il il' hs hu0⟩
   ·cases e
def KP (K:ZX) (f:Bool→Bool):R2:=fun x y H Q=>∃ ρ hd d k b,RH K ρ H hd∧RD K ρ H d x∧RD K ρ H k y∧eqG hd d k=some b∧Q (.bl (f b)) H
theorem eK (hu:X.A.units + 24 < cLine):OpR X (compareOp .Eq) (KP X.K id):=by
 intro pins s σ H x y v u Q I rx ry h
 obtain⟨ρ,hd,d,k,b,r,h1,h2,e,q⟩:=h
 exact (Hv hu I r h1 h2 rx ry e).1 _ _ _ _ ⟨.bl b,H,I,rfl,q⟩
theorem gm (hu:X.A.units + 24 < cLine):OpR X (compareOp .NotEq) (KP X.K not):=by
 intro pins s σ H x y v u Q I rx ry h
 obtain⟨ρ,hd,d,k,b,r,h1,h2,e,q⟩:=h
 exact (Hv hu I r h1 h2 rx ry e).2 _ _ _ _ ⟨.bl (!b),H,I,rfl,q⟩
theorem ip {K:ZX}:Og K oEq (KP K id):=by
 intro ρ H σd hd σ d k v w Q rs rv rw' p
 unfold oEq at p
 cases e:eqG hd d k with
 | none=>rw [e] at p;exact p.elim
 | some b=>rw [e] at p;exact⟨ρ,hd,d,k,b,rs.hp,rv,rw',e,p.here rs (by simp only [rD,RD];rfl)⟩
theorem jI {K:ZX}:Og K oNe (KP K not):=by
 intro ρ H σd hd σ d k v w Q rs rv rw' p
 unfold oNe at p
 cases e:eqG hd d k with
 | none=>rw [e] at p;exact p.elim
 | some b=>rw [e] at p;exact⟨ρ,hd,d,k,b,rs.hp,rv,rw',e,p.here rs (by simp only [rD,RD])⟩
end
end Fm
namespace Fm
open PySem PySem.Spec L2
section
variable {K:ZX} {ρ ρ':List Addr} {H H':Hp} {hd hd':Hd} {σd:Sd} {σ:St}
theorem bw.outE {r:Res D}{k:D→Hd→Out}{En:fg}(p:bw K ρ H (outE r σd k) En) :
  bx K (rD K) ρ H σd σ r (fun v H'=>∃ ρ' d hd',Ext ρ H ρ' H'∧RS K ρ' H' σd hd' σ ∧ RD K ρ' H' d v∧bw K ρ' H' (k d hd') En):=by
 cases r with
 | ok d h'=>exact fun b H' ρ' ex rs q=>⟨ρ',d,h',ex,rs,q,bw.ext ex p⟩
 | exc x h'=>exact p
 | bad=>exact p
theorem RSt.set (r:RSt K ρ H σd σ){d:D}{v:V}(i:Nat)(h:RD K ρ H d v):RSt K ρ H (σd.set i (some d)) (σ.set i (some v)):=by
 refine⟨by simp [r.len],fun j x e => ?_⟩
 by_cases hj:i=j
 ·subst hj
  by_cases hl:i < σd.length
  ·simp only [slot,List.getElem?_set_self hl] at e
   cases e
   exact⟨v,by rw [List.getElem?_set_self (by rw [← r.len];exact hl)],h⟩
  ·simp only [slot] at e
   rw [List.getElem?_eq_none (by simp;omega)] at e
   cases e
 ·simp only [slot,ZP hj] at e
  rw [ZP hj]
  exact r.at' j x (by simpa only [slot] using e)
def PJ (K:ZX) (g:GF):TG:=fun v σ H Q=>∃ ρ σd hd d σd',RS K ρ H σd hd σ ∧ RD K ρ H d v∧g d σd=some σd' ∧ ∀ σ',RS K ρ H σd' hd σ'→Q σ' H
def Nu (σ:Sd) (l:List Nat) (xs:List D):Sd:=(l.zip xs).foldl (fun σ p => σ.set p.1 (some p.2)) σ
def Nv (K:ZX) (l:List Nat):TGs:=fun vs σ H Q=>∃ ρ σd hd ds,RS K ρ H σd hd σ ∧ RDs K ρ H ds vs∧ds.length=l.length ∧ ∀ σ',RS K ρ H (Nu σd l ds) hd σ'→Q σ' H
end
def MG (X:Cx) (tg:Expr) (g:GF):Prop:=PG X tg (PJ X.K g)
def MGs (X:Cx) (ts:List Expr) (l:List Nat):Prop:=PGs X ts (Nv X.K l)
section
variable {X:Cx} {pos:Pos}
theorem PG.imp {tg:Expr}{t u:TG}(h:PG X tg t)(i:∀ v σ H Q,u v σ H Q→t v σ H Q):PG X tg u:=fun pins s σ H v w Q I r q=>h pins s σ H v w Q I r (i v σ H Q q)
theorem PGs.imp {tg:List Expr}{t u:TGs}(h:PGs X tg t)(i:∀ v σ H Q,u v σ H Q→t v σ H Q):PGs X tg u:=fun pins s σ H v w Q I r q=>h pins s σ H v w Q I r (i v σ H Q q)
theorem bu {i:Nat}{x:Str}(hN:X.N.Nodup)(hi:X.N[i]? = some x)(hx:Loc X.env.scope x)(hf:X.fn x=true∨X.env.scope.names.lookup x=some .local:=by first|exact .inl rfl|exact .inr rfl|assumption):MG X (.Name x pos) (gN i):=by
 refine PG.imp (Kt hN hi hx hf) fun v σ H Q ⟨ρ,σd,hd,d,σd',rs,rv,e,q⟩ => ?_
 simp only [gN,Option.some.injEq] at e
 subst e
 exact q _ ⟨rs.hp,rs.st.set i rv⟩
theorem pH:MGs X [] []:=by
 refine PGs.imp Ku fun vs σ H Q ⟨ρ,σd,hd,ds,rs,rv,e,q⟩ => ?_
 have:ds=[]:=by simpa using e
 subst this
 simp only [RDs] at rv
 exact⟨rv,q σ rs⟩
theorem fj {e:Expr}{es:List Expr}{i:Nat}{l:List Nat}(h1:MG X e (gN i))(h2:MGs X es l)
  (hs:(assignEach (e :: es) X.env).map (·.2)=assign e X.env :: (assignEach es X.env).map (·.2):=by rfl):MGs X (e :: es) (i :: l):=by
 refine PGs.imp (G9 h1 h2 hs) fun vs σ H Q ⟨ρ,σd,hd,ds,rs,rv,e,q⟩ => ?_
 cases ds with
 | nil=>simp at e
 | cons d ds =>
  simp only [RDs] at rv
  obtain⟨v,r,rfl,h1,h2⟩:=rv
  refine⟨v,r,rfl,ρ,σd,hd,d,_,rs,h1,rfl,fun σ' rs' => ?_⟩
  exact⟨ρ,_,hd,ds,rs',h2,by simpa using e,fun σ2 rs2=>q σ2 rs2⟩
theorem wj {es:List Expr}{k:Nat}{l:List Nat}(hc:X.calm=true)(h:MGs X es l)
  (hn:(assignEach es X.env).length=l.length:=by rfl) (hst:(assignEach es X.env).findIdx? (·.1)=none:=by rfl):MG X (.Tuple es k pos) (gT l):=by
 refine PG.imp (M0 hc h hn hst) fun v σ H Q ⟨ρ,σd,hd,d,σd',rs,rv,e,q⟩ => ?_
 cases d<;>simp only [gT] at e<;>try (cases e;done)
 rename_i xs
 split at e
 ·rename_i hl
  cases e
  simp only [RD] at rv
  obtain⟨p,vs,rfl,hp,r⟩:=rv
  exact⟨p,vs,rfl,SqT.of hp,by rw [← r.length];exact hl,ρ,σd,hd,xs,rs,r,hl,q⟩
 ·cases e
theorem aU:MSs X [] bM:=PSs.imp vV fun En σ H ⟨ρ,σd,hd,rs,p⟩=>p σ H ρ Ext.refl rs
theorem ag {st:Stmt}{rest:List Stmt}{a b:SF}(h1:MS X st a)(h2:MSs X rest b):MSs X (st :: rest) (aC a b):=by
 refine PSs.imp (yN h1 h2) fun En σ H ⟨ρ,σd,hd,rs,p⟩=>⟨ρ,σd,hd,rs,?_⟩
 unfold aC at p
 cases e:a σd hd with
 | nx σ1 h1=>rw [e] at p;exact fun σ' H' ρ' ex rs'=>⟨ρ',σ1,h1,rs',bw.ext ex p⟩
 | rt d h1=>rw [e] at p;exact p
 | bk σ1 h1=>rw [e] at p;exact p
 | ct σ1 h1=>rw [e] at p;exact p
 | exc x σ1 h1=>rw [e] at p;exact p
 | bad=>rw [e] at p;exact p
theorem am {st:Stmt}{a:SF}(h:MS X st a):MSs X [st] a:=vW h
theorem gp {st:Stmt}:MS X st kT:=PS.imp G7 fun En σ H ⟨ρ,σd,hd,rs,p⟩=>p.elim
theorem aF {e:Expr}{f:EF}(h:ME X e f):MS X (.Return (some e) pos) (aT f):=by
 refine PS.imp (MV h) fun En σ H ⟨ρ,σd,hd,rs,p⟩=>⟨ρ,σd,hd,rs,(bw.outE p).imp fun v H1 ⟨ρ1,d,hd1,e1,rs1,rv,p1⟩ => ?_⟩
 exact p1 v H1 ρ1 Ext.refl rs1.hp rv
theorem pI {e:Expr}{f:EF}(h:ME X e f)(hs:swapsWith e none pos.line X.env=pure false:=by rfl):MS X (.Expr e pos) (kS f):=by
 refine PS.imp (Ks h hs) fun En σ H ⟨ρ,σd,hd,rs,p⟩=>⟨ρ,σd,hd,rs,(bw.outE p).imp fun v H1 ⟨ρ1,d,hd1,e1,rs1,rv,p1⟩ => ?_⟩
 exact p1 σ H1 ρ1 Ext.refl rs1
theorem bS {c:Expr}{a b:List Stmt}{t:TF}{fa fb:SF}(hc:MT X c t)(ha:MSs X a fa)(hb:MSs X b fb):MS X (.If c a b pos) (sIf t fa fb):=by
 refine PS.imp (Md hc ha hb) fun En σ H ⟨ρ,σd,hd,rs,p⟩=>⟨ρ,σd,hd,rs,?_⟩
 unfold sIf at p
 cases e:t σd hd with
 | ok c h1 =>
  rw [e] at p
  intro b H' ρ' ex rs' q
  cases q
  cases c with
  | true=>simp only [if_true] at p ⊢;exact⟨ρ',σd,h1,rs',bw.ext ex p⟩
  | false=>simp only [Bool.false_eq_true,if_false] at p ⊢;exact⟨ρ',σd,h1,rs',bw.ext ex p⟩
 | exc x h1=>rw [e] at p;exact p
 | bad=>rw [e] at p;exact p
theorem bi {i:Nat}{x:Str}{e:Expr}{f:EF}{pos':Pos}(hN:X.N.Nodup)(hi:X.N[i]? = some x)(hx:Loc X.env.scope x)(he:ME X e f)(hs:swapsWith e (some (.Name x pos')) pos.line X.env=pure false:=by rfl)(hf:X.fn x=true∨X.env.scope.names.lookup x=some .local:=by first|exact .inl rfl|exact .inr rfl|assumption) :
  MS X (.Assign [.Name x pos'] e pos) (bd (gN i) f):=by
 refine PS.imp (Bb hN hi hx he hs hf) fun En σ H ⟨ρ,σd,hd,rs,p⟩=>⟨ρ,σd,hd,rs,(bw.outE p).imp fun v H1 ⟨ρ1,d,hd1,e1,rs1,rv,p1⟩ => ?_⟩
 exact p1 _ H1 ρ1 Ext.refl ⟨rs1.hp,rs1.st.set i rv⟩
theorem Nw:Fm.ixN=L2.ixN:=rfl
theorem Nx {o i e:Expr}{fo fi fe:EF}{p2:Pos}(he:ME X e fe)(ho:ME X o fo)(hi:ME X i fi)(hs:swapsWithSole [.Subscript o i p2] e pos.line X.env=pure false:=by rfl)(hw:swappedStores [.Subscript o i p2] e X.env=pure none:=by rfl)
  (h1:(assignEach [.Subscript o i p2] X.env).map (·.2)=[assign (.Subscript o i p2) X.env]:=by rfl) (ha:∀ v,assign (.Subscript o i p2) X.env v=(do
   let ov ← holding [v] (eval o X.env)
   let iv ← holding [v,ov] (eval i X.env)
   standAt p2
   holding [v,ov,iv] (setItem ov iv v)
   release [v,ov,iv] []):=by intro _;rfl):MS X (.Assign [.Subscript o i p2] e pos) (yU fo fi fe):=by
 refine PS.imp (Ba he (A9 ho hi Hl ha) hs hw h1) fun En σ H ⟨ρ,σd,hd,rs,p⟩=>⟨ρ,σd,hd,rs,(bw.outE p).imp fun v H1 ⟨ρ1,d,hd1,e1,rs1,rv,p1⟩ => ?_⟩
 refine⟨ρ1,σd,hd1,rs1,(bw.outE p1).imp fun vo H2 ⟨ρ2,dO,hd2,e2,rs2,ro,p2⟩ => ?_⟩
 refine⟨ρ2,σd,hd2,rs2,(bw.outE p2).imp fun vi H3 ⟨ρ3,di,hd3,e3,rs3,ri,p3⟩ => ?_⟩
 have rv3:=(rv.mono (rs1.hp.kp e2)).mono (rs2.hp.kp e3)
 have ro3:=ro.mono (rs2.hp.kp e3)
 cases dO with
 | ref n =>
  cases di with
  | int j =>
   simp only at p3
   cases c:hd3[n]? with
   | none=>rw [c] at p3;exact p3.elim
   | some cell =>
    rw [c] at p3
    cases cell with
    | dct l=>exact p3.elim
    | dcT l=>exact p3.elim
    | lst l =>
     simp only at p3
     cases c2:ixN l.length j with
     | none=>rw [c2] at p3;exact p3.elim
     | some k =>
      rw [c2] at p3
      simp only [RD] at ro3 ri
      obtain⟨a,ha,rfl⟩:=ro3
      obtain⟨vs,hv,rvs⟩:=rs3.hp.cel n _ a c ha
      refine⟨a,vs,j,k,rfl,ri,hv,by rw [← rvs.length,← Nw];exact c2,?_⟩
      have hn:n < hd3.length:=(List.getElem?_eq_some_iff.mp c).1
      have rh:=rs3.hp.write ha hn (RDs.set rv3 k rvs)
      have ex:Ext ρ3 H3 ρ3 (upd H3 a (.lst (vs.set k v))):=Ext.write (ZK ha)
      exact p3 σ _ ρ3 ex (rs3.ext ex rh)
  | _=>exact p3.elim
 | _=>exact p3.elim
end
section
variable (K:ZX)
structure sC (ρ0:List Addr) (H0:Hp) (J:It) (l:List D) (g:Option Nat):Prop where
 go:∀ ρ H hd (i:Nat) d,Ext ρ0 H0 ρ H→RH K ρ H hd→iW g l hd→l[i]? = some d→J.go i H ∧ ∀ x H',J.yld i H x H'→iU H H'∧RD K ρ H' d x
 stop:∀ ρ H hd,Ext ρ0 H0 ρ H→RH K ρ H hd→iW g l hd→J.stop l.length H
 sz:l.length≤sizeLine
def PK (ρ:List Addr) (H:Hp) (σd:Sd) (σ:St) (r:Res (List D × Option Nat)) (R:It→Hp→Prop):Prop:=match r with
 | .ok p hd'=>∀ J H' ρ',Ext ρ H ρ' H'→RS K ρ' H' σd hd' σ → sC K ρ' H' J p.1 p.2→R J H'
 | _=>False
def PL (f:IF):TI:=fun σ H R=>∃ ρ σd hd,RS K ρ H σd hd σ ∧ PK K ρ H σd σ (f σd hd) R
end
def MI (X:Cx) (tg e:Expr) (f:IF):Prop:=PI X tg e (PL X.K f)
section
variable {X:Cx} {pos:Pos} {tg:Expr}
theorem PI.imp {e:Expr}{t u:TI}(h:PI X tg e t)(i:∀ σ H R,u σ H R→t σ H R):PI X tg e u:=fun pins s σ H R I q=>h pins s σ H R I (i σ H R q)
theorem mS {iter:Expr}{body:List Stmt}{f:IF}{g:GF}{b:SF}(hp:PassesOwn (model X.prog X.w) X.A X.env X.xe)(hc:X.calm=true)(hi:MI X tg iter f)(hg:MG X tg g)(hb:MSs X body b)
  (hs:∀ x,foldedSetIterable iter X.env x=pure x:=by intro _;rfl):MS X (.For tg iter body [] pos) (o5 f g b):=by
 refine PS.imp (M5 hp hc hi hg hb hs) fun En σ H ⟨ρ,σd,hd,rs,p⟩=>⟨ρ,σd,hd,rs,?_⟩
 unfold o5 at p
 cases e:f σd hd with
 | exc x h'=>rw [e] at p;exact p
 | bad=>rw [e] at p;exact p
 | ok q hd1 =>
  rw [e] at p
  obtain⟨l,gd⟩:=q
  intro J H1 ρ1 ex1 rs1 wk
  simp only at p wk
  refine⟨fun i m σ' H'=>∃ ρ' σd' hd',Ext ρ1 H1 ρ' H'∧RS X.K ρ' H' σd' hd' σ'∧i≤l.length∧m=l.length - i∧bw X.K ρ' H' (gG gd l g b (l.drop i) σd' hd') En,
   ⟨l.length,ρ1,σd,hd1,Ext.refl,rs1,Nat.zero_le _,by simp,by simpa using bw.ext ex1 p⟩,?_⟩
  rintro i m σ' H' ⟨ρ',σd',hd',ex,rs',hil,rfl,pp⟩
  by_cases hlt:i < l.length
  ·have hdi:l[i]? = some l[i]:=by simp [hlt]
   rw [List.drop_eq_getElem_cons hlt] at pp
   unfold gG at pp
   by_cases hh:iW gd l hd'
   ·rw [if_pos hh] at pp
    obtain⟨go,yl⟩:=wk.go ρ' H' hd' i _ ex rs'.hp hh hdi
    refine .inr ⟨go,fun σ2 H2=>∃ ρ2 σd2 hd2,Ext ρ1 H1 ρ2 H2∧RS X.K ρ2 H2 σd2 hd2 σ2∧bw X.K ρ2 H2 (gG gd l g b (l.drop (i + 1)) σd2 hd2) En,
     fun σ2 H2 ⟨ρ2,σd2,hd2,a1,a2,a3⟩=>⟨l.length - (i + 1),by omega,ρ2,σd2,hd2,a1,a2,hlt,rfl,a3⟩,fun x H2 y => ?_⟩
    obtain⟨sm,rx⟩:=yl x H2 y
    cases c:g l[i] σd' with
    | none=>rw [c] at pp;exact pp.elim
    | some σd2 =>
     rw [c] at pp
     simp only at pp
     refine⟨ρ',σd',hd',l[i],σd2,rs'.same sm,rx,c,fun σ2 rs2=>⟨ρ',σd2,hd',rs2,?_⟩⟩
     have e12:Ext ρ' H' ρ' H2:=Ext.same sm
     cases c2:b σd2 hd' with
     | nx σ3 h3=>rw [c2] at pp;exact fun σ4 H4 ρ4 ex4 rs4=>⟨ρ4,σ3,h3,ex.trans (e12.trans ex4),rs4,bw.ext (e12.trans ex4) pp⟩
     | ct σ3 h3=>rw [c2] at pp;exact fun σ4 H4 ρ4 ex4 rs4=>⟨ρ4,σ3,h3,ex.trans (e12.trans ex4),rs4,bw.ext (e12.trans ex4) pp⟩
     | bk σ3 h3=>rw [c2] at pp;exact fun σ4 H4 ρ4 ex4 rs4=>pp σ4 H4 ρ4 (e12.trans ex4) rs4
     | rt d h3=>rw [c2] at pp;exact fun v H4 ρ4 ex4 rs4 rv=>pp v H4 ρ4 (e12.trans ex4) rs4 rv
     | exc x σ3 h3=>rw [c2] at pp;exact pp
     | bad=>rw [c2] at pp;exact pp
   ·rw [if_neg hh] at pp;exact pp.elim
  ·have e0:i=l.length:=by omega
   subst e0
   rw [List.drop_length] at pp
   unfold gG at pp
   by_cases hh:iW gd l hd'
   ·rw [if_pos hh] at pp
    exact .inl ⟨wk.stop ρ' H' hd' ex rs'.hp hh,pp σ' H' ρ' Ext.refl rs'⟩
   ·rw [if_neg hh] at pp;exact pp.elim
theorem Hx {c:Expr}{body:List Stmt}{t:TF}{b:SF}(hp:PassesOwn (model X.prog X.w) X.A X.env X.xe)(hc:MT X c t)(hb:MSs X body b):MS X (.While c body [] pos) (p8 t b):=by
 refine PS.imp (Ha hp hc hb) fun En σ H ⟨ρ,σd,hd,rs,p⟩ => ?_
 unfold p8 at p
 refine⟨fun m σ' H'=>∃ ρ' σd' hd',RS X.K ρ' H' σd' hd' σ'∧bw X.K ρ' H' (dM t b m σd' hd') En,⟨KM t b σd hd,ρ,σd,hd,rs,p⟩,?_⟩
 rintro m σ' H' ⟨ρ',σd',hd',rs',pp⟩
 cases m with
 | zero=>exact pp.elim
 | succ m =>
  unfold dM at pp
  refine⟨ρ',σd',hd',rs',?_⟩
  cases e:t σd' hd' with
  | exc x h1=>rw [e] at pp;exact pp
  | bad=>rw [e] at pp;exact pp
  | ok c h1 =>
   rw [e] at pp
   intro b' H2 ρ2 ex2 rs2 q
   cases q
   cases c with
   | false=>simp only [Bool.false_eq_true,if_false] at pp ⊢;exact pp σ' H2 ρ2 ex2 rs2
   | true =>
    simp only [if_true] at pp ⊢
    refine⟨fun σ3 H3=>∃ ρ3 σd3 hd3,RS X.K ρ3 H3 σd3 hd3 σ3∧bw X.K ρ3 H3 (dM t b m σd3 hd3) En,fun σ3 H3 q=>⟨m,Nat.lt_succ_self _,q⟩,ρ2,σd',h1,rs2,?_⟩
    cases c2:b σd' h1 with
    | nx σ3 h3=>rw [c2] at pp;exact fun σ4 H4 ρ4 ex4 rs4=>⟨ρ4,σ3,h3,rs4,bw.ext (ex2.trans ex4) pp⟩
    | ct σ3 h3=>rw [c2] at pp;exact fun σ4 H4 ρ4 ex4 rs4=>⟨ρ4,σ3,h3,rs4,bw.ext (ex2.trans ex4) pp⟩
    | bk σ3 h3=>rw [c2] at pp;exact fun σ4 H4 ρ4 ex4 rs4=>pp σ4 H4 ρ4 (ex2.trans ex4) rs4
    | rt d h3=>rw [c2] at pp;exact fun v H4 ρ4 ex4 rs4 rv=>pp v H4 ρ4 (ex2.trans ex4) rs4 rv
    | exc x σ3 h3=>rw [c2] at pp;exact pp
    | bad=>rw [c2] at pp;exact pp
theorem Hy {K:ZX}{ρ:List Addr}{H:Hp}{hd:Hd}{q:Addr}{l:List D}{vs:List V}(r:RH K ρ H hd)(hq:H q=some (.tup vs))(rv:RDs K ρ H l vs)(hz:vs.length≤sizeLine):sC K ρ H (Itt K q) l none where
 go:=fun ρ' H' hd' i d ex rh _ hi=>by
  have k:=r.kp ex
  obtain⟨v,hv,rd⟩:=(rv.mono k).get hi
  have sq:SqT K H' q vs:=SqT.of (k.tup q vs hq)
  refine⟨⟨vs,v,sq,hv⟩,fun x H2 y => ?_⟩
  obtain⟨rfl,y⟩:=y
  have:=y vs sq
  rw [hv] at this
  cases this
  exact⟨iU.refl _,rd⟩
 stop:=fun ρ' H' hd' ex rh _=>⟨vs,SqT.of ((r.kp ex).tup q vs hq),by rw [rv.length];exact ZL _⟩
 sz:=by rw [rv.length];exact hz
theorem Hz {K:ZX}{ρ:List Addr}{H:Hp}{hd:Hd}{q:Addr}{l:List D}{vs:List V}(r:RH K ρ H hd)(hq:oy K H q vs)(rv:RDs K ρ H l vs)(hz:vs.length≤sizeLine):sC K ρ H (Itl K q) l none where
 go:=fun ρ' H' hd' i d ex rh _ hi=>by
  have k:=r.kp ex
  obtain⟨v,hv,rd⟩:=(rv.mono k).get hi
  have sq:SqL K H' q vs:=(hq.mono k).sq
  refine⟨⟨vs,v,sq,hv⟩,fun x H2 y => ?_⟩
  obtain⟨rfl,y⟩:=y
  have:=y vs sq
  rw [hv] at this
  cases this
  exact⟨iU.refl _,rd⟩
 stop:=fun ρ' H' hd' ex rh _=>⟨vs,(hq.mono (r.kp ex)).sq,by rw [rv.length];exact ZL _⟩
 sz:=by rw [rv.length];exact hz
theorem HA {K:ZX}{ρ:List Addr}{H:Hp}{n:Nat}{q:Addr}{l:List D}(hq : ρ[n]? = some q)(hz:l.length≤sizeLine):sC K ρ H (Itl K q) l (some n) where
 sz:=hz
 go:=fun ρ' H' hd' i d ex rh hl hi=>by
  obtain⟨vs,e,rv⟩:=rh.cel n _ q hl (ex.get hq)
  obtain⟨v,hv,rd⟩:=rv.get hi
  have sq:SqL K H' q vs:=SqL.of e
  refine⟨⟨vs,v,sq,hv⟩,fun x H2 y => ?_⟩
  obtain⟨rfl,y⟩:=y
  have:=y vs sq
  rw [hv] at this
  cases this
  exact⟨iU.refl _,rd⟩
 stop:=fun ρ' H' hd' ex rh hl=>by
  obtain⟨vs,e,rv⟩:=rh.cel n _ q hl (ex.get hq)
  exact⟨vs,SqL.of e,by rw [rv.length];exact ZL _⟩
theorem Ny {l:Expr}{tl:TE}(hl:PE X l tl):PI X tg l (fun σ H R=>tl σ H fun x H1=>(∃ a xs,x=.ref a∧SqL X.K H1 a xs∧(xs.length≤sizeLine→R (Itl X.K a) H1)) ∨ ∃ a xs,x=.ref a∧SqT X.K H1 a xs∧(xs.length≤sizeLine→R (Itt X.K a) H1)):=by
 intro pins s σ H R I h
 refine thn (hl pins s σ H _ I h) fun v s1 ⟨x,H1,I1,r1,q1⟩ => ?_
 rcases q1 with ⟨a,xs,e,hq,q⟩|⟨a,xs,e,hq,q⟩
 ·subst e
  cases r1
  obtain⟨its,rv,p,hz⟩:=I1.list hq
  refine wpAny_pyIter_list p.isList ?_
  refine⟨s1.heap.objs.size,[s1.heap.objs.size],_,_,H1,rfl,I1.kept (t':=s1.toks) fun b o e=>ZH _ e,EY a _,⟨_,ZJ _ rfl,rfl,rfl⟩,fun b hb => ?_,q hz⟩
  have e:b=s1.heap.objs.size:=by simpa using hb
  subst e
  exact I1.fpOk (ZL _) (I1.hok.fresh (ZL _))
 ·subst e
  cases r1
  obtain⟨its,rv,p,hz⟩:=I1.tuple hq
  refine wpAny_pyIter_tuple (show s1.heap.IsTuple a its.toArray from p) ?_
  refine⟨s1.heap.objs.size,[s1.heap.objs.size],_,_,H1,rfl,I1.kept (t':=s1.toks) fun b o e=>ZH _ e,Bd a _,⟨_,ZJ _ rfl,rfl,rfl⟩,fun b hb => ?_,q hz⟩
  have e:b=s1.heap.objs.size:=by simpa using hb
  subst e
  exact I1.fpOk (ZL _) (I1.hok.fresh (ZL _))
theorem g9 {e:Expr}{f:EF}(h:ME X e f):MI X tg e (iV f):=by
 refine PI.imp (Ny h) fun σ H R ⟨ρ,σd,hd,rs,p⟩=>⟨ρ,σd,hd,rs,?_⟩
 unfold iV at p
 cases e:f σd hd with
 | exc x h1=>rw [e] at p;exact p
 | bad=>rw [e] at p;exact p
 | ok d hd1 =>
  rw [e] at p
  simp only [aN] at p
  intro v H1 ρ1 ex1 rs1 rv
  cases d<;>try exact p.elim
  ·rename_i l
   simp only [rD,RD] at rv
   obtain⟨q,vs,rfl,hq,rvs⟩:=rv
   exact .inr ⟨q,vs,rfl,SqT.of hq,fun hz=>p _ H1 ρ1 ex1 rs1 (Hy rs1.hp hq rvs hz)⟩
  ·rename_i n
   simp only [rD,RD] at rv
   obtain⟨a,ha,rfl⟩:=rv
   cases c:hd1[n]? with
   | none=>simp only [c] at p;exact p.elim
   | some cell =>
    cases cell with
    | dct l=>simp only [c] at p;exact p.elim
    | dcT l=>simp only [c] at p;exact p.elim
    | lst l =>
     simp only [c] at p
     obtain⟨vs,hv,rvs⟩:=rs1.hp.cel n _ a c ha
     exact .inl ⟨a,vs,rfl,SqL.of hv,fun hz=>p _ H1 ρ1 ex1 rs1 (HA ha (by rw [rvs.length];exact hz))⟩
  ·rename_i l
   simp only [rD,RD] at rv
   obtain⟨q,vs,rfl,hq,rvs⟩:=rv
   exact .inl ⟨q,vs,rfl,hq.sq,fun hz=>p _ H1 ρ1 ex1 rs1 (Hz rs1.hp hq rvs hz)⟩
theorem qe {K:ZX}{ρ:List Addr}{H:Hp}(lo:Int)(n:Nat)(hz:n≤2000000):sC K ρ H (Itr lo n) ((List.range n).map fun k:Nat=>.int (lo + k)) none where
 go:=fun ρ' H' hd' i d ex rh _ hi=>by
  have hin:i < n:=by
   have:=(List.getElem?_eq_some_iff.mp hi).1
   simpa using this
  refine⟨hin,fun x H2 y => ?_⟩
  obtain⟨rfl,rfl⟩:=y
  have e:d=.int (lo + i):=by simpa [hin] using hi.symm
  subst e
  exact⟨iU.refl _,by simp only [RD]⟩
 stop:=fun ρ' H' hd' ex rh _=>by
  show n≤_
  simp
 sz:=by
  have:(2000000:Nat)≤sizeLine:=by rw [sizeLine_eq];decide
  simp;omega
theorem gq {a:Expr} {f:EF} {p:Pos} (hg:Gl X "range") (hm:X.mg "range" = none) (ha:ME X a f) (hs:starEach [a] X.env=[(false,eval a X.env)]:=by rfl):MI X tg (.Call (.Name "range" p) [a] [] pos) (dL f):=by
 refine PI.imp (EZ hg hm (cf ha dX hs) hs) fun σ H R ⟨ρ,σd,hd,rs,pp⟩=>⟨ρ,σd,hd,rs,?_⟩
 unfold dL at pp
 cases e:f σd hd with
 | exc x h1=>rw [e] at pp;exact pp
 | bad=>rw [e] at pp;exact pp
 | ok d hd1 =>
  rw [e] at pp
  simp only [aN] at pp
  intro v H1 ρ1 ex1 rs1 rv
  cases d<;>try exact pp.elim
  rename_i n
  simp only at pp
  simp only [rD,RD] at rv
  subst rv
  split at pp
  ·rename_i hb
   refine⟨n,rfl,by omega,by omega,pp _ H1 ρ1 ex1 rs1 ?_⟩
   have:=qe (K:=X.K) (ρ := ρ1) (H:=H1) 0 n.toNat (by omega)
   simpa using this
  ·exact pp.elim
theorem E9 {a b:Expr} {f g:EF} {p:Pos} (hg:Gl X "range") (hm:X.mg "range" = none) (ha:ME X a f) (hb:ME X b g) (hs:starEach [a,b] X.env=[(false,eval a X.env),(false,eval b X.env)]:=by rfl) (hs2:starEach [b] X.env=[(false,eval b X.env)]:=by rfl):MI X tg (.Call (.Name "range" p) [a,b] [] pos) (lB f g):=by
 refine PI.imp (E1 hg hm (cf ha (cf hb dX hs2) (by rw [hs,hs2])) hs hs2) fun σ H R ⟨ρ,σd,hd,rs,pp⟩=>⟨ρ,σd,hd,rs,?_⟩
 unfold lB at pp
 cases e:f σd hd with
 | exc x h1=>rw [e] at pp;exact pp
 | bad=>rw [e] at pp;exact pp
 | ok d hd1 =>
  rw [e] at pp
  simp only [aN] at pp
  intro v H1 ρ1 ex1 rs1 rv
  refine⟨ρ1,σd,hd1,rs1,?_⟩
  cases e2:g σd hd1 with
  | exc x h1=>rw [e2] at pp;exact pp
  | bad=>rw [e2] at pp;exact pp
  | ok d2 hd2 =>
   rw [e2] at pp
   simp only [aN] at pp
   intro v2 H2 ρ2 ex2 rs2 rv2
   cases d<;>try exact pp.elim
   cases d2<;>try exact pp.elim
   rename_i i j
   simp only at pp
   simp only [rD,RD] at rv rv2
   subst rv rv2
   split at pp
   ·rename_i hb
    exact⟨i,j,rfl,⟨by omega,by omega,by omega,by omega⟩,pp _ H2 ρ2 (ex1.trans ex2) rs2 (qe (K:=X.K) i (j - i).toNat (by omega))⟩
   ·exact pp.elim
end
end Fm
namespace Fm
noncomputable section
open Classical
def dN (G:Hd→Prop) (tg:GF) (cs:List TF) (e:EF):List D→Sd→Hd→Res (List D)
 | [],_,h=>if G h then .ok [] h else .bad
 | x :: xs,σ,h=>if G h then match tg x σ with
   | some σ=>(gJ cs σ h).bind fun b h=>if b then (e σ h).bind fun d h=>(dN G tg cs e xs σ h).bind fun ds h=>.ok (d :: ds) h
    else dN G tg cs e xs σ h
   | none=>.bad
  else .bad
end
theorem wm {g:Option Nat}{all:List D}{tg:GF}{cs:List TF}{e:EF}:∀ (xs:List D) (σ:Sd) (h:Hd),b0 g all tg cs e xs σ h=dN (iW g all) tg cs e xs σ h
 | [],_,h=>by unfold b0 dN;rfl
 | x :: xs,σ,h=>by
  unfold b0 dN
  by_cases hh:iW g all h
  ·rw [if_pos hh,if_pos hh]
   cases tg x σ with
   | none=>rfl
   | some σ'=>simp only [wm xs]
  ·rw [if_neg hh,if_neg hh]
end Fm
namespace Fm
open PySem PySem.Spec L2
section
variable {prog:Program} {w:World} {A:Around} {R:Result→Shared→Prop} {s:Shared}
theorem wn {elt target iter:Expr}{ifs:List Expr}{scope:Scope}{pos:Pos}{it acc:Value}{env:Env}{E:Value→Shared→Prop}(hE:∀ e s,¬ E e s)(I:Nat→Shared→Prop)
  (turn:∀ n s,I n s→wpAny (model prog w) A (pyNext it) (fun r s₁ => match r with
   | none=>R (.ok .next) s₁
   | some v=>wpAny (model prog w) A (letOwnedTupleGo target it v) (fun _ s₁ => wpAny (model prog w) A (assign target env v) (fun _ s₂ =>
     wpAny (model prog w) A (forIn ifs true fun c r=>if r=true then do let ok ← isTrue c env (eval c env);pure (ForInStep.yield ok) else pure (ForInStep.yield r)) (fun ok s₃ =>
      if ok=true then wpAny (model prog w) A (eval elt env) (fun x s₄ =>
       wpAny (model prog w) A (call (.builtin "list.append") [acc,x]) (fun _ s₅ => ∃ m,m < n∧I m s₅) E s₄) E s₃
      else ∃ m,m < n∧I m s₃) E s₂) E s₁) E s₁) E s)
  (n:Nat) (h:I n s) :
  codeAny (model prog w) A (.compLoop (.ListComp elt [⟨target,iter,ifs,0⟩] scope pos) 0 it acc env) R s:=by
 refine codeAny_loop rfl I (fun n s hI => ?_) n h
 show wpAny _ A ((compTurn (.ListComp elt [⟨target,iter,ifs,0⟩] scope pos) 0 it acc env).onRaise (fun x=>do noteFrame x env;theTreesLotGoes x)) _ _ s
 refine wpAny_noted ?_
 rw [compTurn_list]
 have no:∀ {α : Type} {t:Sem α} {Q Q' : α → Shared→Prop} {E':Value→Shared→Prop} {s:Shared},wpAny (model prog w) A t Q E s→(∀ a s,Q a s→Q' a s)→wpAny (model prog w) A t Q' E' s:=fun h hq=>wpAny_mono h hq fun e s z=>(hE e s z).elim
 refine wpAny_bind (wpAny_standAt (wpAny_bind (no (turn n s hI) fun r s₁ h₁ => ?_)))
 cases r with
 | none=>exact wpAny_pure h₁
 | some v =>
  refine wpAny_bind (no h₁ fun _ s₁ h₁ => ?_)
  refine wpAny_bind (no h₁ fun _ s₂ h₂ => wpAny_bind (no h₂ fun ok s₃ h₃ => ?_))
  cases ok with
  | false=>exact wpAny_pure ⟨rfl,h₃⟩
  | true =>
   exact wpAny_bind (wpAny_bind (no h₃ fun x s₄ h₄ => wpAny_bind (no h₄ fun _ s₅ h₅ => wpAny_pure (wpAny_pure ⟨rfl,h₅⟩))))
end
theorem kW {env:Env}:∀ (l:List (Str × NameKind)) (cs:List (Str × Addr)),(∀ y∈l,y.2=.free → ∃ c,env.cells.lookup y.1=some c) →
  ∃ cl,(forIn l cs fun (x:Str × NameKind) (r:List (Str × Addr))=>if (x.2 == .free)=true then do let a ← cellOf env x.1;pure (ForInStep.yield ((x.1,a) :: r)) else pure (ForInStep.yield r))=(pure cl:Sem _) ∧
   (∀ x c,cl.lookup x=some c→cs.lookup x=some c∨env.cells.lookup x=some c)∧(∀ y∈l,y.2=.free → ∃ c,cl.lookup y.1=some c) ∧ ∀ x c,cs.lookup x=some c → ∃ c',cl.lookup x=some c'
 | [],cs,_=>⟨cs,by simp,fun x c h=>.inl h,fun y hy=>by simp at hy,fun x c h=>⟨c,h⟩⟩
 | (n,k) :: l,cs,hf=>by
  by_cases hk:k=.free
  ·subst hk
   obtain⟨c,hc⟩:=hf (n,.free) (by simp) rfl
   obtain⟨cl,h1,h2,h3,h4⟩:=kW l ((n,c) :: cs) fun y hy=>hf y (by simp [hy])
   refine⟨cl,?_,fun x d h => ?_,fun y hy hyf => ?_,fun x d h => ?_⟩
   ·rw [List.forIn_cons]
    simp only [beq_self_eq_true,if_true,cellOf,hc]
    exact h1
   ·rcases h2 x d h with q|q
    ·rw [List.lookup_cons] at q
     cases e:x == n with
     | true =>
      rw [e] at q
      have:x=n:=by simpa using e
      subst this
      cases q
      exact .inr hc
     | false=>rw [e] at q;exact .inl q
    ·exact .inr q
   ·rcases List.mem_cons.mp hy with e|e
    ·subst e
     exact h4 n c (by simp [List.lookup_cons])
    ·exact h3 y e hyf
   ·by_cases e:x=n
    ·subst e
     exact h4 x c (by simp [List.lookup_cons])
    ·exact h4 x d (by rw [List.lookup_cons,beq_eq_false_iff_ne.mpr e];exact h)
  ·obtain⟨cl,h1,h2,h3,h4⟩:=kW l cs fun y hy=>hf y (by simp [hy])
   refine⟨cl,?_,h2,fun y hy hyf => ?_,h4⟩
   ·rw [List.forIn_cons]
    have:(k == NameKind.free)=false:=by simpa using hk
    simp only [this,Bool.false_eq_true,if_false]
    exact h1
   ·rcases List.mem_cons.mp hy with e|e
    ·subst e;exact absurd hyf hk
    ·exact h3 y e hyf
theorem kX {scope:Scope}{env:Env}(hf:∀ y∈scope.names,y.2=.free → ∃ c,env.cells.lookup y.1=some c) :
  ∃ cl,closureFor scope env=pure cl∧(∀ x c,cl.lookup x=some c→env.cells.lookup x=some c) ∧ ∀ y∈scope.names,y.2=.free → ∃ c,cl.lookup y.1=some c:=by
 obtain⟨cl,h1,h2,h3,_⟩:=kW scope.names [] hf
 refine⟨cl,?_,fun x c h=>(h2 x c h).elim (fun z=>by simp at z) id,h3⟩
 unfold closureFor
 have e:(forIn scope.names ([] : List (Str × Addr)) fun (x:Str × NameKind) (r:List (Str × Addr))=>if (x.2 == .free)=true then do let a ← cellOf env x.1;pure (ForInStep.yield ((x.1,a) :: r)) else pure (ForInStep.yield r))=(pure cl:Sem _):=h1
 exact (congrArg (fun t:Sem (List (Str × Addr))=>t >>= fun r=>pure r) e).trans rfl
def cxC (X:Cx) (N:List Str) (scope:Scope) (cl:List (Str × Addr)) (C:Addr) (s:Shared) (H:Hp) (ex:List Addr):Cx where
 prog:=X.prog
 w:=X.w
 K:=X.K
 mg:=X.mg
 base:=X.base
 A:=X.A
 N:=N
 s₀ := s
 H₀ := H
 env:=compEnvC scope cl C X.env
 outer:=X.stack
 stack:=X.stack
 ex:=ex
 fn:=fun _=>false
 calm:=X.calm
 pn:=[]
 xe:=fun _ _=>False
def MTs (X:Cx) (ifs:List Expr) (cs:List TF):Prop :=
 ∀ (pins:List (Addr × Obj)) (s:Shared) (σ:St) (H:Hp) (Q:Bool→Hp→Prop),Inv X pins σ H s→jG X.K rB (gJ cs) σ H Q →
  wpAny (model X.prog X.w) X.A (forIn ifs true fun c r=>if r=true then do let ok ← isTrue c X.env (eval c X.env);pure (ForInStep.yield ok) else pure (ForInStep.yield r)) (TP X pins σ Q) X.xe s
theorem dz {X:Cx}:MTs X [] []:=fun pins s σ H Q I ⟨ρ,σd,hd,rs,p⟩=>wpAny_tests_nil ⟨H,I,p.here rs rfl⟩
theorem Ec {X:Cx}{c:Expr}{t:TF}(h:MT X c t):MTs X [c] [t]:=fun pins s σ H Q I ⟨ρ,σd,hd,rs,p⟩=>wpAny_tests_one (h pins s σ H Q I ⟨ρ,σd,hd,rs,by
 have e:gJ [t] σd hd=t σd hd:=by
  simp only [gJ]
  cases c:t σd hd with
  | ok b h'=>cases b<;>simp
  | exc x h'=>rfl
  | bad=>rfl
 rw [e] at p
 exact p⟩)
theorem jJ {env:Env}{x:Str}:∀ {names:List (Str × NameKind)} {k:NameKind},(names.map fun (n,k)=>if (k == NameKind.free && env.scope.kind == .function && env.kindOf n == some .cell) then (n,NameKind.cell) else (n,k)).lookup x=some k →
  ∃ k0,names.lookup x=some k0∧(k=k0∨(k0=.free∧k=.cell))
 | [],_,h=>by simp at h
 | (n,k') :: r,k,h=>by
  have ih := @jJ env x r k
  have h':List.lookup x ((if (k' == NameKind.free && env.scope.kind == .function && env.kindOf n == some .cell)=true then (n,NameKind.cell) else (n,k')) :: _)=some k:=h
  cases hx:x == n with
  | true =>
   refine⟨k',by simp [List.lookup_cons,hx],?_⟩
   by_cases hc:(k' == NameKind.free && env.scope.kind == .function && env.kindOf n == some .cell)=true
   ·rw [if_pos hc] at h'
    simp only [List.lookup_cons,hx,Option.some.injEq] at h'
    simp only [Bool.and_eq_true,beq_iff_eq] at hc
    exact .inr ⟨hc.1.1,h'.symm⟩
   ·rw [if_neg hc] at h'
    simp only [List.lookup_cons,hx,Option.some.injEq] at h'
    exact .inl h'.symm
  | false =>
   have:List.lookup x ((n,k') :: r)=List.lookup x r:=by simp [List.lookup_cons,hx]
   rw [this]
   refine ih ?_
   by_cases hc:(k' == NameKind.free && env.scope.kind == .function && env.kindOf n == some .cell)=true
   ·rw [if_pos hc] at h';simpa only [List.lookup_cons,hx] using h'
   ·rw [if_neg hc] at h';simpa only [List.lookup_cons,hx] using h'
theorem gr {x:Str}{k:NameKind}:∀ {l:List (Str × NameKind)},l.lookup x=some k→(x,k)∈l
 | [],h=>by simp at h
 | (n,k') :: r,h=>by
  rw [List.lookup_cons] at h
  cases e:x == n with
  | true =>
   rw [e] at h
   have:x=n:=by simpa using e
   subst this
   cases h
   exact ZV
  | false=>rw [e] at h;exact ZW _ (gr h)
structure bY (X:Cx) (scope:Scope) (own capn:List Str) (caps:List Nat):Prop where
 kind:scope.kind=.function
 cell:∀ y∈scope.names,y.2 ≠ .cell
 names:∀ y∈scope.names,y.2=.local→scope.names.lookup y.1=some .local
 free:∀ y∈scope.names,y.2=.free→X.env.kindOf y.1=some .cell∨X.env.kindOf y.1=some .free
 cap:∀ (j:Nat) x,capn[j]? = some x → ∃ i,caps[j]? = some i∧X.N[i]? = some x∧scope.names.lookup x=some .free
 len:capn.length=caps.length
section
variable {X:Cx} {pins:List (Addr × Obj)} {σ:St} {H1:Hp} {s2:Shared} {scope:Scope} {own capn:List Str} {caps:List Nat} {cl:List (Str × Addr)} {C:Addr} {ex:List Addr}
def stC (own:List Str) (caps:List Nat) (σ:St):St:=List.replicate own.length none++caps.map fun i=>(σ[i]?).join
theorem Nz (I:Inv X pins σ H1 s2)(S:bY X scope own capn caps)(hC:s2.heap.objs.size≤C)(hcl1:∀ x c,cl.lookup x=some c→X.env.cells.lookup x=some c)(hcl2:∀ y∈scope.names,y.2=.free → ∃ c,cl.lookup y.1=some c)
  (hf:∀ b∈ex,sw X pins H1 b) (hlt:∀ b∈ex,b < s2.heap.objs.size):(cxC X (own++capn) scope cl C s2 H1 ex).Ok where
 mod:=I.ok.mod
 kind:=S.kind
 glob:=I.ok.glob
 blt:=I.ok.blt
 above:=hC
 inj:=fun x y c h1 h2=>I.ok.inj x y c (hcl1 x c h1) (hcl1 y c h2)
 has:=fun x hx=>by
  have key:∀ k,(relabel scope X.env).names.lookup x=some k→k=.cell∨k=.free → ∃ c,cl.lookup x=some c:=fun k h hk=>by
   obtain⟨k0,h0,q⟩:=jJ h
   have hm:=gr h0
   have:k0=.free:=by
    rcases q with q|q
    ·subst q
     rcases hk with e|e
     ·exact absurd e (S.cell _ hm)
     ·exact e
    ·exact q.1
   exact hcl2 _ hm this
  rcases hx with h|h
  ·exact key _ h (.inl rfl)
  ·exact key _ h (.inr rfl)
 cab:=fun x c h=>by cases h
 hd:=I.ok.hd
 frames:=I.ok.frames
 stk:=.inl rfl
 exf:=fun b hb=>by
  obtain⟨f0,f1,f2,f3,f4,f5⟩:=hf b hb
  exact⟨fun z=>absurd (Nat.lt_of_lt_of_le (hlt b hb) hC) (by rw [z];exact Nat.lt_irrefl _),fun x c e=>f4 x c (hcl1 x c e)⟩
 bs:=I.bs
 bsz:=ZM I.ok.bsz I.sz
 noex:=fun b o e hb=>by
  obtain⟨f0,f1,f2,f3,f4,f5⟩:=hf b hb
  rcases f3 with z|z
  ·exact I.ok.noex b o e z
  ·exact absurd (Nat.lt_of_lt_of_le (ZI (I.ok.bs b o e).1) z) (Nat.lt_irrefl _)
 exfs:=fun b hb hs=>by
  obtain⟨f0,f1,f2,f3,f4,f5⟩:=hf b hb
  rcases List.mem_cons.mp (I.stkSub b hs) with z|z
  ·exact f1 z
  ·exact f2 z
 funs:=I.stack
 frf:=I.stkFree
theorem lH {env:Env}{x:Str}:∀ {names:List (Str × NameKind)},names.lookup x=some .free →
  (names.map fun (n,k)=>if (k == NameKind.free && env.scope.kind == .function && env.kindOf n == some .cell) then (n,NameKind.cell) else (n,k)).lookup x=some .cell ∨
  (names.map fun (n,k)=>if (k == NameKind.free && env.scope.kind == .function && env.kindOf n == some .cell) then (n,NameKind.cell) else (n,k)).lookup x=some .free
 | [],h=>by simp at h
 | (n,k') :: r,h=>by
  have ih := @lH env x r
  show List.lookup x ((if (k' == NameKind.free && env.scope.kind == .function && env.kindOf n == some .cell)=true then (n,NameKind.cell) else (n,k')) :: _)=_∨List.lookup x ((if (k' == NameKind.free && env.scope.kind == .function && env.kindOf n == some .cell)=true then (n,NameKind.cell) else (n,k')) :: _)=_
  cases hx:x == n with
  | true =>
   simp only [List.lookup_cons,hx,Option.some.injEq] at h
   subst h
   by_cases hc:(NameKind.free == NameKind.free && env.scope.kind == .function && env.kindOf n == some .cell)=true
   ·rw [if_pos hc];exact .inl (by simp only [List.lookup_cons,hx])
   ·rw [if_neg hc];exact .inr (by simp only [List.lookup_cons,hx])
  | false =>
   simp only [List.lookup_cons,hx] at h
   by_cases hc:(k' == NameKind.free && env.scope.kind == .function && env.kindOf n == some .cell)=true
   ·rw [if_pos hc];simp only [List.lookup_cons,hx];exact ih h
   ·rw [if_neg hc];simp only [List.lookup_cons,hx];exact ih h
theorem KQ {i:Nat}{v:V}(h:(stC own caps σ)[i]? = some (some v)):∃ j k,i=own.length + j∧caps[j]? = some k ∧ σ[k]? = some (some v):=by
 unfold stC at h
 by_cases hi:i < own.length
 ·rw [ZC (by simpa using hi)] at h
  simp [hi] at h
 ·rw [ZD (by simpa using Nat.le_of_not_lt hi)] at h
  simp only [List.length_replicate,ZQ] at h
  cases c:caps[i - own.length]? with
  | none=>rw [c] at h;cases h
  | some k =>
   rw [c] at h
   simp only [Option.map_some,Option.some.injEq] at h
   refine⟨i - own.length,k,by omega,c,?_⟩
   cases e : σ[k]? with
   | none=>rw [e] at h;cases h
   | some o=>rw [e] at h;simp only [Option.join_some] at h;rw [h]
theorem Fa (I:Inv X pins σ H1 s2)(S:bY X scope own capn caps)(hC:s2.heap.objs.size < C)(hcl1:∀ x c,cl.lookup x=some c→X.env.cells.lookup x=some c)(hcl2:∀ y∈scope.names,y.2=.free → ∃ c,cl.lookup y.1=some c)
  (hf:∀ b∈ex,sw X pins H1 b) (hlt:∀ b∈ex,b < s2.heap.objs.size) {h1:Heap} {m:Str→Option Value} {tk:Nat} (hn:h1.Ns C m) (hk:∀ b o,s2.heap.get? b=some o→h1.get? b=some o)
  (hD:h1.get? s2.heap.objs.size=some { cls:=.type "list",data:=.seq #[] }) :
  Inv (cxC X (own++capn) scope cl C s2 H1 ex) [] (stC own caps σ) (upd H1 s2.heap.objs.size (.lst [])) { s2 with heap:=h1,toks:=tk } where
 ok:=Nz I S (Nat.le_of_lt hC) hcl1 hcl2 hf hlt
 os:=rfl
 bare:=I.bare
 base:=Un.laid hk (ZL _) (I.hok.fresh (ZL _))
 loc:=by
  refine⟨m,hn,fun i x v e1 e2 e3 => ?_⟩
  obtain⟨j,k,rfl,hj,hk'⟩:=KQ e2
  have e1':capn[j]? = some x:=by
   have:(own++capn)[own.length + j]? = some x:=e1
   rw [ZD (by omega)] at this
   simpa using this
  obtain⟨k2,q1,q2,q3⟩:=S.cap j x e1'
  rw [hj] at q1;cases q1
  have hm:=gr q3
  have kd:=S.free _ hm rfl
  obtain⟨m0,hn0,hl⟩:=I.loc
  obtain⟨u,r,lk⟩:=hl k x v q2 hk' (.inr kd)
  refine⟨u,r,.inr ⟨lH q3,?_⟩⟩
  rcases lk with ⟨z,_⟩|⟨_,c,hc,o,ho,hd⟩
  ·rcases kd with e|e<;>(rw [z] at e;cases e)
  ·obtain⟨c',hc'⟩:=hcl2 _ hm rfl
   have:=hcl1 _ _ hc'
   rw [hc] at this
   cases this
   exact⟨c,hc',o,hk c o ho,hd⟩
 cell:=fun x c e=>by
  obtain⟨v,o,ho,hd⟩:=I.cell x c (hcl1 x c e)
  exact⟨v,o,hk c o ho,hd⟩
 free:=by
  show upd H1 _ _ C=none
  rw [ax (Nat.ne_of_gt hC)]
  exact I.hok.fresh (Nat.le_of_lt hC)
 freeC:=fun x c e=>by
  obtain⟨v,o,ho,hd⟩:=I.cell x c (hcl1 x c e)
  rw [ax (ZN (ZI ho))]
  exact I.freeC x c (hcl1 x c e)
 pin:=fun p hp=>absurd (show p∈([] : List (Addr × Obj)) from hp) (by simp)
 hok:=I.hok.laid hk (ZL _) ⟨Nat.zero_le _,[],0,.nil,hD⟩
 len:=by
  show (stC own caps σ).length=(own++capn).length
  simp [stC,S.len]
end
theorem RS.other {K:ZX}{ρ:List Addr}{H:Hp}{σd:Sd}{hd:Hd}{σ:St}{d:Addr}{ys zs:List V}(r:RS K ρ H σd hd σ)(h:H d=some (.lst ys))(n:d ∉ ρ):RS K ρ (upd H d (.lst zs)) σd hd σ ∧ Kp ρ H ρ (upd H d (.lst zs)):=by
 have k:Kp ρ H ρ (upd H d (.lst zs)):=⟨fun _ _ h=>h,fun a us e=>by
  rw [ax (fun z=>by rw [z,h] at e;cases e)];exact e,fun a o u e=>by
  rw [ax (fun z=>by rw [z,h] at e;cases e)];exact e,fun a φ e=>by
  rw [ax (fun z=>by rw [z,h] at e;cases e)];exact e⟩
 refine⟨⟨⟨r.hp.len,r.hp.nd,fun m c a h1 h2=>(r.hp.cel m c a h1 h2).mono k (ax fun z=>n (by rw [← z];exact ZK h2))⟩,r.st.mono k⟩,k⟩
theorem Ext.other {ρ ρ':List Addr}{H H':Hp}{d:Addr}{o:HO}(e:Ext ρ H ρ' H')(h:H d=none):Ext ρ H ρ' (upd H' d o) :=
 ⟨e.pre,e.new,fun p u hp n=>by rw [ax (bb hp h)];exact e.frame p u hp n⟩
theorem yZ {nl:Nat}{caps:List Nat}{σd:Sd}{i:Nat}{d:D}(h:slot (fE nl caps σd) i=some d):∃ j k,i=nl + j∧caps[j]? = some k∧slot σd k=some d:=by
 unfold fE at h
 simp only [slot] at h
 by_cases hi:i < nl
 ·rw [ZC (by simpa using hi)] at h
  simp [hi] at h
 ·rw [ZD (by simpa using Nat.le_of_not_lt hi)] at h
  simp only [List.length_replicate,ZQ] at h
  cases c:caps[i - nl]? with
  | none=>rw [c] at h;cases h
  | some k =>
   rw [c] at h
   simp only [Option.map_some] at h
   refine⟨i - nl,k,by omega,c,?_⟩
   simp only [slot]
   revert h
   cases e : σd[k]? with
   | none=>simp
   | some o=>cases o<;>simp
structure y3 (K:ZX) (ρ0:List Addr) (H0:Hp) (J:It) (l:List D) (G:Hd→Prop):Prop where
 go:∀ ρ H hd (i:Nat) d,Ext ρ0 H0 ρ H→RH K ρ H hd→G hd→l[i]? = some d→J.go i H ∧ ∀ x H',J.yld i H x H'→iU H H'∧RD K ρ H' d x
 stop:∀ ρ H hd,Ext ρ0 H0 ρ H→RH K ρ H hd→G hd→J.stop l.length H
 sz:l.length≤sizeLine
theorem sC.g {K:ZX}{ρ:List Addr}{H:Hp}{J:It}{l:List D}{g:Option Nat}(w:sC K ρ H J l g):y3 K ρ H J l (iW g l):=⟨w.go,w.stop,w.sz⟩
structure CD where
 i:Nat
 ys:List V
 acc:List D
 rest:List D
 ρ:List Addr
 σd:Sd
 hd:Hd
 H:Hp
 σ:St
structure CI (X:Cx) (own capn:List Str) (scope:Scope) (cl:List (Str × Addr)) (s2:Shared) (C:Addr) (H1:Hp) (ρ1:List Addr) (fp:List Addr) (tn:Nat→Heap→Prop) (G:Hd→Prop) (g:GF) (cs:List TF) (e:EF) (l:List D) (hdF:Hd) (ds:List D) (d:CD) (s':Shared):Prop where
 le:d.i≤l.length
 inv:Inv (cxC X (own++capn) scope cl C s2 H1 fp) [] d.σ d.H s'
 st:tn d.i s'.heap
 fr:∀ b∈fp,d.H b=none
 at':d.H s2.heap.objs.size=some (.lst d.ys)
 out:s2.heap.objs.size∉d.ρ
 yl:d.ys.length≤d.i
 ex:Ext ρ1 H1 d.ρ d.H
 rs:RS X.K d.ρ d.H d.σd d.hd d.σ
 ac:RDs X.K d.ρ d.H d.acc d.ys
 run:dN G g cs e (l.drop d.i) d.σd d.hd=.ok d.rest hdF
 eq:d.acc++d.rest=ds
section
variable {X:Cx} {pins:List (Addr × Obj)} {σ:St} {H1:Hp} {s2:Shared} {scope:Scope} {own capn:List Str} {caps:List Nat} {cl:List (Str × Addr)}
theorem Bo {ρ1:List Addr}{σd:Sd}{hd1:Hd}(S:bY X scope own capn caps)(r:RS X.K ρ1 H1 σd hd1 σ){d:Addr}(hd:H1 d=none):RS X.K ρ1 (upd H1 d (.lst [])) (fE own.length caps σd) hd1 (stC own caps σ):=by
 have sm:=bO (o:=HO.lst []) hd
 refine⟨r.hp.same sm,⟨by simp [stC,fE],fun i x e => ?_⟩⟩
 obtain⟨j,k,rfl,hj,hs⟩:=yZ e
 obtain⟨v,h1,h2⟩:=r.st.at' k x hs
 refine⟨v,?_,h2.mono (Kp.same sm)⟩
 unfold stC
 rw [ZD (by simp)]
 simp [hj,h1]
theorem mT {elt tg iter:Expr}{ifs:List Expr}{pos:Pos}{it:Addr}{fp:List Addr}{tn:Nat→Heap→Prop}{J:It}{l:List D}{G:Hd→Prop}{g:GF}{cs:List TF}{e:EF}{ρ1:List Addr}{σd:Sd}{hd1 hdF:Hd}{ds:List D}{E:Value→Shared→Prop}{RR:Value→Addr→Result→Shared→Prop}
  (hc:X.calm=true) (S:bY X scope own capn caps) (hin:∀ cl C s H ex,MG (cxC X (own++capn) scope cl C s H ex) tg g∧MTs (cxC X (own++capn) scope cl C s H ex) ifs cs∧ME (cxC X (own++capn) scope cl C s H ex) elt e)
  (I1:Inv X pins σ H1 s2) (T:Bc X.prog X.w X.K tg J fp it tn) (st0:tn 0 s2.heap) (hf:∀ b∈fp,sw X pins H1 b) (rs1:RS X.K ρ1 H1 σd hd1 σ) (wk:y3 X.K ρ1 H1 J l G)
  (hcl1:∀ x c,cl.lookup x=some c→X.env.cells.lookup x=some c) (hcl2:∀ y∈scope.names,y.2=.free → ∃ c,cl.lookup y.1=some c)
  (run:dN G g cs e l (fE own.length caps σd) hd1=.ok ds hdF)
  (hRR:∀ C s' m H' ρ' vs,s2.heap.objs.size < C→s'.heap.Ns C m→Inv X pins σ H' s'→H' C=none→Ext ρ1 H1 ρ' H'→RH X.K ρ' H' hdF→H1 s2.heap.objs.size=none→H' s2.heap.objs.size=some (.lst vs)→s2.heap.objs.size ∉ ρ'→RDs X.K ρ' H' ds vs →
   RR (.ref s2.heap.objs.size) C (.ok .next) s') :
  wpAny (model X.prog X.w) X.A (newList []) (fun acc s₃ => wpAny (model X.prog X.w) X.A (newFunctionEnv scope X.env.globals cl [] X.env.qual none .none (some X.env)) (fun cenv s₄ =>
   codeAny (model X.prog X.w) X.A (.compStart (.ListComp elt [⟨tg,iter,ifs,0⟩] scope pos) 0 (.ref it) acc { cenv with scope:=relabel scope X.env }) (RR acc cenv.locals) s₄) E s₃) E s2:=by
 refine wpAny_newObj_type (wpAny_newFunctionEnv S.cell (by intro y hy;simp at hy) (fun h₁ hns₁ hsb₁ => ?_) S.kind)
 dsimp only at hns₁ hsb₁ ⊢
 generalize hH2:s2.heap.push { cls:=.type "list",dict:=none,data:=.seq ([] : List Value).toArray } = H2 at hns₁ hsb₁ ⊢
 have hC:H2.objs.size=s2.heap.objs.size + 1:=by rw [← hH2,Heap.size_push]
 have hDC:s2.heap.objs.size≠H2.objs.size:=by rw [hC];exact ZN (Nat.lt_succ_self _)
 have old:∀ b o,s2.heap.get? b=some o→h₁.get? b=some o:=fun b o e=>hsb₁.extBut b o (by rw [hC];exact ZN (Nat.lt_succ_of_lt (ZI e))) (ZH _ (hH2 ▸ ZH _ e))
 have hacc:h₁.get? s2.heap.objs.size=some { cls:=.type "list",data:=.seq #[] }:=hsb₁.extBut _ _ hDC (ZH _ (hH2 ▸ ZJ _ rfl))
 have hlt:∀ b∈fp,b < s2.heap.objs.size:=fun b hb=>by
  obtain⟨o,ho,_⟩:=T.obj 0 _ st0 b hb
  exact ZI ho
 have hCl:s2.heap.objs.size < H2.objs.size:=by rw [hC];exact Nat.lt_succ_self _
 have hD0:H1 s2.heap.objs.size=none:=I1.hok.fresh (ZL _)
 have st1:tn 0 h₁ := T.keep 0 _ _ st0 fun b hb o e=>old b o e
 have hn1:s2.heap.objs.size ∉ ρ1:=rs1.hp.free hD0
 obtain⟨hG,hT,hE⟩:=hin cl H2.objs.size s2 H1 fp
 have I':=Fa (tk:=s2.toks + ([] : List (Str × Value)).length) I1 S hCl hcl1 hcl2 hf hlt hns₁ old hacc
 have fpC:∀ {pins':List (Addr × Obj)} {H':Hp},(∀ b∈fp,H' b=none) → ∀ b∈fp,sw (cxC X (own++capn) scope cl H2.objs.size s2 H1 fp) [] H' b:=fun {pins' H'} hn b hb=>by
  obtain⟨f0,f1,f2,f3,f4,f5⟩:=hf b hb
  have lt:=hlt b hb
  refine⟨hn b hb,fun z=>absurd lt (by rw [show b=H2.objs.size from z,hC];exact Nat.not_lt.mpr (Nat.le_succ _)),fun z => ?_,.inl hb,fun x c e=>f4 x c (hcl1 x c e),fun p hp=>absurd (show p∈([] : List (Addr × Obj)) from hp) (by simp)⟩
  rcases List.mem_cons.mp (I1.stkSub b z) with q|q
  ·exact f1 q
  ·exact f2 q
 have loop:∀ s₃ : Shared,s₃ = { s2 with heap:=h₁,toks:=s2.toks + ([] : List (Str × Value)).length } →
   codeAny (model X.prog X.w) X.A (.compLoop (.ListComp elt [⟨tg,iter,ifs,0⟩] scope pos) 0 (.ref it) (.ref s2.heap.objs.size) (compEnvC scope cl H2.objs.size X.env)) (RR (.ref s2.heap.objs.size) H2.objs.size) s₃ := by
  rintro s₃ rfl
  refine wn (E:=fun _ _=>False) (fun _ _ z=>z) (fun n s'=>∃ d:CD,n=l.length - d.i∧CI X own capn scope cl s2 H2.objs.size H1 ρ1 fp tn G g cs e l hdF ds d s') ?_ l.length
   ⟨⟨0,[],[],ds,ρ1,_,hd1,_,_⟩,by simp,Nat.zero_le _,I',st1,fun b hb => ?_,aO,hn1,ZL _,Ext.same (bO hD0),Bo S rs1 hD0,RDs.nil,by simpa using run,rfl⟩
  ·rintro n s' ⟨⟨i,ys,acc,rest,ρ',σd',hd',H',σ'⟩,rfl,ci⟩
   have hil:i≤l.length:=ci.le
   have I':Inv (cxC X (own++capn) scope cl H2.objs.size s2 H1 fp) [] σ' H' s':=ci.inv
   have stn:tn i s'.heap:=ci.st
   have hfp:∀ b∈fp,H' b=none:=ci.fr
   have hDy:H' s2.heap.objs.size=some (.lst ys):=ci.at'
   have hnD:s2.heap.objs.size ∉ ρ':=ci.out
   have hyl:ys.length≤i:=ci.yl
   have ex:Ext ρ1 H1 ρ' H':=ci.ex
   have rs':RS X.K ρ' H' σd' hd' σ':=ci.rs
   have racc:RDs X.K ρ' H' acc ys:=ci.ac
   have hrun:dN G g cs e (l.drop i) σd' hd'=.ok rest hdF:=ci.run
   have hds:acc++rest=ds:=ci.eq
   by_cases hlt':i < l.length
   ·have hdi:l[i]? = some l[i]:=by simp [hlt']
    rw [List.drop_eq_getElem_cons hlt'] at hrun
    unfold dN at hrun
    by_cases hh:G hd'
    ·rw [if_pos hh] at hrun
     obtain⟨go,yl⟩:=wk.go ρ' H' hd' i _ ex rs'.hp hh hdi
     cases c:g l[i] σd' with
     | none=>rw [c] at hrun;cases hrun
     | some σd2 =>
      rw [c] at hrun
      simp only at hrun
      refine thn (T.item (cxC X (own++capn) scope cl H2.objs.size s2 H1 fp) rfl rfl rfl hc i [] s' σ' H' (fun _ _=>False) I' (fpC (pins':=[]) hfp) stn go) fun r s₁ ⟨u,hr,h4⟩ => ?_
      subst hr
      refine thn h4 fun _ s5 ⟨x,H5,I5,r5,y5,st5,fr5⟩ => ?_
      obtain⟨sm,rx⟩:=yl x H5 y5
      have I5':=I5.pinned (fpC (pins':=[]) fr5) (T.obj _ _ st5)
      have rs5:=rs'.same sm
      have hDy5:=sm _ _ hDy
      refine thn (hG _ s5 σ' H5 x u (fun σ6 H6=>H6=H5∧RS X.K ρ' H5 σd2 hd' σ6) I5' r5 ⟨ρ',σd',hd',l[i],σd2,rs5,rx,c,fun σ6 rs6=>⟨rfl,rs6⟩⟩) fun _ s6 ⟨σ6,H6,I6,hH6,rs6⟩ => ?_
      subst hH6
      cases c2:gJ cs σd2 hd' with
      | exc z h7=>rw [c2] at hrun;cases hrun
      | bad=>rw [c2] at hrun;cases hrun
      | ok b hd7 =>
       rw [c2] at hrun
       simp only [aN] at hrun
       refine thn (hT _ s6 σ6 H6 (fun b' H7=>b'=b ∧ ∃ ρ7,Ext ρ' H6 ρ7 H7∧RS X.K ρ7 H7 σd2 hd7 σ6) I6 ⟨ρ',σd2,hd',rs6,by
        rw [c2]
        exact fun b' H7 ρ7 ex7 rs7 q=>⟨q.symm,ρ7,ex7,rs7⟩⟩) fun b' s7 ⟨H7,I7,hb',ρ7,ex7,rs7⟩ => ?_
       subst hb'
       have stay:∀ {σ8:St} {H8:Hp} {s8:Shared},Inv (cxC X (own++capn) scope cl H2.objs.size s2 H1 fp) ([]++pT fp s5.heap) σ8 H8 s8→tn (i + 1) s8.heap ∧ ∀ b∈fp,H8 b=none:=fun {σ8 H8 s8} I8 =>
        ⟨T.keep _ _ _ st5 fun b hb o e=>(I8.pin (b,o) (List.mem_append_right _ (List.mem_append_right _ (iT hb e)))).1,fun b hb=>by
         obtain⟨o,e,d⟩:=T.obj _ _ st5 b hb
         exact (I8.pin (b,o) (List.mem_append_right _ (List.mem_append_right _ (iT hb e)))).2.1⟩
       have ex5:Ext ρ' H' ρ7 H7:=(Ext.same sm).trans ex7
       have hDy7:H7 s2.heap.objs.size=some (.lst ys):=ex5.frame _ _ hDy hnD
       have hnD7:=ex5.out hDy hnD
       have racc7:=racc.mono (rs'.hp.kp ex5)
       cases b' with
       | false =>
        simp only [Bool.false_eq_true,if_false] at hrun ⊢
        obtain⟨st8,f8⟩:=stay I7
        exact⟨l.length - (i + 1),by omega,⟨i + 1,ys,acc,rest,ρ7,σd2,hd7,H7,σ6⟩,rfl,hlt',I7.unpinned,st8,f8,hDy7,hnD7,Nat.le_succ_of_le hyl,ex.trans ex5,rs7,racc7,hrun,hds⟩
       | true =>
        simp only [if_true] at hrun ⊢
        cases c3:e σd2 hd7 with
        | exc z h7=>rw [c3] at hrun;cases hrun
        | bad=>rw [c3] at hrun;cases hrun
        | ok d hd8 =>
         rw [c3] at hrun
         simp only [aN] at hrun
         cases c4:dN G g cs e (l.drop (i + 1)) σd2 hd8 with
         | exc z h7=>rw [c4] at hrun;cases hrun
         | bad=>rw [c4] at hrun;cases hrun
         | ok rest' hd9 =>
          rw [c4] at hrun
          simp only [aN,Res.ok.injEq] at hrun
          obtain⟨hrest,hF⟩:=hrun
          subst hrest hF
          refine thn (hE _ s7 σ6 H7 (fun v H8=>∃ ρ8,Ext ρ7 H7 ρ8 H8∧RS X.K ρ8 H8 σd2 hd8 σ6∧RD X.K ρ8 H8 d v) I7 ⟨ρ7,σd2,hd7,rs7,by
           rw [c3]
           exact fun v H8 ρ8 ex8 rs8 q=>⟨ρ8,ex8,rs8,q⟩⟩) fun u8 s8 ⟨v8,H8,I8,r8,ρ8,ex8,rs8,rd8⟩ => ?_
          have hDy8:H8 s2.heap.objs.size=some (.lst ys):=ex8.frame _ _ hDy7 hnD7
          have hnD8:=ex8.out hDy7 hnD7
          refine thn (uY _ s8 σ6 H8 (.ref s2.heap.objs.size) [v8] (.ref s2.heap.objs.size) [u8] (fun _ H9=>H9=upd H8 s2.heap.objs.size (.lst (ys++[v8]))) I8 rfl (.cons r8 .nil) ⟨_,ys,v8,rfl,rfl,hDy8,by have:=wk.sz;omega,rfl⟩) fun u9 s9 ⟨v9,H9,I9,r9,q9⟩ => ?_
          subst q9
          obtain⟨st9,f9⟩:=stay I9
          obtain⟨rs9,k9⟩:=rs8.other (zs:=ys++[v8]) hDy8 hnD8
          exact⟨l.length - (i + 1),by omega,⟨i + 1,ys++[v8],acc++[d],rest',ρ8,σd2,hd8,_,σ6⟩,rfl,hlt',I9.unpinned,st9,f9,aO,hnD8,by simp;exact hyl,(ex.trans (ex5.trans ex8)).other hD0,rs9,
           ((racc7.mono (rs7.hp.kp ex8)).mono k9).append (RDs.cons (rd8.mono k9) RDs.nil),c4,by rw [← hds];simp⟩
    ·rw [if_neg hh] at hrun;cases hrun
   ·have e0:i=l.length:=by omega
    subst e0
    rw [List.drop_length] at hrun
    unfold dN at hrun
    by_cases hh:G hd'
    ·rw [if_pos hh] at hrun
     simp only [Res.ok.injEq] at hrun
     obtain⟨hrest,hF⟩:=hrun
     subst hrest hF
     rw [List.append_nil] at hds
     subst hds
     refine thn (T.done (cxC X (own++capn) scope cl H2.objs.size s2 H1 fp) rfl rfl rfl hc _ [] s' σ' H' (fun _ _=>False) I' (fpC (pins':=[]) hfp) stn (wk.stop ρ' H' hd' ex rs'.hp hh)) fun r s₁ ⟨hr,I4⟩ => ?_
     subst hr
     obtain⟨m,hm,_⟩:=I4.loc
     refine hRR H2.objs.size s₁ m H' ρ' ys hCl hm ?_ I4.free ex rs'.hp hD0 hDy hnD racc
     exact I1.call' I4.os I4.base I4.hok I4.bare fun b hb=>by
      obtain⟨f0,f1,f2,f3,f4,f5⟩:=hf b hb
      exact⟨f3,f1,f4,f5⟩
    ·rw [if_neg hh] at hrun;cases hrun
  ·show upd H1 _ _ b=none
   rw [ax (ZN (hlt b hb))]
   exact (hf b hb).1
 exact codeAny_compStart_list (loop _ rfl) (T.self _ 0 _ _ _ st1 (loop _ rfl))
end
section
variable {X:Cx} {pos:Pos} {scope:Scope} {own capn:List Str} {caps:List Nat}
theorem eW {elt tg iter:Expr}{ifs:List Expr}{f:IF}{g:GF}{cs:List TF}{e:EF}(hc:X.calm=true)(S:bY X scope own capn caps)(hi:MI X tg iter f)
  (hin:∀ cl C s H ex,MG (cxC X (own++capn) scope cl C s H ex) tg g∧MTs (cxC X (own++capn) scope cl C s H ex) ifs cs∧ME (cxC X (own++capn) scope cl C s H ex) elt e)
  (hs:∀ x,foldedSetIterable iter X.env x=pure x:=by intro _;rfl):MF X (.ListComp elt [⟨tg,iter,ifs,0⟩] scope pos) (cQ own.length caps f g cs e):=by
 intro pins s σ H Q I ⟨ρ,σd,hd,rs,p⟩
 rw [eval_ListComp]
 unfold cQ at p
 cases c:f σd hd with
 | exc z h7=>rw [c] at p;exact p.elim
 | bad=>rw [c] at p;exact p.elim
 | ok q hd1 =>
  obtain⟨l,gd⟩:=q
  rw [c] at p
  simp only [aN] at p
  obtain⟨cl,h1,hcl1,hcl2⟩:=kX (scope:=scope) (env:=X.env) fun y hy hyf=>I.ok.has y.1 (S.free y hy hyf)
  refine wpAny_comprehension_free (use:=none) rfl hs h1 S.kind S.names (thn (hi pins s σ H (fun J H1=>∃ ρ1,Ext ρ H ρ1 H1∧RS X.K ρ1 H1 σd hd1 σ ∧ sC X.K ρ1 H1 J l gd) I ⟨ρ,σd,hd,rs,by
   rw [c]
   exact fun J H' ρ' ex rs' wk=>⟨ρ',ex,rs',wk⟩⟩) fun v s1 h1=>thn h1 fun itv s2 h2 => ?_)
  obtain⟨it,fp,tn,J,H1,rfl,I1,T,st0,hf,ρ1,ex1,rs1,wk⟩:=h2
  cases c2:b0 gd l g cs e l (fE own.length caps σd) hd1 with
  | exc z h7=>rw [c2] at p;exact p.elim
  | bad=>rw [c2] at p;exact p.elim
  | ok ds hdF =>
   rw [c2] at p
   refine mT (RR:=fun acc C=>compPost (model X.prog X.w) X.A X.xe none (EP X pins σ Q) acc C) hc S hin I1 T st0 hf rs1 wk.g hcl1 hcl2 ((wm _ _ _).symm.trans c2) fun C s' m H' ρ' vs hC hn I' hCn ex rh hD0 hD hnD rds => ?_
   refine⟨m,hn,fun h' sb=>⟨.ref s2.heap.objs.size,H',?_,rfl,?_⟩⟩
   ·refine I'.turned (it:=C) (t':=s'.toks) (fun b o hb e=>(sb.2 b hb).trans e) hCn ?_ (.inr (Nat.le_of_lt (ZS I1.sz hC))) (fun x c e z => ?_) fun q hq z => ?_
    ·exact Nat.ne_of_gt (Nat.lt_trans I1.lt hC)
    ·obtain⟨v,o,ho,hd⟩:=I1.cell x c e
     exact absurd (Nat.lt_trans (ZI ho) hC) (by rw [z];exact Nat.lt_irrefl _)
    ·exact absurd (Nat.lt_trans (ZI (I1.pin q hq).1) hC) (by rw [z];exact Nat.lt_irrefl _)
   ·exact p _ vs H' ρ' (ex1.trans ex) (rs.ext (ex1.trans ex) rh) (ex1.fresh hD0 (rs1.hp.free hD0)) hD hnD rds
theorem wo {i:Nat}{x:Str}{pos':Pos}{elt tg iter:Expr}{ifs:List Expr}{f:IF}{g:GF}{cs:List TF}{e:EF}{cpos:Pos}(hN:X.N.Nodup)(hi':X.N[i]? = some x)(hx:Loc X.env.scope x)(hc:X.calm=true)(S:bY X scope own capn caps)(hi:MI X tg iter f)
  (hin:∀ cl C s H ex,MG (cxC X (own++capn) scope cl C s H ex) tg g∧MTs (cxC X (own++capn) scope cl C s H ex) ifs cs∧ME (cxC X (own++capn) scope cl C s H ex) elt e)
  (hsw:swapsWith (.ListComp elt [⟨tg,iter,ifs,0⟩] scope cpos) (some (.Name x pos')) pos.line X.env=pure true:=by rfl)
  (hs:∀ x,foldedSetIterable iter X.env x=pure x:=by intro _;rfl) (hf':X.fn x=true∨X.env.scope.names.lookup x=some .local:=by first|exact .inl rfl|exact .inr rfl|assumption) :
  MS X (.Assign [.Name x pos'] (.ListComp elt [⟨tg,iter,ifs,0⟩] scope cpos) pos) (bd (gN i) (aG (cQ own.length caps f g cs e))):=by
 intro pins s σ H En I ⟨ρ,σd,hd,rs,p⟩
 rw [exec_Assign_Name_used _ _ _ _ hsw]
 refine wpAny_bind (wpAny_standAt ?_)
 show wpAny _ _ ((comprehension _ scope X.env _ (newList []) _ _ _ >>= fun _=>pure ()) >>= fun _=>pure Flow.next) _ _ _
 have p1:=bw.outE (σ := σ) p
 unfold aG cQ at p1
 cases c:f σd hd with
 | exc z h7=>rw [c] at p1;exact p1.elim
 | bad=>rw [c] at p1;exact p1.elim
 | ok q hd1 =>
  obtain⟨l,gd⟩:=q
  rw [c] at p1
  simp only [aN] at p1
  obtain⟨cl,h1,hcl1,hcl2⟩:=kX (scope:=scope) (env:=X.env) fun y hy hyf=>I.ok.has y.1 (S.free y hy hyf)
  refine wpAny_bind (wpAny_bind (wpAny_comprehension_free (Q:=fun _ s'=>wpAny (model X.prog X.w) X.A (pure ()) (fun _ s'=>wpAny (model X.prog X.w) X.A (pure Flow.next) (SP X pins En) X.xe s') X.xe s') (use:=some (assign (.Name x pos') X.env)) rfl hs h1 S.kind S.names (thn (hi pins s σ H (fun J H1=>∃ ρ1,Ext ρ H ρ1 H1∧RS X.K ρ1 H1 σd hd1 σ ∧ sC X.K ρ1 H1 J l gd) I ⟨ρ,σd,hd,rs,by
   rw [c]
   exact fun J H' ρ' ex rs' wk=>⟨ρ',ex,rs',wk⟩⟩) fun v s1 h1=>thn h1 fun itv s2 h2 => ?_)))
  obtain⟨it,fp,tn,J,H1,rfl,I1,T,st0,hf,ρ1,ex1,rs1,wk⟩:=h2
  cases c2:b0 gd l g cs e l (fE own.length caps σd) hd1 with
  | exc z h7=>rw [c2] at p1;exact p1.elim
  | bad=>rw [c2] at p1;exact p1.elim
  | ok ds hdF =>
   rw [c2] at p1
   simp only [aN] at p1
   by_cases hz:ds.length≤SZ
   ·rw [if_pos hz] at p1
    refine mT (RR:=fun acc C=>compPost (model X.prog X.w) X.A X.xe (some (assign (.Name x pos') X.env)) _ acc C) hc S hin I1 T st0 hf rs1 wk.g hcl1 hcl2 ((wm _ _ _).symm.trans c2) fun C s' m H' ρ' vs hC hn I' hCn ex rh hD0 hD hnD rds => ?_
    refine wpAny_assign_Name (uQ I' hN hi' hx (v:=.ref s2.heap.objs.size) rfl (fun s'' I'' hsb => ?_) hf')
    have hCl:C≠X.env.locals:=Nat.ne_of_gt (Nat.lt_trans I1.lt hC)
    have hCc:∀ y c,X.env.cells.lookup y=some c→c≠C:=fun y c e z=>by
     obtain⟨v,o,ho,hd⟩:=I1.cell y c e
     exact absurd (Nat.lt_trans (ZI ho) hC) (by rw [z];exact Nat.lt_irrefl _)
    refine⟨m,?_,fun h' sb=>wpAny_pure (wpAny_pure ?_)⟩
    ·obtain⟨a,sa,ha⟩:=hsb
     refine hn.sameBut sa ?_
     rcases ha with z|z
     ·rw [z];exact hCl
     ·exact Ne.symm (hCc _ _ z)
    ·have I3:Inv X pins (σ.set i (some (.ref s2.heap.objs.size))) H' { s'' with heap:=h' }:=I''.turned (it:=C) (t':=s''.toks) (fun b o hb e=>(sb.2 b hb).trans e) hCn hCl (.inr (Nat.le_of_lt (ZS I1.sz hC))) hCc fun q hq z =>
      absurd (Nat.lt_trans (ZI (I1.pin q hq).1) hC) (by rw [z];exact Nat.lt_irrefl _)
     have ex':Ext ρ H ρ' H':=ex1.trans ex
     have rh':=rh.alloc hD hnD rds
     have hH0:H s2.heap.objs.size=none:=ex1.fresh hD0 (rs1.hp.free hD0)
     have exA:Ext ρ H (ρ'++[s2.heap.objs.size]) H':=⟨by obtain⟨t,rfl⟩:=ex'.pre;exact⟨t++[s2.heap.objs.size],by simp⟩,fun a ha=>by
      rcases List.mem_append.mp ha with z|z
      ·exact ex'.new a z
      ·simp at z;subst z;exact .inr hH0,ex'.frame⟩
     obtain⟨ρ2,d2,hd2,e2,rs2,rd2,pn⟩:=p1 (.ref s2.heap.objs.size) H' (ρ'++[s2.heap.objs.size]) exA (rs.ext exA rh') (by
      simp only [rD,RD]
      refine⟨s2.heap.objs.size,?_,rfl⟩
      rw [← rh.len]
      simp)
     exact⟨_,H',I3,pn _ H' ρ2 Ext.refl ⟨rs2.hp,rs2.st.set i rd2⟩⟩
   ·rw [if_neg hz] at p1;exact p1.elim
end
end Fm
namespace Fm
open PySem PySem.Spec L2 PyProof.Rows
mutual
def rfs (k:Nat):D→Prop
 | .ref n=>n < k
 | .tup l=>gH k l
 | .lit l=>gH k l
 | .exn _ l=>gH k l
 | _=>True
def gH (k:Nat):List D→Prop
 | []=>True
 | x :: xs=>rfs k x∧gH k xs
end
section
variable {K:ZX} {ρ ρ' t:List Addr} {H H':Hp} {hd hd':Hd}
mutual
theorem RD.rfs:∀ {d:D} {v:V},RD K ρ H d v→Fm.rfs ρ.length d
 | .non,_,_=>by simp only [Fm.rfs]
 | .bl _,_,_=>by simp only [Fm.rfs]
 | .int _,_,_=>by simp only [Fm.rfs]
 | .str _,_,_=>by simp only [Fm.rfs]
 | .tup l,_,h=>by
  simp only [RD] at h;obtain⟨p,vs,_,_,h2⟩:=h
  simp only [Fm.rfs];exact RDs.rfs h2
 | .lit l,_,h=>by
  simp only [RD] at h;obtain⟨p,vs,_,_,h2⟩:=h
  simp only [Fm.rfs];exact RDs.rfs h2
 | .ref n,_,h=>by
  simp only [RD] at h;obtain⟨a,h1,_⟩:=h
  simp only [Fm.rfs];exact (List.getElem?_eq_some_iff.mp h1).1
 | .exn _ _,_,h=>by simp only [RD] at h;obtain⟨rfl,_⟩:=h;simp only [Fm.rfs,Fm.gH]
theorem RDs.rfs:∀ {l:List D} {vs:List V},RDs K ρ H l vs→Fm.gH ρ.length l
 | [],_,_=>by simp only [Fm.gH]
 | d :: ds,_,h=>by
  simp only [RDs] at h;obtain⟨v,r,_,h1,h2⟩:=h
  simp only [Fm.gH];exact⟨RD.rfs h1,RDs.rfs h2⟩
end
mutual
theorem RD.cut:∀ {d:D} {v:V},RD K (ρ ++ t) H d v→Fm.rfs ρ.length d→RD K ρ H d v
 | .non,_,h,_=>by simp only [RD] at h ⊢;exact h
 | .bl _,_,h,_=>by simp only [RD] at h ⊢;exact h
 | .int _,_,h,_=>by simp only [RD] at h ⊢;exact h
 | .str _,_,h,_=>by simp only [RD] at h ⊢;exact h
 | .tup l,_,h,q=>by
  simp only [RD] at h ⊢;simp only [Fm.rfs] at q
  obtain⟨p,vs,e,h1,h2⟩:=h
  exact⟨p,vs,e,h1,RDs.cut h2 q⟩
 | .lit l,_,h,q=>by
  simp only [RD] at h ⊢;simp only [Fm.rfs] at q
  obtain⟨p,vs,e,h1,h2⟩:=h
  exact⟨p,vs,e,h1,RDs.cut h2 q⟩
 | .ref n,_,h,q=>by
  simp only [RD] at h ⊢;simp only [Fm.rfs] at q
  obtain⟨a,h1,h2⟩:=h
  exact⟨a,by rwa [ZC q] at h1,h2⟩
 | .exn _ _,_,h,_=>by simp only [RD] at h ⊢;exact h
theorem RDs.cut:∀ {l:List D} {vs:List V},RDs K (ρ ++ t) H l vs→Fm.gH ρ.length l→RDs K ρ H l vs
 | [],_,h,_=>by simp only [RDs] at h ⊢;exact h
 | d :: ds,_,h,q=>by
  simp only [RDs] at h ⊢;simp only [Fm.gH] at q
  obtain⟨v,r,e,h1,h2⟩:=h
  exact⟨v,r,e,RD.cut h1 q.1,RDs.cut h2 q.2⟩
end
mutual
theorem lI {k:Nat}:∀ {d:D},pure? d=true→Fm.rfs k d
 | .non,_=>by simp only [Fm.rfs]
 | .bl _,_=>by simp only [Fm.rfs]
 | .int _,_=>by simp only [Fm.rfs]
 | .str _,_=>by simp only [Fm.rfs]
 | .tup l,h=>by simp only [pure?] at h;simp only [Fm.rfs];exact iq h
 | .lit l,h=>by simp only [pure?] at h;simp only [Fm.rfs];exact iq h
 | .exn _ l,h=>by simp only [pure?] at h;simp only [Fm.rfs];exact iq h
 | .ref _,h=>by simp only [pure?] at h;cases h
theorem iq {k:Nat}:∀ {l:List D},eE l=true→Fm.gH k l
 | [],_=>by simp only [Fm.gH]
 | x :: xs,h=>by
  simp only [eE,Bool.and_eq_true] at h
  simp only [Fm.gH];exact⟨lI h.1,iq h.2⟩
end
def HB (k:Nat):cT→Prop
 | .lst l=>Fm.gH k l
 | .dct l=>Fm.gH k (l.map (·.2))
 | .dcT l=>Fm.gH k (l.map (·.2))
theorem RC.rfs {c:cT}{a:Addr}(h:RC K ρ H c a):HB ρ.length c:=by
 cases c with
 | lst l=>obtain⟨vs,_,h2⟩:=h;exact h2.rfs
 | dct l=>obtain⟨vs,_,_,h2⟩:=h;exact h2.rfs
 | dcT l=>obtain⟨vs,_,_,h2⟩:=h;exact h2.rfs
theorem RC.cut {c:cT}{a:Addr}(h:RC K (ρ ++ t) H c a)(q:HB ρ.length c):RC K ρ H c a:=by
 cases c with
 | lst l=>obtain⟨vs,h1,h2⟩:=h;exact⟨vs,h1,h2.cut q⟩
 | dct l=>obtain⟨vs,h1,h2,h3⟩:=h;exact⟨vs,h1,h2,h3.cut q⟩
 | dcT l=>obtain⟨vs,h1,h2,h3⟩:=h;exact⟨vs,h1,h2,h3.cut q⟩
theorem wp {k:Nat}{c:cT}(h:p9 c=true):HB k c:=by
 cases c with
 | lst l=>exact iq h
 | dcT l =>
  have:∀ l:List (List Int × D),(l.all fun p=>pure? p.2)=true→Fm.gH k (l.map (·.2)):=by
   intro l
   induction l with
   | nil=>intro _;simp only [List.map_nil,Fm.gH]
   | cons x l ih=>intro h;simp only [List.all_cons,Bool.and_eq_true] at h;simp only [List.map_cons,Fm.gH];exact⟨lI h.1,ih h.2⟩
  exact this l h
 | dct l =>
  have:∀ l:List (Int × D),(l.all fun p=>pure? p.2)=true→Fm.gH k (l.map (·.2)):=by
   intro l
   induction l with
   | nil=>intro _;simp only [List.map_nil,Fm.gH]
   | cons x l ih=>intro h;simp only [List.all_cons,Bool.and_eq_true] at h;simp only [List.map_cons,Fm.gH];exact⟨lI h.1,ih h.2⟩
  exact this l h
theorem RH.back (r:RH K ρ H hd)(r':RH K (ρ ++ t) H' hd')(o:D8 hd hd'):RH K ρ H' (hd'.take hd.length):=by
 have hl:(ρ ++ t).length=hd'.length:=r'.len
 refine⟨by rw [List.length_take,← hl,ZB,← r.len];omega,(List.nodup_append.mp r'.nd).1,fun n c a h1 h2 => ?_⟩
 have hn:n < hd.length:=by rw [← r.len];exact (List.getElem?_eq_some_iff.mp h2).1
 rw [List.getElem?_take_of_lt hn] at h1
 have q:=r'.cel n c a h1 (by rw [ZC (by rw [r.len];exact hn)];exact h2)
 refine q.cut ?_
 rcases o n c hn h1 with z|z
 ·exact (r.cel n c a z h2).rfs
 ·exact wp z
def lJ (K:ZX) (ρ:List Addr) (H:Hp) (r:Res D) (Q:VK):Prop:=match r with
 | .ok d hd'=>∀ v H' ρ',Ext ρ H ρ' H'→RH K ρ' H' hd'→RD K ρ' H' d v→Q v H'
 | _=>False
def spF (K:ZX) (F:Fn) (np:Nat):Sp:=fun vs H Q _=>∃ ρ hd ds,RH K ρ H hd∧RDs K ρ H ds vs∧ds.length=np∧lJ K ρ H (F ds hd) Q
theorem Ext.short (e:Ext ρ H (ρ ++ t) H'):Ext ρ H ρ H':=⟨⟨[],by simp⟩,fun _ h=>.inl h,e.frame⟩
theorem lJ.letGo {r:Res D}{Q:VK}(rh:RH K ρ H hd)(p:lJ K ρ H (letGo hd r) Q):lJ K ρ H r Q:=by
 cases r with
 | exc x h'=>exact p
 | bad=>exact p
 | ok d h' =>
  intro v H' ρ' ex rh' rd
  simp only [Fm.letGo] at p
  split at p
  ·rename_i hc
   obtain⟨t,rfl⟩:=ex.pre
   exact p v H' ρ ex.short (rh.back rh' hc.2) (rd.cut (lI hc.1))
  ·exact p v H' ρ' ex rh' rd
theorem lJ.runB {n:Nat}{b:SF}{ds:List D}{Q:VK}(p:lJ K ρ H (runB n b ds hd) Q):bw K ρ H (b (ds.map some++List.replicate (n - ds.length) none) hd) { nx:=fun _ H'=>Q .non H',rt:=Q }:=by
 unfold Fm.runB at p
 cases e:b (ds.map some++List.replicate (n - ds.length) none) hd with
 | nx σ h'=>rw [e] at p;exact fun σ' H' ρ' ex rs=>p .non H' ρ' ex rs.hp (by simp only [RD])
 | rt d h'=>rw [e] at p;exact p
 | bk σ h'=>rw [e] at p;exact p.elim
 | ct σ h'=>rw [e] at p;exact p.elim
 | exc x σ h'=>rw [e] at p;exact p.elim
 | bad=>rw [e] at p;exact p.elim
theorem u5 {N:List Str}{ds:List D}{vs:List V}(r:RDs K ρ H ds vs):RSt K ρ H (ds.map some++List.replicate (N.length - ds.length) none) (L2.jE N vs):=by
 have hl:=r.length
 refine⟨by simp [L2.jE,hl],fun i d e => ?_⟩
 simp only [slot] at e
 by_cases hi:i < ds.length
 ·rw [ZC (by simpa using hi)] at e
  simp only [ZQ,ZE hi,Option.map_some] at e
  cases e
  obtain⟨v,hv,q⟩:=r.get (i:=i) (d:=ds[i]) (by simp [hi])
  refine⟨v,?_,q⟩
  unfold L2.jE
  rw [ZC (by simp;omega)]
  simp [hv]
 ·rw [ZD (by simpa using Nat.le_of_not_lt hi)] at e
  simp only [List.getElem?_replicate] at e
  by_cases hq:i - (List.map some ds).length < N.length - ds.length
  ·simp only [hq,if_true] at e;cases e
  ·simp only [hq,if_false] at e;cases e
end
structure Def (P:Program) (w:World) (K:ZX) (mg:Str→Option Value) (base:Heap) (x:Str) (k np:Nat) (F:Fn):Prop where
 ex:∃ f fd ps,mg x=some (.ref f)∧PySem.W.keepIn K (.ref f)=true∧kC K fd ps []∧bU P w K mg base CX0 k f fd ps (spF K F np)
section
variable {P:Program} {w:World} {K:ZX} {mg:Str→Option Value} {base:Heap}
theorem bR {x:Str}{st:Stmt}{f:Addr}{fd:FuncData}{N ps:List Str}{k:Nat}{b:SF}(F:Fun K x x st f fd)(S:aJ N ps (af st))
  (body:∀ (cdv:Value) (A:Around) (outer:List Env) (s:Shared) (H:Hp) (E:XK),gF k (A.deeper (envOfC x (af st) s.heap.objs.size f cdv))→MSs (oZ CX0 P w K mg base N x (af st) f cdv A outer s H E).nox (aE st) b) :
  bU P w K mg base CX0 (k + 1) f fd ps (spF K (bN ps.length N.length b) ps.length):=by
 refine F.ok S (fun vs H Q E ⟨ρ,hd,ds,rh,rd,hl,p⟩=>by rw [← rd.length];exact hl) fun cdv A outer s H vs Q E hr ⟨ρ,hd,ds,rh,rd,hl,p⟩=>⟨_,body cdv A outer s H E hr,ρ,_,hd,⟨rh,u5 rd⟩,?_⟩
 simp only [bN,hl,if_true] at p
 exact (lJ.letGo rh p).runB
theorem Def.mk' {x:Str}{f:Addr}{fd:FuncData}{ps:List Str}{k np:Nat}{F:Fn}(hm:mg x=some (.ref f))(hk:PySem.W.keepIn K (.ref f)=true)(hb:kC K fd ps [])(h:bU P w K mg base CX0 k f fd ps (spF K F np)):Def P w K mg base x k np F:=⟨f,fd,ps,hm,hk,hb,h⟩
end
section
variable {X:Cx} {pos p:Pos}
theorem aA {x:Str}{k np:Nat}{F:Fn}{e:Expr}{es:List Expr}{r:LF}(hd:Def X.prog X.w X.K X.mg X.base x k np F)(hr:gF k X.A)(hg:Gl X x)(ha:MA X (e :: es) r)(hnp:∀ ds h d h',F ds h=.ok d h'→ds.length=np)
  (hdb:(x == ("__debug__" : Str))=false:=by decide) (he:starEach (e :: es) X.env=(false,eval e X.env) :: starEach es X.env:=by rfl) (hpl:(backTo pos (starEach es X.env)).any (·.1)=false:=by rfl) :
  ME X (.Call (.Name x p) (e :: es) [] pos) (au F r):=by
 obtain⟨f,fd,ps,h1,h2,h3,h4⟩:=hd.ex
 refine PE.imp (DY h4 hr hg h1 h2 h3 .nil Pz ha hdb he hpl) fun σ H Q ⟨ρ,σd,hd,rs,pp⟩=>⟨ρ,σd,hd,rs,(bx.bind (R:=rDs X.K) pp).imp fun vs H1 ⟨ρ1,ds,hd1,e1,rs1,rv,p1⟩ => ?_⟩
 rw [List.append_nil]
 cases c:F ds hd1 with
 | exc z h'=>rw [c] at p1;exact p1.elim
 | bad=>rw [c] at p1;exact p1.elim
 | ok d hd2 =>
  rw [c] at p1
  refine⟨ρ1,hd1,ds,rs1.hp,rv,hnp _ _ _ _ c,?_⟩
  rw [c]
  exact fun v H' ρ' ex rh rd=>p1 v H' ρ' ex (rs1.ext ex rh) rd
theorem aB {np n:Nat}{b:SF}:∀ ds h d h',bN np n b ds h=.ok d h'→ds.length=np:=by
 intro ds h d h' e
 unfold bN at e
 split at e
 ·assumption
 ·cases e
end
theorem PM {l:PySem.W.OpenLaw}{q:Program}{loose:List Str}{XP:(Str→Option Value)→Heap→Prop}{YP:World→Heap→Prop}{d:DefRec}{K:Params→ZX}{F:Fn}{k:Nat}{x:Str}(hn:l.most=some 63)(hdf:d.params.defaults=[])(hr:gF k callerA)
  (hY:∀ (w:World) (h:Heap),YP w h→(K w.params).In h)
  (hF:∀ (w:World) (mg:Str→Option Value) (fa:Addr) (h:Heap),(K w.params).In h→h.Ns mainGlobals mg→mg d.name=some (.ref fa) →
   ∃ fd:FuncData,(∀ (s:Shared) (u:Value),BindsTo s fd ⟨[u],[]⟩ [(x,u)]) ∧ ∀ base:Heap,(K w.params).In base→base.Ns mainGlobals mg→bU l.prog w (K w.params) mg base CX0 k fa fd [x] (spF (K w.params) F 1))
  (law:∀ ns:List Int,ns.length≤63 → ∃ h,F [.lit (ns.map .int)] []=.ok (.bl true) h) :
  PySem.W.WalkO q loose XP YP l.row.toRowW d [] (fun f vs=>PySem.call f vs):=by
 refine L2.KK (n:=63) (k:=k) (x:=x) (CX:=fun _=>CX0) (sp:=fun w=>spF (K w.params) F 1) hn (by decide) hdf hr hY hF (fun w H a ns hl hO hS => ?_) fun _ _ _ _ _ z=>z
 obtain⟨h,e⟩:=law ns hl
 have hL:oy (K w.params) H a (ns.map V.int):=by
  rcases hS with (z|⟨o,z⟩)|z
  ·rcases hO a with y|⟨o,xs,y⟩<;>(rw [z] at y;cases y)
  ·exact .inl ⟨o,z⟩
  ·exact .inr z
 have hI:RDs (K w.params) [] H (ns.map D.int) (ns.map V.int):=by
  clear hl hS e hL law
  induction ns with
  | nil=>exact RDs.nil
  | cons n ns ih=>exact RDs.cons (by simp only [RD]) ih
 refine⟨[],[],[.lit (ns.map .int)],⟨rfl,List.nodup_nil,fun n c a h1=>by simp at h1⟩,RDs.cons (by simp only [RD];exact⟨a,_,rfl,hL,hI⟩) RDs.nil,rfl,?_⟩
 rw [e]
 intro v H' ρ' ex rh rd
 simpa only [RD] using rd
end Fm
namespace Fm
open PySem PySem.Spec L2
open PyProof.Rows (Subscript_ tail_any)
def tyS:Ty→String
 | .int => "int" | .bool => "bool" | .tuple => "tuple" | .list => "list" | .str => "str"
theorem fM (t:Ty):typeOf (.type (tyS t))=pure (.type "type"):=by
 cases t
 ·exact F.isi_meta_int
 ·exact F.isi_meta_bool
 ·exact F.isi_meta_tuple
 ·exact F.isi_meta_list
 ·exact F.isi_meta_str
theorem KR (t:Ty):isSubtype (.type "NoneType") (.type (tyS t))=pure false:=by cases t<;>(rw [isSubtype_type];kernel_rfl)
theorem NB {t:Ty} (h:t ≠ .int):isSubtype (.type "int") (.type (tyS t))=pure false:=by cases t<;>first|exact absurd rfl h|(rw [isSubtype_type];kernel_rfl)
theorem KS {t:Ty} (h:t ≠ .int) (h2:t ≠ .bool):isSubtype (.type "bool") (.type (tyS t))=pure false:=by cases t<;>first|exact absurd rfl h|exact absurd rfl h2|(rw [isSubtype_type];kernel_rfl)
theorem NC {t:Ty} (h:t ≠ .str):isSubtype (.type "str") (.type (tyS t))=pure false:=by cases t<;>first|exact absurd rfl h|(rw [isSubtype_type];kernel_rfl)
theorem HC {t:Ty} (h:t ≠ .tuple):isSubtype (.type "tuple") (.type (tyS t))=pure false:=by cases t<;>first|exact absurd rfl h|(rw [isSubtype_type];kernel_rfl)
theorem Ed {t:Ty} (h:t ≠ .list):isSubtype (.type "list") (.type (tyS t))=pure false:=by cases t<;>first|exact absurd rfl h|(rw [isSubtype_type];kernel_rfl)
theorem KU (t:Ty):isSubtype (.type "dict") (.type (tyS t))=pure false:=by cases t<;>(rw [isSubtype_type];kernel_rfl)
theorem km (t:Ty):isSubtype (.type (tyS t)) (.type (tyS t))=pure true:=by cases t<;>(rw [isSubtype_type];kernel_rfl)
theorem y4:isSubtype (.type "bool") (.type (tyS .int))=pure true:=by rw [isSubtype_type];kernel_rfl
theorem oz {n:String}{t:Ty}(h:n≠tyS t):(Value.type n == Value.type (tyS t))=false:=by
 rw [beq_eq_false_iff_ne];intro e;cases e;exact h rfl
theorem Bp {a b:Ty}(h:a≠b):(a == b)=false:=by cases a<;>cases b<;>first|rfl|exact absurd rfl h
section
variable {X:Cx} {pos p:Pos}
theorem ND {pins:List (Addr × Obj)}{σ:St}{H:Hp}{s:Shared}{ρ:List Addr}{hd:Hd}{d:D}{v:V}{u:Value}{t:Ty}{b:Bool}{Q:Value→Shared→Prop}{E:Value→Shared→Prop}(I:Inv X pins σ H s)(rh:RH X.K ρ H hd)(rd:RD X.K ρ H d v)(r:bg v u)(e:E7 hd t d=some b)
  (q:∀ s',Inv X pins σ H s'→Q (.bool b) s'):wpAny (model X.prog X.w) X.A (call (.builtin "isinstance") [u,.type (tyS t)]) Q E s:=by
 have q0:=q s I
 have q1:=q { s with toks:=s.toks + 1 } (I.tok _)
 have yes:∀ {n:String},s.TypeIs u n→isSubtype (.type n) (.type (tyS t))=pure true→Q (.bool true) s→wpAny (model X.prog X.w) X.A (call (.builtin "isinstance") [u,.type (tyS t)]) Q E s:=fun h1 h2 h3=>call_isinstance (isinstance_true (fM t) h2) ⟨h1,h3⟩
 cases d<;>simp only [RD] at rd<;>simp only [E7] at e
 ·subst rd;cases r;cases e
  exact call_isinstance (isinstance_false_none (by cases t<;>exact oz (by decide)) (fM t) (KR t)) q1
 ·subst rd;cases r
  by_cases h1:t=.int
  ·subst h1;cases e;exact yes (n := "bool") rfl y4 q0
  ·by_cases h2:t=.bool
   ·subst h2;cases e;exact yes (n := "bool") rfl (km .bool) q0
   ·rw [Bp h1,Bp h2] at e;cases e
    exact call_isinstance (isinstance_false_bool (by cases t<;>first|exact absurd rfl h1|exact absurd rfl h2|exact oz (by decide)) (fM t) (KS h1 h2)) q1
 ·subst rd;obtain⟨tk,rfl⟩:=r
  by_cases h1:t=.int
  ·subst h1;cases e;exact yes (n := "int") rfl (km .int) q0
  ·rw [Bp h1] at e;cases e
   exact call_isinstance (isinstance_false_int (by cases t<;>first|exact absurd rfl h1|exact oz (by decide)) (fM t) (NB h1)) q1
 ·subst rd;obtain⟨tk,rfl⟩:=r
  by_cases h1:t=.str
  ·subst h1;cases e;exact yes (n := "str") rfl (km .str) q0
  ·rw [Bp h1] at e;cases e
   exact call_isinstance (isinstance_false_str (by cases t<;>first|exact absurd rfl h1|exact oz (by decide)) (fM t) (NC h1)) q1
 ·obtain⟨a,vs,rfl,ha,_⟩:=rd
  cases r
  obtain⟨its,_,o,ho,hc,_⟩:=gl I.hok ha
  by_cases h1:t=.tuple
  ·subst h1;cases e;exact yes (n := "tuple") ⟨o,ho,hc⟩ (km .tuple) q0
  ·rw [Bp h1] at e;cases e
   exact call_isinstance (isinstance_false_tuple (by cases t<;>first|exact absurd rfl h1|exact oz (by decide)) (fM t) (HC h1)) ⟨⟨o,ho,hc⟩,q1⟩
 ·rename_i n
  obtain⟨a,ha,rfl⟩:=rd
  cases r
  cases c:hd[n]? with
  | none=>rw [c] at e;cases e
  | some cell =>
   rw [c] at e
   cases cell with
   | lst l =>
    obtain⟨vs,hv,_⟩:=rh.cel n _ a c ha
    obtain⟨z,its,k,_,ho⟩:=I.hok a _ hv
    by_cases h1:t=.list
    ·subst h1;cases e;exact yes (n := "list") ⟨_,ho,rfl⟩ (km .list) q0
    ·simp only [Bp h1] at e;cases e
     exact call_isinstance (isinstance_false_list (by cases t<;>first|exact absurd rfl h1|exact oz (by decide)) (fM t) (Ed h1)) ⟨⟨_,ho,rfl⟩,q1⟩
   | dcT _=>cases e
   | dct l =>
    obtain⟨vs,hv,_,_⟩:=rh.cel n _ a c ha
    obtain⟨_,_,_,_,o,_,_,ho,ex,_⟩:=I.hok a _ hv
    cases e
    exact call_isinstance (isinstance_false_dict (by cases t<;>exact oz (by decide)) (fM t) (KU t)) ⟨⟨o,ho,ex.1⟩,q1⟩
 ·obtain⟨a,vs,rfl,ha,_⟩:=rd
  cases r
  obtain⟨its,_,pl,_⟩:=I.list ha.sq
  obtain⟨o,ho,hc,_⟩:=pl.isList
  by_cases h1:t=.list
  ·subst h1;cases e;exact yes (n := "list") ⟨o,ho,hc⟩ (km .list) q0
  ·simp only [Bp h1] at e;cases e
   exact call_isinstance (isinstance_false_list (by cases t<;>first|exact absurd rfl h1|exact oz (by decide)) (fM t) (Ed h1)) ⟨⟨o,ho,hc⟩,q1⟩
 ·cases e
def QO (K:ZX) (t:Ty):List V→Hp→VK→Prop:=fun xs H Q=>∃ ρ hd d v b,xs=[v,.ty (tyS t)]∧RH K ρ H hd∧RD K ρ H d v∧E7 hd t d=some b∧Q (.bl b) H
theorem HD (t:Ty):ig X (.builtin "isinstance") (QO X.K t):=by
 intro pins s σ H xs us Q I r h
 obtain⟨ρ,hd,d,v,b,rfl,rh,rd,e,q⟩:=h
 obtain⟨u,u2,rfl,ru,ru2⟩:=aI.two r
 cases (show u2=Value.type (tyS t) from ru2)
 exact ND I rh rd ru e fun s' I'=>⟨.bl b,H,I',rfl,q⟩
theorem fN {t:Ty} {a:Expr} {fa:EF} {p2:Pos} {n:Str} (hg:Gl X "isinstance") (hm:X.mg "isinstance" = none) (hg2:Gl X n) (hm2:X.mg n=none) (hv:bootBuiltins n=some (.type (tyS t))) (ha:ME X a fa)
  (hs:starEach [a,.Name n p2] X.env=(false,eval a X.env) :: starEach [.Name n p2] X.env:=by rfl) (hs2:starEach [.Name n p2] X.env=(false,eval (.Name n p2) X.env) :: starEach [] X.env:=by rfl) (hn:n ≠ "__name__" := by decide) (hd:(n == ("__debug__" : Str))=false:=by decide) :
  ME X (.Call (.Name "isinstance" p) [a,.Name n p2] [] pos) (gj t fa):=by
 refine PE.imp (ly (HD t) hg hm (by decide +kernel) (cf ha (cf (DW (v:=.ty (tyS t)) hg2 hm2 hv rfl hn hd) dX hs2) hs) (he:=hs)) fun σ H Q ⟨ρ,σd,hd,rs,pp⟩=>⟨ρ,σd,hd,rs,(bx.bind (R:=rD X.K) pp).imp fun v H1 ⟨ρ1,d,hd1,e1,rs1,rv,p1⟩ => ?_⟩
 cases c:E7 hd1 t d with
 | none=>simp only [c] at p1;exact p1.elim
 | some b=>simp only [c] at p1;exact⟨ρ1,hd1,d,v,b,rfl,rs1.hp,rv,c,p1.here rs1 (by simp only [rD,RD])⟩
theorem lK:OpR X (binaryOp .Add) (fun x y H Q=>rI0 (fun i j=>.int (i + j)) x y H Q∨Hk X.K x y H Q):=M7.or KD
theorem qf {K:ZX}:Og K eI (fun x y H Q=>rI0 (fun i j=>.int (i + j)) x y H Q∨Hk K x y H Q):=by
 intro ρ H σd hd σ d k v w Q rs rv rw' pp
 cases d<;>try exact pp.elim
 ·cases k<;>try exact pp.elim
  simp only [RD] at rv rw'
  exact .inl ⟨_,_,rv,rw',pp.here rs (by simp only [rD,RD])⟩
 ·rename_i l
  cases l with
  | nil=>exact pp.elim
  | cons x xs =>
   cases k<;>try exact pp.elim
   rename_i ys
   simp only [eI] at pp
   split at pp
   ·rename_i hz
    simp only [RD] at rv rw'
    obtain⟨a,vs,rfl,ha,rvs⟩:=rv
    obtain⟨b,ws,rfl,hb,rws⟩:=rw'
    refine .inr ⟨a,b,vs,ws,rfl,rfl,SqT.of ha,SqT.of hb,?_,?_,fun z => ?_,fun _ q hq => ?_⟩
    ·intro z;subst z;have:=rvs.length;simp at this
    ·rw [← rvs.length,← rws.length];exact pG hz
    ·subst z
     have hy:ys=[]:=by have:=rws.length;simpa using this
     subst hy
     exact pp.here rs (by simp only [rD,RD];exact⟨a,vs,rfl,ha,by simpa using rvs⟩)
    ·have sm:=bO (o:=HO.tup (vs++ws)) hq
     exact pp.at (Ext.same sm) (rs.same sm) (by simp only [rD,RD];exact⟨q,_,rfl,aO,(RDs.append rvs rws).mono (Kp.same sm)⟩)
   ·exact pp.elim
theorem KW {a:Expr} {la:LF} (hg:Gl X "list") (hm:X.mg "list" = none) (ha:MQ X a la) (hs:starEach [a] X.env=(false,eval a X.env) :: starEach [] X.env:=by rfl):MF X (.Call (.Name "list" p) [a] [] pos) la:=by
 refine PE.imp (uV v5 hg hm (by decide +kernel) (cf ha dX hs) (he:=hs)) fun σ H Q ⟨ρ,σd,hd,rs,pp⟩=>⟨ρ,σd,hd,rs,?_⟩
 cases e:la σd hd with
 | exc x h'=>rw [e] at pp;exact pp
 | bad=>rw [e] at pp;exact pp
 | ok l hd1 =>
  rw [e] at pp
  intro v H1 ρ1 e1 rs1 ⟨q,vs,hv,sq,rvs⟩
  subst hv
  exact⟨q,vs,rfl,sq.imp id SqT.of,pp.mk e1 rs1 rvs⟩
def MO (X:Cx) (e:Option Expr) (f:OF):Prop:=PO X e (jG X.K rO f)
theorem y6:MO X none pNo:=fun pins s σ H Q I ⟨ρ,σd,hd,rs,pp⟩=>KA pins s σ H Q I (pp.here rs rfl)
theorem y7 {e:Expr}{f:EF}(h:ME X e f):MO X (some e) (pAt f):=fun pins s σ H Q I ⟨ρ,σd,hd,rs,pp⟩=>KC h pins s σ H Q I ⟨ρ,σd,hd,rs,(bx.bind (R:=rD X.K) pp).imp fun v H1 ⟨ρ1,d,hd1,e1,rs1,rv,p1⟩=>by
 cases d<;>try exact p1.elim
 simp only [rD,RD] at rv
 exact⟨_,rv,p1.here rs1 rfl⟩⟩
theorem Ee {K:ZX}{ρ:List Addr}{H:Hp}{l:List D}{vs:List V}{lo hi:Option Int}(r:RDs K ρ H l vs):RDs K ρ H (cut l lo hi) (pX vs lo hi):=by
 have e:∀ (n d:Nat) (o:Option Int),Fm.sIx n d o=HT.sIx n d o:=fun n d o=>by cases o<;>rfl
 unfold cut pX
 rw [r.length,e,e]
 exact (r.drop _).take _
theorem jK {a:Expr}{fa:EF}{lo hi:Option Expr}{fl fh:OF}{p2:Pos}(ha:ME X a fa)(hl:MO X lo fl)(hh:MO X hi fh):ME X (.Subscript a (.Slice lo hi none p2) pos) (dY fa fl fh):=by
 refine PE.imp (Hj (SlR.or KH Nd) ha hl hh) fun σ H Q ⟨ρ,σd,hd,rs,pp⟩ => ?_
 unfold dY at pp
 refine⟨ρ,σd,hd,rs,(bx.bind (R:=rD X.K) pp).imp fun v H1 ⟨ρ1,d,hd1,e1,rs1,rv,p1⟩ => ?_⟩
 refine⟨ρ1,σd,hd1,rs1,(bx.bind (R:=rO) p1).imp fun o1 H2 ⟨ρ2,o1',hd2,e2,rs2,q2,p2⟩ => ?_⟩
 cases q2
 refine⟨ρ2,σd,hd2,rs2,(bx.bind (R:=rO) p2).imp fun o2 H3 ⟨ρ3,o2',hd3,e3,rs3,q3,p3⟩ => ?_⟩
 cases q3
 have rv3:=(rv.mono (rs1.hp.kp e2)).mono (rs2.hp.kp e3)
 have list:∀ l,aS hd3 d=some l→bx X.K (rD X.K) ρ3 H3 σd σ (.ok (.ref hd3.length) (hd3++[.lst (cut l o1 o2)])) Q→Py X.K v o1 o2 H3 Q:=fun l c p=>by
  obtain⟨q,vs,hv,sq,rvs⟩:=dy rs3.hp rv3 c
  refine⟨q,vs,hv,sq,fun q' hq => ?_⟩
  have sm:=bO (o:=HO.lst (pX vs o1 o2)) hq
  have nq:=rs3.hp.free hq
  have rh:=(rs3.hp.same sm).alloc aO nq ((Ee rvs).mono (Kp.same sm))
  have ex:Ext ρ3 H3 (ρ3++[q']) (upd H3 q' (.lst (pX vs o1 o2))):=Ext.alloc hq
  refine p.at ex (rs3.ext ex rh) ?_
  simp only [rD,RD]
  exact⟨q',by rw [← rs3.hp.len];simp,rfl⟩
 cases d with
 | tup l =>
  simp only at p3
  split at p3
  ·exact p3.elim
  ·rename_i hw
   simp only [RD] at rv3
   obtain⟨q,vs,rfl,hq,rvs⟩:=rv3
   have e:∀ (n d:Nat) (o:Option Int),Fm.sIx n d o=HT.sIx n d o:=fun n d o=>by cases o<;>rfl
   refine .inr ⟨q,vs,rfl,SqT.of hq,by rw [← rvs.length,← e,← e];exact hw,fun q' hq' => ?_⟩
   have sm:=bO (o:=HO.tup (pX vs o1 o2)) hq'
   exact p3.at (Ext.same sm) (rs3.same sm) (by simp only [rD,RD];exact⟨q',_,rfl,aO,(Ee rvs).mono (Kp.same sm)⟩)
 | ref n =>
  simp only at p3
  cases c:aS hd3 (.ref n) with
  | none=>rw [c] at p3;exact p3.elim
  | some l=>rw [c] at p3;exact .inl (list l c p3)
 | lit l' =>
  simp only at p3
  cases c:aS hd3 (.lit l') with
  | none=>rw [c] at p3;exact p3.elim
  | some l=>rw [c] at p3;exact .inl (list l c p3)
 | _=>exact p3.elim
theorem Bq {o e:Expr} {fo fe:EF} {apos cpos:Pos} (ho:ME X o fo) (he:ME X e fe) (hbase:attributeBase o "append" X.env (eval o X.env)=eval o X.env:=by rfl)
  (hfew:((backTo cpos (starEach [e] X.env)).all (fun x => !x.1) && (backToKw cpos (keywordEach [] X.env)).all (fun x=>x.1.isSome)
   && decide (([e] : List Expr).length + ([] : List Keyword).length + (if ([] : List Keyword).isEmpty then 0 else 1) < 30))=true:=by rfl)
  (hline:(apos.endLine == cpos.line)=true:=by rfl) (hs:starEach [e] X.env=(false,eval e X.env) :: starEach [] X.env:=by rfl) :
  ME X (.Call (.Attribute o "append" apos) [e] [] cpos) (mP fo fe):=by
 refine PE.imp (Mi PySem.F.plainAttrs_list PySem.F.slot_list_append PySem.F.type_list_append uY ho (cf he dX hs) hbase hfew hline hs) fun σ H Q ⟨ρ,σd,hd,rs,pp⟩=>⟨ρ,σd,hd,rs,?_⟩
 unfold mP at pp
 refine (bx.bind (R:=rD X.K) pp).imp fun v H1 ⟨ρ1,d,hd1,e1,rs1,rv,p1⟩ => ?_
 cases d<;>try exact p1.elim
 rename_i n
 simp only [rD,RD] at rv
 obtain⟨a,ha,rfl⟩:=rv
 simp only at p1
 cases c1:hd1[n]? with
 | none=>rw [c1] at p1;exact p1.elim
 | some cell1 =>
  rw [c1] at p1
  cases cell1 with
  | dct l=>exact p1.elim
  | dcT l=>exact p1.elim
  | lst l1 =>
   obtain⟨vs,hv,_⟩:=rs1.hp.cel n _ a c1 ha
   simp only at p1
   refine⟨.inl ⟨rfl,vs,SqL.of hv⟩,ρ1,σd,hd1,rs1,(bx.bind (R:=rD X.K) p1).imp fun w H2 ⟨ρ2,k,hd2,e2,rs2,rw',p2⟩ => ?_⟩
   simp only [Nn] at p2
   cases c:hd2[n]? with
   | none=>rw [c] at p2;exact p2.elim
   | some cell =>
    rw [c] at p2
    cases cell with
    | dct l=>exact p2.elim
    | dcT l=>exact p2.elim
    | lst l =>
     simp only at p2
     split at p2
     ·rename_i hz
      have ha2:=e2.get ha
      obtain⟨vs2,hv2,rvs2⟩:=rs2.hp.cel n _ a c ha2
      refine⟨a,vs2,w,rfl,rfl,hv2,?_,?_⟩
      ·rw [← rvs2.length];exact Nat.lt_of_lt_of_le hz (by rw [sizeLine_eq];decide)
      ·have hn:n < hd2.length:=(List.getElem?_eq_some_iff.mp c).1
       have rh:=rs2.hp.write ha2 hn (RDs.append rvs2 (RDs.cons rw' RDs.nil))
       have ex:Ext ρ2 H2 ρ2 (upd H2 a (.lst (vs2++[w]))):=Ext.write (ZK ha2)
       exact p2.at ex (rs2.ext ex rh) (by simp only [rD,RD])
     ·exact p2.elim
end
end Fm
namespace Fm
open PySem PySem.Spec L2
open AutoSeq1 (wpAny_loadPart')
open PyProof.Rows (Call_)
theorem y8 {a b:String}(h:Value.type a=Value.type b)(n:a≠b):False:=by injection h with h;exact n h
theorem jL (l:Addr)(items:Array Value)(n:Nat)(dct:Option Addr)(sl:Array (Option Value)) :
  Meets (Builtin.«enumerate.__new__» ⟨[.type "enumerate",.ref l],[]⟩) (fun _ R s=>s.heap.get? l=some { cls:=.type "tuple",dict:=dct,data:=.seq items n,slots:=sl } ∧
   R (.ok (.ret (.ref (s.heap.push { cls:=.type "tuple_iterator",data:=.fields #[.ref l,.int 0 0] }).objs.size)))
    { s with heap:=(s.heap.push { cls:=.type "tuple_iterator",data:=.fields #[.ref l,.int 0 0] }).push { cls:=.type "enumerate",data:=.fields #[.none,.bool false,.ref s.heap.objs.size,rawInt 0,.none,.none] } }) :=
 .of_wp fun prog w A R s h=>by
  obtain⟨hp,g,d,tk,os⟩:=s;obtain⟨hl,h⟩:=h
  have hsub:=sub_enumerate
  have hL:Heap.IsTuple (Shared.heap ⟨hp,g,d,tk,os⟩) l items:=⟨_,hl,rfl,n,rfl⟩
  wp_walk using wpAny_loadPart' hl
  refine wpAny_stack_any fun st=>wpAny_pure ?_
  split
  ·rename_i c _ _ _ _ _
   cases (c == Value.type "enumerate")
   ·wp_walk using wpAny_loadPart' hl,wpAny_pyIter_tuple hL
    exact⟨_,rfl,h⟩
   ·wp_walk using wpAny_loadPart' hl,wpAny_pyIter_tuple hL
    exact⟨_,rfl,h⟩
  ·wp_walk using wpAny_loadPart' hl,wpAny_pyIter_tuple hL
   exact⟨_,rfl,h⟩
section
variable {prog:Program} {w:World} {A:Around} {E:Value→Shared→Prop} {s:Shared}
theorem jM {l:Addr}{items:Array Value}{Q:Value→Shared→Prop}(hL:s.heap.IsTuple l items)
  (h:∀ h',IsEnum h' (s.heap.objs.size + 1) s.heap.objs.size 0 .none→h'.IsTupleIter s.heap.objs.size l 0→h'.objs.size=s.heap.objs.size + 2 →
   (∀ b o,s.heap.get? b=some o→h'.get? b=some o)→Q (.ref (s.heap.objs.size + 1)) { s with heap:=h' }) :
  wpAny (model prog w) A (call (.type "enumerate") [.ref l]) Q E s:=by
 obtain⟨⟨c,dct,dt,sl⟩,hl,hc,n,hd⟩:=hL
 replace hc:c=.type "tuple" := hc
 replace hd:dt=.seq items n:=hd
 subst hc hd
 refine callType_new F.called_enumerate (by decide) (F.typeCall_enumerate_1 _) (F.newCall_enumerate_1 _) (fun obj=>F.args_object_init_2 obj _) F.entry_enumerate_new
  (jL l items n dct sl) ⟨hl,?_⟩
 have hz:(s.heap.push { cls:=.type "tuple_iterator",data:=.fields #[.ref l,.int 0 0] }).objs.size=s.heap.objs.size + 1:=Heap.size_push ..
 show _∧_
 rw [hz]
 have he:IsEnum ((s.heap.push { cls:=.type "tuple_iterator",data:=.fields #[.ref l,.int 0 0] }).push
   { cls:=.type "enumerate",data:=.fields #[.none,.bool false,.ref s.heap.objs.size,rawInt 0,.none,.none] }) (s.heap.objs.size + 1) s.heap.objs.size 0 .none:=by
  have:=ZJ (s.heap.push { cls:=.type "tuple_iterator",data:=.fields #[.ref l,.int 0 0] })
   (o:={ cls:=.type "enumerate",data:=.fields #[.none,.bool false,.ref s.heap.objs.size,rawInt 0,.none,.none] }) rfl
  rw [hz] at this;exact this
 refine⟨⟨_,he,rfl⟩,h _ he ⟨_,ZH _ (ZJ _ rfl),rfl,rfl⟩ (by rw [Heap.size_push,hz]) fun b o x=>ZH _ (ZH _ x)⟩
theorem lL {it l:Addr}{i:Nat}{items:Array Value}{x:Value}{Q:Value→Shared→Prop}(hit:s.heap.IsTupleIter it l i)
  (hl:s.heap.IsTuple l items) (hx:items[i]? = some x)
  (hQ:∀ h',h'.IsTupleIter it l (i + 1)→Heap.SameBut it s.heap h'→Q x { s with heap:=h' }) :
  wpAny (model prog w) A (Builtin.SmallTypes.nextOf (.ref it)) Q E s:=by
 obtain⟨o,ho,hc,hd⟩:=id hit
 obtain⟨ol,hol,_,nl,hdl⟩:=hl
 unfold Builtin.SmallTypes.nextOf
 refine wpAny_bind (wpAny_callSpecial?_slot (name:=Str.ofString "__next__") hit.typeIs F.slot_tuple_iterator_next
  (wpAny_call_entry F.slot_tuple_iterator_next hit.typeIs F.entry_tuple_iterator_next ?_ (F.args_tuple_iterator_next_1 _)))
 show wpAny _ _ (field (.ref it) 0 >>= _) _ _ s
 refine wpAny_bind (wpAny_field ho hd (x:=.ref l) rfl ?_)
 show wpAny _ _ (if (Value.ref l == Value.none)=true then _ else _) _ _ s
 rw [if_neg (show ¬ ((Value.ref l == Value.none)=true) from Bool.false_ne_true)]
 show wpAny _ _ (field (.ref it) 1 >>= _) _ _ s
 refine wpAny_bind (wpAny_field ho hd (x:=.int i 0) rfl ?_)
 show wpAny _ _ (seqItems? (.ref l) >>= _) _ _ s
 refine wpAny_bind (wpAny_seqItems hol hdl ?_)
 simp only [Int.toNat_natCast,hx]
 refine wpAny_bind (wpAny_setField ho hd (by simp) (wpAny_pure ⟨x,rfl,wpAny_pure (hQ _ ?_ (Heap.SameBut.update ..))⟩))
 exact⟨_,Heap.get?_update_self _ ho (Obj.isFreed_of_fields (Obj.data_mapFields hd _)),(Obj.cls_mapFields ..).trans hc,by
  rw [Obj.data_mapFields hd];simp [rawInt]⟩
theorem mU {it l:Addr}{i:Nat}{items:Array Value}{Q:Value→Shared→Prop}(hh:A.handled=none)
  (hit:s.heap.IsTupleIter it l i) (hl:s.heap.IsTuple l items) (hx:items[i]? = none)
  (hE:∀ h' e,Heap.ExtBut it s.heap h'→(∃ o,h'.get? e=some o∧o.cls=.type "StopIteration")→E (.ref e) { s with heap:=h' }) :
  wpAny (model prog w) A (Builtin.SmallTypes.nextOf (.ref it)) Q E s:=by
 obtain⟨o,ho,hc,hd⟩:=id hit
 obtain⟨ol,hol,_,nl,hdl⟩:=hl
 unfold Builtin.SmallTypes.nextOf
 refine wpAny_bind (wpAny_callSpecial?_slot (name:=Str.ofString "__next__") hit.typeIs F.slot_tuple_iterator_next
  (wpAny_call_entry F.slot_tuple_iterator_next hit.typeIs F.entry_tuple_iterator_next ?_ (F.args_tuple_iterator_next_1 _)))
 show wpAny _ _ (field (.ref it) 0 >>= _) _ _ s
 refine wpAny_bind (wpAny_field ho hd (x:=.ref l) rfl ?_)
 show wpAny _ _ (if (Value.ref l == Value.none)=true then _ else _) _ _ s
 rw [if_neg (show ¬ ((Value.ref l == Value.none)=true) from Bool.false_ne_true)]
 show wpAny _ _ (field (.ref it) 1 >>= _) _ _ s
 refine wpAny_bind (wpAny_field ho hd (x:=.int i 0) rfl ?_)
 show wpAny _ _ (seqItems? (.ref l) >>= _) _ _ s
 refine wpAny_bind (wpAny_seqItems hol hdl ?_)
 simp only [Int.toNat_natCast,hx]
 refine wpAny_bind (wpAny_rule (wpAny_bind (wpAny_setField ho hd (by simp) ?_)))
 show wpAny _ _ (newExc (.type "StopIteration") [] >>= _) _ _ _
 refine wpAny_bind ?_
 simp only [newExc,newTuple]
 refine wpAny_bind (wpAny_newObj_type ?_ (by size_fits))
 refine wpAny_bind (m:=firstArgMember _ _) (wpAny_of_eq (a:=Value.none) (by first|rfl|(simp only [firstArgMember];rfl)) ?_)
 refine wpAny_newObj_type ?_ (by size_fits)
 simp only [raiseNew]
 refine wpAny_bind (wpAny_handled ?_)
 first|rw [show A.in1.handled=none from hh] | rw [hh]
 refine wpAny_bind (wpAny_pure (wpAny_throw ?_))
 exact hE _ _ (((Heap.SameBut.update ..).extBut.push _).push _) ⟨_,ZJ _ rfl,rfl⟩
end
theorem oA {prog:Program}{w:World}{A:Around}(hh:A.handled=none)(it l:Addr)(hne:l≠it)(items:Array Value) :
  Draws prog w A it [it,l] items.size (fun i v=>items[i]? = some v) (fun i h=>h.IsTupleIter it l i∧h.IsTuple l items) where
 live:=fun _ _ st=>let ⟨o,ho,_⟩:=st.1;⟨o,ho⟩
 frame:=fun _ _ _ st hk=>⟨st.1.at fun o e=>hk it (by simp) o e,let ⟨o,ho,r⟩:=st.2;⟨o,hk l (by simp) o ho,r⟩⟩
 item:=fun i s Q E hi st hQ=>by
  have hx:items[i]? = some items[i]:=by simp [hi]
  refine lL st.1 st.2 hx fun h' hit' hs' => ?_
  refine hQ _ h' s.toks hx ⟨hit',?_⟩ hs'
  obtain⟨o,ho,r⟩:=st.2
  exact⟨o,(hs'.2 l hne).trans ho,r⟩
 done:=fun s Q E st hE=>mU hh st.1 st.2 (by simp) hE
def Ite (K:ZX) (a:Addr):It :=
 ⟨fun i H=>∃ xs x,SqT K H a xs∧xs[i]? = some x,fun i H x H'=>∃ q v,x=.ref q∧H q=none∧H'=upd H q (.tup [.int (i:Nat),v]) ∧ ∀ xs,SqT K H a xs→xs[i]? = some v,fun i H=>∃ xs,SqT K H a xs∧xs.length=i⟩
theorem Fb {P:Program}{w:World}{K:ZX}{elts:List Expr}{k:Nat}{pos:Pos}(e it a:Addr):Bc P w K (.Tuple elts k pos) (Ite K a) [e,it] e (fun i h=>(∃ old,IsEnum h e it (i:Nat) old)∧h.IsTupleIter it a i) where
 mem:=by simp
 obj:=fun i h st b hb=>by
  obtain⟨⟨old,he⟩,o,ho,hc,hd⟩:=st
  rcases List.mem_cons.mp hb with rfl|hb
  ·exact⟨_,he,fun v z=>by
    have z':Data.fields _=Data.cell v:=z
    cases z'⟩
  ·have:b=it:=by simpa using hb
   subst this
   exact⟨o,ho,fun v z=>by rw [hd] at z;cases z⟩
 keep:=fun i h h' st kk=>by
  obtain⟨⟨old,he⟩,st⟩:=st
  exact⟨⟨old,kk e (by simp) _ he⟩,st.at fun o x=>kk it (by simp) o x⟩
 item:=by
  intro X hP hw hK hc i pins s σ H E I hf st hg
  subst hP hw hK
  obtain⟨⟨old,he⟩,hit⟩:=st
  obtain⟨xs,x,hq,hx⟩:=hg
  obtain⟨its,rv,p,hz⟩:=I.tuple hq
  have ht:s.heap.IsTuple a its.toArray:=p
  obtain⟨oi,hoi,hci,hdi⟩:=id hit
  obtain⟨oa,hoa,hca,na,hda⟩:=id ht
  have hei:e≠it:=fun z=>by
   subst z
   have he':s.heap.get? e=_:=he
   rw [hoi] at he';cases he';exact y8 hci (by decide)
  have hea:e≠a:=fun z=>by
   subst z
   have he':s.heap.get? e=_:=he
   rw [hoa] at he';cases he';exact y8 hca (by decide)
  have hai:a≠it:=fun z=>by
   subst z
   rw [hoi] at hoa;cases hoa;rw [hci] at hca;exact y8 hca (by decide)
  obtain⟨e0,e1,e2,e3,e4,e5⟩:=hf e (by simp)
  obtain⟨f0,f1,f2,f3,f4,f5⟩:=hf it (by simp)
  have hlt:i < its.toArray.size:=by
   have:=(List.getElem?_eq_some_iff.mp hx).1
   have hl:=rv.length
   simp;omega
  refine wpAny_pyNext_enum_itemD (oA (prog:=X.prog) (w:=X.w) (A:=X.A.in1) (I.ok.hd hc) it a hai its.toArray) he ⟨hit,ht⟩ hlt hei (by simp;exact⟨hei,hea⟩) fun y h' tk hy heo hst' htup hsz hk => ?_
  refine⟨_,rfl,wpAny_letOwnedTupleGo_enum heo fun h2 he2 hs2 => ?_⟩
  replace hs2:Heap.SameBut e h' h2:=hs2
  obtain⟨u,hu,ru⟩:=rv.get hx
  have hyu:y=u:=by
   have:its.toArray[i]? = some u:=by simpa using hu
   rw [hy] at this;exact ZT this
  subst hyu
  have elt:e < s.heap.objs.size:=ZI he
  have ilt:it < s.heap.objs.size:=ZI hoi
  have hN:H s.heap.objs.size=none:=I.hok.fresh (ZL _)
  have keep:∀ b o,b≠e→b≠it→s.heap.get? b=some o→h2.get? b=some o:=fun b o b1 b2 q=>(hs2.2 b b1).trans (hk b o b1 b2 q)
  have htup2:h2.get? s.heap.objs.size=some { cls:=.type "tuple",data:=.seq #[.int i tk,y] }:=(hs2.2 _ (Nat.ne_of_gt elt)).trans htup
  have nch:∀ b,b∉([e,it] : List Addr)→b≠e∧b≠it:=fun b hb=>by simpa using hb
  refine⟨.ref s.heap.objs.size,upd H s.heap.objs.size (.tup [.int (i:Nat),x]),?_,rfl,⟨_,x,rfl,hN,rfl,fun ys hys=>by rw [I.tuple_inj hys hq];exact hx⟩,⟨⟨_,by simpa using he2⟩,hst'.1.extBut hs2.extBut (Ne.symm hei)⟩,fun b hb => ?_⟩
  ·suffices I2:L2.Inv X pins σ (upd H s.heap.objs.size (.tup [.int (i:Nat),x])) { s with heap:=h2,gens:=s.gens,drawn:=s.drawn,toks:=tk + 1 } from I2
   refine I.step (g':=s.gens) (d':=s.drawn) (t':=tk + 1) (ch:=[e,it]) (fun b hb => ?_) (fun b o _ _ hb q _=>keep b o (nch b hb).1 (nch b hb).2 q) (fun b o _ _ hb q _=>⟨o.slots,keep b o (nch b hb).1 (nch b hb).2 q⟩) (fun b o _ q n => ?_) (fun b o hb q=>⟨o,keep b o (nch b hb).1 (nch b hb).2 q⟩)
    (fun b ys q => ?_) (fun b o u q => ?_) (fun b ps q=>⟨#[],?_⟩) (fun m hm => ?_) (fun b u q => ?_) I.bare
   ·rcases List.mem_cons.mp hb with rfl|hb
    ·exact⟨e3,e1,e4,e5⟩
    ·have:b=it:=by simpa using hb
     subst this
     exact⟨f3,f1,f4,f5⟩
   ·rw [ax (ZN (ZI q))];exact n
   ·rw [ax (bb q hN)];exact q
   ·rw [ax (bb q hN)];exact q
   ·rw [ax (bb q hN),q];simp
   ·obtain⟨o,es,ep,ho,r⟩:=hm
    exact⟨o,es,ep,keep _ o (Ne.symm e1) (Ne.symm f1) ho,r⟩
   ·by_cases hb:b=s.heap.objs.size
    ·subst hb
     rw [aO] at q
     cases q
     exact⟨by show 2≤sizeLine;rw [sizeLine_eq];decide,[.int i tk,y],.cons ⟨tk,rfl⟩ (.cons ru .nil),_,htup2,rfl,_,rfl⟩
    ·rw [ax hb] at q
     have ne1:∀ c v,H c=some v→c≠e:=fun c v z w=>by rw [w,e0] at z;cases z
     have ne2:∀ c v,H c=some v→c≠it:=fun c v z w=>by rw [w,f0] at z;cases z
     refine (I.hok b u q).stay (fun c v hc' z => ?_) (fun c z=>by rw [ax (bb z hN)];exact z) fun c ys z=>by rw [ax (bb z hN)];exact z
     rcases hc' with w|w
     ·subst w;exact keep c v (ne1 c _ q) (ne2 c _ q) z
     ·exact keep c v (ne1 c _ w) (ne2 c _ w) z
  ·have:b≠s.heap.objs.size:=by
    rcases List.mem_cons.mp hb with rfl|hb
    ·exact ZN elt
    ·have:b=it:=by simpa using hb
     subst this
     exact ZN ilt
   rw [ax this]
   exact (hf b hb).1
 done:=by
  intro X hP hw hK hc i pins s σ H E I hf st hg
  subst hP hw hK
  obtain⟨⟨old,he⟩,hit⟩:=st
  obtain⟨xs,hq,hx⟩:=hg
  obtain⟨its,rv,p,hz⟩:=I.tuple hq
  have ht:s.heap.IsTuple a its.toArray:=p
  obtain⟨oi,hoi,hci,hdi⟩:=id hit
  obtain⟨oa,hoa,hca,na,hda⟩:=id ht
  have hai:a≠it:=fun z=>by
   subst z
   rw [hoi] at hoa;cases hoa;rw [hci] at hca;exact y8 hca (by decide)
  obtain⟨f0,f1,f2,f3,f4,f5⟩:=hf it (by simp)
  have hsz:its.toArray.size=i:=by have:=rv.length;simp;omega
  refine wpAny_pyNext_enum_endD (oA (prog:=X.prog) (w:=X.w) (A:=X.A.in1) (I.ok.hd hc) it a hai its.toArray) he ⟨by rw [hsz];exact hit,ht⟩ fun h' hx'=>⟨rfl,I.turned (t':=s.toks) (fun b o hb e=>hx' b o hb e) f0 f1 f3 f4 f5⟩
 self:=fun _ _ _ _ _ st h=>by
  obtain⟨⟨old,he⟩,_⟩:=st
  exact wpAny_pyIter_enum he h
section
variable {X:Cx} {pos p tp:Pos} {elts:List Expr} {tk:Nat}
def iEn (K:ZX) (ta:TE):TI:=fun σ H R=>ta σ H fun x H1=>∃ a xs,x=.ref a∧SqT K H1 a xs∧(xs.length≤sizeLine→R (Ite K a) H1)
theorem KY {a:Expr} {ta:TE} (hg:Gl X "enumerate") (hm:X.mg "enumerate" = none) (ha:PE X a ta) (hs:starEach [a] X.env=[(false,eval a X.env)]:=by rfl):PI X (.Tuple elts tk tp) (.Call (.Name "enumerate" p) [a] [] pos) (iEn X.K ta):=by
 intro pins s σ H R I h
 have hpa:=cf ha dX hs
 refine Call_ (iS I hg hm PyProof.Rows.boot_enumerate (PyProof.Rows.callWith_type1 (thn (hpa pos pins s σ H (fun vs H1=>∃ a xs,vs=[.ref a]∧SqT X.K H1 a xs∧(xs.length≤sizeLine→R (Ite X.K a) H1)) I ?_) fun us s1 ⟨vs,H1,I1,r1,q1⟩ => ?_) hs rfl))
 ·show ta σ H fun x H1=>_
  have key:∀ (x:V) (H1:Hp),(∃ a xs,x=.ref a∧SqT X.K H1 a xs∧(xs.length≤sizeLine→R (Ite X.K a) H1))=(∃ a xs,[x] = [.ref a]∧SqT X.K H1 a xs∧(xs.length≤sizeLine→R (Ite X.K a) H1)):=fun x H1=>by simp
  have h':ta σ H fun x H1=>∃ a xs,x=.ref a∧SqT X.K H1 a xs∧(xs.length≤sizeLine→R (Ite X.K a) H1):=h
  simp only [key] at h'
  exact h'
 ·obtain⟨a,xs,e,hq,q⟩:=q1
  subst e
  obtain⟨u,rfl,ru⟩:=aI.one r1
  cases (show u=Value.ref a from ru)
  obtain⟨its,rv,pt,hz⟩:=I1.tuple hq
  refine jM (show s1.heap.IsTuple a its.toArray from pt) fun h' he hit hsz hk => ?_
  refine wpAny_pyIter_enum (s:={ s1 with heap:=h' }) he ?_
  have I2:Inv X pins σ H1 { s1 with heap:=h' }:=I1.kept (t':=s1.toks) hk
  refine⟨s1.heap.objs.size + 1,[s1.heap.objs.size + 1,s1.heap.objs.size],_,_,H1,rfl,I2,Fb (s1.heap.objs.size + 1) s1.heap.objs.size a,⟨⟨_,by simpa using he⟩,hit⟩,fun b hb => ?_,q hz⟩
  have hb':s1.heap.objs.size≤b:=by
   rcases List.mem_cons.mp hb with e|hb
   ·rw [e];exact Nat.le_succ _
   ·have:b=s1.heap.objs.size:=by simpa using hb
    rw [this];exact ZL _
  exact I1.fpOk hb' (I1.hok.fresh hb')
theorem Fc {K:ZX}{ρ:List Addr}{H:Hp}{hd:Hd}{q:Addr}{l:List D}{vs:List V}(r:RH K ρ H hd)(hq:H q=some (.tup vs))(rv:RDs K ρ H l vs)(hz:vs.length≤sizeLine) :
  sC K ρ H (Ite K q) ((List.range l.length).zip l |>.map fun p=>.tup [.int (p.1:Nat),p.2]) none where
 go:=fun ρ' H' hd' i d ex rh _ hi=>by
  have k:=r.kp ex
  obtain⟨hil,hi2⟩:=List.getElem?_eq_some_iff.mp hi
  have hl:i < l.length:=by simpa using hil
  have hd:d=.tup [.int (i:Nat),l[i]]:=by rw [← hi2];simp
  subst hd
  obtain⟨v,hv,rd⟩:=(rv.mono k).get (i:=i) (d:=l[i]) (by simp [hl])
  have sq:SqT K H' q vs:=SqT.of (k.tup q vs hq)
  refine⟨⟨vs,v,sq,hv⟩,fun x H2 y => ?_⟩
  obtain⟨q2,v2,rfl,hn,rfl,y⟩:=y
  have:=y vs sq
  rw [hv] at this
  cases this
  have sm:=bO (o:=HO.tup [.int (i:Nat),v]) hn
  refine⟨sm,?_⟩
  simp only [RD]
  exact⟨q2,_,rfl,aO,RDs.cons (by simp only [RD]) (RDs.cons (rd.mono (Kp.same sm)) RDs.nil)⟩
 stop:=fun ρ' H' hd' ex rh _=>⟨vs,SqT.of ((r.kp ex).tup q vs hq),by rw [← rv.length];simp⟩
 sz:=by
  have:=rv.length
  simp;omega
theorem KZ {a:Expr} {f:EF} (hg:Gl X "enumerate") (hm:X.mg "enumerate" = none) (ha:ME X a f) (hs:starEach [a] X.env=[(false,eval a X.env)]:=by rfl):MI X (.Tuple elts tk tp) (.Call (.Name "enumerate" p) [a] [] pos) (Ho f):=by
 refine PI.imp (KY hg hm ha hs) fun σ H R ⟨ρ,σd,hd,rs,pp⟩=>⟨ρ,σd,hd,rs,?_⟩
 unfold Ho at pp
 cases e:f σd hd with
 | exc x h1=>rw [e] at pp;exact pp
 | bad=>rw [e] at pp;exact pp
 | ok d hd1 =>
  rw [e] at pp
  simp only [aN] at pp
  intro v H1 ρ1 ex1 rs1 rv
  cases d<;>try exact pp.elim
  rename_i l
  simp only [rD,RD] at rv
  obtain⟨q,vs,rfl,hq,rvs⟩:=rv
  exact⟨q,vs,rfl,SqT.of hq,fun hz=>pp _ H1 ρ1 ex1 rs1 (Fc rs1.hp hq rvs hz)⟩
end
end Fm
namespace Fm
open PySem PySem.Spec L2 PySem.W PyProof.Rows
section
variable {prog:Program} {w:World} {A:Around} {E:Value→Shared→Prop} {s:Shared}
theorem Br {a:Addr} {vs:List Value} {n:Nat} {P:PySem.Fin→Shared→Prop} (ho:s.heap.get? a=some (seqObj "list" vs.toArray n)) (h2:vs.length < 2)
  (h:P (.done (.ret .none)) { s with heap:=sortedHeap s.heap a vs vs.toArray }):wpAny (model prog w) A (Builtin.«list.sort» ⟨[.ref a],[]⟩) P E s:=by
 rw [list_sort_plain]
 have ha:a < s.heap.objs.size:=ZI ho
 refine wpAny_bind (listItems_at ho rfl ?_)
 refine wpAny_bind (listUpdate_at ho rfl ?_)
 obtain⟨e1,ho1⟩ : ∃ e1,(s.heap.update a (Obj.mapSeq fun _ => #[])).get? a=some (seqObj "list" #[] e1):=⟨_,get?_update_seq ho (fun _ => #[])⟩
 refine wpAny_bind (seqEpoch_at ho1 rfl ?_)
 refine wpAny_bind (wpAny_newTuple ?_)
 refine wpAny_bind (wpAny_newList ?_)
 refine wpAny_holding ?_
 have ho6:(((s.heap.update a (Obj.mapSeq fun _ => #[])).push (seqObj "tuple" vs.toArray 0)).push (seqObj "list" #[] 0)).get? a=some (seqObj "list" #[] e1):=by
  rw [Heap.get?_push_ne _ _ _ (by rw [size_push',Heap.size_update];exact ZN (Nat.lt_succ_of_lt ha)),Heap.get?_push_ne _ _ _ (by rw [Heap.size_update];exact ZN ha)]
  exact ho1
 show wpAny (model prog w) A _ P E { s with heap:=((s.heap.update a (Obj.mapSeq fun _ => #[])).push (seqObj "tuple" vs.toArray 0)).push (seqObj "list" #[] 0) }
 dsimp only
 have hsz:vs.toArray.size=vs.length:=by simp
 have h2':vs.toArray.size < 2:=by rw [hsz];exact h2
 rw [if_pos h2',if_pos h2']
 refine wpAny_bind (wpAny_pure ?_)
 rw [StateT.run_pure]
 refine wpAny_bind (wpAny_pure ?_)
 dsimp only
 refine wpAny_bind (seqEpoch_at ho6 rfl ?_)
 refine wpAny_bind (listUpdate_at ho6 rfl ?_ (hsz2:=by rw [Array.size_map];show (pairsOf vs).size≤_;rw [pairsOf_size,sizeLine_eq];omega))
 simp only [bne_self_eq_false,Bool.false_eq_true,if_false]
 have e:(arrOf (SortSt.mk' general' (vs.toArray.zip vs.toArray) #[] 7 none)).map (·.2)=vs.toArray:=by
  show (vs.toArray.zip vs.toArray).map (·.2)=vs.toArray
  apply Array.ext
  ·simp
  ·intro i h1 h2
   simp
 refine wpAny_pure ?_
 have h':=h
 unfold sortedHeap at h'
 rw [e]
 exact h'
theorem NF {Q:Bool→Shared→Prop}:∀ (ns ms:List Int) {xs ys:List Value} (i:Nat),IntsAre xs ns→IntsAre ys ms→Q (Fm.bZ ns ms) s→KatLex prog w A true (decide (xs.length < ys.length)) Q (xs.zip ys) i s:=by
 intro ns
 induction ns with
 | nil =>
  intro ms xs ys i hx hy h
  cases hx
  cases ms with
  | nil=>cases hy;exact h
  | cons m ms =>
   cases hy
   have h':Q true s:=h
   exact h'
 | cons n ns ih =>
  intro ms xs ys i hx hy h
  cases hx with
  | cons _ t r =>
   cases ms with
   | nil =>
    cases hy
    have h':Q false s:=h
    exact h'
   | cons m ms =>
    cases hy with
    | cons _ t' r' =>
     rename_i xs ys
     refine kat_cons (SeqAt.EqAt.int_int n t m t' prog w _ _ ?_)
     by_cases e:n=m
     ·subst e
      rw [show (n == n)=true by simp]
      refine kat_yes ?_
      have h':Q (Fm.bZ ns ms) s:=by simpa [Fm.bZ] using h
      have:=ih ms (i + 1) r r' h'
      have e2:decide ((Value.int n t :: xs).length < (Value.int n t' :: ys).length)=decide (xs.length < ys.length):=by simp
      rw [e2]
      exact this
     ·rw [show (n == m)=false by simpa using e]
      refine kat_no ?_
      have h':Q (decide (n < m)) s:=by simpa [Fm.bZ,e] using h
      cases i with
      | zero=>exact oneLt_int h'
      | succ i =>
       have:(true && (i + 1 == 0))=false:=by simp
       rw [this]
       exact kat_one _ _ (lt_int (by first|exact⟨_,rfl,h'⟩|exact h'))
end
theorem NG {h:Heap}{a:Addr}{m m':Str→Option Value}(x:h.Ns a m)(y:h.Ns a m'):m=m':=by
 obtain⟨o,es,ep,ho,hd,_,r⟩:=x
 obtain⟨o',es',ep',ho',hd',_,r'⟩:=y
 rw [ho] at ho';cases ho'
 rw [hd] at hd';cases hd'
 funext z
 rw [← r z,← r' z]
inductive cG (H:Hp):List V→List (List Int)→Prop
 | nil:cG H [] []
 | cons {a:Addr} {r:List Int} {vs:List V} {rs:List (List Int)}:H a=some (.tup (r.map V.int))→cG H vs rs→cG H (.ref a :: vs) (r :: rs)
theorem cG.get {H:Hp}:∀ {vs:List V} {rs:List (List Int)} {i:Nat} {v:V},cG H vs rs→vs[i]? = some v → ∃ a,v=.ref a∧H a=some (.tup ((rs.getD i []).map V.int))
 | _,_,_,_,.nil,e=>by simp at e
 | _,_,0,_,.cons h t,e=>by simp at e;subst e;exact⟨_,rfl,h⟩
 | _,_,i + 1,v,.cons h t,e=>by
  obtain⟨a,h1,h2⟩:=cG.get (i:=i) (v:=v) t (by simpa using e)
  exact⟨a,h1,by simpa using h2⟩
theorem cG.length {H:Hp}:∀ {vs:List V} {rs:List (List Int)},cG H vs rs→vs.length=rs.length
 | _,_,.nil=>rfl
 | _,_,.cons _ t=>by simp [cG.length t]
section
variable {X:Cx} {pos p:Pos}
theorem Ef {i:Int}{u:Value}(r:bg (.int i) u):∃ t,u=.int i t:=r
end
end Fm
namespace Fm
open PySem PySem.Spec L2
section
variable {X:Cx}
theorem mv (i:Nat) {x:Str} {pos:Pos} (hN:X.N[i]? = some x:=by rfl) (hv:Vis X.env.scope x:=by first|exact Or.inl rfl|exact Or.inr (Or.inl rfl)|exact Or.inr (Or.inr rfl)) (hd:(x == ("__debug__" : Str))=false:=by decide)
  (hcd:(x == ("__classdict__" : Str))=false:=by decide):ME X (.Name x pos) (aa i):=No hN hv hd hcd
end
theorem dr {k:Nat}{A:Around}(r:gF k A):A.units + 24 < cLine:=by have:=r.un;omega
def aW (X:Cx):List (Str × NameKind)→Prop
 | []=>True
 | y :: r=>(y.2=.free→X.env.kindOf y.1=some .cell∨X.env.kindOf y.1=some .free)∧aW X r
def bT (X:Cx) (scope:Scope):List Str→List Nat→Prop
 | [],[]=>True
 | x :: xs,i :: is=>(X.N[i]? = some x∧scope.names.lookup x=some .free)∧bT X scope xs is
 | _,_=>False
theorem aW.get {X:Cx}:∀ {l:List (Str × NameKind)},aW X l → ∀ y∈l,y.2=.free→X.env.kindOf y.1=some .cell∨X.env.kindOf y.1=some .free
 | [],_,y,hy=>by simp at hy
 | z :: r,h,y,hy=>by
  rcases List.mem_cons.mp hy with rfl|hy
  ·exact h.1
  ·exact aW.get h.2 y hy
theorem bT.get {X:Cx}{scope:Scope}:∀ {capn:List Str} {caps:List Nat},bT X scope capn caps→(∀ (j:Nat) x,capn[j]? = some x → ∃ i,caps[j]? = some i∧X.N[i]? = some x∧scope.names.lookup x=some .free)∧capn.length=caps.length
 | [],[],_=>⟨fun j x e=>by simp at e,rfl⟩
 | x :: xs,i :: is,h=>by
  obtain⟨h1,h2⟩:=bT.get h.2
  refine⟨fun j y e => ?_,by simp [h2]⟩
  cases j with
  | zero=>simp at e;subst e;exact⟨i,rfl,h.1⟩
  | succ j=>exact h1 j y (by simpa using e)
 | [],_ :: _,h=>h.elim
 | _ :: _,[],h=>h.elim
theorem aW.nil {X:Cx}:aW X []:=trivial
theorem aW.cons {X:Cx}{y:Str × NameKind}{r:List (Str × NameKind)}(h:y.2=.free→X.env.kindOf y.1=some .cell∨X.env.kindOf y.1=some .free)(t:aW X r):aW X (y :: r):=⟨h,t⟩
theorem bT.nil {X:Cx}{scope:Scope}:bT X scope [] []:=trivial
theorem bT.cons {X:Cx}{scope:Scope}{x:Str}{xs:List Str}{i:Nat}{is:List Nat}(h1:X.N[i]? = some x)(h2:scope.names.lookup x=some .free)(t:bT X scope xs is):bT X scope (x :: xs) (i :: is):=⟨⟨h1,h2⟩,t⟩
theorem bY.mk' {X:Cx}{scope:Scope}{own capn:List Str}{caps:List Nat}(k:scope.kind=.function)(c:∀ y∈scope.names,y.2 ≠ .cell)(n:∀ y∈scope.names,y.2=.local→scope.names.lookup y.1=some .local)(f:aW X scope.names)(cp:bT X scope capn caps):bY X scope own capn caps :=
 ⟨k,c,n,f.get,cp.get.1,cp.get.2⟩
end Fm
namespace Fm
open PySem PySem.Spec L2
section
variable {K:ZX} {ρ:List Addr} {H:Hp}
theorem qg {d:D}{v:V}(h:RD K ρ H d v)(f:cF d=true):ii v=true:=by
 cases d<;>simp only [RD] at h<;>first|(subst h;rfl)|(simp [cF] at f)
theorem eqS {x y:List Nat}:(x == y)=(toS x == toS y):=by
 by_cases z:x=y
 ·subst z;rw [beq_self_eq_true,beq_self_eq_true]
 ·have : ¬ toS x=toS y:=fun q=>z (by have:=congrArg (fun (s:Str)=>s.cps.toList) q;simpa [toS] using this)
  rw [beq_eq_false_iff_ne.mpr z,beq_eq_false_iff_ne.mpr this]
theorem Eg {d k:D}{v w:V}(h:RD K ρ H d v)(g:RD K ρ H k w)(f:cF d=true)(f2:cF k=true):eqF d k=eqV v w:=by
 cases d with
 | non=>simp only [RD] at h;subst h;cases k<;>simp only [RD] at g<;>first|(subst g;rfl)|(simp [cF] at f2)
 | bl a=>simp only [RD] at h;subst h;cases k<;>simp only [RD] at g<;>first|(subst g;rfl)|(simp [cF] at f2)
 | int a=>simp only [RD] at h;subst h;cases k<;>simp only [RD] at g<;>first|(subst g;rfl)|(simp [cF] at f2)
 | str a=>simp only [RD] at h;subst h;cases k<;>simp only [RD] at g<;>first|(subst g;rfl)|(subst g;exact eqS)|(simp [cF] at f2)
 | tup l=>simp [cF] at f
 | ref n=>simp [cF] at f
 | lit l=>simp [cF] at f
 | exn c l=>simp [cF] at f
theorem mV:∀ {l:List D} {vs:List V},RDs K ρ H l vs→l.all cF=true→vs.all ii=true
 | [],_,h,_=>by simp only [RDs] at h;subst h;rfl
 | d :: l,_,h,f=>by
  simp only [RDs] at h
  obtain⟨v,r,rfl,h1,h2⟩:=h
  simp only [List.all_cons,Bool.and_eq_true] at f ⊢
  exact⟨qg h1 f.1,mV h2 f.2⟩
theorem Eh {k:D}{w:V}(g:RD K ρ H k w)(fk:cF k=true):∀ {l:List D} {vs:List V},RDs K ρ H l vs→l.all cF=true→(l.any fun z=>eqF z k)=vs.any fun z=>eqV z w
 | [],_,h,_=>by simp only [RDs] at h;subst h;rfl
 | d :: l,_,h,f=>by
  simp only [RDs] at h
  obtain⟨v,r,rfl,h1,h2⟩:=h
  simp only [List.all_cons,Bool.and_eq_true] at f
  rw [List.any_cons,List.any_cons,Eg h1 g f.1 fk,Eh g fk h2 f.2]
theorem u6 {k:D}{w:V}(g:RD K ρ H k w)(fk:cF k=true):∀ {l:List D} {vs:List V},RDs K ρ H l vs→l.all cF=true→(l.countP fun z=>eqF z k)=vs.countP fun z=>eqV z w
 | [],_,h,_=>by simp only [RDs] at h;subst h;rfl
 | d :: l,_,h,f=>by
  simp only [RDs] at h
  obtain⟨v,r,rfl,h1,h2⟩:=h
  simp only [List.all_cons,Bool.and_eq_true] at f
  rw [List.countP_cons,List.countP_cons,Eg h1 g f.1 fk,u6 g fk h2 f.2]
end
section
variable {X:Cx} {pos:Pos}
theorem K0 {K:ZX}{neg:Bool}{ρ:List Addr}{H:Hp}{σd:Sd}{hd:Hd}{σ:St}{d k:D}{v w:V}{Q:VK}{b:Bool}(rs:RS K ρ H σd hd σ)(rv:RD K ρ H d v)(rw':RD K ρ H k w)(e:inL hd d k=some b)
  (q:Q (.bl (if neg then !b else b)) H):rIn K neg v w H Q:=by
 simp only [inL] at e
 cases c:gI hd k with
 | none=>rw [c] at e;cases e
 | some l =>
  rw [c] at e
  simp only at e
  split at e
  ·rename_i hf
   cases e
   rw [Bool.and_eq_true] at hf
   obtain⟨p,vs,rfl,sq,rvs⟩:=wf rs.hp rw' c
   refine⟨p,vs,rfl,sq.imp id SqT.of,qg rv hf.1,mV rvs hf.2,?_⟩
   unfold inV
   rw [← Eh rv hf.1 rvs hf.2]
   exact q
  ·cases e
theorem Mm {K:ZX}:Og K oIn (rIn K false):=by
 intro ρ H σd hd σ d k v w Q rs rv rw' p
 unfold oIn at p
 cases e:inL hd d k with
 | none=>rw [e] at p;exact p.elim
 | some b=>rw [e] at p;exact K0 rs rv rw' e (p.here rs (by simp only [rD,RD];rfl))
theorem gO {i:Int}{j:Nat}{p2:Pos}:ME X (.UnaryOp .USub (.Constant (.int i) j p2) pos) (fC (.int (-i))) :=
 PE.imp (Pn M8 G3) fun σ H Q ⟨ρ,σd,hd,rs,p⟩=>⟨i,rfl,p.here rs (by simp only [rD,RD])⟩
def NJ (K:ZX):V→List V→Hp→VK→Prop:=fun x vs H Q=>∃ l xs y,x=.ref l∧vs=[y]∧SqL K H l xs∧ii y=true∧xs.all ii=true∧Q (.int (xs.countP fun z=>eqV z y)) H
theorem HE {x:V}:∀ {xs:List V} {us:List Value},aI xs us→xs.all ii=true→us.countP (eqU x)=xs.countP fun y=>eqV y x
 | _,_,.nil,_=>rfl
 | y :: xs,u :: us,.cons r t,f=>by
  rw [List.all_cons,Bool.and_eq_true] at f
  rw [List.countP_cons,List.countP_cons,Bk r f.1,HE t f.2]
theorem HF:MtM X "list.count" (NJ X.K):=by
 intro pins s σ H x vs v us Q I rx rv h
 obtain⟨l,xs,y,rfl,rfl,sq,fy,fs,q⟩:=h
 cases rx
 obtain⟨u,rfl,ru⟩:=rv.one
 obtain⟨its,r,pl,hz⟩:=I.list sq
 obtain⟨o,ho,hc,n,hd⟩:=pl.isList
 obtain⟨c,dd,dt,sl⟩:=o
 replace hc:c=.type "list" := hc
 replace hd:dt=.seq its.toArray n:=hd
 subst hc hd
 refine call_meets F.slot_list_count ⟨_,ho,rfl⟩ F.entry_list_count (F.args_list_count_2 _ _) (SeqAt.list_countAt l its.toArray n dd sl u (eqU y)) ⟨ho,fun w hw=>lA ru fy r fs w (by simpa using hw),?_⟩
 refine⟨.int _,H,I.tok _,⟨_,rfl⟩,?_⟩
 rw [show (its.toArray.toList.countP (eqU y))=xs.countP fun z=>eqV z y from HE r fs]
 exact q
theorem HG {o e:Expr} {fo fe:EF} {apos cpos:Pos} (ho:ME X o fo) (he:ME X e fe) (hbase:attributeBase o "count" X.env (eval o X.env)=eval o X.env:=by rfl)
  (hfew:((backTo cpos (starEach [e] X.env)).all (fun x => !x.1) && (backToKw cpos (keywordEach [] X.env)).all (fun x=>x.1.isSome)
   && decide (([e] : List Expr).length + ([] : List Keyword).length + (if ([] : List Keyword).isEmpty then 0 else 1) < 30))=true:=by rfl)
  (hline:(apos.endLine == cpos.line)=true:=by rfl) (hs:starEach [e] X.env=(false,eval e X.env) :: starEach [] X.env:=by rfl) :
  ME X (.Call (.Attribute o "count" apos) [e] [] cpos) (v6 fo fe):=by
 refine PE.imp (Mi PySem.F.plainAttrs_list PySem.F.slot_list_count PySem.F.type_list_count HF ho (cf he dX hs) hbase hfew hline hs) fun σ H Q ⟨ρ,σd,hd,rs,pp⟩=>⟨ρ,σd,hd,rs,?_⟩
 unfold v6 at pp
 refine (bx.bind (R:=rD X.K) pp).imp fun v H1 ⟨ρ1,d,hd1,e1,rs1,rv,p1⟩ => ?_
 cases c1:aS hd1 d with
 | none=>simp only [c1] at p1;exact p1.elim
 | some l1 =>
  simp only [c1] at p1
  obtain⟨q,vs,hv,sq,rvs⟩:=dy rs1.hp rv c1
  subst hv
  refine⟨.inl ⟨rfl,vs,sq⟩,ρ1,σd,hd1,rs1,(bx.bind (R:=rD X.K) p1).imp fun w H2 ⟨ρ2,k,hd2,e2,rs2,rw',p2⟩ => ?_⟩
  cases c2:aS hd2 d with
  | none=>simp only [c2] at p2;exact p2.elim
  | some l =>
   simp only [c2] at p2
   split at p2
   ·rename_i hf
    rw [Bool.and_eq_true] at hf
    obtain⟨q',vs',hv',sq',rvs'⟩:=dy rs2.hp (rv.mono (rs1.hp.kp e2)) c2
    refine⟨q',vs',w,hv',rfl,sq',qg rw' hf.1,mV rvs' hf.2,?_⟩
    rw [← u6 rw' hf.1 rvs' hf.2]
    exact p2.here rs2 (by simp only [rD,RD])
   ·exact p2.elim
end
end Fm
namespace Fm
open PySem PySem.Spec L2 PySem.W PyProof.Rows
theorem NK {l r:Nat}(h:l < r):l≤(l + r) / 2∧(l + r) / 2 < r:=by omega
section
variable {cmp:Nat→Nat→(Bool→Shared→Prop)→Shared→Prop} {n:Nat} {s:Shared} {lt:Nat→Nat→Bool}
structure Ord (lt:Nat→Nat→Bool) (n:Nat):Prop where
 asy:∀ i j,i < n→j < n→lt i j=true→lt j i=false
 tr:∀ i j k,i < n→j < n→k < n→lt i j=true→lt j k=true→lt i k=true
 tot:∀ i j,i < n→j < n→i≠j→lt i j=false→lt j i=true
structure Gd (n:Nat) (p:Array Nat):Prop where
 sz:p.size=n
 pm:p.Perm (List.toArray (List.range n))
theorem Gd.below (g:Gd n p){i:Nat}(hi:i < n):p.getD i 0 < n:=by
 have h1:i < p.size:=by rw [g.sz];exact hi
 have e:p.getD i 0=p[i]:=by simp [Array.getD,h1]
 rw [e]
 have m:p[i]∈p.toList:=by simp
 have:=(Array.perm_iff_toList_perm.mp g.pm).mem_iff.mp m
 simpa using this
theorem Gd.ne (g:Gd n p){i j:Nat}(hi:i < n)(hj:j < n)(h:i≠j):p.getD i 0≠p.getD j 0:=by
 have h1:i < p.size:=by rw [g.sz];exact hi
 have h2:j < p.size:=by rw [g.sz];exact hj
 have e:p.getD i 0=p[i]:=by simp [Array.getD,h1]
 have e':p.getD j 0=p[j]:=by simp [Array.getD,h2]
 rw [e,e']
 have nd:p.toList.Nodup:=(Array.perm_iff_toList_perm.mp g.pm).nodup_iff.mpr (by simpa using List.nodup_range)
 intro z
 have:=(List.getElem_inj (xs:=p.toList) nd (i:=i) (j:=j) (h₀ := by simpa using h1) (h₁ := by simpa using h2)).mp (by simpa using z)
 exact h this
def Srt (lt:Nat→Nat→Bool) (p:Array Nat) (m:Nat):Prop:=∀ i j,i < j→j < m→lt (p.getD i 0) (p.getD j 0)=true
def Dsc (lt:Nat→Nat→Bool) (p:Array Nat) (m:Nat):Prop:=∀ i j,i < j→j < m→lt (p.getD j 0) (p.getD i 0)=true
theorem gu:Gd n (List.toArray (List.range n)):=⟨by simp,Array.Perm.refl _⟩
theorem Srt.next {p:Array Nat}{m:Nat}(O:Ord lt n)(g:Gd n p)(h:Srt lt p m)(h1:1≤m)(hm:m < n)(c:lt (p.getD (m - 1) 0) (p.getD m 0)=true):Srt lt p (m + 1):=by
 intro i j hij hj
 by_cases e:j < m
 ·exact h i j hij e
 ·have:j=m:=by omega
  subst this
  by_cases e2:i=j - 1
  ·subst e2;exact c
  ·exact O.tr _ _ _ (g.below (by omega)) (g.below (by omega)) (g.below hm) (h i (j - 1) (by omega) (by omega)) c
theorem Dsc.next {p:Array Nat}{m:Nat}(O:Ord lt n)(g:Gd n p)(h:Dsc lt p m)(h1:1≤m)(hm:m < n)(c:lt (p.getD m 0) (p.getD (m - 1) 0)=true):Dsc lt p (m + 1):=by
 intro i j hij hj
 by_cases e:j < m
 ·exact h i j hij e
 ·have:j=m:=by omega
  subst this
  by_cases e2:i=j - 1
  ·subst e2;exact c
  ·exact O.tr _ _ _ (g.below hm) (g.below (by omega)) (g.below (by omega)) c (h i (j - 1) (by omega) (by omega))
variable (O:Ord lt n) (hc:∀ i j,i < n→j < n → ∀ C:Bool→Shared→Prop,C (lt i j) s→cmp i j C s)
include O hc
theorem kY {p:Array Nat}(g:Gd n p){Q:Nat→Shared→Prop}(q:∀ m,1≤m→m≤n→Srt lt p m→(m < n→lt (p.getD m 0) (p.getD (m - 1) 0)=true)→Q m s) :
  ∀ (f m:Nat),1≤m→m + f=n→Srt lt p m→(kas_asc p f m).kasWp cmp Q s
 | 0,m,h1,e,h=>q m h1 (by omega) h fun z=>by omega
 | f + 1,m,h1,e,h=>by
  refine hc _ _ (g.below (by omega)) (g.below (by omega)) _ ?_
  cases c:lt (p.getD m 0) (p.getD (m - 1) 0) with
  | true=>((try dsimp only);(try rw [if_pos rfl]));exact q m h1 (by omega) h fun _=>c
  | false =>
   ((try dsimp only);(try rw [if_neg Bool.false_ne_true]))
   have c':=O.tot _ _ (g.below (by omega)) (g.below (by omega)) (g.ne (i:=m) (j:=m - 1) (by omega) (by omega) (by omega)) c
   exact kY g q f (m + 1) (by omega) (by omega) (h.next O g h1 (by omega) c')
theorem oC {p:Array Nat}(g:Gd n p){Q:Array Nat × Nat × Nat→Shared→Prop}(q:∀ m,1≤m→m≤n→Dsc lt p m→Q (p,m,0) s) :
  ∀ (f m:Nat),1≤m→m + f=n→Dsc lt p m→(kas_desc f p m 0).kasWp cmp Q s
 | 0,m,h1,e,h=>q m h1 (by omega) h
 | f + 1,m,h1,e,h=>by
  refine hc _ _ (g.below (by omega)) (g.below (by omega)) _ ?_
  cases c:lt (p.getD m 0) (p.getD (m - 1) 0) with
  | true =>
   ((try dsimp only);(try rw [if_pos rfl]));(try rw [if_neg (by omega)])
   exact oC g q f (m + 1) (by omega) (by omega) (h.next O g h1 (by omega) c)
  | false =>
   ((try dsimp only);(try rw [if_neg Bool.false_ne_true]))
   have c':=O.tot _ _ (g.below (by omega)) (g.below (by omega)) (g.ne (i:=m) (j:=m - 1) (by omega) (by omega) (by omega)) c
   refine hc _ _ (g.below (by omega)) (g.below (by omega)) _ ?_
   rw [c'];((try dsimp only);(try rw [if_pos rfl]))
   exact q m h1 (by omega) h
omit hc in
theorem NM {p:Array Nat}(g:Gd n p){m:Nat}(hm:m≤n)(h:Dsc lt p m):Gd n (kas_rev p 0 m)∧Srt lt (kas_rev p 0 m) m:=by
 have at':∀ k,k < m→(kas_rev p 0 m).getD k 0=p.getD (m - 1 - k) 0:=fun k hk=>by
  have e:=getElem?_mirror_all (xs:=p) (i:=0) (j:=m) (by rw [g.sz];exact hm) k
  rw [if_pos ⟨Nat.zero_le _,hk⟩] at e
  unfold kas_rev
  rw [Array.getD_eq_getD_getElem?,Array.getD_eq_getD_getElem?,e,Nat.zero_add]
 refine⟨⟨by unfold kas_rev;rw [mirror_size,g.sz],(mirror_perm _ _ _ _).trans g.pm⟩,fun i j hij hj => ?_⟩
 rw [at' i (by omega),at' j hj]
 exact h _ _ (by omega) (by omega)
theorem wq (h2:2≤n){Q:Nat × Array Nat→Shared→Prop}(q:∀ m p,Gd n p→1≤m→m≤n→Srt lt p m→Q (m,p) s):(kas_count n (List.toArray (List.range n))).kasWp cmp Q s:=by
 unfold kas_count
 rw [KasT.kasWp_bind]
 refine kY O hc gu (fun m h1 hm hs hd => ?_) (n - 1) 1 (ZL _) (by omega) (fun i j hij hj=>by omega)
 by_cases e:m=n
 ·subst e
  rw [if_pos (by simp)]
  exact q m _ gu h1 (ZL _) hs
 ·rw [if_neg (by simpa using e)]
  by_cases e1:m > 1
  ·rw [if_pos e1]
   refine hc _ _ (gu.below (by omega)) (gu.below (by omega)) _ ?_
   have:=hs 0 (m - 1) (by omega) (by omega)
   rw [this];((try dsimp only);(try rw [if_pos rfl]))
   exact q m _ gu h1 hm hs
  ·rw [if_neg e1]
   have:m=1:=by omega
   subst this
   have c:=hd (by omega)
   unfold kas_descPart
   rw [KasT.kasWp_bind]
   refine oC O hc gu (fun m h1 hm hs => ?_) (n - 2) 2 (by omega) (by omega) (fun i j hij hj => ?_)
   ·rw [if_neg (by simp)]
    unfold kas_tail3
    rw [KasT.kasWp_bind]
    obtain⟨g',s'⟩:=NM O gu hm hs
    exact kY O hc g' (fun m' h1' hm' hs' _=>q m' _ g' h1' hm' hs') (n - m) m h1 (by omega) s'
   ·have hi:i=0:=by omega
    have hj:j=1:=by omega
    subst hi hj
    exact c
theorem i0 {p:Array Nat}(g:Gd n p){k:Nat}(hk:k < n)(hs:Srt lt p k){Q:Nat→Shared→Prop}(q:∀ l,l≤k→(∀ i,i < l→lt (p.getD i 0) (p.getD k 0)=true)→(∀ i,l≤i→i < k→lt (p.getD k 0) (p.getD i 0)=true)→Q l s) :
  ∀ (f l r:Nat),r - l≤f→l≤r→r≤k→(∀ i,i < l→lt (p.getD i 0) (p.getD k 0)=true)→(∀ i,r≤i→i < k→lt (p.getD k 0) (p.getD i 0)=true)→(kas_place p k f l r).kasWp cmp Q s
 | 0,l,r,hf,hl,hr,a,b=>q l (ZM hl hr) a fun i h1 h2=>b i (ZM (Nat.le_of_sub_eq_zero (Nat.le_zero.mp hf)) h1) h2
 | f + 1,l,r,hf,hl,hr,a,b=>by
  unfold kas_place
  by_cases e:l ≥ r
  ·rw [if_pos e]
   exact q l (ZM hl hr) a fun i h1 h2=>b i (ZM e h1) h2
  ·rw [if_neg e]
   have lr:l < r:=Nat.not_le.mp e
   have hh:=NK lr
   generalize (l + r) / 2=M at hh
   have hm:M < k:=Nat.lt_of_lt_of_le hh.2 hr
   have hMn:M < n:=Nat.lt_trans hm hk
   refine hc _ _ (g.below hk) (g.below hMn) _ ?_
   cases c:lt (p.getD k 0) (p.getD M 0) with
   | true =>
    ((try dsimp only);(try rw [if_pos rfl]))
    refine i0 g hk hs q f l M (Nat.le_of_lt_succ (Nat.lt_of_lt_of_le (Nat.sub_lt_sub_right hh.1 hh.2) hf)) hh.1 (Nat.le_of_lt hm) a fun i h1 h2 => ?_
    by_cases z:i=M
    ·subst z;exact c
    ·exact O.tr _ _ _ (g.below hk) (g.below hMn) (g.below (Nat.lt_trans h2 hk)) c (hs _ i (Nat.lt_of_le_of_ne h1 (Ne.symm z)) h2)
   | false =>
    ((try dsimp only);(try rw [if_neg Bool.false_ne_true]))
    have c':=O.tot _ _ (g.below hk) (g.below hMn) (g.ne (i:=k) (j:=M) hk hMn (Nat.ne_of_gt hm)) c
    refine i0 g hk hs q f (M + 1) r (Nat.le_of_lt_succ (Nat.lt_of_lt_of_le (Nat.sub_lt_sub_left lr (Nat.lt_succ_of_le hh.1)) hf)) hh.2 hr (fun i h1 => ?_) b
    by_cases z:i=M
    ·subst z;exact c'
    ·have hi:i < M:=Nat.lt_of_le_of_ne (Nat.le_of_lt_succ h1) z
     exact O.tr _ _ _ (g.below (Nat.lt_trans hi hMn)) (g.below hMn) (g.below hk) (hs i _ hi hm) c'
theorem qh {Q:Array Nat→Shared→Prop}(q:∀ p,Gd n p→Srt lt p n→Q p s):∀ (f:Nat) (p:Array Nat) (k:Nat),Gd n p→k + f=n→Srt lt p k→(kas_bin f p k).kasWp cmp Q s
 | 0,p,k,g,e,h=>by
  have:k=n:=e
  subst this
  exact q p g h
 | f + 1,p,k,g,e,h=>by
  unfold kas_bin
  rw [KasT.kasWp_bind]
  have hk:k < n:=e ▸ Nat.lt_add_of_pos_right (Nat.succ_pos f)
  refine i0 O hc g hk h (fun l hl a b => ?_) k 0 k (ZL _) (Nat.zero_le _) (ZL _) (fun i z=>absurd z (Nat.not_lt_zero _)) (fun i z z'=>absurd z' (Nat.not_lt.mpr z))
  have hks:k < p.size:=by rw [g.sz];exact hk
  have at':∀ i,(bubble p k (k - l)).getD i 0=if i=l then p.getD k 0 else if l < i∧i≤k then p.getD (i - 1) 0 else p.getD i 0:=fun i=>by
   have:=getElem?_bubble hks (k - l) (Nat.sub_le _ _) i
   rw [Nat.sub_sub_self hl] at this
   simp only [Array.getD_eq_getD_getElem?]
   rw [this]
   by_cases c1:i=l
   ·rw [if_pos c1,if_pos c1]
   ·rw [if_neg c1,if_neg c1]
    by_cases c2:l < i∧i≤k
    ·rw [if_pos c2,if_pos c2]
    ·rw [if_neg c2,if_neg c2]
  refine qh q f _ (k + 1) ⟨by rw [bubble_size,g.sz],(bubble_perm _ _ _).trans g.pm⟩ (by rw [Nat.add_right_comm];exact e) fun i j hij hj => ?_
  have jk:j≤k:=Nat.le_of_lt_succ hj
  have j1:j - 1 < k:=Nat.sub_one_lt_of_le (Nat.zero_lt_of_lt hij) jk
  rw [at' i,at' j]
  by_cases c1:i=l
  ·have lj:l < j:=c1 ▸ hij
   rw [if_pos c1,if_neg (Nat.ne_of_gt lj),if_pos ⟨lj,jk⟩]
   exact b _ (Nat.le_sub_one_of_lt lj) j1
  ·rw [if_neg c1]
   by_cases c2:l < i∧i≤k
   ·have lj:l < j:=Nat.lt_trans c2.1 hij
    rw [if_pos c2,if_neg (Nat.ne_of_gt lj),if_pos ⟨lj,jk⟩]
    exact h _ _ (Nat.sub_lt_sub_right (Nat.zero_lt_of_lt c2.1) hij) j1
   ·rw [if_neg c2]
    have il:i < l:=Nat.lt_of_le_of_ne (Nat.not_lt.mp fun z=>c2 ⟨z,ZM (Nat.le_of_lt hij) jk⟩) c1
    by_cases c3:j=l
    ·rw [if_pos c3];exact a _ il
    ·rw [if_neg c3]
     by_cases c4:l < j∧j≤k
     ·rw [if_pos c4]
      exact h _ _ (Nat.lt_of_lt_of_le il (Nat.le_sub_one_of_lt c4.1)) j1
     ·rw [if_neg c4]
      have jl:j < l:=Nat.lt_of_le_of_ne (Nat.not_lt.mp fun z=>c4 ⟨z,jk⟩) c3
      exact h _ _ hij (Nat.lt_of_lt_of_le jl hl)
theorem y9 (h2:2≤n){Q:Array Nat→Shared→Prop}(q:∀ p,Gd n p→Srt lt p n→Q p s):(kas_sort n).kasWp cmp Q s:=by
 unfold kas_sort
 rw [KasT.kasWp_bind]
 refine wq O hc h2 fun m p g h1 hm hs => ?_
 by_cases e:m < n
 ·rw [if_pos e]
  have:max m 1=m:=by omega
  show KasT.kasWp cmp (kas_bin (n - max m 1) p (max m 1)) Q s
  rw [this]
  exact qh O hc q (n - m) p m g (by omega) hs
 ·rw [if_neg e]
  have:m=n:=by omega
  subst this
  exact q p g hs
end
end Fm
namespace Fm
def wr (x:List Int):List (List Int)→List (List Int)
 | []=>[x]
 | y :: r=>if bZ x y=true then x :: y :: r else y :: wr x r
def cJ:List (List Int)→List (List Int)
 | []=>[]
 | x :: r=>wr x (cJ r)
def wu (r:List Int):D:=.tup (r.map .int)
@[simp] def Q4:O2:=fun x y h=>match x,y with
 | .tup (d :: l),.int n=>if 2≤n∧(d :: l).length * n.toNat≤1000 then .ok (.tup (List.replicate n.toNat (d :: l)).flatten) h else .bad
 | _,_=>.bad
@[simp] def Q9:D→Hd→Res D:=fun x h=>match x with
 | .ref n=>match h[n]? with|some (.lst l)=>.ok .non (h.set n (.lst l.reverse))|_=>.bad
 | _=>.bad
@[simp] def eqR (h:Hd) (x y:D):Option Bool:=match x,y with
 | .ref a,.ref b=>if a≠b then eqG h (.ref a) (.ref b) else none
 | x,y=>if dep x≤20 then peq x y else none
def kZ (h:Hd):List D→List D→Option Bool
 | x :: xs,y :: ys=>match eqR h x y,kZ h xs ys with
  | some a,some b=>some (a && b)
  | _,_=>none
 | _,_=>some true
theorem lM:∀ a,bZ a a=false
 | []=>rfl
 | x :: a=>by simp [bZ,lM a]
theorem gP:∀ {a b c},bZ a b=true→bZ b c=true→bZ a c=true
 | [],[],_,h,_=>by simp [bZ] at h
 | [],_ :: _,[],_,h=>by simp [bZ] at h
 | [],_ :: _,_ :: _,_,_=>rfl
 | _ :: _,[],_,h,_=>by simp [bZ] at h
 | _ :: _,_ :: _,[],_,h=>by simp [bZ] at h
 | x :: a,y :: b,z :: c,h,h'=>by
  simp only [bZ] at h h' ⊢
  by_cases e:x=y
  ·subst e
   rw [if_pos rfl] at h
   by_cases e2:x=z
   ·subst e2
    rw [if_pos rfl] at h' ⊢
    exact gP h h'
   ·rw [if_neg e2] at h' ⊢;exact h'
  ·rw [if_neg e] at h
   by_cases e2:y=z
   ·subst e2
    rw [if_neg e];exact h
   ·rw [if_neg e2] at h'
    simp at h h'
    rw [if_neg (by omega)]
    simp;omega
theorem mW:∀ {a b},a≠b→bZ a b=false→bZ b a=true
 | [],[],h,_=>absurd rfl h
 | [],_ :: _,_,h=>by simp [bZ] at h
 | _ :: _,[],_,_=>rfl
 | x :: a,y :: b,h,h'=>by
  simp only [bZ] at h' ⊢
  by_cases e:x=y
  ·subst e
   rw [if_pos rfl] at h' ⊢
   exact mW (fun z=>h (by rw [z])) h'
  ·rw [if_neg e] at h'
   rw [if_neg (Ne.symm e)]
   simp at h' ⊢;omega
theorem oD {a b:List Int}(h:bZ a b=true):bZ b a=false:=by
 cases c:bZ b a with
 | false=>rfl
 | true=>have:=gP h c;rw [lM] at this;cases this
theorem mX (x:List Int):∀ r,(wr x r).Perm (x :: r)
 | []=>.refl _
 | y :: r=>by
  simp only [wr]
  split
  ·exact .refl _
  ·exact ((mX x r).cons y).trans (.swap x y r)
theorem hJ:∀ r,(cJ r).Perm r
 | []=>.refl _
 | x :: r=>(mX x _).trans ((hJ r).cons x)
theorem qi {x:List Int}:∀ {r:List (List Int)},x∉r→r.Pairwise (fun a b=>bZ a b=true)→(wr x r).Pairwise (fun a b=>bZ a b=true)
 | [],_,_=>by simp [wr]
 | y :: r,hx,h=>by
  simp only [wr]
  have hy : ¬ x=y:=fun z=>hx (by simp [z])
  have hr:x∉r:=fun z=>hx (by simp [z])
  obtain⟨h1,h2⟩:=List.pairwise_cons.mp h
  split
  ·rename_i c
   refine List.pairwise_cons.mpr ⟨fun b hb => ?_,h⟩
   rcases List.mem_cons.mp hb with rfl|hb
   ·exact c
   ·exact gP c (h1 b hb)
  ·rename_i c
   have c':=mW hy (by simpa using c)
   refine List.pairwise_cons.mpr ⟨fun b hb => ?_,qi hr h2⟩
   rcases List.mem_cons.mp ((mX x r).mem_iff.mp hb) with rfl|hb
   ·exact c'
   ·exact h1 b hb
theorem jN:∀ {r:List (List Int)},r.Nodup→(cJ r).Pairwise (fun a b=>bZ a b=true)
 | [],_=>.nil
 | x :: r,h=>by
  obtain⟨h1,h2⟩:=List.nodup_cons.mp h
  exact qi (fun z=>h1 ((hJ r).mem_iff.mp z)) (jN h2)
theorem Fd {a b:List (List Int)}(p:a.Perm b)(ha:a.Pairwise (fun a b=>bZ a b=true))(hb:b.Pairwise (fun a b=>bZ a b=true)):a=b :=
 List.Perm.eq_of_pairwise (fun x y _ _ h h'=>by have:=oD h;rw [h'] at this;cases this) ha hb p
end Fm
namespace Fm
open PySem PySem.Spec L2 PySem.W PyProof.Rows
section
variable {X:Cx} {pos p:Pos}
theorem cG.rds {K:ZX}{ρ:List Addr}{H:Hp}:∀ {vs:List V} {rs:List (List Int)},cG H vs rs→RDs K ρ H (rs.map wu) vs
 | _,_,.nil=>RDs.nil
 | _,_,.cons (a:=a) (r:=r) h t=>by
  refine RDs.cons ?_ (cG.rds t)
  unfold wu
  simp only [RD]
  refine⟨a,_,rfl,h,?_⟩
  clear h
  induction r with
  | nil=>exact RDs.nil
  | cons x r ih=>exact RDs.cons (by simp only [RD]) ih
theorem cG.pick {H:Hp}{vs:List V}{rs:List (List Int)}(h:cG H vs rs):∀ (l:List Nat),(∀ i∈l,i < vs.length)→cG H (l.map fun i=>vs.getD i .non) (l.map fun i=>rs.getD i [])
 | [],_=>.nil
 | i :: l,hl=>by
  have hi:i < vs.length:=hl i (by simp)
  obtain⟨a,e,ha⟩:=h.get (i:=i) (v:=vs[i]) (by simp [hi])
  have t:=cG.pick h l fun j hj=>hl j (by simp [hj])
  have:vs.getD i .non=.ref a:=by simp [List.getD,hi,e]
  simp only [List.map_cons,this]
  exact .cons ha t
theorem aI.pick {vs:List V}{us:List Value}(h:aI vs us):∀ (l:List Nat),(∀ i∈l,i < vs.length)→aI (l.map fun i=>vs.getD i .non) (l.map fun i=>us.getD i Value.none)
 | [],_=>.nil
 | i :: l,hl=>by
  have hi:i < vs.length:=hl i (by simp)
  obtain⟨u,e,ru⟩:=h.get (i:=i) (x:=vs[i]) (by simp [hi])
  have t:=aI.pick h l fun j hj=>hl j (by simp [hj])
  simp only [List.map_cons]
  refine .cons ?_ t
  simp [List.getD,hi,e]
  exact ru
end
end Fm
namespace Fm
open PySem PySem.Spec L2 PySem.W PyProof.Rows
section
variable {X:Cx} {pos p:Pos}
theorem RDs.rep {K:ZX}{ρ:List Addr}{H:Hp}{l:List D}{vs:List V}(r:RDs K ρ H l vs):∀ k,RDs K ρ H (List.replicate k l).flatten (List.replicate k vs).flatten
 | 0=>RDs.nil
 | k + 1=>by
  rw [List.replicate_succ,List.replicate_succ,List.flatten_cons,List.flatten_cons]
  exact RDs.append r (RDs.rep r k)
theorem NO {pins:List (Addr × Obj)}{σ:L2.St}{H:Hp}{s:Shared}{ρ:List Addr}{hd:Hd}{d k:D}{v v':V}{u u':Value}{b:Bool}{A:Around}(hu:A.units + 23 < cLine)(I:Inv X pins σ H s)(r:RH X.K ρ H hd)(h1:RD X.K ρ H d v)(h2:RD X.K ρ H k v')
  (r1:bg v u) (r2:bg v' u') (e:eqR hd d k=some b):SeqAt.EqAt A s u u' b:=by
 have hu0:A.units < cLine:=by omega
 have plain:(if dep d≤20 then peq d k else none)=some b→SeqAt.EqAt A s u u' b:=fun e=>by
  split at e
  ·rename_i hd20
   exact Hu I.hok h1 h2 r1 r2 e (by omega)
  ·cases e
 unfold eqR at e
 split at e
 ·rename_i a c
  split at e
  ·rename_i hac
   have h1':=h1
   have h2':=h2
   simp only [RD] at h1' h2'
   obtain⟨p,hp,rfl⟩:=h1'
   obtain⟨p',hp',rfl⟩:=h2'
   have hpp:p≠p':=fun z=>by
    subst z
    obtain⟨l1,e1⟩:=List.getElem?_eq_some_iff.mp hp
    obtain⟨l2,e2⟩:=List.getElem?_eq_some_iff.mp hp'
    exact hac ((List.getElem_inj r.nd).mp (e1.trans e2.symm))
   simp only [eqG] at e
   cases c1:aS hd (.ref a) with
   | none =>
    rw [c1] at e
    cases c2:aS hd (.ref c) with
    | some l=>rw [c2] at e;cases e
    | none=>rw [c2] at e;simp only [peq] at e;split at e<;>cases e
   | some xs =>
    cases c2:aS hd (.ref c) with
    | none=>rw [c1,c2] at e;cases e
    | some ys =>
     rw [c1,c2] at e
     simp only [eqL] at e
     obtain⟨q,vs,hq,s1,q1⟩:=dy r h1 c1
     obtain⟨q',vs',hq',s2,q2⟩:=dy r h2 c2
     cases hq;cases hq'
     cases r1;cases r2
     obtain⟨its,rv,pl,_⟩:=I.list s1
     obtain⟨its',rv',pl',_⟩:=I.list s2
     have il:s.heap.IsList p its.toArray:=pl.isList
     have il':s.heap.IsList p' its'.toArray:=pl'.isList
     have l1:xs.length=its.length:=q1.length.trans rv.length
     have l2:ys.length=its'.length:=q2.length.trans rv'.length
     split at e
     ·rename_i hd20
      refine SeqAt.EqAt.of_refs hpp ?_
      split at e
      ·rename_i hl
       obtain⟨f,hf,ha⟩:=lF I.hok (A:=A.in1) q1 q2 rv rv' e (by show A.units + 1 + o4 xs < cLine;omega)
       have hs:its.toArray.size=its'.toArray.size:=by simp;omega
       have g1:=SeqAt.RcAt.lists (s:=s) (A:=A) (e:=f) il il' hs hu0 (fun j h1 h2=>by simpa using hf j (by simpa using h1) (by simpa using h2))
       have hm:min its.length its'.length=its.length:=by omega
       rw [hm] at ha
       rw [← ha]
       simpa using g1
      ·rename_i hl
       cases e
       have hs:(its.toArray.size != its'.toArray.size)=true:=by simp;omega
       exact SeqAt.RcAt.lists_lengths il il' hs hu0
     ·cases e
  ·cases e
 ·exact plain e
theorem wv {pins:List (Addr × Obj)}{σ:L2.St}{H:Hp}{s:Shared}{ρ:List Addr}{hd:Hd}(I:Inv X pins σ H s)(r:RH X.K ρ H hd):∀ {xs ys:List D} {vs vs':List V} {us us':List Value} {b:Bool} {A:Around},RDs X.K ρ H xs vs→RDs X.K ρ H ys vs'→aI vs us→aI vs' us'→kZ hd xs ys=some b→A.units + 23 < cLine →
  ∃ f:Nat→Bool,(∀ j (h1:j < us.length) (h2:j < us'.length),SeqAt.EqAt A s us[j] us'[j] (f j))∧(List.range (min us.length us'.length)).all f=b
 | [],ys,vs,vs',us,us',b,A,h1,h2,r1,r2,e,hu=>by
  simp only [RDs] at h1;subst h1;cases r1
  simp only [kZ] at e;cases e
  exact⟨fun _=>true,fun j h1=>by simp at h1,by simp⟩
 | x :: xs,[],vs,vs',us,us',b,A,h1,h2,r1,r2,e,hu=>by
  simp only [RDs] at h2;subst h2;cases r2
  simp only [kZ] at e;cases e
  exact⟨fun _=>true,fun j h1 h2=>by simp at h2,by simp⟩
 | x :: xs,y :: ys,vs,vs',us,us',b,A,h1,h2,r1,r2,e,hu=>by
  simp only [RDs] at h1 h2
  obtain⟨v,rr,rfl,a1,a2⟩:=h1
  obtain⟨v',rr',rfl,b1,b2⟩:=h2
  cases r1 with
  | cons p1 p2 =>
   cases r2 with
   | cons s1 s2 =>
    unfold kZ at e
    cases c:eqR hd x y with
    | none=>rw [c] at e;cases e
    | some p =>
     cases c2:kZ hd xs ys with
     | none=>rw [c,c2] at e;cases e
     | some q =>
      rw [c,c2] at e
      simp only [Option.some.injEq] at e
      have g1:=NO (A:=A) hu I r a1 b1 p1 s1 c
      obtain⟨f,hf,ha⟩:=wv I r (A:=A) a2 b2 p2 s2 c2 hu
      refine⟨fun j=>match j with|0=>p|j + 1=>f j,fun j h1 h2 => ?_,?_⟩
      ·cases j with
       | zero=>exact g1
       | succ j=>exact hf j (by simpa using h1) (by simpa using h2)
      ·rw [← e,← ha,List.length_cons,List.length_cons,Nat.succ_min_succ,List.range_succ_eq_map,List.all_cons,List.all_map]
       rfl
end
end Fm
namespace Fm
@[simp] def Ei:EF:=fun _ h=>.ok (.ref h.length) (h++[.dct []])
def qj (l:List (Int × D)) (k:Int):Option D:=(l.find? fun p=>decide (p.1=k)).map (·.2)
def Bs (l:List (Int × D)) (k:Int) (v:D):List (Int × D):=if (l.any fun p=>decide (p.1=k))=true then l.map (fun p=>if p.1=k then (p.1,v) else p) else l++[(k,v)]
@[simp] def HH:O2:=fun x y h=>match x,y with
 | .int k,.ref n=>match h[n]? with|some (.dct l)=>.ok (.bl (qj l k).isSome) h|_=>.bad
 | _,_=>.bad
@[simp] def zc (x i e:EF):SF:=fun σ h=>outE (e σ h) σ fun d h=>outE (x σ h) σ fun p h=>outE (i σ h) σ fun j h=>match p,j with
 | .ref n,.int k=>match h[n]? with
  | some (.dct l)=>if l.length < SZ then .nx σ (h.set n (.dct (Bs l k d))) else .bad
  | _=>.bad
 | _,_=>.bad
def dP:List (Int × D)→Option (List (List Int))
 | []=>some []
 | (k,.int v) :: r=>(dP r).map fun l=>[k,v] :: l
 | _=>none
@[simp] def mY (a:EF):LF:=fun σ h=>(a σ h).bind fun x h=>match x with
 | .ref n=>match h[n]? with
  | some (.dct l)=>match dP l with
   | some r=>if r.length < 64∧r.Nodup then .ok ((cJ r).map wu) h else .bad
   | none=>.bad
  | _=>.bad
 | _=>.bad
end Fm
namespace L2
open PySem PySem.Spec PyProof.Rows
section
variable {κ : Type} [DecidableEq κ]
def fm (kvs:List (κ × V)) (k : κ):Option V:=(kvs.find? fun kv=>decide (kv.1=k)).map (·.2)
def ir (kvs:List (κ × V)) (k : κ) (v:V):List (κ × V) :=
 if (kvs.any fun kv=>decide (kv.1=k))=true then kvs.map (fun kv=>if kv.1=k then (kv.1,v) else kv) else kvs++[(k,v)]
theorem qk {p : κ × V}{r:List (κ × V)}{k : κ}(e:p.1=k):fm (p :: r) k=some p.2:=by simp [fm,List.find?_cons,e]
theorem jO {p : κ × V}{r:List (κ × V)}{k : κ}(e : ¬ p.1=k):fm (p :: r) k=fm r k:=by simp [fm,List.find?_cons,e]
theorem zd (k : κ):∀ kvs:List (κ × V),(kvs.any fun kv=>decide (kv.1=k))=(fm kvs k).isSome
 | []=>rfl
 | p :: r=>by
  rw [List.any_cons]
  by_cases e:p.1=k
  ·simp only [qk e,decide_eq_true e,Bool.true_or,Option.isSome_some]
  ·rw [jO e,decide_eq_false e,Bool.false_or];exact zd k r
theorem oE (kvs:List (κ × V))(k : κ)(v:V):(ir kvs k v).length≤kvs.length + 1:=by
 unfold ir
 split
 ·rw [ZA];omega
 ·rw [ZB,List.length_cons,List.length_nil];omega
theorem su.isSome_eq {o:Option V}{u:Option Value}(r:su o u):o.isSome=u.isSome:=by
 cases o with
 | none=>cases u with
  | none=>rfl
  | some _=>exact (show False from r).elim
 | some _=>cases u with
  | none=>exact (show False from r).elim
  | some _=>rfl
theorem KV.val {kvs:List (κ × V)}{vs:List (κ × Value)}(r:KV kvs vs)(k : κ):su (fm kvs k) (valueAt vs k):=by
 unfold KV at r
 induction r with
 | nil=>exact True.intro
 | @cons p q ps qs h t ih =>
  obtain⟨h1,h2⟩:=h
  by_cases e:p.1=k
  ·have e':q.1=k:=h1.symm.trans e
   have b:valueAt (q :: qs) k=some q.2:=by simp [valueAt,List.find?_cons,e']
   rw [qk e,b];exact h2
  ·have e' : ¬ q.1=k:=fun z=>e (h1.trans z)
   have b:valueAt (q :: qs) k=valueAt qs k:=by simp [valueAt,List.find?_cons,e']
   rw [jO e,b];exact ih
theorem KV.any {kvs:List (κ × V)}{vs:List (κ × Value)}(r:KV kvs vs)(k : κ):(kvs.any fun kv=>decide (kv.1=k))=vs.any fun kv=>decide (kv.1=k):=by
 unfold KV at r
 induction r with
 | nil=>rfl
 | cons h t ih=>rw [List.any_cons,List.any_cons,ih,h.1]
theorem KV.repl {kvs:List (κ × V)}{vs:List (κ × Value)}(r:KV kvs vs)(k : κ){y:V}{u:Value}(ry:bg y u) :
  KV (kvs.map fun kv=>if kv.1=k then (kv.1,y) else kv) (vs.map fun kv=>if kv.1=k then (kv.1,u) else kv):=by
 unfold KV at r ⊢
 induction r with
 | nil=>exact .nil
 | @cons p q ps qs h t ih =>
  rw [List.map_cons,List.map_cons]
  refine .cons ?_ ih
  obtain⟨h1,h2⟩:=h
  by_cases e:p.1=k
  ·rw [if_pos e,if_pos (h1.symm.trans e)];exact⟨h1,ry⟩
  ·rw [if_neg e,if_neg (fun z=>e (h1.trans z))];exact⟨h1,h2⟩
theorem KV.put {kvs:List (κ × V)}{vs:List (κ × Value)}(r:KV kvs vs)(k : κ){y:V}{u:Value}(ry:bg y u):KV (ir kvs k y) (stored vs k u):=by
 unfold ir stored
 rw [r.any k]
 by_cases e:(vs.any fun kv=>decide (kv.1=k))=true
 ·rw [if_pos e,if_pos e];exact r.repl k ry
 ·rw [if_neg e,if_neg e];exact Paired.snoc r ⟨rfl,ry⟩
theorem KV.length {kvs:List (κ × V)}{vs:List (κ × Value)}(r:KV kvs vs):kvs.length=vs.length:=Paired.length r
end
theorem ze {P:Program}{w:World}{k:Key}{u:Value}(r:bg (kV k) u):(cH P w).is k u=true:=by
 cases k with
 | inl i=>obtain⟨t,e⟩:=(show ∃ t,u=Value.int i t from r);subst e;exact yL P w i t
 | inr x=>obtain⟨t,e⟩:=(show ∃ t,u=Value.str x t from r);subst e;exact yM P w x t
theorem u7 {P:Program}{w:World}:∀ {ks:List Key} {us:List Value},aI (ks.map kV) us→ItemsAre (cH P w) ks us
 | [],_,r=>by rw [List.map_nil] at r;cases r;exact .nil
 | k :: ks,_,r=>by
  rw [List.map_cons] at r
  cases r with
  | cons h t=>exact .cons (ze h) (u7 t)
abbrev KT (H:Hp):List (List Key × V)→List (List Key × Addr × Value)→Prop:=Paired fun p q=>p.1=q.1∧H q.2.1=some (.tup (p.1.map kV))∧bg p.2 q.2.2
theorem KT.val {H:Hp}{kvs:List (List Key × V)}{xs:List (List Key × Addr × Value)}(r:KT H kvs xs)(k:List Key):su (fm kvs k) ((atKey xs k).map (·.2)):=by
 induction r with
 | nil=>exact True.intro
 | @cons p q ps qs h t ih =>
  obtain⟨h1,_,h2⟩:=h
  by_cases e:p.1=k
  ·have e':q.1=k:=h1.symm.trans e
   have b:atKey (q :: qs) k=some q.2:=by simp [atKey,List.find?_cons,e']
   rw [qk e,b];exact h2
  ·have e' : ¬ q.1=k:=fun z=>e (h1.trans z)
   have b:atKey (q :: qs) k=atKey qs k:=by simp [atKey,List.find?_cons,e']
   rw [jO e,b];exact ih
theorem KT.repl {H:Hp}{kvs:List (List Key × V)}{xs:List (List Key × Addr × Value)}(r:KT H kvs xs)(k:List Key){y:V}{u:Value}(ry:bg y u) :
  KT H (kvs.map fun kv=>if kv.1=k then (kv.1,y) else kv) (xs.map (putAt k u)):=by
 induction r with
 | nil=>exact .nil
 | @cons p q ps qs h t ih =>
  rw [List.map_cons,List.map_cons]
  refine .cons ?_ ih
  obtain⟨h1,h2,h3⟩:=h
  unfold putAt
  by_cases e:p.1=k
  ·rw [if_pos e,if_pos (h1.symm.trans e)];exact⟨h1,h2,ry⟩
  ·rw [if_neg e,if_neg (fun z=>e (h1.trans z))];exact⟨h1,h2,h3⟩
theorem KT.put {H:Hp}{kvs:List (List Key × V)}{xs:List (List Key × Addr × Value)}(r:KT H kvs xs)(k:List Key){b:Addr}{y:V}{u:Value}(hb:H b=some (.tup (k.map kV)))(ry:bg y u) :
  KT H (ir kvs k y) (storedH xs k b u):=by
 have e:(kvs.any fun kv=>decide (kv.1=k))=(atKey xs k).isSome:=by
  rw [zd,(r.val k).isSome_eq,Option.isSome_map]
 unfold ir storedH
 rw [e]
 by_cases q:(atKey xs k).isSome=true
 ·rw [if_pos q,if_pos q];exact r.repl k ry
 ·rw [if_neg q,if_neg q];exact Paired.snoc r ⟨rfl,hb,ry⟩
theorem KT.keeps {H H':Hp}{kvs:List (List Key × V)}{xs:List (List Key × Addr × Value)}(r:KT H kvs xs)(ht:∀ b ys,H b=some (.tup ys)→H' b=some (.tup ys)):KT H' kvs xs :=
 Paired.mapP r fun _ _ z=>⟨z.1,ht _ _ z.2.1,z.2.2⟩
section
variable {P:Program} {w:World} {H:Hp} {h:Heap} {a:Addr}
theorem Mn {u:HO}(ok:HOk P w H h)(e:Rd H a u):cX P w H h a u:=e.ok ok
theorem va {kvs:List (Key × V)}(ok:HOk P w H h)(e:Rd H a (.dK kvs)):kvs.length≤sizeLine∧(a == sysModules)=false ∧ ∃ vs,KV kvs vs∧h.DictOf (cH P w) a vs :=
 show cX P w H h a (.dK kvs) from Mn ok e
theorem HJ {kvs:List (Key × V)}(ok:HOk P w H h)(e:H a=some (.dK kvs)):kvs.length≤sizeLine∧(a == sysModules)=false ∧ ∃ vs,KV kvs vs∧h.DictOf (cH P w) a vs:=va ok (.inl e)
theorem ql {ks:List Key}(ok:HOk P w H h)(e:H a=some (.tup (ks.map kV))):(tupleKind (cH P w)).is h ks a:=by
 obtain⟨_,its,r,o,h1,h2,n,h3⟩:=(show cX P w H h a (.tup (ks.map kV)) from ok a _ e)
 exact⟨o,its.toArray,n,h1,h2,h3,by simpa using u7 r⟩
theorem vb {kvs:List (List Key × V)}(ok:HOk P w H h)(e:Rd H a (.dT kvs)):kvs.length≤sizeLine∧(a == sysModules)=false ∧
  ∃ xs,KT H kvs xs∧h.DictOfH (tupleKind (cH P w)) a xs:=by
 obtain⟨z,y,xs,r,o,es,ep,h1,h2,h3,h4,h5⟩:=(show cX P w H h a (.dT kvs) from Mn ok e)
 refine⟨z,y,xs,r,o,es,ep,h1,h2,h3,h4,fun x hx => ?_,h5⟩
 have all:∀ {l:List (List Key × V)} {m:List (List Key × Addr × Value)},KT H l m → ∀ x∈m,(tupleKind (cH P w)).is h x.1 x.2.1:=by
  intro l m q
  induction q with
  | nil=>intro x hx;exact nomatch hx
  | @cons p q ps qs hq t ih =>
   intro x hx
   rcases List.mem_cons.mp hx with e|hx
   ·subst e
    exact ql ok (by rw [← hq.1];exact hq.2.1)
   ·exact ih x hx
 exact all r x hx
theorem PN {kvs:List (List Key × V)}(ok:HOk P w H h)(e:H a=some (.dT kvs)):kvs.length≤sizeLine∧(a == sysModules)=false ∧
  ∃ xs,KT H kvs xs∧h.DictOfH (tupleKind (cH P w)) a xs:=vb ok (.inl e)
end
def lN (H:Hp) (a:Addr) (y:V) (r:Option V):Prop :=
 (∃ kvs k,Rd H a (.dK kvs)∧y=kV k∧r=fm kvs k) ∨ ∃ kvs k b,Rd H a (.dT kvs)∧y=.ref b∧H b=some (.tup (k.map kV))∧r=fm kvs k
def zf (H:Hp) (a:Addr) (y v:V) (H':Hp):Prop :=
 (∃ kvs k,H a=some (.dK kvs)∧y=kV k∧kvs.length < sizeLine∧H'=upd H a (.dK (ir kvs k v))) ∨
 ∃ kvs k b,H a=some (.dT kvs)∧y=.ref b∧H b=some (.tup (k.map kV))∧kvs.length < sizeLine∧H'=upd H a (.dT (ir kvs k v))
theorem lN.k {H:Hp}{a:Addr}{kvs:List (Key × V)}{k:Key}(e:H a=some (.dK kvs)):lN H a (kV k) (fm kvs k):=.inl ⟨kvs,k,.inl e,rfl,rfl⟩
theorem lN.t {H:Hp}{a b:Addr}{kvs:List (List Key × V)}{k:List Key}(e:H a=some (.dT kvs))(eb:H b=some (.tup (k.map kV))):lN H a (.ref b) (fm kvs k):=.inr ⟨kvs,k,b,.inl e,rfl,eb,rfl⟩
theorem zf.k {H:Hp}{a:Addr}{kvs:List (Key × V)}{k:Key}{v:V}(e:H a=some (.dK kvs))(hl:kvs.length < sizeLine):zf H a (kV k) v (upd H a (.dK (ir kvs k v))):=.inl ⟨kvs,k,e,rfl,hl,rfl⟩
theorem zf.t {H:Hp}{a b:Addr}{kvs:List (List Key × V)}{k:List Key}{v:V}(e:H a=some (.dT kvs))(eb:H b=some (.tup (k.map kV)))(hl:kvs.length < sizeLine) :
  zf H a (.ref b) v (upd H a (.dT (ir kvs k v))):=.inr ⟨kvs,k,b,e,rfl,eb,hl,rfl⟩
section
variable {X:Cx} {pins:List (Addr × Obj)} {σ:St} {H:Hp} {s:Shared} {a:Addr} {y v:V} {u r:Value} {o:Option V} {A:Around} {E:Value→Shared→Prop}
theorem Inv.big (I:Inv X pins σ H s):sysModules < s.heap.objs.size:=by
 have h:mainGlobals < s.heap.objs.size:=(I.mod.glob.keeps I.bk).lt
 exact Nat.lt_trans (by decide) h
theorem Fe {Q:Value→Shared→Prop}(hu:A.units + 1 < cLine)(I:Inv X pins σ H s)(g:lN H a y (some v))(ry:bg y u)(h:∀ w' s',Inv X pins σ H s'→bg v w'→Q w' s') :
  wpAny (model X.prog X.w) A (getItem (.ref a) u) Q E s:=by
 rcases g with ⟨kvs,k,e,ey,l⟩|⟨kvs,k,b,e,ey,eb,l⟩
 ·subst ey
  obtain⟨z,hd,vs,rel,dd⟩:=va I.hok e
  obtain⟨w',hw,rw'⟩:=su.some_of (v:=v) (o:=valueAt vs k) (by rw [l];exact rel.val k)
  exact wpAny_getItem_of (ze ry) dd.mapOf hw (h w' _ (I.tok _) rw')
 ·subst ey
  cases (show u=Value.ref b from ry)
  obtain⟨z,hd,xs,rel,dd⟩:=vb I.hok e
  obtain⟨w',hw,rw'⟩:=su.some_of (v:=v) (o:=(atKey xs k).map (·.2)) (by rw [l];exact rel.val k)
  obtain⟨p,hp,hp2⟩:=Option.map_eq_some_iff.mp hw
  refine wpAny_getItem_heap (tupleKind_room_in1 hu) (ql I.hok eb) dd hp ?_
  rw [hp2]
  exact h w' _ (I.tok _) rw'
theorem QP {Q:Value→Shared→Prop}(hu:A.units + 1 < cLine)(I:Inv X pins σ H s)(g:lN H a y o)(ry:bg y u)(h:∀ s',Inv X pins σ H s'→Q (.bool o.isSome) s') :
  wpAny (model X.prog X.w) A (compareOp .In u (.ref a)) Q E s:=by
 rcases g with ⟨kvs,k,e,ey,l⟩|⟨kvs,k,b,e,ey,eb,l⟩
 ·subst ey
  obtain⟨z,hd,vs,rel,dd⟩:=va I.hok e
  refine wpAny_in_of (ze ry) hd dd.mapOf ?_
  rw [← (rel.val k).isSome_eq,← l]
  exact h _ (I.tok _)
 ·subst ey
  cases (show u=Value.ref b from ry)
  obtain⟨z,hd,xs,rel,dd⟩:=vb I.hok e
  refine wpAny_in_heap (tupleKind_room_in1 hu) (ql I.hok eb) hd dd ?_
  have q:=(rel.val k).isSome_eq
  rw [Option.isSome_map] at q
  rw [← q,← l]
  exact h _ (I.tok _)
theorem K1 {Q:Value→Shared→Prop}(hu:A.units + 1 < cLine)(I:Inv X pins σ H s)(g:lN H a y o)(ry:bg y u)(h:∀ s',Inv X pins σ H s'→Q (.bool (!o.isSome)) s') :
  wpAny (model X.prog X.w) A (compareOp .NotIn u (.ref a)) Q E s:=by
 rcases g with ⟨kvs,k,e,ey,l⟩|⟨kvs,k,b,e,ey,eb,l⟩
 ·subst ey
  obtain⟨z,hd,vs,rel,dd⟩:=va I.hok e
  refine wpAny_notIn_of (ze ry) hd dd.mapOf ?_
  rw [← (rel.val k).isSome_eq,← l]
  exact h _ (I.tok _)
 ·subst ey
  cases (show u=Value.ref b from ry)
  obtain⟨z,hd,xs,rel,dd⟩:=vb I.hok e
  refine wpAny_notIn_heap (tupleKind_room_in1 hu) (ql I.hok eb) hd dd ?_
  have q:=(rel.val k).isSome_eq
  rw [Option.isSome_map] at q
  rw [← q,← l]
  exact h _ (I.tok _)
theorem Ej {h':Heap}{t':Nat}{ob:HO}(I:Inv X pins σ H s)(mu:Mut (H a))(hs:Heap.SameBut a s.heap h')(he:∃ q,h'.get? a=some q)(new:cX X.prog X.w (upd H a ob) h' a ob) :
  Inv X pins σ (upd H a ob) { s with heap:=h',toks:=t' } :=
 I.write (x:=a) (e:=a) mu (.inl rfl) (fun b q hb z=>(hs.2 b hb).trans z) he new
theorem NP {P:Program}{w:World}{H':Hp}{h':Heap}{kvs:List (Key × V)}{vs:List (Key × Value)}(z:kvs.length≤sizeLine)(hd:(a == sysModules)=false)(rel:KV kvs vs)(dd:h'.DictOf (cH P w) a vs) :
  cX P w H' h' a (.dK kvs):=⟨z,hd,vs,rel,dd⟩
theorem Ff {H':Hp}{Q:Unit→Shared→Prop}(hu:A.units + 1 < cLine)(I:Inv X pins σ H s)(g:zf H a y v H')(ry:bg y u)(rv:bg v r)(h:∀ s',Inv X pins σ H' s'→Q () s') :
  wpAny (model X.prog X.w) A (setItem (.ref a) u r) Q E s:=by
 rcases g with ⟨kvs,k,e,ey,l,eH⟩|⟨kvs,k,b,e,ey,eb,l,eH⟩
 ·subst ey eH
  obtain⟨z,hd,vs,rel,dd⟩:=HJ I.hok e
  have hz:vs.length≤sizeLine:=by rw [← rel.length];exact z
  have hl:(ir kvs k v).length≤sizeLine:=by have:=oE kvs k v;omega
  refine wpAny_setItem_pairs (hsz:=hz) (ze ry) dd fun h' dd' hs=>h _ ?_
  have he:∃ q,h'.get? a=some q:=let ⟨q,_,_,hq,_⟩:=dd';⟨q,hq⟩
  exact Ej I (by rw [e];exact True.intro) hs he (NP hl hd (rel.put k rv) dd')
 ·subst ey eH
  cases (show u=Value.ref b from ry)
  obtain⟨z,hd,xs,rel,dd⟩:=PN I.hok e
  have hz:xs.length≤sizeLine:=by rw [← Paired.length rel];exact z
  have hl:(ir kvs k v).length≤sizeLine:=by have:=oE kvs k v;omega
  refine wpAny_setItem_heap (hsz:=hz) (tupleKind_room_in1 hu) (ql I.hok eb) dd fun h' dd' hs=>h _ ?_
  obtain⟨q,es,ep,hq,h2,h3,h4,_,h5⟩:=dd'
  refine Ej I (by rw [e];exact True.intro) hs ⟨q,hq⟩ ⟨hl,hd,_,(rel.put k eb rv).keeps fun c ys ec => ?_,q,es,ep,hq,h2,h3,h4,h5⟩
  rw [ax (Mc ec e (fun z=>nomatch z))]
  exact ec
end
section
variable {X:Cx} {pins:List (Addr × Obj)} {σ:St} {H:Hp} {s:Shared} {a:Addr} {kvs:List (Key × V)} {k:Key} {u:Value} {A:Around} {E:Value→Shared→Prop}
end
def NQ (i:Expr):Prop:=∀ ov iv,subscripted i false ov iv=operate [ov,iv] (getItem ov iv)
theorem K2 {prog:Program}{w:World}{A:Around}{E:Value→Shared→Prop}{s:Shared}{env:Env}{value slice:Expr}{pos:Pos}{T id:String}{Q:Value→Shared→Prop}
  (hl:typeLookup (.type T) "__getitem__" = pure (some (.builtin id))) (hs:NQ slice)
  (h:wpAny (model prog w) A (eval value env) (fun o s₁ => wpAny (model prog w) A (eval slice env) (fun i s₂ => s₂.TypeIs o T∧wpAny (model prog w) A (getItem o i) Q E s₂) E s₁) E s) :
  wpAny (model prog w) A (eval (.Subscript value slice pos) env) Q E s:=by
 refine Subscript_ (wpAny_mono h (fun o s₁ h₁ => wpAny_mono h₁ (fun i s₂ h₂ => ?_) fun _ _ x=>x) fun _ _ x=>x)
 obtain⟨hT,h₂⟩:=h₂
 unfold subscriptTail
 refine wpAny_bind ?_
 rw [getitemInPython_of_ne hT.not_modules]
 refine wpAny_bind (wpAny_specialOf hT hl ?_)
 have fin:wpAny (model prog w) A (subscripted slice false o i) (fun r s₃ => wpAny (model prog w) A (letTemporaryGo value o r >>= fun _=>pure r) Q E s₃) E s₂ := by
  rw [hs o i]
  exact wpAny_operating (wpAny_mono h₂ (fun r s₃ h₃ => wpAny_bind (wpAny_letTemporaryGo (wpAny_pure h₃))) fun _ _ x=>x)
 first
  | exact wpAny_pure (wpAny_bind fin)
  | exact wpAny_bind (wpAny_pure (wpAny_bind fin))
  | exact wpAny_bind fin
theorem zg {X:Cx} {pins:List (Addr × Obj)} {σ:St} {H:Hp} {s:Shared} {a:Addr} {y:V} {o:Option V} (I:Inv X pins σ H s) (g:lN H a y o):s.TypeIs (.ref a) "dict" := by
 rcases g with ⟨kvs,k,e,_,_⟩|⟨kvs,k,b,e,_,_,_⟩
 ·obtain⟨_,_,vs,_,dd⟩:=va I.hok e
  exact dd.typeIs
 ·obtain⟨_,_,xs,_,dd⟩:=vb I.hok e
  exact dd.typeIs
def PP (td ty:TE):TE:=fun σ H Q=>td σ H fun x H1=>ty σ H1 fun y H2=>∃ a v,x=.ref a∧lN H2 a y (some v)∧Q v H2
section
variable {X:Cx} {o i e value:Expr} {pos pos' tpos:Pos} {td ty tv:TE}
theorem K3 (hu:X.A.units + 1 < cLine)(ho:PE X o td)(hi:PE X i ty)(hs:NQ i):PE X (.Subscript o i pos) (PP td ty):=by
 intro pins s σ H Q I h
 refine K2 PySem.F.slot_dict_getitem.lookup hs (thn (ho pins s σ H _ I h) fun u s1 ⟨x,H1,I1,rx,q1⟩=>thn (hi pins s1 σ H1 _ I1 q1) fun iv s2 ⟨y,H2,I2,ry,a,v,ex,g,q2⟩ => ?_)
 subst ex
 obtain rfl:u=Value.ref a:=rx
 exact⟨zg I2 g,Fe hu I2 g ry fun w' s3 I3 rw'=>⟨v,H2,I3,rw',q2⟩⟩
end
theorem HK {P:Program} {w:World} {H:Hp} (h:Heap) (hb:sysModules < h.objs.size):cX P w H (h.push { cls:=.type "dict",data:=.dict #[] }) h.objs.size (.dK []) :=
 ⟨Nat.zero_le _,beq_eq_false_iff_ne.mpr (Ne.symm (ZN hb)),[],.nil,Heap.DictOf.new h⟩
theorem HL {P:Program} {w:World} {H:Hp} (h:Heap) (hb:sysModules < h.objs.size):cX P w H (h.push { cls:=.type "dict",data:=.dict #[] }) h.objs.size (.dT []) :=
 ⟨Nat.zero_le _,beq_eq_false_iff_ne.mpr (Ne.symm (ZN hb)),[],.nil,_,#[],0,ZJ _ rfl,⟨rfl,rfl,rfl⟩,rfl,rfl,List.nodup_nil⟩
def NR:TE:=fun _ H Q=>∀ p,H p=none→Q (.ref p) (upd H p (.dK []))
def NT:TE:=fun _ H Q=>∀ p,H p=none→Q (.ref p) (upd H p (.dT []))
section
variable {X:Cx} {pos:Pos}
theorem HM:PE X (.Dict [] [] pos) NR:=fun pins s σ H Q I h =>
 wpAny_Dict_empty ⟨.ref s.heap.objs.size,_,I.laid (a:=s.heap.objs.size) (o:=.dK []) (t':=s.toks) (fun _ _ q=>ZH _ q) (ZL _) (HK s.heap I.big),rfl,h _ (I.hok.fresh (ZL _))⟩
theorem HN:PE X (.Dict [] [] pos) NT:=fun pins s σ H Q I h =>
 wpAny_Dict_empty ⟨.ref s.heap.objs.size,_,I.laid (a:=s.heap.objs.size) (o:=.dT []) (t':=s.toks) (fun _ _ q=>ZH _ q) (ZL _) (HL s.heap I.big),rfl,h _ (I.hok.fresh (ZL _))⟩
end
structure M1 (X:Cx) (o:Expr) (m:Str) (apos:Pos) (e:Expr) (cpos:Pos):Prop where
 base:attributeBase o m X.env (eval o X.env)=eval o X.env
 few:((backTo cpos (starEach [e] X.env)).all (fun x => !x.1) && (backToKw cpos (keywordEach [] X.env)).all (fun x=>x.1.isSome)
  && decide (([e] : List Expr).length + ([] : List Keyword).length + (if ([] : List Keyword).isEmpty then 0 else 1) < 30))=true
 line:(apos.endLine == cpos.line)=true
 trees:backTo cpos (starEach [e] X.env)=[(false,eval e X.env)]
structure M2 (X:Cx) (o:Expr) (m:Str) (apos:Pos) (e f:Expr) (cpos:Pos):Prop where
 base:attributeBase o m X.env (eval o X.env)=eval o X.env
 few:((backTo cpos (starEach [e,f] X.env)).all (fun x => !x.1) && (backToKw cpos (keywordEach [] X.env)).all (fun x=>x.1.isSome)
  && decide (([e,f] : List Expr).length + ([] : List Keyword).length + (if ([] : List Keyword).isEmpty then 0 else 1) < 30))=true
 line:(apos.endLine == cpos.line)=true
 trees:backTo cpos (starEach [e,f] X.env)=[(false,eval e X.env),(false,eval f X.env)]
def IsD (H:Hp) (a:Addr):Prop:=(∃ kvs,Rd H a (.dK kvs)) ∨ ∃ kvs,Rd H a (.dT kvs)
theorem NU {X:Cx}{pins:List (Addr × Obj)}{σ:St}{H:Hp}{s:Shared}{a:Addr}(I:Inv X pins σ H s)(d:IsD H a) :
  s.TypeIs (.ref a) "dict" ∧ (∀ b,Value.ref a=.ref b → ∃ ob,s.heap.get? b=some ob∧ob.dict=none)∧(a == sysModules)=false:=by
 rcases d with ⟨kvs,e⟩|⟨kvs,e⟩
 ·obtain⟨_,hd,vs,_,dd⟩:=va I.hok e
  refine⟨dd.typeIs,fun b q => ?_,hd⟩
  cases q
  obtain⟨ob,_,_,h1,h2,_⟩:=dd
  exact⟨ob,h1,h2.2.1⟩
 ·obtain⟨_,hd,xs,_,dd⟩:=vb I.hok e
  refine⟨dd.typeIs,fun b q => ?_,hd⟩
  cases q
  obtain⟨ob,_,_,h1,h2,_⟩:=dd
  exact⟨ob,h1,h2.2.1⟩
section
variable {X:Cx} {pins:List (Addr × Obj)} {σ:St} {H:Hp} {s:Shared} {a:Addr} {y d:V} {u r:Value} {o:Option V} {A:Around} {E:Value→Shared→Prop}
end
section
variable {X:Cx} {o e f:Expr} {apos cpos:Pos} {td ty tx:TE}
end
section
variable {X:Cx} {pins:List (Addr × Obj)} {σ:St} {H:Hp} {s:Shared} {a:Addr} {kvs:List (Key × V)} {A:Around} {E:Value→Shared→Prop}
end
section
variable {X:Cx} {pins:List (Addr × Obj)} {σ:St} {H:Hp} {s:Shared} {a:Addr} {y:V} {u:Value} {A:Around} {E:Value→Shared→Prop}
end
end L2
namespace Fm
open PySem PySem.Spec L2 PySem.W PyProof.Rows
section
variable {K:ZX} {ρ:List Addr} {H:Hp} {hd:Hd}
theorem RH.allocD (r:RH K ρ H hd){p:Addr}{l:List (Int × D)}(hp:RC K ρ H (.dct l) p)(hn:p ∉ ρ):RH K (ρ ++ [p]) H (hd++[.dct l]):=by
 have k:Kp ρ H (ρ ++ [p]) H:=⟨fun n a e=>by rw [ZC (List.getElem?_eq_some_iff.mp e).1];exact e,fun _ _ h=>h,fun _ _ _ h=>h,fun _ _ h=>h⟩
 refine⟨by simp [r.len],?_,fun n c a h1 h2 => ?_⟩
 ·rw [List.nodup_append]
  exact⟨r.nd,by simp,fun a ha b hb=>by simp at hb;subst hb;intro e;subst e;exact hn ha⟩
 ·by_cases hlt:n < hd.length
  ·rw [ZC hlt] at h1
   rw [ZC (by rw [r.len];exact hlt)] at h2
   exact (r.cel n c a h1 h2).mono k rfl
  ·have e1:n=hd.length:=by
    have:=(List.getElem?_eq_some_iff.mp h1).1
    simp at this
    omega
   subst e1
   simp at h1
   subst h1
   rw [← r.len] at h2
   simp at h2
   subst h2
   obtain⟨kvs,q1,q2,q3⟩:=hp
   exact⟨kvs,q1,q2,q3.mono k⟩
theorem RH.writeD (r:RH K ρ H hd){n:Nat}{p:Addr}{l:List (Int × D)}{kvs:List (Key × V)}(hp : ρ[n]? = some p)(hn:n < hd.length)(h1:kvs.map (·.1)=l.map (fun p=>(Sum.inl p.1:Key)))(h2:RDs K ρ H (l.map (·.2)) (kvs.map (·.2))):RH K ρ (upd H p (.dK kvs)) (hd.set n (.dct l)):=by
 have k:Kp ρ H ρ (upd H p (.dK kvs)):=by
  have hm:=ZK hp
  refine⟨fun _ _ h=>h,fun a us e => ?_,fun a o u e => ?_,fun a φ e => ?_⟩
  ·rw [ax (fun z=>r.noTup e (by rw [z];exact hm))];exact e
  ·rw [ax (fun z=>r.noFrz e (by rw [z];exact hm))];exact e
  ·rw [ax (fun z=>r.noExt e (by rw [z];exact hm))];exact e
 refine⟨by simp [r.len],r.nd,fun m c a q1 q2 => ?_⟩
 by_cases e:n=m
 ·subst e
  rw [List.getElem?_set_self hn] at q1
  cases q1
  rw [hp] at q2
  cases q2
  exact⟨kvs,aO,h1,h2.mono k⟩
 ·rw [ZP e] at q1
  have ne:a≠p:=fun z=>by
   subst z
   exact e (jF r.nd hp q2)
  exact (r.cel m c a q1 q2).mono k (ax ne)
theorem zh (k:Int):∀ {l:List (Int × D)} {kvs:List (Key × V)},kvs.map (·.1)=l.map (fun p=>(Sum.inl p.1:Key))→RDs K ρ H (l.map (·.2)) (kvs.map (·.2)) →
  (qj l k=none∧fm kvs (Sum.inl k)=none) ∨ ∃ d v,qj l k=some d∧fm kvs (Sum.inl k)=some v∧RD K ρ H d v
 | [],[],_,_=>.inl ⟨rfl,rfl⟩
 | [],_ :: _,h,_=>by simp at h
 | _ :: _,[],h,_=>by simp at h
 | (j,d) :: l,(kk,v) :: kvs,h1,h2=>by
  simp only [List.map_cons,List.cons.injEq] at h1
  simp only [List.map_cons,RDs] at h2
  obtain⟨v',r',e,q1,q2⟩:=h2
  cases e
  obtain⟨e1,e2⟩:=h1
  subst e1
  by_cases e:j=k
  ·subst e
   exact .inr ⟨d,v,by simp [qj],by simp [fm],q1⟩
  ·have ih:=zh k e2 q2
   have a1:qj ((j,d) :: l) k=qj l k:=by simp [qj,e]
   have a2:fm ((Sum.inl j,v) :: kvs) (Sum.inl k)=fm kvs (Sum.inl k):=jO (fun z=>e (by cases z;rfl))
   rw [a1,a2]
   exact ih
theorem zi (k:Int):∀ {l:List (Int × D)} {kvs:List (Key × V)},kvs.map (·.1)=l.map (fun p=>(Sum.inl p.1:Key))→(kvs.any fun kv=>decide (kv.1=(Sum.inl k:Key)))=l.any fun p=>decide (p.1=k)
 | [],[],_=>rfl
 | [],_ :: _,h=>by simp at h
 | _ :: _,[],h=>by simp at h
 | (j,d) :: l,(kk,v) :: kvs,h1=>by
  simp only [List.map_cons,List.cons.injEq] at h1
  obtain⟨e1,e2⟩:=h1
  subst e1
  simp [zi k e2]
theorem zj (k:Int){d0:D}{v0:V}(hv:RD K ρ H d0 v0):∀ {l:List (Int × D)} {kvs:List (Key × V)},kvs.map (·.1)=l.map (fun p=>(Sum.inl p.1:Key))→RDs K ρ H (l.map (·.2)) (kvs.map (·.2)) →
  (kvs.map fun kv=>if kv.1=(Sum.inl k:Key) then (kv.1,v0) else kv).map (·.1)=(l.map fun p=>if p.1=k then (p.1,d0) else p).map (fun p=>(Sum.inl p.1:Key))∧RDs K ρ H ((l.map fun p=>if p.1=k then (p.1,d0) else p).map (·.2)) ((kvs.map fun kv=>if kv.1=(Sum.inl k:Key) then (kv.1,v0) else kv).map (·.2))
 | [],[],_,_=>⟨rfl,RDs.nil⟩
 | [],_ :: _,h,_=>by simp at h
 | _ :: _,[],h,_=>by simp at h
 | (j,d) :: l,(kk,v) :: kvs,h1,h2=>by
  simp only [List.map_cons,List.cons.injEq] at h1
  simp only [List.map_cons,RDs] at h2
  obtain⟨v',r',e,q1,q2⟩:=h2
  cases e
  obtain⟨e1,e2⟩:=h1
  subst e1
  obtain⟨i1,i2⟩:=zj k hv e2 q2
  by_cases e:j=k
  ·subst e
   simp only [List.map_cons,if_true]
   exact⟨by rw [i1],RDs.cons hv i2⟩
  ·have e' : ¬ (Sum.inl j:Key)=Sum.inl k:=fun z=>e (by cases z;rfl)
   simp only [List.map_cons,if_neg e,if_neg e']
   exact⟨by rw [i1],RDs.cons q1 i2⟩
theorem HP (k:Int){d0:D}{v0:V}(hv:RD K ρ H d0 v0){l:List (Int × D)}{kvs:List (Key × V)}(h1:kvs.map (·.1)=l.map (fun p=>(Sum.inl p.1:Key)))(h2:RDs K ρ H (l.map (·.2)) (kvs.map (·.2))) :
  (ir kvs (Sum.inl k) v0).map (·.1)=(Bs l k d0).map (fun p=>(Sum.inl p.1:Key))∧RDs K ρ H ((Bs l k d0).map (·.2)) ((ir kvs (Sum.inl k) v0).map (·.2)):=by
 unfold ir Bs
 rw [zi k h1]
 split
 ·exact zj k hv h1 h2
 ·refine⟨by simp [h1],?_⟩
  rw [ZR,ZR]
  exact RDs.append h2 (RDs.cons hv RDs.nil)
end
section
variable {X:Cx} {pos p:Pos}
theorem K4:ME X (.Dict [] [] pos) Ei:=by
 refine PE.imp HM fun σ H Q ⟨ρ,σd,hd,rs,pp⟩=>fun q hq => ?_
 have sm:=bO (o:=HO.dK []) hq
 have hn:=rs.hp.free hq
 have rh:=(rs.hp.same sm).allocD (p:=q) (l:=[]) ⟨[],aO,rfl,RDs.nil⟩ hn
 have ex:Ext ρ H (ρ ++ [q]) (upd H q (.dK [])):=Ext.alloc hq
 refine bx.at (R:=rD X.K) (a:=.ref hd.length) pp ex (rs.ext ex rh) ?_
 simp only [rD,RD]
 refine⟨q,?_,rfl⟩
 rw [← rs.hp.len]
 simp
def PQ (K:ZX):R2:=fun x y H Q=>∃ a o,y=.ref a∧lN H a x o∧Q (.bl o.isSome) H
theorem NV (hu:X.A.units + 1 < cLine):OpR X (compareOp .In) (PQ X.K):=by
 intro pins s σ H x y v u Q I rx ry h
 obtain⟨a,o,rfl,g,q⟩:=h
 obtain rfl:u=Value.ref a:=ry
 exact QP hu I g rx fun s3 I3=>⟨.bl o.isSome,H,I3,rfl,q⟩
theorem NW {K:ZX}:Og K HH (PQ K):=by
 intro ρ H σd hd σ d k v w Q rs rv rw' pp
 cases d<;>try exact pp.elim
 cases k<;>try exact pp.elim
 rename_i i n
 simp only [HH] at pp
 simp only [RD] at rv rw'
 subst rv
 obtain⟨a,ha,rfl⟩:=rw'
 cases c:hd[n]? with
 | none=>rw [c] at pp;exact pp.elim
 | some cell =>
  rw [c] at pp
  cases cell with
  | lst l=>exact pp.elim
  | dcT _=>exact pp.elim
  | dct l =>
   simp only at pp
   obtain⟨kvs,q1,q2,q3⟩:=rs.hp.cel n _ a c ha
   refine⟨a,fm kvs (Sum.inl i),rfl,lN.k (k:=Sum.inl i) q1,?_⟩
   have e:(fm kvs (Sum.inl i)).isSome=(qj l i).isSome:=by
    rcases zh i q2 q3 with ⟨e1,e2⟩|⟨d,v,e1,e2,_⟩<;>rw [e1,e2]<;>rfl
   rw [e]
   exact pp.here rs (by simp only [rD,RD])
def PR:V→V→V→Hp→(Hp→Prop)→Prop:=fun o i v H Q=>∃ a H',o=.ref a∧zf H a i v H'∧Q H'
theorem zk (hu:X.A.units + 1 < cLine):MZ X PR:=by
 intro pins s σ H o i v ov iv u Q I ro ri rv h
 obtain⟨a,H',rfl,g,q⟩:=h
 obtain rfl:ov=Value.ref a:=ro
 exact Ff hu I g ri rv fun s' I'=>⟨H',I',q⟩
theorem Ek {o i e:Expr}{fo fi fe:EF}{p2:Pos}(hu:X.A.units + 1 < cLine)(he:ME X e fe)(ho:ME X o fo)(hi:ME X i fi)(hs:swapsWithSole [.Subscript o i p2] e pos.line X.env=pure false:=by rfl)(hw:swappedStores [.Subscript o i p2] e X.env=pure none:=by rfl)
  (h1:(assignEach [.Subscript o i p2] X.env).map (·.2)=[assign (.Subscript o i p2) X.env]:=by rfl) (ha:∀ v,assign (.Subscript o i p2) X.env v=(do
   let ov ← holding [v] (eval o X.env)
   let iv ← holding [v,ov] (eval i X.env)
   standAt p2
   holding [v,ov,iv] (setItem ov iv v)
   release [v,ov,iv] []):=by intro _;rfl):MS X (.Assign [.Subscript o i p2] e pos) (zc fo fi fe):=by
 refine PS.imp (Ba he (A9 ho hi (zk hu) ha) hs hw h1) fun En σ H ⟨ρ,σd,hd,rs,p⟩=>⟨ρ,σd,hd,rs,(bw.outE p).imp fun v H1 ⟨ρ1,d,hd1,e1,rs1,rv,p1⟩ => ?_⟩
 refine⟨ρ1,σd,hd1,rs1,(bw.outE p1).imp fun vo H2 ⟨ρ2,dO,hd2,e2,rs2,ro,p2⟩ => ?_⟩
 refine⟨ρ2,σd,hd2,rs2,(bw.outE p2).imp fun vi H3 ⟨ρ3,di,hd3,e3,rs3,ri,p3⟩ => ?_⟩
 have rv3:=(rv.mono (rs1.hp.kp e2)).mono (rs2.hp.kp e3)
 have ro3:=ro.mono (rs2.hp.kp e3)
 cases dO with
 | ref n =>
  cases di with
  | int j =>
   simp only at p3
   cases c:hd3[n]? with
   | none=>rw [c] at p3;exact p3.elim
   | some cell =>
    rw [c] at p3
    cases cell with
    | lst l=>exact p3.elim
    | dcT _=>exact p3.elim
    | dct l =>
     simp only at p3
     split at p3
     ·rename_i hz
      simp only [RD] at ro3 ri
      subst ri
      obtain⟨a,ha,rfl⟩:=ro3
      obtain⟨kvs,q1,q2,q3⟩:=rs3.hp.cel n _ a c ha
      have hl:kvs.length=l.length:=by have:=congrArg List.length q2;simpa using this
      refine⟨a,_,rfl,zf.k (k:=Sum.inl j) q1 (by rw [hl];exact Nat.lt_of_lt_of_le hz (by rw [sizeLine_eq];decide)),?_⟩
      have hn:n < hd3.length:=(List.getElem?_eq_some_iff.mp c).1
      obtain⟨u1,u2⟩:=HP j rv3 q2 q3
      have rh:=rs3.hp.writeD ha hn u1 u2
      have ex:Ext ρ3 H3 ρ3 (upd H3 a (.dK (ir kvs (Sum.inl j) v))):=Ext.write (ZK ha)
      exact p3 σ _ ρ3 ex (rs3.ext ex rh)
     ·exact p3.elim
  | _=>exact p3.elim
 | _=>exact p3.elim
end
end Fm
namespace Fm
open PySem PySem.Spec L2 PySem.W PyProof.Rows
section
variable {X:Cx} {pos p:Pos}
theorem vc {P:Program}{w:World}{H:Hp}{h h':Heap}(hok:HOk P w H h)(hk:∀ b o xs,H b=some (.tup xs)→h.get? b=some o→h'.get? b=some o):∀ {vs:List V} {rs:List (List Int)} {its:List Value},cG H vs rs→aI vs its→(rs.all fun x => !x.isEmpty)=true →
  ∃ fs,KatTups h' its fs∧fs.length=its.length ∧ ∀ v∈fs,∃ i t,v=Value.int i t
 | _,_,_,.nil,.nil,_=>⟨[],.nil,rfl,fun v hv=>by simp at hv⟩
 | _,_,_,.cons (a:=a) (r:=r) ha t,.cons rv rt,hne=>by
  simp only [List.all_cons,Bool.and_eq_true,Bool.not_eq_true'] at hne
  obtain⟨fs,h1,h2,h3⟩:=vc hok hk t rt hne.2
  obtain⟨z,its0,r0,o,ho,hc,n,hd⟩:=hok a _ ha
  cases r with
  | nil=>simp at hne
  | cons i r =>
   cases r0 with
   | cons q0 qr =>
    rename_i u us
    obtain⟨tk,rfl⟩:=Ef q0
    cases rv
    refine⟨.int i tk :: fs,KatTups.cons (hk a o _ ha ho) hc hd (by simp) h1,by simp [h2],fun v hv => ?_⟩
    rcases List.mem_cons.mp hv with rfl|hv
    ·exact⟨i,tk,rfl⟩
    ·exact h3 v hv
theorem NX {pins:List (Addr × Obj)}{σ:L2.St}{H:Hp}{s:Shared}{B:Addr}{vs:List V}{rs:List (List Int)}{A:Around}{E:Value→Shared→Prop}{Q:Value→Shared→Prop}(I:Inv X pins σ H s)(hB:H B=some (.lst vs))(h64:vs.length < 64)(rv:cG H vs rs)(nd:rs.Nodup)(hne:(rs.all fun x => !x.isEmpty)=true)
  (q:∀ vs' s',cG H vs' (cJ rs)→Inv X pins σ (upd H B (.lst vs')) s'→Q .none s'):wpAny (model X.prog X.w) A (call (.builtin "list.sort") [.ref B]) Q E s:=by
 obtain⟨hz,its,n0,rvs,ho⟩:=I.hok B _ hB
 have hlen:its.length=vs.length:=rvs.length.symm
 obtain⟨m,hm,_⟩:=id I.loc
 have nL:∀ b u,H b=some u→b≠X.env.locals:=fun b u e z=>by rw [z,I.free] at e;cases e
 have BL:=nL B _ hB
 have selfUpd:∀ vs',vs'=vs→upd H B (.lst vs')=H:=fun vs' e=>by
  subst e
  funext b
  by_cases z:b=B
  ·subst z;rw [aO,hB]
  ·rw [ax z]
 have after:∀ (h2:Heap) (its':List Value) (vs':List V) (c t':Nat),cG H vs' (cJ rs)→aI vs' its'→vs'.length≤sizeLine→h2.get? B=some (PySem.W.listOf its'.toArray c)→(∀ b o,b≠X.env.locals→b≠B→s.heap.get? b=some o→h2.get? b=some o)→h2.Ns X.env.locals m→Inv X pins σ (upd H B (.lst vs')) { s with heap:=h2,toks:=t' }:=fun h2 its' vs' c t' rv' rvs' hz' hB2 keep2 ns2=>by
  have I2:L2.Inv X pins σ (upd H B (.lst vs')) { s with heap:=h2,gens:=s.gens,drawn:=s.drawn,toks:=t' }:=by
   refine I.step (g':=s.gens) (d':=s.drawn) (t':=t') (ch:=[]) (fun _ z=>nomatch z) (fun b o hb _ _ e n=>keep2 b o hb (fun z=>by subst z;rw [hB] at n;cases n) e) (fun b o hb _ _ e n=>⟨o.slots,keep2 b o hb (fun z=>by subst z;rw [hB] at n;cases n) e⟩) (fun b o _ e n=>by rw [ax (fun z=>by subst z;rw [hB] at n;cases n)];exact n) (fun b o _ e => ?_)
    (fun b ys e=>by rw [ax (fun z=>by subst z;rw [hB] at e;cases e)];exact e) (fun b o u e=>by rw [ax (fun z=>by subst z;rw [hB] at e;cases e)];exact e) (fun b ps e=>⟨#[],by rw [ax (fun z=>by subst z;rw [hB] at e;cases e),e];simp⟩) (fun m' hm'=>by rw [NG hm' hm];exact ns2) (fun b u e => ?_) I.bare
   ·by_cases hb:b=X.env.locals
    ·obtain⟨o',_,_,ho',_⟩:=ns2
     rw [hb];exact⟨o',ho'⟩
    ·by_cases hb2:b=B
     ·subst hb2;exact⟨_,hB2⟩
     ·exact⟨o,keep2 b o hb hb2 e⟩
   ·by_cases hb:b=B
    ·subst hb
     rw [aO] at e
     cases e
     exact⟨hz',its',c,rvs',hB2⟩
    ·rw [ax hb] at e
     refine (I.hok b u e).stay (fun c v hc z => ?_) (fun c z=>by rw [ax (fun y=>by subst y;rw [hB] at z;cases z)];exact z) fun c ys z=>by rw [ax (fun y=>by subst y;rw [hB] at z;cases z)];exact z
     rcases hc with w|w
     ·subst w;exact keep2 c v (nL c _ e) hb z
     ·exact keep2 c v (nL c _ w) (fun y=>by subst y;rw [hB] at w;cases w) z
  exact I2
 by_cases h2:its.length < 2
 ·have hs:cJ rs=rs:=by
   have:rs.length < 2:=by rw [← rv.length];omega
   match rs,this with
   | [],_=>rfl
   | [_],_=>rfl
  have ha:B < s.heap.objs.size:=ZI ho
  have ho':s.heap.get? B=some (seqObj "list" its.toArray n0):=ho
  refine wpAny_call_entry slot_list_sort ⟨_,ho,rfl⟩ entry_list_sort (Br ho' h2 ⟨_,rfl,?_⟩) (args_list_sort _)
  obtain⟨e1,ho1⟩ : ∃ e1,(s.heap.update B (Obj.mapSeq fun _ => #[])).get? B=some (seqObj "list" #[] e1):=⟨_,get?_update_seq ho' (fun _ => #[])⟩
  have ho6:(((s.heap.update B (Obj.mapSeq fun _ => #[])).push (seqObj "tuple" its.toArray 0)).push (seqObj "list" #[] 0)).get? B=some (seqObj "list" #[] e1):=by
   rw [Heap.get?_push_ne _ _ _ (by rw [size_push',Heap.size_update];exact ZN (Nat.lt_succ_of_lt ha)),Heap.get?_push_ne _ _ _ (by rw [Heap.size_update];exact ZN ha)]
   exact ho1
  have keepS:∀ b o,b≠B→s.heap.get? b=some o→(sortedHeap s.heap B its its.toArray).get? b=some o:=fun b o hb e=>by
   have hlt:b < s.heap.objs.size:=ZI e
   unfold sortedHeap
   rw [Heap.get?_update_ne _ _ _ _ hb,Heap.get?_push_ne _ _ _ (by rw [size_push',Heap.size_update];exact ZN (Nat.lt_succ_of_lt hlt)),Heap.get?_push_ne _ _ _ (by rw [Heap.size_update];exact ZN hlt),Heap.get?_update_ne _ _ _ _ hb]
   exact e
  have ns2:(sortedHeap s.heap B its its.toArray).Ns X.env.locals m:=by
   obtain⟨o',es,ep,h1,r⟩:=hm
   exact⟨o',es,ep,keepS _ _ (Ne.symm BL) h1,r⟩
  refine q vs _ (by rw [hs];exact rv) (after _ its vs _ s.toks (by rw [hs];exact rv) rvs hz (get?_update_seq ho6 _) (fun b o _ hb e=>keepS b o hb e) ns2)
 ·have N0:News (Att.noObjs s.heap) X.env.locals s.heap ((B,PySem.W.listOf its.toArray n0) :: Att.ledger s.heap X.env.locals B):=fun ⟨b,o⟩ hb=>by
   rcases List.mem_cons.mp hb with e|hb
   ·cases e
    exact⟨ho,BL,Att.noObjs_get _ _⟩
   ·obtain⟨n1,n2,e⟩:=Att.mem_ledger.mp hb
    exact⟨e,n1,Att.noObjs_get _ _⟩
  have hDn:∀ q∈Att.ledger s.heap X.env.locals B,q.1≠B:=fun ⟨b,o⟩ hq=>(Att.mem_ledger.mp hq).2.1
  refine kat_lsort (vs:=its) (Att.fr_all hm) N0 (UpdF.head hDn) (by simp) (by omega) (by omega) fun e1 h' F' N' => ?_
  have inN:∀ b o,b≠X.env.locals→b≠B→s.heap.get? b=some o→(b,o)∈Att.ledger s.heap X.env.locals B:=fun b o hb hb2 e=>Att.mem_ledger.mpr ⟨hb,hb2,e⟩
  have keep':∀ b o,b≠X.env.locals→b≠B→s.heap.get? b=some o→h'.get? b=some o:=fun b o hb hb2 e=>(N' (b,o) (ZW _ (inN b o hb hb2 e))).1
  obtain⟨fs,t1,t2,t3⟩:=vc I.hok (h':=h') (fun b o xs hb e=>keep' b o (nL b _ hb) (fun z=>by subst z;rw [hB] at hb;cases hb) e) rv rvs hne
  refine kat_kind (s:={ s with heap:=h' }) (T:=.type "int") t1 (by omega) (fun v hv => ?_) rfl ?_
  ·obtain⟨i,t,rfl⟩:=t3 v hv
   exact Looks.of_pure rfl
  ·have hT:(Value.type "int" != Value.type "tuple")=true:=by decide
   rw [hT]
   have hrl:rs.length=its.length:=by rw [← rv.length,hlen]
   have dif:∀ i j,i < its.length→j < its.length→i≠j→rs.getD i []≠rs.getD j []:=fun i j hi hj hij z=>by
    have e1:rs.getD i [] = rs[i]'(by omega):=by simp [List.getD,show i < rs.length by omega]
    have e2:rs.getD j [] = rs[j]'(by omega):=by simp [List.getD,show j < rs.length by omega]
    rw [e1,e2] at z
    exact hij ((List.getElem_inj nd).mp z)
   have O:Ord (fun i j=>Fm.bZ (rs.getD i []) (rs.getD j [])) its.length:=⟨fun i j _ _ h=>oD h,fun i j k _ _ _ h h'=>gP h h',fun i j hi hj hij h=>mW (dif i j hi hj hij) h⟩
   refine y9 O (fun i j hi hj C hC => ?_) (by omega) fun pp g srt => ?_
   ·unfold kas_ask
    have at':∀ i,i < its.length → ∃ b,its.getD i Value.none=.ref b ∧ ∃ (o:Obj) (zs:List Value) (n:Nat),h'.get? b=some o∧o.data=.seq zs.toArray n∧IntsAre zs (rs.getD i []):=fun i hi=>by
     have hv:vs[i]? = some (vs[i]'(by omega)):=by simp [show i < vs.length by omega]
     obtain⟨b,e1,e2⟩:=rv.get hv
     obtain⟨u,hu,ru⟩:=rvs.get hv
     rw [e1] at ru
     cases (show u=Value.ref b from ru)
     obtain⟨z,zs,r0,o,ho,hc,n,hd⟩:=I.hok b _ e2
     exact⟨b,by simp [List.getD,hu],o,zs,n,keep' b o (nL b _ e2) (fun z=>by subst z;rw [hB] at e2;cases e2) ho,hd,Bi r0⟩
    obtain⟨b1,x1,o1,z1,n1,y1,d1,i1⟩:=at' i hi
    obtain⟨b2,x2,o2,z2,n2,y2,d2,i2⟩:=at' j hj
    rw [x1,x2]
    refine kat_lt (s:={ s with heap:=h' }) y1 d1 y2 d2 ?_
    have:=NF (prog:=X.prog) (w:=X.w) (A:=A.in1) (s:={ s with heap:=h' }) (Q:=C) (rs.getD i []) (rs.getD j []) 0 i1 i2 hC
    simpa using this
   ·have pmL:pp.toList.Perm (List.range its.length):=by simpa using Array.perm_iff_toList_perm.mp g.pm
    have inR:∀ i∈pp.toList,i < vs.length:=fun i hi=>by
     have:=pmL.mem_iff.mp hi
     rw [← hlen];simpa using this
    obtain⟨vs',hvs'⟩ : ∃ vs',vs'=pp.toList.map fun i=>vs.getD i .non:=⟨_,rfl⟩
    obtain⟨its',hits'⟩ : ∃ its',its'=pp.toList.map fun i=>its.getD i Value.none:=⟨_,rfl⟩
    have rv':cG H vs' (cJ rs):=by
     have e:(pp.toList.map fun i=>rs.getD i [])=cJ rs:=by
      refine Fd (?_:List.Perm _ _) ?_ (jN nd)
      ·refine ((pmL.map fun i=>rs.getD i []).trans ?_).trans (hJ rs).symm
       have:((List.range its.length).map fun i=>rs.getD i [])=rs:=by
        apply List.ext_getElem?
        intro i
        by_cases hi:i < rs.length
        ·have:i < its.length:=by omega
         simp [List.getD,hi,this]
        ·have : ¬ i < its.length:=by omega
         simp [hi,this]
       rw [this]
      ·rw [List.pairwise_map]
       rw [List.pairwise_iff_getElem]
       intro i j hi hj hij
       have s1:=srt i j hij (by rw [← g.sz];simpa using hj)
       have g1:pp.getD i 0=pp.toList[i]:=by simp [Array.getD,show i < pp.size by simpa using hi]
       have g2:pp.getD j 0=pp.toList[j]:=by simp [Array.getD,show j < pp.size by simpa using hj]
       rw [g1,g2] at s1
       exact s1
     have:=rv.pick pp.toList inR
     rw [e,← hvs'] at this
     exact this
    have rvs':aI vs' its':=by rw [hvs',hits'];exact aI.pick rvs pp.toList inR
    have hz':vs'.length≤sizeLine:=by
     have l1:vs'.length=its.length:=by rw [hvs',ZA,pmL.length_eq,ZO]
     rw [l1,hlen];exact hz
    rw [← hits']
    refine KasFin.intro F' N' (UpdF.head hDn) fun h2 c F2 N2 => ?_
    have hD2:h2.get? B=some (PySem.W.listOf its'.toArray c):=(N2 (B,_) (ZV ..)).1
    have keep2:∀ b o,b≠X.env.locals→b≠B→s.heap.get? b=some o→h2.get? b=some o:=fun b o hb hb2 e=>(N2 (b,o) (ZW _ (inN b o hb hb2 e))).1
    exact q vs' _ rv' (after h2 its' vs' c s.toks rv' rvs' hz' hD2 keep2 F2.ns)
end
end Fm
namespace Fm
open PySem PySem.Spec L2 PySem.W PyProof.Rows
section
variable {X:Cx} {pos p:Pos}
def ww (p d:Addr):Heap→Prop:=fun h=>h.get? p=some { cls:=.type "dict_items",data:=.fields #[.ref d] }
def NY (td:TE):TE:=fun σ H Q=>td σ H fun x H1=>∃ a kvs,x=.ref a∧H1 a=some (.dK kvs) ∧ ∀ p,H1 p=none→Q (.ref p) (upd H1 p (.ext (ww p a)))
theorem HQ {o:Expr} {td:TE} {apos cpos:Pos} (ho:PE X o td) (hbase:attributeBase o "items" X.env (eval o X.env)=eval o X.env:=by rfl) (hline:(apos.endLine == cpos.line)=true:=by rfl) :
  PE X (.Call (.Attribute o "items" apos) [] [] cpos) (NY td):=by
 intro pins s σ H Q I h
 refine wpAny_Call_method0_late hbase hline (thn (ho pins s σ H _ I h) fun v s1 ⟨x,H1,I1,r1,a,kvs,ex,e,q1⟩ => ?_)
 subst ex
 obtain rfl:v=Value.ref a:=r1
 obtain⟨t1,t2,hs⟩:=NU I1 (.inl ⟨kvs,.inl e⟩)
 obtain⟨_,hd,vs,_,dd⟩:=HJ I1.hok e
 refine⟨"dict", "dict.items",PySem.F.plainAttrs_dict,PySem.F.slot_dict_items,PySem.F.type_dict_items,t1,t2,Calls.callWith_builtin rfl (PySem.evalArgs_none ?_)⟩
 refine call_meetsIn PySem.F.slot_dict_items t1 PySem.F.entry_dict_items (PySem.F.args_dict_items_1 _) (meets_dict_items (cH X.prog X.w) a hd) ⟨⟨vs,dd⟩,?_⟩
 refine⟨.ref s1.heap.objs.size,_,I1.laid (t':=s1.toks) (o:=.ext (ww s1.heap.objs.size a)) (fun b ob q=>ZH _ q) (ZL _) ⟨ZJ _ rfl,⟨_,ZJ _ rfl⟩,fun h1 h2 f k=>k _ f⟩,rfl,q1 _ (I1.hok.fresh (ZL _))⟩
theorem HR {pins:List (Addr × Obj)}{σ:L2.St}{H H':Hp}{s:Shared}{h':Heap}{t':Nat}(I:Inv X pins σ H s)(keep:∀ b o,s.heap.get? b=some o→h'.get? b=some o)(sm:iU H H')(fresh:∀ b,b < s.heap.objs.size→H' b=H b)(new:∀ b u,s.heap.objs.size≤b→H' b=some u→cX X.prog X.w H' h' b u ∧ ∀ c,u ≠ .own c):Inv X pins σ H' { s with heap:=h',toks:=t' }:=by
 have I2:L2.Inv X pins σ H' { s with heap:=h',gens:=s.gens,drawn:=s.drawn,toks:=t' }:=by
  refine I.step (g':=s.gens) (d':=s.drawn) (t':=t') (ch:=[]) (fun _ z=>nomatch z) (fun b o _ _ _ e _=>keep b o e) (fun b o _ _ _ e _=>⟨o.slots,keep b o e⟩) (fun b o _ e n=>by rw [fresh b (ZI e)];exact n) (fun b o _ e=>⟨o,keep b o e⟩)
   (fun b ys e=>sm _ _ e) (fun b o u e=>sm _ _ e) (fun b ps e=>⟨#[],by rw [sm _ _ e];simp⟩) (fun m hm => ?_) (fun b u e => ?_) I.bare
  ·obtain⟨o',es,ep,h1,r⟩:=hm
   exact⟨o',es,ep,keep _ _ h1,r⟩
  ·by_cases hb:b < s.heap.objs.size
   ·rw [fresh b hb] at e
    refine (I.hok b u e).stay (fun c v hc z=>keep c v z) (fun c z=>sm _ _ z) fun c ys z=>sm _ _ z
   ·exact (new b u (Nat.le_of_not_lt hb) e).1
 exact I2
def ov:List Addr→List (List Int)→Hp→Hp
 | a :: as,r :: rs,H=>upd (ov as rs H) a (.tup (r.map V.int))
 | _,_,H=>H
theorem El {b:Addr}{H:Hp}:∀ {as:List Addr} {rs:List (List Int)},b∉as→ov as rs H b=H b
 | [],_,_=>rfl
 | a :: as,[],_=>rfl
 | a :: as,r :: rs,h=>by
  have h1:b≠a:=fun z=>h (by simp [z])
  have h2:b∉as:=fun z=>h (by simp [z])
  show upd _ _ _ b=_
  rw [ax h1,El h2]
theorem HS {H:Hp}:∀ {as:List Addr} {rs:List (List Int)} {j:Nat} {a:Addr} {r:List Int},as.Nodup→as[j]? = some a→rs[j]? = some r→ov as rs H a=some (.tup (r.map V.int))
 | [],_,_,_,_,_,e,_=>by simp at e
 | a :: as,[],_,_,_,_,_,e=>by simp at e
 | a :: as,r :: rs,0,_,_,_,e,e'=>by simp at e e';subst e e';exact aO
 | a :: as,r :: rs,j + 1,b,q,nd,e,e'=>by
  obtain⟨n1,n2⟩:=List.nodup_cons.mp nd
  have e:as[j]? = some b:=by simpa using e
  have hb:b≠a:=fun z=>n1 (by rw [← z];exact ZK e)
  show upd _ _ _ b=_
  rw [ax hb]
  exact HS n2 e (by simpa using e')
theorem cG.mono {H H':Hp}(k:∀ a xs,H a=some (.tup xs)→H' a=some (.tup xs)):∀ {vs:List V} {rs:List (List Int)},cG H vs rs→cG H' vs rs
 | _,_,.nil=>.nil
 | _,_,.cons h t=>.cons (k _ _ h) (cG.mono k t)
theorem Em {H':Hp}:∀ {as:List Addr} {rs:List (List Int)},as.length=rs.length→(∀ (j:Nat) a r,as[j]? = some a→rs[j]? = some r→H' a=some (.tup (r.map V.int)))→cG H' (as.map V.ref) rs
 | [],[],_,_=>.nil
 | [],_ :: _,h,_=>by simp at h
 | _ :: _,[],h,_=>by simp at h
 | a :: as,r :: rs,h,f=>.cons (f 0 a r rfl rfl) (Em (by simpa using h) fun j b q e e'=>f (j + 1) b q (by simpa using e) (by simpa using e'))
def NZ:List V→Hp→VK→Prop:=fun xs H Q=>∃ (p a:Addr) (ps:List (Int × Int)),xs=[.ref p]∧H p=some (.ext (ww p a))∧H a=some (.dK (ps.map fun q=>((Sum.inl q.1:Key),V.int q.2)))∧ps.length < 64∧(ps.map fun q=>[q.1,q.2]).Nodup ∧
 ∀ H' q vs',iU H H'→H q=none→H' q=some (.lst vs')→cG H' vs' (cJ (ps.map fun q=>[q.1,q.2]))→Q (.ref q) H'
theorem PU {κ : Type}{kvs:List (κ × V)}{vs:List (κ × Value)}(r:KV kvs vs):∀ {j:Nat} {k : κ} {x:Value} {k' : κ} {v:V},vs[j]? = some (k,x)→kvs[j]? = some (k',v)→k'=k∧bg v x:=by
 induction r with
 | nil=>intro j k x k' v e;simp at e
 | cons h t ih =>
  intro j k x k' v e e'
  cases j with
  | zero=>simp at e e';subst e e';exact h
  | succ j=>exact ih (by simpa using e) (by simpa using e')
theorem Bt (hc:X.calm=true):ig X (.builtin "sorted") NZ:=by
 intro pins s σ H xs us Q I r h
 obtain⟨p,a,ps,rfl,hp,ha,h64,nd,q⟩:=h
 obtain⟨u,rfl,ru⟩:=aI.one r
 cases (show u=Value.ref p from ru)
 obtain⟨rs,hrs⟩ : ∃ rs,rs=ps.map fun q=>[q.1,q.2]:=⟨_,rfl⟩
 rw [← hrs] at nd q
 have view:ww p a s.heap:=(I.hok p _ hp).1
 obtain⟨hz,_,vs,rel,dd⟩:=HJ I.hok ha
 have lv:vs.length=ps.length:=by rw [← rel.length];simp
 obtain⟨o,es,ep,d1,d2⟩:=id dd
 have dat:s.heap.DictAt (cH X.prog X.w) a vs ep:=⟨o,es,d1,d2⟩
 refine Calls.call_function_entry kind_sorted plain_sorted entry_sorted (args_sorted1 _) ?_
 unfold Builtin.«sorted»
 refine wpAny_bind (m:=checkCount "sorted" 1 1 _) (wpAny_pure ?_)
 refine wpAny_bind (kdx_collect (A:=X.A.in1) (knd:=cH X.prog X.w) (kvs:=vs) (ep:=ep) (I.ok.hd hc) ⟨_,view,rfl,rfl⟩ dat (by rw [lv,sizeLine_eq];omega) fun h' tk as hk hl hG => ?_)
 have ndA:as.Nodup:=hG.rise.imp fun h=>ZN h
 have lr:as.length=rs.length:=by rw [hl,lv,hrs];simp
 have newA:∀ b∈as,s.heap.objs.size≤b:=fun b hb=>Nat.le_of_lt (hG.above b hb)
 have sm:iU H (ov as rs H):=fun b u e=>by
  rw [El]
  ·exact e
  ·intro z
   exact absurd (I.hok.lt e) (Nat.not_lt.mpr (newA b z))
 have I1:Inv X pins σ (ov as rs H) { s with heap:=h',toks:=tk }:=by
  refine HR I hk sm (fun b hb=>El fun z=>absurd hb (Nat.not_lt.mpr (newA b z))) fun b u hb e => ?_
  by_cases hm:b∈as
  ·obtain⟨j,hj⟩:=List.getElem?_of_mem hm
   have hjl:j < as.length:=(List.getElem?_eq_some_iff.mp hj).1
   obtain⟨key,k,x,e1,e2,e3⟩:=hG.pairs j b hj
   obtain⟨pq,hpq⟩ : ∃ pq,ps[j]? = some pq:=⟨ps[j]'(by omega),by simp [show j < ps.length by omega]⟩
   have hr:rs[j]? = some [pq.1,pq.2]:=by rw [hrs,ZQ,hpq];rfl
   rw [HS ndA hj hr] at e
   cases e
   refine⟨?_,fun c z=>by cases z⟩
   obtain⟨hkk,rx⟩:=PU rel e1 (show (ps.map fun q=>((Sum.inl q.1:Key),V.int q.2))[j]? = some (Sum.inl pq.1,V.int pq.2) by rw [ZQ,hpq];rfl)
   obtain⟨t,rfl⟩:=Ef rx
   subst hkk
   have:∃ t',key=Value.int pq.1 t':=Value.isInt_shape e2
   obtain⟨t',rfl⟩:=this
   exact⟨by simp [sizeLine_eq],[_,_],.cons ⟨t',rfl⟩ (.cons ⟨t,rfl⟩ .nil),_,e3,rfl,_,rfl⟩
  ·rw [El hm] at e
   exact absurd (I.hok.lt e) (Nat.not_lt.mpr hb)
 refine wpAny_bind (wpAny_newList ?_ (by rw [ZA,hl,lv,sizeLine_eq];omega))
 have rvA:aI (as.map V.ref) (as.map Value.ref):=by
  clear hl hG ndA lr newA sm I1 q
  induction as with
  | nil=>exact .nil
  | cons a as ih=>exact .cons rfl ih
 have I2:Inv X pins σ (upd (ov as rs H) h'.objs.size (.lst (as.map V.ref))) { s with heap:=h'.push { cls:=.type "list",data:=.seq (as.map Value.ref).toArray },toks:=tk }:=I1.lnew (t':=tk) rvA (by rw [ZA,hl,lv,sizeLine_eq];omega)
 have fr:ov as rs H h'.objs.size=none:=I1.hok.fresh (ZL _)
 have sm2:iU (ov as rs H) (upd (ov as rs H) h'.objs.size (.lst (as.map V.ref))):=bO fr
 have rowsA:cG (upd (ov as rs H) h'.objs.size (.lst (as.map V.ref))) (as.map V.ref) rs:=Em lr fun j b r e e'=>sm2 _ _ (HS ndA e e')
 have hne:(rs.all fun x => !x.isEmpty)=true:=by rw [hrs,List.all_map,List.all_eq_true];intro q _;rfl
 refine wpAny_bind (wpAny_holding (NX (A:=X.A.in1) I2 aO (by rw [ZA,hl,lv];exact h64) rowsA nd hne fun vs' s' rv' I3=>wpAny_pure ⟨_,rfl,?_⟩))
 have uu:upd (upd (ov as rs H) h'.objs.size (.lst (as.map V.ref))) h'.objs.size (.lst vs')=upd (ov as rs H) h'.objs.size (.lst vs'):=by
  funext b
  by_cases z:b=h'.objs.size
  ·subst z;rw [aO,aO]
  ·rw [ax z,ax z,ax z]
 rw [uu] at I3
 refine⟨.ref h'.objs.size,_,I3,rfl,q _ _ vs' (fun b u e=>bO fr _ _ (sm _ _ e)) ?_ aO ?_⟩
 ·cases e:H h'.objs.size with
  | none=>rfl
  | some u=>rw [sm _ _ e] at fr;cases fr
 ·refine rv'.mono fun b ys e => ?_
  have hb:b≠h'.objs.size:=fun z=>by subst z;rw [aO] at e;cases e
  rw [ax hb] at e ⊢
  exact e
theorem oF:∀ {l:List (Int × D)} {r:List (List Int)},dP l=some r → ∃ ps:List (Int × Int),l=ps.map (fun q=>(q.1,D.int q.2))∧r=ps.map fun q=>[q.1,q.2]
 | [],r,e=>by simp only [dP] at e;cases e;exact⟨[],rfl,rfl⟩
 | (k,d) :: l,r,e=>by
  cases d<;>simp only [dP] at e<;>try (cases e;done)
  rename_i v
  cases c:dP l with
  | none=>rw [c] at e;cases e
  | some r' =>
   rw [c] at e
   cases e
   obtain⟨ps,rfl,rfl⟩:=oF c
   exact⟨(k,v) :: ps,rfl,rfl⟩
theorem HU {K:ZX}{ρ:List Addr}{H:Hp}:∀ {ps:List (Int × Int)} {kvs:List (Key × V)},kvs.map (·.1)=(ps.map fun q=>(q.1,D.int q.2)).map (fun p=>(Sum.inl p.1:Key))→RDs K ρ H ((ps.map fun q=>(q.1,D.int q.2)).map (·.2)) (kvs.map (·.2))→kvs=ps.map fun q=>((Sum.inl q.1:Key),V.int q.2)
 | [],[],_,_=>rfl
 | [],_ :: _,h,_=>by simp at h
 | _ :: _,[],h,_=>by simp at h
 | (j,d) :: ps,(kk,v) :: kvs,h1,h2=>by
  simp only [List.map_cons,List.cons.injEq] at h1
  simp only [List.map_cons,RDs] at h2
  obtain⟨v',r',e,q1,q2⟩:=h2
  cases e
  obtain⟨e1,e2⟩:=h1
  subst e1
  simp only [RD] at q1
  subst q1
  rw [HU e2 q2]
  rfl
theorem HV {o:Expr} {fo:EF} {apos cpos:Pos} (hc:X.calm=true) (hg:Gl X "sorted") (hm:X.mg "sorted" = none) (ho:ME X o fo)
  (hs:starEach [.Call (.Attribute o "items" apos) [] [] cpos] X.env=(false,eval (.Call (.Attribute o "items" apos) [] [] cpos) X.env) :: starEach [] X.env:=by rfl)
  (hbase:attributeBase o "items" X.env (eval o X.env)=eval o X.env:=by rfl) (hline:(apos.endLine == cpos.line)=true:=by rfl) :
  MF X (.Call (.Name "sorted" p) [.Call (.Attribute o "items" apos) [] [] cpos] [] pos) (mY fo):=by
 refine PE.imp (ly (Bt hc) hg hm (by decide +kernel) (cf (HQ ho hbase hline) dX hs) (he:=hs)) fun σ H Q ⟨ρ,σd,hd,rs,pp⟩=>⟨ρ,σd,hd,rs,?_⟩
 unfold mY at pp
 cases e:fo σd hd with
 | exc x h'=>rw [e] at pp;exact pp
 | bad=>rw [e] at pp;exact pp
 | ok d hd1 =>
  rw [e] at pp
  simp only [aN] at pp
  intro v H1 ρ1 e1 rs1 rv
  cases d<;>try exact pp.elim
  rename_i n
  simp only at pp
  simp only [rD,RD] at rv
  obtain⟨a,ha,rfl⟩:=rv
  cases c:hd1[n]? with
  | none=>rw [c] at pp;exact pp.elim
  | some cell =>
   rw [c] at pp
   cases cell with
   | lst l=>exact pp.elim
   | dcT _=>exact pp.elim
   | dct l =>
    simp only at pp
    cases c2:dP l with
    | none=>rw [c2] at pp;exact pp.elim
    | some r =>
     rw [c2] at pp
     simp only at pp
     split at pp
     ·rename_i hz
      obtain⟨ps,rfl,rfl⟩:=oF c2
      obtain⟨kvs,q1,q2,q3⟩:=rs1.hp.cel n _ a c ha
      have hk:=HU q2 q3
      subst hk
      refine⟨a,_,rfl,q1,fun q hq=>⟨q,a,ps,rfl,aO,by rw [ax (bb q1 hq)];exact q1,by simpa using hz.1,hz.2,fun H' q' vs' sm hq' hl' rv' => ?_⟩⟩
      have sm1:iU H1 H':=fun b u eb=>sm _ _ (bO hq _ _ eb)
      have nq:q'≠q:=fun z=>by subst z;rw [aO] at hq';cases hq'
      rw [ax nq] at hq'
      have hn:=rs1.hp.free hq'
      exact pp q' vs' H' ρ1 (e1.trans (Ext.same sm1)) (rs1.same sm1) (e1.fresh hq' hn) hl' hn rv'.rds
     ·exact pp.elim
end
end Fm
namespace Fm
@[simp] def gv (la:LF) (b:EF):LF:=fun σ h=>(la σ h).bind fun l h=>(b σ h).bind fun y h=>match y with
 | .int n=>if 0≤n∧n≤1000∧l.length * n.toNat≤1000 then .ok (List.replicate n.toNat l).flatten h else .bad
 | _=>.bad
@[simp] def QQ (x i e:EF):EF:=fun σ h=>(x σ h).bind fun p h=>match p with
 | .ref n=>match h[n]? with
  | some (.lst _)=>(i σ h).bind fun j h=>(e σ h).bind fun d h=>match j with
   | .int k=>match h[n]? with
    | some (.lst l)=>if 0≤k∧k≤l.length∧l.length < SZ then .ok .non (h.set n (.lst (l.take k.toNat++[d]++l.drop k.toNat))) else .bad
    | _=>.bad
   | _=>.bad
  | _=>.bad
 | _=>.bad
@[simp] def dv (a b:EF):LF:=fun σ h=>(a σ h).bind fun x h=>(b σ h).bind fun y h=>match x,y with
 | .ref n,.ref m=>match h[n]?,h[m]? with
  | some (.lst l),some (.lst k)=>if l.length + k.length≤SZ then .ok (l++k) h else .bad
  | _,_=>.bad
 | _,_=>.bad
end Fm
namespace Fm
open PySem PySem.Spec L2 PySem.W PyProof.Rows
section
variable {X:Cx} {pos p:Pos}
theorem vd {K:ZX}{ρ:List Addr}{H:Hp}:∀ {l:List D} {vs:List V} {bs:List Bool},RDs K ρ H l vs→im l=some bs→vs=bs.map V.bl
 | [],_,is,r,e=>by simp only [im] at e;cases e;simp only [RDs] at r;subst r;rfl
 | d :: l,_,is,r,e=>by
  simp only [RDs] at r
  obtain⟨v,vs,rfl,h1,h2⟩:=r
  cases d<;>simp only [im] at e<;>try (cases e;done)
  rename_i i
  cases c:im l with
  | none=>rw [c] at e;cases e
  | some js =>
   rw [c] at e
   cases e
   simp only [RD] at h1
   rw [h1,vd h2 c]
   rfl
theorem HW {bs:List Bool}{its:List Value}(r:aI (bs.map V.bl) its):∀ (i:Nat) (v:Value),its.toArray[i]? = some v→v=.bool (bs.getD i false):=by
 intro i v e
 have e':its[i]? = some v:=by simpa using e
 have hi:i < bs.length:=by
  have:=(List.getElem?_eq_some_iff.mp e').1
  have:=r.length
  simp at this
  omega
 obtain⟨u,hu,ru⟩:=r.get (i:=i) (x:=V.bl bs[i]) (by simp [hi])
 rw [hu] at e'
 cases e'
 rw [show v=Value.bool bs[i] from ru]
 simp [List.getD,hi]
theorem HX (bs:List Bool):(List.range bs.length).all (fun i=>bs.getD i false)=bs.all id:=by
 have:bs=(List.range bs.length).map fun i=>bs.getD i false:=by
  apply List.ext_getElem?
  intro i
  by_cases hi:i < bs.length<;>simp [List.getD,hi]
 conv=>rhs;rw [this]
 rw [List.all_map]
 rfl
theorem Fg (hc:X.calm=true):ig X (.builtin "all") (fun xs H Q=>∃ (p:Addr) (bs:List Bool),xs=[.ref p]∧(SqL X.K H p (bs.map V.bl)∨SqT X.K H p (bs.map V.bl))∧Q (.bl (bs.all id)) H):=by
 intro pins s σ H xs us Q I r q
 obtain⟨p,bs,rfl,sq,q⟩:=q
 obtain⟨u,rfl,ru⟩:=aI.one r
 cases (show u=Value.ref p from ru)
 have hA:(X.A.in1).handled=none:=I.ok.hd hc
 have tr:∀ (its:List Value),aI (bs.map V.bl) its→TruthOf X.prog X.w X.A.in1 (fun i v=>its.toArray[i]? = some v) (fun i=>bs.getD i false):=fun its rv i v s Q E hP hQ=>by
  rw [HW rv i v hP]
  exact wpAny_truthy_bool hQ
 have fin:∀ {it:Obj} {h':Heap} {tk:Nat} {n:Nat},n=bs.length→(∀ b o,b∉[s.heap.objs.size]→(s.heap.push it).get? b=some o→h'.get? b=some o)→EP X pins σ Q (.bool ((List.range n).all fun i=>bs.getD i false)) { s with heap:=h',toks:=tk }:=by
  intro it h' tk n hn hk
  subst hn
  refine⟨.bl (bs.all id),H,I.kept (t':=tk) fun b o e=>hk b o (by simp;exact ZN (ZI e)) (ZH _ e),by rw [HX];rfl,q⟩
 rcases sq with sq|sq
 ·obtain⟨its,rv,pl,hz⟩:=I.list sq
  have il:s.heap.IsList p its.toArray:=pl.isList
  have hlt:p < s.heap.objs.size:=by obtain⟨o,ho,_⟩:=il;exact ZI ho
  refine PySem.call_all_walk (PySem.wpAny_pyIter_list il ?_)
  refine⟨s.heap.objs.size,_,[s.heap.objs.size],_,_,_,fun i=>bs.getD i false,rfl,PySem.Walks.list hA s.heap.objs.size p (ZN hlt) its.toArray,⟨⟨_,ZJ _ rfl,rfl,rfl⟩,?_⟩,tr its rv,?_⟩
  ·obtain⟨o,ho,r⟩:=il;exact⟨o,ZH _ ho,r⟩
  ·exact fun h' tk hk=>fin (by simpa using rv.length.symm) hk
 ·obtain⟨its,rv,pl,hz⟩:=I.tuple sq
  have il:s.heap.IsTuple p its.toArray:=pl
  have hlt:p < s.heap.objs.size:=by obtain⟨o,ho,_⟩:=il;exact ZI ho
  refine PySem.call_all_walk (PySem.wpAny_pyIter_tuple il ?_)
  refine⟨s.heap.objs.size,_,[s.heap.objs.size],_,_,_,fun i=>bs.getD i false,rfl,PySem.Walks.tuple hA s.heap.objs.size p (ZN hlt) its.toArray,⟨⟨_,ZJ _ rfl,rfl,rfl⟩,?_⟩,tr its rv,?_⟩
  ·obtain⟨o,ho,r⟩:=il;exact⟨o,ZH _ ho,r⟩
  ·exact fun h' tk hk=>fin (by simpa using rv.length.symm) hk
theorem wx {a:Expr} {la:LF} (hc:X.calm=true) (hg:Gl X "all") (hm:X.mg "all" = none) (ha:MQ X a la) (hs:starEach [a] X.env=(false,eval a X.env) :: starEach [] X.env:=by rfl):ME X (.Call (.Name "all" p) [a] [] pos) (yT la):=by
 refine wg (g:=fun l h=>match im l with|some bs=>.ok (.bl (bs.all id)) h|none=>.bad) (Ht (Fg hc) hg hm (by decide +kernel) (he:=hs)) ha (fun ρ H σd hd σ l q vs Q rs sq rvs p => ?_) hs
 cases c:im l with
 | none=>simp only [c] at p;exact p.elim
 | some is =>
  simp only [c] at p
  have e:=vd rvs c
  subst e
  exact⟨q,is,rfl,sq.imp id SqT.of,p.here rs (by simp only [rD,RD])⟩
theorem qm {a b:Expr}{la:LF}{fb:EF}(ha:MF X a la)(hb:ME X b fb):MF X (.BinOp a .Mult b pos) (gv la fb):=by
 refine PE.imp (Hc Nl ha hb) fun σ H Q ⟨ρ,σd,hd,rs,pp⟩=>⟨ρ,σd,hd,rs,?_⟩
 unfold gv at pp
 cases e:la σd hd with
 | exc x h'=>rw [e] at pp;exact pp
 | bad=>rw [e] at pp;exact pp
 | ok l hd1 =>
  rw [e] at pp
  simp only [aN] at pp
  intro q vs H1 ρ1 e1 rs1 hq0 hq hn rvs
  refine⟨ρ1,σd,hd1,rs1,?_⟩
  cases e2:fb σd hd1 with
  | exc x h'=>rw [e2] at pp;exact pp
  | bad=>rw [e2] at pp;exact pp
  | ok y hd2 =>
   rw [e2] at pp
   simp only [aN] at pp
   intro v H2 ρ2 ex2 rs2 rv
   cases y<;>try exact pp.elim
   rename_i n
   simp only at pp
   split at pp
   ·rename_i hz
    simp only [rD,RD] at rv
    subst rv
    have hq2:H2 q=some (.lst vs):=ex2.frame q _ hq hn
    have rvs2:=rvs.mono (rs1.hp.kp ex2)
    refine⟨q,n,vs,rfl,rfl,hq2,by omega,by omega,by rw [← rvs.length,sizeLine_eq];omega,fun p' hp' => ?_⟩
    exact yV.mk pp (e1.trans ex2) rs2 (RDs.rep rvs2 n.toNat) p' hp'
   ·exact pp.elim
theorem i4 {a b:Expr}{fa fb:EF}(ha:ME X a fa)(hb:ME X b fb):MF X (.BinOp a .Add b pos) (dv fa fb):=by
 refine PE.imp (Hc Nk ha hb) fun σ H Q ⟨ρ,σd,hd,rs,pp⟩=>⟨ρ,σd,hd,rs,?_⟩
 unfold dv at pp
 cases e:fa σd hd with
 | exc x h'=>rw [e] at pp;exact pp
 | bad=>rw [e] at pp;exact pp
 | ok d hd1 =>
  rw [e] at pp
  simp only [aN] at pp
  intro v H1 ρ1 e1 rs1 rv
  refine⟨ρ1,σd,hd1,rs1,?_⟩
  cases e2:fb σd hd1 with
  | exc x h'=>rw [e2] at pp;exact pp
  | bad=>rw [e2] at pp;exact pp
  | ok k hd2 =>
   rw [e2] at pp
   simp only [aN] at pp
   intro w H2 ρ2 ex2 rs2 rw'
   cases d with
   | ref n =>
    cases k with
    | ref m =>
     simp only at pp
     simp only [rD,RD] at rv rw'
     obtain⟨a1,ha1,rfl⟩:=rv
     obtain⟨b1,hb1,rfl⟩:=rw'
     have ha2:=ex2.get ha1
     cases c1:hd2[n]? with
     | none=>rw [c1] at pp;exact pp.elim
     | some x1 =>
      cases c2:hd2[m]? with
      | none=>rw [c1,c2] at pp;cases x1<;>exact pp.elim
      | some x2 =>
       rw [c1,c2] at pp
       cases x1 with
       | dct _=>exact pp.elim
       | dcT _=>exact pp.elim
       | lst l =>
        cases x2 with
        | dct _=>exact pp.elim
        | dcT _=>exact pp.elim
        | lst k =>
         simp only at pp
         split at pp
         ·rename_i hz
          obtain⟨vs1,hv1,rvs1⟩:=rs2.hp.cel n _ a1 c1 ha2
          obtain⟨vs2,hv2,rvs2⟩:=rs2.hp.cel m _ b1 c2 hb1
          refine⟨a1,b1,vs1,vs2,rfl,rfl,hv1,hv2,by rw [← rvs1.length,← rvs2.length];exact pG hz,fun p' hp' => ?_⟩
          exact yV.mk pp (e1.trans ex2) rs2 (RDs.append rvs1 rvs2) p' hp'
         ·exact pp.elim
    | _=>exact pp.elim
   | _=>exact pp.elim
end
end Fm
namespace Fm
noncomputable section
open Classical
def ej (l:List D):List D:=(List.range l.length).zip l |>.map fun p=>.tup [.int (p.1:Nat),p.2]
end
end Fm
namespace Fm
open PySem PySem.Spec L2
open PyProof.Rows (Call_)
section
variable {prog:Program} {w:World} {A:Around} {E:Value→Shared→Prop} {s:Shared} {z TI TO i1 i2 l1 l2:Addr} {k:Nat} {xs ys:Array Value} {a b:Value}
end
section
variable {prog:Program} {w:World} {A:Around} {E:Value→Shared→Prop} {s:Shared}
end
section
variable {X:Cx} {pos p tp:Pos} {elts:List Expr} {tk:Nat}
end
end Fm
namespace Fm
open PySem PySem.Spec L2 PySem.W PyProof.Rows
section
variable {X:Cx} {pos p:Pos}
end
section
variable {prog:Program} {w:World} {A:Around} {E:Value→Shared→Prop} {s:Shared}
end
section
variable {X:Cx} {pos p:Pos}
end
end Fm
namespace Fm
open PySem PySem.Spec L2
open AutoSeq1 (wpAny_loadPart')
open PyProof.Rows (Call_)
def ItL (K:ZX) (a:Addr):It :=
 ⟨fun i H=>∃ xs x,SqL K H a xs∧xs[i]? = some x,fun i H x H'=>∃ q v,x=.ref q∧H q=none∧H'=upd H q (.tup [.int (i:Nat),v]) ∧ ∀ xs,SqL K H a xs→xs[i]? = some v,fun i H=>∃ xs,SqL K H a xs∧xs.length=i⟩
theorem Bu {P:Program}{w:World}{K:ZX}{elts:List Expr}{k:Nat}{pos:Pos}(e it a:Addr):Bc P w K (.Tuple elts k pos) (ItL K a) [e,it] e (fun i h=>(∃ old,IsEnum h e it (i:Nat) old)∧h.IsListIter it a i) where
 mem:=by simp
 obj:=fun i h st b hb=>by
  obtain⟨⟨old,he⟩,o,ho,hc,hd⟩:=st
  rcases List.mem_cons.mp hb with rfl|hb
  ·exact⟨_,he,fun v z=>by
    have z':Data.fields _=Data.cell v:=z
    cases z'⟩
  ·have:b=it:=by simpa using hb
   subst this
   exact⟨o,ho,fun v z=>by rw [hd] at z;cases z⟩
 keep:=fun i h h' st kk=>by
  obtain⟨⟨old,he⟩,st⟩:=st
  exact⟨⟨old,kk e (by simp) _ he⟩,st.at fun o x=>kk it (by simp) o x⟩
 item:=by
  intro X hP hw hK hc i pins s σ H E I hf st hg
  subst hP hw hK
  obtain⟨⟨old,he⟩,hit⟩:=st
  obtain⟨xs,x,hq,hx⟩:=hg
  obtain⟨its,rv,p,hz⟩:=I.list hq
  have ht:s.heap.IsList a its.toArray:=p.isList
  obtain⟨oi,hoi,hci,hdi⟩:=id hit
  obtain⟨oa,hoa,hca,na,hda⟩:=id ht
  have hei:e≠it:=fun z=>by
   subst z
   have he':s.heap.get? e=_:=he
   rw [hoi] at he';cases he';exact y8 hci (by decide)
  have hea:e≠a:=fun z=>by
   subst z
   have he':s.heap.get? e=_:=he
   rw [hoa] at he';cases he';exact y8 hca (by decide)
  have hai:a≠it:=fun z=>by
   subst z
   rw [hoi] at hoa;cases hoa;rw [hci] at hca;exact y8 hca (by decide)
  obtain⟨e0,e1,e2,e3,e4,e5⟩:=hf e (by simp)
  obtain⟨f0,f1,f2,f3,f4,f5⟩:=hf it (by simp)
  have hlt:i < its.toArray.size:=by
   have:=(List.getElem?_eq_some_iff.mp hx).1
   have hl:=rv.length
   simp;omega
  refine wpAny_pyNext_enum_itemD (Draws.list (prog:=X.prog) (w:=X.w) (A:=X.A.in1) (I.ok.hd hc) it a hai its.toArray) he ⟨hit,ht⟩ hlt hei (by simp;exact⟨hei,hea⟩) fun y h' tk hy heo hst' htup hsz hk => ?_
  refine⟨_,rfl,wpAny_letOwnedTupleGo_enum heo fun h2 he2 hs2 => ?_⟩
  replace hs2:Heap.SameBut e h' h2:=hs2
  obtain⟨u,hu,ru⟩:=rv.get hx
  have hyu:y=u:=by
   have:its.toArray[i]? = some u:=by simpa using hu
   rw [hy] at this;exact ZT this
  subst hyu
  have elt:e < s.heap.objs.size:=ZI he
  have ilt:it < s.heap.objs.size:=ZI hoi
  have hN:H s.heap.objs.size=none:=I.hok.fresh (ZL _)
  have keep:∀ b o,b≠e→b≠it→s.heap.get? b=some o→h2.get? b=some o:=fun b o b1 b2 q=>(hs2.2 b b1).trans (hk b o b1 b2 q)
  have htup2:h2.get? s.heap.objs.size=some { cls:=.type "tuple",data:=.seq #[.int i tk,y] }:=(hs2.2 _ (Nat.ne_of_gt elt)).trans htup
  have nch:∀ b,b∉([e,it] : List Addr)→b≠e∧b≠it:=fun b hb=>by simpa using hb
  refine⟨.ref s.heap.objs.size,upd H s.heap.objs.size (.tup [.int (i:Nat),x]),?_,rfl,⟨_,x,rfl,hN,rfl,fun ys hys=>by rw [I.list_inj hys hq];exact hx⟩,⟨⟨_,by simpa using he2⟩,hst'.1.extBut hs2.extBut (Ne.symm hei)⟩,fun b hb => ?_⟩
  ·suffices I2:L2.Inv X pins σ (upd H s.heap.objs.size (.tup [.int (i:Nat),x])) { s with heap:=h2,gens:=s.gens,drawn:=s.drawn,toks:=tk + 1 } from I2
   refine I.step (g':=s.gens) (d':=s.drawn) (t':=tk + 1) (ch:=[e,it]) (fun b hb => ?_) (fun b o _ _ hb q _=>keep b o (nch b hb).1 (nch b hb).2 q) (fun b o _ _ hb q _=>⟨o.slots,keep b o (nch b hb).1 (nch b hb).2 q⟩) (fun b o _ q n => ?_) (fun b o hb q=>⟨o,keep b o (nch b hb).1 (nch b hb).2 q⟩)
    (fun b ys q => ?_) (fun b o u q => ?_) (fun b ps q=>⟨#[],?_⟩) (fun m hm => ?_) (fun b u q => ?_) I.bare
   ·rcases List.mem_cons.mp hb with rfl|hb
    ·exact⟨e3,e1,e4,e5⟩
    ·have:b=it:=by simpa using hb
     subst this
     exact⟨f3,f1,f4,f5⟩
   ·rw [ax (ZN (ZI q))];exact n
   ·rw [ax (bb q hN)];exact q
   ·rw [ax (bb q hN)];exact q
   ·rw [ax (bb q hN),q];simp
   ·obtain⟨o,es,ep,ho,r⟩:=hm
    exact⟨o,es,ep,keep _ o (Ne.symm e1) (Ne.symm f1) ho,r⟩
   ·by_cases hb:b=s.heap.objs.size
    ·subst hb
     rw [aO] at q
     cases q
     exact⟨by show 2≤sizeLine;rw [sizeLine_eq];decide,[.int i tk,y],.cons ⟨tk,rfl⟩ (.cons ru .nil),_,htup2,rfl,_,rfl⟩
    ·rw [ax hb] at q
     have ne1:∀ c v,H c=some v→c≠e:=fun c v z w=>by rw [w,e0] at z;cases z
     have ne2:∀ c v,H c=some v→c≠it:=fun c v z w=>by rw [w,f0] at z;cases z
     refine (I.hok b u q).stay (fun c v hc' z => ?_) (fun c z=>by rw [ax (bb z hN)];exact z) fun c ys z=>by rw [ax (bb z hN)];exact z
     rcases hc' with w|w
     ·subst w;exact keep c v (ne1 c _ q) (ne2 c _ q) z
     ·exact keep c v (ne1 c _ w) (ne2 c _ w) z
  ·have:b≠s.heap.objs.size:=by
    rcases List.mem_cons.mp hb with rfl|hb
    ·exact ZN elt
    ·have:b=it:=by simpa using hb
     subst this
     exact ZN ilt
   rw [ax this]
   exact (hf b hb).1
 done:=by
  intro X hP hw hK hc i pins s σ H E I hf st hg
  subst hP hw hK
  obtain⟨⟨old,he⟩,hit⟩:=st
  obtain⟨xs,hq,hx⟩:=hg
  obtain⟨its,rv,p,hz⟩:=I.list hq
  have ht:s.heap.IsList a its.toArray:=p.isList
  obtain⟨oi,hoi,hci,hdi⟩:=id hit
  obtain⟨oa,hoa,hca,na,hda⟩:=id ht
  have hai:a≠it:=fun z=>by
   subst z
   rw [hoi] at hoa;cases hoa;rw [hci] at hca;exact y8 hca (by decide)
  obtain⟨f0,f1,f2,f3,f4,f5⟩:=hf it (by simp)
  have hsz:its.toArray.size=i:=by have:=rv.length;simp;omega
  refine wpAny_pyNext_enum_endD (Draws.list (prog:=X.prog) (w:=X.w) (A:=X.A.in1) (I.ok.hd hc) it a hai its.toArray) he ⟨by rw [hsz];exact hit,ht⟩ fun h' hx'=>⟨rfl,I.turned (t':=s.toks) (fun b o hb e=>hx' b o hb e) f0 f1 f3 f4 f5⟩
 self:=fun _ _ _ _ _ st h=>by
  obtain⟨⟨old,he⟩,_⟩:=st
  exact wpAny_pyIter_enum he h
section
variable {X:Cx} {pos p tp:Pos} {elts:List Expr} {tk:Nat}
def QR (K:ZX) (ta:TE):TI:=fun σ H R=>ta σ H fun x H1=>∃ a xs,x=.ref a∧SqL K H1 a xs∧(xs.length≤sizeLine→R (ItL K a) H1)
theorem HY {a:Expr} {ta:TE} (hg:Gl X "enumerate") (hm:X.mg "enumerate" = none) (ha:PE X a ta) (hs:starEach [a] X.env=[(false,eval a X.env)]:=by rfl):PI X (.Tuple elts tk tp) (.Call (.Name "enumerate" p) [a] [] pos) (QR X.K ta):=by
 intro pins s σ H R I h
 have hpa:=cf ha dX hs
 refine Call_ (iS I hg hm PyProof.Rows.boot_enumerate (PyProof.Rows.callWith_type1 (thn (hpa pos pins s σ H (fun vs H1=>∃ a xs,vs=[.ref a]∧SqL X.K H1 a xs∧(xs.length≤sizeLine→R (ItL X.K a) H1)) I ?_) fun us s1 ⟨vs,H1,I1,r1,q1⟩ => ?_) hs rfl))
 ·show ta σ H fun x H1=>_
  have key:∀ (x:V) (H1:Hp),(∃ a xs,x=.ref a∧SqL X.K H1 a xs∧(xs.length≤sizeLine→R (ItL X.K a) H1))=(∃ a xs,[x] = [.ref a]∧SqL X.K H1 a xs∧(xs.length≤sizeLine→R (ItL X.K a) H1)):=fun x H1=>by simp
  have h':ta σ H fun x H1=>∃ a xs,x=.ref a∧SqL X.K H1 a xs∧(xs.length≤sizeLine→R (ItL X.K a) H1):=h
  simp only [key] at h'
  exact h'
 ·obtain⟨a,xs,e,hq,q⟩:=q1
  subst e
  obtain⟨u,rfl,ru⟩:=aI.one r1
  cases (show u=Value.ref a from ru)
  obtain⟨its,rv,pt,hz⟩:=I1.list hq
  refine call_enumerate_list (show s1.heap.IsList a its.toArray from pt.isList) fun h' he hit hsz hk => ?_
  refine wpAny_pyIter_enum (s:={ s1 with heap:=h' }) he ?_
  have I2:Inv X pins σ H1 { s1 with heap:=h' }:=I1.kept (t':=s1.toks) hk
  refine⟨s1.heap.objs.size + 1,[s1.heap.objs.size + 1,s1.heap.objs.size],_,_,H1,rfl,I2,Bu (s1.heap.objs.size + 1) s1.heap.objs.size a,⟨⟨_,by simpa using he⟩,hit⟩,fun b hb => ?_,q hz⟩
  have hb':s1.heap.objs.size≤b:=by
   rcases List.mem_cons.mp hb with e|hb
   ·rw [e];exact Nat.le_succ _
   ·have:b=s1.heap.objs.size:=by simpa using hb
    rw [this];exact ZL _
  exact I1.fpOk hb' (I1.hok.fresh hb')
theorem Bv {K:ZX}{ρ:List Addr}{H:Hp}{n:Nat}{q:Addr}{l:List D}(hq : ρ[n]? = some q)(hz:(ej l).length≤sizeLine):y3 K ρ H (ItL K q) (ej l) (fun h=>h[n]? = some (.lst l)) where
 go:=fun ρ' H' hd' i d ex rh hh hi=>by
  have hq':=ex.get hq
  obtain⟨vs,hv,rvs⟩:=rh.cel n _ q hh hq'
  unfold ej at hi
  obtain⟨hil,hi2⟩:=List.getElem?_eq_some_iff.mp hi
  have hl:i < l.length:=by simpa using hil
  have hd:d=.tup [.int (i:Nat),l[i]]:=by rw [← hi2];simp
  subst hd
  obtain⟨v,hvi,rd⟩:=rvs.get (i:=i) (d:=l[i]) (by simp [hl])
  have sq:SqL K H' q vs:=SqL.of hv
  refine⟨⟨vs,v,sq,hvi⟩,fun x H2 y => ?_⟩
  obtain⟨q2,v2,rfl,hn,rfl,y⟩:=y
  have:=y vs sq
  rw [hvi] at this
  cases this
  have sm:=bO (o:=HO.tup [.int (i:Nat),v]) hn
  refine⟨sm,?_⟩
  simp only [RD]
  exact⟨q2,_,rfl,aO,RDs.cons (by simp only [RD]) (RDs.cons (rd.mono (Kp.same sm)) RDs.nil)⟩
 stop:=fun ρ' H' hd' ex rh hh=>by
  have hq':=ex.get hq
  obtain⟨vs,hv,rvs⟩:=rh.cel n _ q hh hq'
  exact⟨vs,SqL.of hv,by rw [← rvs.length];simp [ej]⟩
 sz:=hz
def HZ (K:ZX) (ρ:List Addr) (H:Hp) (σd:Sd) (σ:St) (r:Res D) (R:It→Hp→Prop):Prop:=match r with
 | .ok (.ref n) hd'=>match hd'[n]? with
  | some (.lst l)=>∀ J H' ρ',Ext ρ H ρ' H'→RS K ρ' H' σd hd' σ → y3 K ρ' H' J (ej l) (fun h=>h[n]? = some (.lst l))→R J H'
  | _=>False
 | _=>False
def PV (K:ZX) (f:EF):TI:=fun σ H R=>∃ ρ σd hd,RS K ρ H σd hd σ ∧ HZ K ρ H σd σ (f σd hd) R
def MIE (X:Cx) (tg e:Expr) (f:EF):Prop:=PI X tg e (PV X.K f)
theorem zm {a:Expr} {f:EF} (hg:Gl X "enumerate") (hm:X.mg "enumerate" = none) (ha:ME X a f) (hs:starEach [a] X.env=[(false,eval a X.env)]:=by rfl):MIE X (.Tuple elts tk tp) (.Call (.Name "enumerate" p) [a] [] pos) f:=by
 refine PI.imp (HY hg hm ha hs) fun σ H R ⟨ρ,σd,hd,rs,pp⟩=>⟨ρ,σd,hd,rs,?_⟩
 unfold HZ at pp
 cases e:f σd hd with
 | exc x h1=>rw [e] at pp;exact pp
 | bad=>rw [e] at pp;exact pp
 | ok d hd1 =>
  rw [e] at pp
  intro v H1 ρ1 ex1 rs1 rv
  cases d<;>try exact pp.elim
  rename_i n
  cases c1:hd1[n]? with
  | none=>simp only [c1] at pp
  | some cell =>
   simp only [c1] at pp
   cases cell with
   | dct l=>exact pp.elim
   | dcT l=>exact pp.elim
   | lst l =>
    simp only at pp
    simp only [rD,RD] at rv
    obtain⟨q,hq,rfl⟩:=rv
    obtain⟨vs,hv,rvs⟩:=rs1.hp.cel n _ q c1 hq
    exact⟨q,vs,rfl,SqL.of hv,fun hz=>pp _ H1 ρ1 ex1 rs1 (Bv hq (by rw [show (ej l).length=vs.length by rw [← rvs.length];simp [ej]];exact hz))⟩
end
section
variable {X:Cx} {pos:Pos} {tg:Expr}
end
end Fm
namespace Fm
end Fm
namespace Fm
open PySem PySem.Spec L2
open PyProof.Rows (Call_)
section
variable {X:Cx} {pos p p2 pos2:Pos}
end
end Fm
namespace Fm
@[simp] def Q5 (a:EF):EF:=fun σ h=>(a σ h).bind fun x h=>match x with
 | .ref n=>match h[n]? with
  | some (.dct l)=>match dP l with
   | some r=>.ok (.int (r.map fun x=>x.getD 1 0).sum) h
   | none=>.bad
  | _=>.bad
 | _=>.bad
@[simp] def Bw:O2:=fun x y h=>match aS h x,aS h y with
 | some xs,some ys=>if xs.length=ys.length then (match kZ h xs ys with|some b=>.ok (.bl (!b)) h|none=>.bad) else .bad
 | _,_=>.bad
end Fm
namespace Fm
noncomputable section
open Classical
@[simp] def jP (nl:Nat) (caps:List Nat) (a:EF) (tg:GF) (cs:List TF) (e:EF):LF:=fun σ h=>match a σ h with
 | .ok (.ref n) h=>match h[n]? with
  | some (.lst l)=>dN (fun h=>h[n]? = some (.lst l)) tg cs e (ej l) (fE nl caps σ) h
  | _=>.bad
 | .ok _ _=>.bad
 | .exc x h=>.exc x h
 | .bad=>.bad
end
theorem qo {G:Hd→Prop}{tg:GF}{cs:List TF}{e:EF}{h:Hd}(I:Sd→Prop)(p:D→Bool)(f:D→D)(hh:G h) :
  ∀ {xs:List D} {σ:Sd},(∀ x∈xs,∀ σ,I σ → ∃ σ',tg x σ = some σ'∧I σ'∧gJ cs σ' h=.ok (p x) h∧(p x=true→e σ' h=.ok (f x) h))→I σ →
   dN G tg cs e xs σ h=.ok ((xs.filter p).map f) h
 | [],_,_,_=>by simp [dN,hh]
 | x :: xs,σ,st,i=>by
  obtain⟨σ',h1,h2,h3,h4⟩:=st x (by simp) σ i
  have ih:=qo I p f hh (xs:=xs) (σ := σ') (fun y hy=>st y (by simp [hy])) h2
  cases hp:p x with
  | true=>simp [dN,hh,h1,h3,hp,h4 hp,ih]
  | false=>simp [dN,hh,h1,h3,hp,ih]
end Fm
namespace Fm
open PySem PySem.Spec L2
section
variable {X:Cx} {pos:Pos} {scope:Scope} {own capn:List Str} {caps:List Nat}
theorem zn {elt tg iter:Expr}{ifs:List Expr}{f:EF}{g:GF}{cs:List TF}{e:EF}(hc:X.calm=true)(S:bY X scope own capn caps)(hi:MIE X tg iter f)
  (hin:∀ cl C s H ex,MG (cxC X (own++capn) scope cl C s H ex) tg g∧MTs (cxC X (own++capn) scope cl C s H ex) ifs cs∧ME (cxC X (own++capn) scope cl C s H ex) elt e)
  (hs:∀ x,foldedSetIterable iter X.env x=pure x:=by intro _;rfl):MF X (.ListComp elt [⟨tg,iter,ifs,0⟩] scope pos) (jP own.length caps f g cs e):=by
 intro pins s σ H Q I ⟨ρ,σd,hd,rs,p⟩
 rw [eval_ListComp]
 unfold jP at p
 cases c:f σd hd with
 | exc z h7=>rw [c] at p;exact p.elim
 | bad=>rw [c] at p;exact p.elim
 | ok d hd1 =>
  rw [c] at p
  cases d<;>try exact p.elim
  rename_i n
  simp only at p
  cases c1:hd1[n]? with
  | none=>rw [c1] at p;exact p.elim
  | some cell =>
   rw [c1] at p
   cases cell with
   | dct l=>exact p.elim
   | dcT l=>exact p.elim
   | lst l0 =>
    simp only at p
    obtain⟨cl,h1,hcl1,hcl2⟩:=kX (scope:=scope) (env:=X.env) fun y hy hyf=>I.ok.has y.1 (S.free y hy hyf)
    refine wpAny_comprehension_free (use:=none) rfl hs h1 S.kind S.names (thn (hi pins s σ H (fun J H1=>∃ ρ1,Ext ρ H ρ1 H1∧RS X.K ρ1 H1 σd hd1 σ ∧ y3 X.K ρ1 H1 J (ej l0) (fun h=>h[n]? = some (.lst l0))) I ⟨ρ,σd,hd,rs,by
     unfold HZ
     rw [c]
     simp only [c1]
     exact fun J H' ρ' ex rs' wk=>⟨ρ',ex,rs',wk⟩⟩) fun v s1 h1=>thn h1 fun itv s2 h2 => ?_)
    obtain⟨it,fp,tn,J,H1,rfl,I1,T,st0,hf,ρ1,ex1,rs1,wk⟩:=h2
    generalize hG:(fun h:Hd=>h[n]? = some (.lst l0))=G at p wk
    cases c2:dN G g cs e (ej l0) (fE own.length caps σd) hd1 with
    | exc z h7=>rw [c2] at p;exact p.elim
    | bad=>rw [c2] at p;exact p.elim
    | ok ds hdF =>
     rw [c2] at p
     refine mT (RR:=fun acc C=>compPost (model X.prog X.w) X.A X.xe none (EP X pins σ Q) acc C) hc S hin I1 T st0 hf rs1 wk hcl1 hcl2 c2 fun C s' m H' ρ' vs hC hn I' hCn ex rh hD0 hD hnD rds => ?_
     refine⟨m,hn,fun h' sb=>⟨.ref s2.heap.objs.size,H',?_,rfl,?_⟩⟩
     ·refine I'.turned (it:=C) (t':=s'.toks) (fun b o hb e=>(sb.2 b hb).trans e) hCn ?_ (.inr (Nat.le_of_lt (ZS I1.sz hC))) (fun x c e z => ?_) fun q hq z => ?_
      ·exact Nat.ne_of_gt (Nat.lt_trans I1.lt hC)
      ·obtain⟨v,o,ho,hd⟩:=I1.cell x c e
       exact absurd (Nat.lt_trans (ZI ho) hC) (by rw [z];exact Nat.lt_irrefl _)
      ·exact absurd (Nat.lt_trans (ZI (I1.pin q hq).1) hC) (by rw [z];exact Nat.lt_irrefl _)
     ·exact p _ vs H' ρ' (ex1.trans ex) (rs.ext (ex1.trans ex) rh) (ex1.fresh hD0 (rs1.hp.free hD0)) hD hnD rds
end
section
variable {X:Cx}
end
end Fm
namespace Fm
@[simp] def wy (c:String):SF:=fun σ h=>.exc (.exn c []) σ h
@[simp] def Bx (t:TF) (a b:SF):SF:=fun σ h=>match t σ h with | .ok c h'=>if c then a σ h' else b σ h'|_=>.bad
end Fm
namespace L2
open PySem PySem.Spec PyProof.Rows PySem.W PySem.Builtin PySem.Builtin.ObjectAttr PySem.Builtin.Getset_descriptor
structure sE (K:ZX) (D:Addr):Prop where
 ga:PySem.W.findIn K (.ref D) "__getattribute__" = some (some (.builtin "BaseException.__getattribute__"))
 gt:PySem.W.findIn K (.ref D) "__getattr__" = some none
 cl:PySem.W.findIn K (.ref D) "__class__" = some (some (.builtin "object.__class__"))
 be:PySem.W.subIn K (.ref D) (.type "BaseException")=some true
 ob:PySem.W.mroIn K D (.type "object")=some true
 is:(PySem.W.clsIn K D).isSome=true
section
variable {prog:Program} {w:World} {A:Around} {E:Value→Shared→Prop} {K:ZX} {D:Addr} {h:Heap} {g:Array GenState} {d:Drawn} {t:Nat} {os:OsState} {a:Addr} {o:Obj} {vs:Array Value}
theorem pZ.type {M:Model}(I:pZ h a D o):PySem.W.Looks M h (typeOf (.ref a)) (.ref D):=I.cls ▸ (PySem.W.Looks.ld I.at_).andThen .now
theorem N1 {R:Result→Shared→Prop} {tp:Value} (X:K.In h) (I:pZ h a D o) (hm:PySem.W.mroIn K D (.type "object")=some true) (hq:R (.ok (.ret (.ref D))) ⟨h,g,d,t,os⟩) :
  codeAny (model prog w) A (.call (.builtin "getset_descriptor.__get__") ⟨[.builtin "object.__class__",.ref a,tp],[]⟩) R ⟨h,g,d,t,os⟩:=by
 have hT5:(⟨h,g,d,t,os⟩ : Shared).TypeIs (.builtin "object.__class__") "getset_descriptor" := F.typeOf_object_class
 have L0:=I.type (M:=model prog w)
 have L1:=PySem.W.looks_mroIn (M:=model prog w) X hm
 refine codeAny_call_builtin F.slot_gs_get.plain F.entry_gs_get (F.slot_gs_get.check _ _ _ _ _ _ _ _ hT5 (F.args_gs_get _ _ _) ?_)
 unfold Builtin.«getset_descriptor.__get__» descrGet
 rw [PySem.W.dga_obj]
 refine wpAny_bind (wpAny_pure ?_);unfold descrGetter descrCheckInstance descrNameAndClass isInstance
 simp only [KF.owner_class]
 repeat (first|with_reducible refine L0.at ?_|with_reducible refine L1.at ?_|lk)
 refine⟨Code.quiet_builtin _ (by decide +kernel),codeAny_builtin F.entry_object_class ?_⟩
 unfold Builtin.«object.__class__» shownTypeOf
 repeat (first|with_reducible refine L0.at ?_|lk)
 exact hq
theorem Ia {tk:Tok}{Q:Fin→Shared→Prop}(Z:sE K D)(X:K.In h)(I:pZ h a D o)(hq:Q (.done (.ret (.ref D))) ⟨h,g,d,t,os⟩) :
  wpAny (model prog w) A (Builtin.«object.__getattribute__» ⟨[.ref a,.str "__class__" tk],[]⟩) Q E ⟨h,g,d,t,os⟩:=by
 have L0:=I.type (M:=model prog w)
 have L1:=PySem.W.looks_findIn (M:=model prog w) X Z.cl
 have hT5:(⟨h,g,d,t,os⟩ : Shared).TypeIs (.builtin "object.__class__") "getset_descriptor" := F.typeOf_object_class
 have f5:=F.typeOf_object_class
 have f6:=F.slot_gs_get.lookup
 have f7:=F.slot_gs_set.lookup
 repeat (any_goals (first|assumption|with_reducible refine L0.at ?_|with_reducible refine L1.at ?_|wp_step))
 refine N1 X I Z.ob ?_
 repeat (any_goals (first|assumption|wp_step))
theorem Ib {M:Model}{nameV:Value}{Q:Unit→Shared→Prop}(Z:sE K D)(X:K.In h)(I:pZ h a D o)(hq:Q () ⟨h,g,d,t,os⟩) :
  wpAny M A (checkBuiltinCall "BaseException.__getattribute__" ⟨[.ref a,nameV],[]⟩) Q E ⟨h,g,d,t,os⟩:=by
 have hk:builtinKind "BaseException.__getattribute__" = some .slot:=by decide +kernel
 have hsplit:splitId "BaseException.__getattribute__" = some ("BaseException", "__getattribute__"):=by decide +kernel
 have ha:=F.args_bexc_ga (.ref a) nameV
 have L0:=I.type (M:=M)
 have L1:=PySem.W.looks_subIn (M:=M) X Z.be
 simp only [checkBuiltinCall,hk,hsplit]
 refine wpAny_bind ?_
 unfold isInstance
 repeat (first|with_reducible refine L0.at ?_|with_reducible refine L1.at ?_|wp_step)
 exact hq
theorem K5 {tk:Tok}{R:Result→Shared→Prop}(Z:sE K D)(X:K.In h)(I:pZ h a D o)(hq:R (.ok (.ret (.ref D))) ⟨h,g,d,t,os⟩) :
  codeAny (model prog w) A (.call (.builtin "BaseException.__getattribute__") ⟨[.ref a,.str "__class__" tk],[]⟩) R ⟨h,g,d,t,os⟩ :=
 codeAny_call_builtin F.attr_ValueError.ga.plain F.entry_bexc_ga (Ib Z X I (Ia Z X I hq))
theorem PX {tk:Tok}{fill expr:Bool}{Q:Value→Shared→Prop}(Z:sE K D)(X:K.In h)(I:pZ h a D o)(hq:Q (.ref D) ⟨h,g,d,t,os⟩) :
  wpAny (model prog w) A (getAttrBy (.ref a) (.str "__class__" tk) fill expr) Q E ⟨h,g,d,t,os⟩:=by
 have f3:=F.attr_ValueError.ga.bind (.ref a)
 have hx0:(expr && onTheHeap (Value.builtin "BaseException.__getattribute__"))=false:=by cases expr<;>rfl
 have hx2:(Value.builtin "BaseException.__getattribute__" == Value.builtin "object.__getattribute__")=false:=by decide +kernel
 have hx1:(onTheHeap (Value.ref D) && Value.builtin "BaseException.__getattribute__" == Value.builtin "object.__getattribute__")=false:=by rw [hx2];rfl
 have L0:=I.type (M:=model prog w)
 have L1:=PySem.W.looks_findIn (M:=model prog w) X Z.ga
 have L2:=PySem.W.looks_findIn (M:=model prog w) X Z.gt
 repeat (any_goals (first|assumption|with_reducible refine L0.at ?_|with_reducible refine L1.at ?_|with_reducible refine L2.at ?_|wp_step))
 refine K5 Z X I ?_
 repeat (any_goals (first|assumption|wp_step))
theorem K6 {Q:Option Value→Shared→Prop}(Z:sE K D)(X:K.In h)(I:pZ h a D o)(hq:Q (some (.ref D)) ⟨h,g,d,t + 1,os⟩) :
  wpAny (model prog w) A (getAttr? (.ref a) "__class__") Q E ⟨h,g,d,t,os⟩:=by
 unfold getAttr? getAttrBy?
 repeat (any_goals (first|assumption|with_reducible apply PX Z X I|wp_step))
theorem N4 (Z:sE K D):PySem.W.KitX K (.ref a) (.ref D) (fun h=>∃ o,pZ h a D o) where
 ty:=fun _ _ _ ⟨o,I⟩=>I.type
 it:=fun _ _ X _=>by
  obtain⟨cd,hc⟩:=Option.isSome_iff_exists.mp Z.is
  unfold PySem.W.clsIn at hc
  split at hc
  ·rename_i c' d' cd' sl' ho
   intro A' Q' E' s' k q
   unfold isType loadHead
   exact wpAny_bind (wpAny_loadPart (k _ _ (X _ _ ho)) (wpAny_pure q))
  ·cases hc
 ne:=fun h tp dd its n sl X htp=>by
  obtain⟨cd,hc⟩:=Option.isSome_iff_exists.mp Z.is
  refine Bool.eq_false_iff.mpr fun q => ?_
  have e:D=tp:=Value.ref.inj (beq_iff_eq.mp q)
  subst e
  unfold PySem.W.clsIn at hc
  split at hc
  ·rename_i c' d' cd' sl' ho
   have z:=(X _ _ ho).symm.trans htp
   cases z
  ·cases hc
 ca:=fun {_ _ _ _ _ s} X ⟨o,I⟩ k=>by obtain⟨h,g,d,t,os⟩:=s;exact K6 Z X I k
theorem Ic {M:Model} {B:Addr} {Q:Bool→Shared→Prop} (X:K.In h) (I:pZ h a D o) (hs:PySem.W.subIn K (.ref D) (.ref B)=some true) (hb:PySem.W.subIn K (.ref B) (.type "BaseException")=some true)
  (hc:(PySem.W.clsIn K B).isSome=true) (ht:PySem.W.typeIn K (.ref B)=some (.type "type")) (hq:Q true ⟨h,g,d,t,os⟩):wpAny M A (excMatches (.ref a) (.ref B)) Q E ⟨h,g,d,t,os⟩:=by
 have L0:=I.type (M:=M)
 have L1:=PySem.W.looks_subIn (M:=M) X hs
 have L2:=PySem.W.looks_subIn (M:=M) X hb
 have L3:=PySem.W.looks_typeIn (M:=M) X ht
 have f:=tc_notTuple
 obtain⟨cd,hcd⟩:=Option.isSome_iff_exists.mp hc
 unfold PySem.W.clsIn at hcd
 split at hcd
 ·rename_i c' d' cd' sl' ho
  have hB:=X _ _ ho
  unfold excMatches
  repeat (first|with_reducible refine L0.at ?_|with_reducible refine L1.at ?_|with_reducible refine L2.at ?_|with_reducible refine L3.at ?_|with_reducible refine wpAny_loadPart_at hB ?_|wp_step)
  exact hq
 ·cases hcd
end
end L2
namespace L2
open PySem PySem.Spec PyProof.Rows
section
variable {P:Program} {w:World} {H:Hp} {h:Heap} {a:Addr} {o:HO}
theorem cX.obj (x:cX P w H h a o):∃ ob,h.get? a=some ob:=by
 induction o with
 | lst xs=>obtain⟨_,_,_,_,e⟩:=x;exact⟨_,e⟩
 | tup xs=>obtain⟨_,_,_,ob,e,_⟩:=x;exact⟨_,e⟩
 | dK kvs=>obtain⟨_,_,_,_,o,_,_,e,_⟩:=x;exact⟨_,e⟩
 | dT kvs=>obtain⟨_,_,_,_,o,_,_,e,_⟩:=x;exact⟨_,e⟩
 | set S n=>obtain⟨o,_,_,_,e,_⟩:=x;exact⟨_,e⟩
 | ins C dx fs=>obtain⟨_,_,_,e,_⟩:=x;exact⟨_,e⟩
 | own y=>obtain⟨_,e⟩:=x;exact⟨_,e⟩
 | xd fs=>obtain⟨_,⟨ob,_,_,e,_⟩,_⟩:=x;exact⟨_,e⟩
 | rng lo hi=>obtain⟨_,_,_,e⟩:=x;exact⟨_,e⟩
 | frz ob u ih=>obtain⟨e,_⟩:=x;exact⟨_,e⟩
 | tbl ps=>exact⟨_,x⟩
 | met f y=>exact⟨_,x⟩
 | ext φ => obtain⟨_,⟨ob,e⟩,_⟩:=x;exact⟨_,e⟩
end
structure Cov (X:Cx) (pins:List (Addr × Obj)) (H:Hp) (B:Heap):Prop where
 trk:∀ b u,H b=some u → ∃ o,B.get? b=some o
 old:∀ b o,X.s₀.heap.get? b=some o→b∉frs X.stack→b∉X.ex → ∃ o,B.get? b=some o
 pin:∀ p∈X.pn++pins,∃ o,B.get? p.1=some o
section
variable {X:Cx} {pins:List (Addr × Obj)} {σ:St} {H:Hp} {s:Shared} {B h':Heap}
theorem Inv.flown (I:Inv X pins σ H s)(b1:B.StaysIn s.heap)(b2:B.StaysIn h')(sm:s.heap.UpToSlots h')(c:Cov X pins H B)(t':Nat):Inv X pins σ H { s with heap:=h',toks:=t' }:=by
 have same:∀ b o,(∃ u,B.get? b=some u)→s.heap.get? b=some o→h'.get? b=some o:=fun b o ⟨u,e⟩ q=>by
  have:=b1 b u e
  rw [q] at this;cases this
  exact b2 b _ e
 have nst:∀ b o,X.s₀.heap.get? b=some o→b∉X.fs→b∉frs X.stack:=fun b o e hb hs=>by
  rcases List.mem_cons.mp (I.stkSub b hs) with z|z
  ·exact absurd z (ZN (Nat.lt_of_lt_of_le (ZI e) I.ok.above))
  ·exact hb z
 have fsl:∀ b o,b∈X.fs→s.heap.get? b=some o → ∃ sl,h'.get? b=some { o with slots:=sl }:=fun b o hb e=>by
  obtain⟨_,o',ho',nf⟩:=I.funs.mem hb
  rw [e] at ho';cases ho'
  exact sm b o e nf
 have cellK:∀ c v,s.heap.IsCell c v→h'.IsCell c v:=fun c v ⟨o,ho,hd⟩=>by
  obtain⟨sl,q⟩:=sm c o ho (fun vs z=>by rw [hd] at z;cases z)
  exact⟨_,q,hd⟩
 refine⟨I.ok,I.os,I.bare,⟨fun b o e n hb hx => ?_,fun b o e n hb hx => ?_,I.base.free,fun b o e hx => ?_,I.base.tups,I.base.frzs,I.base.tbls⟩,?_,fun x c e => ?_,I.free,I.freeC,fun p hp => ?_,fun b u e => ?_,I.len⟩
 ·exact same b o (c.old b o e (nst b o e hb) hx) (I.base.keep b o e n hb hx)
 ·obtain⟨sl,e1⟩:=I.base.slot b o e n hb hx
  obtain⟨sl',e2⟩:=fsl b _ hb e1
  exact⟨sl',e2⟩
 ·obtain⟨o',e1⟩:=I.base.there b o e hx
  by_cases hb:b∈X.fs
  ·obtain⟨sl,e2⟩:=fsl b o' hb e1;exact⟨_,e2⟩
  ·exact⟨o',same b o' (c.old b o e (nst b o e hb) hx) e1⟩
 ·obtain⟨m,hn,hl⟩:=I.loc
  refine⟨m,sm.ns hn,fun i x v e1 e2 e3 => ?_⟩
  obtain⟨u,r,l⟩:=hl i x v e1 e2 e3
  refine⟨u,r,?_⟩
  rcases l with l|⟨k,c,e,z⟩
  ·exact .inl l
  ·exact .inr ⟨k,c,e,cellK c _ z⟩
 ·obtain⟨v,z⟩:=I.cell x c e
  exact⟨v,cellK c v z⟩
 ·obtain⟨e,n,ne,nf,d⟩:=I.pin p hp
  exact⟨same _ _ (c.pin p hp) e,n,ne,nf,d⟩
 ·refine (I.hok b u e).stay (fun c' v hc q=>same c' v ?_ q) (fun _ q=>q) fun _ _ q=>q
  rcases hc with z|z
  ·rw [z];exact c.trk b u e
  ·exact c.trk c' _ z
def XF (X:Cx) (E:Addr→Hp→Prop) (e:Value) (s':Shared):Prop:=∃ pins σ H a C B t,e=.ref a∧Inv X pins σ H s'∧Heap.FlyingW B X.stack a (.ref C) (.ref t) s'.heap∧Cov X pins H B∧E C H
def XAt (X:Cx) (pins:List (Addr × Obj)) (σ:St) (H:Hp) (a C:Addr) (s':Shared):Prop :=
 (∃ s1 h' vs,Inv X pins σ H s1∧Heap.MadeExcOf s1.heap h' a (.ref C) vs∧s' = { s1 with heap:=h' }) ∨
 (∃ B t,Inv X pins σ H s'∧Heap.FlyingW B X.stack a (.ref C) (.ref t) s'.heap∧Cov X pins H B)
def XP (X:Cx) (E:Addr→Hp→Prop) (e:Value) (s':Shared):Prop:=∃ pins σ H a C,e=.ref a∧XAt X pins σ H a C s'∧E C H
def CX1 (P:Program) (w:World):CXT:=fun outer H s E e s'=>∃ a C B t H',e=.ref a∧s'.os=s.os∧AllBare s'.gens∧Un (frs outer) [] H H' s.heap s'.heap∧HOk P w H' s'.heap ∧
 Heap.FlyingW B outer a (.ref C) (.ref t) s'.heap∧(∀ b u,H' b=some u → ∃ o,B.get? b=some o)∧(∀ b o,s.heap.get? b=some o→b∉frs outer → ∃ o,B.get? b=some o)∧E (.ref C) none H'
theorem PY {E:XK}{E':Addr→Hp→Prop}{R:Value→Shared→Prop}(h:∀ C H,E (.ref C) none H→E' C H)(hR:∀ e s',XF X E' e s'→R e s'):pV (CX1 X.prog X.w) (X.wish R) E:=by
 rintro pins σ H s e s' I ⟨a,C,B,t,H',he,os,bare,un,hok,fl,trk,old,q⟩
 have I0:=I.unwish
 have I':Inv X pins σ H' s':=I0.call' (ch:=[]) os un hok bare (fun b z=>absurd z (by simp))
 refine hR _ _ ⟨pins,σ,H',a,C,B,t,he,I',fl,⟨trk,fun b o e hb hx => ?_,fun p hp => ?_⟩,h C H' q⟩
 ·obtain⟨o',e'⟩:=I0.base.there b o e hx
  exact old b o' e' hb
 ·obtain⟨e,n,ne,nf,_⟩:=I0.pin p hp
  exact old p.1 p.2 e fun z=>(List.mem_cons.mp (I0.stkSub p.1 z)).elim ne nf
theorem Id (I:Inv X pins σ H s):Cov X pins H (PySem.W.hideAll s.heap (frs X.stack)) where
 trk:=fun b u e=>by
  obtain⟨o,q⟩:=(I.hok b u e).obj
  refine⟨o,PySem.W.hideAll_get _ q fun z => ?_⟩
  rw [I.stkFree b z] at e;cases e
 old:=fun b o e hb hx=>by
  obtain⟨o',e'⟩:=I.base.there b o e hx
  exact⟨o',PySem.W.hideAll_get _ e' hb⟩
 pin:=fun p hp=>by
  obtain⟨e,n,ne,nf,_⟩:=I.pin p hp
  exact⟨_,PySem.W.hideAll_get _ e fun z=>(List.mem_cons.mp (I.stkSub p.1 z)).elim ne nf⟩
end
theorem N5 {P:Program}{w:World}{K:ZX}{mg:Str→Option Value}{base:Heap}{N:List Str}{qual:Str}{scope:Scope}{f:Addr}{cd:Value}{A:Around}{outer:List Env}{s:Shared}{H:Hp}{E:XK}{e:Value}{s':Shared}
  (h:XP (oZ (CX1 P w) P w K mg base N qual scope f cd A outer s H E) (fun C H'=>E (.ref C) none H') e s'):(oZ (CX1 P w) P w K mg base N qual scope f cd A outer s H E).xe e s':=by
 obtain⟨pins,σ,H',a,C,rfl,hx,q⟩:=h
 have fin:∀ {s1:Shared} {B:Heap} {h':Heap} {t:Addr},Inv (oZ (CX1 P w) P w K mg base N qual scope f cd A outer s H E) pins σ H' s1→B.StaysIn s1.heap→s1.heap.UpToSlots h' →
   Cov (oZ (CX1 P w) P w K mg base N qual scope f cd A outer s H E) pins H' B→Heap.FlyingW B outer a (.ref C) (.ref t) h'→CX1 P w outer H s E (.ref a) { s1 with heap:=h' }:=by
  intro s1 B h' t I b1 sm c fl
  have J:=I.flown (h':=h') b1 fl.1 sm c s1.toks
  refine⟨a,C,B,t,H',rfl,J.os,J.bare,J.base,J.hok,fl,c.trk,fun b o e hb=>c.old b o e (fun z => ?_) (fun z=>absurd (show b∈([] : List Addr) from z) (by simp)),q⟩
  rcases List.mem_cons.mp (I.stkSub b z) with y|y
  ·exact absurd y (ZN (Nat.lt_of_lt_of_le (ZI e) I.ok.above))
  ·exact hb y
 rcases hx with ⟨s1,h1,vs,I,mk,rfl⟩|⟨B,t,I,fl,c⟩
 ·have hin:∀ env∈(envOfC qual scope s.heap.objs.size f cd :: outer),∀ b,env.frame=some b→b∈frs (envOfC qual scope s.heap.objs.size f cd :: outer):=fun env he b hb=>List.mem_filterMap.mpr ⟨env,he,hb⟩
  refine wpAny_leaves_madeW (base:=PySem.W.hideAll s1.heap (frs (envOfC qual scope s.heap.objs.size f cd :: outer))) (I.ok.frames) rfl (fun b o q=>PySem.W.of_hideAll _ q) (PySem.W.funFrames_hide I.stack hin) mk fun h' t x1 x2 x3 x4 => ?_
  exact fin (s1:=s1) (h':=h') (t:=t) I (fun b o q=>PySem.W.of_hideAll _ q) ((Heap.UpToSlots.of_keeps mk.keeps).trans x4) (Id I) x1
 ·exact wpAny_leaves_onW I.ok.frames rfl fl fun h' x1 x2=>fin I fl.1 x2 c x1
end L2
namespace L2
open PySem PySem.Spec PyProof.Rows
section
variable {X:Cx} {E:Addr→Hp→Prop} {x:Str} {C:Addr} {bm:List Value} {B newId initId:String} {np cpos pos:Pos} {e₀ : Expr} {rest:List Expr} {ta:TA}
def N7 (C:Addr) (E:Addr→Hp→Prop) (ta:TA):TS:=fun _ σ H=>ta σ H fun vs H1=>vs.length≤sizeLine∧E C H1
theorem Ie (O:OwnCls x C bm newId X.mg X.base) (FB:ExcBaseFacts B newId initId bm) (hc:X.calm=true) (hg:Gl X x) (ha:PA (X.wish (XP X E)) (e₀ :: rest) ta) (hdb:(x == ("__debug__" : Str))=false:=by decide)
  (he:starEach (e₀ :: rest) X.env=(false,eval e₀ X.env) :: starEach rest X.env:=by rfl) (hpl:(backTo cpos (starEach rest X.env)).any (·.1)=false:=by rfl) :
  PS (X.wish (XP X E)) (.Raise (some (.Call (.Name x np) (e₀ :: rest) [] cpos)) none pos) (N7 C E ta):=by
 intro pins s σ H D I h
 obtain⟨tl,N,nm,q,bs,hdct,sn,sub,ab,col,dd,k0,k1,k2,k3,k5,mN,hC,hN,hni,T⟩:=O.obj
 have hp2:(backTo cpos (starEach (e₀ :: rest) X.env)).any (·.1)=false:=by
  rw [he];show (false || (backTo cpos (starEach rest X.env)).any (·.1))=false;rw [hpl];rfl
 refine wpAny_Raise_call_subT (C:=C) (nm:=nm) (q:=q) (N:=N) (bs:=bs) (bm:=tl) (hdct:=hdct) (sn:=sn) (sub:=sub) (ab:=ab) (col:=col) (dd:=dd) (k0:=k0) (k1:=k1) (k2:=k2) (k3:=k3) (k5:=k5) (mN:=mN)
  FB (T.hasType FB.hasBase) (I.ok.hd hc) hp2 hni (vU I hg O.bound ⟨rfl,?_⟩ hdb)
 have h2:=ha cpos pins s σ H _ I h
 have he':starEach (e₀ :: rest) (X.wish (XP X E)).env=(false,eval e₀ X.env) :: starEach rest X.env:=he
 rw [he'] at h2 ⊢
 exact Calls.evalArgs_plain (wpAny_mono h2 (fun us s2 ⟨vs,H1,I1,r,q1⟩=>⟨rfl,by rw [← r.length];exact q1.1,I1.bk _ _ hC,hN.keeps I1.bk,T.keeps I1.bk,fun h' e mk=>⟨pins,σ,H1,e,C,rfl,.inl ⟨s2,h',us,I1.unwish,mk,rfl⟩,q1.2⟩⟩) fun _ _ z=>z)
end
section
variable {P:Program} {w:World} {K:ZX} {mg:Str→Option Value} {base:Heap}
end
section
variable {X:Cx} {pins:List (Addr × Obj)} {σ:St} {H:Hp} {s:Shared}
theorem Inv.exc {B:Heap}{a C t:Addr}(I:Inv X pins σ H s)(fl:Heap.FlyingW B X.stack a (.ref C) (.ref t) s.heap)(c:Cov X pins H B):Inv X pins σ (upd H a (p5 a C)) s:=by
 obtain⟨oe,vs,hoe,hcl,hdt,_⟩:=fl.first
 have hB:=fl.2.1
 have hn:H a=none:=by
  cases e:H a with
  | none=>rfl
  | some u=>obtain⟨o,q⟩:=c.trk a u e;rw [hB] at q;cases q
 have nfr:a∉frs X.stack:=fun z=>by
  obtain⟨_,o,ho,nf⟩:=I.stack.mem z
  rw [hoe] at ho;cases ho;exact nf vs hdt
 have nold:∀ b o,X.s₀.heap.get? b=some o→b∉X.ex→b≠a:=fun b o e hx z=>by
  subst z
  obtain⟨o',q⟩:=c.old _ o e nfr hx
  rw [hB] at q;cases q
 have keepH:∀ b u,H b=some u→upd H a (p5 a C) b=some u:=fun b u e=>by rw [ax (bb e hn)];exact e
 refine⟨I.ok,I.os,I.bare,⟨I.base.keep,I.base.slot,fun b o e n hx => ?_,I.base.there,fun b xs e=>keepH b _ (I.base.tups b xs e),fun b o u e=>keepH b _ (I.base.frzs b o u e),fun b ps e => ?_⟩,I.loc,I.cell,?_,fun x c' e => ?_,fun p hp => ?_,fun b u e => ?_,I.len⟩
 ·rw [ax (nold b o e hx)];exact I.base.free b o e n hx
 ·obtain⟨m,q⟩:=I.base.tbls b ps e
  exact⟨m,keepH b _ q⟩
 ·rw [ax]
  ·exact I.free
  ·intro z
   obtain⟨m,⟨o,es,ep,ho,hd,_⟩,_⟩:=I.loc
   rw [z,hoe] at ho;cases ho;rw [hdt] at hd;cases hd
 ·rw [ax]
  ·exact I.freeC x c' e
  ·intro z
   obtain⟨v,o,ho,hd⟩:=I.cell x c' e
   rw [z,hoe] at ho;cases ho;rw [hdt] at hd;cases hd
 ·obtain⟨e,n,ne,nf,d⟩:=I.pin p hp
  refine⟨e,?_,ne,nf,d⟩
  rw [ax]
  ·exact n
  ·intro z
   obtain⟨o,q⟩:=c.pin p hp
   rw [z,hB] at q;cases q
 ·by_cases hb:b=a
  ·subst hb
   rw [aO] at e;cases e
   exact⟨⟨oe,hoe,hcl⟩,⟨oe,hoe⟩,fun h1 h2 ⟨o,ho,hc⟩ k=>⟨o,k o ho,hc⟩⟩
  ·rw [ax hb] at e
   exact (I.hok b u e).stay (fun _ _ _ q=>q) (fun b' q=>keepH b' _ q) fun b' xs q=>keepH b' _ q
theorem Inv.goes {M:Model}{A:Around}{E:Value→Shared→Prop}{j:Nat}{n:Str}{pos:Pos}{Q:Unit→Shared→Prop}(I:Inv X pins σ H s)(hN:X.N.Nodup)(hj:X.N[j]? = some n)(hl:X.env.kindOf n=some .local)
  (h:∀ s',Inv X pins (σ.set j none) H s'→Q () s'):wpAny M A (do bindName X.env n .none;unbindBehindTheSuite X.env n pos) Q E s:=by
 obtain⟨m,hn,hlo⟩:=id I.loc
 have hcls:(X.env.scope.kind == .class || (X.env.scope.kind == .module && X.env.locals != X.env.globals))=false:=by rw [I.ok.kind];rfl
 obtain⟨oL,_,_,hoL,_⟩:=id hn
 refine wpAny_nameGoes_keeps hl hn hcls fun h' v hn' hs => ?_
 have old:∀ b o,X.s₀.heap.get? b=some o→b≠X.env.locals:=fun b o e=>ZN (Nat.lt_of_lt_of_le (ZI e) I.ok.above)
 refine h _ ⟨I.ok,I.os,I.bare,⟨fun b o e n hb hx=>(hs.2 b (old b o e)).trans (I.base.keep b o e n hb hx),fun b o e n hb hx => ?_,I.base.free,fun b o e hx => ?_,I.base.tups,I.base.frzs,I.base.tbls⟩,⟨_,hn',fun i y v' e1 e2 e3 => ?_⟩,fun y c e => ?_,I.free,I.freeC,fun p hp => ?_,fun b u e => ?_,by simpa using I.len⟩
 ·obtain⟨sl,e1⟩:=I.base.slot b o e n hb hx
  exact⟨sl,(hs.2 b (old b o e)).trans e1⟩
 ·obtain⟨o',e1⟩:=I.base.there b o e hx
  exact⟨o',(hs.2 b (old b o e)).trans e1⟩
 ·by_cases hi:i=j
  ·subst hi
   by_cases hlt:i < σ.length
   ·rw [List.getElem?_set_self hlt] at e2;cases e2
   ·rw [List.getElem?_eq_none (by simpa using hlt)] at e2;cases e2
  ·rw [ZP (Ne.symm hi)] at e2
   obtain⟨u',r',q⟩:=hlo i y v' e1 e2 e3
   refine⟨u',r',?_⟩
   rcases q with ⟨k,e⟩|⟨k,c,e,z⟩
   ·refine .inl ⟨k,?_⟩
    have:y≠n:=fun e=>hi (pR hN e1 (e ▸ hj))
    simp [this,e]
   ·exact .inr ⟨k,c,e,z.sameBut hs (I.cne y c e)⟩
 ·obtain⟨w',z⟩:=I.cell y c e
  exact⟨w',z.sameBut hs (I.cne y c e)⟩
 ·obtain⟨e,n,ne,nf,d⟩:=I.pin p hp
  exact⟨(hs.2 p.1 ne).trans e,n,ne,nf,d⟩
 ·refine (I.hok b u e).stay (fun c w' hc q=>(hs.2 c ?_).trans q) (fun _ q=>q) fun _ _ q=>q
  rintro rfl
  rcases hc with z|z
  ·rw [← z,I.free] at e;cases e
  ·rw [I.free] at z;cases z
abbrev Cx.sui (X:Cx) (a:Addr):Cx:={ X with A:=X.A.mark (some (.ref a)),calm:=false,xe:=fun _ _=>False }
theorem Inv.marked (I:Inv X pins σ H s)(a:Addr):Inv (X.sui a) pins σ H s :=
 ⟨⟨I.ok.mod,I.ok.kind,I.ok.glob,I.ok.blt,I.ok.above,I.ok.inj,I.ok.has,I.ok.cab,(fun z=>by cases z),I.ok.frames,I.ok.stk,I.ok.exf,I.ok.bs,I.ok.bsz,I.ok.noex,I.ok.exfs,I.ok.funs,I.ok.frf⟩,I.os,I.bare,I.base,I.loc,I.cell,I.free,I.freeC,I.pin,I.hok,I.len⟩
theorem Inv.unmark (hh:X.calm=true→X.A.handled=none){a:Addr}(I:Inv (X.sui a) pins σ H s):Inv X pins σ H s :=
 ⟨⟨I.ok.mod,I.ok.kind,I.ok.glob,I.ok.blt,I.ok.above,I.ok.inj,I.ok.has,I.ok.cab,hh,I.ok.frames,I.ok.stk,I.ok.exf,I.ok.bs,I.ok.bsz,I.ok.noex,I.ok.exfs,I.ok.funs,I.ok.frf⟩,I.os,I.bare,I.base,I.loc,I.cell,I.free,I.freeC,I.pin,I.hok,I.len⟩
abbrev Cx.pin (X:Cx) (q:List (Addr × Obj)):Cx:={ X with pn:=q }
theorem Inv.pinq (I:Inv X pins σ H s):Inv (X.pin (X.pn++pins)) [] σ H s :=
 ⟨⟨I.ok.mod,I.ok.kind,I.ok.glob,I.ok.blt,I.ok.above,I.ok.inj,I.ok.has,I.ok.cab,I.ok.hd,I.ok.frames,I.ok.stk,I.ok.exf,I.ok.bs,I.ok.bsz,I.ok.noex,I.ok.exfs,I.ok.funs,I.ok.frf⟩,I.os,I.bare,I.base,I.loc,I.cell,I.free,I.freeC,fun p hp=>I.pin p (by simpa using hp),I.hok,I.len⟩
theorem Inv.unpin {pins':List (Addr × Obj)}(I:Inv (X.pin (X.pn++pins)) pins' σ H s):Inv X pins σ H s :=
 ⟨⟨I.ok.mod,I.ok.kind,I.ok.glob,I.ok.blt,I.ok.above,I.ok.inj,I.ok.has,I.ok.cab,I.ok.hd,I.ok.frames,I.ok.stk,I.ok.exf,I.ok.bs,I.ok.bsz,I.ok.noex,I.ok.exfs,I.ok.funs,I.ok.frf⟩,I.os,I.bare,I.base,I.loc,I.cell,I.free,I.freeC,fun p hp=>I.pin p (List.mem_append_left _ hp),I.hok,I.len⟩
end
section
variable {X:Cx} {body:List Stmt} {x n c:Str} {M:Addr} {i j:Nat} {np cp vp ap hp pos:Pos} {tb:(Addr→Hp→Prop)→TS}
end
end L2
namespace Fm
open PySem PySem.Spec L2 PyProof.Rows
section
variable (K:ZX) (mg:Str→Option Value)
def jx (ρ:List Addr) (H:Hp) (o:Out) (E:Addr→Hp→Prop) (En:fg):Prop:=match o with
 | .exc x _ hd=>∃ c l C,x=.exn c l∧mg (Str.ofString c)=some (.ref C) ∧ ∀ H' ρ',Ext ρ H ρ' H'→RH K ρ' H' hd→E C H'
 | .nx σ hd=>bw K ρ H (.nx σ hd) En
 | .rt d hd=>bw K ρ H (.rt d hd) En
 | .bk σ hd=>bw K ρ H (.bk σ hd) En
 | .ct σ hd=>bw K ρ H (.ct σ hd) En
 | .bad=>False
def zq (E:Addr→Hp→Prop) (f:SF):TS:=fun En σ H=>∃ ρ σd hd,RS K ρ H σd hd σ ∧ jx K mg ρ H (f σd hd) E En
def spX (F:Fn) (np:Nat):Sp:=fun vs H _ E=>∃ ρ hd ds,RH K ρ H hd∧RDs K ρ H ds vs∧ds.length=np ∧
 ∃ c l hd' C,F ds hd=.exc (.exn c l) hd'∧mg (Str.ofString c)=some (.ref C) ∧ ∀ H' ρ',Ext ρ H ρ' H'→RH K ρ' H' hd'→E (.ref C) none H'
end
section
variable {K:ZX} {mg:Str→Option Value} {ρ ρ':List Addr} {H H':Hp} {E:Addr→Hp→Prop} {En:fg}
theorem jx.ext {o:Out}(e:Ext ρ H ρ' H')(p:jx K mg ρ H o E En):jx K mg ρ' H' o E En:=by
 cases o with
 | exc x σ hd=>obtain⟨c,l,C,h1,h2,h3⟩:=p;exact⟨c,l,C,h1,h2,fun H2 ρ2 e2 r=>h3 H2 ρ2 (e.trans e2) r⟩
 | nx σ hd=>exact bw.ext (o:=.nx σ hd) e p
 | rt d hd=>exact bw.ext (o:=.rt d hd) e p
 | bk σ hd=>exact bw.ext (o:=.bk σ hd) e p
 | ct σ hd=>exact bw.ext (o:=.ct σ hd) e p
 | bad=>exact p
theorem Ext.sm {H2:Hp}(e:Ext ρ H ρ' H')(s:iU H' H2):Ext ρ H ρ' H2:=⟨e.pre,e.new,fun q u h n=>s q u (e.frame q u h n)⟩
end
abbrev Wi:=(Addr→Hp→Prop)→Value→Shared→Prop
def MX (X:Cx) (R:Wi) (s:Stmt) (f:SF):Prop:=∀ E,PS (X.wish (R E)) s (zq X.K X.mg E f)
def MXs (X:Cx) (R:Wi) (s:List Stmt) (f:SF):Prop:=∀ E,PSs (X.wish (R E)) s (zq X.K X.mg E f)
structure Ra (P:Program) (w:World) (K:ZX) (mg:Str→Option Value) (base:Heap) (x:Str) (k np:Nat) (F:Fn):Prop where
 ex:∃ f fd ps,mg x=some (.ref f)∧PySem.W.keepIn K (.ref f)=true∧kC K fd ps []∧bU P w K mg base (CX1 P w) k f fd ps (spX K mg F np)
section
variable {X:Cx} {R:Wi} {pos p:Pos}
theorem Ig {n:String}{C:Addr}{bm:List Value}{B newId initId:String}{np cpos cp:Pos}{txt:Str}{j}(O:OwnCls (Str.ofString n) C bm newId X.mg X.base)(FB:ExcBaseFacts B newId initId bm)(hc:X.calm=true)(hg:Gl X (Str.ofString n))
  (hdb:(Str.ofString n == ("__debug__" : Str))=false:=by decide):MX X (XP X) (.Raise (some (.Call (.Name (Str.ofString n) np) [.Constant (.str txt) j cp] [] cpos)) none pos) (wy n):=fun E=>by
 refine PS.imp (Ie O FB hc hg (cf G4 dX) hdb) fun En σ H ⟨ρ,σd,hd,rs,q⟩ => ?_
 obtain⟨c,l,C',h1,h2,h3⟩:=q
 cases h1
 rw [O.bound] at h2;cases h2
 exact⟨by show 1≤sizeLine;decide,h3 H ρ Ext.refl rs.hp⟩
end
section
variable {P:Program} {w:World} {K:ZX} {mg:Str→Option Value} {base:Heap}
end
end Fm
namespace Fm
open PySem PySem.Spec L2 PyProof.Rows
def gw:V→Value | .ref a=>.ref a | .ty n=>.type n|_=>.none
def Ih:V→Bool | .ref _=>true | .ty _=>true|_=>false
theorem K7 {v:V}{u:Value}(h:Ih v=true)(r:bg v u):u=gw v:=by
 cases v<;>first|exact r|cases h
section
variable {X:Cx} {pos p:Pos}
def QS (K:ZX):List V→Hp→VK→Prop:=fun xs H Q=>∃ a C v b,xs=[.ref a,v]∧Ih v=true∧H a=some (p5 a C)∧sE K C∧PySem.W.kitOne K (.ref C) (gw v)=some b∧Q (.bl b) H
theorem Ii:ig X (.builtin "isinstance") (QS X.K):=by
 rintro pins s σ H xs us Q I r ⟨a,C,v,b,rfl,hc,ha,Z,e,q⟩
 obtain⟨u,u2,rfl,ru,ru2⟩:=aI.two r
 cases (show u=Value.ref a from ru)
 rw [K7 hc ru2]
 have p0:=(I.hok a _ ha).1
 exact PySem.W.kia_one (N4 Z) I.kIn p0 e (by intro z;cases z) fun tk=>⟨.bl b,H,I.tok tk,rfl,q⟩
end
end Fm
namespace Fm
open PySem PySem.Spec L2 PyProof.Rows
abbrev QT:List Value:=[.type "ValueError",.type "Exception",.type "BaseException",.type "object"]
theorem N8 {K:ZX}{h:Heap}{mg:Str→Option Value}{x:Str}{C:Addr}{bm:List Value}{id:String}(X:K.In h)(e:mg x=some (.ref C))(q:PySem.W.excIn K C bm id=true):OwnCls x C bm id mg h:=by
 refine⟨e,?_⟩
 unfold PySem.W.excIn at q;split at q
 ·rename_i dd cd sl ho;split at q
  ·rename_i C' bm' k0 k1 k2 k3 n k5 hm hs
   simp only [Bool.and_eq_true,beq_iff_eq,Bool.not_eq_true'] at q;obtain⟨⟨⟨⟨⟨rfl,rfl⟩,hdel⟩,ht⟩,hok⟩,hni⟩:=q
   obtain⟨nm,bs,mro,ns,qn,hd,sn,sub,ab,col,del⟩:=cd
   dsimp only at hm hdel hok hni;subst hm hdel
   have hsl:sl = #[k0,k1,k2,k3,some (.builtin n),k5]:=by obtain⟨l⟩:=sl;simp only at hs;rw [hs]
   subst hsl
   exact⟨bm',ns,nm,qn,bs,hd,sn,sub,ab,col,dd,k0,k1,k2,k3,k5,_,X _ _ ho,.of_isNs (PySem.W.isNs_of_in X hok),PySem.W.nsMap_none_of_in X hok hni,PySem.W.tail_of_in X ht⟩
  ·cases q
 ·cases q
end Fm
namespace Fm
def noX {α : Type}:Res α → Res α
 | .exc _ _=>.bad
 | r=>r
def fPl {α : Type} (f:Sd→Hd→Res α):Sd→Hd→Res α := fun σ h=>noX (f σ h)
def sPl (f:SF):SF:=fun σ h=>match f σ h with | .exc _ _ _=>.bad|o=>o
end Fm
namespace L2
open PySem PySem.Spec PyProof.Rows
theorem PZ {X:Cx}{E:XK}{E':Addr→Hp→Prop}(h:∀ C H,E (.ref C) none H→E' C H)(hR:∀ e s',XF X E' e s'→X.xe e s'):pV (CX1 X.prog X.w) X E:=by
 intro pins σ H s e s' I q
 have:=PY (X:=X) (R:=X.xe) h hR pins σ H s e s' (I.wish _) q
 exact this
end L2
namespace Fm
open PySem PySem.Spec L2 PyProof.Rows
section
variable (K:ZX) (mg:Str→Option Value)
def XC (ρ:List Addr) (H:Hp) (E:Addr→Hp→Prop) (x:D) (hd:Hd):Prop:=∃ c l C,x=.exn c l∧mg (Str.ofString c)=some (.ref C) ∧ ∀ H' ρ',Ext ρ H ρ' H'→RH K ρ' H' hd→E C H'
def fK {α β : Type} (R:VR α β) (ρ:List Addr) (H:Hp) (σd:Sd) (σ:L2.St) (r:Res α) (E:Addr→Hp→Prop) (Q : β → Hp→Prop):Prop:=match r with
 | .ok a hd'=>∀ b H' ρ',Ext ρ H ρ' H'→RS K ρ' H' σd hd' σ → R ρ' H' a b→Q b H'
 | .exc x hd'=>XC K mg ρ H E x hd'
 | .bad=>False
def Mo {α β : Type} (R:VR α β) (E:Addr→Hp→Prop) (f:Sd→Hd→Res α):L2.St→Hp→(β → Hp→Prop)→Prop:=fun σ H Q=>∃ ρ σd hd,RS K ρ H σd hd σ ∧ fK K mg R ρ H σd σ (f σd hd) E Q
def spY (F:Fn) (np:Nat):Sp:=fun vs H Q E=>∃ ρ hd ds,RH K ρ H hd∧RDs K ρ H ds vs∧ds.length=np∧match F ds hd with
 | .ok d hd'=>∀ v H' ρ',Ext ρ H ρ' H'→RH K ρ' H' hd'→RD K ρ' H' d v→Q v H'
 | .exc x hd'=>XC K mg ρ H (fun C H'=>E (.ref C) none H') x hd'
 | .bad=>False
end
section
variable {K:ZX} {mg:Str→Option Value} {ρ ρ':List Addr} {H H':Hp} {E:Addr→Hp→Prop} {σd:Sd} {σ:L2.St} {hd:Hd} {α β α' β':Type} {R:VR α β} {R':VR α' β'}
theorem XC.ext {x:D}(e:Ext ρ H ρ' H')(p:XC K mg ρ H E x hd):XC K mg ρ' H' E x hd:=by
 obtain⟨c,l,C,h1,h2,h3⟩:=p
 exact⟨c,l,C,h1,h2,fun H2 ρ2 e2 r=>h3 H2 ρ2 (e.trans e2) r⟩
theorem fK.ext {r:Res α}{Q : β → Hp→Prop}(e:Ext ρ H ρ' H')(h:fK K mg R ρ H σd σ r E Q):fK K mg R ρ' H' σd σ r E Q:=by
 cases r with
 | ok a h'=>exact fun b H2 ρ2 e2 s q=>h b H2 ρ2 (e.trans e2) s q
 | exc x h'=>exact XC.ext e h
 | bad=>exact h
theorem fK.imp {r:Res α}{Q Q' : β → Hp→Prop}(h:fK K mg R ρ H σd σ r E Q)(i:∀ b H',Q b H'→Q' b H'):fK K mg R ρ H σd σ r E Q':=by
 cases r with
 | ok a h'=>exact fun b H' ρ' e s q=>i b H' (h b H' ρ' e s q)
 | exc x h'=>exact h
 | bad=>exact h
theorem fK.bind {r:Res α}{k : α → Hd→Res α'}{Q : β'→Hp→Prop}(h:fK K mg R' ρ H σd σ (r.bind k) E Q) :
  fK K mg R ρ H σd σ r E (fun b H'=>∃ ρ' a hd',Ext ρ H ρ' H'∧RS K ρ' H' σd hd' σ ∧ R ρ' H' a b∧fK K mg R' ρ' H' σd σ (k a hd') E Q):=by
 cases r with
 | ok a h'=>exact fun b H' ρ' e s q=>⟨ρ',a,h',e,s,q,fK.ext e h⟩
 | exc x h'=>exact h
 | bad=>exact h
theorem jx.outE {r:Res D}{k:D→Hd→Out}{En:fg}(p:jx K mg ρ H (outE r σd k) E En) :
  fK K mg (rD K) ρ H σd σ r E (fun v H'=>∃ ρ' d hd',Ext ρ H ρ' H'∧RS K ρ' H' σd hd' σ ∧ RD K ρ' H' d v∧jx K mg ρ' H' (k d hd') E En):=by
 cases r with
 | ok d h'=>exact fun b H' ρ' ex rs q=>⟨ρ',d,h',ex,rs,q,jx.ext ex p⟩
 | exc x h'=>exact p
 | bad=>exact p
theorem fK.of_pl {r:Res α}{Q : β → Hp→Prop}(p:fK K mg R ρ H σd σ (noX r) E Q):bx K R ρ H σd σ r Q:=by
 cases r with
 | ok a h'=>exact p
 | exc x h'=>exact p
 | bad=>exact p
end
def NE (X:Cx) (E:Addr→Hp→Prop) (e:Expr) (f:EF):Prop:=PE X e (Mo X.K X.mg (rD X.K) E f)
def NA (X:Cx) (E:Addr→Hp→Prop) (es:List Expr) (f:LF):Prop:=PA X es (Mo X.K X.mg (rDs X.K) E f)
def NS (X:Cx) (E:Addr→Hp→Prop) (s:Stmt) (f:SF):Prop:=PS X s (zq X.K X.mg E f)
def NSs (X:Cx) (E:Addr→Hp→Prop) (s:List Stmt) (f:SF):Prop:=PSs X s (zq X.K X.mg E f)
structure Fh (P:Program) (w:World) (K:ZX) (mg:Str→Option Value) (base:Heap) (x:Str) (k np:Nat) (F:Fn):Prop where
 ex:∃ f fd ps,mg x=some (.ref f)∧PySem.W.keepIn K (.ref f)=true∧kC K fd ps []∧bU P w K mg base (CX1 P w) k f fd ps (spY K mg F np)
section
variable {X:Cx} {E:Addr→Hp→Prop} {pos p:Pos}
theorem Mc {e:Expr}{f:EF}(h:ME X e f):NE X E e (fPl f):=PE.imp h fun σ H Q ⟨ρ,σd,hd,rs,q⟩=>⟨ρ,σd,hd,rs,q.of_pl⟩
theorem P0 {es:List Expr}{f:LF}(h:MA X es f):NA X E es (fPl f):=PA.imp h fun σ H Q ⟨ρ,σd,hd,rs,q⟩=>⟨ρ,σd,hd,rs,q.of_pl⟩
theorem K8 {x:Str}{k np:Nat}{F:Fn}{e:Expr}{es:List Expr}{r:LF}(hd:Fh X.prog X.w X.K X.mg X.base x k np F)(hr:gF k X.A)(hg:Gl X x)(ha:NA X E (e :: es) r)(hR:∀ v s',XF X E v s'→X.xe v s')
  (hnp:∀ ds h,F ds h ≠ .bad→ds.length=np) (hdb:(x == ("__debug__" : Str))=false:=by decide) (he:starEach (e :: es) X.env=(false,eval e X.env) :: starEach es X.env:=by rfl) (hpl:(backTo pos (starEach es X.env)).any (·.1)=false:=by rfl) :
  NE X E (.Call (.Name x p) (e :: es) [] pos) (au F r):=by
 obtain⟨f,fd,ps,h1,h2,h3,h4⟩:=hd.ex
 refine PE.imp (DY (E:=fun v _ H=>∃ C,v=.ref C∧E C H) h4 hr hg h1 h2 h3 .nil (PZ (E':=E) (fun C H ⟨C',e,q⟩=>by cases e;exact q) hR) ha hdb he hpl) fun σ H Q ⟨ρ,σd,hd,rs,pp⟩=>⟨ρ,σd,hd,rs,(fK.bind (R:=rDs X.K) pp).imp fun vs H1 ⟨ρ1,ds,hd1,e1,rs1,rv,p1⟩ => ?_⟩
 rw [List.append_nil]
 refine⟨ρ1,hd1,ds,rs1.hp,rv,?_,?_⟩
 ·refine hnp ds hd1 fun z => ?_
  rw [z] at p1;exact p1
 ·cases c:F ds hd1 with
  | bad=>rw [c] at p1;exact p1
  | exc z h' =>
   rw [c] at p1
   obtain⟨cn,l,C,q1,q2,q3⟩:=p1
   exact⟨cn,l,C,q1,q2,fun H2 ρ2 e2 r2=>⟨C,rfl,q3 H2 ρ2 e2 r2⟩⟩
  | ok d hd2 =>
   rw [c] at p1
   exact fun v H' ρ' ex rh rd=>p1 v H' ρ' ex (rs1.ext ex rh) rd
theorem K9 {np n:Nat}{b:SF}:∀ ds h,bN np n b ds h ≠ .bad→ds.length=np:=by
 intro ds h e
 unfold bN at e
 split at e
 ·assumption
 ·exact absurd rfl e
theorem Eo {s:Stmt}{f:SF}(h:MS X s f):NS X E s (sPl f):=PS.imp h fun En σ H ⟨ρ,σd,hd,rs,q⟩=>⟨ρ,σd,hd,rs,by
 unfold sPl at q
 cases e:f σd hd<;>rw [e] at q<;>exact q⟩
theorem La:NSs X E [] bM:=PSs.imp vV fun En σ H ⟨ρ,σd,hd,rs,p⟩=>p σ H ρ Ext.refl rs
theorem wD {st:Stmt}{a:SF}(h:NS X E st a):NSs X E [st] a:=vW h
theorem lO {st:Stmt}{rest:List Stmt}{a b:SF}(h1:NS X E st a)(h2:NSs X E rest b):NSs X E (st :: rest) (aC a b):=by
 refine PSs.imp (yN h1 h2) fun En σ H ⟨ρ,σd,hd,rs,q⟩=>⟨ρ,σd,hd,rs,?_⟩
 unfold aC at q
 cases e:a σd hd with
 | nx σ1 h1=>rw [e] at q;exact fun σ' H' ρ' ex rs'=>⟨ρ',σ1,h1,rs',jx.ext ex q⟩
 | rt d h1=>rw [e] at q;exact q
 | bk σ1 h1=>rw [e] at q;exact q
 | ct σ1 h1=>rw [e] at q;exact q
 | exc x σ1 h1=>rw [e] at q;exact q
 | bad=>rw [e] at q;exact q
theorem P1 {c:Expr}{a b:List Stmt}{t:TF}{fa fb:SF}(hc:MT X c t)(ha:NSs X E a fa)(hb:NSs X E b fb):NS X E (.If c a b pos) (Bx t fa fb):=by
 refine PS.imp (Md hc ha hb) fun En σ H ⟨ρ,σd,hd,rs,q⟩=>⟨ρ,σd,hd,rs,?_⟩
 unfold Bx at q
 cases e:t σd hd with
 | exc x h'=>rw [e] at q;exact q
 | bad=>rw [e] at q;exact q
 | ok c h' =>
  rw [e] at q
  intro b H' ρ' ex rs' hb
  cases hb
  cases c with
  | true=>rw [if_pos rfl];exact⟨ρ',σd,h',rs',jx.ext ex q⟩
  | false=>rw [if_neg Bool.false_ne_true];exact⟨ρ',σd,h',rs',jx.ext ex q⟩
theorem N9 {i:Nat}{x:Str}{e:Expr}{f:EF}{pos':Pos}(hN:X.N.Nodup)(hi:X.N[i]? = some x)(hx:Loc X.env.scope x)(he:NE X E e f)(hs:swapsWith e (some (.Name x pos')) pos.line X.env=pure false:=by rfl)
  (hf:X.fn x=true∨X.env.scope.names.lookup x=some .local:=by first|exact .inl rfl|exact .inr rfl|assumption):NS X E (.Assign [.Name x pos'] e pos) (bd (gN i) f):=by
 refine PS.imp (Bb hN hi hx he hs hf) fun En σ H ⟨ρ,σd,hd,rs,p⟩=>⟨ρ,σd,hd,rs,(jx.outE p).imp fun v H1 ⟨ρ1,d,hd1,e1,rs1,rv,p1⟩ => ?_⟩
 exact p1 _ H1 ρ1 Ext.refl ⟨rs1.hp,rs1.st.set i rv⟩
end
end Fm
namespace L2
open PySem PySem.Spec PyProof.Rows
section
variable {X:Cx} {E:Addr→Hp→Prop} {e:Value} {s':Shared} {R:Value→Shared→Prop}
theorem Cov.unwish {pins:List (Addr × Obj)}{H:Hp}{B:Heap}(c:Cov (X.wish R) pins H B):Cov X pins H B:=⟨c.trk,c.old,c.pin⟩
theorem XF.unwish (h:XF (X.wish R) E e s'):XF X E e s':=by
 obtain⟨pins,σ,H,a,C,B,t,he,I,fl,c,q⟩:=h
 exact⟨pins,σ,H,a,C,B,t,he,I.unwish,fl,c.unwish,q⟩
theorem PS.xe {st:Stmt}{t:TS}(hx:∀ e s',R e s'→X.xe e s')(h:PS (X.wish R) st t):PS X st t:=fun pins s σ H D I hw =>
 wpAny_mono (h pins s σ H D (I.wish _) hw) (fun _ _ q=>q.unwish) hx
end
end L2
namespace Fm
open PySem PySem.Spec L2 PyProof.Rows
section
variable {X:Cx} {E:Addr→Hp→Prop} {pos p:Pos}
theorem Ij {n:String}{C:Addr}{bm:List Value}{B newId initId:String}{np cpos cp:Pos}{txt:Str}{j}(O:OwnCls (Str.ofString n) C bm newId X.mg X.base)(FB:ExcBaseFacts B newId initId bm)(hc:X.calm=true)(hg:Gl X (Str.ofString n))(hx:∀ e s',XP X E e s'→X.xe e s')
  (hdb:(Str.ofString n == ("__debug__" : Str))=false:=by decide):NS X E (.Raise (some (.Call (.Name (Str.ofString n) np) [.Constant (.str txt) j cp] [] cpos)) none pos) (wy n):=PS.xe hx (Ig O FB hc hg hdb E)
end
section
variable {P:Program} {w:World} {K:ZX} {mg:Str→Option Value} {base:Heap}
def zr (K:ZX) (mg:Str→Option Value) (ρ:List Addr) (H:Hp) (r:Res D) (E:XK) (Q:VK):Prop:=match r with
 | .ok d hd'=>∀ v H' ρ',Ext ρ H ρ' H'→RH K ρ' H' hd'→RD K ρ' H' d v→Q v H'
 | .exc x hd'=>XC K mg ρ H (fun C H'=>E (.ref C) none H') x hd'
 | .bad=>False
theorem zr.letGo {ρ:List Addr}{H:Hp}{hd:Hd}{r:Res D}{E:XK}{Q:VK}(rh:RH K ρ H hd)(p:zr K mg ρ H (letGo hd r) E Q):zr K mg ρ H r E Q:=by
 cases r with
 | exc x h'=>exact p
 | bad=>exact p
 | ok d h' =>
  have q:lJ K ρ H (Fm.letGo hd (.ok d h')) Q:=by
   simp only [Fm.letGo] at p ⊢
   split at p<;>rename_i c
   ·rw [if_pos c];exact p
   ·rw [if_neg c];exact p
  exact lJ.letGo rh q
theorem Oa {x:Str}{st:Stmt}{f:Addr}{fd:FuncData}{N ps:List Str}{k:Nat}{b:SF}(F:Fun K x x st f fd)(S:aJ N ps (af st))
  (body:∀ (cdv:Value) (A:Around) (outer:List Env) (s:Shared) (H:Hp) (E:XK),gF k (A.deeper (envOfC x (af st) s.heap.objs.size f cdv)) →
   NSs (oZ (CX1 P w) P w K mg base N x (af st) f cdv A outer s H E) (fun C H'=>E (.ref C) none H') (aE st) b) :
  bU P w K mg base (CX1 P w) (k + 1) f fd ps (spY K mg (bN ps.length N.length b) ps.length):=by
 obtain⟨oc,od,kV,doc,pm,an,cdv,ct,osl,rfl,lk,hcd⟩:=F.ex
 refine Mh lk hcd S (fun vs H Q E ⟨ρ,hd,ds,rh,rd,hl,p⟩=>by rw [← rd.length];exact hl) fun A outer s H vs Q E hr ⟨ρ,hd,ds,rh,rd,hl,p⟩=>⟨_,body cdv A outer s H E hr,ρ,_,hd,⟨rh,u5 rd⟩,?_⟩
 have p0:zr K mg ρ H (bN ps.length N.length b ds hd) E Q:=p
 unfold bN at p0
 rw [if_pos hl] at p0
 have p1:=zr.letGo rh p0
 unfold runB at p1
 cases e2:b (ds.map some++List.replicate (N.length - ds.length) none) hd with
 | nx σ1 h1=>rw [e2] at p1;exact fun σ' H' ρ' ex rs'=>p1 .non H' ρ' ex rs'.hp (by simp only [RD])
 | rt d h1=>rw [e2] at p1;exact p1
 | bk _ _=>rw [e2] at p1;exact p1.elim
 | ct _ _=>rw [e2] at p1;exact p1.elim
 | bad=>rw [e2] at p1;exact p1.elim
 | exc y σ1 h1=>rw [e2] at p1;exact p1
theorem Fh.mk' {x:Str}{f:Addr}{fd:FuncData}{ps:List Str}{k np:Nat}{F:Fn}(hm:mg x=some (.ref f))(hk:PySem.W.keepIn K (.ref f)=true)(hb:kC K fd ps [])(h:bU P w K mg base (CX1 P w) k f fd ps (spY K mg F np)):Fh P w K mg base x k np F:=⟨f,fd,ps,hm,hk,hb,h⟩
end
end Fm
namespace Fm
open PySem PySem.Spec L2 PyProof.Rows
section
variable {X:Cx} {pos p:Pos}
end
end Fm
namespace Fm
def By (n i:Nat) (cs:List String) (b:SF):SF:=fun σ h=>match b σ h with
 | .nx σ' h'=>.nx σ' h'
 | .exc (.exn c []) _ h'=>if c∈cs then .nx ((List.replicate n none).set i (some (.exn c []))) h' else .bad
 | _=>.bad
def isX (tb:List (String × Bool)):D→Option Bool
 | .exn c _=>tb.lookup c
 | _=>none
def eD (tb:List (String × Bool)) (a:EF):EF:=fun σ h=>(a σ h).bind fun x h=>match isX tb x with|some b=>.ok (.bl b) h|none=>.bad
end Fm
namespace L2
open PySem PySem.Spec PyProof.Rows
def P2 (K:ZX) (M:Addr) (i L:Nat) (tb:(Addr→Hp→Prop)→TS):TS:=fun D σ H=>∃ E:Addr→Hp→Prop,tb E { nx:=D.nx,rt:=fun _ _=>False } σ H ∧
 ∀ C H' a σ',E C H'→H' a=none → σ'.length=L → σ'[i]? = some (some (.ref a))→PySem.W.subIn K (.ref C) (.ref M)=some true∧D.nx σ' (upd H' a (p5 a C))
section
variable {X:Cx} {body:List Stmt} {x n c:Str} {M:Addr} {i j:Nat} {np cp vp ap hp pos:Pos} {tb:(Addr→Hp→Prop)→TS}
theorem Fi (hb:∀ q E,PSs ((X.pin q).wish (XF (X.pin q) E)) body (tb E))(hxe:X.xe=fun _ _=>False)(hstk:X.stack=X.env :: X.outer)(hfr:X.env.frame=some X.env.locals)(hm:X.mg x=some (.ref M))(hg:Gl X x)
  (hbe:PySem.W.subIn X.K (.ref M) (.type "BaseException")=some true) (his:(PySem.W.clsIn X.K M).isSome=true) (hty:PySem.W.typeIn X.K (.ref M)=some (.type "type")) (hN:X.N.Nodup) (hij:i≠j) (hj:X.N[j]? = some n) (hjl:X.env.scope.names.lookup n=some .local)
  (hi:X.N[i]? = some c) (hil:X.env.scope.names.lookup c=some .local) (hdb:(x == ("__debug__" : Str))=false:=by decide) (hd1:(n == ("__debug__" : Str))=false:=by decide) (hd2:(n == ("__classdict__" : Str))=false:=by decide)
  (hs:swapsWith (.Name n vp) (some (.Name c cp)) ap.line X.env=pure false:=by rfl) :
  PS X (.Try body [.ExceptHandler (some (.Name x np)) (some n) [.Assign [.Name c cp] (.Name n vp) ap] hp] [] [] pos) (P2 X.K M i X.N.length tb):=by
 rintro pins s σ H D I ⟨E,h1,h2⟩
 refine wpAny_Try_except (wpAny_mono (hb (X.pn++pins) E [] s σ H _ ((I.pinq).wish _) h1) (fun f s1 q => ?_) (fun e s1 q => ?_))
 ·cases f with
  | next=>obtain⟨σ1,H1,J,q⟩:=q;exact vV pins s1 σ1 H1 D J.unwish.unpin q
  | brk=>obtain⟨_,_,_,q⟩:=q;exact q.elim
  | cont=>obtain⟨_,_,_,q⟩:=q;exact q.elim
  | ret u=>obtain⟨_,_,_,_,_,q⟩:=q;exact q.elim
 ·obtain⟨pins',σ',H',a,C,B,t,rfl,J,fl,cv,q⟩:=q
  have hf:X.A.frames=some (X.env :: X.outer):=by rw [← hstk];exact I.ok.frames
  have fl':Heap.FlyingW B (X.env :: X.outer) a (.ref C) (.ref t) s1.heap:=by rw [← hstk];exact fl
  have hn:H' a=none:=by
   cases e:H' a with
   | none=>rfl
   | some u=>obtain⟨o,z⟩:=cv.trk a u e;rw [fl.2.1] at z;cases z
  refine wpAny_looks_onW hf hfr fl' fun h4 hl4 sm4=>wpAny_landsW hl4 fun h5 fl5 sm5 => ?_
  have J5:=J.flown (h':=h5) fl.1 fl5.1 (sm4.trans sm5) cv s1.toks
  obtain⟨oe,vs,hoe,hcl,hdt,_⟩:=fl5.first
  have hw:∀ σ'',σ''.length=X.N.length → σ''[i]? = some (some (.ref a))→PySem.W.subIn X.K (.ref C) (.ref M)=some true∧D.nx σ'' (upd H' a (p5 a C)):=fun σ'' e1 e2=>h2 C H' a σ'' q hn e1 e2
  have hls : σ'.length=X.N.length:=J.len
  have hit:i < X.N.length:=(List.getElem?_eq_some_iff.mp hi).1
  have hsub:PySem.W.subIn X.K (.ref C) (.ref M)=some true:=(hw (σ'.set i (some (.ref a))) (by simpa using hls) (by rw [List.getElem?_set_self (by omega)])).1
  refine wpAny_handleBy_cons (codeAny_handlers_test (Calls.Name_function_global J.ok.kind hg (Calls.loadGlobal_global (by rw [J.ok.glob];exact J5.mod.glob.keeps J5.bk) hm ?_) hdb)) (by intro q;cases q)
  refine Ic J5.kIn ⟨hoe,hcl⟩ hsub hbe his hty (codeAny_handlers_suite_as ?_)
  refine lands_againW fl5 fun h6 fl6 sm6 => ?_
  have J6:=J5.flown (h':=h6) fl5.1 fl6.1 sm6 cv s1.toks
  have J7:=J6.exc (by rw [show (X.pin (X.pn++pins)).stack=X.env :: X.outer from hstk];exact fl6) cv
  refine pS (X:=X.pin (X.pn++pins)) J7 hN hj (.inl hjl) (v:=.ref a) rfl (fun s8 J8 => ?_) (.inr hjl)
  have ps:PSs ((X.pin (X.pn++pins)).sui a) [.Assign [.Name c cp] (.Name n vp) ap] (M3 (Pc j) (G8 i)):=vW (Bb hN hi (.inl hil) (G1 hj (.inl hjl) hd1 hd2) hs (.inr hil))
  refine wpAny_mono (ps pins' s8 _ _ { nx:=fun σ9 H9 => σ9=(σ'.set j (some (.ref a))).set i (some (.ref a))∧H9=upd H' a (p5 a C),rt:=fun _ _=>False } (J8.marked a) ⟨.ref a,by rw [List.getElem?_set_self (by rw [J.len];exact (List.getElem?_eq_some_iff.mp hj).1)],rfl,rfl⟩) (fun f s9 q => ?_) (fun _ _ z=>z.elim)
  cases f with
  | brk=>obtain⟨_,_,_,q⟩:=q;exact q.elim
  | cont=>obtain⟨_,_,_,q⟩:=q;exact q.elim
  | ret u=>obtain⟨_,_,_,_,_,q⟩:=q;exact q.elim
  | next =>
   obtain⟨σ9,H9,J9,rfl,rfl⟩:=q
   refine Inv.goes (X:=X.pin (X.pn++pins)) (J9.unmark I.ok.hd) hN hj hjl fun s10 J10=>⟨_,_,J10.unpin,(hw _ ?_ ?_).2⟩
   ·simpa using hls
   ·rw [ZP (Ne.symm hij),List.getElem?_set_self (by simp only [List.length_set];omega)]
end
end L2
namespace Fm
open PySem PySem.Spec L2 PyProof.Rows
def fO (K:ZX) (f:Addr→Bool→Prop) (tb:List (String × Bool)):Prop:=∀ c b,(c,b)∈tb → ∃ C,PySem.W.nsIn K mainGlobals (Str.ofString c)=some (some (.ref C))∧sE K C∧f C b
theorem hU {K:ZX}{f:Addr→Bool→Prop}:fO K f []:=fun _ _ h=>absurd h (List.not_mem_nil)
theorem eX {K:ZX}{f:Addr→Bool→Prop}{c:String}{b:Bool}{tb:List (String × Bool)}{C:Addr}(n:PySem.W.nsIn K mainGlobals (Str.ofString c)=some (some (.ref C)))(Z:sE K C)(k:f C b)(r:fO K f tb):fO K f ((c,b) :: tb):=fun c' b' h=>by
 rcases List.mem_cons.mp h with e|e
 ·cases e;exact⟨C,n,Z,k⟩
 ·exact r c' b' e
theorem qp {c:String}{b:Bool}:∀ {tb:List (String × Bool)},tb.lookup c=some b→(c,b)∈tb
 | [],h=>by cases h
 | (c',b') :: r,h=>by
  rw [List.lookup_cons] at h
  cases e:c == c' with
  | true =>
   rw [e] at h
   have:=eq_of_beq e
   subst this
   cases h
   exact ZV
  | false=>rw [e] at h;exact ZW _ (qp h)
def Fj (K:ZX) (mg:Str→Option Value) (M:Addr) (cs:List String):Prop:=∀ c∈cs,∃ C,mg (Str.ofString c)=some (.ref C)∧PySem.W.nsIn K mainGlobals (Str.ofString c)=some (some (.ref C))∧PySem.W.subIn K (.ref C) (.ref M)=some true
theorem Ob {K:ZX}{mg:Str→Option Value}{M:Addr}:Fj K mg M []:=fun _ h=>absurd h (List.not_mem_nil)
theorem Lb {K:ZX}{mg:Str→Option Value}{M C:Addr}{c:String}{cs:List String}(g:mg (Str.ofString c)=some (.ref C))(n:PySem.W.nsIn K mainGlobals (Str.ofString c)=some (some (.ref C)))(s:PySem.W.subIn K (.ref C) (.ref M)=some true)(r:Fj K mg M cs):Fj K mg M (c :: cs):=fun c' h=>by
 rcases List.mem_cons.mp h with e|e
 ·subst e;exact⟨C,g,n,s⟩
 ·exact r c' e
section
variable {X:Cx} {pos p:Pos}
theorem Oc {i j L:Nat}{c n x:Str}{M:Addr}{tb:List Stmt}{bt:SF}{cs:List String}{np cp vp ap hp:Pos}(hL:X.N.length=L)(hxe:X.xe=fun _ _=>False)(hb:∀ q,MXs (X.pin q) (XF (X.pin q)) tb bt)(hstk:X.stack=X.env :: X.outer)
  (hfr:X.env.frame=some X.env.locals) (hm:X.mg x=some (.ref M)) (hg:Gl X x) (hbe:PySem.W.subIn X.K (.ref M) (.type "BaseException")=some true) (his:(PySem.W.clsIn X.K M).isSome=true)
  (hty:PySem.W.typeIn X.K (.ref M)=some (.type "type")) (hN:X.N.Nodup) (hij:i≠j) (hj:X.N[j]? = some n) (hjl:X.env.scope.names.lookup n=some .local) (hi:X.N[i]? = some c) (hil:X.env.scope.names.lookup c=some .local)
  (hcs:Fj X.K X.mg M cs)
  (hdb:(x == ("__debug__" : Str))=false:=by decide) (hd1:(n == ("__debug__" : Str))=false:=by decide) (hd2:(n == ("__classdict__" : Str))=false:=by decide)
  (hs:swapsWith (.Name n vp) (some (.Name c cp)) ap.line X.env=pure false:=by rfl) :
  MS X (.Try tb [.ExceptHandler (some (.Name x np)) (some n) [.Assign [.Name c cp] (.Name n vp) ap] hp] [] [] pos) (By L i cs bt):=by
 refine PS.imp (Fi (tb:=fun E=>zq X.K X.mg E bt) (fun q E=>hb q E) hxe hstk hfr hm hg hbe his hty hN hij hj hjl hi hil hdb hd1 hd2 hs) fun En σ H ⟨ρ,σd,hd,rs,pp⟩ => ?_
 unfold By at pp
 cases e:bt σd hd with
 | nx σ1 h1=>rw [e] at pp;exact⟨fun _ _=>False,⟨ρ,σd,hd,rs,by rw [e];exact pp⟩,fun _ _ _ _ z=>z.elim⟩
 | rt _ _=>rw [e] at pp;exact pp.elim
 | bk _ _=>rw [e] at pp;exact pp.elim
 | ct _ _=>rw [e] at pp;exact pp.elim
 | bad=>rw [e] at pp;exact pp.elim
 | exc y σ1 h1 =>
  rw [e] at pp
  cases y with
  | exn cn l =>
   cases l with
   | cons _ _=>exact pp.elim
   | nil =>
    simp only at pp
    split at pp
    ·rename_i hcn
     obtain⟨C,m1,m2,m3⟩:=hcs cn hcn
     refine⟨fun C' H'=>C'=C ∧ ∃ ρ',Ext ρ H ρ' H'∧RH X.K ρ' H' h1,⟨ρ,σd,hd,rs,by rw [e];exact⟨cn,[],C,rfl,m1,fun H' ρ' ex r=>⟨rfl,ρ',ex,r⟩⟩⟩,?_⟩
     rintro C' H' a σ' ⟨rfl,ρ',ex,r⟩ hn hl hi'
     refine⟨m3,pp σ' _ ρ' (ex.sm (bO hn)) ⟨r.same (bO hn),?_,fun k d hk => ?_⟩⟩
     ·rw [List.length_set,List.length_replicate,hl,hL]
     ·by_cases hki:k=i
      ·subst hki
       have hlt:k < L:=by rw [← hL];exact (List.getElem?_eq_some_iff.mp hi).1
       simp only [slot,List.getElem?_set_self (show k < (List.replicate L (none:Option D)).length by rw [List.length_replicate];exact hlt)] at hk
       cases hk
       exact⟨.ref a,hi',by simp only [RD];exact⟨trivial,a,C',rfl,aO,m2⟩⟩
      ·exfalso
       simp only [slot,ZP (Ne.symm hki)] at hk
       by_cases hlt:k < L
       ·rw [List.getElem?_replicate_of_lt hlt] at hk;cases hk
       ·rw [List.getElem?_eq_none (by rw [List.length_replicate];omega)] at hk;cases hk
    ·exact pp.elim
  | _=>exact pp.elim
theorem eY {tb:List (String × Bool)} {a:Expr} {fa:EF} {n:Str} {p2:Pos} {v:V} (hc:Ih v=true) (hg:Gl X "isinstance") (hm:X.mg "isinstance" = none) (hv:PE X (.Name n p2) (tC v))
  (htb:fO X.K (fun C b=>PySem.W.kitOne X.K (.ref C) (gw v)=some b) tb) (ha:ME X a fa)
  (hs:starEach [a,.Name n p2] X.env=(false,eval a X.env) :: starEach [.Name n p2] X.env:=by rfl) (hs2:starEach [.Name n p2] X.env=(false,eval (.Name n p2) X.env) :: starEach [] X.env:=by rfl) :
  ME X (.Call (.Name "isinstance" p) [a,.Name n p2] [] pos) (eD tb fa):=by
 refine PE.imp (ly Ii hg hm (by decide +kernel) (cf ha (cf hv dX hs2) hs) (he:=hs)) fun σ H Q ⟨ρ,σd,hd,rs,pp⟩=>⟨ρ,σd,hd,rs,(bx.bind (R:=rD X.K) pp).imp fun v1 H1 ⟨ρ1,d,hd1,e1,rs1,rv,p1⟩ => ?_⟩
 cases d<;>try exact p1.elim
 rename_i c l
 simp only [isX] at p1
 cases e:tb.lookup c with
 | none=>rw [e] at p1;exact p1.elim
 | some b =>
  rw [e] at p1
  simp only [rD,RD] at rv
  obtain⟨rfl,q,C,rfl,hq,hn⟩:=rv
  obtain⟨C',n',Z,k⟩:=htb c b (qp e)
  rw [hn] at n'
  cases n'
  exact⟨q,C,v,b,rfl,hc,hq,Z,k,p1.here rs1 (by simp only [rD,RD])⟩
end
end Fm
namespace Fm
open PySem PySem.Spec L2 PySem.W PyProof.Rows
section
variable {X:Cx} {pos p:Pos}
def P3 (K:ZX):R2:=fun x y H Q=>∃ ρ hd d k xs ys b,RH K ρ H hd∧RD K ρ H d x∧RD K ρ H k y∧aS hd d=some xs∧aS hd k=some ys∧xs.length=ys.length∧kZ hd xs ys=some b∧Q (.bl (!b)) H
theorem Ik (hu:X.A.units + 24 < cLine):OpR X (compareOp .NotEq) (P3 X.K):=by
 intro pins s σ H x y v u Q I rx ry h
 obtain⟨ρ,hd,d,k,xs,ys,b,r,h1,h2,c1,c2,hl,e,q⟩:=h
 have hu0:X.A.units < cLine:=by omega
 obtain⟨p,vs,rfl,s1,q1⟩:=dy r h1 c1
 obtain⟨p',vs',rfl,s2,q2⟩:=dy r h2 c2
 cases rx;cases ry
 obtain⟨its,rv,pl,_⟩:=I.list s1
 obtain⟨its',rv',pl',_⟩:=I.list s2
 have il:s.heap.IsList p its.toArray:=pl.isList
 have il':s.heap.IsList p' its'.toArray:=pl'.isList
 have l1:xs.length=its.length:=q1.length.trans rv.length
 have l2:ys.length=its'.length:=q2.length.trans rv'.length
 obtain⟨f,hf,ha⟩:=wv I r (A:=X.A.in1) q1 q2 rv rv' e (by show X.A.units + 1 + 23 < cLine;omega)
 have hs:its.toArray.size=its'.toArray.size:=by simp;omega
 have g2:=SeqAt.RcNeAt.lists (s:=s) (A:=X.A) (e:=f) il il' hs hu0 (fun j h1 h2=>by simpa using hf j (by simpa using h1) (by simpa using h2))
 have hm:min its.length its'.length=its.length:=by omega
 rw [hm] at ha
 rw [← ha] at q
 exact (show SeqAt.RcNeAt X.A s _ _ (!(List.range its.length).all f) by simpa using g2) _ _ _ _ ⟨.bl _,H,I,rfl,q⟩
theorem Od {K:ZX}:Og K Bw (P3 K):=by
 intro ρ H σd hd σ d k v w Q rs rv rw' p
 unfold Bw at p
 cases c1:aS hd d with
 | none=>rw [c1] at p;exact p.elim
 | some xs =>
  cases c2:aS hd k with
  | none=>rw [c1,c2] at p;exact p.elim
  | some ys =>
   rw [c1,c2] at p
   simp only at p
   split at p
   ·rename_i hl
    cases e:kZ hd xs ys with
    | none=>rw [e] at p;exact p.elim
    | some b =>
     rw [e] at p
     exact⟨ρ,hd,d,k,xs,ys,b,rs.hp,rv,rw',c1,c2,hl,e,p.here rs (by simp only [rD,RD])⟩
   ·exact p.elim
end
end Fm
namespace Fm
def wE:O2:=fun x y h=>match aS h x,aS h y with
 | some [.tup (.ref a :: xs)],some [.tup (.ref b :: ys)]=>if a≠b∧xs.length=ys.length then (match kZ h (.ref a :: xs) (.ref b :: ys) with|some c=>.ok (.bl (!c)) h|none=>.bad) else .bad
 | some [.non],some [.non]=>.ok (.bl false) h
 | _,_=>.bad
end Fm
namespace Fm
open PySem PySem.Spec L2 PySem.W PyProof.Rows
section
variable {X:Cx}
def P4 (K:ZX):R2:=fun x y H Q=>∃ ρ hd d k,RH K ρ H hd∧RD K ρ H d x∧RD K ρ H k y∧((aS hd d=some [.non]∧aS hd k=some [.non]∧Q (.bl false) H) ∨
 ∃ a b xs ys c,aS hd d=some [.tup (.ref a :: xs)]∧aS hd k=some [.tup (.ref b :: ys)]∧a≠b∧xs.length=ys.length∧kZ hd (.ref a :: xs) (.ref b :: ys)=some c∧Q (.bl (!c)) H)
theorem Oe (hu:X.A.units + 25 < cLine):OpR X (compareOp .NotEq) (P4 X.K):=by
 intro pins s σ H x y v u Q I rx ry h
 obtain⟨ρ,hd,d,k,r,h1,h2,q⟩:=h
 have hu0:X.A.units < cLine:=by omega
 rcases q with ⟨c1,c2,q⟩|⟨a,b,xs,ys,c,c1,c2,hab,hl,e,q⟩
 ·exact Ik (by omega) pins s σ H x y v u Q I rx ry ⟨ρ,hd,d,k,[.non],[.non],true,r,h1,h2,c1,c2,rfl,by simp [kZ,eqR,peq,dep],q⟩
 ·obtain⟨p,vs,rfl,s1,q1⟩:=dy r h1 c1
  obtain⟨p',vs',rfl,s2,q2⟩:=dy r h2 c2
  cases rx;cases ry
  obtain⟨its,rv,pl,_⟩:=I.list s1
  obtain⟨its',rv',pl',_⟩:=I.list s2
  have il:s.heap.IsList p its.toArray:=pl.isList
  have il':s.heap.IsList p' its'.toArray:=pl'.isList
  obtain⟨v1,r1,rfl,t1,z1⟩:=q1
  obtain⟨v2,r2,rfl,t2,z2⟩:=q2
  cases z1;cases z2
  cases rv with
  | cons w1 w2 =>
   cases w2
   cases rv' with
   | cons w1' w2' =>
    cases w2'
    simp only [RD] at t1 t2
    obtain⟨g,us,rfl,hg,y1⟩:=t1
    obtain⟨g',us',rfl,hg',y2⟩:=t2
    cases w1;cases w1'
    have hgg:g≠g':=fun z=>by
     subst z
     rw [hg] at hg'
     cases hg'
     simp only [RDs] at y1 y2
     obtain⟨o1,l1,e1,m1,_⟩:=y1
     obtain⟨o2,l2,e2,m2,_⟩:=y2
     rw [e1] at e2
     cases e2
     simp only [RD] at m1 m2
     obtain⟨n1,k1,rfl⟩:=m1
     obtain⟨n2,k2,k3⟩:=m2
     cases k3
     exact hab (jF r.nd k1 k2)
    obtain⟨jts,jv,jl⟩:=gl I.hok hg
    obtain⟨jts',jv',jl'⟩:=gl I.hok hg'
    obtain⟨f,hf,ha⟩:=wv I r (A:=X.A.in1.in1) y1 y2 jv jv' e (by show X.A.units + 1 + 1 + 23 < cLine;omega)
    have l1:=y1.length.trans jv.length
    have l2:=y2.length.trans jv'.length
    simp only [List.length_cons] at l1 l2
    have g2:SeqAt.EqAt X.A.in1 s (Value.ref g) (Value.ref g') c:=by
     refine SeqAt.EqAt.of_refs hgg ?_
     have g3:=SeqAt.RcAt.tuples (s:=s) (A:=X.A.in1) (e:=f) jl jl' (by show X.A.units + 1 < cLine;omega) (fun j h1 h2=>by simpa using hf j (by simpa using h1) (by simpa using h2))
     have hs:(jts.length == jts'.length)=true:=by simp;omega
     have:c=((List.range (min jts.length jts'.length)).all f && (jts.length == jts'.length)):=by rw [ha,hs,Bool.and_true]
     rw [this]
     simpa using g3
    have g4:=SeqAt.RcNeAt.lists (s:=s) (A:=X.A) (e:=fun _=>c) il il' rfl hu0 (fun j h1 h2=>by
     have:j=0:=by simp at h1;omega
     subst this
     exact g2)
    have q':Q (.bl (!(List.range 1).all fun _=>c)) H:=by simpa using q
    exact (show SeqAt.RcNeAt X.A s _ _ (!(List.range 1).all fun _=>c) by simpa using g4) _ _ _ _ ⟨.bl _,H,I,rfl,q'⟩
theorem Of {K:ZX}:Og K wE (P4 K):=by
 intro ρ H σd hd σ d k v w Q rs rv rw' p
 unfold wE at p
 split at p
 ·rename_i a xs b ys c1 c2
  split at p
  ·rename_i hc
   cases e:kZ hd (.ref a :: xs) (.ref b :: ys) with
   | none=>rw [e] at p;exact p.elim
   | some c =>
    rw [e] at p
    exact⟨ρ,hd,d,k,rs.hp,rv,rw',.inr ⟨a,b,xs,ys,c,c1,c2,hc.1,hc.2,e,p.here rs (by simp only [rD,RD])⟩⟩
  ·exact p.elim
 ·rename_i c1 c2
  exact⟨ρ,hd,d,k,rs.hp,rv,rw',.inl ⟨c1,c2,p.here rs (by simp only [rD,RD])⟩⟩
 ·exact p.elim
end
end Fm
namespace Fm
open PySem PySem.Spec L2
theorem Lc {X:Cx}{sts:List Stmt}:MSs X sts kT:=PSs.imp EX fun En σ H ⟨ρ,σd,hd,rs,p⟩=>p.elim
end Fm
namespace Fm
def dk (l:List (List Int × D)) (k:List Int):Option D:=(l.find? fun p=>decide (p.1=k)).map (·.2)
def qq (l:List (List Int × D)) (k:List Int) (v:D):List (List Int × D):=if (l.any fun p=>decide (p.1=k))=true then l.map (fun p=>if p.1=k then (p.1,v) else p) else l++[(k,v)]
def Bz:EF:=fun _ h=>.ok (.ref h.length) (h++[.dcT []])
def lP:O2:=fun x y h=>match x,y with
 | .tup l,.ref n=>match dj l,h[n]? with
  | some k,some (.dcT m)=>.ok (.bl (!(dk m k).isSome)) h
  | _,_=>.bad
 | _,_=>.bad
def Ep (x i e:EF):SF:=fun σ h=>outE (e σ h) σ fun d h=>outE (x σ h) σ fun p h=>outE (i σ h) σ fun j h=>match p,j with
 | .ref n,.tup l=>match dj l,h[n]? with
  | some k,some (.dcT m)=>if m.length < SZ then .nx σ (h.set n (.dcT (qq m k d))) else .bad
  | _,_=>.bad
 | _,_=>.bad
def Er:O2:=fun x y h=>match x,y with
 | .ref n,.tup l=>match dj l,h[n]? with
  | some k,some (.dcT m)=>match dk m k with|some d=>.ok d h|none=>.bad
  | _,_=>.bad
 | _,_=>.bad
def Il (a b:EF):EF:=ak Er a b
end Fm
namespace Fm
open PySem PySem.Spec L2 PySem.W PyProof.Rows
section
variable {K:ZX} {ρ:List Addr} {H:Hp} {hd:Hd}
abbrev kyT (k:List Int):List Key:=k.map fun i=>(Sum.inl i:Key)
theorem wF {a b:List Int}(e:kyT a=kyT b):a=b:=by
 have:=congrArg (List.map fun x:Key=>match x with | .inl i=>i|_=>0) e
 simpa [kyT,List.map_map,Function.comp_def] using this
theorem Oh (k:List Int):(kyT k).map kV=k.map V.int:=by
 rw [kyT,List.map_map];rfl
theorem RH.allocT (r:RH K ρ H hd){p:Addr}{l:List (List Int × D)}(hp:RC K ρ H (.dcT l) p)(hn:p ∉ ρ):RH K (ρ ++ [p]) H (hd++[.dcT l]):=by
 have k:Kp ρ H (ρ ++ [p]) H:=⟨fun n a e=>by rw [ZC (List.getElem?_eq_some_iff.mp e).1];exact e,fun _ _ h=>h,fun _ _ _ h=>h,fun _ _ h=>h⟩
 refine⟨by simp [r.len],?_,fun n c a h1 h2 => ?_⟩
 ·rw [List.nodup_append]
  exact⟨r.nd,by simp,fun a ha b hb=>by simp at hb;subst hb;intro e;subst e;exact hn ha⟩
 ·by_cases hlt:n < hd.length
  ·rw [ZC hlt] at h1
   rw [ZC (by rw [r.len];exact hlt)] at h2
   exact (r.cel n c a h1 h2).mono k rfl
  ·have e1:n=hd.length:=by
    have:=(List.getElem?_eq_some_iff.mp h1).1
    simp at this
    omega
   subst e1
   simp at h1
   subst h1
   rw [← r.len] at h2
   simp at h2
   subst h2
   obtain⟨kvs,q1,q2,q3⟩:=hp
   exact⟨kvs,q1,q2,q3.mono k⟩
theorem RH.writeT (r:RH K ρ H hd){n:Nat}{p:Addr}{l:List (List Int × D)}{kvs:List (List Key × V)}(hp : ρ[n]? = some p)(hn:n < hd.length)(h1:kvs.map (·.1)=l.map (fun p=>kyT p.1))(h2:RDs K ρ H (l.map (·.2)) (kvs.map (·.2))):RH K ρ (upd H p (.dT kvs)) (hd.set n (.dcT l)):=by
 have k:Kp ρ H ρ (upd H p (.dT kvs)):=by
  have hm:=ZK hp
  refine⟨fun _ _ h=>h,fun a us e => ?_,fun a o u e => ?_,fun a φ e => ?_⟩
  ·rw [ax (fun z=>r.noTup e (by rw [z];exact hm))];exact e
  ·rw [ax (fun z=>r.noFrz e (by rw [z];exact hm))];exact e
  ·rw [ax (fun z=>r.noExt e (by rw [z];exact hm))];exact e
 refine⟨by simp [r.len],r.nd,fun m c a q1 q2 => ?_⟩
 by_cases e:n=m
 ·subst e
  rw [List.getElem?_set_self hn] at q1
  cases q1
  rw [hp] at q2
  cases q2
  exact⟨kvs,aO,h1,h2.mono k⟩
 ·rw [ZP e] at q1
  have ne:a≠p:=fun z=>by
   subst z
   exact e (jF r.nd hp q2)
  exact (r.cel m c a q1 q2).mono k (ax ne)
theorem mZ (k:List Int):∀ {l:List (List Int × D)} {kvs:List (List Key × V)},kvs.map (·.1)=l.map (fun p=>kyT p.1)→RDs K ρ H (l.map (·.2)) (kvs.map (·.2)) →
  (dk l k=none∧fm kvs (kyT k)=none) ∨ ∃ d v,dk l k=some d∧fm kvs (kyT k)=some v∧RD K ρ H d v
 | [],[],_,_=>.inl ⟨rfl,rfl⟩
 | [],_ :: _,h,_=>by simp at h
 | _ :: _,[],h,_=>by simp at h
 | (j,d) :: l,(kk,v) :: kvs,h1,h2=>by
  simp only [List.map_cons,List.cons.injEq] at h1
  simp only [List.map_cons,RDs] at h2
  obtain⟨v',r',e,q1,q2⟩:=h2
  cases e
  obtain⟨e1,e2⟩:=h1
  subst e1
  by_cases e:j=k
  ·subst e
   exact .inr ⟨d,v,by simp [dk],by simp [fm],q1⟩
  ·have ih:=mZ k e2 q2
   have a1:dk ((j,d) :: l) k=dk l k:=by simp [dk,e]
   have a2:fm ((kyT j,v) :: kvs) (kyT k)=fm kvs (kyT k):=jO (fun z=>e (wF z))
   rw [a1,a2]
   exact ih
theorem zt (k:List Int):∀ {l:List (List Int × D)} {kvs:List (List Key × V)},kvs.map (·.1)=l.map (fun p=>kyT p.1)→(kvs.any fun kv=>decide (kv.1=kyT k))=l.any fun p=>decide (p.1=k)
 | [],[],_=>rfl
 | [],_ :: _,h=>by simp at h
 | _ :: _,[],h=>by simp at h
 | (j,d) :: l,(kk,v) :: kvs,h1=>by
  simp only [List.map_cons,List.cons.injEq] at h1
  obtain⟨e1,e2⟩:=h1
  subst e1
  have:decide (kyT j=kyT k)=decide (j=k):=by
   by_cases e:j=k
   ·simp [e]
   ·rw [decide_eq_false e,decide_eq_false fun z=>e (wF z)]
  simp only [List.any_cons,this,zt k e2]
theorem ve (k:List Int){d0:D}{v0:V}(hv:RD K ρ H d0 v0):∀ {l:List (List Int × D)} {kvs:List (List Key × V)},kvs.map (·.1)=l.map (fun p=>kyT p.1)→RDs K ρ H (l.map (·.2)) (kvs.map (·.2)) →
  (kvs.map fun kv=>if kv.1=kyT k then (kv.1,v0) else kv).map (·.1)=(l.map fun p=>if p.1=k then (p.1,d0) else p).map (fun p=>kyT p.1)∧RDs K ρ H ((l.map fun p=>if p.1=k then (p.1,d0) else p).map (·.2)) ((kvs.map fun kv=>if kv.1=kyT k then (kv.1,v0) else kv).map (·.2))
 | [],[],_,_=>⟨rfl,RDs.nil⟩
 | [],_ :: _,h,_=>by simp at h
 | _ :: _,[],h,_=>by simp at h
 | (j,d) :: l,(kk,v) :: kvs,h1,h2=>by
  simp only [List.map_cons,List.cons.injEq] at h1
  simp only [List.map_cons,RDs] at h2
  obtain⟨v',r',e,q1,q2⟩:=h2
  cases e
  obtain⟨e1,e2⟩:=h1
  subst e1
  obtain⟨i1,i2⟩:=ve k hv e2 q2
  by_cases e:j=k
  ·subst e
   simp only [List.map_cons,if_true]
   exact⟨by rw [i1],RDs.cons hv i2⟩
  ·have e' : ¬ kyT j=kyT k:=fun z=>e (wF z)
   simp only [List.map_cons,if_neg e,if_neg e']
   exact⟨by rw [i1],RDs.cons q1 i2⟩
theorem Fk (k:List Int){d0:D}{v0:V}(hv:RD K ρ H d0 v0){l:List (List Int × D)}{kvs:List (List Key × V)}(h1:kvs.map (·.1)=l.map (fun p=>kyT p.1))(h2:RDs K ρ H (l.map (·.2)) (kvs.map (·.2))) :
  (ir kvs (kyT k) v0).map (·.1)=(qq l k d0).map (fun p=>kyT p.1)∧RDs K ρ H ((qq l k d0).map (·.2)) ((ir kvs (kyT k) v0).map (·.2)):=by
 unfold ir qq
 rw [zt k h1]
 split
 ·exact ve k hv h1 h2
 ·refine⟨by simp [h1],?_⟩
  rw [ZR,ZR]
  exact RDs.append h2 (RDs.cons hv RDs.nil)
theorem wG {l:List D}{v:V}{k:List Int}(rv:RD K ρ H (.tup l) v)(e:dj l=some k):∃ b,v=.ref b∧H b=some (.tup ((kyT k).map kV)):=by
 simp only [RD] at rv
 obtain⟨b,vs,rfl,h1,h2⟩:=rv
 rw [qd h2 e] at h1
 exact⟨b,rfl,by rw [Oh];exact h1⟩
end
section
variable {X:Cx} {pos p:Pos}
theorem Im:ME X (.Dict [] [] pos) Bz:=by
 refine PE.imp HN fun σ H Q ⟨ρ,σd,hd,rs,pp⟩=>fun q hq => ?_
 have sm:=bO (o:=HO.dT []) hq
 have hn:=rs.hp.free hq
 have rh:=(rs.hp.same sm).allocT (p:=q) (l:=[]) ⟨[],aO,rfl,RDs.nil⟩ hn
 have ex:Ext ρ H (ρ ++ [q]) (upd H q (.dT [])):=Ext.alloc hq
 refine bx.at (R:=rD X.K) (a:=.ref hd.length) pp ex (rs.ext ex rh) ?_
 simp only [rD,RD]
 refine⟨q,?_,rfl⟩
 rw [← rs.hp.len]
 simp
def Es (K:ZX):R2:=fun x y H Q=>∃ a o,y=.ref a∧lN H a x o∧Q (.bl (!o.isSome)) H
theorem Fl (hu:X.A.units + 1 < cLine):OpR X (compareOp .NotIn) (Es X.K):=by
 intro pins s σ H x y v u Q I rx ry h
 obtain⟨a,o,rfl,g,q⟩:=h
 obtain rfl:u=Value.ref a:=ry
 exact K1 hu I g rx fun s3 I3=>⟨.bl (!o.isSome),H,I3,rfl,q⟩
theorem Fo {K:ZX}:Og K lP (Es K):=by
 intro ρ H σd hd σ d k v w Q rs rv rw' pp
 unfold lP at pp
 cases d<;>try exact pp.elim
 cases k<;>try exact pp.elim
 rename_i l n
 simp only at pp
 cases c1:dj l with
 | none=>rw [c1] at pp;exact pp.elim
 | some k =>
  rw [c1] at pp
  obtain⟨b,rfl,hb⟩:=wG rv c1
  simp only [RD] at rw'
  obtain⟨a,ha,rfl⟩:=rw'
  cases c:hd[n]? with
  | none=>rw [c] at pp;exact pp.elim
  | some cell =>
   rw [c] at pp
   cases cell with
   | lst l=>exact pp.elim
   | dct _=>exact pp.elim
   | dcT m =>
    simp only at pp
    obtain⟨kvs,q1,q2,q3⟩:=rs.hp.cel n _ a c ha
    refine⟨a,fm kvs (kyT k),rfl,lN.t q1 hb,?_⟩
    have e:(fm kvs (kyT k)).isSome=(dk m k).isSome:=by
     rcases mZ k q2 q3 with ⟨e1,e2⟩|⟨d,v,e1,e2,_⟩<;>rw [e1,e2]<;>rfl
    rw [e]
    exact pp.here rs (by simp only [rD,RD])
theorem Ld {o i e:Expr}{fo fi fe:EF}{p2:Pos}(hu:X.A.units + 1 < cLine)(he:ME X e fe)(ho:ME X o fo)(hi:ME X i fi)(hs:swapsWithSole [.Subscript o i p2] e pos.line X.env=pure false:=by rfl)(hw:swappedStores [.Subscript o i p2] e X.env=pure none:=by rfl)
  (h1:(assignEach [.Subscript o i p2] X.env).map (·.2)=[assign (.Subscript o i p2) X.env]:=by rfl) (ha:∀ v,assign (.Subscript o i p2) X.env v=(do
   let ov ← holding [v] (eval o X.env)
   let iv ← holding [v,ov] (eval i X.env)
   standAt p2
   holding [v,ov,iv] (setItem ov iv v)
   release [v,ov,iv] []):=by intro _;rfl):MS X (.Assign [.Subscript o i p2] e pos) (Ep fo fi fe):=by
 refine PS.imp (Ba he (A9 ho hi (zk hu) ha) hs hw h1) fun En σ H ⟨ρ,σd,hd,rs,p⟩=>⟨ρ,σd,hd,rs,(bw.outE p).imp fun v H1 ⟨ρ1,d,hd1,e1,rs1,rv,p1⟩ => ?_⟩
 refine⟨ρ1,σd,hd1,rs1,(bw.outE p1).imp fun vo H2 ⟨ρ2,dO,hd2,e2,rs2,ro,p2⟩ => ?_⟩
 refine⟨ρ2,σd,hd2,rs2,(bw.outE p2).imp fun vi H3 ⟨ρ3,di,hd3,e3,rs3,ri,p3⟩ => ?_⟩
 have rv3:=(rv.mono (rs1.hp.kp e2)).mono (rs2.hp.kp e3)
 have ro3:=ro.mono (rs2.hp.kp e3)
 cases dO with
 | ref n =>
  cases di with
  | tup l =>
   simp only at p3
   cases c1:dj l with
   | none=>rw [c1] at p3;exact p3.elim
   | some k =>
    rw [c1] at p3
    obtain⟨b,rfl,hb⟩:=wG ri c1
    cases c:hd3[n]? with
    | none=>rw [c] at p3;exact p3.elim
    | some cell =>
     rw [c] at p3
     cases cell with
     | lst l=>exact p3.elim
     | dct _=>exact p3.elim
     | dcT m =>
      simp only at p3
      split at p3
      ·rename_i hz
       simp only [RD] at ro3
       obtain⟨a,ha,rfl⟩:=ro3
       obtain⟨kvs,q1,q2,q3⟩:=rs3.hp.cel n _ a c ha
       have hl:kvs.length=m.length:=by have:=congrArg List.length q2;simpa using this
       refine⟨a,_,rfl,zf.t q1 hb (by rw [hl];exact Nat.lt_of_lt_of_le hz (by rw [sizeLine_eq];decide)),?_⟩
       have hn:n < hd3.length:=(List.getElem?_eq_some_iff.mp c).1
       obtain⟨u1,u2⟩:=Fk k rv3 q2 q3
       have rh:=rs3.hp.writeT ha hn u1 u2
       have ex:Ext ρ3 H3 ρ3 (upd H3 a (.dT (ir kvs (kyT k) v))):=Ext.write (ZK ha)
       exact p3 σ _ ρ3 ex (rs3.ext ex rh)
      ·exact p3.elim
  | _=>exact p3.elim
 | _=>exact p3.elim
theorem Le {a b:Expr}{fa fb:EF}(hu:X.A.units + 1 < cLine)(ha:ME X a fa)(hb:ME X b fb)(hs:NQ b:=by intro _ _;rfl):ME X (.Subscript a b pos) (Il fa fb):=by
 refine me2 (a:=a) (b:=b) (g:=Er) (K3 hu ha hb hs) fun ρ H σd hd σ d k v w Q rs rv rw' p => ?_
 unfold Er at p
 cases d<;>try exact p.elim
 cases k<;>try exact p.elim
 rename_i n l
 simp only at p
 cases c1:dj l with
 | none=>rw [c1] at p;exact p.elim
 | some k =>
  rw [c1] at p
  obtain⟨b,rfl,hb⟩:=wG rw' c1
  simp only [RD] at rv
  obtain⟨a,ha,rfl⟩:=rv
  cases c:hd[n]? with
  | none=>rw [c] at p;exact p.elim
  | some cell =>
   rw [c] at p
   cases cell with
   | lst l=>exact p.elim
   | dct _=>exact p.elim
   | dcT m =>
    simp only at p
    obtain⟨kvs,q1,q2,q3⟩:=rs.hp.cel n _ a c ha
    rcases mZ k q2 q3 with ⟨e1,e2⟩|⟨d,v,e1,e2,rd⟩
    ·rw [e1] at p;exact p.elim
    ·rw [e1] at p
     exact⟨a,v,rfl,by have z:=lN.t q1 hb;rw [e2] at z;exact z,p.here rs rd⟩
end
end Fm
namespace Ts
open PySem PyProof.Rows
def jQ:Bool→Keyed→Array Keyed→Nat→Nat→Nat→StateT SortSt Sem (Option Nat):=sortPriv% PySem.Builtin.gallop
def BA (lf:Bool) (ky:Keyed) (xs:Array Keyed) (b i:Nat):StateT SortSt Sem (Option Bool):=do
 let z ← elem' xs (b + i)
 if lf then lt' z ky else return (← lt' ky z).map (!·)
def yP (lf:Bool) (ky:Keyed) (xs:Array Keyed) (b n x0 y0:Nat):StateT SortSt Sem (Option Nat):=do
 let mut x:=x0
 let mut y:=y0
 for _ in [0:n] do
  if x ≥ y then break
  let m:=x + (y - x) / 2
  let some e ← BA lf ky xs b m|return none
  if e then x:=m + 1 else y:=m
 return some y
theorem Lf (lf:Bool)(ky:Keyed)(xs:Array Keyed)(b n ht:Nat):jQ lf ky xs b n ht=(do
  let mut u:=0
  let mut v:=1
  let some rt ← BA lf ky xs b ht|return none
  if rt then
   let w:=n - ht
   for _ in [0:n] do
    if v ≥ w then break
    let some e ← BA lf ky xs b (ht + v)|return none
    if !e then break
    u:=v
    v:=2 * v + 1
   yP lf ky xs b n (ht + u + 1) (ht + min v w)
  else
   let w:=ht + 1
   for _ in [0:n] do
    if v ≥ w then break
    let some e ← BA lf ky xs b (ht - v)|return none
    if e then break
    u:=v
    v:=2 * v + 1
   yP lf ky xs b n (ht + 1 - min v w) (ht - u)):=rfl
section
variable {M:Model} {A:Around} {E:Value→Shared→Prop} {s:Shared}
structure Cmp (M:Model) (A:Around) (E:Value→Shared→Prop) (s:Shared) (kd:SortKind) (S:Keyed→Prop) (r:Keyed→Keyed→Bool):Prop where
 ask:∀ {x y:Keyed} {st:SortSt} {Q:Option Bool→SortSt→Prop},S x→S y→kindOf st=kd→Q (some (r x y)) st→wpS M A E s (lt' x y) Q st
 asym:∀ {x y:Keyed},r x y=true→r y x=false
 tr:∀ {x y z:Keyed},r y x=false→r z y=false→r z x=false
end
end Ts
namespace Ts
open PySem PyProof.Rows
section
variable {M:Model} {A:Around} {E:Value→Shared→Prop} {s:Shared} {kd:SortKind} {S:Keyed→Prop} {r:Keyed→Keyed→Bool}
theorem bE {xs:Array Keyed}{i:Nat}{x:Keyed}{st:SortSt}{Q:Keyed→SortSt→Prop}(e:xs[i]? = some x)(h:Q x st):wpS M A E s (elem' xs i) Q st:=by
 rw [elem'_eq,e];exact wpS_pure h
theorem Oi (C:Cmp M A E s kd S r){lf:Bool}{ky:Keyed}{xs:Array Keyed}{b i:Nat}{x:Keyed}{st:SortSt}{Q:Option Bool→SortSt→Prop}(hk:kindOf st=kd)(e:xs[b + i]? = some x)(Sx:S x)(Sk:S ky)(h:Q (some (if lf then r x ky else !r ky x)) st):wpS M A E s (BA lf ky xs b i) Q st:=by
 unfold BA
 refine wpS_bind (bE e ?_)
 cases lf with
 | true=>exact C.ask Sx Sk hk h
 | false=>exact wpS_bind (C.ask Sk Sx hk (wpS_pure h))
theorem wH (C:Cmp M A E s kd S r){lf:Bool}{ky:Keyed}{xs:Array Keyed}{b n ht:Nat}{st:SortSt}{Q:Option Nat→SortSt→Prop}(hk:kindOf st=kd)(p:Nat→Bool)(hp:∀ i,i < n → ∃ x,xs[b + i]? = some x∧S x∧p i=(if lf then r x ky else !r ky x))(Sk:S ky)(mono:∀ i j,i≤j→j < n→p j=true→p i=true)(hh:ht < n)
  (q:∀ k,k≤n→(∀ i,i < k→p i=true)→(∀ i,k≤i→i < n→p i=false)→Q (some k) st):wpS M A E s (jQ lf ky xs b n ht) Q st:=by
 have wa:∀ {i:Nat} {R:Option Bool→SortSt→Prop},i < n→R (some (p i)) st→wpS M A E s (BA lf ky xs b i) R st:=fun {i R} hi h=>by
  obtain⟨x,e,Sx,pe⟩:=hp i hi
  exact Oi C hk e Sx Sk (by rw [← pe];exact h)
 have bin:∀ x0 y0,x0≤y0→y0≤n→(∀ i,i < x0→p i=true)→(∀ i,y0≤i→i < n→p i=false) →
   wpS M A E s (yP lf ky xs b n x0 y0) Q st:=by
  intro x0 y0 h1 h2 h3 h4
  unfold yP
  refine wpS_bind (wpS_mono (wpS_forRange (I:=fun i c st'=>st'=st ∧ ∃ x y,c=(none,x,y)∧x≤y∧y≤n∧(∀ i,i < x→p i=true)∧(∀ i,y≤i→i < n→p i=false)∧y - x + i≤n)
   (Q:=fun c st'=>st'=st ∧ ∃ y,c=(none,y,y)∧y≤n∧(∀ i,i < y→p i=true)∧(∀ i,y≤i→i < n→p i=false)) ?step ?fin ⟨rfl,x0,y0,rfl,h1,h2,h3,h4,by omega⟩) fun c st' h => ?_)
  case fin =>
   rintro c st' ⟨rfl,x,y,rfl,g1,g2,g3,g4,g5⟩
   have:x=y:=by omega
   subst this
   exact⟨rfl,x,rfl,g2,g3,g4⟩
  case step =>
   rintro i c st' _ hi ⟨rfl,x,y,rfl,g1,g2,g3,g4,g5⟩
   dsimp only
   by_cases c:x ≥ y
   ·rw [if_pos c]
    have:x=y:=by omega
    subst this
    exact wpS_pure ⟨rfl,x,rfl,g2,g3,g4⟩
   ·rw [if_neg c]
    have hm:x + (y - x) / 2 < y:=by omega
    refine wpS_bind (wa (by omega) ?_)
    dsimp only
    cases pm:p (x + (y - x) / 2) with
    | true =>
     rw [if_pos rfl]
     exact wpS_pure ⟨rfl,_,_,rfl,by omega,g2,fun j hj=>mono j _ (by omega) (by omega) pm,g4,by omega⟩
    | false =>
     rw [if_neg Bool.false_ne_true]
     refine wpS_pure ⟨rfl,_,_,rfl,by omega,by omega,g3,fun j h5 h6 => ?_,by omega⟩
     cases pj:p j with
     | false=>rfl
     | true=>rw [mono _ j h5 h6 pj] at pm;cases pm
  ·obtain⟨rfl,y,rfl,g2,g3,g4⟩:=h
   exact wpS_pure (q y g2 g3 g4)
 rw [Lf]
 refine wpS_bind (wa hh ?_)
 dsimp only
 cases ph:p ht with
 | true =>
  rw [if_pos rfl]
  refine wpS_bind (wpS_mono (wpS_forRange (I:=fun i c st'=>st'=st ∧ ∃ u v,c=(none,u,v)∧u < v∧i < v∧ht + u < n∧p (ht + u)=true)
   (Q:=fun c st'=>st'=st ∧ ∃ u v,c=(none,u,v)∧u < v∧ht + u < n∧p (ht + u)=true∧(n - ht≤v∨ht + v < n∧p (ht + v)=false)) ?step ?fin ⟨rfl,0,1,rfl,by omega,by omega,by omega,ph⟩) fun c st' h => ?_)
  case fin =>
   rintro c st' ⟨rfl,u,v,rfl,g1,g2,g3,g4⟩
   exact⟨rfl,u,v,rfl,g1,g3,g4,.inl (by omega)⟩
  case step =>
   rintro i c st' _ hi ⟨rfl,u,v,rfl,g1,g2,g3,g4⟩
   dsimp only
   by_cases c:v ≥ n - ht
   ·rw [if_pos c]
    exact wpS_pure ⟨rfl,u,v,rfl,g1,g3,g4,.inl c⟩
   ·rw [if_neg c]
    refine wpS_bind (wa (by omega) ?_)
    dsimp only
    cases pm:p (ht + v) with
    | false =>
     rw [if_pos (by decide)]
     exact wpS_pure ⟨rfl,u,v,rfl,g1,g3,g4,.inr ⟨by omega,pm⟩⟩
    | true =>
     rw [if_neg (by decide)]
     exact wpS_pure ⟨rfl,_,_,rfl,by omega,by omega,by omega,pm⟩
  ·obtain⟨rfl,u,v,rfl,g1,g3,g4,g5⟩:=h
   dsimp only
   refine bin (ht + u + 1) (ht + min v (n - ht)) (by omega) (by omega) (fun i hi=>mono i _ (by omega) g3 g4) fun i h5 h6 => ?_
   rcases g5 with g5|⟨g5,g6⟩
   ·omega
   ·cases pj:p i with
    | false=>rfl
    | true=>rw [mono _ i (by omega) h6 pj] at g6;cases g6
 | false =>
  rw [if_neg Bool.false_ne_true]
  refine wpS_bind (wpS_mono (wpS_forRange (I:=fun i c st'=>st'=st ∧ ∃ u v,c=(none,u,v)∧u < v∧i < v∧u≤ht∧p (ht - u)=false)
   (Q:=fun c st'=>st'=st ∧ ∃ u v,c=(none,u,v)∧u < v∧u≤ht∧p (ht - u)=false∧(ht + 1≤v∨v≤ht∧p (ht - v)=true)) ?step2 ?fin2 ⟨rfl,0,1,rfl,by omega,by omega,by omega,ph⟩) fun c st' h => ?_)
  case fin2 =>
   rintro c st' ⟨rfl,u,v,rfl,g1,g2,g3,g4⟩
   exact⟨rfl,u,v,rfl,g1,g3,g4,.inl (by omega)⟩
  case step2 =>
   rintro i c st' _ hi ⟨rfl,u,v,rfl,g1,g2,g3,g4⟩
   dsimp only
   by_cases c:v ≥ ht + 1
   ·rw [if_pos c]
    exact wpS_pure ⟨rfl,u,v,rfl,g1,g3,g4,.inl c⟩
   ·rw [if_neg c]
    refine wpS_bind (wa (by omega) ?_)
    dsimp only
    cases pm:p (ht - v) with
    | true =>
     rw [if_pos rfl]
     exact wpS_pure ⟨rfl,u,v,rfl,g1,g3,g4,.inr ⟨by omega,pm⟩⟩
    | false =>
     rw [if_neg Bool.false_ne_true]
     exact wpS_pure ⟨rfl,_,_,rfl,by omega,by omega,by omega,pm⟩
  ·obtain⟨rfl,u,v,rfl,g1,g3,g4,g5⟩:=h
   dsimp only
   refine bin (ht + 1 - min v (ht + 1)) (ht - u) (by omega) (by omega) (fun i hi => ?_) fun i h5 h6 => ?_
   ·rcases g5 with g5|⟨g5,g6⟩
    ·omega
    ·exact mono i _ (by omega) (by omega) g6
   ·cases pj:p i with
    | false=>rfl
    | true=>rw [mono _ i (by omega) h6 pj] at g4;cases g4
end
end Ts
namespace Ts
open PySem PyProof.Rows
section
variable {r:Keyed→Keyed→Bool}
abbrev lE (r:Keyed→Keyed→Bool) (x y:Keyed):Prop:=r y x=false
def jy (r:Keyed→Keyed→Bool) (k x:Keyed):Bool := !(r x k || r k x)
structure Stb (r:Keyed→Keyed→Bool) (l m:List Keyed):Prop where
 pm:l.Perm m
 fl:∀ k,l.filter (jy r k)=m.filter (jy r k)
namespace Stb
variable {l m l' m' n:List Keyed}
theorem refl (l:List Keyed):Stb r l l:=⟨.refl _,fun _=>rfl⟩
theorem trans (h:Stb r l m)(g:Stb r m n):Stb r l n:=⟨h.pm.trans g.pm,fun k=>(h.fl k).trans (g.fl k)⟩
theorem symm (h:Stb r l m):Stb r m l:=⟨h.pm.symm,fun k=>(h.fl k).symm⟩
theorem append (h:Stb r l m)(g:Stb r l' m'):Stb r (l++l') (m++m'):=⟨h.pm.append g.pm,fun k=>by rw [List.filter_append,List.filter_append,h.fl,g.fl]⟩
theorem append_left (l:List Keyed)(g:Stb r l' m'):Stb r (l++l') (l++m'):=(refl l).append g
theorem append_right (l:List Keyed)(g:Stb r l' m'):Stb r (l'++l) (m'++l):=g.append (refl l)
theorem flip (tr:∀ {x y z:Keyed},r y x=false→r z y=false→r z x=false){A B:List Keyed}(h:∀ b∈B,∀ a∈A,r b a=true):Stb r (B++A) (A++B):=by
 refine⟨List.perm_append_comm,fun k => ?_⟩
 rw [List.filter_append,List.filter_append]
 cases hB:B.filter (jy r k) with
 | nil=>simp
 | cons b B' =>
  have mb:b∈B.filter (jy r k):=by rw [hB];exact .head _
  have hA:A.filter (jy r k)=[]:=by
   rw [List.filter_eq_nil_iff]
   intro a ma ea
   obtain⟨m1,e1⟩:=List.mem_filter.mp mb
   have z:=h b m1 a ma
   simp only [jy,Bool.not_eq_true',Bool.or_eq_false_iff] at ea e1
   rw [tr ea.2 e1.1] at z
   cases z
  rw [hA];simp
theorem turn {l m:List Keyed}(h:Stb (fun x y=>r y x) l m):Stb r l.reverse m.reverse:=by
 refine⟨(List.reverse_perm _).trans (h.pm.trans (List.reverse_perm _).symm),fun k => ?_⟩
 rw [List.filter_reverse,List.filter_reverse]
 congr 1
 have:=h.fl k
 have e:jy (fun x y=>r y x) k=jy r k:=by funext x;simp only [jy,Bool.or_comm]
 rwa [e] at this
theorem length_eq (h:Stb r l m):l.length=m.length:=h.pm.length_eq
theorem mem_iff (h:Stb r l m){x:Keyed}:x∈l ↔ x∈m:=h.pm.mem_iff
end Stb
structure MI (r:Keyed→Keyed→Bool) (a b out:Array Keyed) (i j:Nat):Prop where
 tr:∀ {x y z:Keyed},r y x=false→r z y=false→r z x=false
 as:∀ {x y:Keyed},r x y=true→r y x=false
 pm:Stb r out.toList (a.toList.take i++b.toList.take j)
 st:∀ y∈b.toList.take j,∀ x∈a.toList.drop i,r y x=true
 so:out.toList.Pairwise (lE r)
 lo:∀ x∈out.toList,(∀ y∈a.toList.drop i,lE r x y) ∧ ∀ y∈b.toList.drop j,lE r x y
 ha:i≤a.size
 hb:j≤b.size
variable {a b out:Array Keyed} {i j k:Nat}
theorem m4 {α : Type}(xs:Array α)(i k:Nat):(xs.extract i (i + k)).toList=(xs.toList.drop i).take k:=by
 rw [Array.toList_extract,List.extract_eq_take_drop]
 simp
theorem qt {α : Type}(l:List α)(i k:Nat):l.take (i + k)=l.take i++(l.drop i).take k:=by
 rw [List.take_add]
theorem MI.segA (m:MI r a b out i j)(sa:a.toList.Pairwise (lE r))(hk:i + k≤a.size)(h:∀ x∈(a.toList.drop i).take k,∀ y∈b.toList.drop j,lE r x y):MI r a b (out++a.extract i (i + k)) (i + k) j:=by
 have e:(out++a.extract i (i + k)).toList=out.toList++(a.toList.drop i).take k:=by rw [Array.toList_append,m4]
 have sd:(a.toList.drop i).Pairwise (lE r):=sa.sublist (List.drop_sublist _ _)
 have dd:(a.toList.drop i)=(a.toList.drop i).take k++a.toList.drop (i + k):=by rw [← List.drop_drop];exact (List.take_append_drop _ _).symm
 have sx:=sd
 rw [dd,List.pairwise_append] at sx
 refine⟨m.tr,m.as,?_,fun y hy x hx=>m.st y hy x (by rw [dd];exact List.mem_append_right _ hx),?_,fun x hx => ?_,hk,m.hb⟩
 ·rw [e,qt]
  refine (m.pm.append_right _).trans ?_
  rw [ZU,ZU]
  exact Stb.append_left _ (Stb.flip (r:=r) m.tr fun y hy x hx=>m.st y hy x (List.mem_of_mem_take hx))
 ·rw [e,List.pairwise_append]
  exact⟨m.so,sx.1,fun x hx y hy=>(m.lo x hx).1 y (List.mem_of_mem_take hy)⟩
 ·rw [e] at hx
  rcases List.mem_append.mp hx with hx|hx
  ·refine⟨fun y hy=>(m.lo x hx).1 y ?_,(m.lo x hx).2⟩
   rw [dd];exact List.mem_append_right _ hy
  ·exact⟨fun y hy=>sx.2.2 x hx y hy,h x hx⟩
theorem MI.segB (m:MI r a b out i j)(sb:b.toList.Pairwise (lE r))(hk:j + k≤b.size)(h:∀ x∈(b.toList.drop j).take k,∀ y∈a.toList.drop i,r x y=true):MI r a b (out++b.extract j (j + k)) i (j + k):=by
 have e:(out++b.extract j (j + k)).toList=out.toList++(b.toList.drop j).take k:=by rw [Array.toList_append,m4]
 have sd:(b.toList.drop j).Pairwise (lE r):=sb.sublist (List.drop_sublist _ _)
 have dd:(b.toList.drop j)=(b.toList.drop j).take k++b.toList.drop (j + k):=by rw [← List.drop_drop];exact (List.take_append_drop _ _).symm
 have sx:=sd
 rw [dd,List.pairwise_append] at sx
 refine⟨m.tr,m.as,?_,fun y hy x hx => ?_,?_,fun x hx => ?_,m.ha,hk⟩
 ·rw [e,qt,← ZU]
  exact m.pm.append_right _
 ·rw [qt] at hy
  rcases List.mem_append.mp hy with hy|hy
  ·exact m.st y hy x hx
  ·exact h y hy x hx
 ·rw [e,List.pairwise_append]
  exact⟨m.so,sx.1,fun x hx y hy=>(m.lo x hx).2 y (List.mem_of_mem_take hy)⟩
 ·rw [e] at hx
  rcases List.mem_append.mp hx with hx|hx
  ·refine⟨(m.lo x hx).1,fun y hy=>(m.lo x hx).2 y ?_⟩
   rw [dd];exact List.mem_append_right _ hy
  ·exact⟨fun y hy=>m.as (h x hx y hy),fun y hy=>sx.2.2 x hx y hy⟩
theorem zu {x:Keyed}(e:a[i]? = some x):out.push x=out++a.extract i (i + 1):=by
 obtain⟨h,rfl⟩:=Array.getElem?_eq_some_iff.mp e
 apply Array.ext'
 rw [Array.toList_push,Array.toList_append,m4]
 congr 1
 rw [List.drop_eq_getElem_cons (by simpa using h)]
 simp
theorem wI {x:Keyed}(tr:∀ {x y z:Keyed},r y x=false→r z y=false→r z x=false)(sa:a.toList.Pairwise (lE r)){u:Keyed}(e:a[i]? = some u)(h:lE r x u):∀ y∈a.toList.drop i,lE r x y:=by
 obtain⟨hi,rfl⟩:=Array.getElem?_eq_some_iff.mp e
 have d:a.toList.drop i=a[i] :: a.toList.drop (i + 1):=by rw [List.drop_eq_getElem_cons (by simpa using hi)];rfl
 have sd:(a.toList.drop i).Pairwise (lE r):=sa.sublist (List.drop_sublist _ _)
 rw [d] at sd ⊢
 intro y hy
 rcases List.mem_cons.mp hy with rfl|hy
 ·exact h
 ·exact tr h ((List.pairwise_cons.mp sd).1 y hy)
theorem wJ {x:Keyed}(tr:∀ {x y z:Keyed},r y x=false→r z y=false→r z x=false)(sa:a.toList.Pairwise (lE r)){u:Keyed}(e:a[i]? = some u)(h:r x u=true):∀ y∈a.toList.drop i,r x y=true:=by
 obtain⟨hi,rfl⟩:=Array.getElem?_eq_some_iff.mp e
 have d:a.toList.drop i=a[i] :: a.toList.drop (i + 1):=by rw [List.drop_eq_getElem_cons (by simpa using hi)];rfl
 have sd:(a.toList.drop i).Pairwise (lE r):=sa.sublist (List.drop_sublist _ _)
 rw [d] at sd ⊢
 intro y hy
 rcases List.mem_cons.mp hy with rfl|hy
 ·exact h
 ·cases w:r x y with
  | true=>rfl
  | false=>rw [tr ((List.pairwise_cons.mp sd).1 y hy) w] at h;cases h
theorem Io {x:Keyed}(e:a[i]? = some x):(a.toList.drop i).take 1=[x]:=by
 have e2:a.toList[i]? = some x:=by rw [Array.getElem?_toList];exact e
 obtain⟨h',e3⟩:=List.getElem?_eq_some_iff.mp e2
 rw [List.drop_eq_getElem_cons h',e3];rfl
theorem MI.pushA {x:Keyed}(m:MI r a b out i j)(sa:a.toList.Pairwise (lE r))(e:a[i]? = some x)(h:∀ y∈b.toList.drop j,lE r x y):MI r a b (out.push x) (i + 1) j:=by
 have hi:=(Array.getElem?_eq_some_iff.mp e).1
 rw [zu e]
 refine m.segA sa hi fun z hz => ?_
 have:(a.toList.drop i).take 1=[x]:=by
  have e2:a.toList[i]? = some x:=by rw [Array.getElem?_toList];exact e
  obtain⟨h',e3⟩:=List.getElem?_eq_some_iff.mp e2
  rw [List.drop_eq_getElem_cons h',e3];rfl
 rw [this,List.mem_singleton] at hz
 subst hz
 exact h
theorem MI.pushB {x:Keyed}(m:MI r a b out i j)(sb:b.toList.Pairwise (lE r))(e:b[j]? = some x)(h:∀ y∈a.toList.drop i,r x y=true):MI r a b (out.push x) i (j + 1):=by
 have hi:=(Array.getElem?_eq_some_iff.mp e).1
 rw [zu e]
 refine m.segB sb hi fun z hz => ?_
 rw [Io e,List.mem_singleton] at hz
 subst hz
 exact h
theorem MI.endA (m:MI r a b out i j)(sa:a.toList.Pairwise (lE r))(h:j=b.size):Stb r (out++a.extract i a.size).toList (a.toList++b.toList)∧(out++a.extract i a.size).toList.Pairwise (lE r):=by
 have hk:i + (a.size - i)=a.size:=by have:=m.ha;omega
 have z:b.toList.drop j=[]:=by rw [h];simp
 have q:=m.segA (k:=a.size - i) sa (by omega) fun x _ y hy=>by rw [z] at hy;cases hy
 rw [hk] at q
 have p:=q.pm
 rw [show a.toList.take a.size=a.toList from List.take_of_length_le (by simp),h,show b.toList.take b.size=b.toList from List.take_of_length_le (by simp)] at p
 exact⟨p,q.so⟩
theorem MI.endB (m:MI r a b out i j)(sb:b.toList.Pairwise (lE r))(h:i=a.size):Stb r (out++b.extract j b.size).toList (a.toList++b.toList)∧(out++b.extract j b.size).toList.Pairwise (lE r):=by
 have hk:j + (b.size - j)=b.size:=by have:=m.hb;omega
 have z:a.toList.drop i=[]:=by rw [h];simp
 have q:=m.segB (k:=b.size - j) sb (by omega) fun x _ y hy=>by rw [z] at hy;cases hy
 rw [hk] at q
 have p:=q.pm
 rw [show b.toList.take b.size=b.toList from List.take_of_length_le (by simp),h,show a.toList.take a.size=a.toList from List.take_of_length_le (by simp)] at p
 exact⟨p,q.so⟩
theorem MI.endBA (m:MI r a b out i j)(sa:a.toList.Pairwise (lE r))(sb:b.toList.Pairwise (lE r))(h:∀ x∈b.toList.drop j,∀ y∈a.toList.drop i,r x y=true) :
  Stb r (out++b.extract j b.size++a.extract i a.size).toList (a.toList++b.toList)∧(out++b.extract j b.size++a.extract i a.size).toList.Pairwise (lE r):=by
 have hk:j + (b.size - j)=b.size:=by have:=m.hb;omega
 have q:=m.segB (k:=b.size - j) sb (by omega) fun x hx=>h x (List.mem_of_mem_take hx)
 rw [hk] at q
 exact q.endA sa rfl
end
end Ts
namespace Ts
open PySem PyProof.Rows
def mLo:Array Keyed→Array Keyed→StateT SortSt Sem (Array Keyed):=sortPriv% PySem.Builtin.mergeLo
abbrev cO (st:SortSt) (g:Nat):SortSt:=SortSt.mk' (kindOf st) (arrOf st) (pendingOf st) g (failedOf st)
def dQ (a b o:Array Keyed) (i j:Nat):Array Keyed:=o++a.extract i a.size++b.extract j b.size
def eL (a b o:Array Keyed) (i j:Nat):Array Keyed:=o++b.extract j b.size++a.extract i a.size
abbrev C1:=Option (Array Keyed) × Array Keyed × Nat × Nat × Nat
abbrev C2:=Option (Array Keyed) × Array Keyed × Nat × Nat × Nat × Nat
abbrev C3:=Option (Array Keyed) × Array Keyed × Nat × Nat × Nat × Nat × Nat
abbrev SM:=StateT SortSt Sem
def lo1 (a b:Array Keyed) (g:Nat) (o:Array Keyed) (i j u v:Nat):SM (ForInStep C2):=do
 let x ← elem' b j
 let y ← elem' a i
 let some w ← lt' x y|pure (.done (some (dQ a b o i j),o,i,j,u,v))
 if w then do
  let x ← elem' b j
  if j + 1 == b.size then pure (.done (some (dQ a b (o.push x) i (j + 1)),o.push x,i,j + 1,0,v + 1))
  else if v + 1 ≥ g then pure (.done (none,o.push x,i,j + 1,0,v + 1)) else pure (.yield (none,o.push x,i,j + 1,0,v + 1))
 else do
  let y ← elem' a i
  if i + 1 + 1 == a.size then pure (.done (some (eL a b (o.push y) (i + 1) j),o.push y,i + 1,j,u + 1,0))
  else if u + 1 ≥ g then pure (.done (none,o.push y,i + 1,j,u + 1,0)) else pure (.yield (none,o.push y,i + 1,j,u + 1,0))
def lo4 (a b o:Array Keyed) (i j g u v:Nat):SM (ForInStep C3):=do
 let y ← elem' a i
 if i + 1 + 1 == a.size then pure (.done (some (eL a b (o.push y) (i + 1) j),o.push y,i + 1,j,g,u,v))
 else if (decide (u < 7) && decide (v < 7))=true then pure (.done (none,o.push y,i + 1,j,g,u,v)) else pure (.yield (none,o.push y,i + 1,j,g,u,v))
def lo3 (a b o:Array Keyed) (i j g u v:Nat):SM (ForInStep C3):=do
 let x ← elem' b j
 if j + 1 == b.size then pure (.done (some (dQ a b (o.push x) i (j + 1)),o.push x,i,j + 1,g,u,v))
 else do
  let y ← elem' a i
  let some k ← jQ true y b (j + 1) (b.size - (j + 1)) 0|pure (.done (some (dQ a b (o.push x) i (j + 1)),o.push x,i,j + 1,g,u,v))
  if k > 0 then
   if j + 1 + k == b.size then pure (.done (some (dQ a b (o.push x++b.extract (j + 1) (j + 1 + k)) i (j + 1 + k)),o.push x++b.extract (j + 1) (j + 1 + k),i,j + 1 + k,g,u,k))
   else lo4 a b (o.push x++b.extract (j + 1) (j + 1 + k)) i (j + 1 + k) g u k
  else lo4 a b (o.push x) i (j + 1) g u k
def lo2 (a b o:Array Keyed) (i j u v g:Nat):SM (ForInStep C3):=do
 modify (cO · g)
 let x ← elem' b j
 let some k ← jQ false x a i (a.size - i) 0|pure (.done (some (dQ a b o i j),o,i,j,g,u,v))
 if k > 0 then
  if i + k + 1 == a.size then pure (.done (some (eL a b (o++a.extract i (i + k)) (i + k) j),o++a.extract i (i + k),i + k,j,g,k,v))
  else if i + k == a.size then pure (.done (some (dQ a b (o++a.extract i (i + k)) (i + k) j),o++a.extract i (i + k),i + k,j,g,k,v))
  else lo3 a b (o++a.extract i (i + k)) (i + k) j g k v
 else lo3 a b o i j g k v
section
variable {M:Model} {A:Around} {E:Value→Shared→Prop} {s:Shared} {kd:SortKind} {S:Keyed→Prop} {r:Keyed→Keyed→Bool}
def Mgd (r:Keyed→Keyed→Bool) (a b o:Array Keyed):Prop:=Stb r o.toList (a.toList++b.toList)∧o.toList.Pairwise (lE r)
structure Two (M:Model) (A:Around) (E:Value→Shared→Prop) (s:Shared) (kd:SortKind) (S:Keyed→Prop) (r:Keyed→Keyed→Bool) (a b:Array Keyed):Prop where
 C:Cmp M A E s kd S r
 Sa:∀ x∈a.toList,S x
 Sb:∀ x∈b.toList,S x
 sa:a.toList.Pairwise (lE r)
 sb:b.toList.Pairwise (lE r)
structure LI (r:Keyed→Keyed→Bool) (a b o:Array Keyed) (i j:Nat):Prop where
 m:MI r a b o i j
 hi:i + 1 < a.size
 hj:j < b.size
variable {a b o:Array Keyed} {i j g u v:Nat} {st:SortSt}
theorem lQ {α : Type}(xs:Array α){i:Nat}(h:i=xs.size):xs.extract i xs.size = #[]:=by subst h;simp
theorem lR (T:Two M A E s kd S r a b)(m:MI r a b o i j)(h:j=b.size∨i=a.size):Mgd r a b (dQ a b o i j):=by
 unfold dQ
 rcases h with h|h
 ·rw [lQ b h,Array.append_empty];exact m.endA T.sa h
 ·rw [lQ a h,Array.append_empty];exact m.endB T.sb h
theorem hV {α : Type}{xs:Array α}{i:Nat}(h:i < xs.size):∃ x,xs[i]? = some x∧x∈xs.toList:=⟨xs[i],Array.getElem?_eq_getElem h,by simp⟩
theorem wK (T:Two M A E s kd S r a b)(top:∀ x∈b.toList,∀ y∈a.toList.drop (a.size - 1),r x y=true)(m:MI r a b o i j)(h:i + 1=a.size):Mgd r a b (eL a b o i j):=by
 unfold eL
 refine m.endBA T.sa T.sb fun x hx y hy=>top x (List.mem_of_mem_drop hx) y ?_
 rw [show a.size - 1=i by omega];exact hy
theorem Oj (T:Two M A E s kd S r a b)(top:∀ x∈b.toList,∀ y∈a.toList.drop (a.size - 1),r x y=true)(L:LI r a b o i j)(hk:kindOf st=kd){Q:ForInStep C2→SortSt→Prop}
  (q1:∀ x o' i' j' u' v',Mgd r a b x→Q (.done (some x,o',i',j',u',v')) st) (q2:∀ o' i' j' u' v',LI r a b o' i' j'→o.size < o'.size→Q (.done (none,o',i',j',u',v')) st) (q3:∀ o' i' j' u' v',LI r a b o' i' j'→o.size < o'.size→Q (.yield (none,o',i',j',u',v')) st) :
  wpS M A E s (lo1 a b g o i j u v) Q st:=by
 have ⟨m,hi,hj⟩:=L
 obtain⟨x,ex,mx⟩:=hV hj
 obtain⟨y,ey,my⟩:=hV (show i < a.size by omega)
 unfold lo1
 refine wpS_bind (bE ex (wpS_bind (bE ey (wpS_bind (T.C.ask (T.Sb x mx) (T.Sa y my) hk ?_)))))
 dsimp only
 cases w:r x y with
 | true =>
  rw [if_pos rfl]
  refine wpS_bind (bE ex ?_)
  have m2:=m.pushB T.sb ex (wJ T.C.tr T.sa ey w)
  have z:o.size < (o.push x).size:=by simp
  by_cases h:j + 1=b.size
  ·rw [if_pos (by simpa using h)]
   exact wpS_pure (q1 _ _ _ _ _ _ (lR T m2 (.inl h)))
  ·rw [if_neg (by simpa using h)]
   have L2:LI r a b (o.push x) i (j + 1):=⟨m2,hi,by omega⟩
   split
   ·exact wpS_pure (q2 _ _ _ _ _ L2 z)
   ·exact wpS_pure (q3 _ _ _ _ _ L2 z)
 | false =>
  rw [if_neg Bool.false_ne_true]
  refine wpS_bind (bE ey ?_)
  have m2:=m.pushA T.sa ey (wI T.C.tr T.sb ex w)
  have z:o.size < (o.push y).size:=by simp
  by_cases h:i + 1 + 1=a.size
  ·rw [if_pos (by simpa using h)]
   exact wpS_pure (q1 _ _ _ _ _ _ (wK T top m2 h))
  ·rw [if_neg (by simpa using h)]
   have L2:LI r a b (o.push y) (i + 1) j:=⟨m2,by omega,hj⟩
   split
   ·exact wpS_pure (q2 _ _ _ _ _ L2 z)
   ·exact wpS_pure (q3 _ _ _ _ _ L2 z)
theorem vf (C:Cmp M A E s kd S r){xs:Array Keyed}{x:Keyed}{i ht:Nat}{Q:Option Nat→SortSt→Prop}(hk:kindOf st=kd)(Sx:S x)(Sa:∀ x∈xs.toList,S x)(sa:xs.toList.Pairwise (lE r)){n:Nat}(hn:i + n≤xs.size)(hh:ht < n)
  (q:∀ k,k≤n→(∀ y∈(xs.toList.drop i).take k,lE r y x)→(∀ y∈((xs.toList.drop i).take n).drop k,r x y=true)→Q (some k) st):wpS M A E s (jQ false x xs i n ht) Q st:=by
 have ix:∀ d,d < n→i + d < xs.size:=fun d hd=>by omega
 have gd:∀ d,(hd:d < n)→xs.toList[i + d]? = some (xs[i + d]'(ix d hd)):=fun d hd=>by rw [Array.getElem?_toList];exact Array.getElem?_eq_getElem (ix d hd)
 have le:∀ d e,(h:d≤e)→(he:e < n)→lE r (xs[i + d]'(ix d (by omega))) (xs[i + e]'(ix e he))∨d=e:=fun d e h he=>by
  by_cases z:d=e
  ·exact .inr z
  ·have:=List.pairwise_iff_getElem.mp sa (i + d) (i + e) (by simp;have:=ix d (by omega);omega) (by simp;have:=ix e he;omega) (by omega)
   exact .inl (by simpa using this)
 refine wH C hk (fun d=>if h:d < n then !r x (xs[i + d]'(ix d h)) else false) (fun d hd=>⟨xs[i + d]'(ix d hd),Array.getElem?_eq_getElem (ix d hd),Sa _ (by simp),by simp [hd]⟩) Sx (fun d e h he pe => ?_) hh fun k hk' p1 p2=>q k hk' (fun y hy => ?_) fun y hy => ?_
 ·have hd:d < n:=by omega
  simp only [he,dif_pos] at pe
  simp only [hd,dif_pos]
  rcases le d e h he with z|z
  ·have e1:r x (xs[i + e]'(ix e he))=false:=by simpa using pe
   have:=C.tr z e1
   simp [this]
  ·subst z;exact pe
 ·obtain⟨d,hd,e⟩:=List.mem_take_iff_getElem.mp hy
  have hd':d < k:=by omega
  have hn':d < n:=by omega
  have:=p1 d hd'
  simp only [hn',dif_pos] at this
  have e2:y=xs[i + d]'(ix d hn'):=by rw [← e];simp
  rw [e2]
  simpa using this
 ·obtain⟨d,hd,e⟩:=List.mem_drop_iff_getElem.mp hy
  have hn':d + k < n:=by simp at hd;omega
  have:=p2 (d + k) (by omega) hn'
  simp only [hn',dif_pos] at this
  have e2:y=xs[i + (d + k)]'(ix _ hn'):=by rw [← e];simp;congr 1;omega
  rw [e2]
  simpa using this
theorem zw (C:Cmp M A E s kd S r){xs:Array Keyed}{x:Keyed}{i ht:Nat}{Q:Option Nat→SortSt→Prop}(hk:kindOf st=kd)(Sx:S x)(Sa:∀ x∈xs.toList,S x)(sa:xs.toList.Pairwise (lE r)){n:Nat}(hn:i + n≤xs.size)(hh:ht < n)
  (q:∀ k,k≤n→(∀ y∈(xs.toList.drop i).take k,r y x=true)→(∀ y∈((xs.toList.drop i).take n).drop k,lE r x y)→Q (some k) st):wpS M A E s (jQ true x xs i n ht) Q st:=by
 have ix:∀ d,d < n→i + d < xs.size:=fun d hd=>by omega
 have le:∀ d e,(h:d≤e)→(he:e < n)→lE r (xs[i + d]'(ix d (by omega))) (xs[i + e]'(ix e he))∨d=e:=fun d e h he=>by
  by_cases z:d=e
  ·exact .inr z
  ·have:=List.pairwise_iff_getElem.mp sa (i + d) (i + e) (by simp;have:=ix d (by omega);omega) (by simp;have:=ix e he;omega) (by omega)
   exact .inl (by simpa using this)
 refine wH C hk (fun d=>if h:d < n then r (xs[i + d]'(ix d h)) x else false) (fun d hd=>⟨xs[i + d]'(ix d hd),Array.getElem?_eq_getElem (ix d hd),Sa _ (by simp),by simp [hd]⟩) Sx (fun d e h he pe => ?_) hh fun k hk' p1 p2=>q k hk' (fun y hy => ?_) fun y hy => ?_
 ·have hd:d < n:=by omega
  simp only [he,dif_pos] at pe
  simp only [hd,dif_pos]
  rcases le d e h he with z|z
  ·cases w:r (xs[i + d]'(ix d hd)) x with
   | true=>rfl
   | false =>
    have:=C.tr w z
    rw [this] at pe;cases pe
  ·subst z;exact pe
 ·obtain⟨d,hd,e⟩:=List.mem_take_iff_getElem.mp hy
  have hd':d < k:=by omega
  have hn':d < n:=by omega
  have:=p1 d hd'
  simp only [hn',dif_pos] at this
  have e2:y=xs[i + d]'(ix d hn'):=by rw [← e];simp
  rw [e2]
  exact this
 ·obtain⟨d,hd,e⟩:=List.mem_drop_iff_getElem.mp hy
  have hn':d + k < n:=by simp at hd;omega
  have:=p2 (d + k) (by omega) hn'
  simp only [hn',dif_pos] at this
  have e2:y=xs[i + (d + k)]'(ix _ hn'):=by rw [← e];simp;congr 1;omega
  rw [e2]
  exact this
end
end Ts
namespace Ts
open PySem PyProof.Rows
section
variable {M:Model} {A:Around} {E:Value→Shared→Prop} {s:Shared} {kd:SortKind} {S:Keyed→Prop} {r:Keyed→Keyed→Bool} {a b o:Array Keyed} {i j g u v:Nat} {st:SortSt}
structure Ip (r:Keyed→Keyed→Bool) (a b:Array Keyed) (n:Nat) (Q:ForInStep C3→SortSt→Prop) (st:SortSt):Prop where
 q1:∀ x o' i' j' g' u' v',Mgd r a b x→Q (.done (some x,o',i',j',g',u',v')) st
 q2:∀ o' i' j' g' u' v',LI r a b o' i' j'→n≤o'.size→Q (.done (none,o',i',j',g',u',v')) st
 q3:∀ o' i' j' g' u' v',LI r a b o' i' j'→n≤o'.size→Q (.yield (none,o',i',j',g',u',v')) st
theorem Iq (T:Two M A E s kd S r a b)(top:∀ x∈b.toList,∀ y∈a.toList.drop (a.size - 1),r x y=true)(m:MI r a b o i j)(hi:i + 1 < a.size)(hj:j < b.size){y:Keyed}(ey:a[i]? = some y)(h:∀ z∈b.toList.drop j,lE r y z){n:Nat}(hn:n≤o.size){Q:ForInStep C3→SortSt→Prop}(q:Ip r a b n Q st):wpS M A E s (lo4 a b o i j g u v) Q st:=by
 unfold lo4
 refine wpS_bind (bE ey ?_)
 have m2:=m.pushA T.sa ey h
 have z:n≤(o.push y).size:=by simp;omega
 by_cases c:i + 1 + 1=a.size
 ·rw [if_pos (by simpa using c)]
  exact wpS_pure (q.q1 _ _ _ _ _ _ _ (wK T top m2 c))
 ·rw [if_neg (by simpa using c)]
  have L2:LI r a b (o.push y) (i + 1) j:=⟨m2,by omega,hj⟩
  split
  ·exact wpS_pure (q.q2 _ _ _ _ _ _ L2 z)
  ·exact wpS_pure (q.q3 _ _ _ _ _ _ L2 z)
theorem Ir (T:Two M A E s kd S r a b)(top:∀ x∈b.toList,∀ y∈a.toList.drop (a.size - 1),r x y=true)(m:MI r a b o i j)(hi:i + 1 < a.size)(hj:j < b.size)(hk:kindOf st=kd){x:Keyed}(ex:b[j]? = some x)(h:∀ z∈a.toList.drop i,r x z=true){n:Nat}(hn:n≤o.size){Q:ForInStep C3→SortSt→Prop}(q:Ip r a b n Q st):wpS M A E s (lo3 a b o i j g u v) Q st:=by
 obtain⟨y,ey,my⟩:=hV (show i < a.size by omega)
 unfold lo3
 refine wpS_bind (bE ex ?_)
 have m2:=m.pushB T.sb ex h
 by_cases c:j + 1=b.size
 ·rw [if_pos (by simpa using c)]
  exact wpS_pure (q.q1 _ _ _ _ _ _ _ (lR T m2 (.inl c)))
 ·rw [if_neg (by simpa using c)]
  refine wpS_bind (bE ey (wpS_bind (zw T.C hk (T.Sa y my) T.Sb T.sb (n:=b.size - (j + 1)) (by omega) (by omega) fun k hk' p1 p2 => ?_)))
  dsimp only
  have p2:∀ z∈b.toList.drop (j + 1 + k),lE r y z:=fun z hz=>p2 z (by
   rw [List.take_of_length_le (by simp),List.drop_drop];exact hz)
  by_cases c2:k > 0
  ·rw [if_pos c2]
   have m3:=m2.segB (k:=k) T.sb (by omega) fun z hz=>wJ T.C.tr T.sa ey (p1 z hz)
   by_cases c3:j + 1 + k=b.size
   ·rw [if_pos (by simpa using c3)]
    exact wpS_pure (q.q1 _ _ _ _ _ _ _ (lR T m3 (.inl c3)))
   ·rw [if_neg (by simpa using c3)]
    exact Iq T top m3 hi (by omega) ey p2 (by simp;omega) q
  ·rw [if_neg c2]
   have k0:k=0:=by omega
   subst k0
   exact Iq T top m2 hi (by omega) ey p2 (by simp;omega) q
theorem Iu (T:Two M A E s kd S r a b)(top:∀ x∈b.toList,∀ y∈a.toList.drop (a.size - 1),r x y=true)(L:LI r a b o i j)(hk:kindOf st=kd){n:Nat}(hn:n≤o.size){Q:ForInStep C3→SortSt→Prop}(q:Ip r a b n Q (cO st g)):wpS M A E s (lo2 a b o i j u v g) Q st:=by
 have ⟨m,hi,hj⟩:=L
 obtain⟨x,ex,mx⟩:=hV hj
 unfold lo2
 refine wpS_bind (wpS_modify (wpS_bind (bE ex (wpS_bind (vf T.C (st:=cO st g) hk (T.Sb x mx) T.Sa T.sa (n:=a.size - i) (by omega) (by omega) fun k hk' p1 p2 => ?_)))))
 dsimp only
 have p2:∀ z∈a.toList.drop (i + k),r x z=true:=fun z hz=>p2 z (by
  rw [List.take_of_length_le (by simp),List.drop_drop];exact hz)
 by_cases c2:k > 0
 ·rw [if_pos c2]
  have m2:=m.segA (k:=k) T.sa (by omega) fun z hz=>wI T.C.tr T.sb ex (p1 z hz)
  by_cases c3:i + k + 1=a.size
  ·rw [if_pos (by simpa using c3)]
   exact wpS_pure (q.q1 _ _ _ _ _ _ _ (wK T top m2 c3))
  ·rw [if_neg (by simpa using c3)]
   by_cases c4:i + k=a.size
   ·rw [if_pos (by simpa using c4)]
    exact wpS_pure (q.q1 _ _ _ _ _ _ _ (lR T m2 (.inr c4)))
   ·rw [if_neg (by simpa using c4)]
    exact Ir (st:=cO st g) (n:=n) T top m2 (by omega) hj hk ex p2 (by simp;omega) q
 ·rw [if_neg c2]
  have k0:k=0:=by omega
  subst k0
  exact Ir (st:=cO st g) T top m hi hj hk ex p2 hn q
theorem MI.len (m:MI r a b o i j):o.size=i + j:=by
 have:=m.pm.length_eq
 have h1:=m.ha
 have h2:=m.hb
 simp at this
 omega
theorem Ol (a b:Array Keyed):mLo a b=(do
  rule "list.sort.merge-lo"
  let t:=a.size + b.size
  let mut o:Array Keyed := #[← elem' b 0]
  let mut i:=0
  let mut j:=1
  if j == b.size then return dQ a b o i j
  if i + 1 == a.size then return eL a b o i j
  let mut g:=gallopOf (← get)
  for _ in [0:t] do
   let mut u:=0
   let mut v:=0
   for _ in [0:t] do
    let some w ← lt' (← elem' b j) (← elem' a i)|return dQ a b o i j
    if w then
     o:=o.push (← elem' b j);j:=j + 1;v:=v + 1;u:=0
     if j == b.size then return dQ a b o i j
     if v ≥ g then break
    else
     o:=o.push (← elem' a i);i:=i + 1;u:=u + 1;v:=0
     if i + 1 == a.size then return eL a b o i j
     if u ≥ g then break
   rule "list.sort.gallop"
   g:=g + 1
   for _ in [0:t] do
    if g > 1 then g:=g - 1
    modify (cO · g)
    let some k ← jQ false (← elem' b j) a i (a.size - i) 0|return dQ a b o i j
    u:=k
    if k > 0 then
     o:=o++a.extract i (i + k);i:=i + k
     if i + 1 == a.size then return eL a b o i j
     if i == a.size then return dQ a b o i j
    o:=o.push (← elem' b j);j:=j + 1
    if j == b.size then return dQ a b o i j
    let some k ← jQ true (← elem' a i) b j (b.size - j) 0|return dQ a b o i j
    v:=k
    if k > 0 then
     o:=o++b.extract j (j + k);j:=j + k
     if j == b.size then return dQ a b o i j
    o:=o.push (← elem' a i);i:=i + 1
    if i + 1 == a.size then return eL a b o i j
    if u < 7 && v < 7 then break
   g:=g + 1
   modify (cO · g)
  unsupported "internal:list.sort.merge-bound"):=rfl
theorem iu {σ:Type}{x:String}{st : σ}{Q:Unit → σ → Prop}(h:Q () st):wpS M A E s (liftM (rule x):StateT σ Sem Unit) Q st:=wpS_lift (wpAny_rule ⟨rfl,h⟩)
theorem dg {σ α : Type}{c:Prop} [Decidable c] {x y:StateT σ Sem α}{st : σ}{Q : α → σ → Prop}(h1:c→wpS M A E s x Q st)(h2 : ¬ c→wpS M A E s y Q st):wpS M A E s (if c then x else y) Q st:=by
 by_cases h:c
 ·rw [if_pos h];exact h1 h
 ·rw [if_neg h];exact h2 h
theorem Om (T:Two M A E s kd S r a b)(top:∀ x∈b.toList,∀ y∈a.toList.drop (a.size - 1),r x y=true)(h0:∀ x,b[0]? = some x → ∀ y∈a.toList,r x y=true)(za:0 < a.size)(zb:0 < b.size)(hk:kindOf st=kd){Q:Array Keyed→SortSt→Prop}(q:∀ x gg,Mgd r a b x→Q x (cO st gg)):wpS M A E s (mLo a b) Q st:=by
 obtain⟨x,ex,mx⟩:=hV zb
 have m0:MI r a b #[x] 0 1:=by
  have mm:MI r a b #[] 0 0:=⟨T.C.tr,T.C.asym,by simpa using Stb.refl (r:=r) [],by simp,by simp,fun _ h=>by simp at h,Nat.zero_le _,Nat.zero_le _⟩
  exact mm.pushB T.sb ex (by simpa using h0 x ex)
 have st0:st=cO st (gallopOf st):=by cases st;rfl
 rw [Ol]
 refine wpS_bind (iu (wpS_bind (bE ex (dg (fun c => ?_) fun c=>dg (fun c2 => ?_) fun c2 => ?_))))
 ·refine wpS_pure ?_
  rw [st0]
  exact q _ _ (lR T m0 (.inl (by simpa using c)))
 ·refine wpS_pure ?_
  rw [st0]
  exact q _ _ (wK T top m0 (by simpa using c2))
 ·have L0:LI r a b #[x] 0 1:=⟨m0,by simp at c2;omega,by simp at c;omega⟩
  refine wpS_bind (wpS_get (wpS_bind (wpS_mono (wpS_forRange
   (I:=fun n c st'=>(∃ gg,st'=cO st gg) ∧ ∃ o i j g,c=(none,o,i,j,g)∧LI r a b o i j∧n + 1≤o.size)
   (Q:=fun c st'=>(∃ gg,st'=cO st gg) ∧ ∃ x o i j g,c=(some x,o,i,j,g)∧Mgd r a b x) ?step ?fin ⟨⟨_,st0⟩,#[x],0,1,gallopOf st,rfl,L0,by simp⟩) fun c st' h => ?_)))
  case fin =>
   rintro c st' ⟨_,o,i,j,g,_,L,z⟩
   have:=L.m.len
   have:=L.hi
   have:=L.hj
   omega
  case step =>
   rintro n c st' _ hn ⟨⟨gg,rfl⟩,o,i,j,g,rfl,L,z⟩
   refine wpS_bind (wpS_mono (wpS_forRange
    (I:=fun n' c st'=>st'=cO st gg ∧ ∃ o' i j u v,c=(none,o',i,j,u,v)∧LI r a b o' i j∧o.size + n'≤o'.size)
    (Q:=fun c st'=>st'=cO st gg∧((∃ x o' i j u v,c=(some x,o',i,j,u,v)∧Mgd r a b x) ∨ ∃ o' i j u v,c=(none,o',i,j,u,v)∧LI r a b o' i j∧o.size < o'.size)) ?s1 ?f1 ⟨rfl,o,i,j,0,0,rfl,L,by simp⟩) fun c st' h => ?_)
   case f1 =>
    rintro c st' ⟨rfl,o',i,j,u,v,rfl,L',z'⟩
    exact⟨rfl,.inr ⟨o',i,j,u,v,rfl,L',by omega⟩⟩
   case s1 =>
    rintro n' c st' _ _ ⟨rfl,o',i,j,u,v,rfl,L',z'⟩
    show wpS M A E s (lo1 a b g o' i j u v) _ _
    exact Oj (st:=cO st gg) T top L' hk (fun x o2 i2 j2 u2 v2 R=>⟨rfl,.inl ⟨x,o2,i2,j2,u2,v2,rfl,R⟩⟩) (fun o2 i2 j2 u2 v2 L2 z2=>⟨rfl,.inr ⟨o2,i2,j2,u2,v2,rfl,L2,by omega⟩⟩) fun o2 i2 j2 u2 v2 L2 z2=>⟨rfl,o2,i2,j2,u2,v2,rfl,L2,by omega⟩
   ·obtain⟨rfl,⟨x,o',i,j,u,v,rfl,R⟩|⟨o',i,j,u,v,rfl,L',z'⟩⟩:=h
    ·exact wpS_pure ⟨⟨gg,rfl⟩,x,o',i,j,g,rfl,R⟩
    ·refine wpS_bind (iu (wpS_bind (wpS_mono (wpS_forRange
      (I:=fun _ c st'=>(∃ gg,st'=cO st gg) ∧ ∃ o2 i j g u v,c=(none,o2,i,j,g,u,v)∧LI r a b o2 i j∧n + 2≤o2.size)
      (Q:=fun c st'=>(∃ gg,st'=cO st gg)∧((∃ x o2 i j g u v,c=(some x,o2,i,j,g,u,v)∧Mgd r a b x) ∨ ∃ o2 i j g u v,c=(none,o2,i,j,g,u,v)∧LI r a b o2 i j∧n + 2≤o2.size)) ?s2 ?f2 ⟨⟨gg,rfl⟩,o',i,j,g + 1,u,v,rfl,L',by omega⟩) fun c st' h => ?_)))
     case f2 =>
      rintro c st' ⟨e,o2,i,j,g,u,v,rfl,L2,z2⟩
      exact⟨e,.inr ⟨o2,i,j,g,u,v,rfl,L2,z2⟩⟩
     case s2 =>
      rintro n' c st' _ _ ⟨⟨gg,rfl⟩,o2,i,j,g,u,v,rfl,L2,z2⟩
      show wpS M A E s (if g > 1 then lo2 a b o2 i j u v (g - 1) else lo2 a b o2 i j u v g) _ _
      exact dg (fun _=>Iu (st:=cO st gg) (n:=n + 2) T top L2 hk z2 ⟨fun x o3 i3 j3 g3 u3 v3 R=>⟨⟨_,rfl⟩,.inl ⟨x,o3,i3,j3,g3,u3,v3,rfl,R⟩⟩,fun o3 i3 j3 g3 u3 v3 L3 z3=>⟨⟨_,rfl⟩,.inr ⟨o3,i3,j3,g3,u3,v3,rfl,L3,z3⟩⟩,fun o3 i3 j3 g3 u3 v3 L3 z3=>⟨⟨_,rfl⟩,o3,i3,j3,g3,u3,v3,rfl,L3,z3⟩⟩) fun _=>Iu (st:=cO st gg) (n:=n + 2) T top L2 hk z2 ⟨fun x o3 i3 j3 g3 u3 v3 R=>⟨⟨_,rfl⟩,.inl ⟨x,o3,i3,j3,g3,u3,v3,rfl,R⟩⟩,fun o3 i3 j3 g3 u3 v3 L3 z3=>⟨⟨_,rfl⟩,.inr ⟨o3,i3,j3,g3,u3,v3,rfl,L3,z3⟩⟩,fun o3 i3 j3 g3 u3 v3 L3 z3=>⟨⟨_,rfl⟩,o3,i3,j3,g3,u3,v3,rfl,L3,z3⟩⟩
     ·obtain⟨⟨gg,rfl⟩,⟨x,o2,i,j,g,u,v,rfl,R⟩|⟨o2,i,j,g,u,v,rfl,L2,z2⟩⟩:=h
      ·exact wpS_pure ⟨⟨gg,rfl⟩,x,o2,i,j,g,rfl,R⟩
      ·refine wpS_bind (wpS_modify (wpS_pure ⟨⟨g + 1,rfl⟩,o2,i,j,g + 1,rfl,L2,by omega⟩))
  ·obtain⟨⟨gg,rfl⟩,x,o,i,j,g,rfl,R⟩:=h
   exact wpS_pure (q x gg R)
end
end Ts
namespace Ts
open PySem PyProof.Rows
section
theorem pJ {α : Type}(a:Array α){p q:Nat}(h:p≤q)(hq:q≤a.size):(a.extract p q).reverse=a.reverse.extract (a.size - q) (a.size - q + (q - p)):=by
 apply Array.ext
 ·simp;omega
 ·intro i h1 h2
  simp at h1 h2
  simp only [Array.getElem_reverse,Array.getElem_extract,Array.size_extract]
  congr 1
  omega
theorem wL {α : Type}(a:Array α){q:Nat}(h:1≤q)(hq:q≤a.size):a.reverse[a.size - q]? = a[q - 1]? := by
 rw [Array.getElem?_eq_getElem (by simp;omega),Array.getElem?_eq_getElem (by omega),Array.getElem_reverse]
 congr 2
 omega
theorem wM {α : Type}(a:Array α){p q:Nat}(h:p≤q)(hq:q≤a.size){y : α}(hy:y∈(a.reverse.toList.drop (a.size - q)).take (q - p)):y∈((a.toList.drop 0).take q).drop p:=by
 rw [← m4,← pJ a h hq,Array.toList_reverse,List.mem_reverse,Array.toList_extract,List.extract_eq_take_drop] at hy
 rw [List.drop_zero]
 rw [List.drop_take]
 exact hy
variable {r:Keyed→Keyed→Bool}
abbrev rv (r:Keyed→Keyed→Bool):Keyed→Keyed→Bool:=fun x y=>r y x
theorem eZ {a:Array Keyed}(h:a.toList.Pairwise (lE r)):a.reverse.toList.Pairwise (lE (rv r)):=by
 rw [Array.toList_reverse,List.pairwise_reverse]
 exact h
def eG (a b o:Array Keyed) (n m:Nat):Array Keyed:=a.extract 0 n++b.extract 0 m++o.reverse
def e6 (a b o:Array Keyed) (n m:Nat):Array Keyed:=b.extract 0 m++a.extract 0 n++o.reverse
theorem pK {α : Type}(a:Array α){n:Nat}(h:n≤a.size):a.extract 0 n=(a.reverse.extract (a.size - n) a.reverse.size).reverse:=by
 have:=pJ a (Nat.zero_le n) h
 have e:a.size - n + (n - 0)=a.reverse.size:=by simp;omega
 rw [e] at this
 rw [← this,Array.reverse_reverse]
theorem Iv (a b o:Array Keyed){n m:Nat}(hn:n≤a.size)(hm:m≤b.size):eG a b o n m=(dQ b.reverse a.reverse o (b.size - m) (a.size - n)).reverse:=by
 unfold eG dQ
 rw [Array.reverse_append,Array.reverse_append,← pK b hm,← pK a hn,Array.append_assoc]
theorem BB (a b o:Array Keyed){n m:Nat}(hn:n≤a.size)(hm:m≤b.size):e6 a b o n m=(eL b.reverse a.reverse o (b.size - m) (a.size - n)).reverse:=by
 unfold e6 eL
 rw [Array.reverse_append,Array.reverse_append,← pK b hm,← pK a hn,Array.append_assoc]
theorem Et {a b o:Array Keyed}(h:Mgd (rv r) b.reverse a.reverse o):Mgd r a b o.reverse:=by
 obtain⟨p,q⟩:=h
 refine⟨?_,?_⟩
 ·rw [Array.toList_reverse]
  have:=Stb.turn p
  rwa [List.reverse_append,Array.toList_reverse,Array.toList_reverse,List.reverse_reverse,List.reverse_reverse] at this
 ·rw [Array.toList_reverse,List.pairwise_reverse]
  exact q
variable {a b o:Array Keyed} {i j:Nat}
theorem Iw (sa:a.toList.Pairwise (lE r))(sb:b.toList.Pairwise (lE r))(m:MI r a b o i j)(h:j=b.size∨i=a.size):Mgd r a b (dQ a b o i j):=by
 unfold dQ
 rcases h with h|h
 ·rw [lQ b h,Array.append_empty];exact m.endA sa h
 ·rw [lQ a h,Array.append_empty];exact m.endB sb h
theorem Lg (sa:a.toList.Pairwise (lE r))(sb:b.toList.Pairwise (lE r))(top:∀ x∈b.toList,∀ y∈a.toList.drop (a.size - 1),r x y=true)(m:MI r a b o i j)(h:i + 1=a.size):Mgd r a b (eL a b o i j):=by
 unfold eL
 refine m.endBA sa sb fun x hx y hy=>top x (List.mem_of_mem_drop hx) y ?_
 rw [show a.size - 1=i by omega];exact hy
abbrev MH (r:Keyed→Keyed→Bool) (a b o:Array Keyed) (n m:Nat):Prop:=n≤a.size∧m≤b.size∧MI (rv r) b.reverse a.reverse o (b.size - m) (a.size - n)
variable {M:Model} {A:Around} {E:Value→Shared→Prop} {s:Shared} {kd:SortKind} {S:Keyed→Prop} {n m:Nat}
theorem lS (T:Two M A E s kd S r a b)(h:MH r a b o n m)(z:n=0∨m=0):Mgd r a b (eG a b o n m):=by
 rw [Iv a b o h.1 h.2.1]
 refine Et (Iw (eZ T.sb) (eZ T.sa) h.2.2 ?_)
 rcases z with z|z
 ·exact .inl (by rw [z];simp)
 ·exact .inr (by rw [z];simp)
theorem kn (T:Two M A E s kd S r a b)(bot:∀ x,b[0]? = some x → ∀ y∈a.toList,r x y=true)(h:MH r a b o n m)(z:m=1):Mgd r a b (e6 a b o n m):=by
 rw [BB a b o h.1 h.2.1]
 have hm:=h.2.1
 refine Et (Lg (eZ T.sb) (eZ T.sa) (fun x hx y hy => ?_) h.2.2 (by simp;omega))
 have e:b.reverse.toList.drop (b.reverse.size - 1)=[b[0]]:=by
  rw [Array.toList_reverse,Array.size_reverse]
  apply List.ext_getElem
  ·simp;omega
  ·intro i h1 h2
   simp at h1 h2
   subst h2
   simp [List.getElem_drop,List.getElem_reverse]
 rw [e,List.mem_singleton] at hy
 subst hy
 exact bot _ (Array.getElem?_eq_getElem (by omega)) x (by simpa using hx)
theorem MH.pushB (T:Two M A E s kd S r a b)(h:MH r a b o n m)(hm:1≤m){y:Keyed}(ey:b[m - 1]? = some y)(w:∀ z∈a.reverse.toList.drop (a.size - n),lE r z y):MH r a b (o.push y) n (m - 1):=by
 obtain⟨h1,h2,h3⟩:=h
 have e:b.size - (m - 1)=b.size - m + 1:=by omega
 refine⟨h1,by omega,?_⟩
 rw [e]
 exact h3.pushA (eZ T.sb) ((wL b hm h2).trans ey) w
end
end Ts
namespace Ts
open PySem PyProof.Rows
def mHi:Array Keyed→Array Keyed→StateT SortSt Sem (Array Keyed):=sortPriv% PySem.Builtin.mergeHi
theorem On (a b:Array Keyed):mHi a b=(do
  rule "list.sort.merge-hi"
  let t:=a.size + b.size
  let mut n:=a.size - 1
  let mut m:=b.size
  let mut o:Array Keyed := #[← elem' a n]
  if n == 0 then return eG a b o n m
  if m == 1 then return e6 a b o n m
  let mut g:=gallopOf (← get)
  for _ in [0:t] do
   let mut u:=0
   let mut v:=0
   for _ in [0:t] do
    let some w ← lt' (← elem' b (m - 1)) (← elem' a (n - 1))|return eG a b o n m
    if w then
     n:=n - 1;o:=o.push (← elem' a n);u:=u + 1;v:=0
     if n == 0 then return eG a b o n m
     if u ≥ g then break
    else
     m:=m - 1;o:=o.push (← elem' b m);v:=v + 1;u:=0
     if m == 1 then return e6 a b o n m
     if v ≥ g then break
   rule "list.sort.gallop"
   g:=g + 1
   for _ in [0:t] do
    if g > 1 then g:=g - 1
    modify (cO · g)
    let some p ← jQ false (← elem' b (m - 1)) a 0 n (n - 1)|return eG a b o n m
    let k:=n - p
    u:=k
    if k > 0 then
     o:=o++(a.extract p n).reverse;n:=p
     if n == 0 then return eG a b o n m
    m:=m - 1;o:=o.push (← elem' b m)
    if m == 1 then return e6 a b o n m
    let some p ← jQ true (← elem' a (n - 1)) b 0 m (m - 1)|return eG a b o n m
    let k:=m - p
    v:=k
    if k > 0 then
     o:=o++(b.extract p m).reverse;m:=p
     if m == 1 then return e6 a b o n m
     if m == 0 then return eG a b o n m
    n:=n - 1;o:=o.push (← elem' a n)
    if n == 0 then return eG a b o n m
    if u < 7 && v < 7 then break
   g:=g + 1
   modify (cO · g)
  unsupported "internal:list.sort.merge-bound"):=rfl
abbrev D1:=Option (Array Keyed) × Nat × Nat × Array Keyed × Nat
abbrev D2:=Option (Array Keyed) × Nat × Nat × Array Keyed × Nat × Nat
abbrev D3:=Option (Array Keyed) × Nat × Nat × Array Keyed × Nat × Nat × Nat
def hi1 (a b:Array Keyed) (g n m:Nat) (o:Array Keyed) (u v:Nat):SM (ForInStep D2):=do
 let x ← elem' b (m - 1)
 let y ← elem' a (n - 1)
 let some w ← lt' x y|pure (.done (some (eG a b o n m),n,m,o,u,v))
 if w then do
  let y ← elem' a (n - 1)
  if n - 1 == 0 then pure (.done (some (eG a b (o.push y) (n - 1) m),n - 1,m,o.push y,u + 1,0))
  else if u + 1 ≥ g then pure (.done (none,n - 1,m,o.push y,u + 1,0)) else pure (.yield (none,n - 1,m,o.push y,u + 1,0))
 else do
  let x ← elem' b (m - 1)
  if m - 1 == 1 then pure (.done (some (e6 a b (o.push x) n (m - 1)),n,m - 1,o.push x,0,v + 1))
  else if v + 1 ≥ g then pure (.done (none,n,m - 1,o.push x,0,v + 1)) else pure (.yield (none,n,m - 1,o.push x,0,v + 1))
def hi4 (a b:Array Keyed) (n m:Nat) (o:Array Keyed) (g u v:Nat):SM (ForInStep D3):=do
 let y ← elem' a (n - 1)
 if n - 1 == 0 then pure (.done (some (eG a b (o.push y) (n - 1) m),n - 1,m,o.push y,g,u,v))
 else if (decide (u < 7) && decide (v < 7))=true then pure (.done (none,n - 1,m,o.push y,g,u,v)) else pure (.yield (none,n - 1,m,o.push y,g,u,v))
def hi3 (a b:Array Keyed) (n m:Nat) (o:Array Keyed) (g u v:Nat):SM (ForInStep D3):=do
 let x ← elem' b (m - 1)
 if m - 1 == 1 then pure (.done (some (e6 a b (o.push x) n (m - 1)),n,m - 1,o.push x,g,u,v))
 else do
  let y ← elem' a (n - 1)
  let some p ← jQ true y b 0 (m - 1) (m - 1 - 1)|pure (.done (some (eG a b (o.push x) n (m - 1)),n,m - 1,o.push x,g,u,v))
  if m - 1 - p > 0 then
   if p == 1 then pure (.done (some (e6 a b (o.push x++(b.extract p (m - 1)).reverse) n p),n,p,o.push x++(b.extract p (m - 1)).reverse,g,u,m - 1 - p))
   else if p == 0 then pure (.done (some (eG a b (o.push x++(b.extract p (m - 1)).reverse) n p),n,p,o.push x++(b.extract p (m - 1)).reverse,g,u,m - 1 - p))
   else hi4 a b n p (o.push x++(b.extract p (m - 1)).reverse) g u (m - 1 - p)
  else hi4 a b n (m - 1) (o.push x) g u (m - 1 - p)
def hi2 (a b:Array Keyed) (n m:Nat) (o:Array Keyed) (u v g:Nat):SM (ForInStep D3):=do
 modify (cO · g)
 let x ← elem' b (m - 1)
 let some p ← jQ false x a 0 n (n - 1)|pure (.done (some (eG a b o n m),n,m,o,g,u,v))
 if n - p > 0 then
  if p == 0 then pure (.done (some (eG a b (o++(a.extract p n).reverse) p m),p,m,o++(a.extract p n).reverse,g,n - p,v))
  else hi3 a b p m (o++(a.extract p n).reverse) g (n - p) v
 else hi3 a b n m o g (n - p) v
section
variable {M:Model} {A:Around} {E:Value→Shared→Prop} {s:Shared} {kd:SortKind} {S:Keyed→Prop} {r:Keyed→Keyed→Bool} {a b o:Array Keyed} {n m g u v p:Nat} {st:SortSt}
theorem MH.len (h:MH r a b o n m):o.size + n + m=a.size + b.size:=by
 have:=h.2.2.len
 have:=h.1
 have:=h.2.1
 omega
theorem qu {α : Type}(a:Array α)(hq:p≤a.size){y : α}(hy:y∈a.reverse.toList.drop (a.size - p)):y∈(a.toList.drop 0).take p:=by
 have:=wM a (Nat.zero_le p) hq (y:=y) (by rw [List.take_of_length_le (by simp;omega)];exact hy)
 simpa using this
theorem MH.low (T:Two M A E s kd S r a b)(h:MH r a b o n m)(hm:1≤m){x y:Keyed}(ey:b[m - 1]? = some y)(w:r y x=true):∀ z∈b.reverse.toList.drop (b.size - m),r z x=true :=
 wJ (r:=rv r) (fun p q=>T.C.tr q p) (eZ T.sb) ((wL b hm h.2.1).trans ey) w
theorem MH.lowA (T:Two M A E s kd S r a b)(h:MH r a b o n m)(hn:1≤n){x y:Keyed}(ey:a[n - 1]? = some y)(w:lE r y x):∀ z∈a.reverse.toList.drop (a.size - n),lE r z x :=
 wI (r:=rv r) (fun p q=>T.C.tr q p) (eZ T.sa) ((wL a hn h.1).trans ey) w
theorem MH.putA (T:Two M A E s kd S r a b)(h:MH r a b o n m)(hn:1≤n){x:Keyed}(ex:a[n - 1]? = some x)(w:∀ z∈b.reverse.toList.drop (b.size - m),r z x=true):MH r a b (o.push x) (n - 1) m:=by
 obtain⟨h1,h2,h3⟩:=h
 have e:a.size - (n - 1)=a.size - n + 1:=by omega
 refine⟨by omega,h2,?_⟩
 rw [e]
 exact h3.pushB (eZ T.sa) ((wL a hn h1).trans ex) w
theorem MH.segA (T:Two M A E s kd S r a b)(h:MH r a b o n m)(hp:p≤n)(w:∀ y∈((a.toList.drop 0).take n).drop p,∀ z∈b.reverse.toList.drop (b.size - m),r z y=true):MH r a b (o++(a.extract p n).reverse) p m:=by
 obtain⟨h1,h2,h3⟩:=h
 have e:a.size - p=a.size - n + (n - p):=by omega
 refine⟨by omega,h2,?_⟩
 rw [e,pJ a hp h1]
 exact h3.segB (eZ T.sa) (by simp;omega) fun y hy=>w y (wM a hp h1 hy)
theorem MH.segB (T:Two M A E s kd S r a b)(h:MH r a b o n m)(hp:p≤m)(w:∀ y∈((b.toList.drop 0).take m).drop p,∀ z∈a.reverse.toList.drop (a.size - n),lE r z y):MH r a b (o++(b.extract p m).reverse) n p:=by
 obtain⟨h1,h2,h3⟩:=h
 have e:b.size - p=b.size - m + (m - p):=by omega
 refine⟨h1,by omega,?_⟩
 rw [e,pJ b hp h2]
 exact h3.segA (eZ T.sb) (by simp;omega) fun y hy=>w y (wM b hp h2 hy)
structure HI (r:Keyed→Keyed→Bool) (a b o:Array Keyed) (n m:Nat):Prop where
 h:MH r a b o n m
 hn:1≤n
 hm:2≤m
theorem Oo (T:Two M A E s kd S r a b)(bot:∀ x,b[0]? = some x → ∀ y∈a.toList,r x y=true)(L:HI r a b o n m)(hk:kindOf st=kd){Q:ForInStep D2→SortSt→Prop}
  (q1:∀ x o' i' j' u' v',Mgd r a b x→Q (.done (some x,i',j',o',u',v')) st) (q2:∀ o' i' j' u' v',HI r a b o' i' j'→o.size < o'.size→Q (.done (none,i',j',o',u',v')) st) (q3:∀ o' i' j' u' v',HI r a b o' i' j'→o.size < o'.size→Q (.yield (none,i',j',o',u',v')) st) :
  wpS M A E s (hi1 a b g n m o u v) Q st:=by
 have ⟨h,hn,hm⟩:=L
 have h1:=h.1
 have h2:=h.2.1
 obtain⟨x,ex,mx⟩:=hV (show m - 1 < b.size by omega)
 obtain⟨y,ey,my⟩:=hV (show n - 1 < a.size by omega)
 unfold hi1
 refine wpS_bind (bE ex (wpS_bind (bE ey (wpS_bind (T.C.ask (T.Sb x mx) (T.Sa y my) hk ?_)))))
 dsimp only
 cases w:r x y with
 | true =>
  rw [if_pos rfl]
  refine wpS_bind (bE ey ?_)
  have m2:=h.putA T hn ey (h.low T (by omega) ex w)
  have z:o.size < (o.push y).size:=by simp
  by_cases c:n - 1=0
  ·rw [if_pos (by simpa using c)]
   exact wpS_pure (q1 _ _ _ _ _ _ (lS T m2 (.inl c)))
  ·rw [if_neg (by simpa using c)]
   have L2:HI r a b (o.push y) (n - 1) m:=⟨m2,by omega,hm⟩
   split
   ·exact wpS_pure (q2 _ _ _ _ _ L2 z)
   ·exact wpS_pure (q3 _ _ _ _ _ L2 z)
 | false =>
  rw [if_neg Bool.false_ne_true]
  refine wpS_bind (bE ex ?_)
  have m2:=MH.pushB T h (by omega) ex (h.lowA T hn ey w)
  have z:o.size < (o.push x).size:=by simp
  by_cases c:m - 1=1
  ·rw [if_pos (by simpa using c)]
   exact wpS_pure (q1 _ _ _ _ _ _ (kn T bot m2 c))
  ·rw [if_neg (by simpa using c)]
   have L2:HI r a b (o.push x) n (m - 1):=⟨m2,hn,by omega⟩
   split
   ·exact wpS_pure (q2 _ _ _ _ _ L2 z)
   ·exact wpS_pure (q3 _ _ _ _ _ L2 z)
structure Ix (r:Keyed→Keyed→Bool) (a b:Array Keyed) (l:Nat) (Q:ForInStep D3→SortSt→Prop) (st:SortSt):Prop where
 q1:∀ x o' i' j' g' u' v',Mgd r a b x→Q (.done (some x,i',j',o',g',u',v')) st
 q2:∀ o' i' j' g' u' v',HI r a b o' i' j'→l≤o'.size→Q (.done (none,i',j',o',g',u',v')) st
 q3:∀ o' i' j' g' u' v',HI r a b o' i' j'→l≤o'.size→Q (.yield (none,i',j',o',g',u',v')) st
theorem Iy (T:Two M A E s kd S r a b)(h:MH r a b o n m)(hn:1≤n)(hm:2≤m){y:Keyed}(ey:a[n - 1]? = some y)(w:∀ z∈b.reverse.toList.drop (b.size - m),r z y=true){l:Nat}(hl:l≤o.size){Q:ForInStep D3→SortSt→Prop}(q:Ix r a b l Q st):wpS M A E s (hi4 a b n m o g u v) Q st:=by
 unfold hi4
 refine wpS_bind (bE ey ?_)
 have m2:=h.putA T hn ey w
 have z:l≤(o.push y).size:=by simp;omega
 by_cases c:n - 1=0
 ·rw [if_pos (by simpa using c)]
  exact wpS_pure (q.q1 _ _ _ _ _ _ _ (lS T m2 (.inl c)))
 ·rw [if_neg (by simpa using c)]
  have L2:HI r a b (o.push y) (n - 1) m:=⟨m2,by omega,hm⟩
  split
  ·exact wpS_pure (q.q2 _ _ _ _ _ _ L2 z)
  ·exact wpS_pure (q.q3 _ _ _ _ _ _ L2 z)
theorem Iz (T:Two M A E s kd S r a b)(bot:∀ x,b[0]? = some x → ∀ y∈a.toList,r x y=true)(h:MH r a b o n m)(hn:1≤n)(hm:2≤m)(hk:kindOf st=kd){x:Keyed}(ex:b[m - 1]? = some x)(w:∀ z∈a.reverse.toList.drop (a.size - n),lE r z x){l:Nat}(hl:l≤o.size){Q:ForInStep D3→SortSt→Prop}(q:Ix r a b l Q st):wpS M A E s (hi3 a b n m o g u v) Q st:=by
 have h1:=h.1
 have h2:=h.2.1
 obtain⟨y,ey,my⟩:=hV (show n - 1 < a.size by omega)
 unfold hi3
 refine wpS_bind (bE ex ?_)
 have m2:=MH.pushB T h (by omega) ex w
 by_cases c:m - 1=1
 ·rw [if_pos (by simpa using c)]
  exact wpS_pure (q.q1 _ _ _ _ _ _ _ (kn T bot m2 c))
 ·rw [if_neg (by simpa using c)]
  refine wpS_bind (bE ey (wpS_bind (zw T.C hk (T.Sa y my) T.Sb T.sb (n:=m - 1) (by omega) (by omega) fun k hk' p1 p2 => ?_)))
  dsimp only
  have lw:∀ z∈b.reverse.toList.drop (b.size - k),r z y=true:=fun z hz=>p1 z (qu b (by omega) hz)
  by_cases c2:m - 1 - k > 0
  ·rw [if_pos c2]
   have m3:=MH.segB T m2 (p:=k) hk' fun z hz=>m2.lowA T hn ey (p2 z hz)
   by_cases c3:k=1
   ·rw [if_pos (by simpa using c3)]
    exact wpS_pure (q.q1 _ _ _ _ _ _ _ (kn T bot m3 c3))
   ·rw [if_neg (by simpa using c3)]
    by_cases c4:k=0
    ·rw [if_pos (by simpa using c4)]
     exact wpS_pure (q.q1 _ _ _ _ _ _ _ (lS T m3 (.inr c4)))
    ·rw [if_neg (by simpa using c4)]
     exact Iy (l:=l) T m3 hn (by omega) ey lw (by simp;omega) q
  ·rw [if_neg c2]
   have k0:k=m - 1:=by omega
   subst k0
   exact Iy (l:=l) T m2 hn (by omega) ey lw (by simp;omega) q
theorem IA (T:Two M A E s kd S r a b)(bot:∀ x,b[0]? = some x → ∀ y∈a.toList,r x y=true)(L:HI r a b o n m)(hk:kindOf st=kd){l:Nat}(hl:l≤o.size){Q:ForInStep D3→SortSt→Prop}(q:Ix r a b l Q (cO st g)):wpS M A E s (hi2 a b n m o u v g) Q st:=by
 have ⟨h,hn,hm⟩:=L
 have h1:=h.1
 have h2:=h.2.1
 obtain⟨x,ex,mx⟩:=hV (show m - 1 < b.size by omega)
 unfold hi2
 refine wpS_bind (wpS_modify (wpS_bind (bE ex (wpS_bind (vf T.C (st:=cO st g) hk (T.Sb x mx) T.Sa T.sa (n:=n) (by omega) (by omega) fun k hk' p1 p2 => ?_)))))
 dsimp only
 have lw:∀ z∈a.reverse.toList.drop (a.size - k),lE r z x:=fun z hz=>p1 z (qu a (by omega) hz)
 by_cases c2:n - k > 0
 ·rw [if_pos c2]
  have m2:=MH.segA T h (p:=k) hk' fun z hz=>h.low T (by omega) ex (p2 z hz)
  by_cases c3:k=0
  ·rw [if_pos (by simpa using c3)]
   exact wpS_pure (q.q1 _ _ _ _ _ _ _ (lS T m2 (.inl c3)))
  ·rw [if_neg (by simpa using c3)]
   exact Iz (st:=cO st g) (l:=l) T bot m2 (by omega) hm hk ex lw (by simp;omega) q
 ·rw [if_neg c2]
  have k0:k=n:=by omega
  subst k0
  exact Iz (st:=cO st g) (l:=l) T bot h hn hm hk ex lw hl q
theorem Op (T:Two M A E s kd S r a b)(bot:∀ x,b[0]? = some x → ∀ y∈a.toList,r x y=true)(top:∀ y,a[a.size - 1]? = some y → ∀ x∈b.toList,r x y=true)(za:0 < a.size)(zb:0 < b.size)(hk:kindOf st=kd){Q:Array Keyed→SortSt→Prop}(q:∀ x gg,Mgd r a b x→Q x (cO st gg)):wpS M A E s (mHi a b) Q st:=by
 obtain⟨y,ey,my⟩:=hV (show a.size - 1 < a.size by omega)
 have m0:MH r a b #[y] (a.size - 1) b.size:=by
  have mm:MH r a b #[] a.size b.size:=⟨ZL _,ZL _,fun p q=>T.C.tr q p,T.C.asym,by simpa using Stb.refl (r:=rv r) [],by simp,by simp,fun _ h=>by simp at h,by simp,by simp⟩
  exact mm.putA T za ey fun z hz=>top y ey z (by
   have:=qu b (ZL _) hz
   rw [List.drop_zero] at this
   exact List.mem_of_mem_take this)
 have st0:st=cO st (gallopOf st):=by cases st;rfl
 rw [On]
 refine wpS_bind (iu (wpS_bind (bE ey (dg (fun c => ?_) fun c=>dg (fun c2 => ?_) fun c2 => ?_))))
 ·refine wpS_pure ?_
  rw [st0]
  exact q _ _ (lS T m0 (.inl (by simpa using c)))
 ·refine wpS_pure ?_
  rw [st0]
  exact q _ _ (kn T bot m0 (by simpa using c2))
 ·have L0:HI r a b #[y] (a.size - 1) b.size:=⟨m0,by simp at c;omega,by simp at c2;omega⟩
  refine wpS_bind (wpS_get (wpS_bind (wpS_mono (wpS_forRange
   (I:=fun n c st'=>(∃ gg,st'=cO st gg) ∧ ∃ o i j g,c=(none,i,j,o,g)∧HI r a b o i j∧n + 1≤o.size)
   (Q:=fun c st'=>(∃ gg,st'=cO st gg) ∧ ∃ x o i j g,c=(some x,i,j,o,g)∧Mgd r a b x) ?step ?fin ⟨⟨_,st0⟩,#[y],a.size - 1,b.size,gallopOf st,rfl,L0,by simp⟩) fun c st' h => ?_)))
  case fin =>
   rintro c st' ⟨_,o,i,j,g,_,L,z⟩
   have:=L.h.len
   have:=L.hn
   have:=L.hm
   omega
  case step =>
   rintro n c st' _ hn ⟨⟨gg,rfl⟩,o,i,j,g,rfl,L,z⟩
   refine wpS_bind (wpS_mono (wpS_forRange
    (I:=fun n' c st'=>st'=cO st gg ∧ ∃ o' i j u v,c=(none,i,j,o',u,v)∧HI r a b o' i j∧o.size + n'≤o'.size)
    (Q:=fun c st'=>st'=cO st gg∧((∃ x o' i j u v,c=(some x,i,j,o',u,v)∧Mgd r a b x) ∨ ∃ o' i j u v,c=(none,i,j,o',u,v)∧HI r a b o' i j∧o.size < o'.size)) ?s1 ?f1 ⟨rfl,o,i,j,0,0,rfl,L,by simp⟩) fun c st' h => ?_)
   case f1 =>
    rintro c st' ⟨rfl,o',i,j,u,v,rfl,L',z'⟩
    exact⟨rfl,.inr ⟨o',i,j,u,v,rfl,L',by omega⟩⟩
   case s1 =>
    rintro n' c st' _ _ ⟨rfl,o',i,j,u,v,rfl,L',z'⟩
    show wpS M A E s (hi1 a b g i j o' u v) _ _
    exact Oo (st:=cO st gg) T bot L' hk (fun x o2 i2 j2 u2 v2 R=>⟨rfl,.inl ⟨x,o2,i2,j2,u2,v2,rfl,R⟩⟩) (fun o2 i2 j2 u2 v2 L2 z2=>⟨rfl,.inr ⟨o2,i2,j2,u2,v2,rfl,L2,by omega⟩⟩) fun o2 i2 j2 u2 v2 L2 z2=>⟨rfl,o2,i2,j2,u2,v2,rfl,L2,by omega⟩
   ·obtain⟨rfl,⟨x,o',i,j,u,v,rfl,R⟩|⟨o',i,j,u,v,rfl,L',z'⟩⟩:=h
    ·exact wpS_pure ⟨⟨gg,rfl⟩,x,o',i,j,g,rfl,R⟩
    ·refine wpS_bind (iu (wpS_bind (wpS_mono (wpS_forRange
      (I:=fun _ c st'=>(∃ gg,st'=cO st gg) ∧ ∃ o2 i j g u v,c=(none,i,j,o2,g,u,v)∧HI r a b o2 i j∧n + 2≤o2.size)
      (Q:=fun c st'=>(∃ gg,st'=cO st gg)∧((∃ x o2 i j g u v,c=(some x,i,j,o2,g,u,v)∧Mgd r a b x) ∨ ∃ o2 i j g u v,c=(none,i,j,o2,g,u,v)∧HI r a b o2 i j∧n + 2≤o2.size)) ?s2 ?f2 ⟨⟨gg,rfl⟩,o',i,j,g + 1,u,v,rfl,L',by omega⟩) fun c st' h => ?_)))
     case f2 =>
      rintro c st' ⟨e,o2,i,j,g,u,v,rfl,L2,z2⟩
      exact⟨e,.inr ⟨o2,i,j,g,u,v,rfl,L2,z2⟩⟩
     case s2 =>
      rintro n' c st' _ _ ⟨⟨gg,rfl⟩,o2,i,j,g,u,v,rfl,L2,z2⟩
      show wpS M A E s (if g > 1 then hi2 a b i j o2 u v (g - 1) else hi2 a b i j o2 u v g) _ _
      exact dg (fun _=>IA (st:=cO st gg) (l:=n + 2) T bot L2 hk z2 ⟨fun x o3 i3 j3 g3 u3 v3 R=>⟨⟨_,rfl⟩,.inl ⟨x,o3,i3,j3,g3,u3,v3,rfl,R⟩⟩,fun o3 i3 j3 g3 u3 v3 L3 z3=>⟨⟨_,rfl⟩,.inr ⟨o3,i3,j3,g3,u3,v3,rfl,L3,z3⟩⟩,fun o3 i3 j3 g3 u3 v3 L3 z3=>⟨⟨_,rfl⟩,o3,i3,j3,g3,u3,v3,rfl,L3,z3⟩⟩) fun _=>IA (st:=cO st gg) (l:=n + 2) T bot L2 hk z2 ⟨fun x o3 i3 j3 g3 u3 v3 R=>⟨⟨_,rfl⟩,.inl ⟨x,o3,i3,j3,g3,u3,v3,rfl,R⟩⟩,fun o3 i3 j3 g3 u3 v3 L3 z3=>⟨⟨_,rfl⟩,.inr ⟨o3,i3,j3,g3,u3,v3,rfl,L3,z3⟩⟩,fun o3 i3 j3 g3 u3 v3 L3 z3=>⟨⟨_,rfl⟩,o3,i3,j3,g3,u3,v3,rfl,L3,z3⟩⟩
     ·obtain⟨⟨gg,rfl⟩,⟨x,o2,i,j,g,u,v,rfl,R⟩|⟨o2,i,j,g,u,v,rfl,L2,z2⟩⟩:=h
      ·exact wpS_pure ⟨⟨gg,rfl⟩,x,o2,i,j,g,rfl,R⟩
      ·refine wpS_bind (wpS_modify (wpS_pure ⟨⟨g + 1,rfl⟩,o2,i,j,g + 1,rfl,L2,by omega⟩))
  ·obtain⟨⟨gg,rfl⟩,x,o,i,j,g,rfl,R⟩:=h
   exact wpS_pure (q x gg R)
end
end Ts
namespace Ts
open PySem PyProof.Rows
def zx (l:List Keyed) (base:Nat) (xs:Array Keyed):Array Keyed:=l.zipIdx.foldl (fun xs q=>xs.setIfInBounds (base + q.2) q.1) xs
theorem Oq (i:Nat):mergeAt' i=(do
  let st ← get
  let (some (p,n,e),some (q,m,_)):=((pendingOf st)[i]?,(pendingOf st)[i + 1]?)|unsupported "internal:list.sort.pending"
  set (setPending st (((pendingOf st).setIfInBounds i (p,n + m,e)).eraseIdxIfInBounds (i + 1)))
  let some k ← jQ false (← elem' (arrOf st) q) (arrOf st) p n 0|return false
  let (p,n):=(p + k,n - k)
  if n == 0 then return true
  let some m ← jQ true (← elem' (arrOf st) (p + n - 1)) (arrOf st) q m (m - 1)|return false
  if m == 0 then return true
  let x:=(arrOf st).extract p q
  let y:=(arrOf st).extract q (q + m)
  let z ← if n≤m then mLo x y else mHi x y
  modify fun st=>setArr st (zx z.toList p (arrOf st))
  return (failedOf (← get)).isNone):=rfl
theorem IB (base:Nat):∀ (l:List Keyed) (n:Nat) (xs:Array Keyed) (P W R:List Keyed),xs.toList=P++W++R→P.length=base + n→W.length=l.length→((l.zipIdx n).foldl (fun xs q=>xs.setIfInBounds (base + q.2) q.1) xs).toList=P++l++R
 | [],n,xs,P,W,R,h,hp,hw=>by
  have:W=[]:=List.length_eq_zero_iff.mp hw
  subst this
  simpa using h
 | x :: l,n,xs,P,[],R,h,hp,hw=>by simp at hw
 | x :: l,n,xs,P,w :: W,R,h,hp,hw=>by
  rw [List.zipIdx_cons,List.foldl_cons]
  have:=IB base l (n + 1) (xs.setIfInBounds (base + n) x) (P++[x]) W R (by
   rw [Array.toList_setIfInBounds,h,← hp,ZU,ZU]
   simp [List.set_append]) (by simp [hp];omega) (by simpa using hw)
  rw [this]
  simp
theorem Os {l:List Keyed}{base:Nat}{xs:Array Keyed}{P W R:List Keyed}(h:xs.toList=P++W++R)(hp:P.length=base)(hw:W.length=l.length):(zx l base xs).toList=P++l++R:=IB base l 0 xs P W R h (by omega) hw
section
variable {M:Model} {A:Around} {E:Value→Shared→Prop} {s:Shared} {kd:SortKind} {S:Keyed→Prop} {r:Keyed→Keyed→Bool} {st:SortSt}
theorem Cmp.refl (C:Cmp M A E s kd S r)(x:Keyed):lE r x x:=by
 cases w:r x x with
 | false=>exact w
 | true=>rw [C.asym w] at w;cases w
theorem qv {α : Type}{xs:Array α}{P X R:List α}(h:xs.toList=P++(X++R))(i:Nat)(hi:i < X.length):xs[P.length + i]? = X[i]? := by
 rw [← Array.getElem?_toList,h,ZD (by omega),ZC (by omega)]
 congr 1;omega
theorem BC (C:Cmp M A E s kd S r){xs:Array Keyed}{x:Keyed}{P X R:List Keyed}(h:xs.toList=P++(X++R)){ht:Nat}{Q:Option Nat→SortSt→Prop}(hk:kindOf st=kd)(Sx:S x)(SX:∀ y∈X,S y)(sX:X.Pairwise (lE r))(hh:ht < X.length)
  (q:∀ k,k≤X.length→(∀ y∈X.take k,lE r y x)→(∀ y∈X.drop k,r x y=true)→Q (some k) st):wpS M A E s (jQ false x xs P.length X.length ht) Q st:=by
 have gt:∀ d (hd:d < X.length),xs[P.length + d]? = some X[d]:=fun d hd=>by rw [qv h d hd];exact ZE hd
 refine wH C hk (fun d => !r x (X.getD d x)) (fun d hd=>⟨X[d],gt d hd,SX _ (List.getElem_mem hd),by simp [List.getD,hd]⟩) Sx (fun d e hde he pe => ?_) hh fun k hk' p1 p2=>q k hk' (fun y hy => ?_) fun y hy => ?_
 ·have hd:d < X.length:=by omega
  simp only [List.getD,ZE he,ZE hd,Option.getD_some] at pe ⊢
  by_cases z:d=e
  ·subst z;exact pe
  ·have l:=List.pairwise_iff_getElem.mp sX d e hd he (by omega)
   have e1:r x X[e] = false:=by simpa using pe
   have:=C.tr l e1
   simp [this]
 ·obtain⟨d,hd,e⟩:=List.mem_take_iff_getElem.mp hy
  have hd':d < X.length:=by omega
  have:=p1 d (by omega)
  simp only [List.getD,ZE hd',Option.getD_some] at this
  rw [← e]
  simpa using this
 ·obtain⟨d,hd,e⟩:=List.mem_drop_iff_getElem.mp hy
  have:=p2 (k + d) (by omega) (by omega)
  simp only [List.getD,ZE (show k + d < X.length by omega),Option.getD_some] at this
  have e2:y=X[k + d]'(by omega):=by rw [← e]
  rw [e2]
  simpa using this
theorem Fp (C:Cmp M A E s kd S r){xs:Array Keyed}{x:Keyed}{P X R:List Keyed}(h:xs.toList=P++(X++R)){ht:Nat}{Q:Option Nat→SortSt→Prop}(hk:kindOf st=kd)(Sx:S x)(SX:∀ y∈X,S y)(sX:X.Pairwise (lE r))(hh:ht < X.length)
  (q:∀ k,k≤X.length→(∀ y∈X.take k,r y x=true)→(∀ y∈X.drop k,lE r x y)→Q (some k) st):wpS M A E s (jQ true x xs P.length X.length ht) Q st:=by
 have gt:∀ d (hd:d < X.length),xs[P.length + d]? = some X[d]:=fun d hd=>by rw [qv h d hd];exact ZE hd
 refine wH C hk (fun d=>r (X.getD d x) x) (fun d hd=>⟨X[d],gt d hd,SX _ (List.getElem_mem hd),by simp [List.getD,hd]⟩) Sx (fun d e hde he pe => ?_) hh fun k hk' p1 p2=>q k hk' (fun y hy => ?_) fun y hy => ?_
 ·have hd:d < X.length:=by omega
  simp only [List.getD,ZE he,ZE hd,Option.getD_some] at pe ⊢
  by_cases z:d=e
  ·subst z;exact pe
  ·have l:=List.pairwise_iff_getElem.mp sX d e hd he (by omega)
   cases w:r X[d] x with
   | true=>rfl
   | false =>
    have:=C.tr w l
    rw [this] at pe;cases pe
 ·obtain⟨d,hd,e⟩:=List.mem_take_iff_getElem.mp hy
  have hd':d < X.length:=by omega
  have:=p1 d (by omega)
  simp only [List.getD,ZE hd',Option.getD_some] at this
  rw [← e]
  exact this
 ·obtain⟨d,hd,e⟩:=List.mem_drop_iff_getElem.mp hy
  have:=p2 (k + d) (by omega) (by omega)
  simp only [List.getD,ZE (show k + d < X.length by omega),Option.getD_some] at this
  have e2:y=X[k + d]'(by omega):=by rw [← e]
  rw [e2]
  exact this
theorem Lh {σ:Type}{st' st : σ}{Q:PUnit → σ → Prop}(h:Q ⟨⟩ st'):wpS M A E s (set st':StateT σ Sem PUnit) Q st:=by
 unfold wpS;rw [StateT.run_set];exact wpAny_pure ⟨rfl,h⟩
theorem Ot (C:Cmp M A E s kd S r){i:Nat}{P X Y R:List Keyed}{e e':Nat}(hk:kindOf st=kd)(hf:failedOf st=none)(ha:(arrOf st).toList=P++(X++(Y++R)))(p1:(pendingOf st)[i]? = some (P.length,X.length,e))(p2:(pendingOf st)[i + 1]? = some (P.length + X.length,Y.length,e'))
  (SX:∀ y∈X,S y) (SY:∀ y∈Y,S y) (sX:X.Pairwise (lE r)) (sY:Y.Pairwise (lE r)) (nX:X≠[]) (nY:Y≠[]) {Q:Bool→SortSt→Prop}
  (q:∀ Z gg xs,Stb r Z (X++Y)→Z.Pairwise (lE r)→xs.toList=P++(Z++R)→Q true (SortSt.mk' kd xs (((pendingOf st).setIfInBounds i (P.length,X.length + Y.length,e)).eraseIdxIfInBounds (i + 1)) gg none)):wpS M A E s (mergeAt' i) Q st:=by
 have lX:0 < X.length:=List.length_pos_iff.mpr nX
 have lY:0 < Y.length:=List.length_pos_iff.mpr nY
 have ha2:(arrOf st).toList=(P++X)++(Y++R):=by rw [ha,ZU]
 have pxl:(P++X).length=P.length + X.length:=ZB
 rw [Oq]
 refine wpS_bind (wpS_get ?_)
 simp only [p1,p2]
 obtain⟨st1,hst1⟩ : ∃ st1,st1=setPending st (((pendingOf st).setIfInBounds i (P.length,X.length + Y.length,e)).eraseIdxIfInBounds (i + 1)):=⟨_,rfl⟩
 have fin:∀ Z gg xs,Stb r Z (X++Y)→Z.Pairwise (lE r)→xs.toList=P++(Z++R)→Q true (cO (setArr st1 xs) gg):=fun Z gg xs z1 z2 z3=>by
  have:=q Z gg xs z1 z2 z3
  rw [hst1]
  show Q true (SortSt.mk' (kindOf st) xs _ gg (failedOf st))
  rw [hk,hf];exact this
 have hk1:kindOf st1=kd:=by rw [hst1];exact hk
 have hf1:failedOf st1=none:=by rw [hst1];exact hf
 have ha1:arrOf st1=arrOf st:=by rw [hst1]
 rw [← hst1]
 refine wpS_bind (Lh ?_)
 have ey:(arrOf st)[P.length + X.length]? = some Y[0]:=by
  have:=qv ha2 0 lY
  rw [pxl] at this
  rw [show P.length + X.length=P.length + X.length + 0 from rfl,this]
  exact ZE lY
 refine wpS_bind (bE ey (wpS_bind (BC C ha hk1 (SY _ (List.getElem_mem lY)) SX sX lX fun k hkl b1 b2 => ?_)))
 dsimp only
 have y0:∀ y∈Y,lE r Y[0] y:=fun y hy=>by
  obtain⟨d,hd,e⟩:=List.getElem_of_mem hy
  by_cases z:d=0
  ·subst z;rw [← e];exact C.refl _
  ·rw [← e];exact List.pairwise_iff_getElem.mp sY 0 d lY hd (by omega)
 have sam:∀ xs:Array Keyed,xs=arrOf st → ∀ g,g=gallopOf st1→cO (setArr st1 xs) g=st1:=fun xs e g eg=>by subst e;subst eg;rw [hst1]
 have X12:X=X.take k++X.drop k:=(List.take_append_drop k X).symm
 have s12:=sX
 rw [X12,List.pairwise_append] at s12
 refine dg (fun c => ?_) fun c => ?_
 ·have kk:k=X.length:=by simp at c;omega
  refine wpS_pure ?_
  have:=fin (X++Y) (gallopOf st1) (arrOf st) (Stb.refl _) (List.pairwise_append.mpr ⟨sX,sY,fun x hx y hy=>C.tr (b1 x (by rw [kk,List.take_length];exact hx)) (y0 y hy)⟩) (by rw [ha,ZU])
  rw [sam _ rfl _ rfl] at this
  exact this
 ·have kl:k < X.length:=by simp at c;omega
  have ex:(arrOf st)[P.length + k + (X.length - k) - 1]? = some (X[X.length - 1]'(by omega)):=by
   have:=qv ha (X.length - 1) (by omega)
   rw [show P.length + k + (X.length - k) - 1=P.length + (X.length - 1) by omega,this]
   exact ZE (by omega)
  have xl:∀ x∈X,lE r x (X[X.length - 1]'(by omega)):=fun x hx=>by
   obtain⟨d,hd,e⟩:=List.getElem_of_mem hx
   by_cases z:d=X.length - 1
   ·subst z;rw [← e];exact C.refl _
   ·rw [← e];exact List.pairwise_iff_getElem.mp sX d (X.length - 1) hd (by omega) (by omega)
  have g2:∀ {R2:Option Nat→SortSt→Prop},(∀ m,m≤Y.length→(∀ y∈Y.take m,r y (X[X.length - 1]'(by omega))=true)→(∀ y∈Y.drop m,lE r (X[X.length - 1]'(by omega)) y)→R2 (some m) st1)→wpS M A E s (jQ true (X[X.length - 1]'(by omega)) (arrOf st) (P.length + X.length) Y.length (Y.length - 1)) R2 st1:=fun {R2} q2=>by
   have:=Fp (M:=M) (A:=A) (E:=E) (s:=s) (st:=st1) (Q:=R2) C ha2 (ht:=Y.length - 1) hk1 (SX _ (List.getElem_mem (show X.length - 1 < X.length by omega))) SY sY (by omega) q2
   rw [pxl] at this
   exact this
  refine wpS_bind (bE ex (wpS_bind (g2 fun m hml d1 d2 => ?_)))
  dsimp only
  have Y12:Y=Y.take m++Y.drop m:=(List.take_append_drop m Y).symm
  have t12:=sY
  rw [Y12,List.pairwise_append] at t12
  refine dg (fun c2 => ?_) fun c2 => ?_
  ·have m0:m=0:=by simpa using c2
   refine wpS_pure ?_
   have:=fin (X++Y) (gallopOf st1) (arrOf st) (Stb.refl _) (List.pairwise_append.mpr ⟨sX,sY,fun x hx y hy=>C.tr (xl x hx) (d2 y (by rw [m0];exact hy))⟩) (by rw [ha,ZU])
   rw [sam _ rfl _ rfl] at this
   exact this
  ·have m0:0 < m:=by simp at c2;omega
   have ea:((arrOf st).extract (P.length + k) (P.length + X.length)).toList=X.drop k:=by
    have:=m4 (arrOf st) (P.length + k) (X.length - k)
    rw [show P.length + k + (X.length - k)=P.length + X.length by omega] at this
    rw [this,ha,← List.drop_drop,List.drop_left,List.drop_append_of_le_length hkl,List.take_left' (by simp)]
   have eb:((arrOf st).extract (P.length + X.length) (P.length + X.length + m)).toList=Y.take m:=by
    rw [m4,ha2,← pxl,List.drop_left,List.take_append_of_le_length hml]
   obtain⟨xa,hxa⟩ : ∃ xa,xa=(arrOf st).extract (P.length + k) (P.length + X.length):=⟨_,rfl⟩
   obtain⟨ya,hya⟩ : ∃ ya,ya=(arrOf st).extract (P.length + X.length) (P.length + X.length + m):=⟨_,rfl⟩
   rw [← hxa] at ea
   rw [← hya] at eb
   have T:Two M A E s kd S r xa ya:=⟨C,fun x hx=>SX x (List.mem_of_mem_drop (by rw [← ea];exact hx)),fun x hx=>SY x (List.mem_of_mem_take (by rw [← eb];exact hx)),by rw [ea];exact s12.2.1,by rw [eb];exact t12.1⟩
   have za:0 < xa.size:=by rw [← Array.length_toList,ea];simp;omega
   have zb:0 < ya.size:=by rw [← Array.length_toList,eb];simp;omega
   have bot:∀ x,ya[0]? = some x → ∀ y∈xa.toList,r x y=true:=fun x hx y hy=>by
    rw [← Array.getElem?_toList,eb,List.getElem?_take_of_lt m0,ZE lY] at hx
    cases hx
    exact b2 y (by rw [← ea];exact hy)
   have lst:∀ x∈ya.toList,r x (X[X.length - 1]'(by omega))=true:=fun x hx=>d1 x (by rw [← eb];exact hx)
   have asz:xa.size=X.length - k:=by rw [← Array.length_toList,ea];simp
   have laste:xa[xa.size - 1]? = some (X[X.length - 1]'(by omega)):=by
    rw [← Array.getElem?_toList,ea,asz,List.getElem?_drop,show k + (X.length - k - 1)=X.length - 1 by omega]
    exact ZE (by omega)
   have top1:∀ x∈ya.toList,∀ y∈xa.toList.drop (xa.size - 1),r x y=true:=fun x hx y hy=>by
    obtain⟨d,hd,e⟩:=List.mem_drop_iff_getElem.mp hy
    have hd0:d=0:=by simp at hd;omega
    subst hd0
    have:y=X[X.length - 1]'(by omega):=by
     have h3:xa.toList[xa.size - 1 + 0]? = some y:=by rw [← e];exact ZE (by omega)
     rw [Nat.add_zero,Array.getElem?_toList,laste] at h3
     exact (ZT h3).symm
    rw [this]
    exact lst x hx
   have mg:∀ z gg,Mgd r xa ya z→wpS M A E s (modify (fun st=>setArr st (zx z.toList (P.length + k) (arrOf st))) >>= fun _=>(get >>= fun st=>pure (failedOf st).isNone:StateT SortSt Sem Bool)) Q (cO st1 gg):=fun z gg ⟨z1,z2⟩=>by
    refine wpS_bind (wpS_modify (wpS_bind (wpS_get (wpS_pure ?_))))
    show Q (failedOf st1).isNone _
    rw [hf1]
    have zl:z.toList.length=(X.drop k++Y.take m).length:=by rw [z1.length_eq,ea,eb]
    have la:(zx z.toList (P.length + k) (arrOf st)).toList=(P++X.take k)++z.toList++(Y.drop m++R):=Os (W:=X.drop k++Y.take m) (by
     rw [ha]
     conv=>lhs;rw [X12,Y12]
     simp only [ZU]) (by simp;omega) zl.symm
    have mem:∀ x∈z.toList,x∈X.drop k∨x∈Y.take m:=fun x hx=>by
     have:=z1.mem_iff.mp hx
     rw [ea,eb] at this
     exact List.mem_append.mp this
    have:=fin (X.take k++(z.toList++Y.drop m)) gg (zx z.toList (P.length + k) (arrOf st)) (by
     conv=>rhs;rw [X12,Y12]
     rw [ZU]
     refine Stb.append_left _ ?_
     rw [← ZU]
     refine Stb.append_right _ ?_
     rw [← ea,← eb];exact z1) (by
     rw [List.pairwise_append,List.pairwise_append]
     refine⟨s12.1,⟨z2,t12.2.1,fun x hx y hy => ?_⟩,fun x hx y hy => ?_⟩
     ·rcases mem x hx with h|h
      ·exact C.tr (xl x (List.mem_of_mem_drop h)) (d2 y hy)
      ·exact t12.2.2 x h y hy
     ·rcases List.mem_append.mp hy with hy|hy
      ·rcases mem y hy with h|h
       ·exact s12.2.2 x hx y h
       ·exact C.tr (b1 x hx) (y0 y (List.mem_of_mem_take h))
      ·exact C.tr (b1 x hx) (y0 y (List.mem_of_mem_drop hy))) (by rw [la];simp only [ZU])
    have e3:arrOf (cO st1 gg)=arrOf st:=ha1
    rw [e3]
    exact this
   rw [← hxa,← hya]
   refine dg (fun _=>wpS_bind ?_) fun _=>wpS_bind ?_
   ·exact Om T top1 bot za zb hk1 mg
   ·exact Op T bot (fun y hy x hx=>by rw [laste] at hy;cases hy;exact lst x hx) za zb hk1 mg
end
end Ts
namespace Ts
open PySem PyProof.Rows
section
variable {M:Model} {A:Around} {E:Value→Shared→Prop} {s:Shared} {kd:SortKind} {S:Keyed→Prop} {r:Keyed→Keyed→Bool} {st:SortSt}
theorem Ou {α : Type}{xs:Array α}{P B R:List α}(h:xs.toList=P++(B++R)){i j:Nat}(hi:i=P.length)(hj:j=P.length + B.length):(mirror xs i j ((j - i) / 2)).toList=P++(B.reverse++R):=by
 have sz:xs.size=P.length + (B.length + R.length):=by rw [← Array.length_toList,h];simp
 apply List.ext_getElem?
 intro k
 rw [Array.getElem?_toList,getElem?_mirror_all (by omega)]
 subst hi hj
 by_cases c:P.length≤k∧k < P.length + B.length
 ·rw [if_pos c,← Array.getElem?_toList,h,ZD (by omega),ZC (by omega),ZD (by omega),ZC (by simp;omega),List.getElem?_reverse (by omega)]
  congr 1;omega
 ·rw [if_neg c,← Array.getElem?_toList,h]
  by_cases c2:k < P.length
  ·rw [ZC c2,ZC c2]
  ·rw [ZD (by omega),ZD (by omega),ZD (by omega),ZD (by simp;omega)]
   simp
theorem zy (C:Cmp M A E s kd S r){xs:Array Keyed}{i j:Nat}{x y:Keyed}{Q:Option Bool→SortSt→Prop}(hk:kindOf st=kd)(ex:xs[i]? = some x)(ey:xs[j]? = some y)(Sx:S x)(Sy:S y)(h:Q (some (r x y)) (setArr st xs)):wpS M A E s (ltAt' i j) Q (setArr st xs):=by
 rw [ltAt'_eq]
 refine wpS_bind (wpS_get (wpS_bind (bE ex (wpS_bind (bE ey (C.ask Sx Sy hk h))))))
theorem wN {xs:Array Keyed}{P B R:List Keyed}(h:xs.toList=P++(B++R)){i j:Nat}(hi:i=P.length)(hj:j=P.length + B.length){Q:Unit→SortSt→Prop}(q:∀ ys:Array Keyed,ys.toList=P++(B.reverse++R)→Q () (setArr st ys)):wpS M A E s (reverseSlice' i j) Q (setArr st xs):=by
 rw [reverseSlice'_eq]
 exact wpS_modify (q _ (Ou h hi hj))
abbrev lG (r:Keyed→Keyed→Bool) (x y:Keyed):Prop:=r x y=false
def BD (lo n:Nat):SM (ForInStep (Option (Option Nat) × Nat)):=do
 let some e ← ltAt' (lo + n) (lo + n - 1)|pure (.done (some none,n))
 if e then pure (.done (none,n)) else pure (.yield (none,n + 1))
def Ov (lo n q:Nat):SM (ForInStep (Option (Option Nat) × Nat × Nat)):=do
 let some e ← ltAt' (lo + n) (lo + n - 1)|pure (.done (some none,n,q))
 if e then
  if q > 0 then do
   reverseSlice' (lo + n - (q + 1)) (lo + n)
   pure (.yield (none,n + 1,0))
  else pure (.yield (none,n + 1,0))
 else do
  let some f ← ltAt' (lo + n - 1) (lo + n)|pure (.done (some none,n,q))
  if f then pure (.done (none,n,q)) else pure (.yield (none,n + 1,q + 1))
theorem wO {α : Type}{R : α → α → Prop}(tr:∀ {a b c},R a b→R b c→R a c){D:List α}{y x : α}(h:(D++[y]).Pairwise R)(hx:R y x):(D++[y]++[x]).Pairwise R:=by
 rw [List.pairwise_append]
 refine⟨h,List.pairwise_singleton _ _,fun a ha b hb => ?_⟩
 rw [List.mem_singleton] at hb
 subst hb
 rcases List.mem_append.mp ha with ha|ha
 ·exact tr ((List.pairwise_append.mp h).2.2 a ha y (by simp)) hx
 ·rw [List.mem_singleton] at ha;subst ha;exact hx
theorem k6 {α : Type}{D:List α}(h:0 < D.length):∃ F y,D=F++[y]:=⟨D.dropLast,D.getLast (List.ne_nil_of_length_pos h),(List.dropLast_concat_getLast _).symm⟩
theorem BE {α : Type}{xs:Array α}{P F:List α}{y : α}{R:List α}(h:xs.toList=P++(F++[y]++R)):xs[P.length + (F.length + 1) - 1]? = some y:=by
 rw [← Array.getElem?_toList,h,ZD (by omega),ZC (by simp),ZD (by omega)]
 simp
theorem pL {α : Type}{xs:Array α}{P D:List α}{x : α}{R:List α}(h:xs.toList=P++(D++(x :: R))):xs[P.length + D.length]? = some x:=by
 rw [← Array.getElem?_toList,h,ZD (by omega),ZD (by omega)]
 simp
theorem IC (C:Cmp M A E s kd S r)(hk:kindOf st=kd){P D R:List Keyed}(SD:∀ x∈D++R,S x){xs:Array Keyed}(hx:xs.toList=P++(D++R))(h1:0 < D.length)(sD:D.Pairwise (lE r)){nrem:Nat}(hn:nrem=D.length + R.length){β : Type}{f:(Option (Option Nat) × Nat)→SM β}{Q : β → SortSt→Prop}
  (q:∀ D' R',D'++R'=D++R→0 < D'.length→D'.Pairwise (lE r)→(∀ y z F T,D'=F++[y]→R'=z :: T→r z y=true)→wpS M A E s (f (none,D'.length)) Q (setArr st xs)) :
  wpS M A E s (forIn [D.length:nrem] ((none,D.length):Option (Option Nat) × Nat) (fun _ c=>BD P.length c.2) >>= f) Q (setArr st xs):=by
 refine wpS_bind (wpS_mono (wpS_forRange (I:=fun i c st'=>st'=setArr st xs ∧ ∃ D' R',c=(none,D'.length)∧i=D'.length∧D'++R'=D++R∧0 < D'.length∧D'.Pairwise (lE r))
  (Q:=fun c st'=>st'=setArr st xs ∧ ∃ D' R',c=(none,D'.length)∧D'++R'=D++R∧0 < D'.length∧D'.Pairwise (lE r)∧(∀ y z F T,D'=F++[y]→R'=z :: T→r z y=true)) ?step ?fin ⟨rfl,D,R,rfl,rfl,rfl,h1,sD⟩) fun c st' h => ?_)
 case fin =>
  rintro c st' ⟨rfl,D',R',rfl,e,e2,e3,e4⟩
  refine⟨rfl,D',R',rfl,e2,e3,e4,fun y z F T _ eT => ?_⟩
  have:=congrArg List.length e2
  rw [eT] at this
  simp at this
  omega
 case step =>
  rintro i c st' _ hi ⟨rfl,D',R',rfl,e,e2,e3,e4⟩
  have hl:=congrArg List.length e2
  simp at hl
  obtain⟨F,y,rfl⟩:=k6 e3
  cases R' with
  | nil=>simp at hl e;omega
  | cons z T =>
   have hx':xs.toList=P++(F++[y]++(z :: T)):=by rw [hx,← e2]
   have mem:∀ w,w∈F++[y]++(z :: T)→S w:=fun w hw=>SD w (by rw [← e2];exact hw)
   show wpS M A E s (BD P.length (F++[y]).length) _ _
   unfold BD
   have ez:=pL hx'
   have ey:=BE hx'
   rw [show P.length + (F.length + 1) - 1=P.length + (F++[y]).length - 1 by simp] at ey
   refine wpS_bind (zy C hk ez ey (mem z (by simp)) (mem y (by simp)) ?_)
   dsimp only
   cases w:r z y with
   | true =>
    rw [if_pos rfl]
    refine wpS_pure ⟨rfl,F++[y],z :: T,rfl,e2,e3,e4,fun y' z' F' T' h1 h2 => ?_⟩
    have a1:=List.append_inj_right' h1 rfl
    cases h2
    cases a1
    exact w
   | false =>
    rw [if_neg Bool.false_ne_true]
    refine wpS_pure ⟨rfl,F++[y]++[z],T,by simp,by simp at e ⊢;omega,by rw [← e2];simp,by simp,wO (R:=lE r) (fun p q=>C.tr p q) e4 w⟩
 ·obtain⟨rfl,D',R',rfl,e2,e3,e4,e5⟩:=h
  exact q D' R' e2 e3 e4 e5
theorem Ow (C:Cmp M A E s kd S r)(hk:kindOf st=kd){P D R:List Keyed}(SD:∀ x∈D++R,S x){xs:Array Keyed}(hx:xs.toList=P++(D++R))(h1:0 < D.length)(sD:D.Pairwise (lG r)){nrem n:Nat}(hn:nrem=D.length + R.length)(hd:n=D.length){Q:Option Nat→SortSt→Prop}{f:(Option (Option Nat) × Nat)→SM (Option Nat)}(hf:∀ n st,Q (some n) st→wpS M A E s (f (none,n)) Q st)
  (q:∀ ys D' R',ys.toList=P++(D'++R')→D'++R'=D.reverse++R→0 < D'.length→D'.Pairwise (lE r)→Q (some D'.length) (setArr st ys)) :
  wpS M A E s (reverseSlice' P.length (P.length + n) >>= fun _=>forIn [n:nrem] ((none,n):Option (Option Nat) × Nat) (fun _ c=>BD P.length c.2) >>= f) Q (setArr st xs):=by
 subst hd
 refine wpS_bind (wN hx rfl rfl fun ys hy => ?_)
 have hl:D.reverse.length=D.length:=List.length_reverse
 rw [← hl]
 refine IC C hk (fun x hx=>SD x ?_) hy (by rw [hl];exact h1) (List.pairwise_reverse.mpr sD) (by rw [hl];exact hn) fun D' R' e1 e2 e3 _=>hf _ _ (q ys D' R' (by rw [hy,e1]) e1 e2 e3)
 rcases List.mem_append.mp hx with h|h
 ·exact List.mem_append_left _ (List.mem_reverse.mp h)
 ·exact List.mem_append_right _ h
structure DI (r:Keyed→Keyed→Bool) (P W:List Keyed) (ys:Array Keyed) (n q:Nat) (D1 D2 R:List Keyed):Prop where
 hy:ys.toList=P++(D1++D2++R)
 hn:n=D1.length + D2.length
 hq:D2.length=q + 1
 so:(D1++D2).Pairwise (lG r)
 eq:∀ x∈D2,∀ y∈D2,r x y=false
 lt:∀ b∈D2,∀ a∈D1,r b a=true
 pm:Stb r (D1.reverse++(D2++R)) W
theorem Eu {l:List Keyed}{q:Nat}(h:l.length=q + 1)(z:q=0):l.reverse=l:=by
 subst z
 match l,h with
 | [x],_=>rfl
theorem DI.pw {P W:List Keyed}{ys:Array Keyed}{n q:Nat}{D1 D2 R:List Keyed}(d:DI r P W ys n q D1 D2 R):(D1++D2.reverse).Pairwise (lG r):=by
 have so:=List.pairwise_append.mp d.so
 exact List.pairwise_append.mpr ⟨so.1,List.Pairwise.imp_of_mem (R:=fun _ _=>True) (fun {a b} ha hb _=>d.eq a (List.mem_reverse.mp ha) b (List.mem_reverse.mp hb)) (List.pairwise_of_forall fun _ _=>trivial),fun x hx y hy=>so.2.2 x hx y (List.mem_reverse.mp hy)⟩
theorem DI.turn (C:Cmp M A E s kd S r){P W:List Keyed}{ys:Array Keyed}{n q:Nat}{D1 D2 R:List Keyed}(d:DI r P W ys n q D1 D2 R):Stb r ((D1++D2.reverse).reverse++R) W:=by
 rw [List.reverse_append,List.reverse_reverse]
 refine ((Stb.flip (r:=r) C.tr fun b hb a ha=>d.lt b hb a (List.mem_reverse.mp ha)).append_right R).trans ?_
 rw [ZU]
 exact d.pm
theorem DI.down (C:Cmp M A E s kd S r){P W:List Keyed}{ys zs:Array Keyed}{n q:Nat}{D1 D2 R:List Keyed}{h y:Keyed}(d:DI r P W ys n q D1 D2 (h :: R))(hz:zs.toList=P++(D1++D2.reverse++(h :: R)))(hy:y∈D2)(w:r h y=true):DI r P W zs (n + 1) 0 (D1++D2.reverse) [h] R:=by
 have lt:∀ a∈D1++D2.reverse,r h a=true:=fun a ha=>by
  cases z:r h a with
  | true=>rfl
  | false =>
   rcases List.mem_append.mp ha with ha|ha
   ·have:=d.lt y hy a ha
    rw [C.tr z (C.asym w)] at this
    cases this
   ·rw [C.tr (d.eq a (List.mem_reverse.mp ha) y hy) z] at w
    cases w
 refine⟨by rw [hz];simp,by rw [d.hn];simp,rfl,List.pairwise_append.mpr ⟨d.pw,List.pairwise_singleton _ _,fun x hx z hz => ?_⟩,fun x hx z hz => ?_,fun b hb a ha => ?_,d.turn C⟩
 ·rw [List.mem_singleton.mp hz];exact C.asym (lt x hx)
 ·rw [List.mem_singleton] at hx hz;subst hx hz;exact C.refl _
 ·rw [List.mem_singleton.mp hb];exact lt a ha
theorem DI.same (C:Cmp M A E s kd S r){P W:List Keyed}{ys:Array Keyed}{n q:Nat}{D1 D2 R:List Keyed}{h y:Keyed}(d:DI r P W ys n q D1 D2 (h :: R))(hy:y∈D2)(w:r y h=false)(w2:r h y=false):DI r P W ys (n + 1) (q + 1) D1 (D2++[h]) R:=by
 have so:=List.pairwise_append.mp d.so
 have e1:∀ x∈D2,r x h=false:=fun x hx=>C.tr w (d.eq x hx y hy)
 have e2:∀ x∈D2,r h x=false:=fun x hx=>C.tr (d.eq y hy x hx) w2
 refine⟨by rw [d.hy];simp,by rw [d.hn];simp;omega,by simp [d.hq],?_,fun x hx z hz => ?_,fun b hb a ha => ?_,by simpa using d.pm⟩
 ·rw [← ZU]
  refine List.pairwise_append.mpr ⟨d.so,List.pairwise_singleton _ _,fun x hx z hz => ?_⟩
  rw [List.mem_singleton] at hz
  subst hz
  rcases List.mem_append.mp hx with hx|hx
  ·exact C.tr w (so.2.2 x hx y hy)
  ·exact e1 x hx
 ·rcases List.mem_append.mp hx with hx|hx<;>rcases List.mem_append.mp hz with hz|hz
  ·exact d.eq x hx z hz
  ·rw [List.mem_singleton] at hz;rw [hz];exact e1 x (by assumption)
  ·rw [List.mem_singleton] at hx;rw [hx];exact e2 z (by assumption)
  ·rw [List.mem_singleton] at hx hz;subst hx hz;exact C.refl _
 ·rcases List.mem_append.mp hb with hb|hb
  ·exact d.lt b hb a ha
  ·rw [List.mem_singleton.mp hb]
   cases z:r h a with
   | true=>rfl
   | false =>
    have:=d.lt y hy a ha
    rw [C.tr z w] at this
    cases this
theorem ID (C:Cmp M A E s kd S r)(hk:kindOf st=kd){P D R W:List Keyed}{z:Keyed}(SW:∀ x∈W,S x){xs:Array Keyed}(hx:xs.toList=P++(D++(z :: R)))(hp:Stb r (D.reverse++(z :: R)) W)(hlt:∀ a∈D,r z a=true)(sD:(D++[z]).Pairwise (lG r)){nrem n:Nat}(hn:nrem=W.length)(hd:n=D.length){Q:Option Nat→SortSt→Prop}{g:(Option (Option Nat) × Nat × Nat)→SM (Option Nat)}
  (hg:∀ ys D1 D2 R' n q,DI r P W ys n q D1 D2 R'→wpS M A E s (g (none,n,q)) Q (setArr st ys)) :
  wpS M A E s (liftM (rule "list.sort.descending-run") >>= fun _=>forIn [n + 1:nrem] ((none,n + 1,0):Option (Option Nat) × Nat × Nat) (fun _ c=>Ov P.length c.2.1 c.2.2) >>= g) Q (setArr st xs):=by
 subst hd
 have d0:DI r P W xs (D.length + 1) 0 D [z] R:=⟨by rw [hx];simp,rfl,rfl,sD,fun x hx y hy=>by rw [List.mem_singleton] at hx hy;subst hx hy;exact C.refl _,fun b hb a ha=>by rw [List.mem_singleton.mp hb];exact hlt a ha,hp⟩
 refine wpS_bind (iu (wpS_bind (wpS_mono (wpS_forRange (I:=fun i c st'=>∃ ys D1 D2 R' n q,st'=setArr st ys∧c=(none,n,q)∧i=n∧DI r P W ys n q D1 D2 R')
  (Q:=fun c st'=>∃ ys D1 D2 R' n q,st'=setArr st ys∧c=(none,n,q)∧DI r P W ys n q D1 D2 R') ?step ?fin ⟨xs,D,[z],R,D.length + 1,0,rfl,rfl,rfl,d0⟩) fun c st' h => ?_)))
 case fin =>
  rintro c st' ⟨ys,D1,D2,R',n,q,rfl,rfl,_,d⟩
  exact⟨ys,D1,D2,R',n,q,rfl,rfl,d⟩
 case step =>
  rintro i c st' _ hi ⟨ys,D1,D2,R',n,q,rfl,rfl,rfl,d⟩
  have hl:=d.pm.length_eq
  have hn2:=d.hn
  simp at hl
  have l2:0 < D2.length:=by rw [d.hq];omega
  cases R' with
  | nil=>simp at hl;omega
  | cons h T =>
   have mem:∀ w,w∈D1++D2++(h :: T)→S w:=fun w hw=>SW w (d.pm.mem_iff.mp (by simpa using hw))
   obtain⟨F,y,hF⟩:=k6 l2
   have yD:y∈D2:=by rw [hF];simp
   have ez:ys[P.length + i]? = some h:=by
    have:=pL (P:=P) (D:=D1++D2) d.hy
    rw [ZB,← hn2] at this
    exact this
   have ey:ys[P.length + i - 1]? = some y:=by
    have:=BE (P:=P) (F:=D1++F) (y:=y) (R:=h :: T) (xs:=ys) (by rw [d.hy,hF];simp)
    rw [← this]
    congr 1
    rw [hn2,hF];simp;omega
   show wpS M A E s (Ov P.length i q) _ _
   unfold Ov
   refine wpS_bind (zy C hk ez ey (mem h (by simp)) (mem y (by simp [yD])) ?_)
   dsimp only
   cases w:r h y with
   | true =>
    rw [if_pos rfl]
    refine dg (fun _ => ?_) fun cq => ?_
    ·refine wpS_bind (wN (P:=P++D1) (B:=D2) (R:=h :: T) (by rw [d.hy];simp only [ZU]) (by rw [ZB,hn2,d.hq];omega) (by rw [ZB,hn2];omega) fun zs hz=>wpS_pure ?_)
     exact⟨zs,D1++D2.reverse,[h],T,i + 1,0,rfl,rfl,rfl,d.down C (by rw [hz];simp only [ZU]) yD w⟩
    ·exact wpS_pure ⟨ys,D1++D2.reverse,[h],T,i + 1,0,rfl,rfl,rfl,d.down C (by rw [Eu d.hq (by omega),d.hy]) yD w⟩
   | false =>
    rw [if_neg Bool.false_ne_true]
    refine wpS_bind (zy C hk ey ez (mem y (by simp [yD])) (mem h (by simp)) ?_)
    dsimp only
    cases w2:r y h with
    | true=>rw [if_pos rfl];exact wpS_pure ⟨ys,D1,D2,h :: T,i,q,rfl,rfl,d⟩
    | false=>rw [if_neg Bool.false_ne_true];exact wpS_pure ⟨ys,D1,D2++[h],T,i + 1,q + 1,rfl,rfl,rfl,d.same C yD w2 w⟩
 ·obtain⟨ys,D1,D2,R',n,q',rfl,rfl,d⟩:=h
  exact hg ys D1 D2 R' n q' d
theorem IE (C:Cmp M A E s kd S r)(hk:kindOf st=kd){P W:List Keyed}(SW:∀ x∈W,S x){nrem:Nat}(hn:nrem=W.length){Q:Option Nat→SortSt→Prop}{ys:Array Keyed}{D1 D2 R':List Keyed}{n q':Nat}(d:DI r P W ys n q' D1 D2 R'){f:(Option (Option Nat) × Nat)→SM (Option Nat)}(hf:∀ n st,Q (some n) st→wpS M A E s (f (none,n)) Q st)
  (q:∀ ys D' R',ys.toList=P++(D'++R')→Stb r (D'++R') W→0 < D'.length→D'.Pairwise (lE r)→Q (some D'.length) (setArr st ys)) :
  wpS M A E s (if q' > 0 then (reverseSlice' (P.length + n - (q' + 1)) (P.length + n) >>= fun _=>reverseSlice' P.length (P.length + n) >>= fun _=>forIn [n:nrem] ((none,n):Option (Option Nat) × Nat) (fun _ c=>BD P.length c.2) >>= f)
   else (reverseSlice' P.length (P.length + n) >>= fun _=>forIn [n:nrem] ((none,n):Option (Option Nat) × Nat) (fun _ c=>BD P.length c.2) >>= f)) Q (setArr st ys):=by
 have hl:=d.pm.length_eq
 have l2:0 < D2.length:=by rw [d.hq];omega
 have hn2:=d.hn
 have lw:nrem=(D1++D2.reverse).length + R'.length:=by rw [hn,← hl];simp;omega
 have mem:∀ w,w∈D1++D2.reverse++R'→S w:=fun w hw=>SW w (d.pm.mem_iff.mp (by simpa using hw))
 have go:∀ {zs:Array Keyed},zs.toList=P++(D1++D2.reverse++R')→wpS M A E s (reverseSlice' P.length (P.length + n) >>= fun _=>forIn [n:nrem] ((none,n):Option (Option Nat) × Nat) (fun _ c=>BD P.length c.2) >>= f) Q (setArr st zs):=fun {zs} hz =>
  Ow C hk mem hz (by simp;omega) d.pw lw (by rw [hn2];simp) hf fun ys D' R2 e1 e2 e3 e4=>q ys D' R2 e1 (by rw [e2];exact d.turn C) e3 e4
 refine dg (fun _ => ?_) fun cq => ?_
 ·refine wpS_bind (wN (P:=P++D1) (B:=D2) (R:=R') (by rw [d.hy];simp only [ZU]) (by rw [ZB,hn2,d.hq];omega) (by rw [ZB,hn2];omega) fun zs hz=>go (by rw [hz];simp only [ZU]))
 ·exact go (by rw [Eu d.hq (by omega),d.hy])
theorem P5 (C:Cmp M A E s kd S r)(hk:kindOf st=kd){P W:List Keyed}(SW:∀ x∈W,S x){xs:Array Keyed}(hx:xs.toList=P++W)(h1:0 < W.length){Q:Option Nat→SortSt→Prop}
  (q:∀ ys D' R',ys.toList=P++(D'++R')→Stb r (D'++R') W→0 < D'.length→D'.Pairwise (lE r)→Q (some D'.length) (setArr st ys)):wpS M A E s (countRun' P.length W.length) Q (setArr st xs):=by
 obtain⟨w0,W',rfl⟩ : ∃ w0 W',W=w0 :: W':=by cases W with|nil=>simp at h1|cons a b=>exact⟨a,b,rfl⟩
 rw [countRun'_eq]
 refine IC (D:=[w0]) (R:=W') C hk SW hx (by simp) (List.pairwise_singleton _ _) (by simp;omega) (f:=_) fun D' R' e1 e2 e3 e4 => ?_
 dsimp only
 have hx':xs.toList=P++(D'++R'):=by rw [hx,e1];rfl
 have pm:Stb r (D'++R') (w0 :: W'):=by rw [e1];exact Stb.refl _
 have hl:=congrArg List.length e1
 simp at hl
 refine dg (fun c=>wpS_pure (q xs D' R' hx' pm e2 e3)) fun c => ?_
 cases R' with
 | nil=>simp at c hl;omega
 | cons z T =>
  obtain⟨F,y,hF⟩:=k6 e2
  have w:=e4 y z F T hF rfl
  have mem:∀ v,v∈D'++(z :: T)→S v:=fun v hv=>SW v (pm.mem_iff.mp hv)
  have ey:xs[P.length + D'.length - 1]? = some y:=by
   have:=BE (P:=P) (F:=F) (y:=y) (R:=z :: T) (xs:=xs) (by rw [hx',hF])
   rw [← this,hF];simp
  refine dg (fun c2 => ?_) fun c2 => ?_
  ·obtain⟨x0,D2,hD⟩ : ∃ x0 D2,D'=x0 :: D2:=by cases D' with|nil=>simp at e2|cons a b=>exact⟨a,b,rfl⟩
   have ex:xs[P.length]? = some x0:=by
    have:=pL (P:=P) (D:=[]) (x:=x0) (R:=D2++(z :: T)) (xs:=xs) (by rw [hx',hD];rfl)
    simpa using this
   refine wpS_bind (zy C hk ex ey (mem x0 (by rw [hD];simp)) (mem y (by rw [hF];simp)) ?_)
   dsimp only
   cases w2:r x0 y with
   | true=>rw [if_pos rfl];exact wpS_pure (q xs D' (z :: T) hx' pm e2 e3)
   | false =>
    rw [if_neg Bool.false_ne_true]
    refine wpS_bind (wN hx' rfl rfl fun ys hy => ?_)
    have wz:r z x0=true:=by
     cases h:r z x0 with
     | true=>rfl
     | false=>rw [C.tr w2 h] at w;cases w
    refine ID (D:=D'.reverse) C hk SW hy (by rw [List.reverse_reverse];exact pm) (fun a ha => ?_) ?_ rfl (by simp) fun ys D1 D2 R' n q' d=>IE C hk SW rfl d (fun n st h=>wpS_pure h) q
    ·cases za:r z a with
     | true=>rfl
     | false =>
      have ha:=List.mem_reverse.mp ha
      rw [hD] at ha e3
      rcases List.mem_cons.mp ha with rfl|ha
      ·rw [wz] at za;cases za
      ·rw [C.tr ((List.pairwise_cons.mp e3).1 a ha) za] at wz;cases wz
    rw [hD,List.reverse_cons]
    refine wO (R:=lG r) (fun p q=>C.tr q p) ?_ (C.asym wz)
    rw [← List.reverse_cons,← hD]
    exact List.pairwise_reverse.mpr e3
  ·have d1:D'=[y]:=by
    have:D'.length=1:=by omega
    rw [hF] at this ⊢
    have:F=[]:=by simpa using this
    rw [this];rfl
   refine ID (D:=D') C hk SW hx' (by rw [d1];rw [d1] at pm;exact pm) (fun a ha=>by rw [d1] at ha;rw [List.mem_singleton.mp ha];exact w) ?_ rfl rfl fun ys D1 D2 R' n q' d=>IE C hk SW rfl d (fun n st h=>wpS_pure h) q
   rw [d1]
   exact wO (R:=lG r) (D:=[]) (fun p q=>C.tr q p) (List.pairwise_singleton _ _) (C.asym w)
end
end Ts
namespace Ts
open PySem PyProof.Rows
section
variable {M:Model} {A:Around} {E:Value→Shared→Prop} {s:Shared} {kd:SortKind} {S:Keyed→Prop} {r:Keyed→Keyed→Bool} {st:SortSt}
theorem Ox {α : Type}{xs:Array α}{P B R:List α}{x : α}(h:xs.toList=P++(B++(x :: R))){i d:Nat}(hi:i=P.length + B.length)(hd:d=B.length):(bubble xs i d).toList=P++(x :: (B++R)):=by
 have sz:xs.size=P.length + (B.length + (R.length + 1)):=by rw [← Array.length_toList,h];simp
 subst hi hd
 apply List.ext_getElem?
 intro k
 rw [Array.getElem?_toList,getElem?_bubble (by omega) _ (by omega),show P.length + B.length - B.length=P.length by omega]
 by_cases c:k=P.length
 ·rw [if_pos c,← Array.getElem?_toList,h,c,ZD (by omega),ZD (by omega),ZD (by omega)]
  simp
 ·rw [if_neg c]
  by_cases c2:P.length < k∧k≤P.length + B.length
  ·rw [if_pos c2,← Array.getElem?_toList,h,ZD (by omega),ZC (by omega),ZD (by omega)]
   obtain⟨m,hm⟩ : ∃ m,k=P.length + (m + 1):=⟨k - P.length - 1,by omega⟩
   subst hm
   rw [show P.length + (m + 1) - P.length=m + 1 by omega,List.getElem?_cons_succ,ZC (by omega)]
   congr 1;omega
  ·rw [if_neg c2,← Array.getElem?_toList,h]
   by_cases c3:k < P.length
   ·rw [ZC c3,ZC c3]
   ·obtain⟨m,hm⟩ : ∃ m,k=P.length + (B.length + (m + 1)):=⟨k - P.length - B.length - 1,by omega⟩
    subst hm
    rw [ZD (by omega),ZD (by omega),ZD (by omega)]
    rw [show P.length + (B.length + (m + 1)) - P.length - B.length=m + 1 by omega,List.getElem?_cons_succ,show P.length + (B.length + (m + 1)) - P.length=(B.length + m) + 1 by omega,List.getElem?_cons_succ,ZD (by omega)]
    congr 1;omega
def P6 (lo k l u:Nat):SM (ForInStep (Option Bool × Nat × Nat)):=do
 let some e ← ltAt' (lo + k) (lo + (l + u) / 2)|pure (.done (some false,l,u))
 if e then pure (.yield (none,l,(l + u) / 2)) else pure (.yield (none,(l + u) / 2 + 1,u))
theorem P7 (C:Cmp M A E s kd S r)(hk:kindOf st=kd){P W:List Keyed}(SW:∀ x∈W,S x){xs:Array Keyed}{D R:List Keyed}(hx:xs.toList=P++(D++R))(pm:Stb r (D++R) W)(h1:0 < D.length)(sD:D.Pairwise (lE r)){n:Nat}(hn:D.length≤n)(hn2:n≤W.length){Q:Bool→SortSt→Prop}
  (q:∀ ys D' R',ys.toList=P++(D'++R')→Stb r (D'++R') W→D'.length=n→D'.Pairwise (lE r)→Q true (setArr st ys)):wpS M A E s (binarySort' P.length n D.length) Q (setArr st xs):=by
 rw [binarySort'_eq]
 refine wpS_bind (wpS_mono (wpS_forRange (I:=fun k c st'=>∃ ys D' R',st'=setArr st ys∧c=(none,())∧ys.toList=P++(D'++R')∧Stb r (D'++R') W∧D'.length=k∧D'.Pairwise (lE r))
  (Q:=fun c st'=>∃ ys D' R',st'=setArr st ys∧c=(none,())∧ys.toList=P++(D'++R')∧Stb r (D'++R') W∧D'.length=n∧D'.Pairwise (lE r)) ?step ?fin ⟨xs,D,R,rfl,rfl,hx,pm,by omega,sD⟩) fun c st' h => ?_)
 case fin =>
  rintro c st' ⟨ys,D',R',rfl,rfl,e1,e2,e3,e4⟩
  exact⟨ys,D',R',rfl,rfl,e1,e2,by omega,e4⟩
 case step =>
  rintro k c st' hk1 hkn ⟨ys,D',R',rfl,rfl,e1,e2,e3,e4⟩
  have hl:=e2.length_eq
  simp at hl
  cases R' with
  | nil=>simp at hl;omega
  | cons x T =>
   have mem:∀ w,w∈D'++(x :: T)→S w:=fun w hw=>SW w (e2.mem_iff.mp hw)
   have ex:ys[P.length + k]? = some x:=by have:=pL e1;rw [e3] at this;exact this
   refine wpS_bind (wpS_mono (wpS_forRange (I:=fun i c st'=>st'=setArr st ys ∧ ∃ l u,c=(none,l,u)∧l≤u∧u≤k∧(∀ d (hd:d < D'.length),d < l→lE r D'[d] x)∧(∀ d (hd:d < D'.length),u≤d→r x D'[d] = true)∧u - l + i≤k)
    (Q:=fun c st'=>st'=setArr st ys ∧ ∃ l,c=(none,l,l)∧l≤k∧(∀ d (hd:d < D'.length),d < l→lE r D'[d] x)∧(∀ d (hd:d < D'.length),l≤d→r x D'[d] = true)) ?s2 ?f2 ⟨rfl,0,k,rfl,Nat.zero_le _,ZL _,fun d hd h=>absurd h (Nat.not_lt_zero _),fun d hd h=>by omega,by omega⟩) fun c st' h => ?_)
   case f2 =>
    rintro c st' ⟨rfl,l,u,rfl,g1,g2,g3,g4,g5⟩
    have:l=u:=by omega
    subst this
    exact⟨rfl,l,rfl,g2,g3,g4⟩
   case s2 =>
    rintro i c st' _ _ ⟨rfl,l,u,rfl,g1,g2,g3,g4,g5⟩
    dsimp only
    by_cases cc:l ≥ u
    ·rw [if_pos cc]
     have:l=u:=by omega
     subst this
     exact wpS_pure ⟨rfl,l,rfl,g2,g3,g4⟩
    ·rw [if_neg cc]
     have hm:(l + u) / 2 < D'.length:=by omega
     have em:ys[P.length + (l + u) / 2]? = some (D'[(l + u) / 2]):=by
      rw [qv e1 _ hm];exact ZE hm
     show wpS M A E s (P6 P.length k l u) _ _
     unfold P6
     refine wpS_bind (zy C hk ex em (mem x (by simp)) (mem _ (List.mem_append_left _ (List.getElem_mem hm))) ?_)
     dsimp only
     have mono:∀ d e (hd:d < D'.length) (he:e < D'.length),d≤e→lE r D'[d] D'[e]:=fun d e hd he hde=>by
      by_cases z:d=e
      ·subst z;exact C.refl _
      ·exact List.pairwise_iff_getElem.mp e4 d e hd he (by omega)
     cases w:r x D'[(l + u) / 2] with
     | true =>
      rw [if_pos rfl]
      refine wpS_pure ⟨rfl,l,(l + u) / 2,rfl,by omega,by omega,g3,fun d hd h => ?_,by omega⟩
      cases w2:r x D'[d] with
      | true=>rfl
      | false=>rw [C.tr (mono _ d hm hd h) w2] at w;cases w
     | false =>
      rw [if_neg Bool.false_ne_true]
      exact wpS_pure ⟨rfl,(l + u) / 2 + 1,u,rfl,by omega,g2,fun d hd h=>C.tr (mono d _ hd hm (by omega)) w,g4,by omega⟩
   ·obtain⟨rfl,l,rfl,g2,g3,g4⟩:=h
    dsimp only
    rw [moveDown'_eq]
    have lk:l≤D'.length:=by omega
    have D12:D'=D'.take l++D'.drop l:=(List.take_append_drop l D').symm
    have tl:(D'.take l).length=l:=by simp;omega
    have hb:=Ox (xs:=ys) (P:=P++D'.take l) (B:=D'.drop l) (x:=x) (R:=T) (i:=P.length + k) (d:=P.length + k - (P.length + l)) (by
     rw [e1];conv=>lhs;rw [D12]
     simp only [ZU]) (by simp;omega) (by simp;omega)
    have so:=e4
    rw [D12,List.pairwise_append] at so
    refine wpS_bind (wpS_modify (wpS_pure ⟨_,D'.take l++(x :: D'.drop l),T,rfl,rfl,by rw [hb];simp only [ZU,List.cons_append],?_,by simp;omega,?_⟩))
    ·refine Stb.trans ?_ e2
     have fl:Stb r ([x]++D'.drop l) (D'.drop l++[x]):=Stb.flip (r:=r) C.tr fun b hb a ha=>by
      obtain⟨d,hd,e⟩:=List.mem_drop_iff_getElem.mp ha
      rw [List.mem_singleton.mp hb,← e]
      exact g4 (l + d) (by omega) (by omega)
     have:=(fl.append_left (D'.take l)).append_right T
     rw [← ZU (D'.take l) (D'.drop l),List.take_append_drop] at this
     simpa using this
    ·rw [List.pairwise_append]
     have dm:∀ y∈D'.drop l,lE r x y:=fun y hy=>by
      obtain⟨d,hd,e⟩:=List.mem_drop_iff_getElem.mp hy
      rw [← e]
      exact C.asym (g4 (l + d) (by omega) (by omega))
     have tm:∀ y∈D'.take l,lE r y x:=fun y hy=>by
      obtain⟨d,hd,e⟩:=List.mem_take_iff_getElem.mp hy
      rw [← e]
      exact g3 d (by omega) (by omega)
     refine⟨so.1,List.pairwise_cons.mpr ⟨dm,so.2.1⟩,fun y hy z hz => ?_⟩
     rcases List.mem_cons.mp hz with rfl|hz
     ·exact tm y hy
     ·exact so.2.2 y hy z hz
 ·obtain⟨ys,D',R',rfl,rfl,e1,e2,e3,e4⟩:=h
  exact wpS_pure (q ys D' R' e1 e2 e3 e4)
end
end Ts
namespace Ts
open PySem PyProof.Rows
section
variable {M:Model} {A:Around} {E:Value→Shared→Prop} {s:Shared} {kd:SortKind} {S:Keyed→Prop} {r:Keyed→Keyed→Bool} {st:SortSt}
inductive Rn (r:Keyed→Keyed→Bool):Nat→List (List Keyed)→List (Nat × Nat × Nat)→Prop
 | nil (b:Nat):Rn r b [] []
 | cons {b e:Nat} {D:List Keyed} {Ds:List (List Keyed)} {ps:List (Nat × Nat × Nat)}:D≠[]→D.Pairwise (lE r)→Rn r (b + D.length) Ds ps→Rn r b (D :: Ds) ((b,D.length,e) :: ps)
theorem Rn.split {ps:List (Nat × Nat × Nat)}:∀ {i b:Nat} {Ds:List (List Keyed)} {ps:List (Nat × Nat × Nat)},Rn r b Ds ps→i < ps.length → ∃ Ds1 Ds2 ps1 ps2,Ds=Ds1++Ds2∧ps=ps1++ps2∧ps1.length=i∧Rn r (b + Ds1.flatten.length) Ds2 ps2 ∧ ∀ Ds3 ps3,Rn r (b + Ds1.flatten.length) Ds3 ps3→Rn r b (Ds1++Ds3) (ps1++ps3)
 | 0,b,Ds,ps,h,_=>⟨[],Ds,[],ps,rfl,rfl,rfl,h,fun _ _ h=>h⟩
 | i + 1,b,_,_,.nil _,hi=>by simp at hi
 | i + 1,b,_,_,.cons (D:=D) (e:=e) nD sD h,hi=>by
  obtain⟨Ds1,Ds2,ps1,ps2,e1,e2,e3,e4,e5⟩:=Rn.split (ps:=[]) (i:=i) h (by simpa using hi)
  refine⟨D :: Ds1,Ds2,(b,D.length,e) :: ps1,ps2,by rw [e1];rfl,by rw [e2];rfl,by simp [e3],?_,fun Ds3 ps3 h3=>.cons nD sD (e5 Ds3 ps3 ?_)⟩
  ·rw [List.flatten_cons,ZB,← Nat.add_assoc];exact e4
  ·rw [List.flatten_cons,ZB,← Nat.add_assoc] at h3;exact h3
theorem Rn.len {b:Nat}{Ds:List (List Keyed)}{ps:List (Nat × Nat × Nat)}(h:Rn r b Ds ps):ps.length=Ds.length∧ps.length≤Ds.flatten.length:=by
 induction h with
 | nil=>simp
 | @cons b e D Ds ps nD sD h ih =>
  have:=List.length_pos_iff.mpr nD
  simp
  simp at ih
  omega
theorem Rn.snoc {e:Nat}{D:List Keyed}(nD:D≠[])(sD:D.Pairwise (lE r)){b:Nat}{Ds:List (List Keyed)}{ps:List (Nat × Nat × Nat)}(h:Rn r b Ds ps):Rn r b (Ds++[D]) (ps++[(b + Ds.flatten.length,D.length,e)]):=by
 induction h with
 | nil b=>exact .cons nD sD (.nil _)
 | @cons b e' D' Ds ps nD' sD' h ih =>
  refine .cons nD' sD' ?_
  rw [List.flatten_cons,ZB,← Nat.add_assoc]
  exact ih
theorem Rn.mod {w:Nat}{b:Nat}{Ds:List (List Keyed)}{ps:List (Nat × Nat × Nat)}(h:Rn r b Ds ps):∀ i,Rn r b Ds (ps.modify i fun q=>(q.1,q.2.1,w)):=by
 induction h with
 | nil b=>intro i;cases i<;>exact .nil _
 | @cons b e' D' Ds ps nD' sD' h ih =>
  intro i
  cases i with
  | zero=>exact .cons nD' sD' h
  | succ i=>exact .cons nD' sD' (ih i)
structure SI (r:Keyed→Keyed→Bool) (a0 W:List Keyed) (xs:Array Keyed) (pd:Array (Nat × Nat × Nat)) (Ds:List (List Keyed)):Prop where
 hx:xs.toList=Ds.flatten++W
 rn:Rn r 0 Ds pd.toList
 pm:Stb r xs.toList a0
abbrev sta (kd:SortKind) (xs:Array Keyed) (pd:Array (Nat × Nat × Nat)) (g:Nat):SortSt:=SortSt.mk' kd xs pd g none
theorem Mp (C:Cmp M A E s kd S r){a0 W:List Keyed}(S0:∀ x∈a0,S x){xs:Array Keyed}{pd:Array (Nat × Nat × Nat)}{Ds:List (List Keyed)}{g i:Nat}(h:SI r a0 W xs pd Ds)(hi:i + 1 < pd.size){Q:Bool→SortSt→Prop}
  (q:∀ xs' pd' Ds' g',SI r a0 W xs' pd' Ds'→pd'.size + 1=pd.size→Ds'.flatten.length=Ds.flatten.length→Q true (sta kd xs' pd' g')):wpS M A E s (mergeAt' i) Q (sta kd xs pd g):=by
 obtain⟨Ds1,Ds2,ps1,ps2,e1,e2,e3,e4,e5⟩:=Rn.split (ps:=[]) (i:=i) h.rn (by simp;omega)
 rw [Nat.zero_add] at e4 e5
 have hl:pd.size=ps1.length + ps2.length:=by rw [← Array.length_toList,e2,ZB]
 cases e4 with
 | nil=>simp at hl;omega
 | @cons _ e X Ds3 ps3 nX sX h3 =>
  cases h3 with
  | nil=>simp at hl;omega
  | @cons _ e' Y Ds4 ps4 nY sY h4 =>
   have hxs:xs.toList=Ds1.flatten++(X++(Y++(Ds4.flatten++W))):=by rw [h.hx,e1];simp
   have mem:∀ x∈xs.toList,S x:=fun x hx=>S0 x (h.pm.mem_iff.mp hx)
   have p1:pd[i]? = some (Ds1.flatten.length,X.length,e):=by
    rw [← Array.getElem?_toList,e2,ZD (by omega),e3];simp
   have p2:pd[i + 1]? = some (Ds1.flatten.length + X.length,Y.length,e'):=by
    rw [← Array.getElem?_toList,e2,ZD (by omega),e3];simp
   refine Ot (st:=sta kd xs pd g) C rfl rfl hxs p1 p2 (fun y hy=>mem y (by rw [hxs];simp [hy])) (fun y hy=>mem y (by rw [hxs];simp [hy])) sX sY nX nY fun Z gg ys z1 z2 z3 => ?_
   have zl:Z.length=X.length + Y.length:=by rw [z1.length_eq,ZB]
   have pl:((pd.setIfInBounds i (Ds1.flatten.length,X.length + Y.length,e)).eraseIdxIfInBounds (i + 1)).toList=ps1++(Ds1.flatten.length,Z.length,e) :: ps4:=by
    rw [Array.toList_eraseIdxIfInBounds,Array.toList_setIfInBounds,e2,← e3,zl]
    simp [List.set_append,List.eraseIdx_append]
    intro z;omega
   refine q ys _ (Ds1++Z :: Ds4) gg ⟨by rw [z3];simp,?_,?_⟩ ?_ ?_
   ·show Rn r 0 _ (Array.toList _)
    rw [pl]
    refine e5 (Z :: Ds4) _ (.cons ?_ z2 ?_)
    ·intro z;rw [z] at zl;have:=List.length_pos_iff.mpr nX;simp at zl;omega
    ·rw [zl,← Nat.add_assoc];exact h4
   ·refine Stb.trans ?_ h.pm
    rw [z3,hxs]
    refine Stb.append_left _ ?_
    have:=z1.append_right (Ds4.flatten++W)
    simpa only [ZU] using this
   ·have:=congrArg List.length pl
    rw [Array.length_toList] at this
    show (Array.size _) + 1=_
    rw [this,hl];simp;omega
   ·rw [e1];simp [zl];omega
def mB (pw:Nat):SM (ForInStep (Option Unit × Unit)):=do
 let st ← get
 let some (_,_,older):=(if (pendingOf st).size > 1 then (pendingOf st)[(pendingOf st).size - 2]? else none)|pure (.done (none,()))
 if older≤pw then pure (.done (none,()))
 else do
  let b ← mergeAt' ((pendingOf st).size - 2)
  if !b then pure (.done (some (),())) else pure (.yield (none,()))
theorem IG (C:Cmp M A E s kd S r){a0 W:List Keyed}(S0:∀ x∈a0,S x){xs:Array Keyed}{pd:Array (Nat × Nat × Nat)}{Ds:List (List Keyed)}{g:Nat}(h:SI r a0 W xs pd Ds){size pw:Nat}{β : Type}{K:(Option Unit × Unit)→SM β}{Q : β → SortSt→Prop}
  (q:∀ xs' pd' Ds' g',SI r a0 W xs' pd' Ds'→Ds'.flatten.length=Ds.flatten.length→wpS M A E s (K (none,())) Q (sta kd xs' pd' g')):wpS M A E s (forIn [:size] ((none,()):Option Unit × Unit) (fun _ _=>mB pw) >>= K) Q (sta kd xs pd g):=by
 refine wpS_bind (wpS_mono (wpS_forRange (I:=fun _ c st'=>∃ xs' pd' Ds' g',st'=sta kd xs' pd' g'∧c=(none,())∧SI r a0 W xs' pd' Ds'∧Ds'.flatten.length=Ds.flatten.length)
  (Q:=fun c st'=>∃ xs' pd' Ds' g',st'=sta kd xs' pd' g'∧c=(none,())∧SI r a0 W xs' pd' Ds'∧Ds'.flatten.length=Ds.flatten.length) ?step ?fin ⟨xs,pd,Ds,g,rfl,rfl,h,rfl⟩) fun c st' h => ?_)
 case fin=>exact fun c st' h=>h
 case step =>
  rintro i c st' _ _ ⟨xs',pd',Ds',g',rfl,rfl,si,hl⟩
  unfold mB
  refine wpS_bind (wpS_get ?_)
  by_cases c:pd'.size > 1
  ·have e:(if (pendingOf (sta kd xs' pd' g')).size > 1 then (pendingOf (sta kd xs' pd' g'))[(pendingOf (sta kd xs' pd' g')).size - 2]? else none)=some (pd'[pd'.size - 2]'(by omega)):=by
    rw [if_pos c];exact Array.getElem?_eq_getElem (show pd'.size - 2 < pd'.size by omega)
   rw [e]
   refine dg (fun _=>wpS_pure ⟨xs',pd',Ds',g',rfl,rfl,si,hl⟩) fun _ => ?_
   refine wpS_bind (Mp (i:=pd'.size - 2) C S0 si (by omega) fun xs2 pd2 Ds2 g2 si2 _ hl2 => ?_)
   exact wpS_pure ⟨xs2,pd2,Ds2,g2,rfl,rfl,si2,hl2.trans hl⟩
  ·have e:(if (pendingOf (sta kd xs' pd' g')).size > 1 then (pendingOf (sta kd xs' pd' g'))[(pendingOf (sta kd xs' pd' g')).size - 2]? else none)=none:=if_neg c
   rw [e]
   exact wpS_pure ⟨xs',pd',Ds',g',rfl,rfl,si,hl⟩
 ·obtain⟨xs',pd',Ds',g',rfl,rfl,si,hl⟩:=h
  exact q xs' pd' Ds' g' si hl
theorem Li (C:Cmp M A E s kd S r){a0:Array Keyed}(S0:∀ x∈a0.toList,S x)(h1:0 < a0.size){g0:Nat}{Q:Unit→SortSt→Prop}
  (q:∀ xs pd g,Stb r xs.toList a0.toList→xs.toList.Pairwise (lE r)→Q () (sta kd xs pd g)):wpS M A E s sortRuns' Q (sta kd a0 #[] g0):=by
 obtain⟨a0l,ha0⟩ : ∃ l,l=a0.toList:=⟨_,rfl⟩
 rw [sortRuns'_eq]
 refine wpS_bind (wpS_get ?_)
 have hsz:a0.size=a0l.length:=by rw [ha0];simp
 have si0:SI r a0l a0l a0 #[] []:=⟨by rw [ha0];rfl,.nil 0,by rw [ha0];exact Stb.refl _⟩
 rw [← ha0] at S0
 show wpS M A E s (forIn [:a0.size] ((none,0):Option Unit × Nat) _ >>= _) _ _
 refine wpS_bind (wpS_mono (wpS_forRange (I:=fun i c st'=>∃ xs pd Ds W g,st'=sta kd xs pd g∧c=(none,Ds.flatten.length)∧SI r a0l W xs pd Ds∧i≤Ds.flatten.length)
  (Q:=fun c st'=>∃ xs pd Ds g,st'=sta kd xs pd g∧c=(none,Ds.flatten.length)∧SI r a0l [] xs pd Ds) ?step ?fin ⟨a0,#[],[],a0l,g0,rfl,rfl,si0,Nat.zero_le _⟩) fun c st' h => ?_)
 case fin =>
  rintro c st' ⟨xs,pd,Ds,W,g,rfl,rfl,si,hli⟩
  have tot:=si.pm.length_eq
  rw [si.hx,ZB] at tot
  have:W=[]:=List.length_eq_zero_iff.mp (by omega)
  subst this
  exact⟨xs,pd,Ds,g,rfl,rfl,si⟩
 case step =>
  rintro i c st' _ hi ⟨xs,pd,Ds,W,g,rfl,rfl,si,hli⟩
  have tot:=si.pm.length_eq
  rw [si.hx,ZB] at tot
  refine dg (fun c=>wpS_pure ?_) fun c => ?_
  ·have c:Ds.flatten.length ≥ a0.size:=c
   have:W=[]:=List.length_eq_zero_iff.mp (by omega)
   subst this
   exact⟨xs,pd,Ds,g,rfl,rfl,si⟩
  ·have c : ¬ Ds.flatten.length ≥ a0.size:=c
   have e:a0.size - Ds.flatten.length=W.length:=by omega
   have SW:∀ x∈W,S x:=fun x hx=>S0 x (si.pm.mem_iff.mp (by rw [si.hx];exact List.mem_append_right _ hx))
   show wpS M A E s (countRun' Ds.flatten.length (a0.size - Ds.flatten.length) >>= _) _ _
   rw [e]
   refine wpS_bind (P5 (st:=sta kd xs pd g) C rfl SW si.hx (by omega) fun ys D R hy pmD l0 sD => ?_)
   dsimp only
   have dl:=pmD.length_eq
   rw [ZB] at dl
   have pY:∀ {zs:Array Keyed} {D2 R2:List Keyed},zs.toList=Ds.flatten++(D2++R2)→Stb r (D2++R2) W→Stb r zs.toList xs.toList:=fun {zs D2 R2} h1 h2=>by rw [h1,si.hx];exact h2.append_left _
   refine dg (fun c2 => ?_) fun c2 => ?_
   ·obtain⟨NN,hNN0⟩ : ∃ NN,NN=min W.length (minRun' (arrOf (sta kd a0 #[] g0)).size (arrOf (sta kd a0 #[] g0)).size 0):=⟨_,rfl⟩
    refine wpS_bind (iu ?_)
    rw [← hNN0]
    refine wpS_bind (P7 (st:=sta kd xs pd g) C rfl SW hy pmD l0 sD (n:=NN) (by omega) (by omega) fun YY DD RR hYY pm3 hl3' hDs => ?_)
    have hNN:NN=DD.length:=hl3'.symm
    have hDn:DD≠[]:=fun z=>by rw [z] at hl3';simp at hl3';omega
    have hpm2:=pY hYY pm3
    refine dg (fun z=>by simp at z) fun _ => ?_
    have si2:SI r a0l (DD++RR) YY pd Ds:=⟨hYY,si.rn,hpm2.trans si.pm⟩
    have lD:=List.length_pos_iff.mpr hDn
    refine wpS_bind (wpS_get ?_)
    cases hb:pd.back? with
    | none =>
     dsimp only
     refine wpS_bind (wpS_modify (wpS_pure ⟨YY,pd.push (Ds.flatten.length,NN,0),Ds++[DD],RR,g,rfl,by rw [hNN];simp,⟨by rw [hYY];simp,?_,si2.pm⟩,by simp;simp at hli;omega⟩))
     have:=si.rn.snoc (e:=0) (D:=DD) hDn hDs
     rw [Nat.zero_add] at this
     rw [Array.toList_push,hNN]
     exact this
    | some z =>
     obtain⟨s1,n1,w1⟩:=z
     dsimp only
     refine IG C S0 si2 fun xs' pd' Ds' g' si3 hl3 => ?_
     refine wpS_bind (wpS_modify (wpS_bind (wpS_modify (wpS_pure ⟨xs',(pd'.modify (pd'.size - 1) fun q=>(q.1,q.2.1,power' a0.size (2 * s1 + n1) (2 * s1 + n1 + n1 + NN) a0.size)).push (Ds.flatten.length,NN,0),Ds'++[DD],RR,g',rfl,by rw [hNN,List.flatten_append,ZB,hl3];simp,⟨by rw [si3.hx];simp,?_,si3.pm⟩,by rw [List.flatten_append,ZB,hl3];simp;simp at hli;omega⟩))))
     have:=(si3.rn.mod (w:=power' a0.size (2 * s1 + n1) (2 * s1 + n1 + n1 + NN) a0.size) (pd'.size - 1)).snoc (e:=0) (D:=DD) hDn hDs
     rw [Nat.zero_add,hl3,← hNN] at this
     rw [Array.toList_push,Array.toList_modify]
     exact this
   ·obtain⟨YY,hYe⟩ : ∃ z,z=ys:=⟨_,rfl⟩
    obtain⟨DD,hDe⟩ : ∃ z,z=D:=⟨_,rfl⟩
    obtain⟨RR,hRe⟩ : ∃ z,z=R:=⟨_,rfl⟩
    subst hYe hDe hRe
    have hYY:=hy
    have hDs:=sD
    have hDn:DD≠[]:=List.ne_nil_of_length_pos l0
    have hpm2:=pY hy pmD
    obtain⟨NN,hNN⟩ : ∃ z,z=DD.length:=⟨_,rfl⟩
    show wpS M A E s (get >>= _) _ _
    rw [← hNN]
    have si2:SI r a0l (DD++RR) YY pd Ds:=⟨hYY,si.rn,hpm2.trans si.pm⟩
    have lD:=List.length_pos_iff.mpr hDn
    refine wpS_bind (wpS_get ?_)
    cases hb:pd.back? with
    | none =>
     dsimp only
     refine wpS_bind (wpS_modify (wpS_pure ⟨YY,pd.push (Ds.flatten.length,NN,0),Ds++[DD],RR,g,rfl,by rw [hNN];simp,⟨by rw [hYY];simp,?_,si2.pm⟩,by simp;simp at hli;omega⟩))
     have:=si.rn.snoc (e:=0) (D:=DD) hDn hDs
     rw [Nat.zero_add] at this
     rw [Array.toList_push,hNN]
     exact this
    | some z =>
     obtain⟨s1,n1,w1⟩:=z
     dsimp only
     refine IG C S0 si2 fun xs' pd' Ds' g' si3 hl3 => ?_
     refine wpS_bind (wpS_modify (wpS_bind (wpS_modify (wpS_pure ⟨xs',(pd'.modify (pd'.size - 1) fun q=>(q.1,q.2.1,power' a0.size (2 * s1 + n1) (2 * s1 + n1 + n1 + NN) a0.size)).push (Ds.flatten.length,NN,0),Ds'++[DD],RR,g',rfl,by rw [hNN,List.flatten_append,ZB,hl3];simp,⟨by rw [si3.hx];simp,?_,si3.pm⟩,by rw [List.flatten_append,ZB,hl3];simp;simp at hli;omega⟩))))
     have:=(si3.rn.mod (w:=power' a0.size (2 * s1 + n1) (2 * s1 + n1 + n1 + NN) a0.size) (pd'.size - 1)).snoc (e:=0) (D:=DD) hDn hDs
     rw [Nat.zero_add,hl3,← hNN] at this
     rw [Array.toList_push,Array.toList_modify]
     exact this
 ·obtain⟨xs,pd,Ds,g,rfl,rfl,si⟩:=h
  have tot:=si.pm.length_eq
  have dl:=si.hx
  rw [List.append_nil] at dl
  rw [dl] at tot
  have rl:=si.rn.len
  rw [Array.length_toList] at rl
  refine wpS_bind (wpS_mono (wpS_forRange (I:=fun i c st'=>∃ xs pd Ds g,st'=sta kd xs pd g∧c=(none,())∧SI r a0l [] xs pd Ds∧pd.size + i≤a0.size)
   (Q:=fun c st'=>∃ xs pd Ds g,st'=sta kd xs pd g∧c=(none,())∧SI r a0l [] xs pd Ds∧pd.size≤1) ?step2 ?fin2 ⟨xs,pd,Ds,g,rfl,rfl,si,by omega⟩) fun c st' h => ?_)
  case fin2 =>
   rintro c st' ⟨xs,pd,Ds,g,rfl,rfl,si,h⟩
   refine⟨xs,pd,Ds,g,rfl,rfl,si,?_⟩
   have h:pd.size + max 0 a0.size≤a0.size:=h
   omega
  case step2 =>
   rintro i c st' _ hi ⟨xs,pd,Ds,g,rfl,rfl,si,h⟩
   refine wpS_bind (wpS_get (dg (fun c=>wpS_pure ⟨xs,pd,Ds,g,rfl,rfl,si,c⟩) fun c => ?_))
   have c : ¬ pd.size≤1:=c
   refine wpS_bind (Mp C S0 si ?_ fun xs2 pd2 Ds2 g2 si2 hp _ => ?_)
   ·have hh:∀ (p:Prop) [Decidable p],(if p then pd.size - 2 - 1 else pd.size - 2) + 1 < pd.size:=fun p _=>by split<;>omega
    exact hh _
   ·exact wpS_pure ⟨xs2,pd2,Ds2,g2,rfl,rfl,si2,by omega⟩
  ·obtain⟨xs,pd,Ds,g,rfl,rfl,si,h⟩:=h
   refine wpS_pure (q xs pd g (by rw [← ha0];exact si.pm) ?_)
   have dl:=si.hx
   rw [List.append_nil] at dl
   have tot:=si.pm.length_eq
   have rn:=si.rn
   obtain⟨ps,hps⟩ : ∃ ps,ps=pd.toList:=⟨_,rfl⟩
   have pl:ps.length=pd.size:=by rw [hps];simp
   rw [← hps] at rn
   rw [dl] at tot ⊢
   cases rn with
   | nil=>simp at tot;omega
   | @cons _ e D Ds' ps nD sD h3 =>
    cases h3 with
    | nil=>simpa using sD
    | cons _ _ _=>simp at pl;omega
end
end Ts
namespace Fm
end Fm
namespace Fm
open PySem PySem.Spec L2 PySem.W PyProof.Rows
section
variable {prog:Program} {w:World} {A:Around} {E:Value→Shared→Prop} {s:Shared}
end
section
variable {X:Cx} {pos p:Pos}
end
end Fm
namespace Ts
section
theorem vg {α : Type}(key : α → Int):∀ {l m:List α},l.Pairwise (fun x y=>key x≤key y)→m.Pairwise (fun x y=>key x≤key y)→(∀ k,l.filter (fun x=>decide (key x=k))=m.filter (fun x=>decide (key x=k)))→l=m
 | [],[],_,_,_=>rfl
 | [],y :: m,_,_,h=>by have:=h (key y);simp at this
 | x :: l,[],_,_,h=>by have:=h (key x);simp at this
 | x :: l,y :: m,h1,h2,h=>by
  have p1:=List.pairwise_cons.mp h1
  have p2:=List.pairwise_cons.mp h2
  have e:key x=key y:=by
   have a1:x∈(y :: m).filter (fun z=>decide (key z=key x)):=by rw [← h];simp
   have a2:y∈(x :: l).filter (fun z=>decide (key z=key y)):=by rw [h];simp
   have b1:=(List.mem_filter.mp a1).1
   have b2:=(List.mem_filter.mp a2).1
   have c1:key y≤key x:=by
    rcases List.mem_cons.mp b1 with z|z
    ·rw [z];exact Int.le_refl _
    ·exact p2.1 x z
   have c2:key x≤key y:=by
    rcases List.mem_cons.mp b2 with z|z
    ·rw [z];exact Int.le_refl _
    ·exact p1.1 y z
   omega
  have hx:=h (key x)
  rw [List.filter_cons_of_pos (by simp),List.filter_cons_of_pos (by simp [e])] at hx
  obtain⟨rfl,ht⟩:=List.cons.inj hx
  congr 1
  refine vg key p1.2 p2.2 fun k => ?_
  by_cases c:key x=k
  ·subst c;exact ht
  ·have:=h k
   rwa [List.filter_cons_of_neg (by simpa using c),List.filter_cons_of_neg (by simpa using c)] at this
def insK {α : Type} (key : α → Int) (x : α):List α → List α
 | []=>[x]
 | y :: l=>if key x < key y then x :: y :: l else y :: insK key x l
def byK {α : Type} (key : α → Int) (l:List α):List α := l.foldl (fun acc x=>insK key x acc) []
theorem m5 {α : Type}(key : α → Int)(x : α):∀ l:List α,(insK key x l).Perm (x :: l)
 | []=>.refl _
 | y :: l=>by
  unfold insK
  split
  ·exact .refl _
  ·exact ((m5 key x l).cons y).trans (.swap _ _ _)
theorem qw {α : Type}(key : α → Int)(x : α):∀ {l:List α},l.Pairwise (fun x y=>key x≤key y)→(insK key x l).Pairwise (fun x y=>key x≤key y)
 | [],_=>List.pairwise_singleton _ _
 | y :: l,h=>by
  have p:=List.pairwise_cons.mp h
  unfold insK
  split
  ·rename_i c
   refine List.pairwise_cons.mpr ⟨fun z hz => ?_,h⟩
   rcases List.mem_cons.mp hz with rfl|hz
   ·omega
   ·have:=p.1 z hz;omega
  ·rename_i c
   refine List.pairwise_cons.mpr ⟨fun z hz => ?_,qw key x p.2⟩
   rcases List.mem_cons.mp ((m5 key x l).mem_iff.mp hz) with rfl|hz
   ·omega
   ·exact p.1 z hz
theorem oG {α : Type}(key : α → Int)(x : α)(k:Int):∀ {l:List α},l.Pairwise (fun x y=>key x≤key y)→(insK key x l).filter (fun z=>decide (key z=k))=(l++[x]).filter (fun z=>decide (key z=k))
 | [],_=>rfl
 | y :: l,h=>by
  have p:=List.pairwise_cons.mp h
  unfold insK
  split
  ·rename_i c
   rw [List.cons_append,List.filter_cons,List.filter_cons (x:=y),List.filter_cons (x:=y),List.filter_append]
   by_cases e:key x=k
   ·have n : ¬ key y=k:=by omega
    have nl:l.filter (fun z=>decide (key z=k))=[]:=by
     rw [List.filter_eq_nil_iff]
     intro z hz
     have:=p.1 z hz
     simp;omega
    simp [e,n,nl]
   ·simp [e]
  ·rw [List.cons_append,List.filter_cons,List.filter_cons (x:=y),oG key x k p.2]
theorem wP {α : Type}(key : α → Int):∀ (l acc:List α),acc.Pairwise (fun x y=>key x≤key y) →
  (l.foldl (fun acc x=>insK key x acc) acc).Perm (acc++l)∧(l.foldl (fun acc x=>insK key x acc) acc).Pairwise (fun x y=>key x≤key y) ∧ ∀ k,(l.foldl (fun acc x=>insK key x acc) acc).filter (fun z=>decide (key z=k))=(acc++l).filter (fun z=>decide (key z=k))
 | [],acc,h=>by simp [h]
 | x :: l,acc,h=>by
  obtain⟨h1,h2,h3⟩:=wP key l (insK key x acc) (qw key x h)
  refine⟨h1.trans ?_,h2,fun k => ?_⟩
  ·exact ((m5 key x acc).append_right l).trans (List.perm_middle.symm)
  ·rw [List.foldl_cons,h3 k,List.filter_append,oG key x k h,← List.filter_append,ZU];rfl
theorem byK_perm {α : Type}(key : α → Int)(l:List α):(byK key l).Perm l:=(wP key l [] .nil).1
theorem byK_rises {α : Type}(key : α → Int)(l:List α):(byK key l).Pairwise (fun x y=>key x≤key y):=(wP key l [] .nil).2.1
theorem byK_filter {α : Type}(key : α → Int)(l:List α)(k:Int):(byK key l).filter (fun z=>decide (key z=k))=l.filter (fun z=>decide (key z=k)):=(wP key l [] .nil).2.2 k
theorem Oy {α : Type}(key : α → Int){l m:List α}(h1:m.Pairwise (fun x y=>key x≤key y))(h2:∀ k,m.filter (fun z=>decide (key z=k))=l.filter (fun z=>decide (key z=k))):m=byK key l :=
 vg key h1 (byK_rises key l) fun k=>(h2 k).trans (byK_filter key l k).symm
theorem zz {α β : Type}(f : α → β)(ka : α → Int)(kb : β → Int)(h:∀ x,kb (f x)=ka x)(x : α):∀ l:List α,insK kb (f x) (l.map f)=(insK ka x l).map f
 | []=>rfl
 | y :: l=>by
  simp only [List.map_cons,insK,h]
  split
  ·rfl
  ·rw [zz f ka kb h x l];rfl
theorem byK_map {α β : Type}(f : α → β)(ka : α → Int)(kb : β → Int)(h:∀ x,kb (f x)=ka x)(l:List α):byK kb (l.map f)=(byK ka l).map f:=by
 have:∀ (l:List α) acc,(l.map f).foldl (fun acc x=>insK kb x acc) (acc.map f)=(l.foldl (fun acc x=>insK ka x acc) acc).map f:=by
  intro l
  induction l with
  | nil=>intro acc;rfl
  | cons x l ih =>
   intro acc
   rw [List.map_cons,List.foldl_cons,List.foldl_cons,zz f ka kb h,ih]
 exact this l []
end
end Ts
namespace Fm
def zA (h:Hd):D→Option Int
 | .ref n=>match h[n]? with|some (.lst l)=>some (l.length:Int)|_=>none
 | _=>none
def zB (h:Hd):List D→Option (List Int)
 | []=>some []
 | x :: l=>match zA h x,zB h l with|some k,some kz=>some (k :: kz)|_,_=>none
def jR (a:EF):LF:=fun σ h=>(a σ h).bind fun x h=>match aS h x with
 | some l=>match zB h l with
  | some kz=>if l.length≤1000 then .ok ((Ts.byK (·.1) (kz.zip l)).map (·.2)) h else .bad
  | none=>.bad
 | none=>.bad
end Fm
namespace Ts
open PySem PyProof.Rows
section
variable {prog:Program} {w:World} {A:Around} {E:Value→Shared→Prop} {s:Shared}
def kvI:Value→Int
 | .int i _=>i
 | _=>0
abbrev rK:Keyed→Keyed→Bool:=fun x y=>decide (kvI x.1 < kvI y.1)
theorem QU:Cmp (model prog w) A E s oneType' (fun x=>∃ i t,x.1=.int i t) rK:=by
 refine⟨fun {x y st Q} Sx Sy hk hq => ?_,fun {x y} h => ?_,fun {x y z} h1 h2 => ?_⟩
 ·obtain⟨i,t,ex⟩:=Sx
  obtain⟨j,u,ey⟩:=Sy
  rw [lt'_eq]
  refine wpS_bind (wpS_get ?_)
  rw [hk]
  refine wpS_bind (wpS_lift (wpAny_attempt ?_))
  rw [keyLt'_oneType]
  simp only [rK,ex,ey,kvI] at hq ⊢
  exact oneLt_int ⟨rfl,wpS_pure hq⟩
 ·simp only [rK,decide_eq_true_eq,decide_eq_false_iff_not] at h ⊢;omega
 ·simp only [rK,decide_eq_false_iff_not] at h1 h2 ⊢;omega
theorem IH (k x:Keyed):jy rK k x=decide (kvI x.1=kvI k.1):=by
 simp only [jy,rK]
 by_cases c:kvI x.1=kvI k.1
 ·simp [c]
 ·rcases Int.lt_or_gt_of_ne c with h|h
  ·simp [h,c]
  ·have:kvI k.1 < kvI x.1:=h
   simp [this,c]
theorem lC:∀ {ks:List Value} {kz:List Int},IntsAre ks kz→ks.map kvI=kz
 | _,_,.nil=>rfl
 | _,_,.cons n t h=>by rw [List.map_cons,lC h];rfl
theorem zC:∀ {ks:List Value} {kz:List Int},IntsAre ks kz → ∀ v∈ks,∃ i t,v=.int i t
 | _,_,.cons n t h,v,hv=>by
  rcases List.mem_cons.mp hv with rfl|hv
  ·exact⟨n,t,rfl⟩
  ·exact zC h v hv
theorem Oz {ks vs:List Value}{kz:List Int}(hk:IntsAre ks kz){xs:List Keyed}(h:Stb rK xs (ks.zip vs))(so:xs.Pairwise (lE rK)):xs.map (·.2)=(byK (·.1) (kz.zip vs)).map (·.2):=by
 have e:xs=byK (fun x:Keyed=>kvI x.1) (ks.zip vs):=by
  refine Oy _ (so.imp fun {x y} z => ?_) fun k => ?_
  ·simp only [lE,rK,decide_eq_false_iff_not] at z;omega
  ·have:=h.fl (.int k (default:Tok),.none)
   have f:(jy rK (.int k (default:Tok),.none))=fun z=>decide (kvI z.1=k):=by funext z;rw [IH];rfl
   rwa [f] at this
 have e2:kz.zip vs=(ks.zip vs).map fun x=>(kvI x.1,x.2):=by
  rw [← lC hk,List.zip_map_left];rfl
 rw [e,e2,byK_map (fun x:Keyed=>(kvI x.1,x.2)) (fun x=>kvI x.1) (·.1) (fun _=>rfl),List.map_map]
 rfl
theorem sort_keyed {f:Value} {a:Addr} {vs:List Value} {kz:List Int} {n:Nat} {P:PySem.Fin→Shared→Prop} (ho:s.heap.get? a=some (seqObj "list" vs.toArray n)) (hz:vs.length≤100000) (lk:kz.length=vs.length)
  (hf:∀ (i:Nat) v k,vs[i]? = some v→kz[i]? = some k → ∀ (G:Heap) (tk:Nat),(∀ b u,b≠a→s.heap.get? b=some u→G.get? b=some u) → ∀ Q:Value→Shared→Prop,(∀ t tk',Q (.int k t) { s with heap:=G,toks:=tk' })→wpAny (model prog w) A (call f [v]) Q (fun _ _=>False) { s with heap:=G,toks:=tk })
  (h:∀ (G:Heap) (tk c:Nat),(∀ b u,b≠a→s.heap.get? b=some u→G.get? b=some u)→G.get? a=some (seqObj "list" ((byK (·.1) (kz.zip vs)).map (·.2)).toArray c)→P (.done (.ret .none)) { s with heap:=G,toks:=tk }) :
  wpAny (model prog w) A (ksk_tree a f false) P E s:=by
 unfold ksk_tree
 have ha:a < s.heap.objs.size:=ZI ho
 refine wpAny_bind (listItems_at ho rfl (wpAny_bind (listUpdate_at ho rfl ?_)))
 obtain⟨e1,ho1⟩ : ∃ e1,(s.heap.update a (Obj.mapSeq fun _ => #[])).get? a=some (seqObj "list" #[] e1):=⟨_,get?_update_seq ho (fun _ => #[])⟩
 refine wpAny_bind (seqEpoch_at ho1 rfl (wpAny_bind (wpAny_newTuple ?_ (by rw [sizeLine_eq];simp;omega))))
 refine wpAny_bind (wpAny_newList ?_)
 refine wpAny_holding ?_
 obtain⟨H1,hH1⟩ : ∃ H1,H1=s.heap.update a (Obj.mapSeq fun _ => #[]):=⟨_,rfl⟩
 rw [← hH1] at ho1
 have sz1:H1.objs.size=s.heap.objs.size:=by rw [hH1,Heap.size_update]
 have n1:a≠H1.objs.size:=by rw [sz1];exact ZN ha
 obtain⟨H2,hH2⟩ : ∃ H2,H2=H1.push (seqObj "tuple" vs.toArray 0):=⟨_,rfl⟩
 have n2:a≠H2.objs.size:=by rw [hH2,size_push',sz1];exact ZN (Nat.lt_succ_of_lt ha)
 have ho6:(H2.push (seqObj "list" #[] 0)).get? a=some (seqObj "list" #[] e1):=by
  rw [Heap.get?_push_ne _ _ _ n2,hH2,Heap.get?_push_ne _ _ _ n1];exact ho1
 have hkS:(H2.push (seqObj "list" #[] 0)).get? H2.objs.size=some (seqObj "list" #[] 0):=ZJ _ rfl
 have old:∀ b u,b≠a→s.heap.get? b=some u→(H2.push (seqObj "list" #[] 0)).get? b=some u:=fun b u nb e=>ZH _ (by rw [hH2];exact ZH _ (by rw [hH1];exact (Heap.get?_update_ne _ _ _ _ nb).trans e))
 have nk:∀ b u,s.heap.get? b=some u→b≠H2.objs.size:=fun b u e=>by rw [hH2,size_push',sz1];exact ZN (Nat.lt_succ_of_lt (ZI e))
 have arr:∀ b u,s.heap.get? b=some u→b≠H2.objs.size:=nk
 show wpAny (model prog w) A (ksk_rest a f false vs.toArray e1 (.ref (Heap.objs (Heap.push (Heap.update s.heap a (Obj.mapSeq fun _ => #[])) (seqObj "tuple" vs.toArray 0))).size)) P E { s with heap:=(Heap.push (Heap.push (Heap.update s.heap a (Obj.mapSeq fun _ => #[])) (seqObj "tuple" vs.toArray 0)) (seqObj "list" #[] 0)) }
 rw [← hH1,← hH2]
 unfold ksk_rest
 refine wpAny_bind (wpAny_rule ?_)
 rw [List.forIn_toArray]
 refine wpAny_bind (ksk_fold (I:=fun j s'=>∃ G tk ks e,s' = { s with heap:=G,toks:=tk } ∧ G.get? H2.objs.size=some (seqObj "list" (List.toArray ks) e)∧IntsAre ks (kz.take j)∧G.get? a=some (seqObj "list" #[] e1) ∧ ∀ b u,b≠a→s.heap.get? b=some u→G.get? b=some u) vs 0 _ ⟨_,s.toks,[],0,rfl,hkS,by rw [List.take_zero];exact .nil,ho6,old⟩ ?_ ?_)
 ·rintro j x s' hx ⟨G,tk,ks,e,rfl,g1,g2,g3,g4⟩
  rw [Nat.zero_add] at g2 ⊢
  have hj:j < vs.length:=(List.getElem?_eq_some_iff.mp hx).1
  have hjk:j < kz.length:=by rw [lk];exact hj
  refine wpAny_bind (wpAny_attempt (wpAny_mono (hf j x kz[j] hx (ZE hjk) G tk g4 (fun v s''=>∃ t tk',v=.int kz[j] t∧s'' = { s with heap:=G,toks:=tk' }) fun t tk'=>⟨t,tk',rfl,rfl⟩) ?_ fun _ _ z=>z.elim))
  rintro v s'' ⟨t,tk',rfl,rfl⟩
  dsimp only
  have kl:ks.length=j:=by rw [g2.length,List.length_take];omega
  refine wpAny_bind (listUpdate_at (s:={ s with heap:=G,toks:=tk' }) g1 rfl (wpAny_pure ⟨rfl,?_⟩) (by simp only [List.size_toArray,sizeLine_eq];omega) (by simp only [Array.size_push,List.size_toArray,sizeLine_eq];omega))
  have up:=get?_update_seq g1 (fun xs=>xs.push (.int kz[j] t))
  refine⟨_,tk',ks++[.int kz[j] t],_,rfl,by rw [up];simp only [List.push_toArray];rfl,?_,?_,fun b u nb eb => ?_⟩
  ·rw [List.take_succ_eq_append_getElem hjk];exact ksk_snoc g2
  ·rw [Heap.get?_update_ne _ _ _ _ n2];exact g3
  ·rw [Heap.get?_update_ne _ _ _ _ (nk b u eb)];exact g4 b u nb eb
 rintro s' ⟨G,tk,ks,e,rfl,g1,g2,g3,g4⟩
 rw [Nat.zero_add,← lk,List.take_length] at g2
 refine wpAny_bind (listItems_at (s:={ s with heap:=G,toks:=tk }) g1 rfl ?_)
 have kl:ks.length=vs.length:=by rw [g2.length,lk]
 have tail:∀ {kd:SortKind} {xs:Array Keyed} {pd:Array (Nat × Nat × Nat)} {g:Nat},Stb rK xs.toList (ks.zip vs)→xs.toList.Pairwise (lE rK)→wpAny (model prog w) A (ksk_tail a false e1 (.ref H2.objs.size) (SortSt.mk' kd xs pd g none)) P E { s with heap:=G,toks:=tk }:=fun {kd xs pd g} z1 z2=>by
  have zl:xs.size=vs.length:=by
   have:=z1.length_eq
   rw [Array.length_toList,List.length_zip,kl,Nat.min_self] at this
   exact this
  unfold ksk_tail
  dsimp only
  refine wpAny_bind (listUpdate_at (s:={ s with heap:=G,toks:=tk }) g1 rfl (wpAny_bind (wpAny_letGo ?_)) (by simp only [List.size_toArray,sizeLine_eq];omega) (by simp))
  have g3':(G.update H2.objs.size (Obj.mapSeq fun _ => #[])).get? a=some (seqObj "list" #[] e1):=by rw [Heap.get?_update_ne _ _ _ _ n2];exact g3
  refine wpAny_bind (seqEpoch_at (s:={ s with heap:=G.update H2.objs.size (Obj.mapSeq fun _ => #[]),toks:=tk }) g3' rfl ?_)
  refine wpAny_bind (listUpdate_at (s:={ s with heap:=G.update H2.objs.size (Obj.mapSeq fun _ => #[]),toks:=tk }) g3' rfl ?_ (by simp) (by show (xs.map (·.2)).size≤_;rw [Array.size_map,zl,sizeLine_eq];omega))
  simp only [bne_self_eq_false,Bool.false_eq_true,if_false]
  show wpAny (model prog w) A (PySem.ret Value.none) P E _
  have e0:xs.map (·.2)=((byK (·.1) (kz.zip vs)).map (·.2)).toArray:=by
   rw [← Oz g2 z1 z2,← Array.toList_map]
  obtain⟨c,hc⟩ : ∃ c,((G.update H2.objs.size (Obj.mapSeq fun _ => #[])).update a (Obj.mapSeq fun _=>xs.map (·.2))).get? a=some (seqObj "list" ((byK (·.1) (kz.zip vs)).map (·.2)).toArray c):=⟨_,by
   have:=get?_update_seq g3' (fun _=>xs.map (·.2))
   rw [this,← e0]⟩
  refine wpAny_pure (h _ tk c (fun b u nb eb => ?_) hc)
  show ((G.update _ _).update a _).get? b=_
  rw [Heap.get?_update_ne _ _ _ _ nb,Heap.get?_update_ne _ _ _ _ (nk b u eb)];exact g4 b u nb eb
 unfold ksk_end
 dsimp only
 simp only [Bool.false_eq_true,if_false]
 have zp:((List.toArray ks).zip vs.toArray).toList=ks.zip vs:=ksk_zip _ _
 by_cases h2:vs.toArray.size < 2
 ·rw [if_pos h2,if_pos h2]
  refine wpAny_bind (wpAny_pure (wpAny_bind (wpAny_pure ?_)))
  refine tail (by rw [zp];exact Stb.refl _) ?_
  rw [zp]
  match ks,vs,h2 with
  | [],_,_=>exact .nil
  | _ :: _,[],_=>simp
  | _ :: _,[_],_=>simp
 ·rw [if_neg h2,if_neg h2]
  have h2':2≤vs.length:=by simp at h2;omega
  rw [ksk_kind (keys:=ks.toArray) g2 (by simp;omega)]
  refine wpAny_bind (wpAny_pure ?_)
  refine wpAny_bind (wpAny_mono (Li QU (a0:=(List.toArray ks).zip vs.toArray) (g0:=7) (Q:=fun _ st'=>∃ xs pd g,st'=sta oneType' xs pd g∧Stb rK xs.toList (ks.zip vs)∧xs.toList.Pairwise (lE rK)) (fun x hx => ?_) (by simp;omega) fun xs pd g z1 z2=>⟨xs,pd,g,rfl,by rw [← zp];exact z1,z2⟩) ?_ fun _ _ e=>e)
  ·rw [zp] at hx
   exact zC g2 x.1 (List.of_mem_zip (a:=x.1) (b:=x.2) hx).1
  ·rintro⟨⟨⟩,st'⟩ s' ⟨rfl,xs,pd,g,rfl,z1,z2⟩
   exact tail z1 z2
end
end Ts
namespace Fm
open PySem PySem.Spec L2 PySem.W PyProof.Rows
section
variable {X:Cx} {pos p p2 kpos:Pos}
inductive lT (K:ZX) (H:Hp):List V→List Int→Prop
 | nil:lT K H [] []
 | cons {b:Addr} {ys vs:List V} {kz:List Int} (h:SqL K H b ys) (t:lT K H vs kz):lT K H (.ref b :: vs) ((ys.length:Int) :: kz)
theorem lT.length {K:ZX}{H:Hp}:∀ {vs:List V} {kz:List Int},lT K H vs kz→kz.length=vs.length
 | _,_,.nil=>rfl
 | _,_,.cons _ t=>by simp [t.length]
theorem lT.at {K:ZX}{H:Hp}:∀ {vs:List V} {kz:List Int} {its:List Value},lT K H vs kz→aI vs its → ∀ (i:Nat) v k,its[i]? = some v→kz[i]? = some k → ∃ b ys,v=.ref b∧SqL K H b ys∧k=(ys.length:Int)
 | _,_,_,.nil,.nil,i,v,k,h,_=>by simp at h
 | _,_,_,.cons (b:=b) (ys:=ys) h0 t,.cons rv rt,i,v,k,h1,h2=>by
  cases rv
  cases i with
  | zero=>simp at h1 h2;exact⟨b,ys,h1.symm,h0,h2.symm⟩
  | succ i=>exact t.at rt i v k (by simpa using h1) (by simpa using h2)
theorem II:∀ {vs:List V} {its:List Value} (kz:List Int),aI vs its→aI ((Ts.byK (·.1) (kz.zip vs)).map (·.2)) ((Ts.byK (·.1) (kz.zip its)).map (·.2)):=by
 have ins:∀ {x:Int × V} {y:Int × Value} (e:x.1=y.1) (rv:bg x.2 y.2) {l:List (Int × V)} {m:List (Int × Value)},l.map (·.1)=m.map (·.1)→aI (l.map (·.2)) (m.map (·.2))→(Ts.insK (·.1) x l).map (·.1)=(Ts.insK (·.1) y m).map (·.1)∧aI ((Ts.insK (·.1) x l).map (·.2)) ((Ts.insK (·.1) y m).map (·.2)):=by
  intro x y e rv l
  induction l with
  | nil =>
   intro m h1 h2
   cases m with
   | nil=>exact⟨by simp [Ts.insK,e],.cons rv .nil⟩
   | cons _ _=>simp at h1
  | cons a l ih =>
   intro m h1 h2
   cases m with
   | nil=>simp at h1
   | cons b m =>
    simp only [List.map_cons,List.cons.injEq] at h1
    cases h2 with
    | cons r1 r2 =>
     unfold Ts.insK
     rw [e,h1.1]
     split
     ·exact⟨by simp [e,h1.1,h1.2],.cons rv (.cons r1 r2)⟩
     ·obtain⟨q1,q2⟩:=ih h1.2 r2
      exact⟨by simp [h1.1,q1],.cons r1 q2⟩
 have go:∀ {vs:List V} {its:List Value} (kz:List Int),aI vs its → ∀ {l:List (Int × V)} {m:List (Int × Value)},l.map (·.1)=m.map (·.1)→aI (l.map (·.2)) (m.map (·.2))→aI (((kz.zip vs).foldl (fun acc x=>Ts.insK (·.1) x acc) l).map (·.2)) (((kz.zip its).foldl (fun acc x=>Ts.insK (·.1) x acc) m).map (·.2)):=by
  intro vs
  induction vs with
  | nil =>
   intro its kz r l m h1 h2
   cases r
   cases kz<;>exact h2
  | cons v vs ih =>
   intro its kz r l m h1 h2
   cases r with
   | cons r1 r2 =>
    cases kz with
    | nil=>exact h2
    | cons k kz =>
     simp only [List.zip_cons_cons,List.foldl_cons]
     obtain⟨q1,q2⟩:=ins (x:=(k,_)) (y:=(k,_)) rfl r1 h1 h2
     exact ih kz r2 q1 q2
 intro vs its kz r
 exact go kz r (l:=[]) (m:=[]) rfl .nil
def IJ (K:ZX):List V→Hp→VK→Prop:=fun xs H Q=>∃ (a:Addr) (vs:List V) (kz:List Int),xs=[.ref a]∧SqL K H a vs∧vs.length≤1000∧lT K H vs kz ∧ ∀ q,H q=none→Q (.ref q) (upd H q (.lst ((Ts.byK (·.1) (kz.zip vs)).map (·.2))))
theorem BF {pins:List (Addr × Obj)}{s:Shared}{σ:L2.St}{H:Hp}{xs:List V}{us:List Value}{Q:VK}(I:Inv X pins σ H s)(r:aI xs us)(h:IJ X.K xs H Q) :
  wpAny (model X.prog X.w) X.A (call (.builtin "sorted") us [(Str.ofString "key",.builtin "len")]) (EP X pins σ Q) X.xe s:=by
 obtain⟨a,vs,kz,rfl,sq,hz1,lv,q⟩:=h
 obtain⟨u,rfl,ru⟩:=aI.one r
 cases (show u=Value.ref a from ru)
 obtain⟨its,rvs,pl,hz⟩:=I.list sq
 have hl:s.heap.IsList a its.toArray:=pl.isList
 have hlen:its.length=vs.length:=rvs.length.symm
 obtain⟨o,ho,hc,n,hd⟩:=hl
 refine call_function_entry_kw kind_sorted plain_sorted entry_sorted (ksk_s1 _ _) ?_
 unfold Builtin.«sorted»
 refine wpAny_bind (m:=checkCount "sorted" 1 1 _) (wpAny_pure ?_)
 refine wpAny_bind (wpAny_collect_seq a (.inl rfl) ho hc hd (fun h1 k1 => ?_) (by rw [List.size_toArray,sizeLine_eq];omega))
 have et:its.toArray.toList=its:=by simp
 rw [et]
 refine wpAny_bind (wpAny_newList ?_ (by rw [sizeLine_eq];omega))
 have hoL:(h1.push (seqObj "list" its.toArray 0)).get? h1.objs.size=some (seqObj "list" its.toArray 0):=ZJ _ rfl
 have keep:∀ b u,h1.get? b=some u→(h1.push (seqObj "list" its.toArray 0)).get? b=some u:=fun b u z=>ZH _ z
 show wpAny _ _ (holding [Value.ref h1.objs.size] _ >>= fun _=>_) _ _ { s with heap:=h1.push (seqObj "list" its.toArray 0) }
 generalize hG:h1.push (seqObj "list" its.toArray 0)=G at hoL keep
 have I1:Inv X pins σ H { s with heap:=h1 }:=I.kept (t':=s.toks) k1
 refine wpAny_bind (wpAny_holding (wpAny_call_entry_kw slot_list_sort (s:={ s with heap:=G }) ⟨_,hoL,rfl⟩ entry_list_sort (by
  rw [ksk_t4]
  refine Ts.sort_keyed (s:={ s with heap:=G }) (kz:=kz) hoL (by omega) (by rw [lv.length,hlen]) (fun i v k hv hk G2 tk kp Q2 hq2 => ?_) fun G2 tk c kp hG2=>⟨_,rfl,?_⟩
  ·obtain⟨b,ys,rfl,sb,rfl⟩:=lv.at rvs i v k hv hk
   obtain⟨its2,rv2,pl2,hz2⟩:=I.list sb
   obtain⟨o2,ho2,hc2,n2,hd2⟩:=pl2.isList
   have e1:=k1 b o2 ho2
   have e2:G2.get? b=some o2:=kp b o2 (ZN (ZI e1)) (keep b o2 e1)
   have hn:=mL
   refine Calls.call_len_list (s:={ s with heap:=G2,toks:=tk }) (items:=its2.toArray) ⟨o2,e2,hc2,n2,hd2⟩ (by rw [List.size_toArray,← rv2.length];omega) ?_
   rw [List.size_toArray,← rv2.length]
   exact hq2 _ _
  ·refine wpAny_pure ⟨_,rfl,?_⟩
   have k2:∀ b u,h1.get? b=some u→G2.get? b=some u:=fun b u z=>kp b u (ZN (ZI z)) (keep b u z)
   have rv:=II kz rvs
   have vl:((Ts.byK (·.1) (kz.zip vs)).map (·.2)).length≤1000:=by
    rw [ZA,(Ts.byK_perm _ _).length_eq,List.length_zip];omega
   exact⟨.ref h1.objs.size,_,I1.laid (t':=tk) (o:=.lst ((Ts.byK (·.1) (kz.zip vs)).map (·.2))) k2 (ZL _) ⟨by rw [sizeLine_eq];omega,_,c,rv,hG2⟩,rfl,q _ (I1.hok.fresh (ZL _))⟩) (ksk_l1 _ _)))
theorem Lj {K:ZX}{ρ:List Addr}{H:Hp}:∀ {l:List D} {vs:List V} (kz:List Int),RDs K ρ H l vs→RDs K ρ H ((Ts.byK (·.1) (kz.zip l)).map (·.2)) ((Ts.byK (·.1) (kz.zip vs)).map (·.2)):=by
 have ins:∀ {x:Int × D} {y:Int × V} (e:x.1=y.1) (rv:RD K ρ H x.2 y.2) {l:List (Int × D)} {m:List (Int × V)},l.map (·.1)=m.map (·.1)→RDs K ρ H (l.map (·.2)) (m.map (·.2))→(Ts.insK (·.1) x l).map (·.1)=(Ts.insK (·.1) y m).map (·.1)∧RDs K ρ H ((Ts.insK (·.1) x l).map (·.2)) ((Ts.insK (·.1) y m).map (·.2)):=by
  intro x y e rv l
  induction l with
  | nil =>
   intro m h1 h2
   cases m with
   | nil=>exact⟨by simp [Ts.insK,e],⟨_,_,rfl,rv,rfl⟩⟩
   | cons _ _=>simp at h1
  | cons a l ih =>
   intro m h1 h2
   cases m with
   | nil=>simp at h1
   | cons b m =>
    simp only [List.map_cons,List.cons.injEq] at h1
    obtain⟨v,r,e3,r1,r2⟩:=h2
    cases e3
    unfold Ts.insK
    rw [e,h1.1]
    split
    ·exact⟨by simp [e,h1.1,h1.2],⟨_,_,rfl,rv,⟨_,_,rfl,r1,r2⟩⟩⟩
    ·obtain⟨q1,q2⟩:=ih h1.2 r2
     exact⟨by simp [h1.1,q1],⟨_,_,rfl,r1,q2⟩⟩
 have go:∀ {vs:List D} {its:List V} (kz:List Int),RDs K ρ H vs its → ∀ {l:List (Int × D)} {m:List (Int × V)},l.map (·.1)=m.map (·.1)→RDs K ρ H (l.map (·.2)) (m.map (·.2))→RDs K ρ H (((kz.zip vs).foldl (fun acc x=>Ts.insK (·.1) x acc) l).map (·.2)) (((kz.zip its).foldl (fun acc x=>Ts.insK (·.1) x acc) m).map (·.2)):=by
  intro vs
  induction vs with
  | nil =>
   intro its kz r l m h1 h2
   cases r
   cases kz<;>exact h2
  | cons v vs ih =>
   intro its kz r l m h1 h2
   obtain⟨v',r',e3,r1,r2⟩:=r
   cases e3
   cases kz with
   | nil=>exact h2
   | cons k kz =>
    simp only [List.zip_cons_cons,List.foldl_cons]
    obtain⟨q1,q2⟩:=ins (x:=(k,_)) (y:=(k,_)) rfl r1 h1 h2
    exact ih kz r2 q1 q2
 intro l vs kz r
 exact go kz r (l:=[]) (m:=[]) rfl rfl
theorem zD {K:ZX}{ρ:List Addr}{H:Hp}{hd:Hd}(r:RH K ρ H hd):∀ {l:List D} {vs:List V} {kz:List Int},RDs K ρ H l vs→zB hd l=some kz→lT K H vs kz
 | [],_,_,h,e=>by cases h;cases e;exact .nil
 | x :: l,_,_,h,e=>by
  obtain⟨v,rr,rfl,r1,r2⟩:=h
  unfold zB at e
  cases e1:zA hd x with
  | none=>rw [e1] at e;cases e
  | some k =>
   cases e2:zB hd l with
   | none=>rw [e1,e2] at e;cases e
   | some kz' =>
    rw [e1,e2] at e
    cases e
    have t:=zD r r2 e2
    cases x with
    | ref n =>
     replace e1:(match hd[n]? with|some (.lst l)=>some (l.length:Int)|_=>none)=some k:=e1
     cases c:hd[n]? with
     | none=>rw [c] at e1;cases e1
     | some cl =>
      rw [c] at e1
      cases cl with
      | lst l' =>
       cases e1
       obtain⟨q,vs',rfl,sq,rvs⟩:=dy r r1 (l:=l') (by simp [aS,c])
       rw [RDs.length rvs]
       exact .cons sq t
      | dct _=>cases e1
      | dcT _=>cases e1
    | _=>cases e1
theorem BG {a:Expr} {fa:EF} (hg:Gl X "sorted") (hm:X.mg "sorted" = none) (hgl:Gl X "len") (hml:X.mg "len" = none) (ha:ME X a fa) (hs:starEach [a] X.env=(false,eval a X.env) :: starEach [] X.env:=by rfl):MF X (.Call (.Name "sorted" p) [a] [⟨some "key",.Name "len" p2,kpos⟩] pos) (jR fa):=by
 have pe:PE X (.Call (.Name "sorted" p) [a] [⟨some "key",.Name "len" p2,kpos⟩] pos) (tCB (IJ X.K) (Mg (jG X.K (rD X.K) fa) Pq)):=by
  intro pins s σ H Q I h
  refine wpAny_Call_Name_kw (iS (u:=.builtin "sorted") I hg hm (by decide +kernel) ?_)
  refine callWith_kw (thn ((cf ha dX hs) pos pins s σ H _ I h) fun us s1 ⟨vs,H1,I1,r1,q1⟩ => ?_) (by rw [hs];rfl) (by rw [hs];rfl) rfl rfl
  show wpAny _ _ (evalAll [(do let v ← eval (.Name "len" p2) X.env;standAt pos;pure v)]) _ _ s1
  refine wpAny_evalAll_cons (wpAny_bind (iS (u:=.builtin "len") I1 hgl hml (by decide +kernel) (wpAny_bind (wpAny_standAt (wpAny_pure ?_)))))
  refine wpAny_evalAll_nil ?_
  exact BF I1 r1 q1
 refine PE.imp pe fun σ H Q ⟨ρ,σd,hd,rs,pp⟩=>⟨ρ,σd,hd,rs,?_⟩
 unfold jR at pp
 cases e:fa σd hd with
 | exc x h'=>rw [e] at pp;exact pp
 | bad=>rw [e] at pp;exact pp
 | ok d hd1 =>
  rw [e] at pp
  simp only [aN] at pp
  intro v H1 ρ1 e1 rs1 rv
  cases c:aS hd1 d with
  | none=>rw [c] at pp;exact pp.elim
  | some l =>
   rw [c] at pp
   simp only at pp
   cases c2:zB hd1 l with
   | none=>rw [c2] at pp;exact pp.elim
   | some kz =>
    rw [c2] at pp
    simp only at pp
    split at pp
    ·rename_i hc
     obtain⟨q,vs,rfl,sq,rvs⟩:=dy rs1.hp rv c
     exact⟨q,vs,kz,rfl,sq,by rw [← rvs.length];exact hc,zD rs1.hp rvs c2,fun q' hq=>pp.mk e1 rs1 (Lj kz rvs) q' hq⟩
    ·exact pp.elim
end
end Fm
namespace Fm
theorem Fq {h h':Hd}{d:D}(e:h'.length≤h.length):letGo h (.ok d h')=.ok d h':=by
 simp only [letGo];split
 ·rw [List.take_of_length_le e]
 ·rfl
@[simp] theorem aH {h:Hd} {d:D}:letGo h (.ok d h)=.ok d h:=Fq (ZL _)
theorem ko {h h':Hd}{d:D}(e:pure? d=false):letGo h (.ok d h')=.ok d h':=by
 simp [letGo,e]
@[simp] theorem cV {h h':Hd} {n:Nat}:letGo h (.ok (.ref n) h')=.ok (.ref n) h':=ko rfl
theorem i5 {h g:Hd}{d:D}(e:pure? d=true):letGo h (.ok d (h++g))=.ok d h:=by
 have:D8 h (h++g):=fun n c hn hc=>.inl (by rwa [ZC hn] at hc)
 simp [letGo,e,this]
theorem Fs {h h' g:Hd}{d:D}(e:pure? d=true)(hl:h'.length=h.length)(ho:D8 h (h'++g)):letGo h (.ok d (h'++g))=.ok d h':=by
 simp [letGo,e,ho,← hl]
structure Web where
 ties:List (List (Nat × Int))
 bars:List Int
 stays:List (Option Int)
def aX:Option Int→D
 | none=>.non
 | some i=>.int i
def BH (p:Nat × Int):D:=.tup [.int p.1,.int p.2]
def sF (r:List (Nat × Int)):D:=.tup (r.map BH)
def aD (l:List Int):D:=.tup (l.map .int)
def Web.enc (w:Web):D:=.tup [.tup (w.ties.map sF),.tup (w.bars.map .int),.tup (w.stays.map aX)]
structure Web.Ok (w:Web) (n:Nat):Prop where
 t:w.ties.length=n
 b:w.bars.length=n
 s:w.stays.length=n
 lt:∀ r∈w.ties,∀ p∈r,p.1 < n
 sz:n≤1000
structure o6 (w:Web) (n:Nat) (s:List Int):Prop where
 len:s.length=n
 op:∀ x∈s,x=0∨x=1
 st:∀ (i:Nat) (x:Int),w.stays[i]? = some (some x)→s[i]? = some x
theorem eh {l:List D}{i:Nat}{d:D}(e:l[i]? = some d):atI l (i:Int)=some d:=by
 have:=(List.getElem?_eq_some_iff.mp e).1
 simp [atI,ixN,this]
 simpa [ZE this] using e
theorem cC {g:Option Nat}{all:List D}{tg:GF}{cs:List TF}{e:EF}{h:Hd}(I:Sd→Prop)(p:D→Bool)(f:D→D)(hh:iW g all h) :
  ∀ {xs:List D} {σ:Sd},(∀ x∈xs,∀ σ,I σ → ∃ σ',tg x σ = some σ'∧I σ'∧gJ cs σ' h=.ok (p x) h∧(p x=true→e σ' h=.ok (f x) h))→I σ →
   b0 g all tg cs e xs σ h=.ok ((xs.filter p).map f) h
 | [],_,_,_=>by simp [b0,hh]
 | x :: xs,σ,st,i=>by
  obtain⟨σ',h1,h2,h3,h4⟩:=st x (by simp) σ i
  have ih:=cC I p f hh (xs:=xs) (σ := σ') (fun y hy=>st y (by simp [hy])) h2
  cases hp:p x with
  | true=>simp [b0,hh,h1,h3,hp,h4 hp,ih]
  | false=>simp [b0,hh,h1,h3,hp,ih]
theorem vh {g:Option Nat}{all:List D}{tg:GF}{b:SF}{rest:List D}(P:Nat→Sd→Hd→Prop)(hh:∀ i σ h,P i σ h→iW g all h) :
  ∀ {xs:List D} {k:Nat} {σ:Sd} {h:Hd},(∀ (i:Nat) x σ h,xs[i]? = some x→P (k + i) σ h → ∃ σ',tg x σ = some σ' ∧ ∃ σ'' h'',b σ' h=.nx σ'' h''∧P (k + i + 1) σ'' h'')→P k σ h →
   ∃ σ' h',gG g all tg b (xs++rest) σ h=gG g all tg b rest σ' h'∧P (k + xs.length) σ' h'
 | [],k,σ,h,_,p=>⟨σ,h,rfl,by simpa using p⟩
 | x :: xs,k,σ,h,st,p=>by
  obtain⟨σ',h1,σ2,h2,h3,h4⟩:=st 0 x σ h (by simp) (by simpa using p)
  have st':∀ (i:Nat) y σ h,xs[i]? = some y→P (k + 1 + i) σ h → ∃ σ',tg y σ = some σ' ∧ ∃ σ'' h'',b σ' h=.nx σ'' h''∧P (k + 1 + i + 1) σ'' h'':=fun i y σ h e q=>by
   have e1:k + 1 + i=k + (i + 1):=by omega
   rw [e1] at q ⊢
   exact st (i + 1) y σ h (by simpa using e) q
  obtain⟨σ3,h5,h6,h7⟩:=vh P hh st' (by simpa using h4)
  refine⟨σ3,h5,?_,?_⟩
  ·rw [← h6,List.cons_append,gG,if_pos (hh _ _ _ p),h1]
   simp only [h3]
  ·have e1:k + (x :: xs).length=k + 1 + xs.length:=by simp;omega
   rw [e1];exact h7
theorem iw {g:Option Nat}{all:List D}{tg:GF}{b:SF}(P:Nat→Sd→Hd→Prop)(hh:∀ i σ h,P i σ h→iW g all h)
  {xs:List D} {k:Nat} {σ:Sd} {h:Hd} (st:∀ (i:Nat) x σ h,xs[i]? = some x→P (k + i) σ h → ∃ σ',tg x σ = some σ' ∧ ∃ σ'' h'',b σ' h=.nx σ'' h''∧P (k + i + 1) σ'' h'') (p:P k σ h) :
   ∃ σ' h',gG g all tg b xs σ h=.nx σ' h'∧P (k + xs.length) σ' h':=by
 obtain⟨σ',h',q,z⟩:=vh (rest:=[]) P hh st p
 rw [List.append_nil] at q
 exact⟨σ',h',q.trans (by unfold gG;exact if_pos (hh _ _ _ z)),z⟩
theorem qx {g:Option Nat}{all:List D}{tg:GF}{e:EF}(P:Nat→Sd→Hd→Prop)(V:Nat→D→Prop)(hh:∀ i σ h,P i σ h→iW g all h) :
  ∀ {xs:List D} {k:Nat} {σ:Sd} {h:Hd},(∀ (i:Nat) x σ h,xs[i]? = some x→P (k + i) σ h → ∃ σ',tg x σ = some σ' ∧ ∃ d h'',e σ' h=.ok d h''∧V (k + i) d∧P (k + i + 1) σ' h'')→P k σ h →
   ∃ ds h',b0 g all tg [] e xs σ h=.ok ds h'∧ds.length=xs.length∧(∀ (i:Nat) d,ds[i]? = some d→V (k + i) d) ∧ ∃ σ',P (k + xs.length) σ' h'
 | [],k,σ,h,_,p=>⟨[],h,by simp [b0,hh _ _ _ p],rfl,by simp,σ,by simpa using p⟩
 | x :: xs,k,σ,h,st,p=>by
  obtain⟨σ',h1,d,h2,h3,hv,h4⟩:=st 0 x σ h (by simp) (by simpa using p)
  have st':∀ (i:Nat) y σ h,xs[i]? = some y→P (k + 1 + i) σ h → ∃ σ',tg y σ = some σ' ∧ ∃ d h'',e σ' h=.ok d h''∧V (k + 1 + i) d∧P (k + 1 + i + 1) σ' h'':=fun i y σ h e q=>by
   have e1:k + 1 + i=k + (i + 1):=by omega
   rw [e1] at q ⊢
   exact st (i + 1) y σ h (by simpa using e) q
  obtain⟨ds,h5,h6,hl,hvs,σ3,h7⟩:=qx P V hh st' (by simpa using h4)
  refine⟨d :: ds,h5,?_,by simp [hl],fun i d' hd => ?_,σ3,?_⟩
  ·simp [b0,hh _ _ _ p,h1,gJ,h3,h6]
  ·cases i with
   | zero=>simp at hd;subst hd;simpa using hv
   | succ i =>
    have:=hvs i d' (by simpa using hd)
    rwa [show k + 1 + i=k + (i + 1) by omega] at this
  ·have e1:k + (x :: xs).length=k + 1 + xs.length:=by simp;omega
   rw [e1];exact h7
theorem BI {α : Type}{n:Nat}{ds:List α}{f:Nat → α}(hl:ds.length=n)(h:∀ (i:Nat) d,ds[i]? = some d→d=f i):ds=(List.range n).map f:=by
 apply List.ext_getElem?
 intro i
 by_cases hi:i < n
 ·have:ds[i]? = some (ds[i]'(by omega)):=by simp [hl,hi]
  rw [this,h i _ this]
  simp [hi]
 ·simp [hi,hl]
theorem gQ {t:TF}{b:SF}:∀ {n:Nat} {σ:Sd} {h:Hd} {r:Out},dM t b n σ h=r→r ≠ .bad → ∀ {m:Nat},n≤m→dM t b m σ h=r
 | 0,σ,h,r,e,hr,m,_=>by simp only [dM] at e;exact absurd e.symm hr
 | n + 1,σ,h,r,e,hr,m,hm=>by
  cases m with
  | zero=>omega
  | succ m =>
   simp only [dM] at e ⊢
   cases c:t σ h with
   | bad=>rw [c] at e;exact e
   | exc x h1=>rw [c] at e;exact e
   | ok cb h1 =>
    rw [c] at e
    cases cb with
    | false=>exact e
    | true =>
     simp only at e ⊢
     cases c2:b σ h1 with
     | nx σ2 h2=>rw [c2] at e;exact gQ e hr (by omega)
     | ct σ2 h2=>rw [c2] at e;exact gQ e hr (by omega)
     | bk σ2 h2=>rw [c2] at e;exact e
     | rt d h2=>rw [c2] at e;exact e
     | exc x σ2 h2=>rw [c2] at e;exact e
     | bad=>rw [c2] at e;exact e
theorem Ft {t:TF}{b:SF}{n:Nat}{σ:Sd}{h:Hd}{r:Out}(e:dM t b n σ h=r)(hr:r ≠ .bad):p8 t b σ h=r:=by
 have ex:∃ n,dM t b n σ h ≠ .bad:=⟨n,by rw [e];exact hr⟩
 have hf:KM t b σ h=Classical.choose ex:=by simp [KM,ex]
 have h2:=Classical.choose_spec ex
 unfold p8
 rw [hf]
 by_cases hle:n≤Classical.choose ex
 ·exact gQ e hr hle
 ·have:=gQ (n:=Classical.choose ex) rfl h2 (m:=n) (by omega)
  rw [← this,e]
end Fm
namespace Fm
theorem aw {F:Fn}{r:LF}{σ:Sd}{h h1 h':Hd}{ds:List D}{d:D}(a:r σ h=.ok ds h1)(b:F ds h1=.ok d h'):au F r σ h=.ok d h':=by
 show Res.bind _ _=_;rw [a];exact b
theorem ah {a:EF}{r:LF}{σ:Sd}{h h1 h2:Hd}{d:D}{ds:List D}(p:a σ h=.ok d h1)(q:r σ h1=.ok ds h2):ad a r σ h=.ok (d :: ds) h2:=by
 show Res.bind _ _=_;rw [p,aN,q];rfl
theorem aq {g:O2}{a b:EF}{σ:Sd}{h h1 h2 h3:Hd}{x y z:D}(p:a σ h=.ok x h1)(q:b σ h1=.ok y h2)(r:g x y h2=.ok z h3):ak g a b σ h=.ok z h3:=by
 show Res.bind _ _=_;rw [p,aN,q];exact r
theorem i6 {r:LF}{σ:Sd}{h h':Hd}{xs:List D}(p:r σ h=.ok xs h')(q:xs.length≤SZ:=by exact of_decide_eq_true rfl):g7 r σ h=.ok (.tup xs) h':=by
 show Res.bind _ _=_;rw [p];exact if_pos q
theorem bQ {r:LF}{σ:Sd}{h h':Hd}{xs:List D}(p:r σ h=.ok xs h')(q:xs.length≤SZ:=by exact of_decide_eq_true rfl):aG r σ h=.ok (.ref h'.length) (h'++[.lst xs]):=by
 show Res.bind _ _=_;rw [p];exact if_pos q
theorem bz {a b:EF}{σ:Sd}{h h1 h2:Hd}{x:D}{l:List D}{i:Int}{d:D}(p:a σ h=.ok x h1)(q:b σ h1=.ok (.int i) h2)(s:gI h2 x=some l)(r:atI l i=some d):fAt a b σ h=.ok d h2:=by
 show ak _ _ _ _ _=_;exact aq p q (by simp only [oAt,s,r])
theorem bF {h:Hd}{n:Nat}{l:List D}(p:h[n]? = some (.lst l)):gI h (.ref n)=some l:=by simp only [gI,p]
theorem aM {i:Nat}{e:EF}{σ:Sd}{h h':Hd}{d:D}(p:e σ h=.ok d h'):bd (gN i) e σ h=.nx (σ.set i (some d)) h':=by
 show outE _ _ _=_;rw [p];rfl
theorem aP {e:EF}{σ:Sd}{h h':Hd}{d:D}(p:e σ h=.ok d h'):aT e σ h=.rt d h':=by
 show outE _ _ _=_;rw [p];rfl
theorem wQ {e:EF}{σ:Sd}{h h':Hd}{d:D}(p:e σ h=.ok d h'):kS e σ h=.nx σ h':=by
 show outE _ _ _=_;rw [p];rfl
theorem qy {t:TF}{a b:SF}{σ:Sd}{h h1:Hd}(p:t σ h=.ok true h1):sIf t a b σ h=a σ h1:=by
 unfold sIf;rw [p];rfl
theorem dh {t:TF}{a b:SF}{σ:Sd}{h h1:Hd}(p:t σ h=.ok false h1):sIf t a b σ h=b σ h1:=by
 unfold sIf;rw [p];rfl
theorem aY {a:EF}{σ:Sd}{h h':Hd}{b:Bool}(p:a σ h=.ok (.bl b) h'):tE a σ h=.ok b h':=by
 show asB _=_;rw [p];rfl
theorem cW {t:TF}{σ:Sd}{h h':Hd}{b:Bool}(p:t σ h=.ok b h'):dq t σ h=.ok (!b) h':=by
 show Res.bind _ _=_;rw [p];rfl
theorem wR {t u:TF}{σ:Sd}{h h1 h':Hd}{b:Bool}(p:t σ h=.ok true h1)(q:u σ h1=.ok b h'):oY t u σ h=.ok b h':=by
 show Res.bind _ _=_;rw [p];exact q
theorem Lk {t u:TF}{σ:Sd}{h h1:Hd}(p:t σ h=.ok false h1):oY t u σ h=.ok false h1:=by
 show Res.bind _ _=_;rw [p];rfl
theorem iy {t u:TF}{σ:Sd}{h h1 h':Hd}{b:Bool}(p:t σ h=.ok false h1)(q:u σ h1=.ok b h'):tOr t u σ h=.ok b h':=by
 show Res.bind _ _=_;rw [p];exact q
theorem IK {t u:TF}{σ:Sd}{h h1:Hd}(p:t σ h=.ok true h1):tOr t u σ h=.ok true h1:=by
 show Res.bind _ _=_;rw [p];rfl
theorem zE {i j:Int}{h:Hd}:oEq (.int i) (.int j) h=.ok (.bl (decide (i=j))) h:=rfl
theorem dZ {a:LF}{σ:Sd}{h h1:Hd}{l:List D}(p:a σ h=.ok l h1):fL a σ h=.ok (.int l.length) h1:=by
 show Res.bind _ _=_;rw [p];rfl
theorem cD {a:EF}{σ:Sd}{h h1:Hd}{x:D}{l:List D}(p:a σ h=.ok x h1)(s:gI h1 x=some l):lOf a σ h=.ok l h1:=by
 show Res.bind _ _=_;rw [p];simp only [aN,s]
theorem OA {x i e:EF}{σ:Sd}{h h1 h2 h3:Hd}{d:D}{n k:Nat}{j:Int}{l:List D}(p:e σ h=.ok d h1)(q:x σ h1=.ok (.ref n) h2)(r:i σ h2=.ok (.int j) h3)(s:h3[n]? = some (.lst l))(t:ixN l.length j=some k):yU x i e σ h=.nx σ (h3.set n (.lst (l.set k d))):=by
 simp only [yU,p,q,r,outE,s,t]
theorem BJ {x e:EF}{σ:Sd}{h h1 h2:Hd}{d:D}{n:Nat}{l l0:List D}(p:x σ h=.ok (.ref n) h1)(q:h1[n]? = some (.lst l0))(r:e σ h1=.ok d h2)(s:h2[n]? = some (.lst l))(t:l.length < SZ):mP x e σ h=.ok .non (h2.set n (.lst (l++[d]))):=by
 simp only [mP,p,aN,q,r,Nn,s,if_pos t]
theorem BK {i j:Int}{h:Hd}(p:0 < j):ij (.int i) (.int j) h=.ok (.int (i % j)) h:=by
 simp only [ij,oIc,decide_eq_true p,if_true]
theorem IL {i j:Int}{h:Hd}(p:0 < j)(q:j < 2 ^ 250):yS (.int i) (.int j) h=.ok (.int (i / j)) h:=by
 simp only [yS,oIc,decide_eq_true p,decide_eq_true q,Bool.and_self,if_true]
theorem BM {i j:Int}{h:Hd}(e:i=j):oEq (.int i) (.int j) h=.ok (.bl true) h:=by rw [zE,decide_eq_true e]
theorem wS {i j:Int}{h:Hd}(e : ¬ i=j):oEq (.int i) (.int j) h=.ok (.bl false) h:=by rw [zE,decide_eq_false e]
theorem OB {i j:Int}{h:Hd}(e : ¬ i < j):oLt (.int i) (.int j) h=.ok (.bl false) h:=by show Res.ok (D.bl (decide (i < j))) h=_;rw [decide_eq_false e]
theorem IM {i j:Int}{h:Hd}(e:i < j):oLt (.int i) (.int j) h=.ok (.bl true) h:=by show Res.ok (D.bl (decide (i < j))) h=_;rw [decide_eq_true e]
theorem IN {i j:Int}{h:Hd}(p:(sml i || sml j)=true):eJ (.int i) (.int j) h=.ok (.int (i * j)) h:=by
 show (if (sml i || sml j)=true then _ else _)=_
 exact if_pos p
theorem lU {i j:Int}{h:Hd}(p:sml i=true):eJ (.int i) (.int j) h=.ok (.int (i * j)) h:=IN (by rw [p];rfl)
theorem Ll {i j:Int}{h:Hd}(p:sml j=true):eJ (.int i) (.int j) h=.ok (.int (i * j)) h:=IN (by rw [p,Bool.or_true])
theorem vj {t:TF}{σ:Sd}{h h':Hd}{b:Bool}(p:t σ h=.ok b h'):fT t σ h=.ok (.bl b) h':=by
 show Res.bind _ _=_;rw [p];rfl
theorem i7 {r:LF}{σ:Sd}{h0 h g:Hd}{xs:List D}{A:Nat}(hA:A=h0.length)(p:r σ h=.ok xs (h0++g))(q:xs.length≤SZ):aG r σ h=.ok (.ref (A + g.length)) (h0++(g++[.lst xs])):=by
 rw [bQ p q,hA,ZB,ZU]
theorem gR {h0 g:Hd}{A:Nat}(hA:A=h0.length)(k:Nat)(c:cT):(h0++g).set (A + k) c=h0++g.set k c:=by
 subst hA
 rw [List.set_append_right _ _ (by omega)]
 congr 2;omega
theorem e8 {h0 g:Hd}{A:Nat}(hA:A=h0.length)(k:Nat):(h0++g)[A + k]? = g[k]? := by
 subst hA
 rw [ZD (by omega),Nat.add_sub_cancel_left]
theorem ay {h0:Hd}{j:Nat}{c:cT}(g:Hd)(e:h0[j]? = some c):(h0++g)[j]? = some c:=(ZC (List.getElem?_eq_some_iff.mp e).1).trans e
theorem jS {a:EF}{σ:Sd}{h h1:Hd}{n:Nat}(p:a σ h=.ok (.int n) h1)(hn:n≤1000):dL a σ h=.ok ((List.range n).map (fun k:Nat=>D.int k),none) h1:=by
 show Res.bind _ _=_
 rw [p]
 exact if_pos ⟨Int.le_trans (by decide) (Int.natCast_nonneg n),Int.le_trans (Int.ofNat_le.mpr hn) (by decide)⟩
theorem k7 {it:IF}{tg:GF}{b:SF}{σ:Sd}{h h1:Hd}{l:List D}{g:Option Nat}{o:Out}(p:it σ h=.ok (l,g) h1)(q:gG g l tg b l σ h1=o):o5 it tg b σ h=o:=by
 unfold o5;rw [p];exact q
theorem dW {nl:Nat}{caps:List Nat}{it:IF}{tg:GF}{cs:List TF}{e:EF}{σ:Sd}{h h1 h2:Hd}{l ds:List D}{g:Option Nat}(p:it σ h=.ok (l,g) h1)(q:b0 g l tg cs e l (fE nl caps σ) h1=.ok ds h2):cQ nl caps it tg cs e σ h=.ok ds h2:=by
 show Res.bind _ _=_;rw [p];exact q
theorem qz {la:LF}{b:EF}{σ:Sd}{h h1 h2:Hd}{l:List D}{n:Int}(p:la σ h=.ok l h1)(q:b σ h1=.ok (.int n) h2)(r:0≤n∧n≤1000∧l.length * n.toNat≤1000):gv la b σ h=.ok (List.replicate n.toNat l).flatten h2:=by
 simp only [gv,p,aN,q,if_pos r]
theorem OC {k:Int}{n:Nat}{h:Hd}{l:List (Int × D)}(p:h[n]? = some (.dct l)):HH (.int k) (.ref n) h=.ok (.bl (qj l k).isSome) h:=by simp only [HH,p]
theorem Ev {x i e:EF}{σ:Sd}{h h1 h2 h3:Hd}{d:D}{n:Nat}{j:Int}{l:List (Int × D)}(p:e σ h=.ok d h1)(q:x σ h1=.ok (.ref n) h2)(r:i σ h2=.ok (.int j) h3)(s:h3[n]? = some (.dct l))(t:l.length < SZ):zc x i e σ h=.nx σ (h3.set n (.dct (Bs l j d))):=by
 simp only [zc,p,q,r,outE,s,if_pos t]
theorem wT {a:EF}{σ:Sd}{h h1:Hd}{n:Nat}{l:List D}(p:a σ h=.ok (.ref n) h1)(q:h1[n]? = some (.lst l)):gj .list a σ h=.ok (.bl true) h1:=by
 simp only [gj,p,aN,E7,q];rfl
theorem e9 {a:EF}{σ:Sd}{h h1:Hd}{n:Nat}{l:List D}(p:a σ h=.ok (.ref n) h1)(q:h1[n]? = some (.lst l)):iV a σ h=.ok (l,some n) h1:=by
 simp only [iV,p,aN,q]
theorem wU {a:EF}{σ:Sd}{h h1:Hd}{b:Bool}(p:a σ h=.ok (.bl b) h1):mO a σ h=.ok (.int (b2i b)) h1:=by
 simp only [mO,p,aN]
theorem OD {a:LF}{σ:Sd}{h h1:Hd}{l:List D}{is:List Int}(p:a σ h=.ok l h1)(q:dj l=some is):KL a σ h=.ok (.int is.sum) h1:=by
 simp only [KL,p,aN,q]
theorem i8 {a:LF}{σ:Sd}{h h1:Hd}{l:List D}(p:a σ h=.ok l h1):io a σ h=.ok (.tup l) h1:=by
 show Res.bind _ _=_;rw [p];rfl
theorem BN {i j:Int}{h:Hd}(e:j < i):oGt (.int i) (.int j) h=.ok (.bl true) h:=by show Res.ok (D.bl (decide (j < i))) h=_;rw [decide_eq_true e]
theorem wV {i j:Int}{h:Hd}(e : ¬ j < i):oGt (.int i) (.int j) h=.ok (.bl false) h:=by show Res.ok (D.bl (decide (j < i))) h=_;rw [decide_eq_false e]
theorem Ew {h:Hd}{A:Nat}(hA:A=h.length)(c:cT):(h++[c])[A]? = some c:=by rw [hA];exact ZG
theorem Ex {h:Hd}{A:Nat}(hA:A=h.length)(c d:cT):(h++[c]).set A d=h++[d]:=by
 have:=gR (g:=[c]) hA 0 d
 rwa [Nat.add_zero] at this
theorem wW {r:LF}{σ:Sd}{h h':Hd}{xs:List D}{A:Nat}(hA:A=h'.length)(p:r σ h=.ok xs h')(q:xs.length≤SZ):aG r σ h=.ok (.ref A) (h'++[.lst xs]):=by rw [hA];exact bQ p q
theorem Ey {l:List Int}{i:Nat}(h:i < l.length):atI (l.map D.int) (i:Int)=some (.int (l.getD i 0)):=eh (by rw [ZQ,ZE h,ZF,ZE h];rfl)
theorem qA {t:TF}{a b:EF}{σ:Sd}{h h1:Hd}(p:t σ h=.ok true h1):fIf t a b σ h=a σ h1:=by
 show Res.bind _ _=_;rw [p];rfl
theorem wX {t:TF}{a b:EF}{σ:Sd}{h h1:Hd}(p:t σ h=.ok false h1):fIf t a b σ h=b σ h1:=by
 show Res.bind _ _=_;rw [p];rfl
theorem cA {a b:SF}{σ σ':Sd}{h h':Hd}(e:a σ h=.nx σ' h'):aC a b σ h=b σ' h':=by simp only [aC,e]
theorem oH {a b:SF}{σ:Sd}{h h':Hd}{d:D}(e:a σ h=.rt d h'):aC a b σ h=.rt d h':=by simp only [aC,e]
theorem br {np n:Nat}{b:SF}{ds:List D}{σ:Sd}{h h':Hd}{d:D}(hl:ds.length=np)(st:(ds.map some++List.replicate (n - ds.length) none:Sd) = σ)(e:b σ h=.rt d h'):bN np n b ds h=letGo h (.ok d h'):=by
 unfold bN runB;rw [if_pos hl,st,e]
theorem P8 {np n:Nat}{b:SF}{ds:List D}{σ σ':Sd}{h h':Hd}(hl:ds.length=np)(st:(ds.map some++List.replicate (n - ds.length) none:Sd) = σ)(e:b σ h=.nx σ' h'):bN np n b ds h=letGo h (.ok .non h'):=by
 unfold bN runB;rw [if_pos hl,st,e]
theorem vk {t:TF}{σ:Sd}{h:Hd}{b:Bool}(p:t σ h=.ok b h):gJ [t] σ h=.ok b h:=by
 simp only [gJ,p,aN];cases b<;>rfl
theorem IO {a:EF}{σ:Sd}{h h1:Hd}{l:List D}(p:a σ h=.ok (.tup l) h1):iV a σ h=.ok (l,none) h1:=by
 show Res.bind _ _=_;rw [p];rfl
theorem wY {a:LF}{σ:Sd}{h h1:Hd}{l:List D}{bs:List Bool}(p:a σ h=.ok l h1)(q:im l=some bs):yT a σ h=.ok (.bl (bs.all id)) h1:=by
 simp only [yT,p,aN,q]
theorem qB (a b:Int)(h:Hd):oNe (.int a) (.int b) h=.ok (.bl (!decide (a=b))) h:=rfl
theorem cP {a b:EF}{σ:Sd}{h h1 h2:Hd}{d e:D}(p:a σ h=.ok d h1)(q:b σ h1=.ok e h2):ad a (ad b aj) σ h=.ok [d,e] h2:=ah p (ah q rfl)
theorem QV {n m:Nat}(h:n≤30)(q:30≤m:=by decide):n≤m:=ZM h q
theorem sx {a b:SF}{σ σ':Sd}{h h':Hd}{o:Out}(p:a σ h=.nx σ' h')(q:b σ' h'=o):aC a b σ h=o:=(cA p).trans q
end Fm
namespace Fm
noncomputable def cE:Fn:=bN 1 1 (aT (fT (oY (tE (gj .int (aa 0))) (dq (tE (gj .bool (aa 0)))))))
noncomputable def bc:Fn:=bN 3 3 (aT (fT (oY (tE (au cE (ad (aa 0) aj))) (tE (p7 oLe oLe (aa 1) (aa 0) (aa 2))))))
noncomputable def bG:Fn:=bN 1 1 (aT (au bc (ad (aa 0) (ad (fC (.int 0)) (ad (fC (.int 1)) aj)))))
noncomputable def cm:Fn:=bN 1 1 (aT (fL (lOf (fAt (aa 0) (fC (.int 0))))))
noncomputable def iz:Fn:=bN 2 2 (aT (fAt (fAt (aa 0) (fC (.int 0))) (aa 1)))
noncomputable def jT:Fn:=bN 2 2 (aT (fAt (fAt (aa 0) (fC (.int 1))) (aa 1)))
noncomputable def cY:Fn:=bN 2 2 (aT (fAt (fAt (aa 0) (fC (.int 2))) (aa 1)))
noncomputable abbrev Ez:SF:=(aC (sIf (dq (tE (au bG (ad (aa 3) aj)))) (aT (fC (.bl false))) bM)
  (aC (bd (gN 4) (au cY (ad (aa 0) (ad (aa 2) aj))))
  (sIf (oY (tE (ak pF (aa 4) (fC .non))) (tE (ak oNe (aa 3) (aa 4)))) (aT (fC (.bl false))) bM)))
noncomputable def qC:Fn:=bN 2 5 (aC (sIf (tOr (dq (tE (gj .tuple (aa 1)))) (tE (ak oNe (fL (lOf (aa 1))) (au cm (ad (aa 0) aj))))) (aT (fC (.bl false))) bM)
  (aC (o5 (Ho (aa 1)) (gT [2,3]) Ez)
  (aT (fC (.bl true)))))
noncomputable def cZ:Fn:=bN 2 2 (sIf (dq (tE (au qC (ad (aa 0) (ad (aa 1) aj))))) kT bM)
noncomputable def iA:Fn:=bN 3 3 (aT (ak eJ (fC (.int 2)) (KL (cQ 2 [1] (iV (au iz (ad (aa 0) (ad (aa 2) aj)))) (gT [0,1]) [(tE (ak oEq (fAt (aa 2) (aa 0)) (fC (.int 1))))] (aa 1)))))
theorem lV (i:Int)(h:Hd):cE [.int i] h=.ok (.bl true) h:=(br (d:=.bl true) (h':=h) rfl rfl rfl).trans aH
theorem ek (i a b:Int)(h:Hd):bc [.int i,.int a,.int b] h=.ok (.bl (decide (a≤i) && decide (i≤b))) h:=by
 have ch:p7 oLe oLe (aa 1) (aa 0) (aa 2) [some (.int i),some (.int a),some (.int b)] h=.ok (.bl (decide (a≤i) && decide (i≤b))) h:=by
  show (match D.bl (decide (a≤i)) with | .bl true=>Res.ok (D.bl (decide (i≤b))) h | .bl false=>.ok (.bl false) h|_=>.bad)=_
  cases decide (a≤i)<;>rfl
 have t:oY (tE (au cE (ad (aa 0) aj))) (tE (p7 oLe oLe (aa 1) (aa 0) (aa 2))) [some (.int i),some (.int a),some (.int b)] h=.ok (decide (a≤i) && decide (i≤b)) h:=wR (aY (aw (ah rfl rfl) (lV i h))) (aY ch)
 exact (br rfl rfl (aP (vj t))).trans aH
theorem gx (i:Int)(h:Hd):bG [.int i] h=.ok (.bl (decide (0≤i) && decide (i≤1))) h:=by
 exact (br rfl rfl (aP (aw (ah rfl (cP rfl rfl)) (ek i 0 1 h)))).trans aH
theorem jU (w:Web)(h:Hd):cm [w.enc] h=.ok (.int w.ties.length) h:=by
 have:=(br (np:=1) (n:=1) (b:=aT (fL (lOf (fAt (aa 0) (fC (.int 0)))))) (ds:=[w.enc]) (h:=h) rfl rfl (aP (dZ (cD (bz rfl rfl rfl rfl) rfl)))).trans aH
 rwa [ZA] at this
theorem zF (w:Web)(h:Hd){p:Nat}{r:List (Nat × Int)}(e:w.ties[p]? = some r):iz [w.enc,.int p] h=.ok (sF r) h:=by
 have q:atI (w.ties.map sF) (p:Int)=some (sF r):=eh (by simp [e])
 exact (br rfl rfl (aP (bz (bz rfl rfl rfl rfl) rfl rfl q))).trans aH
theorem BO (w:Web)(h:Hd){p:Nat}{r:Int}(e:w.bars[p]? = some r):jT [w.enc,.int p] h=.ok (.int r) h:=by
 have q:atI (w.bars.map .int) (p:Int)=some (.int r):=eh (by simp [e])
 exact (br rfl rfl (aP (bz (bz rfl rfl rfl rfl) rfl rfl q))).trans aH
theorem jV (w:Web)(h:Hd){p:Nat}{r:Option Int}(e:w.stays[p]? = some r):cY [w.enc,.int p] h=.ok (aX r) h:=by
 have q:atI (w.stays.map aX) (p:Int)=some (aX r):=eh (by simp [e])
 exact (br rfl rfl (aP (bz (bz rfl rfl rfl rfl) rfl rfl q))).trans aH
theorem Lm {w:Web}{n:Nat}{s:List Int}(W:w.Ok n)(F:o6 w n s)(h:Hd):qC [w.enc,aD s] h=.ok (.bl true) h:=by
 obtain⟨σ',h',h1,h2,a,b,c,h3⟩:=iw (P:=fun _ σ h'=>h'=h ∧ ∃ a b c,σ = [some w.enc,some (aD s),a,b,c]) (g:=none) (k:=0)
   (all:=((List.range (s.map D.int).length).zip (s.map D.int)).map fun p=>D.tup [.int (p.1:Nat),p.2]) (fun _ _ _ _=>trivial)
   (xs:=((List.range (s.map D.int).length).zip (s.map D.int)).map fun p=>D.tup [.int (p.1:Nat),p.2]) (tg:=gT [2,3]) (σ:=[some w.enc,some (aD s),none,none,none]) (h:=h)
   (b:=Ez) (by
   rintro i x σ h0 hx ⟨rfl,a,b,c,rfl⟩
   have hi:i < s.length:=by
    have:=(List.getElem?_eq_some_iff.mp hx).1
    simpa using this
   have hx':x=.tup [.int (i:Nat),.int s[i]]:=by simpa [hi,ZE] using hx.symm
   subst hx'
   have hs:w.stays[i]? = some (w.stays[i]'(by rw [W.s,← F.len];exact hi)):=ZE _
   generalize w.stays[i]'(by rw [W.s,← F.len];exact hi)=st at hs
   have op:bG [.int s[i]] h0=.ok (.bl true) h0:=by
    rw [gx];rcases F.op _ (List.getElem_mem hi) with e|e<;>rw [e]<;>rfl
   have s1:sIf (dq (tE (au bG (ad (aa 3) aj)))) (aT (fC (.bl false))) bM [some w.enc,some (aD s),some (.int i),some (.int s[i]),c] h0=.nx [some w.enc,some (aD s),some (.int i),some (.int s[i]),c] h0:=dh (cW (aY (aw (ah rfl rfl) op)))
   have sv:=jV w h0 hs
   cases st with
   | none=>exact⟨_,rfl,_,h0,(cA s1).trans ((cA (aM (aw (cP rfl rfl) sv))).trans (dh (Lk (aY (aq rfl rfl rfl))))),rfl,_,_,_,rfl⟩
   | some y =>
    have hy:s[i] = y:=by have:=F.st i y hs;rw [ZE hi] at this;exact ZT this
    exact⟨_,rfl,_,h0,(cA s1).trans ((cA (aM (aw (cP rfl rfl) sv))).trans (dh (wR (aY (aq rfl rfl rfl)) (aY (aq rfl rfl (by rw [show aX (some y)=D.int y from rfl,qB,decide_eq_true hy];rfl)))))),rfl,_,_,_,rfl⟩) ⟨rfl,_,_,_,rfl⟩
 rw [h2,h3] at h1
 have s1:sIf (tOr (dq (tE (gj .tuple (aa 1)))) (tE (ak oNe (fL (lOf (aa 1))) (au cm (ad (aa 0) aj))))) (aT (fC (.bl false))) bM [some w.enc,some (aD s),none,none,none] h=.nx [some w.enc,some (aD s),none,none,none] h :=
  dh (iy (cW (b:=true) (aY rfl)) (aY (aq (dZ (cD rfl rfl)) (aw (ah rfl rfl) (jU w h)) (by rw [qB,ZA,F.len,W.t,decide_eq_true rfl];rfl))))
 exact (br rfl rfl ((cA s1).trans ((cA (k7 rfl h1)).trans (aP rfl)))).trans aH
theorem IP {w:Web}{n:Nat}{s:List Int}(W:w.Ok n)(F:o6 w n s)(h:Hd):cZ [w.enc,aD s] h=.ok .non h:=by
 exact (P8 rfl rfl (dh (cW (aY (aw (cP rfl rfl) (Lm W F h)))))).trans aH
theorem Fu (l:List Int):dj (l.map .int)=some l:=by
 induction l with
 | nil=>rfl
 | cons x xs ih=>simp [dj,ih]
theorem OE {s:List Int}{i:Nat}(h:i < s.length):atI (s.map .int) (i:Int)=some (.int s[i]):=eh (by simp [h])
def pM (r:List (Nat × Int)) (s:List Int):List Int:=(r.filter fun p=>decide (s.getD p.1 0=1)).map (·.2)
def el (r:List (Nat × Int)) (s:List Int):Int:=(pM r s).sum
theorem IQ {r:List (Nat × Int)}{s:List Int}(hr:∀ q∈r,q.1 < s.length)(h:Hd):b0 none (r.map BH) (gT [0,1]) [(tE (ak oEq (fAt (aa 2) (aa 0)) (fC (.int 1))))] (aa 1) (r.map BH) [none,none,some (aD s)] h=.ok ((pM r s).map D.int) h:=by
 have key:b0 none (r.map BH) (gT [0,1]) [(tE (ak oEq (fAt (aa 2) (aa 0)) (fC (.int 1))))] (aa 1) (r.map BH) [none,none,some (aD s)] h
   = .ok (((r.map BH).filter fun d=>match d with | .tup [.int i,_]=>decide (s.getD i.toNat 0=1)|_=>false).map fun d=>match d with | .tup [_,x]=>x|_=>.non) h:=by
  refine cC (g:=none) (I:=fun σ=>∃ a b,σ = [a,b,some (aD s)]) _ _ trivial ?_ ⟨_,_,rfl⟩
  rintro x hx σ ⟨a,b,rfl⟩
  obtain⟨⟨q,wt⟩,hq,rfl⟩:=List.mem_map.mp hx
  exact⟨_,rfl,⟨_,_,rfl⟩,vk (aY (aq (bz rfl rfl rfl (Ey (hr _ hq))) rfl zE)),fun _=>rfl⟩
 rw [key,pM,List.filter_map,List.map_map,List.map_map]
 rfl
theorem BP {w:Web}{n:Nat}{s:List Int}(W:w.Ok n)(hs:s.length=n){p:Nat}{r:List (Nat × Int)}(e:w.ties[p]? = some r)(h:Hd) :
  iA [w.enc,aD s,.int p] h=.ok (.int (2 * el r s)) h:=by
 have hr:∀ q∈r,q.1 < s.length:=fun q hq=>by rw [hs];exact W.lt r (ZK e) q hq
 exact (br rfl rfl (aP (aq rfl (OD (dW (IO (aw (cP rfl rfl) (zF w h e))) (IQ hr h)) (Fu _)) (lU (by decide))))).trans aH
end Fm
namespace Fm
noncomputable def eM:Fn:=bN 3 6 (aC (bd (gN 3) (au cY (ad (aa 0) (ad (aa 2) aj))))
  (aC (sIf (tE (ak pF (aa 3) (fC .non))) (aT (aa 3)) bM)
  (aC (bd (gN 4) (au iA (ad (aa 0) (ad (aa 1) (ad (aa 2) aj)))))
  (aC (bd (gN 5) (au jT (ad (aa 0) (ad (aa 2) aj))))
  (aC (sIf (tE (ak oEq (aa 4) (aa 5))) (aT (fAt (aa 1) (aa 2))) bM)
  (aT (fIf (tE (ak oGt (aa 4) (aa 5))) (fC (.int 1)) (fC (.int 0)))))))))
noncomputable def dA:Fn:=bN 2 2 (aT (io (cQ 1 [0,1] (dL (au cm (ad (aa 0) aj))) (gN 0) [] (au eM (ad (aa 1) (ad (aa 2) (ad (aa 0) aj)))))))
noncomputable abbrev qD:SF:=(aC (kS (mP (aa 2) (aa 3)))
  (bd (gN 3) (au dA (ad (aa 0) (ad (aa 3) aj)))))
noncomputable def i9:Fn:=bN 2 5 (aC (kS (au cZ (ad (aa 0) (ad (aa 1) aj))))
  (aC (bd (gN 2) (aG (ad (aa 1) (ad (au dA (ad (aa 0) (ad (aa 1) aj))) aj))))
  (aC (bd (gN 3) (au dA (ad (aa 0) (ad (fAt (aa 2) (fC (.int 1))) aj))))
  (aC (p8 (tE (ak oNe (aa 3) (fAt (aa 2) (fC (.int (-2)))))) qD)
  (aC (bd (gN 4) (fIf (tE (ak oEq (fAt (aa 2) (fC (.int (-1)))) (fAt (aa 2) (fC (.int (-2)))))) (fC (.str [114,101,115,116])) (fC (.str [112,97,105,114]))))
  (aT (g7 (ad (ak gZ (fL (lOf (aa 2))) (fC (.int 2))) (ad (aa 4) (ad (aa 2) aj))))))))))
def fq (w:Web) (s:List Int) (p:Nat):Int:=match w.stays.getD p none with
 | some x=>x
 | none=>if 2 * el (w.ties.getD p []) s=w.bars.getD p 0 then s.getD p 0 else if w.bars.getD p 0 < 2 * el (w.ties.getD p []) s then 1 else 0
def cS (w:Web) (n:Nat) (s:List Int):List Int:=(List.range n).map (fq w s)
theorem BQ {w:Web}{n:Nat}{s:List Int}(W:w.Ok n)(F:o6 w n s){p:Nat}(hp:p < n)(h:Hd):eM [w.enc,aD s,.int p] h=.ok (.int (fq w s p)) h:=by
 have ht:p < w.ties.length:=by rw [W.t];exact hp
 have hb:p < w.bars.length:=by rw [W.b];exact hp
 have hst:p < w.stays.length:=by rw [W.s];exact hp
 have hs:p < s.length:=by rw [F.len];exact hp
 have et:w.ties[p]? = some w.ties[p]:=by simp [ht]
 have eb:w.bars[p]? = some w.bars[p]:=by simp [hb]
 have es:w.stays[p]? = some w.stays[p]:=by simp [hst]
 have pull:=BP W F.len et h
 have gt:w.ties.getD p [] = w.ties[p]:=by simp [List.getD,ht]
 have gb:w.bars.getD p 0=w.bars[p]:=by simp [List.getD,hb]
 have gs:w.stays.getD p none=w.stays[p]:=by simp [List.getD,hst]
 have gi:s.getD p 0=s[p]:=by simp [List.getD,hs]
 have ai:=OE hs
 cases c:w.stays[p] with
 | some x =>
  rw [c] at es
  have nx:fq w s p=x:=by unfold fq;rw [gs,c]
  rw [nx]
  exact (br rfl rfl ((cA (aM (aw (cP rfl rfl) (jV w h es)))).trans (oH ((qy (aY (aq rfl rfl rfl))).trans (aP rfl))))).trans aH
 | none =>
  rw [c] at es
  have sv:=jV w h es
  have bv:=BO w h eb
  simp only [fq,gs,c,gt,gb,gi]
  generalize 2 * el w.ties[p] s=P at pull
  have go:∀ {v:Int},aC (sIf (tE (ak oEq (aa 4) (aa 5))) (aT (fAt (aa 1) (aa 2))) bM) (aT (fIf (tE (ak oGt (aa 4) (aa 5))) (fC (.int 1)) (fC (.int 0)))) [some w.enc,some (aD s),some (.int p),some .non,some (.int P),some (.int w.bars[p])] h=.rt (.int v) h→eM [w.enc,aD s,.int p] h=.ok (.int v) h:=fun e=>Eq.trans (br (σ:=[some w.enc,some (aD s),some (.int p),none,none,none]) rfl rfl (sx (aM (aw (cP rfl rfl) sv)) (sx (dh (aY (aq rfl rfl rfl))) (sx (aM (aw (ah rfl (cP rfl rfl)) pull)) (sx (aM (aw (cP rfl rfl) bv)) e))))) aH
  by_cases e1:P=w.bars[p]
  ·rw [if_pos e1];exact go (oH ((qy (aY (aq rfl rfl (BM e1)))).trans (aP (bz rfl rfl rfl ai))))
  ·rw [if_neg e1]
   by_cases e2:w.bars[p] < P
   ·rw [if_pos e2];exact go ((cA (dh (aY (aq rfl rfl (wS e1))))).trans (aP ((qA (aY (aq rfl rfl (BN e2)))).trans rfl)))
   ·rw [if_neg e2];exact go ((cA (dh (aY (aq rfl rfl (wS e1))))).trans (aP ((wX (aY (aq rfl rfl (wV e2)))).trans rfl)))
theorem k8 {w:Web}{n:Nat}{s:List Int}(W:w.Ok n)(F:o6 w n s)(h:Hd):dA [w.enc,aD s] h=.ok (aD (cS w n s)) h:=by
 have key:b0 none ((List.range n).map fun k:Nat=>D.int k) (gN 0) [] (au eM (ad (aa 1) (ad (aa 2) (ad (aa 0) aj)))) ((List.range n).map fun k:Nat=>D.int k) [none,some w.enc,some (aD s)] h
   = .ok (((((List.range n).map fun k:Nat=>D.int k).filter fun _=>true)).map fun d=>match d with | .int i=>.int (fq w s i.toNat)|_=>.non) h:=by
  refine cC (g:=none) (I:=fun σ=>∃ a,σ = [a,some w.enc,some (aD s)]) _ _ trivial ?_ ⟨_,rfl⟩
  rintro x hx σ ⟨a,rfl⟩
  obtain⟨i,hi,rfl⟩:=List.mem_map.mp hx
  have hi:=List.mem_range.mp hi
  exact⟨_,rfl,⟨_,rfl⟩,by simp,fun _=>aw (ah rfl (cP rfl rfl)) (BQ W F hi h)⟩
 have k2:((((List.range n).map fun k:Nat=>D.int k).filter fun _=>true)).map (fun d=>match d with | .int i=>D.int (fq w s i.toNat)|_=>.non)=(cS w n s).map D.int:=by
  rw [List.filter_eq_self.mpr (by simp),List.map_map,cS,List.map_map];rfl
 rw [k2] at key
 have mq:cm [w.enc] h=.ok (.int n) h:=W.t ▸ jU w h
 exact (br rfl rfl (aP (i8 (dW (jS (aw (ah rfl rfl) mq) W.sz) key)))).trans aH
def gy (w:Web):Prop:=∀ x∈w.stays,x=none∨x=some 0∨x=some 1
theorem IR {w:Web}{n:Nat}{s:List Int}(F:o6 w n s)(i:Nat):s.getD i 0=0∨s.getD i 0=1:=by
 by_cases hi:i < s.length
 ·rw [List.getD,ZE hi];exact F.op _ (List.getElem_mem hi)
 ·rw [List.getD,List.getElem?_eq_none (by omega)];exact .inl rfl
theorem IS {w:Web}{n:Nat}{s:List Int}(F:o6 w n s)(S:gy w)(p:Nat):fq w s p=0∨fq w s p=1:=by
 unfold fq
 cases c:w.stays.getD p none with
 | some x =>
  have:some x∈w.stays:=by
   rw [List.getD] at c
   cases e:w.stays[p]? with
   | none=>rw [e] at c;cases c
   | some y=>rw [e] at c;simp at c;subst c;exact ZK e
  have:=S _ this
  simp at this
  exact this
 | none =>
  simp only
  split
  ·exact IR F p
  ·split<;>simp
theorem Fv {w:Web}{n:Nat}{s:List Int}(W:w.Ok n)(S:gy w)(F:o6 w n s):o6 w n (cS w n s) where
 len:=by simp [cS]
 op:=fun x hx=>by
  obtain⟨p,hp,rfl⟩:=List.mem_map.mp hx
  exact IS F S p
 st:=fun i x e=>by
  have hi:i < n:=by rw [← W.s];exact (List.getElem?_eq_some_iff.mp e).1
  have:w.stays.getD i none=some x:=by simp [List.getD,e]
  have hn:fq w s i=x:=by unfold fq;rw [this]
  simp [cS,hi,hn]
def bj (w:Web) (n:Nat) (s:List Int):Nat→List Int
 | 0=>s
 | k + 1=>cS w n (bj w n s k)
theorem kq {w:Web}{n:Nat}{s:List Int}(W:w.Ok n)(S:gy w)(F:o6 w n s):∀ k,o6 w n (bj w n s k)
 | 0=>F
 | k + 1=>Fv W S (kq W S F k)
def aZ (w:Web) (n:Nat) (s:List Int) (m:Nat):List (List Int):=(List.range m).map (bj w n s)
theorem BR {w:Web}{n:Nat}{s:List Int}(m:Nat):aZ w n s (m + 1)=aZ w n s m++[bj w n s m]:=by simp [aZ,List.range_succ]
theorem iB {w:Web}{n:Nat}{s:List Int}(m:Nat):(aZ w n s m).length=m:=by simp [aZ]
theorem IT {w:Web}{n:Nat}{s:List Int}{m i:Nat}(h:i < m):atI ((aZ w n s m).map aD) (i:Int)=some (aD (bj w n s i)):=eh (by simp [aZ,h])
end Fm
namespace Fm
end Fm
namespace Fm
theorem vm:∀ (a b:List Int),a.length=b.length→ik (a.map .int) (b.map .int)=some (decide (a=b))
 | [],[],_=>by simp [ik]
 | x :: a,y :: b,h=>by
  have ih:=vm a b (by simpa using h)
  simp only [List.map_cons,ik,peq,ih]
  by_cases e:x=y<;>by_cases e2:a=b<;>simp [e,e2]
 | [],_ :: _,h=>by simp at h
 | _ :: _,[],h=>by simp at h
theorem Fx (l:List Int):o4 (l.map .int)=0:=by
 induction l with
 | nil=>rfl
 | cons x l ih=>simp [o4,dep,ih]
theorem Ln (l:List Int):dep (aD l)=1:=by simp [aD,dep,Fx]
theorem Lo {a b:List Int}(h:a.length=b.length):peq (aD a) (aD b)=some (decide (a=b)):=by
 simp only [aD,peq,vm a b h,Option.map_some,ZA,h]
 simp
theorem EA {a b:List Int}(h:a.length=b.length)(hd:Hd):eqG hd (aD a) (aD b)=some (decide (a=b)):=by
 have e1:∀ l,aS hd (aD l)=none:=fun l=>rfl
 simp only [eqG,e1,Ln,Lo h]
 rfl
theorem EB {a b:List Int}(h:a.length=b.length)(hd:Hd):oNe (aD a) (aD b) hd=.ok (.bl (!decide (a=b))) hd:=by
 unfold oNe;rw [EA h]
theorem Lp {a b:List Int}(h:a.length=b.length)(hd:Hd):oEq (aD a) (aD b) hd=.ok (.bl (decide (a=b))) hd:=by
 unfold oEq;rw [EA h]
theorem P9 {k n:Nat}(h1:1≤k)(h2:k≤n) : ¬ 0 ≤ -(k:Int) ∧ -(n:Int) ≤ -(k:Int)∧(-(k:Int) + (n:Int)).toNat=n - k:=by omega
theorem Lq {l:List D}{k:Nat}(h1:1≤k)(h2:k≤l.length):atI l (-(k:Int))=l[l.length - k]? := by
 have q:=P9 h1 h2
 unfold atI ixN
 rw [if_neg q.1,if_pos q.2.1,q.2.2];rfl
theorem jW {w:Web}{n:Nat}{s:List Int}(k j:Nat)(h1:1≤j):atI ((aZ w n s (k + j)).map aD) (-(j:Int))=some (aD (bj w n s k)):=by
 rw [Lq h1 (by rw [ZA,iB];exact Nat.le_add_left j k),ZA,iB,Nat.add_sub_cancel,ZQ,aZ,ZQ,List.getElem?_range (Nat.lt_add_of_pos_right h1)];rfl
theorem m6 {a b:SF}{σ σ':Sd}{h h':Hd}(e:a σ h=.nx σ' h'):aC a b σ h=b σ' h':=by simp [aC,e]
theorem IU {w:Web}{n:Nat}{s:List Int}(W:w.Ok n)(S:gy w)(F:o6 w n s){t:Nat}(ht:bj w n s (t + 2)=bj w n s t)(hm:∀ k,k < t→bj w n s (k + 2)≠bj w n s k)(hz:t≤900000)(h:Hd) :
  i9 [w.enc,aD s] h=.ok (.tup [.int t,.str (if bj w n s (t + 1)=bj w n s t then [114,101,115,116] else [112,97,105,114]),.ref h.length]) (h++[.lst ((aZ w n s (t + 2)).map aD)]):=by
 have L:∀ k,(bj w n s k).length=n:=fun k=>(kq W S F k).len
 have loop:∀ j k,k + j=t→dM (tE (ak oNe (aa 3) (fAt (aa 2) (fC (.int (-2)))))) qD (j + 1) [some w.enc,some (aD s),some (.ref h.length),some (aD (bj w n s (k + 2))),none] (h++[.lst ((aZ w n s (k + 2)).map aD)])
   = .nx [some w.enc,some (aD s),some (.ref h.length),some (aD (bj w n s (t + 2))),none] (h++[.lst ((aZ w n s (t + 2)).map aD)]):=by
  intro j
  induction j with
  | zero =>
   intro k hk
   have:k=t:=hk
   subst this
   have b':atI ((aZ w n s (k + 2)).map aD) (-2)=some (aD (bj w n s k)):=jW k 2 (by decide)
   have test:tE (ak oNe (aa 3) (fAt (aa 2) (fC (.int (-2))))) [some w.enc,some (aD s),some (.ref h.length),some (aD (bj w n s (k + 2))),none] (h++[.lst ((aZ w n s (k + 2)).map aD)])=.ok false (h++[.lst ((aZ w n s (k + 2)).map aD)]):=by
    rw [ht]
    exact aY (aq rfl (bz rfl rfl (bF ZG) b') (by rw [EB rfl,decide_eq_true rfl];rfl))
   simp only [dM,test]
  | succ j ih =>
   intro k hk
   have b':atI ((aZ w n s (k + 2)).map aD) (-2)=some (aD (bj w n s k)):=jW k 2 (by decide)
   have test:tE (ak oNe (aa 3) (fAt (aa 2) (fC (.int (-2))))) [some w.enc,some (aD s),some (.ref h.length),some (aD (bj w n s (k + 2))),none] (h++[.lst ((aZ w n s (k + 2)).map aD)])=.ok true (h++[.lst ((aZ w n s (k + 2)).map aD)]):=by
    exact aY (aq rfl (bz rfl rfl (bF ZG) b') (by rw [EB ((L (k + 2)).trans (L k).symm),decide_eq_false (hm k (hk ▸ Nat.lt_add_of_pos_right (Nat.succ_pos j)))];rfl))
   have lz:((aZ w n s (k + 2)).map aD).length < SZ:=by rw [ZA,iB];exact ZS (Nat.add_le_add_right (ZM (hk ▸ Nat.le_add_right k (j + 1)) hz) 2) (by decide)
   have tk:=k8 W (kq W S F (k + 2)) (h++[.lst ((aZ w n s (k + 3)).map aD)])
   have body:qD [some w.enc,some (aD s),some (.ref h.length),some (aD (bj w n s (k + 2))),none] (h++[.lst ((aZ w n s (k + 2)).map aD)])=.nx [some w.enc,some (aD s),some (.ref h.length),some (aD (bj w n s (k + 3))),none] (h++[.lst ((aZ w n s (k + 3)).map aD)]):=by
    have st1:kS (mP (aa 2) (aa 3)) [some w.enc,some (aD s),some (.ref h.length),some (aD (bj w n s (k + 2))),none] (h++[.lst ((aZ w n s (k + 2)).map aD)])=.nx [some w.enc,some (aD s),some (.ref h.length),some (aD (bj w n s (k + 2))),none] (h++[.lst ((aZ w n s (k + 3)).map aD)]):=by
     rw [show aZ w n s (k + 3)=aZ w n s (k + 2)++[bj w n s (k + 2)] from BR (k + 2),ZR]
     exact (wQ (BJ rfl ZG rfl ZG lz)).trans (by rw [Ex rfl];rfl)
    exact (m6 st1).trans (aM (aw (cP rfl rfl) tk))
   rw [dM,test]
   simp only [body]
   exact ih (k + 1) (by rw [Nat.add_right_comm];exact hk)
 have wl:=Ft (loop t 0 (Nat.zero_add t)) (by simp)
 have t0:=k8 W F h
 have t1:=k8 W (kq W S F 1) (h++[.lst ((aZ w n s 2).map aD)])
 have e1 : [aD s,aD (cS w n s)] = (aZ w n s 2).map aD:=by simp [aZ,List.range_succ,bj]
 have a1:atI ((aZ w n s 2).map aD) 1=some (aD (bj w n s 1)):=IT (w:=w) (n:=n) (s:=s) (m:=2) (i:=1) (by decide)
 have b1':atI ((aZ w n s (t + 2)).map aD) (-1)=some (aD (bj w n s (t + 1))):=jW (t + 1) 1 (by decide)
 have b2':atI ((aZ w n s (t + 2)).map aD) (-2)=some (aD (bj w n s t)):=jW t 2 (by decide)
 have ln:(aZ w n s (t + 2)).length=t + 2:=iB _
 have eqw:=Lp (a:=bj w n s (t + 1)) (b:=bj w n s t) ((L (t + 1)).trans (L t).symm) (h++[.lst ((aZ w n s (t + 2)).map aD)])
 simp only [bj] at t1
 simp only [bj] at a1
 have hh1:bj w n s (0 + 2)=cS w n (cS w n s):=rfl
 rw [hh1,show 0 + 2=2 from rfl] at wl
 have s1:bd (gN 2) (aG (ad (aa 1) (ad (au dA (ad (aa 0) (ad (aa 1) aj))) aj))) [some w.enc,some (aD s),none,none,none] h
   = .nx [some w.enc,some (aD s),some (.ref h.length),none,none] (h++[.lst ((aZ w n s 2).map aD)]):=by
  rw [← e1];exact aM (bQ (ah rfl (ah (aw (cP rfl rfl) t0) rfl)))
 have s2:bd (gN 3) (au dA (ad (aa 0) (ad (fAt (aa 2) (fC (.int 1))) aj))) [some w.enc,some (aD s),some (.ref h.length),none,none] (h++[.lst ((aZ w n s 2).map aD)])
   = .nx [some w.enc,some (aD s),some (.ref h.length),some (aD (cS w n (cS w n s))),none] (h++[.lst ((aZ w n s 2).map aD)]):=by
  exact aM (aw (ah rfl (ah (bz rfl rfl (bF ZG) a1) rfl)) t1)
 have s3:bd (gN 4) (fIf (tE (ak oEq (fAt (aa 2) (fC (.int (-1)))) (fAt (aa 2) (fC (.int (-2)))))) (fC (.str [114,101,115,116])) (fC (.str [112,97,105,114]))) [some w.enc,some (aD s),some (.ref h.length),some (aD (bj w n s (t + 2))),none] (h++[.lst ((aZ w n s (t + 2)).map aD)])
   = .nx [some w.enc,some (aD s),some (.ref h.length),some (aD (bj w n s (t + 2))),some (.str (if bj w n s (t + 1)=bj w n s t then [114,101,115,116] else [112,97,105,114]))] (h++[.lst ((aZ w n s (t + 2)).map aD)]):=by
  by_cases q:bj w n s (t + 1)=bj w n s t
  ·rw [if_pos q];rw [decide_eq_true q] at eqw
   exact aM ((qA (aY (aq (bz rfl rfl (bF ZG) b1') (bz rfl rfl (bF ZG) b2') eqw))).trans rfl)
  ·rw [if_neg q];rw [decide_eq_false q] at eqw
   exact aM ((wX (aY (aq (bz rfl rfl (bF ZG) b1') (bz rfl rfl (bF ZG) b2') eqw))).trans rfl)
 have ck:kS (au cZ (ad (aa 0) (ad (aa 1) aj))) [some w.enc,some (aD s),none,none,none] h=.nx [some w.enc,some (aD s),none,none,none] h:=wQ (aw (cP rfl rfl) (IP W F h))
 have st:([w.enc,aD s].map some++List.replicate (5 - [w.enc,aD s].length) none:Sd)=[some w.enc,some (aD s),none,none,none]:=rfl
 unfold i9 bN runB
 rw [if_pos (show [w.enc,aD s].length=2 from rfl),st,m6 ck,m6 s1,m6 s2,m6 wl,m6 s3]
 have z:((t:Int) + 2) - 2=t:=by omega
 simp [ln,SZ,z,letGo,pure?,eE]
end Fm
namespace Fm
noncomputable def jX:Fn:=bN 2 4 (aC (sIf (tOr (dq (tE (gj .tuple (aa 1)))) (tE (ak oNe (fL (lOf (aa 1))) (fC (.int 3))))) (aT (fC (.bl false))) bM)
  (aC (bd (gN 2) (fAt (aa 1) (fC (.int 0))))
  (aC (bd (gN 3) (fAt (aa 1) (fC (.int 1))))
  (aC (sIf (tOr (dq (tE (au bc (ad (aa 2) (ad (fC (.int 0)) (ad (ak gZ (aa 0) (fC (.int 1))) aj)))))) (dq (tE (au bc (ad (aa 3) (ad (fC (.int 0)) (ad (ak gZ (aa 0) (fC (.int 1))) aj))))))) (aT (fC (.bl false))) bM)
  (aT (fT (oY (tE (ak oNe (aa 2) (aa 3))) (tE (au bc (ad (fAt (aa 1) (fC (.int 2))) (ad (fC (.int 1)) (ad (fC (.int 400)) aj))))))))))))
noncomputable abbrev hW:SF:=(aC (sIf (dq (tE (au jX (ad (aa 0) (ad (aa 3) aj))))) kT bM)
  (aC (bd (gN 4) (fAt (aa 3) (fC (.int 0))))
  (aC (bd (gN 5) (fAt (aa 3) (fC (.int 1))))
  (aC (sIf (tE (ak HH (aa 5) (fAt (aa 2) (aa 4)))) kT bM)
  (aC (zc (fAt (aa 2) (aa 4)) (aa 5) (fAt (aa 3) (fC (.int 2))))
  (zc (fAt (aa 2) (aa 5)) (aa 4) (fAt (aa 3) (fC (.int 2)))))))))
noncomputable def eo:Fn:=bN 2 6 (aC (sIf (dq (tE (gj .list (aa 1)))) kT bM)
  (aC (bd (gN 2) (aG (cQ 1 [] (dL (aa 0)) (gN 0) [] Ei)))
  (aC (o5 (iV (aa 1)) (gN 3) hW)
  (aT (aa 2)))))
noncomputable def ft:Fn:=bN 2 2 (aC (sIf (tE (ak kR (aa 1) (fC .non))) kT bM)
  (aC (sIf (tOr (dq (tE (gj .list (aa 1)))) (tE (ak oNe (fL (lOf (aa 1))) (fL (lOf (aa 0)))))) kT bM)
  (aC (sIf (dq (tE (yT (cQ 1 [] (iV (aa 1)) (gN 0) [] (au cE (ad (aa 0) aj)))))) kT bM)
  (aT (io (lOf (aa 1)))))))
noncomputable def eu:Fn:=bN 2 2 (aC (sIf (tE (ak kR (aa 1) (fC .non))) (aT (io (cQ 1 [] (dL (aa 0)) (gN 0) [] (fC .non)))) bM)
  (aC (sIf (tOr (dq (tE (gj .list (aa 1)))) (tE (ak oNe (fL (lOf (aa 1))) (aa 0)))) kT bM)
  (aC (sIf (dq (tE (yT (cQ 1 [] (iV (aa 1)) (gN 0) [] (fT (tOr (tE (ak kR (aa 0) (fC .non))) (tE (au bG (ad (aa 0) aj))))))))) kT bM)
  (aT (io (lOf (aa 1)))))))
noncomputable def cK:Fn:=bN 4 6 (aC (sIf (dq (tE (au bc (ad (aa 0) (ad (fC (.int 1)) (ad (fC (.int 30)) aj)))))) kT bM)
  (aC (bd (gN 4) (au eo (ad (aa 0) (ad (aa 1) aj))))
  (aC (bd (gN 5) (io (cQ 1 [] (iV (aa 4)) (gN 0) [] (io (mY (aa 0))))))
  (aT (g7 (ad (aa 5) (ad (au ft (ad (aa 4) (ad (aa 2) aj))) (ad (au eu (ad (aa 0) (ad (aa 3) aj))) aj))))))))
noncomputable def vn:Fn:=bN 2 4 (aC (bd (gN 2) (fC (.int 0)))
  (aC (sIf (tE (ak oLt (aa 1) (fL (lOf (aa 0))))) (bd (gN 2) (fAt (aa 0) (aa 1))) bM)
  (aC (bd (gN 3) (fT (tOr (tE (ak oEq (fL (lOf (aa 0))) (fC (.int 0)))) (tE (ak oEq (ak ij (fAt (aa 0) (fC (.int 0))) (fC (.int 2))) (fC (.int 1)))))))
  (aC (sIf (tE (aa 3)) (bd (gN 2) (ak eI (ak ij (aa 2) (fC (.int 2147483647))) (ak eJ (fC (.int 1000003)) (aa 1)))) bM)
  (aT (aG (ad (aa 2) (ad (fC (.int 0)) (ad (aa 3) aj)))))))))
noncomputable def cL:Fn:=bN 2 4 (aC (yU (aa 0) (fC (.int 1)) (ak eI (fAt (aa 0) (fC (.int 1))) (fC (.int 1))))
  (aC (sIf (tE (fAt (aa 0) (fC (.int 2)))) (aC (bd (gN 2) (ak ij (ak eJ (ak eI (ak eI (fAt (aa 0) (fC (.int 0))) (ak eJ (fC (.int 7919)) (fAt (aa 0) (fC (.int 1))))) (fC (.int 1))) (fC (.int 48271))) (fC (.int 2147483647))))
  (aC (bd (gN 2) (ak ij (ak eJ (aa 2) (ak eI (ak ij (aa 2) (fC (.int 65521))) (fAt (aa 0) (fC (.int 1))))) (fC (.int 2147483629))))
  (aT (ak ij (ak ij (ak eI (ak eJ (aa 2) (aa 2)) (ak eJ (fC (.int 69621)) (aa 2))) (fC (.int 2147483563))) (aa 1))))) bM)
  (aC (bd (gN 3) (ak ij (fAt (aa 0) (fC (.int 0))) (aa 1)))
  (aC (yU (aa 0) (fC (.int 0)) (ak yS (fAt (aa 0) (fC (.int 0))) (aa 1)))
  (aT (aa 3))))))
noncomputable def Lr:Fn:=bN 3 3 (aC (sIf (tE (ak oEq (aa 0) (fC (.int 0)))) (aT (aa 2)) bM)
  (aC (sIf (tE (ak oEq (aa 0) (fC (.int 1)))) (aT (ak gZ (aa 1) (fC (.int 60)))) bM)
  (aC (sIf (tE (ak oEq (aa 0) (fC (.int 2)))) (aT (ak gZ (ak eI (aa 2) (ak ij (aa 1) (fC (.int 5)))) (fC (.int 2)))) bM)
  (aC (sIf (tE (ak oEq (aa 0) (fC (.int 3)))) (aT (ak eJ (fC (.int 2)) (ak ij (aa 1) (ak eI (aa 2) (fC (.int 1)))))) bM)
  (aT (ak eJ (ak eI (ak QM (fC (.int 10)) (fC (.int 59))) (aa 1)) (fIx (ad (fC (.int 1)) (ad (fC (.int (-1))) aj)) (ak ij (aa 1) (fC (.int 2))))))))))
noncomputable abbrev zG:SF:=(sIf (tE (ak oEq (au cL (ad (aa 9) (ad (aa 3) aj))) (fC (.int 0)))) (aC (bd (gN 11) (ak eI (fC (.int 1)) (au cL (ad (aa 9) (ad (fIx (ad (fC (.int 3)) (ad (fC (.int 400)) aj)) (au cL (ad (aa 9) (ad (fC (.int 2)) aj)))) aj)))))
  (aC (kS (QQ (aa 4) (au cL (ad (aa 9) (ad (ak eI (fL (lOf (aa 4))) (fC (.int 1))) aj))) (fIx (ad (g7 (ad (aa 8) (ad (aa 10) (ad (aa 11) aj)))) (ad (g7 (ad (aa 10) (ad (aa 8) (ad (aa 11) aj)))) aj)) (ak ij (aa 11) (fC (.int 2))))))
  (aC (yU (aa 7) (aa 8) (ak eI (fAt (aa 7) (aa 8)) (aa 11)))
  (yU (aa 7) (aa 10) (ak eI (fAt (aa 7) (aa 10)) (aa 11)))))) bM)
noncomputable abbrev zH:SF:=(aC (bd (gN 9) (au vn (ad (aa 0) (ad (ak eI (fC (.int 1)) (aa 8)) aj))))
  (aC (kS (mP (aa 6) (fIx (ad (fC .non) (ad (fC .non) (ad (fC .non) (ad (fC (.int 0)) (ad (fC (.int 1)) aj))))) (au cL (ad (aa 9) (ad (fC (.int 5)) aj))))))
  (aC (kS (mP (aa 5) (g7 (ad (au cL (ad (aa 9) (ad (fC (.int 5)) aj))) (ad (au cL (ad (aa 9) (ad (fC (.int 200)) aj))) aj)))))
  (o5 (dL (aa 8)) (gN 10) zG))))
noncomputable def BS:Fn:=bN 1 12 (aC (bd (gN 1) (au vn (ad (aa 0) (ad (fC (.int 0)) aj))))
  (aC (kS (au cL (ad (aa 1) (ad (fC (.int 2)) aj))))
  (aC (bd (gN 2) (ak eI (fC (.int 1)) (au cL (ad (aa 1) (ad (fIx (ad (fC (.int 6)) (ad (fC (.int 12)) (ad (fC (.int 30)) aj))) (au cL (ad (aa 1) (ad (fC (.int 3)) aj)))) aj)))))
  (aC (bd (gN 3) (fIx (ad (fC (.int 1)) (ad (fC (.int 2)) (ad (fC (.int 5)) aj))) (au cL (ad (aa 1) (ad (fC (.int 3)) aj)))))
  (aC (bd (gN 4) (aG aj))
  (aC (bd (gN 5) (aG aj))
  (aC (bd (gN 6) (aG aj))
  (aC (bd (gN 7) (aG (gv (ad (fC (.int 0)) aj) (aa 2))))
  (aC (o5 (dL (aa 2)) (gN 8) zH)
  (aC (bd (gN 5) (aG (cQ 1 [7,5] (dL (aa 2)) (gN 0) [] (au Lr (ad (fAt (fAt (aa 2) (aa 0)) (fC (.int 0))) (ad (fAt (fAt (aa 2) (aa 0)) (fC (.int 1))) (ad (fAt (aa 1) (aa 0)) aj)))))))
  (aT (g7 (ad (aa 2) (ad (aa 4) (ad (aa 5) (ad (aa 6) (ad (aa 7) aj)))))))))))))))))
end Fm
namespace Fm
theorem Ls {x:Int}(h0:0≤x)(h1:x < 4611686018427387904):sml x=true:=by
 simp only [sml,Bool.and_eq_true,decide_eq_true_eq];omega
end Fm
namespace Fm
theorem m7 {n i:Nat}{x:D}(hx:((List.range n).map fun k:Nat=>D.int k)[i]? = some x):i < n∧x=.int (i:Nat):=by
 have hi:i < n:=by
  have:=(List.getElem?_eq_some_iff.mp hx).1
  simpa using this
 exact⟨hi,by simpa [hi,ZE] using hx.symm⟩
structure Tie where
 a:Nat
 b:Nat
 w:Int
def iC (t:Tie):D:=.tup [.int t.a,.int t.b,.int t.w]
def far (i:Nat) (t:Tie):Option Nat:=if t.a=i then some t.b else if t.b=i then some t.a else none
def wOf (i:Nat) (t:Tie):Int:=if t.a=i∨t.b=i then t.w else 0
def Mq (T:List Tie) (i:Nat):Int:=(T.map (wOf i)).sum
def Qa (one other:Nat) (t:Tie):Prop:=(t.a < one∧t.b < one)∨(t.a=one∧t.b < other)∨(t.b=one∧t.a < other)
def jY (s t:Tie):Prop:=¬ (s.a=t.a∧s.b=t.b) ∧ ¬ (s.a=t.b∧s.b=t.a)
structure TOk (n one other:Nat) (T:List Tie):Prop where
 ne:∀ t∈T,t.a≠t.b
 lt:∀ t∈T,t.a < n∧t.b < n
 wt:∀ t∈T,1≤t.w∧t.w≤400
 be:∀ t∈T,Qa one other t
 un:T.Pairwise jY
 len:T.length≤30 * one + other
theorem jY.symm {s t:Tie}(h:jY s t):jY t s:=⟨fun z=>h.1 ⟨z.1.symm,z.2.symm⟩,fun z=>h.2 ⟨z.2.symm,z.1.symm⟩⟩
end Fm
namespace Fm
def QW (p:Int × Int):D:=.tup [.int p.1,.int p.2]
structure PH (n i:Nat) (T:List Tie) (bs:List (Int × Int)) (ss:List (Option Int)) (h:Hd):Prop where
 ti:h[1]? = some (.lst (T.map iC))
 ba:h[2]? = some (.lst (bs.map QW))
 st:h[3]? = some (.lst (ss.map aX))
 to:h[4]? = some (.lst (((List.range n).map (Mq T)).map .int))
 len:h.length=5 + i
 lb:bs.length=i
 ls:ss.length=i
 os:∀ x∈ss,x=none∨x=some 0∨x=some 1
theorem OG {g:Hd}{k:Nat}{c:cT}(cc:cT)(h:g[k]? = some c):(g.set k cc)[k]? = some cc:=List.getElem?_set_self (List.getElem?_eq_some_iff.mp h).1
noncomputable abbrev XP (lit:D) (hd:Option D) (n thin one:Nat) (a b:Option D):Sd:=[some lit,hd,some (.int n),some (.int thin),some (.ref 1),some (.ref 2),some (.ref 3),some (.ref 4),some (.int one),some (.ref (5 + one)),a,b]
abbrev SC (c t:Int) (b:Bool):cT:=.lst [.int c,.int t,.bl b]
inductive PI (lit:D) (hd:Option D) (n thin one:Nat) (bs:List (Int × Int)) (ss:List (Option Int)) (m:Bool):Nat→Sd→Hd→Prop
 | mk {i:Nat} {h:Hd} {T:List Tie} {a b:Option D} {c t:Int} (P:PH n (one + 1) T bs ss h) (O:TOk n one i T) (hs:h[5 + one]? = some (SC c t m)):PI lit hd n thin one bs ss m i (XP lit hd n thin one a b) h
theorem few {l one n i:Nat}(h:l≤30 * one + i)(h1:one < n)(hn:n≤30)(hi:i < one):l < 1000:=by omega
end Fm
namespace Fm
noncomputable abbrev XQ (lit:D) (hd:Option D) (n thin:Nat) (a b c d:Option D):Sd:=[some lit,hd,some (.int n),some (.int thin),some (.ref 1),some (.ref 2),some (.ref 3),some (.ref 4),a,b,c,d]
theorem Qu {u:Option Int}(h:u∈[none,none,none,some 0,some 1]):u=none∨u=some 0∨u=some 1:=by
 simp at h;exact h
inductive PO (ns:List Int) (hd:Option D) (n thin:Nat):Nat→Sd→Hd→Prop
 | mk {i:Nat} {h:Hd} {a b c d:Option D} {T:List Tie} {bs:List (Int × Int)} {ss:List (Option Int)} (P:PH n i T bs ss h) (O:TOk n i 0 T):PO ns hd n thin i (XQ (.lit (ns.map .int)) hd n thin a b c d) h
structure QX (ns:List Int) (n:Nat) (T:List Tie) (bs:List Int) (ss:List (Option Int)) (h:Hd):Prop where
 run:BS [.lit (ns.map .int)] []=.ok (.tup [.int n,.ref 1,.ref (5 + n),.ref 3,.ref 4]) h
 n1:1≤n
 n30:n≤30
 ok:TOk n n 0 T
 ti:h[1]? = some (.lst (T.map iC))
 ba:h[5 + n]? = some (.lst (bs.map .int))
 st:h[3]? = some (.lst (ss.map aX))
 to:h[4]? = some (.lst (((List.range n).map (Mq T)).map .int))
 len:h.length=6 + n
 lb:bs.length=n
 ls:ss.length=n
 os:∀ x∈ss,x=none∨x=some 0∨x=some 1
end Fm
namespace Fm
theorem fS {α : Type}{f : α → D}:∀ {l:List α},(∀ x∈l,pure? (f x)=true)→eE (l.map f)=true
 | [],_=>rfl
 | x :: l,h=>by
  simp only [List.map_cons,eE,Bool.and_eq_true]
  exact⟨h x (by simp),fS fun y hy=>h y (by simp [hy])⟩
theorem IV (w:Web):pure? w.enc=true:=by
 have h1:∀ r:List (Nat × Int),pure? (sF r)=true:=fun r=>by
  unfold sF
  simp only [pure?]
  exact fS fun p _=>rfl
 have h2:eE (w.ties.map sF)=true:=fS fun r _=>h1 r
 have h3:eE (w.bars.map D.int)=true:=fS fun r _=>rfl
 have h4:eE (w.stays.map aX)=true:=fS fun r _=>by cases r<;>rfl
 unfold Web.enc
 simp only [pure?,eE,h2,h3,h4]
 rfl
def qE (p:Nat × Int):List Int:=[(p.1:Int),p.2]
def wZ (x:Nat × Int):List (Nat × Int)→List (Nat × Int)
 | []=>[x]
 | y :: r=>if bZ (qE x) (qE y)=true then x :: y :: r else y :: wZ x r
def cM:List (Nat × Int)→List (Nat × Int)
 | []=>[]
 | x :: r=>wZ x (cM r)
theorem zI (x:Nat × Int):∀ r,(wZ x r).map qE=wr (qE x) (r.map qE)
 | []=>rfl
 | y :: r=>by
  simp only [wZ,wr,List.map_cons]
  split
  ·rfl
  ·simp [zI x r]
theorem vq:∀ r,(cM r).map qE=cJ (r.map qE)
 | []=>rfl
 | x :: r=>by simp only [cM,cJ,List.map_cons,zI,vq r]
theorem zJ {x p:Nat × Int}:∀ {r},p∈wZ x r ↔ p=x∨p∈r
 | []=>by simp [wZ]
 | y :: r=>by
  simp only [wZ]
  split
  ·simp
  ·simp only [List.mem_cons,zJ (r:=r)]
   constructor
   ·rintro (h|h|h)
    ·exact .inr (.inl h)
    ·exact .inl h
    ·exact .inr (.inr h)
   ·rintro (h|h|h)
    ·exact .inr (.inl h)
    ·exact .inl h
    ·exact .inr (.inr h)
theorem kr {p:Nat × Int}:∀ {r},p∈cM r ↔ p∈r
 | []=>by simp [cM]
 | x :: r=>by simp only [cM,zJ,kr (r:=r),List.mem_cons]
def nbs (T:List Tie) (i:Nat):List (Nat × Int):=T.filterMap fun t=>(far i t).map fun j=>(j,t.w)
def o7 (p:Nat × Int):Int × D:=((p.1:Int),.int p.2)
theorem IW (T:List Tie)(t:Tie)(i:Nat):nbs (T++[t]) i=nbs T i++(match far i t with|some j=>[(j,t.w)] | none=>[]):=by
 unfold nbs
 rw [List.filterMap_append]
 congr 1
 cases e:far i t<;>simp [e]
theorem Fy {l:List (Nat × Int)}{k:Nat}(h:∀ p∈l,p.1≠k):qj (l.map o7) k=none:=by
 unfold qj
 rw [List.find?_eq_none.mpr]
 ·rfl
 ·intro x hx
  obtain⟨p,hp,rfl⟩:=List.mem_map.mp hx
  have hne:=h p hp
  have : ¬ ((p.1:Int)=(k:Int)):=fun z=>hne (by omega)
  show ¬ (decide ((p.1:Int)=(k:Int))=true)
  rw [decide_eq_true_eq]
  exact this
theorem zK {l:List (Nat × Int)}{k:Nat}{v:Int}(h:∀ p∈l,p.1≠k):Bs (l.map o7) k (.int v)=(l++[(k,v)]).map o7:=by
 unfold Bs
 rw [if_neg]
 ·simp [o7]
 ·simp only [List.any_eq_true,List.mem_map,decide_eq_true_eq]
  rintro⟨x,⟨p,hp,rfl⟩,e⟩
  have hne:=h p hp
  have e:(p.1:Int)=(k:Int):=e
  exact hne (by omega)
theorem zL {i j:Nat}{t:Tie}(h:far i t=some j):(t.a=i∧t.b=j)∨(t.b=i∧t.a=j):=by
 unfold far at h
 by_cases a:t.a=i
 ·rw [if_pos a] at h;exact .inl ⟨a,ZT h⟩
 ·rw [if_neg a] at h
  by_cases b:t.b=i
  ·rw [if_pos b] at h;exact .inr ⟨b,ZT h⟩
  ·rw [if_neg b] at h;cases h
theorem BT {T:List Tie}{t:Tie}{i j:Nat}(hf:far i t=some j)(un:∀ s∈T,jY s t):∀ p∈nbs T i,p.1≠j:=fun p hp e=>by
 obtain⟨s,hs,q⟩:=List.mem_filterMap.mp hp
 obtain⟨k,hk,rfl⟩:=Option.map_eq_some_iff.mp q
 have u:=un s hs
 rw [show k=j from e] at hk
 rcases zL hf with ⟨a1,a2⟩|⟨a1,a2⟩<;>rcases zL hk with ⟨b1,b2⟩|⟨b1,b2⟩
 ·exact u.1 ⟨b1.trans a1.symm,b2.trans a2.symm⟩
 ·exact u.2 ⟨b2.trans a2.symm,b1.trans a1.symm⟩
 ·exact u.2 ⟨b1.trans a1.symm,b2.trans a2.symm⟩
 ·exact u.1 ⟨b2.trans a2.symm,b1.trans a1.symm⟩
theorem Fz {n:Nat}{t:Tie}(h1:t.a≠t.b)(h2:t.a < n)(h3:t.b < n)(h4:1≤t.w∧t.w≤400)(h:Hd):jX [.int n,iC t] h=.ok (.bl true) h:=by
 have e1:(t.a:Int)≤n - 1:=Int.le_sub_one_of_lt (Int.ofNat_lt.mpr h2)
 have e2:(t.b:Int)≤n - 1:=Int.le_sub_one_of_lt (Int.ofNat_lt.mpr h3)
 have e3 : ¬ (t.a:Int)=t.b:=fun z=>h1 (Int.ofNat.inj z)
 have bt:∀ {i a b:Int},a≤i→i≤b→bc [.int i,.int a,.int b] h=.ok (.bl true) h:=fun x y=>by rw [ek,decide_eq_true x,decide_eq_true y];rfl
 exact Eq.trans (br (σ:=[some (.int n),some (iC t),none,none]) rfl rfl (sx (dh (iy (cW (b:=true) (aY rfl)) (aY (aq (dZ (cD rfl rfl)) rfl rfl)))) (sx (aM (bz rfl rfl rfl rfl)) (sx (aM (bz rfl rfl rfl rfl)) (sx (dh (iy (cW (b:=true) (aY (aw (ah rfl (ah rfl (ah (aq rfl rfl rfl) rfl))) (bt (Int.natCast_nonneg _) e1)))) (cW (b:=true) (aY (aw (ah rfl (ah rfl (ah (aq rfl rfl rfl) rfl))) (bt (Int.natCast_nonneg _) e2)))))) (aP (vj (wR (aY (aq rfl rfl (by rw [qB,decide_eq_false e3];rfl))) (aY (aw (ah (bz rfl rfl rfl rfl) (ah rfl (ah rfl rfl))) (bt h4.1 h4.2))))))))))) aH
structure NH (n A:Nat) (h0:Hd) (T:List Tie) (h:Hd):Prop where
 pre:∃ g,h=h0++g∧g.length=n + 1
 dc:∀ j,j < n→h[A + j]? = some (.dct ((nbs T j).map o7))
 rf:h[A + n]? = some (.lst ((List.range n).map fun i=>.ref (A + i)))
theorem NH.put {n A:Nat}{h0:Hd}{T:List Tie}{h:Hd}(hA:A=h0.length)(N:NH n A h0 T h){j:Nat}(hj:j < n)(c:cT):(∃ g,h.set (A + j) c=h0++g∧g.length=n + 1)∧(h.set (A + j) c)[A + j]? = some c∧(∀ k,k≠j→(h.set (A + j) c)[A + k]? = h[A + k]?):=by
 obtain⟨g,e,l⟩:=N.pre
 have lt:=(List.getElem?_eq_some_iff.mp (N.dc j hj)).1
 exact⟨⟨g.set j c,by rw [e,gR hA],by rw [List.length_set];exact l⟩,List.getElem?_set_self lt,fun k hk=>ZP fun z=>hk (Nat.add_left_cancel z).symm⟩
theorem IX {n i j:Nat}{T:List Tie}(hn:n≤30)(O:TOk n n 0 T):((nbs (T.take i) j).map o7).length < SZ:=by
 rw [ZA]
 exact ZS (ZM (List.length_filterMap_le _ _) (ZM (List.length_take_le' _ _) (ZM O.len (Nat.add_le_add_right (Nat.mul_le_mul_left 30 hn) 0)))) (by decide)
noncomputable abbrev XN (n tk A:Nat) (a b c:Option D):Sd:=[some (.int n),some (.ref tk),some (.ref (A + n)),a,b,c]
theorem Lu {n A tk i:Nat}(hn:n≤30){T:List Tie}(O:TOk n n 0 T){h h0:Hd}(hA:A=h.length)(N:NH n A h (T.take i) h0){t:Tie}(mt:t∈T)(un:∀ s∈T.take i,jY s t)(tk1:T.take (i + 1)=T.take i++[t])(b c:Option D) :
  ∃ h6,hW (XN n tk A (some (iC t)) b c) h0=.nx (XN n tk A (some (iC t)) (some (.int t.a)) (some (.int t.b))) h6∧NH n A h (T.take (i + 1)) h6:=by
 have tne:=O.ne t mt
 have tlt:=O.lt t mt
 have fa:far t.a t=some t.b:=if_pos rfl
 have fb:far t.b t=some t.a:=(if_neg tne).trans (if_pos rfl)
 have na:=BT fa un
 have nb:=BT fb un
 have rat:∀ j:Nat,j < n→atI ((List.range n).map fun i=>D.ref (A + i)) (j:Int)=some (.ref (A + j)):=fun j hj=>eh (by rw [ZQ,List.getElem?_range hj];rfl)
 have ra:=rat t.a tlt.1
 have rb:=rat t.b tlt.2
 have da:=N.dc t.a tlt.1
 obtain⟨p1,p2,p3⟩:=N.put hA tlt.1 (.dct ((nbs (T.take i) t.a++[(t.b,t.w)]).map o7))
 obtain⟨h5,hh5⟩ : ∃ h5,h5=h0.set (A + t.a) (.dct ((nbs (T.take i) t.a++[(t.b,t.w)]).map o7)):=⟨_,rfl⟩
 rw [← hh5] at p1 p2 p3
 have rf5:h5[A + n]? = some (.lst ((List.range n).map fun i=>.ref (A + i))):=(p3 n (Nat.ne_of_gt tlt.1)).trans N.rf
 have db:h5[A + t.b]? = some (.dct ((nbs (T.take i) t.b).map o7)):=(p3 t.b (Ne.symm tne)).trans (N.dc t.b tlt.2)
 obtain⟨h6,hh6⟩ : ∃ h6,h6=h5.set (A + t.b) (.dct ((nbs (T.take i) t.b++[(t.a,t.w)]).map o7)):=⟨_,rfl⟩
 refine⟨h6,sx (dh (cW (aY (aw (ah rfl (ah rfl rfl)) (Fz tne tlt.1 tlt.2 (O.wt t mt) h0))))) (sx (aM (bz rfl rfl rfl rfl)) (sx (aM (bz rfl rfl rfl rfl)) (sx (dh (aY (aq rfl (bz rfl rfl (bF N.rf) ra) (by rw [OC da,Fy na];rfl)))) (sx (h':=h5) (by
  rw [hh5,← zK na]
  exact Ev (bz rfl rfl rfl rfl) (bz rfl rfl (bF N.rf) ra) rfl da (IX hn O)) (by
  rw [hh6,← zK nb]
  exact Ev (bz rfl rfl rfl rfl) (bz rfl rfl (bF rf5) rb) rfl db (IX hn O)))))),?_,fun j hj => ?_,?_⟩
 ·obtain⟨g,e,l⟩:=p1
  exact⟨_,by rw [hh6,e,gR hA],by rw [List.length_set];exact l⟩
 ·rw [tk1,IW]
  by_cases e1:t.b=j
  ·subst e1
   rw [hh6,OG _ db,fb]
  ·rw [hh6,ZP (fun z=>e1 (Nat.add_left_cancel z))]
   by_cases e2:t.a=j
   ·subst e2
    rw [p2,fa]
   ·have:far j t=none:=(if_neg e2).trans (if_neg e1)
    rw [p3 j (Ne.symm e2),this,N.dc j hj]
    simp only [List.append_nil]
 ·rw [hh6];exact (ZP (fun z=>ZN tlt.2 (Nat.add_left_cancel z))).trans rf5
theorem FA {n:Nat}{h:Hd}{A:Nat}(hA:A=h.length):∃ h1 g,b0 none ((List.range n).map fun k:Nat=>D.int k) (gN 0) [] Ei ((List.range n).map fun k:Nat=>D.int k) [none] h=.ok ((List.range n).map fun i=>.ref (A + i)) h1∧h1=h++g∧g.length=n ∧ ∀ j,j < n→h1[A + j]? = some (.dct []):=by
 obtain⟨ds,h1,k1,l1,v1,σ1,-,g,hg,lg,g1⟩:=qx (g:=none) (all:=(List.range n).map fun k:Nat=>D.int k) (tg:=gN 0) (xs:=(List.range n).map fun k:Nat=>D.int k) (k:=0)
  (e:=Ei) (σ:=[none]) (h:=h)
  (P:=fun i σ h'=>(∃ a,σ = [a]) ∧ ∃ g,h'=h++g∧g.length=i ∧ ∀ j,j < i→h'[A + j]? = some (.dct [])) (V:=fun i d=>d=.ref (A + i)) (fun _ _ _ _=>trivial) (by
   rintro i x σ h0 hx ⟨⟨a,rfl⟩,g,e0,lg,e1⟩
   obtain⟨hi,rfl⟩:=m7 hx
   rw [Nat.zero_add] at lg e1 ⊢
   have hl:h0.length=A + i:=by rw [e0,ZB,lg,hA]
   refine⟨_,rfl,.ref h0.length,h0++[.dct []],rfl,by rw [hl],⟨_,rfl⟩,g++[.dct []],by rw [e0,ZU],by rw [ZB,lg];rfl,fun j hj => ?_⟩
   by_cases hji:j < i
   ·exact ay _ (e1 j hji)
   ·rw [Nat.le_antisymm (Nat.le_of_lt_succ hj) (Nat.not_lt.mp hji),← hl];exact ZG) ⟨⟨_,rfl⟩,[],(List.append_nil _).symm,rfl,fun j hj=>absurd hj (Nat.not_lt_zero _)⟩
 rw [ZA,ZO] at l1
 rw [Nat.zero_add,ZA,ZO] at lg g1
 have e1:ds=(List.range n).map fun i=>.ref (A + i):=BI l1 fun i d hd=>by have:=v1 i d hd;rwa [Nat.zero_add] at this
 exact⟨h1,g,by rw [k1,e1],hg,lg,g1⟩
inductive NI (n A tk:Nat) (h:Hd) (T:List Tie):Nat→Sd→Hd→Prop
 | mk {i:Nat} {h':Hd} {a b c:Option D} (N:NH n A h (T.take i) h'):NI n A tk h T i (XN n tk A a b c) h'
theorem sG {n:Nat}(hn1:1≤n)(hn:n≤30){T:List Tie}(O:TOk n n 0 T){h:Hd}{tk:Nat}(ht:h[tk]? = some (.lst (T.map iC))) :
  ∃ h',eo [.int n,.ref tk] h=.ok (.ref (h.length + n)) h'∧NH n h.length h T h':=by
 obtain⟨A,hA⟩ : ∃ A,A=h.length:=⟨_,rfl⟩
 rw [← hA]
 obtain⟨h1,g,k1,hg,lg,g1⟩:=FA (n:=n) hA
 obtain⟨h2,hh2⟩ : ∃ h2,h2=h1++[.lst ((List.range n).map fun i=>.ref (A + i))]:=⟨_,rfl⟩
 have l1':h1.length=A + n:=by rw [hg,ZB,lg,hA]
 have N0:NH n A h [] h2:=⟨⟨g++[.lst ((List.range n).map fun i=>.ref (A + i))],by rw [hh2,hg,ZU],by rw [ZB,lg];rfl⟩,fun j hj=>by rw [hh2];exact ay _ (g1 j hj),by rw [hh2,← l1'];exact ZG⟩
 obtain⟨_,h3,k3,@⟨_,a3,b3,c3,N3⟩⟩:=iw (P:=NI n A tk h T) (g:=some tk) (k:=0)
   (all:=T.map iC) (fun _ _ h' q=>by
    obtain⟨N⟩:=q
    obtain⟨g,e,_⟩:=N.pre
    show h'[tk]? = _
    rw [e];exact ay _ ht)
   (xs:=T.map iC) (tg:=gN 3) (σ:=XN n tk A none none none) (h:=h2) (b:=hW) (by
   intro i x σ h0 hx z
   rw [Nat.zero_add] at z ⊢
   obtain @⟨_,a,b,c,N⟩:=z
   have hiT:i < T.length:=by have:=(List.getElem?_eq_some_iff.mp hx).1;rwa [ZA] at this
   rw [ZQ,ZE hiT] at hx
   cases hx
   have mt:T[i]∈T:=List.getElem_mem hiT
   have un:∀ s∈T.take i,jY s T[i]:=fun s hs=>by
    obtain⟨k,hk,rfl⟩:=List.getElem_of_mem hs
    rw [List.length_take] at hk
    rw [List.getElem_take]
    exact List.pairwise_iff_getElem.mp O.un k i _ hiT (Nat.lt_of_lt_of_le hk (Nat.min_le_left _ _))
   obtain⟨h6,q6,N6⟩:=Lu (tk:=tk) hn O hA N mt un (List.take_succ_eq_append_getElem hiT) b c
   exact⟨_,rfl,_,h6,q6,.mk N6⟩) (.mk N0)
 rw [Nat.zero_add,ZA,List.take_length] at N3
 refine⟨h3,Eq.trans (br (σ:=[some (.int n),some (.ref tk),none,none,none,none]) rfl rfl (sx (dh (cW (aY (wT rfl ht)))) (sx (σ':=[some (.int n),some (.ref tk),some (.ref (A + n)),none,none,none]) (h':=h2) (by
  rw [hh2,← l1']
  exact aM (bQ (dW (jS rfl (ZM hn (by decide))) k1) (by rw [ZA,ZO];exact ZM hn (by decide)))) (sx (k7 (e9 rfl (by rw [hh2,hg];exact ay _ (ay _ ht))) k3) (aP rfl))))) (by simp [letGo,pure?]),N3⟩
end Fm
namespace Fm
theorem Qb (a b:Int)(h:Hd):oNe (.int a) (.int b) h=.ok (.bl (!decide (a=b))) h:=rfl
theorem OH {l:List Nat}{n:Nat}(nd:l.Nodup)(h:∀ x∈l,x < n):l.length≤n:=by
 induction n generalizing l with
 | zero=>match l,h with
  | [],_=>exact ZL _
  | x :: _,h=>exact absurd (h x ZV) (Nat.not_lt_zero _)
 | succ n ih =>
  by_cases m:n∈l
  ·have:=ih (nd.erase n) fun x hx=>by
    have z:=(List.Nodup.mem_erase_iff nd).mp hx
    exact Nat.lt_of_le_of_ne (Nat.le_of_lt_succ (h x z.2)) z.1
   rw [List.length_erase_of_mem m] at this
   exact Nat.le_add_of_sub_le this
  ·exact Nat.le_succ_of_le (ih nd fun x hx=>Nat.lt_of_le_of_ne (Nat.le_of_lt_succ (h x hx)) fun z=>m (z ▸ hx))
def zM (n:Nat) (T:List Tie) (bs:List Int) (ss:List (Option Int)):Web:=⟨(List.range n).map fun i=>cM (nbs T i),bs,ss⟩
theorem lW:∀ l:List (Nat × Int),dP (l.map o7)=some (l.map qE)
 | []=>rfl
 | p :: l=>by
  have ih:=lW l
  simp only [List.map_cons]
  show (dP (l.map o7)).map _=_
  rw [ih]
  rfl
theorem OI {T:List Tie}(un:T.Pairwise jY)(i:Nat):((nbs T i).map (·.1)).Nodup:=by
 unfold nbs
 induction T with
 | nil=>simp
 | cons t T ih =>
  obtain⟨h1,h2⟩:=List.pairwise_cons.mp un
  have ih:=ih h2
  cases e:far i t with
  | none=>simp only [List.filterMap_cons,e,Option.map_none];exact ih
  | some j =>
   simp only [List.filterMap_cons,e,Option.map_some,List.map_cons,List.nodup_cons]
   refine⟨fun z => ?_,ih⟩
   obtain⟨p,hp,hpj⟩:=List.mem_map.mp z
   exact BT (T:=T) e (fun s hs=>(h1 s hs).symm) p hp hpj
theorem Lv {l:List (Nat × Int)}(nd:(l.map (·.1)).Nodup):(l.map qE).Nodup:=by
 rw [List.nodup_iff_pairwise_ne,List.pairwise_map] at nd ⊢
 exact nd.imp fun {a b} h e=>h (by have:=(List.cons.inj e).1;omega)
theorem vt {α : Type}{l:List α}:im (l.map fun _=>D.bl true)=some (l.map fun _=>true):=by
 induction l with
 | nil=>rfl
 | cons x l ih=>simp [im,ih]
theorem w4 {n:Nat}{h:Hd}{nk bk:Nat}{l:List D}{bs:List Int}(hn:h[nk]? = some (.lst l))(hl:l.length=n)(hb:h[bk]? = some (.lst (bs.map .int)))(lb:bs.length=n):ft [.ref nk,.ref bk] h=.ok (.tup (bs.map .int)) h:=by
 have c:b0 (some bk) (bs.map D.int) (gN 0) [] (au cE (ad (aa 0) aj)) (bs.map D.int) [none] h=.ok ((bs.map D.int).map fun _=>D.bl true) h:=by
  have:=cC (g:=some bk) (all:=bs.map D.int) (tg:=gN 0) (cs:=[]) (e:=au cE (ad (aa 0) aj)) (h:=h) (I:=fun σ=>∃ a,σ = [a]) (fun _=>true) (fun _=>.bl true) hb (xs:=bs.map D.int) (σ:=[none]) (by
   rintro x hx σ ⟨a,rfl⟩
   obtain⟨i,_,rfl⟩:=List.mem_map.mp hx
   exact⟨_,rfl,⟨_,rfl⟩,rfl,fun _=>aw (ah rfl rfl) (lV _ _)⟩) ⟨_,rfl⟩
  rw [this,List.filter_eq_self.mpr (by simp)]
 have al:((bs.map D.int).map fun _=>true).all id=true:=by simp
 exact Eq.trans (br (σ:=[some (.ref nk),some (.ref bk)]) rfl rfl (sx (dh (aY (aq rfl rfl rfl))) (sx (dh (iy (cW (b:=true) (aY (wT rfl hb))) (aY (aq (dZ (cD rfl (bF hb))) (dZ (cD rfl (bF hn))) (by rw [Qb,ZA,lb,hl,decide_eq_true rfl];rfl))))) (sx (dh (cW (b:=true) (aY (Eq.trans (wY (dW (e9 rfl hb) c) vt) (by rw [al]))))) (aP (i8 (cD rfl (bF hb)))))))) aH
theorem sH {n:Nat}{h:Hd}{sk:Nat}{ss:List (Option Int)}(hs:h[sk]? = some (.lst (ss.map aX)))(ls:ss.length=n)(os:∀ x∈ss,x=none∨x=some 0∨x=some 1):eu [.int n,.ref sk] h=.ok (.tup (ss.map aX)) h:=by
 have c:b0 (some sk) (ss.map aX) (gN 0) [] (fT (tOr (tE (ak kR (aa 0) (fC .non))) (tE (au bG (ad (aa 0) aj))))) (ss.map aX) [none] h=.ok ((ss.map aX).map fun _=>D.bl true) h:=by
  have:=cC (g:=some sk) (all:=ss.map aX) (tg:=gN 0) (cs:=[]) (e:=fT (tOr (tE (ak kR (aa 0) (fC .non))) (tE (au bG (ad (aa 0) aj))))) (h:=h) (I:=fun σ=>∃ a,σ = [a]) (fun _=>true) (fun _=>.bl true) hs (xs:=ss.map aX) (σ:=[none]) (by
   rintro x hx σ ⟨a,rfl⟩
   obtain⟨i,hi,rfl⟩:=List.mem_map.mp hx
   refine⟨_,rfl,⟨_,rfl⟩,rfl,fun _ => ?_⟩
   rcases os i hi with e|e|e<;>subst e
   ·exact vj (IK (aY (aq rfl rfl rfl)))
   ·exact vj (iy (aY (aq rfl rfl rfl)) (aY (aw (ah rfl rfl) (gx 0 h))))
   ·exact vj (iy (aY (aq rfl rfl rfl)) (aY (aw (ah rfl rfl) (gx 1 h))))) ⟨_,rfl⟩
  rw [this,List.filter_eq_self.mpr (by simp)]
 exact Eq.trans (br (σ:=[some (.int n),some (.ref sk)]) rfl rfl (sx (dh (aY (aq rfl rfl rfl))) (sx (dh (iy (cW (b:=true) (aY (wT rfl hs))) (aY (aq (dZ (cD rfl (bF hs))) rfl (by rw [Qb,ZA,ls,decide_eq_true rfl];rfl))))) (sx (dh (cW (b:=true) (aY (Eq.trans (wY (dW (e9 rfl hs) c) vt) (by rw [List.all_map];simp))))) (aP (i8 (cD rfl (bF hs)))))))) aH
theorem Lw {n A:Nat}(hn:n≤30){T:List Tie}(O:TOk n n 0 T){h h1:Hd}(N:NH n A h T h1) :
  b0 (some (A + n)) ((List.range n).map fun i=>.ref (A + i)) (gN 0) [] (io (mY (aa 0))) ((List.range n).map fun i=>.ref (A + i)) [none] h1=.ok (((List.range n).map fun i=>cM (nbs T i)).map sF) h1:=by
 have:=cC (g:=some (A + n)) (all:=(List.range n).map fun i=>.ref (A + i)) (tg:=gN 0) (cs:=[]) (e:=io (mY (aa 0))) (h:=h1) (I:=fun σ=>∃ a,σ = [a]) (fun _=>true)
  (fun d=>match d with | .ref k=>sF (cM (nbs T (k - A)))|_=>.non) N.rf (xs:=(List.range n).map fun i=>.ref (A + i)) (σ:=[none]) (by
   rintro x hx σ ⟨a,rfl⟩
   obtain⟨i,hi,rfl⟩:=List.mem_map.mp hx
   have hi:=List.mem_range.mp hi
   refine⟨_,rfl,⟨_,rfl⟩,rfl,fun _ => ?_⟩
   have nd:=OI O.un i
   have l64:((nbs T i).map qE).length < 64:=by
    have lt:∀ p∈nbs T i,p.1 < n:=fun p hp=>by
     unfold nbs at hp
     obtain⟨t,ht',q⟩:=List.mem_filterMap.mp hp
     have:=O.lt t ht'
     unfold far at q
     by_cases a1:t.a=i
     ·rw [if_pos a1] at q;simp at q;subst q;exact this.2
     ·rw [if_neg a1] at q
      by_cases a2:t.b=i
      ·rw [if_pos a2] at q;simp at q;subst q;exact this.1
      ·rw [if_neg a2] at q;cases q
    have:=OH nd (n:=n) (fun x hx=>by
     obtain⟨p,hp,rfl⟩:=List.mem_map.mp hx
     exact lt p hp)
    simp at this ⊢
    omega
   have e:((cJ ((nbs T i).map qE)).map wu)=(cM (nbs T i)).map BH:=by rw [← vq,List.map_map];rfl
   simp only [List.set_cons_zero,io,mY,aa,slot,List.getElem?_cons_zero,aN,N.dc i hi,lW,if_pos (And.intro l64 (Lv nd)),e,sF,Nat.add_sub_cancel_left]) ⟨_,rfl⟩
 rw [this,List.filter_eq_self.mpr (by simp),List.map_map,List.map_map]
 congr 1
 apply List.map_congr_left
 intro i _
 simp
theorem FC {n:Nat}(hn1:1≤n)(hn:n≤30){T:List Tie}(O:TOk n n 0 T){bs:List Int}{ss:List (Option Int)}(lb:bs.length=n)(ls:ss.length=n)(os:∀ x∈ss,x=none∨x=some 0∨x=some 1){h:Hd}{tk bk sk:Nat}
  (ht:h[tk]? = some (.lst (T.map iC))) (hb:h[bk]? = some (.lst (bs.map .int))) (hs:h[sk]? = some (.lst (ss.map aX))):cK [.int n,.ref tk,.ref bk,.ref sk] h=.ok (zM n T bs ss).enc h:=by
 obtain⟨h1,r1,N⟩:=sG hn1 hn O ht
 obtain⟨A,hA⟩ : ∃ A,A=h.length:=⟨_,rfl⟩
 rw [← hA] at r1 N
 obtain⟨g,hg,lg⟩:=N.pre
 have old:∀ {k:Nat} {c:cT},h[k]? = some c→h1[k]? = some c:=fun {k c} e=>by rw [hg,ZC (List.getElem?_eq_some_iff.mp e).1];exact e
 have comp:=Lw hn O N
 have bt:=w4 (n:=n) (l:=(List.range n).map fun i=>.ref (A + i)) N.rf (by simp) (old hb) lb
 have stt:=sH (n:=n) (old hs) ls os
 have i1:(1:Int)≤n:=Int.ofNat_le.mpr hn1
 have i2:(n:Int)≤30:=Int.ofNat_le.mpr hn
 have rf:=N.rf
 refine Eq.trans (br (σ:=[some (.int n),some (.ref tk),some (.ref bk),some (.ref sk),none,none]) rfl rfl (sx (dh (cW (b:=true) (aY (aw (ah rfl (ah rfl (ah rfl rfl))) (by rw [ek,decide_eq_true i1,decide_eq_true i2];rfl))))) (sx (aM (aw (ah rfl (ah rfl rfl)) r1)) (sx (aM (i8 (dW (e9 rfl rf) comp))) (aP (i6 (ah rfl (ah (aw (ah rfl (ah rfl rfl)) bt) (ah (aw (ah rfl (ah rfl rfl)) stt) rfl))) (by exact of_decide_eq_true rfl))))))) ?_
 show letGo h (.ok (zM n T bs ss).enc h1)=_
 rw [hg]
 exact i5 (IV _)
end Fm
namespace Fm
noncomputable def bV:Fn:=bN 1 1 (aT (aG (lOf (fAt (aa 0) (fC (.int 2))))))
noncomputable def eN:Fn:=bN 1 1 (aT (aG (jP 2 [] (au bV (ad (aa 0) aj)) (gT [0,1]) [(tE (ak kR (aa 1) (fC .non)))] (aa 0))))
noncomputable def fu:Fn:=bN 2 2 (aT (au bc (ad (aa 1) (ad (fC (.int 0)) (ad (ak gZ (au cm (ad (aa 0) aj)) (fC (.int 1))) aj)))))
noncomputable def bJ:Fn:=bN 2 2 (aT (fT (oY (tE (au fu (ad (aa 0) (ad (aa 1) aj)))) (tE (ak oNe (au cY (ad (aa 0) (ad (aa 1) aj))) (fC (.int 0)))))))
noncomputable def cr:Fn:=bN 2 2 (aC (sIf (dq (tE (gj .list (aa 1)))) (aT (fC (.bl false))) bM)
  (aC (sIf (dq (tE (yT (cQ 1 [0] (iV (aa 1)) (gN 0) [] (au bJ (ad (aa 1) (ad (aa 0) aj))))))) (aT (fC (.bl false))) bM)
  (aT (yT (cQ 1 [1] (dL (ak gZ (fL (lOf (aa 1))) (fC (.int 1)))) (gN 0) [] (ak oLt (fAt (aa 1) (aa 0)) (fAt (aa 1) (ak eI (aa 0) (fC (.int 1))))))))))
noncomputable def kt:Fn:=bN 2 2 (aC (sIf (dq (tE (au cr (ad (aa 0) (ad (aa 1) aj))))) kT bM)
  (aT (io (jP 2 [1] (au bV (ad (aa 0) aj)) (gT [0,1]) [] (fIf (tOr (tE (ak oIn (aa 0) (aa 2))) (tE (ak oEq (aa 1) (fC (.int 1))))) (fC (.int 1)) (fC (.int 0)))))))
noncomputable def fv:Fn:=bN 2 5 (aC (bd (gN 2) (au i9 (ad (aa 0) (ad (au kt (ad (aa 0) (ad (aa 1) aj))) aj))))
  (aC (bd (gN 3) (fAt (aa 2) (fC (.int 1))))
  (aC (bd (gN 4) (fAt (aa 2) (fC (.int 2))))
  (aC (sIf (tE (ak oEq (aa 3) (fC (.str [112,97,105,114])))) (aT (g7 (ad (fC (.str [110,111,116])) (ad (dY (aa 4) (pAt (fC (.int (-2)))) pNo) aj)))) bM)
  (aC (sIf (tE (ak oIn (fC (.int 0)) (fAt (aa 4) (fC (.int (-1)))))) (aT (g7 (ad (fC (.str [110,111,116])) (ad (dY (aa 4) (pAt (fC (.int (-1)))) pNo) aj)))) bM)
  (aT (g7 (ad (fC (.str [116,117,114,110])) (ad (dY (aa 4) pNo (pAt (fC (.int (-1))))) aj)))))))))
noncomputable abbrev oJ:SF:=(bd (gN 1) (aG (dv (aa 1) (aG (cQ 1 [2] (iV (aa 1)) (gN 0) [] (aG (dv (aa 0) (aG (ad (aa 1) aj)))))))))
noncomputable def gz:Fn:=bN 1 3 (aC (bd (gN 1) (aG (ad (aG aj) aj)))
  (aC (o5 (iV (aa 0)) (gN 2) oJ)
  (aT (aG (jR (aa 1))))))
noncomputable def fU:Fn:=bN 3 4 (aC (bd (gN 3) (io (lOf (aa 1))))
  (aC (sIf (tE (ak lP (aa 3) (aa 2))) (Ep (aa 2) (aa 3) (ak oEq (fAt (au fv (ad (aa 0) (ad (aa 1) aj))) (fC (.int 0))) (fC (.str [116,117,114,110])))) bM)
  (aT (Il (aa 2) (aa 3)))))
noncomputable def ev:Fn:=bN 4 6 (aC (sIf (tE (ak oEq (aa 1) (fC (.int 0)))) (aT (g7 (ad (fC (.str [108,101,97,102])) aj))) bM)
  kT)
noncomputable abbrev fV:SF:=(sIf (tE (au fU (ad (aa 0) (ad (aa 3) (ad (aa 2) aj))))) (aC (bd (gN 4) (fIf (tE (ak oEq (aa 3) (aG aj))) (fC .non) (au ev (ad (aa 0) (ad (ak gZ (fL (lOf (aa 3))) (fC (.int 1))) (ad (aG aj) (ad (aa 2) aj)))))))
  (aT (g7 (ad (aa 3) (ad (aa 4) aj))))) bM)
noncomputable def jZ:Fn:=bN 2 2 (aC (sIf (tE (ak oLt (aa 1) (fL (lOf (aa 0))))) (aT (fAt (aa 0) (aa 1))) bM)
  (aT (ak eI (ak eJ (ak eJ (fC (.int 71)) (aa 1)) (aa 1)) (ak eJ (fC (.int 7)) (aa 1)))))
noncomputable def iD:Fn:=bN 1 2 (aC (sIf (tE (ak kR (aa 0) (fC .non))) (aT (aG aj)) bM)
  (aC (bd (gN 1) (aG (ad (eD [("TooMuch",false)] (aa 0)) (ad (eD [("TooMuch",false)] (aa 0)) (ad (eD [("TooMuch",true)] (aa 0)) aj)))))
  (aC (bd (gN 1) (aG (dv (aa 1) (aG (ad (eD [("TooMuch",false)] (aa 0)) (ad (eD [("TooMuch",false)] (aa 0)) (ad (eD [("TooMuch",false)] (aa 0)) aj)))))))
  (aC (bd (gN 1) (aG (dv (aa 1) (aG (ad (eD [("TooMuch",false)] (aa 0)) (ad (eD [("TooMuch",false)] (aa 0)) (ad (eD [("TooMuch",false)] (aa 0)) aj)))))))
  (aT (aG (dv (aa 1) (aG (ad (eD [("TooMuch",true)] (aa 0)) aj)))))))))
noncomputable def gS:Fn:=bN 1 1 (aT (aG (dv (aG (cQ 1 [0] (dL (fC (.int 9))) (gN 0) [] (ak oEq (aa 0) (aa 1)))) (aG (ad (fC (.bl true)) aj)))))
noncomputable def ce:Fn:=bN 1 5 (aC (sPl (bd (gN 1) (au eN (ad (aa 0) aj))))
  (aC (Bx (tE (ak oGt (fL (lOf (aa 1))) (fC (.int 9)))) (wy "TooMuch") bM)
  (aC (sPl (bd (gN 2) Bz))
  (aC (sPl (o5 (iV (au gz (ad (aa 1) aj))) (gN 3) fV))
  (sPl (aT (fC .non)))))))
noncomputable def bq:Fn:=bN 1 4 (aC (bd (gN 1) (fC .non))
  (aC (bd (gN 2) (fC .non))
  (aC (By 4 1 ["TooMuch"] (bd (gN 2) (au ce (fPl (ad (aa 0) aj)))))
  (aC (sIf (tE (ak kR (aa 1) (fC .non))) (aT (aG (ad (aa 2) aj))) bM)
  (aT (au iD (ad (aa 1) aj)))))))
noncomputable abbrev lZ:SF:=(yU (aa 2) (ak gZ (ak gZ (aa 1) (fC (.int 1))) (aa 3)) (fC (.int 1)))
noncomputable def fz:Fn:=bN 2 4 (aC (bd (gN 2) (aG (gv (ad (fC .non) aj) (aa 1))))
  (aC (o5 (dL (ak ij (aa 0) (ak eI (aa 1) (fC (.int 1))))) (gN 3) lZ)
  (aT (aa 2))))
noncomputable def cu:Fn:=bN 2 2 (aC (sIf (tOr (tE (ak oNe (fL (lOf (aa 0))) (fC (.int 1)))) (tOr (dq (tE (gj .tuple (fAt (aa 0) (fC (.int 0)))))) (tOr (tE (ak oNe (fL (lOf (fAt (aa 0) (fC (.int 0))))) (fC (.int 2)))) (tE (ak oNe (fL (lOf (fAt (fAt (aa 0) (fC (.int 0))) (fC (.int 0))))) (aa 1)))))) (aT (fC (.bl false))) bM)
  (aT (ak oEq (ak kR (fAt (fAt (aa 0) (fC (.int 0))) (fC (.int 1))) (fC .non)) (ak oEq (aa 1) (fC (.int 0))))))
noncomputable abbrev w6:SF:=(aC (bd (gN 2) (au jZ (ad (aa 0) (ad (aa 1) aj))))
  (aC (bd (gN 3) (ak eI (fC (.int 1)) (ak ij (ak yS (aa 2) (fC (.int 31))) (fC (.int 30)))))
  (aC (bd (gN 4) (ak eI (fC (.int 1)) (ak ij (ak yS (aa 2) (fC (.int 7))) (fC (.int 400)))))
  (aC (bd (gN 5) (au fz (ad (aa 2) (ad (aa 3) aj))))
  (aC (bd (gN 6) (aG (cQ 1 [4] (lB (fC (.int 1)) (aa 3)) (gN 0) [] (g7 (ad (fC (.int 0)) (ad (aa 0) (ad (aa 1) aj)))))))
  (aC (bd (gN 7) (aG (ad (au cK (ad (aa 3) (ad (aa 6) (ad (aG (gv (ad (fC (.int (-1))) aj) (aa 3))) (ad (aa 5) aj))))) aj)))
  (aC (kS (mP (aa 7) (au cK (ad (aa 3) (ad (aa 6) (ad (aG (dv (aG (ad (fC (.int 0)) aj)) (aG (gv (ad (ak gZ (ak eJ (fC (.int 2)) (aa 4)) (fC (.int 1))) aj) (ak gZ (aa 3) (fC (.int 1))))))) (ad (aa 5) aj)))))))
  (aC (kS (mP (aa 7) (au cK (ad (aa 3) (ad (aa 6) (ad (aG (gv (ad (ak eJ (fC (.int 60)) (aa 4)) aj) (aa 3))) (ad (aa 5) aj)))))))
  (aC (bd (gN 8) (aG (cQ 1 [] (iV (aa 7)) (gN 0) [] (au bq (ad (aa 0) aj)))))
  (aC (bd (gN 9) (v6 (aa 5) (fC .non)))
  (sIf (tE (ak oGt (aa 9) (fC (.int 9)))) (sIf (tE (ak Bw (aa 8) (aG (gv (ad (au gS (ad (fC (.int 2)) aj)) aj) (fC (.int 3)))))) (aT (fC (.bl false))) bM) (sIf (tOr (dq (tE (au cu (ad (fAt (aa 8) (fC (.int 0))) (ad (fC (.int 0)) aj))))) (dq (tE (au cu (ad (fAt (aa 8) (fC (.int 1))) (ad (mO (ak oEq (aa 9) (aa 3))) aj)))))) (aT (fC (.bl false))) (sIf (tE (ak wE (fAt (aa 8) (fC (.int 2))) (dY (dY (aG (ad (fC .non) (ad (g7 (ad (aG aj) (ad (fC .non) aj))) aj))) (pAt (mO (ak oEq (aa 9) (fC (.int 0))))) pNo) pNo (pAt (fC (.int 1)))))) (aT (fC (.bl false))) bM)))))))))))))
noncomputable abbrev OJ:SF:=(o5 (dL (fC (.int 6))) (gN 1) w6)
noncomputable abbrev OK:SF:=(aT (fC (.bl true)))
noncomputable def EC:Fn:=bN 1 10 (aC OJ OK)
end Fm
set_option maxHeartbeats 4000000
namespace Fm
theorem QY {k:Nat}{A:PySem.Around}(r:L2.gF k A):A.units + 25 < PySem.cLine:=by have:=r.un;omega
open PySem PySem.Spec L2
section
abbrev du (i : Nat) : Stmt := PySem.Challenge.pw_followmost_k39_fewest_of_too_many.main.body.getD i (.Pass ⟨0, 0, 0, 0⟩)
abbrev eO:Stmt:=du 12
abbrev dB:Stmt:=du 13
abbrev dC:Stmt:=du 14
abbrev iE:Stmt:=du 27
abbrev dD:Stmt:=du 26
abbrev d6:Stmt:=du 28
abbrev dE:Stmt:=du 29
abbrev iF:Stmt:=du 18
abbrev fW:Stmt:=du 19
abbrev fX:Stmt:=du 20
abbrev iG:Stmt:=du 21
abbrev fY:Stmt:=du 22
abbrev eP:Stmt:=du 23
abbrev fZ:Stmt:=du 24
abbrev d7:Stmt:=du 25
abbrev m8:Stmt:=du 31
abbrev c0:Stmt:=du 32
abbrev gc:Stmt:=du 33
abbrev ge:Stmt:=du 34
abbrev gf:Stmt:=du 35
abbrev ku:Stmt:=du 37
abbrev cw:Stmt:=du 42
abbrev cx:Stmt:=du 41
abbrev kw:Stmt:=du 39
abbrev d8:Stmt:=du 40
abbrev eQ:Stmt:=du 46
abbrev gh:Stmt:=du 47
abbrev dF:Stmt:=du 48
abbrev iH:Stmt:=du 45
abbrev d9:Stmt:=du 51
abbrev dG:Stmt:=du 53
abbrev eR:Stmt:=du 54
abbrev dH:Stmt:=du 55
abbrev cN:Stmt:=du 56
abbrev dI:Stmt:=du 57
abbrev l3:Stmt:=du 58
variable {P:Program} {w:World} {K:ZX} {mg:Str→Option Value} {base:Heap} {f:Addr} {fd:FuncData}
theorem zN:aJ ["thing"] ["thing"] (af eO):=⟨rfl,rfl,rfl,by decide +kernel,rfl,by decide +kernel,by decide +kernel⟩
theorem zO (F:Fun K "is_whole" "is_whole" eO f fd) (ao:mg "isinstance" = none) (Cl:mg "bool" = none) (qS:mg "int" = none):bU P w K mg base CX0 1 f fd ["thing"] (spF K cE 1):=by
 refine bR F zN fun cdv A outer s H E hr => ?_
 have hu:=dr hr
 exact (am (aF (MB.me (we (kE (fN (t:=.int) rfl ao rfl qS (by decide +kernel) (mv 0))) (qc (Nq (kE (fN (t:=.bool) rfl ao rfl Cl (by decide +kernel) (mv 0)))))))))
theorem sI:aJ ["thing", "least", "most"] ["thing", "least", "most"] (af dB):=⟨rfl,rfl,rfl,by decide +kernel,rfl,by decide +kernel,by decide +kernel⟩
theorem sJ (F:Fun K "is_between" "is_between" dB f fd) (gB:Def P w K mg base "is_whole" 1 1 cE):bU P w K mg base CX0 2 f fd ["thing", "least", "most"] (spF K bc 3):=by
 refine bR F sI fun cdv A outer s H E hr => ?_
 have hu:=dr hr
 exact (am (aF (MB.me (we (kE (aA gB (hr.mono (by decide)) rfl (ae (mv 0) ar) aB)) (qc (kE (Hs Mf Mf Bl Bl (mv 1) (mv 0) (mv 2))))))))
theorem sK:aJ ["thing"] ["thing"] (af dC):=⟨rfl,rfl,rfl,by decide +kernel,rfl,by decide +kernel,by decide +kernel⟩
theorem sL (F:Fun K "is_opinion" "is_opinion" dC f fd) (bI:Def P w K mg base "is_between" 2 3 bc):bU P w K mg base CX0 3 f fd ["thing"] (spF K bG 1):=by
 refine bR F sK fun cdv A outer s H E hr => ?_
 have hu:=dr hr
 exact (am (aF (aA bI (hr.mono (by decide)) rfl (ae (mv 0) (ae av (ae av ar))) aB)))
theorem nc:aJ ["many", "thing", "one", "other"] ["many", "thing"] (af iE):=⟨rfl,rfl,rfl,by decide +kernel,rfl,by decide +kernel,by decide +kernel⟩
theorem FD (F:Fun K "is_tie" "is_tie" iE f fd) (bP:mg "len" = none) (ao:mg "isinstance" = none) (bf:mg "tuple" = none) {h8:Tok} (h9:mg "MOST_WEIGHT" = some (.int 400 h8)) (bI:Def P w K mg base "is_between" 2 3 bc):bU P w K mg base CX0 3 f fd ["many", "thing"] (spF K jX 2):=by
 refine bR F nc fun cdv A outer s H E hr => ?_
 have hu:=dr hr
 exact (ag (bS (MW.mt (kD (cU (cI (fN (t:=.tuple) rfl ao rfl bf (by decide +kernel) (mv 1)))) (iY (bp (gm hu) jI (ei rfl bP (eF (mv 1))) av (aV _)) (.inr rfl)))) (am (aF gL)) aU)
  (ag (bi (i:=2) nc.nd rfl (by first|exact .inl rfl|exact .inr rfl) (bD (mv 1) av (fun _ _=>rfl)))
  (ag (bi (i:=3) nc.nd rfl (by first|exact .inl rfl|exact .inr rfl) (bD (mv 1) av (fun _ _=>rfl)))
  (ag (bS (MW.mt (kD (cU (cI (aA bI (hr.mono (by decide)) rfl (ae (mv 2) (ae av (ae (cR gY sB (mv 0) av) ar))) aB))) (iY (cU (cI (aA bI (hr.mono (by decide)) rfl (ae (mv 3) (ae av (ae (cR gY sB (mv 0) av) ar))) aB))) (.inr rfl)))) (am (aF gL)) aU)
  (am (aF (MB.me (we (kE (gk (gm hu) jI (mv 2) (mv 3) (aV _))) (qc (kE (aA bI (hr.mono (by decide)) rfl (ae (bD (mv 1) av (fun _ _=>rfl)) (ae av (ae (qb rfl h9) ar))) aB)))))))))))
theorem dR:aJ ["many", "ties", "near", "tie", "one", "other"] ["many", "ties"] (af dD):=⟨rfl,rfl,rfl,by decide +kernel,rfl,by decide +kernel,by decide +kernel⟩
theorem sM (F:Fun K "neighbours" "neighbours" dD f fd) (bL:mg "range" = none) (ao:mg "isinstance" = none) (d5:mg "list" = none) (qT:Def P w K mg base "is_tie" 3 2 jX):bU P w K mg base CX0 4 f fd ["many", "ties"] (spF K eo 2):=by
 refine bR F dR fun cdv A outer s H E hr => ?_
 have hu:=dr hr
 exact (ag (bS (cU (cI (fN (t:=.list) rfl ao rfl d5 (by decide +kernel) (mv 1)))) (am gp) aU)
  (ag (wo (i:=2) dR.nd rfl (by first|exact .inl rfl|exact .inr rfl) (own:=["person"]) (capn:=[]) (caps:=[]) rfl (bY.mk' rfl (by decide +kernel) (by decide +kernel) (by repeat' (first|exact aW.nil|refine aW.cons (by first|exact (fun _=>.inl rfl)|exact (fun _=>.inr rfl)|(intro z;cases z;done)) ?_)) bT.nil) (gq rfl bL (mv 0))
   (fun cl C s H ex=>⟨(bu (i:=0) (show ((["person"] : List Str)++([] : List Str)).Nodup by decide +kernel) rfl (by first|exact .inl rfl|exact .inr rfl)),dz,K4⟩))
  (ag (mS PassesOwn.never rfl (g9 (mv 1)) (bu (i:=3) dR.nd rfl (by first|exact .inl rfl|exact .inr rfl)) (ag (bS (cU (cI (aA qT (hr.mono (by decide)) rfl (ae (mv 0) (ae (mv 3) ar)) aB))) (am gp) aU)
  (ag (bi (i:=4) dR.nd rfl (by first|exact .inl rfl|exact .inr rfl) (bD (mv 3) av (fun _ _=>rfl)))
  (ag (bi (i:=5) dR.nd rfl (by first|exact .inl rfl|exact .inr rfl) (bD (mv 3) av (fun _ _=>rfl)))
  (ag (bS (bp (NV (ZS (Nat.add_le_add_left (by decide) _) hu)) NW (mv 5) (bD (mv 2) (mv 4) (fun _ _=>rfl)) rfl) (am gp) aU)
  (ag (Ek (ZS (Nat.add_le_add_left (by decide) _) hu) (bD (mv 3) av (fun _ _=>rfl)) (bD (mv 2) (mv 4) (fun _ _=>rfl)) (mv 5))
  (am (Ek (ZS (Nat.add_le_add_left (by decide) _) hu) (bD (mv 3) av (fun _ _=>rfl)) (bD (mv 2) (mv 5) (fun _ _=>rfl)) (mv 4)))))))))
  (am (aF (mv 2))))))
theorem w8:aJ ["near", "bars"] ["near", "bars"] (af d6):=⟨rfl,rfl,rfl,by decide +kernel,rfl,by decide +kernel,by decide +kernel⟩
theorem w9 (F:Fun K "bars_told" "bars_told" d6 f fd) (bf:mg "tuple" = none) (kF:mg "all" = none) (bP:mg "len" = none) (ao:mg "isinstance" = none) (d5:mg "list" = none) (gB:Def P w K mg base "is_whole" 1 1 cE):bU P w K mg base CX0 2 f fd ["near", "bars"] (spF K ft 2):=by
 refine bR F w8 fun cdv A outer s H E hr => ?_
 have hu:=dr hr
 exact (ag (bS (bp kQ kU (mv 1) df (aV _)) (am gp) aU)
  (ag (bS (MW.mt (kD (cU (cI (fN (t:=.list) rfl ao rfl d5 (by decide +kernel) (mv 1)))) (iY (bp (gm hu) jI (ei rfl bP (eF (mv 1))) (ei rfl bP (eF (mv 0))) (aV _)) (.inr rfl)))) (am gp) aU)
  (ag (bS (cU (cI (wx rfl rfl kF (g8 (eW (own:=["bar"]) (capn:=[]) (caps:=[]) rfl (bY.mk' rfl (by decide +kernel) (by decide +kernel) (by repeat' (first|exact aW.nil|refine aW.cons (by first|exact (fun _=>.inl rfl)|exact (fun _=>.inr rfl)|(intro z;cases z;done)) ?_)) bT.nil) (g9 (mv 1))
   (fun cl C s H ex=>⟨(bu (i:=0) (show ((["bar"] : List Str)++([] : List Str)).Nodup by decide +kernel) rfl (by first|exact .inl rfl|exact .inr rfl)),dz,(aA gB (hr.mono (by decide)) rfl (ae (mv 0) ar) aB)⟩)))))) (am gp) aU)
  (am (aF (gM rfl bf (eF (mv 1))))))))
theorem sN:aJ ["many", "stays"] ["many", "stays"] (af dE):=⟨rfl,rfl,rfl,by decide +kernel,rfl,by decide +kernel,by decide +kernel⟩
theorem sO (F:Fun K "stays_told" "stays_told" dE f fd) (bf:mg "tuple" = none) (kF:mg "all" = none) (bP:mg "len" = none) (ao:mg "isinstance" = none) (d5:mg "list" = none) (bL:mg "range" = none) (eA:Def P w K mg base "is_opinion" 3 1 bG):bU P w K mg base CX0 4 f fd ["many", "stays"] (spF K eu 2):=by
 refine bR F sN fun cdv A outer s H E hr => ?_
 have hu:=dr hr
 exact (ag (bS (bp kQ kU (mv 1) df (aV _)) (am (aF (gM rfl bf (g8 (eW (own:=["person"]) (capn:=[]) (caps:=[]) rfl (bY.mk' rfl (by decide +kernel) (by decide +kernel) (by repeat' (first|exact aW.nil|refine aW.cons (by first|exact (fun _=>.inl rfl)|exact (fun _=>.inr rfl)|(intro z;cases z;done)) ?_)) bT.nil) (gq rfl bL (mv 0))
   (fun cl C s H ex=>⟨(bu (i:=0) (show ((["person"] : List Str)++([] : List Str)).Nodup by decide +kernel) rfl (by first|exact .inl rfl|exact .inr rfl)),dz,df⟩)))))) aU)
  (ag (bS (MW.mt (kD (cU (cI (fN (t:=.list) rfl ao rfl d5 (by decide +kernel) (mv 1)))) (iY (bp (gm hu) jI (ei rfl bP (eF (mv 1))) (mv 0) (aV _)) (.inr rfl)))) (am gp) aU)
  (ag (bS (cU (cI (wx rfl rfl kF (g8 (eW (own:=["stay"]) (capn:=[]) (caps:=[]) rfl (bY.mk' rfl (by decide +kernel) (by decide +kernel) (by repeat' (first|exact aW.nil|refine aW.cons (by first|exact (fun _=>.inl rfl)|exact (fun _=>.inr rfl)|(intro z;cases z;done)) ?_)) bT.nil) (g9 (mv 1))
   (fun cl C s H ex=>⟨(bu (i:=0) (show ((["stay"] : List Str)++([] : List Str)).Nodup by decide +kernel) rfl (by first|exact .inl rfl|exact .inr rfl)),dz,(MB.me (PD (kE (gk kQ kU (mv 0) df (aV _))) (qc (kE (aA eA (hr.mono (by decide)) rfl (ae (mv 0) ar) aB)))))⟩)))))) (am gp) aU)
  (am (aF (gM rfl bf (eF (mv 1))))))))
theorem ng:aJ ["many", "ties", "bars", "stays", "near", "rows"] ["many", "ties", "bars", "stays"] (af iF):=⟨rfl,rfl,rfl,by decide +kernel,rfl,by decide +kernel,by decide +kernel⟩
theorem FE (F:Fun K "web_of" "web_of" iF f fd) (bf:mg "tuple" = none) (iN:mg "sorted" = none) {ia:Tok} (ib:mg "MOST_PEOPLE" = some (.int 30 ia)) (je:Def P w K mg base "stays_told" 4 2 eu) (j4:Def P w K mg base "bars_told" 2 2 ft) (jf:Def P w K mg base "neighbours" 4 2 eo) (bI:Def P w K mg base "is_between" 2 3 bc):bU P w K mg base CX0 5 f fd ["many", "ties", "bars", "stays"] (spF K cK 4):=by
 refine bR F ng fun cdv A outer s H E hr => ?_
 have hu:=dr hr
 exact (ag (bS (cU (cI (aA bI (hr.mono (by decide)) rfl (ae (mv 0) (ae av (ae (qb rfl ib) ar))) aB))) (am gp) aU)
  (ag (bi (i:=4) ng.nd rfl (by first|exact .inl rfl|exact .inr rfl) (aA jf (hr.mono (by decide)) rfl (ae (mv 0) (ae (mv 1) ar)) aB))
  (ag (bi (i:=5) ng.nd rfl (by first|exact .inl rfl|exact .inr rfl) (gM rfl bf (g8 (eW (own:=["row"]) (capn:=[]) (caps:=[]) rfl (bY.mk' rfl (by decide +kernel) (by decide +kernel) (by repeat' (first|exact aW.nil|refine aW.cons (by first|exact (fun _=>.inl rfl)|exact (fun _=>.inr rfl)|(intro z;cases z;done)) ?_)) bT.nil) (g9 (mv 4))
   (fun cl C s H ex=>⟨(bu (i:=0) (show ((["row"] : List Str)++([] : List Str)).Nodup by decide +kernel) rfl (by first|exact .inl rfl|exact .inr rfl)),dz,(gM rfl bf (g8 (HV rfl rfl iN (mv 0))))⟩)))))
  (am (aF (iZ (ae (mv 5) (ae (aA j4 (hr.mono (by decide)) rfl (ae (mv 4) (ae (mv 2) ar)) aB) (ae (aA je (hr.mono (by decide)) rfl (ae (mv 0) (ae (mv 3) ar)) aB) ar)))))))))
theorem BU:aJ ["web"] ["web"] (af fW):=⟨rfl,rfl,rfl,by decide +kernel,rfl,by decide +kernel,by decide +kernel⟩
theorem BV (F:Fun K "many_of" "many_of" fW f fd) (bP:mg "len" = none):bU P w K mg base CX0 1 f fd ["web"] (spF K cm 1):=by
 refine bR F BU fun cdv A outer s H E hr => ?_
 have hu:=dr hr
 exact (am (aF (ei rfl bP (eF (bD (mv 0) av (fun _ _=>rfl))))))
theorem BW:aJ ["web", "person"] ["web", "person"] (af fX):=⟨rfl,rfl,rfl,by decide +kernel,rfl,by decide +kernel,by decide +kernel⟩
theorem BX (F:Fun K "ties_of" "ties_of" fX f fd):bU P w K mg base CX0 1 f fd ["web", "person"] (spF K iz 2):=by
 refine bR F BW fun cdv A outer s H E hr => ?_
 have hu:=dr hr
 exact (am (aF (bD (bD (mv 0) av (fun _ _=>rfl)) (mv 1) (fun _ _=>rfl))))
theorem FF:aJ ["web", "person"] ["web", "person"] (af iG):=⟨rfl,rfl,rfl,by decide +kernel,rfl,by decide +kernel,by decide +kernel⟩
theorem FG (F:Fun K "bar_of" "bar_of" iG f fd):bU P w K mg base CX0 1 f fd ["web", "person"] (spF K jT 2):=by
 refine bR F FF fun cdv A outer s H E hr => ?_
 have hu:=dr hr
 exact (am (aF (bD (bD (mv 0) av (fun _ _=>rfl)) (mv 1) (fun _ _=>rfl))))
theorem BY:aJ ["web", "person"] ["web", "person"] (af fY):=⟨rfl,rfl,rfl,by decide +kernel,rfl,by decide +kernel,by decide +kernel⟩
theorem BZ (F:Fun K "stay_of" "stay_of" fY f fd):bU P w K mg base CX0 1 f fd ["web", "person"] (spF K cY 2):=by
 refine bR F BY fun cdv A outer s H E hr => ?_
 have hu:=dr hr
 exact (am (aF (bD (bD (mv 0) av (fun _ _=>rfl)) (mv 1) (fun _ _=>rfl))))
theorem zP:aJ ["web"] ["web"] (af eP):=⟨rfl,rfl,rfl,by decide +kernel,rfl,by decide +kernel,by decide +kernel⟩
theorem zQ (F:Fun K "stays_of" "stays_of" eP f fd) (d5:mg "list" = none):bU P w K mg base CX0 1 f fd ["web"] (spF K bV 1):=by
 refine bR F zP fun cdv A outer s H E hr => ?_
 have hu:=dr hr
 exact (am (aF (bn (KW rfl d5 (eF (bD (mv 0) av (fun _ _=>rfl)))))))
theorem B0:aJ ["web"] ["web"] (af fZ):=⟨rfl,rfl,rfl,by decide +kernel,rfl,by decide +kernel,by decide +kernel⟩
theorem B2 (F:Fun K "free_of" "free_of" fZ f fd) (cB:mg "enumerate" = none) (gC:Def P w K mg base "stays_of" 1 1 bV):bU P w K mg base CX0 2 f fd ["web"] (spF K eN 1):=by
 refine bR F B0 fun cdv A outer s H E hr => ?_
 have hu:=dr hr
 exact (am (aF (bn (zn (own:=["person", "stay"]) (capn:=[]) (caps:=[]) rfl (bY.mk' rfl (by decide +kernel) (by decide +kernel) (by repeat' (first|exact aW.nil|refine aW.cons (by first|exact (fun _=>.inl rfl)|exact (fun _=>.inr rfl)|(intro z;cases z;done)) ?_)) bT.nil) (zm rfl cB (aA gC (hr.mono (by decide)) rfl (ae (mv 0) ar) aB))
   (fun cl C s H ex=>⟨(wj rfl (fj (bu (i:=0) (show ((["person", "stay"] : List Str)++([] : List Str)).Nodup by decide +kernel) rfl (by first|exact .inl rfl|exact .inr rfl)) (fj (bu (i:=1) (show ((["person", "stay"] : List Str)++([] : List Str)).Nodup by decide +kernel) rfl (by first|exact .inl rfl|exact .inr rfl)) pH))),(Ec (bp kQ kU (mv 1) df (aV _))),(mv 0)⟩)))))
theorem xb:aJ ["web", "thing"] ["web", "thing"] (af d7):=⟨rfl,rfl,rfl,by decide +kernel,rfl,by decide +kernel,by decide +kernel⟩
theorem xc (F:Fun K "is_person" "is_person" d7 f fd) (bI:Def P w K mg base "is_between" 2 3 bc) (eS:Def P w K mg base "many_of" 1 1 cm):bU P w K mg base CX0 3 f fd ["web", "thing"] (spF K fu 2):=by
 refine bR F xb fun cdv A outer s H E hr => ?_
 have hu:=dr hr
 exact (am (aF (aA bI (hr.mono (by decide)) rfl (ae (mv 1) (ae av (ae (cR gY sB (aA eS (hr.mono (by decide)) rfl (ae (mv 0) ar) aB) av) ar))) aB)))
theorem pN:aJ ["web", "thing", "person", "opinion", "stay"] ["web", "thing"] (af m8):=⟨rfl,rfl,rfl,by decide +kernel,rfl,by decide +kernel,by decide +kernel⟩
theorem Lx (F:Fun K "fits" "fits" m8 f fd) (cB:mg "enumerate" = none) (bP:mg "len" = none) (ao:mg "isinstance" = none) (bf:mg "tuple" = none) (eU:Def P w K mg base "stay_of" 1 2 cY) (eA:Def P w K mg base "is_opinion" 3 1 bG) (eS:Def P w K mg base "many_of" 1 1 cm):bU P w K mg base CX0 4 f fd ["web", "thing"] (spF K qC 2):=by
 refine bR F pN fun cdv A outer s H E hr => ?_
 have hu:=dr hr
 exact (ag (bS (MW.mt (kD (cU (cI (fN (t:=.tuple) rfl ao rfl bf (by decide +kernel) (mv 1)))) (iY (bp (gm hu) jI (ei rfl bP (eF (mv 1))) (aA eS (hr.mono (by decide)) rfl (ae (mv 0) ar) aB) (aV _)) (.inr rfl)))) (am (aF gL)) aU)
  (ag (mS PassesOwn.never rfl (KZ rfl cB (mv 1)) (wj rfl (fj (bu (i:=2) pN.nd rfl (by first|exact .inl rfl|exact .inr rfl)) (fj (bu (i:=3) pN.nd rfl (by first|exact .inl rfl|exact .inr rfl)) pH))) (ag (bS (cU (cI (aA eA (hr.mono (by decide)) rfl (ae (mv 3) ar) aB))) (am (aF gL)) aU)
  (ag (bi (i:=4) pN.nd rfl (by first|exact .inl rfl|exact .inr rfl) (aA eU (hr.mono (by decide)) rfl (ae (mv 0) (ae (mv 2) ar)) aB))
  (am (bS (MW.mt (Np (bp DX u0 (mv 4) df (aV _)) (iY (bp (gm hu) jI (mv 3) (mv 4) (aV _)) (.inl rfl)))) (am (aF gL)) aU)))))
  (am (aF gL))))
theorem qF:aJ ["web", "thing"] ["web", "thing"] (af c0):=⟨rfl,rfl,rfl,by decide +kernel,rfl,by decide +kernel,by decide +kernel⟩
theorem qG (F:Fun K "check_stand" "check_stand" c0 f fd) (Cm:Def P w K mg base "fits" 4 2 qC):bU P w K mg base CX0 5 f fd ["web", "thing"] (spF K cZ 2):=by
 refine bR F qF fun cdv A outer s H E hr => ?_
 have hu:=dr hr
 exact (am (bS (cU (cI (aA Cm (hr.mono (by decide)) rfl (ae (mv 0) (ae (mv 1) ar)) aB))) (am gp) aU))
theorem B3:aJ ["web", "stand", "person"] ["web", "stand", "person"] (af gc):=⟨rfl,rfl,rfl,by decide +kernel,rfl,by decide +kernel,by decide +kernel⟩
theorem B4 (F:Fun K "pull_at" "pull_at" gc f fd) (Jy:mg "sum" = none) (nr:Def P w K mg base "ties_of" 1 2 iz):bU P w K mg base CX0 2 f fd ["web", "stand", "person"] (spF K iA 3):=by
 refine bR F B3 fun cdv A outer s H E hr => ?_
 have hu:=dr hr
 exact (am (aF (cR mK mQ av (Nr rfl rfl Jy (g8 (eW (own:=["other", "weight"]) (capn:=["stand"]) (caps:=[1]) rfl (bY.mk' rfl (by decide +kernel) (by decide +kernel) (by repeat' (first|exact aW.nil|refine aW.cons (by first|exact (fun _=>.inl rfl)|exact (fun _=>.inr rfl)|(intro z;cases z;done)) ?_)) (bT.cons rfl rfl bT.nil)) (g9 (aA nr (hr.mono (by decide)) rfl (ae (mv 0) (ae (mv 2) ar)) aB))
   (fun cl C s H ex=>⟨(wj rfl (fj (bu (i:=0) (show ((["other", "weight"] : List Str)++(["stand"] : List Str)).Nodup by decide +kernel) rfl (by first|exact .inl rfl|exact .inr rfl)) (fj (bu (i:=1) (show ((["other", "weight"] : List Str)++(["stand"] : List Str)).Nodup by decide +kernel) rfl (by first|exact .inl rfl|exact .inr rfl)) pH))),(Ec (bp (eK hu) ip (bD (mv 2) (mv 0) (fun _ _=>rfl)) av (aV _))),(mv 1)⟩)))))))
theorem ja:aJ ["web", "stand", "person", "stay", "strength", "bar"] ["web", "stand", "person"] (af ge):=⟨rfl,rfl,rfl,by decide +kernel,rfl,by decide +kernel,by decide +kernel⟩
theorem B5 (F:Fun K "next_at" "next_at" ge f fd) (qU:Def P w K mg base "bar_of" 1 2 jT) (nt:Def P w K mg base "pull_at" 2 3 iA) (eU:Def P w K mg base "stay_of" 1 2 cY):bU P w K mg base CX0 3 f fd ["web", "stand", "person"] (spF K eM 3):=by
 refine bR F ja fun cdv A outer s H E hr => ?_
 have hu:=dr hr
 exact (ag (bi (i:=3) ja.nd rfl (by first|exact .inl rfl|exact .inr rfl) (aA eU (hr.mono (by decide)) rfl (ae (mv 0) (ae (mv 2) ar)) aB))
  (ag (bS (bp DX u0 (mv 3) df (aV _)) (am (aF (mv 3))) aU)
  (ag (bi (i:=4) ja.nd rfl (by first|exact .inl rfl|exact .inr rfl) (aA nt (hr.mono (by decide)) rfl (ae (mv 0) (ae (mv 1) (ae (mv 2) ar))) aB))
  (ag (bi (i:=5) ja.nd rfl (by first|exact .inl rfl|exact .inr rfl) (aA qU (hr.mono (by decide)) rfl (ae (mv 0) (ae (mv 2) ar)) aB))
  (ag (bS (bp (eK hu) ip (mv 4) (mv 5) (aV _)) (am (aF (bD (mv 1) (mv 2) (fun _ _=>rfl)))) aU)
  (am (aF (Ea (bp Hf Bl (mv 4) (mv 5) (aV _)) av av))))))))
theorem B6:aJ ["web", "stand"] ["web", "stand"] (af gf):=⟨rfl,rfl,rfl,by decide +kernel,rfl,by decide +kernel,by decide +kernel⟩
theorem B7 (F:Fun K "turn_at" "turn_at" gf f fd) (bf:mg "tuple" = none) (bL:mg "range" = none) (eS:Def P w K mg base "many_of" 1 1 cm) (nu:Def P w K mg base "next_at" 3 3 eM):bU P w K mg base CX0 4 f fd ["web", "stand"] (spF K dA 2):=by
 refine bR F B6 fun cdv A outer s H E hr => ?_
 have hu:=dr hr
 exact (am (aF (gM rfl bf (g8 (eW (own:=["person"]) (capn:=["web", "stand"]) (caps:=[0,1]) rfl (bY.mk' rfl (by decide +kernel) (by decide +kernel) (by repeat' (first|exact aW.nil|refine aW.cons (by first|exact (fun _=>.inl rfl)|exact (fun _=>.inr rfl)|(intro z;cases z;done)) ?_)) (bT.cons rfl rfl (bT.cons rfl rfl bT.nil))) (gq rfl bL (aA eS (hr.mono (by decide)) rfl (ae (mv 0) ar) aB))
   (fun cl C s H ex=>⟨(bu (i:=0) (show ((["person"] : List Str)++(["web", "stand"] : List Str)).Nodup by decide +kernel) rfl (by first|exact .inl rfl|exact .inr rfl)),dz,(aA nu (hr.mono (by decide)) rfl (ae (mv 1) (ae (mv 2) (ae (mv 0) ar))) aB)⟩))))))
theorem j0:aJ ["web", "stand", "stands", "later", "word"] ["web", "stand"] (af ku):=⟨rfl,rfl,rfl,by decide +kernel,rfl,by decide +kernel,by decide +kernel⟩
theorem IY (F:Fun K "ended" "ended" ku f fd) (bP:mg "len" = none) (iO:Def P w K mg base "turn_at" 4 2 dA) (ic:Def P w K mg base "check_stand" 5 2 cZ):bU P w K mg base CX0 6 f fd ["web", "stand"] (spF K i9 2):=by
 refine bR F j0 fun cdv A outer s H E hr => ?_
 have hu:=dr hr
 exact (ag (pI (aA ic (hr.mono (by decide)) rfl (ae (mv 0) (ae (mv 1) ar)) aB))
  (ag (bi (i:=2) j0.nd rfl (by first|exact .inl rfl|exact .inr rfl) (bn (cj (ae (mv 1) (ae (aA iO (hr.mono (by decide)) rfl (ae (mv 0) (ae (mv 1) ar)) aB) ar)) (fun _ _ _ _ z=>by rw [(aQ (aQ bo)) _ _ _ _ z];decide))))
  (ag (bi (i:=3) j0.nd rfl (by first|exact .inl rfl|exact .inr rfl) (aA iO (hr.mono (by decide)) rfl (ae (mv 0) (ae (bD (mv 2) av (fun _ _=>rfl)) ar)) aB))
  (ag (Hx PassesOwn.never (bp (gm hu) jI (mv 3) (bD (mv 2) gO (fun _ _=>rfl)) (aV _)) (ag (pI (Bq (mv 2) (mv 3)))
  (am (bi (i:=3) j0.nd rfl (by first|exact .inl rfl|exact .inr rfl) (aA iO (hr.mono (by decide)) rfl (ae (mv 0) (ae (mv 3) ar)) aB)))))
  (ag (bi (i:=4) j0.nd rfl (by first|exact .inl rfl|exact .inr rfl) (Ea (bp (eK hu) ip (bD (mv 2) gO (fun _ _=>rfl)) (bD (mv 2) gO (fun _ _=>rfl)) (aV _)) (jH [114,101,115,116] rfl) (jH [112,97,105,114] rfl)))
  (am (aF (iZ (ae (cR gY sB (ei rfl bP (eF (mv 2))) av) (ae (mv 4) (ae (mv 2) ar)))))))))))
theorem nh:aJ ["web", "thing"] ["web", "thing"] (af cw):=⟨rfl,rfl,rfl,by decide +kernel,rfl,by decide +kernel,by decide +kernel⟩
theorem ni (F:Fun K "may_be_chosen" "may_be_chosen" cw f fd) (eU:Def P w K mg base "stay_of" 1 2 cY) (j5:Def P w K mg base "is_person" 3 2 fu):bU P w K mg base CX0 4 f fd ["web", "thing"] (spF K bJ 2):=by
 refine bR F nh fun cdv A outer s H E hr => ?_
 have hu:=dr hr
 exact (am (aF (MB.me (we (kE (aA j5 (hr.mono (by decide)) rfl (ae (mv 0) (ae (mv 1) ar)) aB)) (qc (kE (gk (gm hu) jI (aA eU (hr.mono (by decide)) rfl (ae (mv 0) (ae (mv 1) ar)) aB) av (aV _))))))))
theorem nj:aJ ["web", "thing"] ["web", "thing"] (af cx):=⟨rfl,rfl,rfl,by decide +kernel,rfl,by decide +kernel,by decide +kernel⟩
theorem nn (F:Fun K "are_choosable" "are_choosable" cx f fd) (kF:mg "all" = none) (bL:mg "range" = none) (bP:mg "len" = none) (ao:mg "isinstance" = none) (d5:mg "list" = none) (fG:Def P w K mg base "may_be_chosen" 4 2 bJ):bU P w K mg base CX0 5 f fd ["web", "thing"] (spF K cr 2):=by
 refine bR F nj fun cdv A outer s H E hr => ?_
 have hu:=dr hr
 exact (ag (bS (cU (cI (fN (t:=.list) rfl ao rfl d5 (by decide +kernel) (mv 1)))) (am (aF gL)) aU)
  (ag (bS (cU (cI (wx rfl rfl kF (g8 (eW (own:=["person"]) (capn:=["web"]) (caps:=[0]) rfl (bY.mk' rfl (by decide +kernel) (by decide +kernel) (by repeat' (first|exact aW.nil|refine aW.cons (by first|exact (fun _=>.inl rfl)|exact (fun _=>.inr rfl)|(intro z;cases z;done)) ?_)) (bT.cons rfl rfl bT.nil)) (g9 (mv 1))
   (fun cl C s H ex=>⟨(bu (i:=0) (show ((["person"] : List Str)++(["web"] : List Str)).Nodup by decide +kernel) rfl (by first|exact .inl rfl|exact .inr rfl)),dz,(aA fG (hr.mono (by decide)) rfl (ae (mv 1) (ae (mv 0) ar)) aB)⟩)))))) (am (aF gL)) aU)
  (am (aF (wx rfl rfl kF (g8 (eW (own:=["place"]) (capn:=["thing"]) (caps:=[1]) rfl (bY.mk' rfl (by decide +kernel) (by decide +kernel) (by repeat' (first|exact aW.nil|refine aW.cons (by first|exact (fun _=>.inl rfl)|exact (fun _=>.inr rfl)|(intro z;cases z;done)) ?_)) (bT.cons rfl rfl bT.nil)) (gq rfl bL (cR gY sB (ei rfl bP (eF (mv 1))) av))
   (fun cl C s H ex=>⟨(bu (i:=0) (show ((["place"] : List Str)++(["thing"] : List Str)).Nodup by decide +kernel) rfl (by first|exact .inl rfl|exact .inr rfl)),dz,(gk Me Bl (bD (mv 1) (mv 0) (fun _ _=>rfl)) (bD (mv 1) (cR lK qf (mv 0) av) (fun _ _=>rfl)) (aV _))⟩))))))))
theorem IZ:aJ ["web", "some"] ["web", "some"] (af kw):=⟨rfl,rfl,rfl,by decide +kernel,rfl,by decide +kernel,by decide +kernel⟩
theorem Ja (F:Fun K "begun" "begun" kw f fd) (bf:mg "tuple" = none) (cB:mg "enumerate" = none) (gC:Def P w K mg base "stays_of" 1 1 bV) (fH:Def P w K mg base "are_choosable" 5 2 cr):bU P w K mg base CX0 6 f fd ["web", "some"] (spF K kt 2):=by
 refine bR F IZ fun cdv A outer s H E hr => ?_
 have hu:=dr hr
 exact (ag (bS (cU (cI (aA fH (hr.mono (by decide)) rfl (ae (mv 0) (ae (mv 1) ar)) aB))) (am gp) aU)
  (am (aF (gM rfl bf (g8 (zn (own:=["person", "stay"]) (capn:=["some"]) (caps:=[1]) rfl (bY.mk' rfl (by decide +kernel) (by decide +kernel) (by repeat' (first|exact aW.nil|refine aW.cons (by first|exact (fun _=>.inl rfl)|exact (fun _=>.inr rfl)|(intro z;cases z;done)) ?_)) (bT.cons rfl rfl bT.nil)) (zm rfl cB (aA gC (hr.mono (by decide)) rfl (ae (mv 0) ar) aB))
   (fun cl C s H ex=>⟨(wj rfl (fj (bu (i:=0) (show ((["person", "stay"] : List Str)++(["some"] : List Str)).Nodup by decide +kernel) rfl (by first|exact .inl rfl|exact .inr rfl)) (fj (bu (i:=1) (show ((["person", "stay"] : List Str)++(["some"] : List Str)).Nodup by decide +kernel) rfl (by first|exact .inl rfl|exact .inr rfl)) pH))),dz,(Ea (MW.mt (kD (bp uW Mm (mv 0) (mv 2) rfl) (iY (bp (eK hu) ip (mv 1) av (aV _)) (.inr rfl)))) av av)⟩)))))))
theorem fP:aJ ["web", "some", "end", "word", "stands"] ["web", "some"] (af d8):=⟨rfl,rfl,rfl,by decide +kernel,rfl,by decide +kernel,by decide +kernel⟩
theorem xf (F:Fun K "turns_all" "turns_all" d8 f fd) (xq:Def P w K mg base "ended" 6 2 i9) (xr:Def P w K mg base "begun" 6 2 kt):bU P w K mg base CX0 7 f fd ["web", "some"] (spF K fv 2):=by
 refine bR F fP fun cdv A outer s H E hr => ?_
 have hu:=dr hr
 exact (ag (bi (i:=2) fP.nd rfl (by first|exact .inl rfl|exact .inr rfl) (aA xq (hr.mono (by decide)) rfl (ae (mv 0) (ae (aA xr (hr.mono (by decide)) rfl (ae (mv 0) (ae (mv 1) ar)) aB) ar)) aB))
  (ag (bi (i:=3) fP.nd rfl (by first|exact .inl rfl|exact .inr rfl) (bD (mv 2) av (fun _ _=>rfl)))
  (ag (bi (i:=4) fP.nd rfl (by first|exact .inl rfl|exact .inr rfl) (bD (mv 2) av (fun _ _=>rfl)))
  (ag (bS (bp (eK hu) ip (mv 3) (jH [112,97,105,114] rfl) (aV _)) (am (aF (iZ (ae (jH [110,111,116] rfl) (ae (jK (mv 4) (y7 gO) y6) ar))))) aU)
  (ag (bS (bp uW Mm av (bD (mv 4) gO (fun _ _=>rfl)) rfl) (am (aF (iZ (ae (jH [110,111,116] rfl) (ae (jK (mv 4) (y7 gO) y6) ar))))) aU)
  (am (aF (iZ (ae (jH [116,117,114,110] rfl) (ae (jK (mv 4) y6 (y7 gO)) ar))))))))))
theorem gU:aJ ["people", "lists", "person"] ["people"] (af eQ):=⟨rfl,rfl,rfl,by decide +kernel,rfl,by decide +kernel,by decide +kernel⟩
theorem zR (F:Fun K "lists_of" "lists_of" eQ f fd) (iN:mg "sorted" = none) (bP:mg "len" = none):bU P w K mg base CX0 1 f fd ["people"] (spF K gz 1):=by
 refine bR F gU fun cdv A outer s H E hr => ?_
 have hu:=dr hr
 exact (ag (bi (i:=1) gU.nd rfl (by first|exact .inl rfl|exact .inr rfl) (bn (cj (ae (bn (cj ar (fun _ _ _ _ z=>by rw [bo _ _ _ _ z];decide))) ar) (fun _ _ _ _ z=>by rw [(aQ bo) _ _ _ _ z];decide))))
  (ag (mS PassesOwn.never rfl (g9 (mv 0)) (bu (i:=2) gU.nd rfl (by first|exact .inl rfl|exact .inr rfl)) (am (bi (i:=1) gU.nd rfl (by first|exact .inl rfl|exact .inr rfl) (bn (i4 (mv 1) (bn (eW (own:=["some"]) (capn:=["person"]) (caps:=[2]) rfl (bY.mk' rfl (by decide +kernel) (by decide +kernel) (by repeat' (first|exact aW.nil|refine aW.cons (by first|exact (fun _=>.inl rfl)|exact (fun _=>.inr rfl)|(intro z;cases z;done)) ?_)) (bT.cons rfl rfl bT.nil)) (g9 (mv 1))
   (fun cl C s H ex=>⟨(bu (i:=0) (show ((["some"] : List Str)++(["person"] : List Str)).Nodup by decide +kernel) rfl (by first|exact .inl rfl|exact .inr rfl)),dz,(bn (i4 (mv 0) (bn (cj (ae (mv 1) ar) (fun _ _ _ _ z=>by rw [(aQ bo) _ _ _ _ z];decide)))))⟩))))))))
  (am (aF (bn (BG rfl iN rfl bP (mv 1)))))))
theorem qH:aJ ["web", "some", "known", "people"] ["web", "some", "known"] (af gh):=⟨rfl,rfl,rfl,by decide +kernel,rfl,by decide +kernel,by decide +kernel⟩
theorem B8 (F:Fun K "do_turn" "do_turn" gh f fd) (bf:mg "tuple" = none) (j6:Def P w K mg base "turns_all" 7 2 fv):bU P w K mg base CX0 8 f fd ["web", "some", "known"] (spF K fU 3):=by
 refine bR F qH fun cdv A outer s H E hr => ?_
 have hu:=dr hr
 exact (ag (bi (i:=3) qH.nd rfl (by first|exact .inl rfl|exact .inr rfl) (gM rfl bf (eF (mv 1))))
  (ag (bS (bp (Fl (ZS (Nat.add_le_add_left (by decide) _) hu)) Fo (mv 3) (mv 2) rfl) (am (Ld (ZS (Nat.add_le_add_left (by decide) _) hu) (gk (eK hu) ip (bD (aA j6 (hr.mono (by decide)) rfl (ae (mv 0) (ae (mv 1) ar)) aB) av (fun _ _=>rfl)) (jH [116,117,114,110] rfl) (aV _)) (mv 2) (mv 3))) aU)
  (am (aF (Le (ZS (Nat.add_le_add_left (by decide) _) hu) (mv 2) (mv 3))))))
theorem sP:aJ ["web", "m", "chosen", "known", "some", "trees"] ["web", "m", "chosen", "known"] (af dF):=⟨rfl,rfl,rfl,by decide +kernel,rfl,by decide +kernel,by decide +kernel⟩
theorem sQ (F:Fun K "tree_above" "tree_above" dF f fd):bU P w K mg base CX0 1 f fd ["web", "m", "chosen", "known"] (spF K ev 4):=by
 refine bR F sP fun cdv A outer s H E hr => ?_
 have hu:=dr hr
 exact (ag (bS (bp (eK hu) ip (mv 1) av (aV _)) (am (aF (iZ (ae (jH [108,101,97,102] rfl) ar)))) aU)
  Lc)
theorem iI:aJ ["web", "free", "known", "some", "tree"] ["web"] (af iH):=⟨rfl,rfl,rfl,by decide +kernel,rfl,by decide +kernel,by decide +kernel⟩
theorem xg:aJ ["_law_script", "_law_k"] ["_law_script", "_law_k"] (af d9):=⟨rfl,rfl,rfl,by decide +kernel,rfl,by decide +kernel,by decide +kernel⟩
theorem xh (F:Fun K "_law_cell" "_law_cell" d9 f fd) (bP:mg "len" = none):bU P w K mg base CX0 1 f fd ["_law_script", "_law_k"] (spF K jZ 2):=by
 refine bR F xg fun cdv A outer s H E hr => ?_
 have hu:=dr hr
 exact (ag (bS (bp Me Bl (mv 1) (ei rfl bP (eF (mv 0))) (aV _)) (am (aF (bD (mv 0) (mv 1) (fun _ _=>rfl)))) aU)
  (am (aF (cR lK qf (cR mK mQ (cR mK mQ av (mv 1)) (mv 1)) (cR mK mQ av (mv 1))))))
theorem ff:aJ ["_law_error", "_law_some"] ["_law_error"] (af dG):=⟨rfl,rfl,rfl,by decide +kernel,rfl,by decide +kernel,by decide +kernel⟩
theorem sR (F:Fun K "_law_class" "_law_class" dG f fd) (ao:mg "isinstance" = none) (jg:mg "ValueError" = none) {ed:Addr} (nv:mg "TooLong" = some (.ref ed)) {ee:Addr} (ny:mg "NoOrder" = some (.ref ee)) {gW:Addr} (xt:mg "NoWeb" = some (.ref gW)) {fB:Addr} (qV:mg "NoText" = some (.ref fB)) {gX:Addr} (xu:mg "NoRow" = some (.ref gX)) {dw:Addr} (lc:mg "NoPeople" = some (.ref dw)) {aL:Addr} (iP:mg "TooMuch" = some (.ref aL)) {fD:Addr} (qW:mg "NoRest" = some (.ref fD)) {ef:Addr} (nz:mg "NoStand" = some (.ref ef)) (jh:fO K (fun C b=>PySem.W.kitOne K (.ref C) (gw (.ty "ValueError"))=some b) [("TooMuch",true)]) (nA:fO K (fun C b=>PySem.W.kitOne K (.ref C) (gw (.ref ed))=some b) [("TooMuch",false)]) (nB:fO K (fun C b=>PySem.W.kitOne K (.ref C) (gw (.ref ee))=some b) [("TooMuch",false)]) (xv:fO K (fun C b=>PySem.W.kitOne K (.ref C) (gw (.ref gW))=some b) [("TooMuch",false)]) (qX:fO K (fun C b=>PySem.W.kitOne K (.ref C) (gw (.ref fB))=some b) [("TooMuch",false)]) (xw:fO K (fun C b=>PySem.W.kitOne K (.ref C) (gw (.ref gX))=some b) [("TooMuch",false)]) (lh:fO K (fun C b=>PySem.W.kitOne K (.ref C) (gw (.ref dw))=some b) [("TooMuch",false)]) (nC:fO K (fun C b=>PySem.W.kitOne K (.ref C) (gw (.ref aL))=some b) [("TooMuch",true)]) (qY:fO K (fun C b=>PySem.W.kitOne K (.ref C) (gw (.ref fD))=some b) [("TooMuch",false)]) (nE:fO K (fun C b=>PySem.W.kitOne K (.ref C) (gw (.ref ef))=some b) [("TooMuch",false)]):bU P w K mg base CX0 1 f fd ["_law_error"] (spF K iD 1):=by
 refine bR F ff fun cdv A outer s H E hr => ?_
 have hu:=dr hr
 exact (ag (bS (bp kQ kU (mv 0) df (aV _)) (am (aF (bn (cj ar (fun _ _ _ _ z=>by rw [bo _ _ _ _ z];decide))))) aU)
  (ag (bi (i:=1) ff.nd rfl (by first|exact .inl rfl|exact .inr rfl) (bn (cj (ae (eY (tb:=[("TooMuch",false)]) (v:=.ref ef) rfl rfl ao (eV (v:=.ref ef) rfl nz rfl (by decide)) nE (mv 0)) (ae (eY (tb:=[("TooMuch",false)]) (v:=.ref fD) rfl rfl ao (eV (v:=.ref fD) rfl qW rfl (by decide)) qY (mv 0)) (ae (eY (tb:=[("TooMuch",true)]) (v:=.ref aL) rfl rfl ao (eV (v:=.ref aL) rfl iP rfl (by decide)) nC (mv 0)) ar))) (fun _ _ _ _ z=>by rw [(aQ (aQ (aQ bo))) _ _ _ _ z];decide))))
  (ag (bi (i:=1) ff.nd rfl (by first|exact .inl rfl|exact .inr rfl) (bn (i4 (mv 1) (bn (cj (ae (eY (tb:=[("TooMuch",false)]) (v:=.ref dw) rfl rfl ao (eV (v:=.ref dw) rfl lc rfl (by decide)) lh (mv 0)) (ae (eY (tb:=[("TooMuch",false)]) (v:=.ref gX) rfl rfl ao (eV (v:=.ref gX) rfl xu rfl (by decide)) xw (mv 0)) (ae (eY (tb:=[("TooMuch",false)]) (v:=.ref fB) rfl rfl ao (eV (v:=.ref fB) rfl qV rfl (by decide)) qX (mv 0)) ar))) (fun _ _ _ _ z=>by rw [(aQ (aQ (aQ bo))) _ _ _ _ z];decide))))))
  (ag (bi (i:=1) ff.nd rfl (by first|exact .inl rfl|exact .inr rfl) (bn (i4 (mv 1) (bn (cj (ae (eY (tb:=[("TooMuch",false)]) (v:=.ref gW) rfl rfl ao (eV (v:=.ref gW) rfl xt rfl (by decide)) xv (mv 0)) (ae (eY (tb:=[("TooMuch",false)]) (v:=.ref ee) rfl rfl ao (eV (v:=.ref ee) rfl ny rfl (by decide)) nB (mv 0)) (ae (eY (tb:=[("TooMuch",false)]) (v:=.ref ed) rfl rfl ao (eV (v:=.ref ed) rfl nv rfl (by decide)) nA (mv 0)) ar))) (fun _ _ _ _ z=>by rw [(aQ (aQ (aQ bo))) _ _ _ _ z];decide))))))
  (am (aF (bn (i4 (mv 1) (bn (cj (ae (eY (tb:=[("TooMuch",true)]) (v:=.ty "ValueError") rfl rfl ao (DW (v:=.ty "ValueError") (u:=.type "ValueError") rfl jg (by decide +kernel) rfl) jh (mv 0)) ar) (fun _ _ _ _ z=>by rw [(aQ bo) _ _ _ _ z];decide)))))))))))
theorem zS:aJ ["_law_k"] ["_law_k"] (af eR):=⟨rfl,rfl,rfl,by decide +kernel,rfl,by decide +kernel,by decide +kernel⟩
theorem zT (F:Fun K "_law_due" "_law_due" eR f fd) (bL:mg "range" = none):bU P w K mg base CX0 1 f fd ["_law_k"] (spF K gS 1):=by
 refine bR F zS fun cdv A outer s H E hr => ?_
 have hu:=dr hr
 exact (am (aF (bn (i4 (bn (eW (own:=["_law_j"]) (capn:=["_law_k"]) (caps:=[0]) rfl (bY.mk' rfl (by decide +kernel) (by decide +kernel) (by repeat' (first|exact aW.nil|refine aW.cons (by first|exact (fun _=>.inl rfl)|exact (fun _=>.inr rfl)|(intro z;cases z;done)) ?_)) (bT.cons rfl rfl bT.nil)) (gq rfl bL av)
   (fun cl C s H ex=>⟨(bu (i:=0) (show ((["_law_j"] : List Str)++(["_law_k"] : List Str)).Nodup by decide +kernel) rfl (by first|exact .inl rfl|exact .inr rfl)),dz,(gk (eK hu) ip (mv 0) (mv 1) (aV _))⟩))) (bn (cj (ae gL ar) (fun _ _ _ _ z=>by rw [(aQ bo) _ _ _ _ z];decide)))))))
theorem dS:aJ ["_law_web", "_law_caught", "_law_found", "_law_error"] ["_law_web"] (af dH):=⟨rfl,rfl,rfl,by decide +kernel,rfl,by decide +kernel,by decide +kernel⟩
theorem B9 (F0:Fun K "fewest" "fewest" iH f fd) (bP:mg "len" = none) (li:Def P w K mg base "lists_of" 1 1 gz) (nF:Def P w K mg base "do_turn" 8 3 fU) (ji:Def P w K mg base "tree_above" 1 4 ev) (nG:Def P w K mg base "free_of" 2 1 eN) {eB:Tok} (eC:mg "MOST_FREE_TRIED" = some (.int 9 eB)) {aL:Addr} (nH:PyProof.Rows.OwnCls (Str.ofString "TooMuch") aL QT "ValueError.__new__" mg base):bU P w K mg base (CX1 P w) 9 f fd ["web"] (spY K mg ce 1):=by
 refine Oa F0 iI fun cdv A outer s H E hr => ?_
 have hu:=dr hr
 exact (lO (Eo (bi (i:=1) iI.nd rfl (by first|exact .inl rfl|exact .inr rfl) (aA nG (hr.mono (by decide)) rfl (ae (mv 0) ar) aB)))
  (lO (P1 (bp Hf Bl (ei rfl bP (eF (mv 1))) (qb rfl eC) (aV _)) (wD (Ij (n := "TooMuch") nH F.excBase_ValueError rfl rfl (fun e s' h=>N5 h))) La)
  (lO (Eo (bi (i:=2) iI.nd rfl (by first|exact .inl rfl|exact .inr rfl) Im))
  (lO (Eo (mS PassesOwn.leaving rfl (g9 (aA li (hr.mono (by decide)) rfl (ae (mv 1) ar) aB)) (bu (i:=3) iI.nd rfl (by first|exact .inl rfl|exact .inr rfl)) (am (bS (cI (aA nF (hr.mono (by decide)) rfl (ae (mv 0) (ae (mv 3) (ae (mv 2) ar))) aB)) (ag (bi (i:=4) iI.nd rfl (by first|exact .inl rfl|exact .inr rfl) (Ea (bp (eK hu) ip (mv 3) (bn (cj ar (fun _ _ _ _ z=>by rw [bo _ _ _ _ z];decide))) (aV _)) df (aA ji (hr.mono (by decide)) rfl (ae (mv 0) (ae (cR gY sB (ei rfl bP (eF (mv 3))) av) (ae (bn (cj ar (fun _ _ _ _ z=>by rw [bo _ _ _ _ z];decide))) (ae (mv 2) ar)))) aB)))
  (am (aF (iZ (ae (mv 3) (ae (mv 4) ar)))))) aU))))
  (wD (Eo (aF df)))))))
theorem sS (F:Fun K "_law_asked" "_law_asked" dH f fd) {bK:Addr} (j7:mg "MostError" = some (.ref bK)) (h_be:PySem.W.subIn K (.ref bK) (.type "BaseException")=some true) (h_is:(PySem.W.clsIn K bK).isSome=true) (h_ty:PySem.W.typeIn K (.ref bK)=some (.type "type")) (h_cs:Fj K mg bK ["TooMuch"]) (Jz:Fh P w K mg base "fewest" 9 1 ce) (jj:Def P w K mg base "_law_class" 1 1 iD):bU P w K mg base CX0 10 f fd ["_law_web"] (spF K bq 1):=by
 refine bR F dS fun cdv A outer s H E hr => ?_
 have hu:=dr hr
 exact (ag (bi (i:=1) dS.nd rfl (by first|exact .inl rfl|exact .inr rfl) df)
  (ag (bi (i:=2) dS.nd rfl (by first|exact .inl rfl|exact .inr rfl) df)
  (ag (Oc (i:=1) (j:=3) (cs:=["TooMuch"]) rfl rfl (fun q E=>(wD (N9 (i:=2) dS.nd rfl (by first|exact .inl rfl|exact .inr rfl) (K8 Jz (hr.mono (by decide)) rfl (P0 (ae (mv 0) ar)) (fun v s' h=>h.unwish) K9)))) rfl rfl j7 rfl h_be h_is h_ty dS.nd (by decide) rfl rfl rfl rfl h_cs)
  (ag (bS (bp kQ kU (mv 1) df (aV _)) (am (aF (bn (cj (ae (mv 2) ar) (fun _ _ _ _ z=>by rw [(aQ bo) _ _ _ _ z];decide))))) aU)
  (am (aF (aA jj (hr.mono (by decide)) rfl (ae (mv 1) ar) aB)))))))
theorem fF:aJ ["_law_cell_here", "_law_many", "_law_holders_here", "_law_k"] ["_law_cell_here", "_law_many"] (af cN):=⟨rfl,rfl,rfl,by decide +kernel,rfl,by decide +kernel,by decide +kernel⟩
theorem o8 (F:Fun K "_law_holders" "_law_holders" cN f fd) (bL:mg "range" = none):bU P w K mg base CX0 1 f fd ["_law_cell_here", "_law_many"] (spF K fz 2):=by
 refine bR F fF fun cdv A outer s H E hr => ?_
 have hu:=dr hr
 exact (ag (bi (i:=2) fF.nd rfl (by first|exact .inl rfl|exact .inr rfl) (bn (qm (cj (ae df ar) (fun _ _ _ _ z=>by rw [(aQ bo) _ _ _ _ z];decide)) (mv 1))))
  (ag (mS PassesOwn.never rfl (gq rfl bL (cR Bf Bm (mv 0) (cR lK qf (mv 1) av))) (bu (i:=3) fF.nd rfl (by first|exact .inl rfl|exact .inr rfl)) (am (Nx av (mv 2) (cR gY sB (cR gY sB (mv 1) av) (mv 3)))))
  (am (aF (mv 2)))))
theorem sT:aJ ["_law_found", "_law_size"] ["_law_found", "_law_size"] (af dI):=⟨rfl,rfl,rfl,by decide +kernel,rfl,by decide +kernel,by decide +kernel⟩
theorem sU (F:Fun K "_law_right" "_law_right" dI f fd) (bP:mg "len" = none) (ao:mg "isinstance" = none) (bf:mg "tuple" = none):bU P w K mg base CX0 1 f fd ["_law_found", "_law_size"] (spF K cu 2):=by
 refine bR F sT fun cdv A outer s H E hr => ?_
 have hu:=dr hr
 exact (ag (bS (MW.mt (kD (bp (gm hu) jI (ei rfl bP (eF (mv 0))) av (aV _)) (kD (cU (cI (fN (t:=.tuple) rfl ao rfl bf (by decide +kernel) (bD (mv 0) av (fun _ _=>rfl))))) (kD (bp (gm hu) jI (ei rfl bP (eF (bD (mv 0) av (fun _ _=>rfl)))) av (aV _)) (iY (bp (gm hu) jI (ei rfl bP (eF (bD (bD (mv 0) av (fun _ _=>rfl)) av (fun _ _=>rfl)))) (mv 1) (aV _)) (.inr rfl)))))) (am (aF gL)) aU)
  (am (aF (gk (eK hu) ip (gk kQ kU (bD (bD (mv 0) av (fun _ _=>rfl)) av (fun _ _=>rfl)) df (aV _)) (gk (eK hu) ip (mv 1) av (aV _)) (aV _)))))
theorem hX:aJ ["_law_script", "_law_k", "_law_cell_here", "_law_many", "_law_heavy", "_law_holders_here", "_law_star", "_law_webs", "_law_told", "_law_free"] ["_law_script"] (af l3):=⟨rfl,rfl,rfl,by decide +kernel,rfl,by decide +kernel,by decide +kernel⟩
theorem OL (F:Fun K "law" "law" l3 f fd) (bL:mg "range" = none) (qS:mg "int" = none) (lm:Def P w K mg base "_law_due" 1 1 gS) (fQ:Def P w K mg base "_law_right" 1 2 cu) (jm:Def P w K mg base "_law_asked" 10 1 bq) (j8:Def P w K mg base "web_of" 5 4 cK) (gD:Def P w K mg base "_law_holders" 1 2 fz) (j9:Def P w K mg base "_law_cell" 1 2 jZ):bU P w K mg base CX0 11 f fd ["_law_script"] (spF K EC 1):=by
 refine bR F hX fun cdv A outer s H E hr => ?_
 have hu:=dr hr
 exact (ag (mS PassesOwn.never rfl (gq rfl bL av) (bu (i:=1) hX.nd rfl (by first|exact .inl rfl|exact .inr rfl)) (ag (bi (i:=2) hX.nd rfl (by first|exact .inl rfl|exact .inr rfl) (aA j9 (hr.mono (by decide)) rfl (ae (mv 0) (ae (mv 1) ar)) aB))
  (ag (bi (i:=3) hX.nd rfl (by first|exact .inl rfl|exact .inr rfl) (cR lK qf av (cR Bf Bm (cR yW Hr (mv 2) av) av)))
  (ag (bi (i:=4) hX.nd rfl (by first|exact .inl rfl|exact .inr rfl) (cR lK qf av (cR Bf Bm (cR yW Hr (mv 2) av) av)))
  (ag (bi (i:=5) hX.nd rfl (by first|exact .inl rfl|exact .inr rfl) (aA gD (hr.mono (by decide)) rfl (ae (mv 2) (ae (mv 3) ar)) aB))
  (ag (wo (i:=6) hX.nd rfl (by first|exact .inl rfl|exact .inr rfl) (own:=["_law_one"]) (capn:=["_law_heavy"]) (caps:=[4]) rfl (bY.mk' rfl (by decide +kernel) (by decide +kernel) (by repeat' (first|exact aW.nil|refine aW.cons (by first|exact (fun _=>.inl rfl)|exact (fun _=>.inr rfl)|(intro z;cases z;done)) ?_)) (bT.cons rfl rfl bT.nil)) (E9 rfl bL av (mv 3))
   (fun cl C s H ex=>⟨(bu (i:=0) (show ((["_law_one"] : List Str)++(["_law_heavy"] : List Str)).Nodup by decide +kernel) rfl (by first|exact .inl rfl|exact .inr rfl)),dz,(iZ (ae av (ae (mv 0) (ae (mv 1) ar))))⟩))
  (ag (bi (i:=7) hX.nd rfl (by first|exact .inl rfl|exact .inr rfl) (bn (cj (ae (aA j8 (hr.mono (by decide)) rfl (ae (mv 3) (ae (mv 6) (ae (bn (qm (cj (ae gO ar) (fun _ _ _ _ z=>by rw [(aQ bo) _ _ _ _ z];decide)) (mv 3))) (ae (mv 5) ar)))) aB) ar) (fun _ _ _ _ z=>by rw [(aQ bo) _ _ _ _ z];decide))))
  (ag (pI (Bq (mv 7) (aA j8 (hr.mono (by decide)) rfl (ae (mv 3) (ae (mv 6) (ae (bn (i4 (bn (cj (ae av ar) (fun _ _ _ _ z=>by rw [(aQ bo) _ _ _ _ z];decide))) (bn (qm (cj (ae (cR gY sB (cR mK mQ av (mv 4)) av) ar) (fun _ _ _ _ z=>by rw [(aQ bo) _ _ _ _ z];decide)) (cR gY sB (mv 3) av))))) (ae (mv 5) ar)))) aB)))
  (ag (pI (Bq (mv 7) (aA j8 (hr.mono (by decide)) rfl (ae (mv 3) (ae (mv 6) (ae (bn (qm (cj (ae (cR mK mQ av (mv 4)) ar) (fun _ _ _ _ z=>by rw [(aQ bo) _ _ _ _ z];decide)) (mv 3))) (ae (mv 5) ar)))) aB)))
  (ag (wo (i:=8) hX.nd rfl (by first|exact .inl rfl|exact .inr rfl) (own:=["_law_web"]) (capn:=[]) (caps:=[]) rfl (bY.mk' rfl (by decide +kernel) (by decide +kernel) (by repeat' (first|exact aW.nil|refine aW.cons (by first|exact (fun _=>.inl rfl)|exact (fun _=>.inr rfl)|(intro z;cases z;done)) ?_)) bT.nil) (g9 (mv 7))
   (fun cl C s H ex=>⟨(bu (i:=0) (show ((["_law_web"] : List Str)++([] : List Str)).Nodup by decide +kernel) rfl (by first|exact .inl rfl|exact .inr rfl)),dz,(aA jm (hr.mono (by decide)) rfl (ae (mv 0) ar) aB)⟩))
  (ag (bi (i:=9) hX.nd rfl (by first|exact .inl rfl|exact .inr rfl) (HG (mv 5) df))
  (am (bS (bp Hf Bl (mv 9) av (aV _)) (am (bS (bp (Ik hu) Od (mv 8) (bn (qm (cj (ae (aA lm (hr.mono (by decide)) rfl (ae av ar) aB) ar) (fun _ _ _ _ z=>by rw [(aQ bo) _ _ _ _ z];decide)) av)) (aV _)) (am (aF gL)) aU)) (am (bS (MW.mt (kD (cU (cI (aA fQ (hr.mono (by decide)) rfl (ae (bD (mv 8) av (fun _ _=>rfl)) (ae av ar)) aB))) (iY (cU (cI (aA fQ (hr.mono (by decide)) rfl (ae (bD (mv 8) av (fun _ _=>rfl)) (ae (Eb rfl qS (gk (eK hu) ip (mv 9) (mv 3) (aV _))) ar)) aB))) (.inr rfl)))) (am (aF gL)) (am (bS (bp (Oe (QY hr)) Of (bD (mv 8) av (fun _ _=>rfl)) (jK (jK (bn (cj (ae df (ae (iZ (ae (bn (cj ar (fun _ _ _ _ z=>by rw [bo _ _ _ _ z];decide))) (ae df ar))) ar)) (fun _ _ _ _ z=>by rw [(aQ (aQ bo)) _ _ _ _ z];decide))) (y7 (Eb rfl qS (gk (eK hu) ip (mv 9) av (aV _)))) y6) y6 (y7 av)) (aV _)) (am (aF gL)) aU)))))))))))))))))
  (am (aF gL)))
end
theorem dU {α : Type}(us:List α)(hl:us.length=1):∃ x0,us=[x0]:=match us,hl with | [x0],_=>⟨x0,rfl⟩
theorem bH {α : Type}(us:List α)(hl:us.length=2):∃ x0 x1,us=[x0,x1]:=match us,hl with | [x0,x1],_=>⟨x0,x1,rfl⟩
theorem l4 {α : Type}(us:List α)(hl:us.length=3):∃ x0 x1 x2,us=[x0,x1,x2]:=match us,hl with | [x0,x1,x2],_=>⟨x0,x1,x2,rfl⟩
theorem zU {α : Type}(us:List α)(hl:us.length=4):∃ x0 x1 x2 x3,us=[x0,x1,x2,x3]:=match us,hl with | [x0,x1,x2,x3],_=>⟨x0,x1,x2,x3,rfl⟩
theorem OM {l:PySem.W.OpenLaw} {w:World} {K:ZX} {h:Heap} {mg:Str→Option Value} {fa lp jn jo qZ jp kc jq q5 nI nJ q8 nK lq nM ke Cn ie nN nO nP xx fI fJ xy kf lu nQ jr rc kg jt lx ju gE jw JA bK aL ed ee gW fB gX dw fD ef:Addr} (X:K.In h) (G:h.Ns mainGlobals mg) (hfa:mg "law" = some (.ref fa))
  {z6 z7:Option Addr} {z8:Array (Option Value)} {z9 Aa Ab Ac oM Ad:Value}
  (Co:PySem.W.nsIn K mainGlobals "is_whole" = some (some (.ref lp))) (Cp:K.lookup lp=some ⟨z9,z6,.func (PySem.W.fnOf "is_whole" "is_whole" (aK eO) (aE eO) (af eO) .none Aa Ab Ac z7 oM Ad),z8⟩) (gB:PySem.W.codeIn K oM "is_whole" = true) (re:PySem.W.keepIn K (.ref lp)=true)
  {sW sZ:Option Addr} {tf:Array (Option Value)} {tj tq tt tu kG tw:Value}
  (xz:PySem.W.nsIn K mainGlobals "is_between" = some (some (.ref jn))) (xA:K.lookup jn=some ⟨tj,sW,.func (PySem.W.fnOf "is_between" "is_between" (aK dB) (aE dB) (af dB) .none tq tt tu sZ kG tw),tf⟩) (bI:PySem.W.codeIn K kG "is_between" = true) (l5:PySem.W.keepIn K (.ref jn)=true)
  {tz tD:Option Addr} {tF:Array (Option Value)} {tG tH tI tJ kH tK:Value}
  (xB:PySem.W.nsIn K mainGlobals "is_opinion" = some (some (.ref jo))) (xC:K.lookup jo=some ⟨tG,tz,.func (PySem.W.fnOf "is_opinion" "is_opinion" (aK dC) (aE dC) (af dC) .none tH tI tJ tD kH tK),tF⟩) (eA:PySem.W.codeIn K kH "is_opinion" = true) (l6:PySem.W.keepIn K (.ref jo)=true)
  {FO FP:Option Addr} {FQ:Array (Option Value)} {FR FS FT FU vz FV:Value}
  (JB:PySem.W.nsIn K mainGlobals "is_tie" = some (some (.ref qZ))) (JC:K.lookup qZ=some ⟨FR,FO,.func (PySem.W.fnOf "is_tie" "is_tie" (aK iE) (aE iE) (af iE) .none FS FT FU FP vz FV),FQ⟩) (qT:PySem.W.codeIn K vz "is_tie" = true) (Ae:PySem.W.keepIn K (.ref qZ)=true)
  {tL tM:Option Addr} {tN:Array (Option Value)} {tO tP tQ tR kI tS:Value}
  (xD:PySem.W.nsIn K mainGlobals "neighbours" = some (some (.ref jp))) (xE:K.lookup jp=some ⟨tO,tL,.func (PySem.W.fnOf "neighbours" "neighbours" (aK dD) (aE dD) (af dD) .none tP tQ tR tM kI tS),tN⟩) (jf:PySem.W.codeIn K kI "neighbours" = true) (l7:PySem.W.keepIn K (.ref jp)=true)
  {xF xG:Option Addr} {xH:Array (Option Value)} {xI xJ xK xL l8 xM:Value}
  (Af:PySem.W.nsIn K mainGlobals "bars_told" = some (some (.ref kc))) (Ag:K.lookup kc=some ⟨xI,xF,.func (PySem.W.fnOf "bars_told" "bars_told" (aK d6) (aE d6) (af d6) .none xJ xK xL xG l8 xM),xH⟩) (j4:PySem.W.codeIn K l8 "bars_told" = true) (oN:PySem.W.keepIn K (.ref kc)=true)
  {tT tU:Option Addr} {tV:Array (Option Value)} {tW tX tY tZ kJ t6:Value}
  (xN:PySem.W.nsIn K mainGlobals "stays_told" = some (some (.ref jq))) (xO:K.lookup jq=some ⟨tW,tT,.func (PySem.W.fnOf "stays_told" "stays_told" (aK dE) (aE dE) (af dE) .none tX tY tZ tU kJ t6),tV⟩) (je:PySem.W.codeIn K kJ "stays_told" = true) (md:PySem.W.keepIn K (.ref jq)=true)
  {FW FX:Option Addr} {FY:Array (Option Value)} {FZ F1 F3 F4 vA F8:Value}
  (JD:PySem.W.nsIn K mainGlobals "web_of" = some (some (.ref q5))) (JE:K.lookup q5=some ⟨FZ,FW,.func (PySem.W.fnOf "web_of" "web_of" (aK iF) (aE iF) (af iF) .none F1 F3 F4 FX vA F8),FY⟩) (j8:PySem.W.codeIn K vA "web_of" = true) (Ah:PySem.W.keepIn K (.ref q5)=true)
  {Cq Cr:Option Addr} {Cs:Array (Option Value)} {Ct Cu Cv Cw rg Cy:Value}
  (F9:PySem.W.nsIn K mainGlobals "many_of" = some (some (.ref nI))) (Ga:K.lookup nI=some ⟨Ct,Cq,.func (PySem.W.fnOf "many_of" "many_of" (aK fW) (aE fW) (af fW) .none Cu Cv Cw Cr rg Cy),Cs⟩) (eS:PySem.W.codeIn K rg "many_of" = true) (vB:PySem.W.keepIn K (.ref nI)=true)
  {Cz CA:Option Addr} {CB:Array (Option Value)} {CC CF CG CH rj CJ:Value}
  (Gb:PySem.W.nsIn K mainGlobals "ties_of" = some (some (.ref nJ))) (Gc:K.lookup nJ=some ⟨CC,Cz,.func (PySem.W.fnOf "ties_of" "ties_of" (aK fX) (aE fX) (af fX) .none CF CG CH CA rj CJ),CB⟩) (nr:PySem.W.codeIn K rj "ties_of" = true) (vC:PySem.W.keepIn K (.ref nJ)=true)
  {Ge Gf:Option Addr} {Gg:Array (Option Value)} {Gh Gi Gj Gk vD Gm:Value}
  (JF:PySem.W.nsIn K mainGlobals "bar_of" = some (some (.ref q8))) (JG:K.lookup q8=some ⟨Gh,Ge,.func (PySem.W.fnOf "bar_of" "bar_of" (aK iG) (aE iG) (af iG) .none Gi Gj Gk Gf vD Gm),Gg⟩) (qU:PySem.W.codeIn K vD "bar_of" = true) (Ai:PySem.W.keepIn K (.ref q8)=true)
  {CK CL:Option Addr} {CM:Array (Option Value)} {CN CO CP CQ rk CS:Value}
  (Gn:PySem.W.nsIn K mainGlobals "stay_of" = some (some (.ref nK))) (Go:K.lookup nK=some ⟨CN,CK,.func (PySem.W.fnOf "stay_of" "stay_of" (aK fY) (aE fY) (af fY) .none CO CP CQ CL rk CS),CM⟩) (eU:PySem.W.codeIn K rk "stay_of" = true) (vE:PySem.W.keepIn K (.ref nK)=true)
  {Aj Ak:Option Addr} {Al:Array (Option Value)} {Am An Ao Ap oO Aq:Value}
  (CT:PySem.W.nsIn K mainGlobals "stays_of" = some (some (.ref lq))) (CU:K.lookup lq=some ⟨Am,Aj,.func (PySem.W.fnOf "stays_of" "stays_of" (aK eP) (aE eP) (af eP) .none An Ao Ap Ak oO Aq),Al⟩) (gC:PySem.W.codeIn K oO "stays_of" = true) (rm:PySem.W.keepIn K (.ref lq)=true)
  {CV CW:Option Addr} {CY:Array (Option Value)} {CZ C7 C8 C9 rq Da:Value}
  (Gp:PySem.W.nsIn K mainGlobals "free_of" = some (some (.ref nM))) (Gq:K.lookup nM=some ⟨CZ,CV,.func (PySem.W.fnOf "free_of" "free_of" (aK fZ) (aE fZ) (af fZ) .none C7 C8 C9 CW rq Da),CY⟩) (nG:PySem.W.codeIn K rq "free_of" = true) (vF:PySem.W.keepIn K (.ref nM)=true)
  {xP xQ:Option Addr} {xR:Array (Option Value)} {xS xT xU xV mf xW:Value}
  (Ar:PySem.W.nsIn K mainGlobals "is_person" = some (some (.ref ke))) (As:K.lookup ke=some ⟨xS,xP,.func (PySem.W.fnOf "is_person" "is_person" (aK d7) (aE d7) (af d7) .none xT xU xV xQ mf xW),xR⟩) (j5:PySem.W.codeIn K mf "is_person" = true) (oP:PySem.W.keepIn K (.ref ke)=true)
  {LM LN:Option Addr} {LO:Array (Option Value)} {LP LQ LR LS EO LT:Value}
  (O3:PySem.W.nsIn K mainGlobals "fits" = some (some (.ref Cn))) (O4:K.lookup Cn=some ⟨LP,LM,.func (PySem.W.fnOf "fits" "fits" (aK m8) (aE m8) (af m8) .none LQ LR LS LN EO LT),LO⟩) (Cm:PySem.W.codeIn K EO "fits" = true) (JH:PySem.W.keepIn K (.ref Cn)=true)
  {rA rC:Option Addr} {rE:Array (Option Value)} {rF rG rH rJ kh rL:Value}
  (t7:PySem.W.nsIn K mainGlobals "check_stand" = some (some (.ref ie))) (t8:K.lookup ie=some ⟨rF,rA,.func (PySem.W.fnOf "check_stand" "check_stand" (aK c0) (aE c0) (af c0) .none rG rH rJ rC kh rL),rE⟩) (ic:PySem.W.codeIn K kh "check_stand" = true) (kK:PySem.W.keepIn K (.ref ie)=true)
  {Db Dc:Option Addr} {Dd:Array (Option Value)} {De Df Dg Dh rM Di:Value}
  (Gr:PySem.W.nsIn K mainGlobals "pull_at" = some (some (.ref nN))) (Gs:K.lookup nN=some ⟨De,Db,.func (PySem.W.fnOf "pull_at" "pull_at" (aK gc) (aE gc) (af gc) .none Df Dg Dh Dc rM Di),Dd⟩) (nt:PySem.W.codeIn K rM "pull_at" = true) (vG:PySem.W.keepIn K (.ref nN)=true)
  {Dj Dk:Option Addr} {Dl:Array (Option Value)} {Dm Dn Do Dp rN Dq:Value}
  (Gu:PySem.W.nsIn K mainGlobals "next_at" = some (some (.ref nO))) (Gv:K.lookup nO=some ⟨Dm,Dj,.func (PySem.W.fnOf "next_at" "next_at" (aK ge) (aE ge) (af ge) .none Dn Do Dp Dk rN Dq),Dl⟩) (nu:PySem.W.codeIn K rN "next_at" = true) (vH:PySem.W.keepIn K (.ref nO)=true)
  {Dr Dt:Option Addr} {Du:Array (Option Value)} {Dv Dw Dx Dy rP Dz:Value}
  (Gw:PySem.W.nsIn K mainGlobals "turn_at" = some (some (.ref nP))) (Gx:K.lookup nP=some ⟨Dv,Dr,.func (PySem.W.fnOf "turn_at" "turn_at" (aK gf) (aE gf) (af gf) .none Dw Dx Dy Dt rP Dz),Du⟩) (iO:PySem.W.codeIn K rP "turn_at" = true) (vI:PySem.W.keepIn K (.ref nP)=true)
  {JI JJ:Option Addr} {JK:Array (Option Value)} {JL JM JN JO At JP:Value}
  (LU:PySem.W.nsIn K mainGlobals "ended" = some (some (.ref xx))) (LV:K.lookup xx=some ⟨JL,JI,.func (PySem.W.fnOf "ended" "ended" (aK ku) (aE ku) (af ku) .none JM JN JO JJ At JP),JK⟩) (xq:PySem.W.codeIn K At "ended" = true) (EQ:PySem.W.keepIn K (.ref xx)=true)
  {nR nS:Option Addr} {nT:Array (Option Value)} {nU nV nW nZ iQ n4:Value}
  (o9:PySem.W.nsIn K mainGlobals "may_be_chosen" = some (some (.ref fI))) (pb:K.lookup fI=some ⟨nU,nR,.func (PySem.W.fnOf "may_be_chosen" "may_be_chosen" (aK cw) (aE cw) (af cw) .none nV nW nZ nS iQ n4),nT⟩) (fG:PySem.W.codeIn K iQ "may_be_chosen" = true) (jz:PySem.W.keepIn K (.ref fI)=true)
  {n8 n9:Option Addr} {og:Array (Option Value)} {oh oj om oo iR oq:Value}
  (pc:PySem.W.nsIn K mainGlobals "are_choosable" = some (some (.ref fJ))) (pf:K.lookup fJ=some ⟨oh,n8,.func (PySem.W.fnOf "are_choosable" "are_choosable" (aK cx) (aE cx) (af cx) .none oj om oo n9 iR oq),og⟩) (fH:PySem.W.codeIn K iR "are_choosable" = true) (jA:PySem.W.keepIn K (.ref fJ)=true)
  {JQ JR:Option Addr} {JS:Array (Option Value)} {JT JU JV JW Au JX:Value}
  (LW:PySem.W.nsIn K mainGlobals "begun" = some (some (.ref xy))) (LX:K.lookup xy=some ⟨JT,JQ,.func (PySem.W.fnOf "begun" "begun" (aK kw) (aE kw) (af kw) .none JU JV JW JR Au JX),JS⟩) (xr:PySem.W.codeIn K Au "begun" = true) (ER:PySem.W.keepIn K (.ref xy)=true)
  {xX xY:Option Addr} {xZ:Array (Option Value)} {x5 x6 x8 x9 mh yb:Value}
  (Av:PySem.W.nsIn K mainGlobals "turns_all" = some (some (.ref kf))) (Aw:K.lookup kf=some ⟨x5,xX,.func (PySem.W.fnOf "turns_all" "turns_all" (aK d8) (aE d8) (af d8) .none x6 x8 x9 xY mh yb),xZ⟩) (j6:PySem.W.codeIn K mh "turns_all" = true) (oQ:PySem.W.keepIn K (.ref kf)=true)
  {Ax Ay:Option Addr} {Az:Array (Option Value)} {AA AB AC AD oR AF:Value}
  (DA:PySem.W.nsIn K mainGlobals "lists_of" = some (some (.ref lu))) (DB:K.lookup lu=some ⟨AA,Ax,.func (PySem.W.fnOf "lists_of" "lists_of" (aK eQ) (aE eQ) (af eQ) .none AB AC AD Ay oR AF),Az⟩) (li:PySem.W.codeIn K oR "lists_of" = true) (rR:PySem.W.keepIn K (.ref lu)=true)
  {DC DE:Option Addr} {DF:Array (Option Value)} {DG DH DJ DK rS DL:Value}
  (Gy:PySem.W.nsIn K mainGlobals "do_turn" = some (some (.ref nQ))) (Gz:K.lookup nQ=some ⟨DG,DC,.func (PySem.W.fnOf "do_turn" "do_turn" (aK gh) (aE gh) (af gh) .none DH DJ DK DE rS DL),DF⟩) (nF:PySem.W.codeIn K rS "do_turn" = true) (vJ:PySem.W.keepIn K (.ref nQ)=true)
  {t9 ua:Option Addr} {ub:Array (Option Value)} {uc ud ue uf kL ug:Value}
  (yc:PySem.W.nsIn K mainGlobals "tree_above" = some (some (.ref jr))) (yd:K.lookup jr=some ⟨uc,t9,.func (PySem.W.fnOf "tree_above" "tree_above" (aK dF) (aE dF) (af dF) .none ud ue uf ua kL ug),ub⟩) (ji:PySem.W.codeIn K kL "tree_above" = true) (mi:PySem.W.keepIn K (.ref jr)=true)
  {GA GB:Option Addr} {GC:Array (Option Value)} {GD GE GG GH vK GI:Value}
  (JY:PySem.W.nsIn K mainGlobals "fewest" = some (some (.ref rc))) (JZ:K.lookup rc=some ⟨GD,GA,.func (PySem.W.fnOf "fewest" "fewest" (aK iH) (aE iH) (af iH) .none GE GG GH GB vK GI),GC⟩) (J0:PySem.W.codeIn K vK "fewest" = true) (AH:PySem.W.keepIn K (.ref rc)=true)
  {ye yf:Option Addr} {yg:Array (Option Value)} {yh yi yj yk mj ym:Value}
  (AI:PySem.W.nsIn K mainGlobals "_law_cell" = some (some (.ref kg))) (AJ:K.lookup kg=some ⟨yh,ye,.func (PySem.W.fnOf "_law_cell" "_law_cell" (aK d9) (aE d9) (af d9) .none yi yj yk yf mj ym),yg⟩) (j9:PySem.W.codeIn K mj "_law_cell" = true) (oS:PySem.W.keepIn K (.ref kg)=true)
  {uh ui:Option Addr} {uj:Array (Option Value)} {uk ul um uo kM uq:Value}
  (yn:PySem.W.nsIn K mainGlobals "_law_class" = some (some (.ref jt))) (yo:K.lookup jt=some ⟨uk,uh,.func (PySem.W.fnOf "_law_class" "_law_class" (aK dG) (aE dG) (af dG) .none ul um uo ui kM uq),uj⟩) (jj:PySem.W.codeIn K kM "_law_class" = true) (ml:PySem.W.keepIn K (.ref jt)=true)
  {AK AL:Option Addr} {AM:Array (Option Value)} {AN AO AQ AR oT AS:Value}
  (DM:PySem.W.nsIn K mainGlobals "_law_due" = some (some (.ref lx))) (DN:K.lookup lx=some ⟨AN,AK,.func (PySem.W.fnOf "_law_due" "_law_due" (aK eR) (aE eR) (af eR) .none AO AQ AR AL oT AS),AM⟩) (lm:PySem.W.codeIn K oT "_law_due" = true) (rT:PySem.W.keepIn K (.ref lx)=true)
  {ur ut:Option Addr} {uv:Array (Option Value)} {uw ux uy uz kN uA:Value}
  (yp:PySem.W.nsIn K mainGlobals "_law_asked" = some (some (.ref ju))) (yq:K.lookup ju=some ⟨uw,ur,.func (PySem.W.fnOf "_law_asked" "_law_asked" (aK dH) (aE dH) (af dH) .none ux uy uz ut kN uA),uv⟩) (jm:PySem.W.codeIn K kN "_law_asked" = true) (mo:PySem.W.keepIn K (.ref ju)=true)
  {pi pk:Option Addr} {pr:Array (Option Value)} {pv px py pz jB pA:Value}
  (rV:PySem.W.nsIn K mainGlobals "_law_holders" = some (some (.ref gE))) (rW:K.lookup gE=some ⟨pv,pi,.func (PySem.W.fnOf "_law_holders" "_law_holders" (aK cN) (aE cN) (af cN) .none px py pz pk jB pA),pr⟩) (gD:PySem.W.codeIn K jB "_law_holders" = true) (ki:PySem.W.keepIn K (.ref gE)=true)
  {uB uC:Option Addr} {uD:Array (Option Value)} {uF uH uI uJ kO uK:Value}
  (yr:PySem.W.nsIn K mainGlobals "_law_right" = some (some (.ref jw))) (yt:K.lookup jw=some ⟨uF,uB,.func (PySem.W.fnOf "_law_right" "_law_right" (aK dI) (aE dI) (af dI) .none uH uI uJ uC kO uK),uD⟩) (fQ:PySem.W.codeIn K kO "_law_right" = true) (mr:PySem.W.keepIn K (.ref jw)=true)
  {O5 J1:Option Addr} {O6:Array (Option Value)} {O7 J2 J3 J4 DO Ka:Value}
  (Ql:PySem.W.nsIn K mainGlobals "law" = some (some (.ref JA))) (Qm:K.lookup JA=some ⟨O7,O5,.func (PySem.W.fnOf "law" "law" (aK l3) (aE l3) (af l3) .none J2 J3 J4 J1 DO Ka),O6⟩) (Qn:PySem.W.codeIn K DO "law" = true) (Qo:PySem.W.keepIn K (.ref JA)=true)
  (yu:PySem.W.nsIn K mainGlobals "isinstance" = some none)
  (O8:PySem.W.nsIn K mainGlobals "bool" = some none)
  (Qp:PySem.W.nsIn K mainGlobals "int" = some none)
  (Qq:PySem.W.nsIn K mainGlobals "len" = some none)
  (LY:PySem.W.nsIn K mainGlobals "tuple" = some none)
  (L4:PySem.W.nsIn K mainGlobals "range" = some none)
  (O9:PySem.W.nsIn K mainGlobals "list" = some none)
  (Qr:PySem.W.nsIn K mainGlobals "all" = some none)
  (Kb:PySem.W.nsIn K mainGlobals "sorted" = some none)
  (AT:PySem.W.nsIn K mainGlobals "enumerate" = some none)
  (Qs:PySem.W.nsIn K mainGlobals "sum" = some none)
  (yv:PySem.W.nsIn K mainGlobals "ValueError" = some none)
  {h8:Tok} (uL:PySem.W.nsIn K mainGlobals "MOST_WEIGHT" = some (some (.int 400 h8)))
  {ia:Tok} (uM:PySem.W.nsIn K mainGlobals "MOST_PEOPLE" = some (some (.int 30 ia)))
  {eB:Tok} (mw:PySem.W.nsIn K mainGlobals "MOST_FREE_TRIED" = some (some (.int 9 eB)))
  {cd_M cd_A_TooMuch:ClassData}
  (AU:PySem.W.nsIn K mainGlobals "MostError" = some (some (.ref bK)))
  (cy:PySem.W.nsIn K mainGlobals "TooMuch" = some (some (.ref aL)))
  (GJ:PySem.W.nsIn K mainGlobals "TooLong" = some (some (.ref ed)))
  (GK:PySem.W.nsIn K mainGlobals "NoOrder" = some (some (.ref ee)))
  (L5:PySem.W.nsIn K mainGlobals "NoWeb" = some (some (.ref gW)))
  (Kc:PySem.W.nsIn K mainGlobals "NoText" = some (some (.ref fB)))
  (L6:PySem.W.nsIn K mainGlobals "NoRow" = some (some (.ref gX)))
  (DP:PySem.W.nsIn K mainGlobals "NoPeople" = some (some (.ref dw)))
  (Kd:PySem.W.nsIn K mainGlobals "NoRest" = some (some (.ref fD)))
  (GL:PySem.W.nsIn K mainGlobals "NoStand" = some (some (.ref ef)))
  (w_be:PySem.W.subIn K (.ref bK) (.type "BaseException")=some true)
  (w_is:PySem.W.clsIn K bK=some cd_M)
  (w_ty:PySem.W.typeIn K (.ref bK)=some (.type "type"))
  (w_own_TooMuch:PySem.W.excIn K aL [.type "ValueError",.type "Exception",.type "BaseException",.type "object"] "ValueError.__new__" = true)
  (w_sub_TooMuch:PySem.W.subIn K (.ref aL) (.ref bK)=some true)
  (w_z1_TooMuch:PySem.W.findIn K (.ref aL) "__getattribute__" = some (some (.builtin "BaseException.__getattribute__")))
  (w_z2_TooMuch:PySem.W.findIn K (.ref aL) "__getattr__" = some none)
  (w_z3_TooMuch:PySem.W.findIn K (.ref aL) "__class__" = some (some (.builtin "object.__class__")))
  (w_z4_TooMuch:PySem.W.subIn K (.ref aL) (.type "BaseException")=some true)
  (w_z5_TooMuch:PySem.W.mroIn K aL (.type "object")=some true)
  (w_z6_TooMuch:PySem.W.clsIn K aL=some cd_A_TooMuch)
  (w_kA_TooMuch_ValueError:PySem.W.kitOne K (.ref aL) (.type "ValueError")=some true)
  (w_kA_TooMuch_TooLong:PySem.W.kitOne K (.ref aL) (.ref ed)=some false)
  (w_kA_TooMuch_NoOrder:PySem.W.kitOne K (.ref aL) (.ref ee)=some false)
  (w_kA_TooMuch_NoWeb:PySem.W.kitOne K (.ref aL) (.ref gW)=some false)
  (w_kA_TooMuch_NoText:PySem.W.kitOne K (.ref aL) (.ref fB)=some false)
  (w_kA_TooMuch_NoRow:PySem.W.kitOne K (.ref aL) (.ref gX)=some false)
  (w_kA_TooMuch_NoPeople:PySem.W.kitOne K (.ref aL) (.ref dw)=some false)
  (w_kA_TooMuch_TooMuch:PySem.W.kitOne K (.ref aL) (.ref aL)=some true)
  (w_kA_TooMuch_NoRest:PySem.W.kitOne K (.ref aL) (.ref fD)=some false)
  (w_kA_TooMuch_NoStand:PySem.W.kitOne K (.ref aL) (.ref ef)=some false)
  : ∃ fd:FuncData,(∀ (s:Shared) (v:Value),BindsTo s fd ⟨[v],[]⟩ [("_law_script",v)]) ∧ ∀ base:Heap,K.In base→base.Ns mainGlobals mg→bU l.prog w K mg base CX0 11 fa fd ["_law_script"] (spF K EC 1):=by
 have e:=hfa.symm.trans (PySem.W.mg_of X G Ql)
 cases e
 have ao:=PySem.W.mg_none_of X G yu
 have Cl:=PySem.W.mg_none_of X G O8
 have qS:=PySem.W.mg_none_of X G Qp
 have bP:=PySem.W.mg_none_of X G Qq
 have bf:=PySem.W.mg_none_of X G LY
 have bL:=PySem.W.mg_none_of X G L4
 have d5:=PySem.W.mg_none_of X G O9
 have kF:=PySem.W.mg_none_of X G Qr
 have iN:=PySem.W.mg_none_of X G Kb
 have cB:=PySem.W.mg_none_of X G AT
 have Jy:=PySem.W.mg_none_of X G Qs
 have jg:=PySem.W.mg_none_of X G yv
 have h9:=PySem.W.mg_of X G uL
 have ib:=PySem.W.mg_of X G uM
 have eC:=PySem.W.mg_of X G mw
 have j7:=PySem.W.mg_of X G AU
 have iP:=PySem.W.mg_of X G cy
 have nv:=PySem.W.mg_of X G GJ
 have ny:=PySem.W.mg_of X G GK
 have xt:=PySem.W.mg_of X G L5
 have qV:=PySem.W.mg_of X G Kc
 have xu:=PySem.W.mg_of X G L6
 have lc:=PySem.W.mg_of X G DP
 have qW:=PySem.W.mg_of X G Kd
 have nz:=PySem.W.mg_of X G GL
 have rX:=bh (st:=eO) Cp gB re
 have DQ:=rX.binds (ps:=["thing"]) fun _ _ _ _ _ _ us hl=>by obtain⟨_,rfl⟩:=dU us hl;rfl
 have mz:=bh (st:=dB) xA bI l5
 have yw:=mz.binds (ps:=["thing", "least", "most"]) fun _ _ _ _ _ _ us hl=>by obtain⟨_,_,_,rfl⟩:=l4 us hl;rfl
 have mC:=bh (st:=dC) xC eA l6
 have yx:=mC.binds (ps:=["thing"]) fun _ _ _ _ _ _ us hl=>by obtain⟨_,rfl⟩:=dU us hl;rfl
 have AV:=bh (st:=iE) JC qT Ae
 have Ke:=AV.binds (ps:=["many", "thing"]) fun _ _ _ _ _ _ us hl=>by obtain⟨_,_,rfl⟩:=bH us hl;rfl
 have mD:=bh (st:=dD) xE jf l7
 have yy:=mD.binds (ps:=["many", "ties"]) fun _ _ _ _ _ _ us hl=>by obtain⟨_,_,rfl⟩:=bH us hl;rfl
 have oU:=bh (st:=d6) Ag j4 oN
 have AW:=oU.binds (ps:=["near", "bars"]) fun _ _ _ _ _ _ us hl=>by obtain⟨_,_,rfl⟩:=bH us hl;rfl
 have mE:=bh (st:=dE) xO je md
 have yz:=mE.binds (ps:=["many", "stays"]) fun _ _ _ _ _ _ us hl=>by obtain⟨_,_,rfl⟩:=bH us hl;rfl
 have AX:=bh (st:=iF) JE j8 Ah
 have Kf:=AX.binds (ps:=["many", "ties", "bars", "stays"]) fun _ _ _ _ _ _ us hl=>by obtain⟨_,_,_,_,rfl⟩:=zU us hl;rfl
 have vL:=bh (st:=fW) Ga eS vB
 have GM:=vL.binds (ps:=["web"]) fun _ _ _ _ _ _ us hl=>by obtain⟨_,rfl⟩:=dU us hl;rfl
 have vM:=bh (st:=fX) Gc nr vC
 have GN:=vM.binds (ps:=["web", "person"]) fun _ _ _ _ _ _ us hl=>by obtain⟨_,_,rfl⟩:=bH us hl;rfl
 have AY:=bh (st:=iG) JG qU Ai
 have Kg:=AY.binds (ps:=["web", "person"]) fun _ _ _ _ _ _ us hl=>by obtain⟨_,_,rfl⟩:=bH us hl;rfl
 have vN:=bh (st:=fY) Go eU vE
 have GO:=vN.binds (ps:=["web", "person"]) fun _ _ _ _ _ _ us hl=>by obtain⟨_,_,rfl⟩:=bH us hl;rfl
 have rY:=bh (st:=eP) CU gC rm
 have DR:=rY.binds (ps:=["web"]) fun _ _ _ _ _ _ us hl=>by obtain⟨_,rfl⟩:=dU us hl;rfl
 have vO:=bh (st:=fZ) Gq nG vF
 have GP:=vO.binds (ps:=["web"]) fun _ _ _ _ _ _ us hl=>by obtain⟨_,rfl⟩:=dU us hl;rfl
 have oV:=bh (st:=d7) As j5 oP
 have AZ:=oV.binds (ps:=["web", "thing"]) fun _ _ _ _ _ _ us hl=>by obtain⟨_,_,rfl⟩:=bH us hl;rfl
 have Kh:=bh (st:=m8) O4 Cm JH
 have Pa:=Kh.binds (ps:=["web", "thing"]) fun _ _ _ _ _ _ us hl=>by obtain⟨_,_,rfl⟩:=bH us hl;rfl
 have kP:=bh (st:=c0) t8 ic kK
 have uN:=kP.binds (ps:=["web", "thing"]) fun _ _ _ _ _ _ us hl=>by obtain⟨_,_,rfl⟩:=bH us hl;rfl
 have vP:=bh (st:=gc) Gs nt vG
 have GQ:=vP.binds (ps:=["web", "stand", "person"]) fun _ _ _ _ _ _ us hl=>by obtain⟨_,_,_,rfl⟩:=l4 us hl;rfl
 have vQ:=bh (st:=ge) Gv nu vH
 have GR:=vQ.binds (ps:=["web", "stand", "person"]) fun _ _ _ _ _ _ us hl=>by obtain⟨_,_,_,rfl⟩:=l4 us hl;rfl
 have vR:=bh (st:=gf) Gx iO vI
 have GS:=vR.binds (ps:=["web", "stand"]) fun _ _ _ _ _ _ us hl=>by obtain⟨_,_,rfl⟩:=bH us hl;rfl
 have ES:=bh (st:=ku) LV xq EQ
 have L7:=ES.binds (ps:=["web", "stand"]) fun _ _ _ _ _ _ us hl=>by obtain⟨_,_,rfl⟩:=bH us hl;rfl
 have jC:=bh (st:=cw) pb fG jz
 have pB:=jC.binds (ps:=["web", "thing"]) fun _ _ _ _ _ _ us hl=>by obtain⟨_,_,rfl⟩:=bH us hl;rfl
 have jD:=bh (st:=cx) pf fH jA
 have pC:=jD.binds (ps:=["web", "thing"]) fun _ _ _ _ _ _ us hl=>by obtain⟨_,_,rfl⟩:=bH us hl;rfl
 have ET:=bh (st:=kw) LX xr ER
 have L8:=ET.binds (ps:=["web", "some"]) fun _ _ _ _ _ _ us hl=>by obtain⟨_,_,rfl⟩:=bH us hl;rfl
 have oW:=bh (st:=d8) Aw j6 oQ
 have A0:=oW.binds (ps:=["web", "some"]) fun _ _ _ _ _ _ us hl=>by obtain⟨_,_,rfl⟩:=bH us hl;rfl
 have rZ:=bh (st:=eQ) DB li rR
 have DS:=rZ.binds (ps:=["people"]) fun _ _ _ _ _ _ us hl=>by obtain⟨_,rfl⟩:=dU us hl;rfl
 have vS:=bh (st:=gh) Gz nF vJ
 have GT:=vS.binds (ps:=["web", "some", "known"]) fun _ _ _ _ _ _ us hl=>by obtain⟨_,_,_,rfl⟩:=l4 us hl;rfl
 have mF:=bh (st:=dF) yd ji mi
 have yA:=mF.binds (ps:=["web", "m", "chosen", "known"]) fun _ _ _ _ _ _ us hl=>by obtain⟨_,_,_,_,rfl⟩:=zU us hl;rfl
 have A1:=bh (st:=iH) JZ J0 AH
 have Ki:=A1.binds (ps:=["web"]) fun _ _ _ _ _ _ us hl=>by obtain⟨_,rfl⟩:=dU us hl;rfl
 have oX:=bh (st:=d9) AJ j9 oS
 have A2:=oX.binds (ps:=["_law_script", "_law_k"]) fun _ _ _ _ _ _ us hl=>by obtain⟨_,_,rfl⟩:=bH us hl;rfl
 have mG:=bh (st:=dG) yo jj ml
 have yB:=mG.binds (ps:=["_law_error"]) fun _ _ _ _ _ _ us hl=>by obtain⟨_,rfl⟩:=dU us hl;rfl
 have r6:=bh (st:=eR) DN lm rT
 have DT:=r6.binds (ps:=["_law_k"]) fun _ _ _ _ _ _ us hl=>by obtain⟨_,rfl⟩:=dU us hl;rfl
 have mH:=bh (st:=dH) yq jm mo
 have yC:=mH.binds (ps:=["_law_web"]) fun _ _ _ _ _ _ us hl=>by obtain⟨_,rfl⟩:=dU us hl;rfl
 have kj:=bh (st:=cN) rW gD ki
 have sf:=kj.binds (ps:=["_law_cell_here", "_law_many"]) fun _ _ _ _ _ _ us hl=>by obtain⟨_,_,rfl⟩:=bH us hl;rfl
 have mI:=bh (st:=dI) yt fQ mr
 have yE:=mI.binds (ps:=["_law_found", "_law_size"]) fun _ _ _ _ _ _ us hl=>by obtain⟨_,_,rfl⟩:=bH us hl;rfl
 have Qt:=bh (st:=l3) Qm Qn Qo
 refine⟨PySem.W.fnOf "law" "law" (aK l3) (aE l3) (af l3) .none J2 J3 J4 J1 DO Ka,fun s v=>.of_eq rfl,fun base KB _ => ?_⟩
 have nH:=N8 (mg:=mg) KB iP w_own_TooMuch
 have de:sE K aL:=⟨w_z1_TooMuch,w_z2_TooMuch,w_z3_TooMuch,w_z4_TooMuch,w_z5_TooMuch,by rw [w_z6_TooMuch];rfl⟩
 have jh:fO K (fun C b=>PySem.W.kitOne K (.ref C) (gw (.ty "ValueError"))=some b) [("TooMuch",true)]:=(eX cy de w_kA_TooMuch_ValueError hU)
 have nA:fO K (fun C b=>PySem.W.kitOne K (.ref C) (gw (.ref ed))=some b) [("TooMuch",false)]:=(eX cy de w_kA_TooMuch_TooLong hU)
 have nB:fO K (fun C b=>PySem.W.kitOne K (.ref C) (gw (.ref ee))=some b) [("TooMuch",false)]:=(eX cy de w_kA_TooMuch_NoOrder hU)
 have xv:fO K (fun C b=>PySem.W.kitOne K (.ref C) (gw (.ref gW))=some b) [("TooMuch",false)]:=(eX cy de w_kA_TooMuch_NoWeb hU)
 have qX:fO K (fun C b=>PySem.W.kitOne K (.ref C) (gw (.ref fB))=some b) [("TooMuch",false)]:=(eX cy de w_kA_TooMuch_NoText hU)
 have xw:fO K (fun C b=>PySem.W.kitOne K (.ref C) (gw (.ref gX))=some b) [("TooMuch",false)]:=(eX cy de w_kA_TooMuch_NoRow hU)
 have lh:fO K (fun C b=>PySem.W.kitOne K (.ref C) (gw (.ref dw))=some b) [("TooMuch",false)]:=(eX cy de w_kA_TooMuch_NoPeople hU)
 have nC:fO K (fun C b=>PySem.W.kitOne K (.ref C) (gw (.ref aL))=some b) [("TooMuch",true)]:=(eX cy de w_kA_TooMuch_TooMuch hU)
 have qY:fO K (fun C b=>PySem.W.kitOne K (.ref C) (gw (.ref fD))=some b) [("TooMuch",false)]:=(eX cy de w_kA_TooMuch_NoRest hU)
 have nE:fO K (fun C b=>PySem.W.kitOne K (.ref C) (gw (.ref ef))=some b) [("TooMuch",false)]:=(eX cy de w_kA_TooMuch_NoStand hU)
 have h_cs:Fj K mg bK ["TooMuch"]:=(Lb iP cy w_sub_TooMuch Ob)
 have sh:Def l.prog w K mg base "is_whole" 1 1 cE:=Def.mk' (PySem.W.mg_of X G Co) re DQ (zO (P:=l.prog) (w:=w) (base:=base) rX ao Cl qS)
 have fR:Def l.prog w K mg base "is_between" 2 3 bc:=Def.mk' (PySem.W.mg_of X G xz) l5 yw (sJ (P:=l.prog) (w:=w) (base:=base) mz sh)
 have mJ:Def l.prog w K mg base "is_opinion" 3 1 bG:=Def.mk' (PySem.W.mg_of X G xB) l6 yx (sL (P:=l.prog) (w:=w) (base:=base) mC fR)
 have Kj:Def l.prog w K mg base "is_tie" 3 2 jX:=Def.mk' (PySem.W.mg_of X G JB) Ae Ke (FD (P:=l.prog) (w:=w) (base:=base) AV bP ao bf h9 fR)
 have yF:Def l.prog w K mg base "neighbours" 4 2 eo:=Def.mk' (PySem.W.mg_of X G xD) l7 yy (sM (P:=l.prog) (w:=w) (base:=base) mD bL ao d5 Kj)
 have A3:Def l.prog w K mg base "bars_told" 2 2 ft:=Def.mk' (PySem.W.mg_of X G Af) oN AW (w9 (P:=l.prog) (w:=w) (base:=base) oU bf kF bP ao d5 sh)
 have yG:Def l.prog w K mg base "stays_told" 4 2 eu:=Def.mk' (PySem.W.mg_of X G xN) md yz (sO (P:=l.prog) (w:=w) (base:=base) mE bf kF bP ao d5 bL mJ)
 have Kk:Def l.prog w K mg base "web_of" 5 4 cK:=Def.mk' (PySem.W.mg_of X G JD) Ah Kf (FE (P:=l.prog) (w:=w) (base:=base) AX bf iN ib yG A3 yF fR)
 have ot:Def l.prog w K mg base "many_of" 1 1 cm:=Def.mk' (PySem.W.mg_of X G F9) vB GM (BV (P:=l.prog) (w:=w) (base:=base) vL bP)
 have GU:Def l.prog w K mg base "ties_of" 1 2 iz:=Def.mk' (PySem.W.mg_of X G Gb) vC GN (BX (P:=l.prog) (w:=w) (base:=base) vM)
 have Kl:Def l.prog w K mg base "bar_of" 1 2 jT:=Def.mk' (PySem.W.mg_of X G JF) Ai Kg (FG (P:=l.prog) (w:=w) (base:=base) AY)
 have ou:Def l.prog w K mg base "stay_of" 1 2 cY:=Def.mk' (PySem.W.mg_of X G Gn) vE GO (BZ (P:=l.prog) (w:=w) (base:=base) vN)
 have sj:Def l.prog w K mg base "stays_of" 1 1 bV:=Def.mk' (PySem.W.mg_of X G CT) rm DR (zQ (P:=l.prog) (w:=w) (base:=base) rY d5)
 have GV:Def l.prog w K mg base "free_of" 2 1 eN:=Def.mk' (PySem.W.mg_of X G Gp) vF GP (B2 (P:=l.prog) (w:=w) (base:=base) vO cB sj)
 have A4:Def l.prog w K mg base "is_person" 3 2 fu:=Def.mk' (PySem.W.mg_of X G Ar) oP AZ (xc (P:=l.prog) (w:=w) (base:=base) oV fR ot)
 have Pb:Def l.prog w K mg base "fits" 4 2 qC:=Def.mk' (PySem.W.mg_of X G O3) JH Pa (Lx (P:=l.prog) (w:=w) (base:=base) Kh cB bP ao bf ou mJ ot)
 have uO:Def l.prog w K mg base "check_stand" 5 2 cZ:=Def.mk' (PySem.W.mg_of X G t7) kK uN (qG (P:=l.prog) (w:=w) (base:=base) kP Pb)
 have GW:Def l.prog w K mg base "pull_at" 2 3 iA:=Def.mk' (PySem.W.mg_of X G Gr) vG GQ (B4 (P:=l.prog) (w:=w) (base:=base) vP Jy GU)
 have GX:Def l.prog w K mg base "next_at" 3 3 eM:=Def.mk' (PySem.W.mg_of X G Gu) vH GR (B5 (P:=l.prog) (w:=w) (base:=base) vQ Kl GW ou)
 have GY:Def l.prog w K mg base "turn_at" 4 2 dA:=Def.mk' (PySem.W.mg_of X G Gw) vI GS (B7 (P:=l.prog) (w:=w) (base:=base) vR bf bL ot GX)
 have Ma:Def l.prog w K mg base "ended" 6 2 i9:=Def.mk' (PySem.W.mg_of X G LU) EQ L7 (IY (P:=l.prog) (w:=w) (base:=base) ES bP GY uO)
 have pD:Def l.prog w K mg base "may_be_chosen" 4 2 bJ:=Def.mk' (PySem.W.mg_of X G o9) jz pB (ni (P:=l.prog) (w:=w) (base:=base) jC ou A4)
 have pE:Def l.prog w K mg base "are_choosable" 5 2 cr:=Def.mk' (PySem.W.mg_of X G pc) jA pC (nn (P:=l.prog) (w:=w) (base:=base) jD kF bL bP ao d5 pD)
 have Mb:Def l.prog w K mg base "begun" 6 2 kt:=Def.mk' (PySem.W.mg_of X G LW) ER L8 (Ja (P:=l.prog) (w:=w) (base:=base) ET bf cB sj pE)
 have A7:Def l.prog w K mg base "turns_all" 7 2 fv:=Def.mk' (PySem.W.mg_of X G Av) oQ A0 (xf (P:=l.prog) (w:=w) (base:=base) oW Ma Mb)
 have DU:Def l.prog w K mg base "lists_of" 1 1 gz:=Def.mk' (PySem.W.mg_of X G DA) rR DS (zR (P:=l.prog) (w:=w) (base:=base) rZ iN bP)
 have GZ:Def l.prog w K mg base "do_turn" 8 3 fU:=Def.mk' (PySem.W.mg_of X G Gy) vJ GT (B8 (P:=l.prog) (w:=w) (base:=base) vS bf A7)
 have yH:Def l.prog w K mg base "tree_above" 1 4 ev:=Def.mk' (PySem.W.mg_of X G yc) mi yA (sQ (P:=l.prog) (w:=w) (base:=base) mF)
 have A8:Def l.prog w K mg base "_law_cell" 1 2 jZ:=Def.mk' (PySem.W.mg_of X G AI) oS A2 (xh (P:=l.prog) (w:=w) (base:=base) oX bP)
 have yI:Def l.prog w K mg base "_law_class" 1 1 iD:=Def.mk' (PySem.W.mg_of X G yn) ml yB (sR (P:=l.prog) (w:=w) (base:=base) mG ao jg nv ny xt qV xu lc iP qW nz jh nA nB xv qX xw lh nC qY nE)
 have DV:Def l.prog w K mg base "_law_due" 1 1 gS:=Def.mk' (PySem.W.mg_of X G DM) rT DT (zT (P:=l.prog) (w:=w) (base:=base) r6 bL)
 have Km:Fh l.prog w K mg base "fewest" 9 1 ce:=Fh.mk' (PySem.W.mg_of X G JY) AH Ki (B9 (P:=l.prog) (w:=w) (base:=base) A1 bP DU GZ yH GV eC nH)
 have yJ:Def l.prog w K mg base "_law_asked" 10 1 bq:=Def.mk' (PySem.W.mg_of X G yp) mo yC (sS (P:=l.prog) (w:=w) (base:=base) mH j7 w_be (by rw [w_is];rfl) w_ty h_cs Km yI)
 have sr:Def l.prog w K mg base "_law_holders" 1 2 fz:=Def.mk' (PySem.W.mg_of X G rV) ki sf (o8 (P:=l.prog) (w:=w) (base:=base) kj bL)
 have yK:Def l.prog w K mg base "_law_right" 1 2 cu:=Def.mk' (PySem.W.mg_of X G yr) mr yE (sU (P:=l.prog) (w:=w) (base:=base) mI bP ao bf)
 exact OL (P:=l.prog) (w:=w) (base:=base) Qt bL qS DV yK yJ Kk sr A8
end Fm
namespace Fm
theorem Ca (l:List Int):eE (l.map D.int)=true:=fS fun _ _=>rfl
abbrev NL (l:List Nat):List D:=l.map fun k:Nat=>D.int k
structure Ch (w:Web) (n:Nat) (l:List Nat):Prop where
 up:l.Pairwise (· < ·)
 lt:∀ p∈l,p < n
 no:∀ p∈l,w.stays.getD p none≠some 0
def dJ (w:Web) (n:Nat) (l:List Nat):List Int:=(List.range n).map fun i=>if i∈l∨w.stays.getD i none=some 1 then 1 else 0
theorem Ly (u:Option Int)(h:Hd):oNe (aX u) (.int 0) h=.ok (.bl (decide (u≠some 0))) h:=by
 cases u with
 | none=>rfl
 | some v =>
  show oNe (.int v) (.int 0) h=_
  rw [qB]
  by_cases e:v=0
  ·rw [decide_eq_true e,decide_eq_false (fun z=>z (by rw [e]))];rfl
  ·rw [decide_eq_false e,decide_eq_true (show (some v≠some (0:Int)) from fun z=>e (ZT z))];rfl
theorem Jb (u:Option Int)(h:Hd):oEq (aX u) (.int 1) h=.ok (.bl (decide (u=some 1))) h:=by
 cases u with
 | none=>rfl
 | some v =>
  show oEq (.int v) (.int 1) h=_
  rw [zE]
  by_cases e:v=1
  ·rw [decide_eq_true e,decide_eq_true (by rw [e])]
  ·rw [decide_eq_false e,decide_eq_false (fun z=>e (ZT z))]
theorem Qc {h:Hd}{k:Nat}{l:List Nat}(hk:h[k]? = some (.lst (NL l)))(i:Nat):oIn (.int (i:Nat)) (.ref k) h=.ok (.bl (decide (i∈l))) h:=by
 have f:(NL l).all cF=true:=by
  rw [List.all_eq_true];intro x hx;obtain⟨j,_,rfl⟩:=List.mem_map.mp hx;rfl
 have a:((NL l).any fun z=>eqF z (.int (i:Nat)))=decide (i∈l):=by
  by_cases e:i∈l
  ·rw [decide_eq_true e,List.any_eq_true]
   exact⟨.int (i:Nat),List.mem_map.mpr ⟨i,e,rfl⟩,by simp⟩
  ·rw [decide_eq_false e,List.any_eq_false]
   intro x hx z
   obtain⟨j,hj,rfl⟩:=List.mem_map.mp hx
   have z:((j:Int) == (i:Int))=true:=z
   have:j=i:=by have:=eq_of_beq z;omega
   exact e (this ▸ hj)
 simp only [oIn,inL,gI,hk,cF,f,Bool.and_self,if_true,a]
section
variable {w:Web} {n:Nat} {l:List Nat}
theorem Qd (W:w.Ok n){p:Nat}(hp:p < n):atI (w.stays.map aX) (p:Int)=some (aX (w.stays.getD p none)):=by
 have h:p < w.stays.length:=W.s.symm ▸ hp
 rw [ZF,ZE h]
 exact eh (by rw [ZQ,ZE h];rfl)
theorem FH (W:w.Ok n){p:Nat}(hp:p < n)(h:Hd):fu [w.enc,.int (p:Nat)] h=.ok (.bl true) h:=by
 have m:cm [w.enc] h=.ok (.int n) h:=by rw [jU,W.t]
 have b:bc [.int (p:Nat),.int 0,.int ((n:Int) - 1)] h=.ok (.bl true) h:=by
  have:=ek (p:Int) 0 ((n:Int) - 1) h
  rw [this,decide_eq_true (show (0:Int)≤p by omega),decide_eq_true (show (p:Int)≤(n:Int) - 1 by omega)];rfl
 exact (br rfl rfl (aP (aw (ah rfl (cP rfl (aq (aw (ah rfl rfl) m) rfl rfl))) b))).trans aH
theorem FI (W:w.Ok n){p:Nat}(hp:p < n)(no:w.stays.getD p none≠some 0)(h:Hd):bJ [w.enc,.int (p:Nat)] h=.ok (.bl true) h:=by
 have s:cY [w.enc,.int (p:Nat)] h=.ok (aX (w.stays.getD p none)) h:=(br rfl rfl (aP (bz (bz rfl rfl rfl rfl) rfl rfl (Qd W hp)))).trans aH
 exact (br rfl rfl (aP (vj (wR (aY (aw (cP rfl rfl) (FH W hp h))) (aY (aq (aw (cP rfl rfl) s) rfl (by rw [Ly,decide_eq_true no]))))))).trans aH
theorem Jc {α : Type}(l:List α):im (l.map fun _=>D.bl true)=some (l.map fun _=>true):=by
 induction l with
 | nil=>rfl
 | cons x l ih=>simp [im,ih]
theorem Qe {α : Type}(l:List α):(l.map fun _=>true).all id=true:=by simp
theorem Lz {a:EF}{σ:Sd}{h:Hd}{m:Nat}(hm:m≤1000)(p:a σ h=.ok (.int ((m:Int) - 1)) h):dL a σ h=.ok ((List.range (m - 1)).map (fun k:Nat=>D.int k),none) h:=by
 show Res.bind _ _=_
 rw [p]
 show (if -1000000≤(m:Int) - 1∧(m:Int) - 1≤1000000 then Res.ok ((List.range ((m:Int) - 1).toNat).map (fun k:Nat=>D.int k),(none:Option Nat)) h else Res.bad)=_
 rw [if_pos ⟨by omega,by omega⟩,show ((m:Int) - 1).toNat=m - 1 by omega]
theorem zV:∀ {m:Nat} {l:List Nat},l.Pairwise (· < ·)→(∀ x∈l,x < m)→l.length≤m
 | m,[],_,_=>Nat.zero_le _
 | 0,x :: l,_,h=>absurd (h x (by simp)) (by omega)
 | m + 1,x :: l,p,h=>by
  have p':=List.pairwise_cons.mp p
  have:=zV (m:=m) (l:=l.map (· - 1)) (by
   rw [List.pairwise_map]
   refine p'.2.imp_of_mem fun {a b} ha hb q => ?_
   have:=p'.1 a ha;have:=p'.1 b hb
   omega) (fun y hy=>by
   obtain⟨z,hz,rfl⟩:=List.mem_map.mp hy
   have:=h z (by simp [hz]);have:=p'.1 z hz
   omega)
  simp at this ⊢;omega
theorem Qf (C:Ch w n l):l.length≤n:=zV C.up C.lt
theorem xi (W:w.Ok n)(n30:n≤30)(C:Ch w n l){h:Hd}{k:Nat}(hk:h[k]? = some (.lst (NL l))):cr [w.enc,.ref k] h=.ok (.bl true) h:=by
 have c1:b0 (some k) (NL l) (gN 0) [] (au bJ (ad (aa 1) (ad (aa 0) aj))) (NL l) [none,some w.enc] h=.ok ((NL l).map fun _=>D.bl true) h:=by
  have:=cC (g:=some k) (all:=NL l) (tg:=gN 0) (cs:=[]) (e:=au bJ (ad (aa 1) (ad (aa 0) aj))) (h:=h) (I:=fun σ=>∃ a,σ = [a,some w.enc]) (fun _=>true) (fun _=>.bl true) hk (xs:=NL l) (σ:=[none,some w.enc]) (by
   rintro x hx σ ⟨a,rfl⟩
   obtain⟨i,hi,rfl⟩:=List.mem_map.mp hx
   exact⟨_,rfl,⟨_,rfl⟩,rfl,fun _=>aw (cP rfl rfl) (FI W (C.lt i hi) (C.no i hi) h)⟩) ⟨_,rfl⟩
  rw [this,List.filter_eq_self.mpr (fun _ _=>rfl)]
 have c2:b0 none ((List.range (l.length - 1)).map fun k:Nat=>D.int k) (gN 0) [] (ak oLt (fAt (aa 1) (aa 0)) (fAt (aa 1) (ak eI (aa 0) (fC (.int 1))))) ((List.range (l.length - 1)).map fun k:Nat=>D.int k) [none,some (.ref k)] h=.ok (((List.range (l.length - 1)).map fun k:Nat=>D.int k).map fun _=>D.bl true) h:=by
  have:=cC (g:=none) (all:=(List.range (l.length - 1)).map fun k:Nat=>D.int k) (tg:=gN 0) (cs:=[]) (e:=ak oLt (fAt (aa 1) (aa 0)) (fAt (aa 1) (ak eI (aa 0) (fC (.int 1))))) (h:=h) (I:=fun σ=>∃ a,σ = [a,some (.ref k)]) (fun _=>true) (fun _=>.bl true) trivial (xs:=(List.range (l.length - 1)).map fun k:Nat=>D.int k) (σ:=[none,some (.ref k)]) (by
   rintro x hx σ ⟨a,rfl⟩
   obtain⟨i,hi,rfl⟩:=List.mem_map.mp hx
   have hi:=List.mem_range.mp hi
   have h1:i < l.length:=by omega
   have h2:i + 1 < l.length:=by omega
   have a1:atI (NL l) (i:Int)=some (.int (l[i] : Nat)):=eh (by rw [ZQ,ZE h1];rfl)
   have a2:atI (NL l) ((i:Int) + 1)=some (.int (l[i + 1] : Nat)):=by
    have:atI (NL l) ((i + 1:Nat):Int)=some (.int (l[i + 1] : Nat)):=eh (by rw [ZQ,ZE h2];rfl)
    exact this
   have lt:=List.pairwise_iff_getElem.mp C.up i (i + 1) h1 h2 (Nat.lt_succ_self _)
   exact⟨_,rfl,⟨_,rfl⟩,rfl,fun _=>aq (bz rfl rfl (bF hk) a1) (bz rfl (aq rfl rfl rfl) (bF hk) a2) (IM (by omega))⟩) ⟨_,rfl⟩
  rw [this,List.filter_eq_self.mpr (fun _ _=>rfl)]
 have ll:=Qf C
 have s1:sIf (dq (tE (gj .list (aa 1)))) (aT (fC (.bl false))) bM [some w.enc,some (.ref k)] h=.nx [some w.enc,some (.ref k)] h:=(dh (cW (b:=true) (aY (wT rfl hk)))).trans rfl
 have s2:sIf (dq (tE (yT (cQ 1 [0] (iV (aa 1)) (gN 0) [] (au bJ (ad (aa 1) (ad (aa 0) aj))))))) (aT (fC (.bl false))) bM [some w.enc,some (.ref k)] h=.nx [some w.enc,some (.ref k)] h:=(dh (cW (b:=true) (aY ((wY (dW (e9 rfl hk) c1) (Jc _)).trans (by rw [Qe]))))).trans rfl
 have lw:ak gZ (fL (lOf (aa 1))) (fC (.int 1)) [some w.enc,some (.ref k)] h=.ok (.int ((l.length:Int) - 1)) h:=aq (x:=.int (l.length:Nat)) ((dZ (cD rfl (bF hk))).trans (by rw [ZA])) rfl rfl
 exact (br rfl rfl ((cA s1).trans ((cA s2).trans (aP ((wY (dW (Lz (by omega) lw) c2) (Jc _)).trans (by rw [Qe])))))).trans aH
theorem FJ (W:w.Ok n)(S:gy w)(C:Ch w n l):o6 w n (dJ w n l):=by
 refine⟨by simp [dJ],fun x hx => ?_,fun i x e => ?_⟩
 ·obtain⟨i,_,rfl⟩:=List.mem_map.mp hx
  split
  ·exact .inr rfl
  ·exact .inl rfl
 ·have hi:i < n:=by have:=(List.getElem?_eq_some_iff.mp e).1;rwa [W.s] at this
  have g:w.stays.getD i none=some x:=by rw [ZF,e];rfl
  have ox:=S (some x) (ZK e)
  show ((List.range n).map _)[i]? = _
  rw [ZQ,List.getElem?_range hi]
  show some (if i∈l∨w.stays.getD i none=some 1 then (1:Int) else 0)=_
  rcases ox with z|z|z
  ·cases z
  ·have z:=ZT z
   subst z
   rw [if_neg]
   rintro (q|q)
   ·exact C.no i q g
   ·rw [g] at q;cases q
  ·have z:=ZT z
   subst z
   rw [if_pos (.inr g)]
theorem Jd {l:List D}{x:D}(hx:x∈ej l):∃ (i:Nat) (d:D),l[i]? = some d∧x=.tup [.int (i:Nat),d]:=by
 unfold ej at hx
 obtain⟨p,hp,rfl⟩:=List.mem_map.mp hx
 obtain⟨k,hk⟩:=List.getElem?_of_mem hp
 rw [List.getElem?_zip_eq_some] at hk
 obtain⟨h1,h2⟩:=hk
 have:p.1=k:=by
  obtain⟨h3,h4⟩:=List.getElem?_eq_some_iff.mp h1
  simpa using h4.symm
 exact⟨k,p.2,h2,by rw [this]⟩
theorem Je (ss:List (Option Int))(f:Nat→Option Int→D):(ej (ss.map aX)).map (fun d=>match d with | .tup [.int i,_]=>f i.toNat (ss.getD i.toNat none)|_=>.non)=(List.range ss.length).map fun i=>f i (ss.getD i none):=by
 unfold ej
 rw [List.map_map]
 apply List.ext_getElem?
 intro i
 by_cases hi:i < ss.length
 ·rw [ZQ,ZQ,List.getElem?_range hi]
  have:((List.range (ss.map aX).length).zip (ss.map aX))[i]? = some (i,aX ss[i]):=by
   rw [List.getElem?_zip_eq_some]
   exact⟨List.getElem?_range (by simpa using hi),by rw [ZQ,ZE hi];rfl⟩
  rw [this];rfl
 ·rw [List.getElem?_eq_none (by simp;omega),List.getElem?_eq_none (by simp;omega)]
theorem Jf (W:w.Ok n)(n30:n≤30)(C:Ch w n l){h:Hd}{k:Nat}(hk:h[k]? = some (.lst (NL l))):kt [w.enc,.ref k] h=.ok (aD (dJ w n l)) h:=by
 obtain⟨A,hA⟩ : ∃ A,A=h.length:=⟨_,rfl⟩
 have so:bV [w.enc] h=.ok (.ref A) (h++[.lst (w.stays.map aX)]):=(br rfl rfl (aP (wW hA (cD (bz rfl rfl rfl rfl) rfl) (by rw [ZA,W.s];exact ZM n30 (by decide))))).trans cV
 obtain⟨h1,hh1⟩ : ∃ h1:Hd,h1=h++[.lst (w.stays.map aX)]:=⟨_,rfl⟩
 rw [← hh1] at so
 have g1:h1[A]? = some (.lst (w.stays.map aX)):=by rw [hh1];exact Ew hA _
 have hk1:h1[k]? = some (.lst (NL l)):=by rw [hh1];exact ay _ hk
 have c:=qo (G:=fun h'=>h'[A]? = some (.lst (w.stays.map aX))) (tg:=gT [0,1]) (cs:=[]) (e:=fIf (tOr (tE (ak oIn (aa 0) (aa 2))) (tE (ak oEq (aa 1) (fC (.int 1))))) (fC (.int 1)) (fC (.int 0))) (h:=h1) (I:=fun σ=>∃ a b,σ = [a,b,some (.ref k)]) (fun _=>true)
  (fun d=>match d with | .tup [.int i,_]=>(fun i u=>D.int (if i∈l∨u=some 1 then 1 else 0)) i.toNat (w.stays.getD i.toNat none)|_=>.non) g1 (xs:=ej (w.stays.map aX)) (σ:=[none,none,some (.ref k)]) (by
   rintro x hx σ ⟨a,b,rfl⟩
   obtain⟨i,d,hd,rfl⟩:=Jd hx
   have hil:i < w.stays.length:=by have:=(List.getElem?_eq_some_iff.mp hd).1;rwa [ZA] at this
   have hd':d=aX (w.stays.getD i none):=by
    rw [ZQ,ZE hil] at hd
    rw [ZF,ZE hil];exact (ZT hd).symm
   subst hd'
   refine⟨_,rfl,⟨_,_,rfl⟩,rfl,fun _ => ?_⟩
   show fIf (tOr (tE (ak oIn (aa 0) (aa 2))) (tE (ak oEq (aa 1) (fC (.int 1))))) (fC (.int 1)) (fC (.int 0)) [some (.int i),some (aX (w.stays.getD i none)),some (.ref k)] h1=.ok (.int (if ((i:Int)).toNat∈l∨w.stays.getD ((i:Int)).toNat none=some 1 then 1 else 0)) h1
   rw [Int.toNat_natCast]
   have t1:tE (ak oIn (aa 0) (aa 2)) [some (.int i),some (aX (w.stays.getD i none)),some (.ref k)] h1=.ok (decide (i∈l)) h1:=aY (aq rfl rfl (Qc hk1 i))
   have t2:tE (ak oEq (aa 1) (fC (.int 1))) [some (.int i),some (aX (w.stays.getD i none)),some (.ref k)] h1=.ok (decide (w.stays.getD i none=some 1)) h1:=aY (aq rfl rfl (Jb _ _))
   by_cases c1:i∈l
   ·rw [decide_eq_true c1] at t1
    rw [if_pos (.inl c1)]
    exact (qA (IK t1)).trans rfl
   ·rw [decide_eq_false c1] at t1
    by_cases c2:w.stays.getD i none=some 1
    ·rw [decide_eq_true c2] at t2
     rw [if_pos (.inr c2)]
     exact (qA (iy t1 t2)).trans rfl
    ·rw [decide_eq_false c2] at t2
     rw [if_neg (fun z=>z.elim c1 c2)]
     exact (wX (iy t1 t2)).trans rfl) ⟨_,_,rfl⟩
 rw [List.filter_eq_self.mpr (fun _ _=>rfl),Je w.stays (fun i u=>D.int (if i∈l∨u=some 1 then 1 else 0)),W.s] at c
 have e1:jP 2 [1] (au bV (ad (aa 0) aj)) (gT [0,1]) [] (fIf (tOr (tE (ak oIn (aa 0) (aa 2))) (tE (ak oEq (aa 1) (fC (.int 1))))) (fC (.int 1)) (fC (.int 0))) [some w.enc,some (.ref k)] h=.ok ((dJ w n l).map .int) h1:=by
  have f:=aw (F:=bV) (r:=ad (aa 0) aj) (σ:=[some w.enc,some (.ref k)]) (ah rfl rfl) so
  unfold jP
  rw [f]
  simp only [g1]
  refine c.trans ?_
  unfold dJ
  rw [List.map_map];rfl
 have s1:sIf (dq (tE (au cr (ad (aa 0) (ad (aa 1) aj))))) kT bM [some w.enc,some (.ref k)] h=.nx [some w.enc,some (.ref k)] h:=(dh (cW (b:=true) (aY (aw (cP rfl rfl) (xi W n30 C hk))))).trans rfl
 refine (br rfl rfl ((cA s1).trans (aP (i8 e1)))).trans ?_
 rw [hh1]
 exact i5 (by simp only [pure?];exact Ca _)
end
end Fm
namespace Fm
theorem Jg {l:List D}{k:Nat}(hk:1≤k):cut l (some (-(k:Int))) none=l.drop (l.length - k):=by
 have e:sIx l.length 0 (some (-(k:Int)))=l.length - k:=by
  show (if -(k:Int) < 0 then (-(k:Int) + (l.length:Nat)).toNat else _)=_
  rw [if_pos (by omega)];omega
 unfold cut
 rw [e]
 exact List.take_of_length_le (by rw [List.length_drop];exact ZL _)
theorem FK {l:List D}{k:Nat}(hk:1≤k):cut l none (some (-(k:Int)))=l.take (l.length - k):=by
 have e:sIx l.length l.length (some (-(k:Int)))=l.length - k:=by
  show (if -(k:Int) < 0 then (-(k:Int) + (l.length:Nat)).toNat else _)=_
  rw [if_pos (by omega)];omega
 unfold cut
 rw [e];rfl
theorem iJ {a:EF}{lo hi:OF}{σ:Sd}{h h1 h2 h3:Hd}{n:Nat}{i j:Option Int}{l:List D}(p:a σ h=.ok (.ref n) h1)(q:lo σ h1=.ok i h2)(r:hi σ h2=.ok j h3)(s:h3[n]? = some (.lst l)):dY a lo hi σ h=.ok (.ref h3.length) (h3++[.lst (cut l i j)]):=by
 simp only [dY,p,aN,q,r,aS,s]
section
variable {w:Web} {n:Nat} {s:List Int}
theorem qI (t j:Nat):(aZ w n s (t + j)).drop t=(List.range j).map fun i=>bj w n s (t + i):=by
 unfold aZ
 apply List.ext_getElem?
 intro i
 rw [List.getElem?_drop,ZQ,ZQ]
 by_cases hi:i < j
 ·rw [List.getElem?_range (by omega),List.getElem?_range hi];rfl
 ·rw [List.getElem?_eq_none (by simp;omega),List.getElem?_eq_none (by simp;omega)];rfl
theorem Cb (t j:Nat):(aZ w n s (t + j)).take t=aZ w n s t:=by
 unfold aZ
 rw [← List.map_take,List.take_range,Nat.min_eq_left (Nat.le_add_right t j)]
def NOT:D:=.str [110,111,116]
def TRN:D:=.str [116,117,114,110]
noncomputable def Cc (w:Web) (n:Nat) (s:List Int) (t:Nat):D:=if bj w n s (t + 1)=bj w n s t then (if (0:Int)∈bj w n s (t + 1) then NOT else TRN) else NOT
noncomputable def Jh (w:Web) (n:Nat) (s:List Int) (t:Nat):List (List Int):=if bj w n s (t + 1)=bj w n s t then (if (0:Int)∈bj w n s (t + 1) then [bj w n s (t + 1)] else aZ w n s (t + 1)) else [bj w n s t,bj w n s (t + 1)]
theorem LA (l:List Int)(x:Int)(h:Hd):inL h (.int x) (aD l)=some (decide (x∈l)):=by
 have f:(l.map D.int).all cF=true:=by
  rw [List.all_eq_true];intro x hx;obtain⟨j,_,rfl⟩:=List.mem_map.mp hx;rfl
 have a:((l.map D.int).any fun z=>eqF z (.int x))=decide (x∈l):=by
  by_cases e:x∈l
  ·rw [decide_eq_true e,List.any_eq_true]
   exact⟨.int x,List.mem_map.mpr ⟨x,e,rfl⟩,by simp⟩
  ·rw [decide_eq_false e,List.any_eq_false]
   intro y hy z
   obtain⟨j,hj,rfl⟩:=List.mem_map.mp hy
   have z:(j == x)=true:=z
   exact e (eq_of_beq z ▸ hj)
 simp only [inL,aD,gI,cF,f,Bool.and_self,if_true,a]
theorem ON (l:List Int)(x:Int)(h:Hd):oIn (.int x) (aD l) h=.ok (.bl (decide (x∈l))) h:=by
 unfold oIn;rw [LA]
theorem xj {l:List Nat}(W:w.Ok n)(n30:n≤30)(S:gy w)(C:Ch w n l){h:Hd}{k A:Nat}(hk:h[k]? = some (.lst (NL l)))(hA:A=h.length){t:Nat}(ht:bj w n (dJ w n l) (t + 2)=bj w n (dJ w n l) t)(hm:∀ k,k < t→bj w n (dJ w n l) (k + 2)≠bj w n (dJ w n l) k)(hz:t≤900000) :
  fv [w.enc,.ref k] h=.ok (.tup [Cc w n (dJ w n l) t,.ref (A + 1)]) (h++[.lst ((aZ w n (dJ w n l) (t + 2)).map aD),.lst ((Jh w n (dJ w n l) t).map aD)]):=by
 have F:=FJ W S C
 obtain⟨s,hs⟩ : ∃ s,s=dJ w n l:=⟨_,rfl⟩
 have be:=Jf W n30 C hk
 rw [← hs] at ht hm F be ⊢
 have en:=IU W S F ht hm hz h
 rw [← hA] at en
 obtain⟨wd,hw⟩ : ∃ wd,wd=if bj w n s (t + 1)=bj w n s t then [114,101,115,116] else [112,97,105,114]:=⟨_,rfl⟩
 rw [← hw] at en
 obtain⟨h1,hh1⟩ : ∃ h1,h1=h++[cT.lst ((aZ w n s (t + 2)).map aD)]:=⟨_,rfl⟩
 rw [← hh1] at en
 have g1:h1[A]? = some (.lst ((aZ w n s (t + 2)).map aD)):=by rw [hh1];exact Ew hA _
 have l1:h1.length=A + 1:=by rw [hh1,ZB,hA];rfl
 have ln:((aZ w n s (t + 2)).map aD).length=t + 2:=by rw [ZA,iB]
 have X:=[some w.enc,some (.ref k),some (D.tup [.int t,.str wd,.ref A]),some (.str wd),some (.ref A)]
 have s1:bd (gN 2) (au i9 (ad (aa 0) (ad (au kt (ad (aa 0) (ad (aa 1) aj))) aj))) [some w.enc,some (.ref k),none,none,none] h=.nx [some w.enc,some (.ref k),some (D.tup [.int t,.str wd,.ref A]),none,none] h1:=aM (aw (cP rfl (aw (cP rfl rfl) be)) en)
 have s2:bd (gN 3) (fAt (aa 2) (fC (.int 1))) [some w.enc,some (.ref k),some (D.tup [.int t,.str wd,.ref A]),none,none] h1=.nx [some w.enc,some (.ref k),some (D.tup [.int t,.str wd,.ref A]),some (.str wd),none] h1:=aM (bz rfl rfl rfl rfl)
 have s3:bd (gN 4) (fAt (aa 2) (fC (.int 2))) [some w.enc,some (.ref k),some (D.tup [.int t,.str wd,.ref A]),some (.str wd),none] h1=.nx [some w.enc,some (.ref k),some (D.tup [.int t,.str wd,.ref A]),some (.str wd),some (.ref A)] h1:=aM (bz rfl rfl rfl rfl)
 have b1:atI ((aZ w n s (t + 2)).map aD) (-1)=some (aD (bj w n s (t + 1))):=jW (t + 1) 1 (by decide)
 have fin:∀ (d:D) (L:List D),(h1++[cT.lst L])=h++[.lst ((aZ w n s (t + 2)).map aD),.lst L]:=fun d L=>by rw [hh1,ZU];rfl
 have go:∀ {d:D} {g:Hd},letGo h (.ok (.tup [d,.ref (A + 1)]) g)=.ok (.tup [d,.ref (A + 1)]) g:=fun {d g}=>ko (by simp [pure?,eE])
 have sl:∀ {j:Nat} (hj:1≤j) (σ:Sd) (e:aa 4 σ h1=.ok (.ref A) h1),dY (aa 4) (pAt (fC (.int (-(j:Int))))) pNo σ h1=.ok (.ref (A + 1)) (h1++[.lst (((aZ w n s (t + 2)).map aD).drop (t + 2 - j))]):=fun {j} hj σ e=>by
  have:=iJ (a:=aa 4) (lo:=pAt (fC (.int (-(j:Int))))) (hi:=pNo) (σ := σ) e rfl rfl g1
  rw [Jg hj,ln,l1] at this;exact this
 by_cases q:bj w n s (t + 1)=bj w n s t
 ·rw [if_pos q] at hw
  have s4:sIf (tE (ak oEq (aa 3) (fC (.str [112,97,105,114])))) (aT (g7 (ad (fC (.str [110,111,116])) (ad (dY (aa 4) (pAt (fC (.int (-2)))) pNo) aj)))) bM [some w.enc,some (.ref k),some (D.tup [.int t,.str wd,.ref A]),some (.str wd),some (.ref A)] h1=.nx [some w.enc,some (.ref k),some (D.tup [.int t,.str wd,.ref A]),some (.str wd),some (.ref A)] h1:=by
   rw [hw];exact (dh (aY (aq rfl rfl rfl))).trans rfl
  have t5:tE (ak oIn (fC (.int 0)) (fAt (aa 4) (fC (.int (-1))))) [some w.enc,some (.ref k),some (D.tup [.int t,.str wd,.ref A]),some (.str wd),some (.ref A)] h1=.ok (decide ((0:Int)∈bj w n s (t + 1))) h1:=aY (aq rfl (bz rfl rfl (bF g1) b1) (ON _ _ _))
  by_cases z:(0:Int)∈bj w n s (t + 1)
  ·rw [decide_eq_true z] at t5
   have r:=sl (j:=1) (ZL _) [some w.enc,some (.ref k),some (D.tup [.int t,.str wd,.ref A]),some (.str wd),some (.ref A)] rfl
   rw [show t + 2 - 1=t + 1 from rfl,← List.map_drop,show t + 2=(t + 1) + 1 from rfl,qI] at r
   unfold Cc Jh
   rw [if_pos q,if_pos z,if_pos q,if_pos z]
   refine (br rfl rfl ((cA s1).trans ((cA s2).trans ((cA s3).trans ((cA s4).trans (oH ((qy t5).trans (aP (i6 (cP rfl r)))))))))).trans (go.trans ?_)
   rw [fin .non];rfl
  ·rw [decide_eq_false z] at t5
   have r:=iJ (a:=aa 4) (lo:=pNo) (hi:=pAt (fC (.int (-((1:Nat):Int))))) (σ:=[some w.enc,some (.ref k),some (D.tup [.int t,.str wd,.ref A]),some (.str wd),some (.ref A)]) (h:=h1) rfl rfl rfl g1
   rw [FK (ZL 1),ln,l1,← List.map_take,show t + 2 - 1=t + 1 from rfl,show t + 2=(t + 1) + 1 from rfl,Cb] at r
   unfold Cc Jh
   rw [if_pos q,if_neg z,if_pos q,if_neg z]
   refine (br rfl rfl ((cA s1).trans ((cA s2).trans ((cA s3).trans ((cA s4).trans ((cA ((dh t5).trans rfl)).trans (aP (i6 (cP rfl r))))))))).trans (go.trans ?_)
   rw [fin .non];rfl
 ·rw [if_neg q] at hw
  have t4:tE (ak oEq (aa 3) (fC (.str [112,97,105,114]))) [some w.enc,some (.ref k),some (D.tup [.int t,.str wd,.ref A]),some (.str wd),some (.ref A)] h1=.ok true h1:=by
   rw [hw];exact aY (aq rfl rfl rfl)
  have r:=sl (j:=2) (by decide) [some w.enc,some (.ref k),some (D.tup [.int t,.str wd,.ref A]),some (.str wd),some (.ref A)] rfl
  rw [show t + 2 - 2=t from rfl,← List.map_drop,qI] at r
  unfold Cc Jh
  rw [if_neg q,if_neg q]
  refine (br rfl rfl ((cA s1).trans ((cA s2).trans ((cA s3).trans (oH ((qy t4).trans (aP (i6 (cP rfl r))))))))).trans (go.trans ?_)
  rw [fin .non];rfl
end
end Fm
namespace Fm
def bW (n:Nat) (x:Int):List Tie:=(List.range (n - 1)).map fun i=>⟨0,i + 1,x⟩
theorem gA {n:Nat}{x:Int}{t:Tie}:t∈bW n x ↔ ∃ j,1≤j∧j < n∧t=⟨0,j,x⟩:=by
 unfold bW
 rw [List.mem_map]
 constructor
 ·rintro⟨i,hi,rfl⟩
  have:=List.mem_range.mp hi
  exact⟨i + 1,by omega,by omega,rfl⟩
 ·rintro⟨j,h1,h2,rfl⟩
  exact⟨j - 1,List.mem_range.mpr (by omega),by rw [show j - 1 + 1=j by omega]⟩
theorem zW (n:Nat)(x:Int):(bW n x).length=n - 1:=by simp [bW]
theorem LB {n:Nat}{x:Int}(h1:1≤n)(w1:1≤x)(w2:x≤400):TOk n n 0 (bW n x):=by
 refine⟨fun t ht => ?_,fun t ht => ?_,fun t ht => ?_,fun t ht => ?_,?_,by rw [zW];omega⟩
 ·obtain⟨j,a,b,rfl⟩:=gA.mp ht;exact ZN a
 ·obtain⟨j,a,b,rfl⟩:=gA.mp ht;exact⟨h1,b⟩
 ·obtain⟨j,a,b,rfl⟩:=gA.mp ht;exact⟨w1,w2⟩
 ·obtain⟨j,a,b,rfl⟩:=gA.mp ht;exact .inl ⟨h1,b⟩
 ·unfold bW
  rw [List.pairwise_map]
  refine (List.pairwise_lt_range (n:=n - 1)).imp fun {a b} h=>⟨fun z => ?_,fun z => ?_⟩
  ·have:=z.2;simp at this;omega
  ·have:=z.1;simp at this
def aR (m q:Nat):List (Option Int):=List.replicate m none++List.replicate q (some 1)
theorem kx {m q i:Nat}:(aR m q).getD i none=if i < m then none else if i < m + q then some 1 else none:=by
 unfold aR
 rw [ZF,List.getElem?_append]
 simp only [List.length_replicate,List.getElem?_replicate]
 by_cases a:i < m
 ·simp [a]
 ·by_cases b:i < m + q
  ·have:i - m < q:=by omega
   simp [a,b,this]
  ·have : ¬ i - m < q:=by omega
   simp [a,b,this]
theorem fA (m q:Nat):(aR m q).length=m + q:=by simp [aR]
theorem ED {m q:Nat}:∀ x∈aR m q,x=none∨x=some 0∨x=some 1:=fun x hx=>by
 rcases List.mem_append.mp hx with h|h
 ·exact .inl (List.eq_of_mem_replicate h)
 ·exact .inr (.inr (List.eq_of_mem_replicate h))
abbrev bX (n:Nat) (x:Int) (bs:List Int) (ss:List (Option Int)):Web:=zM n (bW n x) bs ss
section
variable {n m q:Nat} {x:Int} {bs:List Int} {ss:List (Option Int)} {s:List Int}
theorem OO {p:Nat}(h:p < n):(bX n x bs ss).ties.getD p [] = cM (nbs (bW n x) p):=by simp [zM,List.getD,h]
theorem pO {i j:Nat}{y:Int}:(j,y)∈nbs (bW n x) i ↔ y=x∧((i=0∧1≤j∧j < n)∨(1≤i∧i < n∧j=0)):=by
 unfold nbs
 rw [List.mem_filterMap]
 constructor
 ·rintro⟨t,ht,e⟩
  obtain⟨k,h1,h2,rfl⟩:=gA.mp ht
  unfold far at e
  by_cases a:(0:Nat)=i
  ·simp [a] at e
   obtain⟨rfl,rfl⟩:=e
   exact⟨rfl,.inl ⟨a.symm,h1,h2⟩⟩
  ·by_cases b:k=i
   ·simp [a,b] at e
    obtain⟨rfl,rfl⟩:=e
    subst b
    exact⟨rfl,.inr ⟨h1,h2,rfl⟩⟩
   ·simp [a,b] at e
 ·rintro⟨rfl,⟨rfl,h1,h2⟩|⟨h1,h2,rfl⟩⟩
  ·exact⟨⟨0,j,y⟩,gA.mpr ⟨j,h1,h2,rfl⟩,by simp [far]⟩
  ·refine⟨⟨0,i,y⟩,gA.mpr ⟨i,h1,h2,rfl⟩,?_⟩
   have : ¬ (0:Nat)=i:=by omega
   simp [far,this]
theorem qJ {r:List (Nat × Int)}(h:∀ p∈r,p.2=x):el r s=x * (r.filter fun p=>decide (s.getD p.1 0=1)).length:=by
 unfold el pM
 have:∀ l:List (Nat × Int),(∀ p∈l,p.2=x)→(l.map (·.2)).sum=x * l.length:=by
  intro l
  induction l with
  | nil=>intro _;simp
  | cons a l ih =>
   intro hl
   rw [List.map_cons,List.sum_cons,ih (fun p hp=>hl p (.tail _ hp)),hl a (.head _),List.length_cons]
   rw [Int.natCast_add,Int.mul_add]
   simp [Int.add_comm]
 exact this _ fun p hp=>h p (List.mem_filter.mp hp).1
theorem Ji {p:Nat}:∀ z∈cM (nbs (bW n x) p),z.2=x:=fun z hz=>(pO.mp (kr.mp (show (z.1,z.2)∈_ from hz))).1
theorem zX (a:Nat × Int):∀ r,(wZ a r).length=r.length + 1
 | []=>rfl
 | y :: r=>by
  unfold wZ
  split
  ·rfl
  ·simp [zX a r]
theorem qK:∀ r,(cM r).length=r.length
 | []=>rfl
 | y :: r=>by rw [cM,zX,qK r,List.length_cons]
theorem xk (n30:n≤30)(w1:1≤x)(p:Nat):0≤el (cM (nbs (bW n x) p)) s∧el (cM (nbs (bW n x) p)) s≤29 * x:=by
 rw [qJ Ji]
 have h:((cM (nbs (bW n x) p)).filter fun p=>decide (s.getD p.1 0=1)).length≤29:=by
  refine ZM (List.length_filter_le _ _) ?_
  rw [qK]
  exact ZM (List.length_filterMap_le _ _) (by rw [zW];omega)
 obtain⟨k,hk⟩ : ∃ k,k=((cM (nbs (bW n x) p)).filter fun p=>decide (s.getD p.1 0=1)).length:=⟨_,rfl⟩
 rw [← hk] at h ⊢
 refine⟨Int.mul_nonneg (by omega) (by omega),?_⟩
 rw [Int.mul_comm]
 exact Int.mul_le_mul_of_nonneg_right (by omega) (by omega)
theorem FL {p:Nat}(h:∀ z∈cM (nbs (bW n x) p),s.getD z.1 0≠1):el (cM (nbs (bW n x) p)) s=0:=by
 rw [qJ Ji,List.filter_eq_nil_iff.mpr (fun z hz=>by simpa using h z hz)];simp
theorem vv (w1:1≤x){p j:Nat}(h:(j,x)∈nbs (bW n x) p)(e:s.getD j 0=1):x≤el (cM (nbs (bW n x) p)) s:=by
 rw [qJ Ji]
 have:0 < ((cM (nbs (bW n x) p)).filter fun p=>decide (s.getD p.1 0=1)).length:=List.length_pos_of_mem (List.mem_filter.mpr ⟨kr.mpr h,by simpa using e⟩)
 obtain⟨k,hk⟩ : ∃ k,k=((cM (nbs (bW n x) p)).filter fun p=>decide (s.getD p.1 0=1)).length:=⟨_,rfl⟩
 rw [← hk] at this ⊢
 have h2:x * 1≤x * (k:Int):=Int.mul_le_mul_of_nonneg_left (by omega) (by omega)
 omega
end
end Fm
namespace Fm
abbrev mkS (n:Nat) (g:Nat→Int):List Int:=(List.range n).map g
theorem qL {n i:Nat}{g:Nat→Int}(h:i < n):(mkS n g).getD i 0=g i:=by simp [List.getD,h]
theorem qM {n:Nat}{f g:Nat→Int}(h:∀ i,i < n→f i=g i):mkS n f=mkS n g:=List.map_congr_left fun i hi=>h i (List.mem_range.mp hi)
abbrev Cd (n:Nat):List Int:=mkS n fun _=>1
theorem EE {n:Nat}:(0:Int)∉Cd n:=fun h=>by
 obtain⟨i,_,e⟩:=List.mem_map.mp h
 cases e
theorem Jj {f:Nat→List Int}:∀ {T:Nat},f (T + 2)=f T → ∃ t,t≤T∧f (t + 2)=f t ∧ ∀ k,k < t→f (k + 2)≠f k:=by
 intro T
 induction T using Nat.strongRecOn with
 | ind T ih =>
  intro h
  by_cases c:∃ k,k < T∧f (k + 2)=f k
  ·obtain⟨k,k1,k2⟩:=c
   obtain⟨t,a,b,d⟩:=ih k k1 k2
   exact⟨t,by omega,b,d⟩
  ·exact⟨T,ZL _,h,fun k hk e=>c ⟨k,hk,e⟩⟩
structure fg (w:Web) (n:Nat) (s:List Int) (b:Bool):Prop where
 go:∃ t,t≤900000∧bj w n s (t + 2)=bj w n s t∧(∀ k,k < t→bj w n s (k + 2)≠bj w n s k)∧Cc w n s t=if b=true then TRN else NOT
theorem kA {w:Web}{n:Nat}{s K:List Int}{b:Bool}(h2:bj w n s 2=K)(hK:cS w n K=K)(hb:b=decide ((0:Int)∉K)):fg w n s b:=by
 have a:∀ j,bj w n s (2 + j)=K:=by
  intro j
  induction j with
  | zero=>exact h2
  | succ j ih =>
   show cS w n (bj w n s (2 + j))=K
   rw [ih,hK]
 obtain⟨t,ht,e,mn⟩:=Jj (f:=bj w n s) (T:=2) ((a 2).trans (a 0).symm)
 refine⟨t,by omega,e,mn,?_⟩
 have et:bj w n s t=K:=by
  have:=a t
  rw [Nat.add_comm,e] at this
  exact this
 have e1:bj w n s (t + 1)=K:=by
  show cS w n (bj w n s t)=K
  rw [et,hK]
 unfold Cc
 rw [e1,et,if_pos rfl,hb]
 by_cases c:(0:Int)∈K
 ·rw [if_pos c,decide_eq_false (fun z=>z c)];rfl
 ·rw [if_neg c,decide_eq_true c];rfl
section
variable {n m q:Nat} {x:Int} {bs:List Int} {s:List Int}
theorem kB (hn:n=m + q){p:Nat}(h1:m≤p)(h2:p < n):fq (bX n x bs (aR m q)) s p=1:=by
 unfold fq
 rw [show (bX n x bs (aR m q)).stays=aR m q from rfl,kx,if_neg (by omega),if_pos (by omega)]
theorem iK (hn:n=m + q){p:Nat}(h1:p < m):fq (bX n x bs (aR m q)) s p=if 2 * el (cM (nbs (bW n x) p)) s=bs.getD p 0 then s.getD p 0 else if bs.getD p 0 < 2 * el (cM (nbs (bW n x) p)) s then 1 else 0:=by
 unfold fq
 rw [show (bX n x bs (aR m q)).stays=aR m q from rfl,kx,if_pos h1,OO (by omega)]
 rfl
theorem Jk {a:Int}{p:Nat}(h:p < n):(List.replicate n a).getD p 0=a:=by simp [List.getD,h]
theorem Mr (hn:n=m + q)(n30:n≤30)(w1:1≤x):cS (bX n x (List.replicate n (-1)) (aR m q)) n s=Cd n:=by
 refine qM fun p hp => ?_
 by_cases c:p < m
 ·have:=(xk (s:=s) n30 w1 p).1
  rw [iK hn c,Jk hp,if_neg (by omega),if_pos (by omega)]
 ·exact kB hn (by omega) hp
abbrev low (n m:Nat):List Int:=mkS n fun i=>if i < m then 0 else 1
theorem Ms (hn:n=m + q)(n30:n≤30)(w1:1≤x):cS (bX n x (List.replicate n (60 * x)) (aR m q)) n s=low n m:=by
 refine qM fun p hp => ?_
 by_cases c:p < m
 ·have:=(xk (s:=s) n30 w1 p).2
  rw [iK hn c,Jk hp,if_neg (by omega),if_neg (by omega),if_pos c]
 ·rw [if_neg c];exact kB hn (by omega) hp
abbrev bsB (n:Nat) (x:Int):List Int:=0 :: List.replicate (n - 1) (2 * x - 1)
theorem Jl {p:Nat}(h0:1≤p)(h:p < n):(bsB n x).getD p 0=2 * x - 1:=by
 obtain⟨k,rfl⟩ : ∃ k,p=k + 1:=⟨p - 1,by omega⟩
 have:k < n - 1:=by omega
 simp [List.getD,this]
theorem Ce (hn:n=m + q)(n30:n≤30)(w1:1≤x)(h0:s.getD 0 0=1):cS (bX n x (bsB n x) (aR m q)) n s=Cd n:=by
 refine qM fun p hp => ?_
 by_cases c:p < m
 ·have h:=(xk (s:=s) n30 w1 p).1
  rw [iK hn c]
  by_cases p0:p=0
  ·subst p0
   rw [show (bsB n x).getD 0 0=0 from rfl]
   by_cases z:2 * el (cM (nbs (bW n x) 0)) s=0
   ·rw [if_pos z];exact h0
   ·rw [if_neg z,if_pos (by omega)]
  ·have g:=vv (s:=s) w1 (p:=p) (j:=0) (n:=n) (pO.mpr ⟨rfl,.inr ⟨by omega,hp,rfl⟩⟩) h0
   rw [Jl (by omega) hp,if_neg (by omega),if_pos (by omega)]
 ·exact kB hn (by omega) hp
theorem OP (hn:n=m + q)(n30:n≤30)(w1:1≤x)(hq:1≤q)(hj:s.getD (n - 1) 0=1):(cS (bX n x (bsB n x) (aR m q)) n s).getD 0 0=1:=by
 have n0:0 < n:=by omega
 rw [show (cS (bX n x (bsB n x) (aR m q)) n s).getD 0 0=fq (bX n x (bsB n x) (aR m q)) s 0 from qL n0]
 by_cases c:0 < m
 ·have g:=vv (s:=s) w1 (p:=0) (j:=n - 1) (n:=n) (pO.mpr ⟨rfl,.inl ⟨rfl,by omega,by omega⟩⟩) hj
  rw [iK hn c,show (bsB n x).getD 0 0=0 from rfl,if_neg (by omega),if_pos (by omega)]
 ·exact kB hn (by omega) n0
theorem Cf (w1:1≤x):cS (bX n x (bsB n x) (aR n 0)) n (mkS n fun _=>0)=mkS n fun _=>0:=by
 refine qM fun p hp => ?_
 have g:el (cM (nbs (bW n x) p)) (mkS n fun _=>0)=0:=FL fun z hz e=>by
  have:(mkS n fun _=>0).getD z.1 0=0:=by
   by_cases c:z.1 < n
   ·exact qL c
   ·simp [List.getD,c]
  rw [this] at e;cases e
 rw [iK (q:=0) (m:=n) (n:=n) (Nat.add_zero n).symm hp,g]
 by_cases p0:p=0
 ·subst p0
  rw [show (bsB n x).getD 0 0=0 from rfl,if_pos (by omega)]
  exact qL hp
 ·rw [Jl (by omega) hp,if_neg (by omega),if_neg (by omega)]
end
section
variable {n m q:Nat} {x:Int} {l:List Nat}
theorem Jm {bs:List Int}(hn:n=m + q){i:Nat}(hi:i < n):(dJ (bX n x bs (aR m q)) n l).getD i 0=if i∈l∨m≤i then 1 else 0:=by
 unfold dJ
 rw [show ((List.range n).map fun i=>if i∈l∨(bX n x bs (aR m q)).stays.getD i none=some 1 then (1:Int) else 0).getD i 0=_ from qL hi]
 rw [show (bX n x bs (aR m q)).stays=aR m q from rfl,kx]
 by_cases c:i < m
 ·have : ¬ m≤i:=by omega
  simp [c,this]
 ·have h1:m≤i:=by omega
  have h2:i < m + q:=by omega
  simp [c,h1,h2]
theorem Qg (hn:n=m + q)(n30:n≤30)(w1:1≤x)(l:List Nat):fg (bX n x (List.replicate n (-1)) (aR m q)) n (dJ (bX n x (List.replicate n (-1)) (aR m q)) n l) true :=
 kA (K:=Cd n) (Mr hn n30 w1) (Mr hn n30 w1) (by rw [decide_eq_true EE])
theorem Mt (hn:n=m + q)(n30:n≤30)(w1:1≤x)(l:List Nat):fg (bX n x (List.replicate n (60 * x)) (aR m q)) n (dJ (bX n x (List.replicate n (60 * x)) (aR m q)) n l) (decide (m=0)):=by
 refine kA (K:=low n m) (Ms hn n30 w1) (Ms hn n30 w1) ?_
 by_cases c:m=0
 ·rw [decide_eq_true c,decide_eq_true]
  intro h
  obtain⟨i,_,e⟩:=List.mem_map.mp h
  rw [if_neg (by omega)] at e
  cases e
 ·rw [decide_eq_false c,decide_eq_false]
  exact fun h=>h (List.mem_map.mpr ⟨0,List.mem_range.mpr (by omega),if_pos (by omega)⟩)
theorem Mu (hn:n=m + q)(n1:1≤n)(n30:n≤30)(w1:1≤x)(h:1≤q∨0∈l):fg (bX n x (bsB n x) (aR m q)) n (dJ (bX n x (bsB n x) (aR m q)) n l) true:=by
 have fix:cS (bX n x (bsB n x) (aR m q)) n (Cd n)=Cd n:=Ce hn n30 w1 (qL (by omega))
 refine kA (K:=Cd n) ?_ fix (by rw [decide_eq_true EE])
 show cS _ n (cS _ n (dJ (bX n x (bsB n x) (aR m q)) n l))=_
 rcases h with h|h
 ·exact Ce hn n30 w1 (OP hn n30 w1 h (by rw [Jm hn (by omega),if_pos (.inr (by omega))]))
 ·rw [Ce (s:=dJ (bX n x (bsB n x) (aR m q)) n l) hn n30 w1 (by rw [Jm hn (by omega),if_pos (.inl h)]),fix]
theorem OQ (n1:1≤n)(w1:1≤x):fg (bX n x (bsB n x) (aR n 0)) n (dJ (bX n x (bsB n x) (aR n 0)) n []) false:=by
 have e:dJ (bX n x (bsB n x) (aR n 0)) n [] = mkS n fun _=>0:=by
  refine qM fun i hi => ?_
  rw [show (bX n x (bsB n x) (aR n 0)).stays=aR n 0 from rfl,kx,if_pos hi]
  simp
 rw [e]
 refine kA (K:=mkS n fun _=>0) ?_ (Cf w1) ?_
 ·show cS _ n (cS _ n (mkS n fun _=>0))=_
  rw [Cf w1,Cf w1]
 ·rw [decide_eq_false]
  exact fun h=>h (List.mem_map.mpr ⟨0,List.mem_range.mpr (by omega),rfl⟩)
end
end Fm
namespace Fm
def kyL (l:List Nat):List Int:=l.map fun k:Nat=>(k:Int)
theorem iL:∀ l:List Nat,dj (NL l)=some (kyL l)
 | []=>rfl
 | x :: l=>by
  show (dj (NL l)).map ((x:Int) :: ·)=_
  rw [iL l];rfl
theorem qN {mm:List (List Int × D)}{k key:List Int}{v:D}(h:dk mm k=none):dk (mm++[(k,v)]) key=if key=k then some v else dk mm key:=by
 unfold dk at h ⊢
 rw [List.find?_append]
 by_cases c:key=k
 ·subst c
  have:mm.find? (fun p=>decide (p.1=key))=none:=Option.map_eq_none_iff.mp h
  rw [this];simp
 ·have : ¬ k=key:=fun z=>c z.symm
  rw [if_neg c]
  simp [this]
theorem FM {mm:List (List Int × D)}{k:List Int}{v:D}(h:dk mm k=none):qq mm k v=mm++[(k,v)]:=by
 unfold qq
 rw [if_neg]
 intro z
 obtain⟨p,hp,e⟩:=List.any_eq_true.mp z
 have h2:mm.find? (fun p=>decide (p.1=k))=none:=Option.map_eq_none_iff.mp h
 exact List.find?_eq_none.mp h2 p hp e
theorem vw {k:List Int}{l:List D}{n:Nat}{h:Hd}{mm:List (List Int × D)}(e:dj l=some k)(p:h[n]? = some (.dcT mm)):lP (.tup l) (.ref n) h=.ok (.bl (!(dk mm k).isSome)) h:=by
 simp only [lP,e,p]
theorem LC {x i e:EF}{σ:Sd}{h h1 h2 h3:Hd}{v:D}{n:Nat}{l:List D}{k:List Int}{mm:List (List Int × D)}(p:e σ h=.ok v h1)(q:x σ h1=.ok (.ref n) h2)(r:i σ h2=.ok (.tup l) h3)(c:dj l=some k)(g:h3[n]? = some (.dcT mm))(z:mm.length < SZ):Ep x i e σ h=.nx σ (h3.set n (.dcT (qq mm k v))):=by
 simp only [Ep,outE,p,q,r,c,g,if_pos z]
theorem EG {a b:EF}{σ:Sd}{h h1 h2:Hd}{n:Nat}{l:List D}{k:List Int}{mm:List (List Int × D)}{v:D}(p:a σ h=.ok (.ref n) h1)(q:b σ h1=.ok (.tup l) h2)(c:dj l=some k)(g:h2[n]? = some (.dcT mm))(z:dk mm k=some v):Il a b σ h=.ok v h2 :=
 aq p q (by simp only [Er,c,g,z])
structure Kn (b:Bool) (l:List Nat) (mm mm':List (List Int × D)):Prop where
 len:mm'.length≤mm.length + 1
 pu:(mm'.all fun p=>pure? p.2)=true
 val:∀ key,dk mm' key=if key=kyL l then some (.bl b) else dk mm key
theorem qO {w:Web}{n:Nat}{l:List Nat}{b:Bool}(W:w.Ok n)(n30:n≤30)(S:gy w)(C:Ch w n l){h:Hd}{k d:Nat}{mm:List (List Int × D)}(hk:h[k]? = some (.lst (NL l)))(hd:h[d]? = some (.dcT mm))(hz:mm.length < 1000)(pu:(mm.all fun p=>pure? p.2)=true)(E:fg w n (dJ w n l) b)(hv:dk mm (kyL l)=none∨dk mm (kyL l)=some (.bl b)) :
  ∃ mm',fU [w.enc,.ref k,.ref d] h=.ok (.bl b) (h.set d (.dcT mm'))∧Kn b l mm mm':=by
 have dl:d < h.length:=(List.getElem?_eq_some_iff.mp hd).1
 rcases hv with hv|hv
 ·obtain⟨t,t1,t2,t3,t4⟩:=E.go
  have ta:=xj W n30 S C hk rfl t2 t3 t1
  obtain⟨g,hg⟩ : ∃ g:Hd,g=[.lst ((aZ w n (dJ w n l) (t + 2)).map aD),.lst ((Jh w n (dJ w n l) t).map aD)]:=⟨_,rfl⟩
  rw [← hg] at ta
  have hd1:(h++g)[d]? = some (.dcT mm):=ay _ hd
  have eq:oEq (Cc w n (dJ w n l) t) (.str [116,117,114,110]) (h++g)=.ok (.bl b) (h++g):=by
   rw [t4];cases b<;>rfl
  have sg:(h++g).set d (.dcT (mm++[(kyL l,.bl b)]))=h.set d (.dcT (mm++[(kyL l,.bl b)]))++g:=List.set_append_left _ _ dl
  refine⟨mm++[(kyL l,.bl b)],?_,⟨by simp,by simp [pu,pure?],fun key=>qN hv⟩⟩
  refine Eq.trans (br (σ:=[some w.enc,some (.ref k),some (.ref d),none]) rfl rfl (sx (aM (i8 (cD rfl (bF hk)))) (sx (Eq.trans (qy (aY (aq rfl rfl (Eq.trans (vw (iL l) hd) (by rw [hv];rfl))))) (Eq.trans (LC (aq (bz (aw (cP rfl rfl) ta) rfl rfl rfl) rfl eq) rfl rfl (iL l) hd1 (Nat.lt_trans hz (by decide))) (by rw [FM hv,sg]))) (aP (EG rfl rfl (iL l) (ay _ (List.getElem?_set_self dl)) (by rw [qN hv,if_pos rfl])))))) ?_
  refine Fs rfl (by simp) fun i c hi hc => ?_
  rw [ZC (by simpa using hi)] at hc
  by_cases e:d=i
  ·subst e
   rw [List.getElem?_set_self dl] at hc
   cases hc
   exact .inr (by simp [p9,pu,pure?])
  ·rw [ZP e] at hc
   exact .inl hc
 ·refine⟨mm,?_,⟨by omega,pu,fun key=>by by_cases c:key=kyL l;(· rw [if_pos c,c];exact hv);(· rw [if_neg c])⟩⟩
  have hs:h.set d (.dcT mm)=h:=by
   apply List.ext_getElem?
   intro i
   by_cases e:d=i
   ·subst e;rw [List.getElem?_set_self dl,hd]
   ·rw [ZP e]
  rw [hs]
  exact Eq.trans (br (σ:=[some w.enc,some (.ref k),some (.ref d),none]) rfl rfl (sx (aM (i8 (cD rfl (bF hk)))) (sx (dh (aY (aq rfl rfl (Eq.trans (vw (iL l) hd) (by rw [hv];rfl))))) (aP (EG rfl rfl (iL l) hd hv))))) aH
end Fm
namespace Fm
abbrev rf (Z:List (Nat × List Nat)):List D:=Z.map fun z=>D.ref z.1
abbrev LZ (h:Hd) (Z:List (Nat × List Nat)):Prop:=∀ z∈Z,h[z.1]? = some (.lst (NL z.2))
theorem LZ.more {h:Hd}{Z:List (Nat × List Nat)}(z:LZ h Z)(g:Hd):LZ (h++g) Z:=fun x hx=>ay g (z x hx)
theorem jb {g:Option Nat}{all:List D}{tg:GF}{e:EF}{x:D}{xs ds:List D}{σ σ':Sd}{h h1 h2:Hd}{d:D}(hh:iW g all h)(t:tg x σ = some σ')(e1:e σ' h=.ok d h1)(r:b0 g all tg [] e xs σ' h1=.ok ds h2):b0 g all tg [] e (x :: xs) σ h=.ok (d :: ds) h2:=by
 simp [b0,hh,t,gJ,e1,r]
theorem jc {a b:EF}{σ:Sd}{h h1 h2:Hd}{n m:Nat}{l k:List D}(p:a σ h=.ok (.ref n) h1)(q:b σ h1=.ok (.ref m) h2)(c1:h2[n]? = some (.lst l))(c2:h2[m]? = some (.lst k))(z:l.length + k.length≤SZ):dv a b σ h=.ok (l++k) h2:=by
 simp only [dv,p,aN,q,c1,c2,if_pos z]
theorem LD (v:List Nat)(p:Nat):NL v++[.int (p:Nat)] = NL (v++[p]):=by simp
theorem Qh {L p:Nat}{all:List D}:∀ {Z:List (Nat × List Nat)} {h:Hd} {a:Option D},h[L]? = some (.lst all)→LZ h Z→(∀ z∈Z,z.2.length≤30) →
  ∃ Z' g,b0 (some L) all (gN 0) [] (aG (dv (aa 0) (aG (ad (aa 1) aj)))) (rf Z) [a,some (.int (p:Nat))] h=.ok (rf Z') (h++g)∧LZ (h++g) Z'∧Z'.map (·.2)=(Z.map (·.2)).map (· ++ [p])
 | [],h,a,hL,_,_=>⟨[],[],(by simp [b0,iW,hL]),(fun z hz=>nomatch hz),rfl⟩
 | (b,v) :: Z,h,a,hL,hz,hl=>by
  have hb:h[b]? = some (.lst (NL v)):=hz (b,v) (.head _)
  have lv:v.length≤30:=hl (b,v) (.head _)
  have e1:aG (ad (aa 1) aj) [some (.ref b),some (.int (p:Nat))] h=.ok (.ref h.length) (h++[.lst [.int (p:Nat)]]):=bQ (ah rfl rfl) (by simp [SZ])
  have e2:aG (dv (aa 0) (aG (ad (aa 1) aj))) [some (.ref b),some (.int (p:Nat))] h=.ok (.ref (h++[cT.lst [.int (p:Nat)]]).length) (h++[.lst [.int (p:Nat)]]++[.lst (NL (v++[p]))]):=by
   refine Eq.trans (bQ (jc rfl e1 (ay _ hb) ZG (by simp [SZ];omega)) (by simp [SZ];omega)) ?_
   rw [LD]
  obtain⟨Z',g,q1,q2,q3⟩:=Qh (p:=p) (all:=all) (Z:=Z) (h:=h++[.lst [.int (p:Nat)]]++[.lst (NL (v++[p]))]) (a:=some (.ref b)) (ay _ (ay _ hL)) (LZ.more (LZ.more (fun z hz'=>hz z (.tail _ hz')) _) _) (fun z hz'=>hl z (.tail _ hz'))
  refine⟨((h++[cT.lst [.int (p:Nat)]]).length,v++[p]) :: Z',[.lst [.int (p:Nat)],.lst (NL (v++[p]))]++g,?_,?_,?_⟩
  ·refine Eq.trans (jb (σ':=[some (.ref b),some (.int (p:Nat))]) hL rfl e2 q1) ?_
   simp
  ·have ap:h++([.lst [.int (p:Nat)],.lst (NL (v++[p]))]++g)=h++[.lst [.int (p:Nat)]]++[.lst (NL (v++[p]))]++g:=by simp
   rw [ap]
   intro z hz'
   rcases List.mem_cons.mp hz' with rfl|hz'
   ·exact ay _ ZG
   ·exact q2 z hz'
  ·simp [q3]
def hZ (l:List Nat):List (List Nat):=l.foldl (fun acc p=>acc++acc.map (· ++ [p])) [[]]
theorem iM (l:List Nat)(p:Nat):hZ (l++[p])=hZ l++(hZ l).map (· ++ [p]):=by simp [hZ]
theorem qP (l:List Nat):∀ k,k=l.length→(hZ l).length=2 ^ k:=by
 intro k
 induction k generalizing l with
 | zero=>intro h;rw [List.length_eq_zero_iff.mp h.symm];rfl
 | succ k ih =>
  intro h
  have:l≠[]:=fun z=>by rw [z] at h;cases h
  rw [← List.dropLast_concat_getLast this,iM,ZB,ZA,ih l.dropLast (by rw [List.length_dropLast];omega),Nat.pow_succ]
  omega
theorem EH {h:Hd}:∀ {Z:List (Nat × List Nat)},LZ h Z→zB h (rf Z)=some (Z.map fun z=>(z.2.length:Int))
 | [],_=>rfl
 | (b,v) :: Z,hz=>by
  have hb:h[b]? = some (.lst (NL v)):=hz (b,v) (.head _)
  have e:zA h (.ref b)=some (v.length:Int):=by simp [zA,hb]
  show (match zA h (.ref b),zB h (rf Z) with|some k,some kz=>some (k :: kz)|_,_=>none)=_
  rw [e,EH fun z hz'=>hz z (.tail _ hz')]
  rfl
theorem LE (Z:List (Nat × List Nat)):(Ts.byK (·.1) ((Z.map fun z=>(z.2.length:Int)).zip (rf Z))).map (·.2)=rf (Ts.byK (fun z:Nat × List Nat=>(z.2.length:Int)) Z):=by
 have:(Z.map fun z=>(z.2.length:Int)).zip (rf Z)=Z.map fun z=>((z.2.length:Int),D.ref z.1):=by
  rw [List.zip_map']
 rw [this,Ts.byK_map (fun z:Nat × List Nat=>((z.2.length:Int),D.ref z.1)) (fun z=>(z.2.length:Int)) (·.1) (fun _=>rfl),List.map_map]
 rfl
def QZ (f:Nat) (fr:List Nat) (h:Hd) (i:Nat) (σ:Sd) (h':Hd):Prop:=∃ L g Z y,σ = [some (.ref f),some (.ref L),y]∧h'=h++g∧h'[L]? = some (.lst (rf Z))∧LZ h' Z∧Z.map (·.2)=hZ (fr.take i) ∧ ∀ z∈Z,z.2.length≤i
theorem zY {f:Nat}{fr:List Nat}{h:Hd}(hf:h[f]? = some (.lst (NL fr)))(l9:fr.length≤9) :
  ∃ g K Z,gz [.ref f] h=.ok (.ref K) (h++g)∧(h++g)[K]? = some (.lst (rf Z))∧LZ (h++g) Z∧Z.map (·.2)=Ts.byK (fun v:List Nat=>(v.length:Int)) (hZ fr):=by
 obtain⟨_,_,k1,L,g,Z,y,rfl,rfl,hL,hz,e,ll⟩:=iw (P:=QZ f fr h) (g:=some f) (k:=0) (all:=NL fr) (fun _ _ _ p=>by obtain⟨_,_,_,_,_,rfl,_⟩:=p;exact ay _ hf) (xs:=NL fr) (tg:=gN 2) (σ:=[some (.ref f),some (.ref (h.length + 1)),none]) (h:=h++[.lst [],.lst [.ref h.length]]) (b:=oJ) (by
   rintro i x _ _ hx ⟨L,g,Z,y,rfl,rfl,hL,hz,e,ll⟩
   have hi:i < fr.length:=by have:=(List.getElem?_eq_some_iff.mp hx).1;rwa [ZA] at this
   rw [ZQ,ZE hi] at hx
   cases hx
   rw [Nat.zero_add] at e ll ⊢
   obtain⟨Z',g',q1,q2,q3⟩:=Qh (p:=fr[i]) (a:=none) hL hz (fun z hz'=>ZM (ll z hz') (by omega))
   have zl:Z.length≤512:=by
    have:=congrArg List.length e
    rw [ZA,qP _ i (by simp;omega)] at this
    rw [this]
    exact Nat.pow_le_pow_right (by decide) (show i≤9 by omega)
   have zl':Z'.length=Z.length:=by have:=congrArg List.length q3;simpa using this
   have e1:aG (cQ 1 [2] (iV (aa 1)) (gN 0) [] (aG (dv (aa 0) (aG (ad (aa 1) aj))))) [some (.ref f),some (.ref L),some (.int (fr[i] : Nat))] (h++g)=.ok (.ref (h++g++g').length) (h++g++g'++[.lst (rf Z')]):=bQ (dW (e9 rfl hL) q1) (by simp [SZ];omega)
   have e2:aG (dv (aa 1) (aG (cQ 1 [2] (iV (aa 1)) (gN 0) [] (aG (dv (aa 0) (aG (ad (aa 1) aj))))))) [some (.ref f),some (.ref L),some (.int (fr[i] : Nat))] (h++g)=.ok (.ref (h++g++g'++[cT.lst (rf Z')]).length) (h++g++g'++[.lst (rf Z')]++[.lst (rf Z++rf Z')]):=bQ (jc rfl e1 (ay _ (ay _ hL)) ZG (by simp [SZ];omega)) (by simp [SZ];omega)
   refine⟨_,rfl,_,_,aM e2,?_⟩
   have ap:h++g++g'++[.lst (rf Z')]++[.lst (rf Z++rf Z')] = h++(g++(g'++([.lst (rf Z')]++[.lst (rf Z++rf Z')]))):=by simp
   have c1:(h++g++g'++[.lst (rf Z')]++[.lst (rf Z++rf Z')])[(h++g++g'++[cT.lst (rf Z')]).length]? = some (.lst (rf (Z++Z'))):=by rw [ZG,show rf (Z++Z')=rf Z++rf Z' from ZR]
   have c2:LZ (h++g++g'++[.lst (rf Z')]++[.lst (rf Z++rf Z')]) (Z++Z'):=fun z hz'=>by
    rcases List.mem_append.mp hz' with hz'|hz'
    ·exact ay _ (ay _ (ay _ (hz z hz')))
    ·exact ay _ (ay _ (q2 z hz'))
   rw [ap] at c1 c2 ⊢
   refine⟨_,_,Z++Z',_,rfl,rfl,c1,c2,?_,fun z hz' => ?_⟩
   ·rw [ZR,q3,e,List.take_succ_eq_append_getElem hi,iM]
   ·rcases List.mem_append.mp hz' with hz'|hz'
    ·exact Nat.le_succ_of_le (ll z hz')
    ·have:z.2∈Z'.map (·.2):=List.mem_map.mpr ⟨z,hz',rfl⟩
     rw [q3,List.map_map] at this
     obtain⟨z0,h0,e0⟩:=List.mem_map.mp this
     have:=ll z0 h0
     rw [← e0];simp;omega) ⟨_,_,[(h.length,[])],_,rfl,rfl,by simp,fun z hz=>by
    rw [List.mem_singleton.mp hz];simp,rfl,fun z hz=>by rw [List.mem_singleton.mp hz];exact ZL _⟩
 rw [Nat.zero_add,ZA,List.take_length] at e
 have zl:Z.length≤512:=by
  have:=congrArg List.length e
  rw [ZA,qP _ _ rfl] at this
  rw [this]
  exact Nat.pow_le_pow_right (by decide) l9
 have so:jR (aa 1) [some (.ref f),some (.ref L),y] (h++g)=.ok (rf (Ts.byK (fun z:Nat × List Nat=>(z.2.length:Int)) Z)) (h++g):=by
  unfold jR
  have l1:aS (h++g) (.ref L)=some (rf Z):=by simp [aS,hL]
  show (match aS (h++g) (.ref L) with|some l=>_|none=>_)=_
  rw [l1]
  simp only [EH hz]
  rw [if_pos (by simp;omega),LE]
 have pm:=Ts.byK_perm (fun z:Nat × List Nat=>(z.2.length:Int)) Z
 refine⟨g++[.lst (rf (Ts.byK (fun z:Nat × List Nat=>(z.2.length:Int)) Z))],(h++g).length,Ts.byK (fun z:Nat × List Nat=>(z.2.length:Int)) Z,?_,?_,?_,?_⟩
 ·have b:aG (ad (aG aj) aj) [some (.ref f),none,none] h=.ok (.ref (h.length + 1)) (h++[.lst [],.lst [.ref h.length]]):=by
   refine Eq.trans (bQ (ah (bQ rfl (by decide)) rfl) (by simp [SZ])) ?_
   simp
  refine Eq.trans (br (σ:=[some (.ref f),none,none]) rfl rfl (sx (aM b) (sx (k7 (e9 rfl (ay _ hf)) k1) (aP (bQ so (by rw [ZA,pm.length_eq];simp [SZ];omega)))))) (cV.trans ?_)
  rw [ZU]
 ·rw [← ZU];exact ZG
 ·rw [← ZU]
  exact LZ.more (fun z hz'=>hz z (pm.mem_iff.mp hz')) _
 ·rw [← e,Ts.byK_map (fun z:Nat × List Nat=>z.2) (fun z=>(z.2.length:Int)) (fun v:List Nat=>(v.length:Int)) (fun _=>rfl)]
end Fm
namespace Fm
theorem OR {n np:Nat}{b:SF}{ds:List D}{h h':Hd}{σ σ':Sd}{x:D}(hl:ds.length=np)(st:(ds.map some++List.replicate (n - ds.length) none:Sd) = σ)(e:b σ h=.exc x σ' h'):bN np n b ds h=.exc x h':=by
 unfold bN runB
 rw [if_pos hl,st,e]
 rfl
theorem LG {a b:SF}{σ σ':Sd}{h h':Hd}{x:D}(e:a σ h=.exc x σ' h'):aC a b σ h=.exc x σ' h':=by simp only [aC,e]
theorem Jn {t:TF}{a b:SF}{σ:Sd}{h h':Hd}(e:t σ h=.ok false h'):Bx t a b σ h=b σ h':=by unfold Bx;rw [e];rfl
theorem LH {t:TF}{c:String}{b:SF}{σ:Sd}{h h':Hd}(e:t σ h=.ok true h'):Bx t (wy c) b σ h=.exc (.exn c []) σ h':=by unfold Bx;rw [e];rfl
theorem Jo {F:Fn}{r:LF}{σ:Sd}{h h1 h':Hd}{ds:List D}{x:D}(a:r σ h=.ok ds h1)(b:F ds h1=.exc x h'):au F r σ h=.exc x h':=by
 show Res.bind _ _=_;rw [a];exact b
theorem EI {g:Option Nat}{all:List D}{tg:GF}{b:SF}{x:D}{xs:List D}{σ σ' σ'':Sd}{h h':Hd}(hh:iW g all h)(t:tg x σ = some σ')(e:b σ' h=.nx σ'' h'):gG g all tg b (x :: xs) σ h=gG g all tg b xs σ'' h':=by
 rw [gG,if_pos hh,t];simp only [e]
theorem Mv {α : Type}{f:Sd→Hd→Res α}{σ:Sd}{h h':Hd}{x : α}(p:f σ h=.ok x h'):fPl f σ h=.ok x h':=by unfold fPl;rw [p];rfl
theorem vx {f:SF}{σ σ':Sd}{h h':Hd}(p:f σ h=.nx σ' h'):sPl f σ h=.nx σ' h':=by unfold sPl;rw [p]
theorem Mw {f:SF}{σ:Sd}{h h':Hd}{d:D}(p:f σ h=.rt d h'):sPl f σ h=.rt d h':=by unfold sPl;rw [p]
theorem LJ {i:Nat}{e:EF}{σ:Sd}{h h':Hd}{x:D}(p:e σ h=.exc x h'):bd (gN i) e σ h=.exc x σ h':=by show outE _ _ _=_;rw [p];rfl
theorem OS {n i:Nat}{cs:List String}{b:SF}{σ σ':Sd}{h h':Hd}(p:b σ h=.nx σ' h'):By n i cs b σ h=.nx σ' h':=by unfold By;rw [p]
theorem OT {n i:Nat}{cs:List String}{b:SF}{σ σ':Sd}{h h':Hd}{c:String}(p:b σ h=.exc (.exn c []) σ' h')(q:c∈cs):By n i cs b σ h=.nx ((List.replicate n none).set i (some (.exn c []))) h':=by unfold By;rw [p];exact if_pos q
theorem OU {tb:List (String × Bool)}{a:EF}{σ:Sd}{h h1:Hd}{c:String}{l:List D}{b:Bool}(p:a σ h=.ok (.exn c l) h1)(q:tb.lookup c=some b):eD tb a σ h=.ok (.bl b) h1:=by
 unfold eD;rw [p,aN];simp only [isX,q]
theorem EJ {g:Option Nat}{all:List D}{tg:GF}{b:SF}{x:D}{xs:List D}{σ σ':Sd}{h h':Hd}{d:D}(hh:iW g all h)(t:tg x σ = some σ')(e:b σ' h=.rt d h'):gG g all tg b (x :: xs) σ h=.rt d h':=by
 rw [gG,if_pos hh,t];simp only [e]
abbrev TMx:D:=.exn "TooMuch" []
def BL (j:Int):List D:=((List.range 9).map fun k:Nat=>D.bl (decide ((k:Int)=j)))++[.bl true]
theorem OV (j:Int)(h:Hd):∃ k g,gS [.int j] h=.ok (.ref k) (h++g)∧(h++g)[k]? = some (.lst (BL j))∧h.length≤k:=by
 obtain⟨A,hA⟩ : ∃ A,A=h.length:=⟨_,rfl⟩
 obtain⟨L9,hL9⟩ : ∃ L9:List D,L9=(List.range 9).map fun k:Nat=>D.bl (decide ((k:Int)=j)):=⟨_,rfl⟩
 have l9:L9.length=9:=by rw [hL9,ZA,ZO]
 have cp:b0 none ((List.range 9).map fun k:Nat=>D.int k) (gN 0) [] (ak oEq (aa 0) (aa 1)) ((List.range 9).map fun k:Nat=>D.int k) [none,some (.int j)] h=.ok L9 h:=by
  have:=cC (g:=none) (all:=(List.range 9).map fun k:Nat=>D.int k) (tg:=gN 0) (cs:=[]) (e:=ak oEq (aa 0) (aa 1)) (h:=h) (I:=fun σ=>∃ x,σ = [x,some (.int j)]) (fun _=>true) (fun d=>match d with | .int i=>.bl (decide (i=j))|_=>.non) trivial (xs:=(List.range 9).map fun k:Nat=>D.int k) (σ:=[none,some (.int j)]) (by
   rintro x hx σ ⟨u,rfl⟩
   obtain⟨i,hi,rfl⟩:=List.mem_map.mp hx
   exact⟨_,rfl,⟨_,rfl⟩,rfl,fun _=>rfl⟩) ⟨_,rfl⟩
  rw [this,List.filter_eq_self.mpr (fun _ _=>rfl),List.map_map,hL9];rfl
 have e1:aG (cQ 1 [0] (dL (fC (.int 9))) (gN 0) [] (ak oEq (aa 0) (aa 1))) [some (.int j)] h=.ok (.ref A) (h++[.lst L9]):=wW hA (dW (jS (n:=9) rfl (by decide)) cp) (by rw [l9];decide)
 have e2:aG (ad (fC (.bl true)) aj) [some (.int j)] (h++[.lst L9])=.ok (.ref (A + 1)) (h++[.lst L9,.lst [.bl true]]):=i7 (g:=[.lst L9]) hA (ah rfl rfl) (by exact of_decide_eq_true rfl)
 have e3:dv (aG (cQ 1 [0] (dL (fC (.int 9))) (gN 0) [] (ak oEq (aa 0) (aa 1)))) (aG (ad (fC (.bl true)) aj)) [some (.int j)] h=.ok (L9++[.bl true]) (h++[.lst L9,.lst [.bl true]]):=jc e1 e2 (e8 hA 0) (e8 hA 1) (by rw [l9];decide)
 refine⟨A + 2,[.lst L9,.lst [.bl true],.lst (L9++[.bl true])],?_,(e8 hA 2).trans (by rw [hL9];rfl),by omega⟩
 exact (br rfl rfl (aP (i7 (g:=[.lst L9,.lst [.bl true]]) hA e3 (by rw [ZB,l9];decide)))).trans cV
theorem OW:eqL (BL 2) (BL 2)=some true:=by
 simp [BL,eqL,ik,peq,o4,dep,List.range,List.range.loop]
theorem EK {h:Hd}{a c:Nat}{l k:List D}{b:Bool}(h1:h[a]? = some (.lst l))(h2:h[c]? = some (.lst k))(e:eqL l k=some b):oEq (.ref a) (.ref c) h=.ok (.bl b) h:=by
 simp only [oEq,eqG,aS,h1,h2,e]
theorem Jp (h:Hd):∃ k g,iD [TMx] h=.ok (.ref k) (h++g)∧(h++g)[k]? = some (.lst (BL 2)):=by
 obtain⟨A,hA⟩ : ∃ A,A=h.length:=⟨_,rfl⟩
 obtain⟨x,hx⟩ : ∃ x:D,x=TMx:=⟨_,rfl⟩
 have l0 : [("TooMuch",false)].lookup "TooMuch" = some false:=by decide
 have l1 : [("TooMuch",true)].lookup "TooMuch" = some true:=by decide
 have iX:∀ {tb:List (String × Bool)} {b:Bool} (y:Option D) (g:Hd),tb.lookup "TooMuch" = some b→eD tb (aa 0) [some x,y] g=.ok (.bl b) g:=fun y g q=>OU (c := "TooMuch") (l:=[]) (by rw [hx];rfl) q
 have bl:BL 2=[.bl false,.bl false,.bl true]++[.bl false,.bl false,.bl false]++[.bl false,.bl false,.bl false]++[.bl true]:=rfl
 have s0:sIf (tE (ak kR (aa 0) (fC .non))) (aT (aG aj)) bM [some x,none] h=.nx [some x,none] h:=dh (aY (aq (x:=x) rfl rfl (by rw [hx];rfl)))
 obtain⟨C0,hC0⟩ : ∃ C0:cT,C0=.lst [.bl false,.bl false,.bl true]:=⟨_,rfl⟩
 obtain⟨C1,hC1⟩ : ∃ C1:cT,C1=.lst [.bl false,.bl false,.bl false]:=⟨_,rfl⟩
 obtain⟨C2,hC2⟩ : ∃ C2:cT,C2=.lst ([.bl false,.bl false,.bl true]++[.bl false,.bl false,.bl false]):=⟨_,rfl⟩
 obtain⟨C4,hC4⟩ : ∃ C4:cT,C4=.lst ([.bl false,.bl false,.bl true]++[.bl false,.bl false,.bl false]++[.bl false,.bl false,.bl false]):=⟨_,rfl⟩
 obtain⟨C5,hC5⟩ : ∃ C5:cT,C5=.lst [.bl true]:=⟨_,rfl⟩
 have s1:bd (gN 1) (aG (ad (eD [("TooMuch",false)] (aa 0)) (ad (eD [("TooMuch",false)] (aa 0)) (ad (eD [("TooMuch",true)] (aa 0)) aj)))) [some x,none] h=.nx [some x,some (.ref A)] (h++[C0]):=by
  rw [hC0];exact aM (wW hA (ah (iX _ _ l0) (cP (iX _ _ l0) (iX _ _ l1))) (by exact of_decide_eq_true rfl))
 have n3:∀ (k:Nat) (g:Hd),aG (ad (eD [("TooMuch",false)] (aa 0)) (ad (eD [("TooMuch",false)] (aa 0)) (ad (eD [("TooMuch",false)] (aa 0)) aj))) [some x,some (.ref k)] (h++g)=.ok (.ref (A + g.length)) (h++(g++[C1])):=fun k g=>by
  rw [hC1];exact i7 hA (ah (iX _ _ l0) (cP (iX _ _ l0) (iX _ _ l0))) (by exact of_decide_eq_true rfl)
 have s2:bd (gN 1) (aG (dv (aa 1) (aG (ad (eD [("TooMuch",false)] (aa 0)) (ad (eD [("TooMuch",false)] (aa 0)) (ad (eD [("TooMuch",false)] (aa 0)) aj)))))) [some x,some (.ref A)] (h++[C0])=.nx [some x,some (.ref (A + 2))] (h++[C0,C1,C2]):=by
  rw [hC2]
  exact aM (i7 (g:=[C0,C1]) hA (jc rfl (n3 A [C0]) (by rw [hC0];exact e8 hA 0) (by rw [hC1];exact e8 hA 1) (by exact of_decide_eq_true rfl)) (by exact of_decide_eq_true rfl))
 have s3:bd (gN 1) (aG (dv (aa 1) (aG (ad (eD [("TooMuch",false)] (aa 0)) (ad (eD [("TooMuch",false)] (aa 0)) (ad (eD [("TooMuch",false)] (aa 0)) aj)))))) [some x,some (.ref (A + 2))] (h++[C0,C1,C2])=.nx [some x,some (.ref (A + 4))] (h++[C0,C1,C2,C1,C4]):=by
  rw [hC4]
  exact aM (i7 (g:=[C0,C1,C2,C1]) hA (jc rfl (n3 (A + 2) [C0,C1,C2]) (by rw [hC2];exact e8 hA 2) (by rw [hC1];exact e8 hA 3) (by exact of_decide_eq_true rfl)) (by exact of_decide_eq_true rfl))
 have n1:aG (ad (eD [("TooMuch",true)] (aa 0)) aj) [some x,some (.ref (A + 4))] (h++[C0,C1,C2,C1,C4])=.ok (.ref (A + 5)) (h++[C0,C1,C2,C1,C4,C5]):=by
  rw [hC5];exact i7 (g:=[C0,C1,C2,C1,C4]) hA (ah (iX _ _ l1) rfl) (by exact of_decide_eq_true rfl)
 have s4:aT (aG (dv (aa 1) (aG (ad (eD [("TooMuch",true)] (aa 0)) aj)))) [some x,some (.ref (A + 4))] (h++[C0,C1,C2,C1,C4])=.rt (.ref (A + 6)) (h++[C0,C1,C2,C1,C4,C5,.lst (BL 2)]):=by
  rw [bl]
  exact aP (i7 (g:=[C0,C1,C2,C1,C4,C5]) hA (jc rfl n1 (by rw [hC4];exact e8 hA 4) (by rw [hC5];exact e8 hA 5) (by exact of_decide_eq_true rfl)) (by exact of_decide_eq_true rfl))
 refine⟨A + 6,[C0,C1,C2,C1,C4,C5,.lst (BL 2)],?_,e8 hA 6⟩
 rw [← hx]
 exact (br (σ:=[some x,none]) rfl rfl ((cA s0).trans ((cA s1).trans ((cA s2).trans ((cA s3).trans s4))))).trans cV
theorem oK {G:Hd→Prop}{tg:GF}{cs:List TF}{e:EF}{h:Hd}(I:Sd→Prop)(p:D→Bool)(f:D→D)(hh:G h) :
  ∀ {xs:List D} {σ:Sd},(∀ x∈xs,∀ σ,I σ → ∃ σ',tg x σ = some σ'∧I σ'∧gJ cs σ' h=.ok (p x) h∧(p x=true→e σ' h=.ok (f x) h))→I σ → dN G tg cs e xs σ h=.ok ((xs.filter p).map f) h
 | [],_,_,_=>by unfold dN;rw [if_pos hh];rfl
 | x :: xs,σ,st,i=>by
  obtain⟨σ',h1,h2,h3,h4⟩:=st x ZV σ i
  have ih:=oK I p f hh (xs:=xs) (σ := σ') (fun y hy=>st y (ZW _ hy)) h2
  unfold dN
  rw [if_pos hh,h1]
  simp only [h3,aN]
  cases c:p x with
  | true=>rw [List.filter_cons_of_pos c,List.map_cons,h4 c];simp [ih]
  | false=>rw [List.filter_cons_of_neg (by rw [c];decide),ih];simp
end Fm
namespace Fm
def Qi:D→Bool
 | .non=>true
 | _=>false
theorem Cg (m q:Nat):(List.range (m + q)).filter (fun i=>decide (i < m))=List.range m:=by
 rw [List.range_add,List.filter_append,List.filter_eq_self.mpr (fun i hi=>by simpa using hi),List.filter_eq_nil_iff.mpr,List.append_nil]
 intro i hi
 obtain⟨k,_,rfl⟩:=List.mem_map.mp hi
 simp
theorem vy (m q:Nat):ej ((aR m q).map aX)=(List.range (m + q)).map fun i=>D.tup [.int (i:Nat),aX (if i < m then none else some 1)]:=by
 unfold ej
 rw [ZA,fA]
 apply List.ext_getElem?
 intro i
 by_cases hi:i < m + q
 ·have e:(aR m q)[i]? = some (if i < m then none else some 1):=by
   have:=kx (m:=m) (q:=q) (i:=i)
   rw [ZF,ZE (by rw [fA];exact hi)] at this
   rw [ZE (by rw [fA];exact hi)]
   simp only [Option.getD_some] at this
   rw [this]
   by_cases c:i < m
   ·simp [c]
   ·simp [c,hi]
  have z:((List.range (m + q)).zip ((aR m q).map aX))[i]? = some (i,aX (if i < m then none else some 1)):=by
   rw [List.getElem?_zip_eq_some]
   exact⟨List.getElem?_range hi,by rw [ZQ,e];rfl⟩
  rw [ZQ,z,ZQ,List.getElem?_range hi]
  rfl
 ·rw [List.getElem?_eq_none (by simp [fA];omega),List.getElem?_eq_none (by simp;omega)]
theorem qQ {n m q:Nat}{x:Int}{bs:List Int}(hn:n=m + q)(n30:n≤30)(h:Hd):eN [(bX n x bs (aR m q)).enc] h=.ok (.ref (h.length + 1)) (h++[.lst ((aR m q).map aX),.lst (NL (List.range m))]):=by
 obtain⟨w,hw⟩ : ∃ w:Web,w=bX n x bs (aR m q):=⟨_,rfl⟩
 have ws:w.stays=aR m q:=by rw [hw];rfl
 rw [← hw]
 have lz:(w.stays.map aX).length≤SZ:=by rw [ZA,ws,fA,← hn];exact QV n30
 have so:bV [w.enc] h=.ok (.ref h.length) (h++[.lst (w.stays.map aX)]):=(br rfl rfl (aP (bQ (cD (bz rfl rfl rfl rfl) rfl) lz))).trans cV
 have gK:(h++[.lst (w.stays.map aX)])[h.length]? = some (.lst (w.stays.map aX)):=ZG
 have cg:dN (fun h'=>h'[h.length]? = some (.lst (w.stays.map aX))) (gT [0,1]) [(tE (ak kR (aa 1) (fC .non)))] (aa 0) (ej (w.stays.map aX)) [none,none] (h++[.lst (w.stays.map aX)])=.ok (NL (List.range m)) (h++[.lst (w.stays.map aX)]):=by
  have:=oK (G:=fun h'=>h'[h.length]? = some (.lst (w.stays.map aX))) (tg:=gT [0,1]) (cs:=[(tE (ak kR (aa 1) (fC .non)))]) (e:=aa 0) (h:=h++[.lst (w.stays.map aX)]) (I:=fun σ=>∃ a b,σ = [a,b]) (fun d=>match d with | .tup [_,x]=>Qi x|_=>false) (fun d=>match d with | .tup [x,_]=>x|_=>.non) gK (xs:=ej (w.stays.map aX)) (σ:=[none,none]) (fun y hy σ ⟨a,b,e⟩=>by
   subst e
   rw [ws,vy] at hy
   obtain⟨i,_,rfl⟩:=List.mem_map.mp hy
   refine⟨_,rfl,⟨_,_,rfl⟩,vk (aY (aq rfl rfl ?_)),fun _=>rfl⟩
   by_cases c:i < m
   ·simp only [if_pos c];rfl
   ·simp only [if_neg c];rfl) ⟨_,_,rfl⟩
  rw [this]
  congr 1
  rw [ws,vy,List.filter_map,List.map_map]
  have e:(List.range (m + q)).filter ((fun d=>match d with | .tup [_,x]=>Qi x|_=>false) ∘ fun i:Nat=>D.tup [.int (i:Nat),aX (if i < m then none else some 1)])=List.range m:=by
   rw [← Cg m q]
   congr 1
   funext i
   by_cases c:i < m
   ·simp only [Function.comp,if_pos c,decide_eq_true c];rfl
   ·simp only [Function.comp,if_neg c,decide_eq_false c];rfl
  rw [e]
  rfl
 have cp:jP 2 [] (au bV (ad (aa 0) aj)) (gT [0,1]) [(tE (ak kR (aa 1) (fC .non)))] (aa 0) [some w.enc] h=.ok (NL (List.range m)) (h++[.lst (w.stays.map aX)]):=by
  have e:au bV (ad (aa 0) aj) [some w.enc] h=.ok (.ref h.length) (h++[.lst (w.stays.map aX)]):=aw (ah rfl rfl) so
  unfold jP
  rw [e]
  simp only [gK]
  exact cg
 refine (br rfl rfl (aP (bQ cp (by simp [SZ];omega)))).trans (cV.trans ?_)
 rw [ws];simp
theorem xm:∀ m,∀ v∈hZ (List.range m),v.Pairwise (· < ·) ∧ ∀ p∈v,p < m
 | 0,v,hv=>by
  have:v=[]:=by simpa [hZ] using hv
  subst this;simp
 | m + 1,v,hv=>by
  rw [List.range_succ,iM] at hv
  rcases List.mem_append.mp hv with hv|hv
  ·obtain⟨a,b⟩:=xm m v hv
   exact⟨a,fun p hp=>Nat.lt_succ_of_lt (b p hp)⟩
  ·obtain⟨u,hu,rfl⟩:=List.mem_map.mp hv
   obtain⟨a,b⟩:=xm m u hu
   refine⟨List.pairwise_append.mpr ⟨a,List.pairwise_singleton _ _,fun p hp r hr=>by rw [List.mem_singleton.mp hr];exact b p hp⟩,fun p hp => ?_⟩
   rcases List.mem_append.mp hp with hp|hp
   ·exact Nat.lt_succ_of_lt (b p hp)
   ·rw [List.mem_singleton.mp hp];exact Nat.lt_succ_self _
theorem pP:∀ m,(hZ (List.range m)).filter (fun v=>decide ((v.length:Int)=0))=[[]]
 | 0=>by simp [hZ]
 | m + 1=>by
  rw [List.range_succ,iM,List.filter_append,pP m,List.filter_eq_nil_iff.mpr,List.append_nil]
  intro v hv
  obtain⟨u,_,rfl⟩:=List.mem_map.mp hv
  simp;omega
theorem EL:∀ m,(hZ (List.range (m + 1))).filter (fun v=>decide ((v.length:Int)=1))=(List.range (m + 1)).map fun p=>[p]
 | 0=>by simp [hZ,List.range,List.range.loop]
 | m + 1=>by
  rw [List.range_succ,iM,List.filter_append,EL m,ZR]
  congr 1
  rw [List.filter_map]
  have:(hZ (List.range (m + 1))).filter ((fun v:List Nat=>decide ((v.length:Int)=1)) ∘ fun u=>u++[m + 1])=[[]]:=by
   rw [← pP (m + 1)]
   congr 1
   funext u
   simp only [Function.comp,ZB,List.length_singleton]
   by_cases c:u.length=0
   ·simp [c]
   ·rw [decide_eq_false (by omega),decide_eq_false (by omega)]
  rw [this];rfl
abbrev byL (m:Nat):List (List Nat):=Ts.byK (fun v:List Nat=>(v.length:Int)) (hZ (List.range m))
theorem Mx (m:Nat):∃ r,byL m=[] :: r:=by
 have f:=(Ts.byK_filter (fun v:List Nat=>(v.length:Int)) (hZ (List.range m)) 0).trans (pP m)
 have so:=Ts.byK_rises (fun v:List Nat=>(v.length:Int)) (hZ (List.range m))
 replace f:(byL m).filter (fun v=>decide ((v.length:Int)=0))=[[]]:=f
 replace so:(byL m).Pairwise (fun x y=>(x.length:Int)≤y.length):=so
 cases c:byL m with
 | nil=>rw [c] at f;cases f
 | cons v r =>
  rw [c] at f so
  have:v.length=0:=by
   have mem:([] : List Nat)∈v :: r:=(List.mem_filter.mp (by rw [f];exact .head _)).1
   rcases List.mem_cons.mp mem with z|z
   ·rw [← z];rfl
   ·have h0:(v.length:Int)≤0:=(List.pairwise_cons.mp so).1 _ z
    omega
  exact⟨r,by rw [List.length_eq_zero_iff.mp this]⟩
theorem Qj (m:Nat):∃ r,byL (m + 1)=[] :: [0] :: r:=by
 obtain⟨r,hr⟩:=Mx (m + 1)
 have f0:=(Ts.byK_filter (fun v:List Nat=>(v.length:Int)) (hZ (List.range (m + 1))) 0).trans (pP (m + 1))
 have f1:=(Ts.byK_filter (fun v:List Nat=>(v.length:Int)) (hZ (List.range (m + 1))) 1).trans (EL m)
 have so:=Ts.byK_rises (fun v:List Nat=>(v.length:Int)) (hZ (List.range (m + 1)))
 rw [show Ts.byK (fun v:List Nat=>(v.length:Int)) (hZ (List.range (m + 1)))=[] :: r from hr] at f0 f1 so
 rw [List.filter_cons_of_pos (by rfl)] at f0
 rw [List.filter_cons_of_neg (by simp),List.range_succ_eq_map,List.map_cons] at f1
 have f0:=(List.cons.inj f0).2
 rw [hr]
 cases r with
 | nil=>cases f1
 | cons v r =>
  have p:=List.pairwise_cons.mp (List.pairwise_cons.mp so).2
  have n0:v.length≠0:=fun z=>by
   have:v∈(v :: r).filter (fun v=>decide ((v.length:Int)=0)):=List.mem_filter.mpr ⟨.head _,by simp [z]⟩
   rw [f0] at this;cases this
  have mem : [0]∈v :: r:=(List.mem_filter.mp (by rw [f1];exact .head _)).1
  have l1:v.length=1:=by
   rcases List.mem_cons.mp mem with z|z
   ·rw [← z];rfl
   ·have h0:(v.length:Int)≤1:=p.1 _ z
    omega
  rw [List.filter_cons_of_pos (by simp [l1])] at f1
  exact⟨r,by rw [(List.cons.inj f1).1]⟩
end Fm
namespace Fm
def Jq:D:=.tup [.str [108,101,97,102]]
def jd (v:List Nat):D:=if v=[] then .non else Jq
theorem LK (x y z:D)(h:Hd):ev [x,.int 0,y,z] h=.ok Jq h :=
 Eq.trans (br (σ:=[some x,some (.int 0),some y,some z,none,none]) rfl rfl (oH (Eq.trans (qy (aY (aq rfl rfl rfl))) (aP (i6 (ah rfl rfl) (by decide)))))) aH
section
variable {w:Web} {n:Nat} {hb:Hd} {d K f:Nat}
structure Zo (w:Web) (n d:Nat) (hb:Hd) (z:Nat × List Nat):Prop where
 ne:d≠z.1
 at':hb[z.1]? = some (.lst (NL z.2))
 ch:Ch w n z.2
theorem EM (W:w.Ok n)(n30:n≤30)(S:gy w)(hd:d < hb.length){z:Nat × List Nat}(Z:Zo w n d hb z)(E:fg w n (dJ w n z.2) false){mm:List (List Int × D)}(hz:mm.length < 1000)(pu:(mm.all fun p=>pure? p.2)=true)(hv:∀ key v,dk mm key=some v→v=.bl false) :
  ∃ mm',fV [some w.enc,some (.ref f),some (.ref d),some (.ref z.1),none] (hb.set d (.dcT mm))=.nx [some w.enc,some (.ref f),some (.ref d),some (.ref z.1),none] (hb.set d (.dcT mm'))∧Kn false z.2 mm mm':=by
 obtain⟨mm',q,k⟩:=qO (h:=hb.set d (.dcT mm)) W n30 S Z.ch (by rw [ZP Z.ne];exact Z.at') (List.getElem?_set_self hd) hz pu E (by
  cases c:dk mm (kyL z.2) with
  | none=>exact .inl rfl
  | some v=>exact .inr (by rw [hv _ _ c]))
 rw [List.set_set] at q
 exact⟨mm',dh (aY (aw (ah rfl (cP rfl rfl)) q)),k⟩
theorem zZ (W:w.Ok n)(n30:n≤30)(S:gy w)(hd:d < hb.length){z:Nat × List Nat}(Z:Zo w n d hb z)(E:fg w n (dJ w n z.2) true)(v1:z.2.length≤1){mm:List (List Int × D)}(hz:mm.length < 1000)(pu:(mm.all fun p=>pure? p.2)=true)(hv:dk mm (kyL z.2)=none) :
  ∃ mm' g,fV [some w.enc,some (.ref f),some (.ref d),some (.ref z.1),none] (hb.set d (.dcT mm))=.rt (.tup [.ref z.1,jd z.2]) (hb.set d (.dcT mm')++g):=by
 obtain⟨mm',q,k⟩:=qO (h:=hb.set d (.dcT mm)) W n30 S Z.ch (by rw [ZP Z.ne];exact Z.at') (List.getElem?_set_self hd) hz pu E (.inl hv)
 rw [List.set_set] at q
 obtain⟨hh,hhe⟩ : ∃ hh,hh=hb.set d (.dcT mm'):=⟨_,rfl⟩
 have az:hh[z.1]? = some (.lst (NL z.2)):=by rw [hhe,ZP Z.ne];exact Z.at'
 rw [← hhe] at q
 have t:tE (au fU (ad (aa 0) (ad (aa 3) (ad (aa 2) aj)))) [some w.enc,some (.ref f),some (.ref d),some (.ref z.1),none] (hb.set d (.dcT mm))=.ok true hh:=aY (aw (ah rfl (cP rfl rfl)) q)
 have nw:∀ (σ:Sd) (h:Hd),aG aj σ h=.ok (.ref h.length) (h++[.lst []]):=fun σ h=>bQ rfl (by decide)
 by_cases c:z.2=[]
 ·have tv:jd z.2=.non:=if_pos c
  rw [tv]
  refine⟨mm',[.lst []],?_⟩
  rw [← hhe]
  exact Eq.trans (qy t) (sx (aM (Eq.trans (qA (aY (aq rfl (nw _ hh) (EK (b:=true) (ay _ az) ZG (by rw [c];rfl))))) rfl)) (aP (i6 (cP rfl rfl) (by simp [SZ]))))
 ·have tv:jd z.2=Jq:=if_neg c
  have l1:z.2.length=1:=by
   have:z.2.length≠0:=fun e=>c (List.length_eq_zero_iff.mp e)
   omega
  rw [tv]
  refine⟨mm',[.lst [],.lst []],?_⟩
  rw [← hhe]
  have ez:(NL z.2).length=1:=by rw [ZA];exact l1
  have ap:hh++[.lst [],.lst []] = (hh++[.lst []])++[.lst []]:=by simp
  rw [ap]
  refine Eq.trans (qy t) (sx (aM (Eq.trans (wX (aY (aq rfl (nw _ hh) (EK (b:=false) (ay _ az) ZG ?_)))) (aw (ah rfl (ah (aq (dZ (cD rfl (bF (ay _ az)))) rfl (by rw [ez];rfl)) (cP (nw _ _) rfl))) (LK _ _ _ _)))) (aP (i6 (cP rfl rfl) (by simp [SZ]))))
  match h:z.2,l1 with
  | [p],_=>rfl
theorem EN (W:w.Ok n)(n30:n≤30)(S:gy w)(hd:d < hb.length){Z:List (Nat × List Nat)}(kd:d≠K)(hK:hb[K]? = some (.lst (rf Z))) :
  ∀ {Zs:List (Nat × List Nat)} {mm:List (List Int × D)} {y:Option D},(∀ z∈Zs,Zo w n d hb z∧fg w n (dJ w n z.2) false)→mm.length + Zs.length < 1000→(mm.all fun p=>pure? p.2)=true→(∀ key v,dk mm key=some v→v=.bl false) →
   ∃ mm' y',gG (some K) (rf Z) (gN 3) fV (rf Zs) [some w.enc,some (.ref f),some (.ref d),y,none] (hb.set d (.dcT mm))=.nx [some w.enc,some (.ref f),some (.ref d),y',none] (hb.set d (.dcT mm'))
 | [],mm,y,_,_,_,_=>⟨mm,y,by
   unfold gG
   exact if_pos (show (hb.set d (.dcT mm))[K]? = _ by rw [ZP kd];exact hK)⟩
 | z :: Zs,mm,y,hz,hl,pu,hv=>by
  obtain⟨z1,z2⟩:=hz z (.head _)
  simp only [List.length_cons] at hl
  obtain⟨mm1,q,k⟩:=EM (f:=f) W n30 S hd z1 z2 (by omega) pu hv
  have kl:=k.len
  obtain⟨mm',y',q2⟩:=EN W n30 S hd kd hK (Zs:=Zs) (mm:=mm1) (y:=some (.ref z.1)) (fun z' h'=>hz z' (.tail _ h')) (by omega) k.pu (fun key v e=>by
   rw [k.val] at e
   by_cases c:key=kyL z.2
   ·rw [if_pos c] at e;cases e;rfl
   ·rw [if_neg c] at e;exact hv key v e)
  exact⟨mm',y',Eq.trans (EI (show (hb.set d (.dcT mm))[K]? = _ by rw [ZP kd];exact hK) rfl q) q2⟩
end
structure Fw (w:Web) (n m:Nat):Prop where
 W:w.Ok n
 S:gy w
 n30:n≤30
 m9:m≤9
 mn:m≤n
 st:∀ i,i < m→w.stays.getD i none=none
 fr:∀ h:Hd,eN [w.enc] h=.ok (.ref (h.length + 1)) (h++[.lst (w.stays.map aX),.lst (NL (List.range m))])
theorem Fw.ch {w:Web}{n m:Nat}(F:Fw w n m){v:List Nat}(hv:v∈byL m):Ch w n v:=by
 obtain⟨a,b⟩:=xm m v ((Ts.byK_perm _ _).mem_iff.mp hv)
 exact⟨a,fun p hp=>Nat.lt_of_lt_of_le (b p hp) F.mn,fun p hp=>by rw [F.st p (b p hp)];simp⟩
theorem OX {w:Web}{n m:Nat}(F:Fw w n m)(h:Hd):∃ (g:Hd) (K:Nat) (Z:List (Nat × List Nat)),
  (∀ z∈Z,Zo w n (h.length + 2) (h++g) z)∧Z.map (·.2)=byL m∧h.length + 2 < (h++g).length∧h.length + 2≠K∧(h++g)[K]? = some (.lst (rf Z))∧(h++g).set (h.length + 2) (.dcT [])=h++g ∧
  (∀ dd h',gG (some K) (rf Z) (gN 3) fV (rf Z) [some w.enc,some (.ref (h.length + 1)),some (.ref (h.length + 2)),none,none] (h++g)=.rt dd h'→ce [w.enc] h=letGo h (.ok dd h')) ∧ ∀ σ' h',gG (some K) (rf Z) (gN 3) fV (rf Z) [some w.enc,some (.ref (h.length + 1)),some (.ref (h.length + 2)),none,none] (h++g)=.nx σ' h'→ce [w.enc] h=letGo h (.ok .non h'):=by
 obtain⟨h1,hh1⟩ : ∃ h1:Hd,h1=h++[.lst (w.stays.map aX),.lst (NL (List.range m))]:=⟨_,rfl⟩
 have l1:h1.length=h.length + 2:=by rw [hh1];simp
 have fr:=F.fr h
 rw [← hh1] at fr
 have f1:h1[h.length + 1]? = some (.lst (NL (List.range m))):=by rw [hh1];simp
 have dn:Bz [some w.enc,some (.ref (h.length + 1)),none,none,none] h1=.ok (.ref (h.length + 2)) (h1++[.dcT []]):=by rw [← l1];rfl
 obtain⟨g,K,Z,q1,q2,q3,q4⟩:=zY (f:=h.length + 1) (fr:=List.range m) (h:=h1++[.dcT []]) (ay _ f1) (by rw [ZO];exact F.m9)
 have dd:(h1++[.dcT []]++g)[h.length + 2]? = some (.dcT []):=ay _ (by rw [← l1];exact ZG)
 have ap:h1++[.dcT []]++g=h++([.lst (w.stays.map aX),.lst (NL (List.range m)),.dcT []]++g):=by rw [hh1];simp
 refine⟨[.lst (w.stays.map aX),.lst (NL (List.range m)),.dcT []]++g,K,Z,?_⟩
 rw [← ap]
 refine⟨fun z hz=>⟨fun e => ?_,q3 z hz,F.ch (show z.2∈Ts.byK _ _ by rw [← q4];exact List.mem_map.mpr ⟨z,hz,rfl⟩)⟩,q4,(List.getElem?_eq_some_iff.mp dd).1,fun e => ?_,q2,?_,fun dd h' e => ?_,fun σ' h' e => ?_⟩
 ·have:=q3 z hz
  rw [← e,dd] at this;cases this
 ·rw [← e,dd] at q2;cases q2
 ·apply List.ext_getElem?
  intro i
  by_cases e:h.length + 2=i
  ·subst e;rw [List.getElem?_set_self (List.getElem?_eq_some_iff.mp dd).1,dd]
  ·rw [ZP e]
 ·exact br (σ:=[some w.enc,none,none,none,none]) rfl rfl (sx (vx (aM (aw (ah rfl rfl) fr))) (sx (Eq.trans (Jn (aY (aq (dZ (cD rfl (bF f1))) rfl (wV (by rw [ZA,ZO];have:=F.m9;omega))))) rfl) (sx (vx (aM dn)) (oH (Mw (k7 (e9 (aw (ah rfl rfl) q1) q2) e))))))
 ·exact br (σ:=[some w.enc,none,none,none,none]) rfl rfl (sx (vx (aM (aw (ah rfl rfl) fr))) (sx (Eq.trans (Jn (aY (aq (dZ (cD rfl (bF f1))) rfl (wV (by rw [ZA,ZO];have:=F.m9;omega))))) rfl) (sx (vx (aM dn)) (sx (vx (k7 (e9 (aw (ah rfl rfl) q1) q2) e)) (Mw (aP rfl))))))
end Fm
namespace Fm
section
variable {w:Web} {n m:Nat}
theorem xn {Z:List (Nat × List Nat)}{v:List Nat}{r:List (List Nat)}(e:Z.map (·.2)=v :: r):∃ z Zr,Z=z :: Zr∧z.2=v∧Zr.map (·.2)=r:=by
 cases Z with
 | nil=>cases e
 | cons z Zr=>exact⟨z,Zr,rfl,(List.cons.inj e).1,(List.cons.inj e).2⟩
theorem qR (F:Fw w n m)(E:fg w n (dJ w n []) true)(h:Hd):∃ g a,ce [w.enc] h=.ok (.tup [.ref a,.non]) (h++g)∧(h++g)[a]? = some (.lst (NL [])):=by
 obtain⟨g,K,Z,hz,e,dl,kd,hK,se,rt,_⟩:=OX F h
 obtain⟨r,hr⟩:=Mx m
 obtain⟨z,Zr,rfl,zv,_⟩:=xn (e.trans hr)
 have zo:=hz z (.head _)
 obtain⟨mm',g',q⟩:=zZ (f:=h.length + 1) F.W F.n30 F.S dl zo (by rw [zv];exact E) (by rw [zv];exact Nat.zero_le _) (mm:=[]) (by decide) rfl rfl
 rw [se] at q
 have fl:=rt _ _ (EJ hK rfl q)
 rw [ko (by simp [pure?,eE]),gR rfl,ZU,zv] at fl
 refine⟨g.set 2 (.dcT mm')++g',z.1,fl,?_⟩
 rw [← ZU,← gR (A:=h.length) rfl]
 exact ay _ (by rw [ZP zo.ne,zo.at',zv])
theorem Jr (F:Fw w n (m + 1))(E0:fg w n (dJ w n []) false)(E:fg w n (dJ w n [0]) true)(h:Hd):∃ g a,ce [w.enc] h=.ok (.tup [.ref a,Jq]) (h++g)∧(h++g)[a]? = some (.lst (NL [0])):=by
 obtain⟨g,K,Z,hz,e,dl,kd,hK,se,rt,_⟩:=OX F h
 obtain⟨r,hr⟩:=Qj m
 obtain⟨z,Zr,rfl,zv,e2⟩:=xn (e.trans hr)
 obtain⟨z',Zq,rfl,zv',_⟩:=xn e2
 have zo:=hz z (.head _)
 have zo':=hz z' (.tail _ (.head _))
 obtain⟨m1,q1,k1⟩:=EM (f:=h.length + 1) F.W F.n30 F.S dl zo (by rw [zv];exact E0) (mm:=[]) (by decide) rfl (fun key v e=>by cases e)
 have kl:=k1.len
 obtain⟨mm',g',q⟩:=zZ (f:=h.length + 1) F.W F.n30 F.S dl zo' (by rw [zv'];exact E) (by rw [zv'];exact ZL _) (mm:=m1) (by simp at kl;omega) k1.pu (by
  rw [k1.val,zv,zv',if_neg (by simp [kyL])];rfl)
 rw [se] at q1
 have hK2:((h++g).set (h.length + 2) (.dcT m1))[K]? = some (.lst (rf (z :: z' :: Zq))):=by rw [ZP kd];exact hK
 have fl:=rt _ _ (Eq.trans (EI hK rfl q1) (EJ hK2 rfl q))
 rw [ko (by simp [pure?,eE]),gR rfl,ZU,zv',show jd [0] = Jq from rfl] at fl
 refine⟨g.set 2 (.dcT mm')++g',z'.1,fl,?_⟩
 rw [← ZU,← gR (A:=h.length) rfl]
 exact ay _ (by rw [ZP zo'.ne,zo'.at',zv'])
theorem FN (F:Fw w n m)(E:∀ l,fg w n (dJ w n l) false)(h:Hd):ce [w.enc] h=.ok .non h:=by
 obtain⟨g,K,Z,hz,e,dl,kd,hK,se,_,nx⟩:=OX F h
 have zl:Z.length≤512:=by
  have:=congrArg List.length e
  rw [ZA,(Ts.byK_perm _ _).length_eq,qP _ m (by simp)] at this
  rw [this]
  exact Nat.pow_le_pow_right (by decide) F.m9
 obtain⟨mm',y',q⟩:=EN (f:=h.length + 1) F.W F.n30 F.S dl kd hK (Zs:=Z) (mm:=[]) (y:=none) (fun z h'=>⟨hz z h',E z.2⟩) (by simp;omega) rfl (fun key v e=>by cases e)
 rw [se] at q
 have fl:=nx _ _ q
 rw [gR rfl,i5 rfl] at fl
 exact fl
theorem Ci (fr:∀ h:Hd,eN [w.enc] h=.ok (.ref (h.length + 1)) (h++[.lst (w.stays.map aX),.lst (NL (List.range m))]))(m9:9 < m)(h:Hd):∃ g,ce [w.enc] h=.exc TMx (h++g):=by
 have f1:(h++[.lst (w.stays.map aX),.lst (NL (List.range m))])[h.length + 1]? = some (.lst (NL (List.range m))):=by simp
 exact⟨_,OR (σ:=[some w.enc,none,none,none,none]) rfl rfl (sx (vx (aM (aw (ah rfl rfl) (fr h)))) (LG (LH (aY (aq (dZ (cD rfl (bF f1))) rfl (BN (by rw [ZA,ZO];omega)))))))⟩
theorem z4 {U:D}{h h':Hd}(q:ce [w.enc] h=.ok U h'):bq [w.enc] h=.ok (.ref h'.length) (h'++[.lst [U]]) :=
 Eq.trans (br (σ:=[some w.enc,none,none,none]) rfl rfl (sx (aM (d:=.non) rfl) (sx (aM (d:=.non) rfl) (sx (OS (aM (aw (Mv (ah rfl rfl)) q))) (oH (Eq.trans (qy (aY (aq (x:=.non) rfl rfl rfl))) (aP (bQ (ah rfl rfl) (by simp [SZ]))))))))) cV
theorem Js {h g:Hd}(q:ce [w.enc] h=.exc TMx (h++g)):∃ k g',bq [w.enc] h=.ok (.ref k) (h++g')∧(h++g')[k]? = some (.lst (BL 2)):=by
 obtain⟨k,g',c1,c2⟩:=Jp (h++g)
 refine⟨k,g++g',?_,by rw [← ZU];exact c2⟩
 rw [ZU] at c1
 exact Eq.trans (br (σ:=[some w.enc,none,none,none]) rfl rfl (sx (aM (d:=.non) rfl) (sx (aM (d:=.non) rfl) (sx (OT (LJ (Jo (Mv (ah rfl rfl)) q)) (by decide)) (sx (dh (aY (aq (x:=TMx) rfl rfl rfl))) (aP (aw (ah rfl rfl) c1))))))) cV
theorem z5 {h:Hd}{k a:Nat}{v:List Nat}(hk:h[k]? = some (.lst [.tup [.ref a,jd v]]))(ha:h[a]? = some (.lst (NL v)))(hv:v.length≤1):cu [.ref k,.int v.length] h=.ok (.bl true) h:=by
 have a0:fAt (aa 0) (fC (.int 0)) [some (.ref k),some (.int v.length)] h=.ok (.tup [.ref a,jd v]) h:=bz rfl rfl (bF hk) rfl
 have la:(NL v).length=v.length:=ZA _
 refine Eq.trans (br (σ:=[some (.ref k),some (.int v.length)]) rfl rfl (sx (dh (iy (aY (aq (dZ (cD rfl (bF hk))) rfl rfl)) (iy (cW (b:=true) (aY (by simp only [gj,a0,aN];rfl))) (iy (aY (aq (dZ (cD a0 rfl)) rfl rfl)) (aY (aq (dZ (cD (bz a0 rfl rfl rfl) (bF ha))) rfl (by rw [qB,la,decide_eq_true rfl];rfl))))))) (aP (aq (aq (bz a0 rfl rfl rfl) rfl rfl) (aq rfl rfl zE) rfl)))) ?_
 match v,hv with
 | [],_=>exact aH
 | [p],_=>exact aH
end
end Fm
namespace Fm
theorem OY (ns:List Int){k:Nat}(hk:k < 6)(h:Hd):∃ c,jZ [.lit (ns.map .int),.int (k:Nat)] h=.ok (.int c) h:=by
 have ln:fL (lOf (aa 0)) [some (.lit (ns.map .int)),some (.int (k:Nat))] h=.ok (.int (ns.length:Nat)) h:=(dZ (cD rfl rfl)).trans (by rw [ZA])
 by_cases e:k < ns.length
 ·exact⟨_,Eq.trans (br (σ:=[some (.lit (ns.map .int)),some (.int (k:Nat))]) rfl rfl (oH (Eq.trans (qy (aY (aq rfl ln (IM (Int.ofNat_lt.mpr e))))) (aP (bz rfl rfl rfl (Ey e)))))) aH⟩
 ·have t:sIf (tE (ak oLt (aa 1) (fL (lOf (aa 0))))) (aT (fAt (aa 0) (aa 1))) bM [some (.lit (ns.map .int)),some (.int (k:Nat))] h=.nx [some (.lit (ns.map .int)),some (.int (k:Nat))] h:=dh (aY (aq rfl ln (OB fun z=>e (Int.ofNat_lt.mp z))))
  have sk:∀ j:Int,0≤j→j < 6 → ∃ c,aT (ak eI (ak eJ (ak eJ (fC (.int 71)) (aa 1)) (aa 1)) (ak eJ (fC (.int 7)) (aa 1))) [some (.lit (ns.map .int)),some (.int j)] h=.rt (.int c) h:=fun j h0 h1 =>
   ⟨_,aP (aq (aq (aq rfl rfl (lU (by decide))) rfl (Ll (Ls h0 (by omega)))) (aq rfl rfl (lU (by decide))) rfl)⟩
  obtain⟨c,hc⟩:=sk k (by omega) (by omega)
  exact⟨c,Eq.trans (br (σ:=[some (.lit (ns.map .int)),some (.int (k:Nat))]) rfl rfl (sx t hc)) aH⟩
theorem Jt {m i:Nat}:((aR (m + 1) i).map aX).set m (.int 1)=(aR m (i + 1)).map aX:=by
 have e:aR (m + 1) i=List.replicate m none++(none :: List.replicate i (some 1)):=by
  simp [aR,List.replicate_succ']
 have e2:aR m (i + 1)=List.replicate m none++(some 1 :: List.replicate i (some 1)):=by simp [aR,List.replicate_succ]
 rw [e,e2,ZR,ZR,List.set_append_right _ _ (by simp)]
 simp [aX]
theorem Cj {n:Nat}(n1:1≤n)(n30:n≤30)(c:Int)(h:Hd):∃ m q,n=m + q∧fz [.int c,.int (n:Nat)] h=.ok (.ref h.length) (h++[.lst ((aR m q).map aX)]):=by
 obtain⟨q,hq⟩ : ∃ q:Nat,c % ((n:Int) + 1)=q:=⟨(c % ((n:Int) + 1)).toNat,by have:=Int.emod_nonneg c (show ((n:Int) + 1)≠0 by omega);omega⟩
 have qn:q≤n:=by have:=Int.emod_lt_of_pos c (show (0:Int) < (n:Int) + 1 by omega);omega
 obtain⟨σ',h',k1,y,rfl,rfl⟩:=iw (P:=fun i σ h'=>∃ y,σ = [some (.int c),some (.int (n:Nat)),some (.ref h.length),y]∧h'=h++[.lst ((aR (n - i) i).map aX)]) (g:=none) (k:=0) (all:=(List.range q).map fun k:Nat=>D.int k) (fun _ _ _ _=>trivial) (xs:=(List.range q).map fun k:Nat=>D.int k) (tg:=gN 3) (σ:=[some (.int c),some (.int (n:Nat)),some (.ref h.length),none]) (h:=h++[.lst ((aR n 0).map aX)]) (b:=lZ) (by
   rintro i x σ h0 hx ⟨y,rfl,rfl⟩
   obtain⟨hi,rfl⟩:=m7 hx
   rw [Nat.zero_add]
   obtain⟨m,hm⟩ : ∃ m,n - i=m + 1:=⟨n - i - 1,by omega⟩
   refine⟨_,rfl,_,_,OA (k:=m) (j:=(n:Int) - 1 - i) rfl rfl (aq (aq rfl rfl rfl) rfl rfl) ZG ?_,_,rfl,?_⟩
   ·rw [hm,ZA,fA]
    unfold ixN
    rw [if_pos (by omega),if_pos (by omega)]
    congr 1;omega
   ·rw [Ex rfl,hm,Jt,show n - (i + 1)=m by omega]) ⟨none,rfl,rfl⟩
 rw [Nat.zero_add,ZA,ZO] at k1
 refine⟨n - q,q,by omega,?_⟩
 have rp:aG (gv (ad (fC .non) aj) (aa 1)) [some (.int c),some (.int (n:Nat)),none,none] h=.ok (.ref h.length) (h++[.lst ((aR n 0).map aX)]):=by
  refine Eq.trans (bQ (qz (ah rfl rfl) rfl ⟨by omega,by omega,by simp;omega⟩) (by simp [SZ];omega)) ?_
  simp [aR,aX]
 exact Eq.trans (br (σ:=[some (.int c),some (.int (n:Nat)),none,none]) rfl rfl (sx (aM rp) (sx (k7 (jS (n:=q) (aq rfl (aq rfl rfl rfl) (Eq.trans (BK (by omega)) (by rw [hq]))) (by omega)) k1) (aP rfl)))) cV
theorem Ju {n:Nat}{x:Int}(n30:n≤30){a0 a1 a2 a3 a5 a6 a7 a8 a9:Option D}(h:Hd)(h3:a3=some (.int (n:Nat)))(n1:1≤n):aG (cQ 1 [4] (lB (fC (.int 1)) (aa 3)) (gN 0) [] (g7 (ad (fC (.int 0)) (ad (aa 0) (ad (aa 1) aj))))) [a0,a1,a2,a3,some (.int x),a5,a6,a7,a8,a9] h=.ok (.ref h.length) (h++[.lst ((bW n x).map iC)]):=by
 subst h3
 have it:lB (fC (.int 1)) (aa 3) [a0,a1,a2,some (.int (n:Nat)),some (.int x),a5,a6,a7,a8,a9] h=.ok ((List.range (n - 1)).map (fun k:Nat=>D.int (1 + k)),none) h:=by
  show (if ((-1000000:Int)≤1∧(1:Int)≤1000000) ∧ -1000000≤(n:Int)∧(n:Int)≤1000000 then Res.ok ((List.range ((n:Int) - 1).toNat).map (fun k:Nat=>D.int (1 + k)),(none:Option Nat)) h else Res.bad)=_
  rw [if_pos ⟨⟨by omega,by omega⟩,by omega,by omega⟩,show ((n:Int) - 1).toNat=n - 1 by omega]
 have cp:=cC (g:=none) (all:=(List.range (n - 1)).map (fun k:Nat=>D.int (1 + k))) (tg:=gN 0) (cs:=[]) (e:=g7 (ad (fC (.int 0)) (ad (aa 0) (ad (aa 1) aj)))) (h:=h) (I:=fun σ=>∃ a,σ = [a,some (.int x)]) (fun _=>true) (fun d=>.tup [.int 0,d,.int x]) trivial (xs:=(List.range (n - 1)).map (fun k:Nat=>D.int (1 + k))) (σ:=[none,some (.int x)]) (by
  rintro y hy σ ⟨a,rfl⟩
  exact⟨_,rfl,⟨_,rfl⟩,rfl,fun _=>i6 (ah rfl (cP rfl rfl)) (by simp [SZ])⟩) ⟨_,rfl⟩
 rw [List.filter_eq_self.mpr (fun _ _=>rfl),List.map_map] at cp
 refine Eq.trans (bQ (dW it cp) (by simp [SZ];omega)) ?_
 unfold bW
 rw [List.map_map]
 rw [show (List.range (n - 1)).map ((fun d=>D.tup [.int 0,d,.int x]) ∘ fun k:Nat=>D.int (1 + k))=(List.range (n - 1)).map (iC ∘ fun i=>⟨0,i + 1,x⟩) from List.map_congr_left fun i _=>by simp [iC,Int.add_comm]]
end Fm
namespace Fm
section
variable {n m q:Nat} {x:Int}
theorem fwW {bs:List Int}(hn:n=m + q)(n1:1≤n)(n30:n≤30)(lb:bs.length=n):(bX n x bs (aR m q)).Ok n:=by
 refine⟨by simp [zM],lb,by rw [hn];exact fA m q,fun r hr p hp => ?_,by omega⟩
 obtain⟨i,_,rfl⟩:=List.mem_map.mp hr
 rcases (pO.mp (kr.mp (show (p.1,p.2)∈_ from hp))).2 with z|z
 ·exact z.2.2
 ·omega
theorem fw {bs:List Int}(hn:n=m + q)(n1:1≤n)(n30:n≤30)(lb:bs.length=n)(m9:m≤9):Fw (bX n x bs (aR m q)) n m :=
 ⟨fwW hn n1 n30 lb,ED,n30,m9,by omega,fun i hi=>by rw [show (bX n x bs (aR m q)).stays=aR m q from rfl,kx,if_pos hi],fun h=>qQ hn n30 h⟩
def sV (h:Hd) (k:Nat) (v:List Nat):Prop:=∃ a,h[k]? = some (.lst [.tup [.ref a,jd v]])∧h[a]? = some (.lst (NL v))
theorem sV.more {h:Hd}{k:Nat}{v:List Nat}(s:sV h k v)(g:Hd):sV (h++g) k v:=by
 obtain⟨a,s1,s2⟩:=s
 exact⟨a,ay g s1,ay g s2⟩
theorem pQ {w:Web}{v:List Nat}{h:Hd}(e:∃ g a,ce [w.enc] h=.ok (.tup [.ref a,jd v]) (h++g)∧(h++g)[a]? = some (.lst (NL v))):∃ k g,bq [w.enc] h=.ok (.ref k) (h++g)∧sV (h++g) k v:=by
 obtain⟨g,a,q1,q2⟩:=e
 refine⟨(h++g).length,g++[.lst [.tup [.ref a,jd v]]],by rw [← ZU];exact z4 q1,a,?_,?_⟩
 ·rw [← ZU];exact ZG
 ·rw [← ZU];exact ay _ q2
theorem Q0 (hn:n=m + q)(n1:1≤n)(n30:n≤30)(w1:1≤x)(m9:m≤9)(h:Hd):∃ k g,bq [(bX n x (List.replicate n (-1)) (aR m q)).enc] h=.ok (.ref k) (h++g)∧sV (h++g) k [] :=
 pQ (qR (fw hn n1 n30 (by simp) m9) (Qg hn n30 w1 []) h)
theorem xo (n1:1≤n):(bsB n x).length=n:=by simp;omega
theorem Q1 (hn:n=m + q)(n1:1≤n)(n30:n≤30)(w1:1≤x)(m9:m≤9)(h:Hd):∃ k g,bq [(bX n x (bsB n x) (aR m q)).enc] h=.ok (.ref k) (h++g)∧sV (h++g) k (if m=n then [0] else []):=by
 by_cases c:m=n
 ·rw [if_pos c]
  have q0:q=0:=by omega
  subst q0 c
  obtain⟨m',rfl⟩ : ∃ m',m=m' + 1:=⟨m - 1,by omega⟩
  exact pQ (Jr (fw rfl n1 n30 (xo n1) m9) (OQ n1 w1) (Mu (q:=0) rfl n1 n30 w1 (.inr (by simp))) h)
 ·rw [if_neg c]
  exact pQ (qR (fw hn n1 n30 (xo n1) m9) (Mu hn n1 n30 w1 (.inl (by omega))) h)
theorem Q3 (hn:n=m + q)(n1:1≤n)(n30:n≤30)(w1:1≤x)(m9:m≤9)(h:Hd):∃ k g,bq [(bX n x (List.replicate n (60 * x)) (aR m q)).enc] h=.ok (.ref k) (h++g)∧((m=0∧sV (h++g) k [])∨(m≠0∧(h++g)[k]? = some (.lst [.non]))):=by
 by_cases c:m=0
 ·have E:=Mt (x:=x) hn n30 w1 []
  rw [decide_eq_true c] at E
  obtain⟨k,g,a,b⟩:=pQ (v:=[]) (qR (fw hn n1 n30 (by simp) m9) E h)
  exact⟨k,g,a,.inl ⟨c,b⟩⟩
 ·have E:∀ l,fg (bX n x (List.replicate n (60 * x)) (aR m q)) n (dJ (bX n x (List.replicate n (60 * x)) (aR m q)) n l) false:=fun l=>by
   have:=Mt (x:=x) hn n30 w1 l
   rwa [decide_eq_false c] at this
  exact⟨h.length,[.lst [.non]],z4 (FN (fw hn n1 n30 (by simp) m9) E h),.inr ⟨c,ZG⟩⟩
theorem OZ {bs:List Int}(hn:n=m + q)(n30:n≤30)(m9:9 < m)(h:Hd):∃ k g,bq [(bX n x bs (aR m q)).enc] h=.ok (.ref k) (h++g)∧(h++g)[k]? = some (.lst (BL 2)):=by
 obtain⟨g,e⟩:=Ci (w:=bX n x bs (aR m q)) (fun h=>qQ hn n30 h) m9 h
 exact Js e
theorem O0 {bs:List Int}(hn:n=m + q)(n1:1≤n)(n30:n≤30)(w1:1≤x)(w2:x≤400)(lb:bs.length=n){h:Hd}{tk bk sk:Nat}(ht:h[tk]? = some (.lst ((bW n x).map iC)))(hb:h[bk]? = some (.lst (bs.map .int)))(hs:h[sk]? = some (.lst ((aR m q).map aX))):cK [.int n,.ref tk,.ref bk,.ref sk] h=.ok (bX n x bs (aR m q)).enc h :=
 FC n1 n30 (LB n1 w1 w2) lb (by rw [hn];exact fA m q) ED ht hb hs
theorem Ck (m q:Nat){σ:Sd}{h:Hd}{k:Nat}(e:aa 5 σ h=.ok (.ref k) h)(hk:h[k]? = some (.lst ((aR m q).map aX))):v6 (aa 5) (fC .non) σ h=.ok (.int (m:Nat)) h:=by
 have e2:aS h (.ref k)=some ((aR m q).map aX):=by simp [aS,hk]
 have fl:((aR m q).map aX).all cF=true:=by
  rw [List.all_map,List.all_eq_true];intro y _;cases y<;>rfl
 have ct:((aR m q).map aX).countP (fun z=>eqF z .non)=m:=by
  rw [List.countP_map,aR,List.countP_append,List.countP_replicate,List.countP_replicate]
  simp [Function.comp,aX,eqF]
 show ((aa 5) σ h).bind _=_
 rw [e]
 show (match aS h (.ref k) with|some _=>_|none=>_)=_
 rw [e2]
 show (match aS h (.ref k) with|some _=>_|none=>_)=_
 rw [e2]
 show (if (cF .non && ((aR m q).map aX).all cF)=true then _ else _)=_
 rw [if_pos (by rw [fl];rfl),ct]
end
end Fm
namespace Fm
section
variable {n m q:Nat} {x:Int}
theorem Qk {A:Nat}{wa wb wc:D}{Hw g1 g2 g3:Hd}{k1 k2 k3:Nat}{σ:Sd}(e7:aa 7 σ Hw=.ok (.ref A) Hw)(cg:fE 1 [] σ = [none])(hA:Hw[A]? = some (.lst [wa,wb,wc]))(q1:bq [wa] Hw=.ok (.ref k1) (Hw++g1))(q2:bq [wb] (Hw++g1)=.ok (.ref k2) (Hw++g1++g2))(q3:bq [wc] (Hw++g1++g2)=.ok (.ref k3) (Hw++g1++g2++g3)) :
  aG (cQ 1 [] (iV (aa 7)) (gN 0) [] (au bq (ad (aa 0) aj))) σ Hw=.ok (.ref (Hw++g1++g2++g3).length) (Hw++g1++g2++g3++[.lst [.ref k1,.ref k2,.ref k3]]):=by
 refine bQ (dW (e9 e7 hA) ?_) (by simp [SZ])
 rw [cg]
 exact jb (σ':=[some wa]) hA rfl (aw (ah rfl rfl) q1) (jb (σ':=[some wb]) (ay _ hA) rfl (aw (ah rfl rfl) q2) (jb (σ':=[some wc]) (ay _ (ay _ hA)) rfl (aw (ah rfl rfl) q3) (by unfold b0;exact if_pos (ay _ (ay _ (ay _ hA))))))
theorem Jv {a b:Option D}{s0 s1 s2 s3 s4 s5 s6 s7:Option D}{K k1 k2 k3:Nat}{H:Hd}(m9:9 < m)(hK:H[K]? = some (.lst [.ref k1,.ref k2,.ref k3]))(c1:H[k1]? = some (.lst (BL 2)))(c2:H[k2]? = some (.lst (BL 2)))(c3:H[k3]? = some (.lst (BL 2))) :
  ∃ H',sIf (tE (ak Bw (aa 8) (aG (gv (ad (au gS (ad (fC (.int 2)) aj)) aj) (fC (.int 3)))))) (aT (fC (.bl false))) bM [s0,s1,s2,s3,s4,s5,s6,s7,some (.ref K),some (.int (m:Nat))] H=.nx [s0,s1,s2,s3,s4,s5,s6,s7,some (.ref K),some (.int (m:Nat))] H':=by
 obtain⟨k4,g,d1,d2,d3⟩:=OV 2 H
 have lt:∀ {k:Nat},H[k]? = some (.lst (BL 2))→k≠k4:=fun e=>by have:=(List.getElem?_eq_some_iff.mp e).1;omega
 have nw:aG (gv (ad (au gS (ad (fC (.int 2)) aj)) aj) (fC (.int 3))) [s0,s1,s2,s3,s4,s5,s6,s7,some (.ref K),some (.int (m:Nat))] H=.ok (.ref (H++g).length) (H++g++[.lst [.ref k4,.ref k4,.ref k4]]):=bQ (qz (l:=[.ref k4]) (n:=3) (ah (aw (ah rfl rfl) d1) rfl) rfl ⟨by decide,by decide,by simp⟩) (by simp [SZ])
 obtain⟨H2,hH2⟩ : ∃ H2:Hd,H2=H++g++[.lst [.ref k4,.ref k4,.ref k4]]:=⟨_,rfl⟩
 have up:∀ {k:Nat} {c:cT},H[k]? = some c→H2[k]? = some c:=fun e=>by rw [hH2];exact ay _ (ay _ e)
 have k4e:H2[k4]? = some (.lst (BL 2)):=by rw [hH2];exact ay _ d2
 have r:∀ {k:Nat},H[k]? = some (.lst (BL 2))→eqR H2 (.ref k) (.ref k4)=some true:=fun e=>by
  simp only [eqR,if_pos (lt e),eqG,aS,up e,k4e,OW]
 have ne:Bw (.ref K) (.ref (H++g).length) H2=.ok (.bl false) H2:=by
  have l2:aS H2 (.ref (H++g).length)=some [.ref k4,.ref k4,.ref k4]:=by
   simp only [aS,hH2,ZG]
  have l1:aS H2 (.ref K)=some [.ref k1,.ref k2,.ref k3]:=by simp only [aS,up hK]
  unfold Bw
  rw [l1,l2]
  simp only [List.length_cons,List.length_nil,if_true,kZ,r c1,r c2,r c3]
  rfl
 rw [← hH2] at nw
 exact⟨H2,dh (aY (aq rfl nw ne))⟩
theorem Jw {s0 s1 s2 s4 s5 s6 s7:Option D}{K k1 k2 k3:Nat}{H:Hd}(hK:H[K]? = some (.lst [.ref k1,.ref k2,.ref k3]))(c1:sV H k1 [])(c2:sV H k2 (if m=n then [0] else []))(c3:(m=0∧sV H k3 [])∨(m≠0∧H[k3]? = some (.lst [.non]))) :
  ∃ H',sIf (tOr (dq (tE (au cu (ad (fAt (aa 8) (fC (.int 0))) (ad (fC (.int 0)) aj))))) (dq (tE (au cu (ad (fAt (aa 8) (fC (.int 1))) (ad (mO (ak oEq (aa 9) (aa 3))) aj)))))) (aT (fC (.bl false))) (sIf (tE (ak wE (fAt (aa 8) (fC (.int 2))) (dY (dY (aG (ad (fC .non) (ad (g7 (ad (aG aj) (ad (fC .non) aj))) aj))) (pAt (mO (ak oEq (aa 9) (fC (.int 0))))) pNo) pNo (pAt (fC (.int 1)))))) (aT (fC (.bl false))) bM) [s0,s1,s2,some (.int (n:Nat)),s4,s5,s6,s7,some (.ref K),some (.int (m:Nat))] H=.nx [s0,s1,s2,some (.int (n:Nat)),s4,s5,s6,s7,some (.ref K),some (.int (m:Nat))] H':=by
 obtain⟨a1,d1,e1⟩:=c1
 obtain⟨a2,d2,e2⟩:=c2
 have r1:=z5 d1 e1 (Nat.zero_le _)
 have r2:=z5 d2 e2 (by split<;>simp)
 have at':∀ (i:Int) (k:Nat),atI [D.ref k1,.ref k2,.ref k3] i=some (.ref k)→fAt (aa 8) (fC (.int i)) [s0,s1,s2,some (.int (n:Nat)),s4,s5,s6,s7,some (.ref K),some (.int (m:Nat))] H=.ok (.ref k) H:=fun i k e=>bz rfl rfl (bF hK) e
 have sz:mO (ak oEq (aa 9) (aa 3)) [s0,s1,s2,some (.int (n:Nat)),s4,s5,s6,s7,some (.ref K),some (.int (m:Nat))] H=.ok (.int ((if m=n then [0] else [] : List Nat).length:Int)) H:=by
  by_cases c:m=n
  ·rw [if_pos c];exact wU (b:=true) (aq rfl rfl (BM (by rw [c])))
  ·rw [if_neg c];exact wU (b:=false) (aq rfl rfl (wS (fun z=>c (Int.ofNat.inj z))))
 have nl:aG (ad (fC .non) (ad (g7 (ad (aG aj) (ad (fC .non) aj))) aj)) [s0,s1,s2,some (.int (n:Nat)),s4,s5,s6,s7,some (.ref K),some (.int (m:Nat))] H=.ok (.ref (H++[cT.lst []]).length) (H++[.lst []]++[.lst [.non,.tup [.ref H.length,.non]]]):=bQ (ah rfl (ah (i6 (cP (bQ rfl (by decide)) rfl) (by simp [SZ])) rfl)) (by simp [SZ])
 obtain⟨H1,hH1⟩ : ∃ H1:Hd,H1=H++[.lst []]++[.lst [.non,.tup [.ref H.length,.non]]]:=⟨_,rfl⟩
 have g1:H1[(H++[cT.lst []]).length]? = some (.lst [.non,.tup [.ref H.length,.non]]):=by rw [hH1];exact ZG
 have u1:∀ {k:Nat} {c:cT},H[k]? = some c→H1[k]? = some c:=fun e=>by rw [hH1];exact ay _ (ay _ e)
 rw [← hH1] at nl
 have pn:∀ {σ:Sd} {h:Hd},pNo σ h=.ok none h:=rfl
 have pa:∀ {e:EF} {σ:Sd} {h h':Hd} {i:Int},e σ h=.ok (.int i) h'→pAt e σ h=.ok (some i) h':=fun p=>by simp only [pAt,p,aN]
 have first:tOr (dq (tE (au cu (ad (fAt (aa 8) (fC (.int 0))) (ad (fC (.int 0)) aj))))) (dq (tE (au cu (ad (fAt (aa 8) (fC (.int 1))) (ad (mO (ak oEq (aa 9) (aa 3))) aj))))) [s0,s1,s2,some (.int (n:Nat)),s4,s5,s6,s7,some (.ref K),some (.int (m:Nat))] H=.ok false H :=
  iy (cW (b:=true) (aY (aw (cP (at' 0 k1 rfl) rfl) r1))) (cW (b:=true) (aY (aw (cP (at' 1 k2 rfl) sz) r2)))
 rcases c3 with ⟨m0,a3,d3,e3⟩|⟨m0,d3⟩
 ·have z1:mO (ak oEq (aa 9) (fC (.int 0))) [s0,s1,s2,some (.int (n:Nat)),s4,s5,s6,s7,some (.ref K),some (.int (m:Nat))] H1=.ok (.int 1) H1:=wU (b:=true) (aq rfl rfl (BM (by rw [m0];rfl)))
  have sl:=iJ nl (pa z1) pn g1
  obtain⟨H2,hH2⟩ : ∃ H2:Hd,H2=H1++[.lst (cut [.non,.tup [.ref H.length,.non]] (some 1) none)]:=⟨_,rfl⟩
  have g2:H2[H1.length]? = some (.lst [.tup [.ref H.length,.non]]):=by rw [hH2];exact ZG
  have sl2:=iJ (sl.trans (by rw [← hH2])) pn (pa (e:=fC (.int 1)) (i:=1) rfl) g2
  obtain⟨H3,hH3⟩ : ∃ H3:Hd,H3=H2++[.lst (cut [.tup [.ref H.length,.non]] none (some 1))]:=⟨_,rfl⟩
  rw [← hH3] at sl2
  have u3:∀ {k:Nat} {c:cT},H[k]? = some c→H3[k]? = some c:=fun e=>by rw [hH3,hH2];exact ay _ (ay _ (u1 e))
  have g3:H3[H2.length]? = some (.lst [.tup [.ref H.length,.non]]):=by rw [hH3];exact ZG
  have gn:H3[H.length]? = some (.lst []):=by rw [hH3,hH2,hH1];exact ay _ (ay _ (ay _ ZG))
  have an:a3≠H.length:=ZN (List.getElem?_eq_some_iff.mp e3).1
  have ne:wE (.ref k3) (.ref H2.length) H3=.ok (.bl false) H3:=by
   have l1:aS H3 (.ref k3)=some [.tup [.ref a3,.non]]:=by simp only [aS,u3 d3];rfl
   have l2:aS H3 (.ref H2.length)=some [.tup [.ref H.length,.non]]:=by simp only [aS,g3]
   have er:eqR H3 (.ref a3) (.ref H.length)=some true:=by
    simp only [eqR,if_pos an,eqG,aS,u3 e3,gn];rfl
   unfold wE
   rw [l1,l2]
   simp only [ne_eq,an,not_false_eq_true,true_and,if_true,kZ,er]
   rfl
  exact⟨H3,Eq.trans (dh first) (dh (aY (aq (at' 2 k3 rfl) sl2 ne)))⟩
 ·have z1:mO (ak oEq (aa 9) (fC (.int 0))) [s0,s1,s2,some (.int (n:Nat)),s4,s5,s6,s7,some (.ref K),some (.int (m:Nat))] H1=.ok (.int 0) H1:=wU (b:=false) (aq rfl rfl (wS (fun z=>m0 (Int.ofNat.inj z))))
  have sl:=iJ nl (pa z1) pn g1
  obtain⟨H2,hH2⟩ : ∃ H2:Hd,H2=H1++[.lst (cut [.non,.tup [.ref H.length,.non]] (some 0) none)]:=⟨_,rfl⟩
  have g2:H2[H1.length]? = some (.lst [.non,.tup [.ref H.length,.non]]):=by rw [hH2];exact ZG
  have sl2:=iJ (sl.trans (by rw [← hH2])) pn (pa (e:=fC (.int 1)) (i:=1) rfl) g2
  obtain⟨H3,hH3⟩ : ∃ H3:Hd,H3=H2++[.lst (cut [.non,.tup [.ref H.length,.non]] none (some 1))]:=⟨_,rfl⟩
  rw [← hH3] at sl2
  have u3:∀ {k:Nat} {c:cT},H[k]? = some c→H3[k]? = some c:=fun e=>by rw [hH3,hH2];exact ay _ (ay _ (u1 e))
  have g3:H3[H2.length]? = some (.lst [.non]):=by rw [hH3];exact ZG
  have ne:wE (.ref k3) (.ref H2.length) H3=.ok (.bl false) H3:=by
   have l1:aS H3 (.ref k3)=some [.non]:=by simp only [aS,u3 d3]
   have l2:aS H3 (.ref H2.length)=some [.non]:=by simp only [aS,g3]
   unfold wE
   rw [l1,l2]
  exact⟨H3,Eq.trans (dh first) (dh (aY (aq (at' 2 k3 rfl) sl2 ne)))⟩
end
end Fm
namespace Fm
section
variable {n m q:Nat} {x:Int}
abbrev XL (S:D) (k:Nat) (c:Int) (n:Nat) (x:Int) (a5 a6 a7 a8 a9:Option D):Sd:=[some S,some (.int (k:Nat)),some (.int c),some (.int (n:Nat)),some (.int x),a5,a6,a7,a8,a9]
theorem xp (n:Nat)(a:Int):(List.replicate n [D.int a]).flatten=(List.replicate n a).map D.int:=by
 induction n with
 | zero=>rfl
 | succ n ih=>rw [List.replicate_succ,List.flatten_cons,ih,List.replicate_succ,List.map_cons];rfl
theorem LL {S:D}{k:Nat}{c:Int}(hn:n=m + q)(n1:1≤n)(n30:n≤30)(w1:1≤x)(w2:x≤400){A5 A6:Nat}{h:Hd}{a7 a8 a9:Option D}(h5:h[A5]? = some (.lst ((aR m q).map aX)))(h6:h[A6]? = some (.lst ((bW n x).map iC))) :
  ∃ A h1 h2 H,bd (gN 7) (aG (ad (au cK (ad (aa 3) (ad (aa 6) (ad (aG (gv (ad (fC (.int (-1))) aj) (aa 3))) (ad (aa 5) aj))))) aj)) (XL S k c n x (some (.ref A5)) (some (.ref A6)) a7 a8 a9) h=.nx (XL S k c n x (some (.ref A5)) (some (.ref A6)) (some (.ref A)) a8 a9) h1∧kS (mP (aa 7) (au cK (ad (aa 3) (ad (aa 6) (ad (aG (dv (aG (ad (fC (.int 0)) aj)) (aG (gv (ad (ak gZ (ak eJ (fC (.int 2)) (aa 4)) (fC (.int 1))) aj) (ak gZ (aa 3) (fC (.int 1))))))) (ad (aa 5) aj)))))) (XL S k c n x (some (.ref A5)) (some (.ref A6)) (some (.ref A)) a8 a9) h1=.nx (XL S k c n x (some (.ref A5)) (some (.ref A6)) (some (.ref A)) a8 a9) h2∧kS (mP (aa 7) (au cK (ad (aa 3) (ad (aa 6) (ad (aG (gv (ad (ak eJ (fC (.int 60)) (aa 4)) aj) (aa 3))) (ad (aa 5) aj)))))) (XL S k c n x (some (.ref A5)) (some (.ref A6)) (some (.ref A)) a8 a9) h2=.nx (XL S k c n x (some (.ref A5)) (some (.ref A6)) (some (.ref A)) a8 a9) H ∧
   H[A5]? = some (.lst ((aR m q).map aX))∧H[A]? = some (.lst [(bX n x (List.replicate n (-1)) (aR m q)).enc,(bX n x (bsB n x) (aR m q)).enc,(bX n x (List.replicate n (60 * x)) (aR m q)).enc]):=by
 obtain⟨hC,hhC⟩ : ∃ hC:Hd,hC=h++[.lst ((List.replicate n (-1)).map .int)]:=⟨_,rfl⟩
 have bA:aG (gv (ad (fC (.int (-1))) aj) (aa 3)) (XL S k c n x (some (.ref A5)) (some (.ref A6)) a7 a8 a9) h=.ok (.ref h.length) hC:=by
  refine Eq.trans (bQ (qz (l:=[.int (-1)]) (n:=n) (ah rfl rfl) rfl ⟨by omega,by omega,by simp;omega⟩) (by simp [SZ];omega)) ?_
  rw [hhC,Int.toNat_natCast,xp]
 have C5:hC[A5]? = some (.lst ((aR m q).map aX)):=by rw [hhC];exact ay _ h5
 have C6:hC[A6]? = some (.lst ((bW n x).map iC)):=by rw [hhC];exact ay _ h6
 have wA:=O0 (bs:=List.replicate n (-1)) hn n1 n30 w1 w2 (by simp) C6 (by rw [hhC];exact ZG) C5
 obtain⟨WA,hWA⟩ : ∃ WA:D,WA=(bX n x (List.replicate n (-1)) (aR m q)).enc:=⟨_,rfl⟩
 obtain⟨WB,hWB⟩ : ∃ WB:D,WB=(bX n x (bsB n x) (aR m q)).enc:=⟨_,rfl⟩
 obtain⟨WC,hWC⟩ : ∃ WC:D,WC=(bX n x (List.replicate n (60 * x)) (aR m q)).enc:=⟨_,rfl⟩
 rw [← hWA] at wA ⊢
 rw [← hWB,← hWC]
 obtain⟨hD,hhD⟩ : ∃ hD:Hd,hD=hC++[.lst [WA]]:=⟨_,rfl⟩
 obtain⟨A,hA⟩ : ∃ A,A=hC.length:=⟨_,rfl⟩
 have D7:hD[A]? = some (.lst [WA]):=by rw [hhD,hA];exact ZG
 have D5:hD[A5]? = some (.lst ((aR m q).map aX)):=by rw [hhD];exact ay _ C5
 have D6:hD[A6]? = some (.lst ((bW n x).map iC)):=by rw [hhD];exact ay _ C6
 have s1:bd (gN 7) (aG (ad (au cK (ad (aa 3) (ad (aa 6) (ad (aG (gv (ad (fC (.int (-1))) aj) (aa 3))) (ad (aa 5) aj))))) aj)) (XL S k c n x (some (.ref A5)) (some (.ref A6)) a7 a8 a9) h=.nx (XL S k c n x (some (.ref A5)) (some (.ref A6)) (some (.ref A)) a8 a9) hD:=by
  rw [hhD,hA]
  exact aM (bQ (ah (aw (ah rfl (ah rfl (cP bA rfl))) wA) rfl) (by simp [SZ]))
 have rB:aG (gv (ad (ak gZ (ak eJ (fC (.int 2)) (aa 4)) (fC (.int 1))) aj) (ak gZ (aa 3) (fC (.int 1)))) (XL S k c n x (some (.ref A5)) (some (.ref A6)) (some (.ref A)) a8 a9) (hD++[.lst [.int 0]])=.ok (.ref (hD++[cT.lst [.int 0]]).length) (hD++[.lst [.int 0]]++[.lst ((List.replicate (n - 1) (2 * x - 1)).map .int)]):=by
  refine Eq.trans (bQ (qz (l:=[.int (2 * x - 1)]) (n:=(n:Int) - 1) (ah (aq (aq rfl rfl (lU (by decide))) rfl rfl) rfl) (aq rfl rfl rfl) ⟨by omega,by omega,by simp;omega⟩) (by simp [SZ];omega)) ?_
  rw [show ((n:Int) - 1).toNat=n - 1 by omega,xp]
 obtain⟨hE,hhE⟩ : ∃ hE:Hd,hE=hD++[.lst [.int 0]]++[.lst ((List.replicate (n - 1) (2 * x - 1)).map .int)]++[.lst ((bsB n x).map .int)]:=⟨_,rfl⟩
 have bB:aG (dv (aG (ad (fC (.int 0)) aj)) (aG (gv (ad (ak gZ (ak eJ (fC (.int 2)) (aa 4)) (fC (.int 1))) aj) (ak gZ (aa 3) (fC (.int 1)))))) (XL S k c n x (some (.ref A5)) (some (.ref A6)) (some (.ref A)) a8 a9) hD=.ok (.ref (hD++[cT.lst [.int 0]]++[cT.lst ((List.replicate (n - 1) (2 * x - 1)).map .int)]).length) hE:=by
  rw [hhE]
  exact bQ (jc (bQ (ah rfl rfl) (by simp [SZ])) rB (ay _ ZG) ZG (by simp [SZ];omega)) (by simp [SZ];omega)
 have uE:∀ {k:Nat} {c:cT},hD[k]? = some c→hE[k]? = some c:=fun e=>by rw [hhE];exact ay _ (ay _ (ay _ e))
 have wB:=O0 (bs:=bsB n x) hn n1 n30 w1 w2 (xo n1) (uE D6) (by rw [hhE];exact ZG) (uE D5)
 rw [← hWB] at wB
 have AE:A < hE.length:=(List.getElem?_eq_some_iff.mp (uE D7)).1
 have s2:kS (mP (aa 7) (au cK (ad (aa 3) (ad (aa 6) (ad (aG (dv (aG (ad (fC (.int 0)) aj)) (aG (gv (ad (ak gZ (ak eJ (fC (.int 2)) (aa 4)) (fC (.int 1))) aj) (ak gZ (aa 3) (fC (.int 1))))))) (ad (aa 5) aj)))))) (XL S k c n x (some (.ref A5)) (some (.ref A6)) (some (.ref A)) a8 a9) hD=.nx (XL S k c n x (some (.ref A5)) (some (.ref A6)) (some (.ref A)) a8 a9) (hE.set A (.lst ([WA]++[WB]))) :=
  wQ (BJ rfl D7 (aw (ah rfl (ah rfl (cP bB rfl))) wB) (uE D7) (by simp [SZ]))
 have n5:A≠A5:=fun z=>by rw [hA] at z;have:=(List.getElem?_eq_some_iff.mp C5).1;omega
 have n6:A≠A6:=fun z=>by rw [hA] at z;have:=(List.getElem?_eq_some_iff.mp C6).1;omega
 obtain⟨hF,hhF⟩ : ∃ hF:Hd,hF=hE.set A (.lst ([WA]++[WB])):=⟨_,rfl⟩
 rw [← hhF] at s2
 have F5:hF[A5]? = some (.lst ((aR m q).map aX)):=by rw [hhF,ZP n5];exact uE D5
 have F6:hF[A6]? = some (.lst ((bW n x).map iC)):=by rw [hhF,ZP n6];exact uE D6
 have F7:hF[A]? = some (.lst ([WA]++[WB])):=by rw [hhF];exact List.getElem?_set_self AE
 obtain⟨hG,hhG⟩ : ∃ hG:Hd,hG=hF++[.lst ((List.replicate n (60 * x)).map .int)]:=⟨_,rfl⟩
 have bC:aG (gv (ad (ak eJ (fC (.int 60)) (aa 4)) aj) (aa 3)) (XL S k c n x (some (.ref A5)) (some (.ref A6)) (some (.ref A)) a8 a9) hF=.ok (.ref hF.length) hG:=by
  refine Eq.trans (bQ (qz (l:=[.int (60 * x)]) (n:=n) (ah (aq rfl rfl (lU (by decide))) rfl) rfl ⟨by omega,by omega,by simp;omega⟩) (by simp [SZ];omega)) ?_
  rw [hhG,Int.toNat_natCast,xp]
 have uG:∀ {k:Nat} {c:cT},hF[k]? = some c→hG[k]? = some c:=fun e=>by rw [hhG];exact ay _ e
 have wC:=O0 (bs:=List.replicate n (60 * x)) hn n1 n30 w1 w2 (by simp) (uG F6) (by rw [hhG];exact ZG) (uG F5)
 rw [← hWC] at wC
 have AG:A < hG.length:=(List.getElem?_eq_some_iff.mp (uG F7)).1
 refine⟨A,hD,hF,hG.set A (.lst ([WA]++[WB]++[WC])),s1,s2,wQ (BJ rfl F7 (aw (ah rfl (ah rfl (cP bC rfl))) wC) (uG F7) (by simp [SZ])),?_,List.getElem?_set_self AG⟩
 rw [ZP n5];exact uG F5
theorem Jx (ns:List Int){k:Nat}(hk:k < 6)(h:Hd)(a2 a3 a4 a5 a6 a7 a8 a9:Option D) :
  ∃ b2 b3 b4 b5 b6 b7 b8 b9 H,w6 [some (.lit (ns.map .int)),some (.int (k:Nat)),a2,a3,a4,a5,a6,a7,a8,a9] h=.nx [some (.lit (ns.map .int)),some (.int (k:Nat)),b2,b3,b4,b5,b6,b7,b8,b9] H:=by
 obtain⟨S,hS⟩ : ∃ S:D,S=.lit (ns.map .int):=⟨_,rfl⟩
 obtain⟨c,hc⟩:=OY ns hk h
 rw [← hS] at hc ⊢
 obtain⟨n,hn⟩ : ∃ n:Nat,1 + c / 31 % 30=n:=⟨(1 + c / 31 % 30).toNat,by have:=Int.emod_nonneg (c / 31) (show (30:Int)≠0 by decide);omega⟩
 have n1:1≤n:=by have:=Int.emod_nonneg (c / 31) (show (30:Int)≠0 by decide);omega
 have n30:n≤30:=by have:=Int.emod_lt_of_pos (c / 31) (show (0:Int) < 30 by decide);omega
 obtain⟨x,hx⟩ : ∃ x:Int,x=1 + c / 7 % 400:=⟨_,rfl⟩
 have w1:1≤x:=by have:=Int.emod_nonneg (c / 7) (show (400:Int)≠0 by decide);omega
 have w2:x≤400:=by have:=Int.emod_lt_of_pos (c / 7) (show (0:Int) < 400 by decide);omega
 obtain⟨m,q,hmq,ho⟩:=Cj n1 n30 c h
 obtain⟨h1,hh1⟩ : ∃ h1:Hd,h1=h++[.lst ((aR m q).map aX)]:=⟨_,rfl⟩
 rw [← hh1] at ho
 obtain⟨h2,hh2⟩ : ∃ h2:Hd,h2=h1++[.lst ((bW n x).map iC)]:=⟨_,rfl⟩
 have st:=Ju (x:=x) (a0:=some S) (a1:=some (.int (k:Nat))) (a2:=some (.int c)) (a3:=some (.int (n:Nat))) (a5:=some (.ref h.length)) (a6:=a6) (a7:=a7) (a8:=a8) (a9:=a9) n30 h1 rfl n1
 rw [← hh2] at st
 have g5:h2[h.length]? = some (.lst ((aR m q).map aX)):=by rw [hh2,hh1];exact ay _ ZG
 have g6:h2[h1.length]? = some (.lst ((bW n x).map iC)):=by rw [hh2];exact ZG
 obtain⟨A,h3,h4,Hw,t1,t2,t3,w5,w7⟩:=LL (S:=S) (k:=k) (c:=c) (a7:=a7) (a8:=a8) (a9:=a9) hmq n1 n30 w1 w2 g5 g6
 have s3:bd (gN 3) (ak eI (fC (.int 1)) (ak ij (ak yS (aa 2) (fC (.int 31))) (fC (.int 30)))) [some S,some (.int (k:Nat)),some (.int c),a3,a4,a5,a6,a7,a8,a9] h=.nx [some S,some (.int (k:Nat)),some (.int c),some (.int (n:Nat)),a4,a5,a6,a7,a8,a9] h:=by
  rw [← hn]
  exact aM (aq rfl (aq (aq rfl rfl (IL (by decide) (by decide))) rfl (BK (by decide))) rfl)
 have s4:bd (gN 4) (ak eI (fC (.int 1)) (ak ij (ak yS (aa 2) (fC (.int 7))) (fC (.int 400)))) [some S,some (.int (k:Nat)),some (.int c),some (.int (n:Nat)),a4,a5,a6,a7,a8,a9] h=.nx [some S,some (.int (k:Nat)),some (.int c),some (.int (n:Nat)),some (.int x),a5,a6,a7,a8,a9] h:=by
  rw [hx]
  exact aM (aq rfl (aq (aq rfl rfl (IL (by decide) (by decide))) rfl (BK (by decide))) rfl)
 have fin:∀ {K k1 k2 k3:Nat} {g1 g2 g3:Hd},bq [(bX n x (List.replicate n (-1)) (aR m q)).enc] Hw=.ok (.ref k1) (Hw++g1)→bq [(bX n x (bsB n x) (aR m q)).enc] (Hw++g1)=.ok (.ref k2) (Hw++g1++g2)→bq [(bX n x (List.replicate n (60 * x)) (aR m q)).enc] (Hw++g1++g2)=.ok (.ref k3) (Hw++g1++g2++g3) →
   (∃ H',sIf (tE (ak oGt (aa 9) (fC (.int 9)))) (sIf (tE (ak Bw (aa 8) (aG (gv (ad (au gS (ad (fC (.int 2)) aj)) aj) (fC (.int 3)))))) (aT (fC (.bl false))) bM) (sIf (tOr (dq (tE (au cu (ad (fAt (aa 8) (fC (.int 0))) (ad (fC (.int 0)) aj))))) (dq (tE (au cu (ad (fAt (aa 8) (fC (.int 1))) (ad (mO (ak oEq (aa 9) (aa 3))) aj)))))) (aT (fC (.bl false))) (sIf (tE (ak wE (fAt (aa 8) (fC (.int 2))) (dY (dY (aG (ad (fC .non) (ad (g7 (ad (aG aj) (ad (fC .non) aj))) aj))) (pAt (mO (ak oEq (aa 9) (fC (.int 0))))) pNo) pNo (pAt (fC (.int 1)))))) (aT (fC (.bl false))) bM)) (XL S k c n x (some (.ref h.length)) (some (.ref h1.length)) (some (.ref A)) (some (.ref (Hw++g1++g2++g3).length)) (some (.int (m:Nat)))) (Hw++g1++g2++g3++[.lst [.ref k1,.ref k2,.ref k3]])=.nx (XL S k c n x (some (.ref h.length)) (some (.ref h1.length)) (some (.ref A)) (some (.ref (Hw++g1++g2++g3).length)) (some (.int (m:Nat)))) H') →
   ∃ b2 b3 b4 b5 b6 b7 b8 b9 H,w6 [some S,some (.int (k:Nat)),a2,a3,a4,a5,a6,a7,a8,a9] h=.nx [some S,some (.int (k:Nat)),b2,b3,b4,b5,b6,b7,b8,b9] H:=fun {K k1 k2 k3 g1 g2 g3} q1 q2 q3 ⟨H',j⟩=>by
  have c3:=Qk (σ:=XL S k c n x (some (.ref h.length)) (some (.ref h1.length)) (some (.ref A)) a8 a9) rfl rfl w7 q1 q2 q3
  refine⟨_,_,_,_,_,_,_,_,_,sx (aM (aw (cP rfl rfl) hc)) (sx s3 (sx s4 (sx (aM (aw (cP rfl rfl) ho)) (sx (aM st) (sx t1 (sx t2 (sx t3 (sx (aM c3) (sx (aM (Ck m q rfl (ay _ (ay _ (ay _ (ay _ w5)))))) j)))))))))⟩
 by_cases m9:9 < m
 ·obtain⟨k1,g1,q1,c1⟩:=OZ (x:=x) (bs:=List.replicate n (-1)) hmq n30 m9 Hw
  obtain⟨k2,g2,q2,c2⟩:=OZ (x:=x) (bs:=bsB n x) hmq n30 m9 (Hw++g1)
  obtain⟨k3,g3,q3,c3⟩:=OZ (x:=x) (bs:=List.replicate n (60 * x)) hmq n30 m9 (Hw++g1++g2)
  refine fin (K:=0) q1 q2 q3 ?_
  obtain⟨H',j⟩:=Jv (a:=none) (b:=none) (m:=m) (H:=Hw++g1++g2++g3++[.lst [.ref k1,.ref k2,.ref k3]]) m9 ZG (ay _ (ay _ (ay _ c1))) (ay _ (ay _ c2)) (ay _ c3)
  exact⟨H',Eq.trans (qy (aY (aq rfl rfl (BN (by omega))))) j⟩
 ·have m9':m≤9:=by omega
  obtain⟨k1,g1,q1,c1⟩:=Q0 (x:=x) hmq n1 n30 w1 m9' Hw
  obtain⟨k2,g2,q2,c2⟩:=Q1 (x:=x) hmq n1 n30 w1 m9' (Hw++g1)
  obtain⟨k3,g3,q3,c3⟩:=Q3 (x:=x) hmq n1 n30 w1 m9' (Hw++g1++g2)
  refine fin (K:=0) q1 q2 q3 ?_
  obtain⟨H',j⟩:=Jw (m:=m) (n:=n) (H:=Hw++g1++g2++g3++[.lst [.ref k1,.ref k2,.ref k3]]) ZG (((c1.more _).more _).more _) ((c2.more _).more _) (c3.imp (fun z=>⟨z.1,z.2.more _⟩) fun z=>⟨z.1,ay _ z.2⟩)
  exact⟨H',Eq.trans (dh (aY (aq rfl rfl (wV (by omega))))) j⟩
theorem O1 (ns:List Int)(hns:ns.length≤63):∃ h,EC [.lit (ns.map .int)] []=.ok (.bl true) h:=by
 obtain⟨σ',h',k1,_⟩:=iw (P:=fun _ σ _=>∃ b1 b2 b3 b4 b5 b6 b7 b8 b9,σ = [some (.lit (ns.map .int)),b1,b2,b3,b4,b5,b6,b7,b8,b9]) (g:=none) (k:=0) (all:=(List.range 6).map fun k:Nat=>D.int k) (fun _ _ _ _=>trivial) (xs:=(List.range 6).map fun k:Nat=>D.int k) (tg:=gN 1) (σ:=[some (.lit (ns.map .int)),none,none,none,none,none,none,none,none,none]) (h:=[]) (b:=w6) (by
   rintro i y σ h0 hx ⟨b1,b2,b3,b4,b5,b6,b7,b8,b9,rfl⟩
   obtain⟨hi,rfl⟩:=m7 hx
   obtain⟨c2,c3,c4,c5,c6,c7,c8,c9,H,e⟩:=Jx ns hi h0 b2 b3 b4 b5 b6 b7 b8 b9
   exact⟨_,rfl,_,_,e,_,_,_,_,_,_,_,_,_,rfl⟩) ⟨_,_,_,_,_,_,_,_,_,rfl⟩
 exact⟨_,Eq.trans (br (σ:=[some (.lit (ns.map .int)),none,none,none,none,none,none,none,none,none]) rfl rfl (sx (k7 (jS (n:=6) rfl (by decide)) k1) (aP rfl))) (i5 (h:=[]) (g:=h') rfl)⟩
end
end Fm
def PySem.W.Fast.tw90343872475197607 : Type := PySem.Params
theorem PySem.W.Fast.te90343872475197607 : PySem.Params = PySem.W.Fast.tw90343872475197607 := rfl
open PySem PySem.W PyProof.Rows
set_option maxRecDepth 100000 in
set_option maxHeartbeats 0 in
theorem PySem.Challenge.cw_followmost_k39_fewest_of_too_many_holds : PySem.Challenge.rw_followmost_k39_fewest_of_too_many.Holds := by
 w_on;o_law;k_head;(case hw=>w_witness2)
 k_fill
 refine Fm.PM (l := PySem.Challenge.rw_followmost_k39_fewest_of_too_many) (F := Fm.EC) (k := 11) (x := "_law_script") rfl rfl ⟨rfl, by decide, by decide, rfl⟩ (fun w h Y => PySem.W.kIn_of Y) ?F Fm.O1
 case F =>
  intro w mg fa h KX G hmg
  refine' Fm.OM KX G hmg ?_ ?_ ?_ ?_ ?_ ?_ ?_ ?_ ?_ ?_ ?_ ?_ ?_ ?_ ?_ ?_ ?_ ?_ ?_ ?_ ?_ ?_ ?_ ?_ ?_ ?_ ?_ ?_ ?_ ?_ ?_ ?_ ?_ ?_ ?_ ?_ ?_ ?_ ?_ ?_ ?_ ?_ ?_ ?_ ?_ ?_ ?_ ?_ ?_ ?_ ?_ ?_ ?_ ?_ ?_ ?_ ?_ ?_ ?_ ?_ ?_ ?_ ?_ ?_ ?_ ?_ ?_ ?_ ?_ ?_ ?_ ?_ ?_ ?_ ?_ ?_ ?_ ?_ ?_ ?_ ?_ ?_ ?_ ?_ ?_ ?_ ?_ ?_ ?_ ?_ ?_ ?_ ?_ ?_ ?_ ?_ ?_ ?_ ?_ ?_ ?_ ?_ ?_ ?_ ?_ ?_ ?_ ?_ ?_ ?_ ?_ ?_ ?_ ?_ ?_ ?_ ?_ ?_ ?_ ?_ ?_ ?_ ?_ ?_ ?_ ?_ ?_ ?_ ?_ ?_ ?_ ?_ ?_ ?_ ?_ ?_ ?_ ?_ ?_ ?_ ?_ ?_ ?_ ?_ ?_ ?_ ?_ ?_ ?_ ?_ ?_ ?_ ?_ ?_ ?_ ?_ ?_ ?_ ?_ ?_ ?_ ?_ ?_ ?_ ?_ ?_ ?_ ?_ ?_ ?_ ?_ ?_ ?_ ?_ ?_ ?_ ?_ ?_ ?_ ?_ ?_ ?_ ?_ ?_ ?_ ?_ ?_ ?_ ?_ ?_
  all_goals try first|k_is|k_exc|kit_is
