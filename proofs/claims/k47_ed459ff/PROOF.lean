import PyProof.Rows.All
import Wide.All
import OpenK.AllK
import Wide.FinOn
import Lean
import PyProof.EqAt
import PyProof.EqKinds
import PyProof.TupleCall
import PyProof.NeKinds
import PyProof.IsInstanceH
import PyProof.IsiNone
import PyProof.EnumMake
import PyProof.Draws
import PyProof.Rows.SortRuns
import PyProof.ZipIter
import PyProof.ListRange
import PyProof.SetKind
import PyProof.Rows.SetFrom
import PyProof.FactsAll.set
import PyProof.DictIter
import KE.KDictList
import PyProof.TupleKey
import PyProof.IsRules
import PyProof.SetRoads
import PySem.Challenge.RW_followmost_k47_whole_changes_for_ones
set_option Elab.async false
set_option linter.all false
set_option maxRecDepth 100000
abbrev ZY:=PySem.Value→PySem.Shared→Prop
abbrev ZZ:=PySem.Result→PySem.Shared→Prop
abbrev YA:=List (List Int)
abbrev YB:=List (Option Int)
abbrev YC:=List (Nat × Int)
abbrev YD:=List (Int × PySem.Value)
abbrev YE:=Array (Int × PySem.Value)
abbrev YF:=List Int
abbrev YG:=List PySem.Value
abbrev YH:=List PySem.Addr
abbrev YI:=List PySem.Str
abbrev YJ:=List PySem.Expr
abbrev YK:=Array PySem.Value
abbrev YL:=Option Nat
abbrev YM:=Option PySem.Value
abbrev YN:=PySem.SetTable
theorem YO{α:Type}{l:List α}{i:Nat}{a:α}(h:l[i]?=some a):∃h:i<l.length,l[i]=a:=List.getElem?_eq_some_iff.mp h
theorem YQ{α:Type}{a b:α}{l:List α}(h:a∈b::l):a=b∨a∈l:=List.mem_cons.mp h
theorem YR{α β:Type}{f:α→β}{b:β}{l:List α}(h:b∈l.map f):∃a,a∈l∧f a=b:=List.mem_map.mp h
theorem YS{α:Type}{a:α}{s t:List α}(h:a∈s++t):a∈s∨a∈t:=List.mem_append.mp h
theorem YT{m n:Nat}(h:m∈List.range n):m<n:=List.mem_range.mp h
theorem YU{α:Type}{p:α→Bool}{a:α}{l:List α}(h:a∈l.filter p):a∈l∧p a=true:=List.mem_filter.mp h
theorem YV{α:Type}{a b:α}(h:a∈[b]):a=b:=List.mem_singleton.mp h
abbrev YW:=@PySem.wpAny_bind
abbrev YX:=@PySem.wpAny_pure
abbrev YZ:=@decide_eq_true
abbrev XB:=@decide_eq_false
abbrev XC:=@List.map_cons
abbrev XE:=@List.getElem_mem
abbrev ZA:=@List.length_map
abbrev ZB:=@List.length_append
abbrev ZC:=@List.getElem?_append_left
abbrev ZD:=@List.getElem?_append_right
abbrev ZE:=@List.getElem?_eq_getElem
abbrev ZF:=@List.getD_eq_getElem?_getD
abbrev ZG:=@List.getElem?_concat_length
abbrev ZH:=@PySem.Heap.get?_push_of_some
abbrev ZI:=@PySem.Heap.lt_size
abbrev ZJ:=@PySem.Heap.get?_push_size
abbrev ZK:=@List.mem_of_getElem?
abbrev ZL:=@Nat.le_refl
abbrev ZM:=@Nat.le_trans
abbrev ZN:=@Nat.ne_of_lt
abbrev ZO:=@List.length_range
abbrev ZP:=@List.getElem?_set_ne
abbrev ZQ:=@List.getElem?_map
abbrev ZR:=@List.map_append
abbrev ZS:=@Nat.lt_of_le_of_lt
abbrev ZT:=@Option.some.inj
abbrev ZU:=@List.append_assoc
abbrev ZV:=@List.mem_cons_self
abbrev ZW:=@List.mem_cons_of_mem
abbrev ZX:=PySem.W.Frag
namespace L2
open PySem PySem.Spec PyProof.Rows
abbrev Key:=Sum Int Str
def qy:Key→Value→Bool
 | .inl k,v=>Value.isInt k v
 | .inr x,v=>Value.isStrOf x v
def IA (w:World):Key→Int
 | .inl k=>hashInt k
 | .inr x=>hashStr w x
theorem cr:∀ {k:Key} {v:Value},qy k v=true→(∃ i t,k=Sum.inl i∧v=Value.int i t)∨(∃ x t,k=Sum.inr x∧v=Value.str x t)
 | .inl i,v,h=>by
  obtain⟨t,e⟩:=Value.isInt_shape (k:=i) (v:=v) h
  exact .inl ⟨i,t,rfl,e⟩
 | .inr x,v,h=>by
  obtain⟨t,e⟩:=Value.isStrOf_shape (x:=x) (v:=v) h
  exact .inr ⟨x,t,rfl,e⟩
theorem yU (i:Int)(t:Tok):qy (.inl i) (.int i t)=true:=by simp [qy,Value.isInt]
theorem yV (x:Str)(t:Tok):qy (.inr x) (.str x t)=true:=by simp [qy,Value.isStrOf]
theorem EH (a b:Int):decide ((Sum.inl a:Key)=Sum.inl b)=(a == b):=by
 by_cases e:a=b
 ·subst e;simp
 ·have h : ¬ (Sum.inl a:Key)=Sum.inl b:=fun q=>e (Sum.inl.inj q)
  rw [XB h]
  exact (beq_eq_false_iff_ne.mpr e).symm
theorem EI (a b:Str):decide ((Sum.inr a:Key)=Sum.inr b)=decide (a=b):=by
 by_cases e:a=b
 ·subst e;simp
 ·have h : ¬ (Sum.inr a:Key)=Sum.inr b:=fun q=>e (Sum.inr.inj q)
  rw [XB h,XB e]
theorem EJ (a:Int)(b:Str):decide ((Sum.inl a:Key)=Sum.inr b)=false:=XB (fun q=>nomatch q)
theorem EK (a:Str)(b:Int):decide ((Sum.inr a:Key)=Sum.inl b)=false:=XB (fun q=>nomatch q)
def cH (prog:Program) (w:World):PySem.KeyKind prog w Key where
 is:=qy
 hash:=IA w
 inj:=fun v a b ha hb=>by
  rcases cr ha with ⟨i,t,rfl,rfl⟩|⟨x,t,rfl,rfl⟩
  ·rcases cr hb with ⟨j,u,rfl,e⟩|⟨y,u,rfl,e⟩
   ·injection e with e1 _;rw [e1]
   ·exact nomatch e
  ·rcases cr hb with ⟨j,u,rfl,e⟩|⟨y,u,rfl,e⟩
   ·exact nomatch e
   ·injection e with e1 _;rw [e1]
 byValue:=fun k v h=>by
  rcases cr h with ⟨i,t,rfl,rfl⟩|⟨x,t,rfl,rfl⟩<;>rfl
 pyHash:=fun hv h=>by
  rcases cr hv with ⟨i,t,rfl,rfl⟩|⟨x,t,rfl,rfl⟩
  ·exact wpAny_pyHash_int h
  ·exact wpAny_pyHash_str h
 eqBool:=fun hu hv h=>by
  rcases cr hu with ⟨i,t,rfl,rfl⟩|⟨x,t,rfl,rfl⟩
  ·rcases cr hv with ⟨j,u,rfl,rfl⟩|⟨y,u,rfl,rfl⟩
   ·rw [EH] at h;exact wpAny_eqBool_int h
   ·rw [EJ] at h;exact SeqAt.EqAt.int_str i t y u _ _ _ _ h
  ·rcases cr hv with ⟨j,u,rfl,rfl⟩|⟨y,u,rfl,rfl⟩
   ·rw [EK] at h;exact SeqAt.EqAt.str_int x t j u _ _ _ _ h
   ·rw [EI] at h;exact wpAny_eqBool_str h
 «strs» := fun k x t v h=>by
  rcases cr h with ⟨i,u,rfl,e⟩|⟨y,u,rfl,e⟩
  ·exact nomatch e
  ·injection e with e1 _
   subst e1
   cases v<;>rfl
theorem ue (prog:Program)(w:World)(i:Int)(t:Tok):(cH prog w).is (.inl i) (.int i t)=true:=yU i t
theorem uf (prog:Program)(w:World)(x:Str)(t:Tok):(cH prog w).is (.inr x) (.str x t)=true:=yV x t
end L2
namespace L2
open PySem PySem.Spec PyProof.Rows
inductive V where
 | non|bl (b:Bool)|int (i:Int)|str (x:Str)|byt (b:Array UInt8)|flt (b:UInt64)|ref (a:Addr)|ty (n:String)
 deriving DecidableEq
def bB:V→Value→Prop
 | .non,u=>u=Value.none
 | .bl b,u=>u=Value.bool b
 | .int i,u=>∃ t,u=Value.int i t
 | .str x,u=>∃ t,u=Value.str x t
 | .byt b,u=>∃ t,u=Value.bytes b t
 | .flt b,u=>∃ t,u=Value.float b t
 | .ref a,u=>u=Value.ref a
 | .ty n,u=>u=Value.type n
abbrev aV:List V→YG→Prop:=Paired bB
theorem aV.length {xs:List V}{us:YG}(r:aV xs us):xs.length=us.length:=Paired.length r
theorem aV.get:∀ {xs:List V} {us:YG} {i:Nat} {x:V},aV xs us→xs[i]? = some x → ∃ u,us[i]? = some u∧bB x u
 | _,_,_,_,.nil,e=>by simp at e
 | _,_,0,_,.cons r _,e=>by simp at e;subst e;exact⟨_,rfl,r⟩
 | _,_,i + 1,x,.cons _ t,e=>by
  obtain⟨u,h1,h2⟩:=aV.get (i:=i) (x:=x) t (by simpa using e)
  exact⟨u,by simpa using h1,h2⟩
theorem aV.set {x:V}{u:Value}(r:bB x u):∀ {xs:List V} {us:YG} (i:Nat),aV xs us→aV (xs.set i x) (us.set i u)
 | _,_,_,.nil=>.nil
 | _,_,0,.cons _ t=>.cons r t
 | _,_,i + 1,.cons q t=>.cons q (aV.set r i t)
theorem aV.append:∀ {xs ys:List V} {us ws:YG},aV xs us→aV ys ws→aV (xs++ys) (us++ws)
 | _,_,_,_,.nil,s=>s
 | _,_,_,_,.cons r t,s=>.cons r (aV.append t s)
theorem aV.take:∀ {xs:List V} {us:YG} (n:Nat),aV xs us→aV (xs.take n) (us.take n)
 | _,_,0,_=>.nil
 | _,_,_ + 1,.nil=>.nil
 | _,_,n + 1,.cons r t=>.cons r (aV.take n t)
theorem aV.drop:∀ {xs:List V} {us:YG} (n:Nat),aV xs us→aV (xs.drop n) (us.drop n)
 | _,_,0,r=>r
 | _,_,_ + 1,.nil=>.nil
 | _,_,n + 1,.cons _ t=>aV.drop n t
def yW:Option V→YM→Prop
 | some v,some u=>bB v u
 | none,none=>True
 | _,_=>False
def KV {κ : Type}:List (κ × V)→List (κ × Value)→Prop:=Paired fun (p : κ × V) (q : κ × Value)=>p.1=q.1∧bB p.2 q.2
def kV:Key→V
 | .inl i=>.int i
 | .inr x=>.str x
inductive HO where
  | lst (xs:List V)
  | tup (xs:List V)
  | dK (kvs:List (Key × V))|dT (kvs:List (List Key × V))
  | set (S:Int→Bool) (n:Nat)
  | ins (C dx:Addr) (fs:List (Str × V))
  | own (x:Addr)
  | xd (fs:List (Str × V))
  | met (f x:Addr)
  | rng (lo hi:Int)
  | frz (o:Obj) (u:HO)
  | tbl (ps:YK)
  | ext (φ : Heap→Prop)
abbrev Hp:=Addr→Option HO
def upd (H:Hp) (a:Addr) (o:HO):Hp:=fun b=>if b=a then some o else H b
theorem aS {H:Hp}{a:Addr}{o:HO}:upd H a o a=some o:=by unfold upd;rw [if_pos rfl]
theorem aC {H:Hp}{a b:Addr}{o:HO}(h:b≠a):upd H a o b=H b:=by unfold upd;rw [if_neg h]
theorem G8 {H:Hp}{a b:Addr}{o u:HO}(h:H a=some o)(h':H b=some u)(d:o≠u):a≠b:=by
 intro e;subst e;rw [h] at h';exact d (ZT h')
theorem bg {H:Hp}{a b:Addr}{o:HO}(h:H a=some o)(h':H b=none):a≠b:=by
 intro e;subst e;rw [h] at h';cases h'
section
variable (P:Program) (w:World)
def dP (H:Hp) (h:Heap) (a:Addr):HO→Prop
 | .lst xs=>xs.length≤sizeLine ∧ ∃ (its:YG) (n:Nat),aV xs its∧h.get? a=some { cls:=.type "list",data:=.seq its.toArray n }
 | .tup xs=>xs.length≤sizeLine ∧ ∃ its:YG,aV xs its∧IsTup h a its.toArray
 | .dK kvs=>kvs.length≤sizeLine∧(a == sysModules)=false ∧ ∃ vs,KV kvs vs∧h.DictOf (cH P w) a vs
 | .dT kvs=>kvs.length≤sizeLine∧(a == sysModules)=false ∧ ∃ xs:List (List Key × Addr × Value),
   Paired (fun (p:List Key × V) (q:List Key × Addr × Value)=>p.1=q.1∧H q.2.1=some (.tup (p.1.map kV))∧bB p.2 q.2.2) kvs xs ∧
   ∃ o es ep,h.get? a=some o∧o.ExactDict∧o.data=.dict es ep∧es.toList=xs.map (entryOfKey (tupleKind (cH P w)))∧(xs.map (·.1)).Nodup
 | .set S n=>h.SetOf (intKind P w) a S n
 | .ins C dx fs=>H dx=some (.own a)∧fs.length≤1000∧dx≠a∧h.get? a=some (PySem.W.instObj C dx) ∧
   ∃ mA,h.Ns1 dx mA∧(∀ f,yW (fs.lookup f) (mA f))∧PySem.Within mA (fs.map (·.1))
 | .own _=>∃ o,h.get? a=some o
 | .xd fs=>∃ mA,h.Ns1 a mA ∧ ∀ f,yW (fs.lookup f) (mA f)
 | .rng lo hi=>∃ t u v,h.get? a=some { cls:=.type "range",data:=.fields #[.int lo t,.int hi u,.int 1 v] }
 | .frz o u=>h.get? a=some o∧dP H h a u
 | .tbl ps=>h.get? a=some { cls:=.none,data:=.fields ps }
 | .met f x=>h.get? a=some (PySem.W.methodObj (.ref f) (.ref x))
 | .ext φ => φ h∧(∃ o,h.get? a=some o) ∧ ∀ h1 h2:Heap,φ h1→(∀ o,h1.get? a=some o→h2.get? a=some o) → φ h2
def HOk (H:Hp) (h:Heap):Prop:=∀ a o,H a=some o→dP P w H h a o
end
section
variable {P:Program} {w:World} {H H':Hp} {h h':Heap} {a:Addr} {o:HO}
theorem dP.lt (x:dP P w H h a o):a < h.objs.size:=by
 cases o with
 | lst xs=>obtain⟨_,_,_,_,e⟩:=x;exact ZI e
 | tup xs=>obtain⟨_,_,_,p⟩:=x;exact p.lt
 | dK kvs=>obtain⟨_,_,_,_,o,_,_,e,_⟩:=x;exact ZI e
 | dT kvs=>obtain⟨_,_,_,_,o,_,_,e,_⟩:=x;exact ZI e
 | set S n=>obtain⟨o,_,_,_,e,_⟩:=x;exact ZI e
 | ins C dx fs=>obtain⟨_,_,_,e,_⟩:=x;exact ZI e
 | own y=>obtain⟨_,e⟩:=x;exact ZI e
 | xd fs=>obtain⟨_,⟨_,_,_,e,_⟩,_⟩:=x;exact ZI e
 | rng lo hi=>obtain⟨_,_,_,e⟩:=x;exact ZI e
 | frz ob u=>obtain⟨e,_⟩:=x;exact ZI e
 | tbl ps=>exact ZI (show h.get? a=some _ from x)
 | met f y=>exact ZI (show h.get? a=some _ from x)
 | ext φ => obtain⟨_,⟨_,e⟩,_⟩:=x;exact ZI e
theorem Paired.mapP {α β : Type}{F G : α → β → Prop}:∀ {l₁ : List α} {l₂ : List β},Paired F l₁ l₂ → (∀ a b,F a b→G a b)→Paired G l₁ l₂
 | _,_,.nil,_=>.nil
 | _,_,.cons r t,f=>.cons (f _ _ r) (Paired.mapP t f)
theorem dP.stay (x:dP P w H h a o)(k:∀ b u,(b=a∨H b=some (.own a))→h.get? b=some u→h'.get? b=some u)
  (ho:∀ b,H b=some (.own a)→H' b=some (.own a)) (ht:∀ b xs,H b=some (.tup xs)→H' b=some (.tup xs)):dP P w H' h' a o:=by
 induction o with
 | lst xs=>obtain⟨z,its,n,r,e⟩:=x;exact⟨z,its,n,r,k _ _ (.inl rfl) e⟩
 | tup xs=>obtain⟨z,its,r,ob,e,c⟩:=x;exact⟨z,its,r,ob,k _ _ (.inl rfl) e,c⟩
 | dK kvs=>obtain⟨z,y,vs,r,ob,es,ep,e,c⟩:=x;exact⟨z,y,vs,r,ob,es,ep,k _ _ (.inl rfl) e,c⟩
 | dT kvs =>
  obtain⟨z,y,xs,r,ob,es,ep,e,c⟩:=x
  exact⟨z,y,xs,Paired.mapP r fun p q z=>⟨z.1,ht _ _ z.2.1,z.2.2⟩,ob,es,ep,k _ _ (.inl rfl) e,c⟩
 | set S n=>obtain⟨ob,es,ep,t,e,c⟩:=x;exact⟨ob,es,ep,t,k _ _ (.inl rfl) e,c⟩
 | ins C dx fs =>
  obtain⟨d,z,ne,e,mA,⟨od,es,ep,e2,c⟩,r⟩:=x
  exact⟨ho _ d,z,ne,k _ _ (.inl rfl) e,mA,⟨od,es,ep,k _ _ (.inr d) e2,c⟩,r⟩
 | own y=>obtain⟨ob,e⟩:=x;exact⟨ob,k _ _ (.inl rfl) e⟩
 | xd fs=>obtain⟨mA,⟨od,es,ep,e,c⟩,r⟩:=x;exact⟨mA,⟨od,es,ep,k _ _ (.inl rfl) e,c⟩,r⟩
 | rng lo hi=>obtain⟨t,u,v,e⟩:=x;exact⟨t,u,v,k _ _ (.inl rfl) e⟩
 | frz ob u ih=>obtain⟨e,q⟩:=x;exact⟨k _ _ (.inl rfl) e,ih q⟩
 | tbl ps =>
  have e:h.get? a=some { cls:=.none,data:=.fields ps }:=x
  show h'.get? a=some { cls:=.none,data:=.fields ps }
  exact k a _ (.inl rfl) e
 | met f y =>
  have e:h.get? a=some (PySem.W.methodObj (.ref f) (.ref y)):=x
  show h'.get? a=some (PySem.W.methodObj (.ref f) (.ref y))
  exact k a _ (.inl rfl) e
 | ext φ => obtain⟨p,⟨o,e⟩,st⟩:=x;exact⟨st _ _ p fun o q=>k _ _ (.inl rfl) q,⟨o,k _ _ (.inl rfl) e⟩,st⟩
theorem HOk.lt (x:HOk P w H h)(e:H a=some o):a < h.objs.size:=(x a o e).lt
theorem HOk.fresh (x:HOk P w H h)(e:h.objs.size≤a):H a=none:=by
 cases q:H a with
 | none=>rfl
 | some u=>exact absurd (Nat.lt_of_lt_of_le (x.lt q) e) (Nat.lt_irrefl _)
theorem HOk.kept (x:HOk P w H h)(k:∀ b u,h.get? b=some u→h'.get? b=some u):HOk P w H h':=fun a o e =>
 (x a o e).stay (fun b u _ q=>k b u q) (fun _ q=>q) fun _ _ q=>q
theorem HOk.laid (x:HOk P w H h)(k:∀ b u,h.get? b=some u→h'.get? b=some u)(hp:h.objs.size≤a)(new:dP P w (upd H a o) h' a o):HOk P w (upd H a o) h':=fun b u e=>by
 have hn:=x.fresh hp
 by_cases hb:b=a
 ·subst hb;rw [aS] at e;cases e;exact new
 ·rw [aC hb] at e
  exact (x b u e).stay (fun c v _ q=>k c v q) (fun c q=>by rw [aC (bg q hn)];exact q) fun c xs q=>by rw [aC (bg q hn)];exact q
end
def Rd (H:Hp) (a:Addr) (u:HO):Prop:=H a=some u ∨ ∃ o,H a=some (.frz o u)
theorem Rd.ok {P:Program}{w:World}{H:Hp}{h:Heap}{a:Addr}{u:HO}(r:Rd H a u)(x:HOk P w H h):dP P w H h a u:=by
 rcases r with r|⟨o,r⟩
 ·exact x a u r
 ·obtain⟨_,q⟩:=x a _ r
  exact q
def Mut:Option HO→Prop
 | some (.lst _)=>True
 | some (.dK _)=>True
 | some (.dT _)=>True
 | some (.set _ _)=>True
 | some (.ins _ _ _)=>True
 | some (.ext _)=>True
 | _=>False
section
variable {P:Program} {w:World} {H:Hp} {h h':Heap} {x e:Addr} {o':HO}
theorem HOk.write (ok:HOk P w H h)(mu:Mut (H x))(he:e=x∨H e=some (.own x))(k:∀ b u,b≠e→h.get? b=some u→h'.get? b=some u)(heo:∃ u,h'.get? e=some u)
  (new:dP P w (upd H x o') h' x o'):HOk P w (upd H x o') h':=fun b u q=>by
 have nown:∀ c y,H c=some (.own y)→c≠x:=fun c y r z=>by subst z;rw [r] at mu;exact mu
 have ntup:∀ c xs,H c=some (.tup xs)→c≠x:=fun c xs r z=>by subst z;rw [r] at mu;exact mu
 by_cases hb:b=x
 ·subst hb;rw [aS] at q;cases q;exact new
 ·rw [aC hb] at q
  by_cases hbe:b=e
  ·have q':H b=some (.own x):=by
    rcases he with z|z
    ·exact absurd (hbe.trans z) hb
    ·rw [hbe];exact z
   rw [q] at q';cases q'
   obtain⟨v,hv⟩:=heo
   exact⟨v,by rw [hbe];exact hv⟩
  ·refine (ok b u q).stay (fun c v hc r=>k c v ?_ r) (fun c r=>by rw [aC (nown c b r)];exact r) fun c xs r=>by rw [aC (ntup c xs r)];exact r
   rcases hc with rfl|hc
   ·exact hbe
   ·rintro rfl
    rcases he with z|z
    ·exact nown c b hc z
    ·rw [hc] at z;cases z;exact hb rfl
end
structure Un (fs ex:YH) (H H':Hp) (h h':Heap):Prop where
 keep:∀ b o,h.get? b=some o→H b=none→b∉fs→b∉ex→h'.get? b=some o
 slot:∀ b o,h.get? b=some o→H b=none→b∈fs→b∉ex → ∃ sl,h'.get? b=some { o with slots:=sl }
 free:∀ b o,h.get? b=some o→H b=none→b∉ex→H' b=none
 there:∀ b o,h.get? b=some o→b∉ex → ∃ o',h'.get? b=some o'
 tups:∀ b xs,H b=some (.tup xs)→H' b=some (.tup xs)
 frzs:∀ b o u,H b=some (.frz o u)→H' b=some (.frz o u)
 tbls:∀ b ps,H b=some (.tbl ps) → ∃ more,H' b=some (.tbl (ps++more))
section
variable {fs fs' ex ex':YH} {H H1 H2:Hp} {h h1 h2 h':Heap} {a x e:Addr} {o:HO}
theorem Un.any (u:Un fs ex H H1 h h1){b:Addr}{ob:Obj}(q:h.get? b=some ob)(n:H b=none)(hx:b∉ex):∃ sl,h1.get? b=some { ob with slots:=sl }:=by
 by_cases hb:b∈fs
 ·exact u.slot b ob q n hb hx
 ·exact⟨ob.slots,u.keep b ob q n hb hx⟩
theorem Un.kept (k:∀ b u,h.get? b=some u→h'.get? b=some u):Un fs ex H H h h' :=
 ⟨fun b ob q _ _ _=>k b ob q,fun b ob q _ _ _=>⟨ob.slots,k b ob q⟩,fun _ _ _ n _=>n,fun b ob q _=>⟨ob,k b ob q⟩,fun _ _ q=>q,fun _ _ _ q=>q,fun _ ps q=>⟨#[],by rw [q];simp⟩⟩
theorem Un.refl:Un fs ex H H h h:=Un.kept fun _ _ q=>q
theorem Un.laid (k:∀ b u,h.get? b=some u→h'.get? b=some u)(hp:h.objs.size≤a)(hn:H a=none):Un fs ex H (upd H a o) h h' where
 keep:=fun b u q _ _ _=>k b u q
 slot:=fun b u q _ _ _=>⟨u.slots,k b u q⟩
 free:=fun b u q n _=>by rw [aC (ZN (Nat.lt_of_lt_of_le (ZI q) hp))];exact n
 there:=fun b u q _=>⟨u,k b u q⟩
 tups:=fun b xs q=>by rw [aC (bg q hn)];exact q
 frzs:=fun b u xs q=>by rw [aC (bg q hn)];exact q
 tbls:=fun b ps q=>⟨#[],by rw [aC (bg q hn),q];simp⟩
theorem Un.write (mu:Mut (H x))(he:e=x∨H e=some (.own x))(k:∀ b u,b≠e→h.get? b=some u→h'.get? b=some u)(heo:∃ u,h'.get? e=some u):Un fs ex H (upd H x o) h h':=by
 have hx:∀ b,H b=none→b≠x:=fun b n z=>by subst z;rw [n] at mu;exact mu
 have hb:∀ b,H b=none→b≠e:=fun b n z=>by
  subst z
  rcases he with r|r
  ·exact hx b n r
  ·rw [n] at r;cases r
 have hm:∀ b u,H b=some u → ¬ Mut (some u)→b≠x:=fun b u q nm z=>by subst z;rw [q] at mu;exact nm mu
 refine⟨fun b u q n _ _=>k b u (hb b n) q,fun b u q n _ _=>⟨u.slots,k b u (hb b n) q⟩,fun b u q n _=>by rw [aC (hx b n)];exact n,fun b u q _ => ?_,
  fun b xs q=>by rw [aC (hm b _ q fun z=>z)];exact q,fun b u xs q=>by rw [aC (hm b _ q fun z=>z)];exact q,fun b ps q=>⟨#[],by rw [aC (hm b _ q fun z=>z),q];simp⟩⟩
 by_cases hbe:b=e
 ·subst hbe;exact heo
 ·exact⟨u,k b u hbe q⟩
end
def trk (h:Heap) (H:Hp):YH:=(List.range h.objs.size).filter fun a=>(H a).isSome
def rV (h:Heap) (H:Hp):Heap:=PySem.W.hideAll h (trk h H)
theorem yX (h:Heap)(H:Hp):(rV h H).objs.size=h.objs.size:=PySem.W.hideAll_size _ _
theorem Ai {h:Heap}{H:Hp}{b:Addr}{o:Obj}(e:h.get? b=some o)(n:H b=none):(rV h H).get? b=some o :=
 PySem.W.hideAll_get _ e fun hm=>by
  have q:(H b).isSome=true:=(YU hm).2
  rw [n] at q;simp at q
theorem CQ {h:Heap}{H:Hp}{b:Addr}{o:Obj}(e:(rV h H).get? b=some o):h.get? b=some o∧H b=none:=by
 have e':h.get? b=some o:=PySem.W.of_hideAll (trk h H) e
 refine⟨e',?_⟩
 cases q:H b with
 | none=>rfl
 | some x =>
  have hm:b∈trk h H:=List.mem_filter.mpr ⟨List.mem_range.mpr (ZI e'),by simp [q]⟩
  have z:(rV h H).get? b=none:=PySem.W.hideAll_none (trk h H) hm
  rw [z] at e;cases e
def CS (g h:Heap) (L:Addr):List (Addr × Obj):=(List.range h.objs.size).filterMap fun a=>if a=L∨(g.get? a).isSome=true then none else (h.get? a).map fun o=>(a,o)
def rest (g h:Heap) (L d:Addr):List (Addr × Obj):=(CS g h L).filter fun p=>decide (p.1≠d)
end L2
namespace L2
open PySem PySem.Spec PyProof.Rows
structure Mod (K:ZX) (mg:Str→YM) (base:Heap):Prop where
 kin:K.In base
 glob:base.Ns mainGlobals mg
 blt:∃ mb,base.Ns builtinsNs mb ∧ ∀ x:Str,x ≠ "__name__" → mb x=bootBuiltins x
 nolimit:base.NoLimit
structure Cx where
 prog:Program
 w:World
 K:ZX
 mg:Str→YM
 base:Heap
 A:Around
 N:YI
 s₀ : Shared
 H₀ : Hp
 env:Env
 outer:List Env
 stack:List Env
 ex:YH
 fn:Str→Bool
 calm:Bool
 pn:List (Addr × Obj)
 xe:ZY
def frs (l:List Env):YH:=l.filterMap (·.frame)
abbrev Cx.fs (X:Cx):YH:=frs X.outer
def Vis (sc:Scope) (x:Str):Prop:=sc.names.lookup x=some .local ∨sc.names.lookup x=some .cell∨sc.names.lookup x=some .free
def Loc (sc:Scope) (x:Str):Prop:=sc.names.lookup x=some .local ∨sc.names.lookup x=some .cell
def IB (env:Env) (h:Heap) (m:Str→YM) (x:Str) (u:Value):Prop :=
 (env.kindOf x=some .local∧m x=some u)∨((env.kindOf x=some .cell∨env.kindOf x=some .free) ∧ ∃ c,env.cells.lookup x=some c∧h.IsCell c (some u))
structure Cx.Ok (X:Cx):Prop where
 mod:Mod X.K X.mg X.base
 kind:X.env.scope.kind=.function
 glob:X.env.globals=mainGlobals
 blt:X.env.builtins=builtinsNs
 above:X.s₀.heap.objs.size≤X.env.locals
 inj:∀ x y c,X.env.cells.lookup x=some c→X.env.cells.lookup y=some c→x=y
 has:∀ x,(X.env.kindOf x=some .cell∨X.env.kindOf x=some .free) → ∃ c,X.env.cells.lookup x=some c
 cab:∀ x c,X.fn x=true→X.env.cells.lookup x=some c→X.s₀.heap.objs.size≤c
 hd:X.calm=true→X.A.handled=none
 frames:X.A.frames=some X.stack
 stk:X.stack=X.outer∨(X.stack=X.env :: X.outer∧X.env.frame=some X.env.locals)
 exf:∀ b∈X.ex,b≠X.env.locals ∧ ∀ x c,X.env.cells.lookup x=some c→c≠b
 bs:∀ b o,X.base.get? b=some o→X.s₀.heap.get? b=some o∧X.H₀ b=none
 bsz:X.base.objs.size≤X.s₀.heap.objs.size
 noex:∀ b o,X.base.get? b=some o→b∉X.ex
 exfs:∀ b∈X.ex,b∉X.fs
 funs:X.s₀.heap.FunFrames X.base X.outer
 frf:∀ b∈X.fs,X.H₀ b=none
structure Inv (X:Cx) (pins:List (Addr × Obj)) (σ:List (Option V)) (H:Hp) (s:Shared):Prop where
 ok:X.Ok
 os:s.os=X.s₀.os
 bare:AllBare s.gens
 base:Un X.fs X.ex X.H₀ H X.s₀.heap s.heap
 loc:∃ m,s.heap.Ns X.env.locals m ∧ ∀ (i:Nat) (x:Str) (v:V),X.N[i]? = some x → σ[i]? = some (some v)→Vis X.env.scope x → ∃ u,bB v u∧IB X.env s.heap m x u
 cell:∀ x c,X.env.cells.lookup x=some c → ∃ v,s.heap.IsCell c v
 free:H X.env.locals=none
 freeC:∀ x c,X.env.cells.lookup x=some c→H c=none
 pin:∀ p∈X.pn++pins,s.heap.get? p.1=some p.2∧H p.1=none∧p.1≠X.env.locals∧p.1∉X.fs ∧ ∀ v,p.2.data ≠ .cell v
 hok:HOk X.prog X.w H s.heap
 len : σ.length=X.N.length
section
variable {X:Cx} {pins:List (Addr × Obj)} {σ:List (Option V)} {H H':Hp} {s:Shared} {h':Heap}
theorem Cx.Ok.nofr (ok:X.Ok){b:Addr}{o:Obj}(e:X.base.get? b=some o):b∉X.fs:=fun hb=>by
 have:=(ok.funs.mem hb).1
 rw [e] at this;cases this
theorem Inv.bs (I:Inv X pins σ H s):∀ b o,X.base.get? b=some o→s.heap.get? b=some o∧H b=none:=fun b o e =>
 ⟨I.base.keep b o (I.ok.bs b o e).1 (I.ok.bs b o e).2 (I.ok.nofr e) (I.ok.noex b o e),I.base.free b o (I.ok.bs b o e).1 (I.ok.bs b o e).2 (I.ok.noex b o e)⟩
theorem Inv.bk (I:Inv X pins σ H s):∀ b o,X.base.get? b=some o→s.heap.get? b=some o:=fun b o e=>(I.bs b o e).1
theorem Inv.mod (I:Inv X pins σ H s):Mod X.K X.mg X.base:=I.ok.mod
theorem Inv.kIn (I:Inv X pins σ H s):X.K.In s.heap:=I.ok.mod.kin.keeps I.bk
theorem Inv.lt (I:Inv X pins σ H s):X.env.locals < s.heap.objs.size:=let ⟨_,hn,_⟩:=I.loc;hn.lt
theorem Inv.sz (I:Inv X pins σ H s):X.s₀.heap.objs.size≤s.heap.objs.size:=ZM I.ok.above (Nat.le_of_lt I.lt)
theorem Inv.nofs (I:Inv X pins σ H s){a:Addr}(h:s.heap.objs.size≤a):a∉X.fs:=fun hb=>by
 obtain⟨_,o,ho,_⟩:=I.ok.funs.mem hb
 exact absurd (Nat.lt_of_lt_of_le (ZI ho) (ZM I.sz h)) (Nat.lt_irrefl _)
theorem Inv.cne (I:Inv X pins σ H s):∀ x c,X.env.cells.lookup x=some c→c≠X.env.locals:=fun x c e z=>by
 obtain⟨v,o,ho,hd⟩:=I.cell x c e
 obtain⟨m,⟨o',es,ep,ho',hd',_⟩,_⟩:=I.loc
 rw [z,ho'] at ho;cases ho;rw [hd'] at hd;cases hd
theorem Inv.funs (I:Inv X pins σ H s):s.heap.FunFrames X.base X.outer:=by
 have all:∀ (l:List Env),(∀ b∈frs l,b∈X.fs)→X.s₀.heap.FunFrames X.base l→s.heap.FunFrames X.base l:=by
  intro l
  induction l with
  | nil=>intro _ _;trivial
  | cons env r ih =>
   intro hs hl
   obtain⟨hk,⟨L,o,hf,hn,ho,hd⟩,hr⟩:=hl
   have hL:L∈X.fs:=hs L (by unfold frs;rw [List.filterMap_cons,hf];exact ZV)
   obtain⟨sl,e⟩:=I.base.slot L o ho (I.ok.frf L hL) hL fun z=>I.ok.exfs L z hL
   exact⟨hk,⟨L,_,hf,hn,e,hd⟩,ih (fun b hb=>hs b (by unfold frs;rw [List.filterMap_cons,hf];exact ZW _ hb)) hr⟩
 exact all X.outer (fun _ hb=>hb) I.ok.funs
theorem Inv.stack (I:Inv X pins σ H s):s.heap.FunFrames X.base X.stack:=by
 rcases I.ok.stk with e|⟨e,hf⟩
 ·rw [e];exact I.funs
 ·rw [e]
  obtain⟨m,hn,_⟩:=I.loc
  refine .cons (by rw [I.ok.kind];decide) hf hn ?_ I.funs
  exact Heap.get?_none_of_le (ZM I.ok.bsz I.ok.above)
theorem Inv.stkSub (I:Inv X pins σ H s):∀ b∈frs X.stack,b∈X.env.locals :: X.fs:=fun b hb=>by
 rcases I.ok.stk with e|⟨e,hf⟩
 ·rw [e] at hb;exact ZW _ hb
 ·rw [e] at hb
  unfold frs at hb
  rw [List.filterMap_cons,hf] at hb
  exact hb
theorem Inv.stkFree (I:Inv X pins σ H s):∀ b∈frs X.stack,H b=none:=fun b hb=>by
 rcases YQ (I.stkSub b hb) with e|hb
 ·rw [e];exact I.free
 ·obtain⟨_,o,ho,_⟩:=I.ok.funs.mem hb
  exact I.base.free b o ho (I.ok.frf b hb) fun z=>I.ok.exfs b z hb
theorem Inv.step {g':Array GenState}{t':Nat}{d':Drawn}{ch:YH}(I:Inv X pins σ H s)
  (hch:∀ b∈ch,(b∈X.ex∨X.s₀.heap.objs.size≤b)∧b≠X.env.locals∧(∀ x c,X.env.cells.lookup x=some c→c≠b) ∧ ∀ p∈X.pn++pins,p.1≠b)
  (keep:∀ b o,b≠X.env.locals→b∉X.fs→b∉ch→s.heap.get? b=some o→H b=none→h'.get? b=some o)
  (slot:∀ b o,b≠X.env.locals→b∈X.fs→b∉ch→s.heap.get? b=some o→H b=none → ∃ sl,h'.get? b=some { o with slots:=sl }) (free:∀ b o,b∉ch→s.heap.get? b=some o→H b=none→H' b=none)
  (there:∀ b o,b∉ch→s.heap.get? b=some o → ∃ o',h'.get? b=some o')
  (tups:∀ b xs,H b=some (.tup xs)→H' b=some (.tup xs)) (frzs:∀ b o u,H b=some (.frz o u)→H' b=some (.frz o u)) (tbls:∀ b ps,H b=some (.tbl ps) → ∃ more,H' b=some (.tbl (ps++more)))
  (ns:∀ m,s.heap.Ns X.env.locals m→h'.Ns X.env.locals m) (hok:HOk X.prog X.w H' h') (hg:AllBare g') :
  Inv X pins σ H' { s with heap:=h',gens:=g',drawn:=d',toks:=t' }:=by
 have neL:∀ b o,X.s₀.heap.get? b=some o→b≠X.env.locals:=fun b o e=>ZN (Nat.lt_of_lt_of_le (ZI e) I.ok.above)
 have neC:∀ b o,X.s₀.heap.get? b=some o→b∉X.ex→b∉ch:=fun b o e hx hb=>by
  rcases (hch b hb).1 with z|z
  ·exact hx z
  ·exact absurd (Nat.lt_of_lt_of_le (ZI e) z) (Nat.lt_irrefl _)
 have cellK:∀ x c,X.env.cells.lookup x=some c → ∀ v,s.heap.IsCell c v→h'.IsCell c v:=fun x c e v ⟨o,ho,hd⟩=>by
  have nch:c∉ch:=fun z=>(hch c z).2.2.1 x c e rfl
  by_cases hc:c∈X.fs
  ·obtain⟨sl,q⟩:=slot c o (I.cne x c e) hc nch ho (I.freeC x c e)
   exact⟨_,q,hd⟩
  ·exact⟨o,keep c o (I.cne x c e) hc nch ho (I.freeC x c e),hd⟩
 refine⟨I.ok,I.os,hg,⟨fun b o e n hb hx => ?_,fun b o e n hb hx => ?_,fun b o e n hx => ?_,fun b o e hx => ?_,fun b xs e=>tups b xs (I.base.tups b xs e),fun b o xs e=>frzs b o xs (I.base.frzs b o xs e),fun b ps e => ?_⟩,?_,fun x c e => ?_,?_,fun x c e => ?_,fun p hp => ?_,hok,I.len⟩
 ·exact keep b o (neL b o e) hb (neC b o e hx) (I.base.keep b o e n hb hx) (I.base.free b o e n hx)
 ·obtain⟨sl,e1⟩:=I.base.slot b o e n hb hx
  obtain⟨sl',e2⟩:=slot b _ (neL b o e) hb (neC b o e hx) e1 (I.base.free b o e n hx)
  exact⟨sl',e2⟩
 ·obtain⟨o',e1⟩:=I.base.there b o e hx
  exact free b o' (neC b o e hx) e1 (I.base.free b o e n hx)
 ·obtain⟨o',e1⟩:=I.base.there b o e hx
  exact there b o' (neC b o e hx) e1
 ·obtain⟨m1,e1⟩:=I.base.tbls b ps e
  obtain⟨m2,e2⟩:=tbls b _ e1
  exact⟨m1++m2,by rw [e2,Array.append_assoc]⟩
 ·obtain⟨m,hn,hl⟩:=I.loc
  refine⟨m,ns m hn,fun i x v e1 e2 e3 => ?_⟩
  obtain⟨u,r,l⟩:=hl i x v e1 e2 e3
  refine⟨u,r,?_⟩
  rcases l with l|⟨k,c,e,z⟩
  ·exact .inl l
  ·exact .inr ⟨k,c,e,cellK x c e _ z⟩
 ·obtain⟨v,z⟩:=I.cell x c e
  exact⟨v,cellK x c e v z⟩
 ·obtain⟨m,⟨o,_,_,ho,_⟩,_⟩:=I.loc
  exact free _ o (fun z=>(hch _ z).2.1 rfl) ho I.free
 ·obtain⟨v,o,ho,hd⟩:=I.cell x c e
  exact free c o (fun z=>(hch c z).2.2.1 x c e rfl) ho (I.freeC x c e)
 ·obtain⟨e,n,ne,nf,d⟩:=I.pin p hp
  have nch:p.1∉ch:=fun z=>(hch p.1 z).2.2.2 p hp rfl
  exact⟨keep p.1 p.2 ne nf nch e n,free p.1 p.2 nch e n,ne,nf,d⟩
theorem Inv.un {t':Nat}(I:Inv X pins σ H s)(u:Un X.fs [] H H' s.heap h')(hok:HOk X.prog X.w H' h'):Inv X pins σ H' { s with heap:=h',toks:=t' }:=by
 obtain⟨m,⟨o,es,ep,ho,r⟩,_⟩:=id I.loc
 obtain⟨sl,hL⟩:=u.any ho I.free (by simp)
 exact I.step (g':=s.gens) (d':=s.drawn) (ch:=[]) (fun _ z=>nomatch z) (fun b o _ hb _ e n=>u.keep b o e n hb (by simp)) (fun b o _ hb _ e n=>u.slot b o e n hb (by simp)) (fun b o _ e n=>u.free b o e n (by simp)) (fun b o _ e=>u.there b o e (by simp)) u.tups u.frzs u.tbls (fun m' hm=>by
  obtain⟨o',es',ep',ho',r'⟩:=hm
  rw [ho] at ho';cases ho'
  exact⟨_,es',ep',hL,r'⟩) hok I.bare
theorem Inv.call {g':Array GenState}{t':Nat}{d':Drawn}{ch:YH}(I:Inv X pins σ H s)(u:Un (frs X.stack) ch H H' s.heap h')(hok:HOk X.prog X.w H' h')(hg:AllBare g')
  (hch:∀ b∈ch,(b∈X.ex∨X.s₀.heap.objs.size≤b)∧b≠X.env.locals∧(∀ x c,X.env.cells.lookup x=some c→c≠b) ∧ ∀ p∈X.pn++pins,p.1≠b) :
  Inv X pins σ H' { s with heap:=h',gens:=g',drawn:=d',toks:=t' }:=by
 obtain⟨m,⟨o,es,ep,ho,r⟩,_⟩:=id I.loc
 obtain⟨sl,hL⟩:=u.any ho I.free fun z=>(hch _ z).2.1 rfl
 exact I.step (ch:=ch) hch (fun b o hL hb hc e n=>u.keep b o e n (fun z=>(YQ (I.stkSub b z)).elim hL hb) hc) (fun b o _ _ hc e n=>u.any e n hc) (fun b o hc e n=>u.free b o e n hc) (fun b o hc e=>u.there b o e hc) u.tups u.frzs u.tbls (fun m' hm=>by
  obtain⟨o',es',ep',ho',r'⟩:=hm
  rw [ho] at ho';cases ho'
  exact⟨_,es',ep',hL,r'⟩) hok hg
theorem Inv.turned {t':Nat}{it:Addr}(I:Inv X pins σ H s)(k:∀ b o,b≠it→s.heap.get? b=some o→h'.get? b=some o)(hn:H it=none)(hL:it≠X.env.locals)
  (h1:it∈X.ex∨X.s₀.heap.objs.size≤it) (h2:∀ x c,X.env.cells.lookup x=some c→c≠it) (h3:∀ p∈X.pn++pins,p.1≠it):Inv X pins σ H { s with heap:=h',toks:=t' }:=by
 have nit:∀ b u,H b=some u→b≠it:=fun b u e z=>by rw [z,hn] at e;cases e
 refine I.step (g':=s.gens) (d':=s.drawn) (ch:=[it]) (fun b hb => ?_) (fun b o _ _ hc e _=>k b o (fun z=>hc (by simp [z])) e) (fun b o _ _ hc e _=>⟨o.slots,k b o (fun z=>hc (by simp [z])) e⟩) (fun _ _ _ _ n=>n)
  (fun b o hc e=>⟨o,k b o (fun z=>hc (by simp [z])) e⟩) (fun _ _ e=>e) (fun _ _ _ e=>e) (fun b ps e=>⟨#[],by rw [e];simp⟩) (fun m hm => ?_) (fun b u e => ?_) I.bare
 ·have e:b=it:=by simpa using hb
  subst e
  exact⟨h1,hL,h2,h3⟩
 ·obtain⟨o,es,ep,ho,r⟩:=hm
  exact⟨o,es,ep,k _ o (Ne.symm hL) ho,r⟩
 ·refine (I.hok b u e).stay (fun c v hc q=>k c v ?_ q) (fun _ q=>q) fun _ _ q=>q
  rcases hc with z|z
  ·rw [z];exact nit b u e
  ·exact nit c _ z
theorem Inv.tok (I:Inv X pins σ H s)(t:Nat):Inv X pins σ H { s with toks:=t }:=I.un (h':=s.heap) (t':=t) Un.refl I.hok
theorem Inv.kept {t':Nat}(I:Inv X pins σ H s)(k:∀ b u,s.heap.get? b=some u→h'.get? b=some u):Inv X pins σ H { s with heap:=h',toks:=t' }:=I.un (Un.kept k) (I.hok.kept k)
theorem Inv.laid {a:Addr}{o:HO}{t':Nat}(I:Inv X pins σ H s)(k:∀ b u,s.heap.get? b=some u→h'.get? b=some u)(hp:s.heap.objs.size≤a)(new:dP X.prog X.w (upd H a o) h' a o) :
  Inv X pins σ (upd H a o) { s with heap:=h',toks:=t' }:=I.un (Un.laid k hp (I.hok.fresh hp)) (I.hok.laid k hp new)
theorem Inv.write {x e:Addr}{o:HO}{t':Nat}(I:Inv X pins σ H s)(mu:Mut (H x))(he:e=x∨H e=some (.own x))(k:∀ b u,b≠e→s.heap.get? b=some u→h'.get? b=some u)(heo:∃ u,h'.get? e=some u)
  (new:dP X.prog X.w (upd H x o) h' x o):Inv X pins σ (upd H x o) { s with heap:=h',toks:=t' }:=I.un (Un.write mu he k heo) (I.hok.write mu he k heo new)
theorem Inv.pins_of {pins':List (Addr × Obj)}(I:Inv X pins σ H s)(h:∀ p∈pins',s.heap.get? p.1=some p.2∧H p.1=none∧p.1≠X.env.locals∧p.1∉X.fs ∧ ∀ v,p.2.data ≠ .cell v):Inv X pins' σ H s :=
 ⟨I.ok,I.os,I.bare,I.base,I.loc,I.cell,I.free,I.freeC,fun p hp=>(YS hp).elim (fun z=>I.pin p (List.mem_append_left _ z)) (h p),I.hok,I.len⟩
theorem ug {N:YI}(hN:N.Nodup){i j:Nat}{x:Str}(a:N[i]? = some x)(b:N[j]? = some x):i=j:=by
 obtain⟨h1,e1⟩:=YO a
 obtain⟨h2,e2⟩:=YO b
 exact (List.getElem_inj hN).mp (e1.trans e2.symm)
theorem l9 {M:Model}{A:Around}{E:ZY}{i:Nat}{x:Str}{v:V}{u:Value}{Q:Unit→Shared→Prop}(I:Inv X pins σ H s)(hN:X.N.Nodup)(hi:X.N[i]? = some x)(hx:Loc X.env.scope x)(r:bB v u)
  (h:∀ s',Inv X pins (σ.set i (some v)) H s'→(∃ a,Heap.SameBut a s.heap s'.heap∧(a=X.env.locals∨X.env.cells.lookup x=some a))→Q () s') (hf:X.fn x=true∨X.env.scope.names.lookup x=some .local:=by first|exact .inl rfl|exact .inr rfl|assumption):wpAny M A (storeName X.env x u) Q E s:=by
 obtain⟨m,hn,hl⟩:=id I.loc
 have hcls:(X.env.scope.kind == .class || (X.env.scope.kind == .module && X.env.locals != X.env.globals))=false:=by rw [I.ok.kind];rfl
 have hiσ:i < σ.length:=by rw [I.len];exact (YO hi).1
 have cne:=I.cne
 have tracked:∀ {a:Addr} {h':Heap},(∃ o,s.heap.get? a=some o∧H a=none)→Heap.SameBut a s.heap h'→HOk X.prog X.w H h':=fun {a h'} ha hs b ob e=>by
  obtain⟨_,_,hfree⟩:=ha
  refine (I.hok b ob e).stay (fun c w' hc q=>(hs.2 c ?_).trans q) (fun _ q=>q) fun _ _ q=>q
  rintro rfl
  rcases hc with rfl|hc
  ·rw [hfree] at e;cases e
  ·rw [hfree] at hc;cases hc
 rcases hx with hk|hk
 ·refine wpAny_storeName_local hk hn (fun h' hn' hs => ?_) hcls
  obtain⟨oL,_,_,hoL,_⟩:=id hn
  refine h _ ⟨I.ok,I.os,I.bare,⟨fun b o e n hb hx => ?_,fun b o e n hb hx => ?_,I.base.free,fun b o e hx => ?_,I.base.tups,I.base.frzs,I.base.tbls⟩,⟨_,hn',fun j y v' e1 e2 e3 => ?_⟩,fun y c e => ?_,I.free,I.freeC,fun p hp => ?_,tracked ⟨oL,hoL,I.free⟩ hs,by simpa using I.len⟩ ⟨_,hs,.inl rfl⟩
  ·exact (hs.2 b (ZN (Nat.lt_of_lt_of_le (ZI e) I.ok.above))).trans (I.base.keep b o e n hb hx)
  ·obtain⟨sl,e1⟩:=I.base.slot b o e n hb hx
   exact⟨sl,(hs.2 b (ZN (Nat.lt_of_lt_of_le (ZI e) I.ok.above))).trans e1⟩
  ·obtain⟨o',e1⟩:=I.base.there b o e hx
   exact⟨o',(hs.2 b (ZN (Nat.lt_of_lt_of_le (ZI e) I.ok.above))).trans e1⟩
  ·by_cases hj:j=i
   ·subst hj
    rw [hi] at e1;cases e1
    rw [List.getElem?_set_self hiσ] at e2
    cases e2
    exact⟨u,r,.inl ⟨hk,by simp⟩⟩
   ·rw [ZP (Ne.symm hj)] at e2
    obtain⟨u',r',q⟩:=hl j y v' e1 e2 e3
    refine⟨u',r',?_⟩
    rcases q with ⟨k,e⟩|⟨k,c,e,z⟩
    ·refine .inl ⟨k,?_⟩
     have:y≠x:=fun e=>hj (ug hN e1 (e ▸ hi))
     simp [this,e]
    ·exact .inr ⟨k,c,e,z.sameBut hs (cne y c e)⟩
  ·obtain⟨w',z⟩:=I.cell y c e
   exact⟨w',z.sameBut hs (cne y c e)⟩
  ·obtain⟨e,n,ne,nf,d⟩:=I.pin p hp
   exact⟨(hs.2 p.1 ne).trans e,n,ne,nf,d⟩
 ·have hfn:X.fn x=true:=by
   rcases hf with z|z
   ·exact z
   ·rw [z] at hk;cases hk
  obtain⟨c,hc⟩:=I.ok.has x (.inl hk)
  obtain⟨w',z⟩:=I.cell x c hc
  refine wpAny_storeName_cell I.ok.kind hk hc z (fun h' hc' hs => ?_)
  obtain⟨oc,hoc,hocd⟩:=id z
  refine h { s with heap:=h' } ⟨I.ok,I.os,I.bare,⟨fun b o e n hb hx => ?_,fun b o e n hb hx => ?_,I.base.free,fun b o e hx => ?_,I.base.tups,I.base.frzs,I.base.tbls⟩,⟨m,hn.sameBut hs (Ne.symm (cne x c hc)),fun j y v' e1 e2 e3 => ?_⟩,fun y c' e => ?_,I.free,I.freeC,fun p hp => ?_,tracked ⟨oc,hoc,I.freeC x c hc⟩ hs,by simpa using I.len⟩ ⟨c,hs,.inr hc⟩
  ·exact (hs.2 b (ZN (Nat.lt_of_lt_of_le (ZI e) (I.ok.cab x c hfn hc)))).trans (I.base.keep b o e n hb hx)
  ·obtain⟨sl,e1⟩:=I.base.slot b o e n hb hx
   exact⟨sl,(hs.2 b (ZN (Nat.lt_of_lt_of_le (ZI e) (I.ok.cab x c hfn hc)))).trans e1⟩
  ·obtain⟨o',e1⟩:=I.base.there b o e hx
   exact⟨o',(hs.2 b (ZN (Nat.lt_of_lt_of_le (ZI e) (I.ok.cab x c hfn hc)))).trans e1⟩
  ·by_cases hj:j=i
   ·subst hj
    rw [hi] at e1;cases e1
    rw [List.getElem?_set_self hiσ] at e2
    cases e2
    exact⟨u,r,.inr ⟨.inl hk,c,hc,hc'⟩⟩
   ·rw [ZP (Ne.symm hj)] at e2
    obtain⟨u',r',q⟩:=hl j y v' e1 e2 e3
    refine⟨u',r',?_⟩
    rcases q with q|⟨k,c',e,z'⟩
    ·exact .inl q
    ·refine .inr ⟨k,c',e,z'.sameBut hs ?_⟩
     rintro rfl
     exact hj (ug hN e1 (I.ok.inj _ _ _ e hc ▸ hi))
  ·by_cases hcc:c'=c
   ·subst hcc;exact⟨_,hc'⟩
   ·obtain⟨w2,z2⟩:=I.cell y c' e
    exact⟨w2,z2.sameBut hs hcc⟩
  ·obtain⟨e,n,ne,nf,d⟩:=I.pin p hp
   refine⟨(hs.2 p.1 ?_).trans e,n,ne,nf,d⟩
   intro q
   rw [q,hoc] at e
   have q':oc=p.2:=ZT e
   exact d w' (by rw [← q'];exact hocd)
theorem jh {M:Model}{A:Around}{E:ZY}{i:Nat}{x:Str}{v:V}{u:Value}{Q:Unit→Shared→Prop}(I:Inv X pins σ H s)(hN:X.N.Nodup)(hi:X.N[i]? = some x)(hx:Loc X.env.scope x)(r:bB v u)
  (h:∀ s',Inv X pins (σ.set i (some v)) H s'→Q () s') (hf:X.fn x=true∨X.env.scope.names.lookup x=some .local:=by first|exact .inl rfl|exact .inr rfl|assumption):wpAny M A (storeName X.env x u) Q E s :=
 l9 I hN hi hx r (fun s' I' _=>h s' I') hf
theorem Inv.call' {s':Shared}{ch:YH}(I:Inv X pins σ H s)(ho:s'.os=s.os)(u:Un (frs X.stack) ch H H' s.heap s'.heap)(hok:HOk X.prog X.w H' s'.heap)(hg:AllBare s'.gens)
  (hch:∀ b∈ch,(b∈X.ex∨X.s₀.heap.objs.size≤b)∧b≠X.env.locals∧(∀ x c,X.env.cells.lookup x=some c→c≠b) ∧ ∀ p∈X.pn++pins,p.1≠b):Inv X pins σ H' s':=by
 obtain⟨h',g',d',t',o'⟩:=s'
 have e:o'=s.os:=ho
 subst e
 exact I.call (g':=g') (t':=t') (d':=d') u hok hg hch
end
abbrev XK:=Value→Option Addr→Hp→Prop
abbrev St:=List (Option V)
abbrev VK:=V→Hp→Prop
abbrev TE:=St→Hp→VK→Prop
abbrev TT:=St→Hp→(Bool→Hp→Prop)→Prop
abbrev TA:=St→Hp→(List V→Hp→Prop)→Prop
structure uh where
 nx:St→Hp→Prop
 rt:VK
 bk:St→Hp→Prop:=fun _ _=>False
 ct:St→Hp→Prop:=fun _ _=>False
abbrev TS:=uh→St→Hp→Prop
def EP (X:Cx) (pins:List (Addr × Obj)) (σ:St) (Q:VK) (u:Value) (s':Shared):Prop:=∃ v H',Inv X pins σ H' s'∧bB v u∧Q v H'
def TP (X:Cx) (pins:List (Addr × Obj)) (σ:St) (Q:Bool→Hp→Prop) (b:Bool) (s':Shared):Prop:=∃ H',Inv X pins σ H' s'∧Q b H'
def AP (X:Cx) (pins:List (Addr × Obj)) (σ:St) (Q:List V→Hp→Prop) (us:YG) (s':Shared):Prop:=∃ vs H',Inv X pins σ H' s'∧aV vs us∧Q vs H'
def SP (X:Cx) (pins:List (Addr × Obj)) (D:uh) (f:Flow) (s':Shared):Prop :=
 match f with
 | .next=>∃ σ' H',Inv X pins σ' H' s'∧D.nx σ' H'
 | .brk=>∃ σ' H',Inv X pins σ' H' s'∧D.bk σ' H'
 | .cont=>∃ σ' H',Inv X pins σ' H' s'∧D.ct σ' H'
 | .ret u=>∃ v σ' H',Inv X pins σ' H' s'∧bB v u∧D.rt v H'
def PE (X:Cx) (e:Expr) (t:TE):Prop :=
 ∀ (pins:List (Addr × Obj)) (s:Shared) (σ:St) (H:Hp) (Q:VK),Inv X pins σ H s→t σ H Q→wpAny (model X.prog X.w) X.A (eval e X.env) (EP X pins σ Q) X.xe s
def PT (X:Cx) (e:Expr) (t:TT):Prop :=
 ∀ (pins:List (Addr × Obj)) (s:Shared) (σ:St) (H:Hp) (Q:Bool→Hp→Prop),Inv X pins σ H s→t σ H Q→wpAny (model X.prog X.w) X.A (isTrue e X.env (eval e X.env)) (TP X pins σ Q) X.xe s
def PW (X:Cx) (e:Expr) (t:TT):Prop :=
 ∀ (whole:Sem Value) (pins:List (Addr × Obj)) (s:Shared) (σ:St) (H:Hp) (Q:Bool→Hp→Prop),Inv X pins σ H s→t σ H Q→wpAny (model X.prog X.w) X.A (isTrue e X.env whole) (TP X pins σ Q) X.xe s
theorem PW.pt {X:Cx}{e:Expr}{t:TT}(h:PW X e t):PT X e t:=h _
def PA (X:Cx) (es:YJ) (t:TA):Prop :=
 ∀ (pos:Pos) (pins:List (Addr × Obj)) (s:Shared) (σ:St) (H:Hp) (Q:List V→Hp→Prop),Inv X pins σ H s→t σ H Q→wpAny (model X.prog X.w) X.A (spliced (backTo pos (starEach es X.env))) (AP X pins σ Q) X.xe s
def PS (X:Cx) (st:Stmt) (t:TS):Prop :=
 ∀ (pins:List (Addr × Obj)) (s:Shared) (σ:St) (H:Hp) (D:uh),Inv X pins σ H s→t D σ H→wpAny (model X.prog X.w) X.A (exec st X.env) (SP X pins D) X.xe s
def PSs (X:Cx) (st:List Stmt) (t:TS):Prop :=
 ∀ (pins:List (Addr × Obj)) (s:Shared) (σ:St) (H:Hp) (D:uh),Inv X pins σ H s→t D σ H→wpAny (model X.prog X.w) X.A (execs st X.env) (SP X pins D) X.xe s
theorem thn {α : Type}{t:Sem α}{Q Q' : α → Shared→Prop}{M:Model}{A:Around}{E:ZY}{s:Shared}(h:wpAny M A t Q E s)(hQ:∀ a s,Q a s→Q' a s):wpAny M A t Q' E s:=wpAny_mono h hQ fun _ _ x=>x
end L2
namespace L2
open PySem PySem.Spec PyProof.Rows
section
variable {X:Cx}
theorem bin {a b:Expr}{ta tb:TE}(ha:PE X a ta)(hb:PE X b tb){pins:List (Addr × Obj)}{s:Shared}{σ:St}{H:Hp}{R:V→V→Hp→Prop}(I:Inv X pins σ H s)(h:ta σ H fun x H1=>tb σ H1 fun y H2=>R x y H2)
  {α : Type} {Q : α → Shared→Prop} {f:Value→Value→Sem α}
  (hf:∀ v u s2 x y H2,Inv X pins σ H2 s2→bB x v→bB y u→R x y H2→wpAny (model X.prog X.w) X.A (f v u) Q X.xe s2) :
  wpAny (model X.prog X.w) X.A (eval a X.env) (fun v s₁ => wpAny (model X.prog X.w) X.A (eval b X.env) (fun u s₂ => wpAny (model X.prog X.w) X.A (f v u) Q X.xe s₂) X.xe s₁) X.xe s:=by
 refine thn (ha pins s σ H _ I h) fun v s1 ⟨x,H1,I1,r1,q1⟩ => ?_
 refine thn (hb pins s1 σ H1 _ I1 q1) fun u s2 ⟨y,H2,I2,r2,q2⟩ => ?_
 exact hf v u s2 x y H2 I2 r1 r2 q2
def IC (i:Nat):TE:=fun σ H Q=>∃ v,σ[i]? = some (some v)∧Q v H
def tC (v:V):TE:=fun _ H Q=>Q v H
theorem EL {i:Nat} {x:Str} {pos:Pos} (hN:X.N[i]? = some x) (hv:Vis X.env.scope x) (hd:(x == ("__debug__" : Str))=false:=by decide) (hcd:(x == ("__classdict__" : Str))=false:=by decide):PE X (.Name x pos) (IC i):=by
 intro pins s σ H Q I h
 obtain⟨v,e,h⟩:=h
 obtain⟨m,hn,hl⟩:=I.loc
 obtain⟨u,r,l⟩:=hl i x v hN e hv
 have fin:EP X pins σ Q u s:=⟨v,H,I,r,h⟩
 rcases l with ⟨hk,hm⟩|⟨hk,c,hc,hcell⟩
 ·exact wpAny_Name (wpAny_loadName_local I.ok.kind hk hn hm fin) hd
 ·rcases hk with hk|hk
  ·exact wpAny_Name (wpAny_loadName_cell I.ok.kind hk hc hcell fin) hd
  ·exact wpAny_Name (wpAny_loadName_free I.ok.kind hk hc hcell fin hcd) hd
theorem Aj {i j pos}:PE X (.Constant (.int i) j pos) (tC (.int i)):=fun _ _ _ H _ I h=>wpAny_Constant_int ⟨.int i,H,I.tok _,⟨_,rfl⟩,h⟩
theorem G9 {b j pos}:PE X (.Constant (.bool b) j pos) (tC (.bl b)):=fun _ _ _ H _ I h=>Constant_bool ⟨.bl b,H,I,rfl,h⟩
theorem EM {j pos}:PE X (.Constant .none j pos) (tC .non):=fun _ _ _ H _ I h=>Constant_none ⟨.non,H,I,rfl,h⟩
def Gl (X:Cx) (x:Str):Prop:=X.env.kindOf x=some .globalImplicit
theorem xU {E:ZY}{pins:List (Addr × Obj)}{s:Shared}{σ:St}{H:Hp}{x:Str}{u:Value}{pos:Pos}{Q:ZY}(I:Inv X pins σ H s)(hg:Gl X x)(hm:X.mg x=some u)(h:Q u s)
  (hd:(x == ("__debug__" : Str))=false:=by decide):wpAny (model X.prog X.w) X.A (eval (.Name x pos) X.env) Q E s :=
 Calls.Name_function_global I.ok.kind hg (Calls.loadGlobal_global (by rw [I.ok.glob];exact I.mod.glob.keeps I.bk) hm h) hd
theorem ma {E:ZY}{pins:List (Addr × Obj)}{s:Shared}{σ:St}{H:Hp}{x:Str}{u:Value}{pos:Pos}{Q:ZY}(I:Inv X pins σ H s)(hg:Gl X x)(hm:X.mg x=none)(hv:bootBuiltins x=some u)(h:Q u s)
  (hn:x ≠ "__name__" := by decide) (hd:(x == ("__debug__" : Str))=false:=by decide):wpAny (model X.prog X.w) X.A (eval (.Name x pos) X.env) Q E s:=by
 obtain⟨mb,h1,h2⟩:=I.mod.blt
 exact Calls.Name_function_global I.ok.kind hg (Calls.loadGlobal_builtin (by rw [I.ok.glob];exact I.mod.glob.keeps I.bk) hm (by rw [I.ok.blt];exact h1.keeps I.bk) ((h2 x hn).trans hv) h) hd
theorem CT {x:Str} {v:V} {u:Value} {pos:Pos} (hg:Gl X x) (hm:X.mg x=some u) (r:bB v u) (hd:(x == ("__debug__" : Str))=false:=by decide):PE X (.Name x pos) (tC v) :=
 fun _ _ _ H _ I h=>xU I hg hm ⟨v,H,I,r,h⟩ hd
theorem CU {x:Str} {v:V} {u:Value} {pos:Pos} (hg:Gl X x) (hm:X.mg x=none) (hv:bootBuiltins x=some u) (r:bB v u) (hn:x ≠ "__name__" := by decide) (hd:(x == ("__debug__" : Str))=false:=by decide):PE X (.Name x pos) (tC v) :=
 fun _ _ _ H _ I h=>ma I hg hm hv ⟨v,H,I,r,h⟩ hn hd
variable {a b:Expr} {ta tb:TE} {pos:Pos}
def tB (t:TE):TT:=fun σ H Q=>t σ H fun x H1=>∃ c,x=.bl c∧Q c H1
theorem EN {e:Expr}{t:TE}(h:PE X e t)(he:∀ whole,isTrue e X.env whole=(do let v ← whole;standAt e.pos;holding [v] (truthy v)):=by intro _;rfl):PT X e (tB t):=by
 intro pins s σ H Q I hw
 refine isTrue_plain (thn (h pins s σ H _ I hw) fun v s1 ⟨x,H1,I1,r1,q1⟩ => ?_) (he _)
 obtain⟨d,rfl,q⟩:=q1
 cases r1
 exact wpAny_truthy_bool ⟨H1,I1,q⟩
variable {tA tB':TT} {rest:YJ}
def mf (t u:TT):TT:=fun σ H Q=>t σ H fun c H1=>if c=true then u σ H1 Q else Q false H1
def tOr (t u:TT):TT:=fun σ H Q=>t σ H fun c H1=>if c=true then Q true H1 else u σ H1 Q
def fV (t:TT):TT:=fun σ H Q=>t σ H fun c H1=>Q (!c) H1
theorem CV (ha:PT X a tA):PW X (.BoolOp .And [a] pos) tA:=by
 intro wh pins s σ H Q I h
 refine isTrue_and (thn (ha pins s σ H Q I h) fun c s1 e => ?_)
 cases c with
 | true=>exact isTrue_and_nil e
 | false=>exact e
theorem EO (ha:PT X a tA):PW X (.BoolOp .Or [a] pos) tA:=by
 intro wh pins s σ H Q I h
 refine isTrue_or (thn (ha pins s σ H Q I h) fun c s1 e => ?_)
 cases c with
 | false=>exact isTrue_or_nil e
 | true=>exact e
theorem EQ (ha:PT X a tA)(hb:PW X (.BoolOp .And (b :: rest) pos) tB'):PW X (.BoolOp .And (a :: b :: rest) pos) (mf tA tB'):=by
 intro wh pins s σ H Q I h
 refine isTrue_and (thn (ha pins s σ H _ I h) fun c s1 ⟨H1,I1,q1⟩ => ?_)
 cases c with
 | true=>exact hb wh pins s1 σ H1 Q I1 q1
 | false=>exact⟨H1,I1,q1⟩
theorem Ha (ha:PT X a tA)(hb:PW X (.BoolOp .Or (b :: rest) pos) tB'):PW X (.BoolOp .Or (a :: b :: rest) pos) (tOr tA tB'):=by
 intro wh pins s σ H Q I h
 refine isTrue_or (thn (ha pins s σ H _ I h) fun c s1 ⟨H1,I1,q1⟩ => ?_)
 cases c with
 | true=>exact⟨H1,I1,q1⟩
 | false=>exact hb wh pins s1 σ H1 Q I1 q1
theorem ER (ha:PT X a tA):PT X (.UnaryOp .Not a pos) (fV tA):=by
 intro pins s σ H Q I h
 exact isTrue_not (ha pins s σ H (fun c H1=>Q (!c) H1) I h)
def Hb (ta tb:TE):TE:=fun σ H Q=>ta σ H fun x H1=>∃ c,x=.bl c∧if c=true then tb σ H1 Q else Q (.bl false) H1
def ID (ta tb:TE):TE:=fun σ H Q=>ta σ H fun x H1=>∃ c,x=.bl c∧if c=true then Q (.bl true) H1 else tb σ H1 Q
def Hc (ta:TE):TE:=fun σ H Q=>ta σ H fun x H1=>∃ c,x=.bl c∧Q (.bl (!c)) H1
theorem ES {op}{t:TE}(h:PE X a t):PE X (.BoolOp op [a] pos) t:=fun pins s σ H Q I hw=>BoolOp_one (h pins s σ H Q I hw)
theorem ET (ha:PE X a ta)(hb:PE X (.BoolOp .And (b :: rest) pos) tb):PE X (.BoolOp .And (a :: b :: rest) pos) (Hb ta tb):=by
 intro pins s σ H Q I h
 refine BoolOp_and (thn (ha pins s σ H _ I h) fun v s1 ⟨x,H1,I1,r1,q1⟩ => ?_)
 obtain⟨c,rfl,q1⟩:=q1
 cases r1
 refine wpAny_truthy_bool ?_
 cases c with
 | true=>exact hb pins s1 σ H1 Q I1 q1
 | false=>exact⟨.bl false,H1,I1,rfl,q1⟩
theorem He (ha:PE X a ta)(hb:PE X (.BoolOp .Or (b :: rest) pos) tb):PE X (.BoolOp .Or (a :: b :: rest) pos) (ID ta tb):=by
 intro pins s σ H Q I h
 refine BoolOp_or (thn (ha pins s σ H _ I h) fun v s1 ⟨x,H1,I1,r1,q1⟩ => ?_)
 obtain⟨c,rfl,q1⟩:=q1
 cases r1
 refine wpAny_truthy_bool ?_
 cases c with
 | false=>exact hb pins s1 σ H1 Q I1 q1
 | true=>exact⟨.bl true,H1,I1,rfl,q1⟩
theorem EU (ha:PE X a ta):PE X (.UnaryOp .Not a pos) (Hc ta):=by
 intro pins s σ H Q I h
 refine UnaryOp_ (thn (ha pins s σ H _ I h) fun v s1 ⟨x,H1,I1,r1,q1⟩ => ?_)
 obtain⟨c,rfl,q1⟩:=q1
 cases r1
 exact not_of (wpAny_truthy_bool ⟨.bl (!c),H1,I1,rfl,q1⟩)
def tIf (t:TT) (ta tb:TE):TE:=fun σ H Q=>t σ H fun c H1=>if c=true then ta σ H1 Q else tb σ H1 Q
theorem Ak {c:Expr}(hc:PT X c tA)(ha:PE X a ta)(hb:PE X b tb):PE X (.IfExp c a b pos) (tIf tA ta tb):=by
 intro pins s σ H Q I h
 refine wpAny_IfExp (thn (hc pins s σ H _ I h) fun d s1 ⟨H1,I1,q1⟩ => ?_)
 cases d with
 | true=>exact ha pins s1 σ H1 Q I1 q1
 | false=>exact hb pins s1 σ H1 Q I1 q1
end
end L2
namespace L2
open PySem PySem.Spec PyProof.Rows
def SqL (K:ZX) (H:Hp) (a:Addr) (xs:List V):Prop :=
 Rd H a (.lst xs) ∨
  ∃ (o:Obj) (its:YK) (n:Nat),K.lookup a=some o∧o.cls=.type "list" ∧ o.dict=none∧o.data=.seq its n∧its.size≤sizeLine∧aV xs its.toList
def SqT (K:ZX) (H:Hp) (a:Addr) (xs:List V):Prop :=
 Rd H a (.tup xs) ∨
  ∃ (o:Obj) (its:YK) (n:Nat),K.lookup a=some o∧o.cls=.type "tuple" ∧ o.data=.seq its n∧its.size≤sizeLine∧aV xs its.toList
def IE:Value→Option V
 | .none=>some .non
 | .bool b=>some (.bl b)
 | .int i _=>some (.int i)
 | .str x _=>some (.str x)
 | .bytes b _=>some (.byt b)
 | .float b _=>some (.flt b)
 | .ref a=>some (.ref a)
 | .type n=>some (.ty n)
 | _=>none
theorem bB.abs {x:V}{u:Value}(r:bB x u):IE u=some x:=by
 cases x with
 | non=>cases r;rfl
 | bl _=>cases r;rfl
 | int _=>obtain⟨t,rfl⟩:=r;rfl
 | str _=>obtain⟨t,rfl⟩:=r;rfl
 | byt _=>obtain⟨t,rfl⟩:=r;rfl
 | flt _=>obtain⟨t,rfl⟩:=r;rfl
 | ref _=>cases r;rfl
 | ty _=>cases r;rfl
theorem bB.inj {x y:V}{u:Value}(r:bB x u)(q:bB y u):x=y:=ZT (r.abs.symm.trans q.abs)
theorem aV.inj:∀ {xs ys:List V} {us:YG},aV xs us→aV ys us→xs=ys
 | _,_,_,.nil,.nil=>rfl
 | _,_,_,.cons r t,.cons r' t'=>by rw [r.inj r',aV.inj t t']
section
variable {X:Cx} {pins:List (Addr × Obj)} {σ:St} {H:Hp} {s:Shared} {a:Addr} {xs ys:List V}
theorem SqL.of {K:ZX}(h:H a=some (.lst xs)):SqL K H a xs:=.inl (.inl h)
theorem SqT.of {K:ZX}(h:H a=some (.tup xs)):SqT K H a xs:=.inl (.inl h)
theorem Inv.list (I:Inv X pins σ H s)(h:SqL X.K H a xs):∃ its:YG,aV xs its∧PlainL s.heap a its.toArray∧xs.length≤sizeLine:=by
 rcases h with h|⟨o,its,n,hk,hc,hd,hs,hz,r⟩
 ·obtain⟨z,its,n,r,e⟩:=h.ok I.hok
  exact⟨its,r,⟨_,n,e,rfl,rfl,rfl⟩,z⟩
 ·refine⟨its.toList,r,⟨o,n,I.kIn a o hk,hc,hd,by simpa using hs⟩,?_⟩
  have e:=r.length
  simp only [Array.length_toList] at e
  omega
theorem Inv.tuple (I:Inv X pins σ H s)(h:SqT X.K H a xs):∃ its:YG,aV xs its∧IsTup s.heap a its.toArray∧xs.length≤sizeLine:=by
 rcases h with h|⟨o,its,n,hk,hc,hs,hz,r⟩
 ·obtain⟨z,its,r,p⟩:=h.ok I.hok
  exact⟨its,r,p,z⟩
 ·refine⟨its.toList,r,⟨o,I.kIn a o hk,hc,n,by simpa using hs⟩,?_⟩
  have e:=r.length
  simp only [Array.length_toList] at e
  omega
theorem Inv.list_inj (I:Inv X pins σ H s)(h:SqL X.K H a xs)(h':SqL X.K H a ys):xs=ys:=by
 obtain⟨its,r,⟨o,n,e,_,_,d⟩,_⟩:=I.list h
 obtain⟨its',r',⟨o',n',e',_,_,d'⟩,_⟩:=I.list h'
 rw [e] at e';cases e'
 rw [d] at d'
 injection d' with d1 _
 have:its=its':=by simpa using congrArg Array.toList d1
 subst this
 exact r.inj r'
theorem Inv.tuple_inj (I:Inv X pins σ H s)(h:SqT X.K H a xs)(h':SqT X.K H a ys):xs=ys:=by
 obtain⟨its,r,⟨o,e,_,n,d⟩,_⟩:=I.tuple h
 obtain⟨its',r',⟨o',e',_,n',d'⟩,_⟩:=I.tuple h'
 rw [e] at e';cases e'
 rw [d] at d'
 injection d' with d1 _
 have:its=its':=by simpa using congrArg Array.toList d1
 subst this
 exact r.inj r'
end
abbrev Cx.wish (X:Cx) (E:ZY):Cx:={ X with xe:=E }
abbrev Cx.nox (X:Cx):Cx:=X.wish fun _ _=>False
theorem Cx.Ok.wish {X:Cx}(ok:X.Ok)(E:ZY):(X.wish E).Ok :=
 ⟨ok.mod,ok.kind,ok.glob,ok.blt,ok.above,ok.inj,ok.has,ok.cab,ok.hd,ok.frames,ok.stk,ok.exf,ok.bs,ok.bsz,ok.noex,ok.exfs,ok.funs,ok.frf⟩
theorem Cx.Ok.unwish {X:Cx}{E:ZY}(ok:(X.wish E).Ok):X.Ok :=
 ⟨ok.mod,ok.kind,ok.glob,ok.blt,ok.above,ok.inj,ok.has,ok.cab,ok.hd,ok.frames,ok.stk,ok.exf,ok.bs,ok.bsz,ok.noex,ok.exfs,ok.funs,ok.frf⟩
section
variable {X:Cx} {pins:List (Addr × Obj)} {σ:St} {H:Hp} {s:Shared} {E:ZY}
theorem Inv.wish (I:Inv X pins σ H s)(E:ZY):Inv (X.wish E) pins σ H s:=⟨I.ok.wish E,I.os,I.bare,I.base,I.loc,I.cell,I.free,I.freeC,I.pin,I.hok,I.len⟩
theorem Inv.unwish (I:Inv (X.wish E) pins σ H s):Inv X pins σ H s:=⟨I.ok.unwish,I.os,I.bare,I.base,I.loc,I.cell,I.free,I.freeC,I.pin,I.hok,I.len⟩
theorem SP.unwish {D:uh}{f:Flow}{s':Shared}(h:SP (X.wish E) pins D f s'):SP X pins D f s':=by
 cases f with
 | next=>obtain⟨σ',H',I,q⟩:=h;exact⟨σ',H',I.unwish,q⟩
 | brk=>obtain⟨σ',H',I,q⟩:=h;exact⟨σ',H',I.unwish,q⟩
 | cont=>obtain⟨σ',H',I,q⟩:=h;exact⟨σ',H',I.unwish,q⟩
 | ret u=>obtain⟨v,σ',H',I,r,q⟩:=h;exact⟨v,σ',H',I.unwish,r,q⟩
theorem PSs.nox {st:List Stmt}{t:TS}(h:PSs X.nox st t):PSs X st t:=fun pins s σ H D I hw =>
 wpAny_mono (h pins s σ H D (I.wish _) hw) (fun _ _ q=>q.unwish) fun _ _ z=>False.elim z
end
section
variable {X:Cx} {st:Stmt} {rest:List Stmt} {t u:TS} {e:Expr} {te:TE} {pos:Pos}
def Hf:TS:=fun D σ H=>D.nx σ H
def IG (t u:TS):TS:=fun D σ H=>t { D with nx:=u D } σ H
theorem CW:PSs X [] Hf:=fun _ _ σ H _ I h=>wpAny_execs_nil ⟨σ,H,I,h⟩
theorem Al (h1:PS X st t)(h2:PSs X rest u):PSs X (st :: rest) (IG t u):=by
 intro pins s σ H D I h
 refine wpAny_execs_cons (thn (h1 pins s σ H { D with nx:=u D } I h) fun f s1 q => ?_)
 cases f with
 | next =>
  obtain⟨σ',H',I',q⟩:=q
  exact h2 pins s1 σ' H' D I' q
 | ret v=>exact q
 | brk=>exact q
 | cont=>exact q
theorem CY (h1:PS X st t):PSs X [st] t:=by
 intro pins s σ H D I h
 refine wpAny_execs_cons (thn (h1 pins s σ H D I h) fun f s1 q => ?_)
 cases f with
 | next=>exact wpAny_execs_nil q
 | ret v=>exact q
 | brk=>exact q
 | cont=>exact q
theorem Inv.quiet {pins:List (Addr × Obj)}{σ:St}{H:Hp}{s:Shared}(I:Inv X pins σ H s):interactive X.env=false:=by simp [interactive,I.ok.kind]
def Hg (te:TE):TS:=fun D σ H=>te σ H fun _ H1=>D.nx σ H1
theorem CZ (he:PE X e te)(hs:swapsWith e none pos.line X.env=pure false:=by rfl):PS X (.Expr e pos) (Hg te):=by
 intro pins s σ H D I h
 exact wpAny_Expr_any (thn (he pins s σ H _ I h) fun v s1 ⟨x,H1,I1,r1,q1⟩=>⟨σ,H1,I1,q1⟩) I.quiet hs
def IH (te:TE):TS:=fun D σ H=>te σ H D.rt
theorem EV (he:PE X e te):PS X (.Return (some e) pos) (IH te):=by
 intro pins s σ H D I h
 exact wpAny_Return_some (thn (he pins s σ H _ I h) fun v s1 ⟨x,H1,I1,r1,q1⟩=>⟨x,σ,H1,I1,r1,q1⟩)
def II (c:TT) (t u:TS):TS:=fun D σ H=>c σ H fun b H1=>if b=true then t D σ H1 else u D σ H1
theorem Hh {c:Expr}{a b:List Stmt}{tc:TT}(hc:PT X c tc)(ha:PSs X a t)(hb:PSs X b u):PS X (.If c a b pos) (II tc t u):=by
 intro pins s σ H D I h
 refine wpAny_If (thn (hc pins s σ H _ I h) fun d s1 ⟨H1,I1,q1⟩ => ?_)
 cases d with
 | true=>exact ha pins s1 σ H1 D I1 q1
 | false=>exact hb pins s1 σ H1 D I1 q1
def EW:TS:=fun _ _ _=>False
theorem Am:PS X st EW:=fun _ _ _ _ _ _ h=>h.elim
end
abbrev TG:=V→St→Hp→(St→Hp→Prop)→Prop
abbrev TGs:=List V→St→Hp→(St→Hp→Prop)→Prop
def PG (X:Cx) (target:Expr) (t:TG):Prop :=
 ∀ (pins:List (Addr × Obj)) (s:Shared) (σ:St) (H:Hp) (v:V) (u:Value) (Q:St→Hp→Prop),Inv X pins σ H s→bB v u→t v σ H Q →
  wpAny (model X.prog X.w) X.A (assign target X.env u) (fun _ s'=>∃ σ' H',Inv X pins σ' H' s'∧Q σ' H') X.xe s
def PGs (X:Cx) (ts:YJ) (t:TGs):Prop :=
 ∀ (pins:List (Addr × Obj)) (s:Shared) (σ:St) (H:Hp) (vs:List V) (us:YG) (Q:St→Hp→Prop),Inv X pins σ H s→aV vs us→t vs σ H Q →
  wpAny (model X.prog X.w) X.A (assignInOrder ((assignEach ts X.env).map (·.2)) us) (fun _ s'=>∃ σ' H',Inv X pins σ' H' s'∧Q σ' H') X.xe s
abbrev EX:=V→V→V→Hp→(Hp→Prop)→Prop
def EY (X:Cx) (t:EX):Prop :=
 ∀ (pins:List (Addr × Obj)) (s:Shared) (σ:St) (H:Hp) (o i v:V) (ov iv u:Value) (Q:Hp→Prop),Inv X pins σ H s→bB o ov→bB i iv→bB v u→t o i v H Q →
  wpAny (model X.prog X.w) X.A (setItem ov iv u) (fun _ s'=>∃ H',Inv X pins σ H' s'∧Q H') X.xe s
section
variable {X:Cx} {pos:Pos}
def Ek (i:Nat):TG:=fun v σ H Q=>Q (σ.set i (some v)) H
theorem C0 {i:Nat}{x:Str}(hN:X.N.Nodup)(hi:X.N[i]? = some x)(hx:Loc X.env.scope x)(hf:X.fn x=true∨X.env.scope.names.lookup x=some .local:=by first|exact .inl rfl|exact .inr rfl|assumption):PG X (.Name x pos) (Ek i):=by
 intro pins s σ H v u Q I r h
 exact wpAny_assign_Name (jh I hN hi hx r (fun s' I'=>⟨_,H,I',h⟩) hf)
def IJ:TGs:=fun vs σ H Q=>vs=[]∧Q σ H
def Hi (t:TG) (u:TGs):TGs:=fun vs σ H Q=>∃ v r,vs=v :: r∧t v σ H fun σ' H'=>u r σ' H' Q
theorem C4:PGs X [] IJ:=by
 intro pins s σ H vs us Q I r h
 obtain⟨e,h⟩:=h
 subst e
 cases r
 exact assignInOrder_nil ⟨σ,H,I,h⟩
theorem An {e:Expr}{es:YJ}{t:TG}{u:TGs}(h1:PG X e t)(h2:PGs X es u)
  (hs:(assignEach (e :: es) X.env).map (·.2)=assign e X.env :: (assignEach es X.env).map (·.2):=by rfl):PGs X (e :: es) (Hi t u):=by
 intro pins s σ H vs us Q I r h
 obtain⟨v,vr,e1,h⟩:=h
 subst e1
 cases r with
 | cons r rr =>
  rw [hs]
  refine assignInOrder_cons (thn (h1 pins s σ H _ _ _ I r h) fun _ s1 ⟨σ1,H1,I1,q1⟩ => ?_)
  exact h2 pins s1 σ1 H1 _ _ Q I1 rr q1
def IK (K:ZX) (n:Nat) (t:TGs):TG:=fun v σ H Q=>∃ a xs,v=.ref a∧SqT K H a xs∧xs.length=n∧t xs σ H Q
theorem EZ {es:YJ}{k:Nat}{t:TGs}{n:Nat}(hc:X.calm=true)(h:PGs X es t)
  (hn:(assignEach es X.env).length=n:=by rfl) (hst:(assignEach es X.env).findIdx? (·.1)=none:=by rfl):PG X (.Tuple es k pos) (IK X.K n t):=by
 intro pins s σ H v u Q I r hw
 obtain⟨a,xs,e1,hq,hl,hw⟩:=hw
 subst e1
 cases r
 obtain⟨its,rv,ht,hz⟩:=I.tuple hq
 refine assign_Tuple_tuple (I.ok.hd hc) ht (by simp [hn,← hl,rv.length]) hst fun h' hx => ?_
 have I1:Inv X pins σ H { s with heap:=h' }:=I.kept (t':=s.toks) fun b o e=>hx b o (ZN (ZI e)) e
 exact h pins _ σ H xs _ Q I1 (by simpa using rv) hw
def IL (to ti:TE) (t:EX):TG:=fun v σ H Q=>to σ H fun o H1=>ti σ H1 fun i H2=>t o i v H2 fun H3=>Q σ H3
theorem Ao {o i:Expr}{to ti:TE}{t:EX}(ho:PE X o to)(hi:PE X i ti)(hs:EY X t)
  (ha:∀ v,assign (.Subscript o i pos) X.env v=(do
   let ov ← holding [v] (eval o X.env)
   let iv ← holding [v,ov] (eval i X.env)
   standAt pos
   holding [v,ov,iv] (setItem ov iv v)
   release [v,ov,iv] []):=by intro _;rfl):PG X (.Subscript o i pos) (IL to ti t):=by
 intro pins s σ H v u Q I r h
 rw [ha]
 refine YW (wpAny_holding (thn (ho pins s σ H _ I h) fun ov s1 ⟨x,H1,I1,r1,q1⟩ => ?_))
 refine YW (wpAny_holding (thn (hi pins s1 σ H1 _ I1 q1) fun iv s2 ⟨y,H2,I2,r2,q2⟩ => ?_))
 refine YW (wpAny_standAt (YW (wpAny_holding (thn (hs pins s2 σ H2 x y v ov iv u _ I2 r1 r2 r q2) fun _ s3 ⟨H3,I3,q3⟩ => ?_))))
 exact wpAny_release ⟨σ,H3,I3,q3⟩
def Hj (te:TE) (g:TG):TS:=fun D σ H=>te σ H fun x H1=>g x σ H1 D.nx
theorem vX {tg e:Expr}{te:TE}{g:TG}(he:PE X e te)(hg:PG X tg g)(hs:swapsWithSole [tg] e pos.line X.env=pure false:=by rfl)(hw:swappedStores [tg] e X.env=pure none:=by rfl)
  (h1:(assignEach [tg] X.env).map (·.2)=[assign tg X.env]:=by rfl):PS X (.Assign [tg] e pos) (Hj te g):=by
 intro pins s σ H D I h
 refine wpAny_Assign_stores (thn (he pins s σ H _ I h) fun v s1 ⟨x,H1,I1,r1,q1⟩ => ?_) hs hw
 rw [h1]
 exact thn (hg pins s1 σ H1 x v _ I1 r1 q1) fun _ s2 q=>q
theorem E3 {i:Nat}{x:Str}{e:Expr}{te:TE}{pos':Pos}(hN:X.N.Nodup)(hi:X.N[i]? = some x)(hx:Loc X.env.scope x)(he:PE X e te)(hs:swapsWith e (some (.Name x pos')) pos.line X.env=pure false:=by rfl)(hf:X.fn x=true∨X.env.scope.names.lookup x=some .local:=by first|exact .inl rfl|exact .inr rfl|assumption) :
  PS X (.Assign [.Name x pos'] e pos) (Hj te (Ek i)):=by
 intro pins s σ H D I h
 refine wpAny_Assign_Name (thn (he pins s σ H _ I h) fun v s1 ⟨y,H1,I1,r1,q1⟩ => ?_) hs
 exact jh I1 hN hi hx r1 (fun s2 I2=>⟨_,H1,I2,q1⟩) hf
end
section
variable {X:Cx} {pos:Pos}
end
structure It where
 go:Nat→Hp→Prop
 yld:Nat→Hp→V→Hp→Prop
 stop:Nat→Hp→Prop
def pR (X:Cx) (pins:List (Addr × Obj)) (H:Hp) (b:Addr):Prop :=
 H b=none∧b≠X.env.locals∧b∉X.fs∧(b∈X.ex∨X.s₀.heap.objs.size≤b)∧(∀ x c,X.env.cells.lookup x=some c→c≠b) ∧ ∀ p∈X.pn++pins,p.1≠b
theorem Inv.fpOk {X:Cx}{pins:List (Addr × Obj)}{σ:St}{H H':Hp}{s:Shared}{b:Addr}(I:Inv X pins σ H s)(hb:s.heap.objs.size≤b)(hn:H' b=none):pR X pins H' b:=by
 refine⟨hn,Nat.ne_of_gt (Nat.lt_of_lt_of_le I.lt hb),I.nofs hb,.inr (ZM I.sz hb),fun x c e z => ?_,fun p hp z => ?_⟩
 ·obtain⟨v,q⟩:=I.cell x c e
  exact absurd (Nat.lt_of_lt_of_le q.lt (by rw [z];exact hb)) (Nat.lt_irrefl _)
 ·exact absurd (Nat.lt_of_lt_of_le (ZI (I.pin p hp).1) (by rw [z];exact hb)) (Nat.lt_irrefl _)
structure vY (P:Program) (w:World) (K:ZX) (tg:Expr) (J:It) (fp:YH) (it:Addr) (tn:Nat→Heap→Prop):Prop where
 mem:it∈fp
 obj:∀ i h,tn i h → ∀ b∈fp,∃ o,h.get? b=some o ∧ ∀ v,o.data ≠ .cell v
 keep:∀ i h h',tn i h→(∀ b∈fp,∀ o,h.get? b=some o→h'.get? b=some o)→tn i h'
 item:∀ (X:Cx),X.prog=P→X.w=w→X.K=K→X.calm=true → ∀ (i:Nat) (pins:List (Addr × Obj)) (s:Shared) (σ:St) (H:Hp) (E:ZY),Inv X pins σ H s→(∀ b∈fp,pR X pins H b)→tn i s.heap→J.go i H →
  wpAny (model P w) X.A (pyNext (.ref it)) (fun r s1=>∃ u,r=some u ∧
   wpAny (model P w) X.A (letOwnedTupleGo tg (.ref it) u) (fun _ s2=>∃ x H',Inv X pins σ H' s2∧bB x u∧J.yld i H x H'∧tn (i + 1) s2.heap ∧ ∀ b∈fp,H' b=none) E s1) E s
 done:∀ (X:Cx),X.prog=P→X.w=w→X.K=K→X.calm=true → ∀ (i:Nat) (pins:List (Addr × Obj)) (s:Shared) (σ:St) (H:Hp) (E:ZY),Inv X pins σ H s→(∀ b∈fp,pR X pins H b)→tn i s.heap→J.stop i H →
  wpAny (model P w) X.A (pyNext (.ref it)) (fun r s1=>r=none∧Inv X pins σ H s1) E s
 self:∀ (A:Around) (i:Nat) (s:Shared) (Q:ZY) (E:ZY),tn i s.heap→Q (.ref it) s→wpAny (model P w) A (pyIter (.ref it)) Q E s
abbrev TI:=St→Hp→(It→Hp→Prop)→Prop
def PIE (X:Cx) (pins:List (Addr × Obj)) (σ:St) (tg:Expr) (R:It→Hp→Prop) (itv:Value) (s2:Shared):Prop :=
 ∃ (it:Addr) (fp:YH) (tn:Nat→Heap→Prop) (J:It) (H':Hp),itv=.ref it∧Inv X pins σ H' s2∧vY X.prog X.w X.K tg J fp it tn∧tn 0 s2.heap∧(∀ b∈fp,pR X pins H' b)∧R J H'
def PI (X:Cx) (tg iter:Expr) (wi:TI):Prop :=
 ∀ (pins:List (Addr × Obj)) (s:Shared) (σ:St) (H:Hp) (R:It→Hp→Prop),Inv X pins σ H s→wi σ H R →
  wpAny (model X.prog X.w) X.A (eval iter X.env) (fun v s1=>wpAny (model X.prog X.w) X.A (pyIter v) (PIE X pins σ tg R) X.xe s1) X.xe s
theorem Ap {M:Model}{A:Around}{E:ZY}{s:Shared}{tg:Expr}{it:Addr}{u:Value}{o:Obj}{n:String}{vs:YK}{Q:Unit→Shared→Prop}(ho:s.heap.get? it=some o)(hc:o.cls=.type n)(hd:o.data=.fields vs)
  (hn : ["enumerate", "zip", "dict_itemiterator", "dict_reverseitemiterator", "odict_iterator", "itertools.zip_longest", "itertools.pairwise"].contains n=false) (hQ:Q () s):wpAny M A (letOwnedTupleGo tg (.ref it) u) Q E s:=by
 unfold letOwnedTupleGo
 cases tg<;>first
  | exact YX hQ
  | (cases u<;>first
    | exact YX hQ
    | (refine YW (wpAny_load ho ?_)
       rw [hc,hd]
       show wpAny M A (if (["enumerate", "zip", "dict_itemiterator", "dict_reverseitemiterator", "odict_iterator", "itertools.zip_longest", "itertools.pairwise"].contains n && vs[0]? == some (rawInt _))=true then _ else _) Q E s
       rw [if_neg (by intro h;rw [hn,Bool.false_and] at h;cases h)]
       exact YX hQ))
def Itl (K:ZX) (a:Addr):It :=
 ⟨fun i H=>∃ xs x,SqL K H a xs∧xs[i]? = some x,fun i H x H'=>H'=H ∧ ∀ xs,SqL K H a xs→xs[i]? = some x,fun i H=>∃ xs,SqL K H a xs∧xs.length≤i⟩
def Itt (K:ZX) (a:Addr):It :=
 ⟨fun i H=>∃ xs x,SqT K H a xs∧xs[i]? = some x,fun i H x H'=>H'=H ∧ ∀ xs,SqT K H a xs→xs[i]? = some x,fun i H=>∃ xs,SqT K H a xs∧xs.length≤i⟩
def Itr (lo:Int) (n:Nat):It:=⟨fun i _=>i < n,fun i H x H'=>H'=H∧x=.int (lo + i),fun i _=>n≤i⟩
theorem yY {P:Program}{w:World}{K:ZX}{tg:Expr}(a it:Addr):vY P w K tg (Itl K a) [it] it (fun i h=>h.IsListIter it a i) where
 mem:=by simp
 obj:=fun i h st b hb=>by
  have e:b=it:=by simpa using hb
  subst e
  obtain⟨o,e,c,d⟩:=st
  exact⟨o,e,fun v z=>by rw [d] at z;cases z⟩
 keep:=fun i h h' st k=>st.at fun o e=>k it (by simp) o e
 item:=by
  intro X hP hw hK hc i pins s σ H E I hf st hg
  subst hP hw hK
  obtain⟨xs,x,hq,hx⟩:=hg
  obtain⟨its,rv,p,hz⟩:=I.list hq
  obtain⟨u,hu,ru⟩:=rv.get hx
  obtain⟨f0,f1,f2,f3,f4,f5⟩:=hf it (by simp)
  refine wpAny_pyNext_list_item st p.isList (x:=u) (by simpa using hu) fun h' st' sb => ?_
  have I1:Inv X pins σ H { s with heap:=h' }:=I.turned (t':=s.toks) (fun b o hb e=>(sb.2 b hb).trans e) f0 f1 f3 f4 f5
  obtain⟨o,e,c,d⟩:=id st'
  exact⟨u,rfl,Ap (s:={ s with heap:=h' }) e c d (by decide) ⟨x,H,I1,ru,⟨rfl,fun ys hy=>by rw [I.list_inj hy hq];exact hx⟩,st',fun b hb=>(hf b hb).1⟩⟩
 done:=by
  intro X hP hw hK hc i pins s σ H E I hf st hg
  subst hP hw hK
  obtain⟨xs,hq,hx⟩:=hg
  obtain⟨its,rv,p,hz⟩:=I.list hq
  obtain⟨f0,f1,f2,f3,f4,f5⟩:=hf it (by simp)
  have hl:=rv.length
  exact wpAny_pyNext_list_end (I.ok.hd hc) st p.isList (by simp;omega) fun h' eb=>⟨rfl,I.turned (t':=s.toks) (fun b o hb e=>eb b o hb e) f0 f1 f3 f4 f5⟩
 self:=fun _ _ _ _ _ st h=>wpAny_pyIter_listiter st h
theorem vZ {P:Program}{w:World}{K:ZX}{tg:Expr}(a it:Addr):vY P w K tg (Itt K a) [it] it (fun i h=>h.IsTupleIter it a i) where
 mem:=by simp
 obj:=fun i h st b hb=>by
  have e:b=it:=by simpa using hb
  subst e
  obtain⟨o,e,c,d⟩:=st
  exact⟨o,e,fun v z=>by rw [d] at z;cases z⟩
 keep:=fun i h h' st k=>st.at fun o e=>k it (by simp) o e
 item:=by
  intro X hP hw hK hc i pins s σ H E I hf st hg
  subst hP hw hK
  obtain⟨xs,x,hq,hx⟩:=hg
  obtain⟨its,rv,p,hz⟩:=I.tuple hq
  obtain⟨u,hu,ru⟩:=rv.get hx
  obtain⟨f0,f1,f2,f3,f4,f5⟩:=hf it (by simp)
  refine wpAny_pyNext_tuple_item st (show s.heap.IsTuple a its.toArray from p) (x:=u) (by simpa using hu) fun h' st' sb => ?_
  have I1:Inv X pins σ H { s with heap:=h' }:=I.turned (t':=s.toks) (fun b o hb e=>(sb.2 b hb).trans e) f0 f1 f3 f4 f5
  obtain⟨o,e,c,d⟩:=id st'
  exact⟨u,rfl,Ap (s:={ s with heap:=h' }) e c d (by decide) ⟨x,H,I1,ru,⟨rfl,fun ys hy=>by rw [I.tuple_inj hy hq];exact hx⟩,st',fun b hb=>(hf b hb).1⟩⟩
 done:=by
  intro X hP hw hK hc i pins s σ H E I hf st hg
  subst hP hw hK
  obtain⟨xs,hq,hx⟩:=hg
  obtain⟨its,rv,p,hz⟩:=I.tuple hq
  obtain⟨f0,f1,f2,f3,f4,f5⟩:=hf it (by simp)
  have hl:=rv.length
  exact wpAny_pyNext_tuple_end (I.ok.hd hc) st (show s.heap.IsTuple a its.toArray from p) (by simp;omega) fun h' eb=>⟨rfl,I.turned (t':=s.toks) (fun b o hb e=>eb b o hb e) f0 f1 f3 f4 f5⟩
 self:=fun _ _ _ _ _ st h=>wpAny_pyIter_tupleiter st h
theorem v5 {P:Program}{w:World}{K:ZX}{tg:Expr}(it:Addr)(lo:Int)(n:Nat):vY P w K tg (Itr lo n) [it] it (fun i h=>IsRangeIter h it (lo + (i:Nat) * 1) ((n:Int) - (i:Nat)) 1) where
 mem:=by simp
 obj:=fun i h st b hb=>by
  have e:b=it:=by simpa using hb
  subst e
  exact⟨_,st,fun v z=>by
   have z':Data.fields _=Data.cell v:=z
   cases z'⟩
 keep:=fun i h h' st k=>k it (by simp) _ st
 item:=by
  intro X hP hw hK hc i pins s σ H E I hf st hg
  subst hP hw hK
  obtain⟨f0,f1,f2,f3,f4,f5⟩:=hf it (by simp)
  have W:=Walks.range (prog:=X.prog) (w:=X.w) (I.ok.hd hc) it lo 1 n
  refine W.item i s _ _ hg st fun v h' tk hv st' kk => ?_
  obtain⟨t,rfl⟩:=hv
  have I1:Inv X pins σ H { s with heap:=h',toks:=tk }:=I.turned (fun b o hb e=>kk b o (by simpa using hb) e) f0 f1 f3 f4 f5
  refine⟨_,rfl,Ap (s:={ s with heap:=h',toks:=tk }) (n := "range_iterator") st' rfl rfl (by decide) ⟨.int (lo + i),H,I1,⟨t,?_⟩,⟨rfl,rfl⟩,st',fun b hb=>(hf b hb).1⟩⟩
  rw [Int.mul_one]
 done:=by
  intro X hP hw hK hc i pins s σ H E I hf st hg
  subst hP hw hK
  obtain⟨f0,f1,f2,f3,f4,f5⟩:=hf it (by simp)
  exact wpAny_pyNext_range_end (I.ok.hd hc) st (by have:n≤i:=hg;omega) fun h' eb=>⟨rfl,I.turned (t':=s.toks) (fun b o hb e=>eb b o hb e) f0 f1 f3 f4 f5⟩
 self:=fun _ _ _ _ _ st h=>wpAny_pyIter_rangeiter st h
end L2
namespace L2
open PySem PySem.Spec PyProof.Rows
section
variable {X:Cx} {tg:Expr}
theorem Aq {pins:List (Addr × Obj)}{σ:St}{H:Hp}{s:Shared}{R:It→Hp→Prop}{E:ZY}{lo hi:Int}{t u v:Tok}{tk:Nat}(I:Inv X pins σ H s)(h1 : -(2 ^ 62)≤lo)(h2:lo < 2 ^ 62)(h3 : -(2 ^ 62)≤hi)(h4:hi < 2 ^ 62)
  (q:R (Itr lo (hi - lo).toNat) H):wpAny (model X.prog X.w) X.A (pyIter (.ref s.heap.objs.size)) (PIE X pins σ tg R) E { s with heap:=s.heap.push { cls:=.type "range",data:=.fields #[.int lo t,.int hi u,.int 1 v] },toks:=tk }:=by
 refine wpAny_pyIter_range (IsRange.new ..) (small_one h1 h2 h3 h4) ?_
 have I1:Inv X pins σ H { s with heap:=s.heap.push { cls:=.type "range",data:=.fields #[.int lo t,.int hi u,.int 1 v] },toks:=tk }:=I.kept fun b o e=>ZH _ e
 refine⟨(s.heap.push { cls:=.type "range",data:=.fields #[.int lo t,.int hi u,.int 1 v] }).objs.size,[(s.heap.push { cls:=.type "range",data:=.fields #[.int lo t,.int hi u,.int 1 v] }).objs.size],_,_,H,rfl,
  I1.kept (t':=tk) fun b o e=>ZH _ e,v5 _ lo (hi - lo).toNat,?_,fun b hb => ?_,q⟩
 ·have e1:lo + ((0:Nat):Int) * 1=lo:=by simp
  have e2:(((hi - lo).toNat:Nat):Int) - ((0:Nat):Int)=Builtin.Range.rangeSize lo hi 1:=by rw [rangeSize_one];split<;>omega
  show IsRangeIter _ _ (lo + ((0:Nat):Int) * 1) ((((hi - lo).toNat:Nat):Int) - ((0:Nat):Int)) 1
  rw [e1,e2]
  exact ZJ _ rfl
 ·have e:b=(s.heap.push { cls:=.type "range",data:=.fields #[.int lo t,.int hi u,.int 1 v] }).objs.size:=by simpa using hb
  subst e
  exact I1.fpOk (ZL _) (I1.hok.fresh (ZL _))
def Hk (ta:TA):TI:=fun σ H R=>ta σ H fun vs H1=>∃ j:Int,vs=[.int j] ∧ -(2 ^ 62)≤j∧j < 2 ^ 62∧R (Itr 0 j.toNat) H1
theorem yZ {a:Expr} {ta:TA} {p pos:Pos} (hg:Gl X "range") (hm:X.mg "range" = none) (ha:PA X [a] ta) (hs:starEach [a] X.env=[(false,eval a X.env)]:=by rfl):PI X tg (.Call (.Name "range" p) [a] [] pos) (Hk ta):=by
 intro pins s σ H R I h
 refine Call_ (ma I hg hm boot_range (PyProof.Rows.callWith_type1 (thn (ha pos pins s σ H _ I h) fun us s1 ⟨vs,H1,I1,r1,q1⟩ => ?_) hs rfl))
 obtain⟨j,e,q1,q2,q⟩:=q1
 subst e
 cases r1 with
 | cons r rr =>
  cases rr
  obtain⟨t,rfl⟩:=r
  exact call_range_1 (Aq I1 (by omega) (by omega) q1 q2 (by simpa using q))
def IM (wi:TI) (g:TG) (tb:TS):TS:=fun D σ H=>wi σ H fun J H1=>∃ W:Nat→Nat→St→Hp→Prop,(∃ m,W 0 m σ H1) ∧ ∀ i m σ H,W i m σ H →
 (J.stop i H∧D.nx σ H)∨(J.go i H ∧ ∃ N:St→Hp→Prop,(∀ σ' H',N σ' H' → ∃ m',m' < m∧W (i + 1) m' σ' H') ∧ ∀ x H',J.yld i H x H'→g x σ H' fun σ2 H2=>tb { D with nx:=N,ct:=N,bk:=D.nx } σ2 H2)
def nZ (fp:YH) (h:Heap):List (Addr × Obj):=fp.filterMap fun b=>(h.get? b).map fun o=>(b,o)
theorem iC {fp:YH}{h:Heap}{b:Addr}{o:Obj}(hb:b∈fp)(e:h.get? b=some o):(b,o)∈nZ fp h:=List.mem_filterMap.mpr ⟨b,hb,by rw [e];rfl⟩
theorem y3 {fp:YH}{h:Heap}{p:Addr × Obj}(hp:p∈nZ fp h):p.1∈fp∧h.get? p.1=some p.2:=by
 obtain⟨b,hb,e⟩:=List.mem_filterMap.mp hp
 cases q:h.get? b with
 | none=>rw [q] at e;cases e
 | some o =>
  rw [q] at e
  have e':(b,o)=p:=ZT e
  subst e'
  exact⟨hb,q⟩
theorem Inv.pinned {pins:List (Addr × Obj)}{σ:St}{H:Hp}{s:Shared}{fp:YH}(I:Inv X pins σ H s)(hf:∀ b∈fp,pR X pins H b)(ho:∀ b∈fp,∃ o,s.heap.get? b=some o ∧ ∀ v,o.data ≠ .cell v):Inv X (pins++nZ fp s.heap) σ H s :=
 I.pins_of fun p hp=>(YS hp).elim (fun z=>I.pin p (List.mem_append_right _ z)) fun z=>by
  obtain⟨hb,e⟩:=y3 z
  obtain⟨f0,f1,f2,_⟩:=hf p.1 hb
  obtain⟨o,e',d⟩:=ho p.1 hb
  rw [e] at e';cases e'
  exact⟨e,f0,f1,f2,d⟩
theorem Inv.unpinned {pins pl:List (Addr × Obj)}{σ:St}{H:Hp}{s:Shared}(I:Inv X (pins++pl) σ H s):Inv X pins σ H s:=I.pins_of fun p hp=>I.pin p (List.mem_append_right _ (List.mem_append_left _ hp))
theorem E4 {iter:Expr}{body:List Stmt}{wi:TI}{g:TG}{tb:TS}{pos:Pos}(hp:PassesOwn (model X.prog X.w) X.A X.env X.xe)(hc:X.calm=true)(hi:PI X tg iter wi)(hg:PG X tg g)(hb:PSs X body tb)
  (hs:∀ x,foldedSetIterable iter X.env x=pure x:=by intro _;rfl):PS X (.For tg iter body [] pos) (IM wi g tb):=by
 intro pins s σ H D I h
 refine wpAny_For (thn (hi pins s σ H _ I h) fun v s1 h1=>thn h1 fun itv s2 h2 => ?_) hs
 obtain⟨it,fp,tn,J,H2,e,I2,T,st2,f2,W,⟨m0,w0⟩,turn⟩:=h2
 subst e
 have stat:∀ {H':Hp},(∀ b∈fp,H' b=none) → ∀ b∈fp,pR X pins H' b:=fun hn b hb=>⟨hn b hb,(f2 b hb).2⟩
 refine codeAny_forLoop_any (fun n s'=>∃ i σ' H',Inv X pins σ' H' s'∧tn i s'.heap∧(∀ b∈fp,H' b=none)∧W i n σ' H') ?_ m0 ⟨0,σ,H2,I2,st2,fun b hb=>(f2 b hb).1,w0⟩
 rintro n s3 ⟨i,σ3,H3,I3,st3,fr3,w3⟩
 rcases turn i n σ3 H3 w3 with ⟨stop,qn⟩|⟨go,N,hN,step⟩
 ·refine wpAny_passesOwn hp (thn (T.done X rfl rfl rfl hc i pins s3 σ3 H3 X.xe I3 (stat fr3) st3 stop) fun r s4 ⟨hr,I4⟩ => ?_)
  subst hr
  exact wpAny_execs_nil ⟨σ3,H3,I4,qn⟩
 ·refine wpAny_passesOwn hp (thn (T.item X rfl rfl rfl hc i pins s3 σ3 H3 X.xe I3 (stat fr3) st3 go) fun r s4 ⟨u,hr,h4⟩ => ?_)
  subst hr
  refine wpAny_passesOwn hp (thn h4 fun _ s5 ⟨x,H5,I5,r5,y5,st5,fr5⟩ => ?_)
  have I5':=I5.pinned (stat fr5) (T.obj _ _ st5)
  refine wpAny_passesOwn hp (thn (hg _ s5 σ3 H5 x u _ I5' r5 (step x H5 y5)) fun _ s6 ⟨σ6,H6,I6,q6⟩ => ?_)
  refine wpAny_passesOwn hp (thn (hb _ s6 σ6 H6 _ I6 q6) fun f s7 q7 => ?_)
  have again:∀ {σ7:St} {H7:Hp},Inv X (pins++nZ fp s5.heap) σ7 H7 s7→N σ7 H7 → ∃ m,m < n ∧ ∃ i σ' H',Inv X pins σ' H' s7∧tn i s7.heap∧(∀ b∈fp,H' b=none)∧W i m σ' H':=fun {σ7 H7} I7 n7=>by
   obtain⟨m',hm,w7⟩:=hN σ7 H7 n7
   refine⟨m',hm,i + 1,σ7,H7,I7.unpinned,T.keep _ _ _ st5 fun b hb o e=>(I7.pin (b,o) (List.mem_append_right _ (List.mem_append_right _ (iC hb e)))).1,fun b hb => ?_,w7⟩
   obtain⟨o,e,d⟩:=T.obj _ _ st5 b hb
   exact (I7.pin (b,o) (List.mem_append_right _ (List.mem_append_right _ (iC hb e)))).2.1
  cases f with
  | next=>obtain⟨σ7,H7,I7,n7⟩:=q7;exact again I7 n7
  | cont=>obtain⟨σ7,H7,I7,n7⟩:=q7;exact again I7 n7
  | brk=>obtain⟨σ7,H7,I7,q7⟩:=q7;exact⟨σ7,H7,I7.unpinned,q7⟩
  | ret v=>obtain⟨x7,σ7,H7,I7,r7,q7⟩:=q7;exact⟨x7,σ7,H7,I7.unpinned,r7,q7⟩
end
end L2
namespace L2
open PySem PySem.Spec PyProof.Rows
abbrev R2:=V→V→Hp→VK→Prop
def OpR (X:Cx) (f:Value→Value→Sem Value) (r:R2):Prop :=
 ∀ (pins:List (Addr × Obj)) (s:Shared) (σ:St) (H:Hp) (x y:V) (v u:Value) (Q:VK),Inv X pins σ H s→bB x v→bB y u→r x y H Q →
  wpAny (model X.prog X.w) X.A (f v u) (EP X pins σ Q) X.xe s
def UnR (X:Cx) (f:Value→Sem Value) (r:V→Hp→VK→Prop):Prop :=
 ∀ (pins:List (Addr × Obj)) (s:Shared) (σ:St) (H:Hp) (x:V) (v:Value) (Q:VK),Inv X pins σ H s→bB x v→r x H Q →
  wpAny (model X.prog X.w) X.A (f v) (EP X pins σ Q) X.xe s
def fD (X:Cx) (f:Value) (r:List V→Hp→VK→Prop):Prop :=
 ∀ (pins:List (Addr × Obj)) (s:Shared) (σ:St) (H:Hp) (xs:List V) (us:YG) (Q:VK),Inv X pins σ H s→aV xs us→r xs H Q →
  wpAny (model X.prog X.w) X.A (call f us) (EP X pins σ Q) X.xe s
def tOp (r:R2) (ta tb:TE):TE:=fun σ H Q=>ta σ H fun x H1=>tb σ H1 fun y H2=>r x y H2 Q
def tUn (r:V→Hp→VK→Prop) (ta:TE):TE:=fun σ H Q=>ta σ H fun x H1=>r x H1 Q
def rI (C:Int→Int→Prop) (g:Int→Int→V):R2:=fun x y H Q=>∃ i j,x=.int i∧y=.int j∧C i j∧Q (g i j) H
def rI0 (g:Int→Int→V):R2:=fun x y H Q=>∃ i j,x=.int i∧y=.int j∧Q (g i j) H
def rU (g:Int→V):V→Hp→VK→Prop:=fun x H Q=>∃ i,x=.int i∧Q (g i) H
section
variable {X:Cx} {a b c:Expr} {ta tb tc:TE} {pos:Pos}
theorem ui (ha:PE X a ta)(hb:PE X b tb){pins:List (Addr × Obj)}{s:Shared}{σ:St}{H:Hp}{R:V→V→Hp→Prop}(I:Inv X pins σ H s)
  (h:ta σ H fun x H1=>tb σ H1 fun y H2=>R x y H2) {Q:ZY} {f:Value→Value→Sem Value}
  (hf:∀ v u s2 x y H2,Inv X pins σ H2 s2→bB x v→bB y u→R x y H2→wpAny (model X.prog X.w) X.A (f v u) Q X.xe s2) :
  wpAny (model X.prog X.w) X.A (eval a X.env) (fun v s₁ => wpAny (model X.prog X.w) X.A (eval b X.env) (fun u s₂ => wpAny (model X.prog X.w) X.A (f v u) Q X.xe s₂) X.xe s₁) X.xe s:=by
 refine thn (ha pins s σ H _ I h) fun v s1 ⟨x,H1,I1,r1,q1⟩ => ?_
 refine thn (hb pins s1 σ H1 _ I1 q1) fun u s2 ⟨y,H2,I2,r2,q2⟩ => ?_
 exact hf v u s2 x y H2 I2 r1 r2 q2
theorem Ar {op:Operator}{r:R2}(ho:OpR X (binaryOp op) r)(ha:PE X a ta)(hb:PE X b tb):PE X (.BinOp a op b pos) (tOp r ta tb):=by
 intro pins s σ H Q I h
 exact wpAny_BinOp (ui ha hb I h fun v u s2 x y H2 I2 rx ry q=>ho pins s2 σ H2 x y v u Q I2 rx ry q)
theorem Hl {op:UnaryOp}{r:V→Hp→VK→Prop}(ho:UnR X (unaryOp op) r)(ha:PE X a ta):PE X (.UnaryOp op a pos) (tUn r ta):=by
 intro pins s σ H Q I h
 exact UnaryOp_ (thn (ha pins s σ H _ I h) fun v s1 ⟨x,H1,I1,r1,q1⟩=>ho pins s1 σ H1 x v Q I1 r1 q1)
theorem opI {f:Value→Value→Sem Value}{C:Int→Int→Prop}{g:Int→Int→Int}
  (rule:∀ (i j:Int) (t u:Tok) (s:Shared) (Q:ZY) (E:ZY),C i j→Q (.int (g i j) s.toks) { s with toks:=s.toks + 1 } → wpAny (model X.prog X.w) X.A (f (.int i t) (.int j u)) Q E s) :
  OpR X f (rI C fun i j=>.int (g i j)):=by
 intro pins s σ H x y v u Q I rx ry h
 obtain⟨i,j,rfl,rfl,hc,q⟩:=h
 obtain⟨t,rfl⟩:=rx
 obtain⟨t',rfl⟩:=ry
 exact rule i j t t' s _ _ hc ⟨.int (g i j),H,I.tok _,⟨_,rfl⟩,q⟩
theorem Hm {f:Value→Value→Sem Value}{g:Int→Int→Int}
  (rule:∀ (i j:Int) (t u:Tok) (s:Shared) (Q:ZY) (E:ZY),Q (.int (g i j) s.toks) { s with toks:=s.toks + 1 } → wpAny (model X.prog X.w) X.A (f (.int i t) (.int j u)) Q E s) :
  OpR X f (rI0 fun i j=>.int (g i j)):=by
 intro pins s σ H x y v u Q I rx ry h
 obtain⟨i,j,rfl,rfl,q⟩:=h
 obtain⟨t,rfl⟩:=rx
 obtain⟨t',rfl⟩:=ry
 exact rule i j t t' s _ _ ⟨.int (g i j),H,I.tok _,⟨_,rfl⟩,q⟩
theorem E5 {f:Value→Value→Sem Value}{g:Int→Int→Bool}
  (rule:∀ (i j:Int) (t u:Tok) (s:Shared) (Q:ZY) (E:ZY),Q (.bool (g i j)) s→wpAny (model X.prog X.w) X.A (f (.int i t) (.int j u)) Q E s) :
  OpR X f (rI0 fun i j=>.bl (g i j)):=by
 intro pins s σ H x y v u Q I rx ry h
 obtain⟨i,j,rfl,rfl,q⟩:=h
 obtain⟨t,rfl⟩:=rx
 obtain⟨t',rfl⟩:=ry
 exact rule i j t t' s _ _ ⟨.bl (g i j),H,I,rfl,q⟩
def Hn (i j:Int):Prop:=0≤j∧j≤1000000∧i.natAbs < 2 ^ 64
def C5 (i j:Int):Prop:=(-(2 ^ 64) < i∧i < 2 ^ 64)∨(-(2 ^ 64) < j∧j < 2 ^ 64)
theorem C5.ok {i j:Int}(h:C5 i j):IntMulOk i j:=by
 rcases h with ⟨h1,h2⟩|⟨h1,h2⟩
 ·exact .of_left (intBits_le_64 h1 h2)
 ·exact .of_right (intBits_le_64 h1 h2)
theorem E6:OpR X (binaryOp .Add) (rI0 fun i j=>.int (i + j)):=Hm fun _ _ _ _ _ _ _ q=>add_int q
theorem gZ:OpR X (binaryOp .Sub) (rI0 fun i j=>.int (i - j)):=Hm fun _ _ _ _ _ _ _ q=>sub_int q
theorem g7:OpR X (binaryOp .Mult) (rI C5 fun i j=>.int (i * j)):=opI fun _ _ _ _ _ _ _ hc q=>mul_int q hc.ok
theorem eW:OpR X (binaryOp .Mod) (rI (fun _ j=>0 < j) fun i j=>.int (i % j)):=opI fun i j _ _ _ _ _ hc q=>by
 have h1:(0:Int) < j:=hc
 exact mod_int' (by omega) (by rw [Int.fmod_eq_emod_of_nonneg i (by omega)];exact q)
theorem E7:OpR X (binaryOp .Pow) (rI Hn fun i j=>.int (i ^ j.toNat)):=opI fun _ _ _ _ _ _ _ hc q=>pow_int_small hc.1 hc.2.1 hc.2.2 q
theorem unI {f:Value→Sem Value}{g:Int→Int}
  (rule:∀ (i:Int) (t:Tok) (s:Shared) (Q:ZY) (E:ZY),Q (.int (g i) s.toks) { s with toks:=s.toks + 1 } → wpAny (model X.prog X.w) X.A (f (.int i t)) Q E s) :
  UnR X f (rU fun i=>.int (g i)):=by
 intro pins s σ H x v Q I rx h
 obtain⟨i,rfl,q⟩:=h
 obtain⟨t,rfl⟩:=rx
 exact rule i t s _ _ ⟨.int (g i),H,I.tok _,⟨_,rfl⟩,q⟩
theorem E8:UnR X (unaryOp .USub) (rU fun i=>.int (-i)):=unI fun _ _ _ _ _ q=>neg_int q
end
section
variable {X:Cx} {a b c:Expr} {ta tb tc:TE} {pos:Pos}
theorem As {pins:List (Addr × Obj)}{σ:St}{H:Hp}{s:Shared}{Q:VK}{k k':Bool}(I:Inv X pins σ H s)(q:Q (.bl k) H)(e:k=k'):EP X pins σ Q (.bool k') s:=by
 subst e
 exact⟨.bl k,H,I,rfl,q⟩
theorem El:OpR X (compareOp .Lt) (rI0 fun i j=>.bl (decide (i < j))):=E5 fun _ _ _ _ _ _ _ q=>lt_int q
theorem Em:OpR X (compareOp .LtE) (rI0 fun i j=>.bl (decide (i≤j))):=E5 fun _ _ _ _ _ _ _ q=>le_int q
theorem xV:OpR X (compareOp .Gt) (rI0 fun i j=>.bl (decide (j < i))):=E5 fun _ _ _ _ _ _ _ q=>gt_int q
theorem n3:OpR X (compareOp .Is) (fun x y H Q=>y=.non∧Q (.bl (decide (x=.non))) H):=by
 intro pins s σ H x y v u Q I rx ry h
 obtain⟨rfl,q⟩:=h
 cases ry
 refine is_none_gen (As I q ?_)
 cases x<;>first
  | (cases rx;rfl)
  | (obtain⟨t,rfl⟩:=rx;rfl)
theorem rW:OpR X (compareOp .IsNot) (fun x y H Q=>y=.non∧Q (.bl (!decide (x=.non))) H):=by
 intro pins s σ H x y v u Q I rx ry h
 obtain⟨rfl,q⟩:=h
 cases ry
 refine isnot_none_gen (As I q ?_)
 cases x<;>first
  | (cases rx;rfl)
  | (obtain⟨t,rfl⟩:=rx;rfl)
theorem OpR.or {f:Value→Value→Sem Value}{r r':R2}(h:OpR X f r)(h':OpR X f r'):OpR X f (fun x y H Q=>r x y H Q∨r' x y H Q):=by
 intro pins s σ H x y v u Q I rx ry q
 rcases q with q|q
 ·exact h pins s σ H x y v u Q I rx ry q
 ·exact h' pins s σ H x y v u Q I rx ry q
theorem aZ (b:Expr){op:CmpOp}(h:op ≠ .In:=by decide)(h2:op ≠ .NotIn:=by decide):behindInMarks op b=false:=by
 have e1:(op == CmpOp.In)=false:=by cases op<;>first|rfl|exact absurd rfl h
 have e2:(op == CmpOp.NotIn)=false:=by cases op<;>first|rfl|exact absurd rfl h2
 cases b<;>simp [behindInMarks,e1,e2]
theorem C6 {op:CmpOp}{r:R2}(ho:OpR X (compareOp op) r)(ha:PE X a ta)(hb:PE X b tb)(hm:behindInMarks op b=false):PE X (.Compare a [op] [b] pos) (tOp r ta tb):=by
 intro pins s σ H Q I h
 exact wpAny_Compare1 (ui ha hb I h fun v u s2 x y H2 I2 rx ry q=>ho pins s2 σ H2 x y v u Q I2 rx ry q) hm
def Ho (t:TE):TT:=fun σ H Q=>t σ H fun x H'=>∃ k,x=.bl k∧Q k H'
theorem C7 {op:CmpOp}{r:R2}(ho:OpR X (compareOp op) r)(ha:PE X a ta)(hb:PE X b tb)(hm:behindInMarks op b=false):PT X (.Compare a [op] [b] pos) (Ho (tOp r ta tb)):=by
 intro pins s σ H Q I h
 refine wpAny_isTrue_Compare1 (thn (ha pins s σ H _ I h) fun v s1 ⟨x,H1,I1,r1,q1⟩=>thn (hb pins s1 σ H1 _ I1 q1) fun u s2 ⟨y,H2,I2,r2,q2⟩ =>
  thn (ho pins s2 σ H2 x y v u _ I2 r1 r2 q2) fun c s3 ⟨z,H3,I3,r3,k,e,q3⟩ => ?_) hm
 subst e
 cases r3
 exact wpAny_truthy_bool ⟨H3,I3,q3⟩
def Au (r r':R2) (ta tb tc:TE):TE:=fun σ H Q=>ta σ H fun x H1=>tb σ H1 fun y H2=>r x y H2 fun z H3=>∃ k,z=.bl k ∧
 (if k=true then tc σ H3 fun w' H4=>r' y w' H4 Q else Q (.bl false) H3)
theorem Av {op op':CmpOp}{r r':R2}(ho:OpR X (compareOp op) r)(ho':OpR X (compareOp op') r')(ha:PE X a ta)(hb:PE X b tb)(hc:PE X c tc)
  (hm:lastMarks [op,op'] [b,c] = false:=by with_unfolding_all rfl):PE X (.Compare a [op,op'] [b,c] pos) (Au r r' ta tb tc):=by
 intro pins s σ H Q I h
 refine Compare_chain (thn (ha pins s σ H _ I h) fun v s1 ⟨x,H1,I1,r1,q1⟩=>chain_link (thn (hb pins s1 σ H1 _ I1 q1) fun u s2 ⟨y,H2,I2,r2,q2⟩ =>
  thn (ho pins s2 σ H2 x y v u _ I2 r1 r2 q2) fun d s3 ⟨z,H3,I3,r3,k,e,q3⟩ => ?_)) hm
 subst e
 cases r3
 refine wpAny_truthy_bool ?_
 cases k with
 | false=>exact ite_ff ⟨.bl false,H3,I3,rfl,q3⟩
 | true=>exact ite_tt (chain_last (thn (hc pins s3 σ H3 _ I3 q3) fun w' s4 ⟨z',H4,I4,r4,q4⟩=>ho' pins s4 σ H4 y z' u w' Q I4 r2 r4 q4))
theorem n4:(sizeLine:Nat) < 2 ^ 63:=by rw [sizeLine_eq];decide
theorem uj {x:V}{us:YG}(r:aV [x] us):∃ u,us=[u]∧bB x u:=by
 cases r with
 | cons r1 r2=>cases r2;exact⟨_,rfl,r1⟩
theorem Eo {x y:V}{us:YG}(r:aV [x,y] us):∃ u w',us=[u,w']∧bB x u∧bB y w':=by
 cases r with
 | cons r1 r2 =>
  cases r2 with
  | cons r3 r4=>cases r4;exact⟨_,_,rfl,r1,r3⟩
theorem y4 (hc:X.calm=true):fD X (.builtin "max") (fun xs H Q=>∃ i j,xs=[.int i,.int j]∧Q (.int (if j > i then j else i)) H):=by
 intro pins s σ H xs us Q I r h
 obtain⟨i,j,rfl,q⟩:=h
 obtain⟨u,w',rfl,⟨t,rfl⟩,⟨t',rfl⟩⟩:=Eo r
 refine max_two_ints (I.ok.hd hc) fun h' tk k=>⟨_,H,I.kept k,?_,q⟩
 by_cases hj:j > i
 ·rw [if_pos hj,if_pos hj];exact⟨_,rfl⟩
 ·rw [if_neg hj,if_neg hj];exact⟨_,rfl⟩
theorem y8 (hc:X.calm=true):fD X (.builtin "min") (fun xs H Q=>∃ i j,xs=[.int i,.int j]∧Q (.int (if j < i then j else i)) H):=by
 intro pins s σ H xs us Q I r h
 obtain⟨i,j,rfl,q⟩:=h
 obtain⟨u,w',rfl,⟨t,rfl⟩,⟨t',rfl⟩⟩:=Eo r
 refine min_two_ints (I.ok.hd hc) fun h' tk k=>⟨_,H,I.kept k,?_,q⟩
 by_cases hj:j < i
 ·rw [if_pos hj,if_pos hj];exact⟨_,rfl⟩
 ·rw [if_neg hj,if_neg hj];exact⟨_,rfl⟩
theorem y9:fD X (.type "int") (fun xs H Q=>(∃ i,xs=[.int i]∧Q (.int i) H) ∨ ∃ k,xs=[.bl k]∧Q (.int (if k then 1 else 0)) H):=by
 intro pins s σ H xs us Q I r h
 rcases h with ⟨i,rfl,q⟩|⟨k,rfl,q⟩
 ·obtain⟨u,rfl,t,rfl⟩:=uj r
  exact call_int_int ⟨.int i,H,I,⟨_,rfl⟩,q⟩
 ·obtain⟨u,rfl,r1⟩:=uj r
  cases r1
  exact call_int_bool ⟨.int (if k then 1 else 0),H,I.tok _,⟨_,rfl⟩,q⟩
end
end L2
namespace L2
open PySem PySem.Spec PyProof.Rows
structure Je (h:Heap) (x dx C:Addr) (mA:Str→YM):Prop where
 obj:h.get? x=some (PySem.W.instObj C dx)
 ns:h.Ns1 dx mA
 ne:dx≠x
section
variable {prog:Program} {w:World} {A:Around} {E:ZY} {s:Shared} {K:ZX} {x dx C f:Addr} {mA:Str→YM} {name:Str} {v:Value}
end
section
variable {P:Program} {w:World} {H H':Hp} {h h':Heap} {a C dx:Addr} {fs fs':List (Str × V)}
end
structure Cls (K:ZX) (C:Addr):Prop where
 pg:PySem.W.plainGet K C Str.empty=true
 hd:PySem.W.hasDictIn K C=true
 po:PySem.W.plainOver K C=true
 sa:PySem.W.findIn K (.ref C) "__setattr__" = some (some (.builtin "object.__setattr__"))
structure Con (K:ZX) (C:Addr) (f:Str) (v:V) (u:Value):Prop where
 at_:PySem.W.findIn K (.ref C) f=some (some u)
 rel:bB v u
 get:PySem.W.specialIn K u "__get__" = some none
 cp:PySem.W.copiedNames.contains f=false
structure Jf (K:ZX) (C:Addr) (m:Str) (f:Addr):Prop where
 at_:PySem.W.findIn K (.ref C) m=some (some (.ref f))
 fn:PySem.W.isFn K (.ref f)=true
 kp:PySem.W.keepIn K (.ref f)=true
section
variable {X:Cx} {pins:List (Addr × Obj)} {σ:St} {H:Hp} {s:Shared} {a C dx:Addr} {fs:List (Str × V)} {f:Str} {v:V} {A:Around} {E:ZY}
end
section
variable {X:Cx} {o e value:Expr} {f:Str} {pos pos' tpos:Pos} {ta tv:TE}
end
section
variable {X:Cx} {pins:List (Addr × Obj)} {σ:St} {H:Hp} {s:Shared} {A:Around} {E:ZY} {Q:ZY} {c:Value} {b:Bool}
inductive n5 (K:ZX) (H:Hp):V→Value→Prop where
 | non:n5 K H .non (.type "NoneType")
 | bl (x:Bool):n5 K H (.bl x) (.type "bool")
 | int (i:Int):n5 K H (.int i) (.type "int")
 | str (x:Str):n5 K H (.str x) (.type "str")
 | flt (x:UInt64):n5 K H (.flt x) (.type "float")
 | lst {a:Addr} {xs:List V} (e:H a=some (.lst xs)):n5 K H (.ref a) (.type "list")
 | frz {a:Addr} {o:Obj} {xs:List V} (e:H a=some (.frz o (.lst xs))):n5 K H (.ref a) (.type "list")
 | tup {a:Addr} {xs:List V} (e:H a=some (.tup xs)):n5 K H (.ref a) (.type "tuple")
 | dK {a:Addr} {kvs:List (Key × V)} (e:H a=some (.dK kvs)):n5 K H (.ref a) (.type "dict")
 | dT {a:Addr} {kvs:List (List Key × V)} (e:H a=some (.dT kvs)):n5 K H (.ref a) (.type "dict")
 | ins {a C dx:Addr} {fs:List (Str × V)} (e:H a=some (.ins C dx fs)) (cl:Cls K C) (ha:PySem.W.findIn K (.ref C) "__class__" = some (some (.builtin "object.__class__")))
   (hn:PySem.W.specialIn K (.builtin "object.__class__") "__get__" = some (some (.builtin "getset_descriptor.__get__"))) (htk:PySem.W.takesIn K (.builtin "object.__class__")=some true)
   (hm:PySem.W.mroIn K C (.type "object")=some true):n5 K H (.ref a) (.ref C)
end
end L2
namespace L2
open PySem PySem.Spec PyProof.Rows
structure ig (k:Nat) (A:Around):Prop where
 hd:A.handled=none
 dp:A.depth + 3 * k + 5 < recursionLimit
 un:A.units + 16 * k + 200 < cLine
 gd:A.guards=some []
theorem ig.mono {j k:Nat}{A:Around}(r:ig k A)(h:j≤k):ig j A:=⟨r.hd,by have:=r.dp;omega,by have:=r.un;omega,r.gd⟩
theorem ig.deeper {k:Nat}{A:Around}(r:ig (k + 1) A)(env:Env):ig k (A.deeper env) :=
 ⟨r.hd,by have:=r.dp;show A.depth + 1 + 3 * k + 5 < _;omega,by have:=r.un;show A.units + 3 + 16 * k + 200 < _;omega,r.gd⟩
theorem ig.depth {k:Nat}{A:Around}(r:ig k A):A.depth < recursionLimit:=by have:=r.dp;omega
def IN:TA:=fun _ H Q=>Q [] H
def Hq (ta:TE) (tr:TA):TA:=fun σ H Q=>ta σ H fun x H1=>tr σ H1 fun xs H2=>Q (x :: xs) H2
section
variable {X:Cx} {e:Expr} {es:YJ} {te:TE} {t:TA} {pos:Pos}
theorem dy:PA X [] IN:=fun _ _ _ _ H Q I h=>Calls.spliced_nil ⟨[],H,I,.nil,h⟩
theorem bW (ha:PE X e te)(hr:PA X es t)(hs:starEach (e :: es) X.env=(false,eval e X.env) :: starEach es X.env:=by rfl):PA X (e :: es) (Hq te t):=by
 intro pos pins s σ H Q I h
 rw [hs]
 show wpAny _ _ (spliced ((false,eval e X.env) :: backTo pos (starEach es X.env))) _ _ s
 refine Calls.spliced_cons (thn (ha pins s σ H _ I h) fun u s1 ⟨x,H1,I1,r1,q1⟩ => ?_)
 exact thn (hr pos pins s1 σ H1 _ I1 q1) fun us s2 ⟨xs,H2,I2,r2,q2⟩=>⟨x :: xs,H2,I2,.cons r1 r2,q2⟩
def IO (t:TA):TE:=fun σ H Q=>t σ H fun xs H1=>xs.length≤sizeLine ∧ ∀ p,H1 p=none→Q (.ref p) (upd H1 p (.tup xs))
def IP (t:TA):TE:=fun σ H Q=>t σ H fun xs H1=>xs.length≤sizeLine ∧ ∀ p,H1 p=none→Q (.ref p) (upd H1 p (.lst xs))
theorem E9 {x1}(h:PA X es t):PE X (.Tuple es x1 pos) (IO t):=by
 intro pins s σ H Q I hq
 refine wpAny_Tuple_spliced (thn (h pos pins s σ H _ I hq) fun us s1 ⟨xs,H1,I1,r,z,q⟩=>⟨by rw [← r.length];exact z,?_⟩)
 have hf:H1 s1.heap.objs.size=none:=I1.hok.fresh (ZL _)
 refine⟨.ref s1.heap.objs.size,upd H1 s1.heap.objs.size (.tup xs),I1.laid (t':=s1.toks) (fun b u e=>ZH _ e) (ZL _) ?_,rfl,q _ hf⟩
 exact⟨z,us,r,⟨_,ZJ _ rfl,rfl,_,rfl⟩⟩
theorem Fc (h:PA X es t):PE X (.List es pos) (IP t):=by
 intro pins s σ H Q I hq
 refine wpAny_List_spliced (thn (h pos pins s σ H _ I hq) fun us s1 ⟨xs,H1,I1,r,z,q⟩=>⟨by rw [← r.length];exact z,?_⟩)
 have hf:H1 s1.heap.objs.size=none:=I1.hok.fresh (ZL _)
 refine⟨.ref s1.heap.objs.size,upd H1 s1.heap.objs.size (.lst xs),I1.laid (t':=s1.toks) (fun b u e=>ZH _ e) (ZL _) ?_,rfl,q _ hf⟩
 exact⟨z,us,0,r,ZJ _ rfl⟩
end
abbrev Sp:=List V→Hp→VK→XK→Prop
abbrev CXT:=List Env→Hp→Shared→XK→ZY
structure C8 (P:Program) (w:World) (K:ZX) (mg:Str→YM) (base:Heap) (A:Around) (outer:List Env) (s:Shared) (H:Hp):Prop where
 frames:A.frames=some outer
 mod:Mod K mg base
 bs:∀ b o,base.get? b=some o→s.heap.get? b=some o∧H b=none
 bsz:base.objs.size≤s.heap.objs.size
 funs:s.heap.FunFrames base outer
 frf:∀ b∈frs outer,H b=none
 hok:HOk P w H s.heap
 bare:AllBare s.gens
def CE (outer:List Env) (P:Program) (w:World) (H:Hp) (s:Shared) (Q:VK) (u:Value) (s':Shared):Prop :=
 ∃ v H',s'.os=s.os∧AllBare s'.gens∧Un (frs outer) [] H H' s.heap s'.heap∧HOk P w H' s'.heap∧bB v u∧Q v H'
def CR (CX:CXT) (outer:List Env) (P:Program) (w:World) (H:Hp) (s:Shared) (Q:VK) (E:XK) (r:Result) (s':Shared):Prop :=
 match r with
 | .ok (.ret u)=>CE outer P w H s Q u s'
 | .ok _=>False
 | .error e=>CX outer H s E e s'
structure bR (P:Program) (w:World) (K:ZX) (mg:Str→YM) (base:Heap) (CX:CXT) (k:Nat) (f:Addr) (fd:FuncData) (ps:YI) (sp:Sp):Prop where
 len:∀ vs H Q E,sp vs H Q E→vs.length=ps.length
 run:∀ (A:Around) (outer:List Env) (s:Shared) (H:Hp) (args:Args) (us:YG) (vs:List V) (Q:VK) (E:XK),ig k A→C8 P w K mg base A outer s H→BindsTo s fd args (ps.zip us)→aV vs us→sp vs H Q E →
  codeAny (model P w) A (.call (.ref f) args) (CR CX outer P w H s Q E) s
section
variable {X:Cx} {pins:List (Addr × Obj)} {σ:St} {H:Hp} {s s':Shared}
theorem Inv.env0 (I:Inv X pins σ H s):C8 X.prog X.w X.K X.mg X.base X.A X.stack s H :=
 ⟨I.ok.frames,I.ok.mod,I.bs,ZM I.ok.bsz I.sz,I.stack,I.stkFree,I.hok,I.bare⟩
theorem Inv.after {Q:VK}{u:Value}(I:Inv X pins σ H s)(h:CE X.stack X.prog X.w H s Q u s'):EP X pins σ Q u s':=by
 obtain⟨v,H',os,bare,un,hok,r,q⟩:=h
 obtain⟨hh,g,d,t,os'⟩:=s'
 obtain rfl:os'=s.os:=os
 exact⟨v,H',I.call (h':=hh) (g':=g) (d':=d) (t':=t) (ch:=[]) un hok bare (fun b z=>absurd z (by simp)),r,q⟩
end
def Hr (sp:Sp) (dvs:List V) (E:XK) (t:TA):TE:=fun σ H Q=>t σ H fun vs H1=>sp (vs++dvs) H1 Q E
def n6 (K:ZX) (fd:FuncData) (ps:YI) (ds:YG):Prop :=
 ∀ (s:Shared) (us:YG),K.In s.heap→(us++ds).length=ps.length→BindsTo s fd ⟨us,[]⟩ (ps.zip (us++ds))
theorem n6.all {K:ZX}{fd:FuncData}{ps:YI}(h:∀ us:YG,us.length=ps.length→bindArgs fd ⟨us,[]⟩ = pure (ps.zip us)):n6 K fd ps []:=fun s us _ hl=>by
 rw [List.append_nil] at hl ⊢
 exact .of_eq (h us hl)
def v6 (CX:CXT) (X:Cx) (E:XK):Prop:=∀ (pins:List (Addr × Obj)) (σ:St) (H:Hp) (s:Shared) (e:Value) (s':Shared),Inv X pins σ H s→CX X.stack H s E e s'→X.xe e s'
section
variable {X:Cx} {CX:CXT} {k:Nat} {f C:Addr} {fd:FuncData} {ps:YI} {sp:Sp} {dvs:List V} {ds:YG} {E:XK} {x m:Str} {p pos apos:Pos} {e o:Expr} {es:YJ} {ta:TE} {t:TA}
theorem Fd {pins:List (Addr × Obj)}{σ:St}{H:Hp}{s:Shared}{Q:VK}{us:YG}{vs:List V}(F:bR X.prog X.w X.K X.mg X.base CX k f fd ps sp)(hr:ig k X.A)(hb:n6 X.K fd ps ds)(hd:aV dvs ds)(hx:v6 CX X E)
  (I:Inv X pins σ H s) (r:aV vs us) (h:sp (vs++dvs) H Q E):wpAny (model X.prog X.w) X.A (call (.ref f) us) (EP X pins σ Q) X.xe s:=by
 have r2:aV (vs++dvs) (us++ds):=r.append hd
 have hl:(us++ds).length=ps.length:=by rw [← r2.length];exact F.len _ _ _ _ h
 refine wpAny_call (codeAny_mono (F.run X.A X.stack s H ⟨us,[]⟩ (us++ds) (vs++dvs) Q E hr I.env0 (hb s us I.kIn hl) r2 h) fun r s' hq => ?_)
 cases r with
 | error e=>exact hx pins σ H s e s' I hq
 | ok fl =>
  cases fl with
  | ret u=>exact I.after hq
  | next=>exact False.elim hq
  | brk=>exact False.elim hq
  | cont=>exact False.elim hq
theorem C9 (F:bR X.prog X.w X.K X.mg X.base CX k f fd ps sp)(hr:ig k X.A)(hg:Gl X x)(hm:X.mg x=some (.ref f))(hk:PySem.W.keepIn X.K (.ref f)=true)(hb:n6 X.K fd ps ds)(hd:aV dvs ds)(hx:v6 CX X E)
  (ha:PA X (e :: es) t) (hdb:(x == ("__debug__" : Str))=false:=by decide) (he:starEach (e :: es) X.env=(false,eval e X.env) :: starEach es X.env:=by rfl) (hpl:(backTo pos (starEach es X.env)).any (·.1)=false:=by rfl) :
  PE X (.Call (.Name x p) (e :: es) [] pos) (Hr sp dvs E t):=by
 intro pins s σ H Q I h
 refine wpAny_Call_Name_kw (xU I hg hm ?_ hdb)
 refine PySem.W.callWith_K (h₀ := X.base) I.ok.mod.kin hk (thn (ha pos pins s σ H _ I h) fun us s1 ⟨vs,H1,I1,r,q⟩=>⟨I1.kIn,?_⟩) he hpl
 exact Fd F hr hb hd hx I1 r q
structure Mk (K:ZX) (C f:Addr):Prop where
 makes:PySem.W.makesIn K C=true
 init:PySem.W.findIn K (.ref C) "__init__" = some (some (.ref f))
 fn:PySem.W.isFn K (.ref f)=true
 kp:PySem.W.keepIn K (.ref C)=true
end
section
variable {X:Cx} {CX:CXT} {k:Nat} {f C:Addr} {fd:FuncData} {ps ks:YI} {sp:Sp} {E:XK} {x m:Str} {p pos apos kpos:Pos} {e o:Expr} {es:YJ} {kws:List Keyword} {te ta:TE} {t tk:TA} {nm:Option Str}
structure IQ (K:ZX) (fd:FuncData) (ps ks:YI) (g:YG→YG→YG) (gV:List V→List V→List V):Prop where
 to:∀ (s:Shared) (us ws:YG),K.In s.heap→(g us ws).length=ps.length→BindsTo s fd ⟨us,ks.zip ws⟩ (ps.zip (g us ws))
 rel:∀ {vs:List V} {us:YG} {zs:List V} {ws:YG},aV vs us→aV zs ws→aV (gV vs zs) (g us ws)
variable {g:YG→YG→YG} {gV:List V→List V→List V}
end
structure aI (N P:YI) (sc:Scope):Prop where
 kind:sc.kind=.function
 co:sc.isCoroutine=false
 gen:sc.isGenerator=false
 nd:N.Nodup
 pre:N.take P.length=P
 par:∀ x∈P,sc.names.lookup x=some .local ∨sc.names.lookup x=some .cell
 nofree:∀ y∈sc.names,y.2 ≠ .free
theorem qz {kindOf:Str→Option NameKind}{x:Str}:∀ {binds:List (Str × Value)} {m:Str→YM},(∀ v,(x,v)∉binds)→bindL kindOf binds m x=m x
 | [],_,_=>rfl
 | (n,v) :: r,m,h=>by
  unfold bindL
  rw [qz fun w hw=>h w (ZW _ hw)]
  split
  ·have:x≠n:=by rintro rfl;exact h v ZV
   simp [this]
  ·rfl
theorem qA {kindOf:Str→Option NameKind}{x:Str}:∀ {binds:List (Str × Value)} {m:Str→YM},(∀ v,(x,v)∉binds)→bindC kindOf binds m x=m x
 | [],_,_=>rfl
 | (n,v) :: r,m,h=>by
  unfold bindC
  rw [qA fun w hw=>h w (ZW _ hw)]
  split
  ·rfl
  ·have:x≠n:=by rintro rfl;exact h v ZV
   simp [this]
theorem qB {kindOf:Str→Option NameKind}{x:Str}{v:Value}:∀ {P:YI} {vs:YG} {i:Nat} {m:Str→YM},P.Nodup→P[i]? = some x→vs[i]? = some v→kindOf x=some .local →
  bindL kindOf (P.zip vs) m x=some v
 | [],_,_,_,_,h,_,_=>by simp at h
 | _ :: _,[],_,_,_,_,h,_=>by simp at h
 | p :: P,w :: vs,0,m,nd,h1,h2,hk=>by
  simp at h1 h2;subst h1;subst h2
  show bindL kindOf ((p,w) :: P.zip vs) m p=_
  unfold bindL
  rw [qz fun v hv=>(List.nodup_cons.mp nd).1 (List.of_mem_zip hv).1,if_pos hk]
  simp
 | p :: P,w :: vs,i + 1,m,nd,h1,h2,hk=>by
  show bindL kindOf ((p,w) :: P.zip vs) m x=_
  unfold bindL
  exact qB (i:=i) (List.nodup_cons.mp nd).2 (by simpa using h1) (by simpa using h2) hk
theorem qC {kindOf:Str→Option NameKind}{x:Str}{v:Value}:∀ {P:YI} {vs:YG} {i:Nat} {m:Str→YM},P.Nodup→P[i]? = some x→vs[i]? = some v→kindOf x≠some .local →
  bindC kindOf (P.zip vs) m x=some v
 | [],_,_,_,_,h,_,_=>by simp at h
 | _ :: _,[],_,_,_,_,h,_=>by simp at h
 | p :: P,w :: vs,0,m,nd,h1,h2,hk=>by
  simp at h1 h2;subst h1;subst h2
  show bindC kindOf ((p,w) :: P.zip vs) m p=_
  unfold bindC
  rw [qA fun v hv=>(List.nodup_cons.mp nd).1 (List.of_mem_zip hv).1,if_neg hk]
  simp
 | p :: P,w :: vs,i + 1,m,nd,h1,h2,hk=>by
  show bindC kindOf ((p,w) :: P.zip vs) m x=_
  unfold bindC
  exact qC (i:=i) (List.nodup_cons.mp nd).2 (by simpa using h1) (by simpa using h2) hk
def jj (N:YI) (vs:List V):St:=vs.map some++List.replicate (N.length - vs.length) none
def v7 (CX:CXT) (P:Program) (w:World) (K:ZX) (mg:Str→YM) (base:Heap) (N:YI) (qual:Str) (scope:Scope) (f:Addr) (cd:Value) (A:Around) (outer:List Env) (s:Shared) (H:Hp) (E:XK):Cx where
 prog:=P
 w:=w
 K:=K
 mg:=mg
 base:=base
 A:=A.deeper (envOfC qual scope s.heap.objs.size f cd)
 N:=N
 s₀ := s
 H₀ := H
 env:=envOfC qual scope s.heap.objs.size f cd
 outer:=outer
 stack:=envOfC qual scope s.heap.objs.size f cd :: outer
 ex:=[]
 calm:=true
 fn:=fun _=>true
 pn:=[]
 xe:=fun e s'=>wpAny (model P w) (A.deeper (envOfC qual scope s.heap.objs.size f cd)) (leaving (envOfC qual scope s.heap.objs.size f cd) e) (fun _ s''=>CX outer H s E e s'') (fun e' s''=>CX outer H s E e' s'') s'
theorem uk {sc:Scope}{n:Nat}{x:Str}(h:sc.names.lookup x=some .cell):∃ c,(cellsFrom n sc.names []).lookup x=some c:=by
 have q:=PySem.W.cellsFrom_some sc.names n [] (.inl h)
 exact Option.isSome_iff_exists.mp q
theorem zc {CX:CXT}{P:Program}{w:World}{K:ZX}{mg:Str→YM}{base:Heap}{N ps:YI}{qual:Str}{scope:Scope}{f:Addr}{cd:Value}{A:Around}{outer:List Env}{s s1:Shared}{H:Hp}{E:XK}{us:YG}{vs:List V}
  (S:aI N ps scope) (hd:A.handled=none) (e0:C8 P w K mg base A outer s H) (hl:vs.length=ps.length) (r:aV vs us)
  (x:InCallC s s.heap.objs.size (bindL (envOfC qual scope s.heap.objs.size f cd).kindOf (ps.zip us) fun _=>none) (cellsFrom (s.heap.objs.size + 1) scope.names []) (bindC (envOfC qual scope s.heap.objs.size f cd).kindOf (ps.zip us) fun _=>none) s1) :
  Inv (v7 CX P w K mg base N qual scope f cd A outer s H E) [] (jj N vs) H s1:=by
 have hpl:ps.length≤N.length:=by have:=congrArg List.length S.pre;rw [List.length_take] at this;omega
 obtain⟨h1,tk,rfl,hk⟩:=x.done
 have noA:∀ b:Addr,b∉(v7 CX P w K mg base N qual scope f cd A outer s H E).ex:=fun b z=>absurd (show b∈([] : YH) from z) (by simp)
 refine⟨⟨e0.mod,S.kind,rfl,rfl,ZL _,fun y z c h1 h2 => ?_,fun y hy => ?_,fun y c _ h => ?_,fun _=>hd,Around.frames_deeper e0.frames,.inr ⟨rfl,rfl⟩,fun b z=>absurd z (noA b),e0.bs,e0.bsz,fun b _ _=>noA b,fun b z=>absurd z (noA b),e0.funs,e0.frf⟩,
  rfl,e0.bare,Un.kept hk,⟨_,x.toInCall.ns,fun i y v h1 h2 h3 => ?_⟩,fun y c h=>⟨_,x.cell y c h⟩,e0.hok.fresh (ZL _),fun y c h => ?_,fun p hp=>absurd (show p∈([] : List (Addr × Obj)) from hp) (by simp),e0.hok.kept hk,?_⟩
 ·exact name_of_addr x.apart (PySem.mem_of_lookup h1) (PySem.mem_of_lookup h2)
 ·have hy:scope.names.lookup y=some .cell∨scope.names.lookup y=some .free:=hy
  rcases hy with hy|hy
  ·exact uk hy
  ·exact absurd rfl (S.nofree _ (PySem.mem_of_lookup hy))
 ·exact Nat.le_of_lt (x.above y c (PySem.mem_of_lookup h))
 ·have hi:i < vs.length:=by
   unfold jj at h2
   by_cases hi:i < vs.length
   ·exact hi
   ·rw [ZD (by simpa using hi)] at h2
    rw [List.getElem?_replicate] at h2
    split at h2<;>cases h2
  have ha:vs[i]? = some v:=by
   unfold jj at h2
   rw [ZC (by simpa using hi),ZQ] at h2
   cases e:vs[i]? with
   | none=>rw [e] at h2;cases h2
   | some a=>rw [e] at h2;cases h2;rfl
  obtain⟨u,hu,rv⟩:=r.get ha
  have hp:ps[i]? = some y:=by
   rw [← S.pre,List.getElem?_take_of_lt (by omega)];exact h1
  have ndP:ps.Nodup:=by rw [← S.pre];exact S.nd.sublist (List.take_sublist _ _)
  refine⟨u,rv,?_⟩
  rcases S.par y (ZK hp) with k|k
  ·exact .inl ⟨k,qB ndP hp hu k⟩
  ·obtain⟨c,e⟩:=uk (n:=s.heap.objs.size + 1) k
   refine .inr ⟨.inl k,c,e,?_⟩
   have q:=x.cell y c e
   rw [qC ndP hp hu (by show scope.names.lookup y≠_;rw [k];decide)] at q
   exact q
 ·exact e0.hok.fresh (Nat.le_of_lt (x.above y c (PySem.mem_of_lookup h)))
 ·unfold jj
  show _=N.length
  rw [ZB,ZA,List.length_replicate]
  omega
theorem Hs {CX:CXT}{P:Program}{w:World}{K:ZX}{mg:Str→YM}{base:Heap}{k:Nat}{f:Addr}{name qual:Str}{params:Arguments}{body:List Stmt}{scope:Scope}{dV kV doc pm cdv ct oc:Value}{an od:Option Addr}
  {osl:Array (YM)} {N ps:YI} {sp:Sp} (lk:K.lookup f=some ⟨oc,od,.func (PySem.W.fnOf name qual params body scope dV kV doc pm an cdv ct),osl⟩) (hcd:PySem.W.codeIn K cdv qual=true) (S:aI N ps scope)
  (len:∀ vs H Q E,sp vs H Q E→vs.length=ps.length)
  (hbody:∀ (A:Around) (outer:List Env) (s:Shared) (H:Hp) (vs:List V) (Q:VK) (E:XK),ig k (A.deeper (envOfC qual scope s.heap.objs.size f cdv))→sp vs H Q E →
   ∃ t,PSs (v7 CX P w K mg base N qual scope f cdv A outer s H E) body t∧t { nx:=fun _ H'=>Q .non H',rt:=Q } (jj N vs) H) :
  bR P w K mg base CX (k + 1) f (PySem.W.fnOf name qual params body scope dV kV doc pm an cdv ct) ps sp:=by
 refine⟨len,fun A outer s H args us vs Q E hr e0 hb r hsp => ?_⟩
 have hl:=len _ _ _ _ hsp
 have KX:K.In s.heap:=e0.mod.kin.keeps fun b o e=>(e0.bs b o e).1
 have lim:s.heap.NoLimit:=e0.mod.nolimit.keeps fun b o e=>(e0.bs b o e).1
 have hkind:∀ y∈ps.zip us,scope.names.lookup y.1=some .local ∨(scope.names.lookup y.1=some .cell∧((cellsFrom (s.heap.objs.size + 1) scope.names []).lookup y.1).isSome=true):=fun ⟨n,v⟩ hy=>by
  rcases S.par n (List.of_mem_zip hy).1 with q|q
  ·exact .inl q
  ·exact .inr ⟨q,PySem.W.cellsFrom_some _ _ _ (.inl q)⟩
 refine codeAny_call_function hr.depth (KX _ _ lk) rfl S.co S.gen rfl (PySem.W.codeRec_of KX hcd) (hb _ _ _ _ ?_)
 refine wpAny_newFunctionEnv_cells S.kind hkind fun env he s1 x => ?_
 subst he
 refine⟨lim.keeps x.toInCall.keep,codeAny_func ?_⟩
 obtain⟨t,ht,hq⟩:=hbody A outer s H vs Q E (hr.deeper _) hsp
 have I:Inv (v7 CX P w K mg base N qual scope f cdv A outer s H E) [] (jj N vs) H s1:=zc S hr.hd e0 hl r x
 refine wpAny_mono (ht [] s1 (jj N vs) H _ I hq) (fun fl s' hs => ?_) fun e s' hs=>hs
 have fin:∀ {σ':St} {H':Hp} {v:V} {u:Value},Inv (v7 CX P w K mg base N qual scope f cdv A outer s H E) [] σ' H' s'→bB v u→Q v H'→CE outer P w H s Q u s' :=
  fun {σ' H' v u} J rv q=>⟨v,H',J.os,J.bare,J.base,J.hok,rv,q⟩
 cases fl with
 | ret u =>
  obtain⟨v,σ',H',J,rv,q⟩:=hs
  exact fin J rv q
 | next =>
  obtain⟨σ',H',J,q⟩:=hs
  exact fin (v:=V.non) (u:=Value.none) J rfl q
 | brk =>
  obtain⟨_,_,_,q⟩:=hs
  exact False.elim q
 | cont =>
  obtain⟨_,_,_,q⟩:=hs
  exact False.elim q
end L2
namespace L2
open PySem PySem.Spec PyProof.Rows
section
variable {X:Cx} {x:Str} {p pos:Pos} {e:Expr} {es:YJ} {t:TA} {id T:String} {r:List V→Hp→VK→Prop}
def tCB (r:List V→Hp→VK→Prop) (t:TA):TE:=fun σ H Q=>t σ H fun vs H1=>r vs H1 Q
theorem gn (hc:fD X (.builtin id) r) (hg:Gl X x) (hm:X.mg x=none) (hv:bootBuiltins x=some (.builtin id)) (ha:PA X (e :: es) t) (hn:x ≠ "__name__" := by decide) (hdb:(x == ("__debug__" : Str))=false:=by decide)
  (he:starEach (e :: es) X.env=(false,eval e X.env) :: starEach es X.env:=by rfl) (hpl:(backTo pos (starEach es X.env)).any (·.1)=false:=by rfl):PE X (.Call (.Name x p) (e :: es) [] pos) (tCB r t):=by
 intro pins s σ H Q I h
 refine wpAny_Call_Name_kw (ma I hg hm hv ?_ hn hdb)
 exact PyProof.Rows.callWith_builtin1 (thn (ha pos pins s σ H _ I h) fun us s1 ⟨vs,H1,I1,r1,q1⟩=>hc pins s1 σ H1 vs us Q I1 r1 q1) he hpl
theorem mh (hc:fD X (.type T) r) (hg:Gl X x) (hm:X.mg x=none) (hv:bootBuiltins x=some (.type T)) (ha:PA X (e :: es) t) (hn:x ≠ "__name__" := by decide) (hdb:(x == ("__debug__" : Str))=false:=by decide)
  (he:starEach (e :: es) X.env=(false,eval e X.env) :: starEach es X.env:=by rfl) (hpl:(backTo pos (starEach es X.env)).any (·.1)=false:=by rfl):PE X (.Call (.Name x p) (e :: es) [] pos) (tCB r t):=by
 intro pins s σ H Q I h
 refine wpAny_Call_Name_kw (ma I hg hm hv ?_ hn hdb)
 exact PyProof.Rows.callWith_type1 (thn (ha pos pins s σ H _ I h) fun us s1 ⟨vs,H1,I1,r1,q1⟩=>hc pins s1 σ H1 vs us Q I1 r1 q1) he hpl
end
end L2
namespace HT
open PySem PyProof.Rows
def bw:YF→YF→Bool
 | [],[]=>false
 | [],_ :: _=>true
 | _ :: _,[]=>false
 | x :: xs,y :: ys=>if x=y then bw xs ys else decide (x < y)
section
open PySem.SeqAt
open PySem.AutoSeq1 (wpAny_loadPart')
open PySem.MeetsSeq PySem.MeetsSeq2 PySem.MeetsSeq3
end
section
variable {prog:Program} {w:World} {A:Around} {E:ZY} {s:Shared}
theorem cat_tup {t b:Addr}{vs ws:YG}{Q:ZY}(ht:IsTup s.heap t vs.toArray)(hb:IsTup s.heap b ws.toArray)(hv:vs≠[])
  (h1:ws=[]→Q (.ref t) s) (h2:ws≠[]→Q (.ref s.heap.objs.size) { s with heap:=s.heap.push { cls:=.type "tuple",data:=.seq (vs++ws).toArray } })
  (hsz:vs.length + ws.length≤sizeLine):wpAny (model prog w) A (binaryOp .Add (.ref t) (.ref b)) Q E s:=by
 obtain⟨⟨cls,dd,data,sl⟩,ho,hc,n,hd⟩:=id ht
 obtain⟨⟨cls2,dd2,data2,sl2⟩,ho2,hc2,n2,hd2⟩:=id hb
 simp only at hc hd hc2 hd2
 subst hc hd hc2 hd2
 have e:vs.toArray++ws.toArray=(vs++ws).toArray:=by simp
 by_cases hw:ws=[]
 ·exact concat_meets ⟨_,ho,rfl⟩ ⟨_,ho2,rfl⟩ noFill_tuple_add seq_tuple_add PySem.F.slot_tuple_add PySem.F.entry_tuple_add (PySem.F.args_tuple_add_2 _ _)
   (tuple_addW1 t b vs.toArray ws.toArray n n2 dd dd2 sl sl2 (by simpa using hv) (by simp [hw])) ⟨ho,ho2,h1 hw⟩
 ·refine concat_meets ⟨_,ho,rfl⟩ ⟨_,ho2,rfl⟩ noFill_tuple_add seq_tuple_add PySem.F.slot_tuple_add PySem.F.entry_tuple_add (PySem.F.args_tuple_add_2 _ _)
   (tuple_addW2 t b vs.toArray ws.toArray n n2 dd dd2 sl sl2 (by simpa using hv) (by simpa using hw) (by rw [List.size_toArray,List.size_toArray];exact hsz)) ⟨ho,ho2,?_⟩
  rw [e]
  exact h2 hw
def sIx (n d:Nat):Option Int→Nat
 | none=>d
 | some v=>if v < 0 then (v + (n:Int)).toNat else min v.toNat n
theorem Fe (n d:Nat)(hd:d≤n)(o:Option Int):sIx n d o≤n:=by
 cases o with
 | none=>exact hd
 | some v =>
  show (if v < 0 then (v + (n:Int)).toNat else min v.toNat n)≤n
  by_cases hv:v < 0
  ·rw [if_pos hv];omega
  ·rw [if_neg hv];exact Nat.min_le_right _ _
theorem xW (v:Int)(n d:Nat):(if v < 0 then max (v + (n:Int)) 0 else min v (n:Int))=((sIx n d (some v):Nat):Int):=by
 show (if v < 0 then max (v + (n:Int)) 0 else min v (n:Int))=(((if v < 0 then (v + (n:Int)).toNat else min v.toNat n):Nat):Int)
 by_cases hv:v < 0
 ·simp only [if_pos hv];omega
 ·simp only [if_neg hv];omega
theorem wc (lo hi:Option Int)(n:Nat):Builtin.Slice.sliceAdjust lo hi 1 (n:Int)=(((sIx n 0 lo:Nat):Int),((sIx n n hi:Nat):Int)):=by
 have h1 : ¬ ((1:Int) < 0):=by omega
 unfold Builtin.Slice.sliceAdjust
 simp only [h1,if_false]
 refine Prod.ext ?_ ?_
 ·cases lo with
  | none=>rfl
  | some v=>exact xW v n 0
 ·cases hi with
  | none=>rfl
  | some v=>exact xW v n n
theorem we (i j:Nat):Builtin.Slice.slicePlaces (i:Int) (j:Int) 1=j - i:=by
 unfold Builtin.Slice.slicePlaces
 have h1:(1:Int) > 0:=by omega
 simp only [h1,if_true,Int.ediv_one]
 split<;>omega
theorem n8 {v:Value}{o:Option Int}{Q:Option Int→Shared→Prop}(p:IsPart v o)(h:Q o s):wpAny (model prog w) A (Builtin.Slice.slicePartIndex v) Q E s:=by
 cases p with
 | none=>exact slicePart_none h
 | int i t=>exact slicePart_int h
theorem mi {sl:Addr}{vl vu:Value}{lo hi:Option Int}{n:Nat}{Q:Int × Int × Nat→Shared→Prop}(hs:s.heap.IsSliceOf sl vl vu .none)(pl:IsPart vl lo)(pu:IsPart vu hi)
  (h:Q (((sIx n 0 lo:Nat):Int),1,sIx n n hi - sIx n 0 lo) s):wpAny (model prog w) A (Builtin.Slice.sliceApplied (.ref sl) (pure (n:Int))) Q E s:=by
 obtain⟨os,hos,hcs,hds⟩:=id hs
 unfold Builtin.Slice.sliceApplied Builtin.Slice.sliceFields
 refine YW (YW (wpAny_field hos hds (x:=vl) rfl (YW (wpAny_field hos hds (x:=vu) rfl (YW (wpAny_field hos hds (x:=.none) rfl (YX ?_)))))))
 refine YW (slicePart_none ?_)
 show wpAny _ _ (if ((1:Int) == 0)=true then _ else _) _ _ s
 rw [if_neg (by decide)]
 refine YW (n8 pl (YW (n8 pu (YW (YX ?_)))))
 show wpAny _ _ (match Builtin.Slice.sliceAdjust lo hi 1 (n:Int) with|(lo,hi)=>pure (lo,(1:Int),Builtin.Slice.slicePlaces lo hi 1)) _ _ s
 rw [wc lo hi n]
 show wpAny _ _ (pure (((sIx n 0 lo:Nat):Int),(1:Int),Builtin.Slice.slicePlaces ((sIx n 0 lo:Nat):Int) ((sIx n n hi:Nat):Int) 1)) _ _ s
 rw [we]
 exact YX h
theorem Aw (xs:YK)(i k:Nat):((List.range k).filterMap fun (m:Nat)=>xs[((i:Int) + (m:Int) * 1).toNat]?).toArray=((xs.toList.drop i).take k).toArray:=by
 have e:(fun (m:Nat)=>xs[((i:Int) + (m:Int) * 1).toNat]?)=fun m=>xs[i + m]? := by
  funext m
  have:((i:Int) + (m:Int) * 1).toNat=i + m:=by omega
  rw [this]
 rw [e]
 have:=pick_run xs i k
 rw [List.filterMap_map] at this
 have e2:((fun x=>xs[x]?) ∘ fun x=>i + x)=fun m=>xs[i + m]? := rfl
 rw [e2] at this
 rw [this]
theorem getItem_tuple_cut {t sl:Addr}{items:YK}{vl vu:Value}{lo hi:Option Int}{Q:ZY}(ht:IsTup s.heap t items)(hs:s.heap.IsSliceOf sl vl vu .none)(pl:IsPart vl lo)(pu:IsPart vu hi)
  (hw : ¬ (sIx items.size 0 lo=0∧sIx items.size items.size hi=items.size))
  (h:Q (.ref s.heap.objs.size) { s with heap:=s.heap.push { cls:=.type "tuple",data:=.seq ((items.toList.drop (sIx items.size 0 lo)).take (sIx items.size items.size hi - sIx items.size 0 lo)).toArray } })
  (hsz:items.size≤sizeLine):wpAny (model prog w) A (getItem (.ref t) (.ref sl)) Q E s:=by
 have htake:sizeOk (.seq ((items.toList.drop (sIx items.size 0 lo)).take (sIx items.size items.size hi - sIx items.size 0 lo)).toArray):=by
  show ((items.toList.drop (sIx items.size 0 lo)).take (sIx items.size items.size hi - sIx items.size 0 lo)).toArray.size≤sizeLine
  rw [List.size_toArray,List.length_take,List.length_drop,Array.length_toList]
  omega
 have hj:sIx items.size items.size hi≤items.size:=Fe _ _ (ZL _) hi
 obtain⟨os,hos,hcs,hds⟩:=id hs
 have hTs:s.TypeIs (.ref sl) "slice" := ⟨os,hos,hcs⟩
 unfold getItem
 try with_reducible refine wpAny_holding ?_
 first|refine YW (YX ?_)|skip
 refine YW (wpAny_sequenceKey ht.typeIs (by decide) ?_)
 refine YW (wpAny_callSpecial?_slot (name:=Str.ofString "__getitem__") ht.typeIs PyProof.Rows.slot_tuple_getitem
  (wpAny_call_entry PyProof.Rows.slot_tuple_getitem ht.typeIs entry_tuple_getitem ?_ (args_tuple_getitem _ _)))
 show wpAny _ _ (Builtin.Tuple.tupleItemsOf (.ref t) >>= _) _ _ s
 refine YW (tupleItemsOf_ ht ?_)
 refine YW (wpAny_typeOf hTs ?_)
 rw [if_pos (by decide)]
 refine YW (mi hs pl pu ?_)
 have hno : ¬ ((((sIx items.size 0 lo:Nat):Int) == 0 && (1:Int) == 1 && (sIx items.size items.size hi - sIx items.size 0 lo) == items.size)=true):=by
  intro q
  rw [Bool.and_eq_true,Bool.and_eq_true] at q
  have q1:((sIx items.size 0 lo:Nat):Int)=0:=eq_of_beq q.1.1
  have q2:sIx items.size items.size hi - sIx items.size 0 lo=items.size:=eq_of_beq q.2
  exact hw ⟨by omega,by omega⟩
 show wpAny _ _ (if (((sIx items.size 0 lo:Nat):Int) == 0 && (1:Int) == 1 && (sIx items.size items.size hi - sIx items.size 0 lo) == items.size)=true then _ else _) _ _ s
 rw [if_neg hno,Aw]
 first
  | exact YW (m:=Builtin.Tuple.tupleExact _) (wpAny_newObj_type (YX ⟨_,rfl,YX h⟩) htake)
  | exact YW (m:=Builtin.Tuple.tupleExact _) (wpAny_newObj_type (YW (YX (YX ⟨_,rfl,YX h⟩))) htake)
  | exact YW (YW (m:=Builtin.Tuple.tupleExact _) (wpAny_newObj_type (YX (YX ⟨_,rfl,YX h⟩)) htake))
  | exact YW (YW (m:=Builtin.Tuple.tupleExact _) (wpAny_newObj_type (YX ⟨_,rfl,YX h⟩) htake))
end
end HT
namespace L2
open PySem PySem.Spec PyProof.Rows
abbrev TO:=St→Hp→(Option Int→Hp→Prop)→Prop
def PO (X:Cx) (e:Option Expr) (t:TO):Prop :=
 ∀ (pins:List (Addr × Obj)) (s:Shared) (σ:St) (H:Hp) (Q:Option Int→Hp→Prop),Inv X pins σ H s→t σ H Q →
  wpAny (model X.prog X.w) X.A (evalPart e X.env) (fun u s'=>∃ o H',Inv X pins σ H' s'∧IsPart u o∧Q o H') X.xe s
def Da:TO:=fun _ H Q=>Q none H
def Ht (t:TE):TO:=fun σ H Q=>t σ H fun x H1=>∃ i,x=.int i∧Q (some i) H1
theorem n9 {ns:YF}:∀ {us:YG},aV (ns.map V.int) us→IntsAre us ns:=by
 induction ns with
 | nil=>intro us r;rw [List.map_nil] at r;cases r;exact .nil
 | cons n ns ih =>
  intro us r
  rw [XC] at r
  cases r with
  | cons r1 r2 =>
   obtain⟨t,e⟩:=r1
   subst e
   exact .cons n t (ih r2)
section
variable {X:Cx} {e:Expr} {te:TE} {lo hi:Option Expr} {tl th:TO} {pos p2:Pos}
theorem Db:PO X none Da:=by
 intro pins s σ H Q I h
 rw [evalPart_none]
 exact YX ⟨none,H,I,.none,h⟩
theorem Dc (h:PE X e te):PO X (some e) (Ht te):=by
 intro pins s σ H Q I hw
 rw [evalPart_some]
 refine thn (h pins s σ H _ I hw) fun u s1 ⟨x,H1,I1,r1,q1⟩ => ?_
 obtain⟨i,rfl,q⟩:=q1
 obtain⟨t,rfl⟩:=r1
 exact⟨some i,H1,I1,.int i t,q⟩
def SlR (X:Cx) (r:V→Option Int→Option Int→Hp→VK→Prop):Prop :=
 ∀ (pins:List (Addr × Obj)) (s:Shared) (σ:St) (H:Hp) (x:V) (v vl vu:Value) (lo hi:Option Int) (sl:Addr) (Q:VK),Inv X pins σ H s→bB x v→s.heap.IsSliceOf sl vl vu .none→IsPart vl lo→IsPart vu hi→r x lo hi H Q →
  ∃ T id,typeLookup (.type T) "__getitem__" = pure (some (.builtin id))∧s.TypeIs v T∧wpAny (model X.prog X.w) X.A (getItem v (.ref sl)) (EP X pins σ Q) X.xe s
theorem SlR.or {r r':V→Option Int→Option Int→Hp→VK→Prop}(h:SlR X r)(h':SlR X r'):SlR X (fun x lo hi H Q=>r x lo hi H Q∨r' x lo hi H Q):=by
 intro pins s σ H x v vl vu lo hi sl Q I rx hs pl pu q
 rcases q with q|q
 ·exact h pins s σ H x v vl vu lo hi sl Q I rx hs pl pu q
 ·exact h' pins s σ H x v vl vu lo hi sl Q I rx hs pl pu q
def tSl (r:V→Option Int→Option Int→Hp→VK→Prop) (te:TE) (tl th:TO):TE:=fun σ H Q=>te σ H fun x H1=>tl σ H1 fun l H2=>th σ H2 fun u H3=>r x l u H3 Q
theorem Ax {r:V→Option Int→Option Int→Hp→VK→Prop}(hr:SlR X r)(he:PE X e te)(hl:PO X lo tl)(hu:PO X hi th):PE X (.Subscript e (.Slice lo hi none p2) pos) (tSl r te tl th):=by
 intro pins s σ H Q I h
 refine Subscript_ (thn (he pins s σ H _ I h) fun v s1 ⟨x,H1,I1,r1,q1⟩ => ?_)
 refine wpAny_Slice (thn (hl pins s1 σ H1 _ I1 q1) fun vl s2 ⟨l,H2,I2,pl,q2⟩=>thn (hu pins s2 σ H2 _ I2 q2) fun vu s3 ⟨u,H3,I3,pu,q3⟩ => ?_)
 rw [evalPart_none]
 refine YX ?_
 have I4:Inv X pins σ H3 { s3 with heap:=s3.heap.push { cls:=.type "slice",data:=.fields #[vl,vu,.none] } }:=I3.kept (t':=s3.toks) fun b ob q=>ZH _ q
 obtain⟨T,id,hT,ht,hg⟩:=hr pins { s3 with heap:=s3.heap.push { cls:=.type "slice",data:=.fields #[vl,vu,.none] } } σ H3 x v vl vu l u s3.heap.objs.size Q I4 r1 (Heap.IsSliceOf.new ..) pl pu q3
 show wpAny (model X.prog X.w) X.A (subscriptTail e (.Slice lo hi none p2) v (.ref s3.heap.objs.size)) (EP X pins σ Q) X.xe { s3 with heap:=s3.heap.push { cls:=.type "slice",data:=.fields #[vl,vu,.none] } }
 exact tail_any (ops:=[.ref s3.heap.objs.size,v]) ht hT hg (by with_unfolding_all rfl)
def oe (xs:List V) (lo hi:Option Int):List V:=(xs.drop (HT.sIx xs.length 0 lo)).take (HT.sIx xs.length xs.length hi - HT.sIx xs.length 0 lo)
theorem m6 (xs:List V)(lo hi:Option Int):(oe xs lo hi).length≤xs.length:=by
 unfold oe
 rw [List.length_take,List.length_drop]
 omega
def IR (K:ZX):V→Option Int→Option Int→Hp→VK→Prop:=fun x lo hi H Q=>∃ a xs,x=.ref a∧SqT K H a xs ∧
 ¬ (HT.sIx xs.length 0 lo=0∧HT.sIx xs.length xs.length hi=xs.length) ∧ ∀ p,H p=none→Q (.ref p) (upd H p (.tup (oe xs lo hi)))
theorem Ff:SlR X (IR X.K):=by
 intro pins s σ H x v vl vu lo hi sl Q I rx hs pl pu h
 obtain⟨a,xs,rfl,hx,hw,q⟩:=h
 cases rx
 obtain⟨its,r,ht,hz⟩:=I.tuple hx
 have hlen:its.toArray.size=xs.length:=by rw [List.size_toArray];exact r.length.symm
 refine⟨"tuple",_,PyProof.Rows.slot_tuple_getitem.lookup,ht.typeIs,?_⟩
 refine HT.getItem_tuple_cut ht hs pl pu (by rw [hlen];exact hw) ?_ (by rw [hlen];exact hz)
 rw [hlen]
 refine⟨.ref s.heap.objs.size,_,I.laid (t':=s.toks) (o:=.tup (oe xs lo hi)) (fun b ob q=>ZH _ q) (ZL _) ?_,rfl,q _ (I.hok.fresh (ZL _))⟩
 exact⟨ZM (m6 xs lo hi) hz,_,(r.drop (HT.sIx xs.length 0 lo)).take (HT.sIx xs.length xs.length hi - HT.sIx xs.length 0 lo),IsTup.new _ _⟩
def um (K:ZX):R2:=fun x y H Q=>∃ a b xs ys,x=.ref a∧y=.ref b∧SqT K H a xs∧SqT K H b ys∧xs≠[]∧xs.length + ys.length≤sizeLine ∧
 (ys=[]→Q (.ref a) H)∧(ys≠[] → ∀ p,H p=none→Q (.ref p) (upd H p (.tup (xs++ys))))
theorem aV.nil_iff {xs:List V}{us:YG}(r:aV xs us):us=[] ↔ xs=[]:=by
 cases r with
 | nil=>simp
 | cons _ _=>simp
theorem xX:OpR X (binaryOp .Add) (um X.K):=by
 intro pins s σ H x y v u Q I rx ry h
 obtain⟨a,b,xs,ys,rfl,rfl,ha,hb,hx,hz,q1,q2⟩:=h
 cases rx
 cases ry
 obtain⟨its,r1,p1,_⟩:=I.tuple ha
 obtain⟨its2,r2,p2,_⟩:=I.tuple hb
 refine HT.cat_tup p1 p2 (fun z=>hx (r1.nil_iff.mp z)) (fun z=>⟨.ref a,H,I,rfl,q1 (r2.nil_iff.mp z)⟩) (fun z => ?_) (by rw [← r1.length,← r2.length];exact hz)
 refine⟨.ref s.heap.objs.size,_,I.laid (t':=s.toks) (o:=.tup (xs++ys)) (fun b ob q=>ZH _ q) (ZL _) ?_,rfl,q2 (fun w=>z (r2.nil_iff.mpr w)) _ (I.hok.fresh (ZL _))⟩
 exact⟨by rw [ZB];exact hz,_,r1.append r2,IsTup.new _ _⟩
end
end L2
namespace L2
open PySem PySem.Spec PyProof.Rows
def ixN (n:Nat) (i:Int):YL:=if 0≤i then (if i < n then some i.toNat else none) else if -(n:Int)≤i then some (i + n).toNat else none
def atI {α : Type} (xs:List α) (i:Int):Option α := (ixN xs.length i).bind fun j=>xs[j]?
theorem xY {n:Nat}{i:Int}{j:Nat}(h:ixN n i=some j):seqIndex? i n=some j∧j < n ∧ -(n:Int)≤i∧i < n:=by
 unfold ixN at h
 by_cases h0:0≤i
 ·rw [if_pos h0] at h
  by_cases h1:i < n
  ·rw [if_pos h1] at h
   have e:i.toNat=j:=ZT h
   exact⟨by rw [seqIndex_of h0 h1,e],by omega,by omega,h1⟩
  ·rw [if_neg h1] at h;cases h
 ·rw [if_neg h0] at h
  by_cases h1 : -(n:Int)≤i
  ·rw [if_pos h1] at h
   have e:(i + n).toNat=j:=ZT h
   exact⟨by rw [seqIndex_neg (by omega) h1,e],by omega,h1,by omega⟩
  ·rw [if_neg h1] at h;cases h
theorem rX {α : Type}{xs:List α}{i:Int}{v : α}(h:atI xs i=some v):∃ j,seqIndex? i xs.length=some j∧xs[j]? = some v∧j < xs.length ∧ -(xs.length:Int)≤i∧i < xs.length:=by
 unfold atI at h
 cases e:ixN xs.length i with
 | none=>rw [e] at h;cases h
 | some j =>
  rw [e] at h
  obtain⟨h1,h2,h3,h4⟩:=xY e
  exact⟨j,h1,h,h2,h3,h4⟩
theorem cu {α : Type}{xs:List α}{j:Nat}{v : α}(h:xs[j]? = some v):atI xs (j:Int)=some v:=by
 have hj:j < xs.length:=(YO h).1
 have e:ixN xs.length (j:Int)=some j:=by
  unfold ixN
  rw [if_pos (by omega),if_pos (by omega)];simp
 unfold atI;rw [e];exact h
def rY (b:Expr):Prop:=∀ o i,subscripted b false o i=operate [o,i] (getItem o i)
def IxR (X:Cx) (r:R2):Prop :=
 ∀ (value slice:Expr) (pins:List (Addr × Obj)) (s:Shared) (σ:St) (H:Hp) (x y:V) (v u:Value) (Q:VK),Inv X pins σ H s→bB x v→bB y u→r x y H Q →
  subscripted slice false v u=operate [v,u] (getItem v u)→wpAny (model X.prog X.w) X.A (subscriptTail value slice v u) (EP X pins σ Q) X.xe s
def MtR (X:Cx) (id:String) (r:V→List V→Hp→VK→Prop):Prop :=
 ∀ (pins:List (Addr × Obj)) (s:Shared) (σ:St) (H:Hp) (x:V) (xs:List V) (v:Value) (us:YG) (Q:VK),Inv X pins σ H s→bB x v→aV xs us→r x xs H Q →
  wpAny (model X.prog X.w) X.A (call (.builtin id) (v :: us)) (EP X pins σ Q) X.xe s
section
variable {X:Cx} {a b:Expr} {ta tb:TE} {pos:Pos}
theorem IxR.or {r r':R2}(h:IxR X r)(h':IxR X r'):IxR X (fun x y H Q=>r x y H Q∨r' x y H Q):=by
 intro value slice pins s σ H x y v u Q I rx ry q hs
 rcases q with q|q
 ·exact h value slice pins s σ H x y v u Q I rx ry q hs
 ·exact h' value slice pins s σ H x y v u Q I rx ry q hs
theorem Ep {r:R2}(hr:IxR X r)(ha:PE X a ta)(hb:PE X b tb)(hs:rY b):PE X (.Subscript a b pos) (tOp r ta tb):=by
 intro pins s σ H Q I h
 exact Subscript_ (ui ha hb I h fun v u s2 x y H2 I2 rx ry q=>hr a b pins s2 σ H2 x y v u Q I2 rx ry q (hs _ _))
def Hu (K:ZX):R2:=fun x y H Q=>∃ p xs i v,x=.ref p∧y=.int i∧SqL K H p xs∧atI xs i=some v∧Q v H
def Hv (K:ZX):R2:=fun x y H Q=>∃ p xs i v,x=.ref p∧y=.int i∧SqT K H p xs∧atI xs i=some v∧Q v H
def Hw:R2:=fun x y H Q=>∃ z i c,x=.str z∧y=.int i∧z.length≤sizeLine∧atI z.cps.toList i=some c∧Q (.str ⟨#[c]⟩) H
theorem xZ:IxR X (Hu X.K):=by
 intro value slice pins s σ H x y v u Q I rx ry h hs
 obtain⟨p,xs,i,z,rfl,rfl,hq,he,q⟩:=h
 cases rx
 obtain⟨t,rfl⟩:=ry
 obtain⟨its,r,pl,hz⟩:=I.list hq
 obtain⟨j,h1,h2,h3,h4,h5⟩:=rX he
 obtain⟨w,ew,rw'⟩:=r.get h2
 have hl:=r.length
 have hn:=n4
 have fin:EP X pins σ Q w s:=⟨z,H,I,rw',q⟩
 by_cases h0:0≤i
 ·have hj:i.toNat=j:=by
   rw [seqIndex_of h0 h5] at h1
   exact ZT h1
  exact item_listR pl.isList h0 (by omega) (by rw [hj];simpa using ew) fin hs
 ·have hj:(i + (its.toArray.size:Int)).toNat=j:=by
   rw [seqIndex_neg (by omega) h4] at h1
   rw [List.size_toArray,← hl]
   exact ZT h1
  exact subscriptTail_builtinR (x:=w) pl.isList.typeIs slot_list_getitem.lookup
   (wpAny_getItem_list_neg (Q:=fun r s'=>r=w∧EP X pins σ Q r s') pl.isList (by omega) (by rw [List.size_toArray]<;>omega) (by omega) (by rw [hj];simpa using ew) ⟨rfl,fin⟩) hs
theorem Fg:IxR X (Hv X.K):=by
 intro value slice pins s σ H x y v u Q I rx ry h hs
 obtain⟨p,xs,i,z,rfl,rfl,hq,he,q⟩:=h
 cases rx
 obtain⟨t,rfl⟩:=ry
 obtain⟨its,r,pl,hz⟩:=I.tuple hq
 obtain⟨j,h1,h2,h3,h4,h5⟩:=rX he
 obtain⟨w,ew,rw'⟩:=r.get h2
 have hl:=r.length
 have hn:=n4
 have fin:EP X pins σ Q w s:=⟨z,H,I,rw',q⟩
 exact subscriptTail_builtinR (x:=w) pl.typeIs slot_tuple_getitem.lookup
  (getItem_tuple (j:=j) (Q:=fun r s'=>r=w∧EP X pins σ Q r s') pl (by omega) (by omega) (by rw [List.size_toArray,← hl];exact h1) (by simpa using ew) ⟨rfl,fin⟩) hs
theorem Fh:IxR X Hw:=by
 intro value slice pins s σ H x y v u Q I rx ry h hs
 obtain⟨z,i,c,rfl,rfl,hz,he,q⟩:=h
 obtain⟨t,rfl⟩:=rx
 obtain⟨t',rfl⟩:=ry
 obtain⟨j,h1,h2,h3,h4,h5⟩:=rX he
 have hl:z.cps.toList.length=z.length:=by simp [Str.length]
 rw [hl] at h1 h4 h5
 have hn:=n4
 exact tail_any (typeIs_str s z t) slot_str_getitem.lookup (getItem_str (c:=c) (by
  have e1:decide (i < -(2 ^ 63:Int))=false:=XB (by omega)
  have e2:decide (i ≥ 2 ^ 63)=false:=XB (by omega)
  rw [e1,e2,Bool.or_false]) (by rw [h1];simpa using h2) ⟨.str ⟨#[c]⟩,H,I.tok _,⟨_,rfl⟩,q⟩) hs
def rIx (K:ZX):R2:=fun x y H Q=>Hu K x y H Q∨Hv K x y H Q∨Hw x y H Q
theorem Fi:IxR X (rIx X.K):=xZ.or (Fg.or Fh)
theorem wf (its:YG) (n j:Nat) (u:Value):Obj.mapSeq (·.setIfInBounds j u) { cls:=.type "list",data:=.seq its.toArray n } = { cls:=.type "list",data:=.seq (its.set j u).toArray n }:=by
 simp [Obj.mapSeq]
theorem Inv.lst {pins:List (Addr × Obj)}{σ:St}{H:Hp}{s:Shared}{p:Addr}{xs:List V}(I:Inv X pins σ H s)(h:H p=some (.lst xs)) :
  ∃ (its:YG) (n:Nat),aV xs its∧s.heap.get? p=some { cls:=.type "list",data:=.seq its.toArray n } ∧ xs.length≤sizeLine:=by
 obtain⟨z,its,n,r,e⟩:=I.hok p _ h
 exact⟨its,n,r,e,z⟩
theorem Inv.lstUpd {pins:List (Addr × Obj)}{σ:St}{H:Hp}{s:Shared}{p:Addr}{xs ys:List V}{its its':YG}{n n':Nat}{f:Obj→Obj}(I:Inv X pins σ H s)(h:H p=some (.lst xs))
  (ho:s.heap.get? p=some { cls:=.type "list",data:=.seq its.toArray n }) (hf:f { cls:=.type "list",data:=.seq its.toArray n } = { cls:=.type "list",data:=.seq its'.toArray n' }) (r:aV ys its') (hz:ys.length≤sizeLine) (t:Nat) :
  Inv X pins σ (upd H p (.lst ys)) { s with heap:=s.heap.update p f,toks:=t }:=by
 have e:(s.heap.update p f).get? p=some { cls:=.type "list",data:=.seq its'.toArray n' }:=by
  rw [Heap.get?_update_self f ho (by rw [hf]<;>rfl),hf]
 refine I.write (x:=p) (e:=p) (by rw [h];trivial) (.inl rfl) (fun b u hb q=>(Heap.get?_update_other _ _ (Ne.symm hb)).trans q) ⟨_,e⟩ ?_
 exact⟨hz,its',n',r,e⟩
def Hx:V→V→V→Hp→(Hp→Prop)→Prop:=fun o i v H Q=>∃ p xs k j,o=.ref p∧i=.int k∧H p=some (.lst xs)∧ixN xs.length k=some j∧Q (upd H p (.lst (xs.set j v)))
theorem Ay:EY X Hx:=by
 intro pins s σ H o i v ov iv u Q I ro ri rv h
 obtain⟨p,xs,k,j,rfl,rfl,hp,hj,q⟩:=h
 cases ro
 obtain⟨t,rfl⟩:=ri
 obtain⟨its,n,r,ho,hz⟩:=I.lst hp
 obtain⟨h1,h2,h3,h4⟩:=xY hj
 have hl:=r.length
 have hn:=n4
 have I':Inv X pins σ (upd H p (.lst (xs.set j v))) { s with heap:=s.heap.update p (Obj.mapSeq (·.setIfInBounds j u)) } :=
  I.lstUpd hp ho (wf its n j u) (r.set rv j) (by rw [List.length_set];exact hz) s.toks
 by_cases h0:0≤k
 ·have hk:k.toNat=j:=by
   rw [seqIndex_of h0 h4] at h1
   exact ZT h1
  exact PySem.W.ki_setAt ho h0 (by omega) (by rw [List.size_toArray,← hl];exact h4) (by rw [hk];exact⟨_,I',q⟩)
 ·have hk:(k + (its.toArray.size:Int)).toNat=j:=by
   rw [seqIndex_neg (by omega) h3] at h1
   rw [List.size_toArray,← hl]
   exact ZT h1
  exact PySem.W.ki_setBack ho (by omega) (by rw [List.size_toArray,← hl];exact h3) (by omega) (by rw [hk];exact⟨_,I',q⟩)
theorem rZ (lo hi:Option Int)(n:Nat):(sliceBounds lo hi none n).1=((HT.sIx n 0 lo:Nat):Int)∧(sliceBounds lo hi none n).2.1=((HT.sIx n n hi:Nat):Int)∧(sliceBounds lo hi none n).2.2=1:=by
 refine⟨?_,?_,rfl⟩
 ·cases lo with
  | none=>simp [sliceBounds,HT.sIx]
  | some i =>
   simp only [sliceBounds,HT.sIx,Option.getD_none,show (1:Int) > 0 by decide,if_true]
   by_cases h:i < 0
   ·simp only [h,if_true]<;>omega
   ·simp only [h,if_false]<;>omega
 ·cases hi with
  | none=>simp [sliceBounds,HT.sIx]
  | some i =>
   simp only [sliceBounds,HT.sIx,Option.getD_none,show (1:Int) > 0 by decide,if_true]
   by_cases h:i < 0
   ·simp only [h,if_true]<;>omega
   ·simp only [h,if_false]<;>omega
theorem pS (its:YG)(lo hi:Option Int):slicePick its.toArray lo hi none=((its.drop (HT.sIx its.length 0 lo)).take (HT.sIx its.length its.length hi - HT.sIx its.length 0 lo)).toArray:=by
 obtain⟨h1,h2,h3⟩:=rZ lo hi its.toArray.size
 unfold slicePick
 rw [h1,h2,h3]
 simp only [sliceRange_one,pick_run,List.size_toArray]<;>rfl
def Hy (K:ZX):V→Option Int→Option Int→Hp→VK→Prop:=fun x lo hi H Q=>∃ a xs,x=.ref a∧SqL K H a xs ∧ ∀ p,H p=none→Q (.ref p) (upd H p (.lst (oe xs lo hi)))
theorem Dd:SlR X (Hy X.K):=by
 intro pins s σ H x v vl vu lo hi sl Q I rx hs pl pu h
 obtain⟨a,xs,rfl,hx,q⟩:=h
 cases rx
 obtain⟨its,r,ht,hz⟩:=I.list hx
 have hlen:=r.length
 refine⟨"list",_,slot_list_getitem.lookup,ht.isList.typeIs,?_⟩
 refine wpAny_getItem_list_slice ht.isList hs pl pu .none (by simp) ?_ (by rw [List.size_toArray]<;>omega)
 rw [pS,← hlen]
 refine⟨.ref s.heap.objs.size,_,I.laid (t':=s.toks) (o:=.lst (oe xs lo hi)) (fun b ob q=>ZH _ q) (ZL _) ?_,rfl,q _ (I.hok.fresh (ZL _))⟩
 exact⟨ZM (m6 xs lo hi) hz,_,0,(r.drop (HT.sIx xs.length 0 lo)).take (HT.sIx xs.length xs.length hi - HT.sIx xs.length 0 lo),ZJ _ rfl⟩
theorem se:fD X (.builtin "len") (fun xs H Q=>∃ p ys,xs=[.ref p]∧(SqL X.K H p ys∨SqT X.K H p ys)∧Q (.int ys.length) H):=by
 intro pins s σ H xs us Q I r h
 obtain⟨p,ys,rfl,hq,q⟩:=h
 obtain⟨u,rfl,rx⟩:=uj r
 cases rx
 have hn:=n4
 rcases hq with hq|hq
 ·obtain⟨its,r',pl,hz⟩:=I.list hq
  have hlen:=r'.length
  exact Calls.call_len_list pl.isList (by simp only [List.size_toArray]<;>omega) ⟨.int ys.length,H,I.tok _,⟨s.toks + 1,by rw [List.size_toArray,hlen]⟩,q⟩
 ·obtain⟨its,r',pl,hz⟩:=I.tuple hq
  have hlen:=r'.length
  exact len_tuple pl (by simp only [List.size_toArray]<;>omega) ⟨.int ys.length,H,I.tok _,⟨s.toks + 1,by rw [List.size_toArray,hlen]⟩,q⟩
theorem sf:fD X (.type "list") (fun xs H Q=>∃ p ys,xs=[.ref p]∧(SqL X.K H p ys∨SqT X.K H p ys) ∧ ∀ l,H l=none→Q (.ref l) (upd H l (.lst ys))):=by
 intro pins s σ H xs us Q I r h
 obtain⟨p,ys,rfl,hq,q⟩:=h
 obtain⟨u,rfl,rx⟩:=uj r
 cases rx
 have fin:∀ (its:YG),aV ys its→ys.length≤sizeLine → ∀ (h':Heap) (c':Nat),(∀ b o',s.heap.get? b=some o'→h'.get? b=some o') →
   h'.get? s.heap.objs.size=some { cls:=.type "list",dict:=none,data:=.seq its.toArray c',slots := #[] } → EP X pins σ Q (.ref s.heap.objs.size) { s with heap:=h' }:=fun its r' hz h' c' kp e =>
  ⟨.ref s.heap.objs.size,_,I.laid (t':=s.toks) kp (ZL _) (show dP X.prog X.w _ h' _ (.lst ys) from ⟨hz,its,c',r',e⟩),rfl,q _ (I.hok.fresh (ZL _))⟩
 rcases hq with hq|hq
 ·obtain⟨its,r',pl,hz⟩:=I.list hq
  have hlen:=r'.length
  obtain⟨o,ho,hc,n,hd⟩:=pl.isList
  exact call_list_seq p (.inl rfl) ho hc hd (fun h' c' kp e=>fin its r' hz h' c' kp e) (by simp only [List.size_toArray]<;>omega)
 ·obtain⟨its,r',pl,hz⟩:=I.tuple hq
  have hlen:=r'.length
  obtain⟨o,ho,hc,n,hd⟩:=pl
  exact call_list_seq p (.inr rfl) ho hc hd (fun h' c' kp e=>fin its r' hz h' c' kp e) (by simp only [List.size_toArray]<;>omega)
theorem pT:fD X (.type "tuple") (fun xs H Q=>∃ p ys,xs=[.ref p]∧((SqL X.K H p ys ∧ ∀ l,H l=none→Q (.ref l) (upd H l (.tup ys)))∨(SqT X.K H p ys∧Q (.ref p) H))):=by
 intro pins s σ H xs us Q I r h
 obtain⟨p,ys,rfl,h⟩:=h
 obtain⟨u,rfl,rx⟩:=uj r
 cases rx
 rcases h with ⟨hq,q⟩|⟨hq,q⟩
 ·obtain⟨its,r',pl,hz⟩:=I.list hq
  have hlen:=r'.length
  refine call_tuple_list pl.isList (fun h' kp => ?_) (by simp only [List.size_toArray]<;>omega)
  have I1:Inv X pins σ H { s with heap:=h' }:=I.kept (t':=s.toks) kp
  have I2:Inv X pins σ (upd H h'.objs.size (.tup ys)) { s with heap:=h'.push { cls:=.type "tuple",data:=.seq its.toArray } } :=
   I1.laid (t':=s.toks) (fun b o e=>ZH _ e) (ZL _) (show dP X.prog X.w _ _ _ (.tup ys) from ⟨hz,its,r',IsTup.new _ _⟩)
  exact⟨.ref h'.objs.size,_,I2,rfl,q _ (I1.hok.fresh (ZL _))⟩
 ·obtain⟨its,r',pl,hz⟩:=I.tuple hq
  exact call_tuple_same pl ⟨.ref p,H,I,rfl,q⟩
def tyV (K:ZX) (T:String) (x:V) (H:Hp):Prop:=match x with
 | .str _=>T = "str"
 | .int _=>T = "int"
 | .ref p=>(T = "list" ∧ ∃ xs,SqL K H p xs)∨(T = "tuple" ∧ ∃ o,K.lookup p=some o∧o.cls=.type "tuple" ∧ o.dict=none) ∨
   (T = "dict" ∧ ((∃ kvs,H p=some (.dK kvs)) ∨ ∃ kvs,H p=some (.dT kvs)))∨(T = "set" ∧ ∃ S n,H p=some (.set S n))
 | _=>False
theorem Fj {pins:List (Addr × Obj)}{σ:St}{H:Hp}{s:Shared}{T:String}{x:V}{v:Value}(I:Inv X pins σ H s)(r:bB x v)(ty:tyV X.K T x H) :
  s.TypeIs v T ∧ ∀ a,v=.ref a → ∃ ob,s.heap.get? a=some ob∧ob.dict=none:=by
 cases x with
 | str z =>
  obtain⟨t,rfl⟩:=r
  cases (show T = "str" from ty)
  exact⟨typeIs_str s z t,fun _ e=>nomatch e⟩
 | int i =>
  obtain⟨t,rfl⟩:=r
  cases (show T = "int" from ty)
  exact⟨typeIs_int s i t,fun _ e=>nomatch e⟩
 | ref p =>
  cases r
  rcases ty with ⟨rfl,xs,hq⟩|⟨rfl,o,hk,hc,hd⟩|⟨rfl,hk⟩|⟨rfl,S,n,hk⟩
  ·obtain⟨its,_,pl,_⟩:=I.list hq
   refine⟨pl.isList.typeIs,fun a e => ?_⟩
   cases e
   obtain⟨o,n,e,c,hd,_⟩:=pl
   exact⟨o,e,hd⟩
  ·refine⟨⟨o,I.kIn p o hk,hc⟩,fun a e => ?_⟩
   cases e
   exact⟨o,I.kIn _ o hk,hd⟩
  ·have z:∃ o,s.heap.get? p=some o∧o.ExactDict:=by
    rcases hk with ⟨kvs,hk⟩|⟨kvs,hk⟩
    ·obtain⟨_,_,_,_,o,_,_,e,ex,_⟩:=I.hok p _ hk
     exact⟨o,e,ex⟩
    ·obtain⟨_,_,_,_,o,_,_,e,ex,_⟩:=I.hok p _ hk
     exact⟨o,e,ex⟩
   obtain⟨o,e,ex⟩:=z
   refine⟨⟨o,e,ex.1⟩,fun a e2 => ?_⟩
   cases e2
   exact⟨o,e,ex.2.1⟩
  ·obtain⟨o,_,_,_,e,ex,_⟩:=I.hok p _ hk
   refine⟨⟨o,e,ex.1⟩,fun a e2 => ?_⟩
   cases e2
   exact⟨o,e,ex.2.1⟩
 | _=>exact False.elim ty
def tBM (K:ZX) (T:String) (r:V→List V→Hp→VK→Prop) (to:TE) (t:TA):TE:=fun σ H Q=>to σ H fun x H1=>tyV K T x H1∧t σ H1 fun xs H2=>r x xs H2 Q
variable {o e:Expr} {es:YJ} {to:TE} {t:TA} {name:Str} {apos cpos:Pos} {T id:String} {r:V→List V→Hp→VK→Prop}
theorem Az (pa:PlainAttrs T) (slot:Slot T name id) (hty:typeOf (.builtin id)=pure (.type "method_descriptor")) (hm:MtR X id r) (ho:PE X o to) (ha:PA X (e :: es) t)
  (hbase:attributeBase o name X.env (eval o X.env)=eval o X.env:=by rfl)
  (hfew:((backTo cpos (starEach (e :: es) X.env)).all (fun x => !x.1) && (backToKw cpos (keywordEach [] X.env)).all (fun x=>x.1.isSome)
   && decide ((e :: es).length + ([] : List Keyword).length + (if ([] : List Keyword).isEmpty then 0 else 1) < 30))=true:=by rfl)
  (hline:(apos.endLine == cpos.line)=true:=by rfl) (hs:starEach (e :: es) X.env=(false,eval e X.env) :: starEach es X.env:=by rfl) (hplain:(backTo cpos (starEach es X.env)).any (·.1)=false:=by rfl) :
  PE X (.Call (.Attribute o name apos) (e :: es) [] cpos) (tBM X.K T r to t):=by
 intro pins s σ H Q I h
 refine wpAny_Call_method_late hbase hfew hline rfl (thn (ho pins s σ H _ I h) fun v s1 ⟨x,H1,I1,r1,ty,q1⟩ => ?_)
 obtain⟨h1,h2⟩:=Fj I1 r1 ty
 refine⟨T,id,pa,slot,hty,h1,h2,?_⟩
 have hA:=ha cpos pins s1 σ H1 _ I1 q1
 rw [hs] at hA ⊢
 refine Calls.callWith_builtin (by show (false || (backTo cpos (starEach es X.env)).any (·.1))=false;rw [hplain]<;>rfl) (Calls.evalArgs_plain ?_)
 exact thn hA fun us s2 ⟨vs,H2,I2,r2,q2⟩=>hm pins s2 σ H2 x vs v us Q I2 r1 r2 q2
end
end L2
namespace L2
open PySem PySem.Spec PyProof.Rows
def MtM (X:Cx) (id:String) (r:V→List V→Hp→VK→Prop):Prop :=
 ∀ (pins:List (Addr × Obj)) (s:Shared) (σ:St) (H:Hp) (x:V) (xs:List V) (v:Value) (us:YG) (Q:VK),Inv X pins σ H s→bB x v→aV xs us→r x xs H Q →
  wpAny (model X.prog X.w) X.A (call (.builtin id) (v :: us)) (EP X pins σ Q) X.xe s
theorem aV.one:∀ {x:V} {us:YG},aV [x] us → ∃ u,us=[u]∧bB x u
 | _,_,.cons r .nil=>⟨_,rfl,r⟩
theorem aV.two:∀ {x y:V} {us:YG},aV [x,y] us → ∃ u v,us=[u,v]∧bB x u∧bB y v
 | _,_,_,.cons r (.cons q .nil)=>⟨_,_,rfl,r,q⟩
theorem aV.rep {xs:List V}{us:YG}(h:aV xs us):∀ k:Nat,aV (List.replicate k xs).flatten (List.replicate k us).flatten
 | 0=>.nil
 | k + 1=>by
  rw [List.replicate_succ,List.replicate_succ,List.flatten_cons,List.flatten_cons]
  exact aV.append h (aV.rep h k)
theorem qD (its:YG):∀ (k:Nat) (acc:YG),
  List.foldl (fun x1 x2=>x1++x2) acc.toArray (List.replicate k its.toArray)=(acc++(List.replicate k its).flatten).toArray
 | 0,acc=>by simp
 | k + 1,acc=>by
  have e:acc.toArray++its.toArray=(acc++its).toArray:=by simp
  have e2:(acc++its)++(List.replicate k its).flatten=acc++(List.replicate (k + 1) its).flatten:=by
   rw [List.replicate_succ,List.flatten_cons,ZU]
  rw [← e2,← qD its k (acc++its),← e,List.replicate_succ,List.foldl_cons]
section
variable {X:Cx} {pins:List (Addr × Obj)} {σ:St} {H:Hp} {s:Shared} {l b:Addr} {xs ys zs:List V}
theorem Inv.lset {its its':YG}{n:Nat}{f:YK→YK}{t':Nat}(I:Inv X pins σ H s)(hH:H l=some (.lst xs))
  (e:s.heap.get? l=some { cls:=.type "list",data:=.seq its.toArray n }) (hf:f its.toArray=its'.toArray) (hv:aV ys its') (hz:ys.length≤sizeLine) :
  Inv X pins σ (upd H l (.lst ys)) { s with heap:=s.heap.update l (Obj.mapSeq f),toks:=t' }:=by
 have q:=PySem.IsL.update e f
 rw [hf] at q
 refine I.write (x:=l) (e:=l) (by rw [hH];exact trivial) (.inl rfl) (fun b' u hb hu=>(Heap.get?_update_other s.heap (Obj.mapSeq f) (Ne.symm hb)).trans hu) ⟨_,q⟩ ?_
 exact⟨hz,its',_,hv,q⟩
theorem Inv.lnew {its:YG}{t':Nat}(I:Inv X pins σ H s)(hv:aV ys its)(hz:ys.length≤sizeLine) :
  Inv X pins σ (upd H s.heap.objs.size (.lst ys)) { s with heap:=s.heap.push { cls:=.type "list",data:=.seq its.toArray },toks:=t' } :=
 I.laid (fun _ _ q=>ZH _ q) (ZL _) ⟨hz,its,0,hv,ZJ _ rfl⟩
theorem Inv.fresh (I:Inv X pins σ H s):H s.heap.objs.size=none:=I.hok.fresh (ZL _)
theorem Inv.lstM (I:Inv X pins σ H s) (hH:H l=some (.lst xs)):xs.length≤sizeLine ∧ ∃ (its:YG) (n:Nat),aV xs its∧xs.length=its.length∧s.heap.get? l=some { cls:=.type "list",data:=.seq its.toArray n }:=by
 obtain⟨z,its,n,r,e⟩:=I.hok l _ hH
 exact⟨z,its,n,r,r.length,e⟩
theorem uo {n:Nat}(h:n≤sizeLine):Builtin.List.listTooLong n=false:=by
 unfold Builtin.List.listTooLong
 exact XB (by omega)
end
section
variable {X:Cx}
def De:V→List V→Hp→VK→Prop:=fun x vs H Q=>∃ l xs y,x=.ref l∧vs=[y]∧H l=some (.lst xs)∧xs.length < sizeLine∧Q .non (upd H l (.lst (xs++[y])))
theorem qE:MtM X "list.append" De:=by
 intro pins s σ H x vs v us Q I rx rv h
 obtain⟨l,xs,y,rfl,rfl,hH,hz,q⟩:=h
 cases rx
 obtain⟨u,rfl,ru⟩:=rv.one
 obtain⟨z,its,n,r,hl,e⟩:=I.lstM hH
 refine call_meets F.slot_list_append ⟨_,e,rfl⟩ F.entry_list_append (F.args_list_append_2 _ _) (PySem.list_append l its.toArray n u (by rw [List.size_toArray];omega)) ⟨e,?_⟩
 refine⟨.non,_,I.lset (its':=its++[u]) hH e (by simp) (r.append (.cons ru .nil)) ?_,rfl,q⟩
 rw [ZB,List.length_singleton]
 omega
def Df:V→List V→Hp→VK→Prop:=fun x vs H Q=>∃ l b xs zs,x=.ref l∧vs=[.ref b]∧H l=some (.lst xs)∧H b=some (.lst zs)∧xs.length + zs.length≤sizeLine∧Q .non (upd H l (.lst (xs++zs)))
theorem zd:MtM X "list.extend" Df:=by
 intro pins s σ H x vs v us Q I rx rv h
 obtain⟨l,b,xs,zs,rfl,rfl,hH,hB,hz,q⟩:=h
 cases rx
 obtain⟨u,rfl,ru⟩:=rv.one
 cases ru
 obtain⟨z,its,n,r,hl,e⟩:=I.lstM hH
 obtain⟨z2,its2,n2,r2,hl2,e2⟩:=I.lstM hB
 have hsz:its.toArray.size + its2.toArray.size≤sizeLine:=by rw [List.size_toArray,List.size_toArray];omega
 have hlong : ¬ (!its.toArray.isEmpty && Builtin.List.listTooLong (its.toArray.size + its2.toArray.size))=true:=by
  rw [uo hsz,Bool.and_false]
  exact Bool.false_ne_true
 refine call_meets F.slot_list_extend ⟨_,e,rfl⟩ F.entry_list_extend (F.args_list_extend_2 _ _)
  (AutoSeq1.list_extend_list_list_0 l its.toArray n b its2.toArray n2 hlong (by rw [List.size_toArray];omega) (by omega)) ⟨e,e2,?_⟩
 refine⟨.non,_,I.lset (its':=its++its2) hH e (by simp) (r.append r2) ?_,rfl,q⟩
 rw [ZB]
 omega
def IS:R2:=fun x y H Q=>∃ l b xs zs,x=.ref l∧y=.ref b∧H l=some (.lst xs)∧H b=some (.lst zs)∧xs.length + zs.length≤sizeLine ∧ ∀ p,H p=none→Q (.ref p) (upd H p (.lst (xs++zs)))
theorem Fk:OpR X (binaryOp .Add) IS:=by
 intro pins s σ H x y v u Q I rx ry h
 obtain⟨l,b,xs,zs,rfl,rfl,hH,hB,hz,q⟩:=h
 cases rx
 cases ry
 obtain⟨z,its,n,r,hl,e⟩:=I.lstM hH
 obtain⟨z2,its2,n2,r2,hl2,e2⟩:=I.lstM hB
 refine PySem.P.add_list e e2 ?_ (by rw [List.size_toArray,List.size_toArray];omega)
 have ea:its.toArray++its2.toArray=(its++its2).toArray:=by simp
 rw [ea]
 exact⟨.ref _,_,I.lnew (t':=s.toks) (r.append r2) (by rw [ZB];omega),rfl,q _ I.fresh⟩
def IT:R2:=fun x y H Q=>∃ l k xs,x=.ref l∧y=.int k∧H l=some (.lst xs) ∧ -(2 ^ 63)≤k∧k < 2 ^ 63∧xs.length * k.toNat≤sizeLine ∧
 ∀ p,H p=none→Q (.ref p) (upd H p (.lst (List.replicate k.toNat xs).flatten))
theorem Dg {α : Type}(xs:List α)(k:Nat):(List.replicate k xs).flatten.length=k * xs.length:=by
 induction k with
 | zero=>simp
 | succ k ih=>rw [List.replicate_succ,List.flatten_cons,ZB,ih,Nat.succ_mul,Nat.add_comm]
theorem Fo:OpR X (binaryOp .Mult) IT:=by
 intro pins s σ H x y v u Q I rx ry h
 obtain⟨l,k,xs,rfl,rfl,hH,h1,h2,hz,q⟩:=h
 cases rx
 obtain⟨t,rfl⟩:=ry
 obtain⟨z,its,n,r,hl,e⟩:=I.lstM hH
 have hlen:its.toArray.size * k.toNat≤sizeLine:=by rw [List.size_toArray,← hl];exact hz
 have hcap : ¬ its.toArray.size * k.toNat > (2 ^ 63 - 1) / 8:=by
  have:(sizeLine:Nat)≤(2 ^ 63 - 1) / 8:=by decide
  omega
 have hfit : ¬ (!Builtin.List.listFitsIndex k)=true:=by
  rw [fitsIndex_both h1 h2]
  exact Bool.false_ne_true
 have hlong : ¬ Builtin.List.listTooLong (its.toArray.size * k.toNat)=true:=by
  rw [uo hlen]
  exact Bool.false_ne_true
 have hnew:List.foldl (fun x1 x2=>x1++x2) #[] (List.replicate (if its.toArray.isEmpty=true then 0 else k.toNat) its.toArray)=(List.replicate k.toNat its).flatten.toArray:=by
  have f0:∀ m:Nat,List.foldl (fun x1 x2=>x1++x2) #[] (List.replicate m its.toArray)=(List.replicate m its).flatten.toArray:=fun m=>by
   have:=qD its m []
   rw [List.nil_append] at this
   exact this
  rw [f0]
  cases its with
  | nil=>simp
  | cons a r'=>rw [if_neg (by simp)]
 refine wpAny_binaryOp_repeat_ref (T := "list") (U := "int") (by decide) ⟨_,e,rfl⟩ (fun s'=>typeIs_int s' k t) noFill_list_mul F.fills_int_mul F.slot_int_rmul repeat_list F.slot_int_index.lookup
  (call_meets F.slot_int_rmul (typeIs_int s k t) F.entry_int_rmul (F.args_int_rmul_2 _ _) (int___rmul___int_list k t l its.toArray n)
   ⟨e,rfl,⟨_,e,rfl⟩,call_meets F.slot_list_mul ⟨_,e,rfl⟩ F.entry_list_mul (F.args_list_mul_2 _ _) (AutoListH.list___mul___list_int_3 l its.toArray n k t hfit hcap hlong) ⟨e,?_⟩⟩)
 rw [hnew]
 exact⟨.ref _,_,I.lnew (t':=s.toks) (r.rep k.toNat) (by rw [Dg,Nat.mul_comm];exact hz),rfl,q _ I.fresh⟩
end
section
variable {prog:Program} {w:World} {A:Around} {E:ZY} {s:Shared}
end
section
variable {X:Cx}
end
end L2
namespace Att
open PySem PySem.W PySem.Calls PyProof.Rows
theorem nA {P:Params}{h:Heap}:∀ (ns:YF) (vs:YG),WellAll P h vs (ns.map WData.int)→IntsAre vs ns:=by
 intro ns
 induction ns with
 | nil =>
  intro vs w
  rw [List.map_nil] at w
  cases w
  exact .nil
 | cons n ns ih =>
  intro vs w
  rw [XC] at w
  cases w with
  | cons a b =>
   cases a
   exact .cons _ _ (ih _ b)
theorem zf {l:OpenLaw}{n:Nat}(hn:l.most=some n){P:Params}{h:Heap}{args:List WData}{vals:YG}
  (hpre:l.row.toRowW.claim.pre args=true) (hwl:WellAll P h vals args) :
  ∃ a vs ns,vals=[Value.ref a]∧args=[WData.list (ns.map WData.int)]∧h.get? a=some { cls:=.type "list",data:=.seq vs.toArray } ∧ IntsAre vs ns∧ns.length≤n:=by
 have hsh:WShape.hasAll [] args [.list .int] = true:=(pre_splitW hpre).1
 have hc:l.pre.holds [] { args:=args } = true:=(pre_splitW hpre).2
 obtain⟨d,r,rfl,h1,h2⟩:=hasAllW_cons hsh
 obtain rfl:=hasAllW_nil h2
 obtain⟨xs,rfl,h3⟩:=hasW_list h1
 obtain⟨ns,rfl⟩:=items_int h3
 have hlen:ns.length≤n:=by
  unfold OpenLaw.pre at hc
  have h4:(WTm.not (.lt (.lit (.int (n:Int))) (.len (.arg 0)))).holds [] { args:=[.list (ns.map .int)] } = true:=by
   have h4:=(holds_andW hc).1
   rw [hn] at h4
   exact h4
  have h5:=condW_of h4 (w_not (w_lt w_lit (w_len_list (w_arg rfl))))
  rw [ZA] at h5
  refine Nat.le_of_not_lt fun q => ?_
  have q':(n:Int) < ((ns.length:Nat):Int):=by omega
  first
   | (rw [YZ q'] at h5;exact absurd h5 (by decide))
   | (simp at h5;omega)
 cases hwl with
 | cons w1 w2 =>
  cases w2
  cases w1 with
  | list ho hall=>exact⟨_,_,ns,rfl,rfl,ho,nA ns _ hall,hlen⟩
theorem zg (l:OpenLaw)(args:List WData):l.row.toRowW.claim.post args (.bool true) args=true :=
 postW_of (r:=l.row.toRowW) (X:=(true == true))
  (show WShape.has [] (.bool true) .bool=true by first|rfl|decide|simp [WShape.has,WShape.arms,WShape.armsAll])
  (show (WTm.eq .res (.lit (.bool true))).value [] { args:=args,res:=some (.bool true),after:=args } = some (.bool (true == true)) from w_eq_bool (w_res rfl) w_lit) rfl
theorem attach_call {l:OpenLaw}{n:Nat}{q:Program}{loose:YI}{XP:(Str→YM)→Heap→Prop}{YP:World→Heap→Prop}{d:DefRec}
  (hn:l.most=some n) (hdf:d.params.defaults=[])
  (call:∀ (w:World) (s₀ s₁ : Shared) (mg mb:Str→YM) (fa:Addr) (o:Obj) (pm cd doc:Value) (a:Addr) (vs:YG) (ns:YF),
   Ground q loose [] XP w s₀ mg mb s₁.heap→YP w s₁.heap →
   s₁.heap.get? fa=some o→o.data=.func (docDef d.name d.params d.body d.scope pm cd doc)→s₁.heap.CodeRec cd d.name→mg d.name=some (.ref fa) →
   s₁.heap.get? a=some { cls:=.type "list",data:=.seq vs.toArray } → IntsAre vs ns→ns.length≤n→s₁.gens = #[] →
   codeAny (model l.prog w) callerA (.call (.ref fa) ⟨[.ref a],[]⟩) (fun r s'=>r=.ok (.ret (.bool true))∧OldK s₁.heap s'.heap∧s'.os=s₁.os∧AllBare s'.gens) s₁) :
  WalkO q loose XP YP l.row.toRowW d [] (fun f vs=>PySem.call f vs):=by
 intro w s₀ s₁ mg mb G Y fa o pm cd doc dV kV ho hd hcd hD hmg hg args vals as hpre hlay hrd hwl hlo
 obtain rfl:dV=.none:=Dflts.none hD hdf
 obtain rfl:kV=.none:=Dflts.noKw hD
 obtain⟨a,vs,ns,rfl,rfl,hobj,hints,hlen⟩:=zf hn hpre hwl
 refine enter_call (codeAny_mono (call w s₀ s₁ mg mb fa o pm cd doc a vs ns G Y ho (fd_plain hd) hcd hmg hobj hints hlen hg) fun r s' hq => ?_)
 obtain⟨rfl,h2,h3,h4⟩:=hq
 exact⟨.inl ⟨.bool true,.bool true,[],rfl,fun _=>rfl,.bool true,zg l _,fun _=>⟨List.Pairwise.nil,fun _ hm=>(nomatch hm)⟩⟩,h2,h3,h4⟩
section
variable {prog:Program} {w:World} {A:Around} {E:ZY} {s:Shared} {K:Frag}
end
end Att
namespace L2
open PySem PySem.Spec PyProof.Rows
theorem qF:∀ {vs:YG} {ns:YF},IntsAre vs ns→aV (ns.map V.int) vs
 | _,_,.nil=>.nil
 | _,_,.cons n t h=>.cons ⟨t,rfl⟩ (qF h)
def Fp (H:Hp):Prop:=∀ b,H b=none ∨ ∃ o xs,H b=some (.frz o (.lst xs))
theorem AA {P:Program}{w:World}{K:ZX}{mg mb:Str→YM}{CX:CXT}{k:Nat}{fa a:Addr}{fd:FuncData}{x:Str}{sp:Sp}{s₁ : Shared}{vs:YG}{ns:YF}
  (KX:K.In s₁.heap) (hns:s₁.heap.Ns mainGlobals mg) (hb:s₁.heap.Ns builtinsNs mb) (hbb:∀ x:Str,x ≠ "__name__" → mb x=bootBuiltins x) (hlim:s₁.heap.NoLimit) (hg:s₁.gens = #[])
  (ha:s₁.heap.get? a=some { cls:=.type "list",data:=.seq vs.toArray }) (hi:IntsAre vs ns) (hl:ns.length≤sizeLine) (hr:ig k callerA)
  (F:∀ base:Heap,K.In base→base.Ns mainGlobals mg→bR P w K mg base CX k fa fd [x] sp) (hbind:∀ (s:Shared) (u:Value),BindsTo s fd ⟨[u],[]⟩ [(x,u)])
  (hsp:∀ H:Hp,Fp H→SqL K H a (ns.map V.int)→sp [.ref a] H (fun v _=>v=.bl true) fun _ _ _=>False)
  (hCX:∀ H e s',CX [] H s₁ (fun _ _ _=>False) e s'→False) :
  codeAny (model P w) callerA (.call (.ref fa) ⟨[.ref a],[]⟩) (fun r s'=>r=.ok (.ret (.bool true))∧OldK s₁.heap s'.heap∧s'.os=s₁.os∧AllBare s'.gens) s₁ := by
 have rv:=qF hi
 have lenV:=hi.length
 have core:∀ H:Hp,Fp H→SqL K H a (ns.map V.int)→HOk P w H s₁.heap→(∀ b,H b≠none→b=a)→(H a≠none→K.lookup a=none) →
   codeAny (model P w) callerA (.call (.ref fa) ⟨[.ref a],[]⟩) (fun r s'=>r=.ok (.ret (.bool true))∧OldK s₁.heap s'.heap∧s'.os=s₁.os∧AllBare s'.gens) s₁ := by
  intro H hO hS hok hA hK
  have base_of:∀ {b:Addr} {o:Obj},s₁.heap.get? b=some o→H b=none→(rV s₁.heap H).get? b=some o:=fun e n=>Ai e n
  have noA:∀ {b:Addr} {o:Obj} {es:Array DictEntry} {ep:Nat},s₁.heap.get? b=some o→o.data=.dict es ep→H b=none:=fun {b o es ep} e d=>by
   cases q:H b with
   | none=>rfl
   | some u =>
    have e':b=a:=hA b (by rw [q];simp)
    subst e'
    rw [ha] at e;cases e
    have d':Data.seq vs.toArray _=Data.dict es ep:=d
    cases d'
  have nsK:∀ {b:Addr} {m:Str→YM},s₁.heap.Ns b m→(rV s₁.heap H).Ns b m:=fun {b m} ⟨o,es,ep,e,d,r⟩=>⟨o,es,ep,base_of e (noA e d),d,r⟩
  have hKb:K.In (rV s₁.heap H):=fun b o e=>base_of (KX b o e) (by
   cases q:H b with
   | none=>rfl
   | some u =>
    have e':b=a:=hA b (by rw [q];simp)
    subst e'
    rw [hK (by rw [q];simp)] at e;cases e)
  have hM:Mod K mg (rV s₁.heap H):=⟨hKb,nsK hns,⟨mb,nsK hb,hbb⟩,let ⟨mc,h1,h2⟩:=hlim;⟨mc,nsK h1,h2⟩⟩
  have e0:C8 P w K mg (rV s₁.heap H) callerA [] s₁ H:=⟨rfl,hM,fun b o e=>CQ e,Nat.le_of_eq (yX _ _),trivial,fun b hb=>absurd (show b∈([] : YH) from hb) (by simp),hok,.of_eq hg⟩
  refine codeAny_mono ((F _ hKb (nsK hns)).run callerA [] s₁ H ⟨[.ref a],[]⟩ [.ref a] [.ref a] _ _ hr e0 (hbind s₁ (.ref a)) (.cons rfl .nil) (hsp H hO hS)) fun r s' h => ?_
  cases r with
  | error e=>exact (hCX H e s' h).elim
  | ok fl =>
   cases fl with
   | next=>exact False.elim h
   | brk=>exact False.elim h
   | cont=>exact False.elim h
   | ret u =>
    obtain⟨v,H',os,bare,un,hok',r',q⟩:=h
    have q':v=.bl true:=q
    subst q'
    obtain rfl:u=Value.bool true:=r'
    refine⟨rfl,OldK.of_keep fun b o e => ?_,os,bare⟩
    cases q:H b with
    | none=>exact un.keep b o e q (by intro z;exact absurd (show b∈([] : YH) from z) (by simp)) (by simp)
    | some u =>
     rcases hO b with z|⟨ob,xs,z⟩
     ·rw [q] at z;cases z
     ·have z2:=un.frzs b ob _ z
      obtain⟨e1,_⟩:=hok b _ z
      obtain⟨e2,_⟩:=hok' b _ z2
      rw [e] at e1;cases e1
      exact e2
 cases hk:K.lookup a with
 | some o =>
  have e:=KX a o hk
  rw [ha] at e
  cases e
  refine core (fun _=>none) (fun _=>.inl rfl) (.inr ⟨_,vs.toArray,_,hk,rfl,rfl,rfl,by rw [List.size_toArray,lenV];exact hl,by simpa using rv⟩) (fun b u z=>by have z':(none:Option HO)=some u:=z;cases z') (fun b z=>absurd rfl z) fun z=>absurd rfl z
 | none =>
  refine core (fun b=>if b=a then some (.frz { cls:=.type "list",data:=.seq vs.toArray } (.lst (ns.map V.int))) else none) (fun b => ?_) (.inl (.inr ⟨{ cls:=.type "list",data:=.seq vs.toArray },if_pos rfl⟩)) (fun b u z => ?_) (fun b z => ?_) fun _=>hk
  ·by_cases hb:b=a
   ·exact .inr ⟨_,_,if_pos hb⟩
   ·exact .inl (if_neg hb)
  ·by_cases hb:b=a
   ·have z':=(if_pos hb).symm.trans z
    cases z'
    subst hb
    exact⟨ha,by rw [ZA];exact hl,vs,_,rv,ha⟩
   ·have z':=(if_neg hb).symm.trans z
    cases z'
  ·by_cases hb:b=a
   ·exact hb
   ·exact absurd (if_neg hb) z
end L2
namespace L2
open PySem PySem.Spec PyProof.Rows
theorem Dh {l:PySem.W.OpenLaw}{n k:Nat}{q:Program}{loose:YI}{XP:(Str→YM)→Heap→Prop}{YP:World→Heap→Prop}{d:DefRec}{K:Params→ZX}{CX:World→CXT}{sp:World→Sp}{x:Str}
  (hn:l.most=some n) (hn2:n≤sizeLine) (hdf:d.params.defaults=[]) (hr:ig k callerA)
  (hY:∀ (w:World) (h:Heap),YP w h→(K w.params).In h)
  (F:∀ (w:World) (mg:Str→YM) (fa:Addr) (h:Heap),(K w.params).In h→h.Ns mainGlobals mg→mg d.name=some (.ref fa) →
   ∃ fd:FuncData,(∀ (s:Shared) (u:Value),BindsTo s fd ⟨[u],[]⟩ [(x,u)]) ∧
    ∀ base:Heap,(K w.params).In base→base.Ns mainGlobals mg→bR l.prog w (K w.params) mg base (CX w) k fa fd [x] (sp w))
  (hsp:∀ (w:World) (H:Hp) (a:Addr) (ns:YF),ns.length≤n→Fp H→SqL (K w.params) H a (ns.map V.int)→sp w [.ref a] H (fun v _=>v=.bl true) fun _ _ _=>False)
  (hCX:∀ (w:World) (H:Hp) (s:Shared) (e:Value) (s':Shared),CX w [] H s (fun _ _ _=>False) e s'→False) :
  PySem.W.WalkO q loose XP YP l.row.toRowW d [] (fun f vs=>PySem.call f vs):=by
 refine Att.attach_call hn hdf fun w s₀ s₁ mg mb fa o pm cd doc a vs ns G Y ho hd hcd hmg hobj hints hlen hg => ?_
 have KX:=hY w _ Y
 obtain⟨fd,hb,hF⟩:=F w mg fa _ KX G.T.g hmg
 exact AA KX G.T.g G.T.b G.T.builtins G.T.nolimit hg hobj hints (ZM hlen hn2) hr hF hb (fun H hO hS=>hsp w H a ns hlen hO hS) fun H e s'=>hCX w H s₁ e s'
end L2
namespace L2
open PySem PySem.Spec PyProof.Rows
def dJ (s:Stmt):Arguments:=match s with
 | .FunctionDef _ a _ _ _ _ _ _ _ _=>a
 | _=>{ posonlyargs:=[],args:=[],vararg:=none,kwonlyargs:=[],kw_defaults:=[],kwarg:=none,defaults:=[] }
def cO (s:Stmt):List Stmt:=match s with
 | .FunctionDef _ _ b _ _ _ _ _ _ _=>b
 | _=>[]
def ax (s:Stmt):Scope:=match s with
 | .FunctionDef _ _ _ _ _ _ sc _ _ _=>sc
 | _=>{ kind:=.function,names:=[],isGenerator:=false,isCoroutine:=false }
abbrev CX0:CXT:=fun _ _ _ _ _ _=>False
abbrev E0:XK:=fun _ _ _=>False
theorem Hz {X:Cx}:v6 CX0 X E0:=fun _ _ _ _ _ _ _ h=>h.elim
structure Fun (K:ZX) (x qual:Str) (st:Stmt) (f:Addr) (fd:FuncData):Prop where
 ex:∃ (oc:Value) (od:Option Addr) (kV doc pm:Value) (an:Option Addr) (cdv ct:Value) (osl:Array (YM)),
  fd=PySem.W.fnOf x qual (dJ st) (cO st) (ax st) .none kV doc pm an cdv ct∧K.lookup f=some ⟨oc,od,.func fd,osl⟩ ∧ PySem.W.codeIn K cdv qual=true
 kp:PySem.W.keepIn K (.ref f)=true
section
variable {P:Program} {w:World} {K:ZX} {mg:Str→YM} {base:Heap}
theorem Fun.ok {x qual:Str}{st:Stmt}{f:Addr}{fd:FuncData}{N ps:YI}{k:Nat}{sp:Sp}(F:Fun K x qual st f fd)(S:aI N ps (ax st))(len:∀ vs H Q E,sp vs H Q E→vs.length=ps.length)
  (hbody:∀ (cdv:Value) (A:Around) (outer:List Env) (s:Shared) (H:Hp) (vs:List V) (Q:VK) (E:XK),ig k (A.deeper (envOfC qual (ax st) s.heap.objs.size f cdv))→sp vs H Q E →
   ∃ t,PSs (v7 CX0 P w K mg base N qual (ax st) f cdv A outer s H E).nox (cO st) t∧t { nx:=fun _ H'=>Q .non H',rt:=Q } (jj N vs) H):bR P w K mg base CX0 (k + 1) f fd ps sp:=by
 obtain⟨oc,od,kV,doc,pm,an,cdv,ct,osl,rfl,lk,hcd⟩:=F.ex
 refine Hs lk hcd S len fun A outer s H vs Q E hr hsp => ?_
 obtain⟨t,h,q⟩:=hbody cdv A outer s H vs Q E hr hsp
 exact⟨t,h.nox,q⟩
theorem Fun.binds {x qual:Str}{st:Stmt}{f:Addr}{fd:FuncData}{ps:YI}(F:Fun K x qual st f fd)
  (h:∀ (kV doc pm:Value) (an:Option Addr) (cdv ct:Value) (us:YG),us.length=ps.length→bindArgs (PySem.W.fnOf x qual (dJ st) (cO st) (ax st) .none kV doc pm an cdv ct) ⟨us,[]⟩ = pure (ps.zip us)):n6 K fd ps []:=by
 obtain⟨oc,od,kV,doc,pm,an,cdv,ct,osl,rfl,lk,hcd⟩:=F.ex
 exact .all (h kV doc pm an cdv ct)
theorem AB {x qual:Str}{st:Stmt}{f:Addr}{oc:Value}{od an:Option Addr}{osl:Array (YM)}{kV doc pm cdv ct:Value}(l:K.lookup f=some ⟨oc,od,.func (PySem.W.fnOf x qual (dJ st) (cO st) (ax st) .none kV doc pm an cdv ct),osl⟩)
  (c:PySem.W.codeIn K cdv qual=true) (k:PySem.W.keepIn K (.ref f)=true):Fun K x qual st f (PySem.W.fnOf x qual (dJ st) (cO st) (ax st) .none kV doc pm an cdv ct):=⟨⟨oc,od,kV,doc,pm,an,cdv,ct,osl,rfl,l,c⟩,k⟩
end
section
variable {X:Cx}
end
def jd (H H':Hp):Prop:=∀ b o,H b=some o→H' b=some o
theorem jd.refl (H:Hp):jd H H:=fun _ _ h=>h
end L2
namespace L2
open PySem PySem.Spec
structure IU (h:Heap) (a D:Addr) (o:Obj):Prop where
 at_:h.get? a=some o
 cls:o.cls=.ref D
def HA (a C:Addr):HO:=.ext fun h=>∃ o,IU h a C o
end L2
namespace Fm
inductive D where
 | non|bl (b:Bool)|int (i:Int)|str (x:List Nat)|tup (l:List D)|ref (n:Nat)|lit (l:List D)|exn (c:String) (l:List D)
deriving Inhabited
inductive cP where
 | lst (l:List D)|dct (l:List (Int × D))
abbrev Hd:=List cP
inductive Res (α : Type) where
 | ok (a : α) (h:Hd)|exc (x:D) (h:Hd)|bad
def Res.bind {α β : Type} (r:Res α) (f : α → Hd→Res β):Res β := match r with
 | .ok a h=>f a h | .exc x h=>.exc x h | .bad=>.bad
@[simp] theorem aA {α β : Type} (a : α) (h:Hd) (f : α → Hd→Res β):(Res.ok a h).bind f=f a h:=rfl
abbrev Sd:=List (Option D)
abbrev EF:=Sd→Hd→Res D
abbrev TF:=Sd→Hd→Res Bool
abbrev LF:=Sd→Hd→Res (List D)
inductive Out where
 | nx (σ:Sd) (h:Hd)|rt (d:D) (h:Hd)|bk (σ:Sd) (h:Hd)|ct (σ:Sd) (h:Hd)|exc (x:D) (σ:Sd) (h:Hd)|bad
abbrev SF:=Sd→Hd→Out
abbrev Fn:=List D→Hd→Res D
abbrev SZ:Nat:=1000000
@[simp] def slot (σ:Sd) (i:Nat):Option D:=match σ[i]? with|some (some d)=>some d|_=>none
@[simp] def ae (i:Nat):EF:=fun σ h=>match slot σ i with|some d=>.ok d h|none=>.bad
@[simp] def fC (d:D):EF:=fun _ h=>.ok d h
abbrev O2:=D→D→Hd→Res D
@[simp] def aw (g:O2) (a b:EF):EF:=fun σ h=>(a σ h).bind fun x h=>(b σ h).bind fun y h=>g x y h
@[simp] def oI (g:Int→Int→Int):O2:=fun x y h=>match x,y with | .int i,.int j=>.ok (.int (g i j)) h|_,_=>.bad
@[simp] def oB (g:Int→Int→Bool):O2:=fun x y h=>match x,y with | .int i,.int j=>.ok (.bl (g i j)) h|_,_=>.bad
@[simp] def oIc (c:Int→Int→Bool) (g:Int→Int→Int):O2:=fun x y h=>match x,y with | .int i,.int j=>if c i j then .ok (.int (g i j)) h else .bad|_,_=>.bad
def sml (i:Int):Bool:=decide (-18446744073709551616 < i) && decide (i < 18446744073709551616)
@[simp] def cV:O2:=fun x y h=>match x,y with
 | .int i,.int j=>.ok (.int (i + j)) h
 | .tup (x :: xs),.tup ys=>if (x :: xs).length + ys.length≤SZ then .ok (.tup (x :: xs++ys)) h else .bad
 | _,_=>.bad
@[simp] def gJ:O2:=fun x y h=>(oI (· - ·)) x y h
@[simp] def je:O2:=fun x y h=>(oIc (fun i j=>sml i || sml j) (· * ·)) x y h
@[simp] def ij:O2:=fun x y h=>(oIc (fun _ j=>decide (0 < j)) (· % ·)) x y h
@[simp] def AC:O2:=fun x y h=>(oIc (fun _ j=>decide (0 < j) && decide (j < 2 ^ 250)) (· / ·)) x y h
@[simp] def HB:O2:=fun x y h=>(oIc (fun i j=>decide (0≤j) && decide (j≤1000000) && sml i) (fun i j=>i ^ j.toNat)) x y h
@[simp] def oLt:O2:=fun x y h=>(oB fun i j=>decide (i < j)) x y h
@[simp] def oLe:O2:=fun x y h=>(oB fun i j=>decide (i≤j)) x y h
@[simp] def oGt:O2:=fun x y h=>(oB fun i j=>decide (j < i)) x y h
@[simp] def Jg:D→Hd→Res D:=fun x h=>match x with | .int i=>.ok (.int (-i)) h|_=>.bad
@[simp] def og:D→Bool | .non=>true|_=>false
@[simp] def oh:O2:=fun x y h=>if og y then .ok (.bl (og x)) h else .bad
@[simp] def kY:O2:=fun x y h=>if og y then .ok (.bl (!og x)) h else .bad
@[simp] def b2i (b:Bool):Int:=if b then 1 else 0
mutual
def peq:D→D→Option Bool
 | .int i,k=>match k with | .int j=>some (decide (i=j)) | .bl c=>some (decide (i=b2i c)) | .non=>some false | .tup _=>some false|_=>none
 | .bl c,k=>match k with | .int j=>some (decide (b2i c=j)) | .bl d=>some (decide (c=d))|_=>none
 | .str x,k=>match k with | .str y=>some (decide (x=y))|_=>none
 | .non,k=>match k with | .non=>some true | .int _=>some false | .tup _=>some false|_=>none
 | .tup xs,k=>match k with | .tup ys=>(fW xs ys).map fun b=>b && decide (xs.length=ys.length) | .non=>some false | .int _=>some false|_=>none
 | .ref _,_=>none
 | .lit _,_=>none
 | .exn _ _,_=>none
def fW:List D→List D→Option Bool
 | x :: xs,y :: ys=>match peq x y,fW xs ys with
  | some a,some b=>some (a && b)
  | _,_=>none
 | _,_=>some true
end
mutual
def dep:D→Nat
 | .tup l=>mj l + 1
 | _=>0
def mj:List D→Nat
 | []=>0
 | x :: xs=>max (dep x) (mj xs)
end
def eqL (xs ys:List D):Option Bool:=if mj xs≤20 then (if xs.length=ys.length then fW xs ys else some false) else none
@[simp] def gp (h:Hd):D→Option (List D)
 | .ref n=>match h[n]? with|some (.lst l)=>some l|_=>none
 | .lit l=>some l
 | _=>none
@[simp] def eqG (h:Hd) (x y:D):Option Bool:=match gp h x,gp h y with
 | some xs,some ys=>eqL xs ys
 | none,none=>if dep x≤20 then peq x y else none
 | _,_=>none
@[simp] def oEq:O2:=fun x y h=>match eqG h x y with|some b=>.ok (.bl b) h|none=>.bad
@[simp] def oNe:O2:=fun x y h=>match eqG h x y with|some b=>.ok (.bl (!b)) h|none=>.bad
@[simp] def asB (r:Res D):Res Bool:=r.bind fun x h=>match x with | .bl b=>.ok b h|_=>.bad
@[simp] def tE (a:EF):TF:=fun σ h=>asB (a σ h)
@[simp] def fV (t:TF):TF:=fun σ h=>(t σ h).bind fun b h=>.ok (!b) h
@[simp] def mf (t u:TF):TF:=fun σ h=>(t σ h).bind fun b h=>if b then u σ h else .ok false h
@[simp] def tOr (t u:TF):TF:=fun σ h=>(t σ h).bind fun b h=>if b then .ok true h else u σ h
@[simp] def fT (t:TF):EF:=fun σ h=>(t σ h).bind fun b h=>.ok (.bl b) h
@[simp] def fIf (t:TF) (a b:EF):EF:=fun σ h=>(t σ h).bind fun c h=>if c then a σ h else b σ h
@[simp] def oj (g k:O2) (a b c:EF):EF:=fun σ h=>(a σ h).bind fun x h=>(b σ h).bind fun y h=>(g x y h).bind fun z h=>match z with
 | .bl true=>(c σ h).bind fun w h=>k y w h
 | .bl false=>.ok (.bl false) h
 | _=>.bad
@[simp] def ar:LF:=fun _ h=>.ok [] h
@[simp] def af (a:EF) (r:LF):LF:=fun σ h=>(a σ h).bind fun x h=>(r σ h).bind fun xs h=>.ok (x :: xs) h
@[simp] def cW (r:LF):EF:=fun σ h=>(r σ h).bind fun xs h=>if xs.length≤SZ then .ok (.tup xs) h else .bad
@[simp] def aQ (r:LF):EF:=fun σ h=>(r σ h).bind fun xs h=>if xs.length≤SZ then .ok (.ref h.length) (h++[.lst xs]) else .bad
@[simp] def kh (h:Hd):D→Option (List D)
 | .tup l=>some l
 | .lit l=>some l
 | .ref n=>match h[n]? with|some (.lst l)=>some l|_=>none
 | _=>none
@[simp] def lOf (a:EF):LF:=fun σ h=>(a σ h).bind fun x h=>match kh h x with|some l=>.ok l h|none=>.bad
def ixN (n:Nat) (i:Int):YL:=if 0≤i then (if i < n then some i.toNat else none) else if -(n:Int)≤i then some (i + n).toNat else none
def atI (xs:List D) (i:Int):Option D:=(ixN xs.length i).bind fun j=>xs[j]?
@[simp] def fIx (a:LF) (b:EF):EF:=fun σ h=>(a σ h).bind fun l h=>(b σ h).bind fun y h=>match y with
 | .int i=>match atI l i with|some d=>.ok d h|none=>.bad
 | _=>.bad
@[simp] def oAt:O2:=fun x y h=>match kh h x,y with
 | some l,.int i=>match atI l i with|some d=>.ok d h|none=>.bad
 | _,_=>.bad
@[simp] def fAt (a b:EF):EF:=fun σ h=>aw oAt a b σ h
@[simp] def ik (a:LF):EF:=fun σ h=>(a σ h).bind fun l h=>.ok (.int l.length) h
def dR:List D→Option (YF)
 | []=>some []
 | .int i :: r=>(dR r).map (i :: ·)
 | _=>none
@[simp] def wg (a:LF):EF:=fun σ h=>(a σ h).bind fun l h=>match dR l with|some is=>.ok (.int is.sum) h|none=>.bad
def jk:List D→Option (List Bool)
 | []=>some []
 | .bl b :: r=>(jk r).map (b :: ·)
 | _=>none
@[simp] def AD (a:LF):EF:=fun σ h=>(a σ h).bind fun l h=>match jk l with|some bs=>.ok (.bl (bs.all id)) h|none=>.bad
@[simp] def gq (a:LF):EF:=fun σ h=>(a σ h).bind fun l h=>.ok (.tup l) h
@[simp] def AE (a:EF):EF:=fun σ h=>(a σ h).bind fun x h=>match x with | .int i=>.ok (.int i) h | .bl b=>.ok (.int (b2i b)) h|_=>.bad
inductive Ty where|int|bool|tuple|list|str
deriving DecidableEq
@[simp] def zh (h:Hd) (t:Ty):D→Option Bool
 | .non=>some false
 | .bl _=>some (t == .bool || t == .int)
 | .int _=>some (t == .int)
 | .str _=>some (t == .str)
 | .tup _=>some (t == .tuple)
 | .lit _=>some (t == .list)
 | .ref n=>match h[n]? with|some (.lst _)=>some (t == .list)|some (.dct _)=>some false|none=>none
 | .exn _ _=>none
@[simp] def jm (t:Ty) (a:EF):EF:=fun σ h=>(a σ h).bind fun x h=>match zh h t x with|some b=>.ok (.bl b) h|none=>.bad
def sIx (n d:Nat):Option Int→Nat
 | none=>d
 | some i=>if i < 0 then (i + n).toNat else min i.toNat n
def cut (l:List D) (lo hi:Option Int):List D:=(l.drop (sIx l.length 0 lo)).take (sIx l.length l.length hi - sIx l.length 0 lo)
abbrev OF:=Sd→Hd→Res (Option Int)
@[simp] def pNo:OF:=fun _ h=>.ok none h
@[simp] def pAt (a:EF):OF:=fun σ h=>(a σ h).bind fun x h=>match x with | .int i=>.ok (some i) h|_=>.bad
@[simp] def aT (a:EF) (lo hi:OF):EF:=fun σ h=>(a σ h).bind fun x h=>(lo σ h).bind fun i h=>(hi σ h).bind fun j h=>match x with
 | .tup l=>if sIx l.length 0 i=0∧sIx l.length l.length j=l.length then .bad else .ok (.tup (cut l i j)) h
 | x=>match gp h x with|some l=>.ok (.ref h.length) (h++[.lst (cut l i j)])|none=>.bad
def bw:YF→YF→Bool
 | [],[]=>false
 | [],_ :: _=>true
 | _ :: _,[]=>false
 | x :: xs,y :: ys=>if x=y then bw xs ys else decide (x < y)
def pU:List D→Option (YA)
 | []=>some []
 | .tup l :: r=>match dR l,pU r with|some a,some b=>some (a :: b)|_,_=>none
 | _=>none
@[simp] def au (F:Fn) (r:LF):EF:=fun σ h=>(r σ h).bind fun xs h=>F xs h
abbrev IF:=Sd→Hd→Res (List D × YL)
@[simp] def dz (a:EF):IF:=fun σ h=>(a σ h).bind fun x h=>match x with
 | .int n=>if -1000000≤n∧n≤1000000 then .ok ((List.range n.toNat).map (fun k:Nat=>.int k),none) h else .bad
 | _=>.bad
@[simp] def d7 (a:EF):IF:=fun σ h=>(a σ h).bind fun x h=>match x with
 | .tup l=>.ok (l,none) h
 | .lit l=>.ok (l,none) h
 | .ref n=>match h[n]? with|some (.lst l)=>.ok (l,some n) h|_=>.bad
 | _=>.bad
@[simp] def AF (a:EF):IF:=fun σ h=>(a σ h).bind fun x h=>match x with
 | .tup l=>.ok ((List.range l.length).zip l |>.map fun p=>.tup [.int (p.1:Nat),p.2],none) h
 | _=>.bad
noncomputable section
open Classical
def im (g:YL) (all:List D) (h:Hd):Prop:=match g with|none=>True|some n=>h[n]? = some (.lst all)
abbrev GF:=D→Sd→Option Sd
@[simp] def gN (i:Nat):GF:=fun d σ=>some (σ.set i (some d))
@[simp] def gT (l:List Nat):GF:=fun d σ=>match d with
 | .tup xs=>if xs.length=l.length then some ((l.zip xs).foldl (fun σ p => σ.set p.1 (some p.2)) σ) else none
 | _=>none
@[simp] def ay (a b:SF):SF:=fun σ h=>match a σ h with | .nx σ h=>b σ h|r=>r
@[simp] def cm:SF:=fun σ h=>.nx σ h
@[simp] def outE (r:Res D) (σ:Sd) (k:D→Hd→Out):Out:=match r with | .ok d h=>k d h | .exc x h=>.exc x σ h | .bad=>.bad
@[simp] def aP (g:GF) (a:EF):SF:=fun σ h=>outE (a σ h) σ fun d h=>match g d σ with|some σ=>.nx σ h|none=>.bad
@[simp] def bC (a:EF):SF:=fun σ h=>outE (a σ h) σ fun d h=>.rt d h
@[simp] def gK (a:EF):SF:=fun σ h=>outE (a σ h) σ fun _ h=>.nx σ h
@[simp] def sIf (t:TF) (a b:SF):SF:=fun σ h=>match t σ h with | .ok c h=>if c then a σ h else b σ h | .exc x h=>.exc x σ h | .bad=>.bad
def ml:SF:=fun _ _=>.bad
@[simp] def sg (x i e:EF):SF:=fun σ h=>outE (e σ h) σ fun d h=>outE (x σ h) σ fun p h=>outE (i σ h) σ fun j h=>match p,j with
 | .ref n,.int j=>match h[n]? with
  | some (.lst l)=>match ixN l.length j with
   | some k=>.nx σ (h.set n (.lst (l.set k d)))
   | none=>.bad
  | _=>.bad
 | _,_=>.bad
@[simp] def Fq:O2:=fun p d h=>match p with
 | .ref n=>match h[n]? with
  | some (.lst l)=>if l.length < SZ then .ok .non (h.set n (.lst (l++[d]))) else .bad
  | _=>.bad
 | _=>.bad
@[simp] def nB (x e:EF):EF:=fun σ h=>(x σ h).bind fun p h=>match p with
 | .ref n=>match h[n]? with
  | some (.lst _)=>(e σ h).bind fun d h=>Fq (.ref n) d h
  | _=>.bad
 | _=>.bad
def iD (g:YL) (all:List D) (tg:GF) (b:SF):List D→SF
 | [],σ,h=>if im g all h then .nx σ h else .bad
 | x :: xs,σ,h=>if im g all h then match tg x σ with
   | some σ=>match b σ h with
    | .nx σ h=>iD g all tg b xs σ h
    | .ct σ h=>iD g all tg b xs σ h
    | .bk σ h=>.nx σ h
    | r=>r
   | none=>.bad
  else .bad
@[simp] def jn (it:IF) (tg:GF) (b:SF):SF:=fun σ h=>match it σ h with
 | .ok (l,g) h=>iD g l tg b l σ h
 | .exc x h=>.exc x σ h
 | .bad=>.bad
def wl (t:TF) (b:SF):Nat→SF
 | 0,_,_=>.bad
 | n + 1,σ,h=>match t σ h with
  | .ok true h=>match b σ h with
   | .nx σ h=>wl t b n σ h
   | .ct σ h=>wl t b n σ h
   | .bk σ h=>.nx σ h
   | r=>r
  | .ok false h=>.nx σ h
  | .exc x h=>.exc x σ h
  | .bad=>.bad
def cX (t:TF) (b:SF):Sd→Hd→Nat:=fun σ h=>if ex:∃ n,wl t b n σ h ≠ .bad then Classical.choose ex else 0
@[simp] def eF:List TF→TF
 | [],_,h=>.ok true h
 | t :: r,σ,h=>(t σ h).bind fun b h=>if b then eF r σ h else .ok false h
def bS (g:YL) (all:List D) (tg:GF) (cs:List TF) (e:EF):List D→Sd→Hd→Res (List D)
 | [],_,h=>if im g all h then .ok [] h else .bad
 | x :: xs,σ,h=>if im g all h then match tg x σ with
   | some σ=>(eF cs σ h).bind fun b h=>if b then (e σ h).bind fun d h=>(bS g all tg cs e xs σ h).bind fun ds h=>.ok (d :: ds) h
    else bS g all tg cs e xs σ h
   | none=>.bad
  else .bad
@[simp] def fK (nl:Nat) (caps:List Nat) (σ:Sd):Sd:=List.replicate nl none++caps.map fun i=>slot σ i
@[simp] def ce (nl:Nat) (caps:List Nat) (it:IF) (tg:GF) (cs:List TF) (e:EF):LF:=fun σ h=>(it σ h).bind fun p h =>
 bS p.2 p.1 tg cs e p.1 (fK nl caps σ) h
mutual
def pure? : D→Bool
 | .ref _=>false
 | .tup l=>io l
 | .lit l=>io l
 | .exn _ l=>io l
 | _=>true
def io:List D→Bool
 | []=>true
 | x :: xs=>pure? x && io xs
end
def jo:cP→Bool
 | .lst l=>io l
 | .dct l=>l.all fun p=>pure? p.2
def x3 (h h':Hd):Prop:=∀ n c,n < h.length→h'[n]? = some c→h[n]? = some c∨jo c=true
def letGo (h:Hd) (r:Res D):Res D:=match r with
 | .ok d h'=>if pure? d=true∧x3 h h' then .ok d (h'.take h.length) else .ok d h'
 | r=>r
def runB (n:Nat) (b:SF):Fn:=fun ds h=>match b (ds.map some++List.replicate (n - ds.length) none) h with
 | .nx _ h=>.ok .non h
 | .rt d h=>.ok d h
 | .exc x _ h=>.exc x h
 | _=>.bad
def bJ (np n:Nat) (b:SF):Fn:=fun ds h=>if ds.length=np then letGo h (runB n b ds h) else .bad
end
end Fm
namespace Fm
open PySem PySem.Spec L2
def toS (x:List Nat):Str:=⟨x.toArray⟩
def m7 (K:ZX) (H:Hp) (a:Addr) (xs:List V):Prop :=
 (∃ o,H a=some (.frz o (.lst xs))) ∨
  ∃ (o:Obj) (its:YK) (n:Nat),K.lookup a=some o∧o.cls=.type "list" ∧ o.dict=none∧o.data=.seq its n∧its.size≤sizeLine∧aV xs its.toList
section
variable (K:ZX) (ρ:YH) (H:Hp)
mutual
def RD:D→V→Prop
 | .non,v=>v=.non
 | .bl b,v=>v=.bl b
 | .int i,v=>v=.int i
 | .str x,v=>v=.str (toS x)
 | .tup l,v=>∃ p vs,v=.ref p∧H p=some (.tup vs)∧RDs l vs
 | .lit l,v=>∃ p vs,v=.ref p∧m7 K H p vs∧RDs l vs
 | .ref n,v=>∃ a,ρ[n]? = some a∧v=.ref a
 | .exn c l,v=>l=[] ∧ ∃ a C,v=.ref a∧H a=some (HA a C)∧PySem.W.nsIn K mainGlobals (Str.ofString c)=some (some (.ref C))
def RDs:List D→List V→Prop
 | [],vs=>vs=[]
 | d :: ds,vs=>∃ v r,vs=v :: r∧RD d v∧RDs ds r
end
def RC:cP→Addr→Prop
 | .lst l,a=>∃ vs,H a=some (.lst vs)∧RDs K ρ H l vs
 | .dct l,a=>∃ kvs,H a=some (.dK kvs)∧kvs.map (·.1)=l.map (fun p=>(Sum.inl p.1:Key))∧RDs K ρ H (l.map (·.2)) (kvs.map (·.2))
structure RH (hd:Hd):Prop where
 len : ρ.length=hd.length
 nd : ρ.Nodup
 cel:∀ (n:Nat) c a,hd[n]? = some c → ρ[n]? = some a→RC K ρ H c a
structure RSt (σd:Sd) (σ:St):Prop where
 len : σd.length = σ.length
 at':∀ i d,slot σd i=some d → ∃ v,σ[i]? = some (some v)∧RD K ρ H d v
structure RS (σd:Sd) (hd:Hd) (σ:St):Prop where
 hp:RH K ρ H hd
 st:RSt K ρ H σd σ
end
structure Ext (ρ:YH) (H:Hp) (ρ':YH) (H':Hp):Prop where
 pre:∃ t,ρ' = ρ ++ t
 new:∀ a ∈ ρ',a ∈ ρ ∨H a=none
 frame:∀ p o,H p=some o→p ∉ ρ → H' p=some o
section
variable {K:ZX} {ρ ρ' ρ'':YH} {H H' H'':Hp} {hd hd':Hd} {σd σd':Sd} {σ σ':St}
theorem Ext.refl:Ext ρ H ρ H:=⟨⟨[],by simp⟩,fun _ h=>.inl h,fun _ _ h _=>h⟩
theorem Ext.out (e:Ext ρ H ρ' H'){p:Addr}{o:HO}(h:H p=some o)(n:p ∉ ρ):p ∉ ρ':=fun z=>by
 rcases e.new p z with q|q
 ·exact n q
 ·rw [h] at q;cases q
theorem Ext.trans (a:Ext ρ H ρ' H')(b:Ext ρ' H' ρ'' H''):Ext ρ H ρ'' H'' where
 pre:=by
  obtain⟨t,rfl⟩:=a.pre
  obtain⟨u,rfl⟩:=b.pre
  exact⟨t++u,by simp⟩
 new:=fun x hx=>by
  rcases b.new x hx with q|q
  ·exact a.new x q
  ·cases e:H x with
   | none=>exact .inr rfl
   | some o =>
    by_cases hn:x ∈ ρ
    ·exact .inl hn
    ·rw [a.frame x o e hn] at q;cases q
 frame:=fun p o h n=>b.frame p o (a.frame p o h n) (a.out h n)
theorem Ext.same (s:jd H H'):Ext ρ H ρ H':=⟨⟨[],by simp⟩,fun _ h=>.inl h,fun p o h _=>s p o h⟩
theorem Ext.get (e:Ext ρ H ρ' H'){n:Nat}{a:Addr}(h : ρ[n]? = some a) : ρ'[n]? = some a:=by
 obtain⟨t,rfl⟩:=e.pre
 rw [ZC (YO h).1]
 exact h
theorem RH.mut (r:RH K ρ H hd){a:Addr}(h:a ∈ ρ):(∃ vs,H a=some (.lst vs)) ∨ ∃ kvs,H a=some (.dK kvs):=by
 obtain⟨n,hn⟩:=List.getElem?_of_mem h
 have hl:=(YO hn).1
 have hc:hd[n]? = some (hd[n]'(by rw [← r.len];exact hl)):=by simp
 have q:=r.cel n _ a hc hn
 cases e:hd[n]'(by rw [← r.len];exact hl) with
 | lst l=>rw [e] at q;obtain⟨vs,h1,_⟩:=q;exact .inl ⟨vs,h1⟩
 | dct l=>rw [e] at q;obtain⟨vs,h1,_⟩:=q;exact .inr ⟨vs,h1⟩
theorem RH.noTup (r:RH K ρ H hd){a:Addr}{vs:List V}(h:H a=some (.tup vs)):a ∉ ρ:=fun z=>by
 rcases r.mut z with ⟨_,q⟩|⟨_,q⟩<;>(rw [h] at q;cases q)
theorem RH.noFrz (r:RH K ρ H hd){a:Addr}{o:Obj}{u:HO}(h:H a=some (.frz o u)):a ∉ ρ:=fun z=>by
 rcases r.mut z with ⟨_,q⟩|⟨_,q⟩<;>(rw [h] at q;cases q)
theorem RH.noExt (r:RH K ρ H hd){a:Addr}{φ : Heap→Prop}(h:H a=some (.ext φ)):a ∉ ρ:=fun z=>by
 rcases r.mut z with ⟨_,q⟩|⟨_,q⟩<;>(rw [h] at q;cases q)
structure Kp (ρ:YH) (H:Hp) (ρ':YH) (H':Hp):Prop where
 get:∀ (n:Nat) a,ρ[n]? = some a → ρ'[n]? = some a
 tup:∀ a vs,H a=some (.tup vs)→H' a=some (.tup vs)
 frz:∀ a o u,H a=some (.frz o u)→H' a=some (.frz o u)
 ext:∀ a φ,H a=some (.ext φ)→H' a=some (.ext φ)
theorem RH.kp (r:RH K ρ H hd)(e:Ext ρ H ρ' H'):Kp ρ H ρ' H' :=
 ⟨fun _ _ h=>e.get h,fun _ _ h=>e.frame _ _ h (r.noTup h),fun _ _ _ h=>e.frame _ _ h (r.noFrz h),fun _ _ h=>e.frame _ _ h (r.noExt h)⟩
theorem Kp.same (s:jd H H'):Kp ρ H ρ H':=⟨fun _ _ h=>h,fun _ _ h=>s _ _ h,fun _ _ _ h=>s _ _ h,fun _ _ h=>s _ _ h⟩
theorem m7.mono {a:Addr}{xs:List V}(k:Kp ρ H ρ' H')(h:m7 K H a xs):m7 K H' a xs:=by
 rcases h with ⟨o,h⟩|h
 ·exact .inl ⟨o,k.frz _ _ _ h⟩
 ·exact .inr h
mutual
theorem RD.mono (k:Kp ρ H ρ' H'):∀ {d:D} {v:V},RD K ρ H d v→RD K ρ' H' d v
 | .non,_,h=>by simp only [RD] at h ⊢;exact h
 | .bl _,_,h=>by simp only [RD] at h ⊢;exact h
 | .int _,_,h=>by simp only [RD] at h ⊢;exact h
 | .str _,_,h=>by simp only [RD] at h ⊢;exact h
 | .tup l,_,h=>by
  simp only [RD] at h ⊢
  obtain⟨p,vs,e,h1,h2⟩:=h
  exact⟨p,vs,e,k.tup _ _ h1,RDs.mono k h2⟩
 | .lit l,_,h=>by
  simp only [RD] at h ⊢
  obtain⟨p,vs,e,h1,h2⟩:=h
  exact⟨p,vs,e,h1.mono k,RDs.mono k h2⟩
 | .ref n,_,h=>by
  simp only [RD] at h ⊢
  obtain⟨a,h1,h2⟩:=h
  exact⟨a,k.get _ _ h1,h2⟩
 | .exn _ _,_,h=>by
  simp only [RD] at h ⊢
  obtain⟨e0,a,C,e,h1,h2⟩:=h
  exact⟨e0,a,C,e,k.ext _ _ h1,h2⟩
theorem RDs.mono (k:Kp ρ H ρ' H'):∀ {l:List D} {vs:List V},RDs K ρ H l vs→RDs K ρ' H' l vs
 | [],_,h=>by simp only [RDs] at h ⊢;exact h
 | d :: ds,_,h=>by
  simp only [RDs] at h ⊢
  obtain⟨v,r,e,h1,h2⟩:=h
  exact⟨v,r,e,RD.mono k h1,RDs.mono k h2⟩
end
theorem RDs.nil:RDs K ρ H [] []:=by simp only [RDs]
theorem RDs.cons {d:D}{v:V}{ds:List D}{vs:List V}(h:RD K ρ H d v)(t:RDs K ρ H ds vs):RDs K ρ H (d :: ds) (v :: vs):=by
 simp only [RDs];exact⟨v,vs,rfl,h,t⟩
theorem RDs.length:∀ {l:List D} {vs:List V},RDs K ρ H l vs→l.length=vs.length
 | [],_,h=>by simp only [RDs] at h;subst h;rfl
 | d :: ds,_,h=>by
  simp only [RDs] at h
  obtain⟨v,r,e,h1,h2⟩:=h
  subst e
  simp [RDs.length h2]
theorem RDs.get:∀ {l:List D} {vs:List V} {i:Nat} {d:D},RDs K ρ H l vs→l[i]? = some d → ∃ v,vs[i]? = some v∧RD K ρ H d v
 | [],_,i,_,_,e=>by simp at e
 | d :: ds,_,0,_,h,e=>by
  simp only [RDs] at h
  obtain⟨v,r,e',h1,h2⟩:=h
  subst e'
  simp at e
  subst e
  exact⟨v,rfl,h1⟩
 | d :: ds,_,i + 1,x,h,e=>by
  simp only [RDs] at h
  obtain⟨v,r,e',h1,h2⟩:=h
  subst e'
  obtain⟨w,hw,q⟩:=RDs.get (i:=i) (d:=x) h2 (by simpa using e)
  exact⟨w,by simpa using hw,q⟩
theorem RDs.set {d:D}{v:V}(h:RD K ρ H d v):∀ {l:List D} {vs:List V} (i:Nat),RDs K ρ H l vs→RDs K ρ H (l.set i d) (vs.set i v)
 | [],_,_,q=>by simp only [RDs] at q;subst q;exact RDs.nil
 | x :: xs,_,i,q=>by
  simp only [RDs] at q
  obtain⟨w,r,e,h1,h2⟩:=q
  subst e
  cases i with
  | zero=>exact RDs.cons h h2
  | succ i=>exact RDs.cons h1 (RDs.set h i h2)
theorem RDs.append:∀ {l l':List D} {vs vs':List V},RDs K ρ H l vs→RDs K ρ H l' vs'→RDs K ρ H (l++l') (vs++vs')
 | [],_,_,_,h,q=>by simp only [RDs] at h;subst h;exact q
 | d :: ds,_,_,_,h,q=>by
  simp only [RDs] at h
  obtain⟨v,r,e,h1,h2⟩:=h
  subst e
  exact RDs.cons h1 (RDs.append h2 q)
theorem RDs.take:∀ {l:List D} {vs:List V} (n:Nat),RDs K ρ H l vs→RDs K ρ H (l.take n) (vs.take n)
 | _,_,0,_=>by simp;exact RDs.nil
 | [],_,n + 1,h=>by simp only [RDs] at h;subst h;exact RDs.nil
 | d :: ds,_,n + 1,h=>by
  simp only [RDs] at h
  obtain⟨v,r,e,h1,h2⟩:=h
  subst e
  exact RDs.cons h1 (RDs.take n h2)
theorem RDs.drop:∀ {l:List D} {vs:List V} (n:Nat),RDs K ρ H l vs→RDs K ρ H (l.drop n) (vs.drop n)
 | _,_,0,h=>by simpa using h
 | [],_,n + 1,h=>by simp only [RDs] at h;subst h;exact RDs.nil
 | d :: ds,_,n + 1,h=>by
  simp only [RDs] at h
  obtain⟨v,r,e,h1,h2⟩:=h
  subst e
  simpa using RDs.drop n h2
theorem RC.mono {c:cP}{a:Addr}(k:Kp ρ H ρ' H')(e:H' a=H a)(h:RC K ρ H c a):RC K ρ' H' c a:=by
 cases c with
 | lst l=>obtain⟨vs,h1,h2⟩:=h;exact⟨vs,e.trans h1,h2.mono k⟩
 | dct l=>obtain⟨vs,h1,h2,h3⟩:=h;exact⟨vs,e.trans h1,h2,h3.mono k⟩
theorem RH.same (r:RH K ρ H hd)(s:jd H H'):RH K ρ H' hd :=
 ⟨r.len,r.nd,fun n c a h1 h2=>(r.cel n c a h1 h2).mono (Kp.same s) (by
  rcases r.mut (ZK h2) with ⟨_,q⟩|⟨_,q⟩<;>rw [q,s _ _ q])⟩
theorem RSt.mono (k:Kp ρ H ρ' H')(r:RSt K ρ H σd σ):RSt K ρ' H' σd σ :=
 ⟨r.len,fun i d h=>let ⟨v,h1,h2⟩:=r.at' i d h;⟨v,h1,h2.mono k⟩⟩
theorem RS.same (r:RS K ρ H σd hd σ)(s:jd H H'):RS K ρ H' σd hd σ:=⟨r.hp.same s,r.st.mono (Kp.same s)⟩
theorem bT {p:Addr}{o:HO}(h:H p=none):jd H (upd H p o):=fun b u e=>by
 rw [aC (bg e h)];exact e
theorem RH.alloc (r:RH K ρ H hd){p:Addr}{l:List D}{vs:List V}(hp:H p=some (.lst vs))(hn:p ∉ ρ)(h:RDs K ρ H l vs):RH K (ρ ++ [p]) H (hd++[.lst l]):=by
 have k:Kp ρ H (ρ ++ [p]) H:=⟨fun n a e=>by rw [ZC (YO e).1];exact e,fun _ _ h=>h,fun _ _ _ h=>h,fun _ _ h=>h⟩
 refine⟨by simp [r.len],?_,fun n c a h1 h2 => ?_⟩
 ·rw [List.nodup_append]
  exact⟨r.nd,by simp,fun a ha b hb=>by simp at hb;subst hb;intro e;subst e;exact hn ha⟩
 ·by_cases hlt:n < hd.length
  ·rw [ZC hlt] at h1
   rw [ZC (by rw [r.len];exact hlt)] at h2
   exact (r.cel n c a h1 h2).mono k rfl
  ·have e1:n=hd.length:=by
    have:=(YO h1).1
    simp at this
    omega
   subst e1
   simp at h1
   subst h1
   rw [← r.len] at h2
   simp at h2
   subst h2
   exact⟨vs,hp,h.mono k⟩
theorem om {α : Type}:∀ {l:List α},l.Nodup → ∀ {i j:Nat} {x : α},l[i]? = some x→l[j]? = some x→i=j
 | [],_,i,_,_,e,_=>by simp at e
 | a :: l,nd,0,0,_,_,_=>rfl
 | a :: l,nd,0,j + 1,x,e,e'=>by
  simp at e e'
  subst e
  exact absurd (ZK e') (List.nodup_cons.mp nd).1
 | a :: l,nd,i + 1,0,x,e,e'=>by
  simp at e e'
  subst e'
  exact absurd (ZK e) (List.nodup_cons.mp nd).1
 | a :: l,nd,i + 1,j + 1,x,e,e'=>by
  simp at e e'
  rw [om (List.nodup_cons.mp nd).2 e e']
theorem RH.write (r:RH K ρ H hd){n:Nat}{p:Addr}{l:List D}{vs:List V}(hp : ρ[n]? = some p)(hn:n < hd.length)(h:RDs K ρ H l vs):RH K ρ (upd H p (.lst vs)) (hd.set n (.lst l)):=by
 have k:Kp ρ H ρ (upd H p (.lst vs)):=by
  have hm:=ZK hp
  refine⟨fun _ _ h=>h,fun a us e => ?_,fun a o u e => ?_,fun a φ e => ?_⟩
  ·rw [aC (fun z=>r.noTup e (by rw [z];exact hm))];exact e
  ·rw [aC (fun z=>r.noFrz e (by rw [z];exact hm))];exact e
  ·rw [aC (fun z=>r.noExt e (by rw [z];exact hm))];exact e
 refine⟨by simp [r.len],r.nd,fun m c a h1 h2 => ?_⟩
 by_cases e:n=m
 ·subst e
  rw [List.getElem?_set_self hn] at h1
  cases h1
  rw [hp] at h2
  cases h2
  exact⟨vs,aS,h.mono k⟩
 ·rw [ZP e] at h1
  have ne:a≠p:=fun z=>by
   subst z
   exact e (om r.nd hp h2)
  exact (r.cel m c a h1 h2).mono k (aC ne)
theorem Ext.write {p:Addr}{o:HO}(hp:p ∈ ρ):Ext ρ H ρ (upd H p o) :=
 ⟨⟨[],by simp⟩,fun _ h=>.inl h,fun q u e n=>by rw [aC (fun z=>n (by rw [z];exact hp))];exact e⟩
theorem Ext.alloc {p:Addr}(h:H p=none){o:HO}:Ext ρ H (ρ ++ [p]) (upd H p o) :=
 ⟨⟨[p],rfl⟩,fun a ha=>by
  rcases YS ha with q|q
  ·exact .inl q
  ·simp at q;subst q;exact .inr h,fun q u e _=>bT h q u e⟩
theorem RS.ext (r:RS K ρ H σd hd σ)(e:Ext ρ H ρ' H')(h:RH K ρ' H' hd'):RS K ρ' H' σd hd' σ:=⟨h,r.st.mono (r.hp.kp e)⟩
end
end Fm
namespace Fm
open PySem PySem.Spec L2
abbrev VR (α β : Type):=YH→Hp → α → β → Prop
section
variable (K:ZX)
def bD {α β : Type} (R:VR α β) (ρ:YH) (H:Hp) (σd:Sd) (σ:St) (r:Res α) (Q : β → Hp→Prop):Prop:=match r with
 | .ok a hd'=>∀ b H' ρ',Ext ρ H ρ' H'→RS K ρ' H' σd hd' σ → R ρ' H' a b→Q b H'
 | _=>False
def kc {α β : Type} (R:VR α β) (f:Sd→Hd→Res α):St→Hp→(β → Hp→Prop)→Prop:=fun σ H Q =>
 ∃ ρ σd hd,RS K ρ H σd hd σ ∧ bD K R ρ H σd σ (f σd hd) Q
abbrev rD:VR D V:=fun ρ H d v=>RD K ρ H d v
abbrev rDs:VR (List D) (List V):=fun ρ H d v=>RDs K ρ H d v
abbrev rB:VR Bool Bool:=fun _ _ a b=>a=b
abbrev rO:VR (Option Int) (Option Int):=fun _ _ a b=>a=b
def rQ:VR (List D) V:=fun ρ H l v=>∃ p vs,v=.ref p∧(SqL K H p vs∨H p=some (.tup vs))∧RDs K ρ H l vs
def uq (ρ:YH) (H:Hp) (σd:Sd) (σ:St) (r:Res (List D)) (Q:VK):Prop:=match r with
 | .ok l hd'=>∀ q vs H' ρ',Ext ρ H ρ' H'→RS K ρ' H' σd hd' σ → H q=none→H' q=some (.lst vs)→q ∉ ρ'→RDs K ρ' H' l vs→Q (.ref q) H'
 | _=>False
def HC (f:LF):TE:=fun σ H Q=>∃ ρ σd hd,RS K ρ H σd hd σ ∧ uq K ρ H σd σ (f σd hd) Q
def cw (ρ:YH) (H:Hp) (o:Out) (E:uh):Prop:=match o with
 | .nx σd hd=>∀ σ H' ρ',Ext ρ H ρ' H'→RS K ρ' H' σd hd σ → E.nx σ H'
 | .bk σd hd=>∀ σ H' ρ',Ext ρ H ρ' H'→RS K ρ' H' σd hd σ → E.bk σ H'
 | .ct σd hd=>∀ σ H' ρ',Ext ρ H ρ' H'→RS K ρ' H' σd hd σ → E.ct σ H'
 | .rt d hd=>∀ v H' ρ',Ext ρ H ρ' H'→RH K ρ' H' hd→RD K ρ' H' d v→E.rt v H'
 | _=>False
def Er (f:SF):TS:=fun E σ H=>∃ ρ σd hd,RS K ρ H σd hd σ ∧ cw K ρ H (f σd hd) E
end
def ME (X:Cx) (e:Expr) (f:EF):Prop:=PE X e (kc X.K (rD X.K) f)
def MQ (X:Cx) (e:Expr) (f:LF):Prop:=PE X e (kc X.K (rQ X.K) f)
def MF (X:Cx) (e:Expr) (f:LF):Prop:=PE X e (HC X.K f)
def MT (X:Cx) (e:Expr) (f:TF):Prop:=PT X e (kc X.K rB f)
def MW (X:Cx) (e:Expr) (f:TF):Prop:=PW X e (kc X.K rB f)
def MA (X:Cx) (es:YJ) (f:LF):Prop:=PA X es (kc X.K (rDs X.K) f)
def MS (X:Cx) (s:Stmt) (f:SF):Prop:=PS X s (Er X.K f)
def MSs (X:Cx) (s:List Stmt) (f:SF):Prop:=PSs X s (Er X.K f)
section
variable {X:Cx}
theorem PE.imp {e:Expr}{t u:TE}(h:PE X e t)(i:∀ σ H Q,u σ H Q→t σ H Q):PE X e u:=fun pins s σ H Q I q=>h pins s σ H Q I (i σ H Q q)
theorem PT.imp {e:Expr}{t u:TT}(h:PT X e t)(i:∀ σ H Q,u σ H Q→t σ H Q):PT X e u:=fun pins s σ H Q I q=>h pins s σ H Q I (i σ H Q q)
theorem PW.imp {e:Expr}{t u:TT}(h:PW X e t)(i:∀ σ H Q,u σ H Q→t σ H Q):PW X e u:=fun w pins s σ H Q I q=>h w pins s σ H Q I (i σ H Q q)
theorem PA.imp {e:YJ}{t u:TA}(h:PA X e t)(i:∀ σ H Q,u σ H Q→t σ H Q):PA X e u:=fun p pins s σ H Q I q=>h p pins s σ H Q I (i σ H Q q)
theorem PS.imp {e:Stmt}{t u:TS}(h:PS X e t)(i:∀ D σ H,u D σ H→t D σ H):PS X e u:=fun pins s σ H D I q=>h pins s σ H D I (i D σ H q)
theorem PSs.imp {e:List Stmt}{t u:TS}(h:PSs X e t)(i:∀ D σ H,u D σ H→t D σ H):PSs X e u:=fun pins s σ H D I q=>h pins s σ H D I (i D σ H q)
end
section
variable {K:ZX} {ρ ρ':YH} {H H':Hp} {hd hd':Hd} {σd:Sd} {σ:St} {α β α' β':Type} {R:VR α β} {R':VR α' β'}
theorem bD.here {a : α}{b : β}{Q : β → Hp→Prop}(h:bD K R ρ H σd σ (.ok a hd) Q)(r:RS K ρ H σd hd σ)(q:R ρ H a b):Q b H:=h b H ρ Ext.refl r q
theorem bD.at {a : α}{b : β}{Q : β → Hp→Prop}(h:bD K R ρ H σd σ (.ok a hd) Q)(e:Ext ρ H ρ' H')(r:RS K ρ' H' σd hd σ)(q:R ρ' H' a b):Q b H':=h b H' ρ' e r q
theorem bD.imp {r:Res α}{Q Q' : β → Hp→Prop}(h:bD K R ρ H σd σ r Q)(i:∀ b H',Q b H'→Q' b H'):bD K R ρ H σd σ r Q':=by
 cases r with
 | ok a h'=>exact fun b H' ρ' e s q=>i b H' (h b H' ρ' e s q)
 | exc x h'=>exact h
 | bad=>exact h
theorem bD.ext {r:Res α}{Q : β → Hp→Prop}(e:Ext ρ H ρ' H')(h:bD K R ρ H σd σ r Q):bD K R ρ' H' σd σ r Q:=by
 cases r with
 | ok a h'=>exact fun b H'' ρ'' e' s q=>h b H'' ρ'' (e.trans e') s q
 | exc x h'=>exact h
 | bad=>exact h
theorem bD.bind {r:Res α}{k : α → Hd→Res α'}{Q : β'→Hp→Prop}(h:bD K R' ρ H σd σ (r.bind k) Q) :
  bD K R ρ H σd σ r (fun b H'=>∃ ρ' a hd',Ext ρ H ρ' H'∧RS K ρ' H' σd hd' σ ∧ R ρ' H' a b∧bD K R' ρ' H' σd σ (k a hd') Q):=by
 cases r with
 | ok a h'=>exact fun b H' ρ' e s q=>⟨ρ',a,h',e,s,q,bD.ext e h⟩
 | exc x h'=>exact h
 | bad=>exact h
theorem cw.ext {o:Out}{E:uh}(e:Ext ρ H ρ' H')(h:cw K ρ H o E):cw K ρ' H' o E:=by
 cases o with
 | nx σ h'=>exact fun σ' H'' ρ'' e' s=>h σ' H'' ρ'' (e.trans e') s
 | bk σ h'=>exact fun σ' H'' ρ'' e' s=>h σ' H'' ρ'' (e.trans e') s
 | ct σ h'=>exact fun σ' H'' ρ'' e' s=>h σ' H'' ρ'' (e.trans e') s
 | rt d h'=>exact fun v H'' ρ'' e' s q=>h v H'' ρ'' (e.trans e') s q
 | exc x σ h'=>exact h
 | bad=>exact h
end
section
variable {X:Cx} {pos:Pos}
theorem Fr {i:Nat} {x:Str} (hN:X.N[i]? = some x) (hv:Vis X.env.scope x) (hd:(x == ("__debug__" : Str))=false:=by decide) (hcd:(x == ("__classdict__" : Str))=false:=by decide):ME X (.Name x pos) (ae i):=by
 refine PE.imp (EL hN hv hd hcd) fun σ H Q ⟨ρ,σd,hd,r,h⟩ => ?_
 unfold ae at h
 cases e:slot σd i with
 | none=>rw [e] at h;exact h.elim
 | some d =>
  rw [e] at h
  obtain⟨v,h1,h2⟩:=r.st.at' i d e
  exact⟨v,h1,h.here r h2⟩
theorem sh {K:ZX}{d:D}{v:V}(hv:∀ ρ H,RD K ρ H d v):∀ σ H Q,kc K (rD K) (fC d) σ H Q→tC v σ H Q:=fun _ H _ ⟨ρ,_,_,r,h⟩=>h.here r (hv ρ H)
theorem ah {i:Int}{j}:ME X (.Constant (.int i) j pos) (fC (.int i)):=PE.imp Aj (sh fun _ _=>by simp only [RD])
theorem kZ {b j}:ME X (.Constant (.bool b) j pos) (fC (.bl b)):=PE.imp G9 (sh fun _ _=>by simp only [RD])
theorem d8 {j}:ME X (.Constant .none j pos) (fC .non):=PE.imp EM (sh fun _ _=>by simp only [RD])
theorem ur {x:Str} {i:Int} {t:Tok} (hg:Gl X x) (hm:X.mg x=some (.int i t)) (hd:(x == ("__debug__" : Str))=false:=by decide):ME X (.Name x pos) (fC (.int i)) :=
 PE.imp (CT (v:=.int i) hg hm ⟨t,rfl⟩ hd) (sh fun _ _=>by simp only [RD])
theorem me2 {a b:Expr}{fa fb:EF}{r:R2}{g:O2}{e:Expr}(h:PE X e (tOp r (kc X.K (rD X.K) fa) (kc X.K (rD X.K) fb)))
  (hg:∀ ρ H σd hd σ d k v w Q,RS X.K ρ H σd hd σ → RD X.K ρ H d v→RD X.K ρ H k w→bD X.K (rD X.K) ρ H σd σ (g d k hd) Q→r v w H Q):ME X e (aw g fa fb):=by
 refine PE.imp h fun σ H Q ⟨ρ,σd,hd,rs,p⟩ => ?_
 refine⟨ρ,σd,hd,rs,(bD.bind (R:=rD X.K) p).imp fun v H1 ⟨ρ1,d,hd1,e1,rs1,rv,p1⟩ => ?_⟩
 refine⟨ρ1,σd,hd1,rs1,(bD.bind (R:=rD X.K) p1).imp fun w H2 ⟨ρ2,k,hd2,e2,rs2,rw',p2⟩ => ?_⟩
 exact hg ρ2 H2 σd hd2 σ d k v w Q rs2 (rv.mono (rs1.hp.kp e2)) rw' p2
def Og (K:ZX) (g:O2) (r:R2):Prop:=∀ ρ H σd hd σ d k v w Q,RS K ρ H σd hd σ → RD K ρ H d v→RD K ρ H k w→bD K (rD K) ρ H σd σ (g d k hd) Q→r v w H Q
theorem aW {a b:Expr}{fa fb:EF}{op:Operator}{r:R2}{g:O2}(ho:OpR X (binaryOp op) r)(hg:Og X.K g r)(ha:ME X a fa)(hb:ME X b fb):ME X (.BinOp a op b pos) (aw g fa fb) :=
 me2 (a:=a) (b:=b) (Ar ho ha hb) hg
theorem mn {a b:Expr}{fa fb:EF}{op:CmpOp}{r:R2}{g:O2}(ho:OpR X (compareOp op) r)(hg:Og X.K g r)(ha:ME X a fa)(hb:ME X b fb)(hm:behindInMarks op b=false):ME X (.Compare a [op] [b] pos) (aw g fa fb) :=
 me2 (a:=a) (b:=b) (C6 ho ha hb hm) hg
theorem pV {K:ZX}{g:Int→Int→Int}:Og K (oI g) (rI0 fun i j=>.int (g i j)):=by
 intro ρ H σd hd σ d k v w Q rs rv rw' p
 cases d<;>cases k<;>first|exact p.elim|skip
 simp only [RD] at rv rw'
 exact⟨_,_,rv,rw',p.here rs (by simp only [rD,RD])⟩
theorem ut {K:ZX}{g:Int→Int→Bool}:Og K (oB g) (rI0 fun i j=>.bl (g i j)):=by
 intro ρ H σd hd σ d k v w Q rs rv rw' p
 cases d<;>cases k<;>first|exact p.elim|skip
 simp only [RD] at rv rw'
 exact⟨_,_,rv,rw',p.here rs (by simp only [rD,RD])⟩
theorem x4 {K:ZX}{c:Int→Int→Bool}{C:Int→Int→Prop}{g:Int→Int→Int}(hc:∀ i j,c i j=true→C i j):Og K (oIc c g) (rI C fun i j=>.int (g i j)):=by
 intro ρ H σd hd σ d k v w Q rs rv rw' p
 cases d<;>cases k<;>first|exact p.elim|skip
 rename_i i j
 simp only [RD] at rv rw'
 cases e:c i j with
 | false=>simp only [oIc,e] at p;exact p.elim
 | true =>
  simp only [oIc,e,if_true] at p
  exact⟨i,j,rv,rw',hc i j e,p.here rs (by simp only [rD,RD])⟩
theorem sj {i:Int}(h:sml i=true) : -(2 ^ 64) < i∧i < 2 ^ 64:=by
 simp only [sml,Bool.and_eq_true,decide_eq_true_eq] at h;exact h
theorem g8 {K:ZX}:Og K je (rI C5 fun i j=>.int (i * j)):=x4 fun i j h=>by
 rcases (Bool.or_eq_true _ _).mp h with q|q
 ·exact .inl (sj q)
 ·exact .inr (sj q)
theorem eX {K:ZX}:Og K ij (rI (fun _ j=>0 < j) fun i j=>.int (i % j)):=x4 fun i j h=>of_decide_eq_true h
def HD (_ j:Int):Prop:=0 < j∧j < 2 ^ 250
theorem uv:OpR X (binaryOp .FloorDiv) (rI HD fun i j=>.int (i / j)):=opI fun i j _ _ _ _ _ hc q=>by
 have h0:j≠0:=by have:=hc.1;omega
 refine PyProof.Rows.floordiv_int h0 (by rw [Int.fdiv_eq_ediv_of_nonneg _ (Int.le_of_lt hc.1)];exact q) (.inl (PyProof.noPylong_of_log2 ?_))
 have h2:j.natAbs < 2 ^ 250:=by have:=hc.2;have:=hc.1;omega
 have h3:j.natAbs≠0:=by omega
 have:=(Nat.log2_lt h3).mpr h2
 omega
theorem AG {K:ZX}:Og K AC (rI HD fun i j=>.int (i / j)):=x4 fun i j h=>by
 simp only [Bool.and_eq_true,decide_eq_true_eq] at h;exact h
theorem Ft {K:ZX}:Og K HB (rI Hn fun i j=>.int (i ^ j.toNat)):=x4 fun i j h=>by
 simp only [Bool.and_eq_true,decide_eq_true_eq] at h
 have:=sj h.2
 exact⟨h.1.1,h.1.2,by omega⟩
theorem sn {K:ZX}{ρ:YH}{H:Hp}{d:D}{v:V}(h:RD K ρ H d v):og d=decide (v=.non):=by
 cases d<;>simp only [RD] at h
 ·subst h;rfl
 ·subst h;rfl
 ·subst h;rfl
 ·subst h;rfl
 ·obtain⟨p,vs,rfl,_⟩:=h;rfl
 ·obtain⟨p,vs,rfl⟩:=h;rfl
 ·obtain⟨p,vs,rfl,_⟩:=h;rfl
 ·obtain⟨_,p,vs,rfl,_⟩:=h;rfl
theorem oo {K:ZX}:Og K oh (fun x y H Q=>y=.non∧Q (.bl (decide (x=.non))) H):=by
 intro ρ H σd hd σ d k v w Q rs rv rw' p
 unfold oh at p
 cases e:og k with
 | false=>rw [e] at p;exact p.elim
 | true =>
  rw [e,if_pos rfl] at p
  refine⟨of_decide_eq_true ((sn rw').symm.trans e),?_⟩
  rw [← sn rv]
  exact p.here rs (by simp only [rD,RD])
theorem mr {K:ZX}:Og K kY (fun x y H Q=>y=.non∧Q (.bl (!decide (x=.non))) H):=by
 intro ρ H σd hd σ d k v w Q rs rv rw' p
 unfold kY at p
 cases e:og k with
 | false=>rw [e] at p;exact p.elim
 | true =>
  rw [e,if_pos rfl] at p
  refine⟨of_decide_eq_true ((sn rw').symm.trans e),?_⟩
  rw [← sn rv]
  exact p.here rs (by simp only [rD,RD])
theorem mw {K:ZX}{ρ:YH}{H:Hp}{σd:Sd}{σ:St}{r:Res D}{Q:Bool→Hp→Prop}(h:bD K rB ρ H σd σ (asB r) Q):bD K (rD K) ρ H σd σ r (fun x H'=>∃ c,x=.bl c∧Q c H'):=by
 refine (bD.bind (R:=rD K) h).imp fun v H1 ⟨ρ1,d,hd1,e1,rs1,rv,p1⟩ => ?_
 cases d<;>first|exact p1.elim|skip
 simp only [rD,RD] at rv
 exact⟨_,rv,p1.here rs1 rfl⟩
theorem dA {e:Expr}{f:EF}(h:ME X e f)(he:∀ whole,isTrue e X.env whole=(do let v ← whole;standAt e.pos;holding [v] (truthy v)):=by intro _;rfl):MT X e (tE f) :=
 PT.imp (EN h he) fun σ H Q ⟨ρ,σd,hd,rs,p⟩=>⟨ρ,σd,hd,rs,mw p⟩
theorem bf {a b:Expr}{fa fb:EF}{op:CmpOp}{r:R2}{g:O2}(ho:OpR X (compareOp op) r)(hg:Og X.K g r)(ha:ME X a fa)(hb:ME X b fb)(hm:behindInMarks op b=false):MT X (.Compare a [op] [b] pos) (tE (aw g fa fb)):=by
 refine PT.imp (C7 ho ha hb hm) fun σ H Q ⟨ρ,σd,hd,rs,p⟩ => ?_
 have p:=mw p
 refine⟨ρ,σd,hd,rs,(bD.bind (R:=rD X.K) p).imp fun v H1 ⟨ρ1,d,hd1,e1,rs1,rv,p1⟩ => ?_⟩
 refine⟨ρ1,σd,hd1,rs1,(bD.bind (R:=rD X.K) p1).imp fun w H2 ⟨ρ2,k,hd2,e2,rs2,rw',p2⟩ => ?_⟩
 exact hg ρ2 H2 σd hd2 σ d k v w _ rs2 (rv.mono (rs1.hp.kp e2)) rw' p2
theorem d9 {a:Expr}{t:TF}(h:MT X a t):MT X (.UnaryOp .Not a pos) (fV t):=by
 refine PT.imp (ER h) fun σ H Q ⟨ρ,σd,hd,rs,p⟩=>⟨ρ,σd,hd,rs,(bD.bind (R:=rB) p).imp fun c H1 ⟨ρ1,d,hd1,e1,rs1,rv,p1⟩ => ?_⟩
 cases rv
 exact p1.here rs1 rfl
theorem jp {op a}{t:TF}(h:MT X a t)(ho:op=BoolOp.And∨op=BoolOp.Or):MW X (.BoolOp op [a] pos) t:=by
 rcases ho with rfl|rfl
 ·exact CV h
 ·exact EO h
theorem AH {a b:Expr}{rest:YJ}{t u:TF}(ha:MT X a t)(hb:MW X (.BoolOp .And (b :: rest) pos) u):MW X (.BoolOp .And (a :: b :: rest) pos) (mf t u):=by
 refine PW.imp (EQ ha hb) fun σ H Q ⟨ρ,σd,hd,rs,p⟩=>⟨ρ,σd,hd,rs,(bD.bind (R:=rB) p).imp fun c H1 ⟨ρ1,d,hd1,e1,rs1,rv,p1⟩ => ?_⟩
 cases rv
 cases c with
 | true=>simp only [if_true] at p1 ⊢;exact⟨ρ1,σd,hd1,rs1,p1⟩
 | false=>simp only [Bool.false_eq_true,if_false] at p1 ⊢;exact p1.here rs1 rfl
theorem qG {a b:Expr}{rest:YJ}{t u:TF}(ha:MT X a t)(hb:MW X (.BoolOp .Or (b :: rest) pos) u):MW X (.BoolOp .Or (a :: b :: rest) pos) (tOr t u):=by
 refine PW.imp (Ha ha hb) fun σ H Q ⟨ρ,σd,hd,rs,p⟩=>⟨ρ,σd,hd,rs,(bD.bind (R:=rB) p).imp fun c H1 ⟨ρ1,d,hd1,e1,rs1,rv,p1⟩ => ?_⟩
 cases rv
 cases c with
 | true=>simp only [if_true] at p1 ⊢;exact p1.here rs1 rfl
 | false=>simp only [Bool.false_eq_true,if_false] at p1 ⊢;exact⟨ρ1,σd,hd1,rs1,p1⟩
theorem MW.mt {e:Expr}{t:TF}(h:MW X e t):MT X e t:=h.pt
theorem Di {K:ZX}{t:TF}{σ:St}{H:Hp}{Q:VK}(h:kc K (rD K) (fT t) σ H Q):kc K rB t σ H (fun b H'=>Q (.bl b) H'):=by
 obtain⟨ρ,σd,hd,rs,p⟩:=h
 refine⟨ρ,σd,hd,rs,(bD.bind (R:=rB) p).imp fun c H1 ⟨ρ1,d,hd1,e1,rs1,rv,p1⟩ => ?_⟩
 cases rv
 exact p1.here rs1 (by simp only [rD,RD])
def MB (X:Cx) (e:Expr) (t:TF):Prop:=PE X e (fun σ H Q=>kc X.K rB t σ H fun b H'=>Q (.bl b) H')
theorem MB.me {e:Expr}{t:TF}(h:MB X e t):ME X e (fT t):=PE.imp h fun _ _ _ q=>Di q
theorem ki {e:Expr}{f:EF}(h:ME X e f):MB X e (tE f):=by
 refine PE.imp h fun σ H Q ⟨ρ,σd,hd,rs,p⟩=>⟨ρ,σd,hd,rs,(mw p).imp ?_⟩
 rintro v H1 ⟨c,rfl,q⟩
 exact q
theorem ot {op a}{t:TF}(h:MB X a t):MB X (.BoolOp op [a] pos) t:=ES h
theorem wm {a b:Expr}{rest:YJ}{t u:TF}(ha:MB X a t)(hb:MB X (.BoolOp .And (b :: rest) pos) u):MB X (.BoolOp .And (a :: b :: rest) pos) (mf t u):=by
 refine PE.imp (ET ha hb) fun σ H Q ⟨ρ,σd,hd,rs,p⟩=>⟨ρ,σd,hd,rs,(bD.bind (R:=rB) p).imp fun c H1 ⟨ρ1,d,hd1,e1,rs1,rv,p1⟩=>⟨c,rfl,?_⟩⟩
 cases rv
 cases c with
 | true=>simp only [if_true] at p1 ⊢;exact⟨ρ1,σd,hd1,rs1,p1⟩
 | false=>simp only [Bool.false_eq_true,if_false] at p1 ⊢;exact p1.here rs1 rfl
theorem Es {a b:Expr}{rest:YJ}{t u:TF}(ha:MB X a t)(hb:MB X (.BoolOp .Or (b :: rest) pos) u):MB X (.BoolOp .Or (a :: b :: rest) pos) (tOr t u):=by
 refine PE.imp (He ha hb) fun σ H Q ⟨ρ,σd,hd,rs,p⟩=>⟨ρ,σd,hd,rs,(bD.bind (R:=rB) p).imp fun c H1 ⟨ρ1,d,hd1,e1,rs1,rv,p1⟩=>⟨c,rfl,?_⟩⟩
 cases rv
 cases c with
 | true=>simp only [if_true] at p1 ⊢;exact p1.here rs1 rfl
 | false=>simp only [Bool.false_eq_true,if_false] at p1 ⊢;exact⟨ρ1,σd,hd1,rs1,p1⟩
theorem Fu {a:Expr}{t:TF}(h:MB X a t):MB X (.UnaryOp .Not a pos) (fV t):=by
 refine PE.imp (EU h) fun σ H Q ⟨ρ,σd,hd,rs,p⟩=>⟨ρ,σd,hd,rs,(bD.bind (R:=rB) p).imp fun c H1 ⟨ρ1,d,hd1,e1,rs1,rv,p1⟩=>⟨c,rfl,?_⟩⟩
 cases rv
 exact p1.here rs1 rfl
theorem Et {c a b:Expr}{t:TF}{fa fb:EF}(hc:MT X c t)(ha:ME X a fa)(hb:ME X b fb):ME X (.IfExp c a b pos) (fIf t fa fb):=by
 refine PE.imp (Ak hc ha hb) fun σ H Q ⟨ρ,σd,hd,rs,p⟩=>⟨ρ,σd,hd,rs,(bD.bind (R:=rB) p).imp fun c H1 ⟨ρ1,d,hd1,e1,rs1,rv,p1⟩ => ?_⟩
 cases rv
 cases c with
 | true=>simp only [if_true] at p1 ⊢;exact⟨ρ1,σd,hd1,rs1,p1⟩
 | false=>simp only [Bool.false_eq_true,if_false] at p1 ⊢;exact⟨ρ1,σd,hd1,rs1,p1⟩
end
end Fm
namespace Fm
open PySem PySem.Spec L2
section
variable {X:Cx} {pos:Pos}
theorem wn {K:ZX}{ρ:YH}{H:Hp}{σd:Sd}{hd:Hd}{σ:St}{r r':R2}{g k:O2}{fa fb fc:EF}{Q:VK}(hg:Og K g r)(hk:Og K k r')(rs:RS K ρ H σd hd σ)
  (p:bD K (rD K) ρ H σd σ (oj g k fa fb fc σd hd) Q):Au r r' (kc K (rD K) fa) (kc K (rD K) fb) (kc K (rD K) fc) σ H Q:=by
 refine⟨ρ,σd,hd,rs,(bD.bind (R:=rD K) p).imp fun v H1 ⟨ρ1,d,hd1,e1,rs1,rv,p1⟩ => ?_⟩
 refine⟨ρ1,σd,hd1,rs1,(bD.bind (R:=rD K) p1).imp fun w H2 ⟨ρ2,d2,hd2,e2,rs2,rw2,p2⟩ => ?_⟩
 refine hg ρ2 H2 σd hd2 σ d d2 v w _ rs2 (rv.mono (rs1.hp.kp e2)) rw2 ((bD.bind (R:=rD K) p2).imp fun z H3 ⟨ρ3,d3,hd3,e3,rs3,rz,p3⟩ => ?_)
 cases d3<;>first|exact p3.elim|skip
 rename_i b
 simp only [rD,RD] at rz
 refine⟨b,rz,?_⟩
 cases b with
 | false =>
  rw [if_neg Bool.false_ne_true]
  exact p3.here rs3 (by simp only [rD,RD])
 | true =>
  rw [if_pos rfl]
  refine⟨ρ3,σd,hd3,rs3,(bD.bind (R:=rD K) p3).imp fun u H4 ⟨ρ4,d4,hd4,e4,rs4,ru,p4⟩ => ?_⟩
  exact hk ρ4 H4 σd hd4 σ d2 d4 w u Q rs4 ((rw2.mono (rs2.hp.kp e3)).mono (rs3.hp.kp e4)) ru p4
theorem AI {a b c:Expr}{fa fb fc:EF}{op op':CmpOp}{r r':R2}{g k:O2}(ho:OpR X (compareOp op) r)(ho':OpR X (compareOp op') r')(hg:Og X.K g r)(hk:Og X.K k r')(ha:ME X a fa)(hb:ME X b fb)(hc:ME X c fc)
  (hm:lastMarks [op,op'] [b,c] = false:=by with_unfolding_all rfl):ME X (.Compare a [op,op'] [b,c] pos) (oj g k fa fb fc) :=
 PE.imp (Av ho ho' ha hb hc hm) fun _ _ _ ⟨_,_,_,rs,p⟩=>wn hg hk rs p
theorem am:MA X [] ar:=PA.imp dy fun _ _ _ ⟨_,_,_,rs,p⟩=>p.here rs RDs.nil
theorem aa {e:Expr}{es:YJ}{f:EF}{r:LF}(he:ME X e f)(hr:MA X es r)(hs:starEach (e :: es) X.env=(false,eval e X.env) :: starEach es X.env:=by rfl):MA X (e :: es) (af f r):=by
 refine PA.imp (bW he hr hs) fun σ H Q ⟨ρ,σd,hd,rs,p⟩ => ?_
 refine⟨ρ,σd,hd,rs,(bD.bind (R:=rD X.K) p).imp fun v H1 ⟨ρ1,d,hd1,e1,rs1,rv,p1⟩ => ?_⟩
 refine⟨ρ1,σd,hd1,rs1,(bD.bind (R:=rDs X.K) p1).imp fun vs H2 ⟨ρ2,ds,hd2,e2,rs2,rvs,p2⟩ => ?_⟩
 exact p2.here rs2 (RDs.cons (rv.mono (rs1.hp.kp e2)) rvs)
theorem k7 {n:Nat}(h:n≤SZ):n≤sizeLine:=ZM h (by show 1000000≤2 ^ 24;decide)
theorem cC {es:YJ}{k}{r:LF}(h:MA X es r):ME X (.Tuple es k pos) (cW r):=by
 refine PE.imp (E9 h) fun σ H Q ⟨ρ,σd,hd,rs,p⟩ => ?_
 refine⟨ρ,σd,hd,rs,(bD.bind (R:=rDs X.K) p).imp fun vs H1 ⟨ρ1,ds,hd1,e1,rs1,rvs,p1⟩ => ?_⟩
 by_cases hz:ds.length≤SZ
 ·rw [if_pos hz] at p1
  refine⟨by rw [← rvs.length];exact k7 hz,fun q hq => ?_⟩
  have sm:=bT (o:=HO.tup vs) hq
  exact p1.at (Ext.same sm) (rs1.same sm) (by simp only [rD,RD];exact⟨q,vs,rfl,aS,rvs.mono (Kp.same sm)⟩)
 ·rw [if_neg hz] at p1;exact p1.elim
theorem Ext.fresh {ρ ρ':YH}{H H':Hp}{q:Addr}(e:Ext ρ H ρ' H')(h:H' q=none)(n:q ∉ ρ'):H q=none:=by
 cases z:H q with
 | none=>rfl
 | some o =>
  by_cases hq:q ∈ ρ
  ·obtain⟨t,rfl⟩:=e.pre
   exact absurd (List.mem_append_left t hq) n
  ·rw [e.frame q o z hq] at h;cases h
theorem RH.free {K:ZX}{ρ:YH}{H:Hp}{hd:Hd}(r:RH K ρ H hd){q:Addr}(h:H q=none):q ∉ ρ:=fun z=>by
 rcases r.mut z with ⟨_,e⟩|⟨_,e⟩<;>(rw [h] at e;cases e)
theorem uq.mk {K:ZX}{ρ ρ1:YH}{H H1:Hp}{hd1:Hd}{σd:Sd}{σ:St}{l:List D}{vs:List V}{Q:VK}(p:uq K ρ H σd σ (.ok l hd1) Q)(e1:Ext ρ H ρ1 H1)(rs1:RS K ρ1 H1 σd hd1 σ)(r:RDs K ρ1 H1 l vs) :
  ∀ q,H1 q=none→Q (.ref q) (upd H1 q (.lst vs)):=fun q hq=>by
 have sm:=bT (o:=HO.lst vs) hq
 have nq:=rs1.hp.free hq
 exact p q vs _ ρ1 (e1.trans (Ext.same sm)) (rs1.same sm) (e1.fresh hq nq) aS nq (r.mono (Kp.same sm))
theorem b8 {es:YJ}{r:LF}(h:MA X es r)(hz:∀ σd hd ds hd',r σd hd=.ok ds hd'→ds.length≤SZ):MF X (.List es pos) r:=by
 refine PE.imp (Fc h) fun σ H Q ⟨ρ,σd,hd,rs,p⟩ => ?_
 refine⟨ρ,σd,hd,rs,?_⟩
 cases e:r σd hd with
 | exc x h'=>rw [e] at p;exact p
 | bad=>rw [e] at p;exact p
 | ok ds hd1 =>
  rw [e] at p
  intro vs H1 ρ1 e1 rs1 rvs
  exact⟨by rw [← RDs.length rvs];exact k7 (hz _ _ _ _ e),p.mk e1 rs1 rvs⟩
theorem aG {f:EF}{r:LF}{n:Nat}(h:∀ σd hd ds hd',r σd hd=.ok ds hd'→ds.length=n):∀ σd hd ds hd',af f r σd hd=.ok ds hd'→ds.length=n + 1:=by
 intro σd hd ds hd' e
 simp only [af] at e
 cases e1:f σd hd with
 | exc x h'=>rw [e1] at e;cases e
 | bad=>rw [e1] at e;cases e
 | ok d h1 =>
  rw [e1] at e
  simp only [aA] at e
  cases e2:r σd h1 with
  | exc x h'=>rw [e2] at e;cases e
  | bad=>rw [e2] at e;cases e
  | ok ds2 h2 =>
   rw [e2] at e
   simp only [aA] at e
   cases e
   simp [h _ _ _ _ e2]
theorem bi:∀ σd hd ds hd',ar σd hd=.ok ds hd'→ds.length=0:=by
 intro σd hd ds hd' e
 simp only [ar] at e
 cases e
 rfl
theorem bn {e:Expr}{r:LF}(h:MF X e r):ME X e (aQ r):=by
 refine PE.imp h fun σ H Q ⟨ρ,σd,hd,rs,p⟩=>⟨ρ,σd,hd,rs,?_⟩
 unfold aQ at p
 cases e:r σd hd with
 | exc x h'=>rw [e] at p;exact p
 | bad=>rw [e] at p;exact p
 | ok ds hd1 =>
  rw [e] at p
  simp only [aA] at p
  intro q vs H1 ρ1 e1 rs1 hq0 hq hn rvs
  by_cases hz:ds.length≤SZ
  ·rw [if_pos hz] at p
   have rh:=rs1.hp.alloc hq hn rvs
   have ex:Ext ρ H (ρ1++[q]) H1:=⟨by obtain⟨t,rfl⟩:=e1.pre;exact⟨t++[q],by simp⟩,fun a ha=>by
    rcases YS ha with z|z
    ·exact e1.new a z
    ·simp at z;subst z;exact .inr hq0,e1.frame⟩
   refine p.at ex (rs.ext ex rh) ?_
   simp only [rD,RD]
   refine⟨q,?_,rfl⟩
   rw [← rs1.hp.len]
   simp
  ·rw [if_neg hz] at p;exact p.elim
theorem gu {e:Expr}{r:LF}(h:MF X e r):MQ X e r:=by
 refine PE.imp h fun σ H Q ⟨ρ,σd,hd,rs,p⟩=>⟨ρ,σd,hd,rs,?_⟩
 cases e:r σd hd with
 | exc x h'=>rw [e] at p;exact p
 | bad=>rw [e] at p;exact p
 | ok ds hd1 =>
  rw [e] at p
  intro q vs H1 ρ1 e1 rs1 hq0 hq hn rvs
  exact p (.ref q) H1 ρ1 e1 rs1 ⟨q,vs,rfl,.inl (SqL.of hq),rvs⟩
theorem m7.sq {K:ZX}{H:Hp}{a:Addr}{xs:List V}(h:m7 K H a xs):SqL K H a xs:=by
 rcases h with ⟨o,h⟩|h
 ·exact .inl (.inr ⟨o,h⟩)
 ·exact .inr h
theorem x5 {K:ZX}{ρ:YH}{H:Hp}{hd:Hd}{d:D}{v:V}{l:List D}(r:RH K ρ H hd)(h:RD K ρ H d v)(e:kh hd d=some l):∃ p vs,v=.ref p∧(SqL K H p vs∨H p=some (.tup vs))∧RDs K ρ H l vs:=by
 cases d<;>simp only [kh] at e<;>try (cases e;done)
 ·cases e
  simp only [RD] at h
  obtain⟨p,vs,e1,e2,e3⟩:=h
  exact⟨p,vs,e1,.inr e2,e3⟩
 ·rename_i n
  simp only [RD] at h
  obtain⟨a,e1,e2⟩:=h
  cases c:hd[n]? with
  | none=>rw [c] at e;cases e
  | some x =>
   rw [c] at e
   cases x with
   | dct l=>cases e
   | lst l' =>
    cases e
    obtain⟨vs,q1,q2⟩:=r.cel n _ a c e1
    exact⟨a,vs,e2,.inl (SqL.of q1),q2⟩
 ·cases e
  simp only [RD] at h
  obtain⟨p,vs,e1,e2,e3⟩:=h
  exact⟨p,vs,e1,.inl e2.sq,e3⟩
theorem du {e:Expr}{f:EF}(h:ME X e f):MQ X e (lOf f):=by
 refine PE.imp h fun σ H Q ⟨ρ,σd,hd,rs,p⟩=>⟨ρ,σd,hd,rs,(bD.bind (R:=rD X.K) p).imp fun v H1 ⟨ρ1,d,hd1,e1,rs1,rv,p1⟩ => ?_⟩
 cases e:kh hd1 d with
 | none=>rw [e] at p1;exact p1.elim
 | some l=>rw [e] at p1;exact p1.here rs1 (x5 rs1.hp rv e)
theorem yc {K:ZX}{ρ:YH}{H:Hp}{l:List D}{vs:List V}{i:Int}{d:D}(r:RDs K ρ H l vs)(e:atI l i=some d):∃ v,L2.atI vs i=some v∧RD K ρ H d v:=by
 unfold atI at e
 unfold L2.atI
 have hl:=r.length
 have hx:ixN l.length i=L2.ixN vs.length i:=by rw [hl];rfl
 rw [hx] at e
 cases c:L2.ixN vs.length i with
 | none=>rw [c] at e;cases e
 | some j =>
  rw [c] at e
  simp only [Option.bind_some] at e ⊢
  exact r.get e
theorem aF {a b:Expr}{fa fb:EF}(ha:ME X a fa)(hb:ME X b fb)(hs:rY b):ME X (.Subscript a b pos) (fAt fa fb):=by
 refine me2 (a:=a) (b:=b) (g:=oAt) (Ep Fi ha hb hs) fun ρ H σd hd σ d k v w Q rs rv rw' p => ?_
 unfold oAt at p
 cases e:kh hd d with
 | none=>rw [e] at p;exact p.elim
 | some l =>
  rw [e] at p
  cases k<;>first|exact p.elim|skip
  rename_i i
  simp only at p
  cases e2:atI l i with
  | none=>rw [e2] at p;exact p.elim
  | some x =>
   rw [e2] at p
   simp only [RD] at rw'
   obtain⟨q,vs,hv,sq,rvs⟩:=x5 rs.hp rv e
   obtain⟨u,hu,ru⟩:=yc rvs e2
   rcases sq with sq|sq
   ·exact .inl ⟨q,vs,i,u,hv,rw',sq,hu,p.here rs ru⟩
   ·exact .inr (.inl ⟨q,vs,i,u,hv,rw',SqT.of sq,hu,p.here rs ru⟩)
theorem ox {a b:Expr}{la:LF}{fb:EF}(ha:MF X a la)(hb:ME X b fb)(hs:rY b):ME X (.Subscript a b pos) (fIx la fb):=by
 refine PE.imp (Ep xZ ha hb hs) fun σ H Q ⟨ρ,σd,hd,rs,p⟩=>⟨ρ,σd,hd,rs,?_⟩
 unfold fIx at p
 cases e:la σd hd with
 | exc x h'=>rw [e] at p;exact p
 | bad=>rw [e] at p;exact p
 | ok l hd1 =>
  rw [e] at p
  simp only [aA] at p
  intro q vs H1 ρ1 e1 rs1 hq0 hq hn rvs
  refine⟨ρ1,σd,hd1,rs1,(bD.bind (R:=rD X.K) (p.ext e1)).imp fun w H2 ⟨ρ2,k,hd2,e2,rs2,rw',p2⟩ => ?_⟩
  cases k<;>first|exact p2.elim|skip
  rename_i i
  simp only at p2
  cases e3:atI l i with
  | none=>rw [e3] at p2;exact p2.elim
  | some x =>
   rw [e3] at p2
   simp only [rD,RD] at rw'
   obtain⟨u,hu,ru⟩:=yc (rvs.mono (rs1.hp.kp e2)) e3
   exact⟨q,vs,i,u,rfl,rw',SqL.of (e2.frame q _ hq hn),hu,p2.here rs2 ru⟩
end
end Fm
namespace Fm
open PySem PySem.Spec L2
section
variable {X:Cx} {pos:Pos}
def B1 (X:Cx) (r:List V→Hp→VK→Prop) (x:Str) (p pos:Pos) (a:Expr):Prop:=∀ t,PA X [a] t→PE X (.Call (.Name x p) [a] [] pos) (tCB r t)
theorem AJ {x:Str} {p:Pos} {a:Expr} {id:String} {r:List V→Hp→VK→Prop} (hc:fD X (.builtin id) r) (hg:Gl X x) (hm:X.mg x=none) (hv:bootBuiltins x=some (.builtin id)) (hn:x ≠ "__name__" := by decide) (hdb:(x == ("__debug__" : Str))=false:=by decide)
  (he:starEach [a] X.env=(false,eval a X.env) :: starEach [] X.env:=by rfl):B1 X r x p pos a:=fun _ ha=>gn hc hg hm hv ha hn hdb he
theorem Eu {x:Str} {p:Pos} {a:Expr} {T:String} {r:List V→Hp→VK→Prop} (hc:fD X (.type T) r) (hg:Gl X x) (hm:X.mg x=none) (hv:bootBuiltins x=some (.type T)) (hn:x ≠ "__name__" := by decide) (hdb:(x == ("__debug__" : Str))=false:=by decide)
  (he:starEach [a] X.env=(false,eval a X.env) :: starEach [] X.env:=by rfl):B1 X r x p pos a:=fun _ ha=>mh hc hg hm hv ha hn hdb he
theorem sr {x:Str}{p:Pos}{a:Expr}{la:LF}{r:List V→Hp→VK→Prop}{g:List D→Hd→Res D}(hb:B1 X r x p pos a)(ha:MQ X a la)
  (hg:∀ ρ H σd hd σ l q vs Q,RS X.K ρ H σd hd σ → (SqL X.K H q vs∨H q=some (.tup vs))→RDs X.K ρ H l vs→bD X.K (rD X.K) ρ H σd σ (g l hd) Q→r [.ref q] H Q)
  (hs:starEach [a] X.env=(false,eval a X.env) :: starEach [] X.env:=by rfl):ME X (.Call (.Name x p) [a] [] pos) (fun σ h=>(la σ h).bind fun l h=>g l h):=by
 refine PE.imp (hb _ (bW ha dy hs)) fun σ H Q ⟨ρ,σd,hd,rs,pp⟩=>⟨ρ,σd,hd,rs,(bD.bind (R:=rQ X.K) pp).imp fun v H1 ⟨ρ1,l,hd1,e1,rs1,⟨q,vs,hv,sq,rvs⟩,p1⟩ => ?_⟩
 subst hv
 exact hg ρ1 H1 σd hd1 σ l q vs Q rs1 sq rvs p1
theorem HE {x:Str}{p:Pos}{a:Expr}{fa:EF}{r:List V→Hp→VK→Prop}{g:D→Hd→Res D}(hb:B1 X r x p pos a)(ha:ME X a fa)
  (hg:∀ ρ H σd hd σ d v Q,RS X.K ρ H σd hd σ → RD X.K ρ H d v→bD X.K (rD X.K) ρ H σd σ (g d hd) Q→r [v] H Q)
  (hs:starEach [a] X.env=(false,eval a X.env) :: starEach [] X.env:=by rfl):ME X (.Call (.Name x p) [a] [] pos) (fun σ h=>(fa σ h).bind fun x h=>g x h):=by
 refine PE.imp (hb _ (bW ha dy hs)) fun σ H Q ⟨ρ,σd,hd,rs,pp⟩=>⟨ρ,σd,hd,rs,(bD.bind (R:=rD X.K) pp).imp fun v H1 ⟨ρ1,d,hd1,e1,rs1,rv,p1⟩ => ?_⟩
 exact hg ρ1 H1 σd hd1 σ d v Q rs1 rv p1
theorem gv {p:Pos} {a:Expr} {la:LF} (hg:Gl X "len") (hm:X.mg "len" = none) (ha:MQ X a la) (hs:starEach [a] X.env=(false,eval a X.env) :: starEach [] X.env:=by rfl):ME X (.Call (.Name "len" p) [a] [] pos) (ik la) :=
 sr (g:=fun l h=>.ok (.int l.length) h) (AJ se hg hm PySem.boot_len (he:=hs)) ha (fun ρ H σd hd σ l q vs Q rs sq rvs p=>⟨q,vs,rfl,sq.imp id SqT.of,by rw [← rvs.length];exact p.here rs (by simp only [rD,RD])⟩) hs
theorem gL {p:Pos} {a:Expr} {la:LF} (hg:Gl X "tuple") (hm:X.mg "tuple" = none) (ha:MQ X a la) (hs:starEach [a] X.env=(false,eval a X.env) :: starEach [] X.env:=by rfl):ME X (.Call (.Name "tuple" p) [a] [] pos) (gq la):=by
 refine sr (g:=fun l h=>.ok (.tup l) h) (Eu pT hg hm (by decide +kernel) (he:=hs)) ha (fun ρ H σd hd σ l q vs Q rs sq rvs p=>⟨q,vs,rfl,?_⟩) hs
 rcases sq with sq|sq
 ·refine .inl ⟨sq,fun q' hq => ?_⟩
  have sm:=bT (o:=HO.tup vs) hq
  exact p.at (Ext.same sm) (rs.same sm) (by simp only [rD,RD];exact⟨q',vs,rfl,aS,rvs.mono (Kp.same sm)⟩)
 ·exact .inr ⟨SqT.of sq,p.here rs (by simp only [rD,RD];exact⟨q,vs,rfl,sq,rvs⟩)⟩
theorem Dj {p:Pos} {a:Expr} {fa:EF} (hg:Gl X "int") (hm:X.mg "int" = none) (ha:ME X a fa) (hs:starEach [a] X.env=(false,eval a X.env) :: starEach [] X.env:=by rfl):ME X (.Call (.Name "int" p) [a] [] pos) (AE fa):=by
 refine HE (g:=fun x h=>match x with | .int i=>.ok (.int i) h | .bl b=>.ok (.int (b2i b)) h|_=>.bad) (Eu y9 hg hm (by decide +kernel) (he:=hs)) ha (fun ρ H σd hd σ d v Q rs rv p => ?_) hs
 cases d<;>first|exact p.elim|skip
 ·simp only [RD] at rv;subst rv
  exact .inr ⟨_,rfl,p.here rs (by simp only [rD,RD];rfl)⟩
 ·simp only [RD] at rv;subst rv
  exact .inl ⟨_,rfl,p.here rs (by simp only [rD,RD])⟩
theorem uw (ns:YF):PySem.preSum (fun i=>ns.getD i 0) ns.length=ns.sum:=by
 have key:∀ k,k≤ns.length→PySem.preSum (fun i=>ns.getD i 0) k=(ns.take k).sum:=by
  intro k
  induction k with
  | zero=>intro _;simp [PySem.preSum]
  | succ k ih =>
   intro hk
   rw [PySem.preSum,ih (by omega),List.take_add_one,ZE (by omega),List.sum_append]
   simp [List.getD,ZE (show k < ns.length by omega)]
 rw [key _ (ZL _),List.take_length]
theorem yd {its:YG}{ns:YF}(r:aV (ns.map V.int) its)(i:Nat)(v:Value)(h:its.toArray[i]? = some v):∃ t,v=.int (ns.getD i 0) t:=by
 have h':its[i]? = some v:=by simpa using h
 have hl:=r.length
 have hi:i < its.length:=(YO h').1
 have hn:i < ns.length:=by rw [← hl] at hi;simpa using hi
 obtain⟨u,hu,ru⟩:=r.get (i:=i) (x:=.int ns[i]) (by simp [hn])
 rw [h'] at hu
 cases hu
 obtain⟨t,e⟩:=ru
 exact⟨t,by rw [e];simp [List.getD,hn]⟩
theorem zi (hc:X.calm=true):fD X (.builtin "sum") (fun xs H Q=>∃ (p:Addr) (ns:YF),xs=[.ref p]∧(SqL X.K H p (ns.map V.int)∨SqT X.K H p (ns.map V.int))∧Q (.int ns.sum) H):=by
 intro pins s σ H xs us Q I r q
 obtain⟨p,ns,rfl,sq,q⟩:=q
 obtain⟨u,rfl,ru⟩:=aV.one r
 cases (show u=Value.ref p from ru)
 have fin:∀ {it:Obj} {h':Heap} {tk:Nat} {t':Tok} {n:Nat},n=ns.length→(∀ b o,b∉[s.heap.objs.size]→(s.heap.push it).get? b=some o→h'.get? b=some o)→EP X pins σ Q (.int (PySem.preSum (fun i=>ns.getD i 0) n) t') { s with heap:=h',toks:=tk }:=by
  intro it h' tk t' n hn hk
  subst hn
  refine⟨.int ns.sum,H,I.kept (t':=tk) fun b o e=>hk b o (by simp;exact ZN (ZI e)) (ZH _ e),⟨t',by rw [uw]⟩,q⟩
 have hA:(X.A.in1).handled=none:=I.ok.hd hc
 rcases sq with sq|sq
 ·obtain⟨its,rv,pl,hz⟩:=I.list sq
  have il:s.heap.IsList p its.toArray:=pl.isList
  have hlt:p < s.heap.objs.size:=by obtain⟨o,ho,_⟩:=il;exact ZI ho
  refine PySem.call_sum_walkG (PySem.wpAny_pyIter_list il ?_)
  refine⟨s.heap.objs.size,_,[s.heap.objs.size],_,_,_,fun i=>ns.getD i 0,rfl,PySem.Walks.list hA s.heap.objs.size p (ZN hlt) its.toArray,⟨⟨_,ZJ _ rfl,rfl,rfl⟩,?_⟩,?_,yd rv,?_⟩
  ·obtain⟨o,ho,r⟩:=il;exact⟨o,ZH _ ho,r⟩
  ·intro b hb
   rcases YQ hb with rfl|hb
   ·rw [Heap.size_push];exact Nat.lt_succ_self _
   ·simp at hb;subst hb;rw [Heap.size_push];exact Nat.lt_succ_of_lt hlt
  ·exact fun h' tk t' hk=>fin (by simpa using rv.length.symm) hk
 ·obtain⟨its,rv,pl,hz⟩:=I.tuple sq
  have il:s.heap.IsTuple p its.toArray:=pl
  have hlt:p < s.heap.objs.size:=by obtain⟨o,ho,_⟩:=il;exact ZI ho
  refine PySem.call_sum_walkG (PySem.wpAny_pyIter_tuple il ?_)
  refine⟨s.heap.objs.size,_,[s.heap.objs.size],_,_,_,fun i=>ns.getD i 0,rfl,PySem.Walks.tuple hA s.heap.objs.size p (ZN hlt) its.toArray,⟨⟨_,ZJ _ rfl,rfl,rfl⟩,?_⟩,?_,yd rv,?_⟩
  ·obtain⟨o,ho,r⟩:=il;exact⟨o,ZH _ ho,r⟩
  ·intro b hb
   rcases YQ hb with rfl|hb
   ·rw [Heap.size_push];exact Nat.lt_succ_self _
   ·simp at hb;subst hb;rw [Heap.size_push];exact Nat.lt_succ_of_lt hlt
  ·exact fun h' tk t' hk=>fin (by simpa using rv.length.symm) hk
theorem k8 {K:ZX}{ρ:YH}{H:Hp}:∀ {l:List D} {vs:List V} {is:YF},RDs K ρ H l vs→dR l=some is→vs=is.map V.int
 | [],_,is,r,e=>by simp only [dR] at e;cases e;simp only [RDs] at r;subst r;rfl
 | d :: l,_,is,r,e=>by
  simp only [RDs] at r
  obtain⟨v,vs,rfl,h1,h2⟩:=r
  cases d<;>simp only [dR] at e<;>try (cases e;done)
  rename_i i
  cases c:dR l with
  | none=>rw [c] at e;cases e
  | some js =>
   rw [c] at e
   cases e
   simp only [RD] at h1
   rw [h1,k8 h2 c]
   rfl
theorem AK {p:Pos} {a:Expr} {la:LF} (hc:X.calm=true) (hg:Gl X "sum") (hm:X.mg "sum" = none) (ha:MQ X a la) (hs:starEach [a] X.env=(false,eval a X.env) :: starEach [] X.env:=by rfl):ME X (.Call (.Name "sum" p) [a] [] pos) (wg la):=by
 refine sr (g:=fun l h=>match dR l with|some is=>.ok (.int is.sum) h|none=>.bad) (AJ (zi hc) hg hm (by decide +kernel) (he:=hs)) ha (fun ρ H σd hd σ l q vs Q rs sq rvs p => ?_) hs
 cases c:dR l with
 | none=>simp only [c] at p;exact p.elim
 | some is =>
  simp only [c] at p
  have e:=k8 rvs c
  subst e
  exact⟨q,is,rfl,sq.imp id SqT.of,p.here rs (by simp only [rD,RD])⟩
end
end Fm
namespace Fm
open PySem PySem.Spec L2
section
variable {K:ZX} {ρ:YH} {H:Hp}
mutual
theorem ux:∀ {d k:D} {v:V} {b:Bool},RD K ρ H d v→RD K ρ H k v→peq d k=some b→b=true
 | .int i,k,v,b,h1,h2,e=>by
  simp only [RD] at h1;subst h1
  cases k<;>simp only [RD] at h2<;>try (cases h2;done)
  all_goals first
   | (cases h2;simp only [peq] at e;simpa using e.symm)
   | (obtain⟨_,_,z,_⟩:=h2;cases z;done)
   | (obtain⟨_,_,z⟩:=h2;cases z;done)
   | (obtain⟨_,_,_,z,_⟩:=h2;cases z;done)
 | .bl i,k,v,b,h1,h2,e=>by
  simp only [RD] at h1;subst h1
  cases k<;>simp only [RD] at h2<;>try (cases h2;done)
  all_goals first
   | (cases h2;simp only [peq] at e;simpa using e.symm)
   | (obtain⟨_,_,z,_⟩:=h2;cases z;done)
   | (obtain⟨_,_,z⟩:=h2;cases z;done)
   | (obtain⟨_,_,_,z,_⟩:=h2;cases z;done)
 | .str x,k,v,b,h1,h2,e=>by
  simp only [RD] at h1;subst h1
  cases k<;>simp only [RD] at h2<;>try (cases h2;done)
  all_goals first
   | (simp only [peq] at e;simp only [toS,V.str.injEq,PySem.Str.mk.injEq] at h2;have h3:=congrArg Array.toList h2;simp at h3;subst h3;simpa using e.symm)
   | (obtain⟨_,_,z,_⟩:=h2;cases z;done)
   | (obtain⟨_,_,z⟩:=h2;cases z;done)
   | (obtain⟨_,_,_,z,_⟩:=h2;cases z;done)
 | .non,k,v,b,h1,h2,e=>by
  simp only [RD] at h1;subst h1
  cases k<;>simp only [RD] at h2<;>try (cases h2;done)
  all_goals first
   | (simp only [peq] at e;simpa using e.symm)
   | (obtain⟨_,_,z,_⟩:=h2;cases z;done)
   | (obtain⟨_,_,z⟩:=h2;cases z;done)
   | (obtain⟨_,_,_,z,_⟩:=h2;cases z;done)
 | .tup xs,k,v,b,h1,h2,e=>by
  simp only [RD] at h1
  obtain⟨p,vs,rfl,hp,r1⟩:=h1
  cases k<;>simp only [peq] at e<;>try (cases e;done)
  ·simp only [RD] at h2;cases h2
  ·simp only [RD] at h2;cases h2
  ·rename_i ys
   simp only [RD] at h2
   obtain⟨p',vs',z,hp',r2⟩:=h2
   cases z
   rw [hp] at hp';cases hp'
   cases c:fW xs ys with
   | none=>rw [c] at e;cases e
   | some b' =>
    rw [c] at e
    simp only [Option.map_some,Option.some.injEq] at e
    have:=qH r1 r2 c
    subst this
    rw [← e,r1.length,r2.length]
    simp
 | .ref n,k,v,b,h1,h2,e=>by cases k<;>simp only [peq] at e<;>cases e
 | .lit l,k,v,b,h1,h2,e=>by cases k<;>simp only [peq] at e<;>cases e
 | .exn c l,k,v,b,h1,h2,e=>by simp only [peq] at e<;>cases e
theorem qH:∀ {xs ys:List D} {vs:List V} {b:Bool},RDs K ρ H xs vs→RDs K ρ H ys vs→fW xs ys=some b→b=true
 | [],_,_,_,_,_,e=>by simp only [fW] at e;cases e;rfl
 | x :: xs,[],_,_,_,_,e=>by simp only [fW] at e;cases e;rfl
 | x :: xs,y :: ys,_,b,h1,h2,e=>by
  simp only [RDs] at h1 h2
  obtain⟨v,r,rfl,a1,a2⟩:=h1
  obtain⟨v',r',z,b1,b2⟩:=h2
  cases z
  simp only [fW] at e
  cases c:peq x y with
  | none=>rw [c] at e;cases e
  | some p =>
   cases c2:fW xs ys with
   | none=>rw [c,c2] at e;cases e
   | some q =>
    rw [c,c2] at e
    simp only [Option.some.injEq] at e
    rw [← e,ux a1 b1 c,qH a2 b2 c2];rfl
end
end
section
variable {K:ZX} {ρ:YH} {H:Hp} {P:Program} {w:World} {s:Shared}
theorem g9 (hok:HOk P w H s.heap){p:Addr}{vs:List V}(h:H p=some (.tup vs)):∃ its:YG,aV vs its∧s.heap.IsTuple p its.toArray:=by
 obtain⟨z,its,r,t⟩:=hok p _ h
 exact⟨its,r,t⟩
mutual
theorem Fv (hok:HOk P w H s.heap):∀ {d k:D} {v v':V} {u u':Value} {b:Bool} {A:Around},RD K ρ H d v→RD K ρ H k v'→bB v u→bB v' u'→peq d k=some b→A.units + dep d < cLine→SeqAt.EqAt A s u u' b
 | .int i,k,v,v',u,u',b,A,h1,h2,r1,r2,e,hu=>by
  simp only [RD] at h1;subst h1
  obtain⟨t,rfl⟩:=r1
  cases k<;>simp only [peq] at e<;>try (cases e;done)
  all_goals cases e
  ·simp only [RD] at h2;subst h2;cases r2;exact SeqAt.EqAt.int_none i t
  ·simp only [RD] at h2;subst h2;cases r2;exact SeqAt.EqAt.int_bool i t _
  ·simp only [RD] at h2;subst h2;obtain⟨t',rfl⟩:=r2;exact SeqAt.EqAt.int_int i t _ t'
  ·simp only [RD] at h2;obtain⟨p,vs,rfl,hp,_⟩:=h2;cases r2
   obtain⟨its,_,il⟩:=g9 hok hp
   exact SeqAt.EqAt.int_tuple i t il (ZS (Nat.le_add_right _ _) hu)
 | .bl i,k,v,v',u,u',b,A,h1,h2,r1,r2,e,hu=>by
  simp only [RD] at h1;subst h1
  cases r1
  cases k<;>simp only [peq] at e<;>try (cases e;done)
  all_goals cases e
  ·simp only [RD] at h2;subst h2;cases r2;exact SeqAt.EqAt.bool_bool i _
  ·simp only [RD] at h2;subst h2;obtain⟨t',rfl⟩:=r2;exact SeqAt.EqAt.bool_int i _ t'
 | .str x,k,v,v',u,u',b,A,h1,h2,r1,r2,e,hu=>by
  simp only [RD] at h1;subst h1
  obtain⟨t,rfl⟩:=r1
  cases k<;>simp only [peq] at e<;>try (cases e;done)
  all_goals cases e
  rename_i y
  simp only [RD] at h2;subst h2;obtain⟨t',rfl⟩:=r2
  have:decide (x=y)=(toS x == toS y):=by
   by_cases z:x=y
   ·subst z;simp
   ·have : ¬ toS x=toS y:=fun q=>z (by have:=congrArg (fun (s:Str)=>s.cps.toList) q;simpa [toS] using this)
    simp [z,this]
  rw [this]
  exact SeqAt.EqAt.str_str _ t _ t'
 | .non,k,v,v',u,u',b,A,h1,h2,r1,r2,e,hu=>by
  simp only [RD] at h1;subst h1
  cases r1
  cases k<;>simp only [peq] at e<;>try (cases e;done)
  all_goals cases e
  ·simp only [RD] at h2;subst h2;cases r2;exact SeqAt.EqAt.same _
  ·simp only [RD] at h2;subst h2;obtain⟨t',rfl⟩:=r2;exact SeqAt.EqAt.none_int _ t'
  ·simp only [RD] at h2;obtain⟨p,vs,rfl,hp,_⟩:=h2;cases r2
   obtain⟨its,_,il⟩:=g9 hok hp
   exact SeqAt.EqAt.none_tuple il (ZS (Nat.le_add_right _ _) hu)
 | .tup xs,k,v,v',u,u',b,A,h1,h2,r1,r2,e,hu=>by
  have h1':=h1
  simp only [RD] at h1
  obtain⟨p,vs,rfl,hp,q1⟩:=h1
  cases r1
  obtain⟨its,rv,il⟩:=g9 hok hp
  have hu0:A.units < cLine:=ZS (Nat.le_add_right _ _) hu
  cases k<;>simp only [peq] at e<;>try (cases e;done)
  ·cases e;simp only [RD] at h2;subst h2;cases r2;exact SeqAt.EqAt.tuple_none il hu0
  ·cases e;simp only [RD] at h2;subst h2;obtain⟨t',rfl⟩:=r2;exact SeqAt.EqAt.tuple_int _ t' il hu0
  ·rename_i ys
   have h2':=h2
   simp only [RD] at h2
   obtain⟨p',vs',rfl,hp',q2⟩:=h2
   cases r2
   by_cases hpp:p=p'
   ·subst hpp
    have:b=true:=ux h1' h2' (by simp only [peq];exact e)
    subst this
    exact SeqAt.EqAt.same _
   ·obtain⟨its',rv',il'⟩:=g9 hok hp'
    cases c:fW xs ys with
    | none=>rw [c] at e;cases e
    | some b' =>
     rw [c] at e
     simp only [Option.map_some,Option.some.injEq] at e
     obtain⟨f,hf,ha⟩:=nM hok (A:=A.in1) q1 q2 rv rv' c (by simp only [dep] at hu;show A.units + 1 + mj xs < cLine;omega)
     have:=SeqAt.RcAt.tuples (s:=s) (A:=A) (e:=f) il il' hu0 (fun j h1 h2=>by simpa using hf j (by simpa using h1) (by simpa using h2))
     rw [← e,← ha,q1.length,q2.length,rv.length,rv'.length]
     refine SeqAt.EqAt.of_refs hpp ?_
     rw [show (decide (its.length=its'.length))=(its.length == its'.length) from rfl]
     simpa using this
 | .ref n,k,v,v',u,u',b,A,h1,h2,r1,r2,e,hu=>by cases k<;>simp only [peq] at e<;>cases e
 | .lit l,k,v,v',u,u',b,A,h1,h2,r1,r2,e,hu=>by cases k<;>simp only [peq] at e<;>cases e
 | .exn c l,k,v,v',u,u',b,A,h1,h2,r1,r2,e,hu=>by simp only [peq] at e<;>cases e
theorem nM (hok:HOk P w H s.heap):∀ {xs ys:List D} {vs vs':List V} {us us':YG} {b:Bool} {A:Around},RDs K ρ H xs vs→RDs K ρ H ys vs'→aV vs us→aV vs' us'→fW xs ys=some b→A.units + mj xs < cLine →
  ∃ f:Nat→Bool,(∀ j (h1:j < us.length) (h2:j < us'.length),SeqAt.EqAt A s us[j] us'[j] (f j))∧(List.range (min us.length us'.length)).all f=b
 | [],ys,vs,vs',us,us',b,A,h1,h2,r1,r2,e,hu=>by
  simp only [RDs] at h1;subst h1;cases r1
  simp only [fW] at e;cases e
  exact⟨fun _=>true,fun j h1=>by simp at h1,by simp⟩
 | x :: xs,[],vs,vs',us,us',b,A,h1,h2,r1,r2,e,hu=>by
  simp only [RDs] at h2;subst h2;cases r2
  simp only [fW] at e;cases e
  exact⟨fun _=>true,fun j h1 h2=>by simp at h2,by simp⟩
 | x :: xs,y :: ys,vs,vs',us,us',b,A,h1,h2,r1,r2,e,hu=>by
  simp only [RDs] at h1 h2
  obtain⟨v,r,rfl,a1,a2⟩:=h1
  obtain⟨v',r',rfl,b1,b2⟩:=h2
  cases r1 with
  | cons p1 p2 =>
   cases r2 with
   | cons s1 s2 =>
    simp only [fW] at e
    cases c:peq x y with
    | none=>rw [c] at e;cases e
    | some p =>
     cases c2:fW xs ys with
     | none=>rw [c,c2] at e;cases e
     | some q =>
      rw [c,c2] at e
      simp only [Option.some.injEq] at e
      simp only [mj] at hu
      have g1:=Fv hok (A:=A) a1 b1 p1 s1 c (by omega)
      obtain⟨f,hf,ha⟩:=nM hok (A:=A) a2 b2 p2 s2 c2 (by omega)
      refine⟨fun j=>match j with|0=>p|j + 1=>f j,fun j h1 h2 => ?_,?_⟩
      ·cases j with
       | zero=>exact g1
       | succ j=>exact hf j (by simpa using h1) (by simpa using h2)
      ·rw [← e,← ha,List.length_cons,List.length_cons,Nat.succ_min_succ,List.range_succ_eq_map,List.all_cons,List.all_map]
       rfl
end
theorem Fw (hok:HOk P w H s.heap){d k:D}{v v':V}{u u':Value}{b:Bool}{A:Around}(h1:RD K ρ H d v)(h2:RD K ρ H k v')(r1:bB v u)(r2:bB v' u')(e:peq d k=some b)(hu:A.units + dep d < cLine) :
  SeqAt.RcAt A s u u' b∧SeqAt.RcNeAt A s u u' (!b):=by
 have hu0:A.units < cLine:=ZS (Nat.le_add_right _ _) hu
 cases d<;>simp only [RD] at h1
 ·subst h1;cases r1
  cases k<;>simp only [peq] at e<;>try (cases e;done)
  all_goals cases e
  ·simp only [RD] at h2;subst h2;cases r2;exact⟨SeqAt.RcAt.none_none,SeqAt.RcNeAt.none_none⟩
  ·simp only [RD] at h2;subst h2;obtain⟨t',rfl⟩:=r2;exact⟨SeqAt.RcAt.none_int _ t',SeqAt.RcNeAt.none_int _ t'⟩
  ·simp only [RD] at h2;obtain⟨p,vs,rfl,hp,_⟩:=h2;cases r2
   obtain⟨its,_,il⟩:=g9 hok hp
   exact⟨SeqAt.RcAt.none_tuple il hu0,SeqAt.RcNeAt.none_tuple il hu0⟩
 ·subst h1;cases r1
  cases k<;>simp only [peq] at e<;>try (cases e;done)
  all_goals cases e
  ·simp only [RD] at h2;subst h2;cases r2;exact⟨SeqAt.RcAt.bool_bool _ _,SeqAt.RcNeAt.bool_bool _ _⟩
  ·simp only [RD] at h2;subst h2;obtain⟨t',rfl⟩:=r2;exact⟨SeqAt.RcAt.bool_int _ _ t',SeqAt.RcNeAt.bool_int _ _ t'⟩
 ·subst h1;obtain⟨t,rfl⟩:=r1
  cases k<;>simp only [peq] at e<;>try (cases e;done)
  all_goals cases e
  ·simp only [RD] at h2;subst h2;cases r2;exact⟨SeqAt.RcAt.int_none _ t,SeqAt.RcNeAt.int_none _ t⟩
  ·simp only [RD] at h2;subst h2;cases r2;exact⟨SeqAt.RcAt.int_bool _ t _,SeqAt.RcNeAt.int_bool _ t _⟩
  ·simp only [RD] at h2;subst h2;obtain⟨t',rfl⟩:=r2;exact⟨SeqAt.RcAt.int_int _ t _ t',SeqAt.RcNeAt.int_int _ t _ t'⟩
  ·simp only [RD] at h2;obtain⟨p,vs,rfl,hp,_⟩:=h2;cases r2
   obtain⟨its,_,il⟩:=g9 hok hp
   exact⟨SeqAt.RcAt.int_tuple _ t il hu0,SeqAt.RcNeAt.int_tuple _ t il hu0⟩
 ·subst h1;obtain⟨t,rfl⟩:=r1
  cases k<;>simp only [peq] at e<;>try (cases e;done)
  all_goals cases e
  rename_i x y
  simp only [RD] at h2;subst h2;obtain⟨t',rfl⟩:=r2
  have:decide (x=y)=(toS x == toS y):=by
   by_cases z:x=y
   ·subst z;simp
   ·have : ¬ toS x=toS y:=fun q=>z (by have:=congrArg (fun (s:Str)=>s.cps.toList) q;simpa [toS] using this)
    simp [z,this]
  rw [this]
  exact⟨SeqAt.RcAt.str_str _ t _ t',SeqAt.RcNeAt.str_str _ t _ t'⟩
 ·rename_i xs
  obtain⟨p,vs,rfl,hp,q1⟩:=h1
  cases r1
  obtain⟨its,rv,il⟩:=g9 hok hp
  cases k<;>simp only [peq] at e<;>try (cases e;done)
  ·cases e;simp only [RD] at h2;subst h2;cases r2;exact⟨SeqAt.RcAt.tuple_none il hu0,SeqAt.RcNeAt.tuple_none il hu0⟩
  ·cases e;simp only [RD] at h2;subst h2;obtain⟨t',rfl⟩:=r2;exact⟨SeqAt.RcAt.tuple_int _ t' il hu0,SeqAt.RcNeAt.tuple_int _ t' il hu0⟩
  ·rename_i ys
   simp only [RD] at h2
   obtain⟨p',vs',rfl,hp',q2⟩:=h2
   cases r2
   obtain⟨its',rv',il'⟩:=g9 hok hp'
   cases c:fW xs ys with
   | none=>rw [c] at e;cases e
   | some b' =>
    rw [c] at e
    simp only [Option.map_some,Option.some.injEq] at e
    obtain⟨f,hf,ha⟩:=nM hok (A:=A.in1) q1 q2 rv rv' c (by simp only [dep] at hu;show A.units + 1 + mj xs < cLine;omega)
    have g1:=SeqAt.RcAt.tuples (s:=s) (A:=A) (e:=f) il il' hu0 (fun j h1 h2=>by simpa using hf j (by simpa using h1) (by simpa using h2))
    have g2:=SeqAt.RcNeAt.tuples (s:=s) (A:=A) (e:=f) il il' hu0 (fun j h1 h2=>by simpa using hf j (by simpa using h1) (by simpa using h2))
    rw [← e,← ha,q1.length,q2.length,rv.length,rv'.length,show (decide (its.length=its'.length))=(its.length == its'.length) from rfl]
    exact⟨by simpa using g1,by simpa using g2⟩
 ·cases k<;>simp only [peq] at e<;>cases e
 ·cases k<;>simp only [peq] at e<;>cases e
 ·simp only [peq] at e<;>cases e
end
section
variable {X:Cx}
theorem su {K:ZX}{ρ:YH}{H:Hp}{hd:Hd}{d:D}{v:V}{l:List D}(r:RH K ρ H hd)(h:RD K ρ H d v)(e:gp hd d=some l):∃ p vs,v=.ref p∧SqL K H p vs∧RDs K ρ H l vs:=by
 cases d<;>simp only [gp] at e<;>try (cases e;done)
 ·rename_i n
  simp only [RD] at h
  obtain⟨a,e1,e2⟩:=h
  cases c:hd[n]? with
  | none=>rw [c] at e;cases e
  | some x =>
   rw [c] at e
   cases x with
   | dct l=>cases e
   | lst l' =>
    cases e
    obtain⟨vs,q1,q2⟩:=r.cel n _ a c e1
    exact⟨a,vs,e2,SqL.of q1,q2⟩
 ·cases e
  simp only [RD] at h
  obtain⟨p,vs,e1,e2,e3⟩:=h
  exact⟨p,vs,e1,e2.sq,e3⟩
theorem AL {pins:List (Addr × Obj)}{σ:St}{H:Hp}{s:Shared}{ρ:YH}{hd:Hd}{d k:D}{v v':V}{u u':Value}{b:Bool}(hu:X.A.units + 24 < cLine)(I:Inv X pins σ H s)(r:RH X.K ρ H hd)(h1:RD X.K ρ H d v)(h2:RD X.K ρ H k v')
  (r1:bB v u) (r2:bB v' u') (e:eqG hd d k=some b):SeqAt.RcAt X.A s u u' b∧SeqAt.RcNeAt X.A s u u' (!b):=by
 have hu0:X.A.units < cLine:=by omega
 simp only [eqG] at e
 cases c1:gp hd d with
 | none =>
  cases c2:gp hd k with
  | some l=>rw [c1,c2] at e;cases e
  | none =>
   rw [c1,c2] at e
   simp only at e
   split at e
   ·rename_i hd20
    exact Fw I.hok h1 h2 r1 r2 e (by omega)
   ·cases e
 | some xs =>
  cases c2:gp hd k with
  | none=>rw [c1,c2] at e;cases e
  | some ys =>
   rw [c1,c2] at e
   simp only [eqL] at e
   obtain⟨p,vs,rfl,s1,q1⟩:=su r h1 c1
   obtain⟨p',vs',rfl,s2,q2⟩:=su r h2 c2
   cases r1;cases r2
   obtain⟨its,rv,pl,_⟩:=I.list s1
   obtain⟨its',rv',pl',_⟩:=I.list s2
   have il:s.heap.IsList p its.toArray:=pl.isList
   have il':s.heap.IsList p' its'.toArray:=pl'.isList
   have l1:xs.length=its.length:=q1.length.trans rv.length
   have l2:ys.length=its'.length:=q2.length.trans rv'.length
   split at e
   ·rename_i hd20
    split at e
    ·rename_i hl
     obtain⟨f,hf,ha⟩:=nM I.hok (A:=X.A.in1) q1 q2 rv rv' e (by show X.A.units + 1 + mj xs < cLine;omega)
     have hs:its.toArray.size=its'.toArray.size:=by simp;omega
     have g1:=SeqAt.RcAt.lists (s:=s) (A:=X.A) (e:=f) il il' hs hu0 (fun j h1 h2=>by simpa using hf j (by simpa using h1) (by simpa using h2))
     have g2:=SeqAt.RcNeAt.lists (s:=s) (A:=X.A) (e:=f) il il' hs hu0 (fun j h1 h2=>by simpa using hf j (by simpa using h1) (by simpa using h2))
     have hm:min its.length its'.length=its.length:=by omega
     rw [hm] at ha
     rw [← ha]
     exact⟨by simpa using g1,by simpa using g2⟩
    ·rename_i hl
     cases e
     have hs:(its.toArray.size != its'.toArray.size)=true:=by simp;omega
     exact⟨SeqAt.RcAt.lists_lengths il il' hs hu0,SeqAt.RcNeAt.lists_lengths il il' hs hu0⟩
   ·cases e
def Dk (K:ZX) (f:Bool→Bool):R2:=fun x y H Q=>∃ ρ hd d k b,RH K ρ H hd∧RD K ρ H d x∧RD K ρ H k y∧eqG hd d k=some b∧Q (.bl (f b)) H
theorem dQ (hu:X.A.units + 24 < cLine):OpR X (compareOp .Eq) (Dk X.K id):=by
 intro pins s σ H x y v u Q I rx ry h
 obtain⟨ρ,hd,d,k,b,r,h1,h2,e,q⟩:=h
 exact (AL hu I r h1 h2 rx ry e).1 _ _ _ _ ⟨.bl b,H,I,rfl,q⟩
theorem eY (hu:X.A.units + 24 < cLine):OpR X (compareOp .NotEq) (Dk X.K not):=by
 intro pins s σ H x y v u Q I rx ry h
 obtain⟨ρ,hd,d,k,b,r,h1,h2,e,q⟩:=h
 exact (AL hu I r h1 h2 rx ry e).2 _ _ _ _ ⟨.bl (!b),H,I,rfl,q⟩
theorem fR {K:ZX}:Og K oEq (Dk K id):=by
 intro ρ H σd hd σ d k v w Q rs rv rw' p
 unfold oEq at p
 cases e:eqG hd d k with
 | none=>rw [e] at p;exact p.elim
 | some b=>rw [e] at p;exact⟨ρ,hd,d,k,b,rs.hp,rv,rw',e,p.here rs (by simp only [rD,RD];rfl)⟩
theorem ip {K:ZX}:Og K oNe (Dk K not):=by
 intro ρ H σd hd σ d k v w Q rs rv rw' p
 unfold oNe at p
 cases e:eqG hd d k with
 | none=>rw [e] at p;exact p.elim
 | some b=>rw [e] at p;exact⟨ρ,hd,d,k,b,rs.hp,rv,rw',e,p.here rs (by simp only [rD,RD])⟩
end
end Fm
namespace Fm
open PySem PySem.Spec L2
section
variable {K:ZX} {ρ ρ':YH} {H H':Hp} {hd hd':Hd} {σd:Sd} {σ:St}
theorem cw.outE {r:Res D}{k:D→Hd→Out}{En:uh}(p:cw K ρ H (outE r σd k) En) :
  bD K (rD K) ρ H σd σ r (fun v H'=>∃ ρ' d hd',Ext ρ H ρ' H'∧RS K ρ' H' σd hd' σ ∧ RD K ρ' H' d v∧cw K ρ' H' (k d hd') En):=by
 cases r with
 | ok d h'=>exact fun b H' ρ' ex rs q=>⟨ρ',d,h',ex,rs,q,cw.ext ex p⟩
 | exc x h'=>exact p
 | bad=>exact p
theorem RSt.set (r:RSt K ρ H σd σ){d:D}{v:V}(i:Nat)(h:RD K ρ H d v):RSt K ρ H (σd.set i (some d)) (σ.set i (some v)):=by
 refine⟨by simp [r.len],fun j x e => ?_⟩
 by_cases hj:i=j
 ·subst hj
  by_cases hl:i < σd.length
  ·simp only [slot,List.getElem?_set_self hl] at e
   cases e
   exact⟨v,by rw [List.getElem?_set_self (by rw [← r.len];exact hl)],h⟩
  ·simp only [slot] at e
   rw [List.getElem?_eq_none (by simp;omega)] at e
   cases e
 ·simp only [slot,ZP hj] at e
  rw [ZP hj]
  exact r.at' j x (by simpa only [slot] using e)
def HF (K:ZX) (g:GF):TG:=fun v σ H Q=>∃ ρ σd hd d σd',RS K ρ H σd hd σ ∧ RD K ρ H d v∧g d σd=some σd' ∧ ∀ σ',RS K ρ H σd' hd σ'→Q σ' H
def Fx (σ:Sd) (l:List Nat) (xs:List D):Sd:=(l.zip xs).foldl (fun σ p => σ.set p.1 (some p.2)) σ
def Fy (K:ZX) (l:List Nat):TGs:=fun vs σ H Q=>∃ ρ σd hd ds,RS K ρ H σd hd σ ∧ RDs K ρ H ds vs∧ds.length=l.length ∧ ∀ σ',RS K ρ H (Fx σd l ds) hd σ'→Q σ' H
end
def MG (X:Cx) (tg:Expr) (g:GF):Prop:=PG X tg (HF X.K g)
def MGs (X:Cx) (ts:YJ) (l:List Nat):Prop:=PGs X ts (Fy X.K l)
section
variable {X:Cx} {pos:Pos}
theorem PG.imp {tg:Expr}{t u:TG}(h:PG X tg t)(i:∀ v σ H Q,u v σ H Q→t v σ H Q):PG X tg u:=fun pins s σ H v w Q I r q=>h pins s σ H v w Q I r (i v σ H Q q)
theorem PGs.imp {tg:YJ}{t u:TGs}(h:PGs X tg t)(i:∀ v σ H Q,u v σ H Q→t v σ H Q):PGs X tg u:=fun pins s σ H v w Q I r q=>h pins s σ H v w Q I r (i v σ H Q q)
theorem aO {i:Nat}{x:Str}(hN:X.N.Nodup)(hi:X.N[i]? = some x)(hx:Loc X.env.scope x)(hf:X.fn x=true∨X.env.scope.names.lookup x=some .local:=by first|exact .inl rfl|exact .inr rfl|assumption):MG X (.Name x pos) (gN i):=by
 refine PG.imp (C0 hN hi hx hf) fun v σ H Q ⟨ρ,σd,hd,d,σd',rs,rv,e,q⟩ => ?_
 simp only [gN,Option.some.injEq] at e
 subst e
 exact q _ ⟨rs.hp,rs.st.set i rv⟩
theorem gM:MGs X [] []:=by
 refine PGs.imp C4 fun vs σ H Q ⟨ρ,σd,hd,ds,rs,rv,e,q⟩ => ?_
 have:ds=[]:=by simpa using e
 subst this
 simp only [RDs] at rv
 exact⟨rv,q σ rs⟩
theorem bH {e:Expr}{es:YJ}{i:Nat}{l:List Nat}(h1:MG X e (gN i))(h2:MGs X es l)
  (hs:(assignEach (e :: es) X.env).map (·.2)=assign e X.env :: (assignEach es X.env).map (·.2):=by rfl):MGs X (e :: es) (i :: l):=by
 refine PGs.imp (An h1 h2 hs) fun vs σ H Q ⟨ρ,σd,hd,ds,rs,rv,e,q⟩ => ?_
 cases ds with
 | nil=>simp at e
 | cons d ds =>
  simp only [RDs] at rv
  obtain⟨v,r,rfl,h1,h2⟩:=rv
  refine⟨v,r,rfl,ρ,σd,hd,d,_,rs,h1,rfl,fun σ' rs' => ?_⟩
  exact⟨ρ,_,hd,ds,rs',h2,by simpa using e,fun σ2 rs2=>q σ2 rs2⟩
theorem jq {es:YJ}{k:Nat}{l:List Nat}(hc:X.calm=true)(h:MGs X es l)
  (hn:(assignEach es X.env).length=l.length:=by rfl) (hst:(assignEach es X.env).findIdx? (·.1)=none:=by rfl):MG X (.Tuple es k pos) (gT l):=by
 refine PG.imp (EZ hc h hn hst) fun v σ H Q ⟨ρ,σd,hd,d,σd',rs,rv,e,q⟩ => ?_
 cases d<;>simp only [gT] at e<;>try (cases e;done)
 rename_i xs
 split at e
 ·rename_i hl
  cases e
  simp only [RD] at rv
  obtain⟨p,vs,rfl,hp,r⟩:=rv
  exact⟨p,vs,rfl,SqT.of hp,by rw [← r.length];exact hl,ρ,σd,hd,xs,rs,r,hl,q⟩
 ·cases e
theorem aX:MSs X [] cm:=PSs.imp CW fun En σ H ⟨ρ,σd,hd,rs,p⟩=>p σ H ρ Ext.refl rs
theorem ag {st:Stmt}{rest:List Stmt}{a b:SF}(h1:MS X st a)(h2:MSs X rest b):MSs X (st :: rest) (ay a b):=by
 refine PSs.imp (Al h1 h2) fun En σ H ⟨ρ,σd,hd,rs,p⟩=>⟨ρ,σd,hd,rs,?_⟩
 unfold ay at p
 cases e:a σd hd with
 | nx σ1 h1=>rw [e] at p;exact fun σ' H' ρ' ex rs'=>⟨ρ',σ1,h1,rs',cw.ext ex p⟩
 | rt d h1=>rw [e] at p;exact p
 | bk σ1 h1=>rw [e] at p;exact p
 | ct σ1 h1=>rw [e] at p;exact p
 | exc x σ1 h1=>rw [e] at p;exact p
 | bad=>rw [e] at p;exact p
theorem aq {st:Stmt}{a:SF}(h:MS X st a):MSs X [st] a:=CY h
theorem fL {st:Stmt}:MS X st ml:=PS.imp Am fun En σ H ⟨ρ,σd,hd,rs,p⟩=>p.elim
theorem aM {e:Expr}{f:EF}(h:ME X e f):MS X (.Return (some e) pos) (bC f):=by
 refine PS.imp (EV h) fun En σ H ⟨ρ,σd,hd,rs,p⟩=>⟨ρ,σd,hd,rs,(cw.outE p).imp fun v H1 ⟨ρ1,d,hd1,e1,rs1,rv,p1⟩ => ?_⟩
 exact p1 v H1 ρ1 Ext.refl rs1.hp rv
theorem ck {e:Expr}{f:EF}(h:ME X e f)(hs:swapsWith e none pos.line X.env=pure false:=by rfl):MS X (.Expr e pos) (gK f):=by
 refine PS.imp (CZ h hs) fun En σ H ⟨ρ,σd,hd,rs,p⟩=>⟨ρ,σd,hd,rs,(cw.outE p).imp fun v H1 ⟨ρ1,d,hd1,e1,rs1,rv,p1⟩ => ?_⟩
 exact p1 σ H1 ρ1 Ext.refl rs1
theorem bK {c:Expr}{a b:List Stmt}{t:TF}{fa fb:SF}(hc:MT X c t)(ha:MSs X a fa)(hb:MSs X b fb):MS X (.If c a b pos) (sIf t fa fb):=by
 refine PS.imp (Hh hc ha hb) fun En σ H ⟨ρ,σd,hd,rs,p⟩=>⟨ρ,σd,hd,rs,?_⟩
 unfold sIf at p
 cases e:t σd hd with
 | ok c h1 =>
  rw [e] at p
  intro b H' ρ' ex rs' q
  cases q
  cases c with
  | true=>simp only [if_true] at p ⊢;exact⟨ρ',σd,h1,rs',cw.ext ex p⟩
  | false=>simp only [Bool.false_eq_true,if_false] at p ⊢;exact⟨ρ',σd,h1,rs',cw.ext ex p⟩
 | exc x h1=>rw [e] at p;exact p
 | bad=>rw [e] at p;exact p
theorem aD {i:Nat}{x:Str}{e:Expr}{f:EF}{pos':Pos}(hN:X.N.Nodup)(hi:X.N[i]? = some x)(hx:Loc X.env.scope x)(he:ME X e f)(hs:swapsWith e (some (.Name x pos')) pos.line X.env=pure false:=by rfl)(hf:X.fn x=true∨X.env.scope.names.lookup x=some .local:=by first|exact .inl rfl|exact .inr rfl|assumption) :
  MS X (.Assign [.Name x pos'] e pos) (aP (gN i) f):=by
 refine PS.imp (E3 hN hi hx he hs hf) fun En σ H ⟨ρ,σd,hd,rs,p⟩=>⟨ρ,σd,hd,rs,(cw.outE p).imp fun v H1 ⟨ρ1,d,hd1,e1,rs1,rv,p1⟩ => ?_⟩
 exact p1 _ H1 ρ1 Ext.refl ⟨rs1.hp,rs1.st.set i rv⟩
theorem AM {tg e:Expr}{f:EF}{g:GF}(he:ME X e f)(hg:MG X tg g)(hs:swapsWithSole [tg] e pos.line X.env=pure false:=by rfl)(hw:swappedStores [tg] e X.env=pure none:=by rfl)
  (h1:(assignEach [tg] X.env).map (·.2)=[assign tg X.env]:=by rfl):MS X (.Assign [tg] e pos) (aP g f):=by
 refine PS.imp (vX he hg hs hw h1) fun En σ H ⟨ρ,σd,hd,rs,p⟩=>⟨ρ,σd,hd,rs,(cw.outE p).imp fun v H1 ⟨ρ1,d,hd1,e1,rs1,rv,p1⟩ => ?_⟩
 cases c:g d σd with
 | none=>rw [c] at p1;exact p1.elim
 | some σ1=>rw [c] at p1;exact⟨ρ1,σd,hd1,d,σ1,rs1,rv,c,fun σ' rs'=>p1 σ' H1 ρ1 Ext.refl rs'⟩
theorem Fz:Fm.ixN=L2.ixN:=rfl
theorem mz {o i e:Expr}{fo fi fe:EF}{p2:Pos}(he:ME X e fe)(ho:ME X o fo)(hi:ME X i fi)(hs:swapsWithSole [.Subscript o i p2] e pos.line X.env=pure false:=by rfl)(hw:swappedStores [.Subscript o i p2] e X.env=pure none:=by rfl)
  (h1:(assignEach [.Subscript o i p2] X.env).map (·.2)=[assign (.Subscript o i p2) X.env]:=by rfl) (ha:∀ v,assign (.Subscript o i p2) X.env v=(do
   let ov ← holding [v] (eval o X.env)
   let iv ← holding [v,ov] (eval i X.env)
   standAt p2
   holding [v,ov,iv] (setItem ov iv v)
   release [v,ov,iv] []):=by intro _;rfl):MS X (.Assign [.Subscript o i p2] e pos) (sg fo fi fe):=by
 refine PS.imp (vX he (Ao ho hi Ay ha) hs hw h1) fun En σ H ⟨ρ,σd,hd,rs,p⟩=>⟨ρ,σd,hd,rs,(cw.outE p).imp fun v H1 ⟨ρ1,d,hd1,e1,rs1,rv,p1⟩ => ?_⟩
 refine⟨ρ1,σd,hd1,rs1,(cw.outE p1).imp fun vo H2 ⟨ρ2,dO,hd2,e2,rs2,ro,p2⟩ => ?_⟩
 refine⟨ρ2,σd,hd2,rs2,(cw.outE p2).imp fun vi H3 ⟨ρ3,di,hd3,e3,rs3,ri,p3⟩ => ?_⟩
 have rv3:=(rv.mono (rs1.hp.kp e2)).mono (rs2.hp.kp e3)
 have ro3:=ro.mono (rs2.hp.kp e3)
 cases dO with
 | ref n =>
  cases di with
  | int j =>
   simp only at p3
   cases c:hd3[n]? with
   | none=>rw [c] at p3;exact p3.elim
   | some cell =>
    rw [c] at p3
    cases cell with
    | dct l=>exact p3.elim
    | lst l =>
     simp only at p3
     cases c2:ixN l.length j with
     | none=>rw [c2] at p3;exact p3.elim
     | some k =>
      rw [c2] at p3
      simp only [RD] at ro3 ri
      obtain⟨a,ha,rfl⟩:=ro3
      obtain⟨vs,hv,rvs⟩:=rs3.hp.cel n _ a c ha
      refine⟨a,vs,j,k,rfl,ri,hv,by rw [← rvs.length,← Fz];exact c2,?_⟩
      have hn:n < hd3.length:=(YO c).1
      have rh:=rs3.hp.write ha hn (RDs.set rv3 k rvs)
      have ex:Ext ρ3 H3 ρ3 (upd H3 a (.lst (vs.set k v))):=Ext.write (ZK ha)
      exact p3 σ _ ρ3 ex (rs3.ext ex rh)
  | _=>exact p3.elim
 | _=>exact p3.elim
end
section
variable (K:ZX)
structure pW (ρ0:YH) (H0:Hp) (J:It) (l:List D) (g:YL):Prop where
 go:∀ ρ H hd (i:Nat) d,Ext ρ0 H0 ρ H→RH K ρ H hd→im g l hd→l[i]? = some d→J.go i H ∧ ∀ x H',J.yld i H x H'→jd H H'∧RD K ρ H' d x
 stop:∀ ρ H hd,Ext ρ0 H0 ρ H→RH K ρ H hd→im g l hd→J.stop l.length H
 sz:l.length≤sizeLine
def HG (ρ:YH) (H:Hp) (σd:Sd) (σ:St) (r:Res (List D × YL)) (R:It→Hp→Prop):Prop:=match r with
 | .ok p hd'=>∀ J H' ρ',Ext ρ H ρ' H'→RS K ρ' H' σd hd' σ → pW K ρ' H' J p.1 p.2→R J H'
 | _=>False
def HH (f:IF):TI:=fun σ H R=>∃ ρ σd hd,RS K ρ H σd hd σ ∧ HG K ρ H σd σ (f σd hd) R
end
def MI (X:Cx) (tg e:Expr) (f:IF):Prop:=PI X tg e (HH X.K f)
section
variable {X:Cx} {pos:Pos} {tg:Expr}
theorem PI.imp {e:Expr}{t u:TI}(h:PI X tg e t)(i:∀ σ H R,u σ H R→t σ H R):PI X tg e u:=fun pins s σ H R I q=>h pins s σ H R I (i σ H R q)
theorem gw {iter:Expr}{body:List Stmt}{f:IF}{g:GF}{b:SF}(hp:PassesOwn (model X.prog X.w) X.A X.env X.xe)(hc:X.calm=true)(hi:MI X tg iter f)(hg:MG X tg g)(hb:MSs X body b)
  (hs:∀ x,foldedSetIterable iter X.env x=pure x:=by intro _;rfl):MS X (.For tg iter body [] pos) (jn f g b):=by
 refine PS.imp (E4 hp hc hi hg hb hs) fun En σ H ⟨ρ,σd,hd,rs,p⟩=>⟨ρ,σd,hd,rs,?_⟩
 unfold jn at p
 cases e:f σd hd with
 | exc x h'=>rw [e] at p;exact p
 | bad=>rw [e] at p;exact p
 | ok q hd1 =>
  rw [e] at p
  obtain⟨l,gd⟩:=q
  intro J H1 ρ1 ex1 rs1 wk
  simp only at p wk
  refine⟨fun i m σ' H'=>∃ ρ' σd' hd',Ext ρ1 H1 ρ' H'∧RS X.K ρ' H' σd' hd' σ'∧i≤l.length∧m=l.length - i∧cw X.K ρ' H' (iD gd l g b (l.drop i) σd' hd') En,
   ⟨l.length,ρ1,σd,hd1,Ext.refl,rs1,Nat.zero_le _,by simp,by simpa using cw.ext ex1 p⟩,?_⟩
  rintro i m σ' H' ⟨ρ',σd',hd',ex,rs',hil,rfl,pp⟩
  by_cases hlt:i < l.length
  ·have hdi:l[i]? = some l[i]:=by simp [hlt]
   rw [List.drop_eq_getElem_cons hlt] at pp
   unfold iD at pp
   by_cases hh:im gd l hd'
   ·rw [if_pos hh] at pp
    obtain⟨go,yl⟩:=wk.go ρ' H' hd' i _ ex rs'.hp hh hdi
    refine .inr ⟨go,fun σ2 H2=>∃ ρ2 σd2 hd2,Ext ρ1 H1 ρ2 H2∧RS X.K ρ2 H2 σd2 hd2 σ2∧cw X.K ρ2 H2 (iD gd l g b (l.drop (i + 1)) σd2 hd2) En,
     fun σ2 H2 ⟨ρ2,σd2,hd2,a1,a2,a3⟩=>⟨l.length - (i + 1),by omega,ρ2,σd2,hd2,a1,a2,hlt,rfl,a3⟩,fun x H2 y => ?_⟩
    obtain⟨sm,rx⟩:=yl x H2 y
    cases c:g l[i] σd' with
    | none=>rw [c] at pp;exact pp.elim
    | some σd2 =>
     rw [c] at pp
     simp only at pp
     refine⟨ρ',σd',hd',l[i],σd2,rs'.same sm,rx,c,fun σ2 rs2=>⟨ρ',σd2,hd',rs2,?_⟩⟩
     have e12:Ext ρ' H' ρ' H2:=Ext.same sm
     cases c2:b σd2 hd' with
     | nx σ3 h3=>rw [c2] at pp;exact fun σ4 H4 ρ4 ex4 rs4=>⟨ρ4,σ3,h3,ex.trans (e12.trans ex4),rs4,cw.ext (e12.trans ex4) pp⟩
     | ct σ3 h3=>rw [c2] at pp;exact fun σ4 H4 ρ4 ex4 rs4=>⟨ρ4,σ3,h3,ex.trans (e12.trans ex4),rs4,cw.ext (e12.trans ex4) pp⟩
     | bk σ3 h3=>rw [c2] at pp;exact fun σ4 H4 ρ4 ex4 rs4=>pp σ4 H4 ρ4 (e12.trans ex4) rs4
     | rt d h3=>rw [c2] at pp;exact fun v H4 ρ4 ex4 rs4 rv=>pp v H4 ρ4 (e12.trans ex4) rs4 rv
     | exc x σ3 h3=>rw [c2] at pp;exact pp
     | bad=>rw [c2] at pp;exact pp
   ·rw [if_neg hh] at pp;exact pp.elim
  ·have e0:i=l.length:=by omega
   subst e0
   rw [List.drop_length] at pp
   unfold iD at pp
   by_cases hh:im gd l hd'
   ·rw [if_pos hh] at pp
    exact .inl ⟨wk.stop ρ' H' hd' ex rs'.hp hh,pp σ' H' ρ' Ext.refl rs'⟩
   ·rw [if_neg hh] at pp;exact pp.elim
theorem AN {K:ZX}{ρ:YH}{H:Hp}{hd:Hd}{q:Addr}{l:List D}{vs:List V}(r:RH K ρ H hd)(hq:H q=some (.tup vs))(rv:RDs K ρ H l vs)(hz:vs.length≤sizeLine):pW K ρ H (Itt K q) l none where
 go:=fun ρ' H' hd' i d ex rh _ hi=>by
  have k:=r.kp ex
  obtain⟨v,hv,rd⟩:=(rv.mono k).get hi
  have sq:SqT K H' q vs:=SqT.of (k.tup q vs hq)
  refine⟨⟨vs,v,sq,hv⟩,fun x H2 y => ?_⟩
  obtain⟨rfl,y⟩:=y
  have:=y vs sq
  rw [hv] at this
  cases this
  exact⟨jd.refl _,rd⟩
 stop:=fun ρ' H' hd' ex rh _=>⟨vs,SqT.of ((r.kp ex).tup q vs hq),by rw [rv.length];exact ZL _⟩
 sz:=by rw [rv.length];exact hz
theorem AO {K:ZX}{ρ:YH}{H:Hp}{hd:Hd}{q:Addr}{l:List D}{vs:List V}(r:RH K ρ H hd)(hq:m7 K H q vs)(rv:RDs K ρ H l vs)(hz:vs.length≤sizeLine):pW K ρ H (Itl K q) l none where
 go:=fun ρ' H' hd' i d ex rh _ hi=>by
  have k:=r.kp ex
  obtain⟨v,hv,rd⟩:=(rv.mono k).get hi
  have sq:SqL K H' q vs:=(hq.mono k).sq
  refine⟨⟨vs,v,sq,hv⟩,fun x H2 y => ?_⟩
  obtain⟨rfl,y⟩:=y
  have:=y vs sq
  rw [hv] at this
  cases this
  exact⟨jd.refl _,rd⟩
 stop:=fun ρ' H' hd' ex rh _=>⟨vs,(hq.mono (r.kp ex)).sq,by rw [rv.length];exact ZL _⟩
 sz:=by rw [rv.length];exact hz
theorem AQ {K:ZX}{ρ:YH}{H:Hp}{n:Nat}{q:Addr}{l:List D}(hq : ρ[n]? = some q)(hz:l.length≤sizeLine):pW K ρ H (Itl K q) l (some n) where
 sz:=hz
 go:=fun ρ' H' hd' i d ex rh hl hi=>by
  obtain⟨vs,e,rv⟩:=rh.cel n _ q hl (ex.get hq)
  obtain⟨v,hv,rd⟩:=rv.get hi
  have sq:SqL K H' q vs:=SqL.of e
  refine⟨⟨vs,v,sq,hv⟩,fun x H2 y => ?_⟩
  obtain⟨rfl,y⟩:=y
  have:=y vs sq
  rw [hv] at this
  cases this
  exact⟨jd.refl _,rd⟩
 stop:=fun ρ' H' hd' ex rh hl=>by
  obtain⟨vs,e,rv⟩:=rh.cel n _ q hl (ex.get hq)
  exact⟨vs,SqL.of e,by rw [rv.length];exact ZL _⟩
theorem FA {l:Expr}{tl:TE}(hl:PE X l tl):PI X tg l (fun σ H R=>tl σ H fun x H1=>(∃ a xs,x=.ref a∧SqL X.K H1 a xs∧(xs.length≤sizeLine→R (Itl X.K a) H1)) ∨ ∃ a xs,x=.ref a∧SqT X.K H1 a xs∧(xs.length≤sizeLine→R (Itt X.K a) H1)):=by
 intro pins s σ H R I h
 refine thn (hl pins s σ H _ I h) fun v s1 ⟨x,H1,I1,r1,q1⟩ => ?_
 rcases q1 with ⟨a,xs,e,hq,q⟩|⟨a,xs,e,hq,q⟩
 ·subst e
  cases r1
  obtain⟨its,rv,p,hz⟩:=I1.list hq
  refine wpAny_pyIter_list p.isList ?_
  refine⟨s1.heap.objs.size,[s1.heap.objs.size],_,_,H1,rfl,I1.kept (t':=s1.toks) fun b o e=>ZH _ e,yY a _,⟨_,ZJ _ rfl,rfl,rfl⟩,fun b hb => ?_,q hz⟩
  have e:b=s1.heap.objs.size:=by simpa using hb
  subst e
  exact I1.fpOk (ZL _) (I1.hok.fresh (ZL _))
 ·subst e
  cases r1
  obtain⟨its,rv,p,hz⟩:=I1.tuple hq
  refine wpAny_pyIter_tuple (show s1.heap.IsTuple a its.toArray from p) ?_
  refine⟨s1.heap.objs.size,[s1.heap.objs.size],_,_,H1,rfl,I1.kept (t':=s1.toks) fun b o e=>ZH _ e,vZ a _,⟨_,ZJ _ rfl,rfl,rfl⟩,fun b hb => ?_,q hz⟩
  have e:b=s1.heap.objs.size:=by simpa using hb
  subst e
  exact I1.fpOk (ZL _) (I1.hok.fresh (ZL _))
theorem eI {e:Expr}{f:EF}(h:ME X e f):MI X tg e (d7 f):=by
 refine PI.imp (FA h) fun σ H R ⟨ρ,σd,hd,rs,p⟩=>⟨ρ,σd,hd,rs,?_⟩
 unfold d7 at p
 cases e:f σd hd with
 | exc x h1=>rw [e] at p;exact p
 | bad=>rw [e] at p;exact p
 | ok d hd1 =>
  rw [e] at p
  simp only [aA] at p
  intro v H1 ρ1 ex1 rs1 rv
  cases d<;>try exact p.elim
  ·rename_i l
   simp only [rD,RD] at rv
   obtain⟨q,vs,rfl,hq,rvs⟩:=rv
   exact .inr ⟨q,vs,rfl,SqT.of hq,fun hz=>p _ H1 ρ1 ex1 rs1 (AN rs1.hp hq rvs hz)⟩
  ·rename_i n
   simp only [rD,RD] at rv
   obtain⟨a,ha,rfl⟩:=rv
   cases c:hd1[n]? with
   | none=>simp only [c] at p;exact p.elim
   | some cell =>
    cases cell with
    | dct l=>simp only [c] at p;exact p.elim
    | lst l =>
     simp only [c] at p
     obtain⟨vs,hv,rvs⟩:=rs1.hp.cel n _ a c ha
     exact .inl ⟨a,vs,rfl,SqL.of hv,fun hz=>p _ H1 ρ1 ex1 rs1 (AQ ha (by rw [rvs.length];exact hz))⟩
  ·rename_i l
   simp only [rD,RD] at rv
   obtain⟨q,vs,rfl,hq,rvs⟩:=rv
   exact .inl ⟨q,vs,rfl,hq.sq,fun hz=>p _ H1 ρ1 ex1 rs1 (AO rs1.hp hq rvs hz)⟩
theorem wp {K:ZX}{ρ:YH}{H:Hp}(lo:Int)(n:Nat)(hz:n≤2000000):pW K ρ H (Itr lo n) ((List.range n).map fun k:Nat=>.int (lo + k)) none where
 go:=fun ρ' H' hd' i d ex rh _ hi=>by
  have hin:i < n:=by
   have:=(YO hi).1
   simpa using this
  refine⟨hin,fun x H2 y => ?_⟩
  obtain⟨rfl,rfl⟩:=y
  have e:d=.int (lo + i):=by simpa [hin] using hi.symm
  subst e
  exact⟨jd.refl _,by simp only [RD]⟩
 stop:=fun ρ' H' hd' ex rh _=>by
  show n≤_
  simp
 sz:=by
  have:(2000000:Nat)≤sizeLine:=by rw [sizeLine_eq];decide
  simp;omega
theorem cY {a:Expr} {f:EF} {p:Pos} (hg:Gl X "range") (hm:X.mg "range" = none) (ha:ME X a f) (hs:starEach [a] X.env=[(false,eval a X.env)]:=by rfl):MI X tg (.Call (.Name "range" p) [a] [] pos) (dz f):=by
 refine PI.imp (yZ hg hm (bW ha dy hs) hs) fun σ H R ⟨ρ,σd,hd,rs,pp⟩=>⟨ρ,σd,hd,rs,?_⟩
 unfold dz at pp
 cases e:f σd hd with
 | exc x h1=>rw [e] at pp;exact pp
 | bad=>rw [e] at pp;exact pp
 | ok d hd1 =>
  rw [e] at pp
  simp only [aA] at pp
  intro v H1 ρ1 ex1 rs1 rv
  cases d<;>try exact pp.elim
  rename_i n
  simp only at pp
  simp only [rD,RD] at rv
  subst rv
  split at pp
  ·rename_i hb
   refine⟨n,rfl,by omega,by omega,pp _ H1 ρ1 ex1 rs1 ?_⟩
   have:=wp (K:=X.K) (ρ := ρ1) (H:=H1) 0 n.toNat (by omega)
   simpa using this
  ·exact pp.elim
end
end Fm
namespace Fm
noncomputable section
open Classical
def eJ (G:Hd→Prop) (tg:GF) (cs:List TF) (e:EF):List D→Sd→Hd→Res (List D)
 | [],_,h=>if G h then .ok [] h else .bad
 | x :: xs,σ,h=>if G h then match tg x σ with
   | some σ=>(eF cs σ h).bind fun b h=>if b then (e σ h).bind fun d h=>(eJ G tg cs e xs σ h).bind fun ds h=>.ok (d :: ds) h
    else eJ G tg cs e xs σ h
   | none=>.bad
  else .bad
end
theorem sw {g:YL}{all:List D}{tg:GF}{cs:List TF}{e:EF}:∀ (xs:List D) (σ:Sd) (h:Hd),bS g all tg cs e xs σ h=eJ (im g all) tg cs e xs σ h
 | [],_,h=>by unfold bS eJ;rfl
 | x :: xs,σ,h=>by
  unfold bS eJ
  by_cases hh:im g all h
  ·rw [if_pos hh,if_pos hh]
   cases tg x σ with
   | none=>rfl
   | some σ'=>simp only [sw xs]
  ·rw [if_neg hh,if_neg hh]
end Fm
namespace Fm
open PySem PySem.Spec L2
section
variable {prog:Program} {w:World} {A:Around} {R:ZZ} {s:Shared}
theorem sy {elt target iter:Expr}{ifs:YJ}{scope:Scope}{pos:Pos}{it acc:Value}{env:Env}{E:ZY}(hE:∀ e s,¬ E e s)(I:Nat→Shared→Prop)
  (turn:∀ n s,I n s→wpAny (model prog w) A (pyNext it) (fun r s₁ => match r with
   | none=>R (.ok .next) s₁
   | some v=>wpAny (model prog w) A (letOwnedTupleGo target it v) (fun _ s₁ => wpAny (model prog w) A (assign target env v) (fun _ s₂ =>
     wpAny (model prog w) A (forIn ifs true fun c r=>if r=true then do let ok ← isTrue c env (eval c env);pure (ForInStep.yield ok) else pure (ForInStep.yield r)) (fun ok s₃ =>
      if ok=true then wpAny (model prog w) A (eval elt env) (fun x s₄ =>
       wpAny (model prog w) A (call (.builtin "list.append") [acc,x]) (fun _ s₅ => ∃ m,m < n∧I m s₅) E s₄) E s₃
      else ∃ m,m < n∧I m s₃) E s₂) E s₁) E s₁) E s)
  (n:Nat) (h:I n s) :
  codeAny (model prog w) A (.compLoop (.ListComp elt [⟨target,iter,ifs,0⟩] scope pos) 0 it acc env) R s:=by
 refine codeAny_loop rfl I (fun n s hI => ?_) n h
 show wpAny _ A ((compTurn (.ListComp elt [⟨target,iter,ifs,0⟩] scope pos) 0 it acc env).onRaise (fun x=>do noteFrame x env;theTreesLotGoes x)) _ _ s
 refine wpAny_noted ?_
 rw [compTurn_list]
 have no:∀ {α : Type} {t:Sem α} {Q Q' : α → Shared→Prop} {E':ZY} {s:Shared},wpAny (model prog w) A t Q E s→(∀ a s,Q a s→Q' a s)→wpAny (model prog w) A t Q' E' s:=fun h hq=>wpAny_mono h hq fun e s z=>(hE e s z).elim
 refine YW (wpAny_standAt (YW (no (turn n s hI) fun r s₁ h₁ => ?_)))
 cases r with
 | none=>exact YX h₁
 | some v =>
  refine YW (no h₁ fun _ s₁ h₁ => ?_)
  refine YW (no h₁ fun _ s₂ h₂ => YW (no h₂ fun ok s₃ h₃ => ?_))
  cases ok with
  | false=>exact YX ⟨rfl,h₃⟩
  | true =>
   exact YW (YW (no h₃ fun x s₄ h₄ => YW (no h₄ fun _ s₅ h₅ => YX (YX ⟨rfl,h₅⟩))))
end
theorem kr {env:Env}:∀ (l:List (Str × NameKind)) (cs:List (Str × Addr)),(∀ y∈l,y.2=.free → ∃ c,env.cells.lookup y.1=some c) →
  ∃ cl,(forIn l cs fun (x:Str × NameKind) (r:List (Str × Addr))=>if (x.2 == .free)=true then do let a ← cellOf env x.1;pure (ForInStep.yield ((x.1,a) :: r)) else pure (ForInStep.yield r))=(pure cl:Sem _) ∧
   (∀ x c,cl.lookup x=some c→cs.lookup x=some c∨env.cells.lookup x=some c)∧(∀ y∈l,y.2=.free → ∃ c,cl.lookup y.1=some c) ∧ ∀ x c,cs.lookup x=some c → ∃ c',cl.lookup x=some c'
 | [],cs,_=>⟨cs,by simp,fun x c h=>.inl h,fun y hy=>by simp at hy,fun x c h=>⟨c,h⟩⟩
 | (n,k) :: l,cs,hf=>by
  by_cases hk:k=.free
  ·subst hk
   obtain⟨c,hc⟩:=hf (n,.free) (by simp) rfl
   obtain⟨cl,h1,h2,h3,h4⟩:=kr l ((n,c) :: cs) fun y hy=>hf y (by simp [hy])
   refine⟨cl,?_,fun x d h => ?_,fun y hy hyf => ?_,fun x d h => ?_⟩
   ·rw [List.forIn_cons]
    simp only [beq_self_eq_true,if_true,cellOf,hc]
    exact h1
   ·rcases h2 x d h with q|q
    ·rw [List.lookup_cons] at q
     cases e:x == n with
     | true =>
      rw [e] at q
      have:x=n:=by simpa using e
      subst this
      cases q
      exact .inr hc
     | false=>rw [e] at q;exact .inl q
    ·exact .inr q
   ·rcases YQ hy with e|e
    ·subst e
     exact h4 n c (by simp [List.lookup_cons])
    ·exact h3 y e hyf
   ·by_cases e:x=n
    ·subst e
     exact h4 x c (by simp [List.lookup_cons])
    ·exact h4 x d (by rw [List.lookup_cons,beq_eq_false_iff_ne.mpr e];exact h)
  ·obtain⟨cl,h1,h2,h3,h4⟩:=kr l cs fun y hy=>hf y (by simp [hy])
   refine⟨cl,?_,h2,fun y hy hyf => ?_,h4⟩
   ·rw [List.forIn_cons]
    have:(k == NameKind.free)=false:=by simpa using hk
    simp only [this,Bool.false_eq_true,if_false]
    exact h1
   ·rcases YQ hy with e|e
    ·subst e;exact absurd hyf hk
    ·exact h3 y e hyf
theorem ku {scope:Scope}{env:Env}(hf:∀ y∈scope.names,y.2=.free → ∃ c,env.cells.lookup y.1=some c) :
  ∃ cl,closureFor scope env=pure cl∧(∀ x c,cl.lookup x=some c→env.cells.lookup x=some c) ∧ ∀ y∈scope.names,y.2=.free → ∃ c,cl.lookup y.1=some c:=by
 obtain⟨cl,h1,h2,h3,_⟩:=kr scope.names [] hf
 refine⟨cl,?_,fun x c h=>(h2 x c h).elim (fun z=>by simp at z) id,h3⟩
 unfold closureFor
 have e:(forIn scope.names ([] : List (Str × Addr)) fun (x:Str × NameKind) (r:List (Str × Addr))=>if (x.2 == .free)=true then do let a ← cellOf env x.1;pure (ForInStep.yield ((x.1,a) :: r)) else pure (ForInStep.yield r))=(pure cl:Sem _):=h1
 exact (congrArg (fun t:Sem (List (Str × Addr))=>t >>= fun r=>pure r) e).trans rfl
def cxC (X:Cx) (N:YI) (scope:Scope) (cl:List (Str × Addr)) (C:Addr) (s:Shared) (H:Hp) (ex:YH):Cx where
 prog:=X.prog
 w:=X.w
 K:=X.K
 mg:=X.mg
 base:=X.base
 A:=X.A
 N:=N
 s₀ := s
 H₀ := H
 env:=compEnvC scope cl C X.env
 outer:=X.stack
 stack:=X.stack
 ex:=ex
 fn:=fun _=>false
 calm:=X.calm
 pn:=[]
 xe:=fun _ _=>False
def MTs (X:Cx) (ifs:YJ) (cs:List TF):Prop :=
 ∀ (pins:List (Addr × Obj)) (s:Shared) (σ:St) (H:Hp) (Q:Bool→Hp→Prop),Inv X pins σ H s→kc X.K rB (eF cs) σ H Q →
  wpAny (model X.prog X.w) X.A (forIn ifs true fun c r=>if r=true then do let ok ← isTrue c X.env (eval c X.env);pure (ForInStep.yield ok) else pure (ForInStep.yield r)) (TP X pins σ Q) X.xe s
theorem eK {X:Cx}:MTs X [] []:=fun pins s σ H Q I ⟨ρ,σd,hd,rs,p⟩=>wpAny_tests_nil ⟨H,I,p.here rs rfl⟩
theorem jP {X:Cx}{c:Expr}{t:TF}(h:MT X c t):MTs X [c] [t]:=fun pins s σ H Q I ⟨ρ,σd,hd,rs,p⟩=>wpAny_tests_one (h pins s σ H Q I ⟨ρ,σd,hd,rs,by
 have e:eF [t] σd hd=t σd hd:=by
  simp only [eF]
  cases c:t σd hd with
  | ok b h'=>cases b<;>simp
  | exc x h'=>rfl
  | bad=>rfl
 rw [e] at p
 exact p⟩)
theorem jr {env:Env}{x:Str}:∀ {names:List (Str × NameKind)} {k:NameKind},(names.map fun (n,k)=>if (k == NameKind.free && env.scope.kind == .function && env.kindOf n == some .cell) then (n,NameKind.cell) else (n,k)).lookup x=some k →
  ∃ k0,names.lookup x=some k0∧(k=k0∨(k0=.free∧k=.cell))
 | [],_,h=>by simp at h
 | (n,k') :: r,k,h=>by
  have ih := @jr env x r k
  have h':List.lookup x ((if (k' == NameKind.free && env.scope.kind == .function && env.kindOf n == some .cell)=true then (n,NameKind.cell) else (n,k')) :: _)=some k:=h
  cases hx:x == n with
  | true =>
   refine⟨k',by simp [List.lookup_cons,hx],?_⟩
   by_cases hc:(k' == NameKind.free && env.scope.kind == .function && env.kindOf n == some .cell)=true
   ·rw [if_pos hc] at h'
    simp only [List.lookup_cons,hx,Option.some.injEq] at h'
    simp only [Bool.and_eq_true,beq_iff_eq] at hc
    exact .inr ⟨hc.1.1,h'.symm⟩
   ·rw [if_neg hc] at h'
    simp only [List.lookup_cons,hx,Option.some.injEq] at h'
    exact .inl h'.symm
  | false =>
   have:List.lookup x ((n,k') :: r)=List.lookup x r:=by simp [List.lookup_cons,hx]
   rw [this]
   refine ih ?_
   by_cases hc:(k' == NameKind.free && env.scope.kind == .function && env.kindOf n == some .cell)=true
   ·rw [if_pos hc] at h';simpa only [List.lookup_cons,hx] using h'
   ·rw [if_neg hc] at h';simpa only [List.lookup_cons,hx] using h'
theorem gx {x:Str}{k:NameKind}:∀ {l:List (Str × NameKind)},l.lookup x=some k→(x,k)∈l
 | [],h=>by simp at h
 | (n,k') :: r,h=>by
  rw [List.lookup_cons] at h
  cases e:x == n with
  | true =>
   rw [e] at h
   have:x=n:=by simpa using e
   subst this
   cases h
   exact ZV
  | false=>rw [e] at h;exact ZW _ (gx h)
structure bL (X:Cx) (scope:Scope) (own capn:YI) (caps:List Nat):Prop where
 kind:scope.kind=.function
 cell:∀ y∈scope.names,y.2 ≠ .cell
 names:∀ y∈scope.names,y.2=.local→scope.names.lookup y.1=some .local
 free:∀ y∈scope.names,y.2=.free→X.env.kindOf y.1=some .cell∨X.env.kindOf y.1=some .free
 cap:∀ (j:Nat) x,capn[j]? = some x → ∃ i,caps[j]? = some i∧X.N[i]? = some x∧scope.names.lookup x=some .free
 len:capn.length=caps.length
section
variable {X:Cx} {pins:List (Addr × Obj)} {σ:St} {H1:Hp} {s2:Shared} {scope:Scope} {own capn:YI} {caps:List Nat} {cl:List (Str × Addr)} {C:Addr} {ex:YH}
def stC (own:YI) (caps:List Nat) (σ:St):St:=List.replicate own.length none++caps.map fun i=>(σ[i]?).join
theorem FB (I:Inv X pins σ H1 s2)(S:bL X scope own capn caps)(hC:s2.heap.objs.size≤C)(hcl1:∀ x c,cl.lookup x=some c→X.env.cells.lookup x=some c)(hcl2:∀ y∈scope.names,y.2=.free → ∃ c,cl.lookup y.1=some c)
  (hf:∀ b∈ex,pR X pins H1 b) (hlt:∀ b∈ex,b < s2.heap.objs.size):(cxC X (own++capn) scope cl C s2 H1 ex).Ok where
 mod:=I.ok.mod
 kind:=S.kind
 glob:=I.ok.glob
 blt:=I.ok.blt
 above:=hC
 inj:=fun x y c h1 h2=>I.ok.inj x y c (hcl1 x c h1) (hcl1 y c h2)
 has:=fun x hx=>by
  have key:∀ k,(relabel scope X.env).names.lookup x=some k→k=.cell∨k=.free → ∃ c,cl.lookup x=some c:=fun k h hk=>by
   obtain⟨k0,h0,q⟩:=jr h
   have hm:=gx h0
   have:k0=.free:=by
    rcases q with q|q
    ·subst q
     rcases hk with e|e
     ·exact absurd e (S.cell _ hm)
     ·exact e
    ·exact q.1
   exact hcl2 _ hm this
  rcases hx with h|h
  ·exact key _ h (.inl rfl)
  ·exact key _ h (.inr rfl)
 cab:=fun x c h=>by cases h
 hd:=I.ok.hd
 frames:=I.ok.frames
 stk:=.inl rfl
 exf:=fun b hb=>by
  obtain⟨f0,f1,f2,f3,f4,f5⟩:=hf b hb
  exact⟨fun z=>absurd (Nat.lt_of_lt_of_le (hlt b hb) hC) (by rw [z];exact Nat.lt_irrefl _),fun x c e=>f4 x c (hcl1 x c e)⟩
 bs:=I.bs
 bsz:=ZM I.ok.bsz I.sz
 noex:=fun b o e hb=>by
  obtain⟨f0,f1,f2,f3,f4,f5⟩:=hf b hb
  rcases f3 with z|z
  ·exact I.ok.noex b o e z
  ·exact absurd (Nat.lt_of_lt_of_le (ZI (I.ok.bs b o e).1) z) (Nat.lt_irrefl _)
 exfs:=fun b hb hs=>by
  obtain⟨f0,f1,f2,f3,f4,f5⟩:=hf b hb
  rcases YQ (I.stkSub b hs) with z|z
  ·exact f1 z
  ·exact f2 z
 funs:=I.stack
 frf:=I.stkFree
theorem ld {env:Env}{x:Str}:∀ {names:List (Str × NameKind)},names.lookup x=some .free →
  (names.map fun (n,k)=>if (k == NameKind.free && env.scope.kind == .function && env.kindOf n == some .cell) then (n,NameKind.cell) else (n,k)).lookup x=some .cell ∨
  (names.map fun (n,k)=>if (k == NameKind.free && env.scope.kind == .function && env.kindOf n == some .cell) then (n,NameKind.cell) else (n,k)).lookup x=some .free
 | [],h=>by simp at h
 | (n,k') :: r,h=>by
  have ih := @ld env x r
  show List.lookup x ((if (k' == NameKind.free && env.scope.kind == .function && env.kindOf n == some .cell)=true then (n,NameKind.cell) else (n,k')) :: _)=_∨List.lookup x ((if (k' == NameKind.free && env.scope.kind == .function && env.kindOf n == some .cell)=true then (n,NameKind.cell) else (n,k')) :: _)=_
  cases hx:x == n with
  | true =>
   simp only [List.lookup_cons,hx,Option.some.injEq] at h
   subst h
   by_cases hc:(NameKind.free == NameKind.free && env.scope.kind == .function && env.kindOf n == some .cell)=true
   ·rw [if_pos hc];exact .inl (by simp only [List.lookup_cons,hx])
   ·rw [if_neg hc];exact .inr (by simp only [List.lookup_cons,hx])
  | false =>
   simp only [List.lookup_cons,hx] at h
   by_cases hc:(k' == NameKind.free && env.scope.kind == .function && env.kindOf n == some .cell)=true
   ·rw [if_pos hc];simp only [List.lookup_cons,hx];exact ih h
   ·rw [if_neg hc];simp only [List.lookup_cons,hx];exact ih h
theorem Dl {i:Nat}{v:V}(h:(stC own caps σ)[i]? = some (some v)):∃ j k,i=own.length + j∧caps[j]? = some k ∧ σ[k]? = some (some v):=by
 unfold stC at h
 by_cases hi:i < own.length
 ·rw [ZC (by simpa using hi)] at h
  simp [hi] at h
 ·rw [ZD (by simpa using Nat.le_of_not_lt hi)] at h
  simp only [List.length_replicate,ZQ] at h
  cases c:caps[i - own.length]? with
  | none=>rw [c] at h;cases h
  | some k =>
   rw [c] at h
   simp only [Option.map_some,Option.some.injEq] at h
   refine⟨i - own.length,k,by omega,c,?_⟩
   cases e : σ[k]? with
   | none=>rw [e] at h;cases h
   | some o=>rw [e] at h;simp only [Option.join_some] at h;rw [h]
theorem zj (I:Inv X pins σ H1 s2)(S:bL X scope own capn caps)(hC:s2.heap.objs.size < C)(hcl1:∀ x c,cl.lookup x=some c→X.env.cells.lookup x=some c)(hcl2:∀ y∈scope.names,y.2=.free → ∃ c,cl.lookup y.1=some c)
  (hf:∀ b∈ex,pR X pins H1 b) (hlt:∀ b∈ex,b < s2.heap.objs.size) {h1:Heap} {m:Str→YM} {tk:Nat} (hn:h1.Ns C m) (hk:∀ b o,s2.heap.get? b=some o→h1.get? b=some o)
  (hD:h1.get? s2.heap.objs.size=some { cls:=.type "list",data:=.seq #[] }) :
  Inv (cxC X (own++capn) scope cl C s2 H1 ex) [] (stC own caps σ) (upd H1 s2.heap.objs.size (.lst [])) { s2 with heap:=h1,toks:=tk } where
 ok:=FB I S (Nat.le_of_lt hC) hcl1 hcl2 hf hlt
 os:=rfl
 bare:=I.bare
 base:=Un.laid hk (ZL _) (I.hok.fresh (ZL _))
 loc:=by
  refine⟨m,hn,fun i x v e1 e2 e3 => ?_⟩
  obtain⟨j,k,rfl,hj,hk'⟩:=Dl e2
  have e1':capn[j]? = some x:=by
   have:(own++capn)[own.length + j]? = some x:=e1
   rw [ZD (by omega)] at this
   simpa using this
  obtain⟨k2,q1,q2,q3⟩:=S.cap j x e1'
  rw [hj] at q1;cases q1
  have hm:=gx q3
  have kd:=S.free _ hm rfl
  obtain⟨m0,hn0,hl⟩:=I.loc
  obtain⟨u,r,lk⟩:=hl k x v q2 hk' (.inr kd)
  refine⟨u,r,.inr ⟨ld q3,?_⟩⟩
  rcases lk with ⟨z,_⟩|⟨_,c,hc,o,ho,hd⟩
  ·rcases kd with e|e<;>(rw [z] at e;cases e)
  ·obtain⟨c',hc'⟩:=hcl2 _ hm rfl
   have:=hcl1 _ _ hc'
   rw [hc] at this
   cases this
   exact⟨c,hc',o,hk c o ho,hd⟩
 cell:=fun x c e=>by
  obtain⟨v,o,ho,hd⟩:=I.cell x c (hcl1 x c e)
  exact⟨v,o,hk c o ho,hd⟩
 free:=by
  show upd H1 _ _ C=none
  rw [aC (Nat.ne_of_gt hC)]
  exact I.hok.fresh (Nat.le_of_lt hC)
 freeC:=fun x c e=>by
  obtain⟨v,o,ho,hd⟩:=I.cell x c (hcl1 x c e)
  rw [aC (ZN (ZI ho))]
  exact I.freeC x c (hcl1 x c e)
 pin:=fun p hp=>absurd (show p∈([] : List (Addr × Obj)) from hp) (by simp)
 hok:=I.hok.laid hk (ZL _) ⟨Nat.zero_le _,[],0,.nil,hD⟩
 len:=by
  show (stC own caps σ).length=(own++capn).length
  simp [stC,S.len]
end
theorem RS.other {K:ZX}{ρ:YH}{H:Hp}{σd:Sd}{hd:Hd}{σ:St}{d:Addr}{ys zs:List V}(r:RS K ρ H σd hd σ)(h:H d=some (.lst ys))(n:d ∉ ρ):RS K ρ (upd H d (.lst zs)) σd hd σ ∧ Kp ρ H ρ (upd H d (.lst zs)):=by
 have k:Kp ρ H ρ (upd H d (.lst zs)):=⟨fun _ _ h=>h,fun a us e=>by
  rw [aC (fun z=>by rw [z,h] at e;cases e)];exact e,fun a o u e=>by
  rw [aC (fun z=>by rw [z,h] at e;cases e)];exact e,fun a φ e=>by
  rw [aC (fun z=>by rw [z,h] at e;cases e)];exact e⟩
 refine⟨⟨⟨r.hp.len,r.hp.nd,fun m c a h1 h2=>(r.hp.cel m c a h1 h2).mono k (aC fun z=>n (by rw [← z];exact ZK h2))⟩,r.st.mono k⟩,k⟩
theorem Ext.other {ρ ρ':YH}{H H':Hp}{d:Addr}{o:HO}(e:Ext ρ H ρ' H')(h:H d=none):Ext ρ H ρ' (upd H' d o) :=
 ⟨e.pre,e.new,fun p u hp n=>by rw [aC (bg hp h)];exact e.frame p u hp n⟩
theorem uy {nl:Nat}{caps:List Nat}{σd:Sd}{i:Nat}{d:D}(h:slot (fK nl caps σd) i=some d):∃ j k,i=nl + j∧caps[j]? = some k∧slot σd k=some d:=by
 unfold fK at h
 simp only [slot] at h
 by_cases hi:i < nl
 ·rw [ZC (by simpa using hi)] at h
  simp [hi] at h
 ·rw [ZD (by simpa using Nat.le_of_not_lt hi)] at h
  simp only [List.length_replicate,ZQ] at h
  cases c:caps[i - nl]? with
  | none=>rw [c] at h;cases h
  | some k =>
   rw [c] at h
   simp only [Option.map_some] at h
   refine⟨i - nl,k,by omega,c,?_⟩
   simp only [slot]
   revert h
   cases e : σd[k]? with
   | none=>simp
   | some o=>cases o<;>simp
structure uz (K:ZX) (ρ0:YH) (H0:Hp) (J:It) (l:List D) (G:Hd→Prop):Prop where
 go:∀ ρ H hd (i:Nat) d,Ext ρ0 H0 ρ H→RH K ρ H hd→G hd→l[i]? = some d→J.go i H ∧ ∀ x H',J.yld i H x H'→jd H H'∧RD K ρ H' d x
 stop:∀ ρ H hd,Ext ρ0 H0 ρ H→RH K ρ H hd→G hd→J.stop l.length H
 sz:l.length≤sizeLine
theorem pW.g {K:ZX}{ρ:YH}{H:Hp}{J:It}{l:List D}{g:YL}(w:pW K ρ H J l g):uz K ρ H J l (im g l):=⟨w.go,w.stop,w.sz⟩
structure CD where
 i:Nat
 ys:List V
 acc:List D
 rest:List D
 ρ:YH
 σd:Sd
 hd:Hd
 H:Hp
 σ:St
structure CI (X:Cx) (own capn:YI) (scope:Scope) (cl:List (Str × Addr)) (s2:Shared) (C:Addr) (H1:Hp) (ρ1:YH) (fp:YH) (tn:Nat→Heap→Prop) (G:Hd→Prop) (g:GF) (cs:List TF) (e:EF) (l:List D) (hdF:Hd) (ds:List D) (d:CD) (s':Shared):Prop where
 le:d.i≤l.length
 inv:Inv (cxC X (own++capn) scope cl C s2 H1 fp) [] d.σ d.H s'
 st:tn d.i s'.heap
 fr:∀ b∈fp,d.H b=none
 at':d.H s2.heap.objs.size=some (.lst d.ys)
 out:s2.heap.objs.size∉d.ρ
 yl:d.ys.length≤d.i
 ex:Ext ρ1 H1 d.ρ d.H
 rs:RS X.K d.ρ d.H d.σd d.hd d.σ
 ac:RDs X.K d.ρ d.H d.acc d.ys
 run:eJ G g cs e (l.drop d.i) d.σd d.hd=.ok d.rest hdF
 eq:d.acc++d.rest=ds
section
variable {X:Cx} {pins:List (Addr × Obj)} {σ:St} {H1:Hp} {s2:Shared} {scope:Scope} {own capn:YI} {caps:List Nat} {cl:List (Str × Addr)}
theorem wq {ρ1:YH}{σd:Sd}{hd1:Hd}(S:bL X scope own capn caps)(r:RS X.K ρ1 H1 σd hd1 σ){d:Addr}(hd:H1 d=none):RS X.K ρ1 (upd H1 d (.lst [])) (fK own.length caps σd) hd1 (stC own caps σ):=by
 have sm:=bT (o:=HO.lst []) hd
 refine⟨r.hp.same sm,⟨by simp [stC,fK],fun i x e => ?_⟩⟩
 obtain⟨j,k,rfl,hj,hs⟩:=uy e
 obtain⟨v,h1,h2⟩:=r.st.at' k x hs
 refine⟨v,?_,h2.mono (Kp.same sm)⟩
 unfold stC
 rw [ZD (by simp)]
 simp [hj,h1]
theorem mC {elt tg iter:Expr}{ifs:YJ}{pos:Pos}{it:Addr}{fp:YH}{tn:Nat→Heap→Prop}{J:It}{l:List D}{G:Hd→Prop}{g:GF}{cs:List TF}{e:EF}{ρ1:YH}{σd:Sd}{hd1 hdF:Hd}{ds:List D}{E:ZY}{RR:Value→Addr→ZZ}
  (hc:X.calm=true) (S:bL X scope own capn caps) (hin:∀ cl C s H ex,MG (cxC X (own++capn) scope cl C s H ex) tg g∧MTs (cxC X (own++capn) scope cl C s H ex) ifs cs∧ME (cxC X (own++capn) scope cl C s H ex) elt e)
  (I1:Inv X pins σ H1 s2) (T:vY X.prog X.w X.K tg J fp it tn) (st0:tn 0 s2.heap) (hf:∀ b∈fp,pR X pins H1 b) (rs1:RS X.K ρ1 H1 σd hd1 σ) (wk:uz X.K ρ1 H1 J l G)
  (hcl1:∀ x c,cl.lookup x=some c→X.env.cells.lookup x=some c) (hcl2:∀ y∈scope.names,y.2=.free → ∃ c,cl.lookup y.1=some c)
  (run:eJ G g cs e l (fK own.length caps σd) hd1=.ok ds hdF)
  (hRR:∀ C s' m H' ρ' vs,s2.heap.objs.size < C→s'.heap.Ns C m→Inv X pins σ H' s'→H' C=none→Ext ρ1 H1 ρ' H'→RH X.K ρ' H' hdF→H1 s2.heap.objs.size=none→H' s2.heap.objs.size=some (.lst vs)→s2.heap.objs.size ∉ ρ'→RDs X.K ρ' H' ds vs →
   RR (.ref s2.heap.objs.size) C (.ok .next) s') :
  wpAny (model X.prog X.w) X.A (newList []) (fun acc s₃ => wpAny (model X.prog X.w) X.A (newFunctionEnv scope X.env.globals cl [] X.env.qual none .none (some X.env)) (fun cenv s₄ =>
   codeAny (model X.prog X.w) X.A (.compStart (.ListComp elt [⟨tg,iter,ifs,0⟩] scope pos) 0 (.ref it) acc { cenv with scope:=relabel scope X.env }) (RR acc cenv.locals) s₄) E s₃) E s2:=by
 refine wpAny_newObj_type (wpAny_newFunctionEnv S.cell (by intro y hy;simp at hy) (fun h₁ hns₁ hsb₁ => ?_) S.kind)
 dsimp only at hns₁ hsb₁ ⊢
 generalize hH2:s2.heap.push { cls:=.type "list",dict:=none,data:=.seq ([] : YG).toArray } = H2 at hns₁ hsb₁ ⊢
 have hC:H2.objs.size=s2.heap.objs.size + 1:=by rw [← hH2,Heap.size_push]
 have hDC:s2.heap.objs.size≠H2.objs.size:=by rw [hC];exact ZN (Nat.lt_succ_self _)
 have old:∀ b o,s2.heap.get? b=some o→h₁.get? b=some o:=fun b o e=>hsb₁.extBut b o (by rw [hC];exact ZN (Nat.lt_succ_of_lt (ZI e))) (ZH _ (hH2 ▸ ZH _ e))
 have hacc:h₁.get? s2.heap.objs.size=some { cls:=.type "list",data:=.seq #[] }:=hsb₁.extBut _ _ hDC (ZH _ (hH2 ▸ ZJ _ rfl))
 have hlt:∀ b∈fp,b < s2.heap.objs.size:=fun b hb=>by
  obtain⟨o,ho,_⟩:=T.obj 0 _ st0 b hb
  exact ZI ho
 have hCl:s2.heap.objs.size < H2.objs.size:=by rw [hC];exact Nat.lt_succ_self _
 have hD0:H1 s2.heap.objs.size=none:=I1.hok.fresh (ZL _)
 have st1:tn 0 h₁ := T.keep 0 _ _ st0 fun b hb o e=>old b o e
 have hn1:s2.heap.objs.size ∉ ρ1:=rs1.hp.free hD0
 obtain⟨hG,hT,hE⟩:=hin cl H2.objs.size s2 H1 fp
 have I':=zj (tk:=s2.toks + ([] : List (Str × Value)).length) I1 S hCl hcl1 hcl2 hf hlt hns₁ old hacc
 have fpC:∀ {pins':List (Addr × Obj)} {H':Hp},(∀ b∈fp,H' b=none) → ∀ b∈fp,pR (cxC X (own++capn) scope cl H2.objs.size s2 H1 fp) [] H' b:=fun {pins' H'} hn b hb=>by
  obtain⟨f0,f1,f2,f3,f4,f5⟩:=hf b hb
  have lt:=hlt b hb
  refine⟨hn b hb,fun z=>absurd lt (by rw [show b=H2.objs.size from z,hC];exact Nat.not_lt.mpr (Nat.le_succ _)),fun z => ?_,.inl hb,fun x c e=>f4 x c (hcl1 x c e),fun p hp=>absurd (show p∈([] : List (Addr × Obj)) from hp) (by simp)⟩
  rcases YQ (I1.stkSub b z) with q|q
  ·exact f1 q
  ·exact f2 q
 have loop:∀ s₃ : Shared,s₃ = { s2 with heap:=h₁,toks:=s2.toks + ([] : List (Str × Value)).length } →
   codeAny (model X.prog X.w) X.A (.compLoop (.ListComp elt [⟨tg,iter,ifs,0⟩] scope pos) 0 (.ref it) (.ref s2.heap.objs.size) (compEnvC scope cl H2.objs.size X.env)) (RR (.ref s2.heap.objs.size) H2.objs.size) s₃ := by
  rintro s₃ rfl
  refine sy (E:=fun _ _=>False) (fun _ _ z=>z) (fun n s'=>∃ d:CD,n=l.length - d.i∧CI X own capn scope cl s2 H2.objs.size H1 ρ1 fp tn G g cs e l hdF ds d s') ?_ l.length
   ⟨⟨0,[],[],ds,ρ1,_,hd1,_,_⟩,by simp,Nat.zero_le _,I',st1,fun b hb => ?_,aS,hn1,ZL _,Ext.same (bT hD0),wq S rs1 hD0,RDs.nil,by simpa using run,rfl⟩
  ·rintro n s' ⟨⟨i,ys,acc,rest,ρ',σd',hd',H',σ'⟩,rfl,ci⟩
   have hil:i≤l.length:=ci.le
   have I':Inv (cxC X (own++capn) scope cl H2.objs.size s2 H1 fp) [] σ' H' s':=ci.inv
   have stn:tn i s'.heap:=ci.st
   have hfp:∀ b∈fp,H' b=none:=ci.fr
   have hDy:H' s2.heap.objs.size=some (.lst ys):=ci.at'
   have hnD:s2.heap.objs.size ∉ ρ':=ci.out
   have hyl:ys.length≤i:=ci.yl
   have ex:Ext ρ1 H1 ρ' H':=ci.ex
   have rs':RS X.K ρ' H' σd' hd' σ':=ci.rs
   have racc:RDs X.K ρ' H' acc ys:=ci.ac
   have hrun:eJ G g cs e (l.drop i) σd' hd'=.ok rest hdF:=ci.run
   have hds:acc++rest=ds:=ci.eq
   by_cases hlt':i < l.length
   ·have hdi:l[i]? = some l[i]:=by simp [hlt']
    rw [List.drop_eq_getElem_cons hlt'] at hrun
    unfold eJ at hrun
    by_cases hh:G hd'
    ·rw [if_pos hh] at hrun
     obtain⟨go,yl⟩:=wk.go ρ' H' hd' i _ ex rs'.hp hh hdi
     cases c:g l[i] σd' with
     | none=>rw [c] at hrun;cases hrun
     | some σd2 =>
      rw [c] at hrun
      simp only at hrun
      refine thn (T.item (cxC X (own++capn) scope cl H2.objs.size s2 H1 fp) rfl rfl rfl hc i [] s' σ' H' (fun _ _=>False) I' (fpC (pins':=[]) hfp) stn go) fun r s₁ ⟨u,hr,h4⟩ => ?_
      subst hr
      refine thn h4 fun _ s5 ⟨x,H5,I5,r5,y5,st5,fr5⟩ => ?_
      obtain⟨sm,rx⟩:=yl x H5 y5
      have I5':=I5.pinned (fpC (pins':=[]) fr5) (T.obj _ _ st5)
      have rs5:=rs'.same sm
      have hDy5:=sm _ _ hDy
      refine thn (hG _ s5 σ' H5 x u (fun σ6 H6=>H6=H5∧RS X.K ρ' H5 σd2 hd' σ6) I5' r5 ⟨ρ',σd',hd',l[i],σd2,rs5,rx,c,fun σ6 rs6=>⟨rfl,rs6⟩⟩) fun _ s6 ⟨σ6,H6,I6,hH6,rs6⟩ => ?_
      subst hH6
      cases c2:eF cs σd2 hd' with
      | exc z h7=>rw [c2] at hrun;cases hrun
      | bad=>rw [c2] at hrun;cases hrun
      | ok b hd7 =>
       rw [c2] at hrun
       simp only [aA] at hrun
       refine thn (hT _ s6 σ6 H6 (fun b' H7=>b'=b ∧ ∃ ρ7,Ext ρ' H6 ρ7 H7∧RS X.K ρ7 H7 σd2 hd7 σ6) I6 ⟨ρ',σd2,hd',rs6,by
        rw [c2]
        exact fun b' H7 ρ7 ex7 rs7 q=>⟨q.symm,ρ7,ex7,rs7⟩⟩) fun b' s7 ⟨H7,I7,hb',ρ7,ex7,rs7⟩ => ?_
       subst hb'
       have stay:∀ {σ8:St} {H8:Hp} {s8:Shared},Inv (cxC X (own++capn) scope cl H2.objs.size s2 H1 fp) ([]++nZ fp s5.heap) σ8 H8 s8→tn (i + 1) s8.heap ∧ ∀ b∈fp,H8 b=none:=fun {σ8 H8 s8} I8 =>
        ⟨T.keep _ _ _ st5 fun b hb o e=>(I8.pin (b,o) (List.mem_append_right _ (List.mem_append_right _ (iC hb e)))).1,fun b hb=>by
         obtain⟨o,e,d⟩:=T.obj _ _ st5 b hb
         exact (I8.pin (b,o) (List.mem_append_right _ (List.mem_append_right _ (iC hb e)))).2.1⟩
       have ex5:Ext ρ' H' ρ7 H7:=(Ext.same sm).trans ex7
       have hDy7:H7 s2.heap.objs.size=some (.lst ys):=ex5.frame _ _ hDy hnD
       have hnD7:=ex5.out hDy hnD
       have racc7:=racc.mono (rs'.hp.kp ex5)
       cases b' with
       | false =>
        simp only [Bool.false_eq_true,if_false] at hrun ⊢
        obtain⟨st8,f8⟩:=stay I7
        exact⟨l.length - (i + 1),by omega,⟨i + 1,ys,acc,rest,ρ7,σd2,hd7,H7,σ6⟩,rfl,hlt',I7.unpinned,st8,f8,hDy7,hnD7,Nat.le_succ_of_le hyl,ex.trans ex5,rs7,racc7,hrun,hds⟩
       | true =>
        simp only [if_true] at hrun ⊢
        cases c3:e σd2 hd7 with
        | exc z h7=>rw [c3] at hrun;cases hrun
        | bad=>rw [c3] at hrun;cases hrun
        | ok d hd8 =>
         rw [c3] at hrun
         simp only [aA] at hrun
         cases c4:eJ G g cs e (l.drop (i + 1)) σd2 hd8 with
         | exc z h7=>rw [c4] at hrun;cases hrun
         | bad=>rw [c4] at hrun;cases hrun
         | ok rest' hd9 =>
          rw [c4] at hrun
          simp only [aA,Res.ok.injEq] at hrun
          obtain⟨hrest,hF⟩:=hrun
          subst hrest hF
          refine thn (hE _ s7 σ6 H7 (fun v H8=>∃ ρ8,Ext ρ7 H7 ρ8 H8∧RS X.K ρ8 H8 σd2 hd8 σ6∧RD X.K ρ8 H8 d v) I7 ⟨ρ7,σd2,hd7,rs7,by
           rw [c3]
           exact fun v H8 ρ8 ex8 rs8 q=>⟨ρ8,ex8,rs8,q⟩⟩) fun u8 s8 ⟨v8,H8,I8,r8,ρ8,ex8,rs8,rd8⟩ => ?_
          have hDy8:H8 s2.heap.objs.size=some (.lst ys):=ex8.frame _ _ hDy7 hnD7
          have hnD8:=ex8.out hDy7 hnD7
          refine thn (qE _ s8 σ6 H8 (.ref s2.heap.objs.size) [v8] (.ref s2.heap.objs.size) [u8] (fun _ H9=>H9=upd H8 s2.heap.objs.size (.lst (ys++[v8]))) I8 rfl (.cons r8 .nil) ⟨_,ys,v8,rfl,rfl,hDy8,by have:=wk.sz;omega,rfl⟩) fun u9 s9 ⟨v9,H9,I9,r9,q9⟩ => ?_
          subst q9
          obtain⟨st9,f9⟩:=stay I9
          obtain⟨rs9,k9⟩:=rs8.other (zs:=ys++[v8]) hDy8 hnD8
          exact⟨l.length - (i + 1),by omega,⟨i + 1,ys++[v8],acc++[d],rest',ρ8,σd2,hd8,_,σ6⟩,rfl,hlt',I9.unpinned,st9,f9,aS,hnD8,by simp;exact hyl,(ex.trans (ex5.trans ex8)).other hD0,rs9,
           ((racc7.mono (rs7.hp.kp ex8)).mono k9).append (RDs.cons (rd8.mono k9) RDs.nil),c4,by rw [← hds];simp⟩
    ·rw [if_neg hh] at hrun;cases hrun
   ·have e0:i=l.length:=by omega
    subst e0
    rw [List.drop_length] at hrun
    unfold eJ at hrun
    by_cases hh:G hd'
    ·rw [if_pos hh] at hrun
     simp only [Res.ok.injEq] at hrun
     obtain⟨hrest,hF⟩:=hrun
     subst hrest hF
     rw [List.append_nil] at hds
     subst hds
     refine thn (T.done (cxC X (own++capn) scope cl H2.objs.size s2 H1 fp) rfl rfl rfl hc _ [] s' σ' H' (fun _ _=>False) I' (fpC (pins':=[]) hfp) stn (wk.stop ρ' H' hd' ex rs'.hp hh)) fun r s₁ ⟨hr,I4⟩ => ?_
     subst hr
     obtain⟨m,hm,_⟩:=I4.loc
     refine hRR H2.objs.size s₁ m H' ρ' ys hCl hm ?_ I4.free ex rs'.hp hD0 hDy hnD racc
     exact I1.call' I4.os I4.base I4.hok I4.bare fun b hb=>by
      obtain⟨f0,f1,f2,f3,f4,f5⟩:=hf b hb
      exact⟨f3,f1,f4,f5⟩
    ·rw [if_neg hh] at hrun;cases hrun
  ·show upd H1 _ _ b=none
   rw [aC (ZN (hlt b hb))]
   exact (hf b hb).1
 exact codeAny_compStart_list (loop _ rfl) (T.self _ 0 _ _ _ st1 (loop _ rfl))
end
section
variable {X:Cx} {pos:Pos} {scope:Scope} {own capn:YI} {caps:List Nat}
theorem eL {elt tg iter:Expr}{ifs:YJ}{f:IF}{g:GF}{cs:List TF}{e:EF}(hc:X.calm=true)(S:bL X scope own capn caps)(hi:MI X tg iter f)
  (hin:∀ cl C s H ex,MG (cxC X (own++capn) scope cl C s H ex) tg g∧MTs (cxC X (own++capn) scope cl C s H ex) ifs cs∧ME (cxC X (own++capn) scope cl C s H ex) elt e)
  (hs:∀ x,foldedSetIterable iter X.env x=pure x:=by intro _;rfl):MF X (.ListComp elt [⟨tg,iter,ifs,0⟩] scope pos) (ce own.length caps f g cs e):=by
 intro pins s σ H Q I ⟨ρ,σd,hd,rs,p⟩
 rw [eval_ListComp]
 unfold ce at p
 cases c:f σd hd with
 | exc z h7=>rw [c] at p;exact p.elim
 | bad=>rw [c] at p;exact p.elim
 | ok q hd1 =>
  obtain⟨l,gd⟩:=q
  rw [c] at p
  simp only [aA] at p
  obtain⟨cl,h1,hcl1,hcl2⟩:=ku (scope:=scope) (env:=X.env) fun y hy hyf=>I.ok.has y.1 (S.free y hy hyf)
  refine wpAny_comprehension_free (use:=none) rfl hs h1 S.kind S.names (thn (hi pins s σ H (fun J H1=>∃ ρ1,Ext ρ H ρ1 H1∧RS X.K ρ1 H1 σd hd1 σ ∧ pW X.K ρ1 H1 J l gd) I ⟨ρ,σd,hd,rs,by
   rw [c]
   exact fun J H' ρ' ex rs' wk=>⟨ρ',ex,rs',wk⟩⟩) fun v s1 h1=>thn h1 fun itv s2 h2 => ?_)
  obtain⟨it,fp,tn,J,H1,rfl,I1,T,st0,hf,ρ1,ex1,rs1,wk⟩:=h2
  cases c2:bS gd l g cs e l (fK own.length caps σd) hd1 with
  | exc z h7=>rw [c2] at p;exact p.elim
  | bad=>rw [c2] at p;exact p.elim
  | ok ds hdF =>
   rw [c2] at p
   refine mC (RR:=fun acc C=>compPost (model X.prog X.w) X.A X.xe none (EP X pins σ Q) acc C) hc S hin I1 T st0 hf rs1 wk.g hcl1 hcl2 ((sw _ _ _).symm.trans c2) fun C s' m H' ρ' vs hC hn I' hCn ex rh hD0 hD hnD rds => ?_
   refine⟨m,hn,fun h' sb=>⟨.ref s2.heap.objs.size,H',?_,rfl,?_⟩⟩
   ·refine I'.turned (it:=C) (t':=s'.toks) (fun b o hb e=>(sb.2 b hb).trans e) hCn ?_ (.inr (Nat.le_of_lt (ZS I1.sz hC))) (fun x c e z => ?_) fun q hq z => ?_
    ·exact Nat.ne_of_gt (Nat.lt_trans I1.lt hC)
    ·obtain⟨v,o,ho,hd⟩:=I1.cell x c e
     exact absurd (Nat.lt_trans (ZI ho) hC) (by rw [z];exact Nat.lt_irrefl _)
    ·exact absurd (Nat.lt_trans (ZI (I1.pin q hq).1) hC) (by rw [z];exact Nat.lt_irrefl _)
   ·exact p _ vs H' ρ' (ex1.trans ex) (rs.ext (ex1.trans ex) rh) (ex1.fresh hD0 (rs1.hp.free hD0)) hD hnD rds
theorem lh {i:Nat}{x:Str}{pos':Pos}{elt tg iter:Expr}{ifs:YJ}{f:IF}{g:GF}{cs:List TF}{e:EF}{cpos:Pos}(hN:X.N.Nodup)(hi':X.N[i]? = some x)(hx:Loc X.env.scope x)(hc:X.calm=true)(S:bL X scope own capn caps)(hi:MI X tg iter f)
  (hin:∀ cl C s H ex,MG (cxC X (own++capn) scope cl C s H ex) tg g∧MTs (cxC X (own++capn) scope cl C s H ex) ifs cs∧ME (cxC X (own++capn) scope cl C s H ex) elt e)
  (hsw:swapsWith (.ListComp elt [⟨tg,iter,ifs,0⟩] scope cpos) (some (.Name x pos')) pos.line X.env=pure true:=by rfl)
  (hs:∀ x,foldedSetIterable iter X.env x=pure x:=by intro _;rfl) (hf':X.fn x=true∨X.env.scope.names.lookup x=some .local:=by first|exact .inl rfl|exact .inr rfl|assumption) :
  MS X (.Assign [.Name x pos'] (.ListComp elt [⟨tg,iter,ifs,0⟩] scope cpos) pos) (aP (gN i) (aQ (ce own.length caps f g cs e))):=by
 intro pins s σ H En I ⟨ρ,σd,hd,rs,p⟩
 rw [exec_Assign_Name_used _ _ _ _ hsw]
 refine YW (wpAny_standAt ?_)
 show wpAny _ _ ((comprehension _ scope X.env _ (newList []) _ _ _ >>= fun _=>pure ()) >>= fun _=>pure Flow.next) _ _ _
 have p1:=cw.outE (σ := σ) p
 unfold aQ ce at p1
 cases c:f σd hd with
 | exc z h7=>rw [c] at p1;exact p1.elim
 | bad=>rw [c] at p1;exact p1.elim
 | ok q hd1 =>
  obtain⟨l,gd⟩:=q
  rw [c] at p1
  simp only [aA] at p1
  obtain⟨cl,h1,hcl1,hcl2⟩:=ku (scope:=scope) (env:=X.env) fun y hy hyf=>I.ok.has y.1 (S.free y hy hyf)
  refine YW (YW (wpAny_comprehension_free (Q:=fun _ s'=>wpAny (model X.prog X.w) X.A (pure ()) (fun _ s'=>wpAny (model X.prog X.w) X.A (pure Flow.next) (SP X pins En) X.xe s') X.xe s') (use:=some (assign (.Name x pos') X.env)) rfl hs h1 S.kind S.names (thn (hi pins s σ H (fun J H1=>∃ ρ1,Ext ρ H ρ1 H1∧RS X.K ρ1 H1 σd hd1 σ ∧ pW X.K ρ1 H1 J l gd) I ⟨ρ,σd,hd,rs,by
   rw [c]
   exact fun J H' ρ' ex rs' wk=>⟨ρ',ex,rs',wk⟩⟩) fun v s1 h1=>thn h1 fun itv s2 h2 => ?_)))
  obtain⟨it,fp,tn,J,H1,rfl,I1,T,st0,hf,ρ1,ex1,rs1,wk⟩:=h2
  cases c2:bS gd l g cs e l (fK own.length caps σd) hd1 with
  | exc z h7=>rw [c2] at p1;exact p1.elim
  | bad=>rw [c2] at p1;exact p1.elim
  | ok ds hdF =>
   rw [c2] at p1
   simp only [aA] at p1
   by_cases hz:ds.length≤SZ
   ·rw [if_pos hz] at p1
    refine mC (RR:=fun acc C=>compPost (model X.prog X.w) X.A X.xe (some (assign (.Name x pos') X.env)) _ acc C) hc S hin I1 T st0 hf rs1 wk.g hcl1 hcl2 ((sw _ _ _).symm.trans c2) fun C s' m H' ρ' vs hC hn I' hCn ex rh hD0 hD hnD rds => ?_
    refine wpAny_assign_Name (l9 I' hN hi' hx (v:=.ref s2.heap.objs.size) rfl (fun s'' I'' hsb => ?_) hf')
    have hCl:C≠X.env.locals:=Nat.ne_of_gt (Nat.lt_trans I1.lt hC)
    have hCc:∀ y c,X.env.cells.lookup y=some c→c≠C:=fun y c e z=>by
     obtain⟨v,o,ho,hd⟩:=I1.cell y c e
     exact absurd (Nat.lt_trans (ZI ho) hC) (by rw [z];exact Nat.lt_irrefl _)
    refine⟨m,?_,fun h' sb=>YX (YX ?_)⟩
    ·obtain⟨a,sa,ha⟩:=hsb
     refine hn.sameBut sa ?_
     rcases ha with z|z
     ·rw [z];exact hCl
     ·exact Ne.symm (hCc _ _ z)
    ·have I3:Inv X pins (σ.set i (some (.ref s2.heap.objs.size))) H' { s'' with heap:=h' }:=I''.turned (it:=C) (t':=s''.toks) (fun b o hb e=>(sb.2 b hb).trans e) hCn hCl (.inr (Nat.le_of_lt (ZS I1.sz hC))) hCc fun q hq z =>
      absurd (Nat.lt_trans (ZI (I1.pin q hq).1) hC) (by rw [z];exact Nat.lt_irrefl _)
     have ex':Ext ρ H ρ' H':=ex1.trans ex
     have rh':=rh.alloc hD hnD rds
     have hH0:H s2.heap.objs.size=none:=ex1.fresh hD0 (rs1.hp.free hD0)
     have exA:Ext ρ H (ρ'++[s2.heap.objs.size]) H':=⟨by obtain⟨t,rfl⟩:=ex'.pre;exact⟨t++[s2.heap.objs.size],by simp⟩,fun a ha=>by
      rcases YS ha with z|z
      ·exact ex'.new a z
      ·simp at z;subst z;exact .inr hH0,ex'.frame⟩
     obtain⟨ρ2,d2,hd2,e2,rs2,rd2,pn⟩:=p1 (.ref s2.heap.objs.size) H' (ρ'++[s2.heap.objs.size]) exA (rs.ext exA rh') (by
      simp only [rD,RD]
      refine⟨s2.heap.objs.size,?_,rfl⟩
      rw [← rh.len]
      simp)
     exact⟨_,H',I3,pn _ H' ρ2 Ext.refl ⟨rs2.hp,rs2.st.set i rd2⟩⟩
   ·rw [if_neg hz] at p1;exact p1.elim
end
end Fm
namespace Fm
open PySem PySem.Spec L2 PyProof.Rows
mutual
def rfs (k:Nat):D→Prop
 | .ref n=>n < k
 | .tup l=>jf k l
 | .lit l=>jf k l
 | .exn _ l=>jf k l
 | _=>True
def jf (k:Nat):List D→Prop
 | []=>True
 | x :: xs=>rfs k x∧jf k xs
end
section
variable {K:ZX} {ρ ρ' t:YH} {H H':Hp} {hd hd':Hd}
mutual
theorem RD.rfs:∀ {d:D} {v:V},RD K ρ H d v→Fm.rfs ρ.length d
 | .non,_,_=>by simp only [Fm.rfs]
 | .bl _,_,_=>by simp only [Fm.rfs]
 | .int _,_,_=>by simp only [Fm.rfs]
 | .str _,_,_=>by simp only [Fm.rfs]
 | .tup l,_,h=>by
  simp only [RD] at h;obtain⟨p,vs,_,_,h2⟩:=h
  simp only [Fm.rfs];exact RDs.rfs h2
 | .lit l,_,h=>by
  simp only [RD] at h;obtain⟨p,vs,_,_,h2⟩:=h
  simp only [Fm.rfs];exact RDs.rfs h2
 | .ref n,_,h=>by
  simp only [RD] at h;obtain⟨a,h1,_⟩:=h
  simp only [Fm.rfs];exact (YO h1).1
 | .exn _ _,_,h=>by simp only [RD] at h;obtain⟨rfl,_⟩:=h;simp only [Fm.rfs,Fm.jf]
theorem RDs.rfs:∀ {l:List D} {vs:List V},RDs K ρ H l vs→Fm.jf ρ.length l
 | [],_,_=>by simp only [Fm.jf]
 | d :: ds,_,h=>by
  simp only [RDs] at h;obtain⟨v,r,_,h1,h2⟩:=h
  simp only [Fm.jf];exact⟨RD.rfs h1,RDs.rfs h2⟩
end
mutual
theorem RD.cut:∀ {d:D} {v:V},RD K (ρ ++ t) H d v→Fm.rfs ρ.length d→RD K ρ H d v
 | .non,_,h,_=>by simp only [RD] at h ⊢;exact h
 | .bl _,_,h,_=>by simp only [RD] at h ⊢;exact h
 | .int _,_,h,_=>by simp only [RD] at h ⊢;exact h
 | .str _,_,h,_=>by simp only [RD] at h ⊢;exact h
 | .tup l,_,h,q=>by
  simp only [RD] at h ⊢;simp only [Fm.rfs] at q
  obtain⟨p,vs,e,h1,h2⟩:=h
  exact⟨p,vs,e,h1,RDs.cut h2 q⟩
 | .lit l,_,h,q=>by
  simp only [RD] at h ⊢;simp only [Fm.rfs] at q
  obtain⟨p,vs,e,h1,h2⟩:=h
  exact⟨p,vs,e,h1,RDs.cut h2 q⟩
 | .ref n,_,h,q=>by
  simp only [RD] at h ⊢;simp only [Fm.rfs] at q
  obtain⟨a,h1,h2⟩:=h
  exact⟨a,by rwa [ZC q] at h1,h2⟩
 | .exn _ _,_,h,_=>by simp only [RD] at h ⊢;exact h
theorem RDs.cut:∀ {l:List D} {vs:List V},RDs K (ρ ++ t) H l vs→Fm.jf ρ.length l→RDs K ρ H l vs
 | [],_,h,_=>by simp only [RDs] at h ⊢;exact h
 | d :: ds,_,h,q=>by
  simp only [RDs] at h ⊢;simp only [Fm.jf] at q
  obtain⟨v,r,e,h1,h2⟩:=h
  exact⟨v,r,e,RD.cut h1 q.1,RDs.cut h2 q.2⟩
end
mutual
theorem oy {k:Nat}:∀ {d:D},pure? d=true→Fm.rfs k d
 | .non,_=>by simp only [Fm.rfs]
 | .bl _,_=>by simp only [Fm.rfs]
 | .int _,_=>by simp only [Fm.rfs]
 | .str _,_=>by simp only [Fm.rfs]
 | .tup l,h=>by simp only [pure?] at h;simp only [Fm.rfs];exact iq h
 | .lit l,h=>by simp only [pure?] at h;simp only [Fm.rfs];exact iq h
 | .exn _ l,h=>by simp only [pure?] at h;simp only [Fm.rfs];exact iq h
 | .ref _,h=>by simp only [pure?] at h;cases h
theorem iq {k:Nat}:∀ {l:List D},io l=true→Fm.jf k l
 | [],_=>by simp only [Fm.jf]
 | x :: xs,h=>by
  simp only [io,Bool.and_eq_true] at h
  simp only [Fm.jf];exact⟨oy h.1,iq h.2⟩
end
def AR (k:Nat):cP→Prop
 | .lst l=>Fm.jf k l
 | .dct l=>Fm.jf k (l.map (·.2))
theorem RC.rfs {c:cP}{a:Addr}(h:RC K ρ H c a):AR ρ.length c:=by
 cases c with
 | lst l=>obtain⟨vs,_,h2⟩:=h;exact h2.rfs
 | dct l=>obtain⟨vs,_,_,h2⟩:=h;exact h2.rfs
theorem RC.cut {c:cP}{a:Addr}(h:RC K (ρ ++ t) H c a)(q:AR ρ.length c):RC K ρ H c a:=by
 cases c with
 | lst l=>obtain⟨vs,h1,h2⟩:=h;exact⟨vs,h1,h2.cut q⟩
 | dct l=>obtain⟨vs,h1,h2,h3⟩:=h;exact⟨vs,h1,h2,h3.cut q⟩
theorem sA {k:Nat}{c:cP}(h:jo c=true):AR k c:=by
 cases c with
 | lst l=>exact iq h
 | dct l =>
  have:∀ l:List (Int × D),(l.all fun p=>pure? p.2)=true→Fm.jf k (l.map (·.2)):=by
   intro l
   induction l with
   | nil=>intro _;simp only [List.map_nil,Fm.jf]
   | cons x l ih=>intro h;simp only [List.all_cons,Bool.and_eq_true] at h;simp only [XC,Fm.jf];exact⟨oy h.1,ih h.2⟩
  exact this l h
theorem RH.back (r:RH K ρ H hd)(r':RH K (ρ ++ t) H' hd')(o:x3 hd hd'):RH K ρ H' (hd'.take hd.length):=by
 have hl:(ρ ++ t).length=hd'.length:=r'.len
 refine⟨by rw [List.length_take,← hl,ZB,← r.len];omega,(List.nodup_append.mp r'.nd).1,fun n c a h1 h2 => ?_⟩
 have hn:n < hd.length:=by rw [← r.len];exact (YO h2).1
 rw [List.getElem?_take_of_lt hn] at h1
 have q:=r'.cel n c a h1 (by rw [ZC (by rw [r.len];exact hn)];exact h2)
 refine q.cut ?_
 rcases o n c hn h1 with z|z
 ·exact (r.cel n c a z h2).rfs
 ·exact sA z
def oz (K:ZX) (ρ:YH) (H:Hp) (r:Res D) (Q:VK):Prop:=match r with
 | .ok d hd'=>∀ v H' ρ',Ext ρ H ρ' H'→RH K ρ' H' hd'→RD K ρ' H' d v→Q v H'
 | _=>False
def spF (K:ZX) (F:Fn) (np:Nat):Sp:=fun vs H Q _=>∃ ρ hd ds,RH K ρ H hd∧RDs K ρ H ds vs∧ds.length=np∧oz K ρ H (F ds hd) Q
theorem Ext.short (e:Ext ρ H (ρ ++ t) H'):Ext ρ H ρ H':=⟨⟨[],by simp⟩,fun _ h=>.inl h,e.frame⟩
theorem oz.letGo {r:Res D}{Q:VK}(rh:RH K ρ H hd)(p:oz K ρ H (letGo hd r) Q):oz K ρ H r Q:=by
 cases r with
 | exc x h'=>exact p
 | bad=>exact p
 | ok d h' =>
  intro v H' ρ' ex rh' rd
  simp only [Fm.letGo] at p
  split at p
  ·rename_i hc
   obtain⟨t,rfl⟩:=ex.pre
   exact p v H' ρ ex.short (rh.back rh' hc.2) (rd.cut (oy hc.1))
  ·exact p v H' ρ' ex rh' rd
theorem oz.runB {n:Nat}{b:SF}{ds:List D}{Q:VK}(p:oz K ρ H (runB n b ds hd) Q):cw K ρ H (b (ds.map some++List.replicate (n - ds.length) none) hd) { nx:=fun _ H'=>Q .non H',rt:=Q }:=by
 unfold Fm.runB at p
 cases e:b (ds.map some++List.replicate (n - ds.length) none) hd with
 | nx σ h'=>rw [e] at p;exact fun σ' H' ρ' ex rs=>p .non H' ρ' ex rs.hp (by simp only [RD])
 | rt d h'=>rw [e] at p;exact p
 | bk σ h'=>rw [e] at p;exact p.elim
 | ct σ h'=>rw [e] at p;exact p.elim
 | exc x σ h'=>rw [e] at p;exact p.elim
 | bad=>rw [e] at p;exact p.elim
theorem zk {N:YI}{ds:List D}{vs:List V}(r:RDs K ρ H ds vs):RSt K ρ H (ds.map some++List.replicate (N.length - ds.length) none) (L2.jj N vs):=by
 have hl:=r.length
 refine⟨by simp [L2.jj,hl],fun i d e => ?_⟩
 simp only [slot] at e
 by_cases hi:i < ds.length
 ·rw [ZC (by simpa using hi)] at e
  simp only [ZQ,ZE hi,Option.map_some] at e
  cases e
  obtain⟨v,hv,q⟩:=r.get (i:=i) (d:=ds[i]) (by simp [hi])
  refine⟨v,?_,q⟩
  unfold L2.jj
  rw [ZC (by simp;omega)]
  simp [hv]
 ·rw [ZD (by simpa using Nat.le_of_not_lt hi)] at e
  simp only [List.getElem?_replicate] at e
  by_cases hq:i - (List.map some ds).length < N.length - ds.length
  ·simp only [hq,if_true] at e;cases e
  ·simp only [hq,if_false] at e;cases e
end
structure Def (P:Program) (w:World) (K:ZX) (mg:Str→YM) (base:Heap) (x:Str) (k np:Nat) (F:Fn):Prop where
 ex:∃ f fd ps,mg x=some (.ref f)∧PySem.W.keepIn K (.ref f)=true∧n6 K fd ps []∧bR P w K mg base CX0 k f fd ps (spF K F np)
section
variable {P:Program} {w:World} {K:ZX} {mg:Str→YM} {base:Heap}
theorem bM {x:Str}{st:Stmt}{f:Addr}{fd:FuncData}{N ps:YI}{k:Nat}{b:SF}(F:Fun K x x st f fd)(S:aI N ps (ax st))
  (body:∀ (cdv:Value) (A:Around) (outer:List Env) (s:Shared) (H:Hp) (E:XK),ig k (A.deeper (envOfC x (ax st) s.heap.objs.size f cdv))→MSs (v7 CX0 P w K mg base N x (ax st) f cdv A outer s H E).nox (cO st) b) :
  bR P w K mg base CX0 (k + 1) f fd ps (spF K (bJ ps.length N.length b) ps.length):=by
 refine F.ok S (fun vs H Q E ⟨ρ,hd,ds,rh,rd,hl,p⟩=>by rw [← rd.length];exact hl) fun cdv A outer s H vs Q E hr ⟨ρ,hd,ds,rh,rd,hl,p⟩=>⟨_,body cdv A outer s H E hr,ρ,_,hd,⟨rh,zk rd⟩,?_⟩
 simp only [bJ,hl,if_true] at p
 exact (oz.letGo rh p).runB
theorem Def.mk' {x:Str}{f:Addr}{fd:FuncData}{ps:YI}{k np:Nat}{F:Fn}(hm:mg x=some (.ref f))(hk:PySem.W.keepIn K (.ref f)=true)(hb:n6 K fd ps [])(h:bR P w K mg base CX0 k f fd ps (spF K F np)):Def P w K mg base x k np F:=⟨f,fd,ps,hm,hk,hb,h⟩
end
section
variable {X:Cx} {pos p:Pos}
theorem Dm {x:Str}{k np:Nat}{F:Fn}{e:Expr}{es:YJ}{r:LF}(hd:Def X.prog X.w X.K X.mg X.base x k np F)(hr:ig k X.A)(hg:Gl X x)(ha:MA X (e :: es) r)(hnp:∀ ds h d h',F ds h=.ok d h'→ds.length=np)
  (hdb:(x == ("__debug__" : Str))=false:=by decide) (he:starEach (e :: es) X.env=(false,eval e X.env) :: starEach es X.env:=by rfl) (hpl:(backTo pos (starEach es X.env)).any (·.1)=false:=by rfl) :
  ME X (.Call (.Name x p) (e :: es) [] pos) (au F r):=by
 obtain⟨f,fd,ps,h1,h2,h3,h4⟩:=hd.ex
 refine PE.imp (C9 h4 hr hg h1 h2 h3 .nil Hz ha hdb he hpl) fun σ H Q ⟨ρ,σd,hd,rs,pp⟩=>⟨ρ,σd,hd,rs,(bD.bind (R:=rDs X.K) pp).imp fun vs H1 ⟨ρ1,ds,hd1,e1,rs1,rv,p1⟩ => ?_⟩
 rw [List.append_nil]
 cases c:F ds hd1 with
 | exc z h'=>rw [c] at p1;exact p1.elim
 | bad=>rw [c] at p1;exact p1.elim
 | ok d hd2 =>
  rw [c] at p1
  refine⟨ρ1,hd1,ds,rs1.hp,rv,hnp _ _ _ _ c,?_⟩
  rw [c]
  exact fun v H' ρ' ex rh rd=>p1 v H' ρ' ex (rs1.ext ex rh) rd
theorem Dn {np n:Nat}{b:SF}:∀ ds h d h',bJ np n b ds h=.ok d h'→ds.length=np:=by
 intro ds h d h' e
 unfold bJ at e
 split at e
 ·assumption
 ·cases e
end
theorem HJ {l:PySem.W.OpenLaw}{q:Program}{loose:YI}{XP:(Str→YM)→Heap→Prop}{YP:World→Heap→Prop}{d:DefRec}{K:Params→ZX}{F:Fn}{k:Nat}{x:Str}(hn:l.most=some 63)(hdf:d.params.defaults=[])(hr:ig k callerA)
  (hY:∀ (w:World) (h:Heap),YP w h→(K w.params).In h)
  (hF:∀ (w:World) (mg:Str→YM) (fa:Addr) (h:Heap),(K w.params).In h→h.Ns mainGlobals mg→mg d.name=some (.ref fa) →
   ∃ fd:FuncData,(∀ (s:Shared) (u:Value),BindsTo s fd ⟨[u],[]⟩ [(x,u)]) ∧ ∀ base:Heap,(K w.params).In base→base.Ns mainGlobals mg→bR l.prog w (K w.params) mg base CX0 k fa fd [x] (spF (K w.params) F 1))
  (law:∀ ns:YF,ns.length≤63 → ∃ h,F [.lit (ns.map .int)] []=.ok (.bl true) h) :
  PySem.W.WalkO q loose XP YP l.row.toRowW d [] (fun f vs=>PySem.call f vs):=by
 refine L2.Dh (n:=63) (k:=k) (x:=x) (CX:=fun _=>CX0) (sp:=fun w=>spF (K w.params) F 1) hn (by decide) hdf hr hY hF (fun w H a ns hl hO hS => ?_) fun _ _ _ _ _ z=>z
 obtain⟨h,e⟩:=law ns hl
 have hL:m7 (K w.params) H a (ns.map V.int):=by
  rcases hS with (z|⟨o,z⟩)|z
  ·rcases hO a with y|⟨o,xs,y⟩<;>(rw [z] at y;cases y)
  ·exact .inl ⟨o,z⟩
  ·exact .inr z
 have hI:RDs (K w.params) [] H (ns.map D.int) (ns.map V.int):=by
  clear hl hS e hL law
  induction ns with
  | nil=>exact RDs.nil
  | cons n ns ih=>exact RDs.cons (by simp only [RD]) ih
 refine⟨[],[],[.lit (ns.map .int)],⟨rfl,List.nodup_nil,fun n c a h1=>by simp at h1⟩,RDs.cons (by simp only [RD];exact⟨a,_,rfl,hL,hI⟩) RDs.nil,rfl,?_⟩
 rw [e]
 intro v H' ρ' ex rh rd
 simpa only [RD] using rd
end Fm
namespace Fm
open PySem PySem.Spec L2
open PyProof.Rows (Subscript_ tail_any)
def tyS:Ty→String
 | .int => "int" | .bool => "bool" | .tuple => "tuple" | .list => "list" | .str => "str"
theorem fX (t:Ty):typeOf (.type (tyS t))=pure (.type "type"):=by
 cases t
 ·exact F.isi_meta_int
 ·exact F.isi_meta_bool
 ·exact F.isi_meta_tuple
 ·exact F.isi_meta_list
 ·exact F.isi_meta_str
theorem Do (t:Ty):isSubtype (.type "NoneType") (.type (tyS t))=pure false:=by cases t<;>(rw [isSubtype_type];kernel_rfl)
theorem FC {t:Ty} (h:t ≠ .int):isSubtype (.type "int") (.type (tyS t))=pure false:=by cases t<;>first|exact absurd rfl h|(rw [isSubtype_type];kernel_rfl)
theorem Dp {t:Ty} (h:t ≠ .int) (h2:t ≠ .bool):isSubtype (.type "bool") (.type (tyS t))=pure false:=by cases t<;>first|exact absurd rfl h|exact absurd rfl h2|(rw [isSubtype_type];kernel_rfl)
theorem FD {t:Ty} (h:t ≠ .str):isSubtype (.type "str") (.type (tyS t))=pure false:=by cases t<;>first|exact absurd rfl h|(rw [isSubtype_type];kernel_rfl)
theorem AS {t:Ty} (h:t ≠ .tuple):isSubtype (.type "tuple") (.type (tyS t))=pure false:=by cases t<;>first|exact absurd rfl h|(rw [isSubtype_type];kernel_rfl)
theorem ye {t:Ty} (h:t ≠ .list):isSubtype (.type "list") (.type (tyS t))=pure false:=by cases t<;>first|exact absurd rfl h|(rw [isSubtype_type];kernel_rfl)
theorem Dq (t:Ty):isSubtype (.type "dict") (.type (tyS t))=pure false:=by cases t<;>(rw [isSubtype_type];kernel_rfl)
theorem jQ (t:Ty):isSubtype (.type (tyS t)) (.type (tyS t))=pure true:=by cases t<;>(rw [isSubtype_type];kernel_rfl)
theorem uA:isSubtype (.type "bool") (.type (tyS .int))=pure true:=by rw [isSubtype_type];kernel_rfl
theorem m8 {n:String}{t:Ty}(h:n≠tyS t):(Value.type n == Value.type (tyS t))=false:=by
 rw [beq_eq_false_iff_ne];intro e;cases e;exact h rfl
theorem wu {a b:Ty}(h:a≠b):(a == b)=false:=by cases a<;>cases b<;>first|rfl|exact absurd rfl h
section
variable {X:Cx} {pos p:Pos}
theorem FE {pins:List (Addr × Obj)}{σ:St}{H:Hp}{s:Shared}{ρ:YH}{hd:Hd}{d:D}{v:V}{u:Value}{t:Ty}{b:Bool}{Q:ZY}{E:ZY}(I:Inv X pins σ H s)(rh:RH X.K ρ H hd)(rd:RD X.K ρ H d v)(r:bB v u)(e:zh hd t d=some b)
  (q:∀ s',Inv X pins σ H s'→Q (.bool b) s'):wpAny (model X.prog X.w) X.A (call (.builtin "isinstance") [u,.type (tyS t)]) Q E s:=by
 have q0:=q s I
 have q1:=q { s with toks:=s.toks + 1 } (I.tok _)
 have yes:∀ {n:String},s.TypeIs u n→isSubtype (.type n) (.type (tyS t))=pure true→Q (.bool true) s→wpAny (model X.prog X.w) X.A (call (.builtin "isinstance") [u,.type (tyS t)]) Q E s:=fun h1 h2 h3=>call_isinstance (isinstance_true (fX t) h2) ⟨h1,h3⟩
 cases d<;>simp only [RD] at rd<;>simp only [zh] at e
 ·subst rd;cases r;cases e
  exact call_isinstance (isinstance_false_none (by cases t<;>exact m8 (by decide)) (fX t) (Do t)) q1
 ·subst rd;cases r
  by_cases h1:t=.int
  ·subst h1;cases e;exact yes (n := "bool") rfl uA q0
  ·by_cases h2:t=.bool
   ·subst h2;cases e;exact yes (n := "bool") rfl (jQ .bool) q0
   ·rw [wu h1,wu h2] at e;cases e
    exact call_isinstance (isinstance_false_bool (by cases t<;>first|exact absurd rfl h1|exact absurd rfl h2|exact m8 (by decide)) (fX t) (Dp h1 h2)) q1
 ·subst rd;obtain⟨tk,rfl⟩:=r
  by_cases h1:t=.int
  ·subst h1;cases e;exact yes (n := "int") rfl (jQ .int) q0
  ·rw [wu h1] at e;cases e
   exact call_isinstance (isinstance_false_int (by cases t<;>first|exact absurd rfl h1|exact m8 (by decide)) (fX t) (FC h1)) q1
 ·subst rd;obtain⟨tk,rfl⟩:=r
  by_cases h1:t=.str
  ·subst h1;cases e;exact yes (n := "str") rfl (jQ .str) q0
  ·rw [wu h1] at e;cases e
   exact call_isinstance (isinstance_false_str (by cases t<;>first|exact absurd rfl h1|exact m8 (by decide)) (fX t) (FD h1)) q1
 ·obtain⟨a,vs,rfl,ha,_⟩:=rd
  cases r
  obtain⟨its,_,o,ho,hc,_⟩:=g9 I.hok ha
  by_cases h1:t=.tuple
  ·subst h1;cases e;exact yes (n := "tuple") ⟨o,ho,hc⟩ (jQ .tuple) q0
  ·rw [wu h1] at e;cases e
   exact call_isinstance (isinstance_false_tuple (by cases t<;>first|exact absurd rfl h1|exact m8 (by decide)) (fX t) (AS h1)) ⟨⟨o,ho,hc⟩,q1⟩
 ·rename_i n
  obtain⟨a,ha,rfl⟩:=rd
  cases r
  cases c:hd[n]? with
  | none=>rw [c] at e;cases e
  | some cell =>
   rw [c] at e
   cases cell with
   | lst l =>
    obtain⟨vs,hv,_⟩:=rh.cel n _ a c ha
    obtain⟨z,its,k,_,ho⟩:=I.hok a _ hv
    by_cases h1:t=.list
    ·subst h1;cases e;exact yes (n := "list") ⟨_,ho,rfl⟩ (jQ .list) q0
    ·simp only [wu h1] at e;cases e
     exact call_isinstance (isinstance_false_list (by cases t<;>first|exact absurd rfl h1|exact m8 (by decide)) (fX t) (ye h1)) ⟨⟨_,ho,rfl⟩,q1⟩
   | dct l =>
    obtain⟨vs,hv,_,_⟩:=rh.cel n _ a c ha
    obtain⟨_,_,_,_,o,_,_,ho,ex,_⟩:=I.hok a _ hv
    cases e
    exact call_isinstance (isinstance_false_dict (by cases t<;>exact m8 (by decide)) (fX t) (Dq t)) ⟨⟨o,ho,ex.1⟩,q1⟩
 ·obtain⟨a,vs,rfl,ha,_⟩:=rd
  cases r
  obtain⟨its,_,pl,_⟩:=I.list ha.sq
  obtain⟨o,ho,hc,_⟩:=pl.isList
  by_cases h1:t=.list
  ·subst h1;cases e;exact yes (n := "list") ⟨o,ho,hc⟩ (jQ .list) q0
  ·simp only [wu h1] at e;cases e
   exact call_isinstance (isinstance_false_list (by cases t<;>first|exact absurd rfl h1|exact m8 (by decide)) (fX t) (ye h1)) ⟨⟨o,ho,hc⟩,q1⟩
 ·cases e
def IV (K:ZX) (t:Ty):List V→Hp→VK→Prop:=fun xs H Q=>∃ ρ hd d v b,xs=[v,.ty (tyS t)]∧RH K ρ H hd∧RD K ρ H d v∧zh hd t d=some b∧Q (.bl b) H
theorem AT (t:Ty):fD X (.builtin "isinstance") (IV X.K t):=by
 intro pins s σ H xs us Q I r h
 obtain⟨ρ,hd,d,v,b,rfl,rh,rd,e,q⟩:=h
 obtain⟨u,u2,rfl,ru,ru2⟩:=aV.two r
 cases (show u2=Value.type (tyS t) from ru2)
 exact FE I rh rd ru e fun s' I'=>⟨.bl b,H,I',rfl,q⟩
theorem iE {t:Ty} {a:Expr} {fa:EF} {p2:Pos} {n:Str} (hg:Gl X "isinstance") (hm:X.mg "isinstance" = none) (hg2:Gl X n) (hm2:X.mg n=none) (hv:bootBuiltins n=some (.type (tyS t))) (ha:ME X a fa)
  (hs:starEach [a,.Name n p2] X.env=(false,eval a X.env) :: starEach [.Name n p2] X.env:=by rfl) (hs2:starEach [.Name n p2] X.env=(false,eval (.Name n p2) X.env) :: starEach [] X.env:=by rfl) (hn:n ≠ "__name__" := by decide) (hd:(n == ("__debug__" : Str))=false:=by decide) :
  ME X (.Call (.Name "isinstance" p) [a,.Name n p2] [] pos) (jm t fa):=by
 refine PE.imp (gn (AT t) hg hm (by decide +kernel) (bW ha (bW (CU (v:=.ty (tyS t)) hg2 hm2 hv rfl hn hd) dy hs2) hs) (he:=hs)) fun σ H Q ⟨ρ,σd,hd,rs,pp⟩=>⟨ρ,σd,hd,rs,(bD.bind (R:=rD X.K) pp).imp fun v H1 ⟨ρ1,d,hd1,e1,rs1,rv,p1⟩ => ?_⟩
 cases c:zh hd1 t d with
 | none=>simp only [c] at p1;exact p1.elim
 | some b=>simp only [c] at p1;exact⟨ρ1,hd1,d,v,b,rfl,rs1.hp,rv,c,p1.here rs1 (by simp only [rD,RD])⟩
theorem bG:OpR X (binaryOp .Add) (fun x y H Q=>rI0 (fun i j=>.int (i + j)) x y H Q∨um X.K x y H Q):=E6.or xX
theorem b5 {K:ZX}:Og K cV (fun x y H Q=>rI0 (fun i j=>.int (i + j)) x y H Q∨um K x y H Q):=by
 intro ρ H σd hd σ d k v w Q rs rv rw' pp
 cases d<;>try exact pp.elim
 ·cases k<;>try exact pp.elim
  simp only [RD] at rv rw'
  exact .inl ⟨_,_,rv,rw',pp.here rs (by simp only [rD,RD])⟩
 ·rename_i l
  cases l with
  | nil=>exact pp.elim
  | cons x xs =>
   cases k<;>try exact pp.elim
   rename_i ys
   simp only [cV] at pp
   split at pp
   ·rename_i hz
    simp only [RD] at rv rw'
    obtain⟨a,vs,rfl,ha,rvs⟩:=rv
    obtain⟨b,ws,rfl,hb,rws⟩:=rw'
    refine .inr ⟨a,b,vs,ws,rfl,rfl,SqT.of ha,SqT.of hb,?_,?_,fun z => ?_,fun _ q hq => ?_⟩
    ·intro z;subst z;have:=rvs.length;simp at this
    ·rw [← rvs.length,← rws.length];exact k7 hz
    ·subst z
     have hy:ys=[]:=by have:=rws.length;simpa using this
     subst hy
     exact pp.here rs (by simp only [rD,RD];exact⟨a,vs,rfl,ha,by simpa using rvs⟩)
    ·have sm:=bT (o:=HO.tup (vs++ws)) hq
     exact pp.at (Ext.same sm) (rs.same sm) (by simp only [rD,RD];exact⟨q,_,rfl,aS,(RDs.append rvs rws).mono (Kp.same sm)⟩)
   ·exact pp.elim
theorem gO {a:Expr} {la:LF} (hg:Gl X "list") (hm:X.mg "list" = none) (ha:MQ X a la) (hs:starEach [a] X.env=(false,eval a X.env) :: starEach [] X.env:=by rfl):MF X (.Call (.Name "list" p) [a] [] pos) la:=by
 refine PE.imp (mh sf hg hm (by decide +kernel) (bW ha dy hs) (he:=hs)) fun σ H Q ⟨ρ,σd,hd,rs,pp⟩=>⟨ρ,σd,hd,rs,?_⟩
 cases e:la σd hd with
 | exc x h'=>rw [e] at pp;exact pp
 | bad=>rw [e] at pp;exact pp
 | ok l hd1 =>
  rw [e] at pp
  intro v H1 ρ1 e1 rs1 ⟨q,vs,hv,sq,rvs⟩
  subst hv
  exact⟨q,vs,rfl,sq.imp id SqT.of,pp.mk e1 rs1 rvs⟩
def MO (X:Cx) (e:Option Expr) (f:OF):Prop:=PO X e (kc X.K rO f)
theorem ll:MO X none pNo:=fun pins s σ H Q I ⟨ρ,σd,hd,rs,pp⟩=>Db pins s σ H Q I (pp.here rs rfl)
theorem lm {e:Expr}{f:EF}(h:ME X e f):MO X (some e) (pAt f):=fun pins s σ H Q I ⟨ρ,σd,hd,rs,pp⟩=>Dc h pins s σ H Q I ⟨ρ,σd,hd,rs,(bD.bind (R:=rD X.K) pp).imp fun v H1 ⟨ρ1,d,hd1,e1,rs1,rv,p1⟩=>by
 cases d<;>try exact p1.elim
 simp only [rD,RD] at rv
 exact⟨_,rv,p1.here rs1 rfl⟩⟩
theorem yf {K:ZX}{ρ:YH}{H:Hp}{l:List D}{vs:List V}{lo hi:Option Int}(r:RDs K ρ H l vs):RDs K ρ H (cut l lo hi) (oe vs lo hi):=by
 have e:∀ (n d:Nat) (o:Option Int),Fm.sIx n d o=HT.sIx n d o:=fun n d o=>by cases o<;>rfl
 unfold cut oe
 rw [r.length,e,e]
 exact (r.drop _).take _
theorem eM {a:Expr}{fa:EF}{lo hi:Option Expr}{fl fh:OF}{p2:Pos}(ha:ME X a fa)(hl:MO X lo fl)(hh:MO X hi fh):ME X (.Subscript a (.Slice lo hi none p2) pos) (aT fa fl fh):=by
 refine PE.imp (Ax (SlR.or Dd Ff) ha hl hh) fun σ H Q ⟨ρ,σd,hd,rs,pp⟩ => ?_
 unfold aT at pp
 refine⟨ρ,σd,hd,rs,(bD.bind (R:=rD X.K) pp).imp fun v H1 ⟨ρ1,d,hd1,e1,rs1,rv,p1⟩ => ?_⟩
 refine⟨ρ1,σd,hd1,rs1,(bD.bind (R:=rO) p1).imp fun o1 H2 ⟨ρ2,o1',hd2,e2,rs2,q2,p2⟩ => ?_⟩
 cases q2
 refine⟨ρ2,σd,hd2,rs2,(bD.bind (R:=rO) p2).imp fun o2 H3 ⟨ρ3,o2',hd3,e3,rs3,q3,p3⟩ => ?_⟩
 cases q3
 have rv3:=(rv.mono (rs1.hp.kp e2)).mono (rs2.hp.kp e3)
 have list:∀ l,gp hd3 d=some l→bD X.K (rD X.K) ρ3 H3 σd σ (.ok (.ref hd3.length) (hd3++[.lst (cut l o1 o2)])) Q→Hy X.K v o1 o2 H3 Q:=fun l c p=>by
  obtain⟨q,vs,hv,sq,rvs⟩:=su rs3.hp rv3 c
  refine⟨q,vs,hv,sq,fun q' hq => ?_⟩
  have sm:=bT (o:=HO.lst (oe vs o1 o2)) hq
  have nq:=rs3.hp.free hq
  have rh:=(rs3.hp.same sm).alloc aS nq ((yf rvs).mono (Kp.same sm))
  have ex:Ext ρ3 H3 (ρ3++[q']) (upd H3 q' (.lst (oe vs o1 o2))):=Ext.alloc hq
  refine p.at ex (rs3.ext ex rh) ?_
  simp only [rD,RD]
  exact⟨q',by rw [← rs3.hp.len];simp,rfl⟩
 cases d with
 | tup l =>
  simp only at p3
  split at p3
  ·exact p3.elim
  ·rename_i hw
   simp only [RD] at rv3
   obtain⟨q,vs,rfl,hq,rvs⟩:=rv3
   have e:∀ (n d:Nat) (o:Option Int),Fm.sIx n d o=HT.sIx n d o:=fun n d o=>by cases o<;>rfl
   refine .inr ⟨q,vs,rfl,SqT.of hq,by rw [← rvs.length,← e,← e];exact hw,fun q' hq' => ?_⟩
   have sm:=bT (o:=HO.tup (oe vs o1 o2)) hq'
   exact p3.at (Ext.same sm) (rs3.same sm) (by simp only [rD,RD];exact⟨q',_,rfl,aS,(yf rvs).mono (Kp.same sm)⟩)
 | ref n =>
  simp only at p3
  cases c:gp hd3 (.ref n) with
  | none=>rw [c] at p3;exact p3.elim
  | some l=>rw [c] at p3;exact .inl (list l c p3)
 | lit l' =>
  simp only at p3
  cases c:gp hd3 (.lit l') with
  | none=>rw [c] at p3;exact p3.elim
  | some l=>rw [c] at p3;exact .inl (list l c p3)
 | _=>exact p3.elim
theorem kw {o e:Expr} {fo fe:EF} {apos cpos:Pos} (ho:ME X o fo) (he:ME X e fe) (hbase:attributeBase o "append" X.env (eval o X.env)=eval o X.env:=by rfl)
  (hfew:((backTo cpos (starEach [e] X.env)).all (fun x => !x.1) && (backToKw cpos (keywordEach [] X.env)).all (fun x=>x.1.isSome)
   && decide (([e] : YJ).length + ([] : List Keyword).length + (if ([] : List Keyword).isEmpty then 0 else 1) < 30))=true:=by rfl)
  (hline:(apos.endLine == cpos.line)=true:=by rfl) (hs:starEach [e] X.env=(false,eval e X.env) :: starEach [] X.env:=by rfl) :
  ME X (.Call (.Attribute o "append" apos) [e] [] cpos) (nB fo fe):=by
 refine PE.imp (Az PySem.F.plainAttrs_list PySem.F.slot_list_append PySem.F.type_list_append qE ho (bW he dy hs) hbase hfew hline hs) fun σ H Q ⟨ρ,σd,hd,rs,pp⟩=>⟨ρ,σd,hd,rs,?_⟩
 unfold nB at pp
 refine (bD.bind (R:=rD X.K) pp).imp fun v H1 ⟨ρ1,d,hd1,e1,rs1,rv,p1⟩ => ?_
 cases d<;>try exact p1.elim
 rename_i n
 simp only [rD,RD] at rv
 obtain⟨a,ha,rfl⟩:=rv
 simp only at p1
 cases c1:hd1[n]? with
 | none=>rw [c1] at p1;exact p1.elim
 | some cell1 =>
  rw [c1] at p1
  cases cell1 with
  | dct l=>exact p1.elim
  | lst l1 =>
   obtain⟨vs,hv,_⟩:=rs1.hp.cel n _ a c1 ha
   simp only at p1
   refine⟨.inl ⟨rfl,vs,SqL.of hv⟩,ρ1,σd,hd1,rs1,(bD.bind (R:=rD X.K) p1).imp fun w H2 ⟨ρ2,k,hd2,e2,rs2,rw',p2⟩ => ?_⟩
   simp only [Fq] at p2
   cases c:hd2[n]? with
   | none=>rw [c] at p2;exact p2.elim
   | some cell =>
    rw [c] at p2
    cases cell with
    | dct l=>exact p2.elim
    | lst l =>
     simp only at p2
     split at p2
     ·rename_i hz
      have ha2:=e2.get ha
      obtain⟨vs2,hv2,rvs2⟩:=rs2.hp.cel n _ a c ha2
      refine⟨a,vs2,w,rfl,rfl,hv2,?_,?_⟩
      ·rw [← rvs2.length];exact Nat.lt_of_lt_of_le hz (by rw [sizeLine_eq];decide)
      ·have hn:n < hd2.length:=(YO c).1
       have rh:=rs2.hp.write ha2 hn (RDs.append rvs2 (RDs.cons rw' RDs.nil))
       have ex:Ext ρ2 H2 ρ2 (upd H2 a (.lst (vs2++[w]))):=Ext.write (ZK ha2)
       exact p2.at ex (rs2.ext ex rh) (by simp only [rD,RD])
     ·exact p2.elim
end
end Fm
namespace Fm
open PySem PySem.Spec L2
open AutoSeq1 (wpAny_loadPart')
open PyProof.Rows (Call_)
theorem uB {a b:String}(h:Value.type a=Value.type b)(n:a≠b):False:=by injection h with h;exact n h
theorem jt (l:Addr)(items:YK)(n:Nat)(dct:Option Addr)(sl:Array (YM)) :
  Meets (Builtin.«enumerate.__new__» ⟨[.type "enumerate",.ref l],[]⟩) (fun _ R s=>s.heap.get? l=some { cls:=.type "tuple",dict:=dct,data:=.seq items n,slots:=sl } ∧
   R (.ok (.ret (.ref (s.heap.push { cls:=.type "tuple_iterator",data:=.fields #[.ref l,.int 0 0] }).objs.size)))
    { s with heap:=(s.heap.push { cls:=.type "tuple_iterator",data:=.fields #[.ref l,.int 0 0] }).push { cls:=.type "enumerate",data:=.fields #[.none,.bool false,.ref s.heap.objs.size,rawInt 0,.none,.none] } }) :=
 .of_wp fun prog w A R s h=>by
  obtain⟨hp,g,d,tk,os⟩:=s;obtain⟨hl,h⟩:=h
  have hsub:=sub_enumerate
  have hL:Heap.IsTuple (Shared.heap ⟨hp,g,d,tk,os⟩) l items:=⟨_,hl,rfl,n,rfl⟩
  wp_walk using wpAny_loadPart' hl
  refine wpAny_stack_any fun st=>YX ?_
  split
  ·rename_i c _ _ _ _ _
   cases (c == Value.type "enumerate")
   ·wp_walk using wpAny_loadPart' hl,wpAny_pyIter_tuple hL
    exact⟨_,rfl,h⟩
   ·wp_walk using wpAny_loadPart' hl,wpAny_pyIter_tuple hL
    exact⟨_,rfl,h⟩
  ·wp_walk using wpAny_loadPart' hl,wpAny_pyIter_tuple hL
   exact⟨_,rfl,h⟩
section
variable {prog:Program} {w:World} {A:Around} {E:ZY} {s:Shared}
theorem ju {l:Addr}{items:YK}{Q:ZY}(hL:s.heap.IsTuple l items)
  (h:∀ h',IsEnum h' (s.heap.objs.size + 1) s.heap.objs.size 0 .none→h'.IsTupleIter s.heap.objs.size l 0→h'.objs.size=s.heap.objs.size + 2 →
   (∀ b o,s.heap.get? b=some o→h'.get? b=some o)→Q (.ref (s.heap.objs.size + 1)) { s with heap:=h' }) :
  wpAny (model prog w) A (call (.type "enumerate") [.ref l]) Q E s:=by
 obtain⟨⟨c,dct,dt,sl⟩,hl,hc,n,hd⟩:=hL
 replace hc:c=.type "tuple" := hc
 replace hd:dt=.seq items n:=hd
 subst hc hd
 refine callType_new F.called_enumerate (by decide) (F.typeCall_enumerate_1 _) (F.newCall_enumerate_1 _) (fun obj=>F.args_object_init_2 obj _) F.entry_enumerate_new
  (jt l items n dct sl) ⟨hl,?_⟩
 have hz:(s.heap.push { cls:=.type "tuple_iterator",data:=.fields #[.ref l,.int 0 0] }).objs.size=s.heap.objs.size + 1:=Heap.size_push ..
 show _∧_
 rw [hz]
 have he:IsEnum ((s.heap.push { cls:=.type "tuple_iterator",data:=.fields #[.ref l,.int 0 0] }).push
   { cls:=.type "enumerate",data:=.fields #[.none,.bool false,.ref s.heap.objs.size,rawInt 0,.none,.none] }) (s.heap.objs.size + 1) s.heap.objs.size 0 .none:=by
  have:=ZJ (s.heap.push { cls:=.type "tuple_iterator",data:=.fields #[.ref l,.int 0 0] })
   (o:={ cls:=.type "enumerate",data:=.fields #[.none,.bool false,.ref s.heap.objs.size,rawInt 0,.none,.none] }) rfl
  rw [hz] at this;exact this
 refine⟨⟨_,he,rfl⟩,h _ he ⟨_,ZH _ (ZJ _ rfl),rfl,rfl⟩ (by rw [Heap.size_push,hz]) fun b o x=>ZH _ (ZH _ x)⟩
theorem lq {it l:Addr}{i:Nat}{items:YK}{x:Value}{Q:ZY}(hit:s.heap.IsTupleIter it l i)
  (hl:s.heap.IsTuple l items) (hx:items[i]? = some x)
  (hQ:∀ h',h'.IsTupleIter it l (i + 1)→Heap.SameBut it s.heap h'→Q x { s with heap:=h' }) :
  wpAny (model prog w) A (Builtin.SmallTypes.nextOf (.ref it)) Q E s:=by
 obtain⟨o,ho,hc,hd⟩:=id hit
 obtain⟨ol,hol,_,nl,hdl⟩:=hl
 unfold Builtin.SmallTypes.nextOf
 refine YW (wpAny_callSpecial?_slot (name:=Str.ofString "__next__") hit.typeIs F.slot_tuple_iterator_next
  (wpAny_call_entry F.slot_tuple_iterator_next hit.typeIs F.entry_tuple_iterator_next ?_ (F.args_tuple_iterator_next_1 _)))
 show wpAny _ _ (field (.ref it) 0 >>= _) _ _ s
 refine YW (wpAny_field ho hd (x:=.ref l) rfl ?_)
 show wpAny _ _ (if (Value.ref l == Value.none)=true then _ else _) _ _ s
 rw [if_neg (show ¬ ((Value.ref l == Value.none)=true) from Bool.false_ne_true)]
 show wpAny _ _ (field (.ref it) 1 >>= _) _ _ s
 refine YW (wpAny_field ho hd (x:=.int i 0) rfl ?_)
 show wpAny _ _ (seqItems? (.ref l) >>= _) _ _ s
 refine YW (wpAny_seqItems hol hdl ?_)
 simp only [Int.toNat_natCast,hx]
 refine YW (wpAny_setField ho hd (by simp) (YX ⟨x,rfl,YX (hQ _ ?_ (Heap.SameBut.update ..))⟩))
 exact⟨_,Heap.get?_update_self _ ho (Obj.isFreed_of_fields (Obj.data_mapFields hd _)),(Obj.cls_mapFields ..).trans hc,by
  rw [Obj.data_mapFields hd];simp [rawInt]⟩
theorem mD {it l:Addr}{i:Nat}{items:YK}{Q:ZY}(hh:A.handled=none)
  (hit:s.heap.IsTupleIter it l i) (hl:s.heap.IsTuple l items) (hx:items[i]? = none)
  (hE:∀ h' e,Heap.ExtBut it s.heap h'→(∃ o,h'.get? e=some o∧o.cls=.type "StopIteration")→E (.ref e) { s with heap:=h' }) :
  wpAny (model prog w) A (Builtin.SmallTypes.nextOf (.ref it)) Q E s:=by
 obtain⟨o,ho,hc,hd⟩:=id hit
 obtain⟨ol,hol,_,nl,hdl⟩:=hl
 unfold Builtin.SmallTypes.nextOf
 refine YW (wpAny_callSpecial?_slot (name:=Str.ofString "__next__") hit.typeIs F.slot_tuple_iterator_next
  (wpAny_call_entry F.slot_tuple_iterator_next hit.typeIs F.entry_tuple_iterator_next ?_ (F.args_tuple_iterator_next_1 _)))
 show wpAny _ _ (field (.ref it) 0 >>= _) _ _ s
 refine YW (wpAny_field ho hd (x:=.ref l) rfl ?_)
 show wpAny _ _ (if (Value.ref l == Value.none)=true then _ else _) _ _ s
 rw [if_neg (show ¬ ((Value.ref l == Value.none)=true) from Bool.false_ne_true)]
 show wpAny _ _ (field (.ref it) 1 >>= _) _ _ s
 refine YW (wpAny_field ho hd (x:=.int i 0) rfl ?_)
 show wpAny _ _ (seqItems? (.ref l) >>= _) _ _ s
 refine YW (wpAny_seqItems hol hdl ?_)
 simp only [Int.toNat_natCast,hx]
 refine YW (wpAny_rule (YW (wpAny_setField ho hd (by simp) ?_)))
 show wpAny _ _ (newExc (.type "StopIteration") [] >>= _) _ _ _
 refine YW ?_
 simp only [newExc,newTuple]
 refine YW (wpAny_newObj_type ?_ (by size_fits))
 refine YW (m:=firstArgMember _ _) (wpAny_of_eq (a:=Value.none) (by first|rfl|(simp only [firstArgMember];rfl)) ?_)
 refine wpAny_newObj_type ?_ (by size_fits)
 simp only [raiseNew]
 refine YW (wpAny_handled ?_)
 first|rw [show A.in1.handled=none from hh] | rw [hh]
 refine YW (YX (wpAny_throw ?_))
 exact hE _ _ (((Heap.SameBut.update ..).extBut.push _).push _) ⟨_,ZJ _ rfl,rfl⟩
end
theorem m9 {prog:Program}{w:World}{A:Around}(hh:A.handled=none)(it l:Addr)(hne:l≠it)(items:YK) :
  Draws prog w A it [it,l] items.size (fun i v=>items[i]? = some v) (fun i h=>h.IsTupleIter it l i∧h.IsTuple l items) where
 live:=fun _ _ st=>let ⟨o,ho,_⟩:=st.1;⟨o,ho⟩
 frame:=fun _ _ _ st hk=>⟨st.1.at fun o e=>hk it (by simp) o e,let ⟨o,ho,r⟩:=st.2;⟨o,hk l (by simp) o ho,r⟩⟩
 item:=fun i s Q E hi st hQ=>by
  have hx:items[i]? = some items[i]:=by simp [hi]
  refine lq st.1 st.2 hx fun h' hit' hs' => ?_
  refine hQ _ h' s.toks hx ⟨hit',?_⟩ hs'
  obtain⟨o,ho,r⟩:=st.2
  exact⟨o,(hs'.2 l hne).trans ho,r⟩
 done:=fun s Q E st hE=>mD hh st.1 st.2 (by simp) hE
def Ite (K:ZX) (a:Addr):It :=
 ⟨fun i H=>∃ xs x,SqT K H a xs∧xs[i]? = some x,fun i H x H'=>∃ q v,x=.ref q∧H q=none∧H'=upd H q (.tup [.int (i:Nat),v]) ∧ ∀ xs,SqT K H a xs→xs[i]? = some v,fun i H=>∃ xs,SqT K H a xs∧xs.length=i⟩
theorem zm {P:Program}{w:World}{K:ZX}{elts:YJ}{k:Nat}{pos:Pos}(e it a:Addr):vY P w K (.Tuple elts k pos) (Ite K a) [e,it] e (fun i h=>(∃ old,IsEnum h e it (i:Nat) old)∧h.IsTupleIter it a i) where
 mem:=by simp
 obj:=fun i h st b hb=>by
  obtain⟨⟨old,he⟩,o,ho,hc,hd⟩:=st
  rcases YQ hb with rfl|hb
  ·exact⟨_,he,fun v z=>by
    have z':Data.fields _=Data.cell v:=z
    cases z'⟩
  ·have:b=it:=by simpa using hb
   subst this
   exact⟨o,ho,fun v z=>by rw [hd] at z;cases z⟩
 keep:=fun i h h' st kk=>by
  obtain⟨⟨old,he⟩,st⟩:=st
  exact⟨⟨old,kk e (by simp) _ he⟩,st.at fun o x=>kk it (by simp) o x⟩
 item:=by
  intro X hP hw hK hc i pins s σ H E I hf st hg
  subst hP hw hK
  obtain⟨⟨old,he⟩,hit⟩:=st
  obtain⟨xs,x,hq,hx⟩:=hg
  obtain⟨its,rv,p,hz⟩:=I.tuple hq
  have ht:s.heap.IsTuple a its.toArray:=p
  obtain⟨oi,hoi,hci,hdi⟩:=id hit
  obtain⟨oa,hoa,hca,na,hda⟩:=id ht
  have hei:e≠it:=fun z=>by
   subst z
   have he':s.heap.get? e=_:=he
   rw [hoi] at he';cases he';exact uB hci (by decide)
  have hea:e≠a:=fun z=>by
   subst z
   have he':s.heap.get? e=_:=he
   rw [hoa] at he';cases he';exact uB hca (by decide)
  have hai:a≠it:=fun z=>by
   subst z
   rw [hoi] at hoa;cases hoa;rw [hci] at hca;exact uB hca (by decide)
  obtain⟨e0,e1,e2,e3,e4,e5⟩:=hf e (by simp)
  obtain⟨f0,f1,f2,f3,f4,f5⟩:=hf it (by simp)
  have hlt:i < its.toArray.size:=by
   have:=(YO hx).1
   have hl:=rv.length
   simp;omega
  refine wpAny_pyNext_enum_itemD (m9 (prog:=X.prog) (w:=X.w) (A:=X.A.in1) (I.ok.hd hc) it a hai its.toArray) he ⟨hit,ht⟩ hlt hei (by simp;exact⟨hei,hea⟩) fun y h' tk hy heo hst' htup hsz hk => ?_
  refine⟨_,rfl,wpAny_letOwnedTupleGo_enum heo fun h2 he2 hs2 => ?_⟩
  replace hs2:Heap.SameBut e h' h2:=hs2
  obtain⟨u,hu,ru⟩:=rv.get hx
  have hyu:y=u:=by
   have:its.toArray[i]? = some u:=by simpa using hu
   rw [hy] at this;exact ZT this
  subst hyu
  have elt:e < s.heap.objs.size:=ZI he
  have ilt:it < s.heap.objs.size:=ZI hoi
  have hN:H s.heap.objs.size=none:=I.hok.fresh (ZL _)
  have keep:∀ b o,b≠e→b≠it→s.heap.get? b=some o→h2.get? b=some o:=fun b o b1 b2 q=>(hs2.2 b b1).trans (hk b o b1 b2 q)
  have htup2:h2.get? s.heap.objs.size=some { cls:=.type "tuple",data:=.seq #[.int i tk,y] }:=(hs2.2 _ (Nat.ne_of_gt elt)).trans htup
  have nch:∀ b,b∉([e,it] : YH)→b≠e∧b≠it:=fun b hb=>by simpa using hb
  refine⟨.ref s.heap.objs.size,upd H s.heap.objs.size (.tup [.int (i:Nat),x]),?_,rfl,⟨_,x,rfl,hN,rfl,fun ys hys=>by rw [I.tuple_inj hys hq];exact hx⟩,⟨⟨_,by simpa using he2⟩,hst'.1.extBut hs2.extBut (Ne.symm hei)⟩,fun b hb => ?_⟩
  ·suffices I2:L2.Inv X pins σ (upd H s.heap.objs.size (.tup [.int (i:Nat),x])) { s with heap:=h2,gens:=s.gens,drawn:=s.drawn,toks:=tk + 1 } from I2
   refine I.step (g':=s.gens) (d':=s.drawn) (t':=tk + 1) (ch:=[e,it]) (fun b hb => ?_) (fun b o _ _ hb q _=>keep b o (nch b hb).1 (nch b hb).2 q) (fun b o _ _ hb q _=>⟨o.slots,keep b o (nch b hb).1 (nch b hb).2 q⟩) (fun b o _ q n => ?_) (fun b o hb q=>⟨o,keep b o (nch b hb).1 (nch b hb).2 q⟩)
    (fun b ys q => ?_) (fun b o u q => ?_) (fun b ps q=>⟨#[],?_⟩) (fun m hm => ?_) (fun b u q => ?_) I.bare
   ·rcases YQ hb with rfl|hb
    ·exact⟨e3,e1,e4,e5⟩
    ·have:b=it:=by simpa using hb
     subst this
     exact⟨f3,f1,f4,f5⟩
   ·rw [aC (ZN (ZI q))];exact n
   ·rw [aC (bg q hN)];exact q
   ·rw [aC (bg q hN)];exact q
   ·rw [aC (bg q hN),q];simp
   ·obtain⟨o,es,ep,ho,r⟩:=hm
    exact⟨o,es,ep,keep _ o (Ne.symm e1) (Ne.symm f1) ho,r⟩
   ·by_cases hb:b=s.heap.objs.size
    ·subst hb
     rw [aS] at q
     cases q
     exact⟨by show 2≤sizeLine;rw [sizeLine_eq];decide,[.int i tk,y],.cons ⟨tk,rfl⟩ (.cons ru .nil),_,htup2,rfl,_,rfl⟩
    ·rw [aC hb] at q
     have ne1:∀ c v,H c=some v→c≠e:=fun c v z w=>by rw [w,e0] at z;cases z
     have ne2:∀ c v,H c=some v→c≠it:=fun c v z w=>by rw [w,f0] at z;cases z
     refine (I.hok b u q).stay (fun c v hc' z => ?_) (fun c z=>by rw [aC (bg z hN)];exact z) fun c ys z=>by rw [aC (bg z hN)];exact z
     rcases hc' with w|w
     ·subst w;exact keep c v (ne1 c _ q) (ne2 c _ q) z
     ·exact keep c v (ne1 c _ w) (ne2 c _ w) z
  ·have:b≠s.heap.objs.size:=by
    rcases YQ hb with rfl|hb
    ·exact ZN elt
    ·have:b=it:=by simpa using hb
     subst this
     exact ZN ilt
   rw [aC this]
   exact (hf b hb).1
 done:=by
  intro X hP hw hK hc i pins s σ H E I hf st hg
  subst hP hw hK
  obtain⟨⟨old,he⟩,hit⟩:=st
  obtain⟨xs,hq,hx⟩:=hg
  obtain⟨its,rv,p,hz⟩:=I.tuple hq
  have ht:s.heap.IsTuple a its.toArray:=p
  obtain⟨oi,hoi,hci,hdi⟩:=id hit
  obtain⟨oa,hoa,hca,na,hda⟩:=id ht
  have hai:a≠it:=fun z=>by
   subst z
   rw [hoi] at hoa;cases hoa;rw [hci] at hca;exact uB hca (by decide)
  obtain⟨f0,f1,f2,f3,f4,f5⟩:=hf it (by simp)
  have hsz:its.toArray.size=i:=by have:=rv.length;simp;omega
  refine wpAny_pyNext_enum_endD (m9 (prog:=X.prog) (w:=X.w) (A:=X.A.in1) (I.ok.hd hc) it a hai its.toArray) he ⟨by rw [hsz];exact hit,ht⟩ fun h' hx'=>⟨rfl,I.turned (t':=s.toks) (fun b o hb e=>hx' b o hb e) f0 f1 f3 f4 f5⟩
 self:=fun _ _ _ _ _ st h=>by
  obtain⟨⟨old,he⟩,_⟩:=st
  exact wpAny_pyIter_enum he h
section
variable {X:Cx} {pos p tp:Pos} {elts:YJ} {tk:Nat}
def iEn (K:ZX) (ta:TE):TI:=fun σ H R=>ta σ H fun x H1=>∃ a xs,x=.ref a∧SqT K H1 a xs∧(xs.length≤sizeLine→R (Ite K a) H1)
theorem Dr {a:Expr} {ta:TE} (hg:Gl X "enumerate") (hm:X.mg "enumerate" = none) (ha:PE X a ta) (hs:starEach [a] X.env=[(false,eval a X.env)]:=by rfl):PI X (.Tuple elts tk tp) (.Call (.Name "enumerate" p) [a] [] pos) (iEn X.K ta):=by
 intro pins s σ H R I h
 have hpa:=bW ha dy hs
 refine Call_ (ma I hg hm PyProof.Rows.boot_enumerate (PyProof.Rows.callWith_type1 (thn (hpa pos pins s σ H (fun vs H1=>∃ a xs,vs=[.ref a]∧SqT X.K H1 a xs∧(xs.length≤sizeLine→R (Ite X.K a) H1)) I ?_) fun us s1 ⟨vs,H1,I1,r1,q1⟩ => ?_) hs rfl))
 ·show ta σ H fun x H1=>_
  have key:∀ (x:V) (H1:Hp),(∃ a xs,x=.ref a∧SqT X.K H1 a xs∧(xs.length≤sizeLine→R (Ite X.K a) H1))=(∃ a xs,[x] = [.ref a]∧SqT X.K H1 a xs∧(xs.length≤sizeLine→R (Ite X.K a) H1)):=fun x H1=>by simp
  have h':ta σ H fun x H1=>∃ a xs,x=.ref a∧SqT X.K H1 a xs∧(xs.length≤sizeLine→R (Ite X.K a) H1):=h
  simp only [key] at h'
  exact h'
 ·obtain⟨a,xs,e,hq,q⟩:=q1
  subst e
  obtain⟨u,rfl,ru⟩:=aV.one r1
  cases (show u=Value.ref a from ru)
  obtain⟨its,rv,pt,hz⟩:=I1.tuple hq
  refine ju (show s1.heap.IsTuple a its.toArray from pt) fun h' he hit hsz hk => ?_
  refine wpAny_pyIter_enum (s:={ s1 with heap:=h' }) he ?_
  have I2:Inv X pins σ H1 { s1 with heap:=h' }:=I1.kept (t':=s1.toks) hk
  refine⟨s1.heap.objs.size + 1,[s1.heap.objs.size + 1,s1.heap.objs.size],_,_,H1,rfl,I2,zm (s1.heap.objs.size + 1) s1.heap.objs.size a,⟨⟨_,by simpa using he⟩,hit⟩,fun b hb => ?_,q hz⟩
  have hb':s1.heap.objs.size≤b:=by
   rcases YQ hb with e|hb
   ·rw [e];exact Nat.le_succ _
   ·have:b=s1.heap.objs.size:=by simpa using hb
    rw [this];exact ZL _
  exact I1.fpOk hb' (I1.hok.fresh hb')
theorem zn {K:ZX}{ρ:YH}{H:Hp}{hd:Hd}{q:Addr}{l:List D}{vs:List V}(r:RH K ρ H hd)(hq:H q=some (.tup vs))(rv:RDs K ρ H l vs)(hz:vs.length≤sizeLine) :
  pW K ρ H (Ite K q) ((List.range l.length).zip l |>.map fun p=>.tup [.int (p.1:Nat),p.2]) none where
 go:=fun ρ' H' hd' i d ex rh _ hi=>by
  have k:=r.kp ex
  obtain⟨hil,hi2⟩:=YO hi
  have hl:i < l.length:=by simpa using hil
  have hd:d=.tup [.int (i:Nat),l[i]]:=by rw [← hi2];simp
  subst hd
  obtain⟨v,hv,rd⟩:=(rv.mono k).get (i:=i) (d:=l[i]) (by simp [hl])
  have sq:SqT K H' q vs:=SqT.of (k.tup q vs hq)
  refine⟨⟨vs,v,sq,hv⟩,fun x H2 y => ?_⟩
  obtain⟨q2,v2,rfl,hn,rfl,y⟩:=y
  have:=y vs sq
  rw [hv] at this
  cases this
  have sm:=bT (o:=HO.tup [.int (i:Nat),v]) hn
  refine⟨sm,?_⟩
  simp only [RD]
  exact⟨q2,_,rfl,aS,RDs.cons (by simp only [RD]) (RDs.cons (rd.mono (Kp.same sm)) RDs.nil)⟩
 stop:=fun ρ' H' hd' ex rh _=>⟨vs,SqT.of ((r.kp ex).tup q vs hq),by rw [← rv.length];simp⟩
 sz:=by
  have:=rv.length
  simp;omega
theorem Dt {a:Expr} {f:EF} (hg:Gl X "enumerate") (hm:X.mg "enumerate" = none) (ha:ME X a f) (hs:starEach [a] X.env=[(false,eval a X.env)]:=by rfl):MI X (.Tuple elts tk tp) (.Call (.Name "enumerate" p) [a] [] pos) (AF f):=by
 refine PI.imp (Dr hg hm ha hs) fun σ H R ⟨ρ,σd,hd,rs,pp⟩=>⟨ρ,σd,hd,rs,?_⟩
 unfold AF at pp
 cases e:f σd hd with
 | exc x h1=>rw [e] at pp;exact pp
 | bad=>rw [e] at pp;exact pp
 | ok d hd1 =>
  rw [e] at pp
  simp only [aA] at pp
  intro v H1 ρ1 ex1 rs1 rv
  cases d<;>try exact pp.elim
  rename_i l
  simp only [rD,RD] at rv
  obtain⟨q,vs,rfl,hq,rvs⟩:=rv
  exact⟨q,vs,rfl,SqT.of hq,fun hz=>pp _ H1 ρ1 ex1 rs1 (zn rs1.hp hq rvs hz)⟩
end
end Fm
namespace Fm
open PySem PySem.Spec L2 PySem.W PyProof.Rows
section
variable {prog:Program} {w:World} {A:Around} {E:ZY} {s:Shared}
theorem wv {a:Addr} {vs:YG} {n:Nat} {P:PySem.Fin→Shared→Prop} (ho:s.heap.get? a=some (seqObj "list" vs.toArray n)) (h2:vs.length < 2)
  (h:P (.done (.ret .none)) { s with heap:=sortedHeap s.heap a vs vs.toArray }):wpAny (model prog w) A (Builtin.«list.sort» ⟨[.ref a],[]⟩) P E s:=by
 rw [list_sort_plain]
 have ha:a < s.heap.objs.size:=ZI ho
 refine YW (listItems_at ho rfl ?_)
 refine YW (listUpdate_at ho rfl ?_)
 obtain⟨e1,ho1⟩ : ∃ e1,(s.heap.update a (Obj.mapSeq fun _ => #[])).get? a=some (seqObj "list" #[] e1):=⟨_,get?_update_seq ho (fun _ => #[])⟩
 refine YW (seqEpoch_at ho1 rfl ?_)
 refine YW (wpAny_newTuple ?_)
 refine YW (wpAny_newList ?_)
 refine wpAny_holding ?_
 have ho6:(((s.heap.update a (Obj.mapSeq fun _ => #[])).push (seqObj "tuple" vs.toArray 0)).push (seqObj "list" #[] 0)).get? a=some (seqObj "list" #[] e1):=by
  rw [Heap.get?_push_ne _ _ _ (by rw [size_push',Heap.size_update];exact ZN (Nat.lt_succ_of_lt ha)),Heap.get?_push_ne _ _ _ (by rw [Heap.size_update];exact ZN ha)]
  exact ho1
 show wpAny (model prog w) A _ P E { s with heap:=((s.heap.update a (Obj.mapSeq fun _ => #[])).push (seqObj "tuple" vs.toArray 0)).push (seqObj "list" #[] 0) }
 dsimp only
 have hsz:vs.toArray.size=vs.length:=by simp
 have h2':vs.toArray.size < 2:=by rw [hsz];exact h2
 rw [if_pos h2',if_pos h2']
 refine YW (YX ?_)
 rw [StateT.run_pure]
 refine YW (YX ?_)
 dsimp only
 refine YW (seqEpoch_at ho6 rfl ?_)
 refine YW (listUpdate_at ho6 rfl ?_ (hsz2:=by rw [Array.size_map];show (pairsOf vs).size≤_;rw [pairsOf_size,sizeLine_eq];omega))
 simp only [bne_self_eq_false,Bool.false_eq_true,if_false]
 have e:(arrOf (SortSt.mk' general' (vs.toArray.zip vs.toArray) #[] 7 none)).map (·.2)=vs.toArray:=by
  show (vs.toArray.zip vs.toArray).map (·.2)=vs.toArray
  apply Array.ext
  ·simp
  ·intro i h1 h2
   simp
 refine YX ?_
 have h':=h
 unfold sortedHeap at h'
 rw [e]
 exact h'
theorem FF {Q:Bool→Shared→Prop}:∀ (ns ms:YF) {xs ys:YG} (i:Nat),IntsAre xs ns→IntsAre ys ms→Q (Fm.bw ns ms) s→KatLex prog w A true (decide (xs.length < ys.length)) Q (xs.zip ys) i s:=by
 intro ns
 induction ns with
 | nil =>
  intro ms xs ys i hx hy h
  cases hx
  cases ms with
  | nil=>cases hy;exact h
  | cons m ms =>
   cases hy
   have h':Q true s:=h
   exact h'
 | cons n ns ih =>
  intro ms xs ys i hx hy h
  cases hx with
  | cons _ t r =>
   cases ms with
   | nil =>
    cases hy
    have h':Q false s:=h
    exact h'
   | cons m ms =>
    cases hy with
    | cons _ t' r' =>
     rename_i xs ys
     refine kat_cons (SeqAt.EqAt.int_int n t m t' prog w _ _ ?_)
     by_cases e:n=m
     ·subst e
      rw [show (n == n)=true by simp]
      refine kat_yes ?_
      have h':Q (Fm.bw ns ms) s:=by simpa [Fm.bw] using h
      have:=ih ms (i + 1) r r' h'
      have e2:decide ((Value.int n t :: xs).length < (Value.int n t' :: ys).length)=decide (xs.length < ys.length):=by simp
      rw [e2]
      exact this
     ·rw [show (n == m)=false by simpa using e]
      refine kat_no ?_
      have h':Q (decide (n < m)) s:=by simpa [Fm.bw,e] using h
      cases i with
      | zero=>exact oneLt_int h'
      | succ i =>
       have:(true && (i + 1 == 0))=false:=by simp
       rw [this]
       exact kat_one _ _ (lt_int (by first|exact⟨_,rfl,h'⟩|exact h'))
end
theorem FG {h:Heap}{a:Addr}{m m':Str→YM}(x:h.Ns a m)(y:h.Ns a m'):m=m':=by
 obtain⟨o,es,ep,ho,hd,_,r⟩:=x
 obtain⟨o',es',ep',ho',hd',_,r'⟩:=y
 rw [ho] at ho';cases ho'
 rw [hd] at hd';cases hd'
 funext z
 rw [← r z,← r' z]
inductive bU (H:Hp):List V→YA→Prop
 | nil:bU H [] []
 | cons {a:Addr} {r:YF} {vs:List V} {rs:YA}:H a=some (.tup (r.map V.int))→bU H vs rs→bU H (.ref a :: vs) (r :: rs)
theorem bU.get {H:Hp}:∀ {vs:List V} {rs:YA} {i:Nat} {v:V},bU H vs rs→vs[i]? = some v → ∃ a,v=.ref a∧H a=some (.tup ((rs.getD i []).map V.int))
 | _,_,_,_,.nil,e=>by simp at e
 | _,_,0,_,.cons h t,e=>by simp at e;subst e;exact⟨_,rfl,h⟩
 | _,_,i + 1,v,.cons h t,e=>by
  obtain⟨a,h1,h2⟩:=bU.get (i:=i) (v:=v) t (by simpa using e)
  exact⟨a,h1,by simpa using h2⟩
theorem bU.length {H:Hp}:∀ {vs:List V} {rs:YA},bU H vs rs→vs.length=rs.length
 | _,_,.nil=>rfl
 | _,_,.cons _ t=>by simp [bU.length t]
section
variable {X:Cx} {pos p:Pos}
theorem nN {i:Int}{u:Value}(r:bB (.int i) u):∃ t,u=.int i t:=r
theorem uC {K:ZX}{ρ:YH}{H:Hp}:∀ {l:List D} {vs:List V} {rs:YA},RDs K ρ H l vs→pU l=some rs→bU H vs rs
 | [],_,_,r,e=>by simp only [pU] at e;cases e;simp only [RDs] at r;subst r;exact .nil
 | d :: l,_,rs,r,e=>by
  simp only [RDs] at r
  obtain⟨v,vs,rfl,h1,h2⟩:=r
  cases d<;>simp only [pU] at e<;>try (cases e;done)
  rename_i l1
  cases c1:dR l1 with
  | none=>rw [c1] at e;cases e
  | some is =>
   cases c2:pU l with
   | none=>rw [c1,c2] at e;cases e
   | some r2 =>
    rw [c1,c2] at e
    cases e
    simp only [RD] at h1
    obtain⟨p,ws,rfl,hp,rws⟩:=h1
    have:=k8 rws c1
    subst this
    exact .cons hp (uC h2 c2)
end
end Fm
namespace Fm
open PySem PySem.Spec L2
section
variable {X:Cx}
theorem mv (i:Nat) {x:Str} {pos:Pos} (hN:X.N[i]? = some x:=by rfl) (hv:Vis X.env.scope x:=by first|exact Or.inl rfl|exact Or.inr (Or.inl rfl)|exact Or.inr (Or.inr rfl)) (hd:(x == ("__debug__" : Str))=false:=by decide)
  (hcd:(x == ("__classdict__" : Str))=false:=by decide):ME X (.Name x pos) (ae i):=Fr hN hv hd hcd
end
theorem cQ {k:Nat}{A:Around}(r:ig k A):A.units + 24 < cLine:=by have:=r.un;omega
def eZ (X:Cx):List (Str × NameKind)→Prop
 | []=>True
 | y :: r=>(y.2=.free→X.env.kindOf y.1=some .cell∨X.env.kindOf y.1=some .free)∧eZ X r
def bE (X:Cx) (scope:Scope):YI→List Nat→Prop
 | [],[]=>True
 | x :: xs,i :: is=>(X.N[i]? = some x∧scope.names.lookup x=some .free)∧bE X scope xs is
 | _,_=>False
theorem eZ.get {X:Cx}:∀ {l:List (Str × NameKind)},eZ X l → ∀ y∈l,y.2=.free→X.env.kindOf y.1=some .cell∨X.env.kindOf y.1=some .free
 | [],_,y,hy=>by simp at hy
 | z :: r,h,y,hy=>by
  rcases YQ hy with rfl|hy
  ·exact h.1
  ·exact eZ.get h.2 y hy
theorem bE.get {X:Cx}{scope:Scope}:∀ {capn:YI} {caps:List Nat},bE X scope capn caps→(∀ (j:Nat) x,capn[j]? = some x → ∃ i,caps[j]? = some i∧X.N[i]? = some x∧scope.names.lookup x=some .free)∧capn.length=caps.length
 | [],[],_=>⟨fun j x e=>by simp at e,rfl⟩
 | x :: xs,i :: is,h=>by
  obtain⟨h1,h2⟩:=bE.get h.2
  refine⟨fun j y e => ?_,by simp [h2]⟩
  cases j with
  | zero=>simp at e;subst e;exact⟨i,rfl,h.1⟩
  | succ j=>exact h1 j y (by simpa using e)
 | [],_ :: _,h=>h.elim
 | _ :: _,[],h=>h.elim
theorem eZ.nil {X:Cx}:eZ X []:=trivial
theorem eZ.cons {X:Cx}{y:Str × NameKind}{r:List (Str × NameKind)}(h:y.2=.free→X.env.kindOf y.1=some .cell∨X.env.kindOf y.1=some .free)(t:eZ X r):eZ X (y :: r):=⟨h,t⟩
theorem bE.nil {X:Cx}{scope:Scope}:bE X scope [] []:=trivial
theorem bE.cons {X:Cx}{scope:Scope}{x:Str}{xs:YI}{i:Nat}{is:List Nat}(h1:X.N[i]? = some x)(h2:scope.names.lookup x=some .free)(t:bE X scope xs is):bE X scope (x :: xs) (i :: is):=⟨⟨h1,h2⟩,t⟩
theorem bL.mk' {X:Cx}{scope:Scope}{own capn:YI}{caps:List Nat}(k:scope.kind=.function)(c:∀ y∈scope.names,y.2 ≠ .cell)(n:∀ y∈scope.names,y.2=.local→scope.names.lookup y.1=some .local)(f:eZ X scope.names)(cp:bE X scope capn caps):bL X scope own capn caps :=
 ⟨k,c,n,f.get,cp.get.1,cp.get.2⟩
end Fm
namespace Fm
open PySem PySem.Spec L2
section
variable {K:ZX} {ρ:YH} {H:Hp}
end
section
variable {X:Cx} {pos:Pos}
theorem yg {i:Int}{j:Nat}{p2:Pos}:ME X (.UnaryOp .USub (.Constant (.int i) j p2) pos) (fC (.int (-i))) :=
 PE.imp (Hl E8 Aj) fun σ H Q ⟨ρ,σd,hd,rs,p⟩=>⟨i,rfl,p.here rs (by simp only [rD,RD])⟩
end
end Fm
namespace Fm
open PySem PySem.Spec L2 PySem.W PyProof.Rows
section
variable {cmp:Nat→Nat→(Bool→Shared→Prop)→Shared→Prop} {n:Nat} {s:Shared} {lt:Nat→Nat→Bool}
structure Ord (lt:Nat→Nat→Bool) (n:Nat):Prop where
 asy:∀ i j,i < n→j < n→lt i j=true→lt j i=false
 tr:∀ i j k,i < n→j < n→k < n→lt i j=true→lt j k=true→lt i k=true
 tot:∀ i j,i < n→j < n→i≠j→lt i j=false→lt j i=true
structure Gd (n:Nat) (p:Array Nat):Prop where
 sz:p.size=n
 pm:p.Perm (List.toArray (List.range n))
variable (O:Ord lt n) (hc:∀ i j,i < n→j < n → ∀ C:Bool→Shared→Prop,C (lt i j) s→cmp i j C s)
include O hc
end
end Fm
namespace Fm
def sB (x:YF):YA→YA
 | []=>[x]
 | y :: r=>if bw x y=true then x :: y :: r else y :: sB x r
def bN:YA→YA
 | []=>[]
 | x :: r=>sB x (bN r)
def kx (r:YF):D:=.tup (r.map .int)
theorem iF:∀ a,bw a a=false
 | []=>rfl
 | x :: a=>by simp [bw,iF a]
theorem gP:∀ {a b c},bw a b=true→bw b c=true→bw a c=true
 | [],[],_,h,_=>by simp [bw] at h
 | [],_ :: _,[],_,h=>by simp [bw] at h
 | [],_ :: _,_ :: _,_,_=>rfl
 | _ :: _,[],_,h,_=>by simp [bw] at h
 | _ :: _,_ :: _,[],_,h=>by simp [bw] at h
 | x :: a,y :: b,z :: c,h,h'=>by
  simp only [bw] at h h' ⊢
  by_cases e:x=y
  ·subst e
   rw [if_pos rfl] at h
   by_cases e2:x=z
   ·subst e2
    rw [if_pos rfl] at h' ⊢
    exact gP h h'
   ·rw [if_neg e2] at h' ⊢;exact h'
  ·rw [if_neg e] at h
   by_cases e2:y=z
   ·subst e2
    rw [if_neg e];exact h
   ·rw [if_neg e2] at h'
    simp at h h'
    rw [if_neg (by omega)]
    simp;omega
theorem jR:∀ {a b},a≠b→bw a b=false→bw b a=true
 | [],[],h,_=>absurd rfl h
 | [],_ :: _,_,h=>by simp [bw] at h
 | _ :: _,[],_,_=>rfl
 | x :: a,y :: b,h,h'=>by
  simp only [bw] at h' ⊢
  by_cases e:x=y
  ·subst e
   rw [if_pos rfl] at h' ⊢
   exact jR (fun z=>h (by rw [z])) h'
  ·rw [if_neg e] at h'
   rw [if_neg (Ne.symm e)]
   simp at h' ⊢;omega
theorem nc {a b:YF}(h:bw a b=true):bw b a=false:=by
 cases c:bw b a with
 | false=>rfl
 | true=>have:=gP h c;rw [iF] at this;cases this
theorem mE (x:YF):∀ r,(sB x r).Perm (x :: r)
 | []=>.refl _
 | y :: r=>by
  simp only [sB]
  split
  ·exact .refl _
  ·exact ((mE x r).cons y).trans (.swap x y r)
theorem b9:∀ r,(bN r).Perm r
 | []=>.refl _
 | x :: r=>(mE x _).trans ((b9 r).cons x)
theorem oA {x:YF}:∀ {r:YA},x∉r→r.Pairwise (fun a b=>bw a b=true)→(sB x r).Pairwise (fun a b=>bw a b=true)
 | [],_,_=>by simp [sB]
 | y :: r,hx,h=>by
  simp only [sB]
  have hy : ¬ x=y:=fun z=>hx (by simp [z])
  have hr:x∉r:=fun z=>hx (by simp [z])
  obtain⟨h1,h2⟩:=List.pairwise_cons.mp h
  split
  ·rename_i c
   refine List.pairwise_cons.mpr ⟨fun b hb => ?_,h⟩
   rcases YQ hb with rfl|hb
   ·exact c
   ·exact gP c (h1 b hb)
  ·rename_i c
   have c':=jR hy (by simpa using c)
   refine List.pairwise_cons.mpr ⟨fun b hb => ?_,oA hr h2⟩
   rcases YQ ((mE x r).mem_iff.mp hb) with rfl|hb
   ·exact c'
   ·exact h1 b hb
theorem cf:∀ {r:YA},r.Nodup→(bN r).Pairwise (fun a b=>bw a b=true)
 | [],_=>.nil
 | x :: r,h=>by
  obtain⟨h1,h2⟩:=List.nodup_cons.mp h
  exact oA (fun z=>h1 ((b9 r).mem_iff.mp z)) (cf h2)
theorem jS {a b:YA}(p:a.Perm b)(ha:a.Pairwise (fun a b=>bw a b=true))(hb:b.Pairwise (fun a b=>bw a b=true)):a=b :=
 List.Perm.eq_of_pairwise (fun x y _ _ h h'=>by have:=nc h;rw [h'] at this;cases this) ha hb p
theorem uD (r:YA):pU (r.map kx)=some r:=by
 have hi:∀ l:YF,dR (l.map .int)=some l:=fun l=>by
  induction l with
  | nil=>rfl
  | cons x l ih=>simp [dR,ih]
 induction r with
 | nil=>rfl
 | cons x r ih=>simp [pU,kx,hi] at ih ⊢;simp [ih]
end Fm
namespace Fm
open PySem PySem.Spec L2 PySem.W PyProof.Rows
section
variable {X:Cx} {pos p:Pos}
theorem bU.rds {K:ZX}{ρ:YH}{H:Hp}:∀ {vs:List V} {rs:YA},bU H vs rs→RDs K ρ H (rs.map kx) vs
 | _,_,.nil=>RDs.nil
 | _,_,.cons (a:=a) (r:=r) h t=>by
  refine RDs.cons ?_ (bU.rds t)
  unfold kx
  simp only [RD]
  refine⟨a,_,rfl,h,?_⟩
  clear h
  induction r with
  | nil=>exact RDs.nil
  | cons x r ih=>exact RDs.cons (by simp only [RD]) ih
end
end Fm
namespace Fm
open PySem PySem.Spec L2 PySem.W PyProof.Rows
section
variable {X:Cx} {pos p:Pos}
theorem RDs.rep {K:ZX}{ρ:YH}{H:Hp}{l:List D}{vs:List V}(r:RDs K ρ H l vs):∀ k,RDs K ρ H (List.replicate k l).flatten (List.replicate k vs).flatten
 | 0=>RDs.nil
 | k + 1=>by
  rw [List.replicate_succ,List.replicate_succ,List.flatten_cons,List.flatten_cons]
  exact RDs.append r (RDs.rep r k)
end
end Fm
namespace Fm
@[simp] def yh:EF:=fun _ h=>.ok (.ref h.length) (h++[.dct []])
def oC (l:List (Int × D)) (k:Int):Option D:=(l.find? fun p=>decide (p.1=k)).map (·.2)
def ww (l:List (Int × D)) (k:Int) (v:D):List (Int × D):=if (l.any fun p=>decide (p.1=k))=true then l.map (fun p=>if p.1=k then (p.1,v) else p) else l++[(k,v)]
@[simp] def AU:O2:=fun x y h=>match x,y with
 | .int k,.ref n=>match h[n]? with|some (.dct l)=>.ok (.bl (oC l k).isSome) h|_=>.bad
 | _,_=>.bad
@[simp] def uE (x i e:EF):SF:=fun σ h=>outE (e σ h) σ fun d h=>outE (x σ h) σ fun p h=>outE (i σ h) σ fun j h=>match p,j with
 | .ref n,.int k=>match h[n]? with
  | some (.dct l)=>if l.length < SZ then .nx σ (h.set n (.dct (ww l k d))) else .bad
  | _=>.bad
 | _,_=>.bad
def eN:List (Int × D)→Option (YA)
 | []=>some []
 | (k,.int v) :: r=>(eN r).map fun l=>[k,v] :: l
 | _=>none
@[simp] def mF (a:EF):LF:=fun σ h=>(a σ h).bind fun x h=>match x with
 | .ref n=>match h[n]? with
  | some (.dct l)=>match eN l with
   | some r=>if r.length < 64∧r.Nodup then .ok ((bN r).map kx) h else .bad
   | none=>.bad
  | _=>.bad
 | _=>.bad
end Fm
namespace L2
open PySem PySem.Spec PyProof.Rows
section
variable {κ : Type} [DecidableEq κ]
def jg (kvs:List (κ × V)) (k : κ):Option V:=(kvs.find? fun kv=>decide (kv.1=k)).map (·.2)
def kz (kvs:List (κ × V)) (k : κ) (v:V):List (κ × V) :=
 if (kvs.any fun kv=>decide (kv.1=k))=true then kvs.map (fun kv=>if kv.1=k then (kv.1,v) else kv) else kvs++[(k,v)]
theorem oD {p : κ × V}{r:List (κ × V)}{k : κ}(e:p.1=k):jg (p :: r) k=some p.2:=by simp [jg,List.find?_cons,e]
theorem lu {p : κ × V}{r:List (κ × V)}{k : κ}(e : ¬ p.1=k):jg (p :: r) k=jg r k:=by simp [jg,List.find?_cons,e]
theorem uF (k : κ):∀ kvs:List (κ × V),(kvs.any fun kv=>decide (kv.1=k))=(jg kvs k).isSome
 | []=>rfl
 | p :: r=>by
  rw [List.any_cons]
  by_cases e:p.1=k
  ·simp only [oD e,YZ e,Bool.true_or,Option.isSome_some]
  ·rw [lu e,XB e,Bool.false_or];exact uF k r
theorem ng (kvs:List (κ × V))(k : κ)(v:V):(kz kvs k v).length≤kvs.length + 1:=by
 unfold kz
 split
 ·rw [ZA];omega
 ·rw [ZB,List.length_cons,List.length_nil];omega
theorem yW.isSome_eq {o:Option V}{u:YM}(r:yW o u):o.isSome=u.isSome:=by
 cases o with
 | none=>cases u with
  | none=>rfl
  | some _=>exact (show False from r).elim
 | some _=>cases u with
  | none=>exact (show False from r).elim
  | some _=>rfl
theorem KV.val {kvs:List (κ × V)}{vs:List (κ × Value)}(r:KV kvs vs)(k : κ):yW (jg kvs k) (valueAt vs k):=by
 unfold KV at r
 induction r with
 | nil=>exact True.intro
 | @cons p q ps qs h t ih =>
  obtain⟨h1,h2⟩:=h
  by_cases e:p.1=k
  ·have e':q.1=k:=h1.symm.trans e
   have b:valueAt (q :: qs) k=some q.2:=by simp [valueAt,List.find?_cons,e']
   rw [oD e,b];exact h2
  ·have e' : ¬ q.1=k:=fun z=>e (h1.trans z)
   have b:valueAt (q :: qs) k=valueAt qs k:=by simp [valueAt,List.find?_cons,e']
   rw [lu e,b];exact ih
theorem KV.any {kvs:List (κ × V)}{vs:List (κ × Value)}(r:KV kvs vs)(k : κ):(kvs.any fun kv=>decide (kv.1=k))=vs.any fun kv=>decide (kv.1=k):=by
 unfold KV at r
 induction r with
 | nil=>rfl
 | cons h t ih=>rw [List.any_cons,List.any_cons,ih,h.1]
theorem KV.repl {kvs:List (κ × V)}{vs:List (κ × Value)}(r:KV kvs vs)(k : κ){y:V}{u:Value}(ry:bB y u) :
  KV (kvs.map fun kv=>if kv.1=k then (kv.1,y) else kv) (vs.map fun kv=>if kv.1=k then (kv.1,u) else kv):=by
 unfold KV at r ⊢
 induction r with
 | nil=>exact .nil
 | @cons p q ps qs h t ih =>
  rw [XC,XC]
  refine .cons ?_ ih
  obtain⟨h1,h2⟩:=h
  by_cases e:p.1=k
  ·rw [if_pos e,if_pos (h1.symm.trans e)];exact⟨h1,ry⟩
  ·rw [if_neg e,if_neg (fun z=>e (h1.trans z))];exact⟨h1,h2⟩
theorem KV.put {kvs:List (κ × V)}{vs:List (κ × Value)}(r:KV kvs vs)(k : κ){y:V}{u:Value}(ry:bB y u):KV (kz kvs k y) (stored vs k u):=by
 unfold kz stored
 rw [r.any k]
 by_cases e:(vs.any fun kv=>decide (kv.1=k))=true
 ·rw [if_pos e,if_pos e];exact r.repl k ry
 ·rw [if_neg e,if_neg e];exact Paired.snoc r ⟨rfl,ry⟩
theorem KV.length {kvs:List (κ × V)}{vs:List (κ × Value)}(r:KV kvs vs):kvs.length=vs.length:=Paired.length r
end
theorem AV {P:Program}{w:World}{k:Key}{u:Value}(r:bB (kV k) u):(cH P w).is k u=true:=by
 cases k with
 | inl i=>obtain⟨t,e⟩:=(show ∃ t,u=Value.int i t from r);subst e;exact ue P w i t
 | inr x=>obtain⟨t,e⟩:=(show ∃ t,u=Value.str x t from r);subst e;exact uf P w x t
theorem qI {P:Program}{w:World}:∀ {ks:List Key} {us:YG},aV (ks.map kV) us→ItemsAre (cH P w) ks us
 | [],_,r=>by rw [List.map_nil] at r;cases r;exact .nil
 | k :: ks,_,r=>by
  rw [XC] at r
  cases r with
  | cons h t=>exact .cons (AV h) (qI t)
abbrev KT (H:Hp):List (List Key × V)→List (List Key × Addr × Value)→Prop:=Paired fun p q=>p.1=q.1∧H q.2.1=some (.tup (p.1.map kV))∧bB p.2 q.2.2
theorem KT.val {H:Hp}{kvs:List (List Key × V)}{xs:List (List Key × Addr × Value)}(r:KT H kvs xs)(k:List Key):yW (jg kvs k) ((atKey xs k).map (·.2)):=by
 induction r with
 | nil=>exact True.intro
 | @cons p q ps qs h t ih =>
  obtain⟨h1,_,h2⟩:=h
  by_cases e:p.1=k
  ·have e':q.1=k:=h1.symm.trans e
   have b:atKey (q :: qs) k=some q.2:=by simp [atKey,List.find?_cons,e']
   rw [oD e,b];exact h2
  ·have e' : ¬ q.1=k:=fun z=>e (h1.trans z)
   have b:atKey (q :: qs) k=atKey qs k:=by simp [atKey,List.find?_cons,e']
   rw [lu e,b];exact ih
theorem KT.repl {H:Hp}{kvs:List (List Key × V)}{xs:List (List Key × Addr × Value)}(r:KT H kvs xs)(k:List Key){y:V}{u:Value}(ry:bB y u) :
  KT H (kvs.map fun kv=>if kv.1=k then (kv.1,y) else kv) (xs.map (putAt k u)):=by
 induction r with
 | nil=>exact .nil
 | @cons p q ps qs h t ih =>
  rw [XC,XC]
  refine .cons ?_ ih
  obtain⟨h1,h2,h3⟩:=h
  unfold putAt
  by_cases e:p.1=k
  ·rw [if_pos e,if_pos (h1.symm.trans e)];exact⟨h1,h2,ry⟩
  ·rw [if_neg e,if_neg (fun z=>e (h1.trans z))];exact⟨h1,h2,h3⟩
theorem KT.put {H:Hp}{kvs:List (List Key × V)}{xs:List (List Key × Addr × Value)}(r:KT H kvs xs)(k:List Key){b:Addr}{y:V}{u:Value}(hb:H b=some (.tup (k.map kV)))(ry:bB y u) :
  KT H (kz kvs k y) (storedH xs k b u):=by
 have e:(kvs.any fun kv=>decide (kv.1=k))=(atKey xs k).isSome:=by
  rw [uF,(r.val k).isSome_eq,Option.isSome_map]
 unfold kz storedH
 rw [e]
 by_cases q:(atKey xs k).isSome=true
 ·rw [if_pos q,if_pos q];exact r.repl k ry
 ·rw [if_neg q,if_neg q];exact Paired.snoc r ⟨rfl,hb,ry⟩
theorem KT.keeps {H H':Hp}{kvs:List (List Key × V)}{xs:List (List Key × Addr × Value)}(r:KT H kvs xs)(ht:∀ b ys,H b=some (.tup ys)→H' b=some (.tup ys)):KT H' kvs xs :=
 Paired.mapP r fun _ _ z=>⟨z.1,ht _ _ z.2.1,z.2.2⟩
section
variable {P:Program} {w:World} {H:Hp} {h:Heap} {a:Addr}
theorem Ev {u:HO}(ok:HOk P w H h)(e:Rd H a u):dP P w H h a u:=e.ok ok
theorem AW {kvs:List (Key × V)}(ok:HOk P w H h)(e:Rd H a (.dK kvs)):kvs.length≤sizeLine∧(a == sysModules)=false ∧ ∃ vs,KV kvs vs∧h.DictOf (cH P w) a vs :=
 show dP P w H h a (.dK kvs) from Ev ok e
theorem AX {kvs:List (Key × V)}(ok:HOk P w H h)(e:H a=some (.dK kvs)):kvs.length≤sizeLine∧(a == sysModules)=false ∧ ∃ vs,KV kvs vs∧h.DictOf (cH P w) a vs:=AW ok (.inl e)
theorem wx {ks:List Key}(ok:HOk P w H h)(e:H a=some (.tup (ks.map kV))):(tupleKind (cH P w)).is h ks a:=by
 obtain⟨_,its,r,o,h1,h2,n,h3⟩:=(show dP P w H h a (.tup (ks.map kV)) from ok a _ e)
 exact⟨o,its.toArray,n,h1,h2,h3,by simpa using qI r⟩
theorem AY {kvs:List (List Key × V)}(ok:HOk P w H h)(e:Rd H a (.dT kvs)):kvs.length≤sizeLine∧(a == sysModules)=false ∧
  ∃ xs,KT H kvs xs∧h.DictOfH (tupleKind (cH P w)) a xs:=by
 obtain⟨z,y,xs,r,o,es,ep,h1,h2,h3,h4,h5⟩:=(show dP P w H h a (.dT kvs) from Ev ok e)
 refine⟨z,y,xs,r,o,es,ep,h1,h2,h3,h4,fun x hx => ?_,h5⟩
 have all:∀ {l:List (List Key × V)} {m:List (List Key × Addr × Value)},KT H l m → ∀ x∈m,(tupleKind (cH P w)).is h x.1 x.2.1:=by
  intro l m q
  induction q with
  | nil=>intro x hx;exact nomatch hx
  | @cons p q ps qs hq t ih =>
   intro x hx
   rcases YQ hx with e|hx
   ·subst e
    exact wx ok (by rw [← hq.1];exact hq.2.1)
   ·exact ih x hx
 exact all r x hx
theorem HK {kvs:List (List Key × V)}(ok:HOk P w H h)(e:H a=some (.dT kvs)):kvs.length≤sizeLine∧(a == sysModules)=false ∧
  ∃ xs,KT H kvs xs∧h.DictOfH (tupleKind (cH P w)) a xs:=AY ok (.inl e)
end
def AZ (H:Hp) (a:Addr) (y:V) (r:Option V):Prop :=
 (∃ kvs k,Rd H a (.dK kvs)∧y=kV k∧r=jg kvs k) ∨ ∃ kvs k b,Rd H a (.dT kvs)∧y=.ref b∧H b=some (.tup (k.map kV))∧r=jg kvs k
def A0 (H:Hp) (a:Addr) (y v:V) (H':Hp):Prop :=
 (∃ kvs k,H a=some (.dK kvs)∧y=kV k∧kvs.length < sizeLine∧H'=upd H a (.dK (kz kvs k v))) ∨
 ∃ kvs k b,H a=some (.dT kvs)∧y=.ref b∧H b=some (.tup (k.map kV))∧kvs.length < sizeLine∧H'=upd H a (.dT (kz kvs k v))
theorem AZ.k {H:Hp}{a:Addr}{kvs:List (Key × V)}{k:Key}(e:H a=some (.dK kvs)):AZ H a (kV k) (jg kvs k):=.inl ⟨kvs,k,.inl e,rfl,rfl⟩
theorem A0.k {H:Hp}{a:Addr}{kvs:List (Key × V)}{k:Key}{v:V}(e:H a=some (.dK kvs))(hl:kvs.length < sizeLine):A0 H a (kV k) v (upd H a (.dK (kz kvs k v))):=.inl ⟨kvs,k,e,rfl,hl,rfl⟩
section
variable {X:Cx} {pins:List (Addr × Obj)} {σ:St} {H:Hp} {s:Shared} {a:Addr} {y v:V} {u r:Value} {o:Option V} {A:Around} {E:ZY}
theorem Inv.big (I:Inv X pins σ H s):sysModules < s.heap.objs.size:=by
 have h:mainGlobals < s.heap.objs.size:=(I.mod.glob.keeps I.bk).lt
 exact Nat.lt_trans (by decide) h
theorem IW {Q:ZY}(hu:A.units + 1 < cLine)(I:Inv X pins σ H s)(g:AZ H a y o)(ry:bB y u)(h:∀ s',Inv X pins σ H s'→Q (.bool o.isSome) s') :
  wpAny (model X.prog X.w) A (compareOp .In u (.ref a)) Q E s:=by
 rcases g with ⟨kvs,k,e,ey,l⟩|⟨kvs,k,b,e,ey,eb,l⟩
 ·subst ey
  obtain⟨z,hd,vs,rel,dd⟩:=AW I.hok e
  refine wpAny_in_of (AV ry) hd dd.mapOf ?_
  rw [← (rel.val k).isSome_eq,← l]
  exact h _ (I.tok _)
 ·subst ey
  cases (show u=Value.ref b from ry)
  obtain⟨z,hd,xs,rel,dd⟩:=AY I.hok e
  refine wpAny_in_heap (tupleKind_room_in1 hu) (wx I.hok eb) hd dd ?_
  have q:=(rel.val k).isSome_eq
  rw [Option.isSome_map] at q
  rw [← q,← l]
  exact h _ (I.tok _)
theorem yi {h':Heap}{t':Nat}{ob:HO}(I:Inv X pins σ H s)(mu:Mut (H a))(hs:Heap.SameBut a s.heap h')(he:∃ q,h'.get? a=some q)(new:dP X.prog X.w (upd H a ob) h' a ob) :
  Inv X pins σ (upd H a ob) { s with heap:=h',toks:=t' } :=
 I.write (x:=a) (e:=a) mu (.inl rfl) (fun b q hb z=>(hs.2 b hb).trans z) he new
theorem FH {P:Program}{w:World}{H':Hp}{h':Heap}{kvs:List (Key × V)}{vs:List (Key × Value)}(z:kvs.length≤sizeLine)(hd:(a == sysModules)=false)(rel:KV kvs vs)(dd:h'.DictOf (cH P w) a vs) :
  dP P w H' h' a (.dK kvs):=⟨z,hd,vs,rel,dd⟩
theorem zo {H':Hp}{Q:Unit→Shared→Prop}(hu:A.units + 1 < cLine)(I:Inv X pins σ H s)(g:A0 H a y v H')(ry:bB y u)(rv:bB v r)(h:∀ s',Inv X pins σ H' s'→Q () s') :
  wpAny (model X.prog X.w) A (setItem (.ref a) u r) Q E s:=by
 rcases g with ⟨kvs,k,e,ey,l,eH⟩|⟨kvs,k,b,e,ey,eb,l,eH⟩
 ·subst ey eH
  obtain⟨z,hd,vs,rel,dd⟩:=AX I.hok e
  have hz:vs.length≤sizeLine:=by rw [← rel.length];exact z
  have hl:(kz kvs k v).length≤sizeLine:=by have:=ng kvs k v;omega
  refine wpAny_setItem_pairs (hsz:=hz) (AV ry) dd fun h' dd' hs=>h _ ?_
  have he:∃ q,h'.get? a=some q:=let ⟨q,_,_,hq,_⟩:=dd';⟨q,hq⟩
  exact yi I (by rw [e];exact True.intro) hs he (FH hl hd (rel.put k rv) dd')
 ·subst ey eH
  cases (show u=Value.ref b from ry)
  obtain⟨z,hd,xs,rel,dd⟩:=HK I.hok e
  have hz:xs.length≤sizeLine:=by rw [← Paired.length rel];exact z
  have hl:(kz kvs k v).length≤sizeLine:=by have:=ng kvs k v;omega
  refine wpAny_setItem_heap (hsz:=hz) (tupleKind_room_in1 hu) (wx I.hok eb) dd fun h' dd' hs=>h _ ?_
  obtain⟨q,es,ep,hq,h2,h3,h4,_,h5⟩:=dd'
  refine yi I (by rw [e];exact True.intro) hs ⟨q,hq⟩ ⟨hl,hd,_,(rel.put k eb rv).keeps fun c ys ec => ?_,q,es,ep,hq,h2,h3,h4,h5⟩
  rw [aC (G8 ec e (fun z=>nomatch z))]
  exact ec
end
section
variable {X:Cx} {pins:List (Addr × Obj)} {σ:St} {H:Hp} {s:Shared} {a:Addr} {kvs:List (Key × V)} {k:Key} {u:Value} {A:Around} {E:ZY}
end
section
variable {X:Cx} {o i e value:Expr} {pos pos' tpos:Pos} {td ty tv:TE}
end
theorem A1 {P:Program} {w:World} {H:Hp} (h:Heap) (hb:sysModules < h.objs.size):dP P w H (h.push { cls:=.type "dict",data:=.dict #[] }) h.objs.size (.dK []) :=
 ⟨Nat.zero_le _,beq_eq_false_iff_ne.mpr (Ne.symm (ZN hb)),[],.nil,Heap.DictOf.new h⟩
def FI:TE:=fun _ H Q=>∀ p,H p=none→Q (.ref p) (upd H p (.dK []))
section
variable {X:Cx} {pos:Pos}
theorem A2:PE X (.Dict [] [] pos) FI:=fun pins s σ H Q I h =>
 wpAny_Dict_empty ⟨.ref s.heap.objs.size,_,I.laid (a:=s.heap.objs.size) (o:=.dK []) (t':=s.toks) (fun _ _ q=>ZH _ q) (ZL _) (A1 s.heap I.big),rfl,h _ (I.hok.fresh (ZL _))⟩
end
structure M1 (X:Cx) (o:Expr) (m:Str) (apos:Pos) (e:Expr) (cpos:Pos):Prop where
 base:attributeBase o m X.env (eval o X.env)=eval o X.env
 few:((backTo cpos (starEach [e] X.env)).all (fun x => !x.1) && (backToKw cpos (keywordEach [] X.env)).all (fun x=>x.1.isSome)
  && decide (([e] : YJ).length + ([] : List Keyword).length + (if ([] : List Keyword).isEmpty then 0 else 1) < 30))=true
 line:(apos.endLine == cpos.line)=true
 trees:backTo cpos (starEach [e] X.env)=[(false,eval e X.env)]
structure M2 (X:Cx) (o:Expr) (m:Str) (apos:Pos) (e f:Expr) (cpos:Pos):Prop where
 base:attributeBase o m X.env (eval o X.env)=eval o X.env
 few:((backTo cpos (starEach [e,f] X.env)).all (fun x => !x.1) && (backToKw cpos (keywordEach [] X.env)).all (fun x=>x.1.isSome)
  && decide (([e,f] : YJ).length + ([] : List Keyword).length + (if ([] : List Keyword).isEmpty then 0 else 1) < 30))=true
 line:(apos.endLine == cpos.line)=true
 trees:backTo cpos (starEach [e,f] X.env)=[(false,eval e X.env),(false,eval f X.env)]
def IsD (H:Hp) (a:Addr):Prop:=(∃ kvs,Rd H a (.dK kvs)) ∨ ∃ kvs,Rd H a (.dT kvs)
theorem FJ {X:Cx}{pins:List (Addr × Obj)}{σ:St}{H:Hp}{s:Shared}{a:Addr}(I:Inv X pins σ H s)(d:IsD H a) :
  s.TypeIs (.ref a) "dict" ∧ (∀ b,Value.ref a=.ref b → ∃ ob,s.heap.get? b=some ob∧ob.dict=none)∧(a == sysModules)=false:=by
 rcases d with ⟨kvs,e⟩|⟨kvs,e⟩
 ·obtain⟨_,hd,vs,_,dd⟩:=AW I.hok e
  refine⟨dd.typeIs,fun b q => ?_,hd⟩
  cases q
  obtain⟨ob,_,_,h1,h2,_⟩:=dd
  exact⟨ob,h1,h2.2.1⟩
 ·obtain⟨_,hd,xs,_,dd⟩:=AY I.hok e
  refine⟨dd.typeIs,fun b q => ?_,hd⟩
  cases q
  obtain⟨ob,_,_,h1,h2,_⟩:=dd
  exact⟨ob,h1,h2.2.1⟩
section
variable {X:Cx} {pins:List (Addr × Obj)} {σ:St} {H:Hp} {s:Shared} {a:Addr} {y d:V} {u r:Value} {o:Option V} {A:Around} {E:ZY}
end
section
variable {X:Cx} {o e f:Expr} {apos cpos:Pos} {td ty tx:TE}
end
section
variable {X:Cx} {pins:List (Addr × Obj)} {σ:St} {H:Hp} {s:Shared} {a:Addr} {kvs:List (Key × V)} {A:Around} {E:ZY}
end
section
variable {X:Cx} {pins:List (Addr × Obj)} {σ:St} {H:Hp} {s:Shared} {a:Addr} {y:V} {u:Value} {A:Around} {E:ZY}
end
end L2
namespace Fm
open PySem PySem.Spec L2 PySem.W PyProof.Rows
section
variable {K:ZX} {ρ:YH} {H:Hp} {hd:Hd}
theorem RH.allocD (r:RH K ρ H hd){p:Addr}{l:List (Int × D)}(hp:RC K ρ H (.dct l) p)(hn:p ∉ ρ):RH K (ρ ++ [p]) H (hd++[.dct l]):=by
 have k:Kp ρ H (ρ ++ [p]) H:=⟨fun n a e=>by rw [ZC (YO e).1];exact e,fun _ _ h=>h,fun _ _ _ h=>h,fun _ _ h=>h⟩
 refine⟨by simp [r.len],?_,fun n c a h1 h2 => ?_⟩
 ·rw [List.nodup_append]
  exact⟨r.nd,by simp,fun a ha b hb=>by simp at hb;subst hb;intro e;subst e;exact hn ha⟩
 ·by_cases hlt:n < hd.length
  ·rw [ZC hlt] at h1
   rw [ZC (by rw [r.len];exact hlt)] at h2
   exact (r.cel n c a h1 h2).mono k rfl
  ·have e1:n=hd.length:=by
    have:=(YO h1).1
    simp at this
    omega
   subst e1
   simp at h1
   subst h1
   rw [← r.len] at h2
   simp at h2
   subst h2
   obtain⟨kvs,q1,q2,q3⟩:=hp
   exact⟨kvs,q1,q2,q3.mono k⟩
theorem RH.writeD (r:RH K ρ H hd){n:Nat}{p:Addr}{l:List (Int × D)}{kvs:List (Key × V)}(hp : ρ[n]? = some p)(hn:n < hd.length)(h1:kvs.map (·.1)=l.map (fun p=>(Sum.inl p.1:Key)))(h2:RDs K ρ H (l.map (·.2)) (kvs.map (·.2))):RH K ρ (upd H p (.dK kvs)) (hd.set n (.dct l)):=by
 have k:Kp ρ H ρ (upd H p (.dK kvs)):=by
  have hm:=ZK hp
  refine⟨fun _ _ h=>h,fun a us e => ?_,fun a o u e => ?_,fun a φ e => ?_⟩
  ·rw [aC (fun z=>r.noTup e (by rw [z];exact hm))];exact e
  ·rw [aC (fun z=>r.noFrz e (by rw [z];exact hm))];exact e
  ·rw [aC (fun z=>r.noExt e (by rw [z];exact hm))];exact e
 refine⟨by simp [r.len],r.nd,fun m c a q1 q2 => ?_⟩
 by_cases e:n=m
 ·subst e
  rw [List.getElem?_set_self hn] at q1
  cases q1
  rw [hp] at q2
  cases q2
  exact⟨kvs,aS,h1,h2.mono k⟩
 ·rw [ZP e] at q1
  have ne:a≠p:=fun z=>by
   subst z
   exact e (om r.nd hp q2)
  exact (r.cel m c a q1 q2).mono k (aC ne)
theorem uG (k:Int):∀ {l:List (Int × D)} {kvs:List (Key × V)},kvs.map (·.1)=l.map (fun p=>(Sum.inl p.1:Key))→RDs K ρ H (l.map (·.2)) (kvs.map (·.2)) →
  (oC l k=none∧jg kvs (Sum.inl k)=none) ∨ ∃ d v,oC l k=some d∧jg kvs (Sum.inl k)=some v∧RD K ρ H d v
 | [],[],_,_=>.inl ⟨rfl,rfl⟩
 | [],_ :: _,h,_=>by simp at h
 | _ :: _,[],h,_=>by simp at h
 | (j,d) :: l,(kk,v) :: kvs,h1,h2=>by
  simp only [XC,List.cons.injEq] at h1
  simp only [XC,RDs] at h2
  obtain⟨v',r',e,q1,q2⟩:=h2
  cases e
  obtain⟨e1,e2⟩:=h1
  subst e1
  by_cases e:j=k
  ·subst e
   exact .inr ⟨d,v,by simp [oC],by simp [jg],q1⟩
  ·have ih:=uG k e2 q2
   have a1:oC ((j,d) :: l) k=oC l k:=by simp [oC,e]
   have a2:jg ((Sum.inl j,v) :: kvs) (Sum.inl k)=jg kvs (Sum.inl k):=lu (fun z=>e (by cases z;rfl))
   rw [a1,a2]
   exact ih
theorem uH (k:Int):∀ {l:List (Int × D)} {kvs:List (Key × V)},kvs.map (·.1)=l.map (fun p=>(Sum.inl p.1:Key))→(kvs.any fun kv=>decide (kv.1=(Sum.inl k:Key)))=l.any fun p=>decide (p.1=k)
 | [],[],_=>rfl
 | [],_ :: _,h=>by simp at h
 | _ :: _,[],h=>by simp at h
 | (j,d) :: l,(kk,v) :: kvs,h1=>by
  simp only [XC,List.cons.injEq] at h1
  obtain⟨e1,e2⟩:=h1
  subst e1
  simp [uH k e2]
theorem uI (k:Int){d0:D}{v0:V}(hv:RD K ρ H d0 v0):∀ {l:List (Int × D)} {kvs:List (Key × V)},kvs.map (·.1)=l.map (fun p=>(Sum.inl p.1:Key))→RDs K ρ H (l.map (·.2)) (kvs.map (·.2)) →
  (kvs.map fun kv=>if kv.1=(Sum.inl k:Key) then (kv.1,v0) else kv).map (·.1)=(l.map fun p=>if p.1=k then (p.1,d0) else p).map (fun p=>(Sum.inl p.1:Key))∧RDs K ρ H ((l.map fun p=>if p.1=k then (p.1,d0) else p).map (·.2)) ((kvs.map fun kv=>if kv.1=(Sum.inl k:Key) then (kv.1,v0) else kv).map (·.2))
 | [],[],_,_=>⟨rfl,RDs.nil⟩
 | [],_ :: _,h,_=>by simp at h
 | _ :: _,[],h,_=>by simp at h
 | (j,d) :: l,(kk,v) :: kvs,h1,h2=>by
  simp only [XC,List.cons.injEq] at h1
  simp only [XC,RDs] at h2
  obtain⟨v',r',e,q1,q2⟩:=h2
  cases e
  obtain⟨e1,e2⟩:=h1
  subst e1
  obtain⟨i1,i2⟩:=uI k hv e2 q2
  by_cases e:j=k
  ·subst e
   simp only [XC,if_true]
   exact⟨by rw [i1],RDs.cons hv i2⟩
  ·have e' : ¬ (Sum.inl j:Key)=Sum.inl k:=fun z=>e (by cases z;rfl)
   simp only [XC,if_neg e,if_neg e']
   exact⟨by rw [i1],RDs.cons q1 i2⟩
theorem A3 (k:Int){d0:D}{v0:V}(hv:RD K ρ H d0 v0){l:List (Int × D)}{kvs:List (Key × V)}(h1:kvs.map (·.1)=l.map (fun p=>(Sum.inl p.1:Key)))(h2:RDs K ρ H (l.map (·.2)) (kvs.map (·.2))) :
  (kz kvs (Sum.inl k) v0).map (·.1)=(ww l k d0).map (fun p=>(Sum.inl p.1:Key))∧RDs K ρ H ((ww l k d0).map (·.2)) ((kz kvs (Sum.inl k) v0).map (·.2)):=by
 unfold kz ww
 rw [uH k h1]
 split
 ·exact uI k hv h1 h2
 ·refine⟨by simp [h1],?_⟩
  rw [ZR,ZR]
  exact RDs.append h2 (RDs.cons hv RDs.nil)
end
section
variable {X:Cx} {pos p:Pos}
theorem Du:ME X (.Dict [] [] pos) yh:=by
 refine PE.imp A2 fun σ H Q ⟨ρ,σd,hd,rs,pp⟩=>fun q hq => ?_
 have sm:=bT (o:=HO.dK []) hq
 have hn:=rs.hp.free hq
 have rh:=(rs.hp.same sm).allocD (p:=q) (l:=[]) ⟨[],aS,rfl,RDs.nil⟩ hn
 have ex:Ext ρ H (ρ ++ [q]) (upd H q (.dK [])):=Ext.alloc hq
 refine bD.at (R:=rD X.K) (a:=.ref hd.length) pp ex (rs.ext ex rh) ?_
 simp only [rD,RD]
 refine⟨q,?_,rfl⟩
 rw [← rs.hp.len]
 simp
def HL (K:ZX):R2:=fun x y H Q=>∃ a o,y=.ref a∧AZ H a x o∧Q (.bl o.isSome) H
theorem FK (hu:X.A.units + 1 < cLine):OpR X (compareOp .In) (HL X.K):=by
 intro pins s σ H x y v u Q I rx ry h
 obtain⟨a,o,rfl,g,q⟩:=h
 obtain rfl:u=Value.ref a:=ry
 exact IW hu I g rx fun s3 I3=>⟨.bl o.isSome,H,I3,rfl,q⟩
theorem FL {K:ZX}:Og K AU (HL K):=by
 intro ρ H σd hd σ d k v w Q rs rv rw' pp
 cases d<;>try exact pp.elim
 cases k<;>try exact pp.elim
 rename_i i n
 simp only [AU] at pp
 simp only [RD] at rv rw'
 subst rv
 obtain⟨a,ha,rfl⟩:=rw'
 cases c:hd[n]? with
 | none=>rw [c] at pp;exact pp.elim
 | some cell =>
  rw [c] at pp
  cases cell with
  | lst l=>exact pp.elim
  | dct l =>
   simp only at pp
   obtain⟨kvs,q1,q2,q3⟩:=rs.hp.cel n _ a c ha
   refine⟨a,jg kvs (Sum.inl i),rfl,AZ.k (k:=Sum.inl i) q1,?_⟩
   have e:(jg kvs (Sum.inl i)).isSome=(oC l i).isSome:=by
    rcases uG i q2 q3 with ⟨e1,e2⟩|⟨d,v,e1,e2,_⟩<;>rw [e1,e2]<;>rfl
   rw [e]
   exact pp.here rs (by simp only [rD,RD])
def HM:V→V→V→Hp→(Hp→Prop)→Prop:=fun o i v H Q=>∃ a H',o=.ref a∧A0 H a i v H'∧Q H'
theorem A4 (hu:X.A.units + 1 < cLine):EY X HM:=by
 intro pins s σ H o i v ov iv u Q I ro ri rv h
 obtain⟨a,H',rfl,g,q⟩:=h
 obtain rfl:ov=Value.ref a:=ro
 exact zo hu I g ri rv fun s' I'=>⟨H',I',q⟩
theorem yj {o i e:Expr}{fo fi fe:EF}{p2:Pos}(hu:X.A.units + 1 < cLine)(he:ME X e fe)(ho:ME X o fo)(hi:ME X i fi)(hs:swapsWithSole [.Subscript o i p2] e pos.line X.env=pure false:=by rfl)(hw:swappedStores [.Subscript o i p2] e X.env=pure none:=by rfl)
  (h1:(assignEach [.Subscript o i p2] X.env).map (·.2)=[assign (.Subscript o i p2) X.env]:=by rfl) (ha:∀ v,assign (.Subscript o i p2) X.env v=(do
   let ov ← holding [v] (eval o X.env)
   let iv ← holding [v,ov] (eval i X.env)
   standAt p2
   holding [v,ov,iv] (setItem ov iv v)
   release [v,ov,iv] []):=by intro _;rfl):MS X (.Assign [.Subscript o i p2] e pos) (uE fo fi fe):=by
 refine PS.imp (vX he (Ao ho hi (A4 hu) ha) hs hw h1) fun En σ H ⟨ρ,σd,hd,rs,p⟩=>⟨ρ,σd,hd,rs,(cw.outE p).imp fun v H1 ⟨ρ1,d,hd1,e1,rs1,rv,p1⟩ => ?_⟩
 refine⟨ρ1,σd,hd1,rs1,(cw.outE p1).imp fun vo H2 ⟨ρ2,dO,hd2,e2,rs2,ro,p2⟩ => ?_⟩
 refine⟨ρ2,σd,hd2,rs2,(cw.outE p2).imp fun vi H3 ⟨ρ3,di,hd3,e3,rs3,ri,p3⟩ => ?_⟩
 have rv3:=(rv.mono (rs1.hp.kp e2)).mono (rs2.hp.kp e3)
 have ro3:=ro.mono (rs2.hp.kp e3)
 cases dO with
 | ref n =>
  cases di with
  | int j =>
   simp only at p3
   cases c:hd3[n]? with
   | none=>rw [c] at p3;exact p3.elim
   | some cell =>
    rw [c] at p3
    cases cell with
    | lst l=>exact p3.elim
    | dct l =>
     simp only at p3
     split at p3
     ·rename_i hz
      simp only [RD] at ro3 ri
      subst ri
      obtain⟨a,ha,rfl⟩:=ro3
      obtain⟨kvs,q1,q2,q3⟩:=rs3.hp.cel n _ a c ha
      have hl:kvs.length=l.length:=by have:=congrArg List.length q2;simpa using this
      refine⟨a,_,rfl,A0.k (k:=Sum.inl j) q1 (by rw [hl];exact Nat.lt_of_lt_of_le hz (by rw [sizeLine_eq];decide)),?_⟩
      have hn:n < hd3.length:=(YO c).1
      obtain⟨u1,u2⟩:=A3 j rv3 q2 q3
      have rh:=rs3.hp.writeD ha hn u1 u2
      have ex:Ext ρ3 H3 ρ3 (upd H3 a (.dK (kz kvs (Sum.inl j) v))):=Ext.write (ZK ha)
      exact p3 σ _ ρ3 ex (rs3.ext ex rh)
     ·exact p3.elim
  | _=>exact p3.elim
 | _=>exact p3.elim
end
end Fm
namespace Ts
open PySem PyProof.Rows
def jv:Bool→Keyed→Array Keyed→Nat→Nat→Nat→StateT SortSt Sem (YL):=sortPriv% PySem.Builtin.gallop
def wy (lf:Bool) (ky:Keyed) (xs:Array Keyed) (b i:Nat):StateT SortSt Sem (Option Bool):=do
 let z ← elem' xs (b + i)
 if lf then lt' z ky else return (← lt' ky z).map (!·)
def ui (lf:Bool) (ky:Keyed) (xs:Array Keyed) (b n x0 y0:Nat):StateT SortSt Sem (YL):=do
 let mut x:=x0
 let mut y:=y0
 for _ in [0:n] do
  if x ≥ y then break
  let m:=x + (y - x) / 2
  let some e ← wy lf ky xs b m|return none
  if e then x:=m + 1 else y:=m
 return some y
theorem Dv (lf:Bool)(ky:Keyed)(xs:Array Keyed)(b n ht:Nat):jv lf ky xs b n ht=(do
  let mut u:=0
  let mut v:=1
  let some rt ← wy lf ky xs b ht|return none
  if rt then
   let w:=n - ht
   for _ in [0:n] do
    if v ≥ w then break
    let some e ← wy lf ky xs b (ht + v)|return none
    if !e then break
    u:=v
    v:=2 * v + 1
   ui lf ky xs b n (ht + u + 1) (ht + min v w)
  else
   let w:=ht + 1
   for _ in [0:n] do
    if v ≥ w then break
    let some e ← wy lf ky xs b (ht - v)|return none
    if e then break
    u:=v
    v:=2 * v + 1
   ui lf ky xs b n (ht + 1 - min v w) (ht - u)):=rfl
section
variable {M:Model} {A:Around} {E:ZY} {s:Shared}
structure Cmp (M:Model) (A:Around) (E:ZY) (s:Shared) (kd:SortKind) (S:Keyed→Prop) (r:Keyed→Keyed→Bool):Prop where
 ask:∀ {x y:Keyed} {st:SortSt} {Q:Option Bool→SortSt→Prop},S x→S y→kindOf st=kd→Q (some (r x y)) st→wpS M A E s (lt' x y) Q st
 asym:∀ {x y:Keyed},r x y=true→r y x=false
 tr:∀ {x y z:Keyed},r y x=false→r z y=false→r z x=false
end
end Ts
namespace Ts
open PySem PyProof.Rows
section
variable {M:Model} {A:Around} {E:ZY} {s:Shared} {kd:SortKind} {S:Keyed→Prop} {r:Keyed→Keyed→Bool}
theorem bO {xs:Array Keyed}{i:Nat}{x:Keyed}{st:SortSt}{Q:Keyed→SortSt→Prop}(e:xs[i]? = some x)(h:Q x st):wpS M A E s (elem' xs i) Q st:=by
 rw [elem'_eq,e];exact wpS_pure h
theorem FM (C:Cmp M A E s kd S r){lf:Bool}{ky:Keyed}{xs:Array Keyed}{b i:Nat}{x:Keyed}{st:SortSt}{Q:Option Bool→SortSt→Prop}(hk:kindOf st=kd)(e:xs[b + i]? = some x)(Sx:S x)(Sk:S ky)(h:Q (some (if lf then r x ky else !r ky x)) st):wpS M A E s (wy lf ky xs b i) Q st:=by
 unfold wy
 refine wpS_bind (bO e ?_)
 cases lf with
 | true=>exact C.ask Sx Sk hk h
 | false=>exact wpS_bind (C.ask Sk Sx hk (wpS_pure h))
theorem sC (C:Cmp M A E s kd S r){lf:Bool}{ky:Keyed}{xs:Array Keyed}{b n ht:Nat}{st:SortSt}{Q:YL→SortSt→Prop}(hk:kindOf st=kd)(p:Nat→Bool)(hp:∀ i,i < n → ∃ x,xs[b + i]? = some x∧S x∧p i=(if lf then r x ky else !r ky x))(Sk:S ky)(mono:∀ i j,i≤j→j < n→p j=true→p i=true)(hh:ht < n)
  (q:∀ k,k≤n→(∀ i,i < k→p i=true)→(∀ i,k≤i→i < n→p i=false)→Q (some k) st):wpS M A E s (jv lf ky xs b n ht) Q st:=by
 have wa:∀ {i:Nat} {R:Option Bool→SortSt→Prop},i < n→R (some (p i)) st→wpS M A E s (wy lf ky xs b i) R st:=fun {i R} hi h=>by
  obtain⟨x,e,Sx,pe⟩:=hp i hi
  exact FM C hk e Sx Sk (by rw [← pe];exact h)
 have bin:∀ x0 y0,x0≤y0→y0≤n→(∀ i,i < x0→p i=true)→(∀ i,y0≤i→i < n→p i=false) →
   wpS M A E s (ui lf ky xs b n x0 y0) Q st:=by
  intro x0 y0 h1 h2 h3 h4
  unfold ui
  refine wpS_bind (wpS_mono (wpS_forRange (I:=fun i c st'=>st'=st ∧ ∃ x y,c=(none,x,y)∧x≤y∧y≤n∧(∀ i,i < x→p i=true)∧(∀ i,y≤i→i < n→p i=false)∧y - x + i≤n)
   (Q:=fun c st'=>st'=st ∧ ∃ y,c=(none,y,y)∧y≤n∧(∀ i,i < y→p i=true)∧(∀ i,y≤i→i < n→p i=false)) ?step ?fin ⟨rfl,x0,y0,rfl,h1,h2,h3,h4,by omega⟩) fun c st' h => ?_)
  case fin =>
   rintro c st' ⟨rfl,x,y,rfl,g1,g2,g3,g4,g5⟩
   have:x=y:=by omega
   subst this
   exact⟨rfl,x,rfl,g2,g3,g4⟩
  case step =>
   rintro i c st' _ hi ⟨rfl,x,y,rfl,g1,g2,g3,g4,g5⟩
   dsimp only
   by_cases c:x ≥ y
   ·rw [if_pos c]
    have:x=y:=by omega
    subst this
    exact wpS_pure ⟨rfl,x,rfl,g2,g3,g4⟩
   ·rw [if_neg c]
    have hm:x + (y - x) / 2 < y:=by omega
    refine wpS_bind (wa (by omega) ?_)
    dsimp only
    cases pm:p (x + (y - x) / 2) with
    | true =>
     rw [if_pos rfl]
     exact wpS_pure ⟨rfl,_,_,rfl,by omega,g2,fun j hj=>mono j _ (by omega) (by omega) pm,g4,by omega⟩
    | false =>
     rw [if_neg Bool.false_ne_true]
     refine wpS_pure ⟨rfl,_,_,rfl,by omega,by omega,g3,fun j h5 h6 => ?_,by omega⟩
     cases pj:p j with
     | false=>rfl
     | true=>rw [mono _ j h5 h6 pj] at pm;cases pm
  ·obtain⟨rfl,y,rfl,g2,g3,g4⟩:=h
   exact wpS_pure (q y g2 g3 g4)
 rw [Dv]
 refine wpS_bind (wa hh ?_)
 dsimp only
 cases ph:p ht with
 | true =>
  rw [if_pos rfl]
  refine wpS_bind (wpS_mono (wpS_forRange (I:=fun i c st'=>st'=st ∧ ∃ u v,c=(none,u,v)∧u < v∧i < v∧ht + u < n∧p (ht + u)=true)
   (Q:=fun c st'=>st'=st ∧ ∃ u v,c=(none,u,v)∧u < v∧ht + u < n∧p (ht + u)=true∧(n - ht≤v∨ht + v < n∧p (ht + v)=false)) ?step ?fin ⟨rfl,0,1,rfl,by omega,by omega,by omega,ph⟩) fun c st' h => ?_)
  case fin =>
   rintro c st' ⟨rfl,u,v,rfl,g1,g2,g3,g4⟩
   exact⟨rfl,u,v,rfl,g1,g3,g4,.inl (by omega)⟩
  case step =>
   rintro i c st' _ hi ⟨rfl,u,v,rfl,g1,g2,g3,g4⟩
   dsimp only
   by_cases c:v ≥ n - ht
   ·rw [if_pos c]
    exact wpS_pure ⟨rfl,u,v,rfl,g1,g3,g4,.inl c⟩
   ·rw [if_neg c]
    refine wpS_bind (wa (by omega) ?_)
    dsimp only
    cases pm:p (ht + v) with
    | false =>
     rw [if_pos (by decide)]
     exact wpS_pure ⟨rfl,u,v,rfl,g1,g3,g4,.inr ⟨by omega,pm⟩⟩
    | true =>
     rw [if_neg (by decide)]
     exact wpS_pure ⟨rfl,_,_,rfl,by omega,by omega,by omega,pm⟩
  ·obtain⟨rfl,u,v,rfl,g1,g3,g4,g5⟩:=h
   dsimp only
   refine bin (ht + u + 1) (ht + min v (n - ht)) (by omega) (by omega) (fun i hi=>mono i _ (by omega) g3 g4) fun i h5 h6 => ?_
   rcases g5 with g5|⟨g5,g6⟩
   ·omega
   ·cases pj:p i with
    | false=>rfl
    | true=>rw [mono _ i (by omega) h6 pj] at g6;cases g6
 | false =>
  rw [if_neg Bool.false_ne_true]
  refine wpS_bind (wpS_mono (wpS_forRange (I:=fun i c st'=>st'=st ∧ ∃ u v,c=(none,u,v)∧u < v∧i < v∧u≤ht∧p (ht - u)=false)
   (Q:=fun c st'=>st'=st ∧ ∃ u v,c=(none,u,v)∧u < v∧u≤ht∧p (ht - u)=false∧(ht + 1≤v∨v≤ht∧p (ht - v)=true)) ?step2 ?fin2 ⟨rfl,0,1,rfl,by omega,by omega,by omega,ph⟩) fun c st' h => ?_)
  case fin2 =>
   rintro c st' ⟨rfl,u,v,rfl,g1,g2,g3,g4⟩
   exact⟨rfl,u,v,rfl,g1,g3,g4,.inl (by omega)⟩
  case step2 =>
   rintro i c st' _ hi ⟨rfl,u,v,rfl,g1,g2,g3,g4⟩
   dsimp only
   by_cases c:v ≥ ht + 1
   ·rw [if_pos c]
    exact wpS_pure ⟨rfl,u,v,rfl,g1,g3,g4,.inl c⟩
   ·rw [if_neg c]
    refine wpS_bind (wa (by omega) ?_)
    dsimp only
    cases pm:p (ht - v) with
    | true =>
     rw [if_pos rfl]
     exact wpS_pure ⟨rfl,u,v,rfl,g1,g3,g4,.inr ⟨by omega,pm⟩⟩
    | false =>
     rw [if_neg Bool.false_ne_true]
     exact wpS_pure ⟨rfl,_,_,rfl,by omega,by omega,by omega,pm⟩
  ·obtain⟨rfl,u,v,rfl,g1,g3,g4,g5⟩:=h
   dsimp only
   refine bin (ht + 1 - min v (ht + 1)) (ht - u) (by omega) (by omega) (fun i hi => ?_) fun i h5 h6 => ?_
   ·rcases g5 with g5|⟨g5,g6⟩
    ·omega
    ·exact mono i _ (by omega) (by omega) g6
   ·cases pj:p i with
    | false=>rfl
    | true=>rw [mono _ i (by omega) h6 pj] at g4;cases g4
end
end Ts
namespace Ts
open PySem PyProof.Rows
section
variable {r:Keyed→Keyed→Bool}
abbrev lE (r:Keyed→Keyed→Bool) (x y:Keyed):Prop:=r y x=false
structure MI (r:Keyed→Keyed→Bool) (a b out:Array Keyed) (i j:Nat):Prop where
 pm:out.toList.Perm (a.toList.take i++b.toList.take j)
 so:out.toList.Pairwise (lE r)
 lo:∀ x∈out.toList,(∀ y∈a.toList.drop i,lE r x y) ∧ ∀ y∈b.toList.drop j,lE r x y
 ha:i≤a.size
 hb:j≤b.size
variable {a b out:Array Keyed} {i j k:Nat}
theorem oE {α : Type}(xs:Array α)(i k:Nat):(xs.extract i (i + k)).toList=(xs.toList.drop i).take k:=by
 rw [Array.toList_extract,List.extract_eq_take_drop]
 simp
theorem A5 {α : Type}(l:List α)(i k:Nat):l.take (i + k)=l.take i++(l.drop i).take k:=by
 rw [List.take_add]
theorem MI.swap (m:MI r a b out i j):MI r b a out j i:=⟨m.pm.trans List.perm_append_comm,m.so,fun x hx=>(m.lo x hx).symm,m.hb,m.ha⟩
theorem MI.segA (m:MI r a b out i j)(sa:a.toList.Pairwise (lE r))(hk:i + k≤a.size)(h:∀ x∈(a.toList.drop i).take k,∀ y∈b.toList.drop j,lE r x y):MI r a b (out++a.extract i (i + k)) (i + k) j:=by
 have e:(out++a.extract i (i + k)).toList=out.toList++(a.toList.drop i).take k:=by rw [Array.toList_append,oE]
 have sd:(a.toList.drop i).Pairwise (lE r):=sa.sublist (List.drop_sublist _ _)
 have dd:(a.toList.drop i)=(a.toList.drop i).take k++a.toList.drop (i + k):=by rw [← List.drop_drop];exact (List.take_append_drop _ _).symm
 have sx:=sd
 rw [dd,List.pairwise_append] at sx
 refine⟨?_,?_,fun x hx => ?_,hk,m.hb⟩
 ·rw [e,A5]
  refine (m.pm.append_right _).trans ?_
  rw [ZU,ZU]
  exact List.Perm.append_left _ List.perm_append_comm
 ·rw [e,List.pairwise_append]
  exact⟨m.so,sx.1,fun x hx y hy=>(m.lo x hx).1 y (List.mem_of_mem_take hy)⟩
 ·rw [e] at hx
  rcases YS hx with hx|hx
  ·refine⟨fun y hy=>(m.lo x hx).1 y ?_,(m.lo x hx).2⟩
   rw [dd];exact List.mem_append_right _ hy
  ·exact⟨fun y hy=>sx.2.2 x hx y hy,h x hx⟩
theorem MI.segB (m:MI r a b out i j)(sb:b.toList.Pairwise (lE r))(hk:j + k≤b.size)(h:∀ x∈(b.toList.drop j).take k,∀ y∈a.toList.drop i,lE r x y):MI r a b (out++b.extract j (j + k)) i (j + k):=(m.swap.segA sb hk h).swap
theorem A6 {x:Keyed}(e:a[i]? = some x):out.push x=out++a.extract i (i + 1):=by
 obtain⟨h,rfl⟩:=Array.getElem?_eq_some_iff.mp e
 apply Array.ext'
 rw [Array.toList_push,Array.toList_append,oE]
 congr 1
 rw [List.drop_eq_getElem_cons (by simpa using h)]
 simp
theorem jT {x:Keyed}(tr:∀ {x y z:Keyed},r y x=false→r z y=false→r z x=false)(sa:a.toList.Pairwise (lE r)){u:Keyed}(e:a[i]? = some u)(h:lE r x u):∀ y∈a.toList.drop i,lE r x y:=by
 obtain⟨hi,rfl⟩:=Array.getElem?_eq_some_iff.mp e
 have d:a.toList.drop i=a[i] :: a.toList.drop (i + 1):=by rw [List.drop_eq_getElem_cons (by simpa using hi)];rfl
 have sd:(a.toList.drop i).Pairwise (lE r):=sa.sublist (List.drop_sublist _ _)
 rw [d] at sd ⊢
 intro y hy
 rcases YQ hy with rfl|hy
 ·exact h
 ·exact tr h ((List.pairwise_cons.mp sd).1 y hy)
theorem MI.pushA {x:Keyed}(m:MI r a b out i j)(sa:a.toList.Pairwise (lE r))(e:a[i]? = some x)(h:∀ y∈b.toList.drop j,lE r x y):MI r a b (out.push x) (i + 1) j:=by
 have hi:=(Array.getElem?_eq_some_iff.mp e).1
 rw [A6 e]
 refine m.segA sa hi fun z hz => ?_
 have:(a.toList.drop i).take 1=[x]:=by
  have e2:a.toList[i]? = some x:=by rw [Array.getElem?_toList];exact e
  obtain⟨h',e3⟩:=YO e2
  rw [List.drop_eq_getElem_cons h',e3];rfl
 rw [this,List.mem_singleton] at hz
 subst hz
 exact h
theorem MI.pushB {x:Keyed}(m:MI r a b out i j)(sb:b.toList.Pairwise (lE r))(e:b[j]? = some x)(h:∀ y∈a.toList.drop i,lE r x y):MI r a b (out.push x) i (j + 1):=(m.swap.pushA sb e h).swap
theorem MI.endA (m:MI r a b out i j)(sa:a.toList.Pairwise (lE r))(h:j=b.size):(out++a.extract i a.size).toList.Perm (a.toList++b.toList)∧(out++a.extract i a.size).toList.Pairwise (lE r):=by
 have hk:i + (a.size - i)=a.size:=by have:=m.ha;omega
 have z:b.toList.drop j=[]:=by rw [h];simp
 have q:=m.segA (k:=a.size - i) sa (by omega) fun x _ y hy=>by rw [z] at hy;cases hy
 rw [hk] at q
 have p:=q.pm
 rw [show a.toList.take a.size=a.toList from List.take_of_length_le (by simp),h,show b.toList.take b.size=b.toList from List.take_of_length_le (by simp)] at p
 exact⟨p,q.so⟩
theorem MI.endB (m:MI r a b out i j)(sb:b.toList.Pairwise (lE r))(h:i=a.size):(out++b.extract j b.size).toList.Perm (a.toList++b.toList)∧(out++b.extract j b.size).toList.Pairwise (lE r):=by
 obtain⟨p,q⟩:=m.swap.endA sb h
 exact⟨p.trans List.perm_append_comm,q⟩
theorem MI.endBA (m:MI r a b out i j)(sa:a.toList.Pairwise (lE r))(sb:b.toList.Pairwise (lE r))(h:∀ x∈b.toList.drop j,∀ y∈a.toList.drop i,lE r x y) :
  (out++b.extract j b.size++a.extract i a.size).toList.Perm (a.toList++b.toList)∧(out++b.extract j b.size++a.extract i a.size).toList.Pairwise (lE r):=by
 have hk:j + (b.size - j)=b.size:=by have:=m.hb;omega
 have q:=m.segB (k:=b.size - j) sb (by omega) fun x hx=>h x (List.mem_of_mem_take hx)
 rw [hk] at q
 exact q.endA sa rfl
end
end Ts
namespace Ts
open PySem PyProof.Rows
def mLo:Array Keyed→Array Keyed→StateT SortSt Sem (Array Keyed):=sortPriv% PySem.Builtin.mergeLo
abbrev cN (st:SortSt) (g:Nat):SortSt:=SortSt.mk' (kindOf st) (arrOf st) (pendingOf st) g (failedOf st)
def dS (a b o:Array Keyed) (i j:Nat):Array Keyed:=o++a.extract i a.size++b.extract j b.size
def e7 (a b o:Array Keyed) (i j:Nat):Array Keyed:=o++b.extract j b.size++a.extract i a.size
abbrev C1:=Option (Array Keyed) × Array Keyed × Nat × Nat × Nat
abbrev C2:=Option (Array Keyed) × Array Keyed × Nat × Nat × Nat × Nat
abbrev C3:=Option (Array Keyed) × Array Keyed × Nat × Nat × Nat × Nat × Nat
abbrev SM:=StateT SortSt Sem
def lo1 (a b:Array Keyed) (g:Nat) (o:Array Keyed) (i j u v:Nat):SM (ForInStep C2):=do
 let x ← elem' b j
 let y ← elem' a i
 let some w ← lt' x y|pure (.done (some (dS a b o i j),o,i,j,u,v))
 if w then do
  let x ← elem' b j
  if j + 1 == b.size then pure (.done (some (dS a b (o.push x) i (j + 1)),o.push x,i,j + 1,0,v + 1))
  else if v + 1 ≥ g then pure (.done (none,o.push x,i,j + 1,0,v + 1)) else pure (.yield (none,o.push x,i,j + 1,0,v + 1))
 else do
  let y ← elem' a i
  if i + 1 + 1 == a.size then pure (.done (some (e7 a b (o.push y) (i + 1) j),o.push y,i + 1,j,u + 1,0))
  else if u + 1 ≥ g then pure (.done (none,o.push y,i + 1,j,u + 1,0)) else pure (.yield (none,o.push y,i + 1,j,u + 1,0))
def lo4 (a b o:Array Keyed) (i j g u v:Nat):SM (ForInStep C3):=do
 let y ← elem' a i
 if i + 1 + 1 == a.size then pure (.done (some (e7 a b (o.push y) (i + 1) j),o.push y,i + 1,j,g,u,v))
 else if (decide (u < 7) && decide (v < 7))=true then pure (.done (none,o.push y,i + 1,j,g,u,v)) else pure (.yield (none,o.push y,i + 1,j,g,u,v))
def lo3 (a b o:Array Keyed) (i j g u v:Nat):SM (ForInStep C3):=do
 let x ← elem' b j
 if j + 1 == b.size then pure (.done (some (dS a b (o.push x) i (j + 1)),o.push x,i,j + 1,g,u,v))
 else do
  let y ← elem' a i
  let some k ← jv true y b (j + 1) (b.size - (j + 1)) 0|pure (.done (some (dS a b (o.push x) i (j + 1)),o.push x,i,j + 1,g,u,v))
  if k > 0 then
   if j + 1 + k == b.size then pure (.done (some (dS a b (o.push x++b.extract (j + 1) (j + 1 + k)) i (j + 1 + k)),o.push x++b.extract (j + 1) (j + 1 + k),i,j + 1 + k,g,u,k))
   else lo4 a b (o.push x++b.extract (j + 1) (j + 1 + k)) i (j + 1 + k) g u k
  else lo4 a b (o.push x) i (j + 1) g u k
def lo2 (a b o:Array Keyed) (i j u v g:Nat):SM (ForInStep C3):=do
 modify (cN · g)
 let x ← elem' b j
 let some k ← jv false x a i (a.size - i) 0|pure (.done (some (dS a b o i j),o,i,j,g,u,v))
 if k > 0 then
  if i + k + 1 == a.size then pure (.done (some (e7 a b (o++a.extract i (i + k)) (i + k) j),o++a.extract i (i + k),i + k,j,g,k,v))
  else if i + k == a.size then pure (.done (some (dS a b (o++a.extract i (i + k)) (i + k) j),o++a.extract i (i + k),i + k,j,g,k,v))
  else lo3 a b (o++a.extract i (i + k)) (i + k) j g k v
 else lo3 a b o i j g k v
section
variable {M:Model} {A:Around} {E:ZY} {s:Shared} {kd:SortKind} {S:Keyed→Prop} {r:Keyed→Keyed→Bool}
def Mgd (r:Keyed→Keyed→Bool) (a b o:Array Keyed):Prop:=o.toList.Perm (a.toList++b.toList)∧o.toList.Pairwise (lE r)
structure Two (M:Model) (A:Around) (E:ZY) (s:Shared) (kd:SortKind) (S:Keyed→Prop) (r:Keyed→Keyed→Bool) (a b:Array Keyed):Prop where
 C:Cmp M A E s kd S r
 Sa:∀ x∈a.toList,S x
 Sb:∀ x∈b.toList,S x
 sa:a.toList.Pairwise (lE r)
 sb:b.toList.Pairwise (lE r)
structure LI (r:Keyed→Keyed→Bool) (a b o:Array Keyed) (i j:Nat):Prop where
 m:MI r a b o i j
 hi:i + 1 < a.size
 hj:j < b.size
variable {a b o:Array Keyed} {i j g u v:Nat} {st:SortSt}
theorem lx {α : Type}(xs:Array α){i:Nat}(h:i=xs.size):xs.extract i xs.size = #[]:=by subst h;simp
theorem ly (T:Two M A E s kd S r a b)(m:MI r a b o i j)(h:j=b.size∨i=a.size):Mgd r a b (dS a b o i j):=by
 unfold dS
 rcases h with h|h
 ·rw [lx b h,Array.append_empty];exact m.endA T.sa h
 ·rw [lx a h,Array.append_empty];exact m.endB T.sb h
theorem hJ {α : Type}{xs:Array α}{i:Nat}(h:i < xs.size):∃ x,xs[i]? = some x∧x∈xs.toList:=⟨xs[i],Array.getElem?_eq_getElem h,by simp⟩
theorem sE (T:Two M A E s kd S r a b)(top:∀ x∈b.toList,∀ y∈a.toList.drop (a.size - 1),lE r x y)(m:MI r a b o i j)(h:i + 1=a.size):Mgd r a b (e7 a b o i j):=by
 unfold e7
 refine m.endBA T.sa T.sb fun x hx y hy=>top x (List.mem_of_mem_drop hx) y ?_
 rw [show a.size - 1=i by omega];exact hy
theorem FN (T:Two M A E s kd S r a b)(top:∀ x∈b.toList,∀ y∈a.toList.drop (a.size - 1),lE r x y)(L:LI r a b o i j)(hk:kindOf st=kd){Q:ForInStep C2→SortSt→Prop}
  (q1:∀ x o' i' j' u' v',Mgd r a b x→Q (.done (some x,o',i',j',u',v')) st) (q2:∀ o' i' j' u' v',LI r a b o' i' j'→o.size < o'.size→Q (.done (none,o',i',j',u',v')) st) (q3:∀ o' i' j' u' v',LI r a b o' i' j'→o.size < o'.size→Q (.yield (none,o',i',j',u',v')) st) :
  wpS M A E s (lo1 a b g o i j u v) Q st:=by
 have ⟨m,hi,hj⟩:=L
 obtain⟨x,ex,mx⟩:=hJ hj
 obtain⟨y,ey,my⟩:=hJ (show i < a.size by omega)
 unfold lo1
 refine wpS_bind (bO ex (wpS_bind (bO ey (wpS_bind (T.C.ask (T.Sb x mx) (T.Sa y my) hk ?_)))))
 dsimp only
 cases w:r x y with
 | true =>
  rw [if_pos rfl]
  refine wpS_bind (bO ex ?_)
  have m2:=m.pushB T.sb ex (jT T.C.tr T.sa ey (T.C.asym w))
  have z:o.size < (o.push x).size:=by simp
  by_cases h:j + 1=b.size
  ·rw [if_pos (by simpa using h)]
   exact wpS_pure (q1 _ _ _ _ _ _ (ly T m2 (.inl h)))
  ·rw [if_neg (by simpa using h)]
   have L2:LI r a b (o.push x) i (j + 1):=⟨m2,hi,by omega⟩
   split
   ·exact wpS_pure (q2 _ _ _ _ _ L2 z)
   ·exact wpS_pure (q3 _ _ _ _ _ L2 z)
 | false =>
  rw [if_neg Bool.false_ne_true]
  refine wpS_bind (bO ey ?_)
  have m2:=m.pushA T.sa ey (jT T.C.tr T.sb ex w)
  have z:o.size < (o.push y).size:=by simp
  by_cases h:i + 1 + 1=a.size
  ·rw [if_pos (by simpa using h)]
   exact wpS_pure (q1 _ _ _ _ _ _ (sE T top m2 h))
  ·rw [if_neg (by simpa using h)]
   have L2:LI r a b (o.push y) (i + 1) j:=⟨m2,by omega,hj⟩
   split
   ·exact wpS_pure (q2 _ _ _ _ _ L2 z)
   ·exact wpS_pure (q3 _ _ _ _ _ L2 z)
theorem qJ (C:Cmp M A E s kd S r){xs:Array Keyed}{x:Keyed}{i ht:Nat}{Q:YL→SortSt→Prop}(hk:kindOf st=kd)(Sx:S x)(Sa:∀ x∈xs.toList,S x)(sa:xs.toList.Pairwise (lE r)){n:Nat}(hn:i + n≤xs.size)(hh:ht < n)
  (q:∀ k,k≤n→(∀ y∈(xs.toList.drop i).take k,lE r y x)→(∀ y∈((xs.toList.drop i).take n).drop k,r x y=true)→Q (some k) st):wpS M A E s (jv false x xs i n ht) Q st:=by
 have ix:∀ d,d < n→i + d < xs.size:=fun d hd=>by omega
 have gd:∀ d,(hd:d < n)→xs.toList[i + d]? = some (xs[i + d]'(ix d hd)):=fun d hd=>by rw [Array.getElem?_toList];exact Array.getElem?_eq_getElem (ix d hd)
 have le:∀ d e,(h:d≤e)→(he:e < n)→lE r (xs[i + d]'(ix d (by omega))) (xs[i + e]'(ix e he))∨d=e:=fun d e h he=>by
  by_cases z:d=e
  ·exact .inr z
  ·have:=List.pairwise_iff_getElem.mp sa (i + d) (i + e) (by simp;have:=ix d (by omega);omega) (by simp;have:=ix e he;omega) (by omega)
   exact .inl (by simpa using this)
 refine sC C hk (fun d=>if h:d < n then !r x (xs[i + d]'(ix d h)) else false) (fun d hd=>⟨xs[i + d]'(ix d hd),Array.getElem?_eq_getElem (ix d hd),Sa _ (by simp),by simp [hd]⟩) Sx (fun d e h he pe => ?_) hh fun k hk' p1 p2=>q k hk' (fun y hy => ?_) fun y hy => ?_
 ·have hd:d < n:=by omega
  simp only [he,dif_pos] at pe
  simp only [hd,dif_pos]
  rcases le d e h he with z|z
  ·have e1:r x (xs[i + e]'(ix e he))=false:=by simpa using pe
   have:=C.tr z e1
   simp [this]
  ·subst z;exact pe
 ·obtain⟨d,hd,e⟩:=List.mem_take_iff_getElem.mp hy
  have hd':d < k:=by omega
  have hn':d < n:=by omega
  have:=p1 d hd'
  simp only [hn',dif_pos] at this
  have e2:y=xs[i + d]'(ix d hn'):=by rw [← e];simp
  rw [e2]
  simpa using this
 ·obtain⟨d,hd,e⟩:=List.mem_drop_iff_getElem.mp hy
  have hn':d + k < n:=by simp at hd;omega
  have:=p2 (d + k) (by omega) hn'
  simp only [hn',dif_pos] at this
  have e2:y=xs[i + (d + k)]'(ix _ hn'):=by rw [← e];simp;congr 1;omega
  rw [e2]
  simpa using this
theorem uJ (C:Cmp M A E s kd S r){xs:Array Keyed}{x:Keyed}{i ht:Nat}{Q:YL→SortSt→Prop}(hk:kindOf st=kd)(Sx:S x)(Sa:∀ x∈xs.toList,S x)(sa:xs.toList.Pairwise (lE r)){n:Nat}(hn:i + n≤xs.size)(hh:ht < n)
  (q:∀ k,k≤n→(∀ y∈(xs.toList.drop i).take k,r y x=true)→(∀ y∈((xs.toList.drop i).take n).drop k,lE r x y)→Q (some k) st):wpS M A E s (jv true x xs i n ht) Q st:=by
 have ix:∀ d,d < n→i + d < xs.size:=fun d hd=>by omega
 have le:∀ d e,(h:d≤e)→(he:e < n)→lE r (xs[i + d]'(ix d (by omega))) (xs[i + e]'(ix e he))∨d=e:=fun d e h he=>by
  by_cases z:d=e
  ·exact .inr z
  ·have:=List.pairwise_iff_getElem.mp sa (i + d) (i + e) (by simp;have:=ix d (by omega);omega) (by simp;have:=ix e he;omega) (by omega)
   exact .inl (by simpa using this)
 refine sC C hk (fun d=>if h:d < n then r (xs[i + d]'(ix d h)) x else false) (fun d hd=>⟨xs[i + d]'(ix d hd),Array.getElem?_eq_getElem (ix d hd),Sa _ (by simp),by simp [hd]⟩) Sx (fun d e h he pe => ?_) hh fun k hk' p1 p2=>q k hk' (fun y hy => ?_) fun y hy => ?_
 ·have hd:d < n:=by omega
  simp only [he,dif_pos] at pe
  simp only [hd,dif_pos]
  rcases le d e h he with z|z
  ·cases w:r (xs[i + d]'(ix d hd)) x with
   | true=>rfl
   | false =>
    have:=C.tr w z
    rw [this] at pe;cases pe
  ·subst z;exact pe
 ·obtain⟨d,hd,e⟩:=List.mem_take_iff_getElem.mp hy
  have hd':d < k:=by omega
  have hn':d < n:=by omega
  have:=p1 d hd'
  simp only [hn',dif_pos] at this
  have e2:y=xs[i + d]'(ix d hn'):=by rw [← e];simp
  rw [e2]
  exact this
 ·obtain⟨d,hd,e⟩:=List.mem_drop_iff_getElem.mp hy
  have hn':d + k < n:=by simp at hd;omega
  have:=p2 (d + k) (by omega) hn'
  simp only [hn',dif_pos] at this
  have e2:y=xs[i + (d + k)]'(ix _ hn'):=by rw [← e];simp;congr 1;omega
  rw [e2]
  exact this
end
end Ts
namespace Ts
open PySem PyProof.Rows
section
variable {M:Model} {A:Around} {E:ZY} {s:Shared} {kd:SortKind} {S:Keyed→Prop} {r:Keyed→Keyed→Bool} {a b o:Array Keyed} {i j g u v:Nat} {st:SortSt}
structure A7 (r:Keyed→Keyed→Bool) (a b:Array Keyed) (n:Nat) (Q:ForInStep C3→SortSt→Prop) (st:SortSt):Prop where
 q1:∀ x o' i' j' g' u' v',Mgd r a b x→Q (.done (some x,o',i',j',g',u',v')) st
 q2:∀ o' i' j' g' u' v',LI r a b o' i' j'→n≤o'.size→Q (.done (none,o',i',j',g',u',v')) st
 q3:∀ o' i' j' g' u' v',LI r a b o' i' j'→n≤o'.size→Q (.yield (none,o',i',j',g',u',v')) st
theorem A8 (T:Two M A E s kd S r a b)(top:∀ x∈b.toList,∀ y∈a.toList.drop (a.size - 1),lE r x y)(m:MI r a b o i j)(hi:i + 1 < a.size)(hj:j < b.size){y:Keyed}(ey:a[i]? = some y)(h:∀ z∈b.toList.drop j,lE r y z){n:Nat}(hn:n≤o.size){Q:ForInStep C3→SortSt→Prop}(q:A7 r a b n Q st):wpS M A E s (lo4 a b o i j g u v) Q st:=by
 unfold lo4
 refine wpS_bind (bO ey ?_)
 have m2:=m.pushA T.sa ey h
 have z:n≤(o.push y).size:=by simp;omega
 by_cases c:i + 1 + 1=a.size
 ·rw [if_pos (by simpa using c)]
  exact wpS_pure (q.q1 _ _ _ _ _ _ _ (sE T top m2 c))
 ·rw [if_neg (by simpa using c)]
  have L2:LI r a b (o.push y) (i + 1) j:=⟨m2,by omega,hj⟩
  split
  ·exact wpS_pure (q.q2 _ _ _ _ _ _ L2 z)
  ·exact wpS_pure (q.q3 _ _ _ _ _ _ L2 z)
theorem A9 (T:Two M A E s kd S r a b)(top:∀ x∈b.toList,∀ y∈a.toList.drop (a.size - 1),lE r x y)(m:MI r a b o i j)(hi:i + 1 < a.size)(hj:j < b.size)(hk:kindOf st=kd){x:Keyed}(ex:b[j]? = some x)(h:∀ z∈a.toList.drop i,lE r x z){n:Nat}(hn:n≤o.size){Q:ForInStep C3→SortSt→Prop}(q:A7 r a b n Q st):wpS M A E s (lo3 a b o i j g u v) Q st:=by
 obtain⟨y,ey,my⟩:=hJ (show i < a.size by omega)
 unfold lo3
 refine wpS_bind (bO ex ?_)
 have m2:=m.pushB T.sb ex h
 by_cases c:j + 1=b.size
 ·rw [if_pos (by simpa using c)]
  exact wpS_pure (q.q1 _ _ _ _ _ _ _ (ly T m2 (.inl c)))
 ·rw [if_neg (by simpa using c)]
  refine wpS_bind (bO ey (wpS_bind (uJ T.C hk (T.Sa y my) T.Sb T.sb (n:=b.size - (j + 1)) (by omega) (by omega) fun k hk' p1 p2 => ?_)))
  dsimp only
  have p2:∀ z∈b.toList.drop (j + 1 + k),lE r y z:=fun z hz=>p2 z (by
   rw [List.take_of_length_le (by simp),List.drop_drop];exact hz)
  by_cases c2:k > 0
  ·rw [if_pos c2]
   have m3:=m2.segB (k:=k) T.sb (by omega) fun z hz=>jT T.C.tr T.sa ey (T.C.asym (p1 z hz))
   by_cases c3:j + 1 + k=b.size
   ·rw [if_pos (by simpa using c3)]
    exact wpS_pure (q.q1 _ _ _ _ _ _ _ (ly T m3 (.inl c3)))
   ·rw [if_neg (by simpa using c3)]
    exact A8 T top m3 hi (by omega) ey p2 (by simp;omega) q
  ·rw [if_neg c2]
   have k0:k=0:=by omega
   subst k0
   exact A8 T top m2 hi (by omega) ey p2 (by simp;omega) q
theorem Bc (T:Two M A E s kd S r a b)(top:∀ x∈b.toList,∀ y∈a.toList.drop (a.size - 1),lE r x y)(L:LI r a b o i j)(hk:kindOf st=kd){n:Nat}(hn:n≤o.size){Q:ForInStep C3→SortSt→Prop}(q:A7 r a b n Q (cN st g)):wpS M A E s (lo2 a b o i j u v g) Q st:=by
 have ⟨m,hi,hj⟩:=L
 obtain⟨x,ex,mx⟩:=hJ hj
 unfold lo2
 refine wpS_bind (wpS_modify (wpS_bind (bO ex (wpS_bind (qJ T.C (st:=cN st g) hk (T.Sb x mx) T.Sa T.sa (n:=a.size - i) (by omega) (by omega) fun k hk' p1 p2 => ?_)))))
 dsimp only
 have p2:∀ z∈a.toList.drop (i + k),lE r x z:=fun z hz=>T.C.asym (p2 z (by
  rw [List.take_of_length_le (by simp),List.drop_drop];exact hz))
 by_cases c2:k > 0
 ·rw [if_pos c2]
  have m2:=m.segA (k:=k) T.sa (by omega) fun z hz=>jT T.C.tr T.sb ex (p1 z hz)
  by_cases c3:i + k + 1=a.size
  ·rw [if_pos (by simpa using c3)]
   exact wpS_pure (q.q1 _ _ _ _ _ _ _ (sE T top m2 c3))
  ·rw [if_neg (by simpa using c3)]
   by_cases c4:i + k=a.size
   ·rw [if_pos (by simpa using c4)]
    exact wpS_pure (q.q1 _ _ _ _ _ _ _ (ly T m2 (.inr c4)))
   ·rw [if_neg (by simpa using c4)]
    exact A9 (st:=cN st g) (n:=n) T top m2 (by omega) hj hk ex p2 (by simp;omega) q
 ·rw [if_neg c2]
  have k0:k=0:=by omega
  subst k0
  exact A9 (st:=cN st g) T top m hi hj hk ex p2 hn q
theorem MI.len (m:MI r a b o i j):o.size=i + j:=by
 have:=m.pm.length_eq
 have h1:=m.ha
 have h2:=m.hb
 simp at this
 omega
theorem FO (a b:Array Keyed):mLo a b=(do
  rule "list.sort.merge-lo"
  let t:=a.size + b.size
  let mut o:Array Keyed := #[← elem' b 0]
  let mut i:=0
  let mut j:=1
  if j == b.size then return dS a b o i j
  if i + 1 == a.size then return e7 a b o i j
  let mut g:=gallopOf (← get)
  for _ in [0:t] do
   let mut u:=0
   let mut v:=0
   for _ in [0:t] do
    let some w ← lt' (← elem' b j) (← elem' a i)|return dS a b o i j
    if w then
     o:=o.push (← elem' b j);j:=j + 1;v:=v + 1;u:=0
     if j == b.size then return dS a b o i j
     if v ≥ g then break
    else
     o:=o.push (← elem' a i);i:=i + 1;u:=u + 1;v:=0
     if i + 1 == a.size then return e7 a b o i j
     if u ≥ g then break
   rule "list.sort.gallop"
   g:=g + 1
   for _ in [0:t] do
    if g > 1 then g:=g - 1
    modify (cN · g)
    let some k ← jv false (← elem' b j) a i (a.size - i) 0|return dS a b o i j
    u:=k
    if k > 0 then
     o:=o++a.extract i (i + k);i:=i + k
     if i + 1 == a.size then return e7 a b o i j
     if i == a.size then return dS a b o i j
    o:=o.push (← elem' b j);j:=j + 1
    if j == b.size then return dS a b o i j
    let some k ← jv true (← elem' a i) b j (b.size - j) 0|return dS a b o i j
    v:=k
    if k > 0 then
     o:=o++b.extract j (j + k);j:=j + k
     if j == b.size then return dS a b o i j
    o:=o.push (← elem' a i);i:=i + 1
    if i + 1 == a.size then return e7 a b o i j
    if u < 7 && v < 7 then break
   g:=g + 1
   modify (cN · g)
  unsupported "internal:list.sort.merge-bound"):=rfl
theorem ir {σ:Type}{x:String}{st : σ}{Q:Unit → σ → Prop}(h:Q () st):wpS M A E s (liftM (rule x):StateT σ Sem Unit) Q st:=wpS_lift (wpAny_rule ⟨rfl,h⟩)
theorem dk {σ α : Type}{c:Prop} [Decidable c] {x y:StateT σ Sem α}{st : σ}{Q : α → σ → Prop}(h1:c→wpS M A E s x Q st)(h2 : ¬ c→wpS M A E s y Q st):wpS M A E s (if c then x else y) Q st:=by
 by_cases h:c
 ·rw [if_pos h];exact h1 h
 ·rw [if_neg h];exact h2 h
theorem FP (T:Two M A E s kd S r a b)(top:∀ x∈b.toList,∀ y∈a.toList.drop (a.size - 1),lE r x y)(h0:∀ x,b[0]? = some x → ∀ y∈a.toList,lE r x y)(za:0 < a.size)(zb:0 < b.size)(hk:kindOf st=kd){Q:Array Keyed→SortSt→Prop}(q:∀ x gg,Mgd r a b x→Q x (cN st gg)):wpS M A E s (mLo a b) Q st:=by
 obtain⟨x,ex,mx⟩:=hJ zb
 have m0:MI r a b #[x] 0 1:=by
  have mm:MI r a b #[] 0 0:=⟨by simp,by simp,fun _ h=>by simp at h,Nat.zero_le _,Nat.zero_le _⟩
  exact mm.pushB T.sb ex (by simpa using h0 x ex)
 have st0:st=cN st (gallopOf st):=by cases st;rfl
 rw [FO]
 refine wpS_bind (ir (wpS_bind (bO ex (dk (fun c => ?_) fun c=>dk (fun c2 => ?_) fun c2 => ?_))))
 ·refine wpS_pure ?_
  rw [st0]
  exact q _ _ (ly T m0 (.inl (by simpa using c)))
 ·refine wpS_pure ?_
  rw [st0]
  exact q _ _ (sE T top m0 (by simpa using c2))
 ·have L0:LI r a b #[x] 0 1:=⟨m0,by simp at c2;omega,by simp at c;omega⟩
  refine wpS_bind (wpS_get (wpS_bind (wpS_mono (wpS_forRange
   (I:=fun n c st'=>(∃ gg,st'=cN st gg) ∧ ∃ o i j g,c=(none,o,i,j,g)∧LI r a b o i j∧n + 1≤o.size)
   (Q:=fun c st'=>(∃ gg,st'=cN st gg) ∧ ∃ x o i j g,c=(some x,o,i,j,g)∧Mgd r a b x) ?step ?fin ⟨⟨_,st0⟩,#[x],0,1,gallopOf st,rfl,L0,by simp⟩) fun c st' h => ?_)))
  case fin =>
   rintro c st' ⟨_,o,i,j,g,_,L,z⟩
   have:=L.m.len
   have:=L.hi
   have:=L.hj
   omega
  case step =>
   rintro n c st' _ hn ⟨⟨gg,rfl⟩,o,i,j,g,rfl,L,z⟩
   refine wpS_bind (wpS_mono (wpS_forRange
    (I:=fun n' c st'=>st'=cN st gg ∧ ∃ o' i j u v,c=(none,o',i,j,u,v)∧LI r a b o' i j∧o.size + n'≤o'.size)
    (Q:=fun c st'=>st'=cN st gg∧((∃ x o' i j u v,c=(some x,o',i,j,u,v)∧Mgd r a b x) ∨ ∃ o' i j u v,c=(none,o',i,j,u,v)∧LI r a b o' i j∧o.size < o'.size)) ?s1 ?f1 ⟨rfl,o,i,j,0,0,rfl,L,by simp⟩) fun c st' h => ?_)
   case f1 =>
    rintro c st' ⟨rfl,o',i,j,u,v,rfl,L',z'⟩
    exact⟨rfl,.inr ⟨o',i,j,u,v,rfl,L',by omega⟩⟩
   case s1 =>
    rintro n' c st' _ _ ⟨rfl,o',i,j,u,v,rfl,L',z'⟩
    show wpS M A E s (lo1 a b g o' i j u v) _ _
    exact FN (st:=cN st gg) T top L' hk (fun x o2 i2 j2 u2 v2 R=>⟨rfl,.inl ⟨x,o2,i2,j2,u2,v2,rfl,R⟩⟩) (fun o2 i2 j2 u2 v2 L2 z2=>⟨rfl,.inr ⟨o2,i2,j2,u2,v2,rfl,L2,by omega⟩⟩) fun o2 i2 j2 u2 v2 L2 z2=>⟨rfl,o2,i2,j2,u2,v2,rfl,L2,by omega⟩
   ·obtain⟨rfl,⟨x,o',i,j,u,v,rfl,R⟩|⟨o',i,j,u,v,rfl,L',z'⟩⟩:=h
    ·exact wpS_pure ⟨⟨gg,rfl⟩,x,o',i,j,g,rfl,R⟩
    ·refine wpS_bind (ir (wpS_bind (wpS_mono (wpS_forRange
      (I:=fun _ c st'=>(∃ gg,st'=cN st gg) ∧ ∃ o2 i j g u v,c=(none,o2,i,j,g,u,v)∧LI r a b o2 i j∧n + 2≤o2.size)
      (Q:=fun c st'=>(∃ gg,st'=cN st gg)∧((∃ x o2 i j g u v,c=(some x,o2,i,j,g,u,v)∧Mgd r a b x) ∨ ∃ o2 i j g u v,c=(none,o2,i,j,g,u,v)∧LI r a b o2 i j∧n + 2≤o2.size)) ?s2 ?f2 ⟨⟨gg,rfl⟩,o',i,j,g + 1,u,v,rfl,L',by omega⟩) fun c st' h => ?_)))
     case f2 =>
      rintro c st' ⟨e,o2,i,j,g,u,v,rfl,L2,z2⟩
      exact⟨e,.inr ⟨o2,i,j,g,u,v,rfl,L2,z2⟩⟩
     case s2 =>
      rintro n' c st' _ _ ⟨⟨gg,rfl⟩,o2,i,j,g,u,v,rfl,L2,z2⟩
      show wpS M A E s (if g > 1 then lo2 a b o2 i j u v (g - 1) else lo2 a b o2 i j u v g) _ _
      exact dk (fun _=>Bc (st:=cN st gg) (n:=n + 2) T top L2 hk z2 ⟨fun x o3 i3 j3 g3 u3 v3 R=>⟨⟨_,rfl⟩,.inl ⟨x,o3,i3,j3,g3,u3,v3,rfl,R⟩⟩,fun o3 i3 j3 g3 u3 v3 L3 z3=>⟨⟨_,rfl⟩,.inr ⟨o3,i3,j3,g3,u3,v3,rfl,L3,z3⟩⟩,fun o3 i3 j3 g3 u3 v3 L3 z3=>⟨⟨_,rfl⟩,o3,i3,j3,g3,u3,v3,rfl,L3,z3⟩⟩) fun _=>Bc (st:=cN st gg) (n:=n + 2) T top L2 hk z2 ⟨fun x o3 i3 j3 g3 u3 v3 R=>⟨⟨_,rfl⟩,.inl ⟨x,o3,i3,j3,g3,u3,v3,rfl,R⟩⟩,fun o3 i3 j3 g3 u3 v3 L3 z3=>⟨⟨_,rfl⟩,.inr ⟨o3,i3,j3,g3,u3,v3,rfl,L3,z3⟩⟩,fun o3 i3 j3 g3 u3 v3 L3 z3=>⟨⟨_,rfl⟩,o3,i3,j3,g3,u3,v3,rfl,L3,z3⟩⟩
     ·obtain⟨⟨gg,rfl⟩,⟨x,o2,i,j,g,u,v,rfl,R⟩|⟨o2,i,j,g,u,v,rfl,L2,z2⟩⟩:=h
      ·exact wpS_pure ⟨⟨gg,rfl⟩,x,o2,i,j,g,rfl,R⟩
      ·refine wpS_bind (wpS_modify (wpS_pure ⟨⟨g + 1,rfl⟩,o2,i,j,g + 1,rfl,L2,by omega⟩))
  ·obtain⟨⟨gg,rfl⟩,x,o,i,j,g,rfl,R⟩:=h
   exact wpS_pure (q x gg R)
end
end Ts
namespace Ts
open PySem PyProof.Rows
section
theorem nO {α : Type}(a:Array α){p q:Nat}(h:p≤q)(hq:q≤a.size):(a.extract p q).reverse=a.reverse.extract (a.size - q) (a.size - q + (q - p)):=by
 apply Array.ext
 ·simp;omega
 ·intro i h1 h2
  simp at h1 h2
  simp only [Array.getElem_reverse,Array.getElem_extract,Array.size_extract]
  congr 1
  omega
theorem sF {α : Type}(a:Array α){q:Nat}(h:1≤q)(hq:q≤a.size):a.reverse[a.size - q]? = a[q - 1]? := by
 rw [Array.getElem?_eq_getElem (by simp;omega),Array.getElem?_eq_getElem (by omega),Array.getElem_reverse]
 congr 2
 omega
theorem sG {α : Type}(a:Array α){p q:Nat}(h:p≤q)(hq:q≤a.size){y : α}(hy:y∈(a.reverse.toList.drop (a.size - q)).take (q - p)):y∈((a.toList.drop 0).take q).drop p:=by
 rw [← oE,← nO a h hq,Array.toList_reverse,List.mem_reverse,Array.toList_extract,List.extract_eq_take_drop] at hy
 rw [List.drop_zero]
 rw [List.drop_take]
 exact hy
variable {r:Keyed→Keyed→Bool}
abbrev rv (r:Keyed→Keyed→Bool):Keyed→Keyed→Bool:=fun x y=>r y x
theorem fv {a:Array Keyed}(h:a.toList.Pairwise (lE r)):a.reverse.toList.Pairwise (lE (rv r)):=by
 rw [Array.toList_reverse,List.pairwise_reverse]
 exact h
def eV (a b o:Array Keyed) (n m:Nat):Array Keyed:=a.extract 0 n++b.extract 0 m++o.reverse
def fw (a b o:Array Keyed) (n m:Nat):Array Keyed:=b.extract 0 m++a.extract 0 n++o.reverse
theorem nP {α : Type}(a:Array α){n:Nat}(h:n≤a.size):a.extract 0 n=(a.reverse.extract (a.size - n) a.reverse.size).reverse:=by
 have:=nO a (Nat.zero_le n) h
 have e:a.size - n + (n - 0)=a.reverse.size:=by simp;omega
 rw [e] at this
 rw [← this,Array.reverse_reverse]
theorem Bd (a b o:Array Keyed){n m:Nat}(hn:n≤a.size)(hm:m≤b.size):eV a b o n m=(dS b.reverse a.reverse o (b.size - m) (a.size - n)).reverse:=by
 unfold eV dS
 rw [Array.reverse_append,Array.reverse_append,← nP b hm,← nP a hn,Array.append_assoc]
theorem wA (a b o:Array Keyed){n m:Nat}(hn:n≤a.size)(hm:m≤b.size):fw a b o n m=(e7 b.reverse a.reverse o (b.size - m) (a.size - n)).reverse:=by
 unfold fw e7
 rw [Array.reverse_append,Array.reverse_append,← nP b hm,← nP a hn,Array.append_assoc]
theorem yk {a b o:Array Keyed}(h:Mgd (rv r) b.reverse a.reverse o):Mgd r a b o.reverse:=by
 obtain⟨p,q⟩:=h
 refine⟨?_,?_⟩
 ·rw [Array.toList_reverse]
  refine (List.reverse_perm _).trans (p.trans ?_)
  rw [Array.toList_reverse,Array.toList_reverse]
  exact ((List.reverse_perm _).append (List.reverse_perm _)).trans List.perm_append_comm
 ·rw [Array.toList_reverse,List.pairwise_reverse]
  exact q
variable {a b o:Array Keyed} {i j:Nat}
theorem Be (sa:a.toList.Pairwise (lE r))(sb:b.toList.Pairwise (lE r))(m:MI r a b o i j)(h:j=b.size∨i=a.size):Mgd r a b (dS a b o i j):=by
 unfold dS
 rcases h with h|h
 ·rw [lx b h,Array.append_empty];exact m.endA sa h
 ·rw [lx a h,Array.append_empty];exact m.endB sb h
theorem Dw (sa:a.toList.Pairwise (lE r))(sb:b.toList.Pairwise (lE r))(top:∀ x∈b.toList,∀ y∈a.toList.drop (a.size - 1),lE r x y)(m:MI r a b o i j)(h:i + 1=a.size):Mgd r a b (e7 a b o i j):=by
 unfold e7
 refine m.endBA sa sb fun x hx y hy=>top x (List.mem_of_mem_drop hx) y ?_
 rw [show a.size - 1=i by omega];exact hy
abbrev MH (r:Keyed→Keyed→Bool) (a b o:Array Keyed) (n m:Nat):Prop:=n≤a.size∧m≤b.size∧MI (rv r) b.reverse a.reverse o (b.size - m) (a.size - n)
variable {M:Model} {A:Around} {E:ZY} {s:Shared} {kd:SortKind} {S:Keyed→Prop} {n m:Nat}
theorem lA (T:Two M A E s kd S r a b)(h:MH r a b o n m)(z:n=0∨m=0):Mgd r a b (eV a b o n m):=by
 rw [Bd a b o h.1 h.2.1]
 refine yk (Be (fv T.sb) (fv T.sa) h.2.2 ?_)
 rcases z with z|z
 ·exact .inl (by rw [z];simp)
 ·exact .inr (by rw [z];simp)
theorem jU (T:Two M A E s kd S r a b)(bot:∀ x,b[0]? = some x → ∀ y∈a.toList,lE r x y)(h:MH r a b o n m)(z:m=1):Mgd r a b (fw a b o n m):=by
 rw [wA a b o h.1 h.2.1]
 have hm:=h.2.1
 refine yk (Dw (fv T.sb) (fv T.sa) (fun x hx y hy => ?_) h.2.2 (by simp;omega))
 have e:b.reverse.toList.drop (b.reverse.size - 1)=[b[0]]:=by
  rw [Array.toList_reverse,Array.size_reverse]
  apply List.ext_getElem
  ·simp;omega
  ·intro i h1 h2
   simp at h1 h2
   subst h2
   simp [List.getElem_drop,List.getElem_reverse]
 rw [e,List.mem_singleton] at hy
 subst hy
 exact bot _ (Array.getElem?_eq_getElem (by omega)) x (by simpa using hx)
theorem MH.pushB (T:Two M A E s kd S r a b)(h:MH r a b o n m)(hm:1≤m){y:Keyed}(ey:b[m - 1]? = some y)(w:∀ z∈a.reverse.toList.drop (a.size - n),lE r z y):MH r a b (o.push y) n (m - 1):=by
 obtain⟨h1,h2,h3⟩:=h
 have e:b.size - (m - 1)=b.size - m + 1:=by omega
 refine⟨h1,by omega,?_⟩
 rw [e]
 exact h3.pushA (fv T.sb) ((sF b hm h2).trans ey) w
end
end Ts
namespace Ts
open PySem PyProof.Rows
def mHi:Array Keyed→Array Keyed→StateT SortSt Sem (Array Keyed):=sortPriv% PySem.Builtin.mergeHi
theorem FQ (a b:Array Keyed):mHi a b=(do
  rule "list.sort.merge-hi"
  let t:=a.size + b.size
  let mut n:=a.size - 1
  let mut m:=b.size
  let mut o:Array Keyed := #[← elem' a n]
  if n == 0 then return eV a b o n m
  if m == 1 then return fw a b o n m
  let mut g:=gallopOf (← get)
  for _ in [0:t] do
   let mut u:=0
   let mut v:=0
   for _ in [0:t] do
    let some w ← lt' (← elem' b (m - 1)) (← elem' a (n - 1))|return eV a b o n m
    if w then
     n:=n - 1;o:=o.push (← elem' a n);u:=u + 1;v:=0
     if n == 0 then return eV a b o n m
     if u ≥ g then break
    else
     m:=m - 1;o:=o.push (← elem' b m);v:=v + 1;u:=0
     if m == 1 then return fw a b o n m
     if v ≥ g then break
   rule "list.sort.gallop"
   g:=g + 1
   for _ in [0:t] do
    if g > 1 then g:=g - 1
    modify (cN · g)
    let some p ← jv false (← elem' b (m - 1)) a 0 n (n - 1)|return eV a b o n m
    let k:=n - p
    u:=k
    if k > 0 then
     o:=o++(a.extract p n).reverse;n:=p
     if n == 0 then return eV a b o n m
    m:=m - 1;o:=o.push (← elem' b m)
    if m == 1 then return fw a b o n m
    let some p ← jv true (← elem' a (n - 1)) b 0 m (m - 1)|return eV a b o n m
    let k:=m - p
    v:=k
    if k > 0 then
     o:=o++(b.extract p m).reverse;m:=p
     if m == 1 then return fw a b o n m
     if m == 0 then return eV a b o n m
    n:=n - 1;o:=o.push (← elem' a n)
    if n == 0 then return eV a b o n m
    if u < 7 && v < 7 then break
   g:=g + 1
   modify (cN · g)
  unsupported "internal:list.sort.merge-bound"):=rfl
abbrev D1:=Option (Array Keyed) × Nat × Nat × Array Keyed × Nat
abbrev D2:=Option (Array Keyed) × Nat × Nat × Array Keyed × Nat × Nat
abbrev D3:=Option (Array Keyed) × Nat × Nat × Array Keyed × Nat × Nat × Nat
def hi1 (a b:Array Keyed) (g n m:Nat) (o:Array Keyed) (u v:Nat):SM (ForInStep D2):=do
 let x ← elem' b (m - 1)
 let y ← elem' a (n - 1)
 let some w ← lt' x y|pure (.done (some (eV a b o n m),n,m,o,u,v))
 if w then do
  let y ← elem' a (n - 1)
  if n - 1 == 0 then pure (.done (some (eV a b (o.push y) (n - 1) m),n - 1,m,o.push y,u + 1,0))
  else if u + 1 ≥ g then pure (.done (none,n - 1,m,o.push y,u + 1,0)) else pure (.yield (none,n - 1,m,o.push y,u + 1,0))
 else do
  let x ← elem' b (m - 1)
  if m - 1 == 1 then pure (.done (some (fw a b (o.push x) n (m - 1)),n,m - 1,o.push x,0,v + 1))
  else if v + 1 ≥ g then pure (.done (none,n,m - 1,o.push x,0,v + 1)) else pure (.yield (none,n,m - 1,o.push x,0,v + 1))
def hi4 (a b:Array Keyed) (n m:Nat) (o:Array Keyed) (g u v:Nat):SM (ForInStep D3):=do
 let y ← elem' a (n - 1)
 if n - 1 == 0 then pure (.done (some (eV a b (o.push y) (n - 1) m),n - 1,m,o.push y,g,u,v))
 else if (decide (u < 7) && decide (v < 7))=true then pure (.done (none,n - 1,m,o.push y,g,u,v)) else pure (.yield (none,n - 1,m,o.push y,g,u,v))
def hi3 (a b:Array Keyed) (n m:Nat) (o:Array Keyed) (g u v:Nat):SM (ForInStep D3):=do
 let x ← elem' b (m - 1)
 if m - 1 == 1 then pure (.done (some (fw a b (o.push x) n (m - 1)),n,m - 1,o.push x,g,u,v))
 else do
  let y ← elem' a (n - 1)
  let some p ← jv true y b 0 (m - 1) (m - 1 - 1)|pure (.done (some (eV a b (o.push x) n (m - 1)),n,m - 1,o.push x,g,u,v))
  if m - 1 - p > 0 then
   if p == 1 then pure (.done (some (fw a b (o.push x++(b.extract p (m - 1)).reverse) n p),n,p,o.push x++(b.extract p (m - 1)).reverse,g,u,m - 1 - p))
   else if p == 0 then pure (.done (some (eV a b (o.push x++(b.extract p (m - 1)).reverse) n p),n,p,o.push x++(b.extract p (m - 1)).reverse,g,u,m - 1 - p))
   else hi4 a b n p (o.push x++(b.extract p (m - 1)).reverse) g u (m - 1 - p)
  else hi4 a b n (m - 1) (o.push x) g u (m - 1 - p)
def hi2 (a b:Array Keyed) (n m:Nat) (o:Array Keyed) (u v g:Nat):SM (ForInStep D3):=do
 modify (cN · g)
 let x ← elem' b (m - 1)
 let some p ← jv false x a 0 n (n - 1)|pure (.done (some (eV a b o n m),n,m,o,g,u,v))
 if n - p > 0 then
  if p == 0 then pure (.done (some (eV a b (o++(a.extract p n).reverse) p m),p,m,o++(a.extract p n).reverse,g,n - p,v))
  else hi3 a b p m (o++(a.extract p n).reverse) g (n - p) v
 else hi3 a b n m o g (n - p) v
section
variable {M:Model} {A:Around} {E:ZY} {s:Shared} {kd:SortKind} {S:Keyed→Prop} {r:Keyed→Keyed→Bool} {a b o:Array Keyed} {n m g u v p:Nat} {st:SortSt}
theorem MH.len (h:MH r a b o n m):o.size + n + m=a.size + b.size:=by
 have:=h.2.2.len
 have:=h.1
 have:=h.2.1
 omega
theorem oF {α : Type}(a:Array α)(hq:p≤a.size){y : α}(hy:y∈a.reverse.toList.drop (a.size - p)):y∈(a.toList.drop 0).take p:=by
 have:=sG a (Nat.zero_le p) hq (y:=y) (by rw [List.take_of_length_le (by simp;omega)];exact hy)
 simpa using this
theorem MH.low (T:Two M A E s kd S r a b)(h:MH r a b o n m)(hm:1≤m){x y:Keyed}(ey:b[m - 1]? = some y)(w:lE r y x):∀ z∈b.reverse.toList.drop (b.size - m),lE r z x :=
 jT (r:=rv r) (fun p q=>T.C.tr q p) (fv T.sb) ((sF b hm h.2.1).trans ey) w
theorem MH.lowA (T:Two M A E s kd S r a b)(h:MH r a b o n m)(hn:1≤n){x y:Keyed}(ey:a[n - 1]? = some y)(w:lE r y x):∀ z∈a.reverse.toList.drop (a.size - n),lE r z x :=
 jT (r:=rv r) (fun p q=>T.C.tr q p) (fv T.sa) ((sF a hn h.1).trans ey) w
theorem MH.putA (T:Two M A E s kd S r a b)(h:MH r a b o n m)(hn:1≤n){x:Keyed}(ex:a[n - 1]? = some x)(w:∀ z∈b.reverse.toList.drop (b.size - m),lE r z x):MH r a b (o.push x) (n - 1) m:=by
 obtain⟨h1,h2,h3⟩:=h
 have e:a.size - (n - 1)=a.size - n + 1:=by omega
 refine⟨by omega,h2,?_⟩
 rw [e]
 exact h3.pushB (fv T.sa) ((sF a hn h1).trans ex) w
theorem MH.segA (T:Two M A E s kd S r a b)(h:MH r a b o n m)(hp:p≤n)(w:∀ y∈((a.toList.drop 0).take n).drop p,∀ z∈b.reverse.toList.drop (b.size - m),lE r z y):MH r a b (o++(a.extract p n).reverse) p m:=by
 obtain⟨h1,h2,h3⟩:=h
 have e:a.size - p=a.size - n + (n - p):=by omega
 refine⟨by omega,h2,?_⟩
 rw [e,nO a hp h1]
 exact h3.segB (fv T.sa) (by simp;omega) fun y hy=>w y (sG a hp h1 hy)
theorem MH.segB (T:Two M A E s kd S r a b)(h:MH r a b o n m)(hp:p≤m)(w:∀ y∈((b.toList.drop 0).take m).drop p,∀ z∈a.reverse.toList.drop (a.size - n),lE r z y):MH r a b (o++(b.extract p m).reverse) n p:=by
 obtain⟨h1,h2,h3⟩:=h
 have e:b.size - p=b.size - m + (m - p):=by omega
 refine⟨h1,by omega,?_⟩
 rw [e,nO b hp h2]
 exact h3.segA (fv T.sb) (by simp;omega) fun y hy=>w y (sG b hp h2 hy)
structure HI (r:Keyed→Keyed→Bool) (a b o:Array Keyed) (n m:Nat):Prop where
 h:MH r a b o n m
 hn:1≤n
 hm:2≤m
theorem FR (T:Two M A E s kd S r a b)(bot:∀ x,b[0]? = some x → ∀ y∈a.toList,lE r x y)(L:HI r a b o n m)(hk:kindOf st=kd){Q:ForInStep D2→SortSt→Prop}
  (q1:∀ x o' i' j' u' v',Mgd r a b x→Q (.done (some x,i',j',o',u',v')) st) (q2:∀ o' i' j' u' v',HI r a b o' i' j'→o.size < o'.size→Q (.done (none,i',j',o',u',v')) st) (q3:∀ o' i' j' u' v',HI r a b o' i' j'→o.size < o'.size→Q (.yield (none,i',j',o',u',v')) st) :
  wpS M A E s (hi1 a b g n m o u v) Q st:=by
 have ⟨h,hn,hm⟩:=L
 have h1:=h.1
 have h2:=h.2.1
 obtain⟨x,ex,mx⟩:=hJ (show m - 1 < b.size by omega)
 obtain⟨y,ey,my⟩:=hJ (show n - 1 < a.size by omega)
 unfold hi1
 refine wpS_bind (bO ex (wpS_bind (bO ey (wpS_bind (T.C.ask (T.Sb x mx) (T.Sa y my) hk ?_)))))
 dsimp only
 cases w:r x y with
 | true =>
  rw [if_pos rfl]
  refine wpS_bind (bO ey ?_)
  have m2:=h.putA T hn ey (h.low T (by omega) ex (T.C.asym w))
  have z:o.size < (o.push y).size:=by simp
  by_cases c:n - 1=0
  ·rw [if_pos (by simpa using c)]
   exact wpS_pure (q1 _ _ _ _ _ _ (lA T m2 (.inl c)))
  ·rw [if_neg (by simpa using c)]
   have L2:HI r a b (o.push y) (n - 1) m:=⟨m2,by omega,hm⟩
   split
   ·exact wpS_pure (q2 _ _ _ _ _ L2 z)
   ·exact wpS_pure (q3 _ _ _ _ _ L2 z)
 | false =>
  rw [if_neg Bool.false_ne_true]
  refine wpS_bind (bO ex ?_)
  have m2:=MH.pushB T h (by omega) ex (h.lowA T hn ey w)
  have z:o.size < (o.push x).size:=by simp
  by_cases c:m - 1=1
  ·rw [if_pos (by simpa using c)]
   exact wpS_pure (q1 _ _ _ _ _ _ (jU T bot m2 c))
  ·rw [if_neg (by simpa using c)]
   have L2:HI r a b (o.push x) n (m - 1):=⟨m2,hn,by omega⟩
   split
   ·exact wpS_pure (q2 _ _ _ _ _ L2 z)
   ·exact wpS_pure (q3 _ _ _ _ _ L2 z)
structure Bf (r:Keyed→Keyed→Bool) (a b:Array Keyed) (l:Nat) (Q:ForInStep D3→SortSt→Prop) (st:SortSt):Prop where
 q1:∀ x o' i' j' g' u' v',Mgd r a b x→Q (.done (some x,i',j',o',g',u',v')) st
 q2:∀ o' i' j' g' u' v',HI r a b o' i' j'→l≤o'.size→Q (.done (none,i',j',o',g',u',v')) st
 q3:∀ o' i' j' g' u' v',HI r a b o' i' j'→l≤o'.size→Q (.yield (none,i',j',o',g',u',v')) st
theorem Bg (T:Two M A E s kd S r a b)(h:MH r a b o n m)(hn:1≤n)(hm:2≤m){y:Keyed}(ey:a[n - 1]? = some y)(w:∀ z∈b.reverse.toList.drop (b.size - m),lE r z y){l:Nat}(hl:l≤o.size){Q:ForInStep D3→SortSt→Prop}(q:Bf r a b l Q st):wpS M A E s (hi4 a b n m o g u v) Q st:=by
 unfold hi4
 refine wpS_bind (bO ey ?_)
 have m2:=h.putA T hn ey w
 have z:l≤(o.push y).size:=by simp;omega
 by_cases c:n - 1=0
 ·rw [if_pos (by simpa using c)]
  exact wpS_pure (q.q1 _ _ _ _ _ _ _ (lA T m2 (.inl c)))
 ·rw [if_neg (by simpa using c)]
  have L2:HI r a b (o.push y) (n - 1) m:=⟨m2,by omega,hm⟩
  split
  ·exact wpS_pure (q.q2 _ _ _ _ _ _ L2 z)
  ·exact wpS_pure (q.q3 _ _ _ _ _ _ L2 z)
theorem Bh (T:Two M A E s kd S r a b)(bot:∀ x,b[0]? = some x → ∀ y∈a.toList,lE r x y)(h:MH r a b o n m)(hn:1≤n)(hm:2≤m)(hk:kindOf st=kd){x:Keyed}(ex:b[m - 1]? = some x)(w:∀ z∈a.reverse.toList.drop (a.size - n),lE r z x){l:Nat}(hl:l≤o.size){Q:ForInStep D3→SortSt→Prop}(q:Bf r a b l Q st):wpS M A E s (hi3 a b n m o g u v) Q st:=by
 have h1:=h.1
 have h2:=h.2.1
 obtain⟨y,ey,my⟩:=hJ (show n - 1 < a.size by omega)
 unfold hi3
 refine wpS_bind (bO ex ?_)
 have m2:=MH.pushB T h (by omega) ex w
 by_cases c:m - 1=1
 ·rw [if_pos (by simpa using c)]
  exact wpS_pure (q.q1 _ _ _ _ _ _ _ (jU T bot m2 c))
 ·rw [if_neg (by simpa using c)]
  refine wpS_bind (bO ey (wpS_bind (uJ T.C hk (T.Sa y my) T.Sb T.sb (n:=m - 1) (by omega) (by omega) fun k hk' p1 p2 => ?_)))
  dsimp only
  have lw:∀ z∈b.reverse.toList.drop (b.size - k),lE r z y:=fun z hz=>T.C.asym (p1 z (oF b (by omega) hz))
  by_cases c2:m - 1 - k > 0
  ·rw [if_pos c2]
   have m3:=MH.segB T m2 (p:=k) hk' fun z hz=>m2.lowA T hn ey (p2 z hz)
   by_cases c3:k=1
   ·rw [if_pos (by simpa using c3)]
    exact wpS_pure (q.q1 _ _ _ _ _ _ _ (jU T bot m3 c3))
   ·rw [if_neg (by simpa using c3)]
    by_cases c4:k=0
    ·rw [if_pos (by simpa using c4)]
     exact wpS_pure (q.q1 _ _ _ _ _ _ _ (lA T m3 (.inr c4)))
    ·rw [if_neg (by simpa using c4)]
     exact Bg (l:=l) T m3 hn (by omega) ey lw (by simp;omega) q
  ·rw [if_neg c2]
   have k0:k=m - 1:=by omega
   subst k0
   exact Bg (l:=l) T m2 hn (by omega) ey lw (by simp;omega) q
theorem Bi (T:Two M A E s kd S r a b)(bot:∀ x,b[0]? = some x → ∀ y∈a.toList,lE r x y)(L:HI r a b o n m)(hk:kindOf st=kd){l:Nat}(hl:l≤o.size){Q:ForInStep D3→SortSt→Prop}(q:Bf r a b l Q (cN st g)):wpS M A E s (hi2 a b n m o u v g) Q st:=by
 have ⟨h,hn,hm⟩:=L
 have h1:=h.1
 have h2:=h.2.1
 obtain⟨x,ex,mx⟩:=hJ (show m - 1 < b.size by omega)
 unfold hi2
 refine wpS_bind (wpS_modify (wpS_bind (bO ex (wpS_bind (qJ T.C (st:=cN st g) hk (T.Sb x mx) T.Sa T.sa (n:=n) (by omega) (by omega) fun k hk' p1 p2 => ?_)))))
 dsimp only
 have lw:∀ z∈a.reverse.toList.drop (a.size - k),lE r z x:=fun z hz=>p1 z (oF a (by omega) hz)
 by_cases c2:n - k > 0
 ·rw [if_pos c2]
  have m2:=MH.segA T h (p:=k) hk' fun z hz=>h.low T (by omega) ex (T.C.asym (p2 z hz))
  by_cases c3:k=0
  ·rw [if_pos (by simpa using c3)]
   exact wpS_pure (q.q1 _ _ _ _ _ _ _ (lA T m2 (.inl c3)))
  ·rw [if_neg (by simpa using c3)]
   exact Bh (st:=cN st g) (l:=l) T bot m2 (by omega) hm hk ex lw (by simp;omega) q
 ·rw [if_neg c2]
  have k0:k=n:=by omega
  subst k0
  exact Bh (st:=cN st g) (l:=l) T bot h hn hm hk ex lw hl q
theorem FS (T:Two M A E s kd S r a b)(bot:∀ x,b[0]? = some x → ∀ y∈a.toList,lE r x y)(top:∀ y,a[a.size - 1]? = some y → ∀ x∈b.toList,lE r x y)(za:0 < a.size)(zb:0 < b.size)(hk:kindOf st=kd){Q:Array Keyed→SortSt→Prop}(q:∀ x gg,Mgd r a b x→Q x (cN st gg)):wpS M A E s (mHi a b) Q st:=by
 obtain⟨y,ey,my⟩:=hJ (show a.size - 1 < a.size by omega)
 have m0:MH r a b #[y] (a.size - 1) b.size:=by
  have mm:MH r a b #[] a.size b.size:=⟨ZL _,ZL _,by simp,by simp,fun _ h=>by simp at h,by simp,by simp⟩
  exact mm.putA T za ey fun z hz=>top y ey z (by
   have:=oF b (ZL _) hz
   rw [List.drop_zero] at this
   exact List.mem_of_mem_take this)
 have st0:st=cN st (gallopOf st):=by cases st;rfl
 rw [FQ]
 refine wpS_bind (ir (wpS_bind (bO ey (dk (fun c => ?_) fun c=>dk (fun c2 => ?_) fun c2 => ?_))))
 ·refine wpS_pure ?_
  rw [st0]
  exact q _ _ (lA T m0 (.inl (by simpa using c)))
 ·refine wpS_pure ?_
  rw [st0]
  exact q _ _ (jU T bot m0 (by simpa using c2))
 ·have L0:HI r a b #[y] (a.size - 1) b.size:=⟨m0,by simp at c;omega,by simp at c2;omega⟩
  refine wpS_bind (wpS_get (wpS_bind (wpS_mono (wpS_forRange
   (I:=fun n c st'=>(∃ gg,st'=cN st gg) ∧ ∃ o i j g,c=(none,i,j,o,g)∧HI r a b o i j∧n + 1≤o.size)
   (Q:=fun c st'=>(∃ gg,st'=cN st gg) ∧ ∃ x o i j g,c=(some x,i,j,o,g)∧Mgd r a b x) ?step ?fin ⟨⟨_,st0⟩,#[y],a.size - 1,b.size,gallopOf st,rfl,L0,by simp⟩) fun c st' h => ?_)))
  case fin =>
   rintro c st' ⟨_,o,i,j,g,_,L,z⟩
   have:=L.h.len
   have:=L.hn
   have:=L.hm
   omega
  case step =>
   rintro n c st' _ hn ⟨⟨gg,rfl⟩,o,i,j,g,rfl,L,z⟩
   refine wpS_bind (wpS_mono (wpS_forRange
    (I:=fun n' c st'=>st'=cN st gg ∧ ∃ o' i j u v,c=(none,i,j,o',u,v)∧HI r a b o' i j∧o.size + n'≤o'.size)
    (Q:=fun c st'=>st'=cN st gg∧((∃ x o' i j u v,c=(some x,i,j,o',u,v)∧Mgd r a b x) ∨ ∃ o' i j u v,c=(none,i,j,o',u,v)∧HI r a b o' i j∧o.size < o'.size)) ?s1 ?f1 ⟨rfl,o,i,j,0,0,rfl,L,by simp⟩) fun c st' h => ?_)
   case f1 =>
    rintro c st' ⟨rfl,o',i,j,u,v,rfl,L',z'⟩
    exact⟨rfl,.inr ⟨o',i,j,u,v,rfl,L',by omega⟩⟩
   case s1 =>
    rintro n' c st' _ _ ⟨rfl,o',i,j,u,v,rfl,L',z'⟩
    show wpS M A E s (hi1 a b g i j o' u v) _ _
    exact FR (st:=cN st gg) T bot L' hk (fun x o2 i2 j2 u2 v2 R=>⟨rfl,.inl ⟨x,o2,i2,j2,u2,v2,rfl,R⟩⟩) (fun o2 i2 j2 u2 v2 L2 z2=>⟨rfl,.inr ⟨o2,i2,j2,u2,v2,rfl,L2,by omega⟩⟩) fun o2 i2 j2 u2 v2 L2 z2=>⟨rfl,o2,i2,j2,u2,v2,rfl,L2,by omega⟩
   ·obtain⟨rfl,⟨x,o',i,j,u,v,rfl,R⟩|⟨o',i,j,u,v,rfl,L',z'⟩⟩:=h
    ·exact wpS_pure ⟨⟨gg,rfl⟩,x,o',i,j,g,rfl,R⟩
    ·refine wpS_bind (ir (wpS_bind (wpS_mono (wpS_forRange
      (I:=fun _ c st'=>(∃ gg,st'=cN st gg) ∧ ∃ o2 i j g u v,c=(none,i,j,o2,g,u,v)∧HI r a b o2 i j∧n + 2≤o2.size)
      (Q:=fun c st'=>(∃ gg,st'=cN st gg)∧((∃ x o2 i j g u v,c=(some x,i,j,o2,g,u,v)∧Mgd r a b x) ∨ ∃ o2 i j g u v,c=(none,i,j,o2,g,u,v)∧HI r a b o2 i j∧n + 2≤o2.size)) ?s2 ?f2 ⟨⟨gg,rfl⟩,o',i,j,g + 1,u,v,rfl,L',by omega⟩) fun c st' h => ?_)))
     case f2 =>
      rintro c st' ⟨e,o2,i,j,g,u,v,rfl,L2,z2⟩
      exact⟨e,.inr ⟨o2,i,j,g,u,v,rfl,L2,z2⟩⟩
     case s2 =>
      rintro n' c st' _ _ ⟨⟨gg,rfl⟩,o2,i,j,g,u,v,rfl,L2,z2⟩
      show wpS M A E s (if g > 1 then hi2 a b i j o2 u v (g - 1) else hi2 a b i j o2 u v g) _ _
      exact dk (fun _=>Bi (st:=cN st gg) (l:=n + 2) T bot L2 hk z2 ⟨fun x o3 i3 j3 g3 u3 v3 R=>⟨⟨_,rfl⟩,.inl ⟨x,o3,i3,j3,g3,u3,v3,rfl,R⟩⟩,fun o3 i3 j3 g3 u3 v3 L3 z3=>⟨⟨_,rfl⟩,.inr ⟨o3,i3,j3,g3,u3,v3,rfl,L3,z3⟩⟩,fun o3 i3 j3 g3 u3 v3 L3 z3=>⟨⟨_,rfl⟩,o3,i3,j3,g3,u3,v3,rfl,L3,z3⟩⟩) fun _=>Bi (st:=cN st gg) (l:=n + 2) T bot L2 hk z2 ⟨fun x o3 i3 j3 g3 u3 v3 R=>⟨⟨_,rfl⟩,.inl ⟨x,o3,i3,j3,g3,u3,v3,rfl,R⟩⟩,fun o3 i3 j3 g3 u3 v3 L3 z3=>⟨⟨_,rfl⟩,.inr ⟨o3,i3,j3,g3,u3,v3,rfl,L3,z3⟩⟩,fun o3 i3 j3 g3 u3 v3 L3 z3=>⟨⟨_,rfl⟩,o3,i3,j3,g3,u3,v3,rfl,L3,z3⟩⟩
     ·obtain⟨⟨gg,rfl⟩,⟨x,o2,i,j,g,u,v,rfl,R⟩|⟨o2,i,j,g,u,v,rfl,L2,z2⟩⟩:=h
      ·exact wpS_pure ⟨⟨gg,rfl⟩,x,o2,i,j,g,rfl,R⟩
      ·refine wpS_bind (wpS_modify (wpS_pure ⟨⟨g + 1,rfl⟩,o2,i,j,g + 1,rfl,L2,by omega⟩))
  ·obtain⟨⟨gg,rfl⟩,x,o,i,j,g,rfl,R⟩:=h
   exact wpS_pure (q x gg R)
end
end Ts
namespace Ts
open PySem PyProof.Rows
def uK (l:List Keyed) (base:Nat) (xs:Array Keyed):Array Keyed:=l.zipIdx.foldl (fun xs q=>xs.setIfInBounds (base + q.2) q.1) xs
theorem FT (i:Nat):mergeAt' i=(do
  let st ← get
  let (some (p,n,e),some (q,m,_)):=((pendingOf st)[i]?,(pendingOf st)[i + 1]?)|unsupported "internal:list.sort.pending"
  set (setPending st (((pendingOf st).setIfInBounds i (p,n + m,e)).eraseIdxIfInBounds (i + 1)))
  let some k ← jv false (← elem' (arrOf st) q) (arrOf st) p n 0|return false
  let (p,n):=(p + k,n - k)
  if n == 0 then return true
  let some m ← jv true (← elem' (arrOf st) (p + n - 1)) (arrOf st) q m (m - 1)|return false
  if m == 0 then return true
  let x:=(arrOf st).extract p q
  let y:=(arrOf st).extract q (q + m)
  let z ← if n≤m then mLo x y else mHi x y
  modify fun st=>setArr st (uK z.toList p (arrOf st))
  return (failedOf (← get)).isNone):=rfl
theorem Bj (base:Nat):∀ (l:List Keyed) (n:Nat) (xs:Array Keyed) (P W R:List Keyed),xs.toList=P++W++R→P.length=base + n→W.length=l.length→((l.zipIdx n).foldl (fun xs q=>xs.setIfInBounds (base + q.2) q.1) xs).toList=P++l++R
 | [],n,xs,P,W,R,h,hp,hw=>by
  have:W=[]:=List.length_eq_zero_iff.mp hw
  subst this
  simpa using h
 | x :: l,n,xs,P,[],R,h,hp,hw=>by simp at hw
 | x :: l,n,xs,P,w :: W,R,h,hp,hw=>by
  rw [List.zipIdx_cons,List.foldl_cons]
  have:=Bj base l (n + 1) (xs.setIfInBounds (base + n) x) (P++[x]) W R (by
   rw [Array.toList_setIfInBounds,h,← hp,ZU,ZU]
   simp [List.set_append]) (by simp [hp];omega) (by simpa using hw)
  rw [this]
  simp
theorem FU {l:List Keyed}{base:Nat}{xs:Array Keyed}{P W R:List Keyed}(h:xs.toList=P++W++R)(hp:P.length=base)(hw:W.length=l.length):(uK l base xs).toList=P++l++R:=Bj base l 0 xs P W R h (by omega) hw
section
variable {M:Model} {A:Around} {E:ZY} {s:Shared} {kd:SortKind} {S:Keyed→Prop} {r:Keyed→Keyed→Bool} {st:SortSt}
theorem Cmp.refl (C:Cmp M A E s kd S r)(x:Keyed):lE r x x:=by
 cases w:r x x with
 | false=>exact w
 | true=>rw [C.asym w] at w;cases w
theorem oG {α : Type}{xs:Array α}{P X R:List α}(h:xs.toList=P++(X++R))(i:Nat)(hi:i < X.length):xs[P.length + i]? = X[i]? := by
 rw [← Array.getElem?_toList,h,ZD (by omega),ZC (by omega)]
 congr 1;omega
theorem wB (C:Cmp M A E s kd S r){xs:Array Keyed}{x:Keyed}{P X R:List Keyed}(h:xs.toList=P++(X++R)){ht:Nat}{Q:YL→SortSt→Prop}(hk:kindOf st=kd)(Sx:S x)(SX:∀ y∈X,S y)(sX:X.Pairwise (lE r))(hh:ht < X.length)
  (q:∀ k,k≤X.length→(∀ y∈X.take k,lE r y x)→(∀ y∈X.drop k,r x y=true)→Q (some k) st):wpS M A E s (jv false x xs P.length X.length ht) Q st:=by
 have gt:∀ d (hd:d < X.length),xs[P.length + d]? = some X[d]:=fun d hd=>by rw [oG h d hd];exact ZE hd
 refine sC C hk (fun d => !r x (X.getD d x)) (fun d hd=>⟨X[d],gt d hd,SX _ (XE hd),by simp [List.getD,hd]⟩) Sx (fun d e hde he pe => ?_) hh fun k hk' p1 p2=>q k hk' (fun y hy => ?_) fun y hy => ?_
 ·have hd:d < X.length:=by omega
  simp only [List.getD,ZE he,ZE hd,Option.getD_some] at pe ⊢
  by_cases z:d=e
  ·subst z;exact pe
  ·have l:=List.pairwise_iff_getElem.mp sX d e hd he (by omega)
   have e1:r x X[e] = false:=by simpa using pe
   have:=C.tr l e1
   simp [this]
 ·obtain⟨d,hd,e⟩:=List.mem_take_iff_getElem.mp hy
  have hd':d < X.length:=by omega
  have:=p1 d (by omega)
  simp only [List.getD,ZE hd',Option.getD_some] at this
  rw [← e]
  simpa using this
 ·obtain⟨d,hd,e⟩:=List.mem_drop_iff_getElem.mp hy
  have:=p2 (k + d) (by omega) (by omega)
  simp only [List.getD,ZE (show k + d < X.length by omega),Option.getD_some] at this
  have e2:y=X[k + d]'(by omega):=by rw [← e]
  rw [e2]
  simpa using this
theorem zp (C:Cmp M A E s kd S r){xs:Array Keyed}{x:Keyed}{P X R:List Keyed}(h:xs.toList=P++(X++R)){ht:Nat}{Q:YL→SortSt→Prop}(hk:kindOf st=kd)(Sx:S x)(SX:∀ y∈X,S y)(sX:X.Pairwise (lE r))(hh:ht < X.length)
  (q:∀ k,k≤X.length→(∀ y∈X.take k,r y x=true)→(∀ y∈X.drop k,lE r x y)→Q (some k) st):wpS M A E s (jv true x xs P.length X.length ht) Q st:=by
 have gt:∀ d (hd:d < X.length),xs[P.length + d]? = some X[d]:=fun d hd=>by rw [oG h d hd];exact ZE hd
 refine sC C hk (fun d=>r (X.getD d x) x) (fun d hd=>⟨X[d],gt d hd,SX _ (XE hd),by simp [List.getD,hd]⟩) Sx (fun d e hde he pe => ?_) hh fun k hk' p1 p2=>q k hk' (fun y hy => ?_) fun y hy => ?_
 ·have hd:d < X.length:=by omega
  simp only [List.getD,ZE he,ZE hd,Option.getD_some] at pe ⊢
  by_cases z:d=e
  ·subst z;exact pe
  ·have l:=List.pairwise_iff_getElem.mp sX d e hd he (by omega)
   cases w:r X[d] x with
   | true=>rfl
   | false =>
    have:=C.tr w l
    rw [this] at pe;cases pe
 ·obtain⟨d,hd,e⟩:=List.mem_take_iff_getElem.mp hy
  have hd':d < X.length:=by omega
  have:=p1 d (by omega)
  simp only [List.getD,ZE hd',Option.getD_some] at this
  rw [← e]
  exact this
 ·obtain⟨d,hd,e⟩:=List.mem_drop_iff_getElem.mp hy
  have:=p2 (k + d) (by omega) (by omega)
  simp only [List.getD,ZE (show k + d < X.length by omega),Option.getD_some] at this
  have e2:y=X[k + d]'(by omega):=by rw [← e]
  rw [e2]
  exact this
theorem Dx {σ:Type}{st' st : σ}{Q:PUnit → σ → Prop}(h:Q ⟨⟩ st'):wpS M A E s (set st':StateT σ Sem PUnit) Q st:=by
 unfold wpS;rw [StateT.run_set];exact YX ⟨rfl,h⟩
theorem FV (C:Cmp M A E s kd S r){i:Nat}{P X Y R:List Keyed}{e e':Nat}(hk:kindOf st=kd)(hf:failedOf st=none)(ha:(arrOf st).toList=P++(X++(Y++R)))(p1:(pendingOf st)[i]? = some (P.length,X.length,e))(p2:(pendingOf st)[i + 1]? = some (P.length + X.length,Y.length,e'))
  (SX:∀ y∈X,S y) (SY:∀ y∈Y,S y) (sX:X.Pairwise (lE r)) (sY:Y.Pairwise (lE r)) (nX:X≠[]) (nY:Y≠[]) {Q:Bool→SortSt→Prop}
  (q:∀ Z gg xs,Z.Perm (X++Y)→Z.Pairwise (lE r)→xs.toList=P++(Z++R)→Q true (SortSt.mk' kd xs (((pendingOf st).setIfInBounds i (P.length,X.length + Y.length,e)).eraseIdxIfInBounds (i + 1)) gg none)):wpS M A E s (mergeAt' i) Q st:=by
 have lX:0 < X.length:=List.length_pos_iff.mpr nX
 have lY:0 < Y.length:=List.length_pos_iff.mpr nY
 have ha2:(arrOf st).toList=(P++X)++(Y++R):=by rw [ha,ZU]
 have pxl:(P++X).length=P.length + X.length:=ZB
 rw [FT]
 refine wpS_bind (wpS_get ?_)
 simp only [p1,p2]
 obtain⟨st1,hst1⟩ : ∃ st1,st1=setPending st (((pendingOf st).setIfInBounds i (P.length,X.length + Y.length,e)).eraseIdxIfInBounds (i + 1)):=⟨_,rfl⟩
 have fin:∀ Z gg xs,Z.Perm (X++Y)→Z.Pairwise (lE r)→xs.toList=P++(Z++R)→Q true (cN (setArr st1 xs) gg):=fun Z gg xs z1 z2 z3=>by
  have:=q Z gg xs z1 z2 z3
  rw [hst1]
  show Q true (SortSt.mk' (kindOf st) xs _ gg (failedOf st))
  rw [hk,hf];exact this
 have hk1:kindOf st1=kd:=by rw [hst1];exact hk
 have hf1:failedOf st1=none:=by rw [hst1];exact hf
 have ha1:arrOf st1=arrOf st:=by rw [hst1]
 rw [← hst1]
 refine wpS_bind (Dx ?_)
 have ey:(arrOf st)[P.length + X.length]? = some Y[0]:=by
  have:=oG ha2 0 lY
  rw [pxl] at this
  rw [show P.length + X.length=P.length + X.length + 0 from rfl,this]
  exact ZE lY
 refine wpS_bind (bO ey (wpS_bind (wB C ha hk1 (SY _ (XE lY)) SX sX lX fun k hkl b1 b2 => ?_)))
 dsimp only
 have y0:∀ y∈Y,lE r Y[0] y:=fun y hy=>by
  obtain⟨d,hd,e⟩:=List.getElem_of_mem hy
  by_cases z:d=0
  ·subst z;rw [← e];exact C.refl _
  ·rw [← e];exact List.pairwise_iff_getElem.mp sY 0 d lY hd (by omega)
 have sam:∀ xs:Array Keyed,xs=arrOf st → ∀ g,g=gallopOf st1→cN (setArr st1 xs) g=st1:=fun xs e g eg=>by subst e;subst eg;rw [hst1]
 have X12:X=X.take k++X.drop k:=(List.take_append_drop k X).symm
 have s12:=sX
 rw [X12,List.pairwise_append] at s12
 refine dk (fun c => ?_) fun c => ?_
 ·have kk:k=X.length:=by simp at c;omega
  refine wpS_pure ?_
  have:=fin (X++Y) (gallopOf st1) (arrOf st) (List.Perm.refl _) (List.pairwise_append.mpr ⟨sX,sY,fun x hx y hy=>C.tr (b1 x (by rw [kk,List.take_length];exact hx)) (y0 y hy)⟩) (by rw [ha,ZU])
  rw [sam _ rfl _ rfl] at this
  exact this
 ·have kl:k < X.length:=by simp at c;omega
  have ex:(arrOf st)[P.length + k + (X.length - k) - 1]? = some (X[X.length - 1]'(by omega)):=by
   have:=oG ha (X.length - 1) (by omega)
   rw [show P.length + k + (X.length - k) - 1=P.length + (X.length - 1) by omega,this]
   exact ZE (by omega)
  have xl:∀ x∈X,lE r x (X[X.length - 1]'(by omega)):=fun x hx=>by
   obtain⟨d,hd,e⟩:=List.getElem_of_mem hx
   by_cases z:d=X.length - 1
   ·subst z;rw [← e];exact C.refl _
   ·rw [← e];exact List.pairwise_iff_getElem.mp sX d (X.length - 1) hd (by omega) (by omega)
  have g2:∀ {R2:YL→SortSt→Prop},(∀ m,m≤Y.length→(∀ y∈Y.take m,r y (X[X.length - 1]'(by omega))=true)→(∀ y∈Y.drop m,lE r (X[X.length - 1]'(by omega)) y)→R2 (some m) st1)→wpS M A E s (jv true (X[X.length - 1]'(by omega)) (arrOf st) (P.length + X.length) Y.length (Y.length - 1)) R2 st1:=fun {R2} q2=>by
   have:=zp (M:=M) (A:=A) (E:=E) (s:=s) (st:=st1) (Q:=R2) C ha2 (ht:=Y.length - 1) hk1 (SX _ (XE (show X.length - 1 < X.length by omega))) SY sY (by omega) q2
   rw [pxl] at this
   exact this
  refine wpS_bind (bO ex (wpS_bind (g2 fun m hml d1 d2 => ?_)))
  dsimp only
  have Y12:Y=Y.take m++Y.drop m:=(List.take_append_drop m Y).symm
  have t12:=sY
  rw [Y12,List.pairwise_append] at t12
  refine dk (fun c2 => ?_) fun c2 => ?_
  ·have m0:m=0:=by simpa using c2
   refine wpS_pure ?_
   have:=fin (X++Y) (gallopOf st1) (arrOf st) (List.Perm.refl _) (List.pairwise_append.mpr ⟨sX,sY,fun x hx y hy=>C.tr (xl x hx) (d2 y (by rw [m0];exact hy))⟩) (by rw [ha,ZU])
   rw [sam _ rfl _ rfl] at this
   exact this
  ·have m0:0 < m:=by simp at c2;omega
   have ea:((arrOf st).extract (P.length + k) (P.length + X.length)).toList=X.drop k:=by
    have:=oE (arrOf st) (P.length + k) (X.length - k)
    rw [show P.length + k + (X.length - k)=P.length + X.length by omega] at this
    rw [this,ha,← List.drop_drop,List.drop_left,List.drop_append_of_le_length hkl,List.take_left' (by simp)]
   have eb:((arrOf st).extract (P.length + X.length) (P.length + X.length + m)).toList=Y.take m:=by
    rw [oE,ha2,← pxl,List.drop_left,List.take_append_of_le_length hml]
   obtain⟨xa,hxa⟩ : ∃ xa,xa=(arrOf st).extract (P.length + k) (P.length + X.length):=⟨_,rfl⟩
   obtain⟨ya,hya⟩ : ∃ ya,ya=(arrOf st).extract (P.length + X.length) (P.length + X.length + m):=⟨_,rfl⟩
   rw [← hxa] at ea
   rw [← hya] at eb
   have T:Two M A E s kd S r xa ya:=⟨C,fun x hx=>SX x (List.mem_of_mem_drop (by rw [← ea];exact hx)),fun x hx=>SY x (List.mem_of_mem_take (by rw [← eb];exact hx)),by rw [ea];exact s12.2.1,by rw [eb];exact t12.1⟩
   have za:0 < xa.size:=by rw [← Array.length_toList,ea];simp;omega
   have zb:0 < ya.size:=by rw [← Array.length_toList,eb];simp;omega
   have bot:∀ x,ya[0]? = some x → ∀ y∈xa.toList,lE r x y:=fun x hx y hy=>by
    rw [← Array.getElem?_toList,eb,List.getElem?_take_of_lt m0,ZE lY] at hx
    cases hx
    exact C.asym (b2 y (by rw [← ea];exact hy))
   have lst:∀ x∈ya.toList,lE r x (X[X.length - 1]'(by omega)):=fun x hx=>C.asym (d1 x (by rw [← eb];exact hx))
   have asz:xa.size=X.length - k:=by rw [← Array.length_toList,ea];simp
   have laste:xa[xa.size - 1]? = some (X[X.length - 1]'(by omega)):=by
    rw [← Array.getElem?_toList,ea,asz,List.getElem?_drop,show k + (X.length - k - 1)=X.length - 1 by omega]
    exact ZE (by omega)
   have top1:∀ x∈ya.toList,∀ y∈xa.toList.drop (xa.size - 1),lE r x y:=fun x hx y hy=>by
    obtain⟨d,hd,e⟩:=List.mem_drop_iff_getElem.mp hy
    have hd0:d=0:=by simp at hd;omega
    subst hd0
    have:y=X[X.length - 1]'(by omega):=by
     have h3:xa.toList[xa.size - 1 + 0]? = some y:=by rw [← e];exact ZE (by omega)
     rw [Nat.add_zero,Array.getElem?_toList,laste] at h3
     exact (ZT h3).symm
    rw [this]
    exact lst x hx
   have mg:∀ z gg,Mgd r xa ya z→wpS M A E s (modify (fun st=>setArr st (uK z.toList (P.length + k) (arrOf st))) >>= fun _=>(get >>= fun st=>pure (failedOf st).isNone:StateT SortSt Sem Bool)) Q (cN st1 gg):=fun z gg ⟨z1,z2⟩=>by
    refine wpS_bind (wpS_modify (wpS_bind (wpS_get (wpS_pure ?_))))
    show Q (failedOf st1).isNone _
    rw [hf1]
    have zl:z.toList.length=(X.drop k++Y.take m).length:=by rw [z1.length_eq,ea,eb]
    have la:(uK z.toList (P.length + k) (arrOf st)).toList=(P++X.take k)++z.toList++(Y.drop m++R):=FU (W:=X.drop k++Y.take m) (by
     rw [ha]
     conv=>lhs;rw [X12,Y12]
     simp only [ZU]) (by simp;omega) zl.symm
    have mem:∀ x∈z.toList,x∈X.drop k∨x∈Y.take m:=fun x hx=>by
     have:=z1.mem_iff.mp hx
     rw [ea,eb] at this
     exact YS this
    have:=fin (X.take k++(z.toList++Y.drop m)) gg (uK z.toList (P.length + k) (arrOf st)) (by
     conv=>rhs;rw [X12,Y12]
     rw [ZU]
     refine List.Perm.append_left _ ?_
     rw [← ZU]
     refine List.Perm.append_right _ ?_
     rw [← ea,← eb];exact z1) (by
     rw [List.pairwise_append,List.pairwise_append]
     refine⟨s12.1,⟨z2,t12.2.1,fun x hx y hy => ?_⟩,fun x hx y hy => ?_⟩
     ·rcases mem x hx with h|h
      ·exact C.tr (xl x (List.mem_of_mem_drop h)) (d2 y hy)
      ·exact t12.2.2 x h y hy
     ·rcases YS hy with hy|hy
      ·rcases mem y hy with h|h
       ·exact s12.2.2 x hx y h
       ·exact C.tr (b1 x hx) (y0 y (List.mem_of_mem_take h))
      ·exact C.tr (b1 x hx) (y0 y (List.mem_of_mem_drop hy))) (by rw [la];simp only [ZU])
    have e3:arrOf (cN st1 gg)=arrOf st:=ha1
    rw [e3]
    exact this
   rw [← hxa,← hya]
   refine dk (fun _=>wpS_bind ?_) fun _=>wpS_bind ?_
   ·exact FP T top1 bot za zb hk1 mg
   ·exact FS T bot (fun y hy x hx=>by rw [laste] at hy;cases hy;exact lst x hx) za zb hk1 mg
end
end Ts
namespace Ts
open PySem PyProof.Rows
section
variable {M:Model} {A:Around} {E:ZY} {s:Shared} {kd:SortKind} {S:Keyed→Prop} {r:Keyed→Keyed→Bool} {st:SortSt}
theorem FW {α : Type}{xs:Array α}{P B R:List α}(h:xs.toList=P++(B++R)){i j:Nat}(hi:i=P.length)(hj:j=P.length + B.length):(mirror xs i j ((j - i) / 2)).toList=P++(B.reverse++R):=by
 have sz:xs.size=P.length + (B.length + R.length):=by rw [← Array.length_toList,h];simp
 apply List.ext_getElem?
 intro k
 rw [Array.getElem?_toList,getElem?_mirror_all (by omega)]
 subst hi hj
 by_cases c:P.length≤k∧k < P.length + B.length
 ·rw [if_pos c,← Array.getElem?_toList,h,ZD (by omega),ZC (by omega),ZD (by omega),ZC (by simp;omega),List.getElem?_reverse (by omega)]
  congr 1;omega
 ·rw [if_neg c,← Array.getElem?_toList,h]
  by_cases c2:k < P.length
  ·rw [ZC c2,ZC c2]
  ·rw [ZD (by omega),ZD (by omega),ZD (by omega),ZD (by simp;omega)]
   simp
theorem uL (C:Cmp M A E s kd S r){xs:Array Keyed}{i j:Nat}{x y:Keyed}{Q:Option Bool→SortSt→Prop}(hk:kindOf st=kd)(ex:xs[i]? = some x)(ey:xs[j]? = some y)(Sx:S x)(Sy:S y)(h:Q (some (r x y)) (setArr st xs)):wpS M A E s (ltAt' i j) Q (setArr st xs):=by
 rw [ltAt'_eq]
 refine wpS_bind (wpS_get (wpS_bind (bO ex (wpS_bind (bO ey (C.ask Sx Sy hk h))))))
theorem sH {xs:Array Keyed}{P B R:List Keyed}(h:xs.toList=P++(B++R)){i j:Nat}(hi:i=P.length)(hj:j=P.length + B.length){Q:Unit→SortSt→Prop}(q:∀ ys:Array Keyed,ys.toList=P++(B.reverse++R)→Q () (setArr st ys)):wpS M A E s (reverseSlice' i j) Q (setArr st xs):=by
 rw [reverseSlice'_eq]
 exact wpS_modify (q _ (FW h hi hj))
abbrev lG (r:Keyed→Keyed→Bool) (x y:Keyed):Prop:=r x y=false
def zq (lo n:Nat):SM (ForInStep (Option (YL) × Nat)):=do
 let some e ← ltAt' (lo + n) (lo + n - 1)|pure (.done (some none,n))
 if e then pure (.done (none,n)) else pure (.yield (none,n + 1))
def FX (lo n q:Nat):SM (ForInStep (Option (YL) × Nat × Nat)):=do
 let some e ← ltAt' (lo + n) (lo + n - 1)|pure (.done (some none,n,q))
 if e then
  if q > 0 then do
   reverseSlice' (lo + n - (q + 1)) (lo + n)
   pure (.yield (none,n + 1,0))
  else pure (.yield (none,n + 1,0))
 else do
  let some f ← ltAt' (lo + n - 1) (lo + n)|pure (.done (some none,n,q))
  if f then pure (.done (none,n,q)) else pure (.yield (none,n + 1,q + 1))
theorem sI {α : Type}{R : α → α → Prop}(tr:∀ {a b c},R a b→R b c→R a c){D:List α}{y x : α}(h:(D++[y]).Pairwise R)(hx:R y x):(D++[y]++[x]).Pairwise R:=by
 rw [List.pairwise_append]
 refine⟨h,List.pairwise_singleton _ _,fun a ha b hb => ?_⟩
 rw [List.mem_singleton] at hb
 subst hb
 rcases YS ha with ha|ha
 ·exact tr ((List.pairwise_append.mp h).2.2 a ha y (by simp)) hx
 ·rw [List.mem_singleton] at ha;subst ha;exact hx
theorem kA {α : Type}{D:List α}(h:0 < D.length):∃ F y,D=F++[y]:=⟨D.dropLast,D.getLast (List.ne_nil_of_length_pos h),(List.dropLast_concat_getLast _).symm⟩
theorem wC {α : Type}{xs:Array α}{P F:List α}{y : α}{R:List α}(h:xs.toList=P++(F++[y]++R)):xs[P.length + (F.length + 1) - 1]? = some y:=by
 rw [← Array.getElem?_toList,h,ZD (by omega),ZC (by simp),ZD (by omega)]
 simp
theorem nQ {α : Type}{xs:Array α}{P D:List α}{x : α}{R:List α}(h:xs.toList=P++(D++(x :: R))):xs[P.length + D.length]? = some x:=by
 rw [← Array.getElem?_toList,h,ZD (by omega),ZD (by omega)]
 simp
theorem Bk (C:Cmp M A E s kd S r)(hk:kindOf st=kd){P D R:List Keyed}(SD:∀ x∈D++R,S x){xs:Array Keyed}(hx:xs.toList=P++(D++R))(h1:0 < D.length)(sD:D.Pairwise (lE r)){nrem:Nat}(hn:nrem=D.length + R.length){β : Type}{f:(Option (YL) × Nat)→SM β}{Q : β → SortSt→Prop}
  (q:∀ D' R',D'++R'=D++R→0 < D'.length→D'.Pairwise (lE r)→(∀ y z F T,D'=F++[y]→R'=z :: T→r z y=true)→wpS M A E s (f (none,D'.length)) Q (setArr st xs)) :
  wpS M A E s (forIn [D.length:nrem] ((none,D.length):Option (YL) × Nat) (fun _ c=>zq P.length c.2) >>= f) Q (setArr st xs):=by
 refine wpS_bind (wpS_mono (wpS_forRange (I:=fun i c st'=>st'=setArr st xs ∧ ∃ D' R',c=(none,D'.length)∧i=D'.length∧D'++R'=D++R∧0 < D'.length∧D'.Pairwise (lE r))
  (Q:=fun c st'=>st'=setArr st xs ∧ ∃ D' R',c=(none,D'.length)∧D'++R'=D++R∧0 < D'.length∧D'.Pairwise (lE r)∧(∀ y z F T,D'=F++[y]→R'=z :: T→r z y=true)) ?step ?fin ⟨rfl,D,R,rfl,rfl,rfl,h1,sD⟩) fun c st' h => ?_)
 case fin =>
  rintro c st' ⟨rfl,D',R',rfl,e,e2,e3,e4⟩
  refine⟨rfl,D',R',rfl,e2,e3,e4,fun y z F T _ eT => ?_⟩
  have:=congrArg List.length e2
  rw [eT] at this
  simp at this
  omega
 case step =>
  rintro i c st' _ hi ⟨rfl,D',R',rfl,e,e2,e3,e4⟩
  have hl:=congrArg List.length e2
  simp at hl
  obtain⟨F,y,rfl⟩:=kA e3
  cases R' with
  | nil=>simp at hl e;omega
  | cons z T =>
   have hx':xs.toList=P++(F++[y]++(z :: T)):=by rw [hx,← e2]
   have mem:∀ w,w∈F++[y]++(z :: T)→S w:=fun w hw=>SD w (by rw [← e2];exact hw)
   show wpS M A E s (zq P.length (F++[y]).length) _ _
   unfold zq
   have ez:=nQ hx'
   have ey:=wC hx'
   rw [show P.length + (F.length + 1) - 1=P.length + (F++[y]).length - 1 by simp] at ey
   refine wpS_bind (uL C hk ez ey (mem z (by simp)) (mem y (by simp)) ?_)
   dsimp only
   cases w:r z y with
   | true =>
    rw [if_pos rfl]
    refine wpS_pure ⟨rfl,F++[y],z :: T,rfl,e2,e3,e4,fun y' z' F' T' h1 h2 => ?_⟩
    have a1:=List.append_inj_right' h1 rfl
    cases h2
    cases a1
    exact w
   | false =>
    rw [if_neg Bool.false_ne_true]
    refine wpS_pure ⟨rfl,F++[y]++[z],T,by simp,by simp at e ⊢;omega,by rw [← e2];simp,by simp,sI (R:=lE r) (fun p q=>C.tr p q) e4 w⟩
 ·obtain⟨rfl,D',R',rfl,e2,e3,e4,e5⟩:=h
  exact q D' R' e2 e3 e4 e5
theorem Bl (C:Cmp M A E s kd S r)(hk:kindOf st=kd){P D R:List Keyed}(SD:∀ x∈D++R,S x){xs:Array Keyed}(hx:xs.toList=P++(D++R))(h1:0 < D.length)(sD:D.Pairwise (lG r)){nrem n:Nat}(hn:nrem=D.length + R.length)(hd:n=D.length){Q:YL→SortSt→Prop}{f:(Option (YL) × Nat)→SM (YL)}(hf:∀ n st,Q (some n) st→wpS M A E s (f (none,n)) Q st)
  (q:∀ ys D' R',ys.toList=P++(D'++R')→(D'++R').Perm (D++R)→0 < D'.length→D'.Pairwise (lE r)→Q (some D'.length) (setArr st ys)) :
  wpS M A E s (reverseSlice' P.length (P.length + n) >>= fun _=>forIn [n:nrem] ((none,n):Option (YL) × Nat) (fun _ c=>zq P.length c.2) >>= f) Q (setArr st xs):=by
 subst hd
 refine wpS_bind (sH hx rfl rfl fun ys hy => ?_)
 have hl:D.reverse.length=D.length:=List.length_reverse
 rw [← hl]
 refine Bk C hk (fun x hx=>SD x ?_) hy (by rw [hl];exact h1) (List.pairwise_reverse.mpr sD) (by rw [hl];exact hn) fun D' R' e1 e2 e3 _=>hf _ _ (q ys D' R' (by rw [hy,e1]) (by rw [e1];exact (List.reverse_perm D).append_right _) e2 e3)
 rcases YS hx with h|h
 ·exact List.mem_append_left _ (List.mem_reverse.mp h)
 ·exact List.mem_append_right _ h
structure DI (r:Keyed→Keyed→Bool) (P W:List Keyed) (ys:Array Keyed) (n q:Nat) (D1 D2 R:List Keyed):Prop where
 hy:ys.toList=P++(D1++D2++R)
 hn:n=D1.length + D2.length
 hq:D2.length=q + 1
 so:(D1++D2).Pairwise (lG r)
 eq:∀ x∈D2,∀ y∈D2,r x y=false
 pm:(D1++D2++R).Perm W
theorem DI.rev {P W:List Keyed}{ys zs:Array Keyed}{n q:Nat}{D1 D2 R:List Keyed}(d:DI r P W ys n q D1 D2 R)(hz:zs.toList=P++D1++(D2.reverse++R)):DI r P W zs n q D1 D2.reverse R:=by
 have so:=List.pairwise_append.mp d.so
 refine⟨by rw [hz];simp only [ZU],by rw [List.length_reverse];exact d.hn,by rw [List.length_reverse];exact d.hq,List.pairwise_append.mpr ⟨so.1,List.Pairwise.imp_of_mem (R:=fun _ _=>True) (fun {a b} ha hb _=>d.eq a (List.mem_reverse.mp ha) b (List.mem_reverse.mp hb)) (List.pairwise_of_forall fun _ _=>trivial),fun x hx y hy=>so.2.2 x hx y (List.mem_reverse.mp hy)⟩,fun x hx y hy=>d.eq x (List.mem_reverse.mp hx) y (List.mem_reverse.mp hy),?_⟩
 exact (((List.reverse_perm D2).append_left D1).append_right R).trans d.pm
theorem DI.down (C:Cmp M A E s kd S r){P W:List Keyed}{ys:Array Keyed}{n q:Nat}{D1 D2 R:List Keyed}{h y:Keyed}(d:DI r P W ys n q D1 D2 (h :: R))(hy:y∈D2)(w:r y h=false):DI r P W ys (n + 1) 0 (D1++D2) [h] R:=by
 have so:=List.pairwise_append.mp d.so
 refine⟨by rw [d.hy];simp,by rw [d.hn];simp,rfl,List.pairwise_append.mpr ⟨d.so,List.pairwise_singleton _ _,fun x hx z hz => ?_⟩,fun x hx z hz => ?_,by simpa using d.pm⟩
 ·rw [List.mem_singleton] at hz
  subst hz
  rcases YS hx with hx|hx
  ·exact C.tr w (so.2.2 x hx y hy)
  ·exact C.tr w (d.eq x hx y hy)
 ·rw [List.mem_singleton] at hx hz;subst hx hz;exact C.refl _
theorem DI.same (C:Cmp M A E s kd S r){P W:List Keyed}{ys:Array Keyed}{n q:Nat}{D1 D2 R:List Keyed}{h y:Keyed}(d:DI r P W ys n q D1 D2 (h :: R))(hy:y∈D2)(w:r y h=false)(w2:r h y=false):DI r P W ys (n + 1) (q + 1) D1 (D2++[h]) R:=by
 have so:=List.pairwise_append.mp d.so
 have e1:∀ x∈D2,r x h=false:=fun x hx=>C.tr w (d.eq x hx y hy)
 have e2:∀ x∈D2,r h x=false:=fun x hx=>C.tr (d.eq y hy x hx) w2
 refine⟨by rw [d.hy];simp,by rw [d.hn];simp;omega,by simp [d.hq],?_,fun x hx z hz => ?_,by simpa using d.pm⟩
 ·rw [← ZU]
  refine List.pairwise_append.mpr ⟨d.so,List.pairwise_singleton _ _,fun x hx z hz => ?_⟩
  rw [List.mem_singleton] at hz
  subst hz
  rcases YS hx with hx|hx
  ·exact C.tr w (so.2.2 x hx y hy)
  ·exact e1 x hx
 ·rcases YS hx with hx|hx<;>rcases YS hz with hz|hz
  ·exact d.eq x hx z hz
  ·rw [List.mem_singleton] at hz;rw [hz];exact e1 x (by assumption)
  ·rw [List.mem_singleton] at hx;rw [hx];exact e2 z (by assumption)
  ·rw [List.mem_singleton] at hx hz;subst hx hz;exact C.refl _
theorem Bm (C:Cmp M A E s kd S r)(hk:kindOf st=kd){P D R W:List Keyed}{z:Keyed}(SW:∀ x∈W,S x){xs:Array Keyed}(hx:xs.toList=P++(D++(z :: R)))(hp:(D++(z :: R)).Perm W)(sD:(D++[z]).Pairwise (lG r)){nrem n:Nat}(hn:nrem=W.length)(hd:n=D.length){Q:YL→SortSt→Prop}{g:(Option (YL) × Nat × Nat)→SM (YL)}
  (hg:∀ ys D1 D2 R' n q,DI r P W ys n q D1 D2 R'→wpS M A E s (g (none,n,q)) Q (setArr st ys)) :
  wpS M A E s (liftM (rule "list.sort.descending-run") >>= fun _=>forIn [n + 1:nrem] ((none,n + 1,0):Option (YL) × Nat × Nat) (fun _ c=>FX P.length c.2.1 c.2.2) >>= g) Q (setArr st xs):=by
 subst hd
 have d0:DI r P W xs (D.length + 1) 0 D [z] R:=⟨by rw [hx];simp,rfl,rfl,sD,fun x hx y hy=>by rw [List.mem_singleton] at hx hy;subst hx hy;exact C.refl _,by simpa using hp⟩
 refine wpS_bind (ir (wpS_bind (wpS_mono (wpS_forRange (I:=fun i c st'=>∃ ys D1 D2 R' n q,st'=setArr st ys∧c=(none,n,q)∧i=n∧DI r P W ys n q D1 D2 R')
  (Q:=fun c st'=>∃ ys D1 D2 R' n q,st'=setArr st ys∧c=(none,n,q)∧DI r P W ys n q D1 D2 R') ?step ?fin ⟨xs,D,[z],R,D.length + 1,0,rfl,rfl,rfl,d0⟩) fun c st' h => ?_)))
 case fin =>
  rintro c st' ⟨ys,D1,D2,R',n,q,rfl,rfl,_,d⟩
  exact⟨ys,D1,D2,R',n,q,rfl,rfl,d⟩
 case step =>
  rintro i c st' _ hi ⟨ys,D1,D2,R',n,q,rfl,rfl,rfl,d⟩
  have hl:=d.pm.length_eq
  have hn2:=d.hn
  simp at hl
  have l2:0 < D2.length:=by rw [d.hq];omega
  cases R' with
  | nil=>simp at hl;omega
  | cons h T =>
   have mem:∀ w,w∈D1++D2++(h :: T)→S w:=fun w hw=>SW w (d.pm.mem_iff.mp hw)
   obtain⟨F,y,hF⟩:=kA l2
   have yD:y∈D2:=by rw [hF];simp
   have ez:ys[P.length + i]? = some h:=by
    have:=nQ (P:=P) (D:=D1++D2) d.hy
    rw [ZB,← hn2] at this
    exact this
   have ey:ys[P.length + i - 1]? = some y:=by
    have:=wC (P:=P) (F:=D1++F) (y:=y) (R:=h :: T) (xs:=ys) (by rw [d.hy,hF];simp)
    rw [← this]
    congr 1
    rw [hn2,hF];simp;omega
   show wpS M A E s (FX P.length i q) _ _
   unfold FX
   refine wpS_bind (uL C hk ez ey (mem h (by simp)) (mem y (by simp [yD])) ?_)
   dsimp only
   cases w:r h y with
   | true =>
    rw [if_pos rfl]
    refine dk (fun _ => ?_) fun _ => ?_
    ·refine wpS_bind (sH (P:=P++D1) (B:=D2) (R:=h :: T) (by rw [d.hy];simp only [ZU]) (by rw [ZB,hn2,d.hq];omega) (by rw [ZB,hn2];omega) fun zs hz=>wpS_pure ?_)
     exact⟨zs,D1++D2.reverse,[h],T,i + 1,0,rfl,rfl,rfl,(d.rev hz).down C (List.mem_reverse.mpr yD) (C.asym w)⟩
    ·exact wpS_pure ⟨ys,D1++D2,[h],T,i + 1,0,rfl,rfl,rfl,d.down C yD (C.asym w)⟩
   | false =>
    rw [if_neg Bool.false_ne_true]
    refine wpS_bind (uL C hk ey ez (mem y (by simp [yD])) (mem h (by simp)) ?_)
    dsimp only
    cases w2:r y h with
    | true=>rw [if_pos rfl];exact wpS_pure ⟨ys,D1,D2,h :: T,i,q,rfl,rfl,d⟩
    | false=>rw [if_neg Bool.false_ne_true];exact wpS_pure ⟨ys,D1,D2++[h],T,i + 1,q + 1,rfl,rfl,rfl,d.same C yD w2 w⟩
 ·obtain⟨ys,D1,D2,R',n,q',rfl,rfl,d⟩:=h
  exact hg ys D1 D2 R' n q' d
theorem Bn (C:Cmp M A E s kd S r)(hk:kindOf st=kd){P W:List Keyed}(SW:∀ x∈W,S x){nrem:Nat}(hn:nrem=W.length){Q:YL→SortSt→Prop}{ys:Array Keyed}{D1 D2 R':List Keyed}{n q':Nat}(d:DI r P W ys n q' D1 D2 R'){f:(Option (YL) × Nat)→SM (YL)}(hf:∀ n st,Q (some n) st→wpS M A E s (f (none,n)) Q st)
  (q:∀ ys D' R',ys.toList=P++(D'++R')→(D'++R').Perm W→0 < D'.length→D'.Pairwise (lE r)→Q (some D'.length) (setArr st ys)) :
  wpS M A E s (if q' > 0 then (reverseSlice' (P.length + n - (q' + 1)) (P.length + n) >>= fun _=>reverseSlice' P.length (P.length + n) >>= fun _=>forIn [n:nrem] ((none,n):Option (YL) × Nat) (fun _ c=>zq P.length c.2) >>= f)
   else (reverseSlice' P.length (P.length + n) >>= fun _=>forIn [n:nrem] ((none,n):Option (YL) × Nat) (fun _ c=>zq P.length c.2) >>= f)) Q (setArr st ys):=by
 have hl:=d.pm.length_eq
 have l2:0 < D2.length:=by rw [d.hq];omega
 have hn2:=d.hn
 have mem:∀ w,w∈D1++D2++R'→S w:=fun w hw=>SW w (d.pm.mem_iff.mp hw)
 refine dk (fun _ => ?_) fun _ => ?_
 ·refine wpS_bind (sH (P:=P++D1) (B:=D2) (R:=R') (by rw [d.hy];simp only [ZU]) (by rw [ZB,hn2,d.hq];omega) (by rw [ZB,hn2];omega) fun zs hz => ?_)
  have d2:=d.rev hz
  exact Bl C hk (fun x hx=>SW x (d2.pm.mem_iff.mp hx)) d2.hy (by simp;omega) d2.so (by rw [hn,← d2.pm.length_eq];simp;omega) (by rw [d2.hn];simp) hf fun ys D' R' e1 e2 e3 e4=>q ys D' R' e1 (e2.trans d2.pm) e3 e4
 ·exact Bl C hk mem d.hy (by simp;omega) d.so (by rw [hn,← d.pm.length_eq];simp;omega) (by rw [hn2];simp) hf fun ys D' R' e1 e2 e3 e4=>q ys D' R' e1 (e2.trans d.pm) e3 e4
theorem HN (C:Cmp M A E s kd S r)(hk:kindOf st=kd){P W:List Keyed}(SW:∀ x∈W,S x){xs:Array Keyed}(hx:xs.toList=P++W)(h1:0 < W.length){Q:YL→SortSt→Prop}
  (q:∀ ys D' R',ys.toList=P++(D'++R')→(D'++R').Perm W→0 < D'.length→D'.Pairwise (lE r)→Q (some D'.length) (setArr st ys)):wpS M A E s (countRun' P.length W.length) Q (setArr st xs):=by
 obtain⟨w0,W',rfl⟩ : ∃ w0 W',W=w0 :: W':=by cases W with|nil=>simp at h1|cons a b=>exact⟨a,b,rfl⟩
 rw [countRun'_eq]
 refine Bk (D:=[w0]) (R:=W') C hk SW hx (by simp) (List.pairwise_singleton _ _) (by simp;omega) (f:=_) fun D' R' e1 e2 e3 e4 => ?_
 dsimp only
 have hx':xs.toList=P++(D'++R'):=by rw [hx,e1];rfl
 have pm:(D'++R').Perm (w0 :: W'):=by rw [e1];exact List.Perm.refl _
 have hl:=congrArg List.length e1
 simp at hl
 refine dk (fun c=>wpS_pure (q xs D' R' hx' pm e2 e3)) fun c => ?_
 cases R' with
 | nil=>simp at c hl;omega
 | cons z T =>
  obtain⟨F,y,hF⟩:=kA e2
  have w:=e4 y z F T hF rfl
  have mem:∀ v,v∈D'++(z :: T)→S v:=fun v hv=>SW v (pm.mem_iff.mp hv)
  have ey:xs[P.length + D'.length - 1]? = some y:=by
   have:=wC (P:=P) (F:=F) (y:=y) (R:=z :: T) (xs:=xs) (by rw [hx',hF])
   rw [← this,hF];simp
  refine dk (fun c2 => ?_) fun c2 => ?_
  ·obtain⟨x0,D2,hD⟩ : ∃ x0 D2,D'=x0 :: D2:=by cases D' with|nil=>simp at e2|cons a b=>exact⟨a,b,rfl⟩
   have ex:xs[P.length]? = some x0:=by
    have:=nQ (P:=P) (D:=[]) (x:=x0) (R:=D2++(z :: T)) (xs:=xs) (by rw [hx',hD];rfl)
    simpa using this
   refine wpS_bind (uL C hk ex ey (mem x0 (by rw [hD];simp)) (mem y (by rw [hF];simp)) ?_)
   dsimp only
   cases w2:r x0 y with
   | true=>rw [if_pos rfl];exact wpS_pure (q xs D' (z :: T) hx' pm e2 e3)
   | false =>
    rw [if_neg Bool.false_ne_true]
    refine wpS_bind (sH hx' rfl rfl fun ys hy => ?_)
    have wz:r z x0=true:=by
     cases h:r z x0 with
     | true=>rfl
     | false=>rw [C.tr w2 h] at w;cases w
    refine Bm (D:=D'.reverse) C hk SW hy (((List.reverse_perm D').append_right _).trans pm) ?_ rfl (by simp) fun ys D1 D2 R' n q' d=>Bn C hk SW rfl d (fun n st h=>wpS_pure h) q
    rw [hD,List.reverse_cons]
    refine sI (R:=lG r) (fun p q=>C.tr q p) ?_ (C.asym wz)
    rw [← List.reverse_cons,← hD]
    exact List.pairwise_reverse.mpr e3
  ·have d1:D'=[y]:=by
    have:D'.length=1:=by omega
    rw [hF] at this ⊢
    have:F=[]:=by simpa using this
    rw [this];rfl
   refine Bm (D:=D') C hk SW hx' pm ?_ rfl rfl fun ys D1 D2 R' n q' d=>Bn C hk SW rfl d (fun n st h=>wpS_pure h) q
   rw [d1]
   exact sI (R:=lG r) (D:=[]) (fun p q=>C.tr q p) (List.pairwise_singleton _ _) (C.asym w)
end
end Ts
namespace Ts
open PySem PyProof.Rows
section
variable {M:Model} {A:Around} {E:ZY} {s:Shared} {kd:SortKind} {S:Keyed→Prop} {r:Keyed→Keyed→Bool} {st:SortSt}
theorem FY {α : Type}{xs:Array α}{P B R:List α}{x : α}(h:xs.toList=P++(B++(x :: R))){i d:Nat}(hi:i=P.length + B.length)(hd:d=B.length):(bubble xs i d).toList=P++(x :: (B++R)):=by
 have sz:xs.size=P.length + (B.length + (R.length + 1)):=by rw [← Array.length_toList,h];simp
 subst hi hd
 apply List.ext_getElem?
 intro k
 rw [Array.getElem?_toList,getElem?_bubble (by omega) _ (by omega),show P.length + B.length - B.length=P.length by omega]
 by_cases c:k=P.length
 ·rw [if_pos c,← Array.getElem?_toList,h,c,ZD (by omega),ZD (by omega),ZD (by omega)]
  simp
 ·rw [if_neg c]
  by_cases c2:P.length < k∧k≤P.length + B.length
  ·rw [if_pos c2,← Array.getElem?_toList,h,ZD (by omega),ZC (by omega),ZD (by omega)]
   obtain⟨m,hm⟩ : ∃ m,k=P.length + (m + 1):=⟨k - P.length - 1,by omega⟩
   subst hm
   rw [show P.length + (m + 1) - P.length=m + 1 by omega,List.getElem?_cons_succ,ZC (by omega)]
   congr 1;omega
  ·rw [if_neg c2,← Array.getElem?_toList,h]
   by_cases c3:k < P.length
   ·rw [ZC c3,ZC c3]
   ·obtain⟨m,hm⟩ : ∃ m,k=P.length + (B.length + (m + 1)):=⟨k - P.length - B.length - 1,by omega⟩
    subst hm
    rw [ZD (by omega),ZD (by omega),ZD (by omega)]
    rw [show P.length + (B.length + (m + 1)) - P.length - B.length=m + 1 by omega,List.getElem?_cons_succ,show P.length + (B.length + (m + 1)) - P.length=(B.length + m) + 1 by omega,List.getElem?_cons_succ,ZD (by omega)]
    congr 1;omega
def HP (lo k l u:Nat):SM (ForInStep (Option Bool × Nat × Nat)):=do
 let some e ← ltAt' (lo + k) (lo + (l + u) / 2)|pure (.done (some false,l,u))
 if e then pure (.yield (none,l,(l + u) / 2)) else pure (.yield (none,(l + u) / 2 + 1,u))
theorem HQ (C:Cmp M A E s kd S r)(hk:kindOf st=kd){P W:List Keyed}(SW:∀ x∈W,S x){xs:Array Keyed}{D R:List Keyed}(hx:xs.toList=P++(D++R))(pm:(D++R).Perm W)(h1:0 < D.length)(sD:D.Pairwise (lE r)){n:Nat}(hn:D.length≤n)(hn2:n≤W.length){Q:Bool→SortSt→Prop}
  (q:∀ ys D' R',ys.toList=P++(D'++R')→(D'++R').Perm W→D'.length=n→D'.Pairwise (lE r)→Q true (setArr st ys)):wpS M A E s (binarySort' P.length n D.length) Q (setArr st xs):=by
 rw [binarySort'_eq]
 refine wpS_bind (wpS_mono (wpS_forRange (I:=fun k c st'=>∃ ys D' R',st'=setArr st ys∧c=(none,())∧ys.toList=P++(D'++R')∧(D'++R').Perm W∧D'.length=k∧D'.Pairwise (lE r))
  (Q:=fun c st'=>∃ ys D' R',st'=setArr st ys∧c=(none,())∧ys.toList=P++(D'++R')∧(D'++R').Perm W∧D'.length=n∧D'.Pairwise (lE r)) ?step ?fin ⟨xs,D,R,rfl,rfl,hx,pm,by omega,sD⟩) fun c st' h => ?_)
 case fin =>
  rintro c st' ⟨ys,D',R',rfl,rfl,e1,e2,e3,e4⟩
  exact⟨ys,D',R',rfl,rfl,e1,e2,by omega,e4⟩
 case step =>
  rintro k c st' hk1 hkn ⟨ys,D',R',rfl,rfl,e1,e2,e3,e4⟩
  have hl:=e2.length_eq
  simp at hl
  cases R' with
  | nil=>simp at hl;omega
  | cons x T =>
   have mem:∀ w,w∈D'++(x :: T)→S w:=fun w hw=>SW w (e2.mem_iff.mp hw)
   have ex:ys[P.length + k]? = some x:=by have:=nQ e1;rw [e3] at this;exact this
   refine wpS_bind (wpS_mono (wpS_forRange (I:=fun i c st'=>st'=setArr st ys ∧ ∃ l u,c=(none,l,u)∧l≤u∧u≤k∧(∀ d (hd:d < D'.length),d < l→lE r D'[d] x)∧(∀ d (hd:d < D'.length),u≤d→r x D'[d] = true)∧u - l + i≤k)
    (Q:=fun c st'=>st'=setArr st ys ∧ ∃ l,c=(none,l,l)∧l≤k∧(∀ d (hd:d < D'.length),d < l→lE r D'[d] x)∧(∀ d (hd:d < D'.length),l≤d→r x D'[d] = true)) ?s2 ?f2 ⟨rfl,0,k,rfl,Nat.zero_le _,ZL _,fun d hd h=>absurd h (Nat.not_lt_zero _),fun d hd h=>by omega,by omega⟩) fun c st' h => ?_)
   case f2 =>
    rintro c st' ⟨rfl,l,u,rfl,g1,g2,g3,g4,g5⟩
    have:l=u:=by omega
    subst this
    exact⟨rfl,l,rfl,g2,g3,g4⟩
   case s2 =>
    rintro i c st' _ _ ⟨rfl,l,u,rfl,g1,g2,g3,g4,g5⟩
    dsimp only
    by_cases cc:l ≥ u
    ·rw [if_pos cc]
     have:l=u:=by omega
     subst this
     exact wpS_pure ⟨rfl,l,rfl,g2,g3,g4⟩
    ·rw [if_neg cc]
     have hm:(l + u) / 2 < D'.length:=by omega
     have em:ys[P.length + (l + u) / 2]? = some (D'[(l + u) / 2]):=by
      rw [oG e1 _ hm];exact ZE hm
     show wpS M A E s (HP P.length k l u) _ _
     unfold HP
     refine wpS_bind (uL C hk ex em (mem x (by simp)) (mem _ (List.mem_append_left _ (XE hm))) ?_)
     dsimp only
     have mono:∀ d e (hd:d < D'.length) (he:e < D'.length),d≤e→lE r D'[d] D'[e]:=fun d e hd he hde=>by
      by_cases z:d=e
      ·subst z;exact C.refl _
      ·exact List.pairwise_iff_getElem.mp e4 d e hd he (by omega)
     cases w:r x D'[(l + u) / 2] with
     | true =>
      rw [if_pos rfl]
      refine wpS_pure ⟨rfl,l,(l + u) / 2,rfl,by omega,by omega,g3,fun d hd h => ?_,by omega⟩
      cases w2:r x D'[d] with
      | true=>rfl
      | false=>rw [C.tr (mono _ d hm hd h) w2] at w;cases w
     | false =>
      rw [if_neg Bool.false_ne_true]
      exact wpS_pure ⟨rfl,(l + u) / 2 + 1,u,rfl,by omega,g2,fun d hd h=>C.tr (mono d _ hd hm (by omega)) w,g4,by omega⟩
   ·obtain⟨rfl,l,rfl,g2,g3,g4⟩:=h
    dsimp only
    rw [moveDown'_eq]
    have lk:l≤D'.length:=by omega
    have D12:D'=D'.take l++D'.drop l:=(List.take_append_drop l D').symm
    have tl:(D'.take l).length=l:=by simp;omega
    have hb:=FY (xs:=ys) (P:=P++D'.take l) (B:=D'.drop l) (x:=x) (R:=T) (i:=P.length + k) (d:=P.length + k - (P.length + l)) (by
     rw [e1];conv=>lhs;rw [D12]
     simp only [ZU]) (by simp;omega) (by simp;omega)
    have so:=e4
    rw [D12,List.pairwise_append] at so
    refine wpS_bind (wpS_modify (wpS_pure ⟨_,D'.take l++(x :: D'.drop l),T,rfl,rfl,by rw [hb];simp only [ZU,List.cons_append],?_,by simp;omega,?_⟩))
    ·refine List.Perm.trans ?_ e2
     conv=>rhs;rw [D12]
     simp only [ZU,List.cons_append]
     exact List.Perm.append_left _ List.perm_middle.symm
    ·rw [List.pairwise_append]
     have dm:∀ y∈D'.drop l,lE r x y:=fun y hy=>by
      obtain⟨d,hd,e⟩:=List.mem_drop_iff_getElem.mp hy
      rw [← e]
      exact C.asym (g4 (l + d) (by omega) (by omega))
     have tm:∀ y∈D'.take l,lE r y x:=fun y hy=>by
      obtain⟨d,hd,e⟩:=List.mem_take_iff_getElem.mp hy
      rw [← e]
      exact g3 d (by omega) (by omega)
     refine⟨so.1,List.pairwise_cons.mpr ⟨dm,so.2.1⟩,fun y hy z hz => ?_⟩
     rcases YQ hz with rfl|hz
     ·exact tm y hy
     ·exact so.2.2 y hy z hz
 ·obtain⟨ys,D',R',rfl,rfl,e1,e2,e3,e4⟩:=h
  exact wpS_pure (q ys D' R' e1 e2 e3 e4)
end
end Ts
namespace Ts
open PySem PyProof.Rows
section
variable {M:Model} {A:Around} {E:ZY} {s:Shared} {kd:SortKind} {S:Keyed→Prop} {r:Keyed→Keyed→Bool} {st:SortSt}
inductive Rn (r:Keyed→Keyed→Bool):Nat→List (List Keyed)→List (Nat × Nat × Nat)→Prop
 | nil (b:Nat):Rn r b [] []
 | cons {b e:Nat} {D:List Keyed} {Ds:List (List Keyed)} {ps:List (Nat × Nat × Nat)}:D≠[]→D.Pairwise (lE r)→Rn r (b + D.length) Ds ps→Rn r b (D :: Ds) ((b,D.length,e) :: ps)
theorem Rn.split {ps:List (Nat × Nat × Nat)}:∀ {i b:Nat} {Ds:List (List Keyed)} {ps:List (Nat × Nat × Nat)},Rn r b Ds ps→i < ps.length → ∃ Ds1 Ds2 ps1 ps2,Ds=Ds1++Ds2∧ps=ps1++ps2∧ps1.length=i∧Rn r (b + Ds1.flatten.length) Ds2 ps2 ∧ ∀ Ds3 ps3,Rn r (b + Ds1.flatten.length) Ds3 ps3→Rn r b (Ds1++Ds3) (ps1++ps3)
 | 0,b,Ds,ps,h,_=>⟨[],Ds,[],ps,rfl,rfl,rfl,h,fun _ _ h=>h⟩
 | i + 1,b,_,_,.nil _,hi=>by simp at hi
 | i + 1,b,_,_,.cons (D:=D) (e:=e) nD sD h,hi=>by
  obtain⟨Ds1,Ds2,ps1,ps2,e1,e2,e3,e4,e5⟩:=Rn.split (ps:=[]) (i:=i) h (by simpa using hi)
  refine⟨D :: Ds1,Ds2,(b,D.length,e) :: ps1,ps2,by rw [e1];rfl,by rw [e2];rfl,by simp [e3],?_,fun Ds3 ps3 h3=>.cons nD sD (e5 Ds3 ps3 ?_)⟩
  ·rw [List.flatten_cons,ZB,← Nat.add_assoc];exact e4
  ·rw [List.flatten_cons,ZB,← Nat.add_assoc] at h3;exact h3
theorem Rn.len {b:Nat}{Ds:List (List Keyed)}{ps:List (Nat × Nat × Nat)}(h:Rn r b Ds ps):ps.length=Ds.length∧ps.length≤Ds.flatten.length:=by
 induction h with
 | nil=>simp
 | @cons b e D Ds ps nD sD h ih =>
  have:=List.length_pos_iff.mpr nD
  simp
  simp at ih
  omega
theorem Rn.snoc {e:Nat}{D:List Keyed}(nD:D≠[])(sD:D.Pairwise (lE r)){b:Nat}{Ds:List (List Keyed)}{ps:List (Nat × Nat × Nat)}(h:Rn r b Ds ps):Rn r b (Ds++[D]) (ps++[(b + Ds.flatten.length,D.length,e)]):=by
 induction h with
 | nil b=>exact .cons nD sD (.nil _)
 | @cons b e' D' Ds ps nD' sD' h ih =>
  refine .cons nD' sD' ?_
  rw [List.flatten_cons,ZB,← Nat.add_assoc]
  exact ih
theorem Rn.mod {w:Nat}{b:Nat}{Ds:List (List Keyed)}{ps:List (Nat × Nat × Nat)}(h:Rn r b Ds ps):∀ i,Rn r b Ds (ps.modify i fun q=>(q.1,q.2.1,w)):=by
 induction h with
 | nil b=>intro i;cases i<;>exact .nil _
 | @cons b e' D' Ds ps nD' sD' h ih =>
  intro i
  cases i with
  | zero=>exact .cons nD' sD' h
  | succ i=>exact .cons nD' sD' (ih i)
structure SI (r:Keyed→Keyed→Bool) (a0 W:List Keyed) (xs:Array Keyed) (pd:Array (Nat × Nat × Nat)) (Ds:List (List Keyed)):Prop where
 hx:xs.toList=Ds.flatten++W
 rn:Rn r 0 Ds pd.toList
 pm:xs.toList.Perm a0
abbrev sta (kd:SortKind) (xs:Array Keyed) (pd:Array (Nat × Nat × Nat)) (g:Nat):SortSt:=SortSt.mk' kd xs pd g none
theorem Ew (C:Cmp M A E s kd S r){a0 W:List Keyed}(S0:∀ x∈a0,S x){xs:Array Keyed}{pd:Array (Nat × Nat × Nat)}{Ds:List (List Keyed)}{g i:Nat}(h:SI r a0 W xs pd Ds)(hi:i + 1 < pd.size){Q:Bool→SortSt→Prop}
  (q:∀ xs' pd' Ds' g',SI r a0 W xs' pd' Ds'→pd'.size + 1=pd.size→Ds'.flatten.length=Ds.flatten.length→Q true (sta kd xs' pd' g')):wpS M A E s (mergeAt' i) Q (sta kd xs pd g):=by
 obtain⟨Ds1,Ds2,ps1,ps2,e1,e2,e3,e4,e5⟩:=Rn.split (ps:=[]) (i:=i) h.rn (by simp;omega)
 rw [Nat.zero_add] at e4 e5
 have hl:pd.size=ps1.length + ps2.length:=by rw [← Array.length_toList,e2,ZB]
 cases e4 with
 | nil=>simp at hl;omega
 | @cons _ e X Ds3 ps3 nX sX h3 =>
  cases h3 with
  | nil=>simp at hl;omega
  | @cons _ e' Y Ds4 ps4 nY sY h4 =>
   have hxs:xs.toList=Ds1.flatten++(X++(Y++(Ds4.flatten++W))):=by rw [h.hx,e1];simp
   have mem:∀ x∈xs.toList,S x:=fun x hx=>S0 x (h.pm.mem_iff.mp hx)
   have p1:pd[i]? = some (Ds1.flatten.length,X.length,e):=by
    rw [← Array.getElem?_toList,e2,ZD (by omega),e3];simp
   have p2:pd[i + 1]? = some (Ds1.flatten.length + X.length,Y.length,e'):=by
    rw [← Array.getElem?_toList,e2,ZD (by omega),e3];simp
   refine FV (st:=sta kd xs pd g) C rfl rfl hxs p1 p2 (fun y hy=>mem y (by rw [hxs];simp [hy])) (fun y hy=>mem y (by rw [hxs];simp [hy])) sX sY nX nY fun Z gg ys z1 z2 z3 => ?_
   have zl:Z.length=X.length + Y.length:=by rw [z1.length_eq,ZB]
   have pl:((pd.setIfInBounds i (Ds1.flatten.length,X.length + Y.length,e)).eraseIdxIfInBounds (i + 1)).toList=ps1++(Ds1.flatten.length,Z.length,e) :: ps4:=by
    rw [Array.toList_eraseIdxIfInBounds,Array.toList_setIfInBounds,e2,← e3,zl]
    simp [List.set_append,List.eraseIdx_append]
    intro z;omega
   refine q ys _ (Ds1++Z :: Ds4) gg ⟨by rw [z3];simp,?_,?_⟩ ?_ ?_
   ·show Rn r 0 _ (Array.toList _)
    rw [pl]
    refine e5 (Z :: Ds4) _ (.cons ?_ z2 ?_)
    ·intro z;rw [z] at zl;have:=List.length_pos_iff.mpr nX;simp at zl;omega
    ·rw [zl,← Nat.add_assoc];exact h4
   ·refine List.Perm.trans ?_ h.pm
    rw [z3,hxs]
    refine List.Perm.append_left _ ?_
    have:=z1.append_right (Ds4.flatten++W)
    simpa only [ZU] using this
   ·have:=congrArg List.length pl
    rw [Array.length_toList] at this
    show (Array.size _) + 1=_
    rw [this,hl];simp;omega
   ·rw [e1];simp [zl];omega
def mB (pw:Nat):SM (ForInStep (Option Unit × Unit)):=do
 let st ← get
 let some (_,_,older):=(if (pendingOf st).size > 1 then (pendingOf st)[(pendingOf st).size - 2]? else none)|pure (.done (none,()))
 if older≤pw then pure (.done (none,()))
 else do
  let b ← mergeAt' ((pendingOf st).size - 2)
  if !b then pure (.done (some (),())) else pure (.yield (none,()))
theorem Bo (C:Cmp M A E s kd S r){a0 W:List Keyed}(S0:∀ x∈a0,S x){xs:Array Keyed}{pd:Array (Nat × Nat × Nat)}{Ds:List (List Keyed)}{g:Nat}(h:SI r a0 W xs pd Ds){size pw:Nat}{β : Type}{K:(Option Unit × Unit)→SM β}{Q : β → SortSt→Prop}
  (q:∀ xs' pd' Ds' g',SI r a0 W xs' pd' Ds'→Ds'.flatten.length=Ds.flatten.length→wpS M A E s (K (none,())) Q (sta kd xs' pd' g')):wpS M A E s (forIn [:size] ((none,()):Option Unit × Unit) (fun _ _=>mB pw) >>= K) Q (sta kd xs pd g):=by
 refine wpS_bind (wpS_mono (wpS_forRange (I:=fun _ c st'=>∃ xs' pd' Ds' g',st'=sta kd xs' pd' g'∧c=(none,())∧SI r a0 W xs' pd' Ds'∧Ds'.flatten.length=Ds.flatten.length)
  (Q:=fun c st'=>∃ xs' pd' Ds' g',st'=sta kd xs' pd' g'∧c=(none,())∧SI r a0 W xs' pd' Ds'∧Ds'.flatten.length=Ds.flatten.length) ?step ?fin ⟨xs,pd,Ds,g,rfl,rfl,h,rfl⟩) fun c st' h => ?_)
 case fin=>exact fun c st' h=>h
 case step =>
  rintro i c st' _ _ ⟨xs',pd',Ds',g',rfl,rfl,si,hl⟩
  unfold mB
  refine wpS_bind (wpS_get ?_)
  by_cases c:pd'.size > 1
  ·have e:(if (pendingOf (sta kd xs' pd' g')).size > 1 then (pendingOf (sta kd xs' pd' g'))[(pendingOf (sta kd xs' pd' g')).size - 2]? else none)=some (pd'[pd'.size - 2]'(by omega)):=by
    rw [if_pos c];exact Array.getElem?_eq_getElem (show pd'.size - 2 < pd'.size by omega)
   rw [e]
   refine dk (fun _=>wpS_pure ⟨xs',pd',Ds',g',rfl,rfl,si,hl⟩) fun _ => ?_
   refine wpS_bind (Ew (i:=pd'.size - 2) C S0 si (by omega) fun xs2 pd2 Ds2 g2 si2 _ hl2 => ?_)
   exact wpS_pure ⟨xs2,pd2,Ds2,g2,rfl,rfl,si2,hl2.trans hl⟩
  ·have e:(if (pendingOf (sta kd xs' pd' g')).size > 1 then (pendingOf (sta kd xs' pd' g'))[(pendingOf (sta kd xs' pd' g')).size - 2]? else none)=none:=if_neg c
   rw [e]
   exact wpS_pure ⟨xs',pd',Ds',g',rfl,rfl,si,hl⟩
 ·obtain⟨xs',pd',Ds',g',rfl,rfl,si,hl⟩:=h
  exact q xs' pd' Ds' g' si hl
theorem ym (C:Cmp M A E s kd S r){a0:Array Keyed}(S0:∀ x∈a0.toList,S x)(h1:0 < a0.size){g0:Nat}{Q:Unit→SortSt→Prop}
  (q:∀ xs pd g,xs.toList.Perm a0.toList→xs.toList.Pairwise (lE r)→Q () (sta kd xs pd g)):wpS M A E s sortRuns' Q (sta kd a0 #[] g0):=by
 obtain⟨a0l,ha0⟩ : ∃ l,l=a0.toList:=⟨_,rfl⟩
 rw [sortRuns'_eq]
 refine wpS_bind (wpS_get ?_)
 have hsz:a0.size=a0l.length:=by rw [ha0];simp
 have si0:SI r a0l a0l a0 #[] []:=⟨by rw [ha0];rfl,.nil 0,by rw [ha0]⟩
 rw [← ha0] at S0
 show wpS M A E s (forIn [:a0.size] ((none,0):Option Unit × Nat) _ >>= _) _ _
 refine wpS_bind (wpS_mono (wpS_forRange (I:=fun i c st'=>∃ xs pd Ds W g,st'=sta kd xs pd g∧c=(none,Ds.flatten.length)∧SI r a0l W xs pd Ds∧i≤Ds.flatten.length)
  (Q:=fun c st'=>∃ xs pd Ds g,st'=sta kd xs pd g∧c=(none,Ds.flatten.length)∧SI r a0l [] xs pd Ds) ?step ?fin ⟨a0,#[],[],a0l,g0,rfl,rfl,si0,Nat.zero_le _⟩) fun c st' h => ?_)
 case fin =>
  rintro c st' ⟨xs,pd,Ds,W,g,rfl,rfl,si,hli⟩
  have tot:=si.pm.length_eq
  rw [si.hx,ZB] at tot
  have:W=[]:=List.length_eq_zero_iff.mp (by omega)
  subst this
  exact⟨xs,pd,Ds,g,rfl,rfl,si⟩
 case step =>
  rintro i c st' _ hi ⟨xs,pd,Ds,W,g,rfl,rfl,si,hli⟩
  have tot:=si.pm.length_eq
  rw [si.hx,ZB] at tot
  refine dk (fun c=>wpS_pure ?_) fun c => ?_
  ·have c:Ds.flatten.length ≥ a0.size:=c
   have:W=[]:=List.length_eq_zero_iff.mp (by omega)
   subst this
   exact⟨xs,pd,Ds,g,rfl,rfl,si⟩
  ·have c : ¬ Ds.flatten.length ≥ a0.size:=c
   have e:a0.size - Ds.flatten.length=W.length:=by omega
   have SW:∀ x∈W,S x:=fun x hx=>S0 x (si.pm.mem_iff.mp (by rw [si.hx];exact List.mem_append_right _ hx))
   show wpS M A E s (countRun' Ds.flatten.length (a0.size - Ds.flatten.length) >>= _) _ _
   rw [e]
   refine wpS_bind (HN (st:=sta kd xs pd g) C rfl SW si.hx (by omega) fun ys D R hy pmD l0 sD => ?_)
   dsimp only
   have dl:=pmD.length_eq
   rw [ZB] at dl
   have pY:∀ {zs:Array Keyed} {D2 R2:List Keyed},zs.toList=Ds.flatten++(D2++R2)→(D2++R2).Perm W→zs.toList.Perm xs.toList:=fun {zs D2 R2} h1 h2=>by rw [h1,si.hx];exact h2.append_left _
   refine dk (fun c2 => ?_) fun c2 => ?_
   ·obtain⟨NN,hNN0⟩ : ∃ NN,NN=min W.length (minRun' (arrOf (sta kd a0 #[] g0)).size (arrOf (sta kd a0 #[] g0)).size 0):=⟨_,rfl⟩
    refine wpS_bind (ir ?_)
    rw [← hNN0]
    refine wpS_bind (HQ (st:=sta kd xs pd g) C rfl SW hy pmD l0 sD (n:=NN) (by omega) (by omega) fun YY DD RR hYY pm3 hl3' hDs => ?_)
    have hNN:NN=DD.length:=hl3'.symm
    have hDn:DD≠[]:=fun z=>by rw [z] at hl3';simp at hl3';omega
    have hpm2:=pY hYY pm3
    refine dk (fun z=>by simp at z) fun _ => ?_
    have si2:SI r a0l (DD++RR) YY pd Ds:=⟨hYY,si.rn,hpm2.trans si.pm⟩
    have lD:=List.length_pos_iff.mpr hDn
    refine wpS_bind (wpS_get ?_)
    cases hb:pd.back? with
    | none =>
     dsimp only
     refine wpS_bind (wpS_modify (wpS_pure ⟨YY,pd.push (Ds.flatten.length,NN,0),Ds++[DD],RR,g,rfl,by rw [hNN];simp,⟨by rw [hYY];simp,?_,si2.pm⟩,by simp;simp at hli;omega⟩))
     have:=si.rn.snoc (e:=0) (D:=DD) hDn hDs
     rw [Nat.zero_add] at this
     rw [Array.toList_push,hNN]
     exact this
    | some z =>
     obtain⟨s1,n1,w1⟩:=z
     dsimp only
     refine Bo C S0 si2 fun xs' pd' Ds' g' si3 hl3 => ?_
     refine wpS_bind (wpS_modify (wpS_bind (wpS_modify (wpS_pure ⟨xs',(pd'.modify (pd'.size - 1) fun q=>(q.1,q.2.1,power' a0.size (2 * s1 + n1) (2 * s1 + n1 + n1 + NN) a0.size)).push (Ds.flatten.length,NN,0),Ds'++[DD],RR,g',rfl,by rw [hNN,List.flatten_append,ZB,hl3];simp,⟨by rw [si3.hx];simp,?_,si3.pm⟩,by rw [List.flatten_append,ZB,hl3];simp;simp at hli;omega⟩))))
     have:=(si3.rn.mod (w:=power' a0.size (2 * s1 + n1) (2 * s1 + n1 + n1 + NN) a0.size) (pd'.size - 1)).snoc (e:=0) (D:=DD) hDn hDs
     rw [Nat.zero_add,hl3,← hNN] at this
     rw [Array.toList_push,Array.toList_modify]
     exact this
   ·obtain⟨YY,hYe⟩ : ∃ z,z=ys:=⟨_,rfl⟩
    obtain⟨DD,hDe⟩ : ∃ z,z=D:=⟨_,rfl⟩
    obtain⟨RR,hRe⟩ : ∃ z,z=R:=⟨_,rfl⟩
    subst hYe hDe hRe
    have hYY:=hy
    have hDs:=sD
    have hDn:DD≠[]:=List.ne_nil_of_length_pos l0
    have hpm2:=pY hy pmD
    obtain⟨NN,hNN⟩ : ∃ z,z=DD.length:=⟨_,rfl⟩
    show wpS M A E s (get >>= _) _ _
    rw [← hNN]
    have si2:SI r a0l (DD++RR) YY pd Ds:=⟨hYY,si.rn,hpm2.trans si.pm⟩
    have lD:=List.length_pos_iff.mpr hDn
    refine wpS_bind (wpS_get ?_)
    cases hb:pd.back? with
    | none =>
     dsimp only
     refine wpS_bind (wpS_modify (wpS_pure ⟨YY,pd.push (Ds.flatten.length,NN,0),Ds++[DD],RR,g,rfl,by rw [hNN];simp,⟨by rw [hYY];simp,?_,si2.pm⟩,by simp;simp at hli;omega⟩))
     have:=si.rn.snoc (e:=0) (D:=DD) hDn hDs
     rw [Nat.zero_add] at this
     rw [Array.toList_push,hNN]
     exact this
    | some z =>
     obtain⟨s1,n1,w1⟩:=z
     dsimp only
     refine Bo C S0 si2 fun xs' pd' Ds' g' si3 hl3 => ?_
     refine wpS_bind (wpS_modify (wpS_bind (wpS_modify (wpS_pure ⟨xs',(pd'.modify (pd'.size - 1) fun q=>(q.1,q.2.1,power' a0.size (2 * s1 + n1) (2 * s1 + n1 + n1 + NN) a0.size)).push (Ds.flatten.length,NN,0),Ds'++[DD],RR,g',rfl,by rw [hNN,List.flatten_append,ZB,hl3];simp,⟨by rw [si3.hx];simp,?_,si3.pm⟩,by rw [List.flatten_append,ZB,hl3];simp;simp at hli;omega⟩))))
     have:=(si3.rn.mod (w:=power' a0.size (2 * s1 + n1) (2 * s1 + n1 + n1 + NN) a0.size) (pd'.size - 1)).snoc (e:=0) (D:=DD) hDn hDs
     rw [Nat.zero_add,hl3,← hNN] at this
     rw [Array.toList_push,Array.toList_modify]
     exact this
 ·obtain⟨xs,pd,Ds,g,rfl,rfl,si⟩:=h
  have tot:=si.pm.length_eq
  have dl:=si.hx
  rw [List.append_nil] at dl
  rw [dl] at tot
  have rl:=si.rn.len
  rw [Array.length_toList] at rl
  refine wpS_bind (wpS_mono (wpS_forRange (I:=fun i c st'=>∃ xs pd Ds g,st'=sta kd xs pd g∧c=(none,())∧SI r a0l [] xs pd Ds∧pd.size + i≤a0.size)
   (Q:=fun c st'=>∃ xs pd Ds g,st'=sta kd xs pd g∧c=(none,())∧SI r a0l [] xs pd Ds∧pd.size≤1) ?step2 ?fin2 ⟨xs,pd,Ds,g,rfl,rfl,si,by omega⟩) fun c st' h => ?_)
  case fin2 =>
   rintro c st' ⟨xs,pd,Ds,g,rfl,rfl,si,h⟩
   refine⟨xs,pd,Ds,g,rfl,rfl,si,?_⟩
   have h:pd.size + max 0 a0.size≤a0.size:=h
   omega
  case step2 =>
   rintro i c st' _ hi ⟨xs,pd,Ds,g,rfl,rfl,si,h⟩
   refine wpS_bind (wpS_get (dk (fun c=>wpS_pure ⟨xs,pd,Ds,g,rfl,rfl,si,c⟩) fun c => ?_))
   have c : ¬ pd.size≤1:=c
   refine wpS_bind (Ew C S0 si ?_ fun xs2 pd2 Ds2 g2 si2 hp _ => ?_)
   ·have hh:∀ (p:Prop) [Decidable p],(if p then pd.size - 2 - 1 else pd.size - 2) + 1 < pd.size:=fun p _=>by split<;>omega
    exact hh _
   ·exact wpS_pure ⟨xs2,pd2,Ds2,g2,rfl,rfl,si2,by omega⟩
  ·obtain⟨xs,pd,Ds,g,rfl,rfl,si,h⟩:=h
   refine wpS_pure (q xs pd g (by rw [← ha0];exact si.pm) ?_)
   have dl:=si.hx
   rw [List.append_nil] at dl
   have tot:=si.pm.length_eq
   have rn:=si.rn
   obtain⟨ps,hps⟩ : ∃ ps,ps=pd.toList:=⟨_,rfl⟩
   have pl:ps.length=pd.size:=by rw [hps];simp
   rw [← hps] at rn
   rw [dl] at tot ⊢
   cases rn with
   | nil=>simp at tot;omega
   | @cons _ e D Ds' ps nD sD h3 =>
    cases h3 with
    | nil=>simpa using sD
    | cons _ _ _=>simp at pl;omega
end
end Ts
namespace Fm
open PySem PySem.Spec L2 PySem.W PyProof.Rows
open Ts (Cmp ym sta lE)
section
variable {prog:Program} {w:World} {A:Around} {E:ZY} {s:Shared} {kd:SortKind} {S:Keyed→Prop} {r:Keyed→Keyed→Bool}
theorem oH {vs:YG}{x:Keyed}(h:x∈(pairsOf vs).toList):x.1=x.2∧x.1∈vs:=by
 rw [pairsOf_toList] at h
 exact mem_zip_self h
theorem oJ {a:Addr} {vs:YG} {n:Nat} {P:PySem.Fin→Shared→Prop} (ho:s.heap.get? a=some (seqObj "list" vs.toArray n)) (hz:vs.length≤100000)
  (K:∀ G:Heap,(∀ b u,b≠a→s.heap.get? b=some u→G.get? b=some u)→(∀ Q:SortKind→Shared→Prop,Q kd { s with heap:=G } → wpAny (model prog w) A (keyKind' vs.toArray) Q E { s with heap:=G })∧Cmp (model prog w) A E { s with heap:=G } kd S r)
  (SS:∀ x∈(pairsOf vs).toList,S x) (h2:2≤vs.length)
  (h:∀ out:YG,out.Perm vs→out.Pairwise (fun x y=>r (y,y) (x,x)=false)→P (.done (.ret .none)) { s with heap:=sortedHeap s.heap a vs out.toArray }) :
  wpAny (model prog w) A (Builtin.«list.sort» ⟨[.ref a],[]⟩) P E s:=by
 rw [list_sort_plain]
 have ha:a < s.heap.objs.size:=ZI ho
 refine YW (listItems_at ho rfl (YW (listUpdate_at ho rfl ?_)))
 obtain⟨e1,ho1⟩ : ∃ e1,(s.heap.update a (Obj.mapSeq fun _ => #[])).get? a=some (seqObj "list" #[] e1):=⟨_,get?_update_seq ho (fun _ => #[])⟩
 refine YW (seqEpoch_at ho1 rfl (YW (wpAny_newTuple ?_ (by rw [sizeLine_eq];simp;omega))))
 refine YW (wpAny_newList ?_)
 refine wpAny_holding ?_
 have n1:a≠(s.heap.update a (Obj.mapSeq fun _ => #[])).objs.size:=by rw [Heap.size_update];exact ZN ha
 have n2:a≠((s.heap.update a (Obj.mapSeq fun _ => #[])).push (seqObj "tuple" vs.toArray 0)).objs.size:=by rw [size_push',Heap.size_update];exact ZN (Nat.lt_succ_of_lt ha)
 have ho6:(((s.heap.update a (Obj.mapSeq fun _ => #[])).push (seqObj "tuple" vs.toArray 0)).push (seqObj "list" #[] 0)).get? a=some (seqObj "list" #[] e1):=by
  rw [Heap.get?_push_ne _ _ _ n2,Heap.get?_push_ne _ _ _ n1];exact ho1
 show wpAny (model prog w) A _ P E { s with heap:=((s.heap.update a (Obj.mapSeq fun _ => #[])).push (seqObj "tuple" vs.toArray 0)).push (seqObj "list" #[] 0) }
 dsimp only
 have hsz:vs.toArray.size=vs.length:=by simp
 obtain⟨kn,C⟩:=K (((s.heap.update a (Obj.mapSeq fun _ => #[])).push (seqObj "tuple" vs.toArray 0)).push (seqObj "list" #[] 0)) fun b u nb e=>ZH _ (ZH _ ((Heap.get?_update_ne _ _ _ _ nb).trans e))
 have c2 : ¬ vs.toArray.size < 2:=by rw [hsz];omega
 rw [if_neg c2,if_neg c2]
 refine YW (kn _ ?_)
 refine YW (wpAny_mono (ym C (a0:=pairsOf vs) (g0:=7) (Q:=fun _ st'=>∃ xs pd g,st'=sta kd xs pd g∧xs.toList.Perm (pairsOf vs).toList∧xs.toList.Pairwise (lE r)) SS (by rw [pairsOf_size];omega) fun xs pd g z1 z2=>⟨xs,pd,g,rfl,z1,z2⟩) ?_ fun _ _ e=>e)
 rintro⟨⟨⟩,st'⟩ s' ⟨rfl,xs,pd,g,rfl,z1,z2⟩
 dsimp only
 have ol:(xs.map (·.2)).toList=xs.toList.map (·.2):=Array.toList_map
 have osz:(xs.map (·.2)).size=vs.length:=by
  rw [Array.size_map,← Array.length_toList,z1.length_eq,Array.length_toList,pairsOf_size]
 refine YW (seqEpoch_at ho6 rfl ?_)
 refine YW (listUpdate_at ho6 rfl ?_ (hsz2:=by show (xs.map (·.2)).size≤_;rw [osz,sizeLine_eq];omega))
 simp only [bne_self_eq_false,Bool.false_eq_true,if_false]
 refine YX ?_
 have e0:xs.map (·.2)=(xs.toList.map (·.2)).toArray:=by rw [← ol]
 show P _ { s with heap:=sortedHeap s.heap a vs (xs.map (·.2)) }
 rw [e0]
 refine h _ ?_ ?_
 ·have:=z1.map (·.2)
  rw [pairsOf_toList] at this
  have e3:(vs.zip vs).map (·.2)=vs:=by rw [List.map_snd_zip];exact ZL _
  rw [e3] at this
  exact this
 ·rw [List.pairwise_map]
  refine List.Pairwise.imp_of_mem ?_ z2
  intro x y hx hy hxy
  have ex:=(oH (z1.mem_iff.mp hx)).1
  have ey:=(oH (z1.mem_iff.mp hy)).1
  have e4:x=(x.2,x.2):=by obtain⟨u,v⟩:=x;simp at ex ⊢;exact ex
  have e5:y=(y.2,y.2):=by obtain⟨u,v⟩:=y;simp at ey ⊢;exact ey
  rw [← e4,← e5]
  exact hxy
theorem pX {a:Addr} {vs:YG} {n:Nat} {P:PySem.Fin→Shared→Prop} (ho:s.heap.get? a=some (seqObj "list" vs.toArray n)) (hz:vs.length≤100000)
  (K:2≤vs.length → ∀ G:Heap,(∀ b u,b≠a→s.heap.get? b=some u→G.get? b=some u)→(∀ Q:SortKind→Shared→Prop,Q kd { s with heap:=G } → wpAny (model prog w) A (keyKind' vs.toArray) Q E { s with heap:=G })∧Cmp (model prog w) A E { s with heap:=G } kd S r)
  (SS:∀ x∈(pairsOf vs).toList,S x)
  (h:∀ out:YG,out.Perm vs→out.Pairwise (fun x y=>r (y,y) (x,x)=false)→P (.done (.ret .none)) { s with heap:=sortedHeap s.heap a vs out.toArray }) :
  wpAny (model prog w) A (Builtin.«list.sort» ⟨[.ref a],[]⟩) P E s:=by
 by_cases h2:vs.length < 2
 ·refine wv ho h2 (h vs (List.Perm.refl _) ?_)
  match vs,h2 with
  | [],_=>exact List.Pairwise.nil
  | [_],_=>exact List.pairwise_singleton _ _
 ·exact oJ ho hz (K (by omega)) SS (by omega) h
end
section
variable {X:Cx} {pos p:Pos}
def fS (H:Hp):Value→YF
 | .ref b=>match H b with
  | some (.tup xs)=>xs.map fun v=>match v with | .int i=>i|_=>0
  | _=>[]
 | _=>[]
theorem lC (l:YF):(l.map V.int).map (fun v=>match v with | .int i=>i|_=>0)=l:=by
 rw [List.map_map]
 exact List.map_id _
theorem oK {H:Hp}:∀ {vs:List V} {rs:YA} {its:YG},bU H vs rs→aV vs its→its.map (fS H)=rs
 | _,_,_,.nil,.nil=>rfl
 | _,_,_,.cons (a:=a) (r:=r) ha t,.cons rv rt=>by
  cases rv
  rw [XC,oK t rt]
  congr 1
  show (match H a with|some (.tup xs)=>xs.map (fun v=>match v with | .int i=>i|_=>0)|_=>[])=r
  rw [ha]
  exact lC r
theorem jV {H:Hp}:∀ {out:YG},(∀ v∈out,∃ b l,v=.ref b∧H b=some (.tup (List.map V.int l))) → ∃ vs',bU H vs' (out.map (fS H))∧aV vs' out
 | [],_=>⟨[],.nil,.nil⟩
 | v :: out,h=>by
  obtain⟨b,l,rfl,e⟩:=h v (.head _)
  obtain⟨vs',h1,h2⟩:=jV (out:=out) fun v hv=>h v (.tail _ hv)
  have er:fS H (.ref b)=l:=by
   show (match H b with|some (.tup xs)=>xs.map (fun v=>match v with | .int i=>i|_=>0)|_=>[])=l
   rw [e];exact lC l
  refine⟨.ref b :: vs',?_,.cons rfl h2⟩
  rw [XC,er]
  exact .cons e h1
theorem oM {H:Hp}:∀ {vs:List V} {rs:YA} {its:YG},bU H vs rs→aV vs its → ∀ v∈its,∃ b l,v=.ref b∧H b=some (.tup (List.map V.int l))∧l∈rs
 | _,_,_,.nil,.nil,v,hv=>by cases hv
 | _,_,_,.cons (a:=a) (r:=r) ha t,.cons rv rt,v,hv=>by
  cases rv
  rcases YQ hv with rfl|hv
  ·exact⟨a,r,rfl,ha,.head _⟩
  ·obtain⟨b,l,e1,e2,e3⟩:=oM t rt v hv
   exact⟨b,l,e1,e2,.tail _ e3⟩
theorem Dy {x y z:YF}(h1:Fm.bw y x=false)(h2:Fm.bw z y=false):Fm.bw z x=false:=by
 cases w:Fm.bw z x with
 | false=>rfl
 | true =>
  by_cases e:y=x
  ·subst e;rw [h2] at w;cases w
  ·have:=gP w (jR e h1)
   rw [h2] at this;cases this
theorem qK {P:Program}{w:World}{H:Hp}{h h':Heap}(hok:HOk P w H h)(hk:∀ b o xs,H b=some (.tup xs)→h.get? b=some o→h'.get? b=some o):∀ {vs:List V} {rs:YA} {its:YG},bU H vs rs→aV vs its→(rs.all fun x => !x.isEmpty)=true →
  ∃ fs,KatTups h' its fs∧fs.length=its.length ∧ ∀ v∈fs,∃ i t,v=Value.int i t
 | _,_,_,.nil,.nil,_=>⟨[],.nil,rfl,fun v hv=>by simp at hv⟩
 | _,_,_,.cons (a:=a) (r:=r) ha t,.cons rv rt,hne=>by
  simp only [List.all_cons,Bool.and_eq_true,Bool.not_eq_true'] at hne
  obtain⟨fs,h1,h2,h3⟩:=qK hok hk t rt hne.2
  obtain⟨z,its0,r0,o,ho,hc,n,hd⟩:=hok a _ ha
  cases r with
  | nil=>simp at hne
  | cons i r =>
   cases r0 with
   | cons q0 qr =>
    rename_i u us
    obtain⟨tk,rfl⟩:=nN q0
    cases rv
    refine⟨.int i tk :: fs,KatTups.cons (hk a o _ ha ho) hc hd (by simp) h1,by simp [h2],fun v hv => ?_⟩
    rcases YQ hv with rfl|hv
    ·exact⟨i,tk,rfl⟩
    ·exact h3 v hv
theorem Bp {pins:List (Addr × Obj)}{σ:L2.St}{H:Hp}{s:Shared}{B:Addr}{vs:List V}{rs:YA}{A:Around}{E:ZY}{Q:ZY}(I:Inv X pins σ H s)(hB:H B=some (.lst vs))(h64:vs.length≤1000)(rv:bU H vs rs)(nd:rs.Nodup)(hne:(rs.all fun x => !x.isEmpty)=true)
  (q:∀ vs' s',bU H vs' (bN rs)→Inv X pins σ (upd H B (.lst vs')) s'→Q .none s'):wpAny (model X.prog X.w) A (call (.builtin "list.sort") [.ref B]) Q E s:=by
 obtain⟨hz,its,n0,rvs,ho⟩:=I.hok B _ hB
 have hlen:its.length=vs.length:=rvs.length.symm
 obtain⟨m,hm,_⟩:=id I.loc
 have nL:∀ b u,H b=some u→b≠X.env.locals:=fun b u e z=>by rw [z,I.free] at e;cases e
 have BL:=nL B _ hB
 have after:∀ (h2:Heap) (its':YG) (vs':List V) (c t':Nat),bU H vs' (bN rs)→aV vs' its'→vs'.length≤sizeLine→h2.get? B=some (PySem.W.listOf its'.toArray c)→(∀ b o,b≠X.env.locals→b≠B→s.heap.get? b=some o→h2.get? b=some o)→h2.Ns X.env.locals m→Inv X pins σ (upd H B (.lst vs')) { s with heap:=h2,toks:=t' }:=fun h2 its' vs' c t' rv' rvs' hz' hB2 keep2 ns2=>by
  have I2:L2.Inv X pins σ (upd H B (.lst vs')) { s with heap:=h2,gens:=s.gens,drawn:=s.drawn,toks:=t' }:=by
   refine I.step (g':=s.gens) (d':=s.drawn) (t':=t') (ch:=[]) (fun _ z=>nomatch z) (fun b o hb _ _ e n=>keep2 b o hb (fun z=>by subst z;rw [hB] at n;cases n) e) (fun b o hb _ _ e n=>⟨o.slots,keep2 b o hb (fun z=>by subst z;rw [hB] at n;cases n) e⟩) (fun b o _ e n=>by rw [aC (fun z=>by subst z;rw [hB] at n;cases n)];exact n) (fun b o _ e => ?_)
    (fun b ys e=>by rw [aC (fun z=>by subst z;rw [hB] at e;cases e)];exact e) (fun b o u e=>by rw [aC (fun z=>by subst z;rw [hB] at e;cases e)];exact e) (fun b ps e=>⟨#[],by rw [aC (fun z=>by subst z;rw [hB] at e;cases e),e];simp⟩) (fun m' hm'=>by rw [FG hm' hm];exact ns2) (fun b u e => ?_) I.bare
   ·by_cases hb:b=X.env.locals
    ·obtain⟨o',_,_,ho',_⟩:=ns2
     rw [hb];exact⟨o',ho'⟩
    ·by_cases hb2:b=B
     ·subst hb2;exact⟨_,hB2⟩
     ·exact⟨o,keep2 b o hb hb2 e⟩
   ·by_cases hb:b=B
    ·subst hb
     rw [aS] at e
     cases e
     exact⟨hz',its',c,rvs',hB2⟩
    ·rw [aC hb] at e
     refine (I.hok b u e).stay (fun c v hc z => ?_) (fun c z=>by rw [aC (fun y=>by subst y;rw [hB] at z;cases z)];exact z) fun c ys z=>by rw [aC (fun y=>by subst y;rw [hB] at z;cases z)];exact z
     rcases hc with w|w
     ·subst w;exact keep2 c v (nL c _ e) hb z
     ·exact keep2 c v (nL c _ w) (fun y=>by subst y;rw [hB] at w;cases w) z
  exact I2
 have ho':s.heap.get? B=some (seqObj "list" its.toArray n0):=ho
 have ha:B < s.heap.objs.size:=ZI ho
 have mem:=oM rv rvs
 refine wpAny_call_entry slot_list_sort ⟨_,ho,rfl⟩ entry_list_sort (pX (kd:=tuples' (Value.type "int" != Value.type "tuple")) (S:=fun x=>x.1∈its) (r:=fun x y=>Fm.bw (fS H x.1) (fS H y.1)) ho' (by omega) (fun h2 G2 kp => ?_) (fun x hx=>(oH hx).2) fun out op os=>⟨_,rfl,?_⟩) (args_list_sort _)
 ·have keep2:∀ b o xs,H b=some (.tup xs)→s.heap.get? b=some o→G2.get? b=some o:=fun b o xs hb e=>kp b o (fun z=>by subst z;rw [hB] at hb;cases hb) e
  refine⟨fun Q' hq => ?_,?_⟩
  ·obtain⟨fs,t1,t2,t3⟩:=qK I.hok (h':=G2) keep2 rv rvs hne
   refine kat_kind (s:={ s with heap:=G2 }) (T:=.type "int") t1 (by omega) (fun v hv => ?_) rfl hq
   obtain⟨i,t,rfl⟩:=t3 v hv
   exact Looks.of_pure rfl
  ·refine⟨fun {x y st Q'} Sx Sy hk hq => ?_,fun {x y} h=>nc h,fun {x y z} h1 h2=>Dy h1 h2⟩
   have at':∀ v∈its,∃ b,v=.ref b ∧ ∃ (o:Obj) (zs:YG) (n:Nat),G2.get? b=some o∧o.data=.seq zs.toArray n∧IntsAre zs (fS H v):=fun v hv=>by
    obtain⟨b,l,rfl,e,_⟩:=mem v hv
    obtain⟨z,zs,r0,o,ho,hc,n,hd⟩:=I.hok b _ e
    have er:fS H (.ref b)=l:=by
     show (match H b with|some (.tup xs)=>xs.map (fun v=>match v with | .int i=>i|_=>0)|_=>[])=l
     rw [e];exact lC l
    exact⟨b,rfl,o,zs,n,keep2 b o _ e ho,hd,by rw [er];exact n9 r0⟩
   obtain⟨b1,x1,o1,z1,n1,y1,d1,i1⟩:=at' x.1 Sx
   obtain⟨b2,x2,o2,z2,n2,y2,d2,i2⟩:=at' y.1 Sy
   rw [lt'_eq]
   refine wpS_bind (wpS_get ?_)
   rw [hk]
   refine wpS_bind (wpS_lift (wpAny_attempt ?_))
   have key:∀ (Q2:Bool→Shared→Prop) E2,Q2 (Fm.bw (fS H x.1) (fS H y.1)) { s with heap:=G2 } → wpAny (model X.prog X.w) A.in1 (keyLt' (tuples' true) x.1 y.1) Q2 E2 { s with heap:=G2 }:=fun Q2 E2 hq2=>by
    rw [x1,x2]
    refine kat_lt (s:={ s with heap:=G2 }) y1 d1 y2 d2 ?_
    rw [x1] at i1 hq2
    rw [x2] at i2 hq2
    have:=FF (prog:=X.prog) (w:=X.w) (A:=A.in1) (s:={ s with heap:=G2 }) (Q:=Q2) _ _ 0 i1 i2 hq2
    simpa using this
   exact key _ _ ⟨rfl,wpS_pure hq⟩
 ·obtain⟨e1,ho1⟩ : ∃ e1,(s.heap.update B (Obj.mapSeq fun _ => #[])).get? B=some (seqObj "list" #[] e1):=⟨_,get?_update_seq ho' (fun _ => #[])⟩
  have ho6:(((s.heap.update B (Obj.mapSeq fun _ => #[])).push (seqObj "tuple" its.toArray 0)).push (seqObj "list" #[] 0)).get? B=some (seqObj "list" #[] e1):=by
   rw [Heap.get?_push_ne _ _ _ (by rw [size_push',Heap.size_update];exact ZN (Nat.lt_succ_of_lt ha)),Heap.get?_push_ne _ _ _ (by rw [Heap.size_update];exact ZN ha)]
   exact ho1
  have keepS:∀ b o,b≠B→s.heap.get? b=some o→(sortedHeap s.heap B its out.toArray).get? b=some o:=fun b o hb e=>by
   have hlt:b < s.heap.objs.size:=ZI e
   unfold sortedHeap
   rw [Heap.get?_update_ne _ _ _ _ hb,Heap.get?_push_ne _ _ _ (by rw [size_push',Heap.size_update];exact ZN (Nat.lt_succ_of_lt hlt)),Heap.get?_push_ne _ _ _ (by rw [Heap.size_update];exact ZN hlt),Heap.get?_update_ne _ _ _ _ hb]
   exact e
  have ns2:(sortedHeap s.heap B its out.toArray).Ns X.env.locals m:=by
   obtain⟨o',es,ep,h1,r⟩:=hm
   exact⟨o',es,ep,keepS _ _ (Ne.symm BL) h1,r⟩
  obtain⟨vs',rv',rvs'⟩:=jV (H:=H) (out:=out) fun v hv=>by
   obtain⟨b,l,e1,e2,_⟩:=mem v (op.mem_iff.mp hv)
   exact⟨b,l,e1,e2⟩
  have er:out.map (fS H)=bN rs:=by
   have pm:(out.map (fS H)).Perm rs:=by rw [← oK rv rvs];exact op.map _
   refine jS (pm.trans (b9 rs).symm) ?_ (cf nd)
   rw [List.pairwise_map]
   have nd2:(out.map (fS H)).Nodup:=pm.nodup_iff.mpr nd
   have nd3:out.Pairwise fun x y=>fS H x≠fS H y:=List.pairwise_map.mp nd2
   exact (os.and nd3).imp fun ⟨z1,z2⟩=>jR (Ne.symm z2) z1
  rw [er] at rv'
  have vl:vs'.length=its.length:=by rw [rvs'.length,op.length_eq]
  exact q vs' _ rv' (after _ out vs' _ s.toks rv' rvs' (by rw [vl,sizeLine_eq];omega) (get?_update_seq ho6 _) (fun b o _ hb e=>keepS b o hb e) ns2)
end
end Fm
namespace Fm
open PySem PySem.Spec L2 PySem.W PyProof.Rows
section
variable {X:Cx} {pos p:Pos}
def sJ (p d:Addr):Heap→Prop:=fun h=>h.get? p=some { cls:=.type "dict_items",data:=.fields #[.ref d] }
def FZ (td:TE):TE:=fun σ H Q=>td σ H fun x H1=>∃ a kvs,x=.ref a∧H1 a=some (.dK kvs) ∧ ∀ p,H1 p=none→Q (.ref p) (upd H1 p (.ext (sJ p a)))
theorem Bq {o:Expr} {td:TE} {apos cpos:Pos} (ho:PE X o td) (hbase:attributeBase o "items" X.env (eval o X.env)=eval o X.env:=by rfl) (hline:(apos.endLine == cpos.line)=true:=by rfl) :
  PE X (.Call (.Attribute o "items" apos) [] [] cpos) (FZ td):=by
 intro pins s σ H Q I h
 refine wpAny_Call_method0_late hbase hline (thn (ho pins s σ H _ I h) fun v s1 ⟨x,H1,I1,r1,a,kvs,ex,e,q1⟩ => ?_)
 subst ex
 obtain rfl:v=Value.ref a:=r1
 obtain⟨t1,t2,hs⟩:=FJ I1 (.inl ⟨kvs,.inl e⟩)
 obtain⟨_,hd,vs,_,dd⟩:=AX I1.hok e
 refine⟨"dict", "dict.items",PySem.F.plainAttrs_dict,PySem.F.slot_dict_items,PySem.F.type_dict_items,t1,t2,Calls.callWith_builtin rfl (PySem.evalArgs_none ?_)⟩
 refine call_meetsIn PySem.F.slot_dict_items t1 PySem.F.entry_dict_items (PySem.F.args_dict_items_1 _) (meets_dict_items (cH X.prog X.w) a hd) ⟨⟨vs,dd⟩,?_⟩
 refine⟨.ref s1.heap.objs.size,_,I1.laid (t':=s1.toks) (o:=.ext (sJ s1.heap.objs.size a)) (fun b ob q=>ZH _ q) (ZL _) ⟨ZJ _ rfl,⟨_,ZJ _ rfl⟩,fun h1 h2 f k=>k _ f⟩,rfl,q1 _ (I1.hok.fresh (ZL _))⟩
theorem Br {pins:List (Addr × Obj)}{σ:L2.St}{H H':Hp}{s:Shared}{h':Heap}{t':Nat}(I:Inv X pins σ H s)(keep:∀ b o,s.heap.get? b=some o→h'.get? b=some o)(sm:jd H H')(fresh:∀ b,b < s.heap.objs.size→H' b=H b)(new:∀ b u,s.heap.objs.size≤b→H' b=some u→dP X.prog X.w H' h' b u ∧ ∀ c,u ≠ .own c):Inv X pins σ H' { s with heap:=h',toks:=t' }:=by
 have I2:L2.Inv X pins σ H' { s with heap:=h',gens:=s.gens,drawn:=s.drawn,toks:=t' }:=by
  refine I.step (g':=s.gens) (d':=s.drawn) (t':=t') (ch:=[]) (fun _ z=>nomatch z) (fun b o _ _ _ e _=>keep b o e) (fun b o _ _ _ e _=>⟨o.slots,keep b o e⟩) (fun b o _ e n=>by rw [fresh b (ZI e)];exact n) (fun b o _ e=>⟨o,keep b o e⟩)
   (fun b ys e=>sm _ _ e) (fun b o u e=>sm _ _ e) (fun b ps e=>⟨#[],by rw [sm _ _ e];simp⟩) (fun m hm => ?_) (fun b u e => ?_) I.bare
  ·obtain⟨o',es,ep,h1,r⟩:=hm
   exact⟨o',es,ep,keep _ _ h1,r⟩
  ·by_cases hb:b < s.heap.objs.size
   ·rw [fresh b hb] at e
    refine (I.hok b u e).stay (fun c v hc z=>keep c v z) (fun c z=>sm _ _ z) fun c ys z=>sm _ _ z
   ·exact (new b u (Nat.le_of_not_lt hb) e).1
 exact I2
def ov:YH→YA→Hp→Hp
 | a :: as,r :: rs,H=>upd (ov as rs H) a (.tup (r.map V.int))
 | _,_,H=>H
theorem yn {b:Addr}{H:Hp}:∀ {as:YH} {rs:YA},b∉as→ov as rs H b=H b
 | [],_,_=>rfl
 | a :: as,[],_=>rfl
 | a :: as,r :: rs,h=>by
  have h1:b≠a:=fun z=>h (by simp [z])
  have h2:b∉as:=fun z=>h (by simp [z])
  show upd _ _ _ b=_
  rw [aC h1,yn h2]
theorem Bs {H:Hp}:∀ {as:YH} {rs:YA} {j:Nat} {a:Addr} {r:YF},as.Nodup→as[j]? = some a→rs[j]? = some r→ov as rs H a=some (.tup (r.map V.int))
 | [],_,_,_,_,_,e,_=>by simp at e
 | a :: as,[],_,_,_,_,_,e=>by simp at e
 | a :: as,r :: rs,0,_,_,_,e,e'=>by simp at e e';subst e e';exact aS
 | a :: as,r :: rs,j + 1,b,q,nd,e,e'=>by
  obtain⟨n1,n2⟩:=List.nodup_cons.mp nd
  have e:as[j]? = some b:=by simpa using e
  have hb:b≠a:=fun z=>n1 (by rw [← z];exact ZK e)
  show upd _ _ _ b=_
  rw [aC hb]
  exact Bs n2 e (by simpa using e')
theorem bU.mono {H H':Hp}(k:∀ a xs,H a=some (.tup xs)→H' a=some (.tup xs)):∀ {vs:List V} {rs:YA},bU H vs rs→bU H' vs rs
 | _,_,.nil=>.nil
 | _,_,.cons h t=>.cons (k _ _ h) (bU.mono k t)
theorem yo {H':Hp}:∀ {as:YH} {rs:YA},as.length=rs.length→(∀ (j:Nat) a r,as[j]? = some a→rs[j]? = some r→H' a=some (.tup (r.map V.int)))→bU H' (as.map V.ref) rs
 | [],[],_,_=>.nil
 | [],_ :: _,h,_=>by simp at h
 | _ :: _,[],h,_=>by simp at h
 | a :: as,r :: rs,h,f=>.cons (f 0 a r rfl rfl) (yo (by simpa using h) fun j b q e e'=>f (j + 1) b q (by simpa using e) (by simpa using e'))
def F0:List V→Hp→VK→Prop:=fun xs H Q=>∃ (p a:Addr) (ps:List (Int × Int)),xs=[.ref p]∧H p=some (.ext (sJ p a))∧H a=some (.dK (ps.map fun q=>((Sum.inl q.1:Key),V.int q.2)))∧ps.length < 64∧(ps.map fun q=>[q.1,q.2]).Nodup ∧
 ∀ H' q vs',jd H H'→H q=none→H' q=some (.lst vs')→bU H' vs' (bN (ps.map fun q=>[q.1,q.2]))→Q (.ref q) H'
theorem HR {κ : Type}{kvs:List (κ × V)}{vs:List (κ × Value)}(r:KV kvs vs):∀ {j:Nat} {k : κ} {x:Value} {k' : κ} {v:V},vs[j]? = some (k,x)→kvs[j]? = some (k',v)→k'=k∧bB v x:=by
 induction r with
 | nil=>intro j k x k' v e;simp at e
 | cons h t ih =>
  intro j k x k' v e e'
  cases j with
  | zero=>simp at e e';subst e e';exact h
  | succ j=>exact ih (by simpa using e) (by simpa using e')
theorem wD (hc:X.calm=true):fD X (.builtin "sorted") F0:=by
 intro pins s σ H xs us Q I r h
 obtain⟨p,a,ps,rfl,hp,ha,h64,nd,q⟩:=h
 obtain⟨u,rfl,ru⟩:=aV.one r
 cases (show u=Value.ref p from ru)
 obtain⟨rs,hrs⟩ : ∃ rs,rs=ps.map fun q=>[q.1,q.2]:=⟨_,rfl⟩
 rw [← hrs] at nd q
 have view:sJ p a s.heap:=(I.hok p _ hp).1
 obtain⟨hz,_,vs,rel,dd⟩:=AX I.hok ha
 have lv:vs.length=ps.length:=by rw [← rel.length];simp
 obtain⟨o,es,ep,d1,d2⟩:=id dd
 have dat:s.heap.DictAt (cH X.prog X.w) a vs ep:=⟨o,es,d1,d2⟩
 refine Calls.call_function_entry kind_sorted plain_sorted entry_sorted (args_sorted1 _) ?_
 unfold Builtin.«sorted»
 refine YW (m:=checkCount "sorted" 1 1 _) (YX ?_)
 refine YW (kdx_collect (A:=X.A.in1) (knd:=cH X.prog X.w) (kvs:=vs) (ep:=ep) (I.ok.hd hc) ⟨_,view,rfl,rfl⟩ dat (by rw [lv,sizeLine_eq];omega) fun h' tk as hk hl hG => ?_)
 have ndA:as.Nodup:=hG.rise.imp fun h=>ZN h
 have lr:as.length=rs.length:=by rw [hl,lv,hrs];simp
 have newA:∀ b∈as,s.heap.objs.size≤b:=fun b hb=>Nat.le_of_lt (hG.above b hb)
 have sm:jd H (ov as rs H):=fun b u e=>by
  rw [yn]
  ·exact e
  ·intro z
   exact absurd (I.hok.lt e) (Nat.not_lt.mpr (newA b z))
 have I1:Inv X pins σ (ov as rs H) { s with heap:=h',toks:=tk }:=by
  refine Br I hk sm (fun b hb=>yn fun z=>absurd hb (Nat.not_lt.mpr (newA b z))) fun b u hb e => ?_
  by_cases hm:b∈as
  ·obtain⟨j,hj⟩:=List.getElem?_of_mem hm
   have hjl:j < as.length:=(YO hj).1
   obtain⟨key,k,x,e1,e2,e3⟩:=hG.pairs j b hj
   obtain⟨pq,hpq⟩ : ∃ pq,ps[j]? = some pq:=⟨ps[j]'(by omega),by simp [show j < ps.length by omega]⟩
   have hr:rs[j]? = some [pq.1,pq.2]:=by rw [hrs,ZQ,hpq];rfl
   rw [Bs ndA hj hr] at e
   cases e
   refine⟨?_,fun c z=>by cases z⟩
   obtain⟨hkk,rx⟩:=HR rel e1 (show (ps.map fun q=>((Sum.inl q.1:Key),V.int q.2))[j]? = some (Sum.inl pq.1,V.int pq.2) by rw [ZQ,hpq];rfl)
   obtain⟨t,rfl⟩:=nN rx
   subst hkk
   have:∃ t',key=Value.int pq.1 t':=Value.isInt_shape e2
   obtain⟨t',rfl⟩:=this
   exact⟨by simp [sizeLine_eq],[_,_],.cons ⟨t',rfl⟩ (.cons ⟨t,rfl⟩ .nil),_,e3,rfl,_,rfl⟩
  ·rw [yn hm] at e
   exact absurd (I.hok.lt e) (Nat.not_lt.mpr hb)
 refine YW (wpAny_newList ?_ (by rw [ZA,hl,lv,sizeLine_eq];omega))
 have rvA:aV (as.map V.ref) (as.map Value.ref):=by
  clear hl hG ndA lr newA sm I1 q
  induction as with
  | nil=>exact .nil
  | cons a as ih=>exact .cons rfl ih
 have I2:Inv X pins σ (upd (ov as rs H) h'.objs.size (.lst (as.map V.ref))) { s with heap:=h'.push { cls:=.type "list",data:=.seq (as.map Value.ref).toArray },toks:=tk }:=I1.lnew (t':=tk) rvA (by rw [ZA,hl,lv,sizeLine_eq];omega)
 have fr:ov as rs H h'.objs.size=none:=I1.hok.fresh (ZL _)
 have sm2:jd (ov as rs H) (upd (ov as rs H) h'.objs.size (.lst (as.map V.ref))):=bT fr
 have rowsA:bU (upd (ov as rs H) h'.objs.size (.lst (as.map V.ref))) (as.map V.ref) rs:=yo lr fun j b r e e'=>sm2 _ _ (Bs ndA e e')
 have hne:(rs.all fun x => !x.isEmpty)=true:=by rw [hrs,List.all_map,List.all_eq_true];intro q _;rfl
 refine YW (wpAny_holding (Bp (A:=X.A.in1) I2 aS (by rw [ZA,hl,lv];omega) rowsA nd hne fun vs' s' rv' I3=>YX ⟨_,rfl,?_⟩))
 have uu:upd (upd (ov as rs H) h'.objs.size (.lst (as.map V.ref))) h'.objs.size (.lst vs')=upd (ov as rs H) h'.objs.size (.lst vs'):=by
  funext b
  by_cases z:b=h'.objs.size
  ·subst z;rw [aS,aS]
  ·rw [aC z,aC z,aC z]
 rw [uu] at I3
 refine⟨.ref h'.objs.size,_,I3,rfl,q _ _ vs' (fun b u e=>bT fr _ _ (sm _ _ e)) ?_ aS ?_⟩
 ·cases e:H h'.objs.size with
  | none=>rfl
  | some u=>rw [sm _ _ e] at fr;cases fr
 ·refine rv'.mono fun b ys e => ?_
  have hb:b≠h'.objs.size:=fun z=>by subst z;rw [aS] at e;cases e
  rw [aC hb] at e ⊢
  exact e
theorem nh:∀ {l:List (Int × D)} {r:YA},eN l=some r → ∃ ps:List (Int × Int),l=ps.map (fun q=>(q.1,D.int q.2))∧r=ps.map fun q=>[q.1,q.2]
 | [],r,e=>by simp only [eN] at e;cases e;exact⟨[],rfl,rfl⟩
 | (k,d) :: l,r,e=>by
  cases d<;>simp only [eN] at e<;>try (cases e;done)
  rename_i v
  cases c:eN l with
  | none=>rw [c] at e;cases e
  | some r' =>
   rw [c] at e
   cases e
   obtain⟨ps,rfl,rfl⟩:=nh c
   exact⟨(k,v) :: ps,rfl,rfl⟩
theorem Bt {K:ZX}{ρ:YH}{H:Hp}:∀ {ps:List (Int × Int)} {kvs:List (Key × V)},kvs.map (·.1)=(ps.map fun q=>(q.1,D.int q.2)).map (fun p=>(Sum.inl p.1:Key))→RDs K ρ H ((ps.map fun q=>(q.1,D.int q.2)).map (·.2)) (kvs.map (·.2))→kvs=ps.map fun q=>((Sum.inl q.1:Key),V.int q.2)
 | [],[],_,_=>rfl
 | [],_ :: _,h,_=>by simp at h
 | _ :: _,[],h,_=>by simp at h
 | (j,d) :: ps,(kk,v) :: kvs,h1,h2=>by
  simp only [XC,List.cons.injEq] at h1
  simp only [XC,RDs] at h2
  obtain⟨v',r',e,q1,q2⟩:=h2
  cases e
  obtain⟨e1,e2⟩:=h1
  subst e1
  simp only [RD] at q1
  subst q1
  rw [Bt e2 q2]
  rfl
theorem Bu {o:Expr} {fo:EF} {apos cpos:Pos} (hc:X.calm=true) (hg:Gl X "sorted") (hm:X.mg "sorted" = none) (ho:ME X o fo)
  (hs:starEach [.Call (.Attribute o "items" apos) [] [] cpos] X.env=(false,eval (.Call (.Attribute o "items" apos) [] [] cpos) X.env) :: starEach [] X.env:=by rfl)
  (hbase:attributeBase o "items" X.env (eval o X.env)=eval o X.env:=by rfl) (hline:(apos.endLine == cpos.line)=true:=by rfl) :
  MF X (.Call (.Name "sorted" p) [.Call (.Attribute o "items" apos) [] [] cpos] [] pos) (mF fo):=by
 refine PE.imp (gn (wD hc) hg hm (by decide +kernel) (bW (Bq ho hbase hline) dy hs) (he:=hs)) fun σ H Q ⟨ρ,σd,hd,rs,pp⟩=>⟨ρ,σd,hd,rs,?_⟩
 unfold mF at pp
 cases e:fo σd hd with
 | exc x h'=>rw [e] at pp;exact pp
 | bad=>rw [e] at pp;exact pp
 | ok d hd1 =>
  rw [e] at pp
  simp only [aA] at pp
  intro v H1 ρ1 e1 rs1 rv
  cases d<;>try exact pp.elim
  rename_i n
  simp only at pp
  simp only [rD,RD] at rv
  obtain⟨a,ha,rfl⟩:=rv
  cases c:hd1[n]? with
  | none=>rw [c] at pp;exact pp.elim
  | some cell =>
   rw [c] at pp
   cases cell with
   | lst l=>exact pp.elim
   | dct l =>
    simp only at pp
    cases c2:eN l with
    | none=>rw [c2] at pp;exact pp.elim
    | some r =>
     rw [c2] at pp
     simp only at pp
     split at pp
     ·rename_i hz
      obtain⟨ps,rfl,rfl⟩:=nh c2
      obtain⟨kvs,q1,q2,q3⟩:=rs1.hp.cel n _ a c ha
      have hk:=Bt q2 q3
      subst hk
      refine⟨a,_,rfl,q1,fun q hq=>⟨q,a,ps,rfl,aS,by rw [aC (bg q1 hq)];exact q1,by simpa using hz.1,hz.2,fun H' q' vs' sm hq' hl' rv' => ?_⟩⟩
      have sm1:jd H1 H':=fun b u eb=>sm _ _ (bT hq _ _ eb)
      have nq:q'≠q:=fun z=>by subst z;rw [aS] at hq';cases hq'
      rw [aC nq] at hq'
      have hn:=rs1.hp.free hq'
      exact pp q' vs' H' ρ1 (e1.trans (Ext.same sm1)) (rs1.same sm1) (e1.fresh hq' hn) hl' hn rv'.rds
     ·exact pp.elim
end
end Fm
namespace Fm
@[simp] def Bv (la:LF) (b:EF):LF:=fun σ h=>(la σ h).bind fun l h=>(b σ h).bind fun y h=>match y with
 | .int n=>if 0≤n∧n≤1000∧l.length * n.toNat≤1000 then .ok (List.replicate n.toNat l).flatten h else .bad
 | _=>.bad
@[simp] def Bw (x i e:EF):EF:=fun σ h=>(x σ h).bind fun p h=>match p with
 | .ref n=>match h[n]? with
  | some (.lst _)=>(i σ h).bind fun j h=>(e σ h).bind fun d h=>match j with
   | .int k=>match h[n]? with
    | some (.lst l)=>if 0≤k∧k≤l.length∧l.length < SZ then .ok .non (h.set n (.lst (l.take k.toNat++[d]++l.drop k.toNat))) else .bad
    | _=>.bad
   | _=>.bad
  | _=>.bad
 | _=>.bad
@[simp] def Bx (a b:EF):EF:=fun σ h=>(a σ h).bind fun x h=>(b σ h).bind fun y h=>match x,y with
 | .int i,.int j=>.ok (.int (if j > i then j else i)) h
 | _,_=>.bad
@[simp] def eA (a b:EF):LF:=fun σ h=>(a σ h).bind fun x h=>(b σ h).bind fun y h=>match x,y with
 | .ref n,.ref m=>match h[n]?,h[m]? with
  | some (.lst l),some (.lst k)=>if l.length + k.length≤SZ then .ok (l++k) h else .bad
  | _,_=>.bad
 | _,_=>.bad
@[simp] def lH:O2:=fun x y h=>match x,y with
 | .tup xs,.tup ys=>if xs.length + ys.length≤SZ then .ok (.tup (xs++ys)) h else .bad
 | _,_=>.bad
end Fm
namespace Fm
open PySem PySem.Spec L2 PySem.W PyProof.Rows
section
variable {X:Cx} {pos p:Pos}
theorem qL {K:ZX}{ρ:YH}{H:Hp}:∀ {l:List D} {vs:List V} {bs:List Bool},RDs K ρ H l vs→jk l=some bs→vs=bs.map V.bl
 | [],_,is,r,e=>by simp only [jk] at e;cases e;simp only [RDs] at r;subst r;rfl
 | d :: l,_,is,r,e=>by
  simp only [RDs] at r
  obtain⟨v,vs,rfl,h1,h2⟩:=r
  cases d<;>simp only [jk] at e<;>try (cases e;done)
  rename_i i
  cases c:jk l with
  | none=>rw [c] at e;cases e
  | some js =>
   rw [c] at e
   cases e
   simp only [RD] at h1
   rw [h1,qL h2 c]
   rfl
theorem By {bs:List Bool}{its:YG}(r:aV (bs.map V.bl) its):∀ (i:Nat) (v:Value),its.toArray[i]? = some v→v=.bool (bs.getD i false):=by
 intro i v e
 have e':its[i]? = some v:=by simpa using e
 have hi:i < bs.length:=by
  have:=(YO e').1
  have:=r.length
  simp at this
  omega
 obtain⟨u,hu,ru⟩:=r.get (i:=i) (x:=V.bl bs[i]) (by simp [hi])
 rw [hu] at e'
 cases e'
 rw [show v=Value.bool bs[i] from ru]
 simp [List.getD,hi]
theorem Bz (bs:List Bool):(List.range bs.length).all (fun i=>bs.getD i false)=bs.all id:=by
 have:bs=(List.range bs.length).map fun i=>bs.getD i false:=by
  apply List.ext_getElem?
  intro i
  by_cases hi:i < bs.length<;>simp [List.getD,hi]
 conv=>rhs;rw [this]
 rw [List.all_map]
 rfl
theorem zr (hc:X.calm=true):fD X (.builtin "all") (fun xs H Q=>∃ (p:Addr) (bs:List Bool),xs=[.ref p]∧(SqL X.K H p (bs.map V.bl)∨SqT X.K H p (bs.map V.bl))∧Q (.bl (bs.all id)) H):=by
 intro pins s σ H xs us Q I r q
 obtain⟨p,bs,rfl,sq,q⟩:=q
 obtain⟨u,rfl,ru⟩:=aV.one r
 cases (show u=Value.ref p from ru)
 have hA:(X.A.in1).handled=none:=I.ok.hd hc
 have tr:∀ (its:YG),aV (bs.map V.bl) its→TruthOf X.prog X.w X.A.in1 (fun i v=>its.toArray[i]? = some v) (fun i=>bs.getD i false):=fun its rv i v s Q E hP hQ=>by
  rw [By rv i v hP]
  exact wpAny_truthy_bool hQ
 have fin:∀ {it:Obj} {h':Heap} {tk:Nat} {n:Nat},n=bs.length→(∀ b o,b∉[s.heap.objs.size]→(s.heap.push it).get? b=some o→h'.get? b=some o)→EP X pins σ Q (.bool ((List.range n).all fun i=>bs.getD i false)) { s with heap:=h',toks:=tk }:=by
  intro it h' tk n hn hk
  subst hn
  refine⟨.bl (bs.all id),H,I.kept (t':=tk) fun b o e=>hk b o (by simp;exact ZN (ZI e)) (ZH _ e),by rw [Bz];rfl,q⟩
 rcases sq with sq|sq
 ·obtain⟨its,rv,pl,hz⟩:=I.list sq
  have il:s.heap.IsList p its.toArray:=pl.isList
  have hlt:p < s.heap.objs.size:=by obtain⟨o,ho,_⟩:=il;exact ZI ho
  refine PySem.call_all_walk (PySem.wpAny_pyIter_list il ?_)
  refine⟨s.heap.objs.size,_,[s.heap.objs.size],_,_,_,fun i=>bs.getD i false,rfl,PySem.Walks.list hA s.heap.objs.size p (ZN hlt) its.toArray,⟨⟨_,ZJ _ rfl,rfl,rfl⟩,?_⟩,tr its rv,?_⟩
  ·obtain⟨o,ho,r⟩:=il;exact⟨o,ZH _ ho,r⟩
  ·exact fun h' tk hk=>fin (by simpa using rv.length.symm) hk
 ·obtain⟨its,rv,pl,hz⟩:=I.tuple sq
  have il:s.heap.IsTuple p its.toArray:=pl
  have hlt:p < s.heap.objs.size:=by obtain⟨o,ho,_⟩:=il;exact ZI ho
  refine PySem.call_all_walk (PySem.wpAny_pyIter_tuple il ?_)
  refine⟨s.heap.objs.size,_,[s.heap.objs.size],_,_,_,fun i=>bs.getD i false,rfl,PySem.Walks.tuple hA s.heap.objs.size p (ZN hlt) its.toArray,⟨⟨_,ZJ _ rfl,rfl,rfl⟩,?_⟩,tr its rv,?_⟩
  ·obtain⟨o,ho,r⟩:=il;exact⟨o,ZH _ ho,r⟩
  ·exact fun h' tk hk=>fin (by simpa using rv.length.symm) hk
theorem BA {a:Expr} {la:LF} (hc:X.calm=true) (hg:Gl X "all") (hm:X.mg "all" = none) (ha:MQ X a la) (hs:starEach [a] X.env=(false,eval a X.env) :: starEach [] X.env:=by rfl):ME X (.Call (.Name "all" p) [a] [] pos) (AD la):=by
 refine sr (g:=fun l h=>match jk l with|some bs=>.ok (.bl (bs.all id)) h|none=>.bad) (AJ (zr hc) hg hm (by decide +kernel) (he:=hs)) ha (fun ρ H σd hd σ l q vs Q rs sq rvs p => ?_) hs
 cases c:jk l with
 | none=>simp only [c] at p;exact p.elim
 | some is =>
  simp only [c] at p
  have e:=qL rvs c
  subst e
  exact⟨q,is,rfl,sq.imp id SqT.of,p.here rs (by simp only [rD,RD])⟩
theorem F3 {a b:Expr}{la:LF}{fb:EF}(ha:MF X a la)(hb:ME X b fb):MF X (.BinOp a .Mult b pos) (Bv la fb):=by
 refine PE.imp (Ar Fo ha hb) fun σ H Q ⟨ρ,σd,hd,rs,pp⟩=>⟨ρ,σd,hd,rs,?_⟩
 unfold Bv at pp
 cases e:la σd hd with
 | exc x h'=>rw [e] at pp;exact pp
 | bad=>rw [e] at pp;exact pp
 | ok l hd1 =>
  rw [e] at pp
  simp only [aA] at pp
  intro q vs H1 ρ1 e1 rs1 hq0 hq hn rvs
  refine⟨ρ1,σd,hd1,rs1,?_⟩
  cases e2:fb σd hd1 with
  | exc x h'=>rw [e2] at pp;exact pp
  | bad=>rw [e2] at pp;exact pp
  | ok y hd2 =>
   rw [e2] at pp
   simp only [aA] at pp
   intro v H2 ρ2 ex2 rs2 rv
   cases y<;>try exact pp.elim
   rename_i n
   simp only at pp
   split at pp
   ·rename_i hz
    simp only [rD,RD] at rv
    subst rv
    have hq2:H2 q=some (.lst vs):=ex2.frame q _ hq hn
    have rvs2:=rvs.mono (rs1.hp.kp ex2)
    refine⟨q,n,vs,rfl,rfl,hq2,by omega,by omega,by rw [← rvs.length,sizeLine_eq];omega,fun p' hp' => ?_⟩
    exact uq.mk pp (e1.trans ex2) rs2 (RDs.rep rvs2 n.toNat) p' hp'
   ·exact pp.elim
theorem F4 {a b:Expr} {fa fb:EF} (hc:X.calm=true) (hg:Gl X "max") (hm:X.mg "max" = none) (ha:ME X a fa) (hb:ME X b fb) (hs:starEach [a,b] X.env=(false,eval a X.env) :: starEach [b] X.env:=by rfl) (hs2:starEach [b] X.env=(false,eval b X.env) :: starEach [] X.env:=by rfl) (hpl:(backTo pos (starEach [b] X.env)).any (fun x=>x.1)=false:=by rfl):ME X (.Call (.Name "max" p) [a,b] [] pos) (Bx fa fb):=by
 refine PE.imp (gn (y4 hc) hg hm (by decide +kernel) (bW ha (bW hb dy hs2) hs) (he:=hs) (hpl:=hpl)) fun σ H Q ⟨ρ,σd,hd,rs,pp⟩=>⟨ρ,σd,hd,rs,?_⟩
 unfold Bx at pp
 refine (bD.bind (R:=rD X.K) pp).imp fun v H1 ⟨ρ1,d,hd1,e1,rs1,rv,p1⟩ => ?_
 refine⟨ρ1,σd,hd1,rs1,(bD.bind (R:=rD X.K) p1).imp fun w H2 ⟨ρ2,k,hd2,e2,rs2,rw',p2⟩ => ?_⟩
 cases d<;>try exact p2.elim
 cases k<;>try exact p2.elim
 simp only [rD,RD] at rv rw'
 subst rv rw'
 exact⟨_,_,rfl,p2.here rs2 (by simp only [rD,RD])⟩
def Dz:V→List V→Hp→VK→Prop:=fun x vs H Q=>∃ l xs k y,x=.ref l∧vs=[.int k,y]∧H l=some (.lst xs)∧0≤k∧k≤xs.length∧xs.length < sizeLine∧Q .non (upd H l (.lst (xs.take k.toNat++[y]++xs.drop k.toNat)))
theorem zt:MtM X "list.insert" Dz:=by
 intro pins s σ H x vs v us Q I rx rv h
 obtain⟨l,xs,k,y,rfl,rfl,hH,k0,k1,hz,q⟩:=h
 cases rx
 obtain⟨u,w,rfl,ru,rw'⟩:=rv.two
 obtain⟨t,rfl⟩:=nN ru
 obtain⟨z,its,n,r,hl,e⟩:=I.lstM hH
 have hfit : ¬ (!Builtin.List.listFitsIndex k)=true:=by
  rw [fitsIndex_both (by omega) (by rw [sizeLine_eq] at hz;omega)]
  exact Bool.false_ne_true
 refine call_meets F.slot_list_insert ⟨_,e,rfl⟩ F.entry_list_insert (F.args_list_insert_3 _ _ _) (AutoSeq1.list_insert_list_int_val_1 l its.toArray n k t w hfit (by rw [List.size_toArray];omega)) ⟨e,?_⟩
 refine⟨.non,_,I.lset (its':=its.take k.toNat++[w]++its.drop k.toNat) hH e ?_ (((r.take k.toNat).append (.cons rw' .nil)).append (r.drop k.toNat)) ?_,rfl,q⟩
 ·have k2 : ¬ k < 0:=by omega
  have k3:min k.toNat its.length=k.toNat:=by omega
  simp only [Obj.mapSeq,List.size_toArray,if_neg k2,k3]
  congr 2
  simp
  exact List.take_of_length_le (by simp)
 ·simp;omega
theorem F5 {o i e:Expr} {fo fi fe:EF} {apos cpos:Pos} (ho:ME X o fo) (hi:ME X i fi) (he:ME X e fe) (hbase:attributeBase o "insert" X.env (eval o X.env)=eval o X.env:=by rfl)
  (hfew:((backTo cpos (starEach [i,e] X.env)).all (fun x => !x.1) && (backToKw cpos (keywordEach [] X.env)).all (fun x=>x.1.isSome)
   && decide (([i,e] : YJ).length + ([] : List Keyword).length + (if ([] : List Keyword).isEmpty then 0 else 1) < 30))=true:=by rfl)
  (hline:(apos.endLine == cpos.line)=true:=by rfl) (hs:starEach [i,e] X.env=(false,eval i X.env) :: starEach [e] X.env:=by rfl) (hs2:starEach [e] X.env=(false,eval e X.env) :: starEach [] X.env:=by rfl) (hpl:(backTo cpos (starEach [e] X.env)).any (·.1)=false:=by rfl) :
  ME X (.Call (.Attribute o "insert" apos) [i,e] [] cpos) (Bw fo fi fe):=by
 refine PE.imp (Az PySem.F.plainAttrs_list PySem.F.slot_list_insert PySem.F.type_list_insert zt ho (bW hi (bW he dy hs2) hs) hbase hfew hline hs hpl) fun σ H Q ⟨ρ,σd,hd,rs,pp⟩=>⟨ρ,σd,hd,rs,?_⟩
 unfold Bw at pp
 refine (bD.bind (R:=rD X.K) pp).imp fun v H1 ⟨ρ1,d,hd1,e1,rs1,rv,p1⟩ => ?_
 cases d<;>try exact p1.elim
 rename_i n
 simp only [rD,RD] at rv
 obtain⟨a,ha,rfl⟩:=rv
 simp only at p1
 cases c1:hd1[n]? with
 | none=>rw [c1] at p1;exact p1.elim
 | some cell1 =>
  rw [c1] at p1
  cases cell1 with
  | dct l=>exact p1.elim
  | lst l1 =>
   obtain⟨vs,hv,_⟩:=rs1.hp.cel n _ a c1 ha
   simp only at p1
   refine⟨.inl ⟨rfl,vs,SqL.of hv⟩,ρ1,σd,hd1,rs1,(bD.bind (R:=rD X.K) p1).imp fun vi H2 ⟨ρ2,k,hd2,e2,rs2,ri,p2⟩ => ?_⟩
   refine⟨ρ2,σd,hd2,rs2,(bD.bind (R:=rD X.K) p2).imp fun w H3 ⟨ρ3,dv,hd3,e3,rs3,rw',p3⟩ => ?_⟩
   cases k with
   | int k =>
    simp only [rD,RD] at ri
    subst ri
    simp only at p3
    cases c:hd3[n]? with
    | none=>rw [c] at p3;exact p3.elim
    | some cell =>
     rw [c] at p3
     cases cell with
     | dct l=>exact p3.elim
     | lst l =>
      simp only at p3
      split at p3
      ·rename_i hz
       have ha3:=e3.get (e2.get ha)
       obtain⟨vs3,hv3,rvs3⟩:=rs3.hp.cel n _ a c ha3
       refine⟨a,vs3,k,w,rfl,rfl,hv3,hz.1,by rw [← rvs3.length];exact hz.2.1,?_,?_⟩
       ·rw [← rvs3.length];exact Nat.lt_of_lt_of_le hz.2.2 (by rw [sizeLine_eq];decide)
       ·have hn:n < hd3.length:=(YO c).1
        have rh:=rs3.hp.write ha3 hn (RDs.append (RDs.append (RDs.take k.toNat rvs3) (RDs.cons rw' RDs.nil)) (RDs.drop k.toNat rvs3))
        have ex:Ext ρ3 H3 ρ3 (upd H3 a (.lst (vs3.take k.toNat++[w]++vs3.drop k.toNat))):=Ext.write (ZK ha3)
        exact p3.at ex (rs3.ext ex rh) (by simp only [rD,RD])
      ·exact p3.elim
   | _=>exact p3.elim
theorem iG {a b:Expr}{fa fb:EF}(ha:ME X a fa)(hb:ME X b fb):MF X (.BinOp a .Add b pos) (eA fa fb):=by
 refine PE.imp (Ar Fk ha hb) fun σ H Q ⟨ρ,σd,hd,rs,pp⟩=>⟨ρ,σd,hd,rs,?_⟩
 unfold eA at pp
 cases e:fa σd hd with
 | exc x h'=>rw [e] at pp;exact pp
 | bad=>rw [e] at pp;exact pp
 | ok d hd1 =>
  rw [e] at pp
  simp only [aA] at pp
  intro v H1 ρ1 e1 rs1 rv
  refine⟨ρ1,σd,hd1,rs1,?_⟩
  cases e2:fb σd hd1 with
  | exc x h'=>rw [e2] at pp;exact pp
  | bad=>rw [e2] at pp;exact pp
  | ok k hd2 =>
   rw [e2] at pp
   simp only [aA] at pp
   intro w H2 ρ2 ex2 rs2 rw'
   cases d with
   | ref n =>
    cases k with
    | ref m =>
     simp only at pp
     simp only [rD,RD] at rv rw'
     obtain⟨a1,ha1,rfl⟩:=rv
     obtain⟨b1,hb1,rfl⟩:=rw'
     have ha2:=ex2.get ha1
     cases c1:hd2[n]? with
     | none=>rw [c1] at pp;exact pp.elim
     | some x1 =>
      cases c2:hd2[m]? with
      | none=>rw [c1,c2] at pp;cases x1<;>exact pp.elim
      | some x2 =>
       rw [c1,c2] at pp
       cases x1 with
       | dct _=>exact pp.elim
       | lst l =>
        cases x2 with
        | dct _=>exact pp.elim
        | lst k =>
         simp only at pp
         split at pp
         ·rename_i hz
          obtain⟨vs1,hv1,rvs1⟩:=rs2.hp.cel n _ a1 c1 ha2
          obtain⟨vs2,hv2,rvs2⟩:=rs2.hp.cel m _ b1 c2 hb1
          refine⟨a1,b1,vs1,vs2,rfl,rfl,hv1,hv2,by rw [← rvs1.length,← rvs2.length];exact k7 hz,fun p' hp' => ?_⟩
          exact uq.mk pp (e1.trans ex2) rs2 (RDs.append rvs1 rvs2) p' hp'
         ·exact pp.elim
    | _=>exact pp.elim
   | _=>exact pp.elim
theorem uM (l b:Addr)(items items2:YK)(n n2:Nat)(dd dd2:Option Addr)(sl sl2:Array (YM))(hc0:items.isEmpty=true) :
  Meets (Builtin.«tuple.__add__» ⟨[.ref l,.ref b],[]⟩) (fun _ R s=>s.heap.get? l=some { cls:=.type "tuple",dict:=dd,data:=.seq items n,slots:=sl } ∧ s.heap.get? b=some { cls:=.type "tuple",dict:=dd2,data:=.seq items2 n2,slots:=sl2 } ∧ R (.ok (.ret (Value.ref b))) s) :=
 .of_wp fun prog w A R s h=>by obtain⟨hp,g,d,tk,os⟩:=s;obtain⟨hl,hb,h⟩:=h;have f1:=PySem.AutoSeq1.idx_int;have f2:=PySem.AutoSeq1.sub_tuple_tuple;wp_walk using wpAny_loadPart' hl,wpAny_loadPart' hb;exact⟨_,rfl,h⟩
def BB (K:ZX):R2:=fun x y H Q=>∃ a b ys,x=.ref a∧y=.ref b∧SqT K H a []∧SqT K H b ys∧Q (.ref b) H
theorem DA:OpR X (binaryOp .Add) (BB X.K):=by
 intro pins s σ H x y v u Q I rx ry h
 obtain⟨a,b,ys,rfl,rfl,ha,hb,q⟩:=h
 cases rx
 cases ry
 obtain⟨its,r1,p1,_⟩:=I.tuple ha
 obtain⟨its2,r2,p2,_⟩:=I.tuple hb
 cases r1
 obtain⟨⟨cls,dd,data,sl⟩,ho,hc,n,hd⟩:=id p1
 obtain⟨⟨cls2,dd2,data2,sl2⟩,ho2,hc2,n2,hd2⟩:=id p2
 simp only at hc hd hc2 hd2
 subst hc hd hc2 hd2
 exact concat_meets ⟨_,ho,rfl⟩ ⟨_,ho2,rfl⟩ noFill_tuple_add seq_tuple_add PySem.F.slot_tuple_add PySem.F.entry_tuple_add (PySem.F.args_tuple_add_2 _ _)
  (uM a b _ its2.toArray n n2 dd dd2 sl sl2 rfl) ⟨ho,ho2,⟨.ref b,H,I,rfl,q⟩⟩
theorem yp:OpR X (binaryOp .Add) (fun x y H Q=>BB X.K x y H Q∨um X.K x y H Q):=DA.or xX
theorem yq {K:ZX}:Og K lH (fun x y H Q=>BB K x y H Q∨um K x y H Q):=by
 intro ρ H σd hd σ d k v w Q rs rv rw' pp
 cases d with
 | tup xs =>
  cases k with
  | tup ys =>
   simp only [lH] at pp
   split at pp
   ·rename_i hz
    simp only [RD] at rv
    obtain⟨a,vs,rfl,ha,rvs⟩:=rv
    have rw2:=rw'
    simp only [RD] at rw'
    obtain⟨b,ws,rfl,hb,rws⟩:=rw'
    cases xs with
    | nil =>
     simp only [RDs] at rvs
     subst rvs
     exact .inl ⟨a,b,ws,rfl,rfl,SqT.of ha,SqT.of hb,pp.here rs (by simpa using rw2)⟩
    | cons x xs =>
     refine .inr ⟨a,b,vs,ws,rfl,rfl,SqT.of ha,SqT.of hb,?_,?_,fun z => ?_,fun _ q hq => ?_⟩
     ·intro z;subst z;have:=rvs.length;simp at this
     ·rw [← rvs.length,← rws.length];exact k7 hz
     ·subst z
      have hy:ys=[]:=by have:=rws.length;simpa using this
      subst hy
      exact pp.here rs (by simp only [rD,RD];exact⟨a,vs,rfl,ha,by simpa using rvs⟩)
     ·have sm:=bT (o:=HO.tup (vs++ws)) hq
      exact pp.at (Ext.same sm) (rs.same sm) (by simp only [rD,RD];exact⟨q,_,rfl,aS,(RDs.append rvs rws).mono (Kp.same sm)⟩)
   ·exact pp.elim
  | _=>exact pp.elim
 | _=>exact pp.elim
end
end Fm
namespace Fm
@[simp] def Jh (a:EF):EF:=fun σ h=>(a σ h).bind fun x h=>match x with | .int i=>.ok (.int i.natAbs) h|_=>.bad
@[simp] def wE (a b:EF):EF:=fun σ h=>(a σ h).bind fun x h=>(b σ h).bind fun y h=>match x,y with
 | .int i,.int j=>.ok (.int (if j < i then j else i)) h
 | _,_=>.bad
noncomputable section
open Classical
def fU (l:List D):List D:=(List.range l.length).zip l |>.map fun p=>.tup [.int (p.1:Nat),p.2]
end
end Fm
namespace Fm
open PySem PySem.Spec L2
open PyProof.Rows (Call_)
section
variable {prog:Program} {w:World} {A:Around} {E:ZY} {s:Shared} {z TI TO i1 i2 l1 l2:Addr} {k:Nat} {xs ys:YK} {a b:Value}
end
section
variable {prog:Program} {w:World} {A:Around} {E:ZY} {s:Shared}
end
section
variable {X:Cx} {pos p tp:Pos} {elts:YJ} {tk:Nat}
end
end Fm
namespace Fm
open PySem PySem.Spec L2 PySem.W PyProof.Rows
section
variable {X:Cx} {pos p:Pos}
theorem BC {a b:Expr} {fa fb:EF} (hc:X.calm=true) (hg:Gl X "min") (hm:X.mg "min" = none) (ha:ME X a fa) (hb:ME X b fb) (hs:starEach [a,b] X.env=(false,eval a X.env) :: starEach [b] X.env:=by rfl) (hs2:starEach [b] X.env=(false,eval b X.env) :: starEach [] X.env:=by rfl) (hpl:(backTo pos (starEach [b] X.env)).any (fun x=>x.1)=false:=by rfl):ME X (.Call (.Name "min" p) [a,b] [] pos) (wE fa fb):=by
 refine PE.imp (gn (y8 hc) hg hm (by decide +kernel) (bW ha (bW hb dy hs2) hs) (he:=hs) (hpl:=hpl)) fun σ H Q ⟨ρ,σd,hd,rs,pp⟩=>⟨ρ,σd,hd,rs,?_⟩
 unfold wE at pp
 refine (bD.bind (R:=rD X.K) pp).imp fun v H1 ⟨ρ1,d,hd1,e1,rs1,rv,p1⟩ => ?_
 refine⟨ρ1,σd,hd1,rs1,(bD.bind (R:=rD X.K) p1).imp fun w H2 ⟨ρ2,k,hd2,e2,rs2,rw',p2⟩ => ?_⟩
 cases d<;>try exact p2.elim
 cases k<;>try exact p2.elim
 simp only [rD,RD] at rv rw'
 subst rv rw'
 exact⟨_,_,rfl,p2.here rs2 (by simp only [rD,RD])⟩
end
section
variable {prog:Program} {w:World} {A:Around} {E:ZY} {s:Shared}
end
section
variable {X:Cx} {pos p:Pos}
end
end Fm
namespace Fm
open PySem PySem.Spec L2
open AutoSeq1 (wpAny_loadPart')
open PyProof.Rows (Call_)
def ItL (K:ZX) (a:Addr):It :=
 ⟨fun i H=>∃ xs x,SqL K H a xs∧xs[i]? = some x,fun i H x H'=>∃ q v,x=.ref q∧H q=none∧H'=upd H q (.tup [.int (i:Nat),v]) ∧ ∀ xs,SqL K H a xs→xs[i]? = some v,fun i H=>∃ xs,SqL K H a xs∧xs.length=i⟩
theorem wF {P:Program}{w:World}{K:ZX}{elts:YJ}{k:Nat}{pos:Pos}(e it a:Addr):vY P w K (.Tuple elts k pos) (ItL K a) [e,it] e (fun i h=>(∃ old,IsEnum h e it (i:Nat) old)∧h.IsListIter it a i) where
 mem:=by simp
 obj:=fun i h st b hb=>by
  obtain⟨⟨old,he⟩,o,ho,hc,hd⟩:=st
  rcases YQ hb with rfl|hb
  ·exact⟨_,he,fun v z=>by
    have z':Data.fields _=Data.cell v:=z
    cases z'⟩
  ·have:b=it:=by simpa using hb
   subst this
   exact⟨o,ho,fun v z=>by rw [hd] at z;cases z⟩
 keep:=fun i h h' st kk=>by
  obtain⟨⟨old,he⟩,st⟩:=st
  exact⟨⟨old,kk e (by simp) _ he⟩,st.at fun o x=>kk it (by simp) o x⟩
 item:=by
  intro X hP hw hK hc i pins s σ H E I hf st hg
  subst hP hw hK
  obtain⟨⟨old,he⟩,hit⟩:=st
  obtain⟨xs,x,hq,hx⟩:=hg
  obtain⟨its,rv,p,hz⟩:=I.list hq
  have ht:s.heap.IsList a its.toArray:=p.isList
  obtain⟨oi,hoi,hci,hdi⟩:=id hit
  obtain⟨oa,hoa,hca,na,hda⟩:=id ht
  have hei:e≠it:=fun z=>by
   subst z
   have he':s.heap.get? e=_:=he
   rw [hoi] at he';cases he';exact uB hci (by decide)
  have hea:e≠a:=fun z=>by
   subst z
   have he':s.heap.get? e=_:=he
   rw [hoa] at he';cases he';exact uB hca (by decide)
  have hai:a≠it:=fun z=>by
   subst z
   rw [hoi] at hoa;cases hoa;rw [hci] at hca;exact uB hca (by decide)
  obtain⟨e0,e1,e2,e3,e4,e5⟩:=hf e (by simp)
  obtain⟨f0,f1,f2,f3,f4,f5⟩:=hf it (by simp)
  have hlt:i < its.toArray.size:=by
   have:=(YO hx).1
   have hl:=rv.length
   simp;omega
  refine wpAny_pyNext_enum_itemD (Draws.list (prog:=X.prog) (w:=X.w) (A:=X.A.in1) (I.ok.hd hc) it a hai its.toArray) he ⟨hit,ht⟩ hlt hei (by simp;exact⟨hei,hea⟩) fun y h' tk hy heo hst' htup hsz hk => ?_
  refine⟨_,rfl,wpAny_letOwnedTupleGo_enum heo fun h2 he2 hs2 => ?_⟩
  replace hs2:Heap.SameBut e h' h2:=hs2
  obtain⟨u,hu,ru⟩:=rv.get hx
  have hyu:y=u:=by
   have:its.toArray[i]? = some u:=by simpa using hu
   rw [hy] at this;exact ZT this
  subst hyu
  have elt:e < s.heap.objs.size:=ZI he
  have ilt:it < s.heap.objs.size:=ZI hoi
  have hN:H s.heap.objs.size=none:=I.hok.fresh (ZL _)
  have keep:∀ b o,b≠e→b≠it→s.heap.get? b=some o→h2.get? b=some o:=fun b o b1 b2 q=>(hs2.2 b b1).trans (hk b o b1 b2 q)
  have htup2:h2.get? s.heap.objs.size=some { cls:=.type "tuple",data:=.seq #[.int i tk,y] }:=(hs2.2 _ (Nat.ne_of_gt elt)).trans htup
  have nch:∀ b,b∉([e,it] : YH)→b≠e∧b≠it:=fun b hb=>by simpa using hb
  refine⟨.ref s.heap.objs.size,upd H s.heap.objs.size (.tup [.int (i:Nat),x]),?_,rfl,⟨_,x,rfl,hN,rfl,fun ys hys=>by rw [I.list_inj hys hq];exact hx⟩,⟨⟨_,by simpa using he2⟩,hst'.1.extBut hs2.extBut (Ne.symm hei)⟩,fun b hb => ?_⟩
  ·suffices I2:L2.Inv X pins σ (upd H s.heap.objs.size (.tup [.int (i:Nat),x])) { s with heap:=h2,gens:=s.gens,drawn:=s.drawn,toks:=tk + 1 } from I2
   refine I.step (g':=s.gens) (d':=s.drawn) (t':=tk + 1) (ch:=[e,it]) (fun b hb => ?_) (fun b o _ _ hb q _=>keep b o (nch b hb).1 (nch b hb).2 q) (fun b o _ _ hb q _=>⟨o.slots,keep b o (nch b hb).1 (nch b hb).2 q⟩) (fun b o _ q n => ?_) (fun b o hb q=>⟨o,keep b o (nch b hb).1 (nch b hb).2 q⟩)
    (fun b ys q => ?_) (fun b o u q => ?_) (fun b ps q=>⟨#[],?_⟩) (fun m hm => ?_) (fun b u q => ?_) I.bare
   ·rcases YQ hb with rfl|hb
    ·exact⟨e3,e1,e4,e5⟩
    ·have:b=it:=by simpa using hb
     subst this
     exact⟨f3,f1,f4,f5⟩
   ·rw [aC (ZN (ZI q))];exact n
   ·rw [aC (bg q hN)];exact q
   ·rw [aC (bg q hN)];exact q
   ·rw [aC (bg q hN),q];simp
   ·obtain⟨o,es,ep,ho,r⟩:=hm
    exact⟨o,es,ep,keep _ o (Ne.symm e1) (Ne.symm f1) ho,r⟩
   ·by_cases hb:b=s.heap.objs.size
    ·subst hb
     rw [aS] at q
     cases q
     exact⟨by show 2≤sizeLine;rw [sizeLine_eq];decide,[.int i tk,y],.cons ⟨tk,rfl⟩ (.cons ru .nil),_,htup2,rfl,_,rfl⟩
    ·rw [aC hb] at q
     have ne1:∀ c v,H c=some v→c≠e:=fun c v z w=>by rw [w,e0] at z;cases z
     have ne2:∀ c v,H c=some v→c≠it:=fun c v z w=>by rw [w,f0] at z;cases z
     refine (I.hok b u q).stay (fun c v hc' z => ?_) (fun c z=>by rw [aC (bg z hN)];exact z) fun c ys z=>by rw [aC (bg z hN)];exact z
     rcases hc' with w|w
     ·subst w;exact keep c v (ne1 c _ q) (ne2 c _ q) z
     ·exact keep c v (ne1 c _ w) (ne2 c _ w) z
  ·have:b≠s.heap.objs.size:=by
    rcases YQ hb with rfl|hb
    ·exact ZN elt
    ·have:b=it:=by simpa using hb
     subst this
     exact ZN ilt
   rw [aC this]
   exact (hf b hb).1
 done:=by
  intro X hP hw hK hc i pins s σ H E I hf st hg
  subst hP hw hK
  obtain⟨⟨old,he⟩,hit⟩:=st
  obtain⟨xs,hq,hx⟩:=hg
  obtain⟨its,rv,p,hz⟩:=I.list hq
  have ht:s.heap.IsList a its.toArray:=p.isList
  obtain⟨oi,hoi,hci,hdi⟩:=id hit
  obtain⟨oa,hoa,hca,na,hda⟩:=id ht
  have hai:a≠it:=fun z=>by
   subst z
   rw [hoi] at hoa;cases hoa;rw [hci] at hca;exact uB hca (by decide)
  obtain⟨f0,f1,f2,f3,f4,f5⟩:=hf it (by simp)
  have hsz:its.toArray.size=i:=by have:=rv.length;simp;omega
  refine wpAny_pyNext_enum_endD (Draws.list (prog:=X.prog) (w:=X.w) (A:=X.A.in1) (I.ok.hd hc) it a hai its.toArray) he ⟨by rw [hsz];exact hit,ht⟩ fun h' hx'=>⟨rfl,I.turned (t':=s.toks) (fun b o hb e=>hx' b o hb e) f0 f1 f3 f4 f5⟩
 self:=fun _ _ _ _ _ st h=>by
  obtain⟨⟨old,he⟩,_⟩:=st
  exact wpAny_pyIter_enum he h
section
variable {X:Cx} {pos p tp:Pos} {elts:YJ} {tk:Nat}
def IX (K:ZX) (ta:TE):TI:=fun σ H R=>ta σ H fun x H1=>∃ a xs,x=.ref a∧SqL K H1 a xs∧(xs.length≤sizeLine→R (ItL K a) H1)
theorem BD {a:Expr} {ta:TE} (hg:Gl X "enumerate") (hm:X.mg "enumerate" = none) (ha:PE X a ta) (hs:starEach [a] X.env=[(false,eval a X.env)]:=by rfl):PI X (.Tuple elts tk tp) (.Call (.Name "enumerate" p) [a] [] pos) (IX X.K ta):=by
 intro pins s σ H R I h
 have hpa:=bW ha dy hs
 refine Call_ (ma I hg hm PyProof.Rows.boot_enumerate (PyProof.Rows.callWith_type1 (thn (hpa pos pins s σ H (fun vs H1=>∃ a xs,vs=[.ref a]∧SqL X.K H1 a xs∧(xs.length≤sizeLine→R (ItL X.K a) H1)) I ?_) fun us s1 ⟨vs,H1,I1,r1,q1⟩ => ?_) hs rfl))
 ·show ta σ H fun x H1=>_
  have key:∀ (x:V) (H1:Hp),(∃ a xs,x=.ref a∧SqL X.K H1 a xs∧(xs.length≤sizeLine→R (ItL X.K a) H1))=(∃ a xs,[x] = [.ref a]∧SqL X.K H1 a xs∧(xs.length≤sizeLine→R (ItL X.K a) H1)):=fun x H1=>by simp
  have h':ta σ H fun x H1=>∃ a xs,x=.ref a∧SqL X.K H1 a xs∧(xs.length≤sizeLine→R (ItL X.K a) H1):=h
  simp only [key] at h'
  exact h'
 ·obtain⟨a,xs,e,hq,q⟩:=q1
  subst e
  obtain⟨u,rfl,ru⟩:=aV.one r1
  cases (show u=Value.ref a from ru)
  obtain⟨its,rv,pt,hz⟩:=I1.list hq
  refine call_enumerate_list (show s1.heap.IsList a its.toArray from pt.isList) fun h' he hit hsz hk => ?_
  refine wpAny_pyIter_enum (s:={ s1 with heap:=h' }) he ?_
  have I2:Inv X pins σ H1 { s1 with heap:=h' }:=I1.kept (t':=s1.toks) hk
  refine⟨s1.heap.objs.size + 1,[s1.heap.objs.size + 1,s1.heap.objs.size],_,_,H1,rfl,I2,wF (s1.heap.objs.size + 1) s1.heap.objs.size a,⟨⟨_,by simpa using he⟩,hit⟩,fun b hb => ?_,q hz⟩
  have hb':s1.heap.objs.size≤b:=by
   rcases YQ hb with e|hb
   ·rw [e];exact Nat.le_succ _
   ·have:b=s1.heap.objs.size:=by simpa using hb
    rw [this];exact ZL _
  exact I1.fpOk hb' (I1.hok.fresh hb')
theorem wG {K:ZX}{ρ:YH}{H:Hp}{n:Nat}{q:Addr}{l:List D}(hq : ρ[n]? = some q)(hz:(fU l).length≤sizeLine):uz K ρ H (ItL K q) (fU l) (fun h=>h[n]? = some (.lst l)) where
 go:=fun ρ' H' hd' i d ex rh hh hi=>by
  have hq':=ex.get hq
  obtain⟨vs,hv,rvs⟩:=rh.cel n _ q hh hq'
  unfold fU at hi
  obtain⟨hil,hi2⟩:=YO hi
  have hl:i < l.length:=by simpa using hil
  have hd:d=.tup [.int (i:Nat),l[i]]:=by rw [← hi2];simp
  subst hd
  obtain⟨v,hvi,rd⟩:=rvs.get (i:=i) (d:=l[i]) (by simp [hl])
  have sq:SqL K H' q vs:=SqL.of hv
  refine⟨⟨vs,v,sq,hvi⟩,fun x H2 y => ?_⟩
  obtain⟨q2,v2,rfl,hn,rfl,y⟩:=y
  have:=y vs sq
  rw [hvi] at this
  cases this
  have sm:=bT (o:=HO.tup [.int (i:Nat),v]) hn
  refine⟨sm,?_⟩
  simp only [RD]
  exact⟨q2,_,rfl,aS,RDs.cons (by simp only [RD]) (RDs.cons (rd.mono (Kp.same sm)) RDs.nil)⟩
 stop:=fun ρ' H' hd' ex rh hh=>by
  have hq':=ex.get hq
  obtain⟨vs,hv,rvs⟩:=rh.cel n _ q hh hq'
  exact⟨vs,SqL.of hv,by rw [← rvs.length];simp [fU]⟩
 sz:=hz
def BE (K:ZX) (ρ:YH) (H:Hp) (σd:Sd) (σ:St) (r:Res D) (R:It→Hp→Prop):Prop:=match r with
 | .ok (.ref n) hd'=>match hd'[n]? with
  | some (.lst l)=>∀ J H' ρ',Ext ρ H ρ' H'→RS K ρ' H' σd hd' σ → uz K ρ' H' J (fU l) (fun h=>h[n]? = some (.lst l))→R J H'
  | _=>False
 | _=>False
def HS (K:ZX) (f:EF):TI:=fun σ H R=>∃ ρ σd hd,RS K ρ H σd hd σ ∧ BE K ρ H σd σ (f σd hd) R
def MIE (X:Cx) (tg e:Expr) (f:EF):Prop:=PI X tg e (HS X.K f)
theorem BF {a:Expr} {f:EF} (hg:Gl X "enumerate") (hm:X.mg "enumerate" = none) (ha:ME X a f) (hs:starEach [a] X.env=[(false,eval a X.env)]:=by rfl):MIE X (.Tuple elts tk tp) (.Call (.Name "enumerate" p) [a] [] pos) f:=by
 refine PI.imp (BD hg hm ha hs) fun σ H R ⟨ρ,σd,hd,rs,pp⟩=>⟨ρ,σd,hd,rs,?_⟩
 unfold BE at pp
 cases e:f σd hd with
 | exc x h1=>rw [e] at pp;exact pp
 | bad=>rw [e] at pp;exact pp
 | ok d hd1 =>
  rw [e] at pp
  intro v H1 ρ1 ex1 rs1 rv
  cases d<;>try exact pp.elim
  rename_i n
  cases c1:hd1[n]? with
  | none=>simp only [c1] at pp
  | some cell =>
   simp only [c1] at pp
   cases cell with
   | dct l=>exact pp.elim
   | lst l =>
    simp only at pp
    simp only [rD,RD] at rv
    obtain⟨q,hq,rfl⟩:=rv
    obtain⟨vs,hv,rvs⟩:=rs1.hp.cel n _ q c1 hq
    exact⟨q,vs,rfl,SqL.of hv,fun hz=>pp _ H1 ρ1 ex1 rs1 (wG hq (by rw [show (fU l).length=vs.length by rw [← rvs.length];simp [fU]];exact hz))⟩
end
section
variable {X:Cx} {pos:Pos} {tg:Expr}
end
end Fm
namespace Fm
end Fm
namespace Fm
open PySem PySem.Spec L2
open PyProof.Rows (Call_)
section
variable {X:Cx} {pos p p2 pos2:Pos}
end
end Fm
namespace Fm
end Fm
namespace Fm
noncomputable section
open Classical
@[simp] def oN (nl:Nat) (caps:List Nat) (a:EF) (tg:GF) (cs:List TF) (e:EF):LF:=fun σ h=>match a σ h with
 | .ok (.ref n) h=>match h[n]? with
  | some (.lst l)=>eJ (fun h=>h[n]? = some (.lst l)) tg cs e (fU l) (fK nl caps σ) h
  | _=>.bad
 | .ok _ _=>.bad
 | .exc x h=>.exc x h
 | .bad=>.bad
end
@[simp] def oO (x:EF) (L:LF):EF:=fun σ h=>(x σ h).bind fun p h=>match p with
 | .ref n=>match h[n]? with
  | some (.lst _)=>(L σ h).bind fun ds h=>match h[n]? with
   | some (.lst l)=>if l.length + ds.length≤SZ then .ok .non (h.set n (.lst (l++ds))) else .bad
   | _=>.bad
  | _=>.bad
 | _=>.bad
theorem oP {G:Hd→Prop}{tg:GF}{cs:List TF}{e:EF}{h:Hd}(I:Sd→Prop)(p:D→Bool)(f:D→D)(hh:G h) :
  ∀ {xs:List D} {σ:Sd},(∀ x∈xs,∀ σ,I σ → ∃ σ',tg x σ = some σ'∧I σ'∧eF cs σ' h=.ok (p x) h∧(p x=true→e σ' h=.ok (f x) h))→I σ →
   eJ G tg cs e xs σ h=.ok ((xs.filter p).map f) h
 | [],_,_,_=>by simp [eJ,hh]
 | x :: xs,σ,st,i=>by
  obtain⟨σ',h1,h2,h3,h4⟩:=st x (by simp) σ i
  have ih:=oP I p f hh (xs:=xs) (σ := σ') (fun y hy=>st y (by simp [hy])) h2
  cases hp:p x with
  | true=>simp [eJ,hh,h1,h3,hp,h4 hp,ih]
  | false=>simp [eJ,hh,h1,h3,hp,ih]
end Fm
namespace Fm
open PySem PySem.Spec L2
section
variable {X:Cx} {pos:Pos} {scope:Scope} {own capn:YI} {caps:List Nat}
theorem BG {i:Nat}{x:Str}{pos':Pos}{elt tg iter:Expr}{ifs:YJ}{f:EF}{g:GF}{cs:List TF}{e:EF}{cpos:Pos}(hN:X.N.Nodup)(hi':X.N[i]? = some x)(hx:Loc X.env.scope x)(hc:X.calm=true)(S:bL X scope own capn caps)(hi:MIE X tg iter f)
  (hin:∀ cl C s H ex,MG (cxC X (own++capn) scope cl C s H ex) tg g∧MTs (cxC X (own++capn) scope cl C s H ex) ifs cs∧ME (cxC X (own++capn) scope cl C s H ex) elt e)
  (hsw:swapsWith (.ListComp elt [⟨tg,iter,ifs,0⟩] scope cpos) (some (.Name x pos')) pos.line X.env=pure true:=by rfl)
  (hs:∀ x,foldedSetIterable iter X.env x=pure x:=by intro _;rfl) (hf':X.fn x=true∨X.env.scope.names.lookup x=some .local:=by first|exact .inl rfl|exact .inr rfl|assumption) :
  MS X (.Assign [.Name x pos'] (.ListComp elt [⟨tg,iter,ifs,0⟩] scope cpos) pos) (aP (gN i) (aQ (oN own.length caps f g cs e))):=by
 intro pins s σ H En I ⟨ρ,σd,hd,rs,p⟩
 rw [exec_Assign_Name_used _ _ _ _ hsw]
 refine YW (wpAny_standAt ?_)
 show wpAny _ _ ((comprehension _ scope X.env _ (newList []) _ _ _ >>= fun _=>pure ()) >>= fun _=>pure Flow.next) _ _ _
 have p1:=cw.outE (σ := σ) p
 unfold aQ oN at p1
 cases c:f σd hd with
 | exc z h7=>rw [c] at p1;exact p1.elim
 | bad=>rw [c] at p1;exact p1.elim
 | ok d hd1 =>
  rw [c] at p1
  cases d<;>try exact p1.elim
  rename_i n
  simp only at p1
  cases c1:hd1[n]? with
  | none=>rw [c1] at p1;exact p1.elim
  | some cell =>
   rw [c1] at p1
   cases cell with
   | dct l=>exact p1.elim
   | lst l0 =>
    simp only at p1
    obtain⟨cl,h1,hcl1,hcl2⟩:=ku (scope:=scope) (env:=X.env) fun y hy hyf=>I.ok.has y.1 (S.free y hy hyf)
    refine YW (YW (wpAny_comprehension_free (Q:=fun _ s'=>wpAny (model X.prog X.w) X.A (pure ()) (fun _ s'=>wpAny (model X.prog X.w) X.A (pure Flow.next) (SP X pins En) X.xe s') X.xe s') (use:=some (assign (.Name x pos') X.env)) rfl hs h1 S.kind S.names (thn (hi pins s σ H (fun J H1=>∃ ρ1,Ext ρ H ρ1 H1∧RS X.K ρ1 H1 σd hd1 σ ∧ uz X.K ρ1 H1 J (fU l0) (fun h=>h[n]? = some (.lst l0))) I ⟨ρ,σd,hd,rs,by
     unfold BE
     rw [c]
     simp only [c1]
     exact fun J H' ρ' ex rs' wk=>⟨ρ',ex,rs',wk⟩⟩) fun v s1 h1=>thn h1 fun itv s2 h2 => ?_)))
    obtain⟨it,fp,tn,J,H1,rfl,I1,T,st0,hf,ρ1,ex1,rs1,wk⟩:=h2
    generalize hG:(fun h:Hd=>h[n]? = some (.lst l0))=G at p1 wk
    cases c2:eJ G g cs e (fU l0) (fK own.length caps σd) hd1 with
    | exc z h7=>rw [c2] at p1;exact p1.elim
    | bad=>rw [c2] at p1;exact p1.elim
    | ok ds hdF =>
     rw [c2] at p1
     simp only [aA] at p1
     by_cases hz:ds.length≤SZ
     ·rw [if_pos hz] at p1
      refine mC (RR:=fun acc C=>compPost (model X.prog X.w) X.A X.xe (some (assign (.Name x pos') X.env)) _ acc C) hc S hin I1 T st0 hf rs1 wk hcl1 hcl2 c2 fun C s' m H' ρ' vs hC hn I' hCn ex rh hD0 hD hnD rds => ?_
      refine wpAny_assign_Name (l9 I' hN hi' hx (v:=.ref s2.heap.objs.size) rfl (fun s'' I'' hsb => ?_) hf')
      have hCl:C≠X.env.locals:=Nat.ne_of_gt (Nat.lt_trans I1.lt hC)
      have hCc:∀ y c,X.env.cells.lookup y=some c→c≠C:=fun y c e z=>by
       obtain⟨v,o,ho,hd⟩:=I1.cell y c e
       exact absurd (Nat.lt_trans (ZI ho) hC) (by rw [z];exact Nat.lt_irrefl _)
      refine⟨m,?_,fun h' sb=>YX (YX ?_)⟩
      ·obtain⟨a,sa,ha⟩:=hsb
       refine hn.sameBut sa ?_
       rcases ha with z|z
       ·rw [z];exact hCl
       ·exact Ne.symm (hCc _ _ z)
      ·have I3:Inv X pins (σ.set i (some (.ref s2.heap.objs.size))) H' { s'' with heap:=h' }:=I''.turned (it:=C) (t':=s''.toks) (fun b o hb e=>(sb.2 b hb).trans e) hCn hCl (.inr (Nat.le_of_lt (ZS I1.sz hC))) hCc fun q hq z =>
        absurd (Nat.lt_trans (ZI (I1.pin q hq).1) hC) (by rw [z];exact Nat.lt_irrefl _)
       have ex':Ext ρ H ρ' H':=ex1.trans ex
       have rh':=rh.alloc hD hnD rds
       have hH0:H s2.heap.objs.size=none:=ex1.fresh hD0 (rs1.hp.free hD0)
       have exA:Ext ρ H (ρ'++[s2.heap.objs.size]) H':=⟨by obtain⟨t,rfl⟩:=ex'.pre;exact⟨t++[s2.heap.objs.size],by simp⟩,fun a ha=>by
        rcases YS ha with z|z
        ·exact ex'.new a z
        ·simp at z;subst z;exact .inr hH0,ex'.frame⟩
       obtain⟨ρ2,d2,hd2,e2,rs2,rd2,pn⟩:=p1 (.ref s2.heap.objs.size) H' (ρ'++[s2.heap.objs.size]) exA (rs.ext exA rh') (by
        simp only [rD,RD]
        refine⟨s2.heap.objs.size,?_,rfl⟩
        rw [← rh.len]
        simp)
       exact⟨_,H',I3,pn _ H' ρ2 Ext.refl ⟨rs2.hp,rs2.st.set i rd2⟩⟩
     ·rw [if_neg hz] at p1;exact p1.elim
end
section
variable {X:Cx}
theorem yr {o e:Expr} {fo:EF} {L:LF} {apos cpos:Pos} (ho:ME X o fo) (he:MF X e L) (hbase:attributeBase o "extend" X.env (eval o X.env)=eval o X.env:=by rfl)
  (hfew:((backTo cpos (starEach [e] X.env)).all (fun x => !x.1) && (backToKw cpos (keywordEach [] X.env)).all (fun x=>x.1.isSome)
   && decide (([e] : YJ).length + ([] : List Keyword).length + (if ([] : List Keyword).isEmpty then 0 else 1) < 30))=true:=by rfl)
  (hline:(apos.endLine == cpos.line)=true:=by rfl) (hs:starEach [e] X.env=(false,eval e X.env) :: starEach [] X.env:=by rfl) :
  ME X (.Call (.Attribute o "extend" apos) [e] [] cpos) (oO fo L):=by
 refine PE.imp (Az PySem.F.plainAttrs_list PySem.F.slot_list_extend PySem.F.type_list_extend zd ho (bW he dy hs) hbase hfew hline hs) fun σ H Q ⟨ρ,σd,hd,rs,pp⟩=>⟨ρ,σd,hd,rs,?_⟩
 unfold oO at pp
 refine (bD.bind (R:=rD X.K) pp).imp fun v H1 ⟨ρ1,d,hd1,e1,rs1,rv,p1⟩ => ?_
 cases d<;>try exact p1.elim
 rename_i n
 simp only [rD,RD] at rv
 obtain⟨a,ha,rfl⟩:=rv
 simp only at p1
 cases c1:hd1[n]? with
 | none=>rw [c1] at p1;exact p1.elim
 | some cell1 =>
  rw [c1] at p1
  cases cell1 with
  | dct l=>exact p1.elim
  | lst l1 =>
   obtain⟨vs,hv,_⟩:=rs1.hp.cel n _ a c1 ha
   simp only at p1
   refine⟨.inl ⟨rfl,vs,SqL.of hv⟩,ρ1,σd,hd1,rs1,?_⟩
   cases c2:L σd hd1 with
   | exc z h7=>rw [c2] at p1;exact p1.elim
   | bad=>rw [c2] at p1;exact p1.elim
   | ok ds hd2 =>
    rw [c2] at p1
    simp only [aA] at p1
    intro q ws H2 ρ2 e2 rs2 hq0 hq hn rws
    cases c:hd2[n]? with
    | none=>rw [c] at p1;exact p1.elim
    | some cell =>
     rw [c] at p1
     cases cell with
     | dct l=>exact p1.elim
     | lst l =>
      simp only at p1
      split at p1
      ·rename_i hz
       have ha2:=e2.get ha
       obtain⟨vs2,hv2,rvs2⟩:=rs2.hp.cel n _ a c ha2
       refine⟨a,q,vs2,ws,rfl,rfl,hv2,hq,?_,?_⟩
       ·rw [← rvs2.length,← rws.length];exact ZM hz (by rw [sizeLine_eq];decide)
       ·have hn:n < hd2.length:=(YO c).1
        have rh:=rs2.hp.write ha2 hn (RDs.append rvs2 rws)
        have ex:Ext ρ2 H2 ρ2 (upd H2 a (.lst (vs2++ws))):=Ext.write (ZK ha2)
        exact (p1.ext e2).at ex (rs2.ext ex rh) (by simp only [rD,RD])
      ·exact p1.elim
end
end Fm
namespace Fm
open PySem PySem.Spec L2
theorem lc {p q:Prop}(h:p∨q:=by first|exact .inl rfl|exact .inr rfl):p∨q:=h
theorem bL.a {X:Cx}{scope:Scope}{own capn:YI}{caps:List Nat}(cp:bE X scope capn caps)(k:scope.kind=.function:=by rfl)(c:∀ y∈scope.names,y.2 ≠ .cell:=by decide +kernel)(n:∀ y∈scope.names,y.2=.local→scope.names.lookup y.1=some .local:=by decide +kernel)
  (f:eZ X scope.names:=by repeat' (first|exact eZ.nil|refine eZ.cons (by first|exact (fun _=>.inl rfl)|exact (fun _=>.inr rfl)|(intro z;cases z;done)) ?_)):bL X scope own capn caps:=bL.mk' k c n f cp
section
variable {X:Cx} {pos p:Pos}
theorem aj {x:Str}{k j np:Nat}{F:Fn}{e:Expr}{es:YJ}{r:LF}(hd:Def X.prog X.w X.K X.mg X.base x k np F)(hr:ig j X.A)(ha:MA X (e :: es) r)(hj:k≤j:=by decide)(hg:Gl X x:=by rfl)(hnp:∀ ds h d h',F ds h=.ok d h'→ds.length=np:=by exact Dn)
  (hdb:(x == ("__debug__" : Str))=false:=by decide) (he:starEach (e :: es) X.env=(false,eval e X.env) :: starEach es X.env:=by rfl) (hpl:(backTo pos (starEach es X.env)).any (·.1)=false:=by rfl) :
  ME X (.Call (.Name x p) (e :: es) [] pos) (au F r):=Dm hd (hr.mono hj) hg ha hnp hdb he hpl
end
def At (K:ZX) (n:Str) (st:Stmt):Prop:=∃ (f:Addr) (od an:Option Addr) (sl:Array (YM)) (oc kV dc pm cd ct:Value),PySem.W.nsIn K mainGlobals n=some (some (.ref f))∧K.lookup f=some ⟨oc,od,.func (PySem.W.fnOf n n (dJ st) (cO st) (ax st) .none kV dc pm an cd ct),sl⟩ ∧ PySem.W.codeIn K cd n=true∧PySem.W.keepIn K (.ref f)=true
def Nb (K:ZX) (n:Str):Prop:=PySem.W.nsIn K mainGlobals n=some none
structure En (P:Program) (w:World) (K:ZX) (mg:Str→YM) (base:Heap):Prop where
 ex:∃ h:Heap,K.In h∧h.Ns mainGlobals mg
section
variable {P:Program} {w:World} {K:ZX} {mg:Str→YM} {base h:Heap} {n:Str} {st:Stmt} {ps:YI} {k np:Nat} {F:Fn}
theorem At.i {f:Addr}{od an:Option Addr}{sl:Array (YM)}{oc kV dc pm cd ct:Value}(h1:PySem.W.nsIn K mainGlobals n=some (some (.ref f)))(h2:K.lookup f=some ⟨oc,od,.func (PySem.W.fnOf n n (dJ st) (cO st) (ax st) .none kV dc pm an cd ct),sl⟩)(h3:PySem.W.codeIn K cd n=true)(h4:PySem.W.keepIn K (.ref f)=true):At K n st:=⟨f,od,an,sl,oc,kV,dc,pm,cd,ct,h1,h2,h3,h4⟩
theorem At.out (a:At K n st)(X:K.In h)(G:h.Ns mainGlobals mg):∃ f fd,mg n=some (.ref f)∧PySem.W.keepIn K (.ref f)=true∧Fun K n n st f fd:=by
 obtain⟨f,od,an,sl,oc,kV,dc,pm,cd,ct,h1,h2,h3,h4⟩:=a
 exact⟨f,_,PySem.W.mg_of X G h1,h4,AB (st:=st) h2 h3 h4⟩
theorem At.df (a:At K n st)(q:En P w K mg base)(ok:∀ {f fd},Fun K n n st f fd→bR P w K mg base CX0 k f fd ps (spF K F np))
  (hb:∀ (kV doc pm:Value) (an:Option Addr) (cdv ct:Value) (us:YG),us.length=ps.length→bindArgs (PySem.W.fnOf n n (dJ st) (cO st) (ax st) .none kV doc pm an cdv ct) ⟨us,[]⟩ = pure (ps.zip us)):Def P w K mg base n k np F:=by
 obtain⟨h,X,G⟩:=q.ex
 obtain⟨f,fd,h1,h2,U⟩:=a.out X G
 exact Def.mk' h1 h2 (U.binds hb) (ok U)
theorem At.df1 (a:At K n st)(q:En P w K mg base)(ok:∀ {f fd},Fun K n n st f fd→bR P w K mg base CX0 k f fd ps (spF K F np))(hl:ps.length=1:=by rfl)
  (hb:∀ (kV doc pm:Value) (an:Option Addr) (cdv ct a:Value),bindArgs (PySem.W.fnOf n n (dJ st) (cO st) (ax st) .none kV doc pm an cdv ct) ⟨[a],[]⟩ = pure (ps.zip [a]):=by intros;rfl):Def P w K mg base n k np F :=
 a.df q ok fun kV doc pm an cdv ct us h=>match us,h.trans hl with | [a],_=>hb kV doc pm an cdv ct a
theorem At.df2 (a:At K n st)(q:En P w K mg base)(ok:∀ {f fd},Fun K n n st f fd→bR P w K mg base CX0 k f fd ps (spF K F np))(hl:ps.length=2:=by rfl)
  (hb:∀ (kV doc pm:Value) (an:Option Addr) (cdv ct a b:Value),bindArgs (PySem.W.fnOf n n (dJ st) (cO st) (ax st) .none kV doc pm an cdv ct) ⟨[a,b],[]⟩ = pure (ps.zip [a,b]):=by intros;rfl):Def P w K mg base n k np F :=
 a.df q ok fun kV doc pm an cdv ct us h=>match us,h.trans hl with | [a,b],_=>hb kV doc pm an cdv ct a b
theorem At.df3 (a:At K n st)(q:En P w K mg base)(ok:∀ {f fd},Fun K n n st f fd→bR P w K mg base CX0 k f fd ps (spF K F np))(hl:ps.length=3:=by rfl)
  (hb:∀ (kV doc pm:Value) (an:Option Addr) (cdv ct a b c:Value),bindArgs (PySem.W.fnOf n n (dJ st) (cO st) (ax st) .none kV doc pm an cdv ct) ⟨[a,b,c],[]⟩ = pure (ps.zip [a,b,c]):=by intros;rfl):Def P w K mg base n k np F :=
 a.df q ok fun kV doc pm an cdv ct us h=>match us,h.trans hl with | [a,b,c],_=>hb kV doc pm an cdv ct a b c
theorem At.df4 (a:At K n st)(q:En P w K mg base)(ok:∀ {f fd},Fun K n n st f fd→bR P w K mg base CX0 k f fd ps (spF K F np))(hl:ps.length=4:=by rfl)
  (hb:∀ (kV doc pm:Value) (an:Option Addr) (cdv ct a b c d:Value),bindArgs (PySem.W.fnOf n n (dJ st) (cO st) (ax st) .none kV doc pm an cdv ct) ⟨[a,b,c,d],[]⟩ = pure (ps.zip [a,b,c,d]):=by intros;rfl):Def P w K mg base n k np F :=
 a.df q ok fun kV doc pm an cdv ct us h=>match us,h.trans hl with | [a,b,c,d],_=>hb kV doc pm an cdv ct a b c d
theorem At.df5 (a:At K n st)(q:En P w K mg base)(ok:∀ {f fd},Fun K n n st f fd→bR P w K mg base CX0 k f fd ps (spF K F np))(hl:ps.length=5:=by rfl)
  (hb:∀ (kV doc pm:Value) (an:Option Addr) (cdv ct a b c d e:Value),bindArgs (PySem.W.fnOf n n (dJ st) (cO st) (ax st) .none kV doc pm an cdv ct) ⟨[a,b,c,d,e],[]⟩ = pure (ps.zip [a,b,c,d,e]):=by intros;rfl):Def P w K mg base n k np F :=
 a.df q ok fun kV doc pm an cdv ct us h=>match us,h.trans hl with | [a,b,c,d,e],_=>hb kV doc pm an cdv ct a b c d e
theorem fsc {N P:YI}{sc:Scope}(h1:sc.kind=.function:=by rfl)(h2:sc.isCoroutine=false:=by rfl)(h3:sc.isGenerator=false:=by rfl)(h4:N.Nodup:=by decide +kernel)(h5:N.take P.length=P:=by rfl)(h6:∀ x∈P,sc.names.lookup x=some .local ∨sc.names.lookup x=some .cell:=by decide +kernel)(h7:∀ y∈sc.names,y.2 ≠ .free:=by decide +kernel):aI N P sc:=⟨h1,h2,h3,h4,h5,h6,h7⟩
end
end Fm
namespace Fm
open PySem PySem.Spec L2 PySem.W PyProof.Rows
section
variable {X:Cx} {pos p:Pos}
end
end Fm
namespace Fm
def wH (x:Int):YF→YF
 | []=>[x]
 | y :: r=>if x≤y then x :: y :: r else y :: wH x r
def cZ:YF→YF
 | []=>[]
 | x :: r=>wH x (cZ r)
theorem mG (x:Int):∀ r,(wH x r).Perm (x :: r)
 | []=>.refl _
 | y :: r=>by
  unfold wH
  split
  ·exact .refl _
  ·exact ((mG x r).cons y).trans (.swap x y r)
theorem kB:∀ r,(cZ r).Perm r
 | []=>.refl _
 | x :: r=>(mG x _).trans ((kB r).cons x)
theorem qM {x:Int}:∀ {r:YF},r.Pairwise (· ≤ ·)→(wH x r).Pairwise (· ≤ ·)
 | [],_=>by simp [wH]
 | y :: r,h=>by
  obtain⟨h1,h2⟩:=List.pairwise_cons.mp h
  unfold wH
  split
  ·rename_i c
   refine List.pairwise_cons.mpr ⟨fun b hb => ?_,h⟩
   rcases YQ hb with e|hb
   ·rw [e];exact c
   ·exact Int.le_trans c (h1 b hb)
  ·rename_i c
   refine List.pairwise_cons.mpr ⟨fun b hb => ?_,qM h2⟩
   rcases YQ ((mG x r).mem_iff.mp hb) with e|hb
   ·rw [e];omega
   ·exact h1 b hb
theorem oQ:∀ {r:YF},(cZ r).Pairwise (· ≤ ·)
 | []=>by simp [cZ]
 | x :: r=>qM oQ
theorem zu {a r:YF}(p:a.Perm r)(h:a.Pairwise (· ≤ ·)):a=cZ r :=
 List.Perm.eq_of_pairwise (fun x y _ _ h h'=>Int.le_antisymm h h') h oQ (p.trans (kB r).symm)
@[simp] def bu (L:LF):LF:=fun σ h=>(L σ h).bind fun l h=>match dR l with
 | some xs=>if xs.length < 64 then .ok ((cZ xs).map .int) h else .bad
 | none=>.bad
end Fm
namespace Fm
noncomputable section
open Classical
end
end Fm
namespace Fm
open PySem PySem.Spec L2
open PyProof.Rows (Call_)
section
variable {prog:Program} {w:World} {A:Around} {E:ZY} {s:Shared}
end
section
variable {La Lb:Bool} {prog:Program} {w:World} {A:Around} {E:ZY} {s:Shared} {z TI TO i1 i2 l1 l2:Addr} {k:Nat} {xs ys:YK} {a b:Value}
end
section
variable {La Lb:Bool} {prog:Program} {w:World} {A:Around} {E:ZY} {s:Shared}
end
section
variable {X:Cx} {pos p tp:Pos} {elts:YJ} {tk:Nat}
end
section
variable {X:Cx} {pos:Pos} {tg:Expr}
end
end Fm
namespace Fm
open PySem PySem.Spec L2 PySem.W PyProof.Rows
section
variable {prog:Program} {w:World} {A:Around} {E:ZY} {s:Shared}
theorem BH {it:Addr} {T:String} {o:Obj} {vs:YG} {ns:YF} {n:Nat} {Q:ZY} (hT:T = "list" ∨T = "tuple") (ho:s.heap.get? it=some o) (hc:o.cls=.type T) (hd:o.data=.seq vs.toArray n) (hi:IntsAre vs ns) (h64:vs.length < 64)
  (h:∀ (h1 h':Heap) (e:Nat) (vs':YG) (ns':YF),(∀ b u,s.heap.get? b=some u→h1.get? b=some u)→(∀ b u,h1.get? b=some u→h'.get? b=some u)→h'.get? h1.objs.size=some (seqObj "list" vs'.toArray e)→IntsAre vs' ns'→ns'.Perm ns→ns'.Pairwise (· ≤ ·)→Q (.ref h1.objs.size) { s with heap:=h' }) :
  wpAny (model prog w) A (call (.builtin "sorted") [.ref it]) Q E s:=by
 refine Calls.call_function_entry kind_sorted plain_sorted entry_sorted (args_sorted1 _) ?_
 unfold Builtin.«sorted»
 refine YW (m:=checkCount "sorted" 1 1 _) (YX ?_)
 refine YW (wpAny_collect_seq it hT ho hc hd (fun h1 k1 => ?_) (by rw [List.size_toArray,sizeLine_eq];omega))
 have et:vs.toArray.toList=vs:=by simp
 rw [et]
 refine YW (wpAny_newList ?_ (by rw [sizeLine_eq];omega))
 have hoL:(h1.push (seqObj "list" vs.toArray 0)).get? h1.objs.size=some (seqObj "list" vs.toArray 0):=ZJ _ rfl
 have keep:∀ b u,h1.get? b=some u→(h1.push (seqObj "list" vs.toArray 0)).get? b=some u:=fun b u q=>ZH _ q
 show wpAny _ _ _ _ _ { s with heap:=h1.push (seqObj "list" vs.toArray 0) }
 show wpAny _ _ (holding [Value.ref h1.objs.size] _ >>= fun _=>_) _ _ { s with heap:=h1.push (seqObj "list" vs.toArray 0) }
 generalize hG:h1.push (seqObj "list" vs.toArray 0)=G at hoL keep
 have hGs:G.objs.size=h1.objs.size + 1:=by rw [← hG,size_push']
 refine YW (wpAny_holding (wpAny_call_entry slot_list_sort (s:={ s with heap:=G }) ⟨_,hoL,rfl⟩ entry_list_sort (list_sort_tree hoL hi h64 fun out ns' i' p' r'=>⟨_,rfl,?_⟩) (args_list_sort _)))
 refine YX ⟨_,rfl,?_⟩
 have hlt1:h1.objs.size < G.objs.size:=by omega
 obtain⟨e1,ho1⟩ : ∃ e1,(G.update h1.objs.size (Obj.mapSeq fun _ => #[])).get? h1.objs.size=some (seqObj "list" #[] e1):=⟨_,get?_update_seq hoL (fun _ => #[])⟩
 have ho6:(((G.update h1.objs.size (Obj.mapSeq fun _ => #[])).push (seqObj "tuple" vs.toArray 0)).push (seqObj "list" #[] 0)).get? h1.objs.size=some (seqObj "list" #[] e1):=by
  rw [Heap.get?_push_ne _ _ _ (by rw [size_push',Heap.size_update];exact ZN (Nat.lt_succ_of_lt hlt1)),Heap.get?_push_ne _ _ _ (by rw [Heap.size_update];exact ZN hlt1)]
  exact ho1
 have fin:=get?_update_seq ho6 (fun _=>out)
 refine h h1 (sortedHeap G h1.objs.size vs out) _ out.toList ns' k1 (fun b u q => ?_) (by unfold sortedHeap;simpa using fin) i' p' r'
 have hlt:b < h1.objs.size:=ZI q
 have n1:b≠h1.objs.size:=ZN hlt
 have n2:b < G.objs.size:=Nat.lt_trans hlt hlt1
 unfold sortedHeap
 rw [Heap.get?_update_ne _ _ _ _ n1,Heap.get?_push_ne _ _ _ (by rw [size_push',Heap.size_update];exact ZN (Nat.lt_succ_of_lt n2)),Heap.get?_push_ne _ _ _ (by rw [Heap.size_update];exact ZN n2),Heap.get?_update_ne _ _ _ _ n1]
 exact keep b u q
end
theorem uN:∀ {us:YG} {ns:YF},IntsAre us ns→aV (ns.map V.int) us
 | _,_,.nil=>.nil
 | _,_,.cons n t r=>.cons ⟨t,rfl⟩ (uN r)
section
variable {X:Cx} {pos p:Pos}
def F6 (K:ZX):List V→Hp→VK→Prop:=fun xs H Q=>∃ (a:Addr) (ns:YF),xs=[.ref a]∧(SqL K H a (ns.map V.int)∨H a=some (.tup (ns.map V.int)))∧ns.length < 64 ∧ ∀ q,H q=none→Q (.ref q) (upd H q (.lst ((cZ ns).map V.int)))
theorem wI:fD X (.builtin "sorted") (F6 X.K):=by
 intro pins s σ H xs us Q I r h
 obtain⟨a,ns,rfl,sq,h64,q⟩:=h
 obtain⟨u,rfl,ru⟩:=aV.one r
 cases (show u=Value.ref a from ru)
 have key:∀ {T:String} {o:Obj} {vs:YG} {n:Nat},T = "list" ∨T = "tuple" → s.heap.get? a=some o→o.cls=.type T→o.data=.seq vs.toArray n→aV (ns.map V.int) vs→wpAny (model X.prog X.w) X.A (call (.builtin "sorted") [.ref a]) (EP X pins σ Q) X.xe s:=fun {T o vs n} hT ho hc hd rv=>by
  have hl:vs.length=ns.length:=by have:=rv.length;simpa using this.symm
  refine BH hT ho hc hd (L2.n9 rv) (by omega) fun h1 h' e vs' ns' k1 k2 hq i' p' r' => ?_
  have e0:=zu p' r'
  subst e0
  have I1:Inv X pins σ H { s with heap:=h1 }:=I.kept (t':=s.toks) k1
  have lz:(cZ ns).length=ns.length:=(kB ns).length_eq
  exact⟨.ref h1.objs.size,_,I1.laid (t':=s.toks) (o:=.lst ((cZ ns).map V.int)) k2 (ZL _) ⟨by rw [ZA,sizeLine_eq];omega,vs',e,uN i',hq⟩,rfl,q _ (I1.hok.fresh (ZL _))⟩
 rcases sq with sq|ha
 ·obtain⟨its,rvs,pl,hz⟩:=I.list sq
  obtain⟨o,ho,hc,n,hd⟩:=pl.isList
  exact key (.inl rfl) ho hc hd rvs
 ·obtain⟨its,rvs,o,ho,hc,n,hd⟩:=g9 I.hok ha
  exact key (.inr rfl) ho hc hd rvs
theorem HU {K:ZX}{ρ:YH}{H:Hp}:∀ l:YF,RDs K ρ H (l.map D.int) (l.map V.int)
 | []=>RDs.nil
 | x :: l=>RDs.cons (by simp only [RD]) (HU l)
theorem lI {a:Expr} {la:LF} (hg:Gl X "sorted") (hm:X.mg "sorted" = none) (ha:MQ X a la) (hs:starEach [a] X.env=(false,eval a X.env) :: starEach [] X.env:=by rfl):MF X (.Call (.Name "sorted" p) [a] [] pos) (bu la):=by
 refine PE.imp (gn wI hg hm (by decide +kernel) (bW ha dy hs) (he:=hs)) fun σ H Q ⟨ρ,σd,hd,rs,pp⟩=>⟨ρ,σd,hd,rs,?_⟩
 unfold bu at pp
 cases e:la σd hd with
 | exc x h'=>rw [e] at pp;exact pp
 | bad=>rw [e] at pp;exact pp
 | ok l hd1 =>
  rw [e] at pp
  simp only [aA] at pp
  intro v H1 ρ1 e1 rs1 ⟨q,vs,hv,sq,rvs⟩
  subst hv
  cases c:dR l with
  | none=>rw [c] at pp;exact pp.elim
  | some ns =>
   rw [c] at pp
   simp only at pp
   split at pp
   ·rename_i hz
    have hvs:=k8 rvs c
    subst hvs
    exact⟨q,ns,rfl,sq,hz,fun q' hq=>pp.mk e1 rs1 (HU _) q' hq⟩
   ·exact pp.elim
end
end Fm
namespace Fm
open PySem PySem.Spec L2
section
variable {X:Cx}
end
end Fm
namespace Fm
open PySem
abbrev mH (xs:Array Nat):Prop:=xs.toList.Pairwise (· < ·)
theorem mH.lt {xs:Array Nat}(r:mH xs){i j:Nat}(hj:j < xs.size)(h:i < j):xs[i]'(by omega) < xs[j]:=by
 have:=List.pairwise_iff_getElem.mp r i j (by simpa using Nat.lt_trans h hj) (by simpa using hj) h
 simpa using this
theorem oR {xs:Array Nat}{j:Nat}(r:mH xs):∀ (cX lo hi:Nat),lo≤hi→hi≤xs.size→hi - lo≤cX→(∀ i (q:i < xs.size),i < lo→xs[i] < j)→(∀ i (q:i < xs.size),hi≤i→j≤xs[i]) →
  SetTable.below.go xs j cX lo hi≤xs.size∧(∀ i (q:i < xs.size),i < SetTable.below.go xs j cX lo hi→xs[i] < j)∧(∀ i (q:i < xs.size),SetTable.below.go xs j cX lo hi≤i→j≤xs[i])
 | 0,lo,hi,h1,h2,h3,h4,h5=>by
  have:lo=hi:=by omega
  subst this
  exact⟨h2,h4,h5⟩
 | cX + 1,lo,hi,h1,h2,h3,h4,h5=>by
  unfold SetTable.below.go
  by_cases c:lo < hi
  ·rw [if_pos c]
   have hm:(lo + hi) / 2 < xs.size:=by omega
   have e:xs.getD ((lo + hi) / 2) j=xs[(lo + hi) / 2]:=by simp [Array.getD,hm]
   simp only [e]
   by_cases c2:xs[(lo + hi) / 2] < j
   ·rw [if_pos c2]
    refine oR r cX _ _ (by omega) h2 (by omega) (fun i q l => ?_) h5
    by_cases e2:i=(lo + hi) / 2
    ·subst e2;exact c2
    ·exact Nat.lt_trans (r.lt hm (by omega)) c2
   ·rw [if_neg c2]
    refine oR r cX _ _ (by omega) (by omega) (by omega) h4 fun i q l => ?_
    by_cases e2:i=(lo + hi) / 2
    ·subst e2;omega
    ·have:=r.lt q (i:=(lo + hi) / 2) (by omega)
     omega
  ·rw [if_neg c]
   have:lo=hi:=by omega
   subst this
   exact⟨h2,h4,h5⟩
theorem jw {xs:Array Nat}{j:Nat}(r:mH xs):SetTable.below xs j≤xs.size∧(∀ i (q:i < xs.size),i < SetTable.below xs j→xs[i] < j)∧(∀ i (q:i < xs.size),SetTable.below xs j≤i→j≤xs[i]) :=
 oR r _ _ _ (Nat.zero_le _) (ZL _) (by omega) (fun i q l=>absurd l (Nat.not_lt_zero _)) fun i q l=>absurd q (Nat.not_lt.mpr l)
theorem oT {xs:Array Nat}(r:mH xs){k:Nat}(hk:k < xs.size):SetTable.below xs (xs[k] + 1)=k + 1:=by
 obtain⟨a,b,c⟩:=jw (j:=xs[k] + 1) r
 rcases Nat.lt_trichotomy (SetTable.below xs (xs[k] + 1)) (k + 1) with h|h|h
 ·have:=c k hk (by omega);omega
 ·exact h
 ·have h1:k + 1 < xs.size:=by omega
  have:=b (k + 1) h1 h
  have:=r.lt h1 (Nat.lt_succ_self k)
  omega
theorem oU {xs:Array Nat}(r:mH xs):SetTable.below xs 0=0:=by
 obtain⟨a,b,c⟩:=jw (j:=0) r
 by_cases h:SetTable.below xs 0=0
 ·exact h
 ·exact absurd (b 0 (by omega) (by omega)) (by omega)
theorem uO {xs:Array Nat}{j:Nat}(r:mH xs)(n:xs[SetTable.below xs j]? ≠some j):mH (SetTable.insertAt xs (SetTable.below xs j) j):=by
 obtain⟨a,b,c⟩:=jw (j:=j) r
 generalize SetTable.below xs j=p at a b c n
 show List.Pairwise _ _
 rw [SetTable.toList_insertAt]
 have r0:(xs.toList.take p++xs.toList.drop p).Pairwise (· < ·):=by rw [List.take_append_drop];exact r
 rw [List.pairwise_append] at r0 ⊢
 have lo:∀ x∈xs.toList.take p,x < j:=fun x hx=>by
  obtain⟨i,hi,e⟩:=List.mem_take_iff_getElem.mp hx
  have q:i < xs.size:=by simp at hi;omega
  have:=b i q (by omega)
  simpa [← e] using this
 have up:∀ x∈xs.toList.drop p,j < x:=fun x hx=>by
  obtain⟨i,hi,e⟩:=List.mem_drop_iff_getElem.mp hx
  have q:i + p < xs.size:=by simp at hi;omega
  have h1:=c (i + p) q (by omega)
  have e1:x=xs[i + p]:=by rw [← e];simp;congr 1;omega
  rcases Nat.lt_or_ge j x with h|h
  ·exact h
  ·exfalso
   have h2:x=j:=by omega
   by_cases i0:i=0
   ·subst i0
    apply n
    have q':p < xs.size:=by omega
    rw [Array.getElem?_eq_getElem q',← h2,e1]
    congr 1;congr 1;omega
   ·have q':p < xs.size:=by omega
    have h3:=r.lt q (i:=p) (by omega)
    have h4:=c p q' (ZL _)
    omega
 exact⟨r0.1,List.pairwise_cons.mpr ⟨up,r0.2.1⟩,fun x hx y hy=>by
  rcases YQ hy with rfl|hy
  ·exact lo x hx
  ·exact Nat.lt_trans (lo x hx) (up y hy)⟩
structure GT (led:Bool) (t:YN):Prop where
 up:mH t.place
 no:t.dummies = #[]
 le:t.led=led
theorem wJ (j:Nat):SetTable.has #[] j=false:=rfl
theorem sK {t:YN}{j:Nat}(n:t.dummies = #[]):t.slot j ≠ .dummy:=fun e=>by
 unfold SetTable.slot at e
 rw [n] at e
 simp only [wJ] at e
 split at e<;>simp at e
theorem pZ (t:YN)(p:SetTable.Probe):(t.advance p).dummy=p.dummy:=by
 unfold SetTable.advance
 split<;>rfl
theorem oV {t:YN}(n:t.dummies = #[])(f:Nat→Int)(h:Int):∀ (cX:Nat) (p:SetTable.Probe) {j:Nat} {d:YL},p.dummy=none→SetTable.probe.go t f h cX p=some (.empty j d)→d=none∧t.slot j=.empty
 | 0,_,_,_,_,e=>by cases e
 | cX + 1,p,j,d,pd,e=>by
  unfold SetTable.probe.go at e
  cases c:t.slot p.j with
  | empty =>
   rw [c] at e
   simp only [Option.some.injEq,SetTable.Met.empty.injEq] at e
   obtain⟨rfl,rfl⟩:=e
   exact⟨pd,c⟩
  | dummy=>exact absurd c (sK n)
  | live i =>
   rw [c] at e
   simp only at e
   split at e
   ·simp at e
   ·exact oV n f h cX _ (by rw [pZ];exact pd) e
theorem sL {t:YN}(n:t.dummies = #[]){h:Int}{j:Nat}{b:Bool}(e:t.freeSlot h=some (j,b)):t.slot j=.empty:=by
 unfold SetTable.freeSlot at e
 split at e
 ·rename_i j' d q
  obtain⟨rfl,s⟩:=oV n _ h _ _ rfl q
  cases e
  exact s
 ·cases e
end Fm
namespace Fm
open PySem PySem.Spec
def HV:Int × Value→Int
 | (_,.int n _)=>n
 | _=>0
section
variable (prog:Program) (w:World)
structure Ji (led:Bool) (es:YE) (t:YN) (ns:YF):Prop where
 el:ElemsOf (intKind prog w) es.toList
 ks:(es.toList.map HV).Perm ns
 fit:t.fits es.size=true
 gt:GT led t
end
section
variable {prog:Program} {w:World} {A:Around} {E:ZY} {s:Shared} {led:Bool} {es:YE} {t:YN} {ns:YF} {a:Addr}
end
end Fm
namespace Fm
end Fm
namespace Fm
open PySem PySem.Spec
section
variable {prog:Program} {w:World} {A:Around} {R:ZZ} {I:Addr} {fp wr:YH} {G:Array GenState→Array GenState→Prop} {P:Nat→Value→Prop} {St:Nat→Shared→Prop} {led:Bool}
end
end Fm
namespace Fm
open PySem PySem.Spec
def jx (w:World):Bool := !(w.params.followText "set-order")
def cI (w:World):Obj:={ cls:=.type "set",dict:=none,data:=.set #[] 0 (.fresh 0 0 (jx w)) }
section
variable {prog:Program} {w:World} {A:Around} {E:ZY} {s:Shared}
theorem DB (a:Value){Q:ZY}(h:Q (.ref s.heap.objs.size) { s with heap:=s.heap.push (cI w) }) :
  codeAny (model prog w) A (.call (.builtin "set.__new__") ⟨[.type "set",a],[]⟩) (wants Q E) s:=by
 refine codeAny_of_tree ?_
 show wpAny _ A.in1 (checkBuiltinCall "set.__new__" ⟨[.type "set",a],[]⟩ >>= fun _=>again (.builtin "set.__new__" ⟨[.type "set",a],[]⟩)) _ _ s
 refine YW (wpAny_of_eq (F.newCall_set_1 a) (YX ⟨plainId_quiet F.plain_set_new _,codeAny_builtin F.entry_set_new ?_⟩))
 rw [Around.under_plainId F.plain_set_new _]
 unfold Builtin.«set.__new__» Builtin.Frozenset.newClass
 have hs:=sub_set_self
 obtain⟨hp,g,d,tk,os⟩:=s
 dsimp only
 wp_walk
 refine wpAny_askSetting (YX ?_)
 dsimp only
 simp only [newObj]
 exact YW (wpAny_alloc (YX (YX h)))
end
end Fm
namespace Fm
open PySem PySem.Spec
theorem cq:Slot "set_iterator" "__next__" "set_iterator.__next__" :=
 .of (owner := "set_iterator") (n := "__next__") (by rw [typeLookup_type,builtinLookup_eq_fast];kernel_rfl) (by decide +kernel) (by decide +kernel) (by decide +kernel) (by first|exact .inl (by decide +kernel)|exact .inr (by decide +kernel)) (by rw [isSubtype_type];kernel_rfl)
theorem oW:Slot "set_iterator" "__iter__" "set_iterator.__iter__" :=
 .of (owner := "set_iterator") (n := "__iter__") (by rw [typeLookup_type,builtinLookup_eq_fast];kernel_rfl) (by decide +kernel) (by decide +kernel) (by decide +kernel) (by first|exact .inl (by decide +kernel)|exact .inr (by decide +kernel)) (by rw [isSubtype_type];kernel_rfl)
theorem iH:entryFor table "set_iterator.__next__" = some Builtin.«set_iterator.__next__» := entryFor_of_tree (by kernel_rfl)
theorem jW (a:Value):argsOk "set_iterator.__next__" ⟨[a],[]⟩:=by unfold argsOk;kernel_rfl
theorem wK:entryFor table "set.__iter__" = some Builtin.«frozenset.__iter__» := entryFor_alias (id' := "frozenset.__iter__") (by kernel_rfl) rfl (by decide +kernel) (by kernel_rfl)
theorem uP:entryFor table "set_iterator.__iter__" = some Builtin.«dict_keyiterator.__iter__» := entryFor_alias (id' := "dict_keyiterator.__iter__") (by kernel_rfl) rfl (by decide +kernel) (by kernel_rfl)
theorem wL (a:Value):argsOk "set_iterator.__iter__" ⟨[a],[]⟩:=by unfold argsOk;kernel_rfl
def jy (first:Value) (i:Nat) (q:Addr) (n ep:Nat):Obj:={ cls:=.type "set_iterator",data:=.fields #[first,.int i 0,.ref q,.int n 0,.int ep 0] }
def fM (es:YE) (ep:Nat) (t:YN):Obj:={ cls:=.type "set",dict:=none,data:=.set es ep t }
section
variable {prog:Program} {w:World} {A:Around} {E:ZY} {s:Shared} {I q:Addr} {i n ep sl sl':Nat} {es:YE} {t:YN} {x:Value}
def mI (prog:Program) (w:World) (q:Addr) (es:YE) (ep:Nat) (t:YN) (sl i:Nat) (r:Option (Value × Nat)):Prop :=
 ∀ (A:Around) (Q:Option (Value × Nat)→Shared→Prop) (E:ZY) (s:Shared),s.heap.get? q=some (fM es ep t)→Q r s→wpAny (model prog w) A (setNext q sl i ep) Q E s
theorem wM {Q:YM→Shared→Prop}(hit:s.heap.get? I=some (jy (.int sl 0) i q n ep))(hq:s.heap.get? q=some (fM es ep t))(fit:t.fits es.size=true)(hn:es.size=n)(N:mI prog w q es ep t sl i (some (x,sl')))
  (hQ:∀ h',h'.get? I=some (jy (.int sl' 0) (i + 1) q n ep)→Heap.SameBut I s.heap h'→Q (some x) { s with heap:=h' }):wpAny (model prog w) A (pyNext (.ref I)) Q E s:=by
 have hT:s.TypeIs (.ref I) "set_iterator" := ⟨_,hit,rfl⟩
 unfold pyNext
 refine YW (wpAny_attempt (wpAny_callSpecial?_slot (name:=Str.ofString "__next__") hT cq (wpAny_call_entry cq hT iH ?_ (jW _))))
 unfold Builtin.«set_iterator.__next__»
 refine YW (YX ?_)
 refine YW (wpAny_fieldsOf hit rfl ?_)
 show wpAny _ _ (setEntries q >>= _) _ _ s
 refine YW (wpAny_setEntries_of hq rfl fit ?_)
 rw [if_neg (by rw [hn];simp)]
 show wpAny _ _ (setNext q sl i ep >>= _) _ _ s
 refine YW (N _ _ _ _ hq ?_)
 dsimp only
 refine YW (wpAny_setField hit rfl (by simp) ?_)
 have h1:(s.heap.update I (Obj.mapFields (·.setIfInBounds 0 (rawInt sl')))).get? I=some (jy (.int sl' 0) i q n ep):=Heap.get?_update_self _ hit rfl
 refine YW (wpAny_setField h1 rfl (by simp) ?_)
 have h2:=Heap.get?_update_self (Obj.mapFields (·.setIfInBounds 1 (rawInt ((i:Int) + 1)))) h1 rfl
 refine YX ⟨x,rfl,YX (hQ _ h2 ((Heap.SameBut.update ..).trans (Heap.SameBut.update ..)))⟩
theorem qN {h0:Heap}{Q:YM→Shared→Prop}(hh:A.handled=none)(hQ:∀ h',(∀ b o,b≠I→s.heap.get? b=some o→h'.get? b=some o)→Q none { s with heap:=h' })(k:∀ b o,b≠I→s.heap.get? b=some o→h0.get? b=some o) :
  wpAny (model prog w) A.in1 (newExc (.type "StopIteration") [] >>= fun e=>(raiseNew e:Sem Fin)) (fun _ _=>False) (fun e s'=>wpAny (model prog w) A (isInstance e (.type "StopIteration") >>= fun b=>if b=true then (pure none:Sem (YM)) else throw e) Q E s') { s with heap:=h0 }:=by
 refine YW ?_
 simp only [newExc,newTuple]
 refine YW (wpAny_newObj_type ?_ (by size_fits))
 refine YW (m:=firstArgMember _ _) (wpAny_of_eq (a:=Value.none) (by first|rfl|(simp only [firstArgMember];rfl)) ?_)
 refine wpAny_newObj_type ?_ (by size_fits)
 simp only [raiseNew]
 refine YW (wpAny_handled ?_)
 rw [show A.in1.handled=none from hh]
 refine YW (YX (wpAny_throw ?_))
 refine YW (wpAny_isInstance (T := "StopIteration") (b:=true) ⟨_,ZJ _ rfl,rfl⟩ isSubtype_stop ?_)
 exact YX (hQ _ fun b o nb e=>ZH _ (ZH _ (k b o nb e)))
theorem zv {Q:YM→Shared→Prop}(hh:A.handled=none)(hit:s.heap.get? I=some (jy (.int sl 0) i q n ep))(hq:s.heap.get? q=some (fM es ep t))(fit:t.fits es.size=true)(hn:es.size=n)(N:mI prog w q es ep t sl i none)
  (hQ:∀ h',(∀ b o,b≠I→s.heap.get? b=some o→h'.get? b=some o)→Q none { s with heap:=h' }):wpAny (model prog w) A (pyNext (.ref I)) Q E s:=by
 have hT:s.TypeIs (.ref I) "set_iterator" := ⟨_,hit,rfl⟩
 unfold pyNext
 refine YW (wpAny_attempt (wpAny_callSpecial?_slot (name:=Str.ofString "__next__") hT cq (wpAny_call_entry cq hT iH ?_ (jW _))))
 unfold Builtin.«set_iterator.__next__»
 refine YW (YX ?_)
 refine YW (wpAny_fieldsOf hit rfl ?_)
 show wpAny _ _ (setEntries q >>= _) _ _ s
 refine YW (wpAny_setEntries_of hq rfl fit ?_)
 rw [if_neg (by rw [hn];simp)]
 show wpAny _ _ (setNext q sl i ep >>= _) _ _ s
 refine YW (N _ _ _ _ hq ?_)
 dsimp only
 refine YW (wpAny_setField hit rfl (by simp) ?_)
 refine wpAny_mono (qN (s:=s) (I:=I) (E:=E) hh hQ fun b o nb e=>(Heap.get?_update_ne _ _ _ _ nb).trans e) (fun _ _ z=>z.elim) fun e s' z=>z
theorem wN {T:Addr} {ps:List Nat} {m p:Nat} {y:Int} {Q:YM→Shared→Prop} (hit:s.heap.get? I=some (jy (.ref T) i q n ep)) (hq:s.heap.get? q=some (fM es ep t)) (hT2:s.heap.get? T=some { cls:=.type "tuple",data:=.seq (ps.map fun (k:Nat)=>Value.int k 0).toArray m }) (fit:t.fits es.size=true) (hn:es.size=n) (hp:ps[i]? = some p) (hx:es[p]? = some (y,x))
  (hQ:∀ h',h'.get? I=some (jy (.ref T) (i + 1) q n ep)→Heap.SameBut I s.heap h'→Q (some x) { s with heap:=h' }):wpAny (model prog w) A (pyNext (.ref I)) Q E s:=by
 have hT:s.TypeIs (.ref I) "set_iterator" := ⟨_,hit,rfl⟩
 unfold pyNext
 refine YW (wpAny_attempt (wpAny_callSpecial?_slot (name:=Str.ofString "__next__") hT cq (wpAny_call_entry cq hT iH ?_ (jW _))))
 unfold Builtin.«set_iterator.__next__»
 refine YW (YX ?_)
 refine YW (wpAny_fieldsOf hit rfl ?_)
 show wpAny _ _ (setEntries q >>= _) _ _ s
 refine YW (wpAny_setEntries_of hq rfl fit ?_)
 rw [if_neg (by rw [hn];simp)]
 show wpAny _ _ (seqItems? (.ref T) >>= _) _ _ s
 refine YW (wpAny_seqItems hT2 rfl ?_)
 have hp2:(ps.map fun (k:Nat)=>Value.int k 0).toArray[((i:Int)).toNat]? = some (.int p 0):=by simp [hp]
 simp only [hp2]
 show wpAny _ _ (setNextDrawn q p ep >>= _) _ _ s
 unfold setNextDrawn
 refine YW (YW (wpAny_setState_of hq rfl fit ?_))
 simp only [bne_self_eq_false,Bool.false_eq_true,if_false,hx]
 refine YX ?_
 refine YW (wpAny_setField hit rfl (by simp) ?_)
 have h2:=Heap.get?_update_self (Obj.mapFields (·.setIfInBounds 1 (rawInt ((i:Int) + 1)))) hit rfl
 refine YX ⟨x,rfl,YX (hQ _ h2 (Heap.SameBut.update ..))⟩
theorem zw {T:Addr} {ps:List Nat} {m:Nat} {Q:YM→Shared→Prop} (hh:A.handled=none) (hit:s.heap.get? I=some (jy (.ref T) i q n ep)) (hq:s.heap.get? q=some (fM es ep t)) (hT2:s.heap.get? T=some { cls:=.type "tuple",data:=.seq (ps.map fun (k:Nat)=>Value.int k 0).toArray m }) (fit:t.fits es.size=true) (hn:es.size=n) (hp:ps[i]? = none)
  (hQ:∀ h',(∀ b o,b≠I→s.heap.get? b=some o→h'.get? b=some o)→Q none { s with heap:=h' }):wpAny (model prog w) A (pyNext (.ref I)) Q E s:=by
 have hT:s.TypeIs (.ref I) "set_iterator" := ⟨_,hit,rfl⟩
 unfold pyNext
 refine YW (wpAny_attempt (wpAny_callSpecial?_slot (name:=Str.ofString "__next__") hT cq (wpAny_call_entry cq hT iH ?_ (jW _))))
 unfold Builtin.«set_iterator.__next__»
 refine YW (YX ?_)
 refine YW (wpAny_fieldsOf hit rfl ?_)
 show wpAny _ _ (setEntries q >>= _) _ _ s
 refine YW (wpAny_setEntries_of hq rfl fit ?_)
 rw [if_neg (by rw [hn];simp)]
 show wpAny _ _ (seqItems? (.ref T) >>= _) _ _ s
 refine YW (wpAny_seqItems hT2 rfl ?_)
 have hp2:(ps.map fun (k:Nat)=>Value.int k 0).toArray[((i:Int)).toNat]? = none:=by
  rw [List.getElem?_eq_none_iff] at hp
  simp [hp]
 simp only [hp2]
 refine YW (wpAny_setField hit rfl (by simp) ?_)
 have h1:(s.heap.update I (Obj.mapFields (·.setIfInBounds 0 (rawInt 0)))).get? I=some (jy (.int 0 0) i q n ep):=Heap.get?_update_self _ hit rfl
 refine YW (wpAny_setField h1 rfl (by simp) ?_)
 refine wpAny_mono (qN (s:=s) (I:=I) (E:=E) hh hQ fun b o nb e=>(Heap.get?_update_ne _ _ _ _ nb).trans ((Heap.get?_update_ne _ _ _ _ nb).trans e)) (fun _ _ z=>z.elim) fun e s' z=>z
theorem uQ {first:Value}{Q:ZY}(hit:s.heap.get? I=some (jy first i q n ep))(h:Q (.ref I) s):wpAny (model prog w) A (pyIter (.ref I)) Q E s:=by
 have hT:s.TypeIs (.ref I) "set_iterator" := ⟨_,hit,rfl⟩
 refine wpAny_pyIter_slot hT oW (wpAny_call_entry oW hT uP ?_ (wL _))
 unfold Builtin.«dict_keyiterator.__iter__»
 refine YW (YX ?_)
 exact YX ⟨_,rfl, "set_iterator",_,hT,cq.lookup,h⟩
theorem Ex (hh:A.handled=none)(hne:q≠I)(fit:t.fits es.size=true)(sl:Nat→Nat)(v:Nat→Value)(N:∀ i,i < es.size→mI prog w q es ep t (sl i) i (some (v i,sl (i + 1))))(Ne:mI prog w q es ep t (sl es.size) es.size none) :
  Walks prog w A I [I,q] [I] es.size (fun i x=>x=v i) (fun i h=>h.get? I=some (jy (.int (sl i) 0) i q es.size ep)∧h.get? q=some (fM es ep t)) where
 sub:=fun b hb=>by simp at hb;simp [hb]
 frame:=fun _ _ _ st hk=>⟨hk I (by simp) _ st.1,hk q (by simp) _ st.2⟩
 item:=fun i s Q E hi st hQ=>wM st.1 st.2 fit rfl (N i hi) fun h' hit sb=>hQ _ h' s.toks rfl ⟨hit,(sb.2 q hne).trans st.2⟩ fun b o hb e=>(sb.2 b fun z=>hb (by simp [z])).trans e
 done:=fun s Q E st hQ=>zv hh st.1 st.2 fit rfl Ne fun h' k=>hQ h' s.toks fun b o hb e=>k b o (fun z=>hb (by simp [z])) e
 self:=fun _ _ _ _ st hQ=>uQ st.1 hQ
theorem HW {T:Addr}{ps:List Nat}(hh:A.handled=none)(hne:q≠I)(hnT:T≠I)(fit:t.fits es.size=true)(hl:ps.length=es.size)(hp:∀ (i p:Nat),ps[i]? = some p→p < es.size) :
  Walks prog w A I [I,q,T] [I] es.size (fun i x=>∃ p y,ps[i]? = some p∧es[p]? = some (y,x)) (fun i h=>h.get? I=some (jy (.ref T) i q es.size ep)∧h.get? q=some (fM es ep t)∧h.get? T=some { cls:=.type "tuple",data:=.seq (ps.map fun (k:Nat)=>Value.int k 0).toArray 0 }) where
 sub:=fun b hb=>by simp at hb;simp [hb]
 frame:=fun _ _ _ st hk=>⟨hk I (by simp) _ st.1,hk q (by simp) _ st.2.1,hk T (by simp) _ st.2.2⟩
 item:=fun i s Q E hi st hQ=>by
  have hi2:i < ps.length:=by omega
  have e1:ps[i]? = some ps[i]:=ZE hi2
  have hz:=hp i _ e1
  have e2:es[ps[i]]? = some (es[ps[i]].1,es[ps[i]].2):=Array.getElem?_eq_getElem hz
  exact wN st.1 st.2.1 st.2.2 fit rfl e1 e2 fun h' hit sb=>hQ _ h' s.toks ⟨_,_,e1,e2⟩ ⟨hit,(sb.2 q hne).trans st.2.1,(sb.2 T hnT).trans st.2.2⟩ fun b o hb e=>(sb.2 b fun z=>hb (by simp [z])).trans e
 done:=fun s Q E st hQ=>zw hh st.1 st.2.1 st.2.2 fit rfl (List.getElem?_eq_none (by omega)) fun h' k=>hQ h' s.toks fun b o hb e=>k b o (fun z=>hb (by simp [z])) e
 self:=fun _ _ _ _ st hQ=>uQ st.1 hQ
end
end Fm
namespace Fm
open PySem PySem.Spec
theorem kC {α : Type}:∀ (l:List α) (i:Nat) (x : α),l[i]? = some x→(x :: l.eraseIdx i).Perm l
 | [],_,_,e=>by simp at e
 | y :: l,0,x,e=>by simp at e;subst e;exact List.Perm.refl _
 | y :: l,i + 1,x,e=>by
  rw [List.eraseIdx_cons_succ]
  exact (List.Perm.swap y x _).trans (List.Perm.cons y (kC l i x (by simpa using e)))
theorem yt {α : Type}(f:Nat→Nat):∀ (n k:Nat) (left:List α) (out:Array α),left.length=n→(pickOrder.go f n k left out).toList.Perm (out.toList++left)
 | 0,k,left,out,h=>by
  have:left=[]:=List.length_eq_zero_iff.mp h
  subst this
  simp [pickOrder.go]
 | n + 1,k,left,out,h=>by
  unfold pickOrder.go
  have hi:f k % left.length < left.length:=Nat.mod_lt _ (by omega)
  have e:left[f k % left.length]? = some (left[f k % left.length]):=ZE hi
  rw [e]
  refine (yt f n (k + 1) _ _ (by rw [List.length_eraseIdx_of_lt hi];omega)).trans ?_
  rw [Array.toList_push,ZU]
  exact List.Perm.append_left _ (kC _ _ _ e)
theorem zx {α : Type}(f:Nat→Nat)(xs:Array α):(pickOrder f xs).toList.Perm xs.toList:=by
 have:=yt f xs.size 0 xs.toList #[] (by simp)
 simpa [pickOrder] using this
section
variable {M:Model} {prog:Program} {w:World} {A:Around} {E:ZY} {s:Shared}
theorem zy {src:Source}{n:Nat}{Q:Nat→Shared→Prop}(hn:n≠0)(h:∀ i dr,i < n→Q i { s with drawn:=dr }):wpAny M A (choose src n) Q E s:=by
 intro Γ p _
 exact⟨hn,h _ _ (Nat.mod_lt _ (Nat.pos_of_ne_zero hn))⟩
theorem qO {α : Type}:∀ (n:Nat) (xs:List α) {s:Shared} {Q:List α → Shared→Prop},xs.length=n→(∀ ys dr,ys.Perm xs→Q ys { s with drawn:=dr })→wpAny M A (drawOrder n xs) Q E s
 | 0,xs,s,Q,hl,h=>by
  have e:xs=[]:=List.length_eq_zero_iff.mp hl
  subst e
  exact YX (h [] s.drawn (List.Perm.refl _))
 | n + 1,[],s,Q,hl,h=>by simp at hl
 | n + 1,x :: xs,s,Q,hl,h=>by
  unfold drawOrder
  refine YW (zy (by simp) fun i dr hi => ?_)
  have e:(x :: xs)[i]? = some (x :: xs)[i]:=ZE hi
  rw [e]
  dsimp only
  refine YW (qO n _ (s:={ s with drawn:=dr }) (by rw [List.length_eraseIdx_of_lt hi];omega) fun ys dr' p => ?_)
  exact YX (h _ dr' ((List.Perm.cons _ p).trans (kC _ _ _ e)))
theorem nR {Q:Bool→Shared→Prop} (h:Q (w.params.followText "set-order") s):wpAny (model prog w) A setsByText Q E s:=by
 unfold setsByText
 exact YW (wpAny_askSetting (YX h))
variable {q:Addr} {es:YE} {ep:Nat} {t:YN} {ns:YF}
theorem Ey (hb:w.params.followText "set-order" = true) (fit:t.fits es.size=true) (i:Nat):mI prog w q es ep t 0 i (((pickOrder (w.params.setOrder q ep) es)[i]?).map fun e=>(e.2,0)):=by
 intro A Q E s hq h
 unfold setNext
 refine YW (wpAny_setState_of hq rfl fit ?_)
 refine YW (nR ?_)
 refine wpAny_ite_split (fun _ => ?_) fun z=>absurd hb z
 refine wpAny_ite_split (fun z=>by simp at z) fun _ => ?_
 unfold setWalk
 refine YW (YW (wpAny_setState_of hq rfl fit ?_))
 refine YW (nR ?_)
 refine wpAny_ite_split (fun _ => ?_) fun z=>absurd hb z
 exact YW (wpAny_askSetting (YX (YX h)))
theorem Ez (hb:w.params.followText "set-order" = false) (fit:t.fits es.size=true) (g:GT true t) (hd:(!t.plain && decide (es.size > 1))=false) (sl i:Nat):mI prog w q es ep t sl i (match es[SetTable.below t.place sl]?,t.place[SetTable.below t.place sl]? with|some (_,x),some j=>some (x,j + 1)|_,_=>none):=by
 intro A Q E s hq h
 unfold setNext
 refine YW (wpAny_setState_of hq rfl fit ?_)
 refine YW (nR ?_)
 refine wpAny_ite_split (fun z=>by rw [hb] at z;cases z) fun _ => ?_
 refine wpAny_ite_split (fun z=>absurd (show (!t.plain && decide (es.size > 1))=true from z) (by rw [hd];simp)) fun _ => ?_
 refine YW (m:=if (!t.led && !es.isEmpty)=true then unsupported "set:maker-not-led" else pure ()) ?_
 rw [g.le]
 exact YX (YX h)
end
end Fm
namespace Sb
open PySem SetTable
def nx (N x:Nat):Nat:=(x * 5 + 1) % N
def it (N:Nat):Nat→Nat→Nat
 | 0,x=>x
 | k + 1,x=>it N k (nx N x)
theorem oX (N:Nat):∀ (a b x:Nat),it N (a + b) x=it N b (it N a x)
 | 0,b,x=>by rw [Nat.zero_add];rfl
 | a + 1,b,x=>by rw [Nat.add_right_comm];exact oX N a b (nx N x)
theorem DC (N k x:Nat):it N (k + 1) x=nx N (it N k x):=oX N k 1 x
def orb (N:Nat):Nat→Nat→Nat→Nat
 | 0,_,acc=>acc
 | k + 1,x,acc=>orb N k (nx N x) (acc ||| (1 <<< x))
theorem yu (N s:Nat):∀ (k x acc:Nat),(orb N k x acc).testBit s=true→acc.testBit s=true ∨ ∃ b,b < k∧it N b x=s
 | 0,x,acc,h=>.inl h
 | k + 1,x,acc,h=>by
  rcases yu N s k (nx N x) _ h with q|⟨b,hb,e⟩
  ·rw [Nat.testBit_or,Bool.or_eq_true] at q
   rcases q with q|q
   ·exact .inl q
   ·refine .inr ⟨0,Nat.succ_pos _,?_⟩
    rw [Nat.testBit_shiftLeft] at q
    simp only [Bool.and_eq_true,decide_eq_true_eq] at q
    have:=q.2
    rw [Nat.testBit_one_eq_true_iff_self_eq_zero] at this
    show x=s
    omega
  ·exact .inr ⟨b + 1,by omega,e⟩
structure Cyc (N:Nat):Prop where
 all:orb N N 0 0=2 ^ N - 1
 back:it N N 0=0
 pos:0 < N
theorem Cyc.get {N:Nat}(c:Cyc N){s:Nat}(h:s < N):∃ b,b < N∧it N b 0=s:=by
 have:=yu N s N 0 0 (by rw [c.all,Nat.testBit_two_pow_sub_one];exact YZ h)
 rcases this with q|q
 ·simp at q
 ·exact q
theorem Cyc.from {N:Nat}(c:Cyc N){i s:Nat}(hi:i < N)(hs:s < N):∃ k,k < N∧it N k i=s:=by
 obtain⟨a,ha,ea⟩:=c.get hi
 obtain⟨b,hb,eb⟩:=c.get hs
 by_cases h:a≤b
 ·refine⟨b - a,by omega,?_⟩
  rw [← ea,← oX,show a + (b - a)=b by omega,eb]
 ·refine⟨N - a + b,by omega,?_⟩
  rw [← ea,← oX,show a + (N - a + b)=N + b by omega,oX,c.back,eb]
theorem HX:Cyc 8:=⟨by decide +kernel,by decide +kernel,by decide⟩
theorem HY:Cyc 16:=⟨by decide +kernel,by decide +kernel,by decide⟩
theorem HZ:Cyc 32:=⟨by decide +kernel,by decide +kernel,by decide⟩
theorem Ia:Cyc 64:=⟨by decide +kernel,by decide +kernel,by decide⟩
theorem F7:Cyc 128:=⟨by decide +kernel,by decide +kernel,by decide⟩
theorem F8:Cyc 256:=⟨by decide +kernel,by decide +kernel,by decide⟩
set_option exponentiation.threshold 5000
theorem F9:Cyc 512:=⟨by decide +kernel,by decide +kernel,by decide⟩
theorem DE:Cyc 1024:=⟨by decide +kernel,by decide +kernel,by decide⟩
theorem DF:Cyc 2048:=⟨by decide +kernel,by decide +kernel,by decide⟩
theorem DG:Cyc 4096:=⟨by decide +kernel,by decide +kernel,by decide⟩
end Sb
namespace Sb
open PySem SetTable
def ch (m:Nat) (h:Int):Nat→Nat × Nat
 | 0=>(bits h % (m + 1),bits h)
 | k + 1=>leap m (ch m h k).1 (ch m h k).2
theorem BI (m:Nat)(h:Int):∀ k,(ch m h k).1 < m + 1
 | 0=>Nat.mod_lt _ (Nat.succ_pos _)
 | k + 1=>Nat.mod_lt _ (Nat.succ_pos _)
theorem EA (m:Nat)(h:Int):∀ k,(ch m h k).2=bits h / 32 ^ k
 | 0=>by simp [ch]
 | k + 1=>by
  show (ch m h k).2 / 32=_
  rw [EA m h k,Nat.div_div_eq_div_mul,Nat.pow_succ]
theorem DH (h:Int):bits h < 2 ^ 64:=by
 unfold bits
 have h1:=Int.emod_nonneg h (show (2 ^ 64:Int)≠0 by decide)
 have h2:=Int.emod_lt_of_pos h (show (0:Int) < 2 ^ 64 by decide)
 omega
theorem DJ (m:Nat)(h:Int)(k:Nat):(ch m h (13 + k)).2=0:=by
 rw [EA,Nat.pow_add,← Nat.div_div_eq_div_mul,Nat.div_eq_of_lt (Nat.lt_of_lt_of_le (DH h) (by decide)),Nat.zero_div]
theorem EB (m:Nat)(h:Int):∀ k,(ch m h (13 + k)).1=it (m + 1) k (ch m h 13).1
 | 0=>rfl
 | k + 1=>by
  rw [DC,← EB m h k]
  show ((ch m h (13 + k)).1 * 5 + 1 + (ch m h (13 + k)).2 / 32) % (m + 1)=_
  rw [DJ]
  rfl
theorem uR {m:Nat}(c:Cyc (m + 1))(h:Int){s:Nat}(hs:s≤m):∃ K,K≤m + 13∧(ch m h K).1=s:=by
 obtain⟨k,hk,e⟩:=c.from (BI m h 13) (show s < m + 1 by omega)
 exact⟨13 + k,by omega,by rw [EB,e]⟩
def adv (m:Nat) (p:Probe):Probe :=
 if p.more > 0 then { p with j:=p.j + 1,more:=p.more - 1 } else
 let (i,perturb):=leap m p.i p.perturb
 { p with j:=i,more:=runEnd m i - i,i,perturb }
def pst (m:Nat) (h:Int):Nat→Probe
 | 0=>{ j:=bits h % (m + 1),more:=runEnd m (bits h % (m + 1)) - bits h % (m + 1),i:=bits h % (m + 1),perturb:=bits h,dummy:=none }
 | k + 1=>adv m (pst m h k)
def gy (m:Nat) (h:Int) (K:Nat):Nat:=runEnd m (ch m h K).1 - (ch m h K).1
theorem DK (m:Nat)(h:Int)(K:Nat):gy m h K≤9:=by unfold gy runEnd;split<;>omega
def fl (m:Nat) (h:Int):Nat→Nat
 | 0=>0
 | K + 1=>fl m h K + gy m h K + 1
theorem EC (m:Nat)(h:Int):∀ K,fl m h K≤10 * K
 | 0=>ZL _
 | K + 1=>by
  have:=EC m h K
  have:=DK m h K
  rw [fl];omega
theorem ED (m:Nat)(h:Int):∀ K,K≤fl m h K
 | 0=>ZL _
 | K + 1=>by
  have:=ED m h K
  rw [fl];omega
theorem sM {m:Nat}{h:Int}{K:Nat}(s:pst m h (fl m h K) = { j:=(ch m h K).1,more:=gy m h K,i:=(ch m h K).1,perturb:=(ch m h K).2,dummy:=none }):∀ off,off≤gy m h K→pst m h (fl m h K + off) = { j:=(ch m h K).1 + off,more:=gy m h K - off,i:=(ch m h K).1,perturb:=(ch m h K).2,dummy:=none }
 | 0,_=>s
 | off + 1,l=>by
  have ih:=sM s off (by omega)
  show adv m (pst m h (fl m h K + off))=_
  rw [ih,adv,if_pos (by show gy m h K - off > 0;omega)]
  rfl
theorem sN (m:Nat)(h:Int):∀ K,pst m h (fl m h K) = { j:=(ch m h K).1,more:=gy m h K,i:=(ch m h K).1,perturb:=(ch m h K).2,dummy:=none }
 | 0=>rfl
 | K + 1=>by
  have ih:=sM (sN m h K) (gy m h K) (ZL _)
  show adv m (pst m h (fl m h K + gy m h K))=_
  rw [ih,adv,if_neg (by show ¬ gy m h K - gy m h K > 0;omega)]
  rfl
theorem BJ (m:Nat)(h:Int)(K:Nat){off:Nat}(l:off≤gy m h K):(pst m h (fl m h K + off)).j=(ch m h K).1 + off:=by rw [sM (sN m h K) off l]
theorem zA {m:Nat}{p:Probe}:(adv m p).dummy=p.dummy:=by unfold adv;split<;>rfl
theorem qP (m:Nat)(h:Int):∀ k,(pst m h k).dummy=none
 | 0=>rfl
 | k + 1=>by show (adv m _).dummy=none;rw [zA];exact qP m h k
def at' (m:Nat) (h:Int) (k:Nat):Nat:=(pst m h k).j
theorem BK {m:Nat}(c:Cyc (m + 1))(h:Int){s:Nat}(hs:s≤m):∃ k,k < 10 * turns m∧at' m h k=s:=by
 obtain⟨K,hK,e⟩:=uR c h hs
 refine⟨fl m h K,?_,?_⟩
 ·have:=EC m h K
  unfold turns;omega
 ·unfold at';rw [sN];exact e
theorem EE (m:Nat)(h:Int):∀ k,at' m h k≤m:=fun k=>by
 have run:∀ K,∀ k,fl m h K≤k→k < fl m h (K + 1)→at' m h k≤m:=fun K k h1 h2=>by
  obtain⟨off,rfl⟩ : ∃ off,k=fl m h K + off:=⟨k - fl m h K,by omega⟩
  have l:off≤gy m h K:=by rw [fl] at h2;omega
  show (pst m h _).j≤m
  rw [BJ m h K l]
  have:=BI m h K
  unfold gy runEnd at l
  split at l<;>omega
 have:∀ K,∀ k,k < fl m h K→at' m h k≤m:=fun K=>by
  induction K with
  | zero=>intro k hk;exact absurd hk (Nat.not_lt_zero _)
  | succ K ih =>
   intro k hk
   by_cases c:k < fl m h K
   ·exact ih k c
   ·exact run K k (by omega) hk
 exact this (k + 1) k (by have:=ED m h (k + 1);omega)
theorem EG {P:Nat→Prop}:∀ {k:Nat},P k → ∃ K,K≤k∧P K ∧ ∀ j,j < K → ¬ P j:=by
 intro k
 induction k using Nat.strongRecOn with
 | ind k ih =>
  intro p
  by_cases c:∃ j,j < k∧P j
  ·obtain⟨j,hj,pj⟩:=c
   obtain⟨K,h1,h2,h3⟩:=ih j hj pj
   exact⟨K,by omega,h2,h3⟩
  ·exact⟨k,ZL _,p,fun j hj pj=>c ⟨j,hj,pj⟩⟩
def nj (m:Nat) (occ:Nat→Prop) (h:Int) (j:Nat):Prop:=∃ k,at' m h k=j ∧ ∀ k',k' < k→occ (at' m h k')
theorem nj.mono {m:Nat}{occ occ':Nat→Prop}{h:Int}{j:Nat}(r:nj m occ h j)(f:∀ x,occ x→occ' x):nj m occ' h j:=by
 obtain⟨k,e,q⟩:=r
 exact⟨k,e,fun k' l=>f _ (q k' l)⟩
theorem wO {m:Nat}(c:Cyc (m + 1))(h:Int){occ:Nat→Prop}{s:Nat}(hs:s≤m)(n : ¬ occ s):∃ K,K < 10 * turns m ∧ ¬ occ (at' m h K) ∧ ∀ k,k < K→occ (at' m h k):=by
 obtain⟨k,hk,e⟩:=BK c h hs
 obtain⟨K,h1,h2,h3⟩:=EG (P:=fun k=>¬ occ (at' m h k)) (k:=k) (by rw [e];exact n)
 exact⟨K,by omega,h2,fun j hj=>Classical.not_not.mp (h3 j hj)⟩
theorem BM {m:Nat}{l:List Nat}(h:l.length≤m):∃ s,s≤m∧s∉l:=by
 refine Classical.byContradiction fun z => ?_
 have all:∀ s,s∈List.range (m + 1)→s∈l:=fun s hs=>Classical.byContradiction fun q=>z ⟨s,by have:=YT hs;omega,q⟩
 have:=(List.nodup_range (n:=m + 1)).length_le_of_subset all
 rw [ZO] at this
 omega
end Sb
namespace Sb
open PySem SetTable Fm
theorem jz {xs:Array Nat}(r:mH xs){i j:Nat}(h:xs[i]? = some j):SetTable.below xs j=i:=by
 obtain⟨hi,e⟩:=Array.getElem?_eq_some_iff.mp h
 obtain⟨a,b,c⟩:=jw (j:=j) r
 rcases Nat.lt_trichotomy (SetTable.below xs j) i with q|q|q
 ·have h1:SetTable.below xs j < xs.size:=by omega
  have h2:=c _ h1 (ZL _)
  have h3:=r.lt hi q
  omega
 ·exact q
 ·have:=b i hi q
  omega
theorem qQ {t:YN}(r:mH t.place){i j:Nat}(h:t.place[i]? = some j):t.slot j=.live i:=by
 unfold SetTable.slot
 dsimp only
 rw [jz r h,h]
 simp
theorem zB {t:YN}(n:t.dummies = #[]){j:Nat}(h:j∉t.place):t.slot j=.empty:=by
 unfold SetTable.slot
 have e:(t.place[SetTable.below t.place j]? == some j)=false:=by
  rw [beq_eq_false_iff_ne]
  intro q
  exact h (Array.mem_of_getElem? q)
 simp only [e,n,wJ]
 rfl
theorem uS {t:YN}(r:mH t.place)(n:t.dummies = #[])(f:Nat→Int)(h:Int){K:Nat}(free:at' t.mask h K∉t.place)(im:∀ k,k < K→at' t.mask h k∈t.place) :
  ∀ (cX k:Nat),k≤K→K - k < cX →
   (SetTable.probe.go t f h cX (pst t.mask h k)=some (.empty (at' t.mask h K) none) ∧ ∀ k' i,k≤k'→k' < K→t.place[i]? = some (at' t.mask h k')→f i≠h)
   ∨ ∃ k' i,k≤k'∧k' < K∧t.place[i]? = some (at' t.mask h k')∧f i=h∧SetTable.probe.go t f h cX (pst t.mask h k)=some (.candidate (at' t.mask h k') i (pst t.mask h (k' + 1))) ∧ ∀ k'' i,k≤k''→k'' < k'→t.place[i]? = some (at' t.mask h k'')→f i≠h
 | 0,k,_,l=>absurd l (Nat.not_lt_zero _)
 | cX + 1,k,l1,l2=>by
  by_cases e:k=K
  ·subst e
   refine .inl ⟨?_,fun k' i h1 h2=>by omega⟩
   unfold SetTable.probe.go
   have:t.slot (pst t.mask h k).j=.empty:=zB n free
   rw [this,qP]
   rfl
  ·have hk:k < K:=by omega
   have m:=im k hk
   obtain⟨i,hi⟩:=Array.getElem?_of_mem m
   have sl:t.slot (pst t.mask h k).j=.live i:=qQ r hi
   have one:∀ i',t.place[i']? = some (at' t.mask h k)→i'=i:=fun i' q=>by rw [← jz r q,jz r hi]
   by_cases c:f i=h
   ·refine .inr ⟨k,i,ZL _,hk,hi,c,?_,fun k'' i h1 h2=>by omega⟩
    unfold SetTable.probe.go
    rw [sl]
    dsimp only
    rw [if_pos (by rw [c];exact beq_self_eq_true _)]
    rfl
   ·have ih:=uS r n f h free im cX (k + 1) (by omega) (by omega)
    have e2:SetTable.probe.go t f h (cX + 1) (pst t.mask h k)=SetTable.probe.go t f h cX (pst t.mask h (k + 1)):=by
     conv=>lhs;unfold SetTable.probe.go
     rw [sl]
     dsimp only
     rw [if_neg (by simpa using c)]
     rfl
    rw [e2]
    rcases ih with ⟨q1,q2⟩|⟨k',i',a1,a2,a3,a4,a5,a6⟩
    ·refine .inl ⟨q1,fun k' i' h1 h2 h3 => ?_⟩
     by_cases z:k'=k
     ·subst z;rw [one i' h3];exact c
     ·exact q2 k' i' (by omega) h2 h3
    ·refine .inr ⟨k',i',by omega,a2,a3,a4,a5,fun k'' j h1 h2 h3 => ?_⟩
     by_cases z:k''=k
     ·subst z;rw [one j h3];exact c
     ·exact a6 k'' j (by omega) h2 h3
structure iu (led:Bool) (t:YN) (es:YE):Prop where
 up:mH t.place
 no:t.dummies = #[]
 le:t.led=led
 sz:t.place.size=es.size
 cy:Cyc (t.mask + 1)
 room:es.size≤t.mask
 ev:t.mask % 2=1
 re:∀ (i j:Nat) (e:Int × Value),t.place[i]? = some j→es[i]? = some e→j≤t.mask∧nj t.mask (· ∈t.place) e.1 j
theorem iu.gt {led:Bool}{t:YN}{es:YE}(o:iu led t es):GT led t:=⟨o.up,o.no,o.le⟩
theorem iu.fits {led:Bool}{t:YN}{es:YE}(o:iu led t es):t.fits es.size=true:=by
 have h1:=o.sz
 have h2:=o.room
 unfold SetTable.fits SetTable.fill
 rw [o.no]
 simp only [Bool.and_eq_true,beq_iff_eq,decide_eq_true_eq,Array.size_empty]
 omega
theorem iu.way {led:Bool}{t:YN}{es:YE}(o:iu led t es):t.gaveWay=false:=by
 unfold SetTable.gaveWay
 rw [o.ev]
 rfl
theorem iu.free {led:Bool}{t:YN}{es:YE}(o:iu led t es)(h:Int):∃ K,K < 10 * turns t.mask∧at' t.mask h K∉t.place ∧ ∀ k,k < K→at' t.mask h k∈t.place:=by
 obtain⟨s,h1,h2⟩:=BM (m:=t.mask) (l:=t.place.toList) (by rw [Array.length_toList,o.sz];exact o.room)
 exact wO o.cy h (occ:=(· ∈t.place)) h1 (by simpa using h2)
theorem Ga {led:Bool}{t:YN}{es:YE}(o:iu led t es)(h:Int)(v:Value){K:Nat}(f1:at' t.mask h K∉t.place)(f2:∀ k,k < K→at' t.mask h k∈t.place)(room:es.size + 1≤t.mask) :
  iu led (t.put (at' t.mask h K)).1 (SetTable.insertAt es (t.put (at' t.mask h K)).2 (h,v)):=by
 obtain⟨j,hj⟩ : ∃ j,j=at' t.mask h K:=⟨_,rfl⟩
 rw [← hj] at f1 ⊢
 have e0:(t.put j).2=SetTable.below t.place j:=rfl
 have ep:(t.put j).1.place=SetTable.insertAt t.place (SetTable.below t.place j) j:=rfl
 have bl:=(jw (j:=j) o.up).1
 have nf:t.place[SetTable.below t.place j]? ≠some j:=fun e=>f1 (Array.mem_of_getElem? e)
 rw [e0]
 obtain⟨p,hp⟩ : ∃ p,p=SetTable.below t.place j:=⟨_,rfl⟩
 have r1:=uO o.up nf
 rw [← hp] at bl r1 ep ⊢
 have l1:(SetTable.insertAt t.place p j).toList=t.place.toList.take p++j :: t.place.toList.drop p:=SetTable.toList_insertAt _ _ _
 have l2:(SetTable.insertAt es p (h,v)).toList=es.toList.take p++(h,v) :: es.toList.drop p:=SetTable.toList_insertAt _ _ _
 have s1:(SetTable.insertAt t.place p j).size=t.place.size + 1:=by rw [← Array.length_toList,l1];simp;omega
 have sz:=o.sz
 have s2:(SetTable.insertAt es p (h,v)).size=es.size + 1:=by rw [← Array.length_toList,l2];simp;omega
 have mem:∀ x,x∈SetTable.insertAt t.place p j ↔ x=j∨x∈t.place:=fun x=>by
  rw [← Array.mem_toList_iff,l1,← Array.mem_toList_iff]
  constructor
  ·intro q
   rcases YS q with q|q
   ·exact .inr (List.mem_of_mem_take q)
   ·rcases YQ q with q|q
    ·exact .inl q
    ·exact .inr (List.mem_of_mem_drop q)
  ·rintro (q|q)
   ·rw [q];simp
   ·rw [← List.take_append_drop p t.place.toList] at q
    rcases YS q with q|q
    ·exact List.mem_append.mpr (.inl q)
    ·exact List.mem_append.mpr (.inr (ZW _ q))
 refine⟨by rw [ep];exact r1,?_,o.le,by rw [ep,s1,s2,sz],o.cy,by rw [s2];exact room,o.ev,fun i x e h1 h2 => ?_⟩
 ·show (if SetTable.has t.dummies j then _ else t.dummies) = #[]
  rw [o.no,wJ];rfl
 ·rw [ep] at h1
  show x≤t.mask∧nj t.mask (· ∈(t.put j).1.place) e.1 x
  rw [ep]
  have up:∀ {x e},x≤t.mask∧nj t.mask (· ∈t.place) e x→x≤t.mask∧nj t.mask (· ∈SetTable.insertAt t.place p j) e x:=fun {x e} q=>⟨q.1,q.2.mono fun y hy=>(mem y).mpr (.inr hy)⟩
  rw [← Array.getElem?_toList,l1] at h1
  rw [← Array.getElem?_toList,l2] at h2
  have t1:(t.place.toList.take p).length=p:=by simp;omega
  have t2:(es.toList.take p).length=p:=by simp;omega
  rcases Nat.lt_trichotomy i p with c|c|c
  ·rw [ZC (by omega),List.getElem?_take_of_lt c] at h1 h2
   exact up (o.re i x e (by rw [← Array.getElem?_toList];exact h1) (by rw [← Array.getElem?_toList];exact h2))
  ·rw [ZD (by omega),t1,c,Nat.sub_self,List.getElem?_cons_zero] at h1
   rw [ZD (by omega),t2,c,Nat.sub_self,List.getElem?_cons_zero] at h2
   cases h1;cases h2
   refine⟨by rw [hj];exact EE _ _ _,K,hj.symm,fun k hk=>(mem _).mpr (.inr (f2 k hk))⟩
  ·obtain⟨d,rfl⟩ : ∃ d,i=p + (d + 1):=⟨i - p - 1,by omega⟩
   rw [ZD (by omega),t1,Nat.add_sub_cancel_left,List.getElem?_cons_succ,List.getElem?_drop] at h1
   rw [ZD (by omega),t2,Nat.add_sub_cancel_left,List.getElem?_cons_succ,List.getElem?_drop] at h2
   exact up (o.re (p + d) x e (by rw [← Array.getElem?_toList];exact h1) (by rw [← Array.getElem?_toList];exact h2))
end Sb
namespace Sb
open PySem SetTable Fm
def Occ (owner:Array (YL)) (j:Nat):Prop:=∃ k,owner[j]? = some (some k)
structure Own (m:Nat) (owner:Array (YL)) (l:YF):Prop where
 sz:owner.size=m + 1
 le:∀ (j k:Nat),owner[j]? = some (some k) → ∃ h,l[k]? = some h∧nj m (Occ owner) h j
 ex:∀ k:Nat,k < l.length → ∃ j:Nat,owner[j]? = some (some k)
 one:∀ (j j' k:Nat),owner[j]? = some (some k)→owner[j']? = some (some k)→j=j'
theorem Own.lt {m:Nat}{owner:Array (YL)}{l:YF}(o:Own m owner l){j k:Nat}(h:owner[j]? = some (some k)):j≤m∧k < l.length:=by
 obtain⟨x,h1,_⟩:=o.le j k h
 have:=(Array.getElem?_eq_some_iff.mp h).1
 have:=o.sz
 exact⟨by omega,(YO h1).1⟩
theorem Own.free {m:Nat}{owner:Array (YL)}{l:YF}(o:Own m owner l)(r:l.length≤m):∃ s,s≤m ∧ ¬ Occ owner s:=by
 refine Classical.byContradiction fun z => ?_
 have all:∀ s,s≤m→Occ owner s:=fun s hs=>Classical.byContradiction fun q=>z ⟨s,hs,q⟩
 have:∃ kf:Nat→Nat,∀ s,s≤m→owner[s]? = some (some (kf s)):=⟨fun s=>((owner[s]?).join).getD 0,fun s hs=>by obtain⟨k,hk⟩:=all s hs;show owner[s]? = some (some (owner[s]?.join.getD 0));rw [hk];rfl⟩
 obtain⟨kf,kq⟩:=this
 have nd:((List.range (m + 1)).map kf).Nodup:=by
  rw [List.nodup_iff_pairwise_ne,List.pairwise_map]
  refine (List.nodup_iff_pairwise_ne.mp (List.nodup_range (n:=m + 1))).imp_of_mem fun {a b} ha hb hne e=>hne ?_
  have ha:=YT ha
  have hb:=YT hb
  have q1:=kq a (by omega)
  have q2:=kq b (by omega)
  rw [e] at q1
  exact o.one a b _ q1 q2
 have sub:∀ x,x∈(List.range (m + 1)).map kf→x∈List.range l.length:=fun x hx=>by
  obtain⟨s,hs,rfl⟩:=YR hx
  have hs:=YT hs
  exact List.mem_range.mpr (o.lt (kq s (by omega))).2
 have:=nd.length_le_of_subset sub
 rw [ZA,ZO,ZO] at this
 omega
theorem DL (m:Nat)(h:Int):∀ {a b:Nat},a≤b→fl m h a≤fl m h b:=fun {a b} l=>by
 induction b with
 | zero=>rw [Nat.le_zero.mp l];exact ZL _
 | succ b ih =>
  by_cases c:a=b + 1
  ·rw [c];exact ZL _
  ·have:=ih (by omega)
   rw [fl];omega
theorem uT {m:Nat}(c:Cyc (m + 1))(h:Int){occ:Nat→Prop}{s:Nat}(hs:s≤m)(n : ¬ occ s):∃ K,K < fl m h (turns m) ∧ ¬ occ (at' m h K) ∧ ∀ k,k < K→occ (at' m h k):=by
 obtain⟨K0,hK,e⟩:=uR c h hs
 have e0:at' m h (fl m h K0)=s:=by unfold at';rw [sN];exact e
 obtain⟨K,h1,h2,h3⟩:=EG (P:=fun k=>¬ occ (at' m h k)) (k:=fl m h K0) (by rw [e0];exact n)
 refine⟨K,?_,h2,fun j hj=>Classical.not_not.mp (h3 j hj)⟩
 have l1:=DL m h (show K0 + 1≤turns m by unfold turns;omega)
 have l2:fl m h (K0 + 1)=fl m h K0 + gy m h K0 + 1:=rfl
 omega
theorem getD_none {owner:Array (YL)}{j:Nat}(h:j < owner.size):(owner.getD j (some 0)).isNone=true ↔ ¬ Occ owner j:=by
 have e:owner.getD j (some 0)=owner[j]:=by simp [Array.getD,h]
 have e2:owner[j]? = some owner[j]:=Array.getElem?_eq_getElem h
 rw [e]
 unfold Occ
 rw [e2]
 cases owner[j]<;>simp
theorem sL {m:Nat}{owner:Array (YL)}{h:Int}(sz:owner.size=m + 1){K:Nat}(f1 : ¬ Occ owner (at' m h K))(f2:∀ k,k < K→Occ owner (at' m h k)) :
  ∀ (cX c:Nat),fl m h c≤K→K < fl m h (c + cX)→layClean.free m owner cX (ch m h c).1 (ch m h c).2=some (at' m h K)
 | 0,c,h1,h2=>by rw [Nat.add_zero] at h2;omega
 | cX + 1,c,h1,h2=>by
  unfold layClean.free
  have cl:=BI m h c
  have wd:runEnd m (ch m h c).1 + 1 - (ch m h c).1=gy m h c + 1:=by unfold gy runEnd;split<;>omega
  have inb:∀ off,off≤gy m h c→(ch m h c).1 + off < owner.size:=fun off l=>by
   rw [sz]
   unfold gy runEnd at l
   split at l<;>omega
  have pt:∀ off,off≤gy m h c→at' m h (fl m h c + off)=(ch m h c).1 + off:=fun off l=>BJ m h c l
  by_cases q:K < fl m h (c + 1)
  ·obtain⟨off,rfl⟩ : ∃ off,K=fl m h c + off:=⟨K - fl m h c,by omega⟩
   have lo:off≤gy m h c:=by rw [fl] at q;omega
   have fd:(List.range (runEnd m (ch m h c).1 + 1 - (ch m h c).1)).find? (fun k=>(owner.getD ((ch m h c).1 + k) (some 0)).isNone)=some off:=by
    rw [wd,List.find?_range_eq_some]
    refine⟨(getD_none (inb off lo)).mpr (by rw [← pt off lo];exact f1),List.mem_range.mpr (by omega),fun j hj => ?_⟩
    have:=f2 (fl m h c + j) (by omega)
    rw [pt j (by omega)] at this
    rw [Bool.not_eq_true',Bool.eq_false_iff];exact fun z=>(getD_none (inb j (by omega))).mp z this
   rw [fd]
   dsimp only
   rw [pt off lo]
  ·have fd:(List.range (runEnd m (ch m h c).1 + 1 - (ch m h c).1)).find? (fun k=>(owner.getD ((ch m h c).1 + k) (some 0)).isNone)=none:=by
    rw [wd,List.find?_range_eq_none]
    intro j hj
    have lj:j≤gy m h c:=by omega
    have:=f2 (fl m h c + j) (by rw [fl] at q;omega)
    rw [pt j lj] at this
    rw [Bool.not_eq_true',Bool.eq_false_iff];exact fun z=>(getD_none (inb j lj)).mp z this
   rw [fd]
   exact sL sz f1 f2 cX (c + 1) (by omega) (by rw [show c + 1 + cX=c + (cX + 1) by omega];exact h2)
theorem BN {m:Nat}(cy:Cyc (m + 1)){owner:Array (YL)}{l:YF}(o:Own m owner l)(r:l.length≤m)(h:Int) :
  ∃ j,layClean.free m owner (turns m) (bits h % (m + 1)) (bits h)=some j∧Own m (owner.setIfInBounds j (some l.length)) (l++[h]):=by
 obtain⟨s,s1,s2⟩:=o.free r
 obtain⟨K,k1,k2,k3⟩:=uT cy h s1 s2
 refine⟨at' m h K,sL o.sz k2 k3 (turns m) 0 (Nat.zero_le _) (by rw [Nat.zero_add];exact k1),?_⟩
 have jl:=EE m h K
 have inb:at' m h K < owner.size:=by rw [o.sz];omega
 obtain⟨j,hj⟩ : ∃ j,j=at' m h K:=⟨_,rfl⟩
 rw [← hj] at jl inb k2 ⊢
 have g:∀ x,(owner.setIfInBounds j (some l.length))[x]? = if j=x then some (some l.length) else owner[x]? := fun x=>by
  rw [Array.getElem?_setIfInBounds]
  by_cases e:j=x
  ·subst e;simp [inb]
  ·simp [e]
 have mono:∀ x,Occ owner x→Occ (owner.setIfInBounds j (some l.length)) x:=fun x ⟨k,hk⟩=>by
  unfold Occ
  rw [g]
  by_cases e:j=x
  ·exact⟨_,if_pos e⟩
  ·exact⟨k,by rw [if_neg e];exact hk⟩
 refine⟨by rw [Array.size_setIfInBounds];exact o.sz,fun x k hx => ?_,fun k hk => ?_,fun x y k hx hy => ?_⟩
 ·rw [g] at hx
  by_cases e:j=x
  ·rw [if_pos e] at hx
   cases hx
   refine⟨h,by simp,K,by rw [← hj];exact e,fun k' l'=>mono _ (k3 k' l')⟩
  ·rw [if_neg e] at hx
   obtain⟨hh,h1,h2⟩:=o.le x k hx
   exact⟨hh,by rw [ZC (YO h1).1];exact h1,h2.mono mono⟩
 ·rw [ZB] at hk
  by_cases e:k < l.length
  ·obtain⟨x,hx⟩:=o.ex k e
   refine⟨x,?_⟩
   rw [g,if_neg (fun z=>k2 ⟨k,by rw [z];exact hx⟩)]
   exact hx
  ·have:k=l.length:=by simp at hk;omega
   exact⟨j,by rw [g,if_pos rfl,this]⟩
 ·rw [g] at hx hy
  by_cases e1:j=x
  ·by_cases e2:j=y
   ·rw [← e1,← e2]
   ·rw [if_pos e1] at hx
    rw [if_neg e2] at hy
    cases hx
    exact absurd (o.lt hy).2 (Nat.lt_irrefl _)
  ·rw [if_neg e1] at hx
   by_cases e2:j=y
   ·rw [if_pos e2] at hy
    cases hy
    exact absurd (o.lt hx).2 (Nat.lt_irrefl _)
   ·rw [if_neg e2] at hy
    exact o.one x y k hx hy
theorem uU {m:Nat}(cy:Cyc (m + 1)):∀ (rest pre:YF) (owner:Array (YL)),Own m owner pre→pre.length + rest.length≤m + 1 →
  ∃ owner',rest.foldl (init:=(some (owner,pre.length):Option (Array (YL) × Nat))) (fun acc h=>do
   let (owner,k) ← acc
   let j ← layClean.free m owner (turns m) (bits h % (m + 1)) (bits h)
   pure (owner.setIfInBounds j (some k),k + 1))=some (owner',(pre++rest).length)∧Own m owner' (pre++rest)
 | [],pre,owner,o,_=>⟨owner,by rw [List.append_nil];rfl,by rw [List.append_nil];exact o⟩
 | h :: rest,pre,owner,o,r=>by
  rw [List.length_cons] at r
  obtain⟨j,e,o1⟩:=BN cy o (by omega) h
  obtain⟨ow,e2,o2⟩:=uU cy rest (pre++[h]) _ o1 (by rw [ZB,List.length_cons,List.length_nil];omega)
  refine⟨ow,?_,by rw [show pre++h :: rest=pre++[h]++rest by simp];exact o2⟩
  rw [List.foldl_cons]
  have e3:((do
   let (owner,k) ← (some (owner,pre.length):Option (Array (YL) × Nat))
   let j ← layClean.free m owner (turns m) (bits h % (m + 1)) (bits h)
   pure (owner.setIfInBounds j (some k),k + 1)):Option (Array (YL) × Nat))=some (owner.setIfInBounds j (some pre.length),(pre++[h]).length):=by
   show (layClean.free m owner (turns m) (bits h % (m + 1)) (bits h)).bind _=_
   rw [e,ZB]
   rfl
  rw [e3,e2]
  simp
theorem Gb {m:Nat}(cy:Cyc (m + 1))(hs:Array Int)(r:hs.size≤m):∃ owner,layClean m hs=some owner∧Own m owner hs.toList:=by
 have nn:∀ j k:Nat,(Array.replicate (m + 1) (none:YL))[j]? ≠some (some k):=fun j k h=>by
  rw [Array.getElem?_replicate] at h
  split at h<;>cases h
 have o0:Own m (Array.replicate (m + 1) none) []:=⟨by simp,fun j k h=>absurd h (nn j k),fun k hk=>absurd hk (Nat.not_lt_zero _),fun j j' k h=>absurd h (nn j k)⟩
 obtain⟨ow,e,o⟩:=uU cy hs.toList [] _ o0 (by simp;omega)
 rw [List.nil_append] at e o
 refine⟨ow,?_,o⟩
 unfold layClean
 rw [← Array.foldl_toList]
 show (List.foldl _ (some (Array.replicate (m + 1) none,([] : YF).length)) _).map _=_
 rw [e]
 rfl
end Sb
namespace Sb
open PySem SetTable Fm
theorem aY {n f s:Nat}(h:s≤n):sizeAbove.go n (f + 1) s=sizeAbove.go n f (s * 2):=by rw [sizeAbove.go,if_pos h]
theorem kj {n f s:Nat}(h : ¬ s≤n):sizeAbove.go n (f + 1) s=s:=by rw [sizeAbove.go,if_neg h]
theorem above {n:Nat}(h:n < 4096):n < sizeAbove n∧Cyc (sizeAbove n)∧sizeAbove n≤4096∧(sizeAbove n - 1) % 2=1:=by
 have fin:∀ {N:Nat},sizeAbove n=N→n < N→Cyc N→N≤4096→(N - 1) % 2=1→n < sizeAbove n∧Cyc (sizeAbove n)∧sizeAbove n≤4096∧(sizeAbove n - 1) % 2=1:=fun e a b c d=>by rw [e];exact⟨a,b,c,d⟩
 by_cases c0:8≤n
 ·by_cases c1:16≤n
  ·by_cases c2:32≤n
   ·by_cases c3:64≤n
    ·by_cases c4:128≤n
     ·by_cases c5:256≤n
      ·by_cases c6:512≤n
       ·by_cases c7:1024≤n
        ·by_cases c8:2048≤n
         ·exact fin (by unfold sizeAbove;rw [aY c0,aY c1,aY c2,aY c3,aY c4,aY c5,aY c6,aY c7,aY c8,kj (by omega)]) h DG (by omega) (by decide)
         ·exact fin (by unfold sizeAbove;rw [aY c0,aY c1,aY c2,aY c3,aY c4,aY c5,aY c6,aY c7,kj (by omega)]) (by omega) DF (by omega) (by decide)
        ·exact fin (by unfold sizeAbove;rw [aY c0,aY c1,aY c2,aY c3,aY c4,aY c5,aY c6,kj (by omega)]) (by omega) DE (by omega) (by decide)
       ·exact fin (by unfold sizeAbove;rw [aY c0,aY c1,aY c2,aY c3,aY c4,aY c5,kj (by omega)]) (by omega) F9 (by omega) (by decide)
      ·exact fin (by unfold sizeAbove;rw [aY c0,aY c1,aY c2,aY c3,aY c4,kj (by omega)]) (by omega) F8 (by omega) (by decide)
     ·exact fin (by unfold sizeAbove;rw [aY c0,aY c1,aY c2,aY c3,kj (by omega)]) (by omega) F7 (by omega) (by decide)
    ·exact fin (by unfold sizeAbove;rw [aY c0,aY c1,aY c2,kj (by omega)]) (by omega) Ia (by omega) (by decide)
   ·exact fin (by unfold sizeAbove;rw [aY c0,aY c1,kj (by omega)]) (by omega) HZ (by omega) (by decide)
  ·exact fin (by unfold sizeAbove;rw [aY c0,kj (by omega)]) (by omega) HY (by omega) (by decide)
 ·exact fin (by unfold sizeAbove;rw [kj (by omega)]) (by omega) HX (by omega) (by decide)
def live (m:Nat) (owner:Array (YL)):List (Nat × Nat):=(List.range (m + 1)).filterMap fun j=>(owner.getD j none).map (j,·)
theorem getD_some {owner:Array (YL)}{j k:Nat}:owner.getD j none=some k ↔ owner[j]? = some (some k):=by
 by_cases h:j < owner.size
 ·simp [Array.getD,h]
 ·simp [Array.getD,h]
theorem gz {m:Nat}{owner:Array (YL)}{l:YF}(o:Own m owner l){j k:Nat}:(j,k)∈live m owner ↔ owner[j]? = some (some k):=by
 unfold live
 rw [List.mem_filterMap]
 constructor
 ·rintro⟨x,_,e⟩
  obtain⟨y,hy,q⟩:=Option.map_eq_some_iff.mp e
  cases q
  exact getD_some.mp hy
 ·intro h
  exact⟨j,List.mem_range.mpr (by have:=(o.lt h).1;omega),by rw [getD_some.mpr h];rfl⟩
theorem yv (m:Nat)(owner:Array (YL)):((live m owner).map (·.1)).Pairwise (· < ·):=by
 unfold live
 rw [List.map_filterMap,List.pairwise_filterMap]
 refine List.Pairwise.imp ?_ List.pairwise_lt_range
 intro a b hab x hx y hy
 have ex:x=a:=by
  cases q:owner.getD a none with
  | none=>rw [q] at hx;cases hx
  | some k=>rw [q] at hx;cases hx;rfl
 have ey:y=b:=by
  cases q:owner.getD b none with
  | none=>rw [q] at hy;cases hy
  | some k=>rw [q] at hy;cases hy;rfl
 subst ex;subst ey;exact hab
theorem zC {m:Nat}{owner:Array (YL)}{l:YF}(o:Own m owner l):((live m owner).map (·.2)).Perm (List.range l.length):=by
 have up:=yv m owner
 have nd:((live m owner).map (·.2)).Nodup:=by
  rw [List.nodup_iff_pairwise_ne,List.pairwise_map]
  rw [List.pairwise_map] at up
  refine up.imp_of_mem fun {a b} ha hb hab e => ?_
  obtain⟨ja,ka⟩:=a
  obtain⟨jb,kb⟩:=b
  have qa:=(gz o).mp ha
  have qb:=(gz o).mp hb
  have e:ka=kb:=e
  subst e
  have:=o.one ja jb ka qa qb
  have hab:ja < jb:=hab
  omega
 refine (List.perm_ext_iff_of_nodup nd List.nodup_range).mpr fun k => ?_
 rw [List.mem_map,List.mem_range]
 constructor
 ·rintro⟨⟨j,k'⟩,h,rfl⟩
  exact (o.lt ((gz o).mp h)).2
 ·intro h
  obtain⟨j,hj⟩:=o.ex k h
  exact⟨(j,k),(gz o).mpr hj,rfl⟩
theorem DM {α : Type}(es:Array α):(List.range es.size).filterMap (fun k=>es[k]?)=es.toList:=by
 apply List.ext_getElem?
 intro i
 have:∀ n,n≤es.size→(List.range n).filterMap (fun k=>es[k]?)=es.toList.take n:=fun n=>by
  induction n with
  | zero=>intro _;rfl
  | succ n ih =>
   intro hn
   rw [List.range_succ,List.filterMap_append,ih (by omega),List.take_add_one]
   congr 1
   simp [show n < es.size by omega]
 rw [this _ (ZL _),List.take_of_length_le (by simp)]
theorem BO {led:Bool}{t:YN}{es:YE}(le:t.led=led){wanted:Nat}(hw:wanted < 4096)(hn:es.size≤wanted) :
  ∃ t' order,t.relaid (es.map (·.1)) wanted=some (t',order)∧(order.filterMap (fun k=>es[k]?)).toList.Perm es.toList∧iu led t' (order.filterMap (fun k=>es[k]?))∧wanted≤t'.mask∧t'.mask < 4096:=by
 obtain⟨a1,a2,a3,a4⟩:=above hw
 obtain⟨m,hm⟩ : ∃ m,m + 1=sizeAbove wanted:=⟨sizeAbove wanted - 1,by omega⟩
 have hm2:sizeAbove wanted - 1=m:=by omega
 rw [← hm] at a1 a2
 rw [hm2] at a4
 obtain⟨owner,e1,o⟩:=Gb a2 (es.map (·.1)) (by rw [Array.size_map];omega)
 obtain⟨L,hL⟩ : ∃ L,L=live m owner:=⟨_,rfl⟩
 have e2:t.relaid (es.map (·.1)) wanted=some ({ mask:=m,place:=(L.map (·.1)).toArray,dummies := #[],finger:=t.finger,led:=t.led,moves:=t.movedTo m,plain:=t.plain },(L.map (·.2)).toArray):=by
  unfold SetTable.relaid SetTable.laid
  rw [hm2,e1,hL]
  rfl
 have up:=yv m owner
 have pm:=zC o
 have lt:∀ p∈L,p.2 < es.size:=fun p hp=>by
  rw [hL] at hp
  have:=(o.lt ((gz o (j:=p.1) (k:=p.2)).mp hp)).2
  simpa using this
 rw [← hL] at up pm
 have eO:((L.map (·.2)).toArray.filterMap (fun k=>es[k]?)).toList=L.filterMap (fun p=>es[p.2]?):=by
  rw [Array.toList_filterMap,List.filterMap_map]
  rfl
 have eG:∀ L':List (Nat × Nat),(∀ p∈L',p.2 < es.size)→(L'.filterMap (fun p=>es[p.2]?)).length=L'.length ∧ ∀ i:Nat,(L'.filterMap (fun p=>es[p.2]?))[i]? = (L'[i]?).bind fun p=>es[p.2]? := fun L'=>by
  induction L' with
  | nil=>intro _;exact⟨rfl,fun i=>by simp⟩
  | cons p L' ih =>
   intro h
   obtain⟨i1,i2⟩:=ih fun q hq=>h q (ZW _ hq)
   have hp:=h p ZV
   have ep:es[p.2]? = some es[p.2]:=Array.getElem?_eq_getElem hp
   rw [List.filterMap_cons,ep]
   refine⟨by rw [List.length_cons,List.length_cons,i1],fun i => ?_⟩
   cases i with
   | zero=>rw [List.getElem?_cons_zero,List.getElem?_cons_zero];exact ep.symm
   | succ i=>rw [List.getElem?_cons_succ,List.getElem?_cons_succ];exact i2 i
 obtain⟨g1,g2⟩:=eG L lt
 have perm:((L.map (·.2)).toArray.filterMap (fun k=>es[k]?)).toList.Perm es.toList:=by
  rw [Array.toList_filterMap]
  have:=pm.filterMap (fun k=>es[k]?)
  rw [Array.toList_map,ZA,Array.length_toList,DM] at this
  exact this
 have len:((L.map (·.2)).toArray.filterMap (fun k=>es[k]?)).size=es.size:=by rw [← Array.length_toList,perm.length_eq,Array.length_toList]
 refine⟨_,_,e2,perm,⟨?_,rfl,le,?_,a2,by rw [len];show es.size≤m;omega,a4,fun i j e h1 h2 => ?_⟩,by show wanted≤m;omega,by show m < 4096;omega⟩
 ·show List.Pairwise _ _
  exact up
 ·rw [← Array.length_toList (xs:=((L.map (·.2)).toArray.filterMap (fun k=>es[k]?))),eO,g1]
  simp
 ·have h1:(L.map (·.1))[i]? = some j:=by simpa using h1
  rw [← Array.getElem?_toList,eO,g2] at h2
  rw [ZQ] at h1
  obtain⟨p,q1,q2⟩:=Option.map_eq_some_iff.mp h1
  rw [q1] at h2
  have h2:es[p.2]? = some e:=h2
  have mp:p∈live m owner:=by rw [← hL];exact ZK q1
  have ow:=(gz o (j:=p.1) (k:=p.2)).mp mp
  obtain⟨hh,r1,r2⟩:=o.le _ _ ow
  have eh:hh=e.1:=by
   rw [Array.getElem?_toList,Array.getElem?_map,h2] at r1
   cases r1;rfl
  rw [eh,q2] at r2
  refine⟨by rw [← q2];exact (o.lt ow).1,r2.mono fun x hx => ?_⟩
  obtain⟨k,hk⟩:=hx
  show x∈(L.map (·.1)).toArray
  rw [List.mem_toArray,List.mem_map]
  exact⟨(x,k),by rw [hL];exact (gz o).mpr hk,rfl⟩
end Sb
namespace Sb
open PySem SetTable Fm
section
variable {prog:Program} {w:World} {A:Around} {E:ZY} {s:Shared}
abbrev TK (prog:Program) (w:World):=IsTupleKey (intKind prog w)
abbrev th (prog:Program) (w:World) (ns:YF):Int:=tupleKeyHash (intKind prog w) ns
theorem BP {k:Int}{v:Value}(h:(intKind prog w).is k v=true):∃ t,v=.int k t:=Value.isInt_shape (show Value.isInt k v=true from h)
theorem yw {ks:YF}{vs:YG}(h:ItemsAre (intKind prog w) ks vs):∀ v∈vs,∃ n t,v=.int n t:=by
 induction h with
 | nil=>intro v hv;simp at hv
 | @cons k v' ks vs h1 _ ih =>
  intro v hv
  rcases YQ hv with rfl|hv
  ·obtain⟨t,e⟩:=BP h1;exact⟨_,t,e⟩
  ·exact ih v hv
theorem wP {ns:YF}{b:Addr}{Q:Bool→Shared→Prop}(hk:TK prog w s.heap ns b)(h:Q true s):wpAny (model prog w) A (hashByValue 8 (.ref b)) Q E s:=by
 have hT:=hk.typeIs
 obtain⟨o,items,n,ho,_,hd,hi⟩:=hk
 unfold hashByValue
 refine YW (wpAny_specialOf hT F.slot_tuple_hash.lookup ?_)
 show wpAny _ _ (seqItems? (.ref b) >>= _) _ _ s
 refine YW (wpAny_seqItems ho hd ?_)
 refine YW ?_
 show wpAny _ _ (forIn items _ _) _ _ s
 rw [← Array.forIn_toList]
 refine wpAny_forIn_list _ (fun rest r s'=>r.1=none∧s'=s ∧ ∀ v∈rest,∃ n t,v=Value.int n t) _ ?_ ?_ _ _ ⟨rfl,rfl,yw hi⟩
 ·rintro v rest r s' ⟨hr,rfl,hall⟩
  obtain⟨n,t,rfl⟩:=hall v ZV
  have e:hashByValue 7 (.int n t)=pure true:=rfl
  rw [e]
  refine YW (YX ?_)
  simp only [Bool.not_true,Bool.false_eq_true,if_false]
  exact YX ⟨rfl,rfl,fun u hu'=>hall u (ZW _ hu')⟩
 ·rintro⟨r1,r2⟩ s' ⟨hr,rfl,_⟩
  simp only at hr
  subst hr
  exact YX h
theorem yx {ns:YF}{b:Addr}{Q:Bool→Shared→Prop}(hk:TK prog w s.heap ns b)(h:Q false s):wpAny (model prog w) A (ofAClassStatement 8 (.ref b)) Q E s:=by
 have hT:=hk.typeIs
 obtain⟨o,items,n,ho,_,hd,hi⟩:=hk
 unfold ofAClassStatement
 refine YW (wpAny_typeOf hT ?_)
 dsimp only
 rw [if_pos (show ("tuple" == "tuple")=true from by decide)]
 refine YW (YX ?_)
 simp only [Bool.not_true,Bool.false_eq_true,if_false]
 refine YW (wpAny_seqItems ho hd ?_)
 refine YW ?_
 show wpAny _ _ (forIn items _ _) _ _ s
 rw [← Array.forIn_toList]
 refine wpAny_forIn_list _ (fun rest r s'=>r.1=none∧s'=s ∧ ∀ v∈rest,∃ n t,v=Value.int n t) _ ?_ ?_ _ _ ⟨rfl,rfl,yw hi⟩
 ·rintro v rest r s' ⟨hr,rfl,hall⟩
  obtain⟨n,t,rfl⟩:=hall v ZV
  have e:ofAClassStatement 7 (.int n t)=pure false:=rfl
  rw [e]
  refine YW (YX ?_)
  simp only [Bool.false_eq_true,if_false]
  exact YX ⟨rfl,rfl,fun u hu'=>hall u (ZW _ hu')⟩
 ·rintro⟨r1,r2⟩ s' ⟨hr,rfl,_⟩
  simp only at hr
  subst hr
  exact YX h
theorem Gc {ns:YF}{b:Addr}{stored:YG}{Q:Bool→Shared→Prop}(hk:TK prog w s.heap ns b)(hs:∀ y∈stored,∃ c ms,y=.ref c∧TK prog w s.heap ms c)(h:Q false s):wpAny (model prog w) A (searchCouldBeSeen (.ref b) stored) Q E s:=by
 unfold searchCouldBeSeen
 refine YW ?_
 refine wpAny_forIn_list _ (fun rest r s'=>r.1=none∧s'=s ∧ ∀ y∈rest,∃ c ms,y=.ref c∧TK prog w s.heap ms c) _ ?_ ?_ _ _ ⟨rfl,rfl,hs⟩
 ·rintro v rest r s' ⟨hr,rfl,hall⟩
  obtain⟨c,ms,rfl,hc⟩:=hall v ZV
  have rest':∀ y∈rest,∃ c ms,y=.ref c∧TK prog w s'.heap ms c:=fun u hu'=>hall u (ZW _ hu')
  dsimp only
  refine wpAny_ite_split (fun _=>YX ⟨rfl,rfl,rest'⟩) fun _ => ?_
  refine YW (wpAny_eqIsQuiet_tuple hk ?_)
  rw [if_neg (by decide)]
  refine YW (wpAny_eqIsQuiet_tuple hc ?_)
  rw [if_neg (by decide)]
  refine YW (yx hk ?_)
  rw [if_neg (by decide)]
  refine YW (yx hc ?_)
  rw [if_neg (by decide)]
  exact YX ⟨rfl,rfl,rest'⟩
 ·rintro⟨r1,r2⟩ s' ⟨hr,rfl,_⟩
  simp only at hr
  subst hr
  exact YX h
inductive Keys (prog:Program) (w:World) (h:Heap):YD→YA→Prop
 | nil:Keys prog w h [] []
 | cons {b:Addr} {ns:YF} {es:YD} {ks:YA}:TK prog w h ns b→Keys prog w h es ks→Keys prog w h ((th prog w ns,.ref b) :: es) (ns :: ks)
theorem Keys.len {h:Heap}{es:YD}{ks:YA}(x:Keys prog w h es ks):es.length=ks.length:=by
 induction x with
 | nil=>rfl
 | cons _ _ ih=>simp [ih]
theorem Keys.get {h:Heap}{es:YD}{ks:YA}(x:Keys prog w h es ks):∀ {i:Nat} {e:Int × Value},es[i]? = some e → ∃ b ns,e=(th prog w ns,.ref b)∧ks[i]? = some ns∧TK prog w h ns b:=by
 induction x with
 | nil=>intro i e he;simp at he
 | @cons b ns es ks hb _ ih =>
  intro i e he
  cases i with
  | zero=>simp at he;exact⟨b,ns,he.symm,rfl,hb⟩
  | succ i=>rw [List.getElem?_cons_succ] at he ⊢;exact ih he
theorem Keys.perm {h:Heap}{es es':YD}(p:es.Perm es'):∀ {ks:YA},Keys prog w h es ks → ∃ ks',Keys prog w h es' ks'∧ks.Perm ks':=by
 induction p with
 | nil=>intro ks x;exact⟨ks,x,.refl _⟩
 | cons a _ ih =>
  intro ks x
  cases x with
  | cons hb x =>
   obtain⟨ks',y,q⟩:=ih x
   exact⟨_,.cons hb y,q.cons _⟩
 | swap a b l =>
  intro ks x
  cases x with
  | cons hb x =>
   cases x with
   | cons hc x=>exact⟨_,.cons hc (.cons hb x),.swap _ _ _⟩
 | trans _ _ ih1 ih2 =>
  intro ks x
  obtain⟨k1,y1,q1⟩:=ih1 x
  obtain⟨k2,y2,q2⟩:=ih2 y1
  exact⟨k2,y2,q1.trans q2⟩
theorem Keys.kept {h h':Heap}{es:YD}{ks:YA}(x:Keys prog w h es ks)(k:∀ b o,(∃ ns,TK prog w h ns b)→h.get? b=some o→h'.get? b=some o):Keys prog w h' es ks:=by
 induction x with
 | nil=>exact .nil
 | @cons b ns es ks hb _ ih =>
  refine .cons ?_ ih
  obtain⟨o,items,n,ho,hc,hd,hi⟩:=hb
  exact⟨o,items,n,k b o ⟨ns,o,items,n,ho,hc,hd,hi⟩ ho,hc,hd,hi⟩
theorem qR {led:Bool}{a b:Addr}{ns:YF}{o:Obj}{es:YE}{ep:Nat}{t:YN}{ks:YA}(hu:A.units < cLine)(ho:s.heap.get? a=some o)(hd:o.data=.set es ep t)(O:iu led t es)(hK:Keys prog w s.heap es.toList ks)(hb:TK prog w s.heap ns b)
  {K:Nat} (k1:K < 10 * turns t.mask) (f1:at' t.mask (th prog w ns) K∉t.place) (f2:∀ k,k < K→at' t.mask (th prog w ns) k∈t.place) {Q:SetFound→Shared→Prop}
  (h1:ns∈ks→Q (.there none) s) (h2:ns∉ks→Q (.free (at' t.mask (th prog w ns) K) false) s) :
  ∀ (cX k:Nat) (stand:Option Probe),stand.getD (t.probeStart (th prog w ns))=pst t.mask (th prog w ns) k→k≤K→K - k < cX→(∀ k' i:Nat,k' < k→t.place[i]? = some (at' t.mask (th prog w ns) k')→ks[i]? ≠some ns) →
   wpAny (model prog w) A (setSearchFrom a (.ref b) (th prog w ns) true cX stand) Q E s
 | 0,k,stand,_,_,l,_=>absurd l (Nat.not_lt_zero _)
 | cX + 1,k,stand,st,l1,l2,hn=>by
  unfold setSearchFrom
  refine YW (wpAny_setState_of ho hd O.fits ?_)
  dsimp only
  rw [if_neg (by rw [O.way];decide),st]
  have pr:=uS O.up O.no (fun i=>(es[i]?.map (·.1)).getD 0) (th prog w ns) f1 f2 (10 * turns t.mask) k l1 (by omega)
  have hin:∀ {i:Nat} {e:Int × Value},es[i]? = some e → ∃ c ms,e=(th prog w ms,.ref c)∧ks[i]? = some ms∧TK prog w s.heap ms c:=fun {i e} q=>hK.get (by rw [Array.getElem?_toList];exact q)
  have inb:∀ {i j:Nat},t.place[i]? = some j → ∃ e,es[i]? = some e:=fun {i j} q=>by
   have:=(Array.getElem?_eq_some_iff.mp q).1
   rw [O.sz] at this
   exact⟨es[i],Array.getElem?_eq_getElem this⟩
  rcases pr with ⟨q1,q2⟩|⟨k',i,a1,a2,a3,a4,a5,a6⟩
  ·have q1:t.probe (fun i=>(es[i]?.map (·.1)).getD 0) (th prog w ns) (pst t.mask (th prog w ns) k)=some (.empty (at' t.mask (th prog w ns) K) none):=q1
   erw [q1]
   dsimp only
   refine YX (h2 fun m => ?_)
   obtain⟨i,hi⟩:=List.getElem?_of_mem m
   have il:i < es.size:=by
    have:=(YO hi).1
    rw [← hK.len,Array.length_toList] at this
    exact this
   have ei:es[i]? = some es[i]:=Array.getElem?_eq_getElem il
   obtain⟨c,ms,e1,e2,e3⟩:=hin ei
   rw [hi] at e2
   cases e2
   have pl:i < t.place.size:=by rw [O.sz];exact il
   have pi:t.place[i]? = some t.place[i]:=Array.getElem?_eq_getElem pl
   obtain⟨_,kk,r1,r2⟩:=O.re i _ _ pi ei
   rw [e1] at r1 r2
   have r1:at' t.mask (th prog w ns) kk=t.place[i]:=r1
   have lk:kk < K:=by
    rcases Nat.lt_or_ge kk K with z|z
    ·exact z
    ·exfalso
     by_cases ze:kk=K
     ·apply f1;rw [← ze,r1];exact Array.getElem_mem pl
     ·exact f1 (r2 K (by omega))
   by_cases lkk:kk < k
   ·exact hn kk i lkk (by rw [r1];exact pi) hi
   ·refine q2 kk i (by omega) lk (by rw [r1];exact pi) ?_
    show (es[i]?.map (·.1)).getD 0=_
    rw [ei,e1]
    rfl
  ·have a5:t.probe (fun i=>(es[i]?.map (·.1)).getD 0) (th prog w ns) (pst t.mask (th prog w ns) k)=some (.candidate (at' t.mask (th prog w ns) k') i (pst t.mask (th prog w ns) (k' + 1))):=a5
   erw [a5]
   dsimp only
   obtain⟨e,ei⟩:=inb a3
   obtain⟨c,ms,e1,e2,e3⟩:=hin ei
   subst e1
   rw [ei]
   dsimp only
   have hs:∀ y∈List.map (fun x=>x.snd) (Array.filter (fun x=>x.fst == th prog w ns) es).toList,∃ c ms,y=.ref c∧TK prog w s.heap ms c:=fun y hy=>by
    obtain⟨x,hx,rfl⟩:=YR hy
    have hx:=(Array.mem_filter.mp (Array.mem_toList_iff.mp hx)).1
    obtain⟨j,hj⟩:=Array.getElem?_of_mem hx
    obtain⟨c,ms,e,_,q⟩:=hin hj
    rw [e]
    exact⟨c,ms,rfl,q⟩
   have tail:wpAny (model prog w) A (holding [Value.ref c] (eqBool (Value.ref c) (Value.ref b)) >>= fun equal=>setState a >>= fun __x=>if (true && equal)=true then pure (SetFound.there none)
        else
         match __x.2.snd.sameMemory t.moves t.mask with
         | some same =>
          match if same=true then __x.2.snd.slot (at' t.mask (th prog w ns) k') else Slot.empty with
          | Slot.live i' =>
           match __x.fst[i']? with
           | some (fst,y')=>do
            let __do_lift ← isSame y' (Value.ref c)
            let still ← pure (if __do_lift=true then some i' else none)
            match still with
             | none=>do
              rule "set.search.anew"
              setSearchFrom a (Value.ref b) (th prog w ns) true cX none
             | some i' =>
              if equal=true then pure (SetFound.there (some i'))
              else
               setSearchFrom a (Value.ref b) (th prog w ns) true cX
                (some (pst t.mask (th prog w ns) (k' + 1)))
           | none=>do
            let still ← pure none
            match still with
             | none=>do
              rule "set.search.anew"
              setSearchFrom a (Value.ref b) (th prog w ns) true cX none
             | some i' =>
              if equal=true then pure (SetFound.there (some i'))
              else
               setSearchFrom a (Value.ref b) (th prog w ns) true cX
                (some (pst t.mask (th prog w ns) (k' + 1)))
          | x=>do
           let still ← pure none
           match still with
            | none=>do
             rule "set.search.anew"
             setSearchFrom a (Value.ref b) (th prog w ns) true cX none
            | some i' =>
             if equal=true then pure (SetFound.there (some i'))
             else
              setSearchFrom a (Value.ref b) (th prog w ns) true cX
               (some (pst t.mask (th prog w ns) (k' + 1)))
         | x=>unsupported "set.changed-during-lookup:is-the-new-block-at-the-old-address") Q E s:=by
    refine YW (wpAny_holding (wpAny_eqBool_tuple hu e3 hb ?_))
    refine YW (wpAny_setState_of ho hd O.fits ?_)
    dsimp only
    by_cases c1:ms=ns
    ·rw [YZ c1,if_pos (by decide)]
     exact YX (h1 (by rw [← c1];exact ZK e2))
    ·rw [XB c1,if_neg (by decide)]
     have sm:t.sameMemory t.moves t.mask=some true:=by unfold SetTable.sameMemory;rw [if_pos (beq_self_eq_true _)]
     rw [sm]
     dsimp only
     rw [if_pos rfl,qQ O.up a3]
     dsimp only
     rw [ei]
     dsimp only
     refine YW (wpAny_isSame_ref_self ?_)
     refine YW (YX ?_)
     rw [if_pos rfl]
     dsimp only
     rw [if_neg (by decide)]
     refine qR hu ho hd O hK hb k1 f1 f2 h1 h2 cX (k' + 1) _ rfl (by omega) (by omega) fun kk j l pj ej => ?_
     by_cases z:kk=k'
     ·subst z
      have:j=i:=by rw [← jz O.up pj,jz O.up a3]
      rw [this,e2] at ej
      cases ej
      exact c1 rfl
     ·by_cases z2:kk < k
      ·exact hn kk j z2 pj ej
      ·refine a6 kk j (by omega) (by omega) pj ?_
       obtain⟨e',q'⟩:=inb pj
       obtain⟨c',ms',e1',e2',_⟩:=hin q'
       rw [ej] at e2'
       cases e2'
       rw [q',e1']
       rfl
   refine wpAny_ite_split (fun _ => ?_) fun _=>tail
   refine YW (Gc hb hs ?_)
   rw [if_neg (by decide)]
   exact tail
end
end Sb
namespace Sb
open PySem SetTable Fm
section
variable {prog:Program} {w:World} {A:Around} {E:ZY} {s:Shared} {led:Bool} {D:Value→Prop} {a b:Addr} {ns:YF} {ks:YA}
def fN (prog:Program) (w:World) (led:Bool) (D:Value→Prop) (a:Addr) (ks:YA) (h:Heap):Prop :=
 ∃ es ep t ms,h.get? a=some { cls:=.type "set",dict:=none,data:=.set es ep t } ∧ iu led t es∧es.size * 5 < t.mask * 3∧t.mask < 4096∧(∀ e∈es.toList,D e.2)∧Keys prog w h es.toList ms∧ms.Perm ks
theorem BQ {h:Heap} {o:Obj} (ho:h.get? a=some o) (hc:o.cls=.type "set") (hb:TK prog w h ns b):b≠a:=fun e=>by
 obtain⟨o',items,n,ho',hc',_⟩:=hb
 rw [e,ho] at ho'
 cases ho'
 rw [hc] at hc'
 exact absurd hc' (by decide)
theorem uV {h h':Heap} {o:Obj} {es:YD} {ms:YA} (ho:h.get? a=some o) (hc:o.cls=.type "set") (sb:Heap.SameBut a h h') (k:Keys prog w h es ms):Keys prog w h' es ms :=
 k.kept fun b o' ⟨ns,q⟩ e=>(sb.2 b (BQ ho hc q)).trans e
theorem yy {h:Heap} {es es':YE} {ep:Nat} {t t':YN} (ho:h.get? a=some { cls:=.type "set",dict:=none,data:=.set es ep t }) :
  (h.update a (Obj.putSet es' t')).get? a=some { cls:=.type "set",dict:=none,data:=.set es' (ep + 1) t' }:=Heap.get?_update_self (Obj.putSet es' t') ho rfl
theorem Ge {h h':Heap} {o:Obj} (ho:h.get? a=some o) (hc:o.cls=.type "set") (sb:Heap.SameBut a h h') (hb:TK prog w h ns b):TK prog w h' ns b:=by
 have ne:=BQ ho hc hb
 obtain⟨o',items,n,ho',hc',hd,hi⟩:=hb
 exact⟨o',items,n,(sb.2 b ne).trans ho',hc',hd,hi⟩
theorem BR {Q:Bool→Shared→Prop}(hu:A.units < cLine)(hS:fN prog w led D a ks s.heap)(hb:TK prog w s.heap ns b)(hD:D (.ref b))(hz:ks.length + 1≤1000)
  (h:∀ h' c,Heap.SameBut a s.heap h'→fN prog w led D a (if ns∈ks then ks else ns :: ks) h'→Q c { s with heap:=h' }) :
  wpAny (model prog w) A (setAddHashed a (.ref b) (th prog w ns)) Q E s:=by
 obtain⟨es,ep,t,ms,ho,O,nf,mk,dd,hK,pm⟩:=hS
 have sz:es.size=ks.length:=by rw [← Array.length_toList,hK.len,pm.length_eq]
 obtain⟨K,k1,f1,f2⟩:=O.free (th prog w ns)
 unfold setAddHashed setAddHashedIn
 refine wpAny_holding (YW (wpAny_setState_of ho rfl O.fits ?_))
 dsimp only
 rw [if_neg (show ¬ byScan (Value.ref b) es=true from fun z=>by cases z)]
 unfold setSearch
 have mem:ns∈ms ↔ ns∈ks:=pm.mem_iff
 refine YW (qR hu ho rfl O hK hb k1 f1 f2 (fun m => ?_) (fun m => ?_) 100000 0 none rfl (Nat.zero_le _) (by unfold turns at k1;omega) fun k' i l=>absurd l (Nat.not_lt_zero _))
 ·dsimp only
  have m:=mem.mp m
  refine YX ?_
  have:=h s.heap false (Heap.SameBut.refl a s.heap)
  rw [if_pos m] at this
  exact this ⟨es,ep,t,ms,ho,O,nf,mk,dd,hK,pm⟩
 ·dsimp only
  have m:ns∉ks:=fun z=>m (mem.mpr z)
  refine YW (wpAny_setState_of ho rfl O.fits ?_)
  dsimp only
  have O1:=Ga O (th prog w ns) (Value.ref b) f1 f2 (by omega)
  have lenE:(insertAt es (t.put (at' t.mask (th prog w ns) K)).snd (th prog w ns,Value.ref b)).toList.Perm ((th prog w ns,Value.ref b) :: es.toList):=by
   rw [SetTable.toList_insertAt]
   have:=List.perm_middle (a:=(th prog w ns,Value.ref b)) (l₁ := es.toList.take (t.put (at' t.mask (th prog w ns) K)).snd) (l₂ := es.toList.drop (t.put (at' t.mask (th prog w ns) K)).snd)
   rwa [List.take_append_drop] at this
  have km:(t.put (at' t.mask (th prog w ns) K)).1.mask=t.mask:=rfl
  generalize insertAt es (t.put (at' t.mask (th prog w ns) K)).snd (th prog w ns,Value.ref b)=es1 at O1 lenE ⊢
  generalize (t.put (at' t.mask (th prog w ns) K)).1=t1 at O1 km ⊢
  obtain⟨ms1,K1,pm1⟩:=Keys.perm lenE.symm (Keys.cons hb hK)
  have pm2:ms1.Perm (ns :: ks):=pm1.symm.trans (pm.cons ns)
  have dd1:∀ e∈es1.toList,D e.2:=fun e he=>by
   rcases YQ (lenE.mem_iff.mp he) with rfl|he
   ·exact hD
   ·exact dd e he
  have sz1:es1.size=es.size + 1:=by rw [← Array.length_toList,lenE.length_eq];simp
  have goal:wpAny (model prog w) A (storeSet a es1 t1 >>= fun _=>if (!false && t1.tooFull)=true then setRelay a (grown (es.size + 1)) >>= fun _=>pure true else pure true) (fun r s'=>Q r s') E s:=by
   refine YW (wpAny_storeSet_of ho rfl ?_ (by rw [sz1,sizeLine_eq];omega))
   have sb:=Heap.SameBut.update s.heap a (Obj.putSet es1 t1)
   have o1:=yy (es':=es1) (t':=t1) ho
   have K2:=uV ho rfl sb K1
   refine wpAny_ite_split (fun tf => ?_) fun tf => ?_
   ·unfold setRelay
    refine YW (YW (wpAny_setState_of o1 rfl O1.fits ?_))
    dsimp only
    have gr:grown (es.size + 1)=(es.size + 1) * 4:=by unfold grown;rw [if_neg (by omega)]
    rw [gr]
    have ab:=above (show (es.size + 1) * 4 < 4096 by omega)
    rw [if_neg (by rw [sizeLine_eq];omega)]
    obtain⟨t2,order,r1,r2,r3,r4,r5⟩:=BO (t:=t1) (es:=es1) O1.le (show (es.size + 1) * 4 < 4096 by omega) (by omega)
    rw [r1]
    obtain⟨ms3,K3,pm3⟩:=Keys.perm r2.symm K2
    have szz:(order.filterMap (fun k=>es1[k]?)).size=es1.size:=by rw [← Array.length_toList,r2.length_eq,Array.length_toList]
    refine YW ?_
    show wpAny _ _ (if ((order.filterMap (fun k=>es1[k]?)).size != es1.size)=true then _ else _) _ _ _
    rw [if_neg (by rw [szz];simp)]
    refine YX ?_
    dsimp only
    refine wpAny_storeSet_of o1 rfl ?_ (by rw [szz,sz1,sizeLine_eq];omega)
    refine YX ?_
    have sb2:=Heap.SameBut.update (s.heap.update a (Obj.putSet es1 t1)) a (Obj.putSet (order.filterMap (fun k=>es1[k]?)) t2)
    refine h _ true (sb.trans sb2) ?_
    rw [if_neg m]
    exact⟨_,_,t2,ms3,yy o1,r3,by rw [szz,sz1];omega,r5,fun e he=>dd1 e (r2.mem_iff.mp he),uV o1 rfl sb2 K3,pm3.symm.trans pm2⟩
   ·refine YX (h _ true sb ?_)
    rw [if_neg m]
    refine⟨es1,_,t1,ms1,o1,O1,?_,by rw [km];exact mk,dd1,K2,pm2⟩
    have : ¬ t1.tooFull=true:=by simpa using tf
    unfold SetTable.tooFull SetTable.fill at this
    rw [O1.no,O1.sz] at this
    simpa using this
  refine wpAny_ite_split (fun _=>YW (wP hb ?_)) fun _=>YW (YX ?_)
  ·rw [if_pos rfl];exact goal
  ·rw [if_pos rfl];exact goal
end
end Sb
namespace Fm
end Fm
namespace Fm
end Fm
namespace Fm
def nC (ns:YA) (k:YF):YA:=if k∈ns then ns else k :: ns
def ddr (l:YA):YA:=l.foldl nC []
theorem BS (ns:YA)(k x:YF):x∈nC ns k ↔ x∈ns∨x=k:=by
 unfold nC
 split
 ·rename_i h
  exact⟨.inl,fun q=>q.elim id fun e=>e ▸ h⟩
 ·rw [List.mem_cons];exact Or.comm
theorem wQ {ns:YA}(h:ns.Nodup)(k:YF):(nC ns k).Nodup:=by
 unfold nC
 split
 ·exact h
 ·exact List.nodup_cons.mpr ⟨by assumption,h⟩
theorem qS:∀ (l acc:YA) (x:YF),x∈l.foldl nC acc ↔ x∈acc∨x∈l
 | [],acc,x=>by simp
 | k :: l,acc,x=>by
  rw [List.foldl_cons,qS l,BS,List.mem_cons,or_assoc]
theorem nr:∀ (l acc:YA),acc.Nodup→(l.foldl nC acc).Nodup
 | [],acc,h=>h
 | k :: l,acc,h=>nr l _ (wQ h k)
theorem qT:∀ (l acc:YA),(l.foldl nC acc).length≤acc.length + l.length
 | [],acc=>by simp
 | k :: l,acc=>by
  have:=qT l (nC acc k)
  have h:(nC acc k).length≤acc.length + 1:=by unfold nC;split<;>simp
  rw [List.foldl_cons,List.length_cons]
  omega
theorem yz (l:YA)(x:YF):x∈ddr l ↔ x∈l:=by unfold ddr;rw [qS];simp
theorem jX (l:YA):(ddr l).Nodup:=nr l [] List.nodup_nil
theorem yA (l:YA):(ddr l).length≤l.length:=by unfold ddr;have:=qT l [];simpa using this
theorem BT {l:YA}{i:Nat}(h:i < l.length):ddr (l.take (i + 1))=nC (ddr (l.take i)) (l.getD i []):=by
 unfold ddr
 have e:l.take (i + 1)=l.take i++[l.getD i []]:=by
  rw [List.take_add_one,ZE h]
  simp [List.getD,h]
 rw [e,List.foldl_append]
 rfl
def oY (l:List D):Option (List D):=match pU l with
 | some r=>if l.length < 1000∧r.all (fun x => !x.isEmpty)=true then some ((bN (ddr r)).map kx) else none
 | none=>none
def lJ (L:LF):LF:=fun σ h=>(L σ h).bind fun l h=>match oY l with
 | some l=>.ok l h
 | none=>.bad
end Fm
namespace Sb
open PySem PySem.Spec SetTable Fm
section
variable {prog:Program} {w:World} {A:Around} {R:ZZ} {I:Addr} {fp wr:YH} {G:Array GenState→Array GenState→Prop} {P:Nat→Value→Prop} {St:Nat→Shared→Prop} {led:Bool} {D:Value→Prop}
theorem TK.kept {h h':Heap}{ns:YF}{b:Addr}(x:TK prog w h ns b)(k:∀ o,h.get? b=some o→h'.get? b=some o):TK prog w h' ns b:=by
 obtain⟨o,items,n,ho,hc,hd,hi⟩:=x
 exact⟨o,items,n,k _ ho,hc,hd,hi⟩
theorem fN.kept {a:Addr} {ks:YA} {h h':Heap} (x:fN prog w led D a ks h) (k:∀ b o,b=a∨o.cls=.type "tuple" → h.get? b=some o→h'.get? b=some o):fN prog w led D a ks h':=by
 obtain⟨es,ep,t,ms,ho,O,nf,mk,dd,hK,pm⟩:=x
 exact⟨es,ep,t,ms,k _ _ (.inl rfl) ho,O,nf,mk,dd,hK.kept fun b o ⟨ns,o',_,_,ho',hc,_⟩ e=>by
  rw [e] at ho';cases ho';exact k b o (.inr hc) e,pm⟩
theorem TK.cls {h:Heap} {ns:YF} {b:Addr} (x:TK prog w h ns b):∀ o,h.get? b=some o→o.cls=.type "tuple" := by
 obtain⟨o,items,n,ho,hc,hd,hi⟩:=x
 intro o' e
 rw [ho] at e;cases e;exact hc
theorem zD (ks:YA)(bs:YH)(W:WalksS prog w A.in1 I fp wr G ks.length P St)(S:Addr)(hSf:S∉fp)(hu:A.units + 8 < cLine)
  (hval:∀ i v,i < ks.length→P i v→v=.ref (bs.getD i 0)) (hD:∀ i,i < ks.length→D (.ref (bs.getD i 0))) (hz:ks.length + 1≤1000) (hwr:∀ i s,St i s → ∀ b∈wr,∀ o,s.heap.get? b=some o→o.cls ≠ .type "tuple") :
  ∀ (k i:Nat) (s:Shared),ks.length - i=k→i≤ks.length→St i s→fN prog w led D S (ddr (ks.take i)) s.heap→(∀ i,i < ks.length→TK prog w s.heap (ks.getD i []) (bs.getD i 0)) →
   (∀ s',Moved (S :: wr) G s s'→fN prog w led D S (ddr ks) s'.heap→R (.ok (.ret .none)) s')→codeAny (model prog w) A (.builtin "set.update.loop" ⟨[.ref S,.ref I],[]⟩) R s:=by
 have hSw:S∉wr:=fun h=>hSf (W.sub _ h)
 have up:∀ b∈wr,b∈S :: wr:=fun b q=>ZW _ q
 have kp:∀ {i:Nat} {s s':Shared},St i s→Moved wr G s s' → ∀ b o,b=S∨o.cls=.type "tuple" → s.heap.get? b=some o→s'.heap.get? b=some o:=fun {i s s'} st hm b o q e=>hm.heap b o (fun z=>q.elim (fun q=>hSw (q ▸ z)) fun q=>hwr i s st b z o e q) e
 intro k
 induction k with
 | zero =>
  intro i s hk hi st hS hT hR
  have e:i=ks.length:=by omega
  subst e
  rw [List.take_length] at hS
  refine codeAny_builtin PyProof.Rows.F.entry_set_update_loop ?_
  rw [Around.under_plainId PyProof.Rows.F.plain_set_update_loop _]
  show wpAny _ A.in1 (pyNext (.ref I) >>= _) _ _ s
  refine YW (W.done s _ _ st fun s' hm => ?_)
  show wpAny _ A.in1 (ret Value.none) _ _ s'
  exact YX (hR s' (hm.mono up) (hS.kept (kp st hm)))
 | succ k ih =>
  intro i s hk hi st hS hT hR
  have hlt:i < ks.length:=by omega
  refine codeAny_builtin PyProof.Rows.F.entry_set_update_loop ?_
  rw [Around.under_plainId PyProof.Rows.F.plain_set_update_loop _]
  show wpAny _ A.in1 (pyNext (.ref I) >>= _) _ _ s
  refine YW (W.item i s _ _ hlt st fun v s' hP st' hm => ?_)
  have hv:=hval i v hlt hP
  subst hv
  have kp1:=kp st hm
  have hS1:fN prog w led D S (ddr (ks.take i)) s'.heap:=hS.kept kp1
  have hT1:∀ i,i < ks.length→TK prog w s'.heap (ks.getD i []) (bs.getD i 0):=fun j hj=>TK.kept (hT j hj) fun o e=>kp1 _ o (.inr (TK.cls (hT j hj) o e)) e
  generalize hB:bs.getD i 0=B
  have hTi:=hT1 i hlt
  rw [hB] at hTi
  show wpAny _ A.in1 (holding [Value.ref B] (setAdd S (.ref B)) >>= _) _ _ s'
  unfold setAdd
  refine YW (wpAny_holding (wpAny_holding (YW (wpAny_pyHash_tuple (by rw [Around.in1_units];omega) hTi ?_))))
  have room:(ddr (ks.take i)).length + 1≤1000:=by
   have h1:=yA (ks.take i)
   rw [List.length_take] at h1
   omega
  refine BR (s:={ s' with toks:=s'.toks + ((ks.getD i []).length + 1) }) (by rw [Around.in1_units];omega) hS1 hTi (hB ▸ hD i hlt) room fun h' b sb hS2 => ?_
  have hS3:fN prog w led D S (ddr (ks.take (i + 1))) h':=by rw [BT hlt];exact hS2
  obtain⟨oS,hoS,hcS⟩ : ∃ o,s'.heap.get? S=some o∧o.cls=.type "set" := by obtain⟨es,ep,t,ms,ho,_⟩:=hS1;exact⟨_,ho,rfl⟩
  refine YX ⟨plainId_quiet PyProof.Rows.F.plain_set_update_loop _,ih (i + 1) _ (by omega) hlt (W.frame _ s' _ _ st' (Nat.le_add_right _ _) fun b hb o e => ?_) hS3 (fun j hj=>Ge hoS hcS sb (hT1 j hj)) fun s'' hm2 hS4 => ?_⟩
  ·rw [sb.2 b (fun q:b=S=>hSf (q ▸ hb))];exact e
  ·refine hR s'' (Moved.trans W.gtrans ((hm.mono up).then_heap (Nat.le_add_right _ _) fun b o hb e => ?_) hm2) hS4
   rw [sb.2 b (fun q:b=S=>hb (q ▸ ZV))];exact e
end
end Sb
namespace Sb
open PySem PySem.Spec SetTable Fm
section
variable {prog:Program} {w:World} {A:Around} {E:ZY} {s:Shared} {D:Value→Prop}
theorem BU (ks:YA)(e:ks=[]):fN prog w (jx w) D s.heap.objs.size ks (s.heap.push (cI w)):=by
 subst e
 refine⟨#[],0,_,[],ZJ _ rfl,⟨List.Pairwise.nil,rfl,rfl,rfl,HX,(show 0≤7 by decide),(show 7 % 2=1 by decide),fun i j e h=>by simp [SetTable.fresh] at h⟩,(show 0 * 5 < 7 * 3 by decide),(show 7 < 4096 by decide),fun e he=>by simp at he,Keys.nil,List.Perm.nil⟩
set_option maxHeartbeats 3200000 in
theorem set_of_listT {l:Addr}{items:YK}{ks:YA}{bs:YH}{Q:ZY}(hh:A.handled=none)(hu:A.units + 24 < cLine)(hl:s.heap.IsList l items)(hlen:items.size=ks.length)(hval:∀ (i:Nat) (v:Value),items[i]? = some v→v=.ref (bs.getD i 0))(hTK:∀ i,i < ks.length→TK prog w s.heap (ks.getD i []) (bs.getD i 0))(hD:∀ i,i < ks.length→D (.ref (bs.getD i 0)))(hz:ks.length + 1≤1000)
  (h:∀ (h':Heap) (tk:Nat),fN prog w (jx w) D s.heap.objs.size (ddr ks) h'→(∀ b o,s.heap.get? b=some o→h'.get? b=some o)→Q (.ref s.heap.objs.size) { s with heap:=h',toks:=tk }) :
  wpAny (model prog w) A (call (.type "set") [.ref l]) Q E s:=by
 obtain⟨c,tl,hmro⟩:=F.called_set.mro
 have hmade:=F.called_set.made
 have hsub:=F.called_set.sub
 refine wpAny_call (codeAny_of_tree ?_)
 show wpAny _ _ (callAny (.type "set") _) _ _ _
 refine YX ⟨Code.quiet_builtin _ (by decide +kernel),codeAny_builtin F.entry_type_call ?_⟩
 rw [Around.under_plain (weight_type_call_type "set" [.ref l] []) rfl]
 have h1:=F.called_set.notType
 have h2:=F.called_set.canCreate
 have hct:=F.typeCall_set_1 (.ref l)
 repeat (any_goals (first|assumption|wp_step))
 refine codeAny_mono (DB (.ref l) (E:=E) (Q:=fun v s₁ => v=.ref s.heap.objs.size∧s₁ = { s with heap:=s.heap.push (cI w) }) ⟨rfl,rfl⟩) fun r s₁ hr => ?_
 cases r with
 | error e=>exact hr
 | ok fl =>
  cases fl with
  | ret obj =>
   obtain⟨rfl,rfl⟩:=hr
   have hS:(s.heap.push (cI w)).get? s.heap.objs.size=some (cI w):=ZJ _ rfl
   have hT:Shared.TypeIs { s with heap:=s.heap.push (cI w) } (.ref s.heap.objs.size) "set" := ⟨_,hS,rfl⟩
   have hli:=F.called_set.init.lookup
   have hbi:=F.called_set.init.bind (.ref s.heap.objs.size)
   repeat (any_goals (first|assumption|wp_step))
   refine codeAny_mono (codeAny_call_builtin (R:=wants (fun r s₂ => r=.none ∧ ∃ h' tk,s₂ = { s with heap:=h',toks:=tk } ∧ fN prog w (jx w) D s.heap.objs.size (ddr ks) h'∧(∀ b o,s.heap.get? b=some o→h'.get? b=some o)) E) F.called_set.init.plain F.entry_set_init (check_set_init_1 hT ?_)) fun r₂ s₂ hr₂ => ?_
   ·obtain⟨ol,hol,hcl,nl,hdl⟩:=hl
    obtain⟨ocls,odict,odata,oslots⟩:=ol
    simp only at hcl hdl
    subst hcl;subst hdl
    have ho1:(s.heap.push (cI w)).get? l=some { cls:=.type "list",dict:=odict,data:=.seq items nl,slots:=oslots }:=ZH _ hol
    have hsls:=F.sub_list_set
    have hslf:=F.sub_list_frozenset
    have hne:(Value.type "list" == Value.type "dict")=false:=by decide
    have hl1:(s.heap.push (cI w)).IsList l items:=⟨_,ho1,rfl,nl,rfl⟩
    unfold Builtin.«set.__init__» noKeywords Builtin.Frozenset.updateFrom
    generalize hPI:pyIter=PI
    wp_walk
    subst hPI
    refine wpAny_pyIter_list hl1 ?_
    refine YW (wpAny_runValue ?_)
    have lt:l < s.heap.objs.size:=ZI hol
    have hh3:A.in1.in1.in1.handled=none:=by simp [hh]
    have nI:l≠(s.heap.push (cI w)).objs.size:=by rw [Heap.size_push];exact ZN (Nat.lt_succ_of_lt lt)
    have nS:s.heap.objs.size∉[(s.heap.push (cI w)).objs.size,l]:=by
     rw [Heap.size_push]
     simp only [List.mem_cons,List.not_mem_nil,or_false,not_or]
     exact⟨ZN (Nat.lt_succ_self _),Nat.ne_of_gt lt⟩
    have W:=(Walks.list (prog:=prog) (w:=w) hh3 (s.heap.push (cI w)).objs.size l nI items).toS
    rw [hlen] at W
    refine zD (led:=jx w) ks bs W s.heap.objs.size nS (by simp only [Around.in1_units];omega) (fun i v _ hv=>hval i v hv) hD hz (fun i s1 st b hb o e => ?_) (ks.length - 0) 0 _ rfl (Nat.zero_le _) ⟨⟨_,ZJ _ rfl,rfl,rfl⟩,hl1.push _⟩ ((BU _ rfl).kept fun b o _ q=>ZH _ q) (fun i hi=>TK.kept (hTK i hi) fun o q=>ZH _ (ZH _ q)) fun s' hm hS' => ?_
    ·rw [YV hb] at e
     obtain⟨⟨o1,q1,q2,_⟩,_⟩:=st
     rw [e] at q1;cases q1
     rw [q2];decide
    obtain⟨h',g',d',tk',os'⟩:=s'
    have eg:g'=s.gens:=hm.gens
    have ed:d'=s.drawn:=hm.drawn
    have eo:os'=s.os:=hm.os
    subst eg;subst ed;subst eo
    show wpAny _ _ _ _ _ _
    refine YX ?_
    show wpAny _ _ (ret Value.none) _ _ _
    refine YX ⟨rfl,h',tk',rfl,hS',fun b o e => ?_⟩
    have hlt:=ZI e
    exact hm.heap b o (by rw [Heap.size_push];simp only [List.mem_cons,List.not_mem_nil,or_false,not_or];exact⟨ZN hlt,ZN (Nat.lt_succ_of_lt hlt)⟩) (ZH _ (ZH _ e))
   ·cases r₂ with
    | error e=>exact hr₂
    | ok fl₂ =>
     cases fl₂ with
     | ret r =>
      obtain⟨rfl,h',tk,rfl,hS',hk'⟩:=hr₂
      repeat (any_goals (first|assumption|wp_step))
      exact h _ _ hS' hk'
     | _=>exact hr₂.elim
  | _=>exact hr.elim
end
end Sb
namespace Sb
open PySem PySem.Spec SetTable Fm
section
variable {prog:Program} {w:World} {A:Around} {E:ZY} {s:Shared} {q:Addr} {es:YE} {ep:Nat} {t:YN} {led:Bool}
theorem mJ {l:YD}(p:l.Perm es.toList){P:Nat→Value→Prop}(hP:∀ j v,P j v→j < l.length→v=(l.getD j (0,.none)).2){acc:YK}(h:ItemsOf P acc es.size) :
  ∃ l:YD,l.Perm es.toList∧acc.toList=l.map (·.2):=by
 have hl:l.length=es.size:=by rw [p.length_eq,Array.length_toList]
 refine⟨l,p,?_⟩
 apply List.ext_getElem?
 intro j
 by_cases hj:j < es.size
 ·have h1:j < acc.size:=by rw [h.1];exact hj
  have h2:j < l.length:=by omega
  have h3:=hP j acc[j] (h.2 j _ (Array.getElem?_eq_getElem h1)) h2
  rw [Array.getElem?_toList,Array.getElem?_eq_getElem h1,h3]
  simp [List.getD,h2]
 ·rw [List.getElem?_eq_none (by rw [Array.length_toList,h.1];omega),List.getElem?_eq_none (by simp;omega)]
theorem BV {α : Type}(d : α)(es:Array α):(List.range es.size).map (fun p=>es.getD p d)=es.toList:=by
 apply List.ext_getElem?
 intro j
 by_cases hj:j < es.size
 ·simp [hj,Array.getD]
 ·simp [hj]
theorem BW (h:t.fits es.size=true):t.place.size=es.size:=by
 simp only [SetTable.fits,Bool.and_eq_true,beq_iff_eq] at h
 exact h.1
def nt (t:YN):Nat→Nat
 | 0=>0
 | i + 1=>t.place.getD i 0 + 1
theorem zE {Q:ZY}(hq:s.heap.get? q=some (fM es ep t))(fit:t.fits es.size=true)(gt0:GT (Fm.jx w) t)(hb:es.size≤1000)
  (h:∀ (I:Addr) (h':Heap) (dr:Drawn) (fp:YH) (P:Nat→Value→Prop) (St:Nat→Heap→Prop),(∀ b o,s.heap.get? b=some o→h'.get? b=some o)→s.heap.objs.size≤I→(∀ b∈fp,b=q∨s.heap.objs.size≤b) →
   (∀ A':Around,A'.handled=none→Walks prog w A' I fp [I] es.size P St)→St 0 h'→(∀ acc,ItemsOf P acc es.size → ∃ l:YD,l.Perm es.toList∧acc.toList=l.map (·.2))→Q (.ref I) { s with heap:=h',drawn:=dr }) :
  wpAny (model prog w) A (pyIter (.ref q)) Q E s:=by
 have hT:s.TypeIs (.ref q) "set" := ⟨_,hq,rfl⟩
 have hlt:q < s.heap.objs.size:=ZI hq
 have hne:q≠s.heap.objs.size:=ZN hlt
 have hps:=BW fit
 refine wpAny_pyIter_slot hT F.slot_set_iter (wpAny_call_entry F.slot_set_iter hT wK ?_ (F.args_set_iter_1 _))
 unfold Builtin.«frozenset.__iter__» Builtin.Frozenset.slot0 Builtin.Frozenset.sizeOf
 refine YW (YW (YX (YX ?_)))
 refine YW (YW (wpAny_setEntries_of hq rfl fit (YX ?_)))
 unfold setDrawn
 refine YW (YW (wpAny_setState_of hq rfl fit ?_))
 refine YW (nR (YX ?_))
 cases hB:w.params.followText "set-order" with
 | true =>
  refine wpAny_ite_split (fun z=>by simp at z) fun _ => ?_
  refine YW (YX (YW ?_))
  unfold setEpoch
  refine YW (wpAny_setState_of hq rfl fit (YX ?_))
  refine YW (wpAny_newObj_type ?_ (by size_fits))
  refine YX ⟨_,rfl, "set_iterator",_,⟨_,ZJ _ rfl,rfl⟩,cq.lookup,?_⟩
  have pp:=zx (w.params.setOrder q ep) es
  have hpz:(pickOrder (w.params.setOrder q ep) es).size=es.size:=by have:=pp.length_eq;simpa using this
  have W:=fun (A':Around) (hA:A'.handled=none)=>Ex (prog:=prog) (w:=w) (A:=A') (ep:=ep) hA hne fit (fun _=>0) (fun i=>((pickOrder (w.params.setOrder q ep) es).toList.getD i (0,.none)).2) (fun i hi=>by
   have z:=Ey (prog:=prog) (q:=q) (ep:=ep) hB fit i
   have e:((pickOrder (w.params.setOrder q ep) es)[i]?).map (fun e=>(e.2,0))=some (((pickOrder (w.params.setOrder q ep) es).toList.getD i (0,Value.none)).2,0):=by
    have hi2:i < (pickOrder (w.params.setOrder q ep) es).size:=by omega
    simp [List.getD,hi2]
   rw [e] at z
   exact z) (by
   have z:=Ey (prog:=prog) (q:=q) (ep:=ep) hB fit es.size
   rw [Array.getElem?_eq_none (by omega)] at z
   exact z)
  refine h s.heap.objs.size _ s.drawn _ _ _ (fun b o e=>ZH _ e) (ZL _) (fun b hb => ?_) W ⟨?_,ZH _ hq⟩ fun acc ha=>mJ pp (fun j v e _=>e) ha
  ·rcases YQ hb with rfl|hb
   ·exact .inr (ZL _)
   ·exact .inl (YV hb)
  ·exact ZJ _ rfl
 | false =>
  have gt:GT true t:=by have:=gt0;rw [show Fm.jx w=true from by unfold Fm.jx;rw [hB];rfl] at this;exact this
  cases hD:(!t.plain && decide (es.size > 1)) with
  | true =>
   refine wpAny_ite_split (fun _ => ?_) fun z=>absurd (show (!false && (!t.plain && decide (es.size > 1)))=true from by rw [hD];rfl) z
   refine YW (qO es.size (List.range es.size) (by simp) fun ps dr pp => ?_)
   have hpl:ps.length=es.size:=by rw [pp.length_eq,ZO]
   simp only [newTuple]
   refine YW (wpAny_newObj_type ?_ (show (List.map (fun (i:Nat)=>rawInt i) ps).toArray.size≤sizeLine by rw [List.size_toArray,ZA,hpl];rw [sizeLine_eq];omega))
   refine YW ?_
   unfold setEpoch
   have hq2:∀ o:Obj,(s.heap.push o).get? q=some (fM es ep t):=fun o=>ZH _ hq
   refine YW (wpAny_setState_of (hq2 _) rfl fit (YX ?_))
   refine YW (wpAny_newObj_type ?_ (by size_fits))
   refine YX ⟨_,rfl, "set_iterator",_,⟨_,ZJ _ rfl,rfl⟩,cq.lookup,?_⟩
   have hne2:∀ o:Obj,q≠(s.heap.push o).objs.size:=fun o=>by rw [Heap.size_push];exact ZN (Nat.lt_succ_of_lt hlt)
   have hnT:∀ o:Obj,s.heap.objs.size≠(s.heap.push o).objs.size:=fun o=>by rw [Heap.size_push];exact ZN (Nat.lt_succ_self _)
   have W:=fun (A':Around) (hA:A'.handled=none)=>HW (prog:=prog) (w:=w) (A:=A') (ep:=ep) (t:=t) hA (hne2 { cls:=.type "tuple",data:=.seq (ps.map fun (k:Nat)=>rawInt k).toArray }) (hnT { cls:=.type "tuple",data:=.seq (ps.map fun (k:Nat)=>rawInt k).toArray }) fit hpl fun i p e=>by
    have:=(pp.mem_iff (a:=p)).mp (ZK e)
    simpa using this
   refine h _ _ dr _ _ _ (fun b o e=>ZH _ (ZH _ e)) (by rw [Heap.size_push];exact Nat.le_succ _) (fun b hb => ?_) W ⟨?_,ZH _ (hq2 _),ZH _ (ZJ _ rfl)⟩ fun acc ha=>mJ (l:=ps.map fun p=>es.getD p (0,.none)) ?_ (fun j v e hj => ?_) ha
   ·rcases YQ hb with rfl|hb
    ·exact .inr (by rw [Heap.size_push];exact Nat.le_succ _)
    ·rcases YQ hb with rfl|hb
     ·exact .inl rfl
     ·rw [YV hb];exact .inr (ZL _)
   ·exact ZJ _ rfl
   ·have:=pp.map fun p=>es.getD p (0,Value.none)
    rw [BV] at this
    exact this
   ·obtain⟨p,y,e1,e2⟩:=e
    have hz:p < es.size:=by
     have:=(pp.mem_iff (a:=p)).mp (ZK e1)
     simpa using this
    rw [Array.getElem?_eq_getElem hz] at e2
    have e3:(ps.map fun p=>es.getD p (0,Value.none)).getD j (0,Value.none)=es[p]:=by simp [List.getD,e1,Array.getD,hz]
    rw [e3,ZT e2]
  | false =>
   refine wpAny_ite_split (fun z=>absurd (show (!false && (!t.plain && decide (es.size > 1)))=true from z) (by rw [hD];simp)) fun _ => ?_
   refine YW (YX (YW ?_))
   unfold setEpoch
   refine YW (wpAny_setState_of hq rfl fit (YX ?_))
   refine YW (wpAny_newObj_type ?_ (by size_fits))
   refine YX ⟨_,rfl, "set_iterator",_,⟨_,ZJ _ rfl,rfl⟩,cq.lookup,?_⟩
   have W:=fun (A':Around) (hA:A'.handled=none)=>Ex (prog:=prog) (w:=w) (A:=A') (ep:=ep) (t:=t) hA hne fit (nt t) (fun i=>(es.toList.getD i (0,.none)).2) (fun i hi=>by
    have z:=Ez (prog:=prog) (q:=q) (ep:=ep) hB fit gt hD (nt t i) i
    have hip:i < t.place.size:=by omega
    have e:SetTable.below t.place (nt t i)=i:=by
     cases i with
     | zero=>exact oU gt.up
     | succ j =>
      have hj:j < t.place.size:=by omega
      have:=oT gt.up hj
      simpa [nt,Array.getD,hj] using this
    rw [e,Array.getElem?_eq_getElem hi,Array.getElem?_eq_getElem hip] at z
    have e2:(es.toList.getD i (0,Value.none)).2=es[i].2:=by simp [List.getD,hi]
    have e3:t.place.getD i 0=t.place[i]:=by simp [Array.getD,hip]
    rw [e2,show nt t (i + 1)=t.place[i] + 1 from by rw [← e3];rfl]
    exact z) (by
    have z:=Ez (prog:=prog) (q:=q) (ep:=ep) hB fit gt hD (nt t es.size) es.size
    have e:SetTable.below t.place (nt t es.size)=es.size:=by
     cases c:es.size with
     | zero=>exact oU gt.up
     | succ j =>
      have hj:j < t.place.size:=by omega
      have:=oT gt.up hj
      simpa [nt,Array.getD,hj] using this
    rw [e,Array.getElem?_eq_none (ZL _)] at z
    exact z)
   refine h s.heap.objs.size _ s.drawn _ _ _ (fun b o e=>ZH _ e) (ZL _) (fun b hb => ?_) W ⟨?_,ZH _ hq⟩ fun acc ha=>mJ (List.Perm.refl _) (fun j v e _=>e) ha
   ·rcases YQ hb with rfl|hb
    ·exact .inr (ZL _)
    ·exact .inl (YV hb)
   ·exact ZJ _ rfl
end
end Sb
namespace Sb
open PySem PySem.Spec SetTable Fm PySem.W PyProof.Rows
section
variable {prog:Program} {w:World} {A:Around} {E:ZY} {s:Shared} {q:Addr} {es:YE} {ep:Nat} {t:YN}
theorem BX {Q:Bool→Shared→Prop} (hT:s.TypeIs (.ref q) "set") (h:Q false s):wpAny (model prog w) A (Builtin.List.listLengthHint (.ref q)) Q E s:=by
 unfold Builtin.List.listLengthHint
 refine YW (wpAny_specialOf hT PySem.F.slot_set_len.lookup ?_)
 generalize hid:("set.__len__" : String)=id0
 wp_delta
 rw [show splitId id0=some ("set", "__len__") from by subst hid;decide +kernel]
 subst hid
 refine YW (wpAny_isInstance (T := "set") (b:=true) hT (by rw [isSubtype_type];kernel_rfl) ?_)
 refine wpAny_ite_split (fun z=>absurd z (by decide)) fun _ => ?_
 refine wpAny_ite_split (fun _ => ?_) fun z=>absurd (by decide +kernel) z
 exact YW (wpAny_typeOf hT (YX h))
theorem uW {R:ZZ} (hh:A.handled=none) (hq:s.heap.get? q=some (fM es ep t)) (fit:t.fits es.size=true) (gt0:GT (Fm.jx w) t) (hb:es.size≤1000) (S:Addr) (hne:S≠q) (res:Value) (c:Nat) (hS:s.heap.get? S=some { cls:=.type "list",data:=.seq #[] c })
  (hR:∀ s' (acc:YK) c' (ms:YD),(∀ b o,b≠S→s.heap.get? b=some o→s'.heap.get? b=some o)→s'.os=s.os→s'.gens=s.gens→s'.heap.get? S=some { cls:=.type "list",dict:=none,data:=.seq acc c',slots := #[] } → ms.Perm es.toList→acc.toList=ms.map (·.2)→R (.ok (.ret res)) s') :
  wpAny (model prog w) A.in1 (Builtin.List.listExtendWith (.ref S) (.ref q) res) (fun fin s'=>match fin with | .done f=>R (.ok f) s' | .again c'=>c'.quiet=true∧codeAny (model prog w) A c' R s') (fun e s'=>R (.error e) s') s:=by
 have hT:s.TypeIs (.ref q) "set" := ⟨_,hq,rfl⟩
 have hlt:S < s.heap.objs.size:=ZI hS
 unfold Builtin.List.listExtendWith
 refine YW (wpAny_typeOf hT ?_)
 have h1:Builtin.List.listSameRef (.ref S) (.ref q)=false:=by simp [Builtin.List.listSameRef,hne]
 have h2:(Value.type "set" == Value.type "list")=false:=by decide
 have h3:(Value.type "set" == Value.type "tuple")=false:=by decide
 simp only [h1,h2,h3,Bool.or_false,Bool.false_eq_true,if_false]
 refine YW (zE hq fit gt0 hb fun I h' dr fp P St k hI hf W st fin => ?_)
 have hSf:S∉fp:=fun z=>(hf S z).elim hne fun z=>absurd z (Nat.not_le.mpr hlt)
 have key:∀ (h:Heap) (c₁ : Nat),St 0 h→(∀ b o,b≠S→s.heap.get? b=some o→h.get? b=some o)→h.get? S=some { cls:=.type "list",data:=.seq #[] c₁ } →
   codeAny (model prog w) A (.builtin "list.extend.loop" ⟨[.ref S,.ref I,res],[]⟩) R { s with heap:=h,drawn:=dr }:=by
  intro h c₁ hst hk hS₁
  refine codeAny_extend_loopS (W A.in1 hh).toS (by rw [sizeLine_eq];omega) S hSf res es.size 0 _ #[] c₁ rfl (Nat.zero_le _) hst hS₁ (ItemsOf.nil _) fun s' acc' c' hm hS' hacc => ?_
  obtain⟨ms,i1,i2⟩:=fin acc' hacc
  refine hR s' acc' c' ms (fun b o nb e=>hm.heap b o (fun hmem => ?_) (hk b o nb e)) hm.os hm.gens hS' i1 i2
  rcases YQ hmem with e'|hmem
  ·exact nb e'
  ·rw [YV hmem] at e
   exact absurd (ZI e) (Nat.not_lt.mpr hI)
 have hS₁ := k _ _ hS
 refine YW (wpAny_holding (BX (s:={ s with heap:=h',drawn:=dr }) (q:=q) ⟨_,k _ _ hq,rfl⟩ ?_))
 refine wpAny_ite_split (fun _ => ?_) (fun _=>YX ⟨plainId_quiet PySem.F.plain_extend_loop _,key _ c st (fun b o _ e=>k b o e) hS₁⟩)
 refine YW (wpAny_rule (YW ?_))
 show wpAny _ _ (updateSeq S (·.push .none) >>= fun _=>updateSeq S (·.pop)) _ _ _
 refine YW (wpAny_updateSeq hS₁ rfl ?_)
 have hS₂ := Heap.get?_update_self (Obj.mapSeq (·.push Value.none)) hS₁ rfl
 refine wpAny_updateSeq (hz:=by seq_fits) hS₂ rfl ?_
 have hS₃ := Heap.get?_update_self (Obj.mapSeq (·.pop)) hS₂ rfl
 have oth:∀ b o,b≠S→h'.get? b=some o→((h'.update S (Obj.mapSeq (·.push Value.none))).update S (Obj.mapSeq (·.pop))).get? b=some o:=fun b o nb e=>(Heap.get?_update_other _ _ (Ne.symm nb)).trans ((Heap.get?_update_other _ _ (Ne.symm nb)).trans e)
 exact YX ⟨plainId_quiet PySem.F.plain_extend_loop _,key _ _ ((W A.in1 hh).frame 0 _ _ st fun b hb o e=>oth b o (fun z=>hSf (z ▸ hb)) e) (fun b o nb e=>oth b o nb (k b o e)) hS₃⟩
theorem collect_setE {R:YG→Shared→Prop}(hh:A.handled=none)(hq:s.heap.get? q=some (fM es ep t))(fit:t.fits es.size=true)(gt0:GT (Fm.jx w) t)(hb:es.size≤1000)
  (h:∀ s' (vs:YG) (ms:YD),(∀ b o,s.heap.get? b=some o→s'.heap.get? b=some o)→s'.os=s.os→s'.gens=s.gens→ms.Perm es.toList→vs=ms.map (·.2)→R vs s'):wpAny (model prog w) A (collect (.ref q)) R E s:=by
 have hlt:q < s.heap.objs.size:=ZI hq
 unfold collect
 refine YW (wpAny_runValue (codeAny_builtin PySem.F.entry_proto_collect ?_))
 rw [Around.under_plainId PySem.F.plain_proto_collect _]
 show wpAny _ A.in1 (newList [] >>= fun l=>again (.builtin "list.__iadd__" ⟨[l,.ref q],[]⟩)) _ _ s
 refine YW (wpAny_newObj_type ?_)
 refine YX ⟨plainId_quiet PySem.F.plain_list_iadd _,codeAny_builtin PySem.F.entry_list_iadd ?_⟩
 rw [Around.under_plainId PySem.F.plain_list_iadd _]
 have hS:(s.heap.push { cls:=.type "list",data:=.seq ([] : YG).toArray }).get? s.heap.objs.size=some { cls:=.type "list",data:=.seq #[] 0 }:=ZJ _ rfl
 show wpAny _ A.in1 (Builtin.List.listExtendWith (.ref s.heap.objs.size) (.ref q) (.ref s.heap.objs.size)) _ _ _
 have key:=uW (prog:=prog) (A:=A) (s:={ s with heap:=s.heap.push { cls:=.type "list",data:=.seq ([] : YG).toArray } })
  (R:=fun (r:Result) (s':Shared)=>∃ (acc:YK) (c':Nat) (ms:YD),r=.ok (.ret (.ref s.heap.objs.size))∧(∀ b o,s.heap.get? b=some o→s'.heap.get? b=some o)∧s'.os=s.os∧s'.gens=s.gens∧s'.heap.get? s.heap.objs.size=some { cls:=.type "list",dict:=none,data:=.seq acc c',slots := #[] } ∧ ms.Perm es.toList∧acc.toList=ms.map (·.2))
  hh (ZH _ hq) fit gt0 hb s.heap.objs.size (Nat.ne_of_gt hlt) (.ref s.heap.objs.size) 0 hS
  (fun s' acc c' ms k e1 e2 hS' i1 i2=>⟨acc,c',ms,rfl,fun b o e=>k b o (ZN (ZI e)) (ZH _ e),e1,e2,hS',i1,i2⟩)
 refine wpAny_mono key (fun fin s' x => ?_) fun e s' x => ?_
 ·cases fin with
  | done f =>
   obtain⟨acc,c',ms,e,k,e1,e2,hS',i1,i2⟩:=x
   cases e
   show wpAny _ A (load s.heap.objs.size >>= _) _ _ _
   exact YW (wpAny_load hS' (YX (h s' _ ms k e1 e2 i1 i2)))
  | again c₁ =>
   refine⟨x.1,codeAny_mono x.2 fun r s₂ y => ?_⟩
   obtain⟨acc,c',ms,rfl,k,e1,e2,hS',i1,i2⟩:=y
   show wpAny _ A (load s.heap.objs.size >>= _) _ _ _
   exact YW (wpAny_load hS' (YX (h s₂ _ ms k e1 e2 i1 i2)))
 ·obtain⟨_,_,_,e',_⟩:=x
  cases e'
end
end Sb
namespace Fm
open PySem PySem.Spec L2
section
variable {X:Cx}
end
end Fm
namespace Fm
open PySem PySem.Spec L2
section
variable {X:Cx}
end
end Fm
namespace Fm
open PySem PySem.Spec L2 PySem.W PyProof.Rows
section
variable {X:Cx} {pos p pos2 p2:Pos}
def adr:Value→Addr
 | .ref b=>b
 | _=>0
theorem oZ {prog:Program}{w:World}:∀ {ns:YF} {its:YG},aV (ns.map V.int) its→ItemsAre (intKind prog w) ns its
 | [],_,.nil=>.nil
 | n :: ns,_,.cons r t=>by
  obtain⟨tk,rfl⟩:=nN r
  exact .cons (show Value.isInt n (Value.int n tk)=true by simp [Value.isInt]) (oZ t)
end
end Fm
namespace Fm
open PySem PySem.Spec L2 PySem.W PyProof.Rows
section
variable {X:Cx} {pos p pos2 p2:Pos}
def BY (w:World) (q:Addr) (vs:List V) (h:Heap):Prop:=∃ es ep t,h.get? q=some (fM es ep t)∧t.fits es.size=true∧GT (jx w) t∧aV vs (es.toList.map (·.2))
theorem bU.same {H H':Hp}(sm:∀ a o,H a=some o→H' a=some o):∀ {vs:List V} {rs:YA},bU H vs rs→bU H' vs rs
 | _,_,.nil=>.nil
 | _,_,.cons ha t=>.cons (sm _ _ ha) (bU.same sm t)
theorem TK.one {prog:Program}{w:World}{h:Heap}{b:Addr}{ns:YF}{o:Obj}{its:YG}{n:Nat}(k:Sb.TK prog w h ns b)(ho:h.get? b=some o)(hd:o.data=.seq its.toArray n){l:YF}(r:aV (l.map V.int) its):ns=l:=by
 obtain⟨o',items,n',ho',hc,hd',hi⟩:=k
 rw [ho] at ho';cases ho'
 rw [hd] at hd'
 injection hd' with e1 e2
 subst e1
 exact ItemsAre.inj (by simpa using hi) (oZ r)
def Ib (X:Cx):List V→Hp→VK→Prop:=fun xs H Q=>∃ (a:Addr) (vs:List V) (rs:YA),xs=[.ref a]∧SqL X.K H a vs∧bU H vs rs∧rs.length < 1000 ∧ ∀ q vs' rs',H q=none→bU H vs' rs'→rs'.Perm (ddr rs)→Q (.ref q) (upd H q (.ext (BY X.w q vs')))
theorem qU {prog:Program}{w:World}{P:Program}{H:Hp}{h0 h:Heap}(hok:HOk P w H h0)(k:∀ b o,h0.get? b=some o→h.get? b=some o):∀ {es:YD} {ms:YA},Sb.Keys prog w h es ms→(∀ e∈es,∃ b l,e.2=Value.ref b∧H b=some (.tup (List.map V.int l)))→(es.map (·.2)).map (fS H)=ms
 | _,_,.nil,_=>rfl
 | _,_,.cons (b:=b) (ns:=ns) hb t,d=>by
  rw [XC,XC,qU hok k t fun e he=>d e (.tail _ he)]
  congr 1
  obtain⟨b',l,e,hl⟩:=d _ (.head _)
  cases e
  obtain⟨z,its0,r0,o,ho,hc,n,hd⟩:=hok b _ hl
  have:=TK.one hb (k _ _ ho) hd r0
  subst this
  show (match H b with|some (.tup xs)=>xs.map (fun v=>match v with|V.int i=>i|_=>0)|_=>[])=ns
  rw [hl];exact lC _
theorem zG (hc:X.calm=true) (hu:X.A.units + 24 < cLine):fD X (.type "set") (Ib X):=by
 intro pins s σ H xs us Q I r h
 obtain⟨a,vs,rs,rfl,sq,hr,hz,q⟩:=h
 obtain⟨u,rfl,ru⟩:=aV.one r
 cases (show u=Value.ref a from ru)
 obtain⟨its,rvs,pl,_⟩:=I.list sq
 have lw:vs.length=rs.length:=hr.length
 have li:its.length=rs.length:=by rw [← lw];exact rvs.length.symm
 have at':∀ (i:Nat) (hi:i < its.length),∃ a,its[i]=.ref a∧H a=some (.tup ((rs.getD i []).map V.int)):=fun i hi=>by
  have hi2:i < vs.length:=by omega
  obtain⟨a,ea,ha⟩:=hr.get (i:=i) (v:=vs[i]) (by simp [hi2])
  obtain⟨w,hw,rw'⟩:=rvs.get (i:=i) (x:=vs[i]) (by simp [hi2])
  rw [ea] at rw'
  rw [ZE hi] at hw
  exact⟨a,by rw [ZT hw];exact rw',ha⟩
 have gb:∀ (i:Nat) (hi:i < its.length),(its.map adr).getD i 0=adr its[i]:=fun i hi=>by
  rw [ZF,ZQ,ZE hi];rfl
 refine Sb.set_of_listT (ks:=rs) (bs:=its.map adr) (D:=fun v=>∃ b l,v=Value.ref b∧H b=some (.tup (List.map V.int l))) (I.ok.hd hc) hu pl.isList (by simpa using li) (fun i v hv => ?_) (fun i hi => ?_) (fun i hi => ?_) (by omega) fun h' tk st k => ?_
 ·have hv:its[i]? = some v:=by simpa using hv
  have hi:=(YO hv).1
  obtain⟨b,eb,_⟩:=at' i hi
  rw [ZE hi] at hv
  rw [gb i hi,eb,← ZT hv,eb];rfl
 ·have hi':i < its.length:=by omega
  obtain⟨b,eb,hb⟩:=at' i hi'
  rw [gb i hi',eb]
  obtain⟨z,its0,r0,o,ho,hc,n,hd⟩:=I.hok b _ hb
  exact⟨o,_,n,ho,hc,hd,by simpa using oZ r0⟩
 ·have hi':i < its.length:=by omega
  obtain⟨b,eb,hb⟩:=at' i hi'
  rw [gb i hi',eb]
  exact⟨b,_,rfl,hb⟩
 ·obtain⟨es,ep,t,ms,ho,O,_,_,dd,hK,pm⟩:=st
  have ek:=qU I.hok k hK dd
  obtain⟨vs',rv',rvs'⟩:=jV (H:=H) (out:=es.toList.map (·.2)) fun v hv=>by
   obtain⟨e,he,rfl⟩:=YR hv
   exact dd e he
  rw [ek] at rv'
  have sz:BY X.w s.heap.objs.size vs' h':=⟨es,ep,t,ho,O.fits,O.gt,rvs'⟩
  exact⟨.ref s.heap.objs.size,_,I.laid (t':=tk) (o:=.ext (BY X.w s.heap.objs.size vs')) k (ZL _) ⟨sz,⟨_,ho⟩,fun h1 h2 f k=>by obtain⟨es,ep,t,e,f1,f2⟩:=f;exact⟨es,ep,t,k _ e,f1,f2⟩⟩,rfl,q _ _ _ (I.hok.fresh (ZL _)) rv' pm⟩
def DN (X:Cx):List V→Hp→VK→Prop:=fun xs H Q=>∃ (a:Addr) (vs:List V) (rs:YA),xs=[.ref a]∧H a=some (.ext (BY X.w a vs))∧vs.length≤1000∧bU H vs rs∧rs.Nodup∧(rs.all fun x => !x.isEmpty)=true ∧ ∀ q vs',H q=none→bU H vs' (bN rs)→Q (.ref q) (upd H q (.lst vs'))
theorem uX (hc:X.calm=true):fD X (.builtin "sorted") (DN X):=by
 intro pins s σ H xs us Q I r h
 obtain⟨a,vs0,rs0,rfl,ha,hz1,rv0,nd0,hne0,q⟩:=h
 obtain⟨u,rfl,ru⟩:=aV.one r
 cases (show u=Value.ref a from ru)
 obtain⟨es,ep,t,hq,fit,gt,rvs0⟩:=(I.hok a _ ha).1
 have lz:es.size=vs0.length:=by rw [rvs0.length];simp
 refine Calls.call_function_entry kind_sorted plain_sorted entry_sorted (args_sorted1 _) ?_
 unfold Builtin.«sorted»
 refine YW (m:=checkCount "sorted" 1 1 _) (YX ?_)
 refine YW (Sb.collect_setE (A:=X.A.in1) (I.ok.hd hc) hq fit gt (by omega) fun s1 its l k1 o1 g1 pm hits => ?_)
 have pits:its.Perm (es.toList.map (·.2)):=by rw [hits];exact pm.map _
 have mem0:=oM rv0 rvs0
 obtain⟨vs,rv,rvs⟩:=jV (H:=H) (out:=its) fun v hv=>by
  obtain⟨b,l,e1,e2,_⟩:=mem0 v (pits.mem_iff.mp hv)
  exact⟨b,l,e1,e2⟩
 obtain⟨rs,hrs⟩ : ∃ rs,rs=its.map (fS H):=⟨_,rfl⟩
 rw [← hrs] at rv
 have prs:rs.Perm rs0:=by rw [hrs,← oK rv0 rvs0];exact pits.map _
 have nd:rs.Nodup:=prs.nodup_iff.mpr nd0
 have hne:(rs.all fun x => !x.isEmpty)=true:=by
  rw [List.all_eq_true] at hne0 ⊢
  exact fun x hx=>hne0 x (prs.mem_iff.mp hx)
 have hlen:its.length=vs.length:=rvs.length.symm
 have li:its.length=vs0.length:=by rw [pits.length_eq,ZA,Array.length_toList,lz]
 have I0:Inv X pins σ H { s with heap:=s1.heap,toks:=s1.toks }:=I.kept (t':=s1.toks) k1
 have I1:Inv X pins σ H s1:=⟨I0.ok,o1.trans I0.os,by rw [g1];exact I0.bare,I0.base,I0.loc,I0.cell,I0.free,I0.freeC,I0.pin,I0.hok,I0.len⟩
 have srs:bN rs=bN rs0:=jS ((b9 rs).trans (prs.trans (b9 rs0).symm)) (cf nd) (cf nd0)
 rw [← srs] at q
 refine YW (wpAny_newList ?_ (by rw [sizeLine_eq];omega))
 have fr:H s1.heap.objs.size=none:=I1.hok.fresh (ZL _)
 have I2:Inv X pins σ (upd H s1.heap.objs.size (.lst vs)) { s1 with heap:=s1.heap.push { cls:=.type "list",data:=.seq its.toArray },toks:=s1.toks }:=I1.lnew (t':=s1.toks) rvs (by rw [← hlen,sizeLine_eq];omega)
 refine YW (wpAny_holding (Bp (A:=X.A.in1) I2 aS (by omega) (bU.same (bT fr) rv) nd hne fun vs' s' rv' I3=>YX ⟨_,rfl,?_⟩))
 have uu:upd (upd H s1.heap.objs.size (.lst vs)) s1.heap.objs.size (.lst vs')=upd H s1.heap.objs.size (.lst vs'):=by
  funext b
  by_cases z:b=s1.heap.objs.size
  ·subst z;rw [aS,aS]
  ·rw [aC z,aC z,aC z]
 rw [uu] at I3
 refine⟨.ref s1.heap.objs.size,_,I3,rfl,q _ vs' fr (rv'.mono fun b ys e => ?_)⟩
 have hb:b≠s1.heap.objs.size:=fun z=>by subst z;rw [aS] at e;cases e
 rw [aC hb] at e
 exact e
theorem zH {a:Expr} {la:LF} (hc:X.calm=true) (hu:X.A.units + 24 < cLine) (hg:Gl X "sorted") (hm:X.mg "sorted" = none) (hg2:Gl X "set") (hm2:X.mg "set" = none) (ha:MF X a la)
  (hs:starEach [.Call (.Name "set" p2) [a] [] pos2] X.env=(false,eval (.Call (.Name "set" p2) [a] [] pos2) X.env) :: starEach [] X.env:=by rfl)
  (hs2:starEach [a] X.env=(false,eval a X.env) :: starEach [] X.env:=by rfl) :
  MF X (.Call (.Name "sorted" p) [.Call (.Name "set" p2) [a] [] pos2] [] pos) (lJ la):=by
 refine PE.imp (gn (uX hc) hg hm (by decide +kernel) (bW (mh (zG hc hu) hg2 hm2 (by decide +kernel) (bW ha dy hs2) (he:=hs2)) dy hs) (he:=hs)) fun σ H Q ⟨ρ,σd,hd,rs,pp⟩=>⟨ρ,σd,hd,rs,?_⟩
 unfold lJ at pp
 cases e:la σd hd with
 | exc x h'=>rw [e] at pp;exact pp
 | bad=>rw [e] at pp;exact pp
 | ok l hd1 =>
  rw [e] at pp
  simp only [aA] at pp
  intro q vs H1 ρ1 e1 rs1 _ hq _ rvs
  unfold oY at pp
  cases c3:pU l with
  | none=>rw [c3] at pp;exact pp.elim
  | some r =>
   rw [c3] at pp
   simp only at pp
   split at pp
   ·rename_i l' hc'
    split at hc'
    ·rename_i hz
     cases hc'
     have hr:=uC rvs c3
     have lr:r.length < 1000:=by rw [← hr.length,← rvs.length];exact hz.1
     refine⟨q,vs,r,rfl,.inl (.inl hq),hr,lr,fun q1 vs1 rs' hq1 rv1 pm => ?_⟩
     have sm:=bT (o:=HO.ext (BY X.w q1 vs1)) hq1
     have nd:rs'.Nodup:=pm.nodup_iff.mpr (jX r)
     have srs:bN rs'=bN (ddr r):=jS ((b9 rs').trans (pm.trans (b9 _).symm)) (cf nd) (cf (jX r))
     refine⟨q1,vs1,rs',rfl,aS,?_,bU.same sm rv1,nd,?_,fun q2 vs2 hq2 rv2 => ?_⟩
     ·rw [rv1.length,pm.length_eq];have:=yA r;omega
     ·have:=hz.2
      rw [List.all_eq_true] at this ⊢
      exact fun x hx=>this x ((yz r x).mp (pm.mem_iff.mp hx))
     ·rw [srs] at rv2
      exact pp.mk (e1.trans (Ext.same sm)) (rs1.same sm) rv2.rds q2 hq2
    ·cases hc'
   ·exact pp.elim
end
end Fm
namespace Fm
open PySem PySem.Spec L2 PyProof.Rows
section
variable {X:Cx} {pos:Pos}
def Ic (i j k:Nat) (ta:TA):TS:=fun D σ H=>ta σ H fun vs H1=>∃ u v w,vs=[u,v,w]∧D.nx (((σ.set i (some u)).set j (some v)).set k (some w)) H1
theorem DO {i j k:Nat}{x y z:Str}{a b c:Expr}{ta:TA}{px py pz pt:Pos}{kt k2 pt2}(hc:X.calm=true)(hN:X.N.Nodup)(hi:X.N[i]? = some x)(hj:X.N[j]? = some y)(hk:X.N[k]? = some z)(hij:i≠j)(hik:i≠k)(hjk:j≠k)
  (hx:X.env.scope.names.lookup x=some .local) (hy:X.env.scope.names.lookup y=some .local) (hz:X.env.scope.names.lookup z=some .local) (ha:PA X [a,b,c] ta)
  (hw:swappedStores [.Tuple [.Name x px,.Name y py,.Name z pz] kt pt] (.Tuple [a,b,c] k2 pt2) X.env=pure (some [x,y,z]))
  (hs:swapsWithSole [.Tuple [.Name x px,.Name y py,.Name z pz] kt pt] (.Tuple [a,b,c] k2 pt2) pos.line X.env=pure false:=by rfl) :
  PS X (.Assign [.Tuple [.Name x px,.Name y py,.Name z pz] kt pt] (.Tuple [a,b,c] k2 pt2) pos) (Ic i j k ta):=by
 intro pins s σ H D I h
 rw [exec_Assign_arm]
 refine YW (wpAny_standAt ?_)
 rw [hs]
 refine YW (YX ?_)
 rw [if_neg (by decide)]
 refine YW (Tuple_ (thn (ha _ pins s σ H _ I h) fun us s1 ⟨vs,H1,I1,r1,q1⟩ => ?_))
 obtain⟨u,v,w,e1,q1⟩:=q1
 subst e1
 obtain⟨u1,u2,u3,rfl,ru,rv,rw'⟩ : ∃ u1 u2 u3,us=[u1,u2,u3]∧bB u u1∧bB v u2∧bB w u3:=by
  cases r1 with
  | cons p q =>
   cases q with
   | cons p' q' =>
    cases q' with
    | cons p2 q2 =>
     cases q2
     exact⟨_,_,_,rfl,p,p',p2⟩
 refine wpAny_newObj_type ?_ (by show 3≤sizeLine;decide)
 have I2:Inv X pins σ H1 { s1 with heap:=s1.heap.push { cls:=.type "tuple",data:=.seq [u1,u2,u3].toArray } }:=I1.kept (t':=s1.toks) fun b o e=>ZH _ e
 rw [hw]
 refine YW (YX ?_)
 show wpAny (model X.prog X.w) X.A (do rule "assign.swapped-stores";let items ← unpackItems (.ref s1.heap.objs.size) 3 none;assignInOrder [fun v=>bindName X.env z v,fun v=>bindName X.env y v,fun v=>bindName X.env x v] items.reverse;pure Flow.next) _ _ _
 refine YW (wpAny_rule (YW (unpackItems_tuple (items := #[u1,u2,u3]) (I.ok.hd hc) (IsTup.new s1.heap _) fun h' hx' => ?_)))
 have I3:=I2.kept (h':=h') (t':=s1.toks) fun b o e=>hx' b o (ZN (ZI e)) e
 show wpAny _ _ (assignInOrder [fun v=>bindName X.env z v,fun v=>bindName X.env y v,fun v=>bindName X.env x v] [u3,u2,u1] >>= fun _=>pure Flow.next) _ _ _
 refine YW (assignInOrder_cons (wpAny_bindName (jh I3 hN hk (.inl hz) rw' (fun s2 I4 => ?_) (.inr hz))))
 refine assignInOrder_cons (wpAny_bindName (jh I4 hN hj (.inl hy) rv (fun s3 I5 => ?_) (.inr hy)))
 refine assignInOrder_cons (wpAny_bindName (jh I5 hN hi (.inl hx) ru (fun s4 I6=>assignInOrder_nil (YX ?_)) (.inr hx)))
 have e:((σ.set k (some w)).set j (some v)).set i (some u)=((σ.set i (some u)).set j (some v)).set k (some w):=by
  rw [List.set_comm _ _ (Ne.symm hjk),List.set_comm _ _ (Ne.symm hik),List.set_comm _ _ (Ne.symm hij)]
 rw [e] at I6
 exact⟨_,H1,I6,q1⟩
theorem DP {i j k:Nat}{x y z:Str}{a b c:Expr}{r:LF}{px py pz pt:Pos}{kt k2 pt2}(hc:X.calm=true)(hN:X.N.Nodup)(hi:X.N[i]? = some x)(hj:X.N[j]? = some y)(hk:X.N[k]? = some z)(ha:MA X [a,b,c] r)
  (hij:i≠j:=by decide) (hik:i≠k:=by decide) (hjk:j≠k:=by decide)
  (hx:X.env.scope.names.lookup x=some .local:=by rfl) (hy:X.env.scope.names.lookup y=some .local:=by rfl) (hz:X.env.scope.names.lookup z=some .local:=by rfl)
  (hw:swappedStores [.Tuple [.Name x px,.Name y py,.Name z pz] kt pt] (.Tuple [a,b,c] k2 pt2) X.env=pure (some [x,y,z]):=by rfl)
  (hs:swapsWithSole [.Tuple [.Name x px,.Name y py,.Name z pz] kt pt] (.Tuple [a,b,c] k2 pt2) pos.line X.env=pure false:=by rfl) :
  MS X (.Assign [.Tuple [.Name x px,.Name y py,.Name z pz] kt pt] (.Tuple [a,b,c] k2 pt2) pos) (aP (gT [i,j,k]) (cW r)):=by
 refine PS.imp (DO hc hN hi hj hk hij hik hjk hx hy hz ha hw hs) fun En σ H ⟨ρ,σd,hd,rs,p⟩=>⟨ρ,σd,hd,rs,?_⟩
 unfold aP cW at p
 cases e:r σd hd with
 | exc x h'=>rw [e] at p;exact p
 | bad=>rw [e] at p;exact p
 | ok ds hd1 =>
  rw [e] at p
  simp only [aA] at p
  intro vs H1 ρ1 e1 rs1 rv
  by_cases hz1:ds.length≤SZ
  ·rw [if_pos hz1] at p
   by_cases l3:ds.length=3
   ·match ds,l3,rv,p with
    | [d1,d2,d3],_,rv,p =>
     obtain⟨u,us,rfl,r1,v,us2,rfl,r2,w,us3,rfl,r3,rfl⟩:=rv
     exact⟨u,v,w,rfl,p _ H1 ρ1 e1 ⟨rs1.hp,((rs1.st.set i r1).set j r2).set k r3⟩⟩
   ·have:gT [i,j,k] (.tup ds) σd=none:=by simp only [gT];rw [if_neg (by simpa using l3)]
    simp only [outE,this] at p
    exact p.elim
  ·rw [if_neg hz1] at p;exact p.elim
end
end Fm
namespace Fm
theorem zI {h h':Hd}{d:D}(e:h'.length≤h.length):letGo h (.ok d h')=.ok d h':=by
 simp only [letGo];split
 ·rw [List.take_of_length_le e]
 ·rfl
@[simp] theorem bo {h:Hd} {d:D}:letGo h (.ok d h)=.ok d h:=zI (ZL _)
theorem mK {h h':Hd}{d:D}(e:pure? d=false):letGo h (.ok d h')=.ok d h':=by
 simp [letGo,e]
@[simp] theorem o4 {h h':Hd} {n:Nat}:letGo h (.ok (.ref n) h')=.ok (.ref n) h':=mK rfl
theorem cD {h g:Hd}{d:D}(e:pure? d=true):letGo h (.ok d (h++g))=.ok d h:=by
 have:x3 h (h++g):=fun n c hn hc=>.inl (by rwa [ZC hn] at hc)
 simp [letGo,e,this]
theorem zJ {h h' g:Hd}{d:D}(e:pure? d=true)(hl:h'.length=h.length)(ho:x3 h (h'++g)):letGo h (.ok d (h'++g))=.ok d h':=by
 simp [letGo,e,ho,← hl]
structure Web where
 ties:List (YC)
 bars:YF
 stays:YB
def bj:Option Int→D
 | none=>.non
 | some i=>.int i
def fO (p:Nat × Int):D:=.tup [.int p.1,.int p.2]
def jA (r:YC):D:=.tup (r.map fO)
def aE (l:YF):D:=.tup (l.map .int)
def Web.enc (w:Web):D:=.tup [.tup (w.ties.map jA),.tup (w.bars.map .int),.tup (w.stays.map bj)]
structure Web.Ok (w:Web) (n:Nat):Prop where
 t:w.ties.length=n
 b:w.bars.length=n
 s:w.stays.length=n
 lt:∀ r∈w.ties,∀ p∈r,p.1 < n
 sz:n≤1000
structure eE (w:Web) (n:Nat) (s:YF):Prop where
 len:s.length=n
 op:∀ x∈s,x=0∨x=1
 st:∀ (i:Nat) (x:Int),w.stays[i]? = some (some x)→s[i]? = some x
theorem cu {l:List D}{i:Nat}{d:D}(e:l[i]? = some d):atI l (i:Int)=some d:=by
 have:=(YO e).1
 simp [atI,ixN,this]
 simpa [ZE this] using e
@[simp] theorem Jb (x:D) (l:List D):atI (x :: l) 0=some x:=cu (i:=0) rfl
@[simp] theorem Jc (x y:D) (l:List D):atI (x :: y :: l) 1=some y:=cu (i:=1) rfl
@[simp] theorem Jd (x y z:D) (l:List D):atI (x :: y :: z :: l) 2=some z:=cu (i:=2) rfl
theorem b6 {g:YL}{all:List D}{tg:GF}{cs:List TF}{e:EF}{h:Hd}(I:Sd→Prop)(p:D→Bool)(f:D→D)(hh:im g all h) :
  ∀ {xs:List D} {σ:Sd},(∀ x∈xs,∀ σ,I σ → ∃ σ',tg x σ = some σ'∧I σ'∧eF cs σ' h=.ok (p x) h∧(p x=true→e σ' h=.ok (f x) h))→I σ →
   bS g all tg cs e xs σ h=.ok ((xs.filter p).map f) h
 | [],_,_,_=>by simp [bS,hh]
 | x :: xs,σ,st,i=>by
  obtain⟨σ',h1,h2,h3,h4⟩:=st x (by simp) σ i
  have ih:=b6 I p f hh (xs:=xs) (σ := σ') (fun y hy=>st y (by simp [hy])) h2
  cases hp:p x with
  | true=>simp [bS,hh,h1,h3,hp,h4 hp,ih]
  | false=>simp [bS,hh,h1,h3,hp,ih]
theorem qV {g:YL}{all:List D}{tg:GF}{b:SF}{rest:List D}(P:Nat→Sd→Hd→Prop)(hh:∀ i σ h,P i σ h→im g all h) :
  ∀ {xs:List D} {k:Nat} {σ:Sd} {h:Hd},(∀ (i:Nat) x σ h,xs[i]? = some x→P (k + i) σ h → ∃ σ',tg x σ = some σ' ∧ ∃ σ'' h'',b σ' h=.nx σ'' h''∧P (k + i + 1) σ'' h'')→P k σ h →
   ∃ σ' h',iD g all tg b (xs++rest) σ h=iD g all tg b rest σ' h'∧P (k + xs.length) σ' h'
 | [],k,σ,h,_,p=>⟨σ,h,rfl,by simpa using p⟩
 | x :: xs,k,σ,h,st,p=>by
  obtain⟨σ',h1,σ2,h2,h3,h4⟩:=st 0 x σ h (by simp) (by simpa using p)
  have st':∀ (i:Nat) y σ h,xs[i]? = some y→P (k + 1 + i) σ h → ∃ σ',tg y σ = some σ' ∧ ∃ σ'' h'',b σ' h=.nx σ'' h''∧P (k + 1 + i + 1) σ'' h'':=fun i y σ h e q=>by
   have e1:k + 1 + i=k + (i + 1):=by omega
   rw [e1] at q ⊢
   exact st (i + 1) y σ h (by simpa using e) q
  obtain⟨σ3,h5,h6,h7⟩:=qV P hh st' (by simpa using h4)
  refine⟨σ3,h5,?_,?_⟩
  ·rw [← h6,List.cons_append,iD,if_pos (hh _ _ _ p),h1]
   simp only [h3]
  ·have e1:k + (x :: xs).length=k + 1 + xs.length:=by simp;omega
   rw [e1];exact h7
theorem de {g:YL}{all:List D}{tg:GF}{b:SF}(P:Nat→Sd→Hd→Prop)(hh:∀ i σ h,P i σ h→im g all h)
  {xs:List D} {k:Nat} {σ:Sd} {h:Hd} (st:∀ (i:Nat) x σ h,xs[i]? = some x→P (k + i) σ h → ∃ σ',tg x σ = some σ' ∧ ∃ σ'' h'',b σ' h=.nx σ'' h''∧P (k + i + 1) σ'' h'') (p:P k σ h) :
   ∃ σ' h',iD g all tg b xs σ h=.nx σ' h'∧P (k + xs.length) σ' h':=by
 obtain⟨σ',h',q,z⟩:=qV (rest:=[]) P hh st p
 rw [List.append_nil] at q
 exact⟨σ',h',q.trans (by unfold iD;exact if_pos (hh _ _ _ z)),z⟩
theorem kD {g:YL}{all:List D}{tg:GF}{e:EF}(P:Nat→Sd→Hd→Prop)(V:Nat→D→Prop)(hh:∀ i σ h,P i σ h→im g all h) :
  ∀ {xs:List D} {k:Nat} {σ:Sd} {h:Hd},(∀ (i:Nat) x σ h,xs[i]? = some x→P (k + i) σ h → ∃ σ',tg x σ = some σ' ∧ ∃ d h'',e σ' h=.ok d h''∧V (k + i) d∧P (k + i + 1) σ' h'')→P k σ h →
   ∃ ds h',bS g all tg [] e xs σ h=.ok ds h'∧ds.length=xs.length∧(∀ (i:Nat) d,ds[i]? = some d→V (k + i) d) ∧ ∃ σ',P (k + xs.length) σ' h'
 | [],k,σ,h,_,p=>⟨[],h,by simp [bS,hh _ _ _ p],rfl,by simp,σ,by simpa using p⟩
 | x :: xs,k,σ,h,st,p=>by
  obtain⟨σ',h1,d,h2,h3,hv,h4⟩:=st 0 x σ h (by simp) (by simpa using p)
  have st':∀ (i:Nat) y σ h,xs[i]? = some y→P (k + 1 + i) σ h → ∃ σ',tg y σ = some σ' ∧ ∃ d h'',e σ' h=.ok d h''∧V (k + 1 + i) d∧P (k + 1 + i + 1) σ' h'':=fun i y σ h e q=>by
   have e1:k + 1 + i=k + (i + 1):=by omega
   rw [e1] at q ⊢
   exact st (i + 1) y σ h (by simpa using e) q
  obtain⟨ds,h5,h6,hl,hvs,σ3,h7⟩:=kD P V hh st' (by simpa using h4)
  refine⟨d :: ds,h5,?_,by simp [hl],fun i d' hd => ?_,σ3,?_⟩
  ·simp [bS,hh _ _ _ p,h1,eF,h3,h6]
  ·cases i with
   | zero=>simp at hd;subst hd;simpa using hv
   | succ i =>
    have:=hvs i d' (by simpa using hd)
    rwa [show k + 1 + i=k + (i + 1) by omega] at this
  ·have e1:k + (x :: xs).length=k + 1 + xs.length:=by simp;omega
   rw [e1];exact h7
theorem wR {α : Type}{n:Nat}{ds:List α}{f:Nat → α}(hl:ds.length=n)(h:∀ (i:Nat) d,ds[i]? = some d→d=f i):ds=(List.range n).map f:=by
 apply List.ext_getElem?
 intro i
 by_cases hi:i < n
 ·have:ds[i]? = some (ds[i]'(by omega)):=by simp [hl,hi]
  rw [this,h i _ this]
  simp [hi]
 ·simp [hi,hl]
end Fm
namespace Fm
theorem ao {F:Fn}{r:LF}{σ:Sd}{h h1 h':Hd}{ds:List D}{d:D}(a:r σ h=.ok ds h1)(b:F ds h1=.ok d h'):au F r σ h=.ok d h':=by
 show Res.bind _ _=_;rw [a];exact b
theorem ak {a:EF}{r:LF}{σ:Sd}{h h1 h2:Hd}{d:D}{ds:List D}(p:a σ h=.ok d h1)(q:r σ h1=.ok ds h2):af a r σ h=.ok (d :: ds) h2:=by
 show Res.bind _ _=_;rw [p,aA,q];rfl
theorem av {g:O2}{a b:EF}{σ:Sd}{h h1 h2 h3:Hd}{x y z:D}(p:a σ h=.ok x h1)(q:b σ h1=.ok y h2)(r:g x y h2=.ok z h3):aw g a b σ h=.ok z h3:=by
 show Res.bind _ _=_;rw [p,aA,q];exact r
theorem cE {r:LF}{σ:Sd}{h h':Hd}{xs:List D}(p:r σ h=.ok xs h')(q:xs.length≤SZ:=by exact of_decide_eq_true rfl):cW r σ h=.ok (.tup xs) h':=by
 show Res.bind _ _=_;rw [p];exact if_pos q
theorem gC {r:LF}{σ:Sd}{h h':Hd}{xs:List D}(p:r σ h=.ok xs h')(q:xs.length≤SZ:=by exact of_decide_eq_true rfl):aQ r σ h=.ok (.ref h'.length) (h'++[.lst xs]):=by
 show Res.bind _ _=_;rw [p];exact if_pos q
theorem o5 {a:LF}{b:EF}{σ:Sd}{h h1 h2:Hd}{l:List D}{i:Int}{d:D}(p:a σ h=.ok l h1)(q:b σ h1=.ok (.int i) h2)(r:atI l i=some d):fIx a b σ h=.ok d h2:=by
 show Res.bind _ _=_;rw [p,aA,q];simp only [aA,r]
theorem aH {a b:EF}{σ:Sd}{h h1 h2:Hd}{x:D}{l:List D}{i:Int}{d:D}(p:a σ h=.ok x h1)(q:b σ h1=.ok (.int i) h2)(s:kh h2 x=some l)(r:atI l i=some d):fAt a b σ h=.ok d h2:=by
 show aw _ _ _ _ _=_;exact av p q (by simp only [oAt,s,r])
theorem bd {h:Hd}{n:Nat}{l:List D}(p:h[n]? = some (.lst l)):kh h (.ref n)=some l:=by simp only [kh,p]
theorem az {i:Nat}{e:EF}{σ:Sd}{h h':Hd}{d:D}(p:e σ h=.ok d h'):aP (gN i) e σ h=.nx (σ.set i (some d)) h':=by
 show outE _ _ _=_;rw [p];rfl
theorem bx {e:EF}{σ:Sd}{h h':Hd}{d:D}(p:e σ h=.ok d h'):bC e σ h=.rt d h':=by
 show outE _ _ _=_;rw [p];rfl
theorem dn {e:EF}{σ:Sd}{h h':Hd}{d:D}(p:e σ h=.ok d h'):gK e σ h=.nx σ h':=by
 show outE _ _ _=_;rw [p];rfl
theorem mL {t:TF}{a b:SF}{σ:Sd}{h h1:Hd}(p:t σ h=.ok true h1):sIf t a b σ h=a σ h1:=by
 unfold sIf;rw [p];rfl
theorem dw {t:TF}{a b:SF}{σ:Sd}{h h1:Hd}(p:t σ h=.ok false h1):sIf t a b σ h=b σ h1:=by
 unfold sIf;rw [p];rfl
theorem bh {a:EF}{σ:Sd}{h h':Hd}{b:Bool}(p:a σ h=.ok (.bl b) h'):tE a σ h=.ok b h':=by
 show asB _=_;rw [p];rfl
theorem ee {t:TF}{σ:Sd}{h h':Hd}{b:Bool}(p:t σ h=.ok b h'):fV t σ h=.ok (!b) h':=by
 show Res.bind _ _=_;rw [p];rfl
theorem o6 {t u:TF}{σ:Sd}{h h1 h':Hd}{b:Bool}(p:t σ h=.ok true h1)(q:u σ h1=.ok b h'):mf t u σ h=.ok b h':=by
 show Res.bind _ _=_;rw [p];exact q
theorem yB {t u:TF}{σ:Sd}{h h1:Hd}(p:t σ h=.ok false h1):mf t u σ h=.ok false h1:=by
 show Res.bind _ _=_;rw [p];rfl
theorem lK {t u:TF}{σ:Sd}{h h1 h':Hd}{b:Bool}(p:t σ h=.ok false h1)(q:u σ h1=.ok b h'):tOr t u σ h=.ok b h':=by
 show Res.bind _ _=_;rw [p];exact q
theorem BZ {t u:TF}{σ:Sd}{h h1:Hd}(p:t σ h=.ok true h1):tOr t u σ h=.ok true h1:=by
 show Res.bind _ _=_;rw [p];rfl
theorem qW {i j:Int}{h:Hd}:oEq (.int i) (.int j) h=.ok (.bl (decide (i=j))) h:=rfl
theorem ff {a:LF}{σ:Sd}{h h1:Hd}{l:List D}(p:a σ h=.ok l h1):ik a σ h=.ok (.int l.length) h1:=by
 show Res.bind _ _=_;rw [p];rfl
theorem cR {a:EF}{σ:Sd}{h h1:Hd}{x:D}{l:List D}(p:a σ h=.ok x h1)(s:kh h1 x=some l):lOf a σ h=.ok l h1:=by
 show Res.bind _ _=_;rw [p];simp only [aA,s]
theorem kE {x i e:EF}{σ:Sd}{h h1 h2 h3:Hd}{d:D}{n k:Nat}{j:Int}{l:List D}(p:e σ h=.ok d h1)(q:x σ h1=.ok (.ref n) h2)(r:i σ h2=.ok (.int j) h3)(s:h3[n]? = some (.lst l))(t:ixN l.length j=some k):sg x i e σ h=.nx σ (h3.set n (.lst (l.set k d))):=by
 simp only [sg,p,q,r,outE,s,t]
theorem jB {x e:EF}{σ:Sd}{h h1 h2:Hd}{d:D}{n:Nat}{l l0:List D}(p:x σ h=.ok (.ref n) h1)(q:h1[n]? = some (.lst l0))(r:e σ h1=.ok d h2)(s:h2[n]? = some (.lst l))(t:l.length < SZ):nB x e σ h=.ok .non (h2.set n (.lst (l++[d]))):=by
 simp only [nB,p,aA,q,r,Fq,s,if_pos t]
theorem hU {i j:Int}{h:Hd}(p:0 < j):ij (.int i) (.int j) h=.ok (.int (i % j)) h:=by
 simp only [ij,oIc,YZ p,if_true]
theorem B3 {i j:Int}{h:Hd}(p:0 < j)(q:j < 2 ^ 250):AC (.int i) (.int j) h=.ok (.int (i / j)) h:=by
 simp only [AC,oIc,YZ p,YZ q,Bool.and_self,if_true]
theorem o7 {i j:Int}{h:Hd}(e:i=j):oEq (.int i) (.int j) h=.ok (.bl true) h:=by rw [qW,YZ e]
theorem kF {i j:Int}{h:Hd}(e : ¬ i=j):oEq (.int i) (.int j) h=.ok (.bl false) h:=by rw [qW,XB e]
theorem Gf {i j:Int}{h:Hd}(e : ¬ i < j):oLt (.int i) (.int j) h=.ok (.bl false) h:=by show Res.ok (D.bl (decide (i < j))) h=_;rw [XB e]
theorem Gg {i j:Int}{h:Hd}(e:i < j):oLt (.int i) (.int j) h=.ok (.bl true) h:=by show Res.ok (D.bl (decide (i < j))) h=_;rw [YZ e]
theorem B4 {i j:Int}{h:Hd}(p:(sml i || sml j)=true):je (.int i) (.int j) h=.ok (.int (i * j)) h:=by
 show (if (sml i || sml j)=true then _ else _)=_
 exact if_pos p
theorem jY {i j:Int}{h:Hd}(p:sml i=true):je (.int i) (.int j) h=.ok (.int (i * j)) h:=B4 (by rw [p];rfl)
theorem DQ {i j:Int}{h:Hd}(p:sml j=true):je (.int i) (.int j) h=.ok (.int (i * j)) h:=B4 (by rw [p,Bool.or_true])
theorem o8 {t:TF}{σ:Sd}{h h':Hd}{b:Bool}(p:t σ h=.ok b h'):fT t σ h=.ok (.bl b) h':=by
 show Res.bind _ _=_;rw [p];rfl
theorem Gh {x i e:EF}{σ:Sd}{h h1 h2 h3:Hd}{d:D}{n:Nat}{j:Int}{l l0:List D}(p:x σ h=.ok (.ref n) h1)(q:h1[n]? = some (.lst l0))(r:i σ h1=.ok (.int j) h2)(u:e σ h2=.ok d h3)(s:h3[n]? = some (.lst l))(t:0≤j∧j≤l.length∧l.length < SZ):Bw x i e σ h=.ok .non (h3.set n (.lst (l.take j.toNat++[d]++l.drop j.toNat))):=by
 simp only [Bw,p,aA,q,r,u,s,if_pos t]
theorem dY {r:LF}{σ:Sd}{h0 h g:Hd}{xs:List D}{A:Nat}(hA:A=h0.length)(p:r σ h=.ok xs (h0++g))(q:xs.length≤SZ):aQ r σ h=.ok (.ref (A + g.length)) (h0++(g++[.lst xs])):=by
 rw [gC p q,hA,ZB,ZU]
theorem iI {h0 g:Hd}{A:Nat}(hA:A=h0.length)(k:Nat)(c:cP):(h0++g).set (A + k) c=h0++g.set k c:=by
 subst hA
 rw [List.set_append_right _ _ (by omega)]
 congr 2;omega
theorem aU {h0 g:Hd}{A:Nat}(hA:A=h0.length)(k:Nat):(h0++g)[A + k]? = g[k]? := by
 subst hA
 rw [ZD (by omega),Nat.add_sub_cancel_left]
theorem ef {h0:Hd}{j:Nat}{c:cP}(g:Hd)(e:h0[j]? = some c):(h0++g)[j]? = some c:=(ZC (YO e).1).trans e
theorem dB {a:EF}{σ:Sd}{h h1:Hd}{n:Nat}(p:a σ h=.ok (.int n) h1)(hn:n≤1000):dz a σ h=.ok ((List.range n).map (fun k:Nat=>D.int k),none) h1:=by
 show Res.bind _ _=_
 rw [p]
 exact if_pos ⟨Int.le_trans (by decide) (Int.natCast_nonneg n),Int.le_trans (Int.ofNat_le.mpr hn) (by decide)⟩
theorem gD {it:IF}{tg:GF}{b:SF}{σ:Sd}{h h1:Hd}{l:List D}{g:YL}{o:Out}(p:it σ h=.ok (l,g) h1)(q:iD g l tg b l σ h1=o):jn it tg b σ h=o:=by
 unfold jn;rw [p];exact q
theorem dZ {nl:Nat}{caps:List Nat}{it:IF}{tg:GF}{cs:List TF}{e:EF}{σ:Sd}{h h1 h2:Hd}{l ds:List D}{g:YL}(p:it σ h=.ok (l,g) h1)(q:bS g l tg cs e l (fK nl caps σ) h1=.ok ds h2):ce nl caps it tg cs e σ h=.ok ds h2:=by
 show Res.bind _ _=_;rw [p];exact q
theorem Gi {la:LF}{b:EF}{σ:Sd}{h h1 h2:Hd}{l:List D}{n:Int}(p:la σ h=.ok l h1)(q:b σ h1=.ok (.int n) h2)(r:0≤n∧n≤1000∧l.length * n.toNat≤1000):Bv la b σ h=.ok (List.replicate n.toNat l).flatten h2:=by
 simp only [Bv,p,aA,q,if_pos r]
theorem Gj {k:Int}{n:Nat}{h:Hd}{l:List (Int × D)}(p:h[n]? = some (.dct l)):AU (.int k) (.ref n) h=.ok (.bl (oC l k).isSome) h:=by simp only [AU,p]
theorem yC {x i e:EF}{σ:Sd}{h h1 h2 h3:Hd}{d:D}{n:Nat}{j:Int}{l:List (Int × D)}(p:e σ h=.ok d h1)(q:x σ h1=.ok (.ref n) h2)(r:i σ h2=.ok (.int j) h3)(s:h3[n]? = some (.dct l))(t:l.length < SZ):uE x i e σ h=.nx σ (h3.set n (.dct (ww l j d))):=by
 simp only [uE,p,q,r,outE,s,if_pos t]
theorem wT {a:EF}{σ:Sd}{h h1:Hd}{n:Nat}{l:List D}(p:a σ h=.ok (.ref n) h1)(q:h1[n]? = some (.lst l)):jm .list a σ h=.ok (.bl true) h1:=by
 simp only [jm,p,aA,zh,q];rfl
theorem fY {a:EF}{σ:Sd}{h h1:Hd}{n:Nat}{l:List D}(p:a σ h=.ok (.ref n) h1)(q:h1[n]? = some (.lst l)):d7 a σ h=.ok (l,some n) h1:=by
 simp only [d7,p,aA,q]
theorem Gk {a b:EF}{σ:Sd}{h h1 h2:Hd}{i j:Int}(p:a σ h=.ok (.int i) h1)(q:b σ h1=.ok (.int j) h2):Bx a b σ h=.ok (.int (if j > i then j else i)) h2:=by
 simp only [Bx,p,aA,q]
theorem B5 {a:EF}{σ:Sd}{h h1:Hd}{b:Bool}(p:a σ h=.ok (.bl b) h1):AE a σ h=.ok (.int (b2i b)) h1:=by
 simp only [AE,p,aA]
theorem Gm {a:LF}{σ:Sd}{h h1:Hd}{l:List D}{is:YF}(p:a σ h=.ok l h1)(q:dR l=some is):wg a σ h=.ok (.int is.sum) h1:=by
 simp only [wg,p,aA,q]
theorem lM {a:LF}{σ:Sd}{h h1:Hd}{l:List D}(p:a σ h=.ok l h1):gq a σ h=.ok (.tup l) h1:=by
 show Res.bind _ _=_;rw [p];rfl
theorem wU {i j:Int}{h:Hd}(e:j < i):oGt (.int i) (.int j) h=.ok (.bl true) h:=by show Res.ok (D.bl (decide (j < i))) h=_;rw [YZ e]
theorem sO {i j:Int}{h:Hd}(e : ¬ j < i):oGt (.int i) (.int j) h=.ok (.bl false) h:=by show Res.ok (D.bl (decide (j < i))) h=_;rw [XB e]
theorem jZ {h:Hd}{A:Nat}(hA:A=h.length)(c:cP):(h++[c])[A]? = some c:=by rw [hA];exact ZG
theorem yE {h:Hd}{A:Nat}(hA:A=h.length)(c d:cP):(h++[c]).set A d=h++[d]:=by
 have:=iI (g:=[c]) hA 0 d
 rwa [Nat.add_zero] at this
theorem j0 {r:LF}{σ:Sd}{h h':Hd}{xs:List D}{A:Nat}(hA:A=h'.length)(p:r σ h=.ok xs h')(q:xs.length≤SZ):aQ r σ h=.ok (.ref A) (h'++[.lst xs]):=by rw [hA];exact gC p q
theorem fZ {l:YF}{i:Nat}(h:i < l.length):atI (l.map D.int) (i:Int)=some (.int (l.getD i 0)):=cu (by rw [ZQ,ZE h,ZF,ZE h];rfl)
theorem Gn {t:TF}{a b:EF}{σ:Sd}{h h1:Hd}(p:t σ h=.ok true h1):fIf t a b σ h=a σ h1:=by
 show Res.bind _ _=_;rw [p];rfl
theorem Go {t:TF}{a b:EF}{σ:Sd}{h h1:Hd}(p:t σ h=.ok false h1):fIf t a b σ h=b σ h1:=by
 show Res.bind _ _=_;rw [p];rfl
theorem jc {a b:SF}{σ σ':Sd}{h h':Hd}(e:a σ h=.nx σ' h'):ay a b σ h=b σ' h':=by simp only [ay,e]
theorem B6 {a b:SF}{σ:Sd}{h h':Hd}{d:D}(e:a σ h=.rt d h'):ay a b σ h=.rt d h':=by simp only [ay,e]
theorem b7 {np n:Nat}{b:SF}{ds:List D}{σ:Sd}{h h':Hd}{d:D}(hl:ds.length=np)(st:(ds.map some++List.replicate (n - ds.length) none:Sd) = σ)(e:b σ h=.rt d h'):bJ np n b ds h=letGo h (.ok d h'):=by
 unfold bJ runB;rw [if_pos hl,st,e]
theorem Id {np n:Nat}{b:SF}{ds:List D}{σ σ':Sd}{h h':Hd}(hl:ds.length=np)(st:(ds.map some++List.replicate (n - ds.length) none:Sd) = σ)(e:b σ h=.nx σ' h'):bJ np n b ds h=letGo h (.ok .non h'):=by
 unfold bJ runB;rw [if_pos hl,st,e]
theorem qX {t:TF}{σ:Sd}{h:Hd}{b:Bool}(p:t σ h=.ok b h):eF [t] σ h=.ok b h:=by
 simp only [eF,p,aA];cases b<;>rfl
theorem uY {a:EF}{σ:Sd}{h h1:Hd}{l:List D}(p:a σ h=.ok (.tup l) h1):d7 a σ h=.ok (l,none) h1:=by
 show Res.bind _ _=_;rw [p];rfl
theorem B7 {a:LF}{σ:Sd}{h h1:Hd}{l:List D}{bs:List Bool}(p:a σ h=.ok l h1)(q:jk l=some bs):AD a σ h=.ok (.bl (bs.all id)) h1:=by
 simp only [AD,p,aA,q]
theorem wV (a b:Int)(h:Hd):oNe (.int a) (.int b) h=.ok (.bl (!decide (a=b))) h:=rfl
theorem B8 {a b:EF}{σ:Sd}{h h1 h2:Hd}{i j:Int}(p:a σ h=.ok (.int i) h1)(q:b σ h1=.ok (.int j) h2):wE a b σ h=.ok (.int (if j < i then j else i)) h2:=by
 simp only [wE,p,aA,q]
theorem a7 {a b:EF}{σ:Sd}{h h1 h2:Hd}{d e:D}(p:a σ h=.ok d h1)(q:b σ h1=.ok e h2):af a (af b ar) σ h=.ok [d,e] h2:=ak p (ak q rfl)
theorem sx {a b:SF}{σ σ':Sd}{h h':Hd}{o:Out}(p:a σ h=.nx σ' h')(q:b σ' h'=o):ay a b σ h=o:=(jc p).trans q
theorem sP {l:List Nat}{e:EF}{σ σ':Sd}{h h':Hd}{d:D}(p:e σ h=.ok d h')(q:gT l d σ = some σ'):aP (gT l) e σ h=.nx σ' h':=by
 show outE _ _ _=_
 rw [p]
 show (match gT l d σ with|some σ=>Out.nx σ h'|none=>.bad)=_
 rw [q]
end Fm
namespace Fm
noncomputable def cS:Fn:=bJ 1 1 (bC (fT (mf (tE (jm .int (ae 0))) (fV (tE (jm .bool (ae 0)))))))
noncomputable def a9:Fn:=bJ 3 3 (bC (fT (mf (tE (au cS (af (ae 0) ar))) (tE (oj oLe oLe (ae 1) (ae 0) (ae 2))))))
noncomputable def bX:Fn:=bJ 1 1 (bC (au a9 (af (ae 0) (af (fC (.int 0)) (af (fC (.int 1)) ar)))))
noncomputable def a8:Fn:=bJ 1 1 (bC (ik (lOf (fAt (ae 0) (fC (.int 0))))))
noncomputable def bQ:Fn:=bJ 2 2 (bC (fAt (fAt (ae 0) (fC (.int 0))) (ae 1)))
noncomputable def lN:Fn:=bJ 2 2 (bC (fAt (fAt (ae 0) (fC (.int 1))) (ae 1)))
noncomputable def gf:Fn:=bJ 2 2 (bC (fAt (fAt (ae 0) (fC (.int 2))) (ae 1)))
noncomputable abbrev yF:SF:=(ay (sIf (fV (tE (au bX (af (ae 3) ar)))) (bC (fC (.bl false))) cm)
  (ay (aP (gN 4) (au gf (af (ae 0) (af (ae 2) ar))))
  (sIf (mf (tE (aw kY (ae 4) (fC .non))) (tE (aw oNe (ae 3) (ae 4)))) (bC (fC (.bl false))) cm)))
noncomputable def sQ:Fn:=bJ 2 5 (ay (sIf (tOr (fV (tE (jm .tuple (ae 1)))) (tE (aw oNe (ik (lOf (ae 1))) (au a8 (af (ae 0) ar))))) (bC (fC (.bl false))) cm)
  (ay (jn (AF (ae 1)) (gT [2,3]) yF)
  (bC (fC (.bl true)))))
noncomputable def cF:Fn:=bJ 2 2 (sIf (fV (tE (au sQ (af (ae 0) (af (ae 1) ar))))) ml cm)
noncomputable def j1:Fn:=bJ 3 3 (bC (aw je (fC (.int 2)) (wg (ce 2 [1] (d7 (au bQ (af (ae 0) (af (ae 2) ar)))) (gT [0,1]) [(tE (aw oEq (fAt (ae 2) (ae 0)) (fC (.int 1))))] (ae 1)))))
theorem lO (i:Int)(h:Hd):cS [.int i] h=.ok (.bl true) h:=(b7 (d:=.bl true) (h':=h) rfl rfl rfl).trans bo
theorem dC (i a b:Int)(h:Hd):a9 [.int i,.int a,.int b] h=.ok (.bl (decide (a≤i) && decide (i≤b))) h:=by
 have ch:oj oLe oLe (ae 1) (ae 0) (ae 2) [some (.int i),some (.int a),some (.int b)] h=.ok (.bl (decide (a≤i) && decide (i≤b))) h:=by
  show (match D.bl (decide (a≤i)) with | .bl true=>Res.ok (D.bl (decide (i≤b))) h | .bl false=>.ok (.bl false) h|_=>.bad)=_
  cases decide (a≤i)<;>rfl
 have t:mf (tE (au cS (af (ae 0) ar))) (tE (oj oLe oLe (ae 1) (ae 0) (ae 2))) [some (.int i),some (.int a),some (.int b)] h=.ok (decide (a≤i) && decide (i≤b)) h:=o6 (bh (ao (ak rfl rfl) (lO i h))) (bh ch)
 exact (b7 rfl rfl (bx (o8 t))).trans bo
theorem gE (i:Int)(h:Hd):bX [.int i] h=.ok (.bl (decide (0≤i) && decide (i≤1))) h:=by
 exact (b7 rfl rfl (bx (ao (ak rfl (a7 rfl rfl)) (dC i 0 1 h)))).trans bo
theorem jC (w:Web)(h:Hd):a8 [w.enc] h=.ok (.int w.ties.length) h:=by
 have:=(b7 (np:=1) (n:=1) (b:=bC (ik (lOf (fAt (ae 0) (fC (.int 0)))))) (ds:=[w.enc]) (h:=h) rfl rfl (bx (ff (cR (aH rfl rfl rfl rfl) rfl)))).trans bo
 rwa [ZA] at this
theorem jD (w:Web)(h:Hd){p:Nat}{r:YC}(e:w.ties[p]? = some r):bQ [w.enc,.int p] h=.ok (jA r) h:=by
 have q:atI (w.ties.map jA) (p:Int)=some (jA r):=cu (by simp [e])
 exact (b7 rfl rfl (bx (aH (aH rfl rfl rfl rfl) rfl rfl q))).trans bo
theorem wW (w:Web)(h:Hd){p:Nat}{r:Int}(e:w.bars[p]? = some r):lN [w.enc,.int p] h=.ok (.int r) h:=by
 have q:atI (w.bars.map .int) (p:Int)=some (.int r):=cu (by simp [e])
 exact (b7 rfl rfl (bx (aH (aH rfl rfl rfl rfl) rfl rfl q))).trans bo
theorem jE (w:Web)(h:Hd){p:Nat}{r:Option Int}(e:w.stays[p]? = some r):gf [w.enc,.int p] h=.ok (bj r) h:=by
 have q:atI (w.stays.map bj) (p:Int)=some (bj r):=cu (by simp [e])
 exact (b7 rfl rfl (bx (aH (aH rfl rfl rfl rfl) rfl rfl q))).trans bo
theorem DR {w:Web}{n:Nat}{s:YF}(W:w.Ok n)(F:eE w n s)(h:Hd):sQ [w.enc,aE s] h=.ok (.bl true) h:=by
 obtain⟨σ',h',h1,h2,a,b,c,h3⟩:=de (P:=fun _ σ h'=>h'=h ∧ ∃ a b c,σ = [some w.enc,some (aE s),a,b,c]) (g:=none) (k:=0)
   (all:=((List.range (s.map D.int).length).zip (s.map D.int)).map fun p=>D.tup [.int (p.1:Nat),p.2]) (fun _ _ _ _=>trivial)
   (xs:=((List.range (s.map D.int).length).zip (s.map D.int)).map fun p=>D.tup [.int (p.1:Nat),p.2]) (tg:=gT [2,3]) (σ:=[some w.enc,some (aE s),none,none,none]) (h:=h)
   (b:=yF) (by
   rintro i x σ h0 hx ⟨rfl,a,b,c,rfl⟩
   have hi:i < s.length:=by
    have:=(YO hx).1
    simpa using this
   have hx':x=.tup [.int (i:Nat),.int s[i]]:=by simpa [hi,ZE] using hx.symm
   subst hx'
   have hs:w.stays[i]? = some (w.stays[i]'(by rw [W.s,← F.len];exact hi)):=ZE _
   generalize w.stays[i]'(by rw [W.s,← F.len];exact hi)=st at hs
   have op:bX [.int s[i]] h0=.ok (.bl true) h0:=by
    rw [gE];rcases F.op _ (XE hi) with e|e<;>rw [e]<;>rfl
   have s1:sIf (fV (tE (au bX (af (ae 3) ar)))) (bC (fC (.bl false))) cm [some w.enc,some (aE s),some (.int i),some (.int s[i]),c] h0=.nx [some w.enc,some (aE s),some (.int i),some (.int s[i]),c] h0:=dw (ee (bh (ao (ak rfl rfl) op)))
   have sv:=jE w h0 hs
   cases st with
   | none=>exact⟨_,rfl,_,h0,(jc s1).trans ((jc (az (ao (a7 rfl rfl) sv))).trans (dw (yB (bh (av rfl rfl rfl))))),rfl,_,_,_,rfl⟩
   | some y =>
    have hy:s[i] = y:=by have:=F.st i y hs;rw [ZE hi] at this;exact ZT this
    exact⟨_,rfl,_,h0,(jc s1).trans ((jc (az (ao (a7 rfl rfl) sv))).trans (dw (o6 (bh (av rfl rfl rfl)) (bh (av rfl rfl (by rw [show bj (some y)=D.int y from rfl,wV,YZ hy];rfl)))))),rfl,_,_,_,rfl⟩) ⟨rfl,_,_,_,rfl⟩
 rw [h2,h3] at h1
 have s1:sIf (tOr (fV (tE (jm .tuple (ae 1)))) (tE (aw oNe (ik (lOf (ae 1))) (au a8 (af (ae 0) ar))))) (bC (fC (.bl false))) cm [some w.enc,some (aE s),none,none,none] h=.nx [some w.enc,some (aE s),none,none,none] h :=
  dw (lK (ee (b:=true) (bh rfl)) (bh (av (ff (cR rfl rfl)) (ao (ak rfl rfl) (jC w h)) (by rw [wV,ZA,F.len,W.t,YZ rfl];rfl))))
 exact (b7 rfl rfl ((jc s1).trans ((jc (gD rfl h1)).trans (bx rfl)))).trans bo
theorem o9 {w:Web}{n:Nat}{s:YF}(W:w.Ok n)(F:eE w n s)(h:Hd):cF [w.enc,aE s] h=.ok .non h:=by
 exact (Id rfl rfl (dw (ee (bh (ao (a7 rfl rfl) (DR W F h)))))).trans bo
theorem zK (l:YF):dR (l.map .int)=some l:=by
 induction l with
 | nil=>rfl
 | cons x xs ih=>simp [dR,ih]
theorem Gp {s:YF}{i:Nat}(h:i < s.length):atI (s.map .int) (i:Int)=some (.int s[i]):=cu (by simp [h])
def j4 (r:YC) (s:YF):YF:=(r.filter fun p=>decide (s.getD p.1 0=1)).map (·.2)
def bq (r:YC) (s:YF):Int:=(j4 r s).sum
theorem B9 {r:YC}{s:YF}(hr:∀ q∈r,q.1 < s.length)(h:Hd):bS none (r.map fO) (gT [0,1]) [(tE (aw oEq (fAt (ae 2) (ae 0)) (fC (.int 1))))] (ae 1) (r.map fO) [none,none,some (aE s)] h=.ok ((j4 r s).map D.int) h:=by
 have key:bS none (r.map fO) (gT [0,1]) [(tE (aw oEq (fAt (ae 2) (ae 0)) (fC (.int 1))))] (ae 1) (r.map fO) [none,none,some (aE s)] h
   = .ok (((r.map fO).filter fun d=>match d with | .tup [.int i,_]=>decide (s.getD i.toNat 0=1)|_=>false).map fun d=>match d with | .tup [_,x]=>x|_=>.non) h:=by
  refine b6 (g:=none) (I:=fun σ=>∃ a b,σ = [a,b,some (aE s)]) _ _ trivial ?_ ⟨_,_,rfl⟩
  rintro x hx σ ⟨a,b,rfl⟩
  obtain⟨⟨q,wt⟩,hq,rfl⟩:=YR hx
  exact⟨_,rfl,⟨_,_,rfl⟩,qX (bh (av (aH rfl rfl rfl (fZ (hr _ hq))) rfl qW)),fun _=>rfl⟩
 rw [key,j4,List.filter_map,List.map_map,List.map_map]
 rfl
theorem wX {w:Web}{n:Nat}{s:YF}(W:w.Ok n)(hs:s.length=n){p:Nat}{r:YC}(e:w.ties[p]? = some r)(h:Hd) :
  j1 [w.enc,aE s,.int p] h=.ok (.int (2 * bq r s)) h:=by
 have hr:∀ q∈r,q.1 < s.length:=fun q hq=>by rw [hs];exact W.lt r (ZK e) q hq
 exact (b7 rfl rfl (bx (av rfl (Gm (dZ (uY (ao (a7 rfl rfl) (jD w h e))) (B9 hr h)) (zK _)) (jY (by decide))))).trans bo
end Fm
namespace Fm
noncomputable def gh:Fn:=bJ 3 6 (ay (aP (gN 3) (au gf (af (ae 0) (af (ae 2) ar))))
  (ay (sIf (tE (aw kY (ae 3) (fC .non))) (bC (ae 3)) cm)
  (ay (aP (gN 4) (au j1 (af (ae 0) (af (ae 1) (af (ae 2) ar)))))
  (ay (aP (gN 5) (au lN (af (ae 0) (af (ae 2) ar))))
  (ay (sIf (tE (aw oEq (ae 4) (ae 5))) (bC (fAt (ae 1) (ae 2))) cm)
  (bC (fIf (tE (aw oGt (ae 4) (ae 5))) (fC (.int 1)) (fC (.int 0)))))))))
noncomputable def fg:Fn:=bJ 2 2 (bC (gq (ce 1 [0,1] (dz (au a8 (af (ae 0) ar))) (gN 0) [] (au gh (af (ae 1) (af (ae 2) (af (ae 0) ar)))))))
def cG (w:Web) (s:YF) (p:Nat):Int:=match w.stays.getD p none with
 | some x=>x
 | none=>if 2 * bq (w.ties.getD p []) s=w.bars.getD p 0 then s.getD p 0 else if w.bars.getD p 0 < 2 * bq (w.ties.getD p []) s then 1 else 0
def fE (w:Web) (n:Nat) (s:YF):YF:=(List.range n).map (cG w s)
theorem wY {w:Web}{n:Nat}{s:YF}(W:w.Ok n)(F:eE w n s){p:Nat}(hp:p < n)(h:Hd):gh [w.enc,aE s,.int p] h=.ok (.int (cG w s p)) h:=by
 have ht:p < w.ties.length:=by rw [W.t];exact hp
 have hb:p < w.bars.length:=by rw [W.b];exact hp
 have hst:p < w.stays.length:=by rw [W.s];exact hp
 have hs:p < s.length:=by rw [F.len];exact hp
 have et:w.ties[p]? = some w.ties[p]:=by simp [ht]
 have eb:w.bars[p]? = some w.bars[p]:=by simp [hb]
 have es:w.stays[p]? = some w.stays[p]:=by simp [hst]
 have pull:=wX W F.len et h
 have gt:w.ties.getD p [] = w.ties[p]:=by simp [List.getD,ht]
 have gb:w.bars.getD p 0=w.bars[p]:=by simp [List.getD,hb]
 have gs:w.stays.getD p none=w.stays[p]:=by simp [List.getD,hst]
 have gi:s.getD p 0=s[p]:=by simp [List.getD,hs]
 have ai:=Gp hs
 cases c:w.stays[p] with
 | some x =>
  rw [c] at es
  have nx:cG w s p=x:=by unfold cG;rw [gs,c]
  rw [nx]
  exact (b7 rfl rfl ((jc (az (ao (a7 rfl rfl) (jE w h es)))).trans (B6 ((mL (bh (av rfl rfl rfl))).trans (bx rfl))))).trans bo
 | none =>
  rw [c] at es
  have sv:=jE w h es
  have bv:=wW w h eb
  simp only [cG,gs,c,gt,gb,gi]
  generalize 2 * bq w.ties[p] s=P at pull
  have go:∀ {v:Int},ay (sIf (tE (aw oEq (ae 4) (ae 5))) (bC (fAt (ae 1) (ae 2))) cm) (bC (fIf (tE (aw oGt (ae 4) (ae 5))) (fC (.int 1)) (fC (.int 0)))) [some w.enc,some (aE s),some (.int p),some .non,some (.int P),some (.int w.bars[p])] h=.rt (.int v) h→gh [w.enc,aE s,.int p] h=.ok (.int v) h:=fun e=>Eq.trans (b7 (σ:=[some w.enc,some (aE s),some (.int p),none,none,none]) rfl rfl (sx (az (ao (a7 rfl rfl) sv)) (sx (dw (bh (av rfl rfl rfl))) (sx (az (ao (ak rfl (a7 rfl rfl)) pull)) (sx (az (ao (a7 rfl rfl) bv)) e))))) bo
  by_cases e1:P=w.bars[p]
  ·rw [if_pos e1];exact go (B6 ((mL (bh (av rfl rfl (o7 e1)))).trans (bx (aH rfl rfl rfl ai))))
  ·rw [if_neg e1]
   by_cases e2:w.bars[p] < P
   ·rw [if_pos e2];exact go ((jc (dw (bh (av rfl rfl (kF e1))))).trans (bx ((Gn (bh (av rfl rfl (wU e2)))).trans rfl)))
   ·rw [if_neg e2];exact go ((jc (dw (bh (av rfl rfl (kF e1))))).trans (bx ((Go (bh (av rfl rfl (sO e2)))).trans rfl)))
theorem kG {w:Web}{n:Nat}{s:YF}(W:w.Ok n)(F:eE w n s)(h:Hd):fg [w.enc,aE s] h=.ok (aE (fE w n s)) h:=by
 have key:bS none ((List.range n).map fun k:Nat=>D.int k) (gN 0) [] (au gh (af (ae 1) (af (ae 2) (af (ae 0) ar)))) ((List.range n).map fun k:Nat=>D.int k) [none,some w.enc,some (aE s)] h
   = .ok (((((List.range n).map fun k:Nat=>D.int k).filter fun _=>true)).map fun d=>match d with | .int i=>.int (cG w s i.toNat)|_=>.non) h:=by
  refine b6 (g:=none) (I:=fun σ=>∃ a,σ = [a,some w.enc,some (aE s)]) _ _ trivial ?_ ⟨_,rfl⟩
  rintro x hx σ ⟨a,rfl⟩
  obtain⟨i,hi,rfl⟩:=YR hx
  have hi:=YT hi
  exact⟨_,rfl,⟨_,rfl⟩,by simp,fun _=>ao (ak rfl (a7 rfl rfl)) (wY W F hi h)⟩
 have k2:((((List.range n).map fun k:Nat=>D.int k).filter fun _=>true)).map (fun d=>match d with | .int i=>D.int (cG w s i.toNat)|_=>.non)=(fE w n s).map D.int:=by
  rw [List.filter_eq_self.mpr (by simp),List.map_map,fE,List.map_map];rfl
 rw [k2] at key
 have mq:a8 [w.enc] h=.ok (.int n) h:=W.t ▸ jC w h
 exact (b7 rfl rfl (bx (lM (dZ (dB (ao (ak rfl rfl) mq) W.sz) key)))).trans bo
def dD (w:Web):Prop:=∀ x∈w.stays,x=none∨x=some 0∨x=some 1
theorem uZ {w:Web}{n:Nat}{s:YF}(F:eE w n s)(i:Nat):s.getD i 0=0∨s.getD i 0=1:=by
 by_cases hi:i < s.length
 ·rw [List.getD,ZE hi];exact F.op _ (XE hi)
 ·rw [List.getD,List.getElem?_eq_none (by omega)];exact .inl rfl
theorem pb {w:Web}{n:Nat}{s:YF}(F:eE w n s)(S:dD w)(p:Nat):cG w s p=0∨cG w s p=1:=by
 unfold cG
 cases c:w.stays.getD p none with
 | some x =>
  have:some x∈w.stays:=by
   rw [List.getD] at c
   cases e:w.stays[p]? with
   | none=>rw [e] at c;cases c
   | some y=>rw [e] at c;simp at c;subst c;exact ZK e
  have:=S _ this
  simp at this
  exact this
 | none =>
  simp only
  split
  ·exact uZ F p
  ·split<;>simp
theorem zL {w:Web}{n:Nat}{s:YF}(W:w.Ok n)(S:dD w)(F:eE w n s):eE w n (fE w n s) where
 len:=by simp [fE]
 op:=fun x hx=>by
  obtain⟨p,hp,rfl⟩:=YR hx
  exact pb F S p
 st:=fun i x e=>by
  have hi:i < n:=by rw [← W.s];exact (YO e).1
  have:w.stays.getD i none=some x:=by simp [List.getD,e]
  have hn:cG w s i=x:=by unfold cG;rw [this]
  simp [fE,hi,hn]
def cJ (w:Web) (n:Nat) (s:YF):Nat→YF
 | 0=>s
 | k + 1=>fE w n (cJ w n s k)
theorem cb {w:Web}{n:Nat}{s:YF}(W:w.Ok n)(S:dD w)(F:eE w n s):∀ k,eE w n (cJ w n s k)
 | 0=>F
 | k + 1=>zL W S (cb W S F k)
end Fm
namespace Fm
noncomputable def lP:Fn:=bJ 2 4 (ay (sIf (tOr (fV (tE (jm .tuple (ae 1)))) (tE (aw oNe (ik (lOf (ae 1))) (fC (.int 3))))) (bC (fC (.bl false))) cm)
  (ay (aP (gN 2) (fAt (ae 1) (fC (.int 0))))
  (ay (aP (gN 3) (fAt (ae 1) (fC (.int 1))))
  (ay (sIf (tOr (fV (tE (au a9 (af (ae 2) (af (fC (.int 0)) (af (aw gJ (ae 0) (fC (.int 1))) ar)))))) (fV (tE (au a9 (af (ae 3) (af (fC (.int 0)) (af (aw gJ (ae 0) (fC (.int 1))) ar))))))) (bC (fC (.bl false))) cm)
  (bC (fT (mf (tE (aw oNe (ae 2) (ae 3))) (tE (au a9 (af (fAt (ae 1) (fC (.int 2))) (af (fC (.int 1)) (af (fC (.int 400)) ar))))))))))))
noncomputable abbrev hV:SF:=(ay (sIf (fV (tE (au lP (af (ae 0) (af (ae 3) ar))))) ml cm)
  (ay (aP (gN 4) (fAt (ae 3) (fC (.int 0))))
  (ay (aP (gN 5) (fAt (ae 3) (fC (.int 1))))
  (ay (sIf (tE (aw AU (ae 5) (fAt (ae 2) (ae 4)))) ml cm)
  (ay (uE (fAt (ae 2) (ae 4)) (ae 5) (fAt (ae 3) (fC (.int 2))))
  (uE (fAt (ae 2) (ae 5)) (ae 4) (fAt (ae 3) (fC (.int 2)))))))))
noncomputable def f6:Fn:=bJ 2 6 (ay (sIf (fV (tE (jm .list (ae 1)))) ml cm)
  (ay (aP (gN 2) (aQ (ce 1 [] (dz (ae 0)) (gN 0) [] yh)))
  (ay (jn (d7 (ae 1)) (gN 3) hV)
  (bC (ae 2)))))
noncomputable def gQ:Fn:=bJ 2 2 (ay (sIf (tE (aw oh (ae 1) (fC .non))) ml cm)
  (ay (sIf (tOr (fV (tE (jm .list (ae 1)))) (tE (aw oNe (ik (lOf (ae 1))) (ik (lOf (ae 0)))))) ml cm)
  (ay (sIf (fV (tE (AD (ce 1 [] (d7 (ae 1)) (gN 0) [] (au cS (af (ae 0) ar)))))) ml cm)
  (bC (gq (lOf (ae 1)))))))
noncomputable def f7:Fn:=bJ 2 2 (ay (sIf (tE (aw oh (ae 1) (fC .non))) (bC (gq (ce 1 [] (dz (ae 0)) (gN 0) [] (fC .non)))) cm)
  (ay (sIf (tOr (fV (tE (jm .list (ae 1)))) (tE (aw oNe (ik (lOf (ae 1))) (ae 0)))) ml cm)
  (ay (sIf (fV (tE (AD (ce 1 [] (d7 (ae 1)) (gN 0) [] (fT (tOr (tE (aw oh (ae 0) (fC .non))) (tE (au bX (af (ae 0) ar))))))))) ml cm)
  (bC (gq (lOf (ae 1)))))))
noncomputable def cx:Fn:=bJ 4 6 (ay (sIf (fV (tE (au a9 (af (ae 0) (af (fC (.int 1)) (af (fC (.int 30)) ar)))))) ml cm)
  (ay (aP (gN 4) (au f6 (af (ae 0) (af (ae 1) ar))))
  (ay (aP (gN 5) (gq (ce 1 [] (d7 (ae 4)) (gN 0) [] (gq (mF (ae 0))))))
  (bC (cW (af (ae 5) (af (au gQ (af (ae 4) (af (ae 2) ar))) (af (au f7 (af (ae 0) (af (ae 3) ar))) ar))))))))
noncomputable def pc:Fn:=bJ 2 2 (ay (gK (au cF (af (ae 0) (af (ae 1) ar))))
  (bC (au fg (af (ae 0) (af (ae 1) ar)))))
noncomputable def cK:Fn:=bJ 2 4 (ay (aP (gN 2) (fC (.int 0)))
  (ay (sIf (tE (aw oLt (ae 1) (ik (lOf (ae 0))))) (aP (gN 2) (fAt (ae 0) (ae 1))) cm)
  (ay (aP (gN 3) (fT (tOr (tE (aw oEq (ik (lOf (ae 0))) (fC (.int 0)))) (tE (aw oEq (aw ij (fAt (ae 0) (fC (.int 0))) (fC (.int 2))) (fC (.int 1)))))))
  (ay (sIf (tE (ae 3)) (aP (gN 2) (aw cV (aw ij (ae 2) (fC (.int 2147483647))) (aw je (fC (.int 1000003)) (ae 1)))) cm)
  (bC (aQ (af (ae 2) (af (fC (.int 0)) (af (ae 3) ar)))))))))
noncomputable def aK:Fn:=bJ 2 4 (ay (sg (ae 0) (fC (.int 1)) (aw cV (fAt (ae 0) (fC (.int 1))) (fC (.int 1))))
  (ay (sIf (tE (fAt (ae 0) (fC (.int 2)))) (ay (aP (gN 2) (aw ij (aw je (aw cV (aw cV (fAt (ae 0) (fC (.int 0))) (aw je (fC (.int 7919)) (fAt (ae 0) (fC (.int 1))))) (fC (.int 1))) (fC (.int 48271))) (fC (.int 2147483647))))
  (ay (aP (gN 2) (aw ij (aw je (ae 2) (aw cV (aw ij (ae 2) (fC (.int 65521))) (fAt (ae 0) (fC (.int 1))))) (fC (.int 2147483629))))
  (bC (aw ij (aw ij (aw cV (aw je (ae 2) (ae 2)) (aw je (fC (.int 69621)) (ae 2))) (fC (.int 2147483563))) (ae 1))))) cm)
  (ay (aP (gN 3) (aw ij (fAt (ae 0) (fC (.int 0))) (ae 1)))
  (ay (sg (ae 0) (fC (.int 0)) (aw AC (fAt (ae 0) (fC (.int 0))) (ae 1)))
  (bC (ae 3))))))
noncomputable def fx:Fn:=bJ 3 3 (ay (sIf (tE (aw oEq (ae 0) (fC (.int 0)))) (bC (ae 2)) cm)
  (ay (sIf (tE (aw oEq (ae 0) (fC (.int 1)))) (bC (aw gJ (ae 1) (fC (.int 60)))) cm)
  (ay (sIf (tE (aw oEq (ae 0) (fC (.int 2)))) (bC (aw gJ (aw cV (ae 2) (aw ij (ae 1) (fC (.int 5)))) (fC (.int 2)))) cm)
  (ay (sIf (tE (aw oEq (ae 0) (fC (.int 3)))) (bC (aw je (fC (.int 2)) (aw ij (ae 1) (aw cV (ae 2) (fC (.int 1)))))) cm)
  (bC (aw je (aw cV (aw HB (fC (.int 10)) (fC (.int 59))) (ae 1)) (fIx (af (fC (.int 1)) (af (fC (.int (-1))) ar)) (aw ij (ae 1) (fC (.int 2))))))))))
noncomputable abbrev gS:SF:=(sIf (tE (aw oEq (au aK (af (ae 9) (af (ae 3) ar))) (fC (.int 0)))) (ay (aP (gN 11) (aw cV (fC (.int 1)) (au aK (af (ae 9) (af (fIx (af (fC (.int 3)) (af (fC (.int 99)) ar)) (au aK (af (ae 9) (af (fC (.int 2)) ar)))) ar)))))
  (ay (gK (Bw (ae 4) (au aK (af (ae 9) (af (aw cV (ik (lOf (ae 4))) (fC (.int 1))) ar))) (fIx (af (cW (af (ae 8) (af (ae 10) (af (ae 11) ar)))) (af (cW (af (ae 10) (af (ae 8) (af (ae 11) ar)))) ar)) (aw ij (ae 11) (fC (.int 2))))))
  (ay (sg (ae 7) (ae 8) (aw cV (fAt (ae 7) (ae 8)) (ae 11)))
  (sg (ae 7) (ae 10) (aw cV (fAt (ae 7) (ae 10)) (ae 11)))))) cm)
noncomputable abbrev gU:SF:=(ay (aP (gN 9) (au cK (af (ae 0) (af (aw cV (fC (.int 1)) (ae 8)) ar))))
  (ay (gK (nB (ae 6) (fIx (af (fC .non) (af (fC .non) (af (fC .non) (af (fC (.int 0)) (af (fC (.int 1)) ar))))) (au aK (af (ae 9) (af (fC (.int 5)) ar))))))
  (ay (gK (nB (ae 5) (cW (af (au aK (af (ae 9) (af (fC (.int 5)) ar))) (af (au aK (af (ae 9) (af (fC (.int 200)) ar))) ar)))))
  (jn (dz (ae 8)) (gN 10) gS))))
noncomputable def iJ:Fn:=bJ 1 12 (ay (aP (gN 1) (au cK (af (ae 0) (af (fC (.int 0)) ar))))
  (ay (gK (au aK (af (ae 1) (af (fC (.int 2)) ar))))
  (ay (aP (gN 2) (aw cV (fC (.int 1)) (au aK (af (ae 1) (af (fIx (af (fC (.int 4)) (af (fC (.int 8)) (af (fC (.int 16)) ar))) (au aK (af (ae 1) (af (fC (.int 3)) ar)))) ar)))))
  (ay (aP (gN 3) (fIx (af (fC (.int 1)) (af (fC (.int 2)) (af (fC (.int 5)) ar))) (au aK (af (ae 1) (af (fC (.int 3)) ar)))))
  (ay (aP (gN 4) (aQ ar))
  (ay (aP (gN 5) (aQ ar))
  (ay (aP (gN 6) (aQ ar))
  (ay (aP (gN 7) (aQ (Bv (af (fC (.int 0)) ar) (ae 2))))
  (ay (jn (dz (ae 2)) (gN 8) gU)
  (ay (aP (gN 5) (aQ (ce 1 [7,5] (dz (ae 2)) (gN 0) [] (au fx (af (fAt (fAt (ae 2) (ae 0)) (fC (.int 0))) (af (fAt (fAt (ae 2) (ae 0)) (fC (.int 1))) (af (fAt (ae 1) (ae 0)) ar)))))))
  (bC (cW (af (ae 2) (af (ae 4) (af (ae 5) (af (ae 6) (af (ae 7) ar)))))))))))))))))
noncomputable abbrev pf:SF:=(ay (aP (gN 6) (au aK (af (ae 3) (af (fC (.int 2)) ar))))
  (ay (sIf (tE (aw kY (ae 5) (fC .non))) (aP (gN 6) (ae 5)) cm)
  (gK (nB (ae 4) (ae 6)))))
noncomputable def j5:Fn:=bJ 3 7 (ay (aP (gN 3) (au cK (af (ae 0) (af (ae 1) ar))))
  (ay (aP (gN 4) (aQ ar))
  (ay (jn (d7 (ae 2)) (gN 5) pf)
  (bC (gq (lOf (ae 4)))))))
end Fm
namespace Fm
theorem yG {x:Int}(h0:0≤x)(h1:x < 4611686018427387904):sml x=true:=by
 simp only [sml,Bool.and_eq_true,decide_eq_true_eq];omega
theorem iK {α : Type}{f : α → D}{l:List α}{i:Nat}(h:i < l.length):atI (l.map f) (i:Int)=some (f l[i]):=cu (by simp [h])
theorem jF (ns:YF)(k:Nat)(h:Hd):∃ c m,cK [.lit (ns.map .int),.int k] h=.ok (.ref h.length) (h++[.lst [.int c,.int 0,.bl m]]):=by
 have sm:sml 1000003=true:=by decide
 have z:∀ b:Bool,(b=true∨b=false):=fun b=>by cases b<;>simp
 obtain⟨c,hc⟩ : ∃ c,c=if k < ns.length then ns.getD k 0 else 0:=⟨_,rfl⟩
 have s2:sIf (tE (aw oLt (ae 1) (ik (lOf (ae 0))))) (aP (gN 2) (fAt (ae 0) (ae 1))) cm [some (.lit (ns.map .int)),some (.int k),some (.int 0),none] h=.nx [some (.lit (ns.map .int)),some (.int k),some (.int c),none] h:=by
  by_cases e:k < ns.length
  ·have a:=iK (f:=D.int) e
   rw [hc,if_pos e]
   refine (mL (bh (av rfl (ff (cR rfl rfl)) (Gg (Int.ofNat_lt.mpr (by rw [ZA];exact e)))))).trans (az (aH rfl rfl rfl ?_))
   rw [a,ZF,ZE e];rfl
  ·rw [hc,if_neg e]
   exact dw (bh (av rfl (ff (cR rfl rfl)) (Gf (fun z=>e (by have:=Int.ofNat_lt.mp z;rwa [ZA] at this)))))
 obtain⟨m,s3⟩ : ∃ m,aP (gN 3) (fT (tOr (tE (aw oEq (ik (lOf (ae 0))) (fC (.int 0)))) (tE (aw oEq (aw ij (fAt (ae 0) (fC (.int 0))) (fC (.int 2))) (fC (.int 1)))))) [some (.lit (ns.map .int)),some (.int k),some (.int c),none] h=.nx [some (.lit (ns.map .int)),some (.int k),some (.int c),some (.bl m)] h:=by
  by_cases e:ns.length=0
  ·exact⟨true,az (o8 (BZ (bh (av (ff (cR rfl rfl)) rfl (o7 (by rw [ZA,e];rfl))))))⟩
  ·have e0:0 < ns.length:=Nat.pos_of_ne_zero e
   have a:atI (ns.map D.int) 0=some (.int ns[0]):=iK (f:=D.int) (i:=0) e0
   exact⟨decide (ns[0] % 2=1),az (o8 (lK (bh (av (ff (cR rfl rfl)) rfl (kF (fun z=>e (by rw [ZA] at z;exact Int.ofNat.inj z))))) (bh (av (av (aH rfl rfl rfl a) rfl (hU (by decide))) rfl qW))))⟩
 obtain⟨c',s4⟩ : ∃ c',sIf (tE (ae 3)) (aP (gN 2) (aw cV (aw ij (ae 2) (fC (.int 2147483647))) (aw je (fC (.int 1000003)) (ae 1)))) cm [some (.lit (ns.map .int)),some (.int k),some (.int c),some (.bl m)] h=.nx [some (.lit (ns.map .int)),some (.int k),some (.int c'),some (.bl m)] h:=by
  cases m with
  | true=>exact⟨c % 2147483647 + 1000003 * k,(mL (bh rfl)).trans (az (av (av rfl rfl (hU (by decide))) (av rfl rfl (jY sm)) rfl))⟩
  | false=>exact⟨c,dw (bh rfl)⟩
 refine⟨c',m,?_⟩
 refine Eq.trans (b7 (σ:=[some (.lit (ns.map .int)),some (.int k),none,none]) rfl rfl (sx (az rfl) (sx s2 (sx s3 (sx s4 rfl))))) ?_
 simp [letGo,pure?]
theorem pk {h:Hd}{n:Nat}{c t m:Int}{b:Bool}(hn:h[n]? = some (.lst [.int c,.int t,.bl b]))(hm:0 < m)(hm2:m < 2 ^ 250) :
  ∃ v c' t',aK [.ref n,.int m] h=.ok (.int v) (h.set n (.lst [.int c',.int t',.bl b]))∧0≤v∧v < m:=by
 have hl:n < h.length:=(YO hn).1
 have g1:(h.set n (.lst [.int c,.int (t + 1),.bl b]))[n]? = some (.lst [.int c,.int (t + 1),.bl b]):=List.getElem?_set_self hl
 have pu:∀ (v:Int) (g:Hd),(∀ j,j < h.length → ∃ cc,g[j]? = some cc∧(h[j]? = some cc∨jo cc=true))→g.length=h.length→letGo h (.ok (.int v) g)=.ok (.int v) g:=fun v g hg hgl=>by
  have:=zJ (h:=h) (h':=g) (g:=[]) (d:=.int v) rfl hgl (by
   intro j cc hj e
   obtain⟨c2,e1,e2⟩:=hg j hj
   rw [List.append_nil,e1] at e
   cases e
   exact e2)
  simpa using this
 have cp:∀ (x y:Int),jo (.lst [.int x,.int y,.bl b])=true:=fun x y=>rfl
 have pl:∀ (x y:Int),∀ j,j < h.length → ∃ cc,(h.set n (.lst [.int x,.int y,.bl b]))[j]? = some cc∧(h[j]? = some cc∨jo cc=true):=fun x y j hj=>by
  by_cases e:n=j
  ·subst e;exact⟨_,by rw [List.getElem?_set_self hl],.inr (cp x y)⟩
  ·exact⟨h[j],by rw [ZP e];simp [hj],.inl (by simp [hj])⟩
 cases b with
 | true =>
  obtain⟨n1,hn1⟩ : ∃ n1,n1=(c + 7919 * (t + 1) + 1) * 48271 % 2147483647:=⟨_,rfl⟩
  have b1:0≤n1∧n1 < 2147483647:=by rw [hn1];exact⟨Int.emod_nonneg _ (by decide),Int.emod_lt_of_pos _ (by decide)⟩
  have sm4:sml n1=true:=yG b1.1 (Int.lt_trans b1.2 (by decide))
  obtain⟨n2,hn2⟩ : ∃ n2,n2=n1 * (n1 % 65521 + (t + 1)) % 2147483629:=⟨_,rfl⟩
  have b2:0≤n2∧n2 < 2147483629:=by rw [hn2];exact⟨Int.emod_nonneg _ (by decide),Int.emod_lt_of_pos _ (by decide)⟩
  have sm5:sml n2=true:=yG b2.1 (Int.lt_trans b2.2 (by decide))
  refine⟨(n2 * n2 + 69621 * n2) % 2147483563 % m,c,t + 1,?_,Int.emod_nonneg _ (Int.ne_of_gt hm),Int.emod_lt_of_pos _ hm⟩
  refine Eq.trans (b7 (σ:=[some (.ref n),some (.int m),none,none]) rfl rfl ?_) (pu _ _ (pl _ _) (by simp))
  refine sx (kE (k:=1) (av (aH rfl rfl (bd hn) rfl) rfl rfl) rfl rfl hn rfl) (B6 (Eq.trans (mL (bh (aH rfl rfl (bd g1) rfl))) ?_))
  refine sx (az (Eq.trans (av (av (av (av (aH rfl rfl (bd g1) rfl) (av rfl (aH rfl rfl (bd g1) rfl) (jY (by decide))) rfl) rfl rfl) rfl (DQ (by decide))) rfl (hU (by decide))) (congrArg (fun x=>Res.ok (D.int x) _) hn1.symm))) ?_
  refine sx (az (Eq.trans (av (av rfl (av (av rfl rfl (hU (by decide))) (aH rfl rfl (bd g1) rfl) rfl) (jY sm4)) rfl (hU (by decide))) (congrArg (fun x=>Res.ok (D.int x) _) hn2.symm))) ?_
  exact bx (av (av (av (av rfl rfl (jY sm5)) (av rfl rfl (jY (by decide))) rfl) rfl (hU (by decide))) rfl (hU hm))
 | false =>
  refine⟨c % m,c / m,t + 1,?_,Int.emod_nonneg _ (Int.ne_of_gt hm),Int.emod_lt_of_pos _ hm⟩
  refine Eq.trans (b7 (σ:=[some (.ref n),some (.int m),none,none]) rfl rfl ?_) (pu _ _ (pl _ _) (by simp))
  refine sx (kE (k:=1) (av (aH rfl rfl (bd hn) rfl) rfl rfl) rfl rfl hn rfl) (sx (dw (bh (aH rfl rfl (bd g1) rfl))) ?_)
  refine sx (az (av (aH rfl rfl (bd g1) rfl) rfl (hU hm))) ?_
  exact sx (Eq.trans (kE (k:=0) (av (aH rfl rfl (bd g1) rfl) rfl (B3 hm hm2)) rfl rfl g1 rfl) (congrArg (Out.nx _) (List.set_set ..))) (bx rfl)
end Fm
namespace Fm
theorem dL {n i:Nat}{x:D}(hx:((List.range n).map fun k:Nat=>D.int k)[i]? = some x):i < n∧x=.int (i:Nat):=by
 have hi:i < n:=by
  have:=(YO hx).1
  simpa using this
 exact⟨hi,by simpa [hi,ZE] using hx.symm⟩
theorem qY {α : Type}(f : α → D)(l:List α){x:Int}(h0:0≤x)(h:x < l.length):∃ v∈l,atI (l.map f) x=some (f v):=by
 have h3:x.toNat < l.length:=by omega
 refine⟨l[x.toNat],XE h3,?_⟩
 have:=iK (f:=f) h3
 rwa [show ((x.toNat:Nat):Int)=x by omega] at this
theorem Gq (k x t:Int)(ht:0≤t)(h:Hd):∃ v,fx [.int k,.int x,.int t] h=.ok (.int v) h:=by
 by_cases e0:k=0
 ·exact⟨t,by simp [fx,bJ,runB,e0,peq,dep]⟩
 ·by_cases e1:k=1
  ·exact⟨x - 60,by simp [fx,bJ,runB,e0,e1,peq,dep]⟩
  ·by_cases e2:k=2
   ·exact⟨t + x % 5 - 2,by simp [fx,bJ,runB,e0,e1,e2,peq,dep]⟩
   ·by_cases e3:k=3
    ·have s2:sml 2=true:=by decide
     have p1:0 < t + 1:=by omega
     exact⟨2 * (x % (t + 1)),by simp [fx,bJ,runB,e0,e1,e2,e3,peq,dep,s2,p1]⟩
    ·obtain⟨v,hv,q⟩:=qY D.int [1,-1] (x:=x % 2) (Int.emod_nonneg _ (by omega)) (by have:=Int.emod_lt_of_pos x (show (0:Int) < 2 by omega);simpa using this)
     have q:atI [D.int 1,.int (-1)] (x % 2)=some (.int v):=q
     have s10:sml 10=true:=by decide
     have sv:sml v=true:=by simp at hv;rcases hv with e|e<;>subst e<;>decide
     exact⟨_,by simp [fx,bJ,runB,e0,e1,e2,e3,peq,dep,s10,q,sv];rfl⟩
structure Tie where
 a:Nat
 b:Nat
 w:Int
def aL (t:Tie):D:=.tup [.int t.a,.int t.b,.int t.w]
def far (i:Nat) (t:Tie):YL:=if t.a=i then some t.b else if t.b=i then some t.a else none
def wOf (i:Nat) (t:Tie):Int:=if t.a=i∨t.b=i then t.w else 0
def bz (T:List Tie) (i:Nat):Int:=(T.map (wOf i)).sum
def Ie (one other:Nat) (t:Tie):Prop:=(t.a < one∧t.b < one)∨(t.a=one∧t.b < other)∨(t.b=one∧t.a < other)
def dE (s t:Tie):Prop:=¬ (s.a=t.a∧s.b=t.b) ∧ ¬ (s.a=t.b∧s.b=t.a)
structure TOk (n one other:Nat) (T:List Tie):Prop where
 ne:∀ t∈T,t.a≠t.b
 lt:∀ t∈T,t.a < n∧t.b < n
 wt:∀ t∈T,1≤t.w∧t.w≤400
 be:∀ t∈T,Ie one other t
 un:T.Pairwise dE
 len:T.length≤30 * one + other
theorem dE.symm {s t:Tie}(h:dE s t):dE t s:=⟨fun z=>h.1 ⟨z.1.symm,z.2.symm⟩,fun z=>h.2 ⟨z.2.symm,z.1.symm⟩⟩
theorem TOk.skip {n one other:Nat}{T:List Tie}(o:TOk n one other T):TOk n one (other + 1) T :=
 ⟨o.ne,o.lt,o.wt,fun t ht=>by
  rcases o.be t ht with h|h|h
  ·exact .inl h
  ·exact .inr (.inl ⟨h.1,Nat.lt_succ_of_lt h.2⟩)
  ·exact .inr (.inr ⟨h.1,Nat.lt_succ_of_lt h.2⟩),o.un,Nat.le_succ_of_le o.len⟩
theorem TOk.step {n one:Nat}{T:List Tie}(o:TOk n one one T)(h:one < n)(hn:n≤30):TOk n (one + 1) 0 T :=
 ⟨o.ne,o.lt,o.wt,fun t ht=>by
  rcases o.be t ht with h|h|h
  ·exact .inl ⟨Nat.lt_succ_of_lt h.1,Nat.lt_succ_of_lt h.2⟩
  ·exact .inl ⟨Nat.lt_succ_of_le (Nat.le_of_eq h.1),Nat.lt_succ_of_lt h.2⟩
  ·exact .inl ⟨Nat.lt_succ_of_lt h.2,Nat.lt_succ_of_le (Nat.le_of_eq h.1)⟩,o.un,ZM o.len (Nat.add_le_add_left (ZM (Nat.le_of_lt h) hn) _)⟩
theorem nT {α : Type}{x y : α}{l:List α}{k:Nat}(h:y∈l.take k++[x]++l.drop k):y=x∨y∈l:=by
 simp only [ZU,List.mem_append,List.mem_singleton] at h
 rcases h with h|h|h
 ·exact .inr (List.mem_of_mem_take h)
 ·exact .inl h
 ·exact .inr (List.mem_of_mem_drop h)
theorem Ca {α : Type}{R : α → α → Prop}(sym:∀ a b,R a b→R b a){x : α}{l:List α}(k:Nat)(h:l.Pairwise R)(hx:∀ y∈l,R x y):(l.take k++[x]++l.drop k).Pairwise R:=by
 have hl:(l.take k++l.drop k).Pairwise R:=by rw [List.take_append_drop];exact h
 rw [List.pairwise_append] at hl
 obtain⟨h1,h2,h3⟩:=hl
 rw [ZU,List.pairwise_append]
 refine⟨h1,?_,fun a ha b hb => ?_⟩
 ·rw [List.singleton_append,List.pairwise_cons]
  exact⟨fun y hy=>hx y (List.mem_of_mem_drop hy),h2⟩
 ·rcases YS hb with hb|hb
  ·simp at hb;subst hb;exact sym _ _ (hx a (List.mem_of_mem_take ha))
  ·exact h3 a ha b hb
theorem zM (T:List Tie)(x:Tie)(k i:Nat):bz (T.take k++[x]++T.drop k) i=bz T i + wOf i x:=by
 have:bz T i=bz (T.take k) i + bz (T.drop k) i:=by
  unfold bz
  rw [← List.sum_append,← ZR,List.take_append_drop]
 rw [this]
 simp only [bz,ZR,List.sum_append,XC,List.map_nil,List.sum_cons,List.sum_nil]
 omega
theorem TOk.put {n one other:Nat}{T:List Tie}(o:TOk n one other T)(h1:one < n)(h2:other < one){w:Int}(w1:1≤w)(w2:w≤400){t:Tie}(ht:t=⟨one,other,w⟩ ∨t=⟨other,one,w⟩)(k:Nat):TOk n one (other + 1) (T.take k++[t]++T.drop k) where
 ne:=fun s hs=>by
  rcases nT hs with rfl|hs
  ·rcases ht with e|e<;>subst e
   ·exact Nat.ne_of_gt h2
   ·exact ZN h2
  ·exact o.ne s hs
 lt:=fun s hs=>by
  rcases nT hs with rfl|hs
  ·rcases ht with e|e<;>subst e
   ·exact⟨h1,Nat.lt_trans h2 h1⟩
   ·exact⟨Nat.lt_trans h2 h1,h1⟩
  ·exact o.lt s hs
 wt:=fun s hs=>by
  rcases nT hs with rfl|hs
  ·rcases ht with e|e<;>subst e<;>exact⟨w1,w2⟩
  ·exact o.wt s hs
 be:=fun s hs=>by
  rcases nT hs with rfl|hs
  ·rcases ht with e|e<;>subst e
   ·exact .inr (.inl ⟨rfl,Nat.lt_succ_self _⟩)
   ·exact .inr (.inr ⟨rfl,Nat.lt_succ_self _⟩)
  ·exact o.skip.be s hs
 un:=Ca (fun _ _=>dE.symm) k o.un fun s hs=>by
  have hb:=o.be s hs
  rcases ht with e|e<;>subst e<;>rcases hb with hb|hb|hb
  ·exact⟨fun z=>Nat.ne_of_gt hb.1 z.1,fun z=>Nat.ne_of_gt hb.2 z.1⟩
  ·exact⟨fun z=>Nat.ne_of_gt hb.2 z.2,fun z=>Nat.ne_of_gt (Nat.lt_trans hb.2 h2) z.1⟩
  ·exact⟨fun z=>Nat.ne_of_gt (Nat.lt_trans hb.2 h2) z.1,fun z=>Nat.ne_of_gt hb.2 z.2⟩
  ·exact⟨fun z=>Nat.ne_of_gt hb.2 z.2,fun z=>Nat.ne_of_gt hb.1 z.2⟩
  ·exact⟨fun z=>Nat.ne_of_gt (Nat.lt_trans hb.2 h2) z.2,fun z=>Nat.ne_of_gt hb.2 z.1⟩
  ·exact⟨fun z=>Nat.ne_of_gt hb.2 z.1,fun z=>Nat.ne_of_gt (Nat.lt_trans hb.2 h2) z.2⟩
 len:=by
  have e:(T.take k).length + (T.drop k).length=T.length:=by rw [← ZB,List.take_append_drop]
  rw [ZB,ZB,List.length_singleton,Nat.add_right_comm,e]
  exact Nat.succ_le_succ o.len
end Fm
namespace Fm
def wZ (p:Int × Int):D:=.tup [.int p.1,.int p.2]
theorem zN {n one i:Nat}(h1:one < n)(h2:i < one){T:List Tie}{tt:Tie}{w:Int}(ht:tt=⟨one,i,w⟩ ∨tt=⟨i,one,w⟩)(k:Nat) :
  (List.range n).map (bz (T.take k++[tt]++T.drop k))=(((List.range n).map (bz T)).set one (bz T one + w)).set i (bz T i + w):=by
 apply List.ext_getElem?
 intro j
 have wj:wOf j tt=if j=one∨j=i then w else 0:=by
  rcases ht with e|e<;>subst e<;>simp only [wOf]
  ·by_cases a:one=j<;>by_cases b:i=j<;>simp [a,b,eq_comm]<;>omega
  ·by_cases a:one=j<;>by_cases b:i=j<;>simp [a,b,eq_comm]<;>omega
 by_cases hj:j < n
 ·rw [ZQ,List.getElem?_range hj,Option.map_some,zM,wj]
  by_cases e1:i=j
  ·subst e1
   rw [List.getElem?_set_self (by simp;omega)]
   simp
  ·rw [ZP e1]
   by_cases e2:one=j
   ·subst e2
    rw [List.getElem?_set_self (by simp;omega)]
    simp
   ·rw [ZP e2,ZQ,List.getElem?_range hj]
    have : ¬ (j=one∨j=i):=by omega
    simp [this]
 ·rw [List.getElem?_eq_none (by simp;omega),List.getElem?_eq_none (by simp;omega)]
structure PH (n i:Nat) (T:List Tie) (bs:List (Int × Int)) (ss:YB) (h:Hd):Prop where
 ti:h[1]? = some (.lst (T.map aL))
 ba:h[2]? = some (.lst (bs.map wZ))
 st:h[3]? = some (.lst (ss.map bj))
 to:h[4]? = some (.lst (((List.range n).map (bz T)).map .int))
 len:h.length=5 + i
 lb:bs.length=i
 ls:ss.length=i
 os:∀ x∈ss,x=none∨x=some 0∨x=some 1
theorem ne5 {j:Nat}(k:Nat)(h:j < 5):5 + k≠j:=by omega
theorem PH.keep {n i k:Nat}{T:List Tie}{bs:List (Int × Int)}{ss:YB}{g:Hd}(P:PH n i T bs ss g)(cc:cP):PH n i T bs ss (g.set (5 + k) cc) :=
 ⟨(ZP (ne5 k (by decide))).trans P.ti,(ZP (ne5 k (by decide))).trans P.ba,(ZP (ne5 k (by decide))).trans P.st,(ZP (ne5 k (by decide))).trans P.to,by rw [List.length_set];exact P.len,P.lb,P.ls,P.os⟩
theorem dF {h:Hd}{n:Nat}{c t m:Int}{b:Bool}(hn:h[n]? = some (.lst [.int c,.int t,.bl b]))(hm:0 < m)(hm2:m≤100000) :
  ∃ v c' t',aK [.ref n,.int m] h=.ok (.int v) (h.set n (.lst [.int c',.int t',.bl b]))∧0≤v∧v < m:=pk hn hm (Int.lt_of_le_of_lt hm2 (by decide))
theorem eP {g:Hd}{k:Nat}{c:cP}(cc:cP)(h:g[k]? = some c):(g.set k cc)[k]? = some cc:=List.getElem?_set_self (YO h).1
theorem nU {j n:Nat}(h:j < n):ixN n (j:Int)=some j:=by simp [ixN,h]
noncomputable abbrev XP (lit:D) (hd:Option D) (n thin one:Nat) (a b:Option D):Sd:=[some lit,hd,some (.int n),some (.int thin),some (.ref 1),some (.ref 2),some (.ref 3),some (.ref 4),some (.int one),some (.ref (5 + one)),a,b]
abbrev SC (c t:Int) (b:Bool):cP:=.lst [.int c,.int t,.bl b]
inductive PI (lit:D) (hd:Option D) (n thin one:Nat) (bs:List (Int × Int)) (ss:YB) (m:Bool):Nat→Sd→Hd→Prop
 | mk {i:Nat} {h:Hd} {T:List Tie} {a b:Option D} {c t:Int} (P:PH n (one + 1) T bs ss h) (O:TOk n one i T) (hs:h[5 + one]? = some (SC c t m)):PI lit hd n thin one bs ss m i (XP lit hd n thin one a b) h
theorem IY {w v mo:Int}(hw:w=1 + v)(h0:0≤v)(h1:v < mo)(h2:mo≤400):1≤w∧w≤400:=by omega
theorem few {l one n i:Nat}(h:l≤30 * one + i)(h1:one < n)(hn:n≤30)(hi:i < one):l < 1000:=by omega
theorem IZ {l:Nat}(h:l < 1000):(l:Int) + 1≤100000:=by omega
theorem w4 {n one i thin:Nat}{lit:D}(h1:one < n)(hn:n≤30)(hi:i < one){T:List Tie}{bs:List (Int × Int)}{ss:YB}{h0:Hd}{hd b:Option D}{c c1 t t1:Int}{m:Bool}(P:PH n (one + 1) T bs ss h0)(O:TOk n one i T)(hs:h0[5 + one]? = some (SC c t m))
  (d1:aK [.ref (5 + one),.int thin] h0=.ok (.int 0) (h0.set (5 + one) (SC c1 t1 m))) :
  ∃ σ' h',gS (XP lit hd n thin one (some (.int i)) b) h0=.nx σ' h'∧PI lit hd n thin one bs ss m (i + 1) σ' h':=by
 have g1:=eP (SC c1 t1 m) hs
 obtain⟨v2,c2,t2,d2,v20,v21⟩:=dF (m:=2) g1 (by decide) (by decide)
 rw [List.set_set] at d2
 have g2:=eP (SC c2 t2 m) hs
 obtain⟨mo,hmo,pm⟩:=qY D.int [3,99] v20 v21
 have pm:atI [D.int 3,.int 99] v2=some (.int mo):=pm
 have mo1:0 < mo∧mo≤400:=by
  rcases YQ hmo with rfl|hmo
  ·decide
  ·rw [YV hmo];decide
 obtain⟨v3,c3,t3,d3,v30,v31⟩:=dF (m:=mo) g2 mo1.1 (Int.le_trans mo1.2 (by decide))
 rw [List.set_set] at d3
 have g3:=eP (SC c3 t3 m) hs
 obtain⟨w,hw⟩ : ∃ w,w=1 + v3:=⟨_,rfl⟩
 have w12:1≤w∧w≤400:=IY hw v30 v31 mo1.2
 have lT:T.length < 1000:=few O.len h1 hn hi
 obtain⟨v4,c4,t4,d4,v40,v41⟩:=dF (m:=((T.map aL).length:Int) + 1) g3 (Int.lt_add_one_of_le (Int.natCast_nonneg _)) (IZ (by rw [ZA];exact lT))
 rw [List.set_set] at d4
 obtain⟨h4,hh4⟩ : ∃ h4,h4=h0.set (5 + one) (SC c4 t4 m):=⟨_,rfl⟩
 have P4:=P.keep (k:=one) (SC c4 t4 m)
 have g4:=eP (SC c4 t4 m) hs
 rw [← hh4] at d4 P4 g4
 obtain⟨tt,htt,pt⟩ : ∃ tt:Tie,(tt=⟨one,i,w⟩ ∨tt=⟨i,one,w⟩)∧atI [D.tup [.int one,.int i,.int w],.tup [.int i,.int one,.int w]] (w % 2)=some (aL tt):=by
  obtain⟨tt,h1,h2⟩:=qY aL [⟨one,i,w⟩,⟨i,one,w⟩] (x:=w % 2) (Int.emod_nonneg _ (by decide)) (Int.emod_lt_of_pos w (by decide))
  exact⟨tt,(YQ h1).imp id YV,h2⟩
 obtain⟨T2,hT2⟩ : ∃ T2,T2=T.take v4.toNat++[tt]++T.drop v4.toNat:=⟨_,rfl⟩
 have O2:TOk n one (i + 1) T2:=by rw [hT2];exact O.put h1 hi w12.1 w12.2 htt _
 have t5:h4[4]? = some (.lst (((List.range n).map (bz T)).map .int)):=P4.to
 have P3:=P.keep (k:=one) (SC c3 t3 m)
 have iT:(T.map aL).take v4.toNat++[aL tt]++(T.map aL).drop v4.toNat=T2.map aL:=by rw [hT2,ZR,ZR,List.map_take,List.map_drop];rfl
 have t5:(h4.set 1 (.lst (T2.map aL)))[4]? = some (.lst (((List.range n).map (bz T)).map .int)):=(ZP (by decide)).trans P4.to
 have ln:((List.range n).map (bz T)).length=n:=by rw [ZA,ZO]
 have t6:=eP (.lst ((((List.range n).map (bz T)).set one (bz T one + w)).map .int)) t5
 have e4:((h4.set 1 (.lst (T2.map aL))).set 4 (.lst ((((List.range n).map (bz T)).set one (bz T one + w)).map .int))).set 4 (.lst (((((List.range n).map (bz T)).set one (bz T one + w)).map .int).set i (.int (bz T i + w))))=(h4.set 1 (.lst (T2.map aL))).set 4 (.lst (((List.range n).map (bz T2)).map .int)):=by
  rw [List.set_set,hT2,zN h1 hi htt,List.map_set,List.map_set,List.map_set]
 have ne:∀ {k:Nat},1≠k→4≠k→((h4.set 1 (.lst (T2.map aL))).set 4 (.lst (((List.range n).map (bz T2)).map .int)))[k]? = h4[k]? := fun a b=>(ZP b).trans (ZP a)
 refine⟨XP lit hd n thin one (some (.int i)) (some (.int w)),(h4.set 1 (.lst (T2.map aL))).set 4 (.lst (((List.range n).map (bz T2)).map .int)),Eq.trans (mL (bh (av (ao (a7 rfl rfl) d1) rfl rfl))) ?_,.mk ⟨(ZP (by decide)).trans (eP _ P4.ti),(ne (by decide) (by decide)).trans P4.ba,(ne (by decide) (by decide)).trans P4.st,eP _ t5,by rw [List.length_set,List.length_set];exact P4.len,P.lb,P.ls,P.os⟩ O2 ((ne (ne5 one (by decide)).symm (ne5 one (by decide)).symm).trans g4)⟩
 refine sx (az (Eq.trans (av rfl (ao (a7 rfl (o5 (a7 rfl rfl) (ao (a7 rfl rfl) d2) pm)) d3) rfl) (congrArg (fun x=>Res.ok (D.int x) _) hw.symm))) ?_
 refine sx (Eq.trans (dn (Gh rfl P3.ti (ao (a7 rfl (av (ff (cR rfl (bd P3.ti))) rfl rfl)) d4) (o5 (a7 (cE (ak rfl (a7 rfl rfl))) (cE (ak rfl (a7 rfl rfl)))) (av rfl rfl (hU (by decide))) pt) P4.ti ⟨v40,Int.le_of_lt_add_one v41,by rw [ZA];exact Nat.lt_trans lT (by decide)⟩)) (congrArg (fun l=>Out.nx _ (h4.set 1 (.lst l))) iT)) ?_
 refine sx (Eq.trans (kE (av (aH rfl rfl (bd t5) (cu (by rw [ZQ,ZQ,List.getElem?_range h1];rfl))) rfl rfl) rfl rfl t5 (nU (by rw [ZA,ln];exact h1))) (congrArg (fun l=>Out.nx _ ((h4.set 1 (.lst (T2.map aL))).set 4 (.lst l))) List.map_set.symm)) ?_
 exact Eq.trans (kE (av (aH rfl rfl (bd t6) (cu (by rw [ZQ,ZP (Nat.ne_of_gt hi),ZQ,List.getElem?_range (Nat.lt_trans hi h1)];rfl))) rfl rfl) rfl rfl t6 (nU (by rw [ZA,List.length_set,ln];exact Nat.lt_trans hi h1))) (congrArg (Out.nx _) e4)
theorem sR {n one thin:Nat}{lit:D}(h1:one < n)(hn:n≤30)(ht:1≤thin∧thin≤5){T:List Tie}{bs:List (Int × Int)}{ss:YB}{h:Hd}{hd a b:Option D}{c t:Int}{m:Bool}(P:PH n (one + 1) T bs ss h)(O:TOk n one 0 T)(hs:h[5 + one]? = some (SC c t m)) :
  ∃ σ' h',iD none ((List.range one).map fun k:Nat=>D.int k) (gN 10) gS ((List.range one).map fun k:Nat=>D.int k) (XP lit hd n thin one a b) h=.nx σ' h'∧PI lit hd n thin one bs ss m one σ' h':=by
 have z:=de (P:=PI lit hd n thin one bs ss m)
  (g:=none) (k:=0) (all:=(List.range one).map fun k:Nat=>D.int k) (fun _ _ _ _=>trivial) (xs:=(List.range one).map fun k:Nat=>D.int k) (tg:=gN 10) (b:=gS)
  (σ:=XP lit hd n thin one a b) (h:=h) (by
   intro i x σ h0 hx z
   obtain⟨hi,rfl⟩:=dL hx
   rw [Nat.zero_add] at z ⊢
   obtain⟨P,O,hs⟩:=z
   refine⟨_,rfl,?_⟩
   obtain⟨v1,c1,t1,d1,-,-⟩:=dF (m:=thin) hs (Int.natCast_pos.mpr ht.1) (Int.le_trans (Int.ofNat_le.mpr ht.2) (by decide))
   by_cases e:v1=0
   ·rw [e] at d1
    exact w4 h1 hn hi P O hs d1
   ·exact⟨_,_,dw (bh (av (ao (ak rfl (ak rfl rfl)) d1) rfl (kF e))),.mk (P.keep _) O.skip (eP _ hs)⟩) (.mk P O hs)
 rwa [Nat.zero_add,ZA,ZO] at z
end Fm
namespace Fm
noncomputable abbrev XQ (lit:D) (hd:Option D) (n thin:Nat) (a b c d:Option D):Sd:=[some lit,hd,some (.int n),some (.int thin),some (.ref 1),some (.ref 2),some (.ref 3),some (.ref 4),a,b,c,d]
theorem DS {u:Option Int}(h:u∈[none,none,none,some 0,some 1]):u=none∨u=some 0∨u=some 1:=by
 simp at h;exact h
inductive PO (ns:YF) (hd:Option D) (n thin:Nat):Nat→Sd→Hd→Prop
 | mk {i:Nat} {h:Hd} {a b c d:Option D} {T:List Tie} {bs:List (Int × Int)} {ss:YB} (P:PH n i T bs ss h) (O:TOk n i 0 T):PO ns hd n thin i (XQ (.lit (ns.map .int)) hd n thin a b c d) h
theorem u4 {n i thin:Nat}{ns:YF}{hd b c d:Option D}(hi:i < n)(hn:n≤30)(ht:1≤thin∧thin≤5){T:List Tie}{bs:List (Int × Int)}{ss:YB}{h0:Hd}(P:PH n i T bs ss h0)(O:TOk n i 0 T) :
  ∃ σ' h',gU (XQ (.lit (ns.map .int)) hd n thin (some (.int i)) b c d) h0=.nx σ' h'∧PO ns hd n thin (i + 1) σ' h':=by
 obtain⟨c0,m,q0⟩:=jF ns (1 + i) h0
 rw [P.len] at q0
 obtain⟨h1,hh1⟩ : ∃ h1,h1=h0++[SC c0 0 m]:=⟨_,rfl⟩
 have g1:h1[5 + i]? = some (SC c0 0 m):=by rw [hh1,← P.len];exact ZG
 have L1:h1.length=5 + i + 1:=by rw [hh1,ZB,P.len];rfl
 have old:∀ {j:Nat} {cc:cP},h0[j]? = some cc→h1[j]? = some cc:=fun e=>by rw [hh1];exact ef _ e
 obtain⟨v1,c1,t1,d1,v10,v11⟩:=dF (m:=5) g1 (by decide) (by decide)
 obtain⟨u,hu,pu⟩:=qY bj [none,none,none,some 0,some 1] v10 v11
 have pu:atI [D.non,.non,.non,.int 0,.int 1] v1=some (bj u):=pu
 have lss:(ss.map bj).length < SZ:=by rw [ZA,P.ls];exact Nat.lt_trans hi (ZS hn (by decide))
 have lbs:(bs.map wZ).length < SZ:=by rw [ZA,P.lb];exact Nat.lt_trans hi (ZS hn (by decide))
 have a2:(h1.set (5 + i) (SC c1 t1 m))[3]? = some (.lst (ss.map bj)):=(ZP (ne5 i (by decide))).trans (old P.st)
 obtain⟨h2,hh2⟩ : ∃ h2,h2=(h1.set (5 + i) (SC c1 t1 m)).set 3 (.lst (ss.map bj++[bj u])):=⟨_,rfl⟩
 have g2:h2[5 + i]? = some (SC c1 t1 m):=by rw [hh2];exact (ZP (ne5 i (by decide)).symm).trans (eP _ g1)
 obtain⟨v2,c2,t2,d2,v20,v21⟩:=dF (m:=5) g2 (by decide) (by decide)
 obtain⟨v3,c3,t3,d3,v30,v31⟩:=dF (m:=200) (eP (SC c2 t2 m) g2) (by decide) (by decide)
 rw [List.set_set] at d3
 have ne2:∀ {j:Nat} {cc:cP},j < 5→3≠j→h1[j]? = some cc→h2[j]? = some cc:=fun a b e=>by rw [hh2];exact (ZP b).trans ((ZP (ne5 i a)).trans e)
 have a3:(h2.set (5 + i) (SC c3 t3 m))[2]? = some (.lst (bs.map wZ)):=(ZP (ne5 i (by decide))).trans (ne2 (by decide) (by decide) (old P.ba))
 obtain⟨h4,hh4⟩ : ∃ h4,h4=(h2.set (5 + i) (SC c3 t3 m)).set 2 (.lst (bs.map wZ++[wZ (v2,v3)])):=⟨_,rfl⟩
 have ne4:∀ {j:Nat} {cc:cP},j < 5→2≠j→h2[j]? = some cc→h4[j]? = some cc:=fun a b e=>by rw [hh4];exact (ZP b).trans ((ZP (ne5 i a)).trans e)
 have P4:PH n (i + 1) T (bs++[(v2,v3)]) (ss++[u]) h4:=by
  refine⟨ne4 (by decide) (by decide) (ne2 (by decide) (by decide) (old P.ti)),?_,?_,ne4 (by decide) (by decide) (ne2 (by decide) (by decide) (old P.to)),?_,by rw [ZB,P.lb];rfl,by rw [ZB,P.ls];rfl,fun y hy => ?_⟩
  ·rw [hh4,ZR];exact eP _ a3
  ·refine ne4 (by decide) (by decide) ?_
   rw [hh2,ZR];exact eP _ a2
  ·rw [hh4,List.length_set,List.length_set,hh2,List.length_set,List.length_set,L1];rfl
  ·rcases YS hy with hy|hy
   ·exact P.os y hy
   ·rw [YV hy]
    exact DS hu
 have g4:h4[5 + i]? = some (SC c3 t3 m):=by rw [hh4];exact (ZP (ne5 i (by decide)).symm).trans (eP _ g2)
 obtain⟨_,h5,q1,⟨q2,q3,-⟩⟩:=sR (lit:=.lit (ns.map .int)) (hd:=hd) (a:=c) (b:=d) hi hn ht P4 O g4
 exact⟨_,h5,sx (az ((ao (a7 rfl rfl) q0).trans (congrArg (Res.ok _) hh1.symm))) (sx ((dn (jB rfl (old P.st) (o5 (ak rfl (ak rfl (ak rfl (a7 rfl rfl)))) (ao (a7 rfl rfl) d1) pu) a2 lss)).trans (congrArg (Out.nx _) hh2.symm)) (sx ((dn (jB rfl (ne2 (by decide) (by decide) (old P.ba)) (cE (a7 (ao (a7 rfl rfl) d2) (ao (a7 rfl rfl) d3))) a3 lbs)).trans (congrArg (Out.nx _) hh4.symm)) (gD (dB rfl (ZM (Nat.le_of_lt hi) (ZM hn (by decide)))) q1))),.mk q2 (q3.step hi hn)⟩
theorem sS {n thin:Nat}{ns:YF}{hd:Option D}(hn:n≤30)(ht:1≤thin∧thin≤5){h:Hd}(P:PH n 0 [] [] [] h) :
  ∃ σ' h',iD none ((List.range n).map fun k:Nat=>D.int k) (gN 8) gU ((List.range n).map fun k:Nat=>D.int k)
   (XQ (.lit (ns.map .int)) hd n thin none none none none) h=.nx σ' h'∧PO ns hd n thin n σ' h':=by
 have z:=de (P:=PO ns hd n thin)
  (g:=none) (k:=0) (all:=(List.range n).map fun k:Nat=>D.int k) (fun _ _ _ _=>trivial) (xs:=(List.range n).map fun k:Nat=>D.int k) (tg:=gN 8) (b:=gU)
  (σ:=XQ (.lit (ns.map .int)) hd n thin none none none none) (h:=h) (by
   intro i x σ h0 hx z
   obtain⟨hi,rfl⟩:=dL hx
   rw [Nat.zero_add] at z ⊢
   obtain⟨P,O⟩:=z
   exact⟨_,rfl,u4 hi hn ht P O⟩) (.mk P ⟨by simp,by simp,by simp,by simp,.nil,by simp⟩)
 rwa [Nat.zero_add,ZA,ZO] at z
theorem Ja {v mo:Int}(h0:0≤v)(h1:v < mo)(h2:mo≤30):∃ n:Nat,(n:Int)=1 + v∧1≤n∧n≤30:=⟨(1 + v).toNat,by omega⟩
theorem Ig (n:Nat):(List.replicate n [D.int 0]).flatten=((List.range n).map (bz [])).map D.int:=by
 have l1:(List.replicate n [D.int 0]).flatten=List.replicate n (D.int 0):=by
  induction n with
  | zero=>rfl
  | succ n ih=>rw [List.replicate_succ,List.replicate_succ,List.flatten_cons,ih];rfl
 rw [l1]
 apply List.ext_getElem?
 intro i
 by_cases hi:i < n<;>simp [hi,bz]
theorem u5 (i:Nat):∀ l:List Tie,(∀ t∈l,1≤t.w∧t.w≤400)→0≤bz l i
 | [],_=>Int.le_refl _
 | t :: l,hl=>by
  have h2:=u5 i l fun s hs=>hl s (ZW _ hs)
  refine Int.add_nonneg ?_ h2
  unfold wOf
  split
  ·exact Int.le_trans (by decide) (hl t ZV).1
  ·exact Int.le_refl _
theorem yH:∀ ds:List D,(∀ d∈ds,∃ v:Int,d=.int v) → ∃ bs:YF,ds=bs.map D.int
 | [],_=>⟨[],rfl⟩
 | d :: ds,h=>by
  obtain⟨v,hv⟩:=h d ZV
  obtain⟨bs,hb⟩:=yH ds fun x hx=>h x (ZW _ hx)
  exact⟨v :: bs,by rw [hv,hb];rfl⟩
structure Gr (ns:YF) (n:Nat) (T:List Tie) (bs:YF) (ss:YB) (h:Hd):Prop where
 run:iJ [.lit (ns.map .int)] []=.ok (.tup [.int n,.ref 1,.ref (5 + n),.ref 3,.ref 4]) h
 n1:1≤n
 n30:n≤30
 ok:TOk n n 0 T
 ti:h[1]? = some (.lst (T.map aL))
 ba:h[5 + n]? = some (.lst (bs.map .int))
 st:h[3]? = some (.lst (ss.map bj))
 to:h[4]? = some (.lst (((List.range n).map (bz T)).map .int))
 len:h.length=6 + n
 lb:bs.length=n
 ls:ss.length=n
 os:∀ x∈ss,x=none∨x=some 0∨x=some 1
theorem zO (ns:YF):∃ n T bs ss h,Gr ns n T bs ss h:=by
 obtain⟨c0,m,q0⟩:=jF ns 0 []
 have q0:cK [.lit (ns.map .int),.int 0] []=.ok (.ref 0) [.lst [.int c0,.int 0,.bl m]]:=q0
 obtain⟨v1,c1,t1,d1,-,-⟩:=dF (h:=[SC c0 0 m]) (n:=0) (m:=2) rfl (by decide) (by decide)
 obtain⟨v2,c2,t2,d2,v20,v21⟩:=dF (h:=[SC c1 t1 m]) (n:=0) (m:=3) rfl (by decide) (by decide)
 obtain⟨mo,hmo,pm⟩:=qY D.int [4,8,16] v20 v21
 have pm:atI [D.int 4,.int 8,.int 16] v2=some (.int mo):=pm
 have mo1:0 < mo∧mo≤30:=by simp at hmo;rcases hmo with rfl|rfl|rfl<;>decide
 obtain⟨v3,c3,t3,d3,v30,v31⟩:=dF (h:=[SC c2 t2 m]) (n:=0) (m:=mo) rfl mo1.1 (Int.le_trans mo1.2 (by decide))
 obtain⟨v4,c4,t4,d4,v40,v41⟩:=dF (h:=[SC c3 t3 m]) (n:=0) (m:=3) rfl (by decide) (by decide)
 obtain⟨th,hth,pth⟩:=qY D.int [1,2,5] v40 v41
 have pth:atI [D.int 1,.int 2,.int 5] v4=some (.int th):=pth
 obtain⟨thin,hthin,th1⟩ : ∃ thin:Nat,(thin:Int)=th∧1≤thin∧thin≤5:=by
  simp at hth
  rcases hth with rfl|rfl|rfl
  ·exact⟨1,rfl,by decide⟩
  ·exact⟨2,rfl,by decide⟩
  ·exact⟨5,rfl,by decide⟩
 obtain⟨n,hn,n1,n30⟩:=Ja v30 v31 mo1.2
 obtain⟨h8,hh8⟩ : ∃ h8:Hd,h8=[.lst [.int c4,.int t4,.bl m],.lst [],.lst [],.lst [],.lst (((List.range n).map (bz [])).map .int)]:=⟨_,rfl⟩
 have P0:PH n 0 [] [] [] h8:=⟨by rw [hh8];rfl,by rw [hh8];rfl,by rw [hh8];rfl,by rw [hh8];rfl,by rw [hh8];rfl,rfl,rfl,by simp⟩
 obtain⟨_,h9,k9,@⟨_,a,b,c,d,T,bp,ss,P9,O9⟩⟩:=sS (ns:=ns) (hd:=some (.ref 0)) n30 th1 P0
 have tn:∀ i,0≤bz T i:=fun i=>u5 i T O9.wt
 obtain⟨ds,h10,k10,l10,v10,σ10,q10,hh10⟩:=kD (g:=none) (all:=(List.range n).map fun k:Nat=>D.int k) (tg:=gN 0) (xs:=(List.range n).map fun k:Nat=>D.int k) (k:=0)
  (e:=au fx (af (fAt (fAt (ae 2) (ae 0)) (fC (.int 0))) (af (fAt (fAt (ae 2) (ae 0)) (fC (.int 1))) (af (fAt (ae 1) (ae 0)) ar)))) (σ:=[none,some (.ref 4),some (.ref 2)]) (h:=h9)
  (P:=fun i σ h=>(∃ a,σ = [a,some (.ref 4),some (.ref 2)])∧h=h9) (V:=fun i d=>∃ v:Int,d=.int v) (fun _ _ _ _=>trivial) (by
   rintro i x σ h0 hx ⟨⟨a,rfl⟩,rfl⟩
   obtain⟨hi,rfl⟩:=dL hx
   have hb:i < bp.length:=by rw [P9.lb];exact hi
   have e1:atI (bp.map wZ) (i:Int)=some (wZ bp[i]):=iK hb
   have e2:atI (((List.range n).map (bz T)).map D.int) (i:Int)=some (.int (bz T i)):=cu (by rw [ZQ,ZQ,List.getElem?_range hi];rfl)
   obtain⟨v,hv⟩:=Gq bp[i].1 bp[i].2 (bz T i) (tn i) h0
   refine⟨_,rfl,.int v,h0,?_,⟨v,rfl⟩,⟨_,rfl⟩,rfl⟩
   exact ao (ak (aH (aH rfl rfl (bd P9.ba) e1) rfl rfl rfl) (ak (aH (aH rfl rfl (bd P9.ba) e1) rfl rfl rfl) (ak (aH rfl rfl (bd P9.to) e2) rfl))) hv) ⟨⟨_,rfl⟩,rfl⟩
 subst hh10
 simp only [ZA,ZO] at l10
 obtain⟨bs,hbs⟩:=yH ds fun d hd=>by obtain⟨i,hi⟩:=List.getElem?_of_mem hd;exact v10 i d hi
 subst hbs
 simp only [ZA] at l10
 have L9:=P9.len
 refine⟨n,T,bs,ss,h10++[.lst (bs.map .int)],?_,n1,n30,O9,?_,?_,?_,?_,by rw [ZB,L9];exact Nat.add_right_comm 5 n 1,l10,P9.ls,P9.os⟩
 ·have e8:(List.replicate ((n:Int)).toNat [D.int 0]).flatten=((List.range n).map (bz [])).map .int:=by rw [Int.toNat_natCast];exact Ig n
  have z30:n≤SZ:=ZM n30 (by decide)
  rw [hh8] at k9
  refine Eq.trans (b7 (σ:=[some (.lit (ns.map .int)),none,none,none,none,none,none,none,none,none,none,none]) rfl rfl ?_) (mK rfl)
  refine sx (az (ao (a7 rfl rfl) q0)) (sx (dn (ao (a7 rfl rfl) d1)) ?_)
  refine sx (az (Eq.trans (av rfl (ao (a7 rfl (o5 (ak rfl (a7 rfl rfl)) (ao (a7 rfl rfl) d2) pm)) d3) rfl) (congrArg (fun x=>Res.ok (D.int x) [SC c3 t3 m]) hn.symm))) ?_
  refine sx (az (Eq.trans (o5 (ak rfl (a7 rfl rfl)) (ao (a7 rfl rfl) d4) pth) (congrArg (fun x=>Res.ok (D.int x) [SC c4 t4 m]) hthin.symm))) ?_
  refine sx (az (gC (xs:=[]) rfl)) (sx (az (gC (xs:=[]) rfl)) (sx (az (gC (xs:=[]) rfl)) ?_))
  refine sx (az (Eq.trans (gC (Gi (l:=[.int 0]) rfl rfl ⟨Int.natCast_nonneg n,Int.le_trans (Int.ofNat_le.mpr n30) (by decide),by rw [Int.toNat_natCast];exact ZM (Nat.le_of_eq (Nat.one_mul n)) (ZM n30 (by decide))⟩) (by rw [e8,ZA,ZA,ZO];exact z30)) (congrArg (fun l=>Res.ok (D.ref 4) [SC c4 t4 m,.lst [],.lst [],.lst [],.lst l]) e8))) ?_
  refine sx (gD (dB rfl (ZM n30 (by decide))) k9) ?_
  refine sx (az (Eq.trans (gC (dZ (dB rfl (ZM n30 (by decide))) k10) (by rw [ZA,l10];exact z30)) (congrArg (fun x=>Res.ok (D.ref x) (h10++[.lst (bs.map .int)])) L9))) ?_
  exact bx (cE (ak rfl (ak rfl (ak rfl (a7 rfl rfl)))))
 ·exact ef _ P9.ti
 ·rw [← L9];exact ZG
 ·exact ef _ P9.st
 ·exact ef _ P9.to
end Fm
namespace Fm
theorem fj {α : Type}{f : α → D}:∀ {l:List α},(∀ x∈l,pure? (f x)=true)→io (l.map f)=true
 | [],_=>rfl
 | x :: l,h=>by
  simp only [XC,io,Bool.and_eq_true]
  exact⟨h x (by simp),fj fun y hy=>h y (by simp [hy])⟩
theorem jG (w:Web):pure? w.enc=true:=by
 have h1:∀ r:YC,pure? (jA r)=true:=fun r=>by
  unfold jA
  simp only [pure?]
  exact fj fun p _=>rfl
 have h2:io (w.ties.map jA)=true:=fj fun r _=>h1 r
 have h3:io (w.bars.map D.int)=true:=fj fun r _=>rfl
 have h4:io (w.stays.map bj)=true:=fj fun r _=>by cases r<;>rfl
 unfold Web.enc
 simp only [pure?,io,h2,h3,h4]
 rfl
def lQ (p:Nat × Int):YF:=[(p.1:Int),p.2]
def mM (x:Nat × Int):YC→YC
 | []=>[x]
 | y :: r=>if bw (lQ x) (lQ y)=true then x :: y :: r else y :: mM x r
def ca:YC→YC
 | []=>[]
 | x :: r=>mM x (ca r)
theorem u6 (x:Nat × Int):∀ r,(mM x r).map lQ=sB (lQ x) (r.map lQ)
 | []=>rfl
 | y :: r=>by
  simp only [mM,sB,XC]
  split
  ·rfl
  ·simp [u6 x r]
theorem qZ:∀ r,(ca r).map lQ=bN (r.map lQ)
 | []=>rfl
 | x :: r=>by simp only [ca,bN,XC,u6,qZ r]
theorem pv {x p:Nat × Int}:∀ {r},p∈mM x r ↔ p=x∨p∈r
 | []=>by simp [mM]
 | y :: r=>by
  simp only [mM]
  split
  ·simp
  ·simp only [List.mem_cons,pv (r:=r)]
   constructor
   ·rintro (h|h|h)
    ·exact .inr (.inl h)
    ·exact .inl h
    ·exact .inr (.inr h)
   ·rintro (h|h|h)
    ·exact .inr (.inl h)
    ·exact .inl h
    ·exact .inr (.inr h)
theorem dM {p:Nat × Int}:∀ {r},p∈ca r ↔ p∈r
 | []=>by simp [ca]
 | x :: r=>by simp only [ca,pv,dM (r:=r),List.mem_cons]
theorem u7 (f:Nat × Int→Int)(x:Nat × Int):∀ r,((mM x r).map f).sum=f x + (r.map f).sum
 | []=>by simp [mM]
 | y :: r=>by
  simp only [mM]
  split
  ·simp
  ·simp [u7 f x r];omega
theorem iw (f:Nat × Int→Int):∀ r,((ca r).map f).sum=(r.map f).sum
 | []=>rfl
 | x :: r=>by simp [ca,u7,iw f r]
def nbs (T:List Tie) (i:Nat):YC:=T.filterMap fun t=>(far i t).map fun j=>(j,t.w)
def nE (p:Nat × Int):Int × D:=((p.1:Int),.int p.2)
theorem Cb (T:List Tie)(t:Tie)(i:Nat):nbs (T++[t]) i=nbs T i++(match far i t with|some j=>[(j,t.w)] | none=>[]):=by
 unfold nbs
 rw [List.filterMap_append]
 congr 1
 cases e:far i t<;>simp [e]
theorem zP {l:YC}{k:Nat}(h:∀ p∈l,p.1≠k):oC (l.map nE) k=none:=by
 unfold oC
 rw [List.find?_eq_none.mpr]
 ·rfl
 ·intro x hx
  obtain⟨p,hp,rfl⟩:=YR hx
  have hne:=h p hp
  have : ¬ ((p.1:Int)=(k:Int)):=fun z=>hne (by omega)
  show ¬ (decide ((p.1:Int)=(k:Int))=true)
  rw [decide_eq_true_eq]
  exact this
theorem va {l:YC}{k:Nat}{v:Int}(h:∀ p∈l,p.1≠k):ww (l.map nE) k (.int v)=(l++[(k,v)]).map nE:=by
 unfold ww
 rw [if_neg]
 ·simp [nE]
 ·simp only [List.any_eq_true,List.mem_map,decide_eq_true_eq]
  rintro⟨x,⟨p,hp,rfl⟩,e⟩
  have hne:=h p hp
  have e:(p.1:Int)=(k:Int):=e
  exact hne (by omega)
theorem vb {i j:Nat}{t:Tie}(h:far i t=some j):(t.a=i∧t.b=j)∨(t.b=i∧t.a=j):=by
 unfold far at h
 by_cases a:t.a=i
 ·rw [if_pos a] at h;exact .inl ⟨a,ZT h⟩
 ·rw [if_neg a] at h
  by_cases b:t.b=i
  ·rw [if_pos b] at h;exact .inr ⟨b,ZT h⟩
  ·rw [if_neg b] at h;cases h
theorem w5 {T:List Tie}{t:Tie}{i j:Nat}(hf:far i t=some j)(un:∀ s∈T,dE s t):∀ p∈nbs T i,p.1≠j:=fun p hp e=>by
 obtain⟨s,hs,q⟩:=List.mem_filterMap.mp hp
 obtain⟨k,hk,rfl⟩:=Option.map_eq_some_iff.mp q
 have u:=un s hs
 rw [show k=j from e] at hk
 rcases vb hf with ⟨a1,a2⟩|⟨a1,a2⟩<;>rcases vb hk with ⟨b1,b2⟩|⟨b1,b2⟩
 ·exact u.1 ⟨b1.trans a1.symm,b2.trans a2.symm⟩
 ·exact u.2 ⟨b2.trans a2.symm,b1.trans a1.symm⟩
 ·exact u.2 ⟨b1.trans a1.symm,b2.trans a2.symm⟩
 ·exact u.1 ⟨b2.trans a2.symm,b1.trans a1.symm⟩
theorem zQ {n:Nat}{t:Tie}(h1:t.a≠t.b)(h2:t.a < n)(h3:t.b < n)(h4:1≤t.w∧t.w≤400)(h:Hd):lP [.int n,aL t] h=.ok (.bl true) h:=by
 have e1:(t.a:Int)≤n - 1:=Int.le_sub_one_of_lt (Int.ofNat_lt.mpr h2)
 have e2:(t.b:Int)≤n - 1:=Int.le_sub_one_of_lt (Int.ofNat_lt.mpr h3)
 have e3 : ¬ (t.a:Int)=t.b:=fun z=>h1 (Int.ofNat.inj z)
 have bt:∀ {i a b:Int},a≤i→i≤b→a9 [.int i,.int a,.int b] h=.ok (.bl true) h:=fun x y=>by rw [dC,YZ x,YZ y];rfl
 exact Eq.trans (b7 (σ:=[some (.int n),some (aL t),none,none]) rfl rfl (sx (dw (lK (ee (b:=true) (bh rfl)) (bh (av (ff (cR rfl rfl)) rfl rfl)))) (sx (az (aH rfl rfl rfl rfl)) (sx (az (aH rfl rfl rfl rfl)) (sx (dw (lK (ee (b:=true) (bh (ao (ak rfl (ak rfl (ak (av rfl rfl rfl) rfl))) (bt (Int.natCast_nonneg _) e1)))) (ee (b:=true) (bh (ao (ak rfl (ak rfl (ak (av rfl rfl rfl) rfl))) (bt (Int.natCast_nonneg _) e2)))))) (bx (o8 (o6 (bh (av rfl rfl (by rw [wV,XB e3];rfl))) (bh (ao (ak (aH rfl rfl rfl rfl) (ak rfl (ak rfl rfl))) (bt h4.1 h4.2))))))))))) bo
structure NH (n A:Nat) (h0:Hd) (T:List Tie) (h:Hd):Prop where
 pre:∃ g,h=h0++g∧g.length=n + 1
 dc:∀ j,j < n→h[A + j]? = some (.dct ((nbs T j).map nE))
 rf:h[A + n]? = some (.lst ((List.range n).map fun i=>.ref (A + i)))
theorem NH.put {n A:Nat}{h0:Hd}{T:List Tie}{h:Hd}(hA:A=h0.length)(N:NH n A h0 T h){j:Nat}(hj:j < n)(c:cP):(∃ g,h.set (A + j) c=h0++g∧g.length=n + 1)∧(h.set (A + j) c)[A + j]? = some c∧(∀ k,k≠j→(h.set (A + j) c)[A + k]? = h[A + k]?):=by
 obtain⟨g,e,l⟩:=N.pre
 have lt:=(YO (N.dc j hj)).1
 exact⟨⟨g.set j c,by rw [e,iI hA],by rw [List.length_set];exact l⟩,List.getElem?_set_self lt,fun k hk=>ZP fun z=>hk (Nat.add_left_cancel z).symm⟩
theorem Cc {n i j:Nat}{T:List Tie}(hn:n≤30)(O:TOk n n 0 T):((nbs (T.take i) j).map nE).length < SZ:=by
 rw [ZA]
 exact ZS (ZM (List.length_filterMap_le _ _) (ZM (List.length_take_le' _ _) (ZM O.len (Nat.add_le_add_right (Nat.mul_le_mul_left 30 hn) 0)))) (by decide)
noncomputable abbrev XN (n tk A:Nat) (a b c:Option D):Sd:=[some (.int n),some (.ref tk),some (.ref (A + n)),a,b,c]
theorem DT {n A tk i:Nat}(hn:n≤30){T:List Tie}(O:TOk n n 0 T){h h0:Hd}(hA:A=h.length)(N:NH n A h (T.take i) h0){t:Tie}(mt:t∈T)(un:∀ s∈T.take i,dE s t)(tk1:T.take (i + 1)=T.take i++[t])(b c:Option D) :
  ∃ h6,hV (XN n tk A (some (aL t)) b c) h0=.nx (XN n tk A (some (aL t)) (some (.int t.a)) (some (.int t.b))) h6∧NH n A h (T.take (i + 1)) h6:=by
 have tne:=O.ne t mt
 have tlt:=O.lt t mt
 have fa:far t.a t=some t.b:=if_pos rfl
 have fb:far t.b t=some t.a:=(if_neg tne).trans (if_pos rfl)
 have na:=w5 fa un
 have nb:=w5 fb un
 have rat:∀ j:Nat,j < n→atI ((List.range n).map fun i=>D.ref (A + i)) (j:Int)=some (.ref (A + j)):=fun j hj=>cu (by rw [ZQ,List.getElem?_range hj];rfl)
 have ra:=rat t.a tlt.1
 have rb:=rat t.b tlt.2
 have da:=N.dc t.a tlt.1
 obtain⟨p1,p2,p3⟩:=N.put hA tlt.1 (.dct ((nbs (T.take i) t.a++[(t.b,t.w)]).map nE))
 obtain⟨h5,hh5⟩ : ∃ h5,h5=h0.set (A + t.a) (.dct ((nbs (T.take i) t.a++[(t.b,t.w)]).map nE)):=⟨_,rfl⟩
 rw [← hh5] at p1 p2 p3
 have rf5:h5[A + n]? = some (.lst ((List.range n).map fun i=>.ref (A + i))):=(p3 n (Nat.ne_of_gt tlt.1)).trans N.rf
 have db:h5[A + t.b]? = some (.dct ((nbs (T.take i) t.b).map nE)):=(p3 t.b (Ne.symm tne)).trans (N.dc t.b tlt.2)
 obtain⟨h6,hh6⟩ : ∃ h6,h6=h5.set (A + t.b) (.dct ((nbs (T.take i) t.b++[(t.a,t.w)]).map nE)):=⟨_,rfl⟩
 refine⟨h6,sx (dw (ee (bh (ao (ak rfl (ak rfl rfl)) (zQ tne tlt.1 tlt.2 (O.wt t mt) h0))))) (sx (az (aH rfl rfl rfl rfl)) (sx (az (aH rfl rfl rfl rfl)) (sx (dw (bh (av rfl (aH rfl rfl (bd N.rf) ra) (by rw [Gj da,zP na];rfl)))) (sx (h':=h5) (by
  rw [hh5,← va na]
  exact yC (aH rfl rfl rfl rfl) (aH rfl rfl (bd N.rf) ra) rfl da (Cc hn O)) (by
  rw [hh6,← va nb]
  exact yC (aH rfl rfl rfl rfl) (aH rfl rfl (bd rf5) rb) rfl db (Cc hn O)))))),?_,fun j hj => ?_,?_⟩
 ·obtain⟨g,e,l⟩:=p1
  exact⟨_,by rw [hh6,e,iI hA],by rw [List.length_set];exact l⟩
 ·rw [tk1,Cb]
  by_cases e1:t.b=j
  ·subst e1
   rw [hh6,eP _ db,fb]
  ·rw [hh6,ZP (fun z=>e1 (Nat.add_left_cancel z))]
   by_cases e2:t.a=j
   ·subst e2
    rw [p2,fa]
   ·have:far j t=none:=(if_neg e2).trans (if_neg e1)
    rw [p3 j (Ne.symm e2),this,N.dc j hj]
    simp only [List.append_nil]
 ·rw [hh6];exact (ZP (fun z=>ZN tlt.2 (Nat.add_left_cancel z))).trans rf5
theorem zR {n:Nat}{h:Hd}{A:Nat}(hA:A=h.length):∃ h1 g,bS none ((List.range n).map fun k:Nat=>D.int k) (gN 0) [] yh ((List.range n).map fun k:Nat=>D.int k) [none] h=.ok ((List.range n).map fun i=>.ref (A + i)) h1∧h1=h++g∧g.length=n ∧ ∀ j,j < n→h1[A + j]? = some (.dct []):=by
 obtain⟨ds,h1,k1,l1,v1,σ1,-,g,hg,lg,g1⟩:=kD (g:=none) (all:=(List.range n).map fun k:Nat=>D.int k) (tg:=gN 0) (xs:=(List.range n).map fun k:Nat=>D.int k) (k:=0)
  (e:=yh) (σ:=[none]) (h:=h)
  (P:=fun i σ h'=>(∃ a,σ = [a]) ∧ ∃ g,h'=h++g∧g.length=i ∧ ∀ j,j < i→h'[A + j]? = some (.dct [])) (V:=fun i d=>d=.ref (A + i)) (fun _ _ _ _=>trivial) (by
   rintro i x σ h0 hx ⟨⟨a,rfl⟩,g,e0,lg,e1⟩
   obtain⟨hi,rfl⟩:=dL hx
   rw [Nat.zero_add] at lg e1 ⊢
   have hl:h0.length=A + i:=by rw [e0,ZB,lg,hA]
   refine⟨_,rfl,.ref h0.length,h0++[.dct []],rfl,by rw [hl],⟨_,rfl⟩,g++[.dct []],by rw [e0,ZU],by rw [ZB,lg];rfl,fun j hj => ?_⟩
   by_cases hji:j < i
   ·exact ef _ (e1 j hji)
   ·rw [Nat.le_antisymm (Nat.le_of_lt_succ hj) (Nat.not_lt.mp hji),← hl];exact ZG) ⟨⟨_,rfl⟩,[],(List.append_nil _).symm,rfl,fun j hj=>absurd hj (Nat.not_lt_zero _)⟩
 rw [ZA,ZO] at l1
 rw [Nat.zero_add,ZA,ZO] at lg g1
 have e1:ds=(List.range n).map fun i=>.ref (A + i):=wR l1 fun i d hd=>by have:=v1 i d hd;rwa [Nat.zero_add] at this
 exact⟨h1,g,by rw [k1,e1],hg,lg,g1⟩
inductive NI (n A tk:Nat) (h:Hd) (T:List Tie):Nat→Sd→Hd→Prop
 | mk {i:Nat} {h':Hd} {a b c:Option D} (N:NH n A h (T.take i) h'):NI n A tk h T i (XN n tk A a b c) h'
theorem p0 {n:Nat}(hn1:1≤n)(hn:n≤30){T:List Tie}(O:TOk n n 0 T){h:Hd}{tk:Nat}(ht:h[tk]? = some (.lst (T.map aL))) :
  ∃ h',f6 [.int n,.ref tk] h=.ok (.ref (h.length + n)) h'∧NH n h.length h T h':=by
 obtain⟨A,hA⟩ : ∃ A,A=h.length:=⟨_,rfl⟩
 rw [← hA]
 obtain⟨h1,g,k1,hg,lg,g1⟩:=zR (n:=n) hA
 obtain⟨h2,hh2⟩ : ∃ h2,h2=h1++[.lst ((List.range n).map fun i=>.ref (A + i))]:=⟨_,rfl⟩
 have l1':h1.length=A + n:=by rw [hg,ZB,lg,hA]
 have N0:NH n A h [] h2:=⟨⟨g++[.lst ((List.range n).map fun i=>.ref (A + i))],by rw [hh2,hg,ZU],by rw [ZB,lg];rfl⟩,fun j hj=>by rw [hh2];exact ef _ (g1 j hj),by rw [hh2,← l1'];exact ZG⟩
 obtain⟨_,h3,k3,@⟨_,a3,b3,c3,N3⟩⟩:=de (P:=NI n A tk h T) (g:=some tk) (k:=0)
   (all:=T.map aL) (fun _ _ h' q=>by
    obtain⟨N⟩:=q
    obtain⟨g,e,_⟩:=N.pre
    show h'[tk]? = _
    rw [e];exact ef _ ht)
   (xs:=T.map aL) (tg:=gN 3) (σ:=XN n tk A none none none) (h:=h2) (b:=hV) (by
   intro i x σ h0 hx z
   rw [Nat.zero_add] at z ⊢
   obtain @⟨_,a,b,c,N⟩:=z
   have hiT:i < T.length:=by have:=(YO hx).1;rwa [ZA] at this
   rw [ZQ,ZE hiT] at hx
   cases hx
   have mt:T[i]∈T:=XE hiT
   have un:∀ s∈T.take i,dE s T[i]:=fun s hs=>by
    obtain⟨k,hk,rfl⟩:=List.getElem_of_mem hs
    rw [List.length_take] at hk
    rw [List.getElem_take]
    exact List.pairwise_iff_getElem.mp O.un k i _ hiT (Nat.lt_of_lt_of_le hk (Nat.min_le_left _ _))
   obtain⟨h6,q6,N6⟩:=DT (tk:=tk) hn O hA N mt un (List.take_succ_eq_append_getElem hiT) b c
   exact⟨_,rfl,_,h6,q6,.mk N6⟩) (.mk N0)
 rw [Nat.zero_add,ZA,List.take_length] at N3
 refine⟨h3,Eq.trans (b7 (σ:=[some (.int n),some (.ref tk),none,none,none,none]) rfl rfl (sx (dw (ee (bh (wT rfl ht)))) (sx (σ':=[some (.int n),some (.ref tk),some (.ref (A + n)),none,none,none]) (h':=h2) (by
  rw [hh2,← l1']
  exact az (gC (dZ (dB rfl (ZM hn (by decide))) k1) (by rw [ZA,ZO];exact ZM hn (by decide)))) (sx (gD (fY rfl (by rw [hh2,hg];exact ef _ (ef _ ht))) k3) (bx rfl))))) (by simp [letGo,pure?]),N3⟩
end Fm
namespace Fm
theorem DU (a b:Int)(h:Hd):oNe (.int a) (.int b) h=.ok (.bl (!decide (a=b))) h:=rfl
theorem w6 {l:List Nat}{n:Nat}(nd:l.Nodup)(h:∀ x∈l,x < n):l.length≤n:=by
 induction n generalizing l with
 | zero=>match l,h with
  | [],_=>exact ZL _
  | x :: _,h=>exact absurd (h x ZV) (Nat.not_lt_zero _)
 | succ n ih =>
  by_cases m:n∈l
  ·have:=ih (nd.erase n) fun x hx=>by
    have z:=(List.Nodup.mem_erase_iff nd).mp hx
    exact Nat.lt_of_le_of_ne (Nat.le_of_lt_succ (h x z.2)) z.1
   rw [List.length_erase_of_mem m] at this
   exact Nat.le_add_of_sub_le this
  ·exact Nat.le_succ_of_le (ih nd fun x hx=>Nat.lt_of_le_of_ne (Nat.le_of_lt_succ (h x hx)) fun z=>m (z ▸ hx))
def aJ (n:Nat) (T:List Tie) (bs:YF) (ss:YB):Web:=⟨(List.range n).map fun i=>ca (nbs T i),bs,ss⟩
theorem lU:∀ l:YC,eN (l.map nE)=some (l.map lQ)
 | []=>rfl
 | p :: l=>by
  have ih:=lU l
  simp only [XC]
  show (eN (l.map nE)).map _=_
  rw [ih]
  rfl
theorem kH {T:List Tie}(un:T.Pairwise dE)(i:Nat):((nbs T i).map (·.1)).Nodup:=by
 unfold nbs
 induction T with
 | nil=>simp
 | cons t T ih =>
  obtain⟨h1,h2⟩:=List.pairwise_cons.mp un
  have ih:=ih h2
  cases e:far i t with
  | none=>simp only [List.filterMap_cons,e,Option.map_none];exact ih
  | some j =>
   simp only [List.filterMap_cons,e,Option.map_some,XC,List.nodup_cons]
   refine⟨fun z => ?_,ih⟩
   obtain⟨p,hp,hpj⟩:=YR z
   exact w5 (T:=T) e (fun s hs=>(h1 s hs).symm) p hp hpj
theorem DV {l:YC}(nd:(l.map (·.1)).Nodup):(l.map lQ).Nodup:=by
 rw [List.nodup_iff_pairwise_ne,List.pairwise_map] at nd ⊢
 exact nd.imp fun {a b} h e=>h (by have:=(List.cons.inj e).1;omega)
theorem q8 {α : Type}{l:List α}:jk (l.map fun _=>D.bl true)=some (l.map fun _=>true):=by
 induction l with
 | nil=>rfl
 | cons x l ih=>simp [jk,ih]
theorem sT {n:Nat}{h:Hd}{nk bk:Nat}{l:List D}{bs:YF}(hn:h[nk]? = some (.lst l))(hl:l.length=n)(hb:h[bk]? = some (.lst (bs.map .int)))(lb:bs.length=n):gQ [.ref nk,.ref bk] h=.ok (.tup (bs.map .int)) h:=by
 have c:bS (some bk) (bs.map D.int) (gN 0) [] (au cS (af (ae 0) ar)) (bs.map D.int) [none] h=.ok ((bs.map D.int).map fun _=>D.bl true) h:=by
  have:=b6 (g:=some bk) (all:=bs.map D.int) (tg:=gN 0) (cs:=[]) (e:=au cS (af (ae 0) ar)) (h:=h) (I:=fun σ=>∃ a,σ = [a]) (fun _=>true) (fun _=>.bl true) hb (xs:=bs.map D.int) (σ:=[none]) (by
   rintro x hx σ ⟨a,rfl⟩
   obtain⟨i,_,rfl⟩:=YR hx
   exact⟨_,rfl,⟨_,rfl⟩,rfl,fun _=>ao (ak rfl rfl) (lO _ _)⟩) ⟨_,rfl⟩
  rw [this,List.filter_eq_self.mpr (by simp)]
 have al:((bs.map D.int).map fun _=>true).all id=true:=by simp
 exact Eq.trans (b7 (σ:=[some (.ref nk),some (.ref bk)]) rfl rfl (sx (dw (bh (av rfl rfl rfl))) (sx (dw (lK (ee (b:=true) (bh (wT rfl hb))) (bh (av (ff (cR rfl (bd hb))) (ff (cR rfl (bd hn))) (by rw [DU,ZA,lb,hl,YZ rfl];rfl))))) (sx (dw (ee (b:=true) (bh (Eq.trans (B7 (dZ (fY rfl hb) c) q8) (by rw [al]))))) (bx (lM (cR rfl (bd hb)))))))) bo
theorem p6 {n:Nat}{h:Hd}{sk:Nat}{ss:YB}(hs:h[sk]? = some (.lst (ss.map bj)))(ls:ss.length=n)(os:∀ x∈ss,x=none∨x=some 0∨x=some 1):f7 [.int n,.ref sk] h=.ok (.tup (ss.map bj)) h:=by
 have c:bS (some sk) (ss.map bj) (gN 0) [] (fT (tOr (tE (aw oh (ae 0) (fC .non))) (tE (au bX (af (ae 0) ar))))) (ss.map bj) [none] h=.ok ((ss.map bj).map fun _=>D.bl true) h:=by
  have:=b6 (g:=some sk) (all:=ss.map bj) (tg:=gN 0) (cs:=[]) (e:=fT (tOr (tE (aw oh (ae 0) (fC .non))) (tE (au bX (af (ae 0) ar))))) (h:=h) (I:=fun σ=>∃ a,σ = [a]) (fun _=>true) (fun _=>.bl true) hs (xs:=ss.map bj) (σ:=[none]) (by
   rintro x hx σ ⟨a,rfl⟩
   obtain⟨i,hi,rfl⟩:=YR hx
   refine⟨_,rfl,⟨_,rfl⟩,rfl,fun _ => ?_⟩
   rcases os i hi with e|e|e<;>subst e
   ·exact o8 (BZ (bh (av rfl rfl rfl)))
   ·exact o8 (lK (bh (av rfl rfl rfl)) (bh (ao (ak rfl rfl) (gE 0 h))))
   ·exact o8 (lK (bh (av rfl rfl rfl)) (bh (ao (ak rfl rfl) (gE 1 h))))) ⟨_,rfl⟩
  rw [this,List.filter_eq_self.mpr (by simp)]
 exact Eq.trans (b7 (σ:=[some (.int n),some (.ref sk)]) rfl rfl (sx (dw (bh (av rfl rfl rfl))) (sx (dw (lK (ee (b:=true) (bh (wT rfl hs))) (bh (av (ff (cR rfl (bd hs))) rfl (by rw [DU,ZA,ls,YZ rfl];rfl))))) (sx (dw (ee (b:=true) (bh (Eq.trans (B7 (dZ (fY rfl hs) c) q8) (by rw [List.all_map];simp))))) (bx (lM (cR rfl (bd hs)))))))) bo
theorem DW {n A:Nat}(hn:n≤30){T:List Tie}(O:TOk n n 0 T){h h1:Hd}(N:NH n A h T h1) :
  bS (some (A + n)) ((List.range n).map fun i=>.ref (A + i)) (gN 0) [] (gq (mF (ae 0))) ((List.range n).map fun i=>.ref (A + i)) [none] h1=.ok (((List.range n).map fun i=>ca (nbs T i)).map jA) h1:=by
 have:=b6 (g:=some (A + n)) (all:=(List.range n).map fun i=>.ref (A + i)) (tg:=gN 0) (cs:=[]) (e:=gq (mF (ae 0))) (h:=h1) (I:=fun σ=>∃ a,σ = [a]) (fun _=>true)
  (fun d=>match d with | .ref k=>jA (ca (nbs T (k - A)))|_=>.non) N.rf (xs:=(List.range n).map fun i=>.ref (A + i)) (σ:=[none]) (by
   rintro x hx σ ⟨a,rfl⟩
   obtain⟨i,hi,rfl⟩:=YR hx
   have hi:=YT hi
   refine⟨_,rfl,⟨_,rfl⟩,rfl,fun _ => ?_⟩
   have nd:=kH O.un i
   have l64:((nbs T i).map lQ).length < 64:=by
    have lt:∀ p∈nbs T i,p.1 < n:=fun p hp=>by
     unfold nbs at hp
     obtain⟨t,ht',q⟩:=List.mem_filterMap.mp hp
     have:=O.lt t ht'
     unfold far at q
     by_cases a1:t.a=i
     ·rw [if_pos a1] at q;simp at q;subst q;exact this.2
     ·rw [if_neg a1] at q
      by_cases a2:t.b=i
      ·rw [if_pos a2] at q;simp at q;subst q;exact this.1
      ·rw [if_neg a2] at q;cases q
    have:=w6 nd (n:=n) (fun x hx=>by
     obtain⟨p,hp,rfl⟩:=YR hx
     exact lt p hp)
    simp at this ⊢
    omega
   have e:((bN ((nbs T i).map lQ)).map kx)=(ca (nbs T i)).map fO:=by rw [← qZ,List.map_map];rfl
   simp only [List.set_cons_zero,gq,mF,ae,slot,List.getElem?_cons_zero,aA,N.dc i hi,lU,if_pos (And.intro l64 (DV nd)),e,jA,Nat.add_sub_cancel_left]) ⟨_,rfl⟩
 rw [this,List.filter_eq_self.mpr (by simp),List.map_map,List.map_map]
 congr 1
 apply List.map_congr_left
 intro i _
 simp
theorem iy {n:Nat}(hn1:1≤n)(hn:n≤30){T:List Tie}(O:TOk n n 0 T){bs:YF}{ss:YB}(lb:bs.length=n)(ls:ss.length=n)(os:∀ x∈ss,x=none∨x=some 0∨x=some 1){h:Hd}{tk bk sk:Nat}
  (ht:h[tk]? = some (.lst (T.map aL))) (hb:h[bk]? = some (.lst (bs.map .int))) (hs:h[sk]? = some (.lst (ss.map bj))):cx [.int n,.ref tk,.ref bk,.ref sk] h=.ok (aJ n T bs ss).enc h:=by
 obtain⟨h1,r1,N⟩:=p0 hn1 hn O ht
 obtain⟨A,hA⟩ : ∃ A,A=h.length:=⟨_,rfl⟩
 rw [← hA] at r1 N
 obtain⟨g,hg,lg⟩:=N.pre
 have old:∀ {k:Nat} {c:cP},h[k]? = some c→h1[k]? = some c:=fun {k c} e=>by rw [hg,ZC (YO e).1];exact e
 have comp:=DW hn O N
 have bt:=sT (n:=n) (l:=(List.range n).map fun i=>.ref (A + i)) N.rf (by simp) (old hb) lb
 have stt:=p6 (n:=n) (old hs) ls os
 have i1:(1:Int)≤n:=Int.ofNat_le.mpr hn1
 have i2:(n:Int)≤30:=Int.ofNat_le.mpr hn
 have rf:=N.rf
 refine Eq.trans (b7 (σ:=[some (.int n),some (.ref tk),some (.ref bk),some (.ref sk),none,none]) rfl rfl (sx (dw (ee (b:=true) (bh (ao (ak rfl (ak rfl (ak rfl rfl))) (by rw [dC,YZ i1,YZ i2];rfl))))) (sx (az (ao (ak rfl (ak rfl rfl)) r1)) (sx (az (lM (dZ (fY rfl rf) comp))) (bx (cE (ak rfl (ak (ao (ak rfl (ak rfl rfl)) bt) (ak (ao (ak rfl (ak rfl rfl)) stt) rfl))) (by exact of_decide_eq_true rfl))))))) ?_
 show letGo h (.ok (aJ n T bs ss).enc h1)=_
 rw [hg]
 exact cD (jG _)
end Fm
namespace Fm
theorem kI (s:YF):∀ r:YC,bq r s=(r.map fun p=>if s.getD p.1 0=1 then p.2 else 0).sum
 | []=>rfl
 | p :: r=>by
  have ih:=kI s r
  simp only [bq,j4,List.filter_cons,XC,List.sum_cons] at ih ⊢
  by_cases e:s.getD p.1 0=1
  ·simp only [e,decide_true,if_true,XC,List.sum_cons];rw [ih]
  ·simp only [e,decide_false,if_false,Bool.false_eq_true];rw [ih];omega
theorem vc (s:YF)(r:YC):bq (ca r) s=bq r s:=by rw [kI,kI,iw]
theorem pA {n:Nat}{T:List Tie}(lt:∀ t∈T,t.a < n∧t.b < n){i:Nat}:∀ p∈nbs T i,p.1 < n:=fun p hp=>by
 unfold nbs at hp
 obtain⟨t,ht',q⟩:=List.mem_filterMap.mp hp
 have:=lt t ht'
 unfold far at q
 by_cases a1:t.a=i
 ·rw [if_pos a1] at q;simp at q;subst q;exact this.2
 ·rw [if_neg a1] at q
  by_cases a2:t.b=i
  ·rw [if_pos a2] at q;simp at q;subst q;exact this.1
  ·rw [if_neg a2] at q;cases q
theorem fF {n:Nat}(hn:n≤30){T:List Tie}(O:TOk n n 0 T){bs:YF}{ss:YB}(lb:bs.length=n)(ls:ss.length=n):(aJ n T bs ss).Ok n:=by
 refine⟨by simp [aJ],lb,ls,fun r hr p hp => ?_,by omega⟩
 obtain⟨i,_,rfl⟩:=YR hr
 exact pA O.lt p (dM.mp hp)
structure fP (n:Nat) (T:List Tie) (bs:YF) (ss:YB) (tk bk sk:Nat) (h:Hd):Prop where
 ti:h[tk]? = some (.lst (T.map aL))
 ba:h[bk]? = some (.lst (bs.map .int))
 st:h[sk]? = some (.lst (ss.map bj))
theorem fP.more {n:Nat}{T:List Tie}{bs:YF}{ss:YB}{tk bk sk:Nat}{h:Hd}(t:fP n T bs ss tk bk sk h)(g:Hd):fP n T bs ss tk bk sk (h++g):=by
 have k:∀ {i:Nat} {x:cP},h[i]? = some x→(h++g)[i]? = some x:=fun {i x} e=>by
  rw [ZC (YO e).1];exact e
 exact⟨k t.ti,k t.ba,k t.st⟩
theorem fk {α : Type}{f : α → D}(h:∀ x,peq (f x) (f x)=some true):∀ l:List α,fW (l.map f) (l.map f)=some true
 | []=>rfl
 | x :: l=>by simp [fW,h x,fk h l]
theorem eB {α : Type}{f : α → D}{k:Nat}(h:∀ x,dep (f x)≤k):∀ l:List α,mj (l.map f)≤k
 | []=>Nat.zero_le _
 | x :: l=>by simp only [XC,mj];exact Nat.max_le.mpr ⟨h x,eB h l⟩
theorem yI (w:Web):peq w.enc w.enc=some true∧dep w.enc≤20:=by
 have p1:∀ p:Nat × Int,peq (fO p) (fO p)=some true:=fun p=>by simp [fO,peq,fW]
 have p2:∀ r:YC,peq (jA r) (jA r)=some true:=fun r=>by simp [jA,peq,fk p1 r]
 have p3:∀ x:Option Int,peq (bj x) (bj x)=some true:=fun x=>by cases x<;>simp [bj,peq]
 have p4:∀ x:Int,peq (.int x) (.int x)=some true:=fun x=>by simp [peq]
 have d1:∀ p:Nat × Int,dep (fO p)≤1:=fun p=>by simp [fO,dep,mj]
 have d2:∀ r:YC,dep (jA r)≤2:=fun r=>by have:=eB d1 r;simp [jA,dep];omega
 have d3:∀ x:Option Int,dep (bj x)≤0:=fun x=>by cases x<;>simp [bj,dep]
 have d4:∀ x:Int,dep (.int x)≤0:=fun x=>by simp [dep]
 have e1:=eB d2 w.ties
 have e2:=eB d4 w.bars
 have e3:=eB d3 w.stays
 constructor
 ·simp [Web.enc,peq,fW,fk p2 w.ties,fk p4 w.bars,fk p3 w.stays]
 ·simp only [Web.enc,dep,mj];omega
theorem Cd {d:D}(h1:peq d d=some true)(h2:dep d≤20)(h3:∀ g,gp g d=none)(g:Hd):oNe d d g=.ok (.bl false) g:=by
 unfold oNe eqG
 rw [h3]
 simp only [if_pos h2,h1]
 rfl
theorem DX (w:Web)(g:Hd):oNe w.enc w.enc g=.ok (.bl false) g:=Cd (yI w).1 (yI w).2 (fun _=>rfl) g
structure kJ (n:Nat) (ss:YB) (s:YF):Prop where
 len:s.length=n
 op:∀ x∈s,x=0∨x=1
 st:∀ (i:Nat) x,ss[i]? = some (some x)→s[i]? = some x
theorem kJ.fits {n:Nat}{ss:YB}{s:YF}(f:kJ n ss s)(T:List Tie)(bs:YF):eE (aJ n T bs ss) n s:=⟨f.len,f.op,f.st⟩
theorem zS (ns:YF)(k:Nat){n:Nat}(hn:n≤30){ss:YB}(ls:ss.length=n)(os:∀ x∈ss,x=none∨x=some 0∨x=some 1){h:Hd}{sk:Nat}(hs:h[sk]? = some (.lst (ss.map bj))) :
  ∃ s,j5 [.lit (ns.map .int),.int k,.ref sk] h=.ok (aE s) h∧kJ n ss s:=by
 obtain⟨A,hA⟩ : ∃ A,A=h.length:=⟨_,rfl⟩
 have hsk:sk < h.length:=(YO hs).1
 obtain⟨c0,m,q0⟩:=jF ns k h
 obtain⟨σ',h',k1,acc,a,b,c,t,k2,k3,k4,k5,k6⟩:=de (P:=fun i σ h'=>∃ (acc:YF) (a b:Option D) (c t:Int),σ = [some (.lit (ns.map .int)),some (.int k),some (.ref sk),some (.ref A),some (.ref (A + 1)),a,b]∧h'=h++[.lst [.int c,.int t,.bl m],.lst (acc.map .int)]∧acc.length=i∧(∀ x∈acc,x=0∨x=1) ∧ ∀ (j:Nat) x,j < i→ss[j]? = some (some x)→acc[j]? = some x) (g:=some sk) (k:=0)
   (all:=ss.map bj) (fun _ _ h' q=>by
    obtain⟨_,_,_,_,_,_,e,_⟩:=q
    show h'[sk]? = _
    rw [e,ZC hsk];exact hs)
   (xs:=ss.map bj) (tg:=gN 5) (σ:=[some (.lit (ns.map .int)),some (.int k),some (.ref sk),some (.ref A),some (.ref (A + 1)),none,none]) (h:=h++[.lst [.int c0,.int 0,.bl m],.lst []]) (b:=pf) (by
   rintro i x σ h0 hx ⟨acc,a,b,c,t,rfl,hh0,la,oa,sa⟩
   rw [Nat.zero_add] at la sa ⊢
   have hi:i < ss.length:=by have:=(YO hx).1;simpa using this
   obtain⟨u,hu⟩ : ∃ u,u=ss[i]:=⟨_,rfl⟩
   have hx':x=bj u:=by rw [hu];simpa [hi] using hx.symm
   subst hx'
   have hu':ss[i]? = some u:=by rw [hu];simp [hi]
   have mu:=os u (ZK hu')
   have gA:h0[A]? = some (.lst [.int c,.int t,.bl m]):=by rw [hh0,hA];simp
   obtain⟨v,c',t',dg,v0,v1⟩:=pk (m:=2) gA (by omega) (by simp)
   obtain⟨h1,hh1⟩ : ∃ h1,h1=h++[.lst [.int c',.int t',.bl m],.lst (acc.map .int)]:=⟨_,rfl⟩
   have e1:h0.set A (.lst [.int c',.int t',.bl m])=h1:=by rw [hh1,hh0,hA];simp
   rw [e1] at dg
   have g1:h1[A + 1]? = some (.lst (acc.map .int)):=by rw [hh1,hA,ZD (by omega)];simp
   have lz:(acc.map D.int).length < SZ:=by rw [ZA];exact ZS (show acc.length≤30 by omega) (by decide)
   obtain⟨y,hy⟩ : ∃ y,y=(match u with|some z=>z|none=>v):=⟨_,rfl⟩
   have yb:y=0∨y=1:=by
    cases u with
    | none=>simp only at hy;omega
    | some z=>simp only at hy;simp at mu;omega
   have set1:h1.set (A + 1) (.lst (acc.map .int++[.int y]))=h++[.lst [.int c',.int t',.bl m],.lst ((acc++[y]).map .int)]:=by
    rw [hh1,hA,List.set_append_right _ _ (by omega)];simp
   refine⟨_,rfl,[some (.lit (ns.map .int)),some (.int k),some (.ref sk),some (.ref A),some (.ref (A + 1)),some (bj u),some (.int y)],_,?_,acc++[y],_,_,c',t',rfl,rfl,by simp [la],fun z hz => ?_,fun j z hj e => ?_⟩
   ·subst hy
    cases u with
    | none=>exact sx (az (ao (a7 rfl rfl) dg)) (sx (dw (bh (av rfl rfl rfl))) ((dn (jB rfl g1 rfl g1 lz)).trans (congrArg (Out.nx _) set1)))
    | some z=>exact sx (az (ao (a7 rfl rfl) dg)) (sx ((mL (bh (av rfl rfl rfl))).trans (az rfl)) ((dn (jB rfl g1 rfl g1 lz)).trans (congrArg (Out.nx _) set1)))
   ·rcases YS hz with hz|hz
    ·exact oa z hz
    ·simp at hz;subst hz;exact yb
   ·by_cases ji:j < i
    ·rw [ZC (by omega)];exact sa j z ji e
    ·have:j=i:=by omega
     subst this
     rw [hu'] at e
     cases e
     rw [ZD (by omega),la]
     simp [hy]) ⟨[],none,none,c0,0,rfl,by simp,rfl,by simp,fun j _ hj=>by omega⟩
 have e0:0 + (ss.map bj).length=n:=by simp [ls]
 rw [e0] at k4 k6
 refine⟨acc,?_,⟨k4,k5,fun i x e=>k6 i x (by have:=(YO e).1;omega) e⟩⟩
 have gB:h'[A + 1]? = some (.lst (acc.map .int)):=by rw [k3,hA,ZD (by omega)];simp
 have hs1:(h++[cP.lst [.int c0,.int 0,.bl m],.lst []])[sk]? = some (.lst (ss.map bj)):=by rw [ZC hsk];exact hs
 rw [k2] at k1
 rw [← hA] at q0
 refine Eq.trans (b7 (σ:=[some (.lit (ns.map .int)),some (.int k),some (.ref sk),none,none,none,none]) rfl rfl (sx (az (ao (a7 rfl rfl) q0)) (sx (az (dY (g:=[.lst [.int c0,.int 0,.bl m]]) hA (xs:=[]) rfl (Nat.zero_le _))) (sx (gD (fY rfl hs1) k1) (bx (lM (cR rfl (bd gB)))))))) ?_
 rw [k3]
 exact cD (by simp only [pure?];exact fj fun _ _=>rfl)
end Fm
namespace Fm
theorem rc {x:Nat × Int}:∀ {r:YC},(∀ p∈r,p.1≠x.1)→r.Pairwise (fun a b=>a.1 < b.1)→(mM x r).Pairwise (fun a b=>a.1 < b.1)
 | [],_,_=>by simp [mM]
 | y :: r,hne,hp=>by
  obtain⟨h1,h2⟩:=List.pairwise_cons.mp hp
  have hy:=hne y (by simp)
  have ih:=rc (x:=x) (r:=r) (fun p hp=>hne p (by simp [hp])) h2
  have e:bw (lQ x) (lQ y)=decide (x.1 < y.1):=by
   simp only [lQ,bw]
   rw [if_neg (by omega)]
   simp
  simp only [mM]
  split
  ·rename_i c
   rw [e,decide_eq_true_eq] at c
   refine List.pairwise_cons.mpr ⟨fun b hb => ?_,hp⟩
   rcases YQ hb with z|hb
   ·rw [z];exact c
   ·exact Nat.lt_trans c (h1 b hb)
  ·rename_i c
   rw [e,decide_eq_true_eq] at c
   refine List.pairwise_cons.mpr ⟨fun b hb => ?_,ih⟩
   rcases pv.mp hb with z|hb
   ·rw [z];omega
   ·exact h1 b hb
theorem iL:∀ {r:YC},(r.map (·.1)).Nodup→(ca r).Pairwise (fun a b=>a.1 < b.1)
 | [],_=>by simp [ca]
 | x :: r,nd=>by
  rw [XC,List.nodup_cons] at nd
  refine rc (fun p hp e=>nd.1 ?_) (iL nd.2)
  rw [← e]
  exact List.mem_map.mpr ⟨p,dM.mp hp,rfl⟩
theorem yJ:∀ {a b:YC},a.Pairwise (fun a b=>a.1 < b.1)→b.Pairwise (fun a b=>a.1 < b.1)→(∀ p,p∈a ↔ p∈b)→a=b
 | [],[],_,_,_=>rfl
 | [],y :: b,_,_,h=>absurd ((h y).mpr (by simp)) (by simp)
 | x :: a,[],_,_,h=>absurd ((h x).mp (by simp)) (by simp)
 | x :: a,y :: b,ha,hb,h=>by
  obtain⟨a1,a2⟩:=List.pairwise_cons.mp ha
  obtain⟨b1,b2⟩:=List.pairwise_cons.mp hb
  have e:x=y:=by
   rcases YQ ((h x).mp (by simp)) with e|e
   ·exact e
   ·rcases YQ ((h y).mpr (by simp)) with e2|e2
    ·exact e2.symm
    ·have q1:=b1 x e
     have q2:=a1 y e2
     omega
  subst e
  have t:=yJ a2 b2 fun p=>⟨fun hp=>by
   rcases YQ ((h p).mp (by simp [hp])) with e|e
   ·subst e;exact absurd (a1 p hp) (Nat.lt_irrefl _)
   ·exact e,fun hp=>by
   rcases YQ ((h p).mpr (by simp [hp])) with e|e
   ·subst e;exact absurd (b1 p hp) (Nat.lt_irrefl _)
   ·exact e⟩
  rw [t]
theorem pB {a b:YC}(na:(a.map (·.1)).Nodup)(nb:(b.map (·.1)).Nodup)(h:∀ p,p∈a ↔ p∈b):ca a=ca b :=
 yJ (iL na) (iL nb) fun p=>by rw [dM,dM];exact h p
theorem fy {T:List Tie}{i:Nat}{p:Nat × Int}:p∈nbs T i ↔ ∃ t∈T,far i t=some p.1∧t.w=p.2:=by
 unfold nbs
 rw [List.mem_filterMap]
 constructor
 ·rintro⟨t,ht,q⟩
  cases e:far i t with
  | none=>rw [e] at q;cases q
  | some j=>rw [e] at q;simp at q;subst q;exact⟨t,ht,e,rfl⟩
 ·rintro⟨t,ht,q1,q2⟩
  exact⟨t,ht,by rw [q1,q2];rfl⟩
theorem Ce {t:Tie}(ne:t.a≠t.b){i j:Nat}(h:far i t=some j):far j t=some i:=by
 unfold far at h ⊢
 by_cases a1:t.a=i
 ·rw [if_pos a1] at h
  cases h
  rw [if_neg ne,if_pos rfl,a1]
 ·rw [if_neg a1] at h
  by_cases a2:t.b=i
  ·rw [if_pos a2] at h
   cases h
   rw [if_pos rfl,a2]
  ·rw [if_neg a2] at h;cases h
theorem vd {T:List Tie}(ne:∀ t∈T,t.a≠t.b){i j:Nat}{x:Int}(h:(j,x)∈nbs T i):(i,x)∈nbs T j:=by
 obtain⟨t,ht,q1,q2⟩:=fy.mp h
 exact fy.mpr ⟨t,ht,Ce (ne t ht) q1,q2⟩
theorem Gs {t:Tie}(ne:t.a≠t.b){i j:Nat}(h:far i t=some j):i≠j:=by
 unfold far at h
 by_cases a1:t.a=i
 ·rw [if_pos a1] at h;cases h;omega
 ·rw [if_neg a1] at h
  by_cases a2:t.b=i
  ·rw [if_pos a2] at h;cases h;omega
  ·rw [if_neg a2] at h;cases h
def fG (i:Nat) (r:YC):List Tie:=(r.filter fun p=>decide (i < p.1)).map fun p=>⟨i,p.1,p.2⟩
def fH (R:List (YC)):Nat→List Tie
 | 0=>[]
 | k + 1=>fH R k++fG k (R.getD k [])
theorem rg {i:Nat}{r:YC}{t:Tie}:t∈fG i r ↔ t.a=i∧i < t.b∧(t.b,t.w)∈r:=by
 unfold fG
 rw [List.mem_map]
 constructor
 ·rintro⟨p,hp,rfl⟩
  obtain⟨h1,h2⟩:=YU hp
  exact⟨rfl,by simpa using h2,h1⟩
 ·rintro⟨h1,h2,h3⟩
  exact⟨_,List.mem_filter.mpr ⟨h3,by simpa using h2⟩,by cases t;cases h1;rfl⟩
theorem j6 {R:List (YC)}{t:Tie}:∀ {k:Nat},t∈fH R k ↔ t.a < k∧t.a < t.b∧(t.b,t.w)∈R.getD t.a []
 | 0=>by simp [fH]
 | k + 1=>by
  rw [fH,List.mem_append,j6 (k:=k),rg]
  constructor
  ·rintro (⟨h1,h2,h3⟩|⟨h1,h2,h3⟩)
   ·exact⟨by omega,h2,h3⟩
   ·exact⟨by omega,by omega,by rw [h1];exact h3⟩
  ·rintro⟨h1,h2,h3⟩
   by_cases c:t.a < k
   ·exact .inl ⟨c,h2,h3⟩
   ·have:t.a=k:=by omega
    exact .inr ⟨this,by omega,by rw [← this];exact h3⟩
theorem ve {R:List (YC)}(nd:∀ i,((R.getD i []).map (·.1)).Nodup):∀ k,(fH R k).Pairwise dE
 | 0=>by simp [fH]
 | k + 1=>by
  rw [fH,List.pairwise_append]
  refine⟨ve nd k,?_,fun s hs t ht => ?_⟩
  ·unfold fG
   rw [List.pairwise_map]
   have n1:=nd k
   rw [List.nodup_iff_pairwise_ne,List.pairwise_map] at n1
   refine (n1.filter _).imp_of_mem fun {a b} ha hb h => ?_
   have a1:k < a.1:=by simpa using (YU ha).2
   exact⟨fun z=>h z.2,fun z=>by have:=z.2;simp at this;omega⟩
  ·obtain⟨h1,h2,_⟩:=j6.mp hs
   obtain⟨h3,h4,_⟩:=rg.mp ht
   exact⟨fun z=>by omega,fun z=>by omega⟩
theorem mN {R:List (YC)}(l:∀ i,(R.getD i []).length≤30):∀ k,(fH R k).length≤30 * k
 | 0=>by simp [fH]
 | k + 1=>by
  have ih:=mN l k
  have h1:(fG k (R.getD k [])).length≤(R.getD k []).length:=by unfold fG;rw [ZA];exact List.length_filter_le _ _
  have h2:=l k
  rw [fH,ZB]
  omega
theorem rj {n:Nat}{T:List Tie}{bs:YF}{ss:YB}{p:Nat}(h:p < n):(aJ n T bs ss).ties.getD p [] = ca (nbs T p):=by simp [aJ,List.getD,h]
theorem rk:∀ r:YC,(ca r).length=r.length:=fun r=>by
 have:=iw (fun _=>1) r
 have q:∀ l:YC,(l.map fun _=>(1:Int)).sum=l.length:=fun l=>by
  induction l with
  | nil=>rfl
  | cons x l ih=>simp only [XC,List.sum_cons,ih,List.length_cons];omega
 rw [q,q] at this
 omega
theorem yK {n:Nat}{T:List Tie}(lt:∀ t∈T,t.a < n∧t.b < n)(un:T.Pairwise dE)(i:Nat):(nbs T i).length≤n:=by
 have:=w6 (kH un i) (n:=n) fun x hx=>by
  obtain⟨p,hp,rfl⟩:=YR hx
  exact pA lt p hp
 simpa using this
def ke (n:Nat) (T:List Tie):List Tie:=fH ((List.range n).map fun i=>ca (nbs T i)) n
theorem iM {n:Nat}{T:List Tie}(hn:n≤30)(O:TOk n n 0 T):TOk n n 0 (ke n T) ∧ ∀ i,i < n→ca (nbs (ke n T) i)=ca (nbs T i):=by
 have row:∀ {i:Nat},i < n→(((List.range n).map fun i=>ca (nbs T i)).getD i [])=ca (nbs T i):=fun {i} hi=>by simp [List.getD,hi]
 have row0:∀ {i:Nat},¬ i < n→(((List.range n).map fun i=>ca (nbs T i)).getD i [])=[]:=fun {i} hi=>by simp [List.getD,hi]
 have mem:∀ {t:Tie},t∈ke n T ↔ t.a < n∧t.a < t.b∧(t.b,t.w)∈nbs T t.a:=fun {t}=>by
  unfold ke
  rw [j6]
  constructor
  ·rintro⟨h1,h2,h3⟩
   rw [row h1,dM] at h3
   exact⟨h1,h2,h3⟩
  ·rintro⟨h1,h2,h3⟩
   exact⟨h1,h2,by rw [row h1,dM];exact h3⟩
 have nd:∀ i,((((List.range n).map fun i=>ca (nbs T i)).getD i []).map (·.1)).Nodup:=fun i=>by
  by_cases hi:i < n
  ·rw [row hi,List.nodup_iff_pairwise_ne,List.pairwise_map]
   exact (iL (kH O.un i)).imp fun {a b} h e=>by omega
  ·rw [row0 hi];simp
 have ok:TOk n n 0 (ke n T):=by
  refine⟨fun t ht => ?_,fun t ht => ?_,fun t ht => ?_,fun t ht => ?_,ve nd n,?_⟩
  ·have:=(mem.mp ht).2.1;omega
  ·obtain⟨h1,h2,h3⟩:=mem.mp ht
   exact⟨h1,pA O.lt _ h3⟩
  ·obtain⟨h1,h2,h3⟩:=mem.mp ht
   obtain⟨s,hs,_,q⟩:=fy.mp h3
   have q:s.w=t.w:=q
   rw [← q]
   exact O.wt s hs
  ·obtain⟨h1,h2,h3⟩:=mem.mp ht
   exact .inl ⟨h1,pA O.lt _ h3⟩
  ·have:=mN (R:=(List.range n).map fun i=>ca (nbs T i)) (fun i=>by
    by_cases hi:i < n
    ·rw [row hi,rk]
     have:=yK O.lt O.un i
     omega
    ·rw [row0 hi];simp) n
   exact this
 refine⟨ok,fun i hi=>pB (kH ok.un i) (kH O.un i) fun p => ?_⟩
 obtain⟨j,x⟩:=p
 constructor
 ·intro h
  obtain⟨t,ht,q1,q2⟩:=fy.mp h
  obtain⟨h1,h2,h3⟩:=mem.mp ht
  have q2:t.w=x:=q2
  subst q2
  unfold far at q1
  by_cases a1:t.a=i
  ·rw [if_pos a1] at q1
   have q1:t.b=j:=by simpa using q1
   rw [← q1,← a1];exact h3
  ·rw [if_neg a1] at q1
   by_cases a2:t.b=i
   ·rw [if_pos a2] at q1
    have q1:t.a=j:=by simpa using q1
    rw [← q1,← a2];exact vd O.ne h3
   ·rw [if_neg a2] at q1;cases q1
 ·intro h
  obtain⟨s,hs,q1,q2⟩:=fy.mp h
  have hne:i≠j:=Gs (O.ne s hs) q1
  have hj:=pA O.lt _ h
  by_cases c:i < j
  ·exact fy.mpr ⟨⟨i,j,x⟩,mem.mpr ⟨hi,c,h⟩,by simp [far],rfl⟩
  ·exact fy.mpr ⟨⟨j,i,x⟩,mem.mpr ⟨hj,by show j < i;omega,vd O.ne h⟩,by simp [far,Ne.symm hne],rfl⟩
theorem pC {n:Nat}{T S:List Tie}(bs:YF)(ss:YB)(h:∀ i,i < n→ca (nbs S i)=ca (nbs T i)):aJ n S bs ss=aJ n T bs ss:=by
 unfold aJ
 congr 1
 apply List.map_congr_left
 intro i hi
 exact h i (YT hi)
theorem kK {n:Nat}{T:List Tie}(hn:n≤30)(O:TOk n n 0 T)(bs:YF)(ss:YB):aJ n (ke n T) bs ss=aJ n T bs ss:=pC bs ss (iM hn O).2
end Fm
namespace Fm
noncomputable def cL:Fn:=bJ 1 1 (bC (aQ (lOf (fAt (ae 0) (fC (.int 1))))))
noncomputable def cg:Fn:=bJ 1 1 (bC (aQ (lOf (fAt (ae 0) (fC (.int 2))))))
noncomputable abbrev lV:SF:=(gK (oO (ae 1) (ce 2 [2] (d7 (au bQ (af (ae 0) (af (ae 2) ar)))) (gT [0,1]) [(tE (aw oLt (ae 2) (ae 0)))] (cW (af (ae 2) (af (ae 0) (af (ae 1) ar)))))))
noncomputable def bY:Fn:=bJ 1 3 (ay (aP (gN 1) (aQ ar))
  (ay (jn (dz (au a8 (af (ae 0) ar))) (gN 2) lV)
  (bC (ae 1))))
theorem mO {w:Web}{n:Nat}(W:w.Ok n)(h:Hd):a8 [w.enc] h=.ok (.int n) h:=by
 simp [a8,bJ,runB,Web.enc,W.t]
theorem iN {w:Web}{n:Nat}(W:w.Ok n)(h:Hd):cL [w.enc] h=.ok (.ref h.length) (h++[.lst (w.bars.map .int)]):=by
 have z:w.bars.length≤1000000:=by have:=W.b;have:=W.sz;omega
 simp [cL,bJ,runB,Web.enc,SZ,z]
theorem gW {w:Web}{n:Nat}(W:w.Ok n)(h:Hd):cg [w.enc] h=.ok (.ref h.length) (h++[.lst (w.stays.map bj)]):=by
 have z:w.stays.length≤1000000:=by have:=W.s;have:=W.sz;omega
 simp [cg,bJ,runB,Web.enc,SZ,z]
theorem w8 (i:Nat)(r:YC)(h:Hd):bS none (r.map fO) (gT [0,1]) [(tE (aw oLt (ae 2) (ae 0)))] (cW (af (ae 2) (af (ae 0) (af (ae 1) ar)))) (r.map fO) [none,none,some (.int i)] h=.ok ((fG i r).map aL) h:=by
 have:=b6 (g:=none) (all:=r.map fO) (tg:=gT [0,1]) (cs:=[(tE (aw oLt (ae 2) (ae 0)))]) (e:=cW (af (ae 2) (af (ae 0) (af (ae 1) ar)))) (h:=h) (I:=fun σ=>∃ a b,σ = [a,b,some (.int i)])
  (fun d=>match d with | .tup [.int j,_]=>decide ((i:Int) < j)|_=>false) (fun d=>match d with | .tup [j,x]=>.tup [.int i,j,x] | _=>.non) trivial (xs:=r.map fO) (σ:=[none,none,some (.int i)]) (by
  rintro x hx σ ⟨a,b,rfl⟩
  obtain⟨p,_,rfl⟩:=YR hx
  exact⟨_,rfl,⟨_,_,rfl⟩,by by_cases c:i < p.1<;>simp [fO,c],fun _=>rfl⟩) ⟨_,_,rfl⟩
 rw [this]
 congr 1
 clear this
 induction r with
 | nil=>rfl
 | cons p r ih =>
  unfold fG at ih ⊢
  by_cases c:i < p.1
  ·have c2:(i:Int) < (p.1:Int):=by omega
   simp only [XC,List.filter_cons,fO,YZ c,YZ c2,if_true,XC] at ih ⊢
   rw [ih]
   rfl
  ·have c2 : ¬ (i:Int) < (p.1:Int):=by omega
   simp only [XC,List.filter_cons,fO,XB c,XB c2,Bool.false_eq_true,if_false] at ih ⊢
   rw [ih]
theorem sU {w:Web}{n:Nat}(W:w.Ok n)(n30:n≤30)(hr:∀ i,(w.ties.getD i []).length≤30)(h:Hd):bY [w.enc] h=.ok (.ref h.length) (h++[.lst ((fH w.ties n).map aL)]):=by
 obtain⟨σ',h',q,y,e1,e2⟩:=de (P:=fun i σ h'=>∃ y,σ = [some w.enc,some (.ref h.length),y]∧h'=h++[.lst ((fH w.ties i).map aL)]) (g:=none) (k:=0)
  (all:=(List.range n).map fun k:Nat=>D.int k) (fun _ _ _ _=>trivial) (xs:=(List.range n).map fun k:Nat=>D.int k) (tg:=gN 2) (σ:=[some w.enc,some (.ref h.length),none]) (h:=h++[.lst []]) (b:=lV) (by
  rintro i d σ h0 hx ⟨y,rfl,rfl⟩
  rw [Nat.zero_add] at *
  obtain⟨hi,rfl⟩:=dL hx
  have hit:i < w.ties.length:=by rw [W.t];exact hi
  obtain⟨r,er⟩ : ∃ r,r=w.ties.getD i []:=⟨_,rfl⟩
  have er2:w.ties[i]? = some r:=by rw [er];simp [List.getD,hit]
  have lr:r.length≤30:=by rw [er];exact hr i
  obtain⟨L,hL⟩ : ∃ L,L=(fH w.ties i).map aL:=⟨_,rfl⟩
  have lL:L.length≤30 * 30:=by
   have:=mN hr i
   rw [hL,ZA]
   omega
  have lR:((fG i r).map aL).length≤30:=by
   have h1:(fG i r).length≤r.length:=by unfold fG;rw [ZA];exact List.length_filter_le _ _
   rw [ZA];omega
  have en:(fH w.ties (i + 1)).map aL=L++(fG i r).map aL:=by rw [fH,ZR,← hL,← er]
  rw [← hL,en]
  obtain⟨H,hH⟩ : ∃ H:Hd,H=h++[.lst L]:=⟨_,rfl⟩
  have g1:H[h.length]? = some (.lst L):=by rw [hH];simp
  have g2:H.set h.length (.lst (L++(fG i r).map aL))=h++[.lst (L++(fG i r).map aL)]:=by rw [hH];simp
  have t:=jD w H er2
  have k:ce 2 [2] (d7 (au bQ (af (ae 0) (af (ae 2) ar)))) (gT [0,1]) [(tE (aw oLt (ae 2) (ae 0)))] (cW (af (ae 2) (af (ae 0) (af (ae 1) ar)))) [some w.enc,some (.ref h.length),some (.int i)] H=.ok ((fG i r).map aL) H:=by
   have q:d7 (au bQ (af (ae 0) (af (ae 2) ar))) [some w.enc,some (.ref h.length),some (.int i)] H=.ok (r.map fO,none) H:=by simp [t,jA]
   generalize d7 (au bQ (af (ae 0) (af (ae 2) ar)))=I at q ⊢
   simp only [ce,q,aA]
   exact w8 i r H
  refine⟨_,rfl,[some w.enc,some (.ref h.length),some (.int i)],h++[.lst (L++(fG i r).map aL)],?_,_,rfl,rfl⟩
  show gK (oO (ae 1) _) [some w.enc,some (.ref h.length),some (.int i)] (h++[.lst L])=_
  rw [← hH,← g2]
  generalize ce 2 [2] (d7 (au bQ (af (ae 0) (af (ae 2) ar)))) (gT [0,1]) [(tE (aw oLt (ae 2) (ae 0)))] (cW (af (ae 2) (af (ae 0) (af (ae 1) ar))))=E at k ⊢
  generalize (fG i r).map aL=M at k lR ⊢
  have z:L.length + M.length≤1000000:=by omega
  simp [g1,k,SZ,z]) ⟨none,rfl,by simp [fH]⟩
 rw [Nat.zero_add,ZA,ZO] at e2
 rw [e1,e2] at q
 exact Eq.trans (b7 (σ:=[some w.enc,none,none]) rfl rfl (sx (σ':=[some w.enc,some (.ref h.length),none]) (h':=h++[.lst []]) (by simp [SZ]) (sx (gD (dB (ao (ak rfl rfl) (mO W _)) (ZM n30 (by decide))) q) (bx rfl)))) (by simp [letGo,pure?])
theorem fz {n:Nat}(hn:n≤30){T:List Tie}(O:TOk n n 0 T){bs:YF}{ss:YB}(lb:bs.length=n)(ls:ss.length=n)(h:Hd):bY [(aJ n T bs ss).enc] h=.ok (.ref h.length) (h++[.lst ((ke n T).map aL)]):=by
 refine sU (fF hn O lb ls) hn (fun i => ?_) h
 by_cases hi:i < n
 ·rw [rj hi,rk]
  have:=yK O.lt O.un i
  omega
 ·simp [aJ,List.getD,hi]
end Fm
namespace Fm
def LeS (a b:YF):Prop:=∀ i:Nat,a.getD i 0≤b.getD i 0
theorem LeS.refl (a:YF):LeS a a:=fun _=>Int.le_refl _
theorem LeS.trans {a b c:YF}(x:LeS a b)(y:LeS b c):LeS a c:=fun i=>Int.le_trans (x i) (y i)
def kL (a:YF):Prop:=∀ i:Nat,a.getD i 0=0∨a.getD i 0=1
theorem dG (p:Nat × Int)(r:YC)(s:YF):bq (p :: r) s=(if s.getD p.1 0=1 then p.2 else 0) + bq r s:=by
 unfold bq j4
 by_cases e:s.getD p.1 0=1
 ·rw [List.filter_cons,if_pos (by simp only [decide_eq_true_eq];exact e),if_pos e];rfl
 ·rw [List.filter_cons,if_neg (by simp only [decide_eq_true_eq];exact e),if_neg e];omega
theorem nu {a b:YF}(B:kL b)(l:LeS a b):∀ {r:YC},(∀ p∈r,0≤p.2)→bq r a≤bq r b
 | [],_=>Int.le_refl _
 | p :: r,h=>by
  have ih:=nu B l (r:=r) fun q hq=>h q (by simp [hq])
  have h0:=h p (by simp)
  have l0:=l p.1
  have b0:=B p.1
  rw [dG,dG]
  by_cases e:a.getD p.1 0=1
  ·have e2:b.getD p.1 0=1:=by omega
   rw [if_pos e,if_pos e2];omega
  ·rw [if_neg e]
   by_cases e2:b.getD p.1 0=1
   ·rw [if_pos e2];omega
   ·rw [if_neg e2];omega
theorem DY {P1 P2 c1 c2 x y:Int}(hp:P1≤P2)(hb:c2≤c1)(l:x≤y)(b1:x=0∨x=1)(b2:y=0∨y=1):(if 2 * P1=c1 then x else if c1 < 2 * P1 then 1 else 0)≤(if 2 * P2=c2 then y else if c2 < 2 * P2 then (1:Int) else 0):=by
 have y0:0≤y:=by rcases b2 with rfl|rfl<;>decide
 have x1:x≤1:=by rcases b1 with rfl|rfl<;>decide
 have q:2 * P1≤2 * P2:=Int.mul_le_mul_of_nonneg_left hp (by decide)
 generalize 2 * P1=A at q
 generalize 2 * P2=B at q
 by_cases e1:A=c1
 ·rw [if_pos e1]
  by_cases e2:B=c2
  ·rw [if_pos e2];exact l
  ·rw [if_neg e2,if_pos (Int.lt_iff_le_and_ne.mpr ⟨Int.le_trans hb (e1 ▸ q),Ne.symm e2⟩)];exact x1
 ·rw [if_neg e1]
  by_cases e3:c1 < A
  ·have e4:c2 < B:=Int.lt_of_le_of_lt hb (Int.lt_of_lt_of_le e3 q)
   rw [if_pos e3,if_neg (Int.ne_of_gt e4),if_pos e4];exact Int.le_refl _
  ·rw [if_neg e3]
   by_cases e2:B=c2
   ·rw [if_pos e2];exact y0
   ·rw [if_neg e2]
    split
    ·decide
    ·exact Int.le_refl _
theorem w9 {w1 w2:Web}{a b:YF}{p:Nat}(hp:bq (w1.ties.getD p []) a≤bq (w2.ties.getD p []) b)(hb:w2.bars.getD p 0≤w1.bars.getD p 0)(B1:kL a)(B2:kL b)(le:LeS a b)
  (st:(w1.stays.getD p none=none∧w2.stays.getD p none=none)∨w1.stays.getD p none=some 0∨w2.stays.getD p none=some 1) (n1:cG w1 a p=0∨cG w1 a p=1) (n2:cG w2 b p=0∨cG w2 b p=1):cG w1 a p≤cG w2 b p:=by
 rcases st with ⟨s1,s2⟩|s|s
 ·have b1:=B1 p
  have b2:=B2 p
  have l:=le p
  unfold cG
  rw [s1,s2]
  generalize bq (w1.ties.getD p []) a=P1 at *
  generalize bq (w2.ties.getD p []) b=P2 at *
  generalize w1.bars.getD p 0=c1 at *
  generalize w2.bars.getD p 0=c2 at *
  generalize a.getD p 0=x at *
  generalize b.getD p 0=y at *
  exact DY hp hb l b1 b2
 ·have:cG w1 a p=0:=by unfold cG;rw [s]
  omega
 ·have:cG w2 b p=1:=by unfold cG;rw [s]
  omega
theorem rm (w:Web)(n:Nat)(s:YF)(i:Nat):(fE w n s).getD i 0=if i < n then cG w s i else 0:=by
 unfold fE
 by_cases h:i < n<;>simp [List.getD,h]
theorem eE.bits {w:Web}{n:Nat}{s:YF}(F:eE w n s):kL s:=fun i=>uZ F i
structure xb (w1 w2:Web) (n:Nat):Prop where
 go:∀ a b,eE w1 n a→eE w2 n b→LeS a b→LeS (fE w1 n a) (fE w2 n b)
theorem sV {w1 w2:Web}{n:Nat}(S1:dD w1)(S2:dD w2)(hp:∀ p,p < n → ∀ a b,kL a→kL b→LeS a b→bq (w1.ties.getD p []) a≤bq (w2.ties.getD p []) b)(hb:∀ p,p < n→w2.bars.getD p 0≤w1.bars.getD p 0)
  (st:∀ p,p < n→(w1.stays.getD p none=none∧w2.stays.getD p none=none)∨w1.stays.getD p none=some 0∨w2.stays.getD p none=some 1):xb w1 w2 n :=
 ⟨fun a b Fa Fb le i=>by
  rw [rm,rm]
  by_cases h:i < n
  ·rw [if_pos h,if_pos h]
   exact w9 (hp i h a b Fa.bits Fb.bits le) (hb i h) Fa.bits Fb.bits le (st i h) (pb Fa S1 i) (pb Fb S2 i)
  ·rw [if_neg h,if_neg h];exact Int.le_refl _⟩
theorem rp {w1 w2:Web}{n:Nat}(W1:w1.Ok n)(W2:w2.Ok n)(S1:dD w1)(S2:dD w2)(M:xb w1 w2 n){a b:YF}(Fa:eE w1 n a)(Fb:eE w2 n b)(le:LeS a b):∀ k,LeS (cJ w1 n a k) (cJ w2 n b k)
 | 0=>le
 | k + 1=>M.go _ _ (cb W1 S1 Fa k) (cb W2 S2 Fb k) (rp W1 W2 S1 S2 M Fa Fb le k)
end Fm
namespace Fm
noncomputable def cz:Fn:=bJ 2 2 (bC (wg (ce 2 [] (d7 (au bQ (af (ae 0) (af (ae 1) ar)))) (gT [0,1]) [] (ae 1))))
noncomputable def fI:Fn:=bJ 2 2 (bC (au a9 (af (ae 1) (af (fC (.int 0)) (af (aw gJ (au a8 (af (ae 0) ar)) (fC (.int 1))) ar)))))
noncomputable def bF:Fn:=bJ 2 2 (sIf (fV (tE (au fI (af (ae 0) (af (ae 1) ar))))) ml cm)
noncomputable def gF:Fn:=bJ 4 6 (ay (gK (au bF (af (ae 0) (af (ae 1) ar))))
  (ay (gK (au bF (af (ae 0) (af (ae 2) ar))))
  (ay (sIf (tE (aw oEq (ae 1) (ae 2))) ml cm)
  (ay (aP (gN 4) (cW (af (wE (ae 1) (ae 2)) (af (Bx (ae 1) (ae 2)) ar))))
  (ay (aP (gN 5) (aQ (ce 1 [4] (d7 (au bY (af (ae 0) ar))) (gN 0) [(tE (aw oNe (aT (ae 0) pNo (pAt (fC (.int 2)))) (ae 1)))] (ae 0))))
  (ay (sIf (fV (tE (au a9 (af (ae 3) (af (fC (.int 0)) (af (fC (.int 0)) ar)))))) (gK (nB (ae 5) (cW (af (ae 1) (af (ae 2) (af (ae 3) ar)))))) cm)
  (bC (au cx (af (au a8 (af (ae 0) ar)) (af (ae 5) (af (au cL (af (ae 0) ar)) (af (au cg (af (ae 0) ar)) ar))))))))))))
noncomputable def gG:Fn:=bJ 3 4 (ay (gK (au bF (af (ae 0) (af (ae 1) ar))))
  (ay (aP (gN 3) (au cL (af (ae 0) ar)))
  (ay (sg (ae 3) (ae 1) (ae 2))
  (bC (au cx (af (au a8 (af (ae 0) ar)) (af (au bY (af (ae 0) ar)) (af (ae 3) (af (au cg (af (ae 0) ar)) ar)))))))))
noncomputable def fJ:Fn:=bJ 3 4 (ay (gK (au bF (af (ae 0) (af (ae 1) ar))))
  (ay (aP (gN 3) (au cg (af (ae 0) ar)))
  (ay (sg (ae 3) (ae 1) (ae 2))
  (bC (au cx (af (au a8 (af (ae 0) ar)) (af (au bY (af (ae 0) ar)) (af (au cL (af (ae 0) ar)) (af (ae 3) ar)))))))))
noncomputable abbrev rq:SF:=(ay (gK (oO (ae 5) (ce 1 [8,6,7] (dz (au a8 (af (ae 0) ar))) (gN 0) [(tE (aw oNe (fAt (ae 2) (ae 0)) (fAt (ae 3) (ae 0))))] (cW (af (ae 1) (af (ae 0) ar))))))
  (ay (aP (gN 6) (au fg (af (ae 0) (af (ae 6) ar))))
  (aP (gN 7) (au fg (af (ae 2) (af (ae 7) ar))))))
noncomputable def jH:Fn:=bJ 5 9 (ay (gK (au cF (af (ae 0) (af (ae 1) ar))))
  (ay (gK (au cF (af (ae 2) (af (ae 3) ar))))
  (ay (aP (gN 5) (aQ ar))
  (ay (aP (gN 6) (ae 1))
  (ay (aP (gN 7) (ae 3))
  (ay (jn (dz (aw cV (ae 4) (fC (.int 1)))) (gN 8) rq)
  (bC (ae 5))))))))
noncomputable def eC:Fn:=bJ 1 3 (ay (aP (gN 1) (aQ (oN 2 [0] (au cL (af (ae 0) ar)) (gT [0,1]) [] (aw gJ (aw je (fC (.int 2)) (au cz (af (ae 2) (af (ae 0) ar)))) (ae 1)))))
  (ay (aP (gN 2) (aQ (ce 1 [] (d7 (au cg (af (ae 0) ar))) (gN 0) [] (fIf (tE (aw oh (ae 0) (fC .non))) (fC .non) (aw gJ (fC (.int 1)) (ae 0))))))
  (bC (au cx (af (au a8 (af (ae 0) ar)) (af (au bY (af (ae 0) ar)) (af (ae 1) (af (ae 2) ar))))))))
noncomputable def bZ:Fn:=bJ 1 1 (bC (gq (ce 1 [] (d7 (ae 0)) (gN 0) [] (aw gJ (fC (.int 1)) (ae 0)))))
noncomputable def lW:Fn:=bJ 3 4 (ay (aP (gN 3) (aQ (ce 1 [1,2] (d7 (ae 0)) (gN 0) [(tE (aw oEq (aQ (bu (lOf (aT (ae 0) pNo (pAt (fC (.int 2))))))) (aQ (bu (af (ae 1) (af (ae 2) ar))))))] (fAt (ae 0) (fC (.int 2))))))
  (bC (fAt (aQ (eA (ae 3) (aQ (af (fC (.int 0)) ar)))) (fC (.int 0)))))
noncomputable def eQ:Fn:=bJ 4 15 (ay (aP (gT [4,5,6,7,8]) (ae 0))
  (ay (aP (gN 9) (au aK (af (ae 3) (af (fC (.int 3)) ar))))
  (ay (aP (gN 10) (au aK (af (ae 3) (af (ae 4) ar))))
  (ay (aP (gN 11) (au aK (af (ae 3) (af (fC (.int 40)) ar))))
  (ay (sIf (mf (tE (aw oEq (ae 9) (fC (.int 0)))) (tE (aw oGt (ae 4) (fC (.int 1))))) (ay (aP (gN 12) (aw ij (aw cV (aw cV (ae 10) (fC (.int 1))) (au aK (af (ae 3) (af (aw gJ (ae 4) (fC (.int 1))) ar)))) (ae 4)))
  (ay (aP (gN 13) (wE (fC (.int 400)) (aw cV (au lW (af (ae 5) (af (ae 10) (af (ae 12) ar)))) (ae 11))))
  (ay (aP (gN 5) (aQ (ce 1 [10,12] (d7 (ae 5)) (gN 0) [(tE (aw oNe (aQ (bu (lOf (aT (ae 0) pNo (pAt (fC (.int 2))))))) (aQ (bu (af (ae 1) (af (ae 2) ar))))))] (ae 0))))
  (ay (sIf (tE (aw oGt (ae 13) (fC (.int 0)))) (aP (gN 5) (aQ (eA (ae 5) (aQ (af (cW (af (ae 10) (af (ae 12) (af (ae 13) ar)))) ar))))) cm)
  (aP (gN 1) (au gF (af (ae 1) (af (ae 10) (af (ae 12) (af (ae 13) ar)))))))))) (sIf (tE (aw oEq (ae 9) (fC (.int 1)))) (ay (aP (gN 6) (aQ (eA (aQ (eA (aT (ae 6) pNo (pAt (ae 10))) (aQ (af (aw gJ (fAt (ae 6) (ae 10)) (ae 11)) ar)))) (aT (ae 6) (pAt (aw cV (ae 10) (fC (.int 1)))) pNo))))
  (aP (gN 1) (au gG (af (ae 1) (af (ae 10) (af (fAt (ae 6) (ae 10)) ar)))))) (ay (aP (gN 14) (fIx (af (fC (.int 1)) (af (fC .non) ar)) (AE (aw oEq (fAt (ae 7) (ae 10)) (fC (.int 0))))))
  (ay (aP (gN 7) (aQ (eA (aQ (eA (aT (ae 7) pNo (pAt (ae 10))) (aQ (af (ae 14) ar)))) (aT (ae 7) (pAt (aw cV (ae 10) (fC (.int 1)))) pNo))))
  (ay (aP (gN 1) (au fJ (af (ae 1) (af (ae 10) (af (ae 14) ar)))))
  (sIf (tE (aw oEq (ae 14) (fC (.int 1)))) (aP (gN 2) (aw lH (aw lH (aT (ae 2) pNo (pAt (ae 10))) (cW (af (fC (.int 1)) ar))) (aT (ae 2) (pAt (aw cV (ae 10) (fC (.int 1)))) pNo))) cm))))))
  (bC (cW (af (cW (af (ae 4) (af (ae 5) (af (ae 6) (af (ae 7) (af (ae 8) ar)))))) (af (ae 1) (af (ae 2) ar))))))))))
noncomputable abbrev iO:SF:=(ay (sIf (tE (aw oGt (fAt (ae 1) (ae 7)) (fAt (ae 3) (ae 7)))) (bC (fC .non)) cm)
  (sIf (tE (aw oNe (fAt (ae 1) (ae 7)) (fAt (ae 3) (ae 7)))) (gK (nB (ae 5) (cW (af (ae 6) (af (ae 7) ar))))) cm))
noncomputable abbrev pD:SF:=(ay (jn (dz (ik (lOf (ae 1)))) (gN 7) iO)
  (ay (aP (gN 1) (au pc (af (ae 0) (af (ae 1) ar))))
  (aP (gN 3) (au pc (af (ae 2) (af (ae 3) ar))))))
noncomputable def j7:Fn:=bJ 5 8 (ay (aP (gN 5) (aQ ar))
  (ay (jn (dz (aw cV (ae 4) (fC (.int 1)))) (gN 6) pD)
  (bC (ae 5))))
noncomputable abbrev Gu:SF:=(aP (gN 1) (au iJ (af (ae 0) ar)))
noncomputable abbrev Gv:SF:=(aP (gN 2) (au cx (af (fAt (ae 1) (fC (.int 0))) (af (aQ (lOf (fAt (ae 1) (fC (.int 1))))) (af (aQ (lOf (fAt (ae 1) (fC (.int 2))))) (af (aQ (lOf (fAt (ae 1) (fC (.int 3))))) ar))))))
noncomputable abbrev Gw:SF:=(aP (gN 3) (au j5 (af (ae 0) (af (fC (.int 41)) (af (fAt (ae 1) (fC (.int 3))) ar)))))
noncomputable abbrev Gx:SF:=(aP (gN 4) (au cK (af (ae 0) (af (fC (.int 42)) ar))))
noncomputable abbrev Gy:SF:=(aP (gN 5) (au aK (af (ae 4) (af (fC (.int 7)) ar))))
noncomputable abbrev Gz:SF:=(aP (gN 6) (aQ (af (cW (af (ae 2) (af (ae 3) ar))) ar)))
noncomputable abbrev xc:SF:=(ay (aP (gT [1,2,3]) (au eQ (af (ae 1) (af (ae 2) (af (ae 3) (af (au cK (af (ae 0) (af (aw cV (fC (.int 43)) (ae 7)) ar))) ar))))))
  (ay (gK (nB (ae 6) (cW (af (ae 2) (af (ae 3) ar)))))
  (sIf (tE (aw oNe (ae 2) (au cx (af (fAt (ae 1) (fC (.int 0))) (af (aQ (lOf (fAt (ae 1) (fC (.int 1))))) (af (aQ (lOf (fAt (ae 1) (fC (.int 2))))) (af (aQ (lOf (fAt (ae 1) (fC (.int 3))))) ar))))))) (bC (fC (.bl false))) cm)))
noncomputable abbrev GA:SF:=(jn (dz (aw cV (fC (.int 1)) (au aK (af (ae 4) (af (fC (.int 5)) ar))))) (gN 7) xc)
noncomputable abbrev GB:SF:=(aP (gT [8,9,10]) (cW (af (fAt (ae 6) (fC (.int 0))) (af (fAt (ae 6) (aw AC (ik (lOf (ae 6))) (fC (.int 2)))) (af (fAt (ae 6) (fC (.int (-1)))) ar)))))
noncomputable abbrev GC:SF:=(aP (gN 11) (aQ ar))
noncomputable abbrev Cf:SF:=(ay (aP (gN 14) (au j7 (af (fAt (ae 12) (fC (.int 0))) (af (fAt (ae 12) (fC (.int 1))) (af (fAt (ae 13) (fC (.int 0))) (af (fAt (ae 13) (fC (.int 1))) (af (ae 5) ar)))))))
  (ay (aP (gN 15) (au jH (af (fAt (ae 12) (fC (.int 0))) (af (fAt (ae 12) (fC (.int 1))) (af (fAt (ae 13) (fC (.int 0))) (af (fAt (ae 13) (fC (.int 1))) (af (ae 5) ar)))))))
  (ay (sIf (tOr (tE (aw oh (ae 14) (fC .non))) (tE (aw oNe (ae 15) (ae 14)))) (bC (fC (.bl false))) cm)
  (ay (gK (nB (ae 11) (ae 15)))
  (ay (aP (gN 16) (cW (af (au eC (af (fAt (ae 12) (fC (.int 0))) ar)) (af (au bZ (af (fAt (ae 12) (fC (.int 1))) ar)) ar))))
  (sIf (tE (aw oNe (au jH (af (au eC (af (fAt (ae 13) (fC (.int 0))) ar)) (af (au bZ (af (fAt (ae 13) (fC (.int 1))) ar)) (af (fAt (ae 16) (fC (.int 0))) (af (fAt (ae 16) (fC (.int 1))) (af (ae 5) ar)))))) (ae 14))) (bC (fC (.bl false))) cm))))))
noncomputable abbrev Cg:SF:=(jn (d7 (cW (af (cW (af (ae 8) (af (ae 9) ar))) (af (cW (af (ae 9) (af (ae 10) ar))) (af (cW (af (ae 8) (af (ae 10) ar))) ar))))) (gT [12,13]) Cf)
noncomputable abbrev DZ:SF:=(bC (aw oEq (aQ (lJ (eA (fAt (ae 11) (fC (.int 0))) (fAt (ae 11) (fC (.int 1)))))) (fAt (ae 11) (fC (.int 2)))))
noncomputable def yL:Fn:=bJ 1 17 (ay Gu (ay Gv (ay Gw (ay Gx (ay Gy (ay Gz (ay GA (ay GB (ay GC (ay Cg DZ))))))))))
end Fm
set_option maxHeartbeats 4000000
namespace Fm
open PySem PySem.Spec L2
section
abbrev cT (i : Nat) : Stmt := PySem.Challenge.pw_followmost_k47_whole_changes_for_ones.main.body.getD i (.Pass ⟨0, 0, 0, 0⟩)
abbrev kM:Stmt:=cT 5
abbrev iP:Stmt:=cT 6
abbrev iQ:Stmt:=cT 7
abbrev pE:Stmt:=cT 22
abbrev iR:Stmt:=cT 21
abbrev jI:Stmt:=cT 23
abbrev iS:Stmt:=cT 24
abbrev pF:Stmt:=cT 11
abbrev mP:Stmt:=cT 14
abbrev iU:Stmt:=cT 12
abbrev mQ:Stmt:=cT 13
abbrev pG:Stmt:=cT 15
abbrev mR:Stmt:=cT 16
abbrev mS:Stmt:=cT 17
abbrev kN:Stmt:=cT 18
abbrev jJ:Stmt:=cT 19
abbrev jK:Stmt:=cT 20
abbrev xf:Stmt:=cT 26
abbrev hW:Stmt:=cT 28
abbrev mT:Stmt:=cT 29
abbrev mU:Stmt:=cT 30
abbrev mV:Stmt:=cT 31
abbrev xg:Stmt:=cT 27
abbrev gH:Stmt:=cT 36
abbrev kO:Stmt:=cT 33
abbrev kP:Stmt:=cT 34
abbrev jL:Stmt:=cT 35
abbrev pH:Stmt:=cT 37
abbrev jM:Stmt:=cT 38
abbrev eR:Stmt:=cT 39
abbrev iV:Stmt:=cT 41
abbrev iW:Stmt:=cT 42
abbrev kQ:Stmt:=cT 43
abbrev hX:Stmt:=cT 44
abbrev iX:Stmt:=cT 45
abbrev kR:Stmt:=cT 46
abbrev fQ:Stmt:=cT 47
abbrev iY:Stmt:=cT 48
abbrev pI:Stmt:=cT 49
variable {P:Program} {w:World} {K:ZX} {mg:Str→YM} {base:Heap} {f:Addr} {fd:FuncData}
theorem vf:aI ["thing"] ["thing"] (ax kM):=fsc
theorem vg (F:Fun K "is_whole" "is_whole" kM f fd) (aR:mg "isinstance" = none) (xF:mg "bool" = none) (rM:mg "int" = none):bR P w K mg base CX0 1 f fd ["thing"] (spF K cS 1):=bM F vf fun _ _ _ _ _ _ hr=>have hu:=cQ hr;(aq (aM (MB.me (wm (ki (iE (t:=.int) rfl aR rfl rM (by decide +kernel) (mv 0))) (ot (Fu (ki (iE (t:=.bool) rfl aR rfl xF (by decide +kernel) (mv 0)))))))))
theorem p7:aI ["thing", "least", "most"] ["thing", "least", "most"] (ax iP):=fsc
theorem p8 (F:Fun K "is_between" "is_between" iP f fd) (kX:Def P w K mg base "is_whole" 1 1 cS):bR P w K mg base CX0 2 f fd ["thing", "least", "most"] (spF K a9 3):=bM F p7 fun _ _ _ _ _ _ hr=>have hu:=cQ hr;(aq (aM (MB.me (wm (ki (aj kX hr (aa (mv 0) am))) (ot (ki (AI Em Em ut ut (mv 1) (mv 0) (mv 2))))))))
theorem p9:aI ["thing"] ["thing"] (ax iQ):=fsc
theorem qc (F:Fun K "is_opinion" "is_opinion" iQ f fd) (bP:Def P w K mg base "is_between" 2 3 a9):bR P w K mg base CX0 3 f fd ["thing"] (spF K bX 1):=bM F p9 fun _ _ _ _ _ _ hr=>have hu:=cQ hr;(aq (aM (aj bP hr (aa (mv 0) (aa ah (aa ah am))))))
theorem mW:aI ["many", "thing", "one", "other"] ["many", "thing"] (ax pE):=fsc
theorem zT (F:Fun K "is_tie" "is_tie" pE f fd) (cA:mg "len" = none) (aR:mg "isinstance" = none) (bA:mg "tuple" = none) {hZ:Tok} (ia:mg "MOST_WEIGHT" = some (.int 400 hZ)) (bP:Def P w K mg base "is_between" 2 3 a9):bR P w K mg base CX0 3 f fd ["many", "thing"] (spF K lP 2):=bM F mW fun _ _ _ _ _ _ hr=>have hu:=cQ hr;(ag (bK (MW.mt (qG (d9 (dA (iE (t:=.tuple) rfl aR rfl bA (by decide +kernel) (mv 1)))) (jp (bf (eY hu) ip (gv rfl cA (du (mv 1))) ah (aZ _)) (.inr rfl)))) (aq (aM kZ)) aX)
  (ag (aD (i:=2) mW.nd rfl lc (aF (mv 1) ah (fun _ _=>rfl)))
  (ag (aD (i:=3) mW.nd rfl lc (aF (mv 1) ah (fun _ _=>rfl)))
  (ag (bK (MW.mt (qG (d9 (dA (aj bP hr (aa (mv 2) (aa ah (aa (aW gZ pV (mv 0) ah) am)))))) (jp (d9 (dA (aj bP hr (aa (mv 3) (aa ah (aa (aW gZ pV (mv 0) ah) am)))))) (.inr rfl)))) (aq (aM kZ)) aX)
  (aq (aM (MB.me (wm (ki (mn (eY hu) ip (mv 2) (mv 3) (aZ _))) (ot (ki (aj bP hr (aa (aF (mv 1) ah (fun _ _=>rfl)) (aa ah (aa (ur rfl ia) am))))))))))))))
theorem dU:aI ["many", "ties", "near", "tie", "one", "other"] ["many", "ties"] (ax iR):=fsc
theorem qe (F:Fun K "neighbours" "neighbours" iR f fd) (bm:mg "range" = none) (aR:mg "isinstance" = none) (cj:mg "list" = none) (CA:Def P w K mg base "is_tie" 3 2 lP):bR P w K mg base CX0 4 f fd ["many", "ties"] (spF K f6 2):=bM F dU fun _ _ _ _ _ _ hr=>have hu:=cQ hr;(ag (bK (d9 (dA (iE (t:=.list) rfl aR rfl cj (by decide +kernel) (mv 1)))) (aq fL) aX)
  (ag (lh (i:=2) dU.nd rfl lc (own:=["person"]) (capn:=[]) (caps:=[]) rfl (bL.a bE.nil) (cY rfl bm (mv 0))
   (fun cl C s H ex=>⟨(aO (i:=0) (show ((["person"] : YI)++([] : YI)).Nodup by decide +kernel) rfl lc),eK,Du⟩))
  (ag (gw PassesOwn.never rfl (eI (mv 1)) (aO (i:=3) dU.nd rfl lc) (ag (bK (d9 (dA (aj CA hr (aa (mv 0) (aa (mv 3) am))))) (aq fL) aX)
  (ag (aD (i:=4) dU.nd rfl lc (aF (mv 3) ah (fun _ _=>rfl)))
  (ag (aD (i:=5) dU.nd rfl lc (aF (mv 3) ah (fun _ _=>rfl)))
  (ag (bK (bf (FK (ZS (Nat.add_le_add_left (by decide) _) hu)) FL (mv 5) (aF (mv 2) (mv 4) (fun _ _=>rfl)) rfl) (aq fL) aX)
  (ag (yj (ZS (Nat.add_le_add_left (by decide) _) hu) (aF (mv 3) ah (fun _ _=>rfl)) (aF (mv 2) (mv 4) (fun _ _=>rfl)) (mv 5))
  (aq (yj (ZS (Nat.add_le_add_left (by decide) _) hu) (aF (mv 3) ah (fun _ _=>rfl)) (aF (mv 2) (mv 5) (fun _ _=>rfl)) (mv 4)))))))))
  (aq (aM (mv 2))))))
theorem sW:aI ["near", "bars"] ["near", "bars"] (ax jI):=fsc
theorem sZ (F:Fun K "bars_told" "bars_told" jI f fd) (bA:mg "tuple" = none) (rN:mg "all" = none) (cA:mg "len" = none) (aR:mg "isinstance" = none) (cj:mg "list" = none) (kX:Def P w K mg base "is_whole" 1 1 cS):bR P w K mg base CX0 2 f fd ["near", "bars"] (spF K gQ 2):=bM F sW fun _ _ _ _ _ _ hr=>have hu:=cQ hr;(ag (bK (bf n3 oo (mv 1) d8 (aZ _)) (aq fL) aX)
  (ag (bK (MW.mt (qG (d9 (dA (iE (t:=.list) rfl aR rfl cj (by decide +kernel) (mv 1)))) (jp (bf (eY hu) ip (gv rfl cA (du (mv 1))) (gv rfl cA (du (mv 0))) (aZ _)) (.inr rfl)))) (aq fL) aX)
  (ag (bK (d9 (dA (BA rfl rfl rN (gu (eL (own:=["bar"]) (capn:=[]) (caps:=[]) rfl (bL.a bE.nil) (eI (mv 1))
   (fun cl C s H ex=>⟨(aO (i:=0) (show ((["bar"] : YI)++([] : YI)).Nodup by decide +kernel) rfl lc),eK,(aj kX hr (aa (mv 0) am))⟩)))))) (aq fL) aX)
  (aq (aM (gL rfl bA (du (mv 1))))))))
theorem qf:aI ["many", "stays"] ["many", "stays"] (ax iS):=fsc
theorem qg (F:Fun K "stays_told" "stays_told" iS f fd) (bA:mg "tuple" = none) (rN:mg "all" = none) (cA:mg "len" = none) (aR:mg "isinstance" = none) (cj:mg "list" = none) (bm:mg "range" = none) (i7:Def P w K mg base "is_opinion" 3 1 bX):bR P w K mg base CX0 4 f fd ["many", "stays"] (spF K f7 2):=bM F qf fun _ _ _ _ _ _ hr=>have hu:=cQ hr;(ag (bK (bf n3 oo (mv 1) d8 (aZ _)) (aq (aM (gL rfl bA (gu (eL (own:=["person"]) (capn:=[]) (caps:=[]) rfl (bL.a bE.nil) (cY rfl bm (mv 0))
   (fun cl C s H ex=>⟨(aO (i:=0) (show ((["person"] : YI)++([] : YI)).Nodup by decide +kernel) rfl lc),eK,d8⟩)))))) aX)
  (ag (bK (MW.mt (qG (d9 (dA (iE (t:=.list) rfl aR rfl cj (by decide +kernel) (mv 1)))) (jp (bf (eY hu) ip (gv rfl cA (du (mv 1))) (mv 0) (aZ _)) (.inr rfl)))) (aq fL) aX)
  (ag (bK (d9 (dA (BA rfl rfl rN (gu (eL (own:=["stay"]) (capn:=[]) (caps:=[]) rfl (bL.a bE.nil) (eI (mv 1))
   (fun cl C s H ex=>⟨(aO (i:=0) (show ((["stay"] : YI)++([] : YI)).Nodup by decide +kernel) rfl lc),eK,(MB.me (Es (ki (mn n3 oo (mv 0) d8 (aZ _))) (ot (ki (aj i7 hr (aa (mv 0) am))))))⟩)))))) (aq fL) aX)
  (aq (aM (gL rfl bA (du (mv 1))))))))
theorem mX:aI ["many", "ties", "bars", "stays", "near", "rows"] ["many", "ties", "bars", "stays"] (ax pF):=fsc
theorem zU (F:Fun K "web_of" "web_of" pF f fd) (bA:mg "tuple" = none) (cB:mg "sorted" = none) {ic:Tok} (ie:mg "MOST_PEOPLE" = some (.int 30 ic)) (tM:Def P w K mg base "stays_told" 4 2 f7) (vJ:Def P w K mg base "bars_told" 2 2 gQ) (tN:Def P w K mg base "neighbours" 4 2 f6) (bP:Def P w K mg base "is_between" 2 3 a9):bR P w K mg base CX0 5 f fd ["many", "ties", "bars", "stays"] (spF K cx 4):=bM F mX fun _ _ _ _ _ _ hr=>have hu:=cQ hr;(ag (bK (d9 (dA (aj bP hr (aa (mv 0) (aa ah (aa (ur rfl ie) am)))))) (aq fL) aX)
  (ag (aD (i:=4) mX.nd rfl lc (aj tN hr (aa (mv 0) (aa (mv 1) am))))
  (ag (aD (i:=5) mX.nd rfl lc (gL rfl bA (gu (eL (own:=["row"]) (capn:=[]) (caps:=[]) rfl (bL.a bE.nil) (eI (mv 4))
   (fun cl C s H ex=>⟨(aO (i:=0) (show ((["row"] : YI)++([] : YI)).Nodup by decide +kernel) rfl lc),eK,(gL rfl bA (gu (Bu rfl rfl cB (mv 0))))⟩)))))
  (aq (aM (cC (aa (mv 5) (aa (aj vJ hr (aa (mv 4) (aa (mv 2) am))) (aa (aj tM hr (aa (mv 0) (aa (mv 3) am))) am)))))))))
theorem xh:aI ["web", "person"] ["web", "person"] (ax mP):=fsc
theorem xi (F:Fun K "ties_of" "ties_of" mP f fd):bR P w K mg base CX0 1 f fd ["web", "person"] (spF K bQ 2):=bM F xh fun _ _ _ _ _ _ hr=>have hu:=cQ hr;(aq (aM (aF (aF (mv 0) ah (fun _ _=>rfl)) (mv 1) (fun _ _=>rfl))))
theorem qh:aI ["web", "person"] ["web", "person"] (ax iU):=fsc
theorem qi (F:Fun K "weights_of" "weights_of" iU f fd) (rP:mg "sum" = none) (iB:Def P w K mg base "ties_of" 1 2 bQ):bR P w K mg base CX0 2 f fd ["web", "person"] (spF K cz 2):=bM F qh fun _ _ _ _ _ _ hr=>have hu:=cQ hr;(aq (aM (AK rfl rfl rP (gu (eL (own:=["other", "weight"]) (capn:=[]) (caps:=[]) rfl (bL.a bE.nil) (eI (aj iB hr (aa (mv 0) (aa (mv 1) am))))
   (fun cl C s H ex=>⟨(jq rfl (bH (aO (i:=0) (show ((["other", "weight"] : YI)++([] : YI)).Nodup by decide +kernel) rfl lc) (bH (aO (i:=1) (show ((["other", "weight"] : YI)++([] : YI)).Nodup by decide +kernel) rfl lc) gM))),eK,(mv 1)⟩))))))
theorem xj:aI ["web"] ["web"] (ax mQ):=fsc
theorem xk (F:Fun K "many_of" "many_of" mQ f fd) (cA:mg "len" = none):bR P w K mg base CX0 1 f fd ["web"] (spF K a8 1):=bM F xj fun _ _ _ _ _ _ hr=>have hu:=cQ hr;(aq (aM (gv rfl cA (du (aF (mv 0) ah (fun _ _=>rfl))))))
theorem zV:aI ["web", "person"] ["web", "person"] (ax pG):=fsc
theorem zW (F:Fun K "bar_of" "bar_of" pG f fd):bR P w K mg base CX0 1 f fd ["web", "person"] (spF K lN 2):=bM F zV fun _ _ _ _ _ _ hr=>have hu:=cQ hr;(aq (aM (aF (aF (mv 0) ah (fun _ _=>rfl)) (mv 1) (fun _ _=>rfl))))
theorem xm:aI ["web", "person"] ["web", "person"] (ax mR):=fsc
theorem xn (F:Fun K "stay_of" "stay_of" mR f fd):bR P w K mg base CX0 1 f fd ["web", "person"] (spF K gf 2):=bM F xm fun _ _ _ _ _ _ hr=>have hu:=cQ hr;(aq (aM (aF (aF (mv 0) ah (fun _ _=>rfl)) (mv 1) (fun _ _=>rfl))))
theorem xo:aI ["web"] ["web"] (ax mS):=fsc
theorem xp (F:Fun K "bars_of" "bars_of" mS f fd) (cj:mg "list" = none):bR P w K mg base CX0 1 f fd ["web"] (spF K cL 1):=bM F xo fun _ _ _ _ _ _ hr=>have hu:=cQ hr;(aq (aM (bn (gO rfl cj (du (aF (mv 0) ah (fun _ _=>rfl)))))))
theorem vh:aI ["web"] ["web"] (ax kN):=fsc
theorem vj (F:Fun K "stays_of" "stays_of" kN f fd) (cj:mg "list" = none):bR P w K mg base CX0 1 f fd ["web"] (spF K cg 1):=bM F vh fun _ _ _ _ _ _ hr=>have hu:=cQ hr;(aq (aM (bn (gO rfl cj (du (aF (mv 0) ah (fun _ _=>rfl)))))))
theorem iZ:aI ["web", "ties", "one"] ["web"] (ax jJ):=fsc
theorem tj (F:Fun K "ties_once" "ties_once" jJ f fd) (bm:mg "range" = none) (bI:Def P w K mg base "many_of" 1 1 a8) (iB:Def P w K mg base "ties_of" 1 2 bQ):bR P w K mg base CX0 2 f fd ["web"] (spF K bY 1):=bM F iZ fun _ _ _ _ _ _ hr=>have hu:=cQ hr;(ag (aD (i:=1) iZ.nd rfl lc (bn (b8 am (fun _ _ _ _ z=>by rw [bi _ _ _ _ z];decide))))
  (ag (gw PassesOwn.never rfl (cY rfl bm (aj bI hr (aa (mv 0) am))) (aO (i:=2) iZ.nd rfl lc) (aq (ck (yr (mv 1) (eL (own:=["other", "weight"]) (capn:=["one"]) (caps:=[2]) rfl (bL.a (bE.cons rfl rfl bE.nil)) (eI (aj iB hr (aa (mv 0) (aa (mv 2) am))))
   (fun cl C s H ex=>⟨(jq rfl (bH (aO (i:=0) (show ((["other", "weight"] : YI)++(["one"] : YI)).Nodup by decide +kernel) rfl lc) (bH (aO (i:=1) (show ((["other", "weight"] : YI)++(["one"] : YI)).Nodup by decide +kernel) rfl lc) gM))),(jP (bf El ut (mv 2) (mv 0) (aZ _))),(cC (aa (mv 2) (aa (mv 0) (aa (mv 1) am))))⟩))))))
  (aq (aM (mv 1)))))
theorem tq:aI ["web", "thing"] ["web", "thing"] (ax jK):=fsc
theorem tu (F:Fun K "is_person" "is_person" jK f fd) (bP:Def P w K mg base "is_between" 2 3 a9) (bI:Def P w K mg base "many_of" 1 1 a8):bR P w K mg base CX0 3 f fd ["web", "thing"] (spF K fI 2):=bM F tq fun _ _ _ _ _ _ hr=>have hu:=cQ hr;(aq (aM (aj bP hr (aa (mv 1) (aa ah (aa (aW gZ pV (aj bI hr (aa (mv 0) am)) ah) am))))))
theorem nV:aI ["web", "thing", "person", "opinion", "stay"] ["web", "thing"] (ax xf):=fsc
theorem D0 (F:Fun K "fits" "fits" xf f fd) (eD:mg "enumerate" = none) (cA:mg "len" = none) (aR:mg "isinstance" = none) (bA:mg "tuple" = none) (m4:Def P w K mg base "stay_of" 1 2 gf) (i7:Def P w K mg base "is_opinion" 3 1 bX) (bI:Def P w K mg base "many_of" 1 1 a8):bR P w K mg base CX0 4 f fd ["web", "thing"] (spF K sQ 2):=bM F nV fun _ _ _ _ _ _ hr=>have hu:=cQ hr;(ag (bK (MW.mt (qG (d9 (dA (iE (t:=.tuple) rfl aR rfl bA (by decide +kernel) (mv 1)))) (jp (bf (eY hu) ip (gv rfl cA (du (mv 1))) (aj bI hr (aa (mv 0) am)) (aZ _)) (.inr rfl)))) (aq (aM kZ)) aX)
  (ag (gw PassesOwn.never rfl (Dt rfl eD (mv 1)) (jq rfl (bH (aO (i:=2) nV.nd rfl lc) (bH (aO (i:=3) nV.nd rfl lc) gM))) (ag (bK (d9 (dA (aj i7 hr (aa (mv 3) am)))) (aq (aM kZ)) aX)
  (ag (aD (i:=4) nV.nd rfl lc (aj m4 hr (aa (mv 0) (aa (mv 2) am))))
  (aq (bK (MW.mt (AH (bf rW mr (mv 4) d8 (aZ _)) (jp (bf (eY hu) ip (mv 3) (mv 4) (aZ _)) (.inl rfl)))) (aq (aM kZ)) aX)))))
  (aq (aM kZ))))
theorem pJ:aI ["web", "thing"] ["web", "thing"] (ax hW):=fsc
theorem pK (F:Fun K "check_stand" "check_stand" hW f fd) (GU:Def P w K mg base "fits" 4 2 sQ):bR P w K mg base CX0 5 f fd ["web", "thing"] (spF K cF 2):=bM F pJ fun _ _ _ _ _ _ hr=>have hu:=cQ hr;(aq (bK (d9 (dA (aj GU hr (aa (mv 0) (aa (mv 1) am))))) (aq fL) aX))
theorem xr:aI ["web", "stand", "person"] ["web", "stand", "person"] (ax mT):=fsc
theorem xt (F:Fun K "pull_at" "pull_at" mT f fd) (rP:mg "sum" = none) (iB:Def P w K mg base "ties_of" 1 2 bQ):bR P w K mg base CX0 2 f fd ["web", "stand", "person"] (spF K j1 3):=bM F xr fun _ _ _ _ _ _ hr=>have hu:=cQ hr;(aq (aM (aW g7 g8 ah (AK rfl rfl rP (gu (eL (own:=["other", "weight"]) (capn:=["stand"]) (caps:=[1]) rfl (bL.a (bE.cons rfl rfl bE.nil)) (eI (aj iB hr (aa (mv 0) (aa (mv 2) am))))
   (fun cl C s H ex=>⟨(jq rfl (bH (aO (i:=0) (show ((["other", "weight"] : YI)++(["stand"] : YI)).Nodup by decide +kernel) rfl lc) (bH (aO (i:=1) (show ((["other", "weight"] : YI)++(["stand"] : YI)).Nodup by decide +kernel) rfl lc) gM))),(jP (bf (dQ hu) fR (aF (mv 2) (mv 0) (fun _ _=>rfl)) ah (aZ _))),(mv 1)⟩)))))))
theorem i4:aI ["web", "stand", "person", "stay", "strength", "bar"] ["web", "stand", "person"] (ax mU):=fsc
theorem xu (F:Fun K "next_at" "next_at" mU f fd) (CB:Def P w K mg base "bar_of" 1 2 lN) (z7:Def P w K mg base "pull_at" 2 3 j1) (m4:Def P w K mg base "stay_of" 1 2 gf):bR P w K mg base CX0 3 f fd ["web", "stand", "person"] (spF K gh 3):=bM F i4 fun _ _ _ _ _ _ hr=>have hu:=cQ hr;(ag (aD (i:=3) i4.nd rfl lc (aj m4 hr (aa (mv 0) (aa (mv 2) am))))
  (ag (bK (bf rW mr (mv 3) d8 (aZ _)) (aq (aM (mv 3))) aX)
  (ag (aD (i:=4) i4.nd rfl lc (aj z7 hr (aa (mv 0) (aa (mv 1) (aa (mv 2) am)))))
  (ag (aD (i:=5) i4.nd rfl lc (aj CB hr (aa (mv 0) (aa (mv 2) am))))
  (ag (bK (bf (dQ hu) fR (mv 4) (mv 5) (aZ _)) (aq (aM (aF (mv 1) (mv 2) (fun _ _=>rfl)))) aX)
  (aq (aM (Et (bf xV ut (mv 4) (mv 5) (aZ _)) ah ah))))))))
theorem xv:aI ["web", "stand"] ["web", "stand"] (ax mV):=fsc
theorem xw (F:Fun K "turn_at" "turn_at" mV f fd) (bA:mg "tuple" = none) (bm:mg "range" = none) (bI:Def P w K mg base "many_of" 1 1 a8) (z8:Def P w K mg base "next_at" 3 3 gh):bR P w K mg base CX0 4 f fd ["web", "stand"] (spF K fg 2):=bM F xv fun _ _ _ _ _ _ hr=>have hu:=cQ hr;(aq (aM (gL rfl bA (gu (eL (own:=["person"]) (capn:=["web", "stand"]) (caps:=[0,1]) rfl (bL.a (bE.cons rfl rfl (bE.cons rfl rfl bE.nil))) (cY rfl bm (aj bI hr (aa (mv 0) am)))
   (fun cl C s H ex=>⟨(aO (i:=0) (show ((["person"] : YI)++(["web", "stand"] : YI)).Nodup by decide +kernel) rfl lc),eK,(aj z8 hr (aa (mv 1) (aa (mv 2) (aa (mv 0) am))))⟩))))))
theorem D4:aI ["web", "stand"] ["web", "stand"] (ax xg):=fsc
theorem D5 (F:Fun K "turn" "turn" xg f fd) (j8:Def P w K mg base "turn_at" 4 2 fg) (fB:Def P w K mg base "check_stand" 5 2 cF):bR P w K mg base CX0 6 f fd ["web", "stand"] (spF K pc 2):=bM F D4 fun _ _ _ _ _ _ hr=>have hu:=cQ hr;(ag (ck (aj fB hr (aa (mv 0) (aa (mv 1) am))))
  (aq (aM (aj j8 hr (aa (mv 0) (aa (mv 1) am))))))
theorem nF:aI ["web", "thing"] ["web", "thing"] (ax gH):=fsc
theorem nG (F:Fun K "check_person" "check_person" gH f fd) (vK:Def P w K mg base "is_person" 3 2 fI):bR P w K mg base CX0 4 f fd ["web", "thing"] (spF K bF 2):=bM F nF fun _ _ _ _ _ _ hr=>have hu:=cQ hr;(aq (bK (d9 (dA (aj vK hr (aa (mv 0) (aa (mv 1) am))))) (aq fL) aX))
theorem jN:aI ["web", "one", "other", "weight", "pair", "ties"] ["web", "one", "other", "weight"] (ax kO):=fsc
theorem vk (F:Fun K "with_tie" "with_tie" kO f fd) (CC:mg "max" = none) (rR:mg "min" = none) (dX:Def P w K mg base "web_of" 5 4 cx) (eu:Def P w K mg base "stays_of" 1 1 cg) (fu:Def P w K mg base "bars_of" 1 1 cL) (bI:Def P w K mg base "many_of" 1 1 a8) (bP:Def P w K mg base "is_between" 2 3 a9) (dI:Def P w K mg base "ties_once" 2 1 bY) (cM:Def P w K mg base "check_person" 4 2 bF):bR P w K mg base CX0 6 f fd ["web", "one", "other", "weight"] (spF K gF 4):=bM F jN fun _ _ _ _ _ _ hr=>have hu:=cQ hr;(ag (ck (aj cM hr (aa (mv 0) (aa (mv 1) am))))
  (ag (ck (aj cM hr (aa (mv 0) (aa (mv 2) am))))
  (ag (bK (bf (dQ hu) fR (mv 1) (mv 2) (aZ _)) (aq fL) aX)
  (ag (aD (i:=4) jN.nd rfl lc (cC (aa (BC rfl rfl rR (mv 1) (mv 2)) (aa (F4 rfl rfl CC (mv 1) (mv 2)) am))))
  (ag (lh (i:=5) jN.nd rfl lc (own:=["tie"]) (capn:=["pair"]) (caps:=[4]) rfl (bL.a (bE.cons rfl rfl bE.nil)) (eI (aj dI hr (aa (mv 0) am)))
   (fun cl C s H ex=>⟨(aO (i:=0) (show ((["tie"] : YI)++(["pair"] : YI)).Nodup by decide +kernel) rfl lc),(jP (bf (eY hu) ip (eM (mv 0) ll (lm ah)) (mv 1) (aZ _))),(mv 0)⟩))
  (ag (bK (d9 (dA (aj bP hr (aa (mv 3) (aa ah (aa ah am)))))) (aq (ck (kw (mv 5) (cC (aa (mv 1) (aa (mv 2) (aa (mv 3) am))))))) aX)
  (aq (aM (aj dX hr (aa (aj bI hr (aa (mv 0) am)) (aa (mv 5) (aa (aj fu hr (aa (mv 0) am)) (aa (aj eu hr (aa (mv 0) am)) am)))))))))))))
theorem nv:aI ["web", "person", "bar", "bars"] ["web", "person", "bar"] (ax kP):=fsc
theorem vm (F:Fun K "with_bar" "with_bar" kP f fd) (dX:Def P w K mg base "web_of" 5 4 cx) (eu:Def P w K mg base "stays_of" 1 1 cg) (dI:Def P w K mg base "ties_once" 2 1 bY) (bI:Def P w K mg base "many_of" 1 1 a8) (fu:Def P w K mg base "bars_of" 1 1 cL) (cM:Def P w K mg base "check_person" 4 2 bF):bR P w K mg base CX0 6 f fd ["web", "person", "bar"] (spF K gG 3):=bM F nv fun _ _ _ _ _ _ hr=>have hu:=cQ hr;(ag (ck (aj cM hr (aa (mv 0) (aa (mv 1) am))))
  (ag (aD (i:=3) nv.nd rfl lc (aj fu hr (aa (mv 0) am)))
  (ag (mz (mv 2) (mv 3) (mv 1))
  (aq (aM (aj dX hr (aa (aj bI hr (aa (mv 0) am)) (aa (aj dI hr (aa (mv 0) am)) (aa (mv 3) (aa (aj eu hr (aa (mv 0) am)) am))))))))))
theorem lZ:aI ["web", "person", "stay", "stays"] ["web", "person", "stay"] (ax jL):=fsc
theorem tw (F:Fun K "with_stay" "with_stay" jL f fd) (dX:Def P w K mg base "web_of" 5 4 cx) (fu:Def P w K mg base "bars_of" 1 1 cL) (dI:Def P w K mg base "ties_once" 2 1 bY) (bI:Def P w K mg base "many_of" 1 1 a8) (eu:Def P w K mg base "stays_of" 1 1 cg) (cM:Def P w K mg base "check_person" 4 2 bF):bR P w K mg base CX0 6 f fd ["web", "person", "stay"] (spF K fJ 3):=bM F lZ fun _ _ _ _ _ _ hr=>have hu:=cQ hr;(ag (ck (aj cM hr (aa (mv 0) (aa (mv 1) am))))
  (ag (aD (i:=3) lZ.nd rfl lc (aj eu hr (aa (mv 0) am)))
  (ag (mz (mv 2) (mv 3) (mv 1))
  (aq (aM (aj dX hr (aa (aj bI hr (aa (mv 0) am)) (aa (aj dI hr (aa (mv 0) am)) (aa (aj fu hr (aa (mv 0) am)) (aa (mv 3) am))))))))))
theorem fq:aI ["web", "stand", "other", "beyond", "turns", "found", "here", "there", "place"] ["web", "stand", "other", "beyond", "turns"] (ax pH):=fsc
theorem zX (F:Fun K "differ" "differ" pH f fd) (bm:mg "range" = none) (j8:Def P w K mg base "turn_at" 4 2 fg) (bI:Def P w K mg base "many_of" 1 1 a8) (fB:Def P w K mg base "check_stand" 5 2 cF):bR P w K mg base CX0 6 f fd ["web", "stand", "other", "beyond", "turns"] (spF K jH 5):=bM F fq fun _ _ _ _ _ _ hr=>have hu:=cQ hr;(ag (ck (aj fB hr (aa (mv 0) (aa (mv 1) am))))
  (ag (ck (aj fB hr (aa (mv 2) (aa (mv 3) am))))
  (ag (aD (i:=5) fq.nd rfl lc (bn (b8 am (fun _ _ _ _ z=>by rw [bi _ _ _ _ z];decide))))
  (ag (aD (i:=6) fq.nd rfl lc (mv 1))
  (ag (aD (i:=7) fq.nd rfl lc (mv 3))
  (ag (gw PassesOwn.never rfl (cY rfl bm (aW bG b5 (mv 4) ah)) (aO (i:=8) fq.nd rfl lc) (ag (ck (yr (mv 5) (eL (own:=["person"]) (capn:=["place", "here", "there"]) (caps:=[8,6,7]) rfl (bL.a (bE.cons rfl rfl (bE.cons rfl rfl (bE.cons rfl rfl bE.nil)))) (cY rfl bm (aj bI hr (aa (mv 0) am)))
   (fun cl C s H ex=>⟨(aO (i:=0) (show ((["person"] : YI)++(["place", "here", "there"] : YI)).Nodup by decide +kernel) rfl lc),(jP (bf (eY hu) ip (aF (mv 2) (mv 0) (fun _ _=>rfl)) (aF (mv 3) (mv 0) (fun _ _=>rfl)) (aZ _))),(cC (aa (mv 1) (aa (mv 0) am)))⟩))))
  (ag (aD (i:=6) fq.nd rfl lc (aj j8 hr (aa (mv 0) (aa (mv 6) am))))
  (aq (aD (i:=7) fq.nd rfl lc (aj j8 hr (aa (mv 2) (aa (mv 7) am))))))))
  (aq (aM (mv 5)))))))))
theorem i5:aI ["web", "bars", "stays"] ["web"] (ax jM):=fsc
theorem tz (F:Fun K "exchanged" "exchanged" jM f fd) (eD:mg "enumerate" = none) (dX:Def P w K mg base "web_of" 5 4 cx) (dI:Def P w K mg base "ties_once" 2 1 bY) (bI:Def P w K mg base "many_of" 1 1 a8) (eu:Def P w K mg base "stays_of" 1 1 cg) (fu:Def P w K mg base "bars_of" 1 1 cL) (tO:Def P w K mg base "weights_of" 2 2 cz):bR P w K mg base CX0 6 f fd ["web"] (spF K eC 1):=bM F i5 fun _ _ _ _ _ _ hr=>have hu:=cQ hr;(ag (BG (i:=1) i5.nd rfl lc (own:=["person", "bar"]) (capn:=["web"]) (caps:=[0]) rfl (bL.a (bE.cons rfl rfl bE.nil)) (BF rfl eD (aj fu hr (aa (mv 0) am)))
   (fun cl C s H ex=>⟨(jq rfl (bH (aO (i:=0) (show ((["person", "bar"] : YI)++(["web"] : YI)).Nodup by decide +kernel) rfl lc) (bH (aO (i:=1) (show ((["person", "bar"] : YI)++(["web"] : YI)).Nodup by decide +kernel) rfl lc) gM))),eK,(aW gZ pV (aW g7 g8 ah (aj tO hr (aa (mv 2) (aa (mv 0) am)))) (mv 1))⟩))
  (ag (lh (i:=2) i5.nd rfl lc (own:=["stay"]) (capn:=[]) (caps:=[]) rfl (bL.a bE.nil) (eI (aj eu hr (aa (mv 0) am)))
   (fun cl C s H ex=>⟨(aO (i:=0) (show ((["stay"] : YI)++([] : YI)).Nodup by decide +kernel) rfl lc),eK,(Et (bf n3 oo (mv 0) d8 (aZ _)) d8 (aW gZ pV ah (mv 0)))⟩))
  (aq (aM (aj dX hr (aa (aj bI hr (aa (mv 0) am)) (aa (aj dI hr (aa (mv 0) am)) (aa (mv 1) (aa (mv 2) am)))))))))
theorem kS:aI ["stand"] ["stand"] (ax eR):=fsc
theorem kT (F:Fun K "exchanged_stand" "exchanged_stand" eR f fd) (bA:mg "tuple" = none):bR P w K mg base CX0 1 f fd ["stand"] (spF K bZ 1):=bM F kS fun _ _ _ _ _ _ hr=>have hu:=cQ hr;(aq (aM (gL rfl bA (gu (eL (own:=["opinion"]) (capn:=[]) (caps:=[]) rfl (bL.a bE.nil) (eI (mv 0))
   (fun cl C s H ex=>⟨(aO (i:=0) (show ((["opinion"] : YI)++([] : YI)).Nodup by decide +kernel) rfl lc),eK,(aW gZ pV ah (mv 0))⟩))))))
theorem dW:aI ["_law_script", "_law_k", "_law_cell", "_law_mixed"] ["_law_script", "_law_k"] (ax iV):=fsc
theorem qj (F:Fun K "_law_state" "_law_state" iV f fd) (cA:mg "len" = none):bR P w K mg base CX0 1 f fd ["_law_script", "_law_k"] (spF K cK 2):=bM F dW fun _ _ _ _ _ _ hr=>have hu:=cQ hr;(ag (aD (i:=2) dW.nd rfl lc ah)
  (ag (bK (bf El ut (mv 1) (gv rfl cA (du (mv 0))) (aZ _)) (aq (aD (i:=2) dW.nd rfl lc (aF (mv 0) (mv 1) (fun _ _=>rfl)))) aX)
  (ag (aD (i:=3) dW.nd rfl lc (MB.me (Es (ki (mn (dQ hu) fR (gv rfl cA (du (mv 0))) ah (aZ _))) (ot (ki (mn (dQ hu) fR (aW eW eX (aF (mv 0) ah (fun _ _=>rfl)) ah) ah (aZ _)))))))
  (ag (bK (dA (mv 3)) (aq (aD (i:=2) dW.nd rfl lc (aW bG b5 (aW eW eX (mv 2) ah) (aW g7 g8 ah (mv 1))))) aX)
  (aq (aM (bn (b8 (aa (mv 2) (aa ah (aa (mv 3) am))) (fun _ _ _ _ z=>by rw [(aG (aG (aG bi))) _ _ _ _ z];decide)))))))))
theorem fA:aI ["_law_state_here", "_law_most", "_law_number", "_law_found"] ["_law_state_here", "_law_most"] (ax iW):=fsc
theorem ql (F:Fun K "_law_digit" "_law_digit" iW f fd):bR P w K mg base CX0 1 f fd ["_law_state_here", "_law_most"] (spF K aK 2):=bM F fA fun _ _ _ _ _ _ hr=>have hu:=cQ hr;(ag (mz (aW bG b5 (aF (mv 0) ah (fun _ _=>rfl)) ah) (mv 0) ah)
  (ag (bK (dA (aF (mv 0) ah (fun _ _=>rfl))) (ag (aD (i:=2) fA.nd rfl lc (aW eW eX (aW g7 g8 (aW bG b5 (aW bG b5 (aF (mv 0) ah (fun _ _=>rfl)) (aW g7 g8 ah (aF (mv 0) ah (fun _ _=>rfl)))) ah) ah) ah))
  (ag (aD (i:=2) fA.nd rfl lc (aW eW eX (aW g7 g8 (mv 2) (aW bG b5 (aW eW eX (mv 2) ah) (aF (mv 0) ah (fun _ _=>rfl)))) ah))
  (aq (aM (aW eW eX (aW eW eX (aW bG b5 (aW g7 g8 (mv 2) (mv 2)) (aW g7 g8 ah (mv 2))) ah) (mv 1)))))) aX)
  (ag (aD (i:=3) fA.nd rfl lc (aW eW eX (aF (mv 0) ah (fun _ _=>rfl)) (mv 1)))
  (ag (mz (aW uv AG (aF (mv 0) ah (fun _ _=>rfl)) (mv 1)) (mv 0) ah)
  (aq (aM (mv 3)))))))
theorem vn:aI ["_law_kind", "_law_number", "_law_total"] ["_law_kind", "_law_number", "_law_total"] (ax kQ):=fsc
theorem vp (F:Fun K "_law_bar" "_law_bar" kQ f fd):bR P w K mg base CX0 1 f fd ["_law_kind", "_law_number", "_law_total"] (spF K fx 3):=bM F vn fun _ _ _ _ _ _ hr=>have hu:=cQ hr;(ag (bK (bf (dQ hu) fR (mv 0) ah (aZ _)) (aq (aM (mv 2))) aX)
  (ag (bK (bf (dQ hu) fR (mv 0) ah (aZ _)) (aq (aM (aW gZ pV (mv 1) ah))) aX)
  (ag (bK (bf (dQ hu) fR (mv 0) ah (aZ _)) (aq (aM (aW gZ pV (aW bG b5 (mv 2) (aW eW eX (mv 1) ah)) ah))) aX)
  (ag (bK (bf (dQ hu) fR (mv 0) ah (aZ _)) (aq (aM (aW g7 g8 ah (aW eW eX (mv 1) (aW bG b5 (mv 2) ah))))) aX)
  (aq (aM (aW g7 g8 (aW bG b5 (aW E7 Ft ah ah) (mv 1)) (ox (b8 (aa ah (aa yg am)) (fun _ _ _ _ z=>by rw [(aG (aG bi)) _ _ _ _ z];decide)) (aW eW eX (mv 1) ah) (fun _ _=>rfl)))))))))
theorem bc:aI ["_law_script", "_law_head", "_law_many", "_law_thin", "_law_ties", "_law_bars", "_law_stays", "_law_totals", "_law_one", "_law_state_here", "_law_other", "_law_heavy"] ["_law_script"] (ax hX):=fsc
theorem pL (F:Fun K "_law_people" "_law_people" hX f fd) (bm:mg "range" = none) (cA:mg "len" = none) (xG:Def P w K mg base "_law_bar" 1 3 fx) (aN:Def P w K mg base "_law_digit" 1 2 aK) (cU:Def P w K mg base "_law_state" 1 2 cK):bR P w K mg base CX0 2 f fd ["_law_script"] (spF K iJ 1):=bM F bc fun _ _ _ _ _ _ hr=>have hu:=cQ hr;(ag (aD (i:=1) bc.nd rfl lc (aj cU hr (aa (mv 0) (aa ah am))))
  (ag (ck (aj aN hr (aa (mv 1) (aa ah am))))
  (ag (aD (i:=2) bc.nd rfl lc (aW bG b5 ah (aj aN hr (aa (mv 1) (aa (ox (b8 (aa ah (aa ah (aa ah am))) (fun _ _ _ _ z=>by rw [(aG (aG (aG bi))) _ _ _ _ z];decide)) (aj aN hr (aa (mv 1) (aa ah am))) (fun _ _=>rfl)) am)))))
  (ag (aD (i:=3) bc.nd rfl lc (ox (b8 (aa ah (aa ah (aa ah am))) (fun _ _ _ _ z=>by rw [(aG (aG (aG bi))) _ _ _ _ z];decide)) (aj aN hr (aa (mv 1) (aa ah am))) (fun _ _=>rfl)))
  (ag (aD (i:=4) bc.nd rfl lc (bn (b8 am (fun _ _ _ _ z=>by rw [bi _ _ _ _ z];decide))))
  (ag (aD (i:=5) bc.nd rfl lc (bn (b8 am (fun _ _ _ _ z=>by rw [bi _ _ _ _ z];decide))))
  (ag (aD (i:=6) bc.nd rfl lc (bn (b8 am (fun _ _ _ _ z=>by rw [bi _ _ _ _ z];decide))))
  (ag (aD (i:=7) bc.nd rfl lc (bn (F3 (b8 (aa ah am) (fun _ _ _ _ z=>by rw [(aG bi) _ _ _ _ z];decide)) (mv 2))))
  (ag (gw PassesOwn.never rfl (cY rfl bm (mv 2)) (aO (i:=8) bc.nd rfl lc) (ag (aD (i:=9) bc.nd rfl lc (aj cU hr (aa (mv 0) (aa (aW bG b5 ah (mv 8)) am))))
  (ag (ck (kw (mv 6) (ox (b8 (aa d8 (aa d8 (aa d8 (aa ah (aa ah am))))) (fun _ _ _ _ z=>by rw [(aG (aG (aG (aG (aG bi))))) _ _ _ _ z];decide)) (aj aN hr (aa (mv 9) (aa ah am))) (fun _ _=>rfl))))
  (ag (ck (kw (mv 5) (cC (aa (aj aN hr (aa (mv 9) (aa ah am))) (aa (aj aN hr (aa (mv 9) (aa ah am))) am)))))
  (aq (gw PassesOwn.never rfl (cY rfl bm (mv 8)) (aO (i:=10) bc.nd rfl lc) (aq (bK (bf (dQ hu) fR (aj aN hr (aa (mv 9) (aa (mv 3) am))) ah (aZ _)) (ag (aD (i:=11) bc.nd rfl lc (aW bG b5 ah (aj aN hr (aa (mv 9) (aa (ox (b8 (aa ah (aa ah am)) (fun _ _ _ _ z=>by rw [(aG (aG bi)) _ _ _ _ z];decide)) (aj aN hr (aa (mv 9) (aa ah am))) (fun _ _=>rfl)) am)))))
  (ag (ck (F5 (mv 4) (aj aN hr (aa (mv 9) (aa (aW bG b5 (gv rfl cA (du (mv 4))) ah) am))) (ox (b8 (aa (cC (aa (mv 8) (aa (mv 10) (aa (mv 11) am)))) (aa (cC (aa (mv 10) (aa (mv 8) (aa (mv 11) am)))) am)) (fun _ _ _ _ z=>by rw [(aG (aG bi)) _ _ _ _ z];decide)) (aW eW eX (mv 11) ah) (fun _ _=>rfl))))
  (ag (mz (aW bG b5 (aF (mv 7) (mv 8) (fun _ _=>rfl)) (mv 11)) (mv 7) (mv 8))
  (aq (mz (aW bG b5 (aF (mv 7) (mv 10) (fun _ _=>rfl)) (mv 11)) (mv 7) (mv 10)))))) aX))))))))
  (ag (aD (i:=5) bc.nd rfl lc (bn (eL (own:=["_law_one"]) (capn:=["_law_totals", "_law_bars"]) (caps:=[7,5]) rfl (bL.a (bE.cons rfl rfl (bE.cons rfl rfl bE.nil))) (cY rfl bm (mv 2))
   (fun cl C s H ex=>⟨(aO (i:=0) (show ((["_law_one"] : YI)++(["_law_totals", "_law_bars"] : YI)).Nodup by decide +kernel) rfl lc),eK,(aj xG hr (aa (aF (aF (mv 2) (mv 0) (fun _ _=>rfl)) ah (fun _ _=>rfl)) (aa (aF (aF (mv 2) (mv 0) (fun _ _=>rfl)) ah (fun _ _=>rfl)) (aa (aF (mv 1) (mv 0) (fun _ _=>rfl)) am))))⟩))))
  (aq (aM (cC (aa (mv 2) (aa (mv 4) (aa (mv 5) (aa (mv 6) (aa (mv 7) am))))))))))))))))))
theorem dh:aI ["_law_script", "_law_k", "_law_stays", "_law_state_here", "_law_found", "_law_stay", "_law_held"] ["_law_script", "_law_k", "_law_stays"] (ax iX):=fsc
theorem qm (F:Fun K "_law_stand" "_law_stand" iX f fd) (bA:mg "tuple" = none) (aN:Def P w K mg base "_law_digit" 1 2 aK) (cU:Def P w K mg base "_law_state" 1 2 cK):bR P w K mg base CX0 2 f fd ["_law_script", "_law_k", "_law_stays"] (spF K j5 3):=bM F dh fun _ _ _ _ _ _ hr=>have hu:=cQ hr;(ag (aD (i:=3) dh.nd rfl lc (aj cU hr (aa (mv 0) (aa (mv 1) am))))
  (ag (aD (i:=4) dh.nd rfl lc (bn (b8 am (fun _ _ _ _ z=>by rw [bi _ _ _ _ z];decide))))
  (ag (gw PassesOwn.never rfl (eI (mv 2)) (aO (i:=5) dh.nd rfl lc) (ag (aD (i:=6) dh.nd rfl lc (aj aN hr (aa (mv 3) (aa ah am))))
  (ag (bK (bf rW mr (mv 5) d8 (aZ _)) (aq (aD (i:=6) dh.nd rfl lc (mv 5))) aX)
  (aq (ck (kw (mv 4) (mv 6)))))))
  (aq (aM (gL rfl bA (du (mv 4))))))))
theorem nw:aI ["_law_ties", "_law_one", "_law_other", "_law_found"] ["_law_ties", "_law_one", "_law_other"] (ax kR):=fsc
theorem vq (F:Fun K "_law_old" "_law_old" kR f fd) (cB:mg "sorted" = none):bR P w K mg base CX0 1 f fd ["_law_ties", "_law_one", "_law_other"] (spF K lW 3):=bM F nw fun _ _ _ _ _ _ hr=>have hu:=cQ hr;(ag (lh (i:=3) nw.nd rfl lc (own:=["_law_tie"]) (capn:=["_law_one", "_law_other"]) (caps:=[1,2]) rfl (bL.a (bE.cons rfl rfl (bE.cons rfl rfl bE.nil))) (eI (mv 0))
   (fun cl C s H ex=>⟨(aO (i:=0) (show ((["_law_tie"] : YI)++(["_law_one", "_law_other"] : YI)).Nodup by decide +kernel) rfl lc),(jP (bf (dQ hu) fR (bn (lI rfl cB (du (eM (mv 0) ll (lm ah))))) (bn (lI rfl cB (gu (b8 (aa (mv 1) (aa (mv 2) am)) (fun _ _ _ _ z=>by rw [(aG (aG bi)) _ _ _ _ z];decide))))) (aZ _))),(aF (mv 0) ah (fun _ _=>rfl))⟩))
  (aq (aM (aF (bn (iG (mv 3) (bn (b8 (aa ah am) (fun _ _ _ _ z=>by rw [(aG bi) _ _ _ _ z];decide))))) ah (fun _ _=>rfl)))))
theorem aB:aI ["_law_told", "_law_web", "_law_stand_here", "_law_state_here", "_law_many", "_law_ties", "_law_bars", "_law_stays", "_law_totals", "_law_way", "_law_one", "_law_number", "_law_other", "_law_heavy", "_law_stay"] ["_law_told", "_law_web", "_law_stand_here", "_law_state_here"] (ax fQ):=fsc
theorem mY (F:Fun K "_law_for_ones" "_law_for_ones" fQ f fd) (cB:mg "sorted" = none) (rR:mg "min" = none) (rM:mg "int" = none) (xH:Def P w K mg base "with_tie" 6 4 gF) (xI:Def P w K mg base "_law_old" 1 3 lW) (aN:Def P w K mg base "_law_digit" 1 2 aK) (xJ:Def P w K mg base "with_bar" 6 3 gG) (vL:Def P w K mg base "with_stay" 6 3 fJ):bR P w K mg base CX0 7 f fd ["_law_told", "_law_web", "_law_stand_here", "_law_state_here"] (spF K eQ 4):=bM F aB fun _ _ _ _ _ _ hr=>have hu:=cQ hr;(ag (AM (mv 0) (jq rfl (bH (aO (i:=4) aB.nd rfl lc) (bH (aO (i:=5) aB.nd rfl lc) (bH (aO (i:=6) aB.nd rfl lc) (bH (aO (i:=7) aB.nd rfl lc) (bH (aO (i:=8) aB.nd rfl lc) gM)))))))
  (ag (aD (i:=9) aB.nd rfl lc (aj aN hr (aa (mv 3) (aa ah am))))
  (ag (aD (i:=10) aB.nd rfl lc (aj aN hr (aa (mv 3) (aa (mv 4) am))))
  (ag (aD (i:=11) aB.nd rfl lc (aj aN hr (aa (mv 3) (aa ah am))))
  (ag (bK (MW.mt (AH (bf (dQ hu) fR (mv 9) ah (aZ _)) (jp (bf xV ut (mv 4) ah (aZ _)) (.inl rfl)))) (ag (aD (i:=12) aB.nd rfl lc (aW eW eX (aW bG b5 (aW bG b5 (mv 10) ah) (aj aN hr (aa (mv 3) (aa (aW gZ pV (mv 4) ah) am)))) (mv 4)))
  (ag (aD (i:=13) aB.nd rfl lc (BC rfl rfl rR ah (aW bG b5 (aj xI hr (aa (mv 5) (aa (mv 10) (aa (mv 12) am)))) (mv 11))))
  (ag (lh (i:=5) aB.nd rfl lc (own:=["_law_tie"]) (capn:=["_law_one", "_law_other"]) (caps:=[10,12]) rfl (bL.a (bE.cons rfl rfl (bE.cons rfl rfl bE.nil))) (eI (mv 5))
   (fun cl C s H ex=>⟨(aO (i:=0) (show ((["_law_tie"] : YI)++(["_law_one", "_law_other"] : YI)).Nodup by decide +kernel) rfl lc),(jP (bf (eY hu) ip (bn (lI rfl cB (du (eM (mv 0) ll (lm ah))))) (bn (lI rfl cB (gu (b8 (aa (mv 1) (aa (mv 2) am)) (fun _ _ _ _ z=>by rw [(aG (aG bi)) _ _ _ _ z];decide))))) (aZ _))),(mv 0)⟩))
  (ag (bK (bf xV ut (mv 13) ah (aZ _)) (aq (aD (i:=5) aB.nd rfl lc (bn (iG (mv 5) (bn (b8 (aa (cC (aa (mv 10) (aa (mv 12) (aa (mv 13) am)))) am) (fun _ _ _ _ z=>by rw [(aG bi) _ _ _ _ z];decide))))))) aX)
  (aq (aD (i:=1) aB.nd rfl lc (aj xH hr (aa (mv 1) (aa (mv 10) (aa (mv 12) (aa (mv 13) am))))))))))) (aq (bK (bf (dQ hu) fR (mv 9) ah (aZ _)) (ag (aD (i:=6) aB.nd rfl lc (bn (iG (bn (iG (eM (mv 6) ll (lm (mv 10))) (bn (b8 (aa (aW gZ pV (aF (mv 6) (mv 10) (fun _ _=>rfl)) (mv 11)) am) (fun _ _ _ _ z=>by rw [(aG bi) _ _ _ _ z];decide))))) (eM (mv 6) (lm (aW bG b5 (mv 10) ah)) ll))))
  (aq (aD (i:=1) aB.nd rfl lc (aj xJ hr (aa (mv 1) (aa (mv 10) (aa (aF (mv 6) (mv 10) (fun _ _=>rfl)) am))))))) (ag (aD (i:=14) aB.nd rfl lc (ox (b8 (aa ah (aa d8 am)) (fun _ _ _ _ z=>by rw [(aG (aG bi)) _ _ _ _ z];decide)) (Dj rfl rM (mn (dQ hu) fR (aF (mv 7) (mv 10) (fun _ _=>rfl)) ah (aZ _))) (fun _ _=>rfl)))
  (ag (aD (i:=7) aB.nd rfl lc (bn (iG (bn (iG (eM (mv 7) ll (lm (mv 10))) (bn (b8 (aa (mv 14) am) (fun _ _ _ _ z=>by rw [(aG bi) _ _ _ _ z];decide))))) (eM (mv 7) (lm (aW bG b5 (mv 10) ah)) ll))))
  (ag (aD (i:=1) aB.nd rfl lc (aj vL hr (aa (mv 1) (aa (mv 10) (aa (mv 14) am)))))
  (aq (bK (bf (dQ hu) fR (mv 14) ah (aZ _)) (aq (aD (i:=2) aB.nd rfl lc (aW yp yq (aW yp yq (eM (mv 2) ll (lm (mv 10))) (cC (aa ah am))) (eM (mv 2) (lm (aW bG b5 (mv 10) ah)) ll)))) aX))))))))
  (aq (aM (cC (aa (cC (aa (mv 4) (aa (mv 5) (aa (mv 6) (aa (mv 7) (aa (mv 8) am)))))) (aa (mv 1) (aa (mv 2) am)))))))))))
theorem dj:aI ["_law_web", "_law_stand_here", "_law_other", "_law_beyond", "_law_turns", "_law_found", "_law_number", "_law_one"] ["_law_web", "_law_stand_here", "_law_other", "_law_beyond", "_law_turns"] (ax iY):=fsc
theorem qo (F:Fun K "_law_apart" "_law_apart" iY f fd) (bm:mg "range" = none) (cA:mg "len" = none) (CF:Def P w K mg base "turn" 6 2 pc):bR P w K mg base CX0 7 f fd ["_law_web", "_law_stand_here", "_law_other", "_law_beyond", "_law_turns"] (spF K j7 5):=bM F dj fun _ _ _ _ _ _ hr=>have hu:=cQ hr;(ag (aD (i:=5) dj.nd rfl lc (bn (b8 am (fun _ _ _ _ z=>by rw [bi _ _ _ _ z];decide))))
  (ag (gw PassesOwn.never rfl (cY rfl bm (aW bG b5 (mv 4) ah)) (aO (i:=6) dj.nd rfl lc) (ag (gw PassesOwn.never rfl (cY rfl bm (gv rfl cA (du (mv 1)))) (aO (i:=7) dj.nd rfl lc) (ag (bK (bf xV ut (aF (mv 1) (mv 7) (fun _ _=>rfl)) (aF (mv 3) (mv 7) (fun _ _=>rfl)) (aZ _)) (aq (aM d8)) aX)
  (aq (bK (bf (eY hu) ip (aF (mv 1) (mv 7) (fun _ _=>rfl)) (aF (mv 3) (mv 7) (fun _ _=>rfl)) (aZ _)) (aq (ck (kw (mv 5) (cC (aa (mv 6) (aa (mv 7) am)))))) aX))))
  (ag (aD (i:=1) dj.nd rfl lc (aj CF hr (aa (mv 0) (aa (mv 1) am))))
  (aq (aD (i:=3) dj.nd rfl lc (aj CF hr (aa (mv 2) (aa (mv 3) am))))))))
  (aq (aM (mv 5)))))
theorem dq:aI ["_law_script", "_law_told", "_law_web", "_law_stand_here", "_law_state_here", "_law_turns", "_law_webs", "_law_k", "_law_first", "_law_middle", "_law_last", "_law_rows", "_law_one", "_law_other", "_law_due", "_law_found", "_law_turned_ones"] ["_law_script"] (ax pI):=fsc
theorem GD (F:Fun K "law" "law" pI f fd) (cB:mg "sorted" = none) (CG:mg "set" = none) (cA:mg "len" = none) (bm:mg "range" = none) (cj:mg "list" = none) (vM:Def P w K mg base "differ" 6 5 jH) (gX:Def P w K mg base "exchanged_stand" 1 1 bZ) (ny:Def P w K mg base "exchanged" 6 1 eC) (tP:Def P w K mg base "_law_apart" 7 5 j7) (aN:Def P w K mg base "_law_digit" 1 2 aK) (dX:Def P w K mg base "web_of" 5 4 cx) (nH:Def P w K mg base "_law_for_ones" 7 4 eQ) (cU:Def P w K mg base "_law_state" 1 2 cK) (tQ:Def P w K mg base "_law_stand" 2 3 j5) (qp:Def P w K mg base "_law_people" 2 1 iJ):bR P w K mg base CX0 8 f fd ["_law_script"] (spF K yL 1):=bM F dq fun _ _ _ _ _ _ hr=>have hu:=cQ hr;(ag (aD (i:=1) dq.nd rfl lc (aj qp hr (aa (mv 0) am)))
  (ag (aD (i:=2) dq.nd rfl lc (aj dX hr (aa (aF (mv 1) ah (fun _ _=>rfl)) (aa (bn (gO rfl cj (du (aF (mv 1) ah (fun _ _=>rfl))))) (aa (bn (gO rfl cj (du (aF (mv 1) ah (fun _ _=>rfl))))) (aa (bn (gO rfl cj (du (aF (mv 1) ah (fun _ _=>rfl))))) am))))))
  (ag (aD (i:=3) dq.nd rfl lc (aj tQ hr (aa (mv 0) (aa ah (aa (aF (mv 1) ah (fun _ _=>rfl)) am)))))
  (ag (aD (i:=4) dq.nd rfl lc (aj cU hr (aa (mv 0) (aa ah am))))
  (ag (aD (i:=5) dq.nd rfl lc (aj aN hr (aa (mv 4) (aa ah am))))
  (ag (aD (i:=6) dq.nd rfl lc (bn (b8 (aa (cC (aa (mv 2) (aa (mv 3) am))) am) (fun _ _ _ _ z=>by rw [(aG bi) _ _ _ _ z];decide))))
  (ag (gw PassesOwn.never rfl (cY rfl bm (aW bG b5 ah (aj aN hr (aa (mv 4) (aa ah am))))) (aO (i:=7) dq.nd rfl lc) (ag (AM (aj nH hr (aa (mv 1) (aa (mv 2) (aa (mv 3) (aa (aj cU hr (aa (mv 0) (aa (aW bG b5 ah (mv 7)) am))) am))))) (jq rfl (bH (aO (i:=1) dq.nd rfl lc) (bH (aO (i:=2) dq.nd rfl lc) (bH (aO (i:=3) dq.nd rfl lc) gM)))))
  (ag (ck (kw (mv 6) (cC (aa (mv 2) (aa (mv 3) am)))))
  (aq (bK (bf (eY hu) ip (mv 2) (aj dX hr (aa (aF (mv 1) ah (fun _ _=>rfl)) (aa (bn (gO rfl cj (du (aF (mv 1) ah (fun _ _=>rfl))))) (aa (bn (gO rfl cj (du (aF (mv 1) ah (fun _ _=>rfl))))) (aa (bn (gO rfl cj (du (aF (mv 1) ah (fun _ _=>rfl))))) am))))) (aZ _)) (aq (aM kZ)) aX)))))
  (ag (DP (i:=8) (j:=9) (k:=10) rfl dq.nd rfl rfl rfl (aa (aF (mv 6) ah (fun _ _=>rfl)) (aa (aF (mv 6) (aW uv AG (gv rfl cA (du (mv 6))) ah) (fun _ _=>rfl)) (aa (aF (mv 6) yg (fun _ _=>rfl)) am))))
  (ag (aD (i:=11) dq.nd rfl lc (bn (b8 am (fun _ _ _ _ z=>by rw [bi _ _ _ _ z];decide))))
  (ag (gw PassesOwn.never rfl (eI (cC (aa (cC (aa (mv 8) (aa (mv 9) am))) (aa (cC (aa (mv 9) (aa (mv 10) am))) (aa (cC (aa (mv 8) (aa (mv 10) am))) am))))) (jq rfl (bH (aO (i:=12) dq.nd rfl lc) (bH (aO (i:=13) dq.nd rfl lc) gM))) (ag (aD (i:=14) dq.nd rfl lc (aj tP hr (aa (aF (mv 12) ah (fun _ _=>rfl)) (aa (aF (mv 12) ah (fun _ _=>rfl)) (aa (aF (mv 13) ah (fun _ _=>rfl)) (aa (aF (mv 13) ah (fun _ _=>rfl)) (aa (mv 5) am)))))))
  (ag (aD (i:=15) dq.nd rfl lc (aj vM hr (aa (aF (mv 12) ah (fun _ _=>rfl)) (aa (aF (mv 12) ah (fun _ _=>rfl)) (aa (aF (mv 13) ah (fun _ _=>rfl)) (aa (aF (mv 13) ah (fun _ _=>rfl)) (aa (mv 5) am)))))))
  (ag (bK (MW.mt (qG (bf n3 oo (mv 14) d8 (aZ _)) (jp (bf (eY hu) ip (mv 15) (mv 14) (aZ _)) (.inr rfl)))) (aq (aM kZ)) aX)
  (ag (ck (kw (mv 11) (mv 15)))
  (ag (aD (i:=16) dq.nd rfl lc (cC (aa (aj ny hr (aa (aF (mv 12) ah (fun _ _=>rfl)) am)) (aa (aj gX hr (aa (aF (mv 12) ah (fun _ _=>rfl)) am)) am))))
  (aq (bK (bf (eY hu) ip (aj vM hr (aa (aj ny hr (aa (aF (mv 13) ah (fun _ _=>rfl)) am)) (aa (aj gX hr (aa (aF (mv 13) ah (fun _ _=>rfl)) am)) (aa (aF (mv 16) ah (fun _ _=>rfl)) (aa (aF (mv 16) ah (fun _ _=>rfl)) (aa (mv 5) am)))))) (mv 14) (aZ _)) (aq (aM kZ)) aX))))))))
  (aq (aM (mn (dQ hu) fR (bn (zH rfl hu rfl cB rfl CG (iG (aF (mv 11) ah (fun _ _=>rfl)) (aF (mv 11) ah (fun _ _=>rfl))))) (aF (mv 11) ah (fun _ _=>rfl)) (aZ _))))))))))))))
end
theorem GE {l:PySem.W.OpenLaw} {w:World} {K:ZX} {h:Heap} {mg:Str→YM} {fa:Addr} (X:K.In h) (G:h.Ns mainGlobals mg) (hfa:mg "law" = some (.ref fa)) (xK:At K "is_whole" kM) (tR:At K "is_between" iP) (tS:At K "is_opinion" iQ) (CH:At K "is_tie" pE) (tU:At K "neighbours" iR) (vN:At K "bars_told" jI) (tV:At K "stays_told" iS) (CJ:At K "web_of" pF) (z9:At K "ties_of" mP) (tW:At K "weights_of" iU) (Aa:At K "many_of" mQ) (CK:At K "bar_of" pG) (Ab:At K "stay_of" mR) (Ac:At K "bars_of" mS) (xL:At K "stays_of" kN) (vO:At K "ties_once" jJ) (vP:At K "is_person" jK) (GV:At K "fits" xf) (qq:At K "check_stand" hW) (Ad:At K "pull_at" mT) (Ae:At K "next_at" mU) (Af:At K "turn_at" mV) (GW:At K "turn" xg) (pP:At K "check_person" gH) (xM:At K "with_tie" kO) (xN:At K "with_bar" kP) (vQ:At K "with_stay" jL) (CL:At K "differ" pH) (vR:At K "exchanged" jM) (l6:At K "exchanged_stand" eR) (tX:At K "_law_state" iV) (tY:At K "_law_digit" iW) (xO:At K "_law_bar" kQ) (qt:At K "_law_people" hX) (tZ:At K "_law_stand" iX) (xP:At K "_law_old" kR) (nJ:At K "_law_for_ones" fQ) (t0:At K "_law_apart" iY) (Il:At K "law" pI) (t8:Nb K "isinstance") (GX:Nb K "bool") (Im:Nb K "int") (Io:Nb K "len") (Ei:Nb K "tuple") (Ej:Nb K "range") (GY:Nb K "list") (Ip:Nb K "all") (CM:Nb K "sorted") (Iq:Nb K "sum") (vS:Nb K "enumerate") (Ir:Nb K "max") (Iu:Nb K "min") (Iv:Nb K "set") {hZ:Tok} (qu:PySem.W.nsIn K mainGlobals "MOST_WEIGHT" = some (some (.int 400 hZ))) {ic:Tok} (qv:PySem.W.nsIn K mainGlobals "MOST_PEOPLE" = some (some (.int 30 ic))):∃ fd:FuncData,(∀ (s:Shared) (v:Value),BindsTo s fd ⟨[v],[]⟩ [("_law_script",v)]) ∧ ∀ base:Heap,K.In base→base.Ns mainGlobals mg→bR l.prog w K mg base CX0 8 fa fd ["_law_script"] (spF K yL 1):=by
 obtain⟨f,od,GZ,sl,oc,G0,G1,G3,G4,G5,e,Iw,Ix,Iy⟩:=Il
 have e:=hfa.symm.trans (PySem.W.mg_of X G e)
 cases e
 have Iz:=AB (st:=pI) Iw Ix Iy
 have aR:=PySem.W.mg_none_of X G t8
 have xF:=PySem.W.mg_none_of X G GX
 have rM:=PySem.W.mg_none_of X G Im
 have cA:=PySem.W.mg_none_of X G Io
 have bA:=PySem.W.mg_none_of X G Ei
 have bm:=PySem.W.mg_none_of X G Ej
 have cj:=PySem.W.mg_none_of X G GY
 have rN:=PySem.W.mg_none_of X G Ip
 have cB:=PySem.W.mg_none_of X G CM
 have rP:=PySem.W.mg_none_of X G Iq
 have eD:=PySem.W.mg_none_of X G vS
 have CC:=PySem.W.mg_none_of X G Ir
 have rR:=PySem.W.mg_none_of X G Iu
 have CG:=PySem.W.mg_none_of X G Iv
 have ia:=PySem.W.mg_of X G qu
 have ie:=PySem.W.mg_of X G qv
 refine⟨PySem.W.fnOf "law" "law" (dJ pI) (cO pI) (ax pI) .none G0 G1 G3 GZ G4 G5,fun s v=>.of_eq rfl,fun base KB _ => ?_⟩
 have q:En l.prog w K mg base:=⟨h,X,G⟩
 have pQ:=xK.df1 q fun U=>vg U aR xF rM
 have eU:=tR.df3 q fun U=>p8 U pQ
 have l7:=tS.df1 q fun U=>qc U eU
 have CN:=CH.df2 q fun U=>zT U cA aR bA ia eU
 have t9:=tU.df2 q fun U=>qe U bm aR cj CN
 have vT:=vN.df2 q fun U=>sZ U bA rN cA aR cj pQ
 have ua:=tV.df2 q fun U=>qg U bA rN cA aR cj bm l7
 have jO:=CJ.df4 q fun U=>zU U bA cB ie ua vT t9 eU
 have m5:=z9.df2 q fun U=>xi U
 have ub:=tW.df2 q fun U=>qi U rP m5
 have dN:=Aa.df1 q fun U=>xk U cA
 have CO:=CK.df2 q fun U=>zW U
 have rS:=Ab.df2 q fun U=>xn U
 have j9:=Ac.df1 q fun U=>xp U cj
 have i8:=xL.df1 q fun U=>vj U cj
 have gY:=vO.df1 q fun U=>tj U bm dN m5
 have vU:=vP.df2 q fun U=>tu U eU dN
 have G6:=GV.df2 q fun U=>D0 U eD cA aR bA rS l7 dN
 have ko:=qq.df2 q fun U=>pK U G6
 have Ag:=Ad.df3 q fun U=>xt U rP m5
 have Ah:=Ae.df3 q fun U=>xu U CO Ag rS
 have rT:=Af.df2 q fun U=>xw U bA bm dN Ah
 have G7:=GW.df2 q fun U=>D5 U rT ko
 have gI:=pP.df2 q fun U=>nG U vU
 have xQ:=xM.df4 q fun U=>vk U CC rR jO i8 j9 dN eU gY gI
 have xR:=xN.df3 q fun U=>vm U jO i8 gY dN j9 gI
 have vV:=vQ.df3 q fun U=>tw U jO j9 gY dN i8 gI
 have CP:=CL.df5 q fun U=>zX U bm rT dN ko
 have vW:=vR.df1 q fun U=>tz U eD jO gY dN i8 j9 ub
 have l8:=l6.df1 q fun U=>kT U bA
 have i9:=tX.df2 q fun U=>qj U cA
 have ge:=tY.df2 q fun U=>ql U
 have xS:=xO.df3 q fun U=>vp U
 have qw:=qt.df1 q fun U=>pL U bm cA xS ge i9
 have uc:=tZ.df3 q fun U=>qm U bA ge i9
 have xT:=xP.df3 q fun U=>vq U cB
 have nK:=nJ.df4 q fun U=>mY U cB rR rM xQ xT ge xR vV
 have ud:=t0.df5 q fun U=>qo U bm cA G7
 exact GD (P:=l.prog) (w:=w) (base:=base) Iz cB CG cA bm cj CP l8 vW ud ge jO nK i9 uc qw
end Fm
namespace Fm
def same (a b:Nat) (t:Tie):Bool:=(t.a == a && t.b == b) || (t.a == b && t.b == a)
theorem eS {a b:Nat}{t:Tie}:same a b t=true ↔ (t.a=a∧t.b=b)∨(t.a=b∧t.b=a):=by simp [same]
def vt (a b i j:Nat):Prop:=(i=a∧j=b)∨(i=b∧j=a)
def dH (T:List Tie) (a b:Nat) (x:Int):List Tie:=T.filter (fun t => !same a b t)++if 0 < x then [⟨a,b,x⟩] else []
theorem zY {i j:Nat}{t:Tie}(h:far i t=some j):(t.a=i∧t.b=j)∨(t.b=i∧t.a=j):=by
 unfold far at h
 by_cases a1:t.a=i
 ·rw [if_pos a1] at h;cases h;exact .inl ⟨a1,rfl⟩
 ·rw [if_neg a1] at h
  by_cases a2:t.b=i
  ·rw [if_pos a2] at h;cases h;exact .inr ⟨a2,rfl⟩
  ·rw [if_neg a2] at h;cases h
theorem pM {a b i j:Nat}{t:Tie}(h:far i t=some j):same a b t=true ↔ vt a b i j:=by
 rw [eS]
 unfold vt
 rcases zY h with ⟨e1,e2⟩|⟨e1,e2⟩
 ·rw [e1,e2]
 ·rw [e1,e2];exact⟨fun h=>h.elim (fun z=>.inr ⟨z.2,z.1⟩) (fun z=>.inl ⟨z.2,z.1⟩),fun h=>h.elim (fun z=>.inr ⟨z.2,z.1⟩) (fun z=>.inl ⟨z.2,z.1⟩)⟩
theorem GG {a b i j:Nat}(ne:a≠b){t:Tie}(hs:same a b t=true)(hp:vt a b i j):far i t=some j:=by
 rw [eS] at hs
 unfold far
 rcases hp with ⟨rfl,rfl⟩|⟨rfl,rfl⟩<;>rcases hs with ⟨e1,e2⟩|⟨e1,e2⟩
 ·rw [if_pos e1,e2]
 ·rw [if_neg (by omega),if_pos e2,e1]
 ·rw [if_neg (by omega),if_pos e2,e1]
 ·rw [if_pos e1,e2]
theorem rA {T:List Tie}{a b:Nat}(ne:a≠b){x:Int}{i:Nat}{p:Nat × Int}:p∈nbs (dH T a b x) i ↔ (p∈nbs T i ∧ ¬ vt a b i p.1)∨(0 < x∧vt a b i p.1∧p.2=x):=by
 rw [fy,fy]
 constructor
 ·rintro⟨t,ht,q1,q2⟩
  rcases YS ht with ht|ht
  ·obtain⟨h1,h2⟩:=YU ht
   refine .inl ⟨⟨t,h1,q1,q2⟩,fun z => ?_⟩
   rw [(pM q1).mpr z] at h2
   cases h2
  ·by_cases c:0 < x
   ·rw [if_pos c] at ht
    have e:t=⟨a,b,x⟩:=by simpa using ht
    subst e
    exact .inr ⟨c,(pM q1).mp (by simp [same]),q2.symm⟩
   ·rw [if_neg c] at ht;cases ht
 ·rintro (⟨⟨t,ht,q1,q2⟩,h⟩|⟨h1,h2,h3⟩)
  ·refine⟨t,List.mem_append.mpr (.inl (List.mem_filter.mpr ⟨ht,?_⟩)),q1,q2⟩
   cases c:same a b t with
   | false=>rfl
   | true=>exact absurd ((pM q1).mp c) h
  ·exact⟨⟨a,b,x⟩,List.mem_append.mpr (.inr (by rw [if_pos h1];simp)),GG ne (by simp [same]) h2,h3.symm⟩
theorem GH {n:Nat}(hn:n≤30){T:List Tie}(lt:∀ t∈T,t.a < n∧t.b < n)(un:T.Pairwise dE):T.length≤30 * n:=by
 have nd:(T.map fun t=>n * t.a + t.b).Nodup:=by
  rw [List.nodup_iff_pairwise_ne,List.pairwise_map]
  refine un.imp_of_mem fun {s t} hs ht u e => ?_
  have np:=ZS (Nat.zero_le _) (lt s hs).1
  have k1:∀ m M:Nat,M < n→(n * m + M) / n=m:=fun m M h=>by rw [Nat.mul_add_div np,Nat.div_eq_of_lt h];rfl
  have e1:(n * s.a + s.b) / n=(n * t.a + t.b) / n:=congrArg (· / n) e
  rw [k1 _ _ (lt s hs).2,k1 _ _ (lt t ht).2] at e1
  rw [e1] at e
  exact u.1 ⟨e1,Nat.add_left_cancel e⟩
 have l:=w6 nd (n:=n * n) fun x hx=>by
  obtain⟨t,ht,rfl⟩:=YR hx
  exact Nat.lt_of_lt_of_le (Nat.add_lt_add_left (lt t ht).2 _) (Nat.mul_le_mul_left n (lt t ht).1)
 rw [ZA] at l
 exact ZM l (Nat.mul_le_mul_right n hn)
theorem l4 {n:Nat}(hn:n≤30){T:List Tie}(O:TOk n n 0 T){a b:Nat}(ne:a≠b)(ha:a < n)(hb:b < n){x:Int}(hx:x≤400):TOk n n 0 (dH T a b x):=by
 have mem:∀ t∈dH T a b x,t∈T∧same a b t=false∨0 < x∧t=⟨a,b,x⟩:=fun t ht=>by
  rcases YS ht with ht|ht
  ·obtain⟨h1,h2⟩:=YU ht
   exact .inl ⟨h1,by simpa using h2⟩
  ·by_cases c:0 < x
   ·rw [if_pos c] at ht;exact .inr ⟨c,by simpa using ht⟩
   ·rw [if_neg c] at ht;cases ht
 have lt:∀ t∈dH T a b x,t.a < n∧t.b < n:=fun t ht=>by
  rcases mem t ht with ⟨h,_⟩|⟨_,rfl⟩
  ·exact O.lt t h
  ·exact⟨ha,hb⟩
 have un:(dH T a b x).Pairwise dE:=by
  unfold dH
  rw [List.pairwise_append]
  refine⟨O.un.filter _,by split<;>simp,fun s hs t ht => ?_⟩
  obtain⟨h1,h2⟩:=YU hs
  by_cases c:0 < x
  ·rw [if_pos c] at ht
   have e:t=⟨a,b,x⟩:=by simpa using ht
   subst e
   have h2:same a b s=false:=by simpa using h2
   refine⟨fun z => ?_,fun z => ?_⟩
   ·have:same a b s=true:=eS.mpr (.inl z)
    rw [this] at h2;cases h2
   ·have:same a b s=true:=eS.mpr (.inr z)
    rw [this] at h2;cases h2
  ·rw [if_neg c] at ht;cases ht
 refine⟨fun t ht => ?_,lt,fun t ht => ?_,fun t ht=>.inl (lt t ht),un,GH hn lt un⟩
 ·rcases mem t ht with ⟨h,_⟩|⟨_,rfl⟩
  ·exact O.ne t h
  ·exact ne
 ·rcases mem t ht with ⟨h,_⟩|⟨c,rfl⟩
  ·exact O.wt t h
  ·exact⟨by show 1≤x;omega,hx⟩
theorem zZ {n:Nat}{S T:List Tie}(OS:TOk n n 0 S)(OT:TOk n n 0 T)(bs:YF)(ss:YB)(h:∀ i,i < n → ∀ p,p∈nbs S i ↔ p∈nbs T i):aJ n S bs ss=aJ n T bs ss :=
 pC bs ss fun i hi=>pB (kH OS.un i) (kH OT.un i) (h i hi)
theorem Ci {n:Nat}(hn:n≤30){T:List Tie}(O:TOk n n 0 T){i:Nat}(hi:i < n)(p:Nat × Int):p∈nbs (ke n T) i ↔ p∈nbs T i:=by
 have:=(iM hn O).2 i hi
 rw [← dM (r:=nbs (ke n T) i),this,dM]
theorem xx {n:Nat}(hn:n≤30){T:List Tie}(O:TOk n n 0 T){a b:Nat}(ne:a≠b)(ha:a < n)(hb:b < n){x:Int}(hx:x≤400)(bs:YF)(ss:YB):aJ n (dH (ke n T) a b x) bs ss=aJ n (dH T a b x) bs ss :=
 zZ (l4 hn (iM hn O).1 ne ha hb hx) (l4 hn O ne ha hb hx) bs ss fun i hi p=>by rw [rA ne,rA ne,Ci hn O hi]
def mZ (T:List Tie) (a b:Nat):Int:=((T.filter (same a b)).map (·.w)).headD 0
theorem Cj:∀ {T:List Tie},T.Pairwise dE → ∀ s∈T,∀ t∈T,s=t∨dE s t
 | [],_,s,hs,_,_=>by cases hs
 | u :: T,h,s,hs,t,ht=>by
  obtain⟨h1,h2⟩:=List.pairwise_cons.mp h
  rcases YQ hs with e|hs<;>rcases YQ ht with e'|ht
  ·exact .inl (e.trans e'.symm)
  ·rw [e];exact .inr (h1 t ht)
  ·rw [e'];exact .inr (h1 s hs).symm
  ·exact Cj h2 s hs t ht
theorem Ck {T:List Tie}(un:T.Pairwise dE){a b:Nat}{s t:Tie}(hs:s∈T)(ht:t∈T)(e1:same a b s=true)(e2:same a b t=true):s=t:=by
 rcases Cj un s hs t ht with e|u
 ·exact e
 ·rw [eS] at e1 e2
  unfold dE at u
  omega
theorem GI {n:Nat}{T:List Tie}(O:TOk n n 0 T)(a b:Nat):0≤mZ T a b∧mZ T a b≤400:=by
 unfold mZ
 cases c:T.filter (same a b) with
 | nil=>simp
 | cons s r =>
  have hs':s∈T.filter (same a b):=by rw [c];simp
  have:=O.wt s (YU hs').1
  exact⟨by show 0≤s.w;omega,this.2⟩
end Fm
namespace Fm
theorem c9 {h:Hd}{j:Nat}{c:cP}(g:Hd)(e:h[j]? = some c):(h++g)[j]? = some c:=by rw [ZC (YO e).1];exact e
abbrev tD (n tk bk sk qk:Nat):D:=.tup [.int n,.ref tk,.ref bk,.ref sk,.ref qk]
theorem d6 {w:Web}{n:Nat}(W:w.Ok n){p:Nat}(hp:p < n)(h:Hd):bF [w.enc,.int p] h=.ok .non h:=by
 have e:(p:Int)≤(n:Int) - 1:=by omega
 have q:fI [w.enc,.int p] h=.ok (.bl true) h:=by simp [fI,bJ,runB,mO W,dC,e]
 simp [bF,bJ,runB,q]
theorem Ih (p q r s:Int)(h:Hd):oNe (.tup [.int p,.int q]) (.tup [.int r,.int s]) h=.ok (.bl (!decide (p=r∧q=s))) h:=by
 by_cases d1:p=r<;>by_cases d2:q=s<;>simp [peq,fW,dep,mj,d1,d2]
theorem Ii (t:Tie)(v:Option D)(h:Hd)(σ:Sd):aT (ae 0) pNo (pAt (fC (.int 2))) (some (aL t) :: σ) h=.ok (.tup [.int t.a,.int t.b]) h:=rfl
section
variable {n:Nat} (hn1:1≤n) (hn:n≤30) {T:List Tie} (O:TOk n n 0 T) {bs:YF} {ss:YB} (lb:bs.length=n) (ls:ss.length=n) (os:∀ x∈ss,x=none∨x=some 0∨x=some 1)
include hn1 hn O lb ls os
theorem vv {a b:Nat}(ne:a≠b)(ha:a < n)(hb:b < n){x:Int}(hx0:0≤x)(hx:x≤400)(h:Hd) :
  gF [(aJ n T bs ss).enc,.int a,.int b,.int x] h=.ok (aJ n (dH T a b x) bs ss).enc h:=by
 have W:=fF hn O lb ls
 obtain⟨w,hw⟩ : ∃ w,w=aJ n T bs ss:=⟨_,rfl⟩
 rw [← hw] at W ⊢
 have wb:w.bars=bs:=by rw [hw];rfl
 have ws:w.stays=ss:=by rw [hw];rfl
 obtain⟨S,hS⟩ : ∃ S,S=ke n T:=⟨_,rfl⟩
 have OS:TOk n n 0 S:=by rw [hS];exact (iM hn O).1
 have up:∀ t∈S,t.a < t.b:=fun t ht=>by rw [hS] at ht;exact (j6.mp ht).2.1
 obtain⟨A,hA⟩ : ∃ A,A=h.length:=⟨_,rfl⟩
 have to:=fz hn O lb ls h
 rw [← hw,← hS,← hA] at to
 have g1:(h++[cP.lst (S.map aL)])[A]? = some (.lst (S.map aL)):=aU hA 0
 obtain⟨P,hP⟩ : ∃ P:D,P=.tup [.int (if (b:Int) < a then b else a),.int (if (b:Int) > a then b else a)]:=⟨_,rfl⟩
 have c5:bS (some A) (S.map aL) (gN 0) [(tE (aw oNe (aT (ae 0) pNo (pAt (fC (.int 2)))) (ae 1)))] (ae 0) (S.map aL) [none,some P] (h++[.lst (S.map aL)])=.ok ((S.filter fun t => !same a b t).map aL) (h++[.lst (S.map aL)]):=by
  have:=b6 (g:=some A) (all:=S.map aL) (tg:=gN 0) (cs:=[(tE (aw oNe (aT (ae 0) pNo (pAt (fC (.int 2)))) (ae 1)))]) (e:=ae 0) (h:=(h++[.lst (S.map aL)])) (I:=fun σ=>∃ a,σ = [a,some P])
   (fun d=>match d with | .tup [.int i,.int j,.int x] => !same a b ⟨i.toNat,j.toNat,x⟩|_=>false) (fun d=>d) g1 (xs:=S.map aL) (σ:=[none,some P]) (by
   rintro x hx σ ⟨y,rfl⟩
   obtain⟨t,ht,rfl⟩:=YR hx
   refine⟨_,rfl,⟨_,rfl⟩,?_,fun _=>rfl⟩
   have q:oNe (.tup [.int t.a,.int t.b]) P (h++[.lst (S.map aL)])=.ok (.bl (!same a b t)) (h++[.lst (S.map aL)]):=by
    have lt:=up t ht
    rw [hP]
    by_cases c:a < b
    ·have c1 : ¬ (b:Int) < a:=by omega
     have c2:(b:Int) > a:=by omega
     have e:decide ((t.a:Int)=a∧(t.b:Int)=b)=same a b t:=by rw [Bool.eq_iff_iff,eS,decide_eq_true_eq];omega
     rw [if_neg c1,if_pos c2,Ih,e]
    ·have c1:(b:Int) < a:=by omega
     have c2 : ¬ (b:Int) > a:=by omega
     have e:decide ((t.a:Int)=b∧(t.b:Int)=a)=same a b t:=by rw [Bool.eq_iff_iff,eS,decide_eq_true_eq];omega
     rw [if_pos c1,if_neg c2,Ih,e]
   have k:=Ii t none (h++[.lst (S.map aL)]) [some P]
   show eF [(tE (aw oNe (aT (ae 0) pNo (pAt (fC (.int 2)))) (ae 1)))] [some (aL t),some P] (h++[.lst (S.map aL)])=.ok (!same a b t) (h++[.lst (S.map aL)])
   generalize aT (ae 0) pNo (pAt (fC (.int 2)))=E at k ⊢
   generalize (!same a b t)=bb at q ⊢
   simp only [eF,tE,aw,ae,slot,k,aA,List.getElem?_cons_succ,List.getElem?_cons_zero,q]
   cases bb<;>rfl) ⟨_,rfl⟩
  rw [this,List.map_id',List.filter_map]
  rfl
 obtain⟨F,hF⟩ : ∃ F,F=S.filter fun t => !same a b t:=⟨_,rfl⟩
 rw [← hF] at c5
 have lS:=OS.len
 have lF:F.length≤S.length:=by rw [hF];exact List.length_filter_le _ _
 have zF:(F.map aL).length < 1000:=by rw [ZA];omega
 have wS:dH S a b x=F++if 0 < x then [⟨a,b,x⟩] else []:=by rw [hF];rfl
 obtain⟨C1,hC1⟩ : ∃ C1:cP,C1=.lst (S.map aL):=⟨_,rfl⟩
 rw [← hC1] at c5 to
 have g1:(h++[C1])[A]? = some (.lst (S.map aL)):=by rw [hC1];exact aU hA 0
 have g2:(h++[C1,.lst (F.map aL)])[A + 1]? = some (.lst (F.map aL)):=aU hA 1
 have e6:sIf (fV (tE (au a9 (af (ae 3) (af (fC (.int 0)) (af (fC (.int 0)) ar)))))) (gK (nB (ae 5) (cW (af (ae 1) (af (ae 2) (af (ae 3) ar)))))) cm [some w.enc,some (.int a),some (.int b),some (.int x),some P,some (.ref (A + 1))] (h++[C1,.lst (F.map aL)])=.nx [some w.enc,some (.int a),some (.int b),some (.int x),some P,some (.ref (A + 1))] (h++[C1,.lst ((dH S a b x).map aL)]):=by
  have ib:=dC x 0 0 (h++[C1,.lst (F.map aL)])
  by_cases c:0 < x
  ·rw [show (decide (0≤x) && decide (x≤0))=false by simp;omega] at ib
   refine Eq.trans (mL (ee (b:=false) (bh (ao (ak rfl (a7 rfl rfl)) ib)))) ((dn (jB rfl g2 (cE (ak rfl (a7 rfl rfl))) g2 (Nat.lt_trans zF (by decide)))).trans ?_)
   rw [wS,if_pos c,ZR]
   exact congrArg (Out.nx _) (iI hA 1 _)
  ·rw [show (decide (0≤x) && decide (x≤0))=true by simp;omega] at ib
   rw [wS,if_neg c,List.append_nil]
   exact dw (ee (b:=true) (bh (ao (ak rfl (a7 rfl rfl)) ib)))
 have b3:=iN W (h++[C1,.lst ((dH S a b x).map aL)])
 rw [wb,ZB,← hA,ZU] at b3
 have b4:=gW W (h++[C1,.lst ((dH S a b x).map aL),.lst (bs.map .int)])
 rw [ws,ZB,← hA,ZU] at b4
 have OW:TOk n n 0 (dH S a b x):=l4 hn OS ne ha hb hx
 have wo:=iy hn1 hn OW lb ls os (h:=h++[C1,.lst ((dH S a b x).map aL),.lst (bs.map .int),.lst (ss.map bj)]) (tk:=A + 1) (bk:=A + 2) (sk:=A + 3) (aU hA 1) (aU hA 2) (aU hA 3)
 rw [hS,xx hn O ne ha hb hx,← hS] at wo
 exact Eq.trans (b7 (σ:=[some w.enc,some (.int a),some (.int b),some (.int x),none,none]) rfl rfl (sx (dn (ao (a7 rfl rfl) (d6 W ha h))) (sx (dn (ao (a7 rfl rfl) (d6 W hb h))) (sx (dw (bh (av rfl rfl (kF (by omega))))) (sx (az ((cE (a7 (B8 rfl rfl) (Gk rfl rfl))).trans (by rw [← hP]))) (sx (az (dY (g:=[C1]) hA (dZ (fY (ao (ak rfl rfl) to) g1) c5) (ZM (Nat.le_of_lt zF) (by decide)))) (sx e6 (bx (ao (ak (ao (ak rfl rfl) (mO W _)) (ak rfl (a7 (ao (ak rfl rfl) b3) (ao (ak rfl rfl) b4)))) wo))))))))) (cD (jG _))
theorem vw {p:Nat}(hp:p < n)(x:Int)(h:Hd) :
  gG [(aJ n T bs ss).enc,.int p,.int x] h=.ok (aJ n T (bs.set p x) ss).enc h:=by
 have W:=fF hn O lb ls
 obtain⟨w,hw⟩ : ∃ w,w=aJ n T bs ss:=⟨_,rfl⟩
 rw [← hw] at W ⊢
 obtain⟨A,hA⟩ : ∃ A,A=h.length:=⟨_,rfl⟩
 have b1:=iN W h
 rw [show w.bars=bs by rw [hw];rfl,← hA] at b1
 have lp:ixN (bs.map D.int).length (p:Int)=some p:=nU (by rw [ZA,lb];exact hp)
 have st:(h++[cP.lst (bs.map .int)]).set A (.lst ((bs.map D.int).set p (.int x)))=h++[.lst ((bs.set p x).map .int)]:=by rw [List.map_set];exact iI hA 0 _
 have to:=fz hn O lb ls (h++[.lst ((bs.set p x).map .int)])
 rw [← hw,ZB,← hA,ZU] at to
 have b4:=gW W (h++[.lst ((bs.set p x).map .int),.lst ((ke n T).map aL)])
 rw [show w.stays=ss by rw [hw];rfl,ZB,← hA,ZU] at b4
 have wo:=iy hn1 hn (iM hn O).1 (bs:=bs.set p x) (by rw [List.length_set,lb]) ls os (h:=h++[.lst ((bs.set p x).map .int),.lst ((ke n T).map aL),.lst (ss.map bj)]) (tk:=A + 1) (bk:=A) (sk:=A + 2) (aU hA 1) (aU hA 0) (aU hA 2)
 rw [kK hn O] at wo
 exact Eq.trans (b7 (σ:=[some w.enc,some (.int p),some (.int x),none]) rfl rfl (sx (dn (ao (a7 rfl rfl) (d6 W hp h))) (sx (az (ao (ak rfl rfl) b1)) (sx ((kE rfl rfl rfl (aU hA 0) lp).trans (congrArg (Out.nx _) st)) (bx (ao (ak (ao (ak rfl rfl) (mO W _)) (ak (ao (ak rfl rfl) to) (a7 rfl (ao (ak rfl rfl) b4)))) wo)))))) (cD (jG _))
theorem tF {p:Nat}(hp:p < n){x:Option Int}(hx:x=none∨x=some 0∨x=some 1)(h:Hd) :
  fJ [(aJ n T bs ss).enc,.int p,bj x] h=.ok (aJ n T bs (ss.set p x)).enc h:=by
 have W:=fF hn O lb ls
 obtain⟨w,hw⟩ : ∃ w,w=aJ n T bs ss:=⟨_,rfl⟩
 rw [← hw] at W ⊢
 obtain⟨A,hA⟩ : ∃ A,A=h.length:=⟨_,rfl⟩
 have b1:=gW W h
 rw [show w.stays=ss by rw [hw];rfl,← hA] at b1
 have lp:ixN (ss.map bj).length (p:Int)=some p:=nU (by rw [ZA,ls];exact hp)
 have st:(h++[cP.lst (ss.map bj)]).set A (.lst ((ss.map bj).set p (bj x)))=h++[.lst ((ss.set p x).map bj)]:=by rw [List.map_set];exact iI hA 0 _
 have to:=fz hn O lb ls (h++[.lst ((ss.set p x).map bj)])
 rw [← hw,ZB,← hA,ZU] at to
 have b4:=iN W (h++[.lst ((ss.set p x).map bj),.lst ((ke n T).map aL)])
 rw [show w.bars=bs by rw [hw];rfl,ZB,← hA,ZU] at b4
 have wo:=iy hn1 hn (iM hn O).1 (ss:=ss.set p x) lb (by rw [List.length_set,ls]) (fun y hy=>(List.mem_or_eq_of_mem_set hy).elim (os y) fun e=>e ▸ hx) (h:=h++[.lst ((ss.set p x).map bj),.lst ((ke n T).map aL),.lst (bs.map .int)]) (tk:=A + 1) (bk:=A + 2) (sk:=A) (aU hA 1) (aU hA 2) (aU hA 0)
 rw [kK hn O] at wo
 exact Eq.trans (b7 (σ:=[some w.enc,some (.int p),some (bj x),none]) rfl rfl (sx (dn (ao (a7 rfl rfl) (d6 W hp h))) (sx (az (ao (ak rfl rfl) b1)) (sx ((kE rfl rfl rfl (aU hA 0) lp).trans (congrArg (Out.nx _) st)) (bx (ao (ak (ao (ak rfl rfl) (mO W _)) (ak (ao (ak rfl rfl) to) (a7 (ao (ak rfl rfl) b4) rfl))) wo)))))) (cD (jG _))
end
end Fm
namespace Fm
theorem l5 {a b:EF}{σ:Sd}{h h1 h2:Hd}{n m:Nat}{l k:List D}(p:a σ h=.ok (.ref n) h1)(q:b σ h1=.ok (.ref m) h2)(r:h2[n]? = some (.lst l))(s:h2[m]? = some (.lst k))(t:l.length + k.length≤SZ):eA a b σ h=.ok (l++k) h2:=by
 simp only [eA,p,q,aA,r,s,if_pos t]
theorem vx {a:EF}{lo hi:OF}{σ:Sd}{h h1 h2 h3:Hd}{n:Nat}{i j:Option Int}{l:List D}(p:a σ h=.ok (.ref n) h1)(q:lo σ h1=.ok i h2)(r:hi σ h2=.ok j h3)(s:h3[n]? = some (.lst l)):aT a lo hi σ h=.ok (.ref h3.length) (h3++[.lst (cut l i j)]):=by
 simp only [aT,p,q,r,aA,gp,s]
theorem kU {g:YL}{all:List D}{tg:GF}{cs:List TF}{e:EF}{h:Hd}(I:Sd→Prop)(p:D→Bool)(f:D→D)(hold:∀ k,im g all (h++k)) :
  ∀ {xs:List D} {σ:Sd} {k:Hd},(∀ x∈xs,∀ σ k,I σ → ∃ σ',tg x σ = some σ'∧I σ' ∧ ∃ k',eF cs σ' (h++k)=.ok (p x) (h++k')∧(p x=true→e σ' (h++k')=.ok (f x) (h++k')))→I σ →
   ∃ k',bS g all tg cs e xs σ (h++k)=.ok ((xs.filter p).map f) (h++k')
 | [],σ,k,_,_=>⟨k,by simp [bS,hold k]⟩
 | x :: xs,σ,k,st,i=>by
  obtain⟨σ',h1,h2,k1,h3,h4⟩:=st x (by simp) σ k i
  obtain⟨k2,ih⟩:=kU I p f hold (xs:=xs) (σ := σ') (k:=k1) (fun y hy=>st y (by simp [hy])) h2
  refine⟨k2,?_⟩
  cases hp:p x with
  | true=>simp [bS,hold k,h1,h3,hp,h4 hp,ih]
  | false=>simp [bS,hold k,h1,h3,hp,ih]
theorem vy:∀ {xs ys:YF},xs.length=ys.length→fW (xs.map D.int) (ys.map D.int)=some (decide (xs=ys))
 | [],[],_=>rfl
 | x :: xs,y :: ys,h=>by
  have ih:=vy (xs:=xs) (ys:=ys) (by simpa using h)
  by_cases e:x=y
  ·subst e;simp [fW,peq,ih]
  ·simp [fW,peq,e,ih]
theorem yM {xs ys:YF}(h:xs.length=ys.length):eqL (xs.map D.int) (ys.map D.int)=some (decide (xs=ys)):=by
 have d4:∀ x:Int,dep (.int x)≤0:=fun x=>by simp [dep]
 have d:=eB d4 xs
 unfold eqL
 rw [if_pos (by omega),if_pos (by simpa using h),vy h]
theorem xy (p q:Int):cZ [p,q] = if p≤q then [p,q] else [q,p]:=rfl
theorem i6 (p q:Int):(cZ [p,q]).length=2:=by rw [xy];split<;>rfl
theorem vz (a b:Nat)(t:Tie):decide (cZ [(t.a:Int),t.b] = cZ [(a:Int),b])=same a b t:=by
 rw [Bool.eq_iff_iff,eS,decide_eq_true_eq,xy,xy]
 by_cases c1:(t.a:Int)≤t.b<;>by_cases c2:(a:Int)≤b
 ·rw [if_pos c1,if_pos c2];simp;omega
 ·rw [if_pos c1,if_neg c2];simp;omega
 ·rw [if_neg c1,if_pos c2];simp;omega
 ·rw [if_neg c1,if_neg c2];simp;omega
theorem pN (t:Tie)(a b:Nat)(H:Hd):∃ k:Hd,∀ {O:O2},(∀ h x y xs ys,h[x]? = some (.lst (List.map D.int xs))→h[y]? = some (.lst (List.map D.int ys))→xs.length=ys.length→O (.ref x) (.ref y) h=.ok (.bl (decide (xs=ys))) h) →
  aw O (aQ (bu (lOf (aT (ae 0) pNo (pAt (fC (.int 2))))))) (aQ (bu (af (ae 1) (af (ae 2) ar)))) [some (aL t),some (.int a),some (.int b)] H=.ok (.bl (same a b t)) (H++k):=by
 refine⟨[.lst ((cZ [(t.a:Int),t.b]).map .int),.lst ((cZ [(a:Int),b]).map .int)],fun {O} hO => ?_⟩
 have f1:aQ (bu (lOf (aT (ae 0) pNo (pAt (fC (.int 2)))))) [some (aL t),some (.int a),some (.int b)] H=.ok (.ref H.length) (H++[.lst ((cZ [(t.a:Int),t.b]).map .int)]):=by
  have k:=Ii t none H [some (.int a),some (.int b)]
  generalize aT (ae 0) pNo (pAt (fC (.int 2)))=E at k ⊢
  have z:=i6 t.a t.b
  have z2:(cZ [(t.a:Int),t.b]).length≤1000000:=by omega
  simp [k,dR,SZ,z2]
 obtain⟨H1,hH1⟩ : ∃ H1:Hd,H1=H++[.lst ((cZ [(t.a:Int),t.b]).map .int)]:=⟨_,rfl⟩
 rw [← hH1] at f1
 have f2:aQ (bu (af (ae 1) (af (ae 2) ar))) [some (aL t),some (.int a),some (.int b)] H1=.ok (.ref H1.length) (H1++[.lst ((cZ [(a:Int),b]).map .int)]):=by
  have z:=i6 a b
  have z2:(cZ [(a:Int),b]).length≤1000000:=by omega
  simp [dR,SZ,z2]
 obtain⟨H2,hH2⟩ : ∃ H2:Hd,H2=H1++[.lst ((cZ [(a:Int),b]).map .int)]:=⟨_,rfl⟩
 rw [← hH2] at f2
 have q:=hO H2 H.length H1.length (cZ [(t.a:Int),t.b]) (cZ [(a:Int),b]) (by rw [hH2];exact c9 _ (by rw [hH1];simp)) (by rw [hH2];simp) (by rw [i6,i6])
 rw [vz] at q
 generalize aQ (bu (lOf (aT (ae 0) pNo (pAt (fC (.int 2))))))=E1 at f1 ⊢
 generalize aQ (bu (af (ae 1) (af (ae 2) ar)))=E2 at f2 ⊢
 have eH:H++[cP.lst ((cZ [(t.a:Int),t.b]).map .int),.lst ((cZ [(a:Int),b]).map .int)] = H2:=by rw [hH2,hH1];simp
 rw [eH]
 simp only [aw,f1,f2,aA,q]
theorem D6 {T:List Tie}{tk:Nat}{h:Hd}(ht:h[tk]? = some (.lst (T.map aL)))(a b:Nat):∃ k1,bS (some tk) (T.map aL) (gN 0) [(tE (aw oNe (aQ (bu (lOf (aT (ae 0) pNo (pAt (fC (.int 2))))))) (aQ (bu (af (ae 1) (af (ae 2) ar))))))] (ae 0) (T.map aL) [none,some (.int a),some (.int b)] h=.ok ((T.filter fun t => !same a b t).map aL) (h++k1):=by
 have hnt:∀ {H:Hd} {t:Tie},∃ k,eF [(tE (aw oNe (aQ (bu (lOf (aT (ae 0) pNo (pAt (fC (.int 2))))))) (aQ (bu (af (ae 1) (af (ae 2) ar))))))] [some (aL t),some (.int a),some (.int b)] H=.ok (!same a b t) (H++k):=fun {H t}=>by
  obtain⟨k,hk⟩:=pN t a b H
  refine⟨k,?_⟩
  have q:=hk (O:=fun x y h=>match oNe x y h with | .ok (.bl b) h=>.ok (.bl (!b)) h|r=>r) (fun h x y xs ys e1 e2 l=>by simp [e1,e2,yM l])
  simp only [aw] at q
  cases c1:aQ (bu (lOf (aT (ae 0) pNo (pAt (fC (.int 2)))))) [some (aL t),some (.int a),some (.int b)] H with
  | bad=>rw [c1] at q;cases q
  | exc z h7=>rw [c1] at q;cases q
  | ok u h7 =>
   rw [c1] at q
   simp only [aA] at q
   cases c2:aQ (bu (af (ae 1) (af (ae 2) ar))) [some (aL t),some (.int a),some (.int b)] h7 with
   | bad=>rw [c2] at q;cases q
   | exc z h8=>rw [c2] at q;cases q
   | ok v h8 =>
    rw [c2] at q
    simp only [aA] at q
    simp only [eF,tE,aw,c1,c2,aA]
    cases c3:oNe u v h8 with
    | bad=>rw [c3] at q;cases q
    | exc z h9=>rw [c3] at q;cases q
    | ok r h9 =>
     rw [c3] at q
     cases r<;>simp only at q<;>try (cases q;done)
     rename_i bb
     simp only [Res.ok.injEq,D.bl.injEq] at q
     obtain⟨q1,q2⟩:=q
     rw [← q1,← q2]
     cases bb<;>rfl
 obtain⟨k1,c⟩:=kU (g:=some tk) (all:=T.map aL) (tg:=gN 0) (cs:=[(tE (aw oNe (aQ (bu (lOf (aT (ae 0) pNo (pAt (fC (.int 2))))))) (aQ (bu (af (ae 1) (af (ae 2) ar))))))]) (e:=ae 0) (h:=h) (I:=fun σ=>∃ z,σ = [z,some (.int a),some (.int b)])
  (fun d=>match d with | .tup [.int i,.int j,.int x] => !same a b ⟨i.toNat,j.toNat,x⟩|_=>false) (fun d=>d) (fun k=>c9 k ht) (xs:=T.map aL) (σ:=[none,some (.int a),some (.int b)]) (k:=[]) (by
  rintro y hy σ k ⟨z,rfl⟩
  obtain⟨t,ht,rfl⟩:=YR hy
  obtain⟨k2,q⟩:=hnt (H:=h++k) (t:=t)
  rw [ZU] at q
  exact⟨_,rfl,⟨_,rfl⟩,k++k2,q,fun _=>rfl⟩) ⟨_,rfl⟩
 rw [List.append_nil,List.map_id',List.filter_map] at c
 have c:bS (some tk) (T.map aL) (gN 0) [(tE (aw oNe (aQ (bu (lOf (aT (ae 0) pNo (pAt (fC (.int 2))))))) (aQ (bu (af (ae 1) (af (ae 2) ar))))))] (ae 0) (T.map aL) [none,some (.int a),some (.int b)] h=.ok ((T.filter fun t => !same a b t).map aL) (h++k1):=c
 exact⟨k1,c⟩
theorem D7 {T:List Tie}{tk:Nat}{h:Hd}(ht:h[tk]? = some (.lst (T.map aL)))(a b:Nat):∃ k1,bS (some tk) (T.map aL) (gN 0) [(tE (aw oEq (aQ (bu (lOf (aT (ae 0) pNo (pAt (fC (.int 2))))))) (aQ (bu (af (ae 1) (af (ae 2) ar))))))] (fAt (ae 0) (fC (.int 2))) (T.map aL) [none,some (.int a),some (.int b)] h=.ok (((T.filter (same a b)).map (·.w)).map D.int) (h++k1):=by
 have hnt:∀ {H:Hd} {t:Tie},∃ k,eF [(tE (aw oEq (aQ (bu (lOf (aT (ae 0) pNo (pAt (fC (.int 2))))))) (aQ (bu (af (ae 1) (af (ae 2) ar))))))] [some (aL t),some (.int a),some (.int b)] H=.ok (same a b t) (H++k):=fun {H t}=>by
  obtain⟨k,hk⟩:=pN t a b H
  refine⟨k,?_⟩
  have q:=hk (O:=oEq) (fun h x y xs ys e1 e2 l=>by simp [e1,e2,yM l])
  generalize aw oEq (aQ (bu (lOf (aT (ae 0) pNo (pAt (fC (.int 2))))))) (aQ (bu (af (ae 1) (af (ae 2) ar))))=E at q ⊢
  simp only [eF,tE,q]
  cases same a b t<;>rfl
 obtain⟨k1,c⟩:=kU (g:=some tk) (all:=T.map aL) (tg:=gN 0) (cs:=[(tE (aw oEq (aQ (bu (lOf (aT (ae 0) pNo (pAt (fC (.int 2))))))) (aQ (bu (af (ae 1) (af (ae 2) ar))))))]) (e:=fAt (ae 0) (fC (.int 2))) (h:=h) (I:=fun σ=>∃ z,σ = [z,some (.int a),some (.int b)])
  (fun d=>match d with | .tup [.int i,.int j,.int x]=>same a b ⟨i.toNat,j.toNat,x⟩|_=>false) (fun d=>match d with | .tup [_,_,x]=>x|_=>.non) (fun k=>c9 k ht) (xs:=T.map aL) (σ:=[none,some (.int a),some (.int b)]) (k:=[]) (by
  rintro y hy σ k ⟨z,rfl⟩
  obtain⟨t,ht,rfl⟩:=YR hy
  obtain⟨k2,q⟩:=hnt (H:=h++k) (t:=t)
  rw [ZU] at q
  exact⟨_,rfl,⟨_,rfl⟩,k++k2,q,fun _=>rfl⟩) ⟨_,rfl⟩
 rw [List.append_nil,List.filter_map,List.map_map] at c
 have c:bS (some tk) (T.map aL) (gN 0) [(tE (aw oEq (aQ (bu (lOf (aT (ae 0) pNo (pAt (fC (.int 2))))))) (aQ (bu (af (ae 1) (af (ae 2) ar))))))] (fAt (ae 0) (fC (.int 2))) (T.map aL) [none,some (.int a),some (.int b)] h=.ok (((T.filter (same a b)).map (·.w)).map D.int) (h++k1):=by
  rw [c,List.map_map];rfl
 exact⟨k1,c⟩
theorem GJ {n:Nat}(hn:n≤30){T:List Tie}(O:TOk n n 0 T){tk:Nat}{h:Hd}(ht:h[tk]? = some (.lst (T.map aL)))(a b:Nat):lW [.ref tk,.int a,.int b] h=.ok (.int (mZ T a b)) h:=by
 obtain⟨k1,c⟩:=D7 ht a b
 obtain⟨F,hF⟩ : ∃ F,F=(T.filter (same a b)).map (·.w):=⟨_,rfl⟩
 rw [← hF] at c
 have lT:=O.len
 have lF:F.length≤T.length:=by rw [hF,ZA];exact List.length_filter_le _ _
 have zF:(F.map D.int).length + 1≤1000:=by simp;omega
 obtain⟨A,hA⟩ : ∃ A,A=(h++k1).length:=⟨_,rfl⟩
 have at0:atI (F.map .int++[.int 0]) 0=some (.int (mZ T a b)):=by
  have:mZ T a b=F.headD 0:=by rw [hF];rfl
  rw [this]
  cases F with
  | nil=>rfl
  | cons x r=>exact cu (i:=0) rfl
 refine Eq.trans (b7 (σ:=[some (.ref tk),some (.int a),some (.int b),none]) rfl rfl (sx (az (j0 hA (dZ (fY rfl ht) c) (ZM (ZM (Nat.le_succ _) zF) (by decide)))) (bx (aH (dY (g:=[.lst (F.map .int),.lst [.int 0]]) hA (l5 rfl (dY (g:=[.lst (F.map .int)]) hA (ak rfl rfl) (by exact of_decide_eq_true rfl)) (aU hA 0) (aU hA 1) (ZM zF (by decide))) (by rw [ZB];exact ZM zF (by decide))) rfl (bd (by exact aU hA 2)) at0)))) ?_
 rw [ZU]
 exact cD rfl
theorem yN (l:List D){p:Nat}(hp:p < l.length):cut l none (some (p:Int))=l.take p:=by
 have : ¬ (p:Int) < 0:=by omega
 simp [cut,sIx,this,Nat.min_eq_left (Nat.le_of_lt hp)]
theorem yO (l:List D){p:Nat}(hp:p < l.length):cut l (some ((p:Int) + 1)) none=l.drop (p + 1):=by
 have h1 : ¬ (p:Int) + 1 < 0:=by omega
 have h2:((p:Int) + 1).toNat=p + 1:=by omega
 have h3:min (p + 1) l.length=p + 1:=Nat.min_eq_left hp
 simp only [cut,sIx,if_neg h1,h2,h3]
 rw [List.take_of_length_le (by simp)]
end Fm
namespace Fm
theorem Cl (t:Tie)(T:List Tie)(i:Nat):nbs (t :: T) i=(match far i t with|some j=>[(j,t.w)] | none=>[])++nbs T i:=by
 unfold nbs
 cases e:far i t<;>simp [List.filterMap_cons,e]
theorem xz (r r':YC)(s:YF):bq (r++r') s=bq r s + bq r' s:=by
 induction r with
 | nil=>simp [bq,j4]
 | cons p r ih=>rw [List.cons_append,dG,dG,ih];exact (Int.add_assoc _ _ _).symm
def phi (s:YF) (i:Nat) (t:Tie):Int:=match far i t with|some j=>if s.getD j 0=1 then t.w else 0|none=>0
theorem kW (s:YF)(i:Nat):∀ T:List Tie,bq (nbs T i) s=(T.map (phi s i)).sum
 | []=>rfl
 | t :: T=>by
  rw [Cl,xz,kW s i T,XC,List.sum_cons]
  congr 1
  unfold phi
  cases far i t with
  | none=>rfl
  | some j =>
   show bq [(j,t.w)] s=if s.getD j 0=1 then t.w else 0
   rw [dG,show bq [] s=0 from rfl,Int.add_zero]
theorem rC (f:Tie→Int)(p:Tie→Bool):∀ T:List Tie,(T.map f).sum=((T.filter p).map f).sum + ((T.filter fun t => !p t).map f).sum
 | []=>rfl
 | t :: T=>by
  rw [XC,List.sum_cons,rC f p T]
  cases c:p t with
  | true=>rw [List.filter_cons,if_pos c,List.filter_cons,if_neg (by simp [c]),XC,List.sum_cons];omega
  | false=>rw [List.filter_cons,if_neg (by simp [c]),List.filter_cons,if_pos (by simp [c]),XC,List.sum_cons];omega
theorem Cm {f g:Tie→Int}:∀ {T:List Tie},(∀ t∈T,f t≤g t)→(T.map f).sum≤(T.map g).sum
 | [],_=>Int.le_refl _
 | t :: T,h=>by
  rw [XC,List.sum_cons,XC,List.sum_cons]
  have:=h t ZV
  have:=Cm fun t ht=>h t (ZW _ ht)
  omega
theorem vA {a b:YF}(Ba:kL a)(Bb:kL b)(le:LeS a b){i:Nat}{t:Tie}{x:Int}(h0:0≤t.w)(hx:t.w≤x):phi a i t≤phi b i ⟨t.a,t.b,x⟩:=by
 unfold phi
 rw [show far i ⟨t.a,t.b,x⟩ = far i t from rfl]
 cases far i t with
 | none=>exact Int.le_refl _
 | some j =>
  have l:=le j
  rcases Ba j with e|e<;>rcases Bb j with e'|e'
  all_goals simp only [e,e'] at l ⊢
  all_goals simp
  all_goals omega
theorem GK {b:YF}{i:Nat}{t:Tie}(h0:0≤t.w):0≤phi b i t:=by
 unfold phi
 cases far i t with
 | none=>exact Int.le_refl _
 | some j=>dsimp only;split<;>omega
theorem Cn {i:Nat}{t:Tie}{a b:Nat}{x:Int}(ne:t.a≠t.b)(h:same a b t=true):far i ⟨a,b,x⟩ = far i t:=by
 rcases eS.mp h with ⟨e1,e2⟩|⟨e1,e2⟩
 ·unfold far;rw [e1,e2]
 ·unfold far
  rw [e1,e2] at ne
  rw [e1,e2]
  show (if a=i then some b else if b=i then some a else none)=if b=i then some a else if a=i then some b else none
  by_cases c1:a=i
  ·rw [if_pos c1,if_neg (fun z=>ne (z.trans c1.symm)),if_pos c1]
  ·rw [if_neg c1]
   by_cases c2:b=i
   ·rw [if_pos c2,if_pos c2]
   ·rw [if_neg c2,if_neg c2,if_neg c1]
theorem z0 {n:Nat}{T:List Tie}(O:TOk n n 0 T){p o:Nat}{x:Int}(hx:mZ T p o≤x){a b:YF}(Ba:kL a)(Bb:kL b)(le:LeS a b)(i:Nat):bq (nbs T i) a≤bq (nbs (dH T p o x) i) b:=by
 rw [kW,kW,rC (phi a i) (same p o) T]
 unfold dH
 rw [ZR,List.sum_append]
 have h1:((T.filter fun t => !same p o t).map (phi a i)).sum≤((T.filter fun t => !same p o t).map (phi b i)).sum:=Cm fun t ht=>vA Ba Bb le (by have:=(O.wt t (YU ht).1).1;omega) (Int.le_refl _)
 have h2:((T.filter (same p o)).map (phi a i)).sum≤((if 0 < x then [(⟨p,o,x⟩ : Tie)] else []).map (phi b i)).sum:=by
  cases c:T.filter (same p o) with
  | nil =>
   rw [List.map_nil,List.sum_nil]
   split
   ·rw [XC,List.map_nil,List.sum_cons,List.sum_nil,Int.add_zero];exact GK (by show 0≤x;omega)
   ·exact Int.le_refl _
  | cons t r =>
   have mt:t∈T.filter (same p o):=by rw [c];exact ZV
   obtain⟨tT,st⟩:=YU mt
   have hr:r=[]:=by
    cases r with
    | nil=>rfl
    | cons u r =>
     exfalso
     have un:=O.un.sublist (List.filter_sublist (p:=same p o))
     rw [c] at un
     have mu:u∈T.filter (same p o):=by rw [c];exact ZW _ ZV
     have e:=Ck O.un tT (YU mu).1 st (YU mu).2
     have ul:=(List.pairwise_cons.mp un).1 u ZV
     rw [← e] at ul
     exact ul.1 ⟨rfl,rfl⟩
   have ow:mZ T p o=t.w:=by unfold mZ;rw [c];rfl
   have w1:=(O.wt t tT).1
   rw [if_pos (by omega),hr,XC,XC,List.map_nil,List.map_nil,List.sum_cons,List.sum_cons,List.sum_nil,Int.add_zero,Int.add_zero]
   have q:=vA Ba Bb le (i:=i) (t:=t) (x:=x) (by omega) (by omega)
   have e:phi b i ⟨p,o,x⟩ = phi b i ⟨t.a,t.b,x⟩:=by
    unfold phi
    rw [Cn (x:=x) (O.ne t tT) st,show far i ⟨t.a,t.b,x⟩ = far i t from rfl]
   rw [e];exact q
 omega
section
variable {n:Nat} {T:List Tie} {bs:YF} {ss:YB}
theorem rE (bs:YF)(ss:YB){p:Nat}(hp:p < n)(s:YF):bq ((aJ n T bs ss).ties.getD p []) s=bq (nbs T p) s:=by rw [rj hp,vc]
theorem tG (os:∀ x∈ss,x=none∨x=some 0∨x=some 1)(ls:ss.length=n){p:Nat}(hp:p < n):(ss.getD p none=none∧ss.getD p none=none)∨ss.getD p none=some 0∨ss.getD p none=some 1:=by
 have m:ss.getD p none∈ss:=by rw [ZF,ZE (by omega)];exact XE _
 rcases os _ m with e|e|e
 ·exact .inl ⟨e,e⟩
 ·exact .inr (.inl e)
 ·exact .inr (.inr e)
theorem Co (O:TOk n n 0 T)(ls:ss.length=n)(os:∀ x∈ss,x=none∨x=some 0∨x=some 1){p o:Nat}{x:Int}(hx:mZ T p o≤x):xb (aJ n T bs ss) (aJ n (dH T p o x) bs ss) n :=
 sV os os (fun q hq a b Ba Bb le=>by rw [rE bs ss hq,rE bs ss hq];exact z0 O hx Ba Bb le q) (fun _ _=>Int.le_refl _) fun q hq=>tG os ls hq
theorem rF (O:TOk n n 0 T){a b:YF}(Bb:kL b)(le:LeS a b)(i:Nat):bq (nbs T i) a≤bq (nbs T i) b:=by
 refine nu Bb le fun p hp => ?_
 obtain⟨t,ht,_,e⟩:=fy.mp hp
 rw [← e]
 have:=(O.wt t ht).1
 omega
theorem Cp (O:TOk n n 0 T)(lb:bs.length=n)(ls:ss.length=n)(os:∀ x∈ss,x=none∨x=some 0∨x=some 1){p:Nat}(hp:p < n){x:Int}(hx:x≤bs.getD p 0):xb (aJ n T bs ss) (aJ n T (bs.set p x) ss) n :=
 sV os os (fun q hq a b Ba Bb le=>by rw [rE bs ss hq,rE (bs.set p x) ss hq];exact rF O Bb le q) (fun q hq=>by
  show (bs.set p x).getD q 0≤bs.getD q 0
  by_cases e:q=p
  ·subst e
   rw [ZF,List.getElem?_set_self (by omega)];exact hx
  ·rw [ZF,ZP (fun z=>e z.symm),← ZF];exact Int.le_refl _) fun q hq=>tG os ls hq
theorem xA (os:∀ x∈ss,x=none∨x=some 0∨x=some 1){p:Nat}{u:Option Int}(hu:u=none∨u=some 0∨u=some 1):∀ x∈ss.set p u,x=none∨x=some 0∨x=some 1:=fun x hx =>
 (List.mem_or_eq_of_mem_set hx).elim (os x) fun e=>e ▸ hu
theorem rG (O:TOk n n 0 T)(ls:ss.length=n)(os:∀ x∈ss,x=none∨x=some 0∨x=some 1){p:Nat}(hp:p < n){u:Option Int}(hu:u=none∨u=some 0∨u=some 1)(c:ss.getD p none=some 0∨u=some 1):xb (aJ n T bs ss) (aJ n T bs (ss.set p u)) n :=
 sV os (xA os hu) (fun q hq a b Ba Bb le=>by rw [rE bs ss hq,rE bs (ss.set p u) hq];exact rF O Bb le q) (fun _ _=>Int.le_refl _) fun q hq=>by
  show (ss.getD q none=none∧(ss.set p u).getD q none=none)∨ss.getD q none=some 0∨(ss.set p u).getD q none=some 1
  by_cases e:q=p
  ·subst e
   have:(ss.set q u).getD q none=u:=by rw [ZF,List.getElem?_set_self (by omega)];rfl
   rw [this]
   exact .inr c
  ·have:(ss.set p u).getD q none=ss.getD q none:=by rw [ZF,ZP (fun z=>e z.symm),← ZF]
   rw [this]
   exact tG os ls hq
end
end Fm
namespace Fm
theorem gk {h0:Hd}{A:Nat}(hA:A=h0.length)(c t:Int)(b:Bool)(g:Hd){m:Int}(hm:0 < m)(hm2:m < 2 ^ 250):∃ v c' t',aK [.ref A,.int m] (h0++SC c t b :: g)=.ok (.int v) (h0++SC c' t' b :: g)∧0≤v∧v < m:=by
 have g0:(h0++SC c t b :: g)[A]? = some (SC c t b):=aU hA 0
 obtain⟨v,c',t',q,v0,v1⟩:=pk g0 hm hm2
 have e:(h0++SC c t b :: g).set A (SC c' t' b)=h0++SC c' t' b :: g:=iI hA 0 _
 exact⟨v,c',t',q.trans (by rw [← e]),v0,v1⟩
abbrev NEC:TF:=(tE (aw oNe (aQ (bu (lOf (aT (ae 0) pNo (pAt (fC (.int 2))))))) (aQ (bu (af (ae 1) (af (ae 2) ar))))))
noncomputable abbrev OO0:SF:=(aP (gT [4,5,6,7,8]) (ae 0))
noncomputable abbrev OO1:SF:=(aP (gN 9) (au aK (af (ae 3) (af (fC (.int 3)) ar))))
noncomputable abbrev OO2:SF:=(aP (gN 10) (au aK (af (ae 3) (af (ae 4) ar))))
noncomputable abbrev OO3:SF:=(aP (gN 11) (au aK (af (ae 3) (af (fC (.int 40)) ar))))
noncomputable abbrev OT:TF:=(mf (tE (aw oEq (ae 9) (fC (.int 0)))) (tE (aw oGt (ae 4) (fC (.int 1)))))
noncomputable abbrev OU:TF:=(tE (aw oEq (ae 9) (fC (.int 1))))
noncomputable abbrev OA0:SF:=(aP (gN 12) (aw ij (aw cV (aw cV (ae 10) (fC (.int 1))) (au aK (af (ae 3) (af (aw gJ (ae 4) (fC (.int 1))) ar)))) (ae 4)))
noncomputable abbrev OA1:SF:=(aP (gN 13) (wE (fC (.int 400)) (aw cV (au lW (af (ae 5) (af (ae 10) (af (ae 12) ar)))) (ae 11))))
noncomputable abbrev OA2:SF:=(aP (gN 5) (aQ (ce 1 [10,12] (d7 (ae 5)) (gN 0) [NEC] (ae 0))))
noncomputable abbrev OA3:SF:=(sIf (tE (aw oGt (ae 13) (fC (.int 0)))) (aP (gN 5) (aQ (eA (ae 5) (aQ (af (cW (af (ae 10) (af (ae 12) (af (ae 13) ar)))) ar))))) cm)
noncomputable abbrev OA4:SF:=(aP (gN 1) (au gF (af (ae 1) (af (ae 10) (af (ae 12) (af (ae 13) ar))))))
noncomputable abbrev OB0:SF:=(aP (gN 6) (aQ (eA (aQ (eA (aT (ae 6) pNo (pAt (ae 10))) (aQ (af (aw gJ (fAt (ae 6) (ae 10)) (ae 11)) ar)))) (aT (ae 6) (pAt (aw cV (ae 10) (fC (.int 1)))) pNo))))
noncomputable abbrev OB1:SF:=(aP (gN 1) (au gG (af (ae 1) (af (ae 10) (af (fAt (ae 6) (ae 10)) ar)))))
noncomputable abbrev OC0:SF:=(aP (gN 14) (fIx (af (fC (.int 1)) (af (fC .non) ar)) (AE (aw oEq (fAt (ae 7) (ae 10)) (fC (.int 0))))))
noncomputable abbrev OC1:SF:=(aP (gN 7) (aQ (eA (aQ (eA (aT (ae 7) pNo (pAt (ae 10))) (aQ (af (ae 14) ar)))) (aT (ae 7) (pAt (aw cV (ae 10) (fC (.int 1)))) pNo))))
noncomputable abbrev OC2:SF:=(aP (gN 1) (au fJ (af (ae 1) (af (ae 10) (af (ae 14) ar)))))
noncomputable abbrev OC3:SF:=(sIf (tE (aw oEq (ae 14) (fC (.int 1)))) (aP (gN 2) (aw lH (aw lH (aT (ae 2) pNo (pAt (ae 10))) (cW (af (fC (.int 1)) ar))) (aT (ae 2) (pAt (aw cV (ae 10) (fC (.int 1)))) pNo))) cm)
noncomputable abbrev OR:SF:=(bC (cW (af (cW (af (ae 4) (af (ae 5) (af (ae 6) (af (ae 7) (af (ae 8) ar)))))) (af (ae 1) (af (ae 2) ar)))))
theorem GL:eQ=bJ 4 15 (ay OO0 (ay OO1 (ay OO2 (ay OO3 (ay (sIf OT (ay OA0 (ay OA1 (ay OA2 (ay OA3 OA4)))) (sIf OU (ay OB0 OB1) (ay OC0 (ay OC1 (ay OC2 OC3))))) OR))))):=rfl
noncomputable abbrev XF (td:D) (w:D) (s:D) (A n tk bk sk qk:Nat) (v:Int) (p:Nat) (u:Int) (x12 x13 x14:Option D):Sd:=[some td,some w,some s,some (.ref A),some (.int n),some (.ref tk),some (.ref bk),some (.ref sk),some (.ref qk),some (.int v),some (.int p),some (.int u),x12,x13,x14]
def yP (n:Nat) (T:List Tie) (bs:YF) (ss:YB) (s:YF) (td:D) (qk A:Nat) (h:Hd) (v:Int) (p:Nat) (u:Int) (o:Out):Prop :=
 ∃ (T':List Tie) (bs':YF) (ss':YB) (s':YF) (tk' bk' sk':Nat) (x12 x13 x14:Option D) (g:Hd),o=.nx (XF td (aJ n T' bs' ss').enc (aE s') A n tk' bk' sk' qk v p u x12 x13 x14) (h++g) ∧
  fP n T' bs' ss' tk' bk' sk' (h++g)∧TOk n n 0 T'∧bs'.length=n∧ss'.length=n∧(∀ x∈ss',x=none∨x=some 0∨x=some 1)∧kJ n ss' s'∧LeS s s'∧xb (aJ n T bs ss) (aJ n T' bs' ss') n
section
variable {n:Nat} {T:List Tie} {bs:YF} {ss:YB} {s:YF} {td:D} {tk bk sk qk A:Nat} {h:Hd} {c t:Int} {b:Bool} {g:Hd}
theorem brA (hn1:1 < n)(hn:n≤30)(O:TOk n n 0 T)(lb:bs.length=n)(ls:ss.length=n)(os:∀ x∈ss,x=none∨x=some 0∨x=some 1)(F:kJ n ss s)(hA:A=h.length)(P:fP n T bs ss tk bk sk h)(v:Int){p:Nat}(hp:p < n){u:Int}(hu:0≤u) :
  yP n T bs ss s td qk A h v p u (ay OA0 (ay OA1 (ay OA2 (ay OA3 OA4))) (XF td (aJ n T bs ss).enc (aE s) A n tk bk sk qk v p u none none none) (h++SC c t b :: g)):=by
 obtain⟨w,hw⟩ : ∃ w,w=aJ n T bs ss:=⟨_,rfl⟩
 obtain⟨d,c1,t1,q1,d0,d1⟩:=gk hA c t b g (m:=(n:Int) - 1) (by omega) (Int.lt_of_le_of_lt (b:=30) (by omega) (by decide))
 obtain⟨o,ho,hon,hop⟩ : ∃ o:Nat,((p:Int) + 1 + d) % (n:Int)=(o:Int)∧o < n∧p≠o:=by
  by_cases c:(p:Int) + 1 + d < n
  ·exact⟨((p:Int) + 1 + d).toNat,by rw [Int.emod_eq_of_lt (by omega) c];omega,by omega,by omega⟩
  ·refine⟨((p:Int) + 1 + d - n).toNat,?_,by omega,by omega⟩
   have e:(p:Int) + 1 + d=((p:Int) + 1 + d - n) + n:=by omega
   rw [e,Int.add_emod_right,Int.emod_eq_of_lt (by omega) (by omega)]
   omega
 obtain⟨H1,hH1⟩ : ∃ H1:Hd,H1=h++SC c1 t1 b :: g:=⟨_,rfl⟩
 rw [← hH1] at q1
 have P1:fP n T bs ss tk bk sk H1:=by rw [hH1];exact P.more _
 have md:ij (.int ((p:Int) + 1 + d)) (.int n) H1=.ok (.int o) H1:=(hU (by omega)).trans (by rw [ho])
 have oq:=GJ hn O P1.ti p o
 have ol:=GI O p o
 obtain⟨x,hx⟩ : ∃ x:Int,x=if mZ T p o + u < 400 then mZ T p o + u else 400:=⟨_,rfl⟩
 have x0:0≤x∧x≤400∧mZ T p o≤x:=by rw [hx];split<;>omega
 obtain⟨k1,cp⟩:=D6 P1.ti p o
 obtain⟨Fl,hF⟩ : ∃ Fl,Fl=T.filter fun t => !same p o t:=⟨_,rfl⟩
 rw [← hF] at cp
 have lT:=O.len
 have lF:Fl.length≤T.length:=by rw [hF];exact List.length_filter_le _ _
 have zF:(Fl.map aL).length + 1≤1000:=by rw [ZA];omega
 obtain⟨B,hB⟩ : ∃ B,B=(H1++k1).length:=⟨_,rfl⟩
 have wS:dH T p o x=Fl++if 0 < x then [⟨p,o,x⟩] else []:=by rw [hF];rfl
 obtain⟨tk',g3,e3,g3t⟩ : ∃ tk' g3,OA3 (XF td w.enc (aE s) A n B bk sk qk v p u (some (.int o)) (some (.int x)) none) (H1++k1++[.lst (Fl.map aL)])=.nx (XF td w.enc (aE s) A n tk' bk sk qk v p u (some (.int o)) (some (.int x)) none) (H1++k1++g3)∧(H1++k1++g3)[tk']? = some (.lst ((dH T p o x).map aL)):=by
  by_cases dx:0 < x
  ·have n1:aQ (af (cW (af (ae 10) (af (ae 12) (af (ae 13) ar)))) ar) (XF td w.enc (aE s) A n B bk sk qk v p u (some (.int o)) (some (.int x)) none) (H1++k1++[.lst (Fl.map aL)])=.ok (.ref (B + 1)) (H1++k1++[.lst (Fl.map aL),.lst [aL ⟨p,o,x⟩]]):=dY (g:=[.lst (Fl.map aL)]) hB (ak (cE (ak rfl (a7 rfl rfl))) rfl) (show 1≤SZ by decide)
   refine⟨B + 2,[.lst (Fl.map aL),.lst [aL ⟨p,o,x⟩],.lst ((dH T p o x).map aL)],(mL (bh (av rfl rfl (wU dx)))).trans (az ?_),aU hB 2⟩
   rw [wS,if_pos dx,ZR]
   exact dY (g:=[.lst (Fl.map aL),.lst [aL ⟨p,o,x⟩]]) hB (l5 rfl n1 (aU hB 0) (aU hB 1) (ZM zF (by decide))) (by rw [ZB];exact ZM zF (by decide))
  ·refine⟨B,[.lst (Fl.map aL)],dw (bh (av rfl rfl (sO dx))),?_⟩
   rw [wS,if_neg dx,List.append_nil];exact aU hB 0
 have q5:=vv (by omega) hn O lb ls os hop hp hon x0.1 x0.2.1 (H1++k1++g3)
 rw [← hw] at q5
 obtain⟨w2,hw2⟩ : ∃ w2,w2=aJ n (dH T p o x) bs ss:=⟨_,rfl⟩
 rw [← hw2] at q5
 have eH:H1++k1++g3=h++(SC c1 t1 b :: (g++k1++g3)):=by rw [hH1];simp
 have P3:fP n T bs ss tk bk sk (H1++k1++g3):=by rw [eH];exact P.more _
 refine⟨dH T p o x,bs,ss,s,tk',bk,sk,some (.int o),some (.int x),none,SC c1 t1 b :: (g++k1++g3),?_,?_,l4 hn O hop hp hon x0.2.1,lb,ls,os,F,LeS.refl s,Co O ls os x0.2.2⟩
 ·rw [← hw,← hw2,← eH]
  exact sx (az (av (av (av rfl rfl rfl) (ao (a7 rfl (av rfl rfl rfl)) q1) rfl) rfl md)) (sx (az ((B8 rfl (av (ao (ak rfl (a7 rfl rfl)) oq) rfl rfl)).trans (by rw [← hx]))) (sx (az (j0 hB (dZ (fY rfl P1.ti) cp) (ZM (Nat.le_of_lt zF) (by decide)))) (sx e3 (az (ao (ak rfl (ak rfl (a7 rfl rfl))) q5)))))
 ·rw [← eH];exact⟨g3t,P3.ba,P3.st⟩
theorem vB {a e i:EF}{σ:Sd}{h:Hd}{k:Nat}{l:List D}{p:Nat}{d:D}(hk:h[k]? = some (.lst l))(hl:l.length≤1000)(hp:p < l.length)(ha:∀ h,a σ h=.ok (.ref k) h)(hi:∀ h,i σ h=.ok (.int p) h)(he:∀ g,e σ (h++g)=.ok d (h++g)) :
  ∃ j g,aQ (eA (aQ (eA (aT a pNo (pAt i)) (aQ (af e ar)))) (aT a (pAt (aw cV i (fC (.int 1)))) pNo)) σ h=.ok (.ref j) (h++g)∧(h++g)[j]? = some (.lst (l.set p d)):=by
 obtain⟨A,hA⟩ : ∃ A,A=h.length:=⟨_,rfl⟩
 have c1:=yN l hp
 have c2:=yO l hp
 have z1:(l.take p).length≤1000:=by rw [List.length_take];omega
 have z2:(l.drop (p + 1)).length≤1000:=by rw [List.length_drop];omega
 have at1:pAt i σ h=.ok (some (p:Int)) h:=by simp only [pAt,hi,aA]
 have f1:aT a pNo (pAt i) σ h=.ok (.ref A) (h++[.lst (l.take p)]):=by
  rw [hA,← c1];exact vx (ha h) rfl at1 hk
 have f2:aQ (af e ar) σ (h++[.lst (l.take p)])=.ok (.ref (A + 1)) (h++[.lst (l.take p),.lst [d]]):=dY (g:=[.lst (l.take p)]) hA (ak (he _) rfl) (show 1≤SZ by decide)
 have f3:aQ (eA (aT a pNo (pAt i)) (aQ (af e ar))) σ h=.ok (.ref (A + 2)) (h++[.lst (l.take p),.lst [d],.lst (l.take p++[d])]) :=
  dY (g:=[.lst (l.take p),.lst [d]]) hA (l5 f1 f2 (aU hA 0) (aU hA 1) (ZM (Nat.add_le_add_right z1 1) (by decide))) (by rw [ZB];exact ZM (Nat.add_le_add_right z1 1) (by decide))
 have hk3:(h++[cP.lst (l.take p),.lst [d],.lst (l.take p++[d])])[k]? = some (.lst l):=c9 _ hk
 have at2:∀ h,pAt (aw cV i (fC (.int 1))) σ h=.ok (some ((p:Int) + 1)) h:=fun h=>by
  have:aw cV i (fC (.int 1)) σ h=.ok (.int ((p:Int) + 1)) h:=av (hi h) rfl rfl
  simp only [pAt,this,aA]
 have f4:aT a (pAt (aw cV i (fC (.int 1)))) pNo σ (h++[.lst (l.take p),.lst [d],.lst (l.take p++[d])])=.ok (.ref (A + 3)) (h++[.lst (l.take p),.lst [d],.lst (l.take p++[d]),.lst (l.drop (p + 1))]):=by
  have:=vx (ha (h++[cP.lst (l.take p),.lst [d],.lst (l.take p++[d])])) (at2 _) (hi:=pNo) (h3:=h++[cP.lst (l.take p),.lst [d],.lst (l.take p++[d])]) (j:=none) rfl hk3
  rw [c2,ZB,← hA,ZU] at this
  exact this
 have es:l.take p++[d]++l.drop (p + 1)=l.set p d:=by rw [List.set_eq_take_append_cons_drop,if_pos hp];simp
 refine⟨A + 4,[.lst (l.take p),.lst [d],.lst (l.take p++[d]),.lst (l.drop (p + 1)),.lst (l.set p d)],?_,aU hA 4⟩
 rw [← es]
 have z3:(l.take p++[d]).length + (l.drop (p + 1)).length≤3000:=by rw [ZB,List.length_singleton];omega
 exact dY (g:=[.lst (l.take p),.lst [d],.lst (l.take p++[d]),.lst (l.drop (p + 1))]) hA (l5 f3 f4 (aU hA 2) (aU hA 3) (ZM z3 (by decide))) (by rw [ZB];exact ZM z3 (by decide))
theorem brB (hn1:1≤n)(hn:n≤30)(O:TOk n n 0 T)(lb:bs.length=n)(ls:ss.length=n)(os:∀ x∈ss,x=none∨x=some 0∨x=some 1)(F:kJ n ss s)(P:fP n T bs ss tk bk sk h)(v:Int){p:Nat}(hp:p < n){u:Int}(hu:0≤u) :
  yP n T bs ss s td qk A h v p u (ay OB0 OB1 (XF td (aJ n T bs ss).enc (aE s) A n tk bk sk qk v p u none none none) (h++SC c t b :: g)):=by
 obtain⟨w,hw⟩ : ∃ w,w=aJ n T bs ss:=⟨_,rfl⟩
 obtain⟨H1,hH1⟩ : ∃ H1:Hd,H1=h++SC c t b :: g:=⟨_,rfl⟩
 have P1:fP n T bs ss tk bk sk H1:=by rw [hH1];exact P.more _
 have lp:p < (bs.map D.int).length:=by rw [ZA];omega
 have ap:atI (bs.map D.int) (p:Int)=some (.int (bs.getD p 0)):=by
  rw [iK (show p < bs.length by omega)];simp [List.getD,show p < bs.length by omega]
 obtain⟨j,g1,q,gj⟩:=vB (a:=ae 6) (i:=ae 10) (e:=aw gJ (fAt (ae 6) (ae 10)) (ae 11)) (σ:=XF td w.enc (aE s) A n tk bk sk qk v p u none none none) (d:=.int (bs.getD p 0 - u)) P1.ba (by rw [ZA];omega) lp (fun _=>rfl) (fun _=>rfl) (fun g=>av (aH rfl rfl (bd (c9 g P1.ba)) ap) rfl rfl)
 have es:(bs.map D.int).set p (.int (bs.getD p 0 - u))=(bs.set p (bs.getD p 0 - u)).map D.int:=by rw [List.map_set]
 rw [es] at gj
 obtain⟨x,hx⟩ : ∃ x,x=bs.getD p 0 - u:=⟨_,rfl⟩
 rw [← hx] at gj
 have lb2:(bs.set p x).length=n:=by rw [List.length_set,lb]
 have q5:=vw hn1 hn O lb ls os hp x (H1++g1)
 rw [← hw] at q5
 obtain⟨w2,hw2⟩ : ∃ w2,w2=aJ n T (bs.set p x) ss:=⟨_,rfl⟩
 rw [← hw2] at q5
 have ap2:atI ((bs.set p x).map D.int) (p:Int)=some (.int x):=by
  rw [iK (show p < (bs.set p x).length by omega)];simp
 have eH:H1++g1=h++(SC c t b :: (g++g1)):=by rw [hH1];simp
 have P2:fP n T bs ss tk bk sk (H1++g1):=by rw [eH];exact P.more _
 refine⟨T,bs.set p x,ss,s,tk,j,sk,none,none,none,SC c t b :: (g++g1),?_,?_,O,lb2,ls,os,F,LeS.refl s,Cp O lb ls os hp (by omega)⟩
 ·rw [← hw,← hw2,← eH,← hH1]
  exact sx (az q) (az (ao (ak rfl (a7 rfl (aH rfl rfl (bd gj) ap2))) q5))
 ·rw [← eH];exact⟨P2.ti,gj,P2.st⟩
end
end Fm
namespace Fm
theorem yQ {xs ys:List D}{h:Hd}(p:xs.length + ys.length≤SZ):lH (.tup xs) (.tup ys) h=.ok (.tup (xs++ys)) h:=by simp only [lH,if_pos p]
theorem xB {a:EF}{hi:EF}{σ:Sd}{h:Hd}{l:List D}{p:Nat}(v:a σ h=.ok (.tup l) h)(w:hi σ h=.ok (.int p) h)(hp:p < l.length):aT a pNo (pAt hi) σ h=.ok (.tup (l.take p)) h:=by
 have c:=yN l hp
 have e:sIx l.length l.length (some (p:Int))=p:=by
  show (if (p:Int) < 0 then ((p:Int) + (l.length:Nat)).toNat else min ((p:Int)).toNat l.length)=p
  rw [if_neg (Int.not_lt.mpr (Int.natCast_nonneg p))]
  exact Nat.min_eq_left (Nat.le_of_lt hp)
 simp only [aT,v,aA,pNo,pAt,w,c,e]
 rw [if_neg (fun z=>ZN hp z.2)]
theorem xC {a:EF}{lo:EF}{σ:Sd}{h:Hd}{l:List D}{p:Nat}(v:a σ h=.ok (.tup l) h)(w:lo σ h=.ok (.int ((p:Int) + 1)) h)(hp:p < l.length):aT a (pAt lo) pNo σ h=.ok (.tup (l.drop (p + 1))) h:=by
 have c:=yO l hp
 have e:sIx l.length 0 (some ((p:Int) + 1))=p + 1:=by
  show (if ((p:Int) + 1) < 0 then ((p:Int) + 1 + (l.length:Nat)).toNat else min ((p:Int) + 1).toNat l.length)=p + 1
  rw [if_neg (show ¬ ((p:Int) + 1 < 0) by omega)]
  exact Nat.min_eq_left hp
 simp only [aT,v,aA,pNo,pAt,w,c,e]
 rw [if_neg (fun z=>absurd z.1 (Nat.succ_ne_zero p))]
theorem eqO (u:Option Int)(hu:u=none∨u=some 0∨u=some 1)(x:Int)(h:Hd):oEq (bj u) (.int x) h=.ok (.bl (decide (u=some x))) h:=by
 rcases hu with rfl|rfl|rfl
 ·rfl
 ·show oEq (.int 0) (.int x) h=_
  rw [qW];simp
 ·show oEq (.int 1) (.int x) h=_
  rw [qW];simp
section
variable {n:Nat} {T:List Tie} {bs:YF} {ss:YB} {s:YF} {td:D} {tk bk sk qk A:Nat} {h:Hd} {c t:Int} {b:Bool} {g:Hd}
theorem GM {s:YF}(B:∀ x∈s,x=0∨x=1)(p:Nat):LeS s (s.set p 1):=fun i=>by
 by_cases e:i=p
 ·subst e
  by_cases l:i < s.length
  ·rw [ZF,ZF,List.getElem?_set_self l,ZE l]
   have:=B _ (XE l)
   simp only [Option.getD_some];omega
  ·rw [List.set_eq_of_length_le (by omega)];exact Int.le_refl _
 ·rw [ZF,ZF,ZP (fun z=>e z.symm)];exact Int.le_refl _
theorem D8 (F:kJ n ss s)(ls:ss.length=n){p:Nat}(hp:p < n):kJ n (ss.set p (some 1)) (s.set p 1) :=
 ⟨by rw [List.length_set,F.len],fun x hx=>(List.mem_or_eq_of_mem_set hx).elim (F.op x) fun e=>.inr e,fun i x e=>by
  by_cases q:i=p
  ·subst q
   rw [List.getElem?_set_self (by omega)] at e
   cases e
   rw [List.getElem?_set_self (by rw [F.len];exact hp)]
  ·rw [ZP (fun z=>q z.symm)] at e ⊢
   exact F.st i x e⟩
theorem Cq (F:kJ n ss s){p:Nat}:kJ n (ss.set p none) s :=
 ⟨F.len,F.op,fun i x e=>by
  by_cases q:i=p
  ·subst q
   by_cases l:i < ss.length
   ·rw [List.getElem?_set_self l] at e;cases e
   ·rw [List.getElem?_eq_none (by rw [List.length_set];omega)] at e;cases e
  ·rw [ZP (fun z=>q z.symm)] at e
   exact F.st i x e⟩
theorem brC (hn1:1≤n)(hn:n≤30)(O:TOk n n 0 T)(lb:bs.length=n)(ls:ss.length=n)(os:∀ x∈ss,x=none∨x=some 0∨x=some 1)(F:kJ n ss s)(P:fP n T bs ss tk bk sk h)(v:Int){p:Nat}(hp:p < n){u:Int} :
  yP n T bs ss s td qk A h v p u (ay OC0 (ay OC1 (ay OC2 OC3)) (XF td (aJ n T bs ss).enc (aE s) A n tk bk sk qk v p u none none none) (h++SC c t b :: g)):=by
 obtain⟨w,hw⟩ : ∃ w,w=aJ n T bs ss:=⟨_,rfl⟩
 obtain⟨H1,hH1⟩ : ∃ H1:Hd,H1=h++SC c t b :: g:=⟨_,rfl⟩
 have P1:fP n T bs ss tk bk sk H1:=by rw [hH1];exact P.more _
 have lp:p < (ss.map bj).length:=by rw [ZA];omega
 obtain⟨u0,hu0⟩ : ∃ u0,u0=ss.getD p none:=⟨_,rfl⟩
 have ap:atI (ss.map bj) (p:Int)=some (bj u0):=by
  rw [iK (show p < ss.length by omega),hu0];simp [List.getD,show p < ss.length by omega]
 have ou:u0=none∨u0=some 0∨u0=some 1:=by
  refine os _ ?_
  rw [hu0,ZF,ZE (by omega)];exact XE _
 obtain⟨u1,hu1⟩ : ∃ u1:Option Int,u1=if u0=some 0 then none else some 1:=⟨_,rfl⟩
 have ou1:u1=none∨u1=some 0∨u1=some 1:=by rw [hu1];split<;>simp
 have ix:atI [D.int 1,.non] (b2i (decide (u0=some 0)))=some (bj u1):=by
  rw [hu1]
  by_cases z:u0=some 0
  ·rw [YZ z,if_pos z];rfl
  ·rw [XB z,if_neg z];rfl
 obtain⟨j,g1,q,gj⟩:=vB (a:=ae 7) (i:=ae 10) (e:=ae 14) (σ:=XF td w.enc (aE s) A n tk bk sk qk v p u none none (some (bj u1))) (d:=bj u1) P1.st (by rw [ZA];omega) lp (fun _=>rfl) (fun _=>rfl) (fun g=>rfl)
 rw [← List.map_set] at gj
 have q5:=tF hn1 hn O lb ls os hp ou1 (H1++g1)
 rw [← hw] at q5
 obtain⟨w2,hw2⟩ : ∃ w2,w2=aJ n T bs (ss.set p u1):=⟨_,rfl⟩
 rw [← hw2] at q5
 have eH:H1++g1=h++(SC c t b :: (g++g1)):=by rw [hH1];simp
 have P2:fP n T bs ss tk bk sk (H1++g1):=by rw [eH];exact P.more _
 have T2:fP n T bs (ss.set p u1) tk bk j (h++(SC c t b :: (g++g1))):=by rw [← eH];exact⟨P2.ti,P2.ba,gj⟩
 have ls2:(ss.set p u1).length=n:=by rw [List.length_set,ls]
 by_cases z:u0=some 0
 ·have z1:u1=none:=by rw [hu1,if_pos z]
  refine⟨T,bs,ss.set p u1,s,tk,bk,j,none,none,some (bj u1),SC c t b :: (g++g1),?_,T2,O,lb,ls2,xA os ou1,?_,LeS.refl s,rG O ls os hp ou1 (.inl (hu0.symm.trans z))⟩
  ·rw [← hw,← hw2,← eH,← hH1]
   exact sx (az (o5 (a7 rfl rfl) (B5 (av (aH rfl rfl (bd P1.st) ap) rfl (eqO u0 ou 0 H1))) ix)) (sx (az q) (sx (az (ao (ak rfl (a7 rfl rfl)) q5)) (dw (bh (av rfl rfl (by rw [eqO u1 ou1,z1];rfl))))))
  ·rw [z1];exact Cq F
 ·have z1:u1=some 1:=by rw [hu1,if_neg z]
  have lps:p < (s.map D.int).length:=by rw [ZA,F.len];exact hp
  have zs:(s.map D.int).length≤1000:=by rw [ZA,F.len];omega
  have es:(s.map D.int).take p++[.int 1]++(s.map D.int).drop (p + 1)=(s.set p 1).map D.int:=by
   rw [List.map_set,List.set_eq_take_append_cons_drop,if_pos lps];simp
  have z2:((s.map D.int).take p).length + 1≤1001:=by rw [List.length_take];omega
  have z3:((s.map D.int).take p++[D.int 1]).length + ((s.map D.int).drop (p + 1)).length≤3000:=by rw [ZB,List.length_take,List.length_drop,List.length_singleton];omega
  have ad:lH (.tup ((s.map D.int).take p++[.int 1])) (.tup ((s.map D.int).drop (p + 1))) (H1++g1)=.ok (aE (s.set p 1)) (H1++g1):=(yQ (ZM z3 (by decide))).trans (by rw [es];rfl)
  refine⟨T,bs,ss.set p u1,s.set p 1,tk,bk,j,none,none,some (bj u1),SC c t b :: (g++g1),?_,T2,O,lb,ls2,xA os ou1,?_,GM F.op p,rG O ls os hp ou1 (.inr z1)⟩
  ·rw [← hw,← hw2,← eH,← hH1]
   exact sx (az (o5 (a7 rfl rfl) (B5 (av (aH rfl rfl (bd P1.st) ap) rfl (eqO u0 ou 0 H1))) ix)) (sx (az q) (sx (az (ao (ak rfl (a7 rfl rfl)) q5)) ((mL (bh (av rfl rfl (by rw [eqO u1 ou1,z1];rfl)))).trans (az (av (av (xB rfl rfl lps) (cE (ak rfl rfl)) (yQ (ys:=[D.int 1]) (ZM z2 (by decide)))) (xC rfl (av rfl rfl rfl) lps) ad)))))
  ·rw [z1];exact D8 F ls hp
theorem vC (hn1:1≤n)(hn:n≤30)(O:TOk n n 0 T)(lb:bs.length=n)(ls:ss.length=n)(os:∀ x∈ss,x=none∨x=some 0∨x=some 1)(F:kJ n ss s)(hA:A=h.length)(P:fP n T bs ss tk bk sk h) :
  ∃ (T':List Tie) (bs':YF) (ss':YB) (s':YF) (tk' bk' sk':Nat) (g':Hd),eQ [tD n tk bk sk qk,(aJ n T bs ss).enc,aE s,.ref A] (h++[SC c t b])=.ok (.tup [tD n tk' bk' sk' qk,(aJ n T' bs' ss').enc,aE s']) (h++g') ∧
   fP n T' bs' ss' tk' bk' sk' (h++g')∧TOk n n 0 T'∧bs'.length=n∧ss'.length=n∧(∀ x∈ss',x=none∨x=some 0∨x=some 1)∧kJ n ss' s'∧LeS s s'∧xb (aJ n T bs ss) (aJ n T' bs' ss') n:=by
 obtain⟨v,c1,t1,q1,v0,v1⟩:=gk hA c t b [] (m:=3) (by omega) (by decide)
 obtain⟨y,c2,t2,q2,y0,y1⟩:=gk hA c1 t1 b [] (m:=n) (by omega) (Int.lt_of_le_of_lt (b:=30) (by omega) (by decide))
 obtain⟨u,c3,t3,q3,u0,u1⟩:=gk hA c2 t2 b [] (m:=40) (by omega) (by decide)
 obtain⟨p,rfl⟩:=Int.eq_ofNat_of_zero_le y0
 have hp:p < n:=by omega
 have br:yP n T bs ss s (tD n tk bk sk qk) qk A h v p u (sIf OT (ay OA0 (ay OA1 (ay OA2 (ay OA3 OA4)))) (sIf OU (ay OB0 OB1) (ay OC0 (ay OC1 (ay OC2 OC3)))) (XF (tD n tk bk sk qk) (aJ n T bs ss).enc (aE s) A n tk bk sk qk v p u none none none) (h++[SC c3 t3 b])):=by
  by_cases z:v=0∧1 < n
  ·rw [mL (o6 (bh (av rfl rfl (o7 z.1))) (bh (av rfl rfl (wU (show (1:Int) < n by omega)))))]
   exact brA z.2 hn O lb ls os F hA P v hp u0
  ·have tf:OT (XF (tD n tk bk sk qk) (aJ n T bs ss).enc (aE s) A n tk bk sk qk v p u none none none) (h++[SC c3 t3 b])=.ok false (h++[SC c3 t3 b]):=by
    by_cases y:v=0
    ·exact o6 (bh (av rfl rfl (o7 y))) (bh (av rfl rfl (sO (by omega))))
    ·exact yB (bh (av rfl rfl (kF y)))
   rw [dw tf]
   by_cases y:v=1
   ·rw [mL (bh (av rfl rfl (o7 y)))]
    exact brB hn1 hn O lb ls os F P v hp u0
   ·rw [dw (bh (av rfl rfl (kF y)))]
    exact brC hn1 hn O lb ls os F P v hp
 obtain⟨T',bs',ss',s',tk',bk',sk',x12,x13,x14,g',eo,r1,r2,r3,r4,r5,r6,r7,r8⟩:=br
 refine⟨T',bs',ss',s',tk',bk',sk',g',?_,r1,r2,r3,r4,r5,r6,r7,r8⟩
 rw [GL]
 exact (b7 (σ:=[some (tD n tk bk sk qk),some (aJ n T bs ss).enc,some (aE s),some (.ref A),none,none,none,none,none,none,none,none,none,none,none]) rfl rfl (sx (sP rfl rfl) (sx (az (ao (a7 rfl rfl) q1)) (sx (az (ao (a7 rfl rfl) q2)) (sx (az (ao (a7 rfl rfl) q3)) (sx eo (bx (cE (ak (cE (ak rfl (ak rfl (ak rfl (a7 rfl rfl))))) (a7 rfl rfl)))))))))).trans (mK rfl)
end
end Fm
namespace Fm
theorem GN {x:EF}{L:LF}{σ:Sd}{h h1 h2:Hd}{n:Nat}{l l0 ds:List D}(p:x σ h=.ok (.ref n) h1)(q:h1[n]? = some (.lst l0))(r:L σ h1=.ok ds h2)(s:h2[n]? = some (.lst l))(t:l.length + ds.length≤SZ):oO x L σ h=.ok .non (h2.set n (.lst (l++ds))):=by
 simp only [oO,p,aA,q,r,s,if_pos t]
def gc (k:Nat) (a b:YF) (n:Nat):YA:=((List.range n).filter fun p => !decide (a.getD p 0=b.getD p 0)).map fun p:Nat=>[(k:Int),(p:Int)]
theorem rH (k:Nat)(a b:YF)(n:Nat):gc k a b (n + 1)=gc k a b n++if a.getD n 0=b.getD n 0 then [] else [[(k:Int),(n:Int)]]:=by
 unfold gc
 rw [List.range_succ,List.filter_append,ZR]
 congr 1
 by_cases c:a.getD n 0=b.getD n 0
 ·rw [if_pos c,List.filter_cons,if_neg (by simp only [YZ c];decide)];rfl
 ·rw [if_neg c,List.filter_cons,if_pos (by simp only [XB c];decide)];rfl
theorem pO (k:Nat)(a b:YF)(n:Nat):(gc k a b n).length≤n:=by
 unfold gc
 rw [ZA]
 exact ZM (List.length_filter_le _ _) (by rw [ZO];exact ZL _)
theorem Cr {n k:Nat}{a b:YF}(la:a.length=n)(lb:b.length=n)(h:Hd):bS none ((List.range n).map fun p:Nat=>D.int p) (gN 0) [(tE (aw oNe (fAt (ae 2) (ae 0)) (fAt (ae 3) (ae 0))))] (cW (af (ae 1) (af (ae 0) ar))) ((List.range n).map fun p:Nat=>D.int p) [none,some (.int k),some (aE a),some (aE b)] h=.ok ((gc k a b n).map aE) h:=by
 have:=b6 (g:=none) (all:=(List.range n).map fun p:Nat=>D.int p) (tg:=gN 0) (cs:=[(tE (aw oNe (fAt (ae 2) (ae 0)) (fAt (ae 3) (ae 0))))]) (e:=cW (af (ae 1) (af (ae 0) ar))) (h:=h) (I:=fun σ=>∃ c,σ = [c,some (.int k),some (aE a),some (aE b)]) (fun d=>match d with | .int p => !decide (a.getD p.toNat 0=b.getD p.toNat 0)|_=>false) (fun d=>D.tup [.int k,d]) trivial (xs:=(List.range n).map fun p:Nat=>D.int p) (σ:=[none,some (.int k),some (aE a),some (aE b)]) (by
  rintro x hx σ ⟨c,rfl⟩
  obtain⟨p,hp,rfl⟩:=YR hx
  have hp:=YT hp
  exact⟨_,rfl,⟨_,rfl⟩,qX (bh (av (aH rfl rfl rfl (fZ (la ▸ hp))) (aH rfl rfl rfl (fZ (lb ▸ hp))) (DU _ _ _))),fun _=>cE (ak rfl (ak rfl rfl)) (by exact of_decide_eq_true rfl)⟩) ⟨_,rfl⟩
 rw [this,List.filter_map,List.map_map]
 unfold gc
 rw [List.map_map]
 rfl
section
variable (w1 w2:Web) (n:Nat) (s1 s2:YF)
def ft:Nat→YA
 | 0=>[]
 | m + 1=>ft m++gc m (cJ w1 n s1 m) (cJ w2 n s2 m) n
def kg (m:Nat):List D:=(ft w1 w2 n s1 s2 m).map aE
end
section
variable {w1 w2:Web} {n:Nat} {s1 s2:YF}
theorem z4 (m:Nat):kg w1 w2 n s1 s2 (m + 1)=kg w1 w2 n s1 s2 m++(gc m (cJ w1 n s1 m) (cJ w2 n s2 m) n).map aE:=by
 unfold kg;rw [ft,ZR]
theorem iz:∀ m,(ft w1 w2 n s1 s2 m).length≤n * m
 | 0=>Nat.zero_le _
 | m + 1=>by
  rw [ft,ZB,Nat.mul_succ]
  exact Nat.add_le_add (iz m) (pO _ _ _ _)
theorem Cs (m:Nat):(kg w1 w2 n s1 s2 m).length≤n * m:=by unfold kg;rw [ZA];exact iz m
theorem D9 (hn:n≤30){m:Nat}(hm:m≤100):(kg w1 w2 n s1 s2 m).length + ((gc m (cJ w1 n s1 m) (cJ w2 n s2 m) n).map aE).length≤SZ :=
 ZM (Nat.add_le_add (ZM (Cs m) (Nat.mul_le_mul hn hm)) (by rw [ZA];exact ZM (pO _ _ _ _) hn)) (by decide)
noncomputable abbrev XD (w1 w2:Web) (s1 s2:YF) (t A:Nat) (a b:YF) (y:Option D):Sd:=[some w1.enc,some (aE s1),some w2.enc,some (aE s2),some (.int t),some (.ref A),some (aE a),some (aE b),y]
theorem rJ (W1:w1.Ok n)(W2:w2.Ok n)(S1:dD w1)(S2:dD w2)(F1:eE w1 n s1)(F2:eE w2 n s2)(hn:n≤30){t:Nat}(ht:t≤100)(h:Hd) :
  jH [w1.enc,aE s1,w2.enc,aE s2,.int t] h=.ok (.ref h.length) (h++[.lst (kg w1 w2 n s1 s2 (t + 1))]):=by
 obtain⟨A,hA⟩ : ∃ A,A=h.length:=⟨_,rfl⟩
 obtain⟨σ',h',k1,y,k2,k3⟩:=de (P:=fun i σ h'=>∃ y,σ = XD w1 w2 s1 s2 t A (cJ w1 n s1 i) (cJ w2 n s2 i) y∧h'=h++[.lst (kg w1 w2 n s1 s2 i)])
  (g:=none) (k:=0) (all:=(List.range (t + 1)).map fun k:Nat=>D.int k) (fun _ _ _ _=>trivial) (xs:=(List.range (t + 1)).map fun k:Nat=>D.int k) (tg:=gN 8) (b:=rq)
  (σ:=XD w1 w2 s1 s2 t A s1 s2 none) (h:=h++[.lst []]) (by
   rintro i x σ h0 hx ⟨y,rfl,rfl⟩
   obtain⟨hi,rfl⟩:=dL hx
   rw [Nat.zero_add]
   have Fa:=cb W1 S1 F1 i
   have Fb:=cb W2 S2 F2 i
   refine⟨_,rfl,XD w1 w2 s1 s2 t A (cJ w1 n s1 (i + 1)) (cJ w2 n s2 (i + 1)) (some (.int i)),h++[.lst (kg w1 w2 n s1 s2 (i + 1))],?_,_,rfl,rfl⟩
   exact sx ((dn (GN rfl (jZ hA _) (dZ (dB (ao (ak rfl rfl) (W1.t ▸ jC w1 _)) (ZM hn (by decide))) (Cr Fa.len Fb.len _)) (jZ hA _) (D9 hn (ZM (Nat.le_of_lt_succ hi) ht)))).trans (congrArg (Out.nx _) (show _=h++[cP.lst (kg w1 w2 n s1 s2 (i + 1))] by rw [yE hA,z4]))) (sx (az (ao (a7 rfl rfl) (kG W1 Fa _))) (az (ao (a7 rfl rfl) (kG W2 Fb _))))) ⟨none,rfl,rfl⟩
 rw [Nat.zero_add,ZA,ZO] at k2 k3
 rw [k2,k3] at k1
 rw [← hA]
 exact Eq.trans (b7 (σ:=[some w1.enc,some (aE s1),some w2.enc,some (aE s2),some (.int t),none,none,none,none]) rfl rfl (sx (dn (ao (a7 rfl rfl) (o9 W1 F1 h))) (sx (dn (ao (a7 rfl rfl) (o9 W2 F2 h))) (sx (az (j0 hA (xs:=[]) rfl (Nat.zero_le _))) (sx (az rfl) (sx (az rfl) (sx (gD (dB (n:=t + 1) (av rfl rfl rfl) (ZM (Nat.succ_le_succ ht) (by decide))) k1) (bx rfl)))))))) o4
theorem yR {w:Web}{s:YF}(W:w.Ok n)(F:eE w n s)(h:Hd):pc [w.enc,aE s] h=.ok (aE (fE w n s)) h:=by
 exact Eq.trans (b7 (σ:=[some w.enc,some (aE s)]) rfl rfl (sx (dn (ao (a7 rfl rfl) (o9 W F h))) (bx (ao (a7 rfl rfl) (kG W F h))))) bo
noncomputable abbrev XA (w1 w2:Web) (a b:YF) (t A:Nat) (x6 x7:Option D):Sd:=[some w1.enc,some (aE a),some w2.enc,some (aE b),some (.int t),some (.ref A),x6,x7]
theorem Ct {a b:YF}(la:a.length=n)(lb:b.length=n)(hn:n≤30)(le:LeS a b){t A k:Nat}{h:Hd}(hA:A=h.length){L:YA}(hL:L.length≤3000)(x7:Option D) :
  ∃ y,jn (dz (ik (lOf (ae 1)))) (gN 7) iO (XA w1 w2 a b t A (some (.int k)) x7) (h++[.lst (L.map aE)])=.nx (XA w1 w2 a b t A (some (.int k)) y) (h++[.lst ((L++gc k a b n).map aE)]):=by
 obtain⟨σ',h',k1,y,k2,k3⟩:=de (P:=fun i σ h'=>∃ y,σ = XA w1 w2 a b t A (some (.int k)) y∧h'=h++[.lst ((L++gc k a b i).map aE)]) (g:=none) (k:=0) (all:=(List.range n).map fun k:Nat=>D.int k) (fun _ _ _ _=>trivial)
  (xs:=(List.range n).map fun k:Nat=>D.int k) (tg:=gN 7) (σ:=XA w1 w2 a b t A (some (.int k)) x7) (h:=h++[.lst (L.map aE)]) (b:=iO) (by
   rintro i x σ h0 hx ⟨y,rfl,rfl⟩
   obtain⟨hi,rfl⟩:=dL hx
   rw [Nat.zero_add]
   have l:=le i
   have z:((L++gc k a b i).map aE).length < SZ:=by
    rw [ZA,ZB]
    have:=pO k a b i
    exact ZS (show L.length + (gc k a b i).length≤4000 by omega) (by decide)
   refine⟨_,rfl,XA w1 w2 a b t A (some (.int k)) (some (.int i)),h++[.lst ((L++gc k a b (i + 1)).map aE)],sx (dw (bh (av (aH rfl rfl rfl (fZ (la ▸ hi))) (aH rfl rfl rfl (fZ (lb ▸ hi))) (sO (by omega))))) ?_,_,rfl,rfl⟩
   have nq:=DU (a.getD i 0) (b.getD i 0) (h++[.lst ((L++gc k a b i).map aE)])
   by_cases c:a.getD i 0=b.getD i 0
   ·rw [YZ c] at nq
    rw [rH,if_pos c,List.append_nil]
    exact dw (bh (av (aH rfl rfl rfl (fZ (la ▸ hi))) (aH rfl rfl rfl (fZ (lb ▸ hi))) nq))
   ·rw [XB c] at nq
    rw [rH,if_neg c]
    refine Eq.trans (mL (bh (av (aH rfl rfl rfl (fZ (la ▸ hi))) (aH rfl rfl rfl (fZ (lb ▸ hi))) nq))) ((dn (jB rfl (jZ hA _) (cE (a7 rfl rfl)) (jZ hA _) z)).trans ?_)
    rw [yE hA,← ZU,ZR (l₂ := [[(k:Int),(i:Int)]])];rfl) ⟨_,rfl,by unfold gc;simp⟩
 have e0:0 + ((List.range n).map fun k:Nat=>D.int k).length=n:=by simp
 rw [e0] at k3
 rw [k2,k3] at k1
 have ln:ik (lOf (ae 1)) (XA w1 w2 a b t A (some (.int k)) x7) (h++[.lst (L.map aE)])=.ok (.int n) (h++[.lst (L.map aE)]):=(ff (cR rfl rfl)).trans (by rw [ZA,la])
 exact⟨y,gD (dB ln (ZM hn (by decide))) k1⟩
theorem Cu (W1:w1.Ok n)(W2:w2.Ok n)(S1:dD w1)(S2:dD w2)(F1:eE w1 n s1)(F2:eE w2 n s2)(hn:n≤30){t:Nat}(ht:t≤90)(le:∀ k,LeS (cJ w1 n s1 k) (cJ w2 n s2 k))(h:Hd) :
  j7 [w1.enc,aE s1,w2.enc,aE s2,.int t] h=.ok (.ref h.length) (h++[.lst (kg w1 w2 n s1 s2 (t + 1))]):=by
 obtain⟨A,hA⟩ : ∃ A,A=h.length:=⟨_,rfl⟩
 obtain⟨σ',h',k1,y6,y7,k2,k3⟩:=de (P:=fun i σ h'=>∃ y6 y7,σ = XA w1 w2 (cJ w1 n s1 i) (cJ w2 n s2 i) t A y6 y7∧h'=h++[.lst (kg w1 w2 n s1 s2 i)])
  (g:=none) (k:=0) (all:=(List.range (t + 1)).map fun k:Nat=>D.int k) (fun _ _ _ _=>trivial) (xs:=(List.range (t + 1)).map fun k:Nat=>D.int k) (tg:=gN 6) (b:=pD)
  (σ:=XA w1 w2 s1 s2 t A none none) (h:=h++[.lst []]) (by
   rintro i x σ h0 hx ⟨y6,y7,rfl,rfl⟩
   obtain⟨hi,rfl⟩:=dL hx
   rw [Nat.zero_add]
   have Fa:=cb W1 S1 F1 i
   have Fb:=cb W2 S2 F2 i
   have lR:(ft w1 w2 n s1 s2 i).length≤3000:=ZM (iz i) (ZM (Nat.mul_le_mul hn (show i≤91 by omega)) (by decide))
   obtain⟨y,q⟩:=Ct (w1:=w1) (w2:=w2) Fa.len Fb.len hn (le i) (t:=t) (k:=i) hA lR y7
   refine⟨_,rfl,XA w1 w2 (cJ w1 n s1 (i + 1)) (cJ w2 n s2 (i + 1)) t A (some (.int i)) y,h++[.lst (kg w1 w2 n s1 s2 (i + 1))],?_,_,_,rfl,rfl⟩
   have q2:jn (dz (ik (lOf (ae 1)))) (gN 7) iO (XA w1 w2 (cJ w1 n s1 i) (cJ w2 n s2 i) t A (some (.int i)) y7) (h++[.lst (kg w1 w2 n s1 s2 i)])=.nx (XA w1 w2 (cJ w1 n s1 i) (cJ w2 n s2 i) t A (some (.int i)) y) (h++[.lst (kg w1 w2 n s1 s2 (i + 1))]):=q
   exact (jc q2).trans ((jc (az (ao (a7 rfl rfl) (yR W1 Fa _)))).trans (az (ao (a7 rfl rfl) (yR W2 Fb _))))) ⟨none,none,rfl,rfl⟩
 rw [Nat.zero_add,ZA,ZO] at k2 k3
 rw [k2,k3] at k1
 rw [← hA]
 exact Eq.trans (b7 (σ:=[some w1.enc,some (aE s1),some w2.enc,some (aE s2),some (.int t),none,none,none]) rfl rfl (sx (az (j0 hA (xs:=[]) rfl (Nat.zero_le _))) (sx (gD (dB (n:=t + 1) (av rfl rfl rfl) (by omega)) k1) (bx rfl)))) o4
end
end Fm
namespace Fm
def xcs (s:YF):YF:=s.map fun x=>1 - x
def xco (o:Option Int):Option Int:=o.map fun x=>1 - x
def xcw (n:Nat) (w:Web):Web:=⟨w.ties,(List.range n).map fun i=>2 * ((w.ties.getD i []).map (·.2)).sum - w.bars.getD i 0,w.stays.map xco⟩
theorem Ea (s:YF):(xcs s).length=s.length:=by simp [xcs]
theorem nW {s:YF}{i:Nat}(h:i < s.length):(xcs s).getD i 0=1 - s.getD i 0:=by simp [xcs,List.getD,h]
theorem Cv {n:Nat}{w:Web}(W:w.Ok n):(xcw n w).Ok n:=⟨W.t,by simp [xcw],by simp [xcw,W.s],W.lt,W.sz⟩
theorem Eb {n:Nat}{w:Web}{i:Nat}(h:i < n):(xcw n w).bars.getD i 0=2 * ((w.ties.getD i []).map (·.2)).sum - w.bars.getD i 0:=by simp [xcw,List.getD,h]
theorem vD {n:Nat}{w:Web}(S:dD w):dD (xcw n w):=fun x hx=>by
 obtain⟨y,hy,rfl⟩:=YR hx
 rcases S y hy with e|e|e<;>subst e<;>simp [xco]
theorem vE {n:Nat}{w:Web}{s:YF}(F:eE w n s):eE (xcw n w) n (xcs s):=by
 refine⟨by rw [Ea];exact F.len,fun x hx => ?_,fun i x e => ?_⟩
 ·obtain⟨y,hy,rfl⟩:=YR hx
  rcases F.op y hy with e|e<;>subst e<;>simp
 ·have e:(w.stays.map xco)[i]? = some (some x):=e
  rw [ZQ] at e
  cases c:w.stays[i]? with
  | none=>rw [c] at e;cases e
  | some o =>
   rw [c] at e
   cases o with
   | none=>simp [xco] at e
   | some y =>
    simp [xco] at e
    have q:=F.st i y c
    simp [xcs,q,e]
theorem vF {s:YF}{n:Nat}(hs:s.length=n)(B:kL s):∀ {r:YC},(∀ p∈r,p.1 < n)→bq r (xcs s)=(r.map (·.2)).sum - bq r s
 | [],_=>rfl
 | p :: r,h=>by
  have ih:=vF hs B (r:=r) fun q hq=>h q (by simp [hq])
  have hp:=h p (by simp)
  rw [dG,dG,ih,nW (by omega),XC,List.sum_cons]
  rcases B p.1 with e|e<;>rw [e]<;>simp<;>omega
theorem GO {w:Web}{n:Nat}{s:YF}(W:w.Ok n)(F:eE w n s){p:Nat}(hp:p < n):cG (xcw n w) (xcs s) p=1 - cG w s p:=by
 have ht:p < w.ties.length:=by rw [W.t];exact hp
 have hst:p < w.stays.length:=by rw [W.s];exact hp
 have e1:(xcw n w).stays.getD p none=xco (w.stays.getD p none):=by
  show (w.stays.map xco).getD p none=_
  simp [List.getD,hst]
 have e2:(xcw n w).ties=w.ties:=rfl
 have lt:∀ q∈w.ties.getD p [],q.1 < n:=fun q hq=>by
  have:w.ties.getD p [] = w.ties[p]:=by simp [List.getD,ht]
  rw [this] at hq
  exact W.lt _ (XE ht) q hq
 have pl:=vF F.len F.bits lt
 have bs:=F.bits p
 unfold cG
 rw [e1,e2,pl,Eb hp,nW (by rw [F.len];exact hp)]
 cases w.stays.getD p none with
 | some x=>rfl
 | none =>
  simp only [xco,Option.map_none]
  generalize ((w.ties.getD p []).map (·.2)).sum=t
  generalize bq (w.ties.getD p []) s=q
  generalize w.bars.getD p 0=b
  by_cases c1:2 * q=b
  ·rw [if_pos (by omega),if_pos c1]
  ·rw [if_neg (by omega),if_neg c1]
   by_cases c2:b < 2 * q
   ·rw [if_neg (by omega),if_pos c2];rfl
   ·rw [if_pos (by omega),if_neg c2];rfl
theorem GP {w:Web}{n:Nat}{s:YF}(W:w.Ok n)(F:eE w n s):fE (xcw n w) n (xcs s)=xcs (fE w n s):=by
 unfold fE
 show _=((List.range n).map (cG w s)).map _
 rw [List.map_map]
 apply List.map_congr_left
 intro p hp
 exact GO W F (YT hp)
theorem tH (i:Nat):∀ T:List Tie,((nbs T i).map (·.2)).sum=bz T i
 | []=>rfl
 | t :: T=>by
  have ih:=tH i T
  have c:nbs (t :: T) i=(match far i t with|some j=>[(j,t.w)] | none=>[])++nbs T i:=by
   unfold nbs
   rw [List.filterMap_cons]
   cases far i t<;>rfl
  rw [c,ZR,List.sum_append,ih]
  have:bz (t :: T) i=wOf i t + bz T i:=by simp [bz]
  rw [this]
  congr 1
  unfold far wOf
  by_cases a:t.a=i
  ·simp [a]
  ·by_cases b:t.b=i
   ·simp [a,b]
   ·simp [a,b]
theorem z5 {n:Nat}{T:List Tie}{bs:YF}{ss:YB}(lb:bs.length=n):xcw n (aJ n T bs ss)=aJ n T ((List.range n).map fun i=>2 * bz T i - bs.getD i 0) (ss.map xco):=by
 unfold xcw aJ
 congr 1
 apply List.map_congr_left
 intro i hi
 have hi:=YT hi
 have e:(((List.range n).map fun i=>ca (nbs T i)).getD i [])=ca (nbs T i):=by simp [List.getD,hi]
 rw [e,iw (·.2),tH]
theorem xD {w:Web}{i:Nat}{r:YC}(e:w.ties[i]? = some r)(h:Hd):cz [w.enc,.int i] h=.ok (.int (r.map (·.2)).sum) h:=by
 have t:=jD w h e
 have comp:bS none (r.map fO) (gT [0,1]) [] (ae 1) (r.map fO) [none,none] h=.ok ((r.map (·.2)).map .int) h:=by
  have:=b6 (g:=none) (all:=r.map fO) (tg:=gT [0,1]) (cs:=[]) (e:=ae 1) (h:=h) (I:=fun σ=>∃ a b,σ = [a,b]) (fun _=>true) (fun d=>match d with | .tup [_,x]=>x|_=>.non) trivial (xs:=r.map fO) (σ:=[none,none]) (by
   rintro x hx σ ⟨a,b,rfl⟩
   obtain⟨p,_,rfl⟩:=YR hx
   exact⟨_,rfl,⟨_,_,rfl⟩,rfl,fun _=>rfl⟩) ⟨_,_,rfl⟩
  rw [this,List.filter_eq_self.mpr (by simp),List.map_map,List.map_map]
  rfl
 have ii:∀ l:YF,dR (l.map .int)=some l:=fun l=>by
  induction l with
  | nil=>rfl
  | cons x l ih=>simp [dR,ih]
 have k:ce 2 [] (d7 (au bQ (af (ae 0) (af (ae 1) ar)))) (gT [0,1]) [] (ae 1) [some w.enc,some (.int i)] h=.ok ((r.map (·.2)).map .int) h:=by
  have q:d7 (au bQ (af (ae 0) (af (ae 1) ar))) [some w.enc,some (.int i)] h=.ok (r.map fO,none) h:=by simp [t,jA]
  generalize d7 (au bQ (af (ae 0) (af (ae 1) ar)))=I at q ⊢
  simp only [ce,q,aA]
  exact comp
 have st:([w.enc,D.int i].map some++List.replicate (2 - [w.enc,D.int i].length) none:Sd)=[some w.enc,some (.int i)]:=rfl
 have lg:=cD (h:=h) (g:=[]) (d:=.int (r.map (·.2)).sum) rfl
 rw [List.append_nil] at lg
 unfold cz bJ runB
 rw [if_pos (show [w.enc,D.int i].length=2 from rfl),st]
 generalize ce 2 [] (d7 (au bQ (af (ae 0) (af (ae 1) ar)))) (gT [0,1]) [] (ae 1)=E at k ⊢
 have s:bC (wg E) [some w.enc,some (.int i)] h=.rt (.int (r.map (·.2)).sum) h:=by
  simp only [bC,wg,k,aA,ii]
  rfl
 rw [s]
 exact lg
theorem rK (l:YF):fU (l.map D.int)=(List.range l.length).map fun i=>D.tup [.int (i:Nat),.int (l.getD i 0)]:=by
 apply List.ext_getElem
 ·simp [fU]
 ·intro i h1 h2
  have hi:i < l.length:=by simpa using h2
  simp [fU,hi,List.getD]
theorem Ec (ss:YB)(k:Nat)(h:Hd)(hk:h[k]? = some (.lst (ss.map bj))):bS (some k) (ss.map bj) (gN 0) [] (fIf (tE (aw oh (ae 0) (fC .non))) (fC .non) (aw gJ (fC (.int 1)) (ae 0))) (ss.map bj) [none] h=.ok ((ss.map xco).map bj) h:=by
 have:=b6 (g:=some k) (all:=ss.map bj) (tg:=gN 0) (cs:=[]) (e:=fIf (tE (aw oh (ae 0) (fC .non))) (fC .non) (aw gJ (fC (.int 1)) (ae 0))) (h:=h) (I:=fun σ=>∃ a,σ = [a]) (fun _=>true) (fun d=>match d with | .int x=>.int (1 - x)|_=>.non) hk (xs:=ss.map bj) (σ:=[none]) (by
  rintro x hx σ ⟨a,rfl⟩
  obtain⟨i,_,rfl⟩:=YR hx
  refine⟨_,rfl,⟨_,rfl⟩,rfl,fun _ => ?_⟩
  cases i<;>simp [bj]) ⟨_,rfl⟩
 rw [this,List.filter_eq_self.mpr (by simp),List.map_map,List.map_map]
 congr 1
 apply List.map_congr_left
 intro o _
 cases o<;>rfl
theorem Cw {nl:Nat}{caps:List Nat}{a:EF}{tg:GF}{cs:List TF}{e:EF}{σ:Sd}{h h1 h2:Hd}{k:Nat}{l ds:List D}(p:a σ h=.ok (.ref k) h1)(g:h1[k]? = some (.lst l))(q:eJ (fun h'=>h'[k]? = some (.lst l)) tg cs e (fU l) (fK nl caps σ) h1=.ok ds h2):oN nl caps a tg cs e σ h=.ok ds h2:=by
 simp only [oN,p,g]
 exact q
theorem tI {n:Nat}(hn1:1≤n)(hn:n≤30){T:List Tie}(O:TOk n n 0 T){bs:YF}{ss:YB}(lb:bs.length=n)(ls:ss.length=n)(os:∀ x∈ss,x=none∨x=some 0∨x=some 1)(h:Hd) :
  eC [(aJ n T bs ss).enc] h=.ok (aJ n T ((List.range n).map fun i=>2 * bz T i - bs.getD i 0) (ss.map xco)).enc h:=by
 have W:=fF hn O lb ls
 obtain⟨w,hw⟩ : ∃ w,w=aJ n T bs ss:=⟨_,rfl⟩
 rw [← hw] at W ⊢
 have wb:w.bars=bs:=by rw [hw];rfl
 have ws:w.stays=ss:=by rw [hw];rfl
 obtain⟨ob,hob⟩ : ∃ ob:YF,ob=(List.range n).map fun i=>2 * bz T i - bs.getD i 0:=⟨_,rfl⟩
 rw [← hob]
 have lo:ob.length=n:=by rw [hob];simp
 obtain⟨A,hA⟩ : ∃ A,A=h.length:=⟨_,rfl⟩
 obtain⟨h1,hh1⟩ : ∃ h1:Hd,h1=h++[.lst (bs.map .int)]:=⟨_,rfl⟩
 have b1:=iN W h
 rw [wb,← hh1,← hA] at b1
 have g1:h1[A]? = some (.lst (bs.map .int)):=by rw [hh1];exact aU hA 0
 have c1:eJ (fun h'=>h'[A]? = some (.lst (bs.map .int))) (gT [0,1]) [] (aw gJ (aw je (fC (.int 2)) (au cz (af (ae 2) (af (ae 0) ar)))) (ae 1)) (fU (bs.map .int)) [none,none,some w.enc] h1=.ok (ob.map .int) h1:=by
  have:=oP (G:=fun h'=>h'[A]? = some (.lst (bs.map .int))) (tg:=gT [0,1]) (cs:=[]) (e:=aw gJ (aw je (fC (.int 2)) (au cz (af (ae 2) (af (ae 0) ar)))) (ae 1)) (h:=h1) (I:=fun σ=>∃ a b,σ = [a,b,some w.enc]) (fun _=>true)
   (fun d=>match d with | .tup [.int i,.int b]=>.int (2 * bz T i.toNat - b)|_=>.non) g1 (xs:=fU (bs.map .int)) (σ:=[none,none,some w.enc]) (by
   rintro x hx σ ⟨a,b,rfl⟩
   rw [rK] at hx
   obtain⟨i,hi,rfl⟩:=YR hx
   have hi:i < n:=by have:=YT hi;omega
   refine⟨_,rfl,⟨_,_,rfl⟩,rfl,fun _ => ?_⟩
   have er:w.ties[i]? = some (ca (nbs T i)):=by rw [hw];simp [aJ,hi]
   have q:=xD er h1
   rw [iw (·.2),tH] at q
   have s2:sml 2=true:=by decide
   show aw gJ (aw je (fC (.int 2)) (au cz (af (ae 2) (af (ae 0) ar)))) (ae 1) [some (.int (i:Nat)),some (.int (bs.getD i 0)),some w.enc] h1=.ok (.int (2 * bz T (i:Int).toNat - bs.getD i 0)) h1
   rw [Int.toNat_natCast]
   generalize bs.getD i 0=bv
   simp [q,s2]) ⟨_,_,rfl⟩
  rw [this,List.filter_eq_self.mpr (by simp),rK,List.map_map,hob,List.map_map,lb]
  congr 1
 rw [hh1] at b1 g1 c1
 have b3:=gW W (h++[.lst (bs.map .int),.lst (ob.map .int)])
 rw [ws,ZB,← hA,ZU] at b3
 have g3:(h++[cP.lst (bs.map .int),.lst (ob.map .int),.lst (ss.map bj)])[A + 2]? = some (.lst (ss.map bj)):=aU hA 2
 have to:=fz hn O lb ls (h++[.lst (bs.map .int),.lst (ob.map .int),.lst (ss.map bj),.lst ((ss.map xco).map bj)])
 rw [← hw,ZB,← hA,ZU] at to
 have wo:=iy hn1 hn (iM hn O).1 (bs:=ob) (ss:=ss.map xco) lo (by rw [ZA,ls]) (fun x hx=>by
  obtain⟨y,hy,rfl⟩:=YR hx
  rcases os y hy with e|e|e<;>subst e<;>simp [xco]) (h:=h++[.lst (bs.map .int),.lst (ob.map .int),.lst (ss.map bj),.lst ((ss.map xco).map bj),.lst ((ke n T).map aL)]) (tk:=A + 4) (bk:=A + 1) (sk:=A + 3) (aU hA 4) (aU hA 1) (aU hA 3)
 rw [kK hn O] at wo
 have z30:n≤SZ:=ZM hn (by decide)
 exact Eq.trans (b7 (σ:=[some w.enc,none,none]) rfl rfl (sx (az (dY (g:=[.lst (bs.map .int)]) hA (Cw (ao (ak rfl rfl) b1) g1 c1) (by rw [ZA,lo];exact z30))) (sx (az (dY (g:=[.lst (bs.map .int),.lst (ob.map .int),.lst (ss.map bj)]) hA (dZ (fY (ao (ak rfl rfl) b3) g3) (Ec ss (A + 2) _ g3)) (by rw [ZA,ZA,ls];exact z30))) (bx (ao (ak (ao (ak rfl rfl) (mO W _)) (ak (ao (ak rfl rfl) to) (a7 rfl rfl))) wo))))) (cD (jG _))
end Fm
namespace Fm
theorem yS {σ:Sd}{j n:Nat}(hn1:1≤n)(hn:n≤30){T:List Tie}(O:TOk n n 0 T){bs:YF}{ss:YB}(lb:bs.length=n)(ls:ss.length=n)(os:∀ x∈ss,x=none∨x=some 0∨x=some 1){tk bk sk mk:Nat}{h:Hd}(to:fP n T bs ss tk bk sk h)
  (hv:∀ h,ae j σ h=.ok (.tup [.int n,.ref tk,.ref bk,.ref sk,.ref mk]) h):∃ g,au cx (af (fAt (ae j) (fC (.int 0))) (af (aQ (lOf (fAt (ae j) (fC (.int 1))))) (af (aQ (lOf (fAt (ae j) (fC (.int 2))))) (af (aQ (lOf (fAt (ae j) (fC (.int 3))))) ar)))) σ h=.ok (aJ n T bs ss).enc (h++g):=by
 obtain⟨h1,hh1⟩ : ∃ h1:Hd,h1=h++[.lst (T.map aL)]:=⟨_,rfl⟩
 obtain⟨h2,hh2⟩ : ∃ h2:Hd,h2=h1++[.lst (bs.map .int)]:=⟨_,rfl⟩
 obtain⟨h3,hh3⟩ : ∃ h3:Hd,h3=h2++[.lst (ss.map bj)]:=⟨_,rfl⟩
 have z30:n≤SZ:=ZM hn (by decide)
 have lT:(T.map aL).length≤SZ:=by rw [ZA];exact ZM O.len (ZM (Nat.add_le_add_right (Nat.mul_le_mul_left 30 hn) 0) (by decide))
 have e1:aQ (lOf (fAt (ae j) (fC (.int 1)))) σ h=.ok (.ref h.length) h1:=by rw [hh1];exact gC (cR (aH (hv _) rfl rfl rfl) (bd to.ti)) lT
 have e2:aQ (lOf (fAt (ae j) (fC (.int 2)))) σ h1=.ok (.ref h1.length) h2:=by rw [hh2];exact gC (cR (aH (hv _) rfl rfl rfl) (bd (by rw [hh1];exact ef _ to.ba))) (by rw [ZA,lb];exact z30)
 have e3:aQ (lOf (fAt (ae j) (fC (.int 3)))) σ h2=.ok (.ref h2.length) h3:=by rw [hh3];exact gC (cR (aH (hv _) rfl rfl rfl) (bd (by rw [hh2,hh1];exact ef _ (ef _ to.st)))) (by rw [ZA,ls];exact z30)
 have wo:=iy hn1 hn O lb ls os (h:=h3) (tk:=h.length) (bk:=h1.length) (sk:=h2.length) (by rw [hh3,hh2,hh1];exact ef _ (ef _ ZG)) (by rw [hh3,hh2];exact ef _ ZG) (by rw [hh3];exact ZG)
 exact⟨[.lst (T.map aL)]++[.lst (bs.map .int)]++[.lst (ss.map bj)],(ao (ak (aH (hv _) rfl rfl rfl) (ak e1 (ak e2 (ak e3 rfl)))) wo).trans (by rw [hh3,hh2,hh1];simp only [ZU])⟩
theorem Ed (s:YF)(h:Hd):bS none (s.map D.int) (gN 0) [] (aw gJ (fC (.int 1)) (ae 0)) (s.map D.int) [none] h=.ok ((xcs s).map .int) h:=by
 have:=b6 (g:=none) (all:=s.map D.int) (tg:=gN 0) (cs:=[]) (e:=aw gJ (fC (.int 1)) (ae 0)) (h:=h) (I:=fun σ=>∃ a,σ = [a]) (fun _=>true) (fun d=>match d with | .int x=>.int (1 - x)|_=>.non) trivial (xs:=s.map D.int) (σ:=[none]) (by
  rintro x hx σ ⟨a,rfl⟩
  obtain⟨i,_,rfl⟩:=YR hx
  exact⟨_,rfl,⟨_,rfl⟩,rfl,fun _=>by simp⟩) ⟨_,rfl⟩
 rw [this,List.filter_eq_self.mpr (by simp),List.map_map,xcs,List.map_map]
 rfl
theorem rL (s:YF)(h:Hd):bZ [aE s] h=.ok (aE (xcs s)) h:=by
 have c:=Ed s h
 have k:ce 1 [] (d7 (ae 0)) (gN 0) [] (aw gJ (fC (.int 1)) (ae 0)) [some (aE s)] h=.ok ((xcs s).map .int) h:=by
  simp only [ce,d7,ae,slot,List.getElem?_cons_zero,aA,aE]
  exact c
 have st:([aE s].map some++List.replicate (1 - [aE s].length) none:Sd)=[some (aE s)]:=rfl
 have lg:=cD (h:=h) (g:=[]) (d:=aE (xcs s)) (by simp only [pure?,aE];exact fj fun _ _=>rfl)
 rw [List.append_nil] at lg
 unfold bZ bJ runB
 rw [if_pos (show [aE s].length=1 from rfl),st]
 generalize ce 1 [] (d7 (ae 0)) (gN 0) [] (aw gJ (fC (.int 1)) (ae 0))=E at k ⊢
 have s1:bC (gq E) [some (aE s)] h=.rt (aE (xcs s)) h:=by
  unfold gq bC
  simp only [k,aA]
  rfl
 rw [s1]
 exact lg
section
variable {w w1 w2:Web} {n:Nat} {s s1 s2:YF}
theorem xE (W:w.Ok n)(S:dD w)(F:eE w n s):∀ k,cJ (xcw n w) n (xcs s) k=xcs (cJ w n s k)
 | 0=>rfl
 | k + 1=>by
  show fE (xcw n w) n (cJ (xcw n w) n (xcs s) k)=xcs (fE w n (cJ w n s k))
  rw [xE W S F k,GP W (cb W S F k)]
theorem GQ {k:Nat}{a b:YF}(la:a.length=n)(lb:b.length=n):gc k (xcs b) (xcs a) n=gc k a b n:=by
 unfold gc
 congr 1
 refine List.filter_congr fun p hp => ?_
 have hp:=YT hp
 rw [nW (by omega),nW (by omega)]
 congr 1
 exact decide_eq_decide.mpr ⟨fun h=>by omega,fun h=>by omega⟩
theorem Cy (W1:w1.Ok n)(W2:w2.Ok n)(S1:dD w1)(S2:dD w2)(F1:eE w1 n s1)(F2:eE w2 n s2):∀ m,ft (xcw n w2) (xcw n w1) n (xcs s2) (xcs s1) m=ft w1 w2 n s1 s2 m
 | 0=>rfl
 | m + 1=>by
  rw [ft,ft,Cy W1 W2 S1 S2 F1 F2 m,xE W1 S1 F1,xE W2 S2 F2,GQ (cb W1 S1 F1 m).len (cb W2 S2 F2 m).len]
theorem vG {k:Nat}{a b:YF}{r:YF}:r∈gc k a b n ↔ ∃ p,p < n∧a.getD p 0≠b.getD p 0∧r=[(k:Int),(p:Int)]:=by
 unfold gc
 rw [List.mem_map]
 constructor
 ·rintro⟨p,hp,rfl⟩
  obtain⟨h1,h2⟩:=YU hp
  exact⟨p,YT h1,by simpa using h2,rfl⟩
 ·rintro⟨p,hp,ne,rfl⟩
  exact⟨p,List.mem_filter.mpr ⟨List.mem_range.mpr hp,by simpa using ne⟩,rfl⟩
theorem iA {r:YF}:∀ {m:Nat},r∈ft w1 w2 n s1 s2 m ↔ ∃ k p,k < m∧p < n∧(cJ w1 n s1 k).getD p 0≠(cJ w2 n s2 k).getD p 0∧r=[(k:Int),(p:Int)]
 | 0=>by
  constructor
  ·intro h;cases h
  ·rintro⟨k,p,hk,_⟩;omega
 | m + 1=>by
  rw [ft,List.mem_append,iA (m:=m),vG]
  constructor
  ·rintro (⟨k,p,hk,h⟩|⟨p,h1,h2,h3⟩)
   ·exact⟨k,p,by omega,h⟩
   ·exact⟨m,p,by omega,h1,h2,h3⟩
  ·rintro⟨k,p,hk,h1,h2,h3⟩
   by_cases e:k=m
   ·subst e;exact .inr ⟨p,h1,h2,h3⟩
   ·exact .inl ⟨k,p,by omega,h1,h2,h3⟩
theorem Ij {k p k' p':Nat}(h:k < k'∨k=k'∧p < p'):bw [(k:Int),(p:Int)] [(k':Int),(p':Int)] = true:=by
 unfold bw
 by_cases e:(k:Int)=k'
 ·rw [if_pos e]
  unfold bw
  rw [if_neg (by omega),YZ (by omega)]
 ·rw [if_neg e,YZ (by omega)]
theorem Ee {k:Nat}{a b:YF}:(gc k a b n).Pairwise fun x y=>bw x y=true:=by
 unfold gc
 rw [List.pairwise_map]
 exact (List.pairwise_lt_range.sublist List.filter_sublist).imp fun {x y} h=>Ij (.inr ⟨rfl,h⟩)
theorem tJ:∀ m,(ft w1 w2 n s1 s2 m).Pairwise fun x y=>bw x y=true
 | 0=>List.Pairwise.nil
 | m + 1=>by
  rw [ft,List.pairwise_append]
  refine⟨tJ m,Ee,fun x hx y hy => ?_⟩
  obtain⟨k,p,hk,_,_,rfl⟩:=iA.mp hx
  obtain⟨p',_,_,rfl⟩:=vG.mp hy
  exact Ij (.inl hk)
theorem Ik {l:YA}(h:l.Pairwise fun x y=>bw x y=true):l.Nodup:=h.imp fun {a b} q e=>by rw [e,iF] at q;cases q
theorem vH {w0:Web}{s0:YF}{m:Nat}(B0:∀ k,kL (cJ w0 n s0 k))(B1:∀ k,kL (cJ w1 n s1 k))(B2:∀ k,kL (cJ w2 n s2 k))(l01:∀ k,LeS (cJ w0 n s0 k) (cJ w1 n s1 k))(l12:∀ k,LeS (cJ w1 n s1 k) (cJ w2 n s2 k)) :
  bN (ddr (ft w0 w1 n s0 s1 m++ft w1 w2 n s1 s2 m))=ft w0 w2 n s0 s2 m:=by
 refine jS ?_ (cf (jX _)) (tJ m)
 refine (b9 _).trans ((List.perm_ext_iff_of_nodup (jX _) (Ik (tJ m))).mpr fun r => ?_)
 rw [yz,List.mem_append,iA,iA,iA]
 constructor
 ·rintro (⟨k,p,hk,hp,ne,rfl⟩|⟨k,p,hk,hp,ne,rfl⟩)
  ·refine⟨k,p,hk,hp,fun e=>ne ?_,rfl⟩
   have:=l01 k p;have:=l12 k p
   omega
  ·refine⟨k,p,hk,hp,fun e=>ne ?_,rfl⟩
   have:=l01 k p;have:=l12 k p
   omega
 ·rintro⟨k,p,hk,hp,ne,rfl⟩
  by_cases e:(cJ w0 n s0 k).getD p 0=(cJ w1 n s1 k).getD p 0
  ·exact .inr ⟨k,p,hk,hp,fun e'=>ne (e.trans e'),rfl⟩
  ·exact .inl ⟨k,p,hk,hp,e,rfl⟩
end
theorem vI (R:YA):eqL (R.map aE) (R.map aE)=some true:=by
 have p4:∀ x:Int,peq (.int x) (.int x)=some true:=fun x=>by simp [peq]
 have d4:∀ x:Int,dep (.int x)≤0:=fun x=>by simp [dep]
 have p5:∀ r:YF,peq (aE r) (aE r)=some true:=fun r=>by simp [aE,peq,fk p4 r]
 have d5:∀ r:YF,dep (aE r)≤1:=fun r=>by have:=eB d4 r;simp only [aE,dep];omega
 have e:=eB d5 R
 unfold eqL
 rw [if_pos (by omega),if_pos rfl,fk p5 R]
theorem yT {h:Hd}{a b:Nat}{R:YA}(h1:h[a]? = some (.lst (R.map aE)))(h2:h[b]? = some (.lst (R.map aE))):oNe (.ref a) (.ref b) h=.ok (.bl false) h:=by
 simp only [oNe,eqG,gp,h1,h2,vI];rfl
theorem Ef {h:Hd}{a b:Nat}{R:YA}(h1:h[a]? = some (.lst (R.map aE)))(h2:h[b]? = some (.lst (R.map aE))):oEq (.ref a) (.ref b) h=.ok (.bl true) h:=by
 simp only [oEq,eqG,gp,h1,h2,vI]
theorem z6 {L:LF}{σ:Sd}{h h1:Hd}{R:YA}(p:L σ h=.ok (R.map aE) h1)(z:R.length < 1000)(ne:∀ r∈R,r≠[]):lJ L σ h=.ok ((bN (ddr R)).map aE) h1:=by
 have r1:pU (R.map aE)=some R:=uD R
 have c:(R.map aE).length < 1000∧R.all (fun x => !x.isEmpty)=true:=⟨by rw [ZA];exact z,List.all_eq_true.mpr fun r hr=>by
  have:=ne r hr
  cases r with
  | nil=>exact absurd rfl this
  | cons _ _=>rfl⟩
 simp only [lJ,p,aA,oY,r1,if_pos c]
 rfl
end Fm
namespace Fm
structure Stg (n:Nat) (w:Web) (s:YF):Prop where
 ex:∃ T bs ss,w=aJ n T bs ss∧TOk n n 0 T∧bs.length=n∧ss.length=n∧(∀ x∈ss,x=none∨x=some 0∨x=some 1)∧kJ n ss s
section
variable {n:Nat} {w:Web} {s:YF}
theorem Stg.W (g:Stg n w s)(hn:n≤30):w.Ok n:=by
 obtain⟨T,bs,ss,rfl,O,lb,ls,os,F⟩:=g.ex
 exact fF hn O lb ls
theorem Stg.S (g:Stg n w s):dD w:=by
 obtain⟨T,bs,ss,rfl,O,lb,ls,os,F⟩:=g.ex
 exact os
theorem Stg.F (g:Stg n w s):eE w n s:=by
 obtain⟨T,bs,ss,rfl,O,lb,ls,os,F⟩:=g.ex
 exact F.fits T bs
theorem Stg.xq (g:Stg n w s)(hn1:1≤n)(hn:n≤30)(h:Hd):eC [w.enc] h=.ok (xcw n w).enc h:=by
 obtain⟨T,bs,ss,rfl,O,lb,ls,os,F⟩:=g.ex
 rw [z5 lb]
 exact tI hn1 hn O lb ls os h
end
def bV (p:Web × YF):D:=.tup [p.1.enc,aE p.2]
def LeH (n:Nat) (a b:Web × YF):Prop:=∀ k,LeS (cJ a.1 n a.2 k) (cJ b.1 n b.2 k)
theorem LeH.refl (n:Nat)(a:Web × YF):LeH n a a:=fun _=>LeS.refl _
theorem LeH.trans {n:Nat}{a b c:Web × YF}(x:LeH n a b)(y:LeH n b c):LeH n a c:=fun k=>(x k).trans (y k)
structure Ch (n:Nat) (L:List (Web × YF)):Prop where
 all:∀ p∈L,Stg n p.1 p.2
 up:L.Pairwise (LeH n)
theorem Ch.add {n:Nat}{L:List (Web × YF)}{a b:Web × YF}(c:Ch n L)(la:L.getLast? = some a)(g:Stg n b.1 b.2)(le:LeH n a b):Ch n (L++[b]):=by
 refine⟨fun p hp=>(YS hp).elim (c.all p) fun h=>by rw [YV h];exact g,?_⟩
 rw [List.pairwise_append]
 refine⟨c.up,List.pairwise_singleton _ _,fun x hx y hy => ?_⟩
 rw [YV hy]
 refine LeH.trans ?_ le
 obtain⟨L0,rfl⟩ : ∃ L0,L=L0++[a]:=⟨L.dropLast,by
  have ne:L≠[]:=by intro z;rw [z] at la;cases la
  have:=List.dropLast_concat_getLast ne
  rw [List.getLast?_eq_some_getLast ne] at la
  rw [← ZT la];exact this.symm⟩
 rcases YS hx with hx|hx
 ·exact (List.pairwise_append.mp c.up).2.2 x hx a (List.mem_singleton.mpr rfl)
 ·rw [YV hx];exact LeH.refl n a
theorem Ch.le {n:Nat}{L:List (Web × YF)}(c:Ch n L){i j:Nat}{a b:Web × YF}(hi:L[i]? = some a)(hj:L[j]? = some b)(h:i≤j):LeH n a b:=by
 by_cases e:i=j
 ·subst e;rw [hi] at hj;cases hj;exact LeH.refl n a
 ·have li:=(YO hi)
  have lj:=(YO hj)
  obtain⟨l1,e1⟩:=li
  obtain⟨l2,e2⟩:=lj
  have:=(List.pairwise_iff_getElem.mp c.up) i j l1 l2 (by omega)
  rw [e1,e2] at this
  exact this
theorem tK {L:List (Web × YF)}(ne:L≠[]){h:Hd}{B k:Nat}(hB:h[B]? = some (.lst (L.map bV))){M:List D}(hk:h[k]? = some (.lst M))(d:∀ x,M.head? = some x → ∀ l,x≠bV l):B≠k:=by
 intro e
 subst e
 rw [hB] at hk
 injection hk with hk
 injection hk with hk
 cases L with
 | nil=>exact ne rfl
 | cons l r=>exact d (bV l) (by rw [← hk];rfl) l rfl
theorem Eg {n:Nat}{T:List Tie}{bs:YF}{ss:YB}{tk bk sk:Nat}{h:Hd}(P:fP n T bs ss tk bk sk h){L:List (Web × YF)}(ne:L≠[]){B:Nat}(hB:h[B]? = some (.lst (L.map bV))):B≠tk∧B≠bk∧B≠sk:=by
 refine⟨tK ne hB P.ti fun x hx l e => ?_,tK ne hB P.ba fun x hx l e => ?_,tK ne hB P.st fun x hx l e => ?_⟩
 ·subst e
  cases T with
  | nil=>cases hx
  | cons t T =>
   simp only [XC,List.head?_cons] at hx
   have:=ZT hx
   unfold aL bV at this
   injection this with this
   injection this with _ this
   injection this with _ this
   cases this
 ·subst e
  cases bs with
  | nil=>cases hx
  | cons t T =>
   simp only [XC,List.head?_cons] at hx
   have:=ZT hx
   unfold bV at this
   cases this
 ·subst e
  cases ss with
  | nil=>cases hx
  | cons t T =>
   simp only [XC,List.head?_cons] at hx
   have:=ZT hx
   unfold bV at this
   cases t<;>cases this
theorem fP.set {n:Nat}{T:List Tie}{bs:YF}{ss:YB}{tk bk sk:Nat}{h:Hd}(P:fP n T bs ss tk bk sk h){B:Nat}(ne:B≠tk∧B≠bk∧B≠sk)(c:cP):fP n T bs ss tk bk sk (h.set B c) :=
 ⟨by rw [ZP ne.1];exact P.ti,by rw [ZP ne.2.1];exact P.ba,by rw [ZP ne.2.2];exact P.st⟩
noncomputable abbrev X47 (S0 td:D) (w:D) (s:D) (A:Nat) (t:D) (B:Nat) (x7 x8 x9 x10 x11 x12 x13 x14 x15 x16:Option D):Sd:=[some S0,some td,some w,some s,some (.ref A),some t,some (.ref B),x7,x8,x9,x10,x11,x12,x13,x14,x15,x16]
structure At6 (ns:YF) (n qk A B:Nat) (t:D) (i:Nat) (σ:Sd) (h:Hd):Prop where
 ex:∃ T bs ss s tk bk sk L x7,σ = X47 (.lit (ns.map .int)) (tD n tk bk sk qk) (aJ n T bs ss).enc (aE s) A t B x7 none none none none none none none none none∧fP n T bs ss tk bk sk h∧TOk n n 0 T∧bs.length=n∧ss.length=n∧(∀ x∈ss,x=none∨x=some 0∨x=some 1)∧kJ n ss s∧h[B]? = some (.lst (L.map bV))∧L.length=i + 1∧L.getLast? = some (aJ n T bs ss,s)∧Ch n L
theorem GR {ns:YF}{n qk A B:Nat}{t:D}(hn1:1≤n)(hn:n≤30){i:Nat}(hi:i < 100){σ:Sd}{h:Hd}(a:At6 ns n qk A B t i σ h) :
  ∃ σ1,gN 7 (.int i) σ = some σ1 ∧ ∃ σ2 h2,xc σ1 h=.nx σ2 h2∧At6 ns n qk A B t (i + 1) σ2 h2:=by
 obtain⟨T,bs,ss,s,tk,bk,sk,L,x7,rfl,P,O,lb,ls,os,F,hB,lL,la,c⟩:=a.ex
 obtain⟨S0,hS0⟩ : ∃ S0:D,S0=.lit (ns.map .int):=⟨_,rfl⟩
 obtain⟨c0,m,q0⟩:=jF ns (43 + i) h
 obtain⟨T',bs',ss',s',tk',bk',sk',g',q1,P',O',lb',ls',os',F',le,M⟩:=vC (qk:=qk) (A:=h.length) (c:=c0) (t:=0) (b:=m) hn1 hn O lb ls os F rfl P
 obtain⟨w,hw⟩ : ∃ w,w=aJ n T bs ss:=⟨_,rfl⟩
 obtain⟨w',hw'⟩ : ∃ w',w'=aJ n T' bs' ss':=⟨_,rfl⟩
 rw [← hw,← hw'] at q1
 rw [← hS0] at q0
 have hB':(h++g')[B]? = some (.lst (L.map bV)):=c9 _ hB
 have neL:L≠[]:=by intro z;rw [z] at lL;cases lL
 have lB:B < (h++g').length:=(YO hB').1
 obtain⟨h2,hh2⟩ : ∃ h2,h2=(h++g').set B (.lst ((L++[(w',s')]).map bV)):=⟨_,rfl⟩
 have zz:(L.map bV).length < SZ:=by rw [ZA,lL];exact ZS (show i + 1≤200 by omega) (by decide)
 have st:(h++g').set B (.lst (L.map bV++[bV (w',s')]))=h2:=by rw [hh2,ZR];rfl
 have P2:fP n T' bs' ss' tk' bk' sk' h2:=by rw [hh2];exact P'.set (Eg P' neL hB') _
 obtain⟨g3,q3⟩:=yS (σ:=X47 S0 (tD n tk' bk' sk' qk) w'.enc (aE s') A t B (some (.int i)) none none none none none none none none none) (j:=1) (mk:=qk) hn1 hn O' lb' ls' os' P2 (fun _=>rfl)
 rw [← hw'] at q3
 have W:=fF hn O lb ls (bs:=bs) (ss:=ss)
 have W':=fF hn O' lb' ls' (bs:=bs') (ss:=ss')
 have leH:LeH n (aJ n T bs ss,s) (w',s'):=by
  rw [hw']
  exact rp W W' os os' M (F.fits T bs) (F'.fits T' bs') le
 refine⟨X47 S0 (tD n tk bk sk qk) w.enc (aE s) A t B (some (.int i)) none none none none none none none none none,by rw [hS0,hw];rfl,_,_,sx (sP (ao (ak rfl (ak rfl (a7 rfl (ao (a7 rfl (av rfl rfl rfl)) q0)))) q1) rfl) (sx ((dn (jB rfl hB' (cE (a7 rfl rfl)) hB' zz)).trans (congrArg (Out.nx _) st)) (dw (bh (av rfl q3 (DX w' _))))),⟨T',bs',ss',s',tk',bk',sk',L++[(w',s')],some (.int i),by rw [hS0,hw'];rfl,P2.more _,O',lb',ls',os',F',c9 _ (by rw [hh2,List.getElem?_set_self lB]),by rw [ZB,lL];rfl,by rw [List.getLast?_append,hw'];rfl,c.add la ⟨T',bs',ss',hw',O',lb',ls',os',F'⟩ leH⟩⟩
end Fm
namespace Fm
theorem tL {g:YL}{all:List D}{tg:GF}{b:SF}{x:D}{xs:List D}{σ σ' σ'':Sd}{h h':Hd}(hh:im g all h)(t:tg x σ = some σ')(e:b σ' h=.nx σ'' h'):iD g all tg b (x :: xs) σ h=iD g all tg b xs σ'' h':=by
 rw [iD,if_pos hh,t];simp only [e]
section
variable {n:Nat} {S0 td w s:D} {A B R t:Nat} {x7 x8 x9 x10 x14 x15 x16:Option D} {a b:Web × YF} {h:Hd} {L:List D}
theorem Cz (hn1:1≤n)(hn:n≤30)(ht:t≤90)(ga:Stg n a.1 a.2)(gb:Stg n b.1 b.2)(le:LeH n a b)(hR:h[R]? = some (.lst L))(lL:L.length≤10) :
  ∃ f h' y14 y15 y16,Cf (X47 S0 td w s A (.int t) B x7 x8 x9 x10 (some (.ref R)) (some (bV a)) (some (bV b)) x14 x15 x16) h=.nx (X47 S0 td w s A (.int t) B x7 x8 x9 x10 (some (.ref R)) (some (bV a)) (some (bV b)) y14 y15 y16) h' ∧
   h'[R]? = some (.lst (L++[.ref f]))∧h'[f]? = some (.lst ((ft a.1 b.1 n a.2 b.2 (t + 1)).map aE)) ∧ ∀ i c,i≠R→h[i]? = some c→h'[i]? = some c:=by
 obtain⟨w1,s1⟩:=a
 obtain⟨w2,s2⟩:=b
 have W1:=ga.W hn
 have W2:=gb.W hn
 have F1:=ga.F
 have F2:=gb.F
 obtain⟨Q,hQ⟩ : ∃ Q,Q=ft w1 w2 n s1 s2 (t + 1):=⟨_,rfl⟩
 have qa:=Cu W1 W2 ga.S gb.S F1 F2 hn ht le h
 have qd:=fun h=>rJ W1 W2 ga.S gb.S F1 F2 hn (t:=t) (by omega) h
 have qx:=fun h=>rJ (Cv W2) (Cv W1) (vD gb.S) (vD ga.S) (vE F2) (vE F1) hn (t:=t) (by omega) h
 unfold kg at qa qd qx
 simp only [Cy W1 W2 ga.S gb.S F1 F2,← hQ] at qa qd qx ⊢
 obtain⟨C,hC⟩ : ∃ C,C=h.length:=⟨_,rfl⟩
 have lR:R < C:=by rw [hC];exact (YO hR).1
 rw [← hC] at qa
 have qd1:=qd (h++[.lst (Q.map aE)])
 rw [ZB,← hC,ZU] at qd1
 obtain⟨h2,hh2⟩ : ∃ h2,h2=h.set R (.lst (L++[.ref (C + 1)])):=⟨_,rfl⟩
 have lh2:C=h2.length:=by rw [hh2,List.length_set];exact hC
 have hR2:(h++[cP.lst (Q.map aE),.lst (Q.map aE)])[R]? = some (.lst L):=c9 _ hR
 have st:(h++[cP.lst (Q.map aE),.lst (Q.map aE)]).set R (.lst (L++[.ref (C + 1)]))=h2++[cP.lst (Q.map aE),.lst (Q.map aE)]:=by rw [hh2,List.set_append_left _ _ (by rw [← hC];exact lR)]
 have qx1:=qx (h2++[.lst (Q.map aE),.lst (Q.map aE)])
 rw [ZB,← lh2,ZU] at qx1
 refine⟨C + 1,h2++[.lst (Q.map aE),.lst (Q.map aE),.lst (Q.map aE)],some (.ref C),some (.ref (C + 1)),some (bV (xcw n w1,xcs s1)),?_,?_,aU lh2 1,fun i c ni hi => ?_⟩
 ·refine sx (az (ao (ak (aH rfl rfl rfl rfl) (ak (aH rfl rfl rfl rfl) (ak (aH rfl rfl rfl rfl) (a7 (aH rfl rfl rfl rfl) rfl)))) qa)) ?_
  refine sx (az (ao (ak (aH rfl rfl rfl rfl) (ak (aH rfl rfl rfl rfl) (ak (aH rfl rfl rfl rfl) (a7 (aH rfl rfl rfl rfl) rfl)))) qd1)) ?_
  refine sx (dw (lK (bh (av rfl rfl rfl)) (bh (av rfl rfl (yT (aU hC 1) (aU hC 0)))))) ?_
  refine sx ((dn (jB rfl hR2 rfl hR2 (ZS lL (by decide)))).trans (congrArg (Out.nx _) st)) ?_
  refine sx (az (cE (a7 (ao (ak (aH rfl rfl rfl rfl) rfl) (ga.xq hn1 hn _)) (ao (ak (aH rfl rfl rfl rfl) rfl) (rL s1 _))))) ?_
  exact dw (bh (av (ao (ak (ao (ak (aH rfl rfl rfl rfl) rfl) (gb.xq hn1 hn _)) (ak (ao (ak (aH rfl rfl rfl rfl) rfl) (rL s2 _)) (ak (aH rfl rfl rfl rfl) (a7 (aH rfl rfl rfl rfl) rfl)))) qx1) rfl (yT (aU lh2 2) (aU lh2 0))))
 ·refine c9 _ ?_
  rw [hh2,List.getElem?_set_self (by rw [← hC];exact lR)]
 ·refine c9 _ ?_
  rw [hh2,ZP (fun z=>ni z.symm)];exact hi
end
theorem Eh {l:List D}{d:D}(h:l.getLast? = some d):atI l (-1)=some d:=by
 have ne:l≠[]:=by intro z;rw [z] at h;cases h
 have lp:0 < l.length:=List.length_pos_iff.mpr ne
 rw [List.getLast?_eq_getElem?] at h
 unfold atI ixN
 rw [if_neg (by decide),if_pos (by omega)]
 have e:(-1 + (l.length:Int)).toNat=l.length - 1:=by omega
 rw [e]
 exact h
theorem GS (ns:YF)(hns:ns.length≤63):∃ h,yL [.lit (ns.map .int)] []=.ok (.bl true) h:=by
 obtain⟨n,T,bs,ss,h0,P⟩:=zO ns
 have hn1:=P.n1
 have hn:=P.n30
 obtain⟨S0,hS0⟩ : ∃ S0:D,S0=.lit (ns.map .int):=⟨_,rfl⟩
 have P0:fP n T bs ss 1 (5 + n) 3 h0:=⟨P.ti,P.ba,P.st⟩
 have run:=P.run
 obtain⟨g1,q1⟩:=yS (σ:=[some S0,some (tD n 1 (5 + n) 3 4),none,none,none,none,none,none,none,none,none,none,none,none,none,none,none]) (j:=1) (mk:=4) hn1 hn P.ok P.lb P.ls P.os P0 (fun _=>rfl)
 obtain⟨w,hw⟩ : ∃ w,w=aJ n T bs ss:=⟨_,rfl⟩
 obtain⟨h1,hh1⟩ : ∃ h1,h1=h0++g1:=⟨_,rfl⟩
 rw [← hw,← hh1] at q1
 have P1:fP n T bs ss 1 (5 + n) 3 h1:=by rw [hh1];exact P0.more _
 obtain⟨s,qs,Fs⟩:=zS ns 41 hn P.ls P.os P1.st
 obtain⟨c0,m,q3⟩:=jF ns 42 h1
 obtain⟨A,hA⟩ : ∃ A,A=h1.length:=⟨_,rfl⟩
 rw [← hS0] at run qs q3
 rw [← hA] at q3
 obtain⟨tv,c1,t1,q4,tv0,tv1⟩:=gk hA c0 0 m [] (m:=7) (by decide) (by decide)
 obtain⟨t,rfl⟩:=Int.eq_ofNat_of_zero_le tv0
 have ht:t≤90:=by omega
 obtain⟨cv,c2,t2,q6,cv0,cv1⟩:=gk hA c1 t1 m [.lst [bV (w,s)]] (m:=5) (by decide) (by decide)
 obtain⟨cn,rfl⟩:=Int.eq_ofNat_of_zero_le cv0
 have a0:At6 ns n 4 A (A + 1) (.int t) 0 (X47 S0 (tD n 1 (5 + n) 3 4) w.enc (aE s) A (.int t) (A + 1) none none none none none none none none none none) (h1++[SC c2 t2 m,.lst [bV (w,s)]]) :=
  ⟨T,bs,ss,s,1,5 + n,3,[(w,s)],none,by rw [hS0,hw],P1.more _,P.ok,P.lb,P.ls,P.os,Fs,aU hA 1,rfl,by rw [hw];rfl,fun p hp=>by rw [YV hp];exact⟨T,bs,ss,hw,P.ok,P.lb,P.ls,P.os,Fs⟩,List.pairwise_singleton _ _⟩
 obtain⟨σ6,h6,k6,a6⟩:=de (P:=fun i σ h=>At6 ns n 4 A (A + 1) (.int t) i σ h) (g:=none) (k:=0) (all:=(List.range (1 + cn)).map fun k:Nat=>D.int k) (fun _ _ _ _=>trivial) (xs:=(List.range (1 + cn)).map fun k:Nat=>D.int k) (tg:=gN 7) (b:=xc) (by
   intro i x σ h hx a
   obtain⟨hi,rfl⟩:=dL hx
   rw [Nat.zero_add] at a ⊢
   exact GR hn1 hn (by omega) a) a0
 rw [Nat.zero_add,ZA,ZO] at a6
 obtain⟨T6,bs6,ss6,s6,tk6,bk6,sk6,L,x7,rfl,_,_,_,_,_,_,gB,lL,la,ch⟩:=a6.ex
 obtain⟨fa,hfa⟩ : ∃ fa,L[0]? = some fa:=⟨L[0],ZE (by omega)⟩
 obtain⟨fm,hfm⟩ : ∃ fm,L[L.length / 2]? = some fm:=⟨L[L.length / 2],ZE (by omega)⟩
 obtain⟨fl,hfl⟩ : ∃ fl,L[L.length - 1]? = some fl:=⟨L[L.length - 1],ZE (by omega)⟩
 have l1:=ch.le hfa hfm (Nat.zero_le _)
 have l2:=ch.le hfm hfl (by omega)
 have l3:=ch.le hfa hfl (Nat.zero_le _)
 have ga:=ch.all fa (ZK hfa)
 have gm:=ch.all fm (ZK hfm)
 have gl:=ch.all fl (ZK hfl)
 have at0:atI (L.map bV) 0=some (bV fa):=cu (i:=0) (by rw [ZQ,hfa];rfl)
 have atm:atI (L.map bV) (((L.map bV).length:Int) / 2)=some (bV fm):=by
  rw [ZA]
  exact cu (i:=L.length / 2) (by rw [ZQ,hfm];rfl)
 have atl:atI (L.map bV) (-1)=some (bV fl):=Eh (by rw [List.getLast?_eq_getElem?,ZA,ZQ,hfl];rfl)
 obtain⟨R,hR⟩ : ∃ R,R=h6.length:=⟨_,rfl⟩
 have gR:(h6++[cP.lst []])[R]? = some (.lst []):=jZ hR _
 obtain⟨f0,h7,y14,y15,y16,b0,r0,d0,k0⟩:=Cz (x14:=none) (x15:=none) (x16:=none) (S0:=.lit (ns.map .int)) (td:=tD n tk6 bk6 sk6 4) (w:=(aJ n T6 bs6 ss6).enc) (s:=aE s6) (A:=A) (B:=A + 1) (x7:=x7) (x8:=some (bV fa)) (x9:=some (bV fm)) (x10:=some (bV fl)) hn1 hn ht ga gm l1 gR (by decide)
 obtain⟨f1,h8,z14,z15,z16,b1,r1,d1,k1⟩:=Cz (x14:=y14) (x15:=y15) (x16:=y16) (S0:=.lit (ns.map .int)) (td:=tD n tk6 bk6 sk6 4) (w:=(aJ n T6 bs6 ss6).enc) (s:=aE s6) (A:=A) (B:=A + 1) (x7:=x7) (x8:=some (bV fa)) (x9:=some (bV fm)) (x10:=some (bV fl)) hn1 hn ht gm gl l2 r0 (show 1≤10 by decide)
 obtain⟨f2,h9,u14,u15,u16,b2,r2,d2,k2⟩:=Cz (x14:=z14) (x15:=z15) (x16:=z16) (S0:=.lit (ns.map .int)) (td:=tD n tk6 bk6 sk6 4) (w:=(aJ n T6 bs6 ss6).enc) (s:=aE s6) (A:=A) (B:=A + 1) (x7:=x7) (x8:=some (bV fa)) (x9:=some (bV fm)) (x10:=some (bV fl)) hn1 hn ht ga gl l3 r1 (show 2≤10 by decide)
 have nf:∀ {h:Hd} {f:Nat} {Q:YA} {X:List D} {g:Nat},h[R]? = some (.lst (X++[.ref g]))→h[f]? = some (.lst (Q.map aE))→f≠R:=fun {h f Q X g} a b e=>by
  subst e
  rw [a] at b
  injection b with b
  injection b with b
  have:D.ref g∈Q.map aE:=by rw [← b];simp
  obtain⟨q,_,e⟩:=YR this
  cases e
 have d0':=k2 _ _ (nf r0 d0) (k1 _ _ (nf r0 d0) d0)
 have d1':=k2 _ _ (nf r1 d1) d1
 have t7:t + 1≤7:=by omega
 have z1:=ZM (iz (w1:=fa.1) (w2:=fm.1) (s1:=fa.2) (s2:=fm.2) (n:=n) (t + 1)) (Nat.mul_le_mul hn t7)
 have z2:=ZM (iz (w1:=fm.1) (w2:=fl.1) (s1:=fm.2) (s2:=fl.2) (n:=n) (t + 1)) (Nat.mul_le_mul hn t7)
 have z3:=ZM (iz (w1:=fa.1) (w2:=fl.1) (s1:=fa.2) (s2:=fl.2) (n:=n) (t + 1)) (Nat.mul_le_mul hn t7)
 have srt:=vH (m:=t + 1) (fun k=>(cb (ga.W hn) ga.S ga.F k).bits) (fun k=>(cb (gm.W hn) gm.S gm.F k).bits) (fun k=>(cb (gl.W hn) gl.S gl.F k).bits) l1 l2
 have ne:∀ {w1 w2:Web} {s1 s2:YF},∀ r∈ft w1 w2 n s1 s2 (t + 1),r≠[]:=fun {w1 w2 s1 s2} r hr z=>by obtain⟨k,p,_,_,_,rfl⟩:=iA.mp hr;cases z
 have nz:∀ r∈ft fa.1 fm.1 n fa.2 fm.2 (t + 1)++ft fm.1 fl.1 n fm.2 fl.2 (t + 1),r≠[]:=fun r hr=>(YS hr).elim (ne r) (ne r)
 have sz:(ft fa.1 fm.1 n fa.2 fm.2 (t + 1)++ft fm.1 fl.1 n fm.2 fl.2 (t + 1)).length < 1000:=by rw [ZB];omega
 have r2:h9[R]? = some (.lst [.ref f0,.ref f1,.ref f2]):=r2
 obtain⟨C,hC⟩ : ∃ C,C=h9.length:=⟨_,rfl⟩
 have e9:Cg (X47 (.lit (ns.map .int)) (tD n tk6 bk6 sk6 4) (aJ n T6 bs6 ss6).enc (aE s6) A (.int t) (A + 1) x7 (some (bV fa)) (some (bV fm)) (some (bV fl)) (some (.ref R)) none none none none none) (h6++[.lst []])=.nx (X47 (.lit (ns.map .int)) (tD n tk6 bk6 sk6 4) (aJ n T6 bs6 ss6).enc (aE s6) A (.int t) (A + 1) x7 (some (bV fa)) (some (bV fm)) (some (bV fl)) (some (.ref R)) (some (bV fa)) (some (bV fl)) u14 u15 u16) h9:=by
  refine gD (l:=[.tup [bV fa,bV fm],.tup [bV fm,bV fl],.tup [bV fa,bV fl]]) (g:=none) (uY (cE (ak (cE (a7 rfl rfl)) (a7 (cE (a7 rfl rfl)) (cE (a7 rfl rfl)))))) ?_
  rw [tL (g:=none) trivial rfl b0,tL (g:=none) trivial rfl b1,tL (g:=none) trivial rfl b2]
  unfold iD
  exact if_pos trivial
 have cat:eA (fAt (ae 11) (fC (.int 0))) (fAt (ae 11) (fC (.int 1))) (X47 (.lit (ns.map .int)) (tD n tk6 bk6 sk6 4) (aJ n T6 bs6 ss6).enc (aE s6) A (.int t) (A + 1) x7 (some (bV fa)) (some (bV fm)) (some (bV fl)) (some (.ref R)) (some (bV fa)) (some (bV fl)) u14 u15 u16) h9=.ok ((ft fa.1 fm.1 n fa.2 fm.2 (t + 1)++ft fm.1 fl.1 n fm.2 fl.2 (t + 1)).map aE) h9:=by
  rw [ZR]
  refine l5 (aH rfl rfl (bd r2) rfl) (aH rfl rfl (bd r2) rfl) d0' d1' ?_
  rw [ZA,ZA,← ZB]
  exact ZM (Nat.le_of_lt sz) (by decide)
 have srq:=z6 cat sz nz
 rw [srt] at srq
 have e10:=bx (av (j0 hC srq (by rw [ZA];exact ZM z3 (by decide))) (aH (a:=ae 11) (b:=fC (.int 2)) rfl rfl (bd (c9 _ r2)) rfl) (Ef (jZ hC _) (c9 _ d2)))
 rw [← hS0] at e9 e10 k6 ⊢
 exact⟨[],(b7 (σ:=[some S0,none,none,none,none,none,none,none,none,none,none,none,none,none,none,none,none]) rfl rfl (sx (az (ao (ak rfl rfl) run)) (sx (az q1) (sx (az (ao (ak rfl (a7 rfl (aH rfl rfl rfl rfl))) qs)) (sx (az (ao (a7 rfl rfl) q3)) (sx (az (ao (a7 rfl rfl) q4)) (sx (az (dY (g:=[SC c1 t1 m]) hA (ak (cE (a7 rfl rfl)) rfl) (by exact of_decide_eq_true rfl))) (sx (gD (dB (n:=1 + cn) (av rfl (ao (a7 rfl rfl) q6) rfl) (by omega)) k6) (sx (sP (cE (ak (aH rfl rfl (bd gB) at0) (a7 (aH rfl (av (ff (cR rfl (bd gB))) rfl (B3 (by decide) (by decide))) (bd gB) atm) (aH rfl rfl (bd gB) atl)))) rfl) (sx (az (j0 hR (xs:=[]) rfl (Nat.zero_le _))) (sx e9 e10))))))))))).trans (cD (h:=[]) (g:=h9++[.lst ((ft fa.1 fl.1 n fa.2 fl.2 (t + 1)).map aE)]) rfl)⟩
end Fm
def PySem.W.Fast.tw90343872475197607 : Type := PySem.Params
theorem PySem.W.Fast.te90343872475197607 : PySem.Params = PySem.W.Fast.tw90343872475197607 := rfl
open PySem PySem.W PyProof.Rows
set_option maxRecDepth 100000 in
set_option maxHeartbeats 0 in
theorem PySem.Challenge.cw_followmost_k47_whole_changes_for_ones_holds : PySem.Challenge.rw_followmost_k47_whole_changes_for_ones.Holds := by
 w_on;o_law;k_head;(case hw=>w_witness2)
 k_fill
 refine Fm.HJ (l := PySem.Challenge.rw_followmost_k47_whole_changes_for_ones) (F := Fm.yL) (k := 8) (x := "_law_script") rfl rfl ⟨rfl, by decide, by decide, rfl⟩ (fun w h Y => PySem.W.kIn_of Y) ?F Fm.GS
 case F =>
  intro w mg fa h KX G hmg
  refine' Fm.GE KX G hmg ?_ ?_ ?_ ?_ ?_ ?_ ?_ ?_ ?_ ?_ ?_ ?_ ?_ ?_ ?_ ?_ ?_ ?_ ?_ ?_ ?_ ?_ ?_ ?_ ?_ ?_ ?_ ?_ ?_ ?_ ?_ ?_ ?_ ?_ ?_ ?_ ?_ ?_ ?_ ?_ ?_ ?_ ?_ ?_ ?_ ?_ ?_ ?_ ?_ ?_ ?_ ?_ ?_ ?_ ?_
  all_goals first|refine' Fm.At.i ?_ ?_ ?_ ?_|unfold Fm.Nb|skip
  all_goals try first|k_is|k_exc|kit_is
