import PyProof.Rows.All
import Wide.All
import OpenK.AllK
import Wide.FinOn
import Lean
import PyProof.EqAt
import PyProof.EqKinds
import PyProof.TupleCall
import PyProof.NeKinds
import PyProof.IsInstanceH
import PyProof.IsiNone
import PyProof.EnumMake
import PyProof.Draws
import PyProof.ZipIter
import PyProof.ListRange
import PyProof.Rows.StrJoin2
import KE.RegKIsAll
import PyProof.ExcAttrAll.ValueError
import PyProof.NsDelKeeps
import KE.KTops
import KE.KIntText
import KE.IntTextLaws
import PyProof.FString5
import PyProof.CallStr
import PyProof.Rows.StrSplitCount
import PySem.Challenge.RW_followmost_k55_whole_histories_at_a_desk
set_option Elab.async false
set_option linter.all false
set_option maxRecDepth 100000
abbrev ZA:=@List.length_map
abbrev ZB:=@List.length_append
abbrev ZC:=@List.getElem?_append_left
abbrev ZD:=@List.getElem?_append_right
abbrev ZE:=@List.getElem?_eq_getElem
abbrev ZF:=@List.getD_eq_getElem?_getD
abbrev ZG:=@List.getElem?_concat_length
abbrev ZH:=@PySem.Heap.get?_push_of_some
abbrev ZI:=@PySem.Heap.lt_size
abbrev ZJ:=@PySem.Heap.get?_push_size
abbrev ZK:=@List.mem_of_getElem?
abbrev ZL:=@Nat.le_refl
abbrev ZM:=@Nat.le_trans
abbrev ZN:=@Nat.ne_of_lt
abbrev ZO:=@List.length_range
abbrev ZP:=@List.getElem?_set_ne
abbrev ZQ:=@List.getElem?_map
abbrev ZR:=@List.map_append
abbrev ZS:=@Nat.lt_of_le_of_lt
abbrev ZT:=@Option.some.inj
abbrev ZU:=@List.append_assoc
abbrev ZV:=@List.mem_cons_self
abbrev ZW:=@List.mem_cons_of_mem
abbrev ZX:=PySem.W.Frag
abbrev z0:=@PySem.wpAny_bind
abbrev z4:=@if_pos
abbrev z5:=@if_neg
abbrev y4:=@List.length_cons
abbrev x3:=@List.map_cons
abbrev x4:=@PySem.wpAny_pure
abbrev x6:=@decide_eq_true
abbrev x8:=@List.size_toArray
abbrev wL:=@decide_eq_false
abbrev v3:=@Nat.lt_of_lt_of_le
abbrev ZY:=@Bool.false_ne_true
abbrev ZZ:=@Nat.lt_succ_of_lt
abbrev Z0:=@List.length_nil
abbrev Z1:=@Nat.zero_add
abbrev Z2:=@List.lookup_cons
abbrev Z3:=@Bool.and_eq_true
abbrev Z4:=@PySem.PassesOwn.never
abbrev Z5:=@Nat.ne_of_gt
abbrev Z6:=@Nat.lt_trans
abbrev Z7:=@List.map_map
abbrev Z8:=@Nat.lt_succ_self
abbrev Z9:=@Nat.lt_irrefl
abbrev YA:=@PySem.W.mg_none_of
abbrev YB:=@Bool.false_eq_true
abbrev YC:=@List.getElem_mem
abbrev YD:=@List.mem_append_right
abbrev YE:=@List.map_congr_left
abbrev YF:=@PySem.Heap.size_push
abbrev YG:=@Nat.zero_le
abbrev YH:=@decide_eq_true_eq
abbrev YI:=@List.nil_append
abbrev YJ:=@List.sum_cons
abbrev YK:=@PySem.sizeLine_eq
abbrev YL:=@List.replicate_succ
abbrev YM:=@Option.some.injEq
abbrev YN:=@Ne.symm
abbrev YO:=@List.not_mem_nil
abbrev YP:=@if_true
abbrev YQ:=@PySem.wpAny_field
abbrev YR:=@List.flatten_cons
abbrev YS:=@Nat.le_of_lt
abbrev YT:=@List.append_nil
abbrev YU:=@Option.map_some
abbrev YV:=@PySem.wpAny_pyIter_tuple
abbrev YW:=@PySem.wpAny_call_entry
abbrev YX:=@PyProof.Rows.callWith_type1
abbrev YY:=@List.map_nil
abbrev YZ:=@Nat.le_of_lt_succ
abbrev Y0:=@PySem.wpAny_loadPart'
abbrev Y1:=@PySem.call_isinstance
abbrev Y2:=@Int.le_refl
abbrev Y3:=@PyProof.Rows.slot_tuple_getitem
abbrev Y4:=@List.drop_eq_getElem_cons
abbrev Y5:=@PySem.wpAny_holding
abbrev Y6:=@List.mem_cons
abbrev Y7:=@if_false
abbrev Y8:=@PySem.isSubtype_type
abbrev Y9:=@PySem.wpAny_truthy_bool
abbrev XA:=@PySem.wpAny_newObj_type
abbrev XB:=@of_decide_eq_true
abbrev XD:=@List.ext_getElem?
abbrev XE:=@List.pairwise_map
abbrev XF:=@PySem.Str.ofString_eq_toList
abbrev XG:=@List.range_succ
abbrev XH:=@List.filterMap_cons
abbrev XI:=@PySem.W.mg_of
abbrev XJ:=@Nat.le_add_right
abbrev XO:=@PySem.F.slot_tuple_iterator_next
abbrev XR:=@PySem.wpAny_seqItems
abbrev XS:=@Nat.lt_of_le_of_ne
abbrev XT:=@PySem.wpAny_setField_rec
abbrev XU:=@Int.natCast_nonneg
abbrev XW:=@Int.emod_lt_of_pos
abbrev XX:=@PySem.F.slot_dict_getitem
abbrev XY:=@PySem.wpAny_passesOwn
abbrev XZ:=@Nat.not_lt_zero
abbrev X0:=@List.pairwise_append
abbrev X1:=@List.all_cons
abbrev X2:=@PySem.mem_of_lookup
abbrev X3:=@Nat.add_left_cancel
abbrev X4:=@List.length_take
abbrev X5:=@PySem.Heap.size_update
abbrev X6:=@Nat.add_sub_cancel_left
abbrev X7:=@List.filter_cons
abbrev X8:=@PySem.F.plainAttrs_str
abbrev X9:=@List.take_of_length_le
abbrev WA:=@Int.emod_nonneg
abbrev WB:=@List.any_cons
abbrev WC:=@List.length_replicate
abbrev WD:=@PySem.wpAny_pyIter_list
abbrev WE:=@Int.toNat_natCast
abbrev WG:=@Array.getD_eq_getD_getElem?
abbrev WH:=@List.nodup_iff_pairwise_ne
abbrev WI:=@Nat.le_of_not_lt
abbrev WJ:=@List.cons_append
abbrev WK:=@Bool.or_true
abbrev WL:=@Classical.byContradiction
abbrev WM:=@List.toList_toArray
abbrev WN:=@Nat.add_le_add_left
abbrev WO:=@PySem.wpAny_comprehension_free
abbrev WQ:=@PySem.W.KasT.kasWp_bind
abbrev WR:=@PySem.wpAny_Call_Name_kw
abbrev WS:=@PySem.SeqAt.EqAt.int_int
abbrev WT:=@PySem.typeIs_str
abbrev WU:=@Nat.le_of_eq
abbrev WV:=@PySem.wpAny_sequenceKey
abbrev WW:=@List.take_add_one
abbrev WX:=@PySem.wpAny_mono
abbrev WY:=@PySem.call_meets
abbrev T0:=PySem.Value
abbrev T3:=PySem.Shared
abbrev T4:=PySem.Around
abbrev T5:=PySem.Program
abbrev T6:=PySem.World
noncomputable section
namespace L2
open PySem PySem.Spec PyProof.Rows
abbrev Key:=Sum Int Str
def vt:Key->T0->Bool
 | .inl k,v=>Value.isInt k v
 | .inr x,v=>Value.isStrOf x v
def Pc (w:T6):Key->Int
 | .inl k=>hashInt k
 | .inr x=>hashStr w x
theorem dr:∀{k:Key} {v:T0},vt k v=true->(∃i t,k=Sum.inl i/\v=Value.int i t)\/(∃x t,k=Sum.inr x/\v=Value.str x t)
 | .inl i,v,h=>by
  obtain⟨t,e⟩:=Value.isInt_shape (k:=i) (v:=v) h;exact .inl ⟨i,t,rfl,e⟩
 | .inr x,v,h=>by
  obtain⟨t,e⟩:=Value.isStrOf_shape (x:=x) (v:=v) h;exact .inr ⟨x,t,rfl,e⟩
theorem D8 (i:Int)(t:Tok):vt (.inl i) (.int i t)=true:=by simp[vt,Value.isInt]
theorem D9 (x:Str)(t:Tok):vt (.inr x) (.str x t)=true:=by simp[vt,Value.isStrOf]
theorem Li (a b:Int):decide ((Sum.inl a:Key)=Sum.inl b)=(a == b):=by
 by_cases e:a=b
 ·subst e;simp
 ·have h : ¬(Sum.inl a:Key)=Sum.inl b:=λq=>e (Sum.inl.inj q)
  rw[wL h];exact(beq_eq_false_iff_ne.mpr e).symm
theorem Lj (a b:Str):decide ((Sum.inr a:Key)=Sum.inr b)=decide (a=b):=by
 by_cases e:a=b
 ·subst e;simp
 ·have h : ¬(Sum.inr a:Key)=Sum.inr b:=λq=>e (Sum.inr.inj q)
  rw[wL h,wL e]
theorem Lk (a:Int)(b:Str):decide ((Sum.inl a:Key)=Sum.inr b)=false:=wL (λq=>nomatch q)
theorem Ll (a:Str)(b:Int):decide ((Sum.inr a:Key)=Sum.inl b)=false:=wL (λq=>nomatch q)
def dH (prog:T5) (w:T6):PySem.KeyKind prog w Key where
 is:=vt
 hash:=Pc w
 inj:=λv a b ha hb=>by
  rcases dr ha with ⟨i,t,rfl,rfl⟩|⟨x,t,rfl,rfl⟩
  ·rcases dr hb with ⟨j,u,rfl,e⟩|⟨y,u,rfl,e⟩
   ·injection e with e1 _;rw[e1]
   ·exact nomatch e
  ·rcases dr hb with ⟨j,u,rfl,e⟩|⟨y,u,rfl,e⟩
   ·exact nomatch e
   ·injection e with e1 _;rw[e1]
 byValue:=λk v h=>by
  rcases dr h with ⟨i,t,rfl,rfl⟩|⟨x,t,rfl,rfl⟩<;>rfl
 pyHash:=λhv h=>by
  rcases dr hv with ⟨i,t,rfl,rfl⟩|⟨x,t,rfl,rfl⟩
  ·exact wpAny_pyHash_int h
  ·exact wpAny_pyHash_str h
 eqBool:=λhu hv h=>by
  rcases dr hu with ⟨i,t,rfl,rfl⟩|⟨x,t,rfl,rfl⟩
  ·rcases dr hv with ⟨j,u,rfl,rfl⟩|⟨y,u,rfl,rfl⟩
   ·rw[Li]at h;exact wpAny_eqBool_int h
   ·rw[Lk]at h;exact SeqAt.EqAt.int_str i t y u _ _ _ _ h
  ·rcases dr hv with ⟨j,u,rfl,rfl⟩|⟨y,u,rfl,rfl⟩
   ·rw[Ll]at h;exact SeqAt.EqAt.str_int x t j u _ _ _ _ h
   ·rw[Lj]at h;exact wpAny_eqBool_str h
 «strs» := λk x t v h=>by
  rcases dr h with ⟨i,u,rfl,e⟩|⟨y,u,rfl,e⟩
  ·exact nomatch e
  ·injection e with e1 _
   subst e1
   cases v<;>rfl
theorem yS (prog:T5)(w:T6)(i:Int)(t:Tok):(dH prog w).is (.inl i) (.int i t)=true:=D8 i t
theorem yT (prog:T5)(w:T6)(x:Str)(t:Tok):(dH prog w).is (.inr x) (.str x t)=true:=D9 x t
inductive V where
 | non|bl (b:Bool)|int (i:Int)|str (x:Str)|byt (b:Array UInt8)|flt (b:UInt64)|ref (a:Addr)|ty (n:String)
 deriving DecidableEq
def bT:V->T0->Prop
 | .non,u=>u=Value.none
 | .bl b,u=>u=Value.bool b
 | .int i,u=>∃t,u=Value.int i t
 | .str x,u=>∃t,u=Value.str x t
 | .byt b,u=>∃t,u=Value.bytes b t
 | .flt b,u=>∃t,u=Value.float b t
 | .ref a,u=>u=Value.ref a
 | .ty n,u=>u=Value.type n
abbrev bi:List V->List T0->Prop:=Paired bT
variable {us:List T0}
theorem bi.length {xs:List V}(r:bi xs us):xs.length=us.length:=Paired.length r
theorem bi.get:∀{xs:List V} {a:List T0} {i:Nat} {x:V},bi xs a->xs[i]? = some x->∃u,a[i]? = some u/\bT x u
 | _,_,_,_,.nil,e=>by simp at e
 | _,_,0,_,.cons r _,e=>by simp at e;subst e;exact⟨_,rfl,r⟩
 | _,_,i + 1,x,.cons _ t,e=>by
  obtain⟨u,b,c⟩:=bi.get (i:=i) (x:=x) t (by simpa using e);exact⟨u,by simpa using b,c⟩
theorem bi.set {x:V}{u:T0}(r:bT x u):∀{xs:List V} {a:List T0} (i:Nat),bi xs a->bi (xs.set i x) (a.set i u)
 | _,_,_,.nil=>.nil
 | _,_,0,.cons _ t=>.cons r t
 | _,_,i + 1,.cons q t=>.cons q (bi.set r i t)
theorem bi.append:∀{xs ys:List V} {a b:List T0},bi xs a->bi ys b->bi (xs++ys) (a++b)
 | _,_,_,_,.nil,s=>s
 | _,_,_,_,.cons r t,s=>.cons r (bi.append t s)
theorem bi.take:∀{xs:List V} {a:List T0} (n:Nat),bi xs a->bi (xs.take n) (a.take n)
 | _,_,0,_=>.nil
 | _,_,_ + 1,.nil=>.nil
 | _,_,n + 1,.cons r t=>.cons r (bi.take n t)
theorem bi.drop:∀{xs:List V} {a:List T0} (n:Nat),bi xs a->bi (xs.drop n) (a.drop n)
 | _,_,0,r=>r
 | _,_,_ + 1,.nil=>.nil
 | _,_,n + 1,.cons _ t=>bi.drop n t
def nY:Option V->Option T0->Prop
 | some v,some u=>bT v u
 | none,none=>True
 | _,_=>False
def KV {κ : Type}:List (κ × V)->List (κ × T0)->Prop:=Paired λ(p : κ × V) (q : κ × T0)=>p.1=q.1/\bT p.2 q.2
def kV:Key->V
 | .inl i=>.int i
 | .inr x=>.str x
inductive HO where
  | lst (xs:List V)
  | tup (xs:List V)
  | dK (kvs:List (Key × V))|dT (kvs:List (List Key × V))
  | set (S:Int->Bool) (n:Nat)
  | ins (C dx:Addr) (fs:List (Str × V))
  | own (x:Addr)
  | xd (fs:List (Str × V))
  | met (f x:Addr)
  | rng (lo hi:Int)
  | frz (o:Obj) (u:HO)
  | tbl (ps:Array T0)
  | ext (φ : Heap->Prop)
abbrev Hp:=Addr->Option HO
def upd (H:Hp) (a:Addr) (o:HO):Hp:=λb=>if b=a then some o else H b
variable {H:Hp}
theorem bp {a:Addr}{o:HO}:upd H a o a=some o:=by unfold upd;rw[z4 rfl]
variable {b:Addr}
theorem aM {a:Addr}{o:HO}(h:b≠a):upd H a o b=H b:=by unfold upd;rw[z5 h]
theorem KM {a:Addr}{o u:HO}(h:H a=some o)(h':H b=some u)(d:o≠u):a≠b:=by
 intro e;subst e;rw[h]at h';exact d (ZT h')
theorem bO {a:Addr}{o:HO}(h:H a=some o)(h':H b=none):a≠b:=by
 intro e;subst e;rw[h]at h';cases h'
section
variable (P:T5) (w:T6)
def eJ (H:Hp) (h:Heap) (a:Addr):HO->Prop
 | .lst xs=>xs.length<=sizeLine/\∃(its:List T0) (n:Nat),bi xs its/\h.get? a=some { cls:=.type "list",data:=.seq its.toArray n }
 | .tup xs=>xs.length<=sizeLine/\∃its:List T0,bi xs its/\IsTup h a its.toArray
 | .dK kvs=>kvs.length<=sizeLine/\(a == sysModules)=false/\∃vs,KV kvs vs/\h.DictOf (dH P w) a vs
 | .dT kvs=>kvs.length<=sizeLine/\(a == sysModules)=false/\∃xs:List (List Key × Addr × T0),
   Paired (λ(p:List Key × V) (q:List Key × Addr × T0)=>p.1=q.1/\H q.2.1=some (.tup (p.1.map kV))/\bT p.2 q.2.2) kvs xs/\
   ∃o es ep,h.get? a=some o/\o.ExactDict/\o.data=.dict es ep/\es.toList=xs.map (entryOfKey (tupleKind (dH P w)))/\(xs.map (·.1)).Nodup
 | .set S n=>h.SetOf (intKind P w) a S n
 | .ins C dx fs=>H dx=some (.own a)/\fs.length<=1000/\dx≠a/\h.get? a=some (PySem.W.instObj C dx)/\
   ∃mA,h.Ns1 dx mA/\(∀f,nY (fs.lookup f) (mA f))/\PySem.Within mA (fs.map (·.1))
 | .own _=>∃o,h.get? a=some o
 | .xd fs=>∃mA,h.Ns1 a mA/\∀f,nY (fs.lookup f) (mA f)
 | .rng lo hi=>∃t u v,h.get? a=some { cls:=.type "range",data:=.fields #[.int lo t,.int hi u,.int 1 v] }
 | .frz o u=>h.get? a=some o/\eJ H h a u
 | .tbl ps=>h.get? a=some { cls:=.none,data:=.fields ps }
 | .met f x=>h.get? a=some (PySem.W.methodObj (.ref f) (.ref x))
 | .ext φ => φ h/\(∃o,h.get? a=some o)/\∀h1 h2:Heap,φ h1->(∀o,h1.get? a=some o->h2.get? a=some o)->φ h2
def HOk (H:Hp) (h:Heap):Prop:=∀a o,H a=some o->eJ P w H h a o
end
section
variable {P:T5} {w:T6} {H H':Hp} {h h':Heap} {a:Addr} {o:HO}
theorem eJ.lt (x:eJ P w H h a o):a < h.objs.size:=by
 cases o with
 | lst xs=>obtain⟨_,_,_,_,e⟩:=x;exact ZI e
 | tup xs=>obtain⟨_,_,_,p⟩:=x;exact p.lt
 | dK kvs=>obtain⟨_,_,_,_,o,_,_,e,_⟩:=x;exact ZI e
 | dT kvs=>obtain⟨_,_,_,_,o,_,_,e,_⟩:=x;exact ZI e
 | set S n=>obtain⟨o,_,_,_,e,_⟩:=x;exact ZI e
 | ins C dx fs=>obtain⟨_,_,_,e,_⟩:=x;exact ZI e
 | own y=>obtain⟨_,e⟩:=x;exact ZI e
 | xd fs=>obtain⟨_,⟨_,_,_,e,_⟩,_⟩:=x;exact ZI e
 | rng lo hi=>obtain⟨_,_,_,e⟩:=x;exact ZI e
 | frz ob u=>obtain⟨e,_⟩:=x;exact ZI e
 | tbl ps=>exact ZI (show h.get? a=some _ from x)
 | met f y=>exact ZI (show h.get? a=some _ from x)
 | ext φ => obtain⟨_,⟨_,e⟩,_⟩:=x;exact ZI e
theorem Paired.mapP {α β : Type}{F G : α->β->Prop}:∀{c : List α} {d : List β},Paired F c d->(∀a b,F a b->G a b)->Paired G c d
 | _,_,.nil,_=>.nil
 | _,_,.cons r t,f=>.cons (f _ _ r) (Paired.mapP t f)
theorem eJ.stay (x:eJ P w H h a o)(k:∀b u,(b=a\/H b=some (.own a))->h.get? b=some u->h'.get? b=some u)
  (m:∀b,H b=some (.own a)->H' b=some (.own a)) (ht:∀b xs,H b=some (.tup xs)->H' b=some (.tup xs)):eJ P w H' h' a o:=by
 induction o with
 | lst xs=>obtain⟨z,j,n,r,e⟩:=x;exact⟨z,j,n,r,k _ _ (.inl rfl) e⟩
 | tup xs=>obtain⟨z,j,r,g,e,c⟩:=x;exact⟨z,j,r,g,k _ _ (.inl rfl) e,c⟩
 | dK kvs=>obtain⟨z,y,s,r,g,es,i,e,c⟩:=x;exact⟨z,y,s,r,g,es,i,k _ _ (.inl rfl) e,c⟩
 | dT kvs =>
  obtain⟨z,y,xs,r,g,es,i,e,c⟩:=x;exact⟨z,y,xs,Paired.mapP r λp q z=>⟨z.1,ht _ _ z.2.1,z.2.2⟩,g,es,i,k _ _ (.inl rfl) e,c⟩
 | set S n=>obtain⟨g,es,i,t,e,c⟩:=x;exact⟨g,es,i,t,k _ _ (.inl rfl) e,c⟩
 | ins C dx fs =>
  obtain⟨d,z,ne,e,mA,⟨l,es,i,A,c⟩,r⟩:=x;exact⟨m _ d,z,ne,k _ _ (.inl rfl) e,mA,⟨l,es,i,k _ _ (.inr d) A,c⟩,r⟩
 | own y=>obtain⟨g,e⟩:=x;exact⟨g,k _ _ (.inl rfl) e⟩
 | xd fs=>obtain⟨mA,⟨l,es,i,e,c⟩,r⟩:=x;exact⟨mA,⟨l,es,i,k _ _ (.inl rfl) e,c⟩,r⟩
 | rng lo hi=>obtain⟨t,u,v,e⟩:=x;exact⟨t,u,v,k _ _ (.inl rfl) e⟩
 | frz g u ih=>obtain⟨e,q⟩:=x;exact⟨k _ _ (.inl rfl) e,ih q⟩
 | tbl ps =>
  have e:h.get? a=some { cls:=.none,data:=.fields ps }:=x;show h'.get? a=some { cls:=.none,data:=.fields ps };exact k a _ (.inl rfl) e
 | met f y =>
  have e:h.get? a=some (PySem.W.methodObj (.ref f) (.ref y)):=x;show h'.get? a=some (PySem.W.methodObj (.ref f) (.ref y));exact k a _ (.inl rfl) e
 | ext φ => obtain⟨p,⟨o,e⟩,st⟩:=x;exact⟨st _ _ p λo q=>k _ _ (.inl rfl) q,⟨o,k _ _ (.inl rfl) e⟩,st⟩
theorem HOk.lt (x:HOk P w H h)(e:H a=some o):a < h.objs.size:=(x a o e).lt
theorem HOk.fresh (x:HOk P w H h)(e:h.objs.size<=a):H a=none:=by
 cases q:H a with
 | none=>rfl
 | some u=>exact absurd (v3 (x.lt q) e) (Z9 _)
theorem HOk.kept (x:HOk P w H h)(k:∀b u,h.get? b=some u->h'.get? b=some u):HOk P w H h':=λa o e =>
 (x a o e).stay (λb u _ q=>k b u q) (λ_ q=>q) λ_ _ q=>q
theorem HOk.laid (x:HOk P w H h)(k:∀b u,h.get? b=some u->h'.get? b=some u)(hp:h.objs.size<=a)(new:eJ P w (upd H a o) h' a o):HOk P w (upd H a o) h':=λb u e=>by
 have d:=x.fresh hp
 by_cases hb:b=a
 ·subst hb;rw[bp]at e;cases e;exact new
 ·rw[aM hb]at e
  exact(x b u e).stay (λc v _ q=>k c v q) (λc q=>by rw[aM (bO q d)];exact q) λc xs q=>by rw[aM (bO q d)];exact q
end
def Rd (H:Hp) (a:Addr) (u:HO):Prop:=H a=some u\/∃o,H a=some (.frz o u)
theorem Rd.of {a:Addr}{u:HO}(h:H a=some u):Rd H a u:=.inl h
variable {h:Heap}
theorem Rd.ok {P:T5}{w:T6}{a:Addr}{u:HO}(r:Rd H a u)(x:HOk P w H h):eJ P w H h a u:=by
 rcases r with r|⟨o,r⟩
 ·exact x a u r
 ·obtain⟨_,q⟩:=x a _ r
  exact q
def Mut:Option HO->Prop
 | some (.lst _)=>True
 | some (.dK _)=>True
 | some (.dT _)=>True
 | some (.set _ _)=>True
 | some (.ins _ _ _)=>True
 | some (.ext _)=>True
 | _=>False
section
variable {P:T5} {w:T6} {H:Hp} {h h':Heap} {x e:Addr} {o':HO}
theorem HOk.write (ok:HOk P w H h)(f:Mut (H x))(he:e=x\/H e=some (.own x))(k:∀b u,b≠e->h.get? b=some u->h'.get? b=some u)(g:∃u,h'.get? e=some u)
  (new:eJ P w (upd H x o') h' x o'):HOk P w (upd H x o') h':=λb u q=>by
 have a:∀c y,H c=some (.own y)->c≠x:=λc y r z=>by subst z;rw[r]at f;exact f
 have d:∀c xs,H c=some (.tup xs)->c≠x:=λc xs r z=>by subst z;rw[r]at f;exact f
 by_cases hb:b=x
 ·subst hb;rw[bp]at q;cases q;exact new
 ·rw[aM hb]at q
  by_cases hbe:b=e
  ·have i:H b=some (.own x):=by
    rcases he with z|z
    ·exact absurd (hbe.trans z) hb
    ·rw[hbe];exact z
   rw[q]at i;cases i;obtain⟨v,j⟩:=g;exact⟨v,by rw[hbe];exact j⟩
  ·refine(ok b u q).stay (λc v hc r=>k c v ?_ r) (λc r=>by rw[aM (a c b r)];exact r) λc xs r=>by rw[aM (d c xs r)];exact r
   rcases hc with rfl|hc
   ·exact hbe
   ·rintro rfl
    rcases he with z|z
    ·exact a c b hc z
    ·rw[hc]at z;cases z;exact hb rfl
end
structure Un (fs ex:List Addr) (H H':Hp) (h h':Heap):Prop where
 keep:∀b o,h.get? b=some o->H b=none->b∉fs->b∉ex->h'.get? b=some o
 slot:∀b o,h.get? b=some o->H b=none->b∈fs->b∉ex->∃sl,h'.get? b=some { o with slots:=sl }
 free:∀b o,h.get? b=some o->H b=none->b∉ex->H' b=none
 there:∀b o,h.get? b=some o->b∉ex->∃o',h'.get? b=some o'
 tups:∀b xs,H b=some (.tup xs)->H' b=some (.tup xs)
 frzs:∀b o u,H b=some (.frz o u)->H' b=some (.frz o u)
 tbls:∀b ps,H b=some (.tbl ps)->∃more,H' b=some (.tbl (ps++more))
section
variable {fs fs' ex ex':List Addr} {H H1 H2:Hp} {h h1 h2 h':Heap} {a x e:Addr} {o:HO}
theorem Un.any (u:Un fs ex H H1 h h1){ob:Obj}(q:h.get? b=some ob)(n:H b=none)(c:b∉ex):∃d,h1.get? b=some { ob with slots:=d }:=by
 by_cases hb:b∈fs
 ·exact u.slot b ob q n hb c
 ·exact⟨ob.slots,u.keep b ob q n hb c⟩
theorem Un.kept (k:∀b u,h.get? b=some u->h'.get? b=some u):Un fs ex H H h h' :=
 ⟨λb c q _ _ _=>k b c q,λb c q _ _ _=>⟨c.slots,k b c q⟩,λ_ _ _ n _=>n,λb c q _=>⟨c,k b c q⟩,λ_ _ q=>q,λ_ _ _ q=>q,λ_ ps q=>⟨#[],by rw[q];simp⟩⟩
theorem Un.refl:Un fs ex H H h h:=Un.kept λ_ _ q=>q
theorem Un.laid (k:∀b u,h.get? b=some u->h'.get? b=some u)(hp:h.objs.size<=a)(c:H a=none):Un fs ex H (upd H a o) h h' where
 keep:=λb u q _ _ _=>k b u q
 slot:=λb u q _ _ _=>⟨u.slots,k b u q⟩
 free:=λb u q n _=>by rw[aM (ZN (v3 (ZI q) hp))];exact n
 there:=λb u q _=>⟨u,k b u q⟩
 tups:=λb xs q=>by rw[aM (bO q c)];exact q
 frzs:=λb u xs q=>by rw[aM (bO q c)];exact q
 tbls:=λb ps q=>⟨#[],by rw[aM (bO q c),q];simp⟩
theorem Un.write (c:Mut (H x))(he:e=x\/H e=some (.own x))(k:∀b u,b≠e->h.get? b=some u->h'.get? b=some u)(d:∃u,h'.get? e=some u):Un fs ex H (upd H x o) h h':=by
 have g:∀b,H b=none->b≠x:=λb n z=>by subst z;rw[n]at c;exact c
 have i:∀b,H b=none->b≠e:=λb n z=>by
  subst z;rcases he with r|r
  ·exact g b n r
  ·rw[n]at r;cases r
 have f:∀b u,H b=some u->¬Mut (some u)->b≠x:=λb u q j z=>by subst z;rw[q]at c;exact j c
 refine⟨λb u q n _ _=>k b u (i b n) q,λb u q n _ _=>⟨u.slots,k b u (i b n) q⟩,λb u q n _=>by rw[aM (g b n)];exact n,λb u q _ => ?_,
  λb xs q=>by rw[aM (f b _ q λz=>z)];exact q,λb u xs q=>by rw[aM (f b _ q λz=>z)];exact q,λb ps q=>⟨#[],by rw[aM (f b _ q λz=>z),q];simp⟩⟩
 by_cases hbe:b=e
 ·subst hbe;exact d
 ·exact⟨u,k b u hbe q⟩
end
def trk (h:Heap) (H:Hp):List Addr:=(List.range h.objs.size).filter λa=>(H a).isSome
def wM (h:Heap) (H:Hp):Heap:=PySem.W.hideAll h (trk h H)
theorem Ea (h:Heap)(H:Hp):(wM h H).objs.size=h.objs.size:=PySem.W.hideAll_size _ _
theorem FU {o:Obj}(e:h.get? b=some o)(n:H b=none):(wM h H).get? b=some o :=
 PySem.W.hideAll_get _ e λa=>by
  have q:(H b).isSome=true:=(List.mem_filter.mp a).2;rw[n]at q;simp at q
theorem IK {o:Obj}(e:(wM h H).get? b=some o):h.get? b=some o/\H b=none:=by
 have a:h.get? b=some o:=PySem.W.of_hideAll (trk h H) e;refine⟨a,?_⟩;cases q:H b with
 | none=>rfl
 | some x =>
  have c:b∈trk h H:=List.mem_filter.mpr ⟨List.mem_range.mpr (ZI a),by simp[q]⟩;have z:(wM h H).get? b=none:=PySem.W.hideAll_none (trk h H) c;rw[z]at e;cases e
def IL (g h:Heap) (L:Addr):List (Addr × Obj):=(List.range h.objs.size).filterMap λa=>if a=L\/(g.get? a).isSome=true then none else (h.get? a).map λo=>(a,o)
def rest (g h:Heap) (L d:Addr):List (Addr × Obj):=(IL g h L).filter λp=>decide (p.1≠d)
structure Mod (K:ZX) (mg:Str->Option T0) (base:Heap):Prop where
 kin:K.In base
 glob:base.Ns mainGlobals mg
 blt:∃mb,base.Ns builtinsNs mb/\∀x:Str,x ≠ "__name__"->mb x=bootBuiltins x
 nolimit:base.NoLimit
structure Cx where
 prog:T5
 w:T6
 K:ZX
 mg:Str->Option T0
 base:Heap
 A:T4
 N:List Str
 s₀ : T3
 H₀ : Hp
 env:Env
 outer:List Env
 stack:List Env
 ex:List Addr
 fn:Str->Bool
 calm:Bool
 pn:List (Addr × Obj)
 xe:T0->T3->Prop
def frs (l:List Env):List Addr:=l.filterMap (·.frame)
abbrev Cx.fs (X:Cx):List Addr:=frs X.outer
def Vis (sc:Scope) (x:Str):Prop:=sc.names.lookup x=some .local\/sc.names.lookup x=some .cell\/sc.names.lookup x=some .free
def Loc (sc:Scope) (x:Str):Prop:=sc.names.lookup x=some .local\/sc.names.lookup x=some .cell
def Pd (env:Env) (h:Heap) (m:Str->Option T0) (x:Str) (u:T0):Prop :=
 (env.kindOf x=some .local/\m x=some u)\/((env.kindOf x=some .cell\/env.kindOf x=some .free)/\∃c,env.cells.lookup x=some c/\h.IsCell c (some u))
structure Cx.Ok (X:Cx):Prop where
 mod:Mod X.K X.mg X.base
 kind:X.env.scope.kind=.function
 glob:X.env.globals=mainGlobals
 blt:X.env.builtins=builtinsNs
 above:X.s₀.heap.objs.size<=X.env.locals
 inj:∀x y c,X.env.cells.lookup x=some c->X.env.cells.lookup y=some c->x=y
 has:∀x,(X.env.kindOf x=some .cell\/X.env.kindOf x=some .free)->∃c,X.env.cells.lookup x=some c
 cab:∀x c,X.fn x=true->X.env.cells.lookup x=some c->X.s₀.heap.objs.size<=c
 hd:X.calm=true->X.A.handled=none
 frames:X.A.frames=some X.stack
 stk:X.stack=X.outer\/(X.stack=X.env :: X.outer/\X.env.frame=some X.env.locals)
 exf:∀b∈X.ex,b≠X.env.locals/\∀x c,X.env.cells.lookup x=some c->c≠b
 bs:∀b o,X.base.get? b=some o->X.s₀.heap.get? b=some o/\X.H₀ b=none
 bsz:X.base.objs.size<=X.s₀.heap.objs.size
 noex:∀b o,X.base.get? b=some o->b∉X.ex
 exfs:∀b∈X.ex,b∉X.fs
 funs:X.s₀.heap.FunFrames X.base X.outer
 frf:∀b∈X.fs,X.H₀ b=none
structure Inv (X:Cx) (pins:List (Addr × Obj)) (σ:List (Option V)) (H:Hp) (s:T3):Prop where
 ok:X.Ok
 os:s.os=X.s₀.os
 bare:AllBare s.gens
 base:Un X.fs X.ex X.H₀ H X.s₀.heap s.heap
 loc:∃m,s.heap.Ns X.env.locals m/\∀(i:Nat) (x:Str) (v:V),X.N[i]? = some x->σ[i]? = some (some v)->Vis X.env.scope x->∃u,bT v u/\Pd X.env s.heap m x u
 cell:∀x c,X.env.cells.lookup x=some c->∃v,s.heap.IsCell c v
 free:H X.env.locals=none
 freeC:∀x c,X.env.cells.lookup x=some c->H c=none
 pin:∀p∈X.pn++pins,s.heap.get? p.1=some p.2/\H p.1=none/\p.1≠X.env.locals/\p.1∉X.fs/\∀v,p.2.data ≠ .cell v
 hok:HOk X.prog X.w H s.heap
 len : σ.length=X.N.length
variable {x:Str}{u:T0}{E:T0->T3->Prop}{A:T4}
section
variable {X:Cx} {pins:List (Addr × Obj)} {σ:List (Option V)} {H H':Hp} {s:T3} {h':Heap}
theorem Cx.Ok.nofr (ok:X.Ok){o:Obj}(e:X.base.get? b=some o):b∉X.fs:=λa=>by
 have:=(ok.funs.mem a).1;rw[e]at this;cases this
theorem Inv.bs (I:Inv X pins σ H s):∀b o,X.base.get? b=some o->s.heap.get? b=some o/\H b=none:=λb o e =>
 ⟨I.base.keep b o (I.ok.bs b o e).1 (I.ok.bs b o e).2 (I.ok.nofr e) (I.ok.noex b o e),I.base.free b o (I.ok.bs b o e).1 (I.ok.bs b o e).2 (I.ok.noex b o e)⟩
theorem Inv.bk (I:Inv X pins σ H s):∀b o,X.base.get? b=some o->s.heap.get? b=some o:=λb o e=>(I.bs b o e).1
theorem Inv.mod (I:Inv X pins σ H s):Mod X.K X.mg X.base:=I.ok.mod
theorem Inv.kIn (I:Inv X pins σ H s):X.K.In s.heap:=I.ok.mod.kin.keeps I.bk
theorem Inv.lt (I:Inv X pins σ H s):X.env.locals < s.heap.objs.size:=let ⟨_,hn,_⟩:=I.loc;hn.lt
theorem Inv.sz (I:Inv X pins σ H s):X.s₀.heap.objs.size<=s.heap.objs.size:=ZM I.ok.above (YS I.lt)
theorem Inv.nofs (I:Inv X pins σ H s){a:Addr}(h:s.heap.objs.size<=a):a∉X.fs:=λc=>by
 obtain⟨_,o,b,_⟩:=I.ok.funs.mem c;exact absurd (v3 (ZI b) (ZM I.sz h)) (Z9 _)
theorem Inv.cne (I:Inv X pins σ H s):∀x c,X.env.cells.lookup x=some c->c≠X.env.locals:=λx c e z=>by
 obtain⟨v,o,b,hd⟩:=I.cell x c e;obtain⟨m,⟨o',es,d,a,hd',_⟩,_⟩:=I.loc;rw[z,a]at b;cases b;rw[hd']at hd;cases hd
theorem Inv.funs (I:Inv X pins σ H s):s.heap.FunFrames X.base X.outer:=by
 have d:∀(l:List Env),(∀b∈frs l,b∈X.fs)->X.s₀.heap.FunFrames X.base l->s.heap.FunFrames X.base l:=by
  intro l
  induction l with
  | nil=>intro _ _;trivial
  | cons env r ih =>
   intro g k;obtain⟨j,⟨L,o,f,h,i,hd⟩,m⟩:=k;have c:L∈X.fs:=g L (by unfold frs;rw[XH,f];exact ZV);obtain⟨n,e⟩:=I.base.slot L o i (I.ok.frf L c) c λz=>I.ok.exfs L z c;exact⟨j,⟨L,_,f,h,e,hd⟩,ih (λb a=>g b (by unfold frs;rw[XH,f];exact ZW _ a)) m⟩
 exact d X.outer (λ_ a=>a) I.ok.funs
theorem Inv.stack (I:Inv X pins σ H s):s.heap.FunFrames X.base X.stack:=by
 rcases I.ok.stk with e|⟨e,hf⟩
 ·rw[e];exact I.funs
 ·rw[e]
  obtain⟨m,a,_⟩:=I.loc;refine .cons (by rw[I.ok.kind];decide) hf a ?_ I.funs;exact Heap.get?_none_of_le (ZM I.ok.bsz I.ok.above)
theorem Inv.stkSub (I:Inv X pins σ H s):∀b∈frs X.stack,b∈X.env.locals :: X.fs:=λb a=>by
 rcases I.ok.stk with e|⟨e,hf⟩
 ·rw[e]at a;exact ZW _ a
 ·rw[e]at a
  unfold frs at a;rw[XH,hf]at a;exact a
theorem Inv.stkFree (I:Inv X pins σ H s):∀b∈frs X.stack,H b=none:=λb a=>by
 rcases Y6.mp (I.stkSub b a) with e|a
 ·rw[e];exact I.free
 ·obtain⟨_,o,c,_⟩:=I.ok.funs.mem a
  exact I.base.free b o c (I.ok.frf b a) λz=>I.ok.exfs b z a
theorem Inv.step {g':Array GenState}{t':Nat}{d':Drawn}{ch:List Addr}(I:Inv X pins σ H s)
  (g:∀b∈ch,(b∈X.ex\/X.s₀.heap.objs.size<=b)/\b≠X.env.locals/\(∀x c,X.env.cells.lookup x=some c->c≠b)/\∀p∈X.pn++pins,p.1≠b)
  (keep:∀b o,b≠X.env.locals->b∉X.fs->b∉ch->s.heap.get? b=some o->H b=none->h'.get? b=some o)
  (slot:∀b o,b≠X.env.locals->b∈X.fs->b∉ch->s.heap.get? b=some o->H b=none->∃C,h'.get? b=some { o with slots:=C }) (free:∀b o,b∉ch->s.heap.get? b=some o->H b=none->H' b=none)
  (there:∀b o,b∉ch->s.heap.get? b=some o->∃o',h'.get? b=some o')
  (tups:∀b xs,H b=some (.tup xs)->H' b=some (.tup xs)) (frzs:∀b o u,H b=some (.frz o u)->H' b=some (.frz o u)) (tbls:∀b ps,H b=some (.tbl ps)->∃more,H' b=some (.tbl (ps++more)))
  (ns:∀m,s.heap.Ns X.env.locals m->h'.Ns X.env.locals m) (hok:HOk X.prog X.w H' h') (J:AllBare g') :
  Inv X pins σ H' { s with heap:=h',gens:=g',drawn:=d',toks:=t' }:=by
 have B:∀b o,X.s₀.heap.get? b=some o->b≠X.env.locals:=λb o e=>ZN (v3 (ZI e) I.ok.above);have t:∀b o,X.s₀.heap.get? b=some o->b∉X.ex->b∉ch:=λb o e a w=>by
  rcases (g b w).1 with z|z
  ·exact a z
  ·exact absurd (v3 (ZI e) z) (Z9 _)
 have h:∀x c,X.env.cells.lookup x=some c->∀v,s.heap.IsCell c v->h'.IsCell c v:=λx c e v ⟨o,y,hd⟩=>by
  have f:c∉ch:=λz=>(g c z).2.2.1 x c e rfl
  by_cases hc:c∈X.fs
  ·obtain⟨C,q⟩:=slot c o (I.cne x c e) hc f y (I.freeC x c e)
   exact⟨_,q,hd⟩
  ·exact⟨o,keep c o (I.cne x c e) hc f y (I.freeC x c e),hd⟩
 refine⟨I.ok,I.os,J,⟨λb o e n w a => ?_,λb o e n w a => ?_,λb o e n a => ?_,λb o e a => ?_,λb xs e=>tups b xs (I.base.tups b xs e),λb o xs e=>frzs b o xs (I.base.frzs b o xs e),λb ps e => ?_⟩,?_,λx c e => ?_,?_,λx c e => ?_,λp F => ?_,hok,I.len⟩
 ·exact keep b o (B b o e) w (t b o e a) (I.base.keep b o e n w a) (I.base.free b o e n a)
 ·obtain⟨C,j⟩:=I.base.slot b o e n w a
  obtain⟨D,A⟩:=slot b _ (B b o e) w (t b o e a) j (I.base.free b o e n a);exact⟨D,A⟩
 ·obtain⟨o',j⟩:=I.base.there b o e a
  exact free b o' (t b o e a) j (I.base.free b o e n a)
 ·obtain⟨o',j⟩:=I.base.there b o e a
  exact there b o' (t b o e a) j
 ·obtain⟨M,j⟩:=I.base.tbls b ps e
  obtain⟨N,A⟩:=tbls b _ j;exact⟨M++N,by rw[A,Array.append_assoc]⟩
 ·obtain⟨m,G,K⟩:=I.loc
  refine⟨m,ns m G,λi x v j A L => ?_⟩;obtain⟨u,r,l⟩:=K i x v j A L;refine⟨u,r,?_⟩;rcases l with l|⟨k,c,e,z⟩
  ·exact .inl l
  ·exact .inr ⟨k,c,e,h x c e _ z⟩
 ·obtain⟨v,z⟩:=I.cell x c e
  exact⟨v,h x c e v z⟩
 ·obtain⟨m,⟨o,_,_,y,_⟩,_⟩:=I.loc
  exact free _ o (λz=>(g _ z).2.1 rfl) y I.free
 ·obtain⟨v,o,y,hd⟩:=I.cell x c e
  exact free c o (λz=>(g c z).2.2.1 x c e rfl) y (I.freeC x c e)
 ·obtain⟨e,n,ne,E,d⟩:=I.pin p F
  have f:p.1∉ch:=λz=>(g p.1 z).2.2.2 p F rfl;exact⟨keep p.1 p.2 ne E f e n,free p.1 p.2 f e n,ne,E,d⟩
theorem Inv.un {t':Nat}(I:Inv X pins σ H s)(u:Un X.fs [] H H' s.heap h')(hok:HOk X.prog X.w H' h'):Inv X pins σ H' { s with heap:=h',toks:=t' }:=by
 obtain⟨m,⟨o,es,p,g,r⟩,_⟩:=id I.loc;obtain⟨k,i⟩:=u.any g I.free (by simp);exact I.step (g':=s.gens) (d':=s.drawn) (ch:=[]) (λ_ z=>nomatch z) (λb o _ c _ e n=>u.keep b o e n c (by simp)) (λb o _ c _ e n=>u.slot b o e n c (by simp)) (λb o _ e n=>u.free b o e n (by simp)) (λb o _ e=>u.there b o e (by simp)) u.tups u.frzs u.tbls (λl h=>by
  obtain⟨o',d,f,a,j⟩:=h;rw[g]at a;cases a;exact⟨_,d,f,i,j⟩) hok I.bare
theorem Inv.call {g':Array GenState}{t':Nat}{d':Drawn}{ch:List Addr}(I:Inv X pins σ H s)(u:Un (frs X.stack) ch H H' s.heap h')(hok:HOk X.prog X.w H' h')(j:AllBare g')
  (a:∀b∈ch,(b∈X.ex\/X.s₀.heap.objs.size<=b)/\b≠X.env.locals/\(∀x c,X.env.cells.lookup x=some c->c≠b)/\∀p∈X.pn++pins,p.1≠b) :
  Inv X pins σ H' { s with heap:=h',gens:=g',drawn:=d',toks:=t' }:=by
 obtain⟨m,⟨o,es,w,i,r⟩,_⟩:=id I.loc;obtain⟨t,f⟩:=u.any i I.free λz=>(a _ z).2.1 rfl;exact I.step (ch:=ch) a (λb o f l hc e n=>u.keep b o e n (λz=>(Y6.mp (I.stkSub b z)).elim f l) hc) (λb o _ _ hc e n=>u.any e n hc) (λb o hc e n=>u.free b o e n hc) (λb o hc e=>u.there b o e hc) u.tups u.frzs u.tbls (λv k=>by
  obtain⟨o',g,h,d,q⟩:=k;rw[i]at d;cases d;exact⟨_,g,h,f,q⟩) hok j
theorem Inv.turned {t':Nat}{it:Addr}(I:Inv X pins σ H s)(k:∀b o,b≠it->s.heap.get? b=some o->h'.get? b=some o)(f:H it=none)(d:it≠X.env.locals)
  (h1:it∈X.ex\/X.s₀.heap.objs.size<=it) (t:∀x c,X.env.cells.lookup x=some c->c≠it) (j:∀p∈X.pn++pins,p.1≠it):Inv X pins σ H { s with heap:=h',toks:=t' }:=by
 have a:∀b u,H b=some u->b≠it:=λb u e z=>by rw[z,f]at e;cases e
 refine I.step (g':=s.gens) (d':=s.drawn) (ch:=[it]) (λb i => ?_) (λb o _ _ hc e _=>k b o (λz=>hc (by simp[z])) e) (λb o _ _ hc e _=>⟨o.slots,k b o (λz=>hc (by simp[z])) e⟩) (λ_ _ _ _ n=>n)
  (λb o hc e=>⟨o,k b o (λz=>hc (by simp[z])) e⟩) (λ_ _ e=>e) (λ_ _ _ e=>e) (λb ps e=>⟨#[],by rw[e];simp⟩) (λm h => ?_) (λb u e => ?_) I.bare
 ·have e:b=it:=by simpa using i
  subst e;exact⟨h1,d,t,j⟩
 ·obtain⟨o,es,l,g,r⟩:=h
  exact⟨o,es,l,k _ o (YN d) g,r⟩
 ·refine(I.hok b u e).stay (λc v hc q=>k c v ?_ q) (λ_ q=>q) λ_ _ q=>q
  rcases hc with z|z
  ·rw[z];exact a b u e
  ·exact a c _ z
theorem Inv.tok (I:Inv X pins σ H s)(t:Nat):Inv X pins σ H { s with toks:=t }:=I.un (h':=s.heap) (t':=t) Un.refl I.hok
theorem Inv.kept {t':Nat}(I:Inv X pins σ H s)(k:∀b u,s.heap.get? b=some u->h'.get? b=some u):Inv X pins σ H { s with heap:=h',toks:=t' }:=I.un (Un.kept k) (I.hok.kept k)
theorem Inv.laid {a:Addr}{o:HO}{t':Nat}(I:Inv X pins σ H s)(k:∀b u,s.heap.get? b=some u->h'.get? b=some u)(hp:s.heap.objs.size<=a)(new:eJ X.prog X.w (upd H a o) h' a o) :
  Inv X pins σ (upd H a o) { s with heap:=h',toks:=t' }:=I.un (Un.laid k hp (I.hok.fresh hp)) (I.hok.laid k hp new)
theorem Inv.write {x e:Addr}{o:HO}{t':Nat}(I:Inv X pins σ H s)(c:Mut (H x))(he:e=x\/H e=some (.own x))(k:∀b u,b≠e->s.heap.get? b=some u->h'.get? b=some u)(a:∃u,h'.get? e=some u)
  (new:eJ X.prog X.w (upd H x o) h' x o):Inv X pins σ (upd H x o) { s with heap:=h',toks:=t' }:=I.un (Un.write c he k a) (I.hok.write c he k a new)
theorem Inv.pins_of {pins':List (Addr × Obj)}(I:Inv X pins σ H s)(h:∀p∈pins',s.heap.get? p.1=some p.2/\H p.1=none/\p.1≠X.env.locals/\p.1∉X.fs/\∀v,p.2.data ≠ .cell v):Inv X pins' σ H s :=
 ⟨I.ok,I.os,I.bare,I.base,I.loc,I.cell,I.free,I.freeC,λp a=>(List.mem_append.mp a).elim (λz=>I.pin p (List.mem_append_left _ z)) (h p),I.hok,I.len⟩
theorem yU {N:List Str}(d:N.Nodup){i j:Nat}(a:N[i]? = some x)(b:N[j]? = some x):i=j:=by
 obtain⟨f,c⟩:=List.getElem?_eq_some_iff.mp a;obtain⟨g,e⟩:=List.getElem?_eq_some_iff.mp b;exact(List.getElem_inj d).mp (c.trans e.symm)
theorem vv {M:Model}{i:Nat}{v:V}{Q:Unit->T3->Prop}(I:Inv X pins σ H s)(hN:X.N.Nodup)(hi:X.N[i]? = some x)(t:Loc X.env.scope x)(r:bT v u)
  (h:∀s',Inv X pins (σ.set i (some v)) H s'->(∃a,Heap.SameBut a s.heap s'.heap/\(a=X.env.locals\/X.env.cells.lookup x=some a))->Q () s') (hf:X.fn x=true\/X.env.scope.names.lookup x=some .local:=by first|exact .inl rfl|exact .inr rfl|assumption):wpAny M A (storeName X.env x u) Q E s:=by
 obtain⟨m,S,hl⟩:=id I.loc;have L:(X.env.scope.kind == .class || (X.env.scope.kind == .module && X.env.locals != X.env.globals))=false:=by rw[I.ok.kind];rfl
 have C:i < σ.length:=by rw[I.len];exact(List.getElem?_eq_some_iff.mp hi).1
 have F:=I.cne;have g:∀{a:Addr} {h':Heap},(∃o,s.heap.get? a=some o/\H a=none)->Heap.SameBut a s.heap h'->HOk X.prog X.w H h':=λ{a h'} ha f b ob e=>by
  obtain⟨_,_,w⟩:=ha;refine(I.hok b ob e).stay (λc R hc q=>(f.2 c ?_).trans q) (λ_ q=>q) λ_ _ q=>q;rintro rfl;rcases hc with rfl|hc
  ·rw[w]at e;cases e
  ·rw[w]at hc;cases hc
 rcases t with hk|hk
 ·refine wpAny_storeName_local hk S (λh' a0 f => ?_) L
  obtain⟨oL,_,_,U,_⟩:=id S;refine h _ ⟨I.ok,I.os,I.bare,⟨λb o e n D t => ?_,λb o e n D t => ?_,I.base.free,λb o e t => ?_,I.base.tups,I.base.frzs,I.base.tbls⟩,⟨_,a0,λj y T l B Z => ?_⟩,λy c e => ?_,I.free,I.freeC,λp hp => ?_,g ⟨oL,U,I.free⟩ f,by simpa using I.len⟩ ⟨_,f,.inl rfl⟩
  ·exact(f.2 b (ZN (v3 (ZI e) I.ok.above))).trans (I.base.keep b o e n D t)
  ·obtain⟨Y,l⟩:=I.base.slot b o e n D t
   exact⟨Y,(f.2 b (ZN (v3 (ZI e) I.ok.above))).trans l⟩
  ·obtain⟨o',l⟩:=I.base.there b o e t
   exact⟨o',(f.2 b (ZN (v3 (ZI e) I.ok.above))).trans l⟩
  ·by_cases J:j=i
   ·subst J
    rw[hi]at l;cases l;rw[List.getElem?_set_self C]at B;cases B;exact⟨u,r,.inl ⟨hk,by simp⟩⟩
   ·rw[ZP (YN J)]at B
    obtain⟨u',r',q⟩:=hl j y T l B Z;refine⟨u',r',?_⟩;rcases q with ⟨k,e⟩|⟨k,c,e,z⟩
    ·refine .inl ⟨k,?_⟩
     have:y≠x:=λe=>J (yU hN l (e ▸ hi));simp[this,e]
    ·exact .inr ⟨k,c,e,z.sameBut f (F y c e)⟩
  ·obtain⟨R,z⟩:=I.cell y c e
   exact⟨R,z.sameBut f (F y c e)⟩
  ·obtain⟨e,n,ne,W,d⟩:=I.pin p hp
   exact⟨(f.2 p.1 ne).trans e,n,ne,W,d⟩
 ·have G:X.fn x=true:=by
   rcases hf with z|z
   ·exact z
   ·rw[z]at hk;cases hk
  obtain⟨c,hc⟩:=I.ok.has x (.inl hk);obtain⟨R,z⟩:=I.cell x c hc;refine wpAny_storeName_cell I.ok.kind hk hc z (λh' N f => ?_);obtain⟨oc,O,K⟩:=id z;refine h { s with heap:=h' } ⟨I.ok,I.os,I.bare,⟨λb o e n D t => ?_,λb o e n D t => ?_,I.base.free,λb o e t => ?_,I.base.tups,I.base.frzs,I.base.tbls⟩,⟨m,S.sameBut f (YN (F x c hc)),λj y T l B Z => ?_⟩,λy P e => ?_,I.free,I.freeC,λp hp => ?_,g ⟨oc,O,I.freeC x c hc⟩ f,by simpa using I.len⟩ ⟨c,f,.inr hc⟩
  ·exact(f.2 b (ZN (v3 (ZI e) (I.ok.cab x c G hc)))).trans (I.base.keep b o e n D t)
  ·obtain⟨Y,l⟩:=I.base.slot b o e n D t
   exact⟨Y,(f.2 b (ZN (v3 (ZI e) (I.ok.cab x c G hc)))).trans l⟩
  ·obtain⟨o',l⟩:=I.base.there b o e t
   exact⟨o',(f.2 b (ZN (v3 (ZI e) (I.ok.cab x c G hc)))).trans l⟩
  ·by_cases J:j=i
   ·subst J
    rw[hi]at l;cases l;rw[List.getElem?_set_self C]at B;cases B;exact⟨u,r,.inr ⟨.inl hk,c,hc,N⟩⟩
   ·rw[ZP (YN J)]at B
    obtain⟨u',r',q⟩:=hl j y T l B Z;refine⟨u',r',?_⟩;rcases q with q|⟨k,P,e,z'⟩
    ·exact .inl q
    ·refine .inr ⟨k,P,e,z'.sameBut f ?_⟩
     rintro rfl;exact J (yU hN l (I.ok.inj _ _ _ e hc ▸ hi))
  ·by_cases hcc:P=c
   ·subst hcc;exact⟨_,N⟩
   ·obtain⟨w2,z2⟩:=I.cell y P e
    exact⟨w2,z2.sameBut f hcc⟩
  ·obtain⟨e,n,ne,W,d⟩:=I.pin p hp
   refine⟨(f.2 p.1 ?_).trans e,n,ne,W,d⟩;intro q;rw[q,O]at e;have q':oc=p.2:=ZT e;exact d R (by rw[<-q'];exact K)
theorem yV {M:Model}{i:Nat}{v:V}{Q:Unit->T3->Prop}(I:Inv X pins σ H s)(e:X.N.Nodup)(hi:X.N[i]? = some x)(b:Loc X.env.scope x)(r:bT v u)
  (h:∀a,Inv X pins (σ.set i (some v)) H a->Q () a) (d:X.fn x=true\/X.env.scope.names.lookup x=some .local:=by first|exact .inl rfl|exact .inr rfl|assumption):wpAny M A (storeName X.env x u) Q E s :=
 vv I e hi b r (λa c _=>h a c) d
theorem Inv.call' {a:T3}{ch:List Addr}(I:Inv X pins σ H s)(f:a.os=s.os)(u:Un (frs X.stack) ch H H' s.heap a.heap)(hok:HOk X.prog X.w H' a.heap)(g:AllBare a.gens)
  (d:∀b∈ch,(b∈X.ex\/X.s₀.heap.objs.size<=b)/\b≠X.env.locals/\(∀x c,X.env.cells.lookup x=some c->c≠b)/\∀p∈X.pn++pins,p.1≠b):Inv X pins σ H' a:=by
 obtain⟨h',g',d',t',o'⟩:=a;have e:o'=s.os:=f;subst e;exact I.call (g':=g') (t':=t') (d':=d') u hok g d
end
abbrev XK:=T0->Option Addr->Hp->Prop
abbrev St:=List (Option V)
abbrev VK:=V->Hp->Prop
abbrev TE:=St->Hp->VK->Prop
abbrev TT:=St->Hp->(Bool->Hp->Prop)->Prop
abbrev TA:=St->Hp->(List V->Hp->Prop)->Prop
structure wN where
 nx:St->Hp->Prop
 rt:VK
 bk:St->Hp->Prop:=λ_ _=>False
 ct:St->Hp->Prop:=λ_ _=>False
abbrev TS:=wN->St->Hp->Prop
def EP (X:Cx) (pins:List (Addr × Obj)) (σ:St) (Q:VK) (u:T0) (s':T3):Prop:=∃v H',Inv X pins σ H' s'/\bT v u/\Q v H'
def TP (X:Cx) (pins:List (Addr × Obj)) (σ:St) (Q:Bool->Hp->Prop) (b:Bool) (s':T3):Prop:=∃H',Inv X pins σ H' s'/\Q b H'
def AP (X:Cx) (pins:List (Addr × Obj)) (σ:St) (Q:List V->Hp->Prop) (us:List T0) (s':T3):Prop:=∃vs H',Inv X pins σ H' s'/\bi vs us/\Q vs H'
def SP (X:Cx) (pins:List (Addr × Obj)) (D:wN) (f:Flow) (s':T3):Prop :=
 match f with
 | .next=>∃σ' H',Inv X pins σ' H' s'/\D.nx σ' H'
 | .brk=>∃σ' H',Inv X pins σ' H' s'/\D.bk σ' H'
 | .cont=>∃σ' H',Inv X pins σ' H' s'/\D.ct σ' H'
 | .ret u=>∃v σ' H',Inv X pins σ' H' s'/\bT v u/\D.rt v H'
def PE (X:Cx) (e:Expr) (t:TE):Prop :=
 ∀(pins:List (Addr × Obj)) (s:T3) (σ:St) (H:Hp) (Q:VK),Inv X pins σ H s->t σ H Q->wpAny (model X.prog X.w) X.A (eval e X.env) (EP X pins σ Q) X.xe s
def PT (X:Cx) (e:Expr) (t:TT):Prop :=
 ∀(pins:List (Addr × Obj)) (s:T3) (σ:St) (H:Hp) (Q:Bool->Hp->Prop),Inv X pins σ H s->t σ H Q->wpAny (model X.prog X.w) X.A (isTrue e X.env (eval e X.env)) (TP X pins σ Q) X.xe s
def PW (X:Cx) (e:Expr) (t:TT):Prop :=
 ∀(whole:Sem T0) (pins:List (Addr × Obj)) (s:T3) (σ:St) (H:Hp) (Q:Bool->Hp->Prop),Inv X pins σ H s->t σ H Q->wpAny (model X.prog X.w) X.A (isTrue e X.env whole) (TP X pins σ Q) X.xe s
theorem PW.pt {X:Cx}{e:Expr}{t:TT}(h:PW X e t):PT X e t:=h _
def PA (X:Cx) (es:List Expr) (t:TA):Prop :=
 ∀(pos:Pos) (pins:List (Addr × Obj)) (s:T3) (σ:St) (H:Hp) (Q:List V->Hp->Prop),Inv X pins σ H s->t σ H Q->wpAny (model X.prog X.w) X.A (spliced (backTo pos (starEach es X.env))) (AP X pins σ Q) X.xe s
def PS (X:Cx) (st:Stmt) (t:TS):Prop :=
 ∀(pins:List (Addr × Obj)) (s:T3) (σ:St) (H:Hp) (D:wN),Inv X pins σ H s->t D σ H->wpAny (model X.prog X.w) X.A (exec st X.env) (SP X pins D) X.xe s
def PSs (X:Cx) (st:List Stmt) (t:TS):Prop :=
 ∀(pins:List (Addr × Obj)) (s:T3) (σ:St) (H:Hp) (D:wN),Inv X pins σ H s->t D σ H->wpAny (model X.prog X.w) X.A (execs st X.env) (SP X pins D) X.xe s
variable {s:T3}
theorem thn {α : Type}{t:Sem α}{Q b : α->T3->Prop}{M:Model}(h:wpAny M A t Q E s)(c:∀a s,Q a s->b a s):wpAny M A t b E s:=WX h c λ_ _ x=>x
variable {pos:Pos}{Q:T0->T3->Prop}{σ:St}{pins:List (Addr × Obj)}
section
variable {X:Cx}
def Pe (i:Nat):TE:=λσ H Q=>∃v,σ[i]? = some (some v)/\Q v H
def tC (v:V):TE:=λ_ H Q=>Q v H
theorem Lm {i:Nat}   (f:X.N[i]? = some x) (g:Vis X.env.scope x) (hd:(x == ("__debug__" : Str))=false:=by decide) (a:(x == ("__classdict__" : Str))=false:=by decide):PE X (.Name x pos) (Pe i):=by
 intro pins s σ H Q I h;obtain⟨v,e,h⟩:=h;obtain⟨m,b,d⟩:=I.loc;obtain⟨u,r,l⟩:=d i x v f e g;have fin:EP X pins σ Q u s:=⟨v,H,I,r,h⟩;rcases l with ⟨hk,hm⟩|⟨hk,c,hc,hcell⟩
 ·exact wpAny_Name (wpAny_loadName_local I.ok.kind hk b hm fin) hd
 ·rcases hk with hk|hk
  ·exact wpAny_Name (wpAny_loadName_cell I.ok.kind hk hc hcell fin) hd
  ·exact wpAny_Name (wpAny_loadName_free I.ok.kind hk hc hcell fin a) hd
theorem FV {i j pos}:PE X (.Constant (.int i) j pos) (tC (.int i)):=λ_ _ _ H _ I h=>wpAny_Constant_int ⟨.int i,H,I.tok _,⟨_,rfl⟩,h⟩
theorem NL {b j pos}:PE X (.Constant (.bool b) j pos) (tC (.bl b)):=λ_ _ _ H _ I h=>Constant_bool ⟨.bl b,H,I,rfl,h⟩
theorem Lp {j pos}:PE X (.Constant .none j pos) (tC .non):=λ_ _ _ H _ I h=>Constant_none ⟨.non,H,I,rfl,h⟩
theorem wO {x j pos}:PE X (.Constant (.str x) j pos) (tC (.str x)):=λ_ _ _ H _ I h=>Calls.Constant_str ⟨.str x,H,I.tok _,⟨_,rfl⟩,h⟩
def Gl (X:Cx) (x:Str):Prop:=X.env.kindOf x=some .globalImplicit
theorem wP (I:Inv X pins σ H s)(a:Gl X x)(hm:X.mg x=some u)(h:Q u s)
  (hd:(x == ("__debug__" : Str))=false:=by decide):wpAny (model X.prog X.w) X.A (eval (.Name x pos) X.env) Q E s :=
 Calls.Name_function_global I.ok.kind a (Calls.loadGlobal_global (by rw[I.ok.glob];exact I.mod.glob.keeps I.bk) hm h) hd
theorem mU (I:Inv X pins σ H s)(c:Gl X x)(hm:X.mg x=none)(e:bootBuiltins x=some u)(h:Q u s)
  (a:x ≠ "__name__" := by decide) (hd:(x == ("__debug__" : Str))=false:=by decide):wpAny (model X.prog X.w) X.A (eval (.Name x pos) X.env) Q E s:=by
 obtain⟨f,b,d⟩:=I.mod.blt;exact Calls.Name_function_global I.ok.kind c (Calls.loadGlobal_builtin (by rw[I.ok.glob];exact I.mod.glob.keeps I.bk) hm (by rw[I.ok.blt];exact b.keeps I.bk) ((d x a).trans e) h) hd
theorem mn  {v:V}   (a:Gl X x) (hm:X.mg x=some u) (r:bT v u) (hd:(x == ("__debug__" : Str))=false:=by decide):PE X (.Name x pos) (tC v) :=
 λ_ _ _ H _ I h=>wP I a hm ⟨v,H,I,r,h⟩ hd
theorem IM  {v:V}   (b:Gl X x) (hm:X.mg x=none) (c:bootBuiltins x=some u) (r:bT v u) (a:x ≠ "__name__" := by decide) (hd:(x == ("__debug__" : Str))=false:=by decide):PE X (.Name x pos) (tC v) :=
 λ_ _ _ H _ I h=>mU I b hm c ⟨v,H,I,r,h⟩ a hd
variable {a b:Expr} {ta tb:TE} {pos:Pos}
def tB (t:TE):TT:=λσ H Q=>t σ H λx H1=>∃c,x=.bl c/\Q c H1
theorem Lq {e:Expr}{t:TE}(h:PE X e t)(he:∀c,isTrue e X.env c=(do let v <-c;standAt e.pos;holding [v] (truthy v)):=by intro _;rfl):PT X e (tB t):=by
 intro pins s σ H Q I hw;refine isTrue_plain (thn (h pins s σ H _ I hw) λv i ⟨x,H1,f,g,q1⟩ => ?_) (he _);obtain⟨d,rfl,q⟩:=q1;cases g;exact Y9 ⟨H1,f,q⟩
variable {tA tB':TT} {rest:List Expr}
def jV (t u:TT):TT:=λσ H Q=>t σ H λc H1=>if c=true then u σ H1 Q else Q false H1
def tOr (t u:TT):TT:=λσ H Q=>t σ H λc H1=>if c=true then Q true H1 else u σ H1 Q
def cX (t:TT):TT:=λσ H Q=>t σ H λc H1=>Q (!c) H1
theorem IN (d:PT X a tA):PW X (.BoolOp .And [a] pos) tA:=by
 intro f pins s σ H Q I h;refine isTrue_and (thn (d pins s σ H Q I h) λc g e => ?_);cases c with
 | true=>exact isTrue_and_nil e
 | false=>exact e
theorem Lr (d:PT X a tA):PW X (.BoolOp .Or [a] pos) tA:=by
 intro f pins s σ H Q I h;refine isTrue_or (thn (d pins s σ H Q I h) λc g e => ?_);cases c with
 | false=>exact isTrue_or_nil e
 | true=>exact e
theorem Ls (f:PT X a tA)(i:PW X (.BoolOp .And (b :: rest) pos) tB'):PW X (.BoolOp .And (a :: b :: rest) pos) (jV tA tB'):=by
 intro e pins s σ H Q I h;refine isTrue_and (thn (f pins s σ H _ I h) λc g ⟨H1,d,q1⟩ => ?_);cases c with
 | true=>exact i e pins g σ H1 Q d q1
 | false=>exact⟨H1,d,q1⟩
theorem NM (f:PT X a tA)(i:PW X (.BoolOp .Or (b :: rest) pos) tB'):PW X (.BoolOp .Or (a :: b :: rest) pos) (tOr tA tB'):=by
 intro e pins s σ H Q I h;refine isTrue_or (thn (f pins s σ H _ I h) λc g ⟨H1,d,q1⟩ => ?_);cases c with
 | true=>exact⟨H1,d,q1⟩
 | false=>exact i e pins g σ H1 Q d q1
theorem Lu (d:PT X a tA):PT X (.UnaryOp .Not a pos) (cX tA):=by
 intro pins s σ H Q I h;exact isTrue_not (d pins s σ H (λc H1=>Q (!c) H1) I h)
def NN (ta tb:TE):TE:=λσ H Q=>ta σ H λx H1=>∃c,x=.bl c/\if c=true then tb σ H1 Q else Q (.bl false) H1
def Pf (ta tb:TE):TE:=λσ H Q=>ta σ H λx H1=>∃c,x=.bl c/\if c=true then Q (.bl true) H1 else tb σ H1 Q
def NO (ta:TE):TE:=λσ H Q=>ta σ H λx H1=>∃c,x=.bl c/\Q (.bl (!c)) H1
theorem Lv {op}{t:TE}(h:PE X a t):PE X (.BoolOp op [a] pos) t:=λpins s σ H Q I hw=>BoolOp_one (h pins s σ H Q I hw)
theorem Lw (f:PE X a ta)(i:PE X (.BoolOp .And (b :: rest) pos) tb):PE X (.BoolOp .And (a :: b :: rest) pos) (NN ta tb):=by
 intro pins s σ H Q I h;refine BoolOp_and (thn (f pins s σ H _ I h) λv g ⟨x,H1,d,e,q1⟩ => ?_);obtain⟨c,rfl,q1⟩:=q1;cases e;refine Y9 ?_;cases c with
 | true=>exact i pins g σ H1 Q d q1
 | false=>exact⟨.bl false,H1,d,rfl,q1⟩
theorem NP (f:PE X a ta)(i:PE X (.BoolOp .Or (b :: rest) pos) tb):PE X (.BoolOp .Or (a :: b :: rest) pos) (Pf ta tb):=by
 intro pins s σ H Q I h;refine BoolOp_or (thn (f pins s σ H _ I h) λv g ⟨x,H1,d,e,q1⟩ => ?_);obtain⟨c,rfl,q1⟩:=q1;cases e;refine Y9 ?_;cases c with
 | false=>exact i pins g σ H1 Q d q1
 | true=>exact⟨.bl true,H1,d,rfl,q1⟩
theorem Lx (f:PE X a ta):PE X (.UnaryOp .Not a pos) (NO ta):=by
 intro pins s σ H Q I h;refine UnaryOp_ (thn (f pins s σ H _ I h) λv g ⟨x,H1,d,e,q1⟩ => ?_);obtain⟨c,rfl,q1⟩:=q1;cases e;exact not_of (Y9 ⟨.bl (!c),H1,d,rfl,q1⟩)
def tIf (t:TT) (ta tb:TE):TE:=λσ H Q=>t σ H λc H1=>if c=true then ta σ H1 Q else tb σ H1 Q
theorem FW {c:Expr}(hc:PT X c tA)(g:PE X a ta)(i:PE X b tb):PE X (.IfExp c a b pos) (tIf tA ta tb):=by
 intro pins s σ H Q I h;refine wpAny_IfExp (thn (hc pins s σ H _ I h) λd f ⟨H1,e,q1⟩ => ?_);cases d with
 | true=>exact g pins f σ H1 Q e q1
 | false=>exact i pins f σ H1 Q e q1
end
def SqL (K:ZX) (H:Hp) (a:Addr) (xs:List V):Prop :=
 Rd H a (.lst xs)\/
  ∃(o:Obj) (its:Array T0) (n:Nat),K.lookup a=some o/\o.cls=.type "list"/\o.dict=none/\o.data=.seq its n/\its.size<=sizeLine/\bi xs its.toList
def SqT (K:ZX) (H:Hp) (a:Addr) (xs:List V):Prop :=
 Rd H a (.tup xs)\/
  ∃(o:Obj) (its:Array T0) (n:Nat),K.lookup a=some o/\o.cls=.type "tuple"/\o.data=.seq its n/\its.size<=sizeLine/\bi xs its.toList
def Pg:T0->Option V
 | .none=>some .non
 | .bool b=>some (.bl b)
 | .int i _=>some (.int i)
 | .str x _=>some (.str x)
 | .bytes b _=>some (.byt b)
 | .float b _=>some (.flt b)
 | .ref a=>some (.ref a)
 | .type n=>some (.ty n)
 | _=>none
theorem bT.abs {x:V}(r:bT x u):Pg u=some x:=by
 cases x with
 | non=>cases r;rfl
 | bl _=>cases r;rfl
 | int _=>obtain⟨t,rfl⟩:=r;rfl
 | str _=>obtain⟨t,rfl⟩:=r;rfl
 | byt _=>obtain⟨t,rfl⟩:=r;rfl
 | flt _=>obtain⟨t,rfl⟩:=r;rfl
 | ref _=>cases r;rfl
 | ty _=>cases r;rfl
theorem bT.inj {x y:V}(r:bT x u)(q:bT y u):x=y:=ZT (r.abs.symm.trans q.abs)
theorem bi.inj:∀{xs ys:List V} {a:List T0},bi xs a->bi ys a->xs=ys
 | _,_,_,.nil,.nil=>rfl
 | _,_,_,.cons r t,.cons r' t'=>by rw[r.inj r',bi.inj t t']
variable {K:ZX}
section
variable {X:Cx} {pins:List (Addr × Obj)} {σ:St} {H:Hp} {s:T3} {a:Addr} {xs ys:List V}
theorem SqL.of (h:H a=some (.lst xs)):SqL K H a xs:=.inl (.inl h)
theorem SqT.of (h:H a=some (.tup xs)):SqT K H a xs:=.inl (.inl h)
theorem Inv.list (I:Inv X pins σ H s)(h:SqL X.K H a xs):∃b:List T0,bi xs b/\PlainL s.heap a b.toArray/\xs.length<=sizeLine:=by
 rcases h with h|⟨o,b,n,hk,hc,hd,hs,hz,r⟩
 ·obtain⟨z,b,n,r,e⟩:=h.ok I.hok
  exact⟨b,r,⟨_,n,e,rfl,rfl,rfl⟩,z⟩
 ·refine⟨b.toList,r,⟨o,n,I.kIn a o hk,hc,hd,by simpa using hs⟩,?_⟩
  have e:=r.length;simp only[Array.length_toList]at e;omega
theorem Inv.tuple (I:Inv X pins σ H s)(h:SqT X.K H a xs):∃b:List T0,bi xs b/\IsTup s.heap a b.toArray/\xs.length<=sizeLine:=by
 rcases h with h|⟨o,b,n,hk,hc,hs,hz,r⟩
 ·obtain⟨z,b,r,p⟩:=h.ok I.hok
  exact⟨b,r,p,z⟩
 ·refine⟨b.toList,r,⟨o,I.kIn a o hk,hc,n,by simpa using hs⟩,?_⟩
  have e:=r.length;simp only[Array.length_toList]at e;omega
theorem Inv.list_inj (I:Inv X pins σ H s)(h:SqL X.K H a xs)(h':SqL X.K H a ys):xs=ys:=by
 obtain⟨c,r,⟨o,n,e,_,_,d⟩,_⟩:=I.list h;obtain⟨b,i,⟨o',j,g,_,_,f⟩,_⟩:=I.list h';rw[e]at g;cases g;rw[d]at f;injection f with d1 _
 have:c=b:=by simpa using congrArg Array.toList d1
 subst this;exact r.inj i
theorem Inv.tuple_inj (I:Inv X pins σ H s)(h:SqT X.K H a xs)(h':SqT X.K H a ys):xs=ys:=by
 obtain⟨c,r,⟨o,e,_,n,d⟩,_⟩:=I.tuple h;obtain⟨b,i,⟨o',g,_,j,f⟩,_⟩:=I.tuple h';rw[e]at g;cases g;rw[d]at f;injection f with d1 _
 have:c=b:=by simpa using congrArg Array.toList d1
 subst this;exact r.inj i
end
abbrev Cx.wish (X:Cx) (E:T0->T3->Prop):Cx:={ X with xe:=E }
abbrev Cx.nox (X:Cx):Cx:=X.wish λ_ _=>False
theorem Cx.Ok.wish {X:Cx}(ok:X.Ok)(E:T0->T3->Prop):(X.wish E).Ok :=
 ⟨ok.mod,ok.kind,ok.glob,ok.blt,ok.above,ok.inj,ok.has,ok.cab,ok.hd,ok.frames,ok.stk,ok.exf,ok.bs,ok.bsz,ok.noex,ok.exfs,ok.funs,ok.frf⟩
theorem Cx.Ok.unwish {X:Cx}(ok:(X.wish E).Ok):X.Ok :=
 ⟨ok.mod,ok.kind,ok.glob,ok.blt,ok.above,ok.inj,ok.has,ok.cab,ok.hd,ok.frames,ok.stk,ok.exf,ok.bs,ok.bsz,ok.noex,ok.exfs,ok.funs,ok.frf⟩
section
variable {X:Cx} {pins:List (Addr × Obj)} {σ:St} {H:Hp} {s:T3} {E:T0->T3->Prop}
theorem Inv.wish (I:Inv X pins σ H s)(E:T0->T3->Prop):Inv (X.wish E) pins σ H s:=⟨I.ok.wish E,I.os,I.bare,I.base,I.loc,I.cell,I.free,I.freeC,I.pin,I.hok,I.len⟩
theorem Inv.unwish (I:Inv (X.wish E) pins σ H s):Inv X pins σ H s:=⟨I.ok.unwish,I.os,I.bare,I.base,I.loc,I.cell,I.free,I.freeC,I.pin,I.hok,I.len⟩
theorem SP.unwish {D:wN}{f:Flow}{a:T3}(h:SP (X.wish E) pins D f a):SP X pins D f a:=by
 cases f with
 | next=>obtain⟨σ',H',I,q⟩:=h;exact⟨σ',H',I.unwish,q⟩
 | brk=>obtain⟨σ',H',I,q⟩:=h;exact⟨σ',H',I.unwish,q⟩
 | cont=>obtain⟨σ',H',I,q⟩:=h;exact⟨σ',H',I.unwish,q⟩
 | ret u=>obtain⟨v,σ',H',I,r,q⟩:=h;exact⟨v,σ',H',I.unwish,r,q⟩
theorem PSs.nox {st:List Stmt}{t:TS}(h:PSs X.nox st t):PSs X st t:=λpins s σ H D I hw =>
 WX (h pins s σ H D (I.wish _) hw) (λ_ _ q=>q.unwish) λ_ _ z=>False.elim z
end
section
variable {X:Cx} {st:Stmt} {rest:List Stmt} {t u:TS} {e:Expr} {te:TE} {pos:Pos}
def NQ:TS:=λD σ H=>D.nx σ H
def Ph (t u:TS):TS:=λD σ H=>t { D with nx:=u D } σ H
theorem IO:PSs X [] NQ:=λ_ _ σ H _ I h=>wpAny_execs_nil ⟨σ,H,I,h⟩
theorem FX (h1:PS X st t)(b:PSs X rest u):PSs X (st :: rest) (Ph t u):=by
 intro pins s σ H D I h;refine wpAny_execs_cons (thn (h1 pins s σ H { D with nx:=u D } I h) λf c q => ?_);cases f with
 | next =>
  obtain⟨σ',H',a,q⟩:=q;exact b pins c σ' H' D a q
 | ret v=>exact q
 | brk=>exact q
 | cont=>exact q
theorem IP (h1:PS X st t):PSs X [st] t:=by
 intro pins s σ H D I h;refine wpAny_execs_cons (thn (h1 pins s σ H D I h) λf a q => ?_);cases f with
 | next=>exact wpAny_execs_nil q
 | ret v=>exact q
 | brk=>exact q
 | cont=>exact q
def Ly:TS:=λD σ H=>D.bk σ H
theorem FY:PS X (.Break pos) Ly:=λ_ _ σ H _ I h=>wpAny_Break ⟨σ,H,I,h⟩
theorem Inv.quiet (I:Inv X pins σ H s):interactive X.env=false:=by simp[interactive,I.ok.kind]
def NR (te:TE):TS:=λD σ H=>te σ H λ_ H1=>D.nx σ H1
theorem IQ (he:PE X e te)(b:swapsWith e none pos.line X.env=pure false:=by rfl):PS X (.Expr e pos) (NR te):=by
 intro pins s σ H D I h;exact wpAny_Expr_any (thn (he pins s σ H _ I h) λv d ⟨x,H1,a,c,q1⟩=>⟨σ,H1,a,q1⟩) I.quiet b
def Pi (te:TE):TS:=λD σ H=>te σ H D.rt
theorem Lz (he:PE X e te):PS X (.Return (some e) pos) (Pi te):=by
 intro pins s σ H D I h;exact wpAny_Return_some (thn (he pins s σ H _ I h) λv c ⟨x,H1,a,b,q1⟩=>⟨x,σ,H1,a,b,q1⟩)
def Pj (c:TT) (t u:TS):TS:=λD σ H=>c σ H λb H1=>if b=true then t D σ H1 else u D σ H1
theorem NS {c:Expr}{a b:List Stmt}{g:TT}(hc:PT X c g)(k:PSs X a t)(j:PSs X b u):PS X (.If c a b pos) (Pj g t u):=by
 intro pins s σ H D I h;refine wpAny_If (thn (hc pins s σ H _ I h) λd i ⟨H1,f,q1⟩ => ?_);cases d with
 | true=>exact k pins i σ H1 D f q1
 | false=>exact j pins i σ H1 D f q1
def LA:TS:=λ_ _ _=>False
theorem FZ:PS X st LA:=λ_ _ _ _ _ _ h=>h.elim
end
abbrev TG:=V->St->Hp->(St->Hp->Prop)->Prop
abbrev TGs:=List V->St->Hp->(St->Hp->Prop)->Prop
def PG (X:Cx) (target:Expr) (t:TG):Prop :=
 ∀(pins:List (Addr × Obj)) (s:T3) (σ:St) (H:Hp) (v:V) (u:T0) (Q:St->Hp->Prop),Inv X pins σ H s->bT v u->t v σ H Q->
  wpAny (model X.prog X.w) X.A (assign target X.env u) (λ_ s'=>∃σ' H',Inv X pins σ' H' s'/\Q σ' H') X.xe s
def PGs (X:Cx) (ts:List Expr) (t:TGs):Prop :=
 ∀(pins:List (Addr × Obj)) (s:T3) (σ:St) (H:Hp) (vs:List V) (us:List T0) (Q:St->Hp->Prop),Inv X pins σ H s->bi vs us->t vs σ H Q->
  wpAny (model X.prog X.w) X.A (assignInOrder ((assignEach ts X.env).map (·.2)) us) (λ_ s'=>∃σ' H',Inv X pins σ' H' s'/\Q σ' H') X.xe s
abbrev LB:=V->V->V->Hp->(Hp->Prop)->Prop
def LC (X:Cx) (t:LB):Prop :=
 ∀(pins:List (Addr × Obj)) (s:T3) (σ:St) (H:Hp) (o i v:V) (ov iv u:T0) (Q:Hp->Prop),Inv X pins σ H s->bT o ov->bT i iv->bT v u->t o i v H Q->
  wpAny (model X.prog X.w) X.A (setItem ov iv u) (λ_ s'=>∃H',Inv X pins σ H' s'/\Q H') X.xe s
section
variable {X:Cx} {pos:Pos}
def KN (i:Nat):TG:=λv σ H Q=>Q (σ.set i (some v)) H
theorem IR {i:Nat}(d:X.N.Nodup)(hi:X.N[i]? = some x)(a:Loc X.env.scope x)(c:X.fn x=true\/X.env.scope.names.lookup x=some .local:=by first|exact .inl rfl|exact .inr rfl|assumption):PG X (.Name x pos) (KN i):=by
 intro pins s σ H v u Q I r h;exact wpAny_assign_Name (yV I d hi a r (λe b=>⟨_,H,b,h⟩) c)
def Pk:TGs:=λvs σ H Q=>vs=[]/\Q σ H
def NT (t:TG) (u:TGs):TGs:=λvs σ H Q=>∃v r,vs=v :: r/\t v σ H λσ' H'=>u r σ' H' Q
theorem IS:PGs X [] Pk:=by
 intro pins s σ H b a Q I r h;obtain⟨e,h⟩:=h;subst e;cases r;exact assignInOrder_nil ⟨σ,H,I,h⟩
theorem F4 {e:Expr}{es:List Expr}{t:TG}{u:TGs}(h1:PG X e t)(f:PGs X es u)
  (d:(assignEach (e :: es) X.env).map (·.2)=assign e X.env :: (assignEach es X.env).map (·.2):=by rfl):PGs X (e :: es) (NT t u):=by
 intro pins s σ H k j Q I r h;obtain⟨v,i,g,h⟩:=h;subst g;cases r with
 | cons r rr =>
  rw[d];refine assignInOrder_cons (thn (h1 pins s σ H _ _ _ I r h) λ_ c ⟨a,H1,b,q1⟩ => ?_);exact f pins c a H1 _ _ Q b rr q1
def Pl (K:ZX) (n:Nat) (t:TGs):TG:=λv σ H Q=>∃a xs,v=.ref a/\SqT K H a xs/\xs.length=n/\t xs σ H Q
theorem LD {es:List Expr}{k:Nat}{t:TGs}{n:Nat}(hc:X.calm=true)(h:PGs X es t)
  (f:(assignEach es X.env).length=n:=by rfl) (c:(assignEach es X.env).findIdx? (·.1)=none:=by rfl):PG X (.Tuple es k pos) (Pl X.K n t):=by
 intro pins s σ H v u Q I r hw;obtain⟨a,xs,p,j,g,hw⟩:=hw;subst p;cases r;obtain⟨i,d,m,w⟩:=I.tuple j;refine assign_Tuple_tuple (I.ok.hd hc) m (by simp[f,<-g,d.length]) c λh' q => ?_;have l:Inv X pins σ H { s with heap:=h' }:=I.kept (t':=s.toks) λb o e=>q b o (ZN (ZI e)) e;exact h pins _ σ H xs _ Q l (by simpa using d) hw
def Pm (to ti:TE) (t:LB):TG:=λv σ H Q=>to σ H λo H1=>ti σ H1 λi H2=>t o i v H2 λH3=>Q σ H3
theorem F7 {o i:Expr}{to ti:TE}{t:LB}(b:PE X o to)(hi:PE X i ti)(l:LC X t)
  (k:∀v,assign (.Subscript o i pos) X.env v=(do
   let ov <-holding [v] (eval o X.env)
   let a <-holding [v,ov] (eval i X.env)
   standAt pos
   holding [v,ov,a] (setItem ov a v)
   release [v,ov,a] []):=by intro _;rfl):PG X (.Subscript o i pos) (Pm to ti t):=by
 intro pins s σ H v u Q I r h;rw[k];refine z0 (Y5 (thn (b pins s σ H _ I h) λov g ⟨x,H1,e,n,q1⟩ => ?_));refine z0 (Y5 (thn (hi pins g σ H1 _ e q1) λa d ⟨y,j,c,f,q2⟩ => ?_));refine z0 (wpAny_standAt (z0 (Y5 (thn (l pins d σ j x y v ov a u _ c n f r q2) λ_ q ⟨m,p,q3⟩ => ?_))));exact wpAny_release ⟨σ,m,p,q3⟩
def NU (te:TE) (g:TG):TS:=λD σ H=>te σ H λx H1=>g x σ H1 D.nx
theorem F8 {tg e:Expr}{te:TE}{g:TG}(he:PE X e te)(a:PG X tg g)(d:swapsWithSole [tg] e pos.line X.env=pure false:=by rfl)(hw:swappedStores [tg] e X.env=pure none:=by rfl)
  (h1:(assignEach [tg] X.env).map (·.2)=[assign tg X.env]:=by rfl):PS X (.Assign [tg] e pos) (NU te g):=by
 intro pins s σ H D I h;refine wpAny_Assign_stores (thn (he pins s σ H _ I h) λv c ⟨x,H1,b,f,q1⟩ => ?_) d hw;rw[h1];exact thn (a pins c σ H1 x v _ b f q1) λ_ i q=>q
theorem LE {i:Nat}{e:Expr}{te:TE}{pos':Pos}(d:X.N.Nodup)(hi:X.N[i]? = some x)(f:Loc X.env.scope x)(he:PE X e te)(c:swapsWith e (some (.Name x pos')) pos.line X.env=pure false:=by rfl)(j:X.fn x=true\/X.env.scope.names.lookup x=some .local:=by first|exact .inl rfl|exact .inr rfl|assumption) :
  PS X (.Assign [.Name x pos'] e pos) (NU te (KN i)):=by
 intro pins s σ H D I h;refine wpAny_Assign_Name (thn (he pins s σ H _ I h) λv l ⟨y,H1,b,g,q1⟩ => ?_) c;exact yV b d hi f g (λk a=>⟨_,H1,a,q1⟩) j
end
section
variable {X:Cx} {pos:Pos}
def LG (c:TT) (tb:TS):TS:=λD σ H=>∃W:Nat->St->Hp->Prop,(∃m,W m σ H)/\∀m σ H,W m σ H->
 c σ H λb H1=>if b=true then ∃N:St->Hp->Prop,(∀σ' H',N σ' H'->∃m',m' < m/\W m' σ' H')/\tb { D with nx:=N,ct:=N,bk:=D.nx } σ H1 else D.nx σ H1
theorem F9 {c:Expr}{body:List Stmt}{o:TT}{tb:TS}(hp:PassesOwn (model X.prog X.w) X.A X.env X.xe)(hc:PT X c o)(u:PSs X body tb):PS X (.While c body [] pos) (LG o tb):=by
 intro pins s σ H D I h;obtain⟨W,⟨r,z⟩,turn⟩:=h;refine wpAny_While (codeAny_whileLoop (λn A=>∃σ' H',Inv X pins σ' H' A/\W n σ' H') ?_ r ⟨σ,H,I,z⟩);rintro n x ⟨d,H1,w,y⟩;refine XY hp (thn (hc pins x d H1 _ w (turn n d H1 y)) λb t ⟨p,m,q2⟩ => ?_);cases b with
 | true =>
  obtain⟨N,q,q2⟩:=q2;rw[z4 rfl];refine XY hp (thn (u pins t d p _ m q2) λf B q3 => ?_);cases f with
  | next =>
   obtain⟨a,e,l,g⟩:=q3;obtain⟨j,i,k⟩:=q a e g;exact⟨j,i,a,e,l,k⟩
  | cont =>
   obtain⟨a,e,l,g⟩:=q3;obtain⟨j,i,k⟩:=q a e g;exact⟨j,i,a,e,l,k⟩
  | brk=>exact q3
  | ret v=>exact q3
 | false =>
  rw[z5 ZY];exact wpAny_execs_nil ⟨d,p,m,q2⟩
end
structure It where
 go:Nat->Hp->Prop
 yld:Nat->Hp->V->Hp->Prop
 stop:Nat->Hp->Prop
def se (X:Cx) (pins:List (Addr × Obj)) (H:Hp) (b:Addr):Prop :=
 H b=none/\b≠X.env.locals/\b∉X.fs/\(b∈X.ex\/X.s₀.heap.objs.size<=b)/\(∀x c,X.env.cells.lookup x=some c->c≠b)/\∀p∈X.pn++pins,p.1≠b
theorem Inv.fpOk {X:Cx}{H':Hp}(I:Inv X pins σ H s)(a:s.heap.objs.size<=b)(d:H' b=none):se X pins H' b:=by
 refine⟨d,Z5 (v3 I.lt a),I.nofs a,.inr (ZM I.sz a),λx c e z => ?_,λp f z => ?_⟩
 ·obtain⟨v,q⟩:=I.cell x c e
  exact absurd (v3 q.lt (by rw[z];exact a)) (Z9 _)
 ·exact absurd (v3 (ZI (I.pin p f).1) (by rw[z];exact a)) (Z9 _)
structure yW (P:T5) (w:T6) (K:ZX) (tg:Expr) (J:It) (fp:List Addr) (it:Addr) (tn:Nat->Heap->Prop):Prop where
 mem:it∈fp
 obj:∀i h,tn i h->∀b∈fp,∃o,h.get? b=some o/\∀v,o.data ≠ .cell v
 keep:∀i h h',tn i h->(∀b∈fp,∀o,h.get? b=some o->h'.get? b=some o)->tn i h'
 item:∀(X:Cx),X.prog=P->X.w=w->X.K=K->X.calm=true->∀(i:Nat) (pins:List (Addr × Obj)) (s:T3) (σ:St) (H:Hp) (E:T0->T3->Prop),Inv X pins σ H s->(∀b∈fp,se X pins H b)->tn i s.heap->J.go i H->
  wpAny (model P w) X.A (pyNext (.ref it)) (λr s1=>∃u,r=some u/\
   wpAny (model P w) X.A (letOwnedTupleGo tg (.ref it) u) (λ_ s2=>∃x H',Inv X pins σ H' s2/\bT x u/\J.yld i H x H'/\tn (i + 1) s2.heap/\∀b∈fp,H' b=none) E s1) E s
 done:∀(X:Cx),X.prog=P->X.w=w->X.K=K->X.calm=true->∀(i:Nat) (pins:List (Addr × Obj)) (s:T3) (σ:St) (H:Hp) (E:T0->T3->Prop),Inv X pins σ H s->(∀b∈fp,se X pins H b)->tn i s.heap->J.stop i H->
  wpAny (model P w) X.A (pyNext (.ref it)) (λr s1=>r=none/\Inv X pins σ H s1) E s
 self:∀(A:T4) (i:Nat) (s:T3) (Q:T0->T3->Prop) (E:T0->T3->Prop),tn i s.heap->Q (.ref it) s->wpAny (model P w) A (pyIter (.ref it)) Q E s
abbrev TI:=St->Hp->(It->Hp->Prop)->Prop
def PIE (X:Cx) (pins:List (Addr × Obj)) (σ:St) (tg:Expr) (R:It->Hp->Prop) (itv:T0) (s2:T3):Prop :=
 ∃(it:Addr) (fp:List Addr) (tn:Nat->Heap->Prop) (J:It) (H':Hp),itv=.ref it/\Inv X pins σ H' s2/\yW X.prog X.w X.K tg J fp it tn/\tn 0 s2.heap/\(∀b∈fp,se X pins H' b)/\R J H'
def PI (X:Cx) (tg iter:Expr) (wi:TI):Prop :=
 ∀(pins:List (Addr × Obj)) (s:T3) (σ:St) (H:Hp) (R:It->Hp->Prop),Inv X pins σ H s->wi σ H R->
  wpAny (model X.prog X.w) X.A (eval iter X.env) (λv s1=>wpAny (model X.prog X.w) X.A (pyIter v) (PIE X pins σ tg R) X.xe s1) X.xe s
theorem C2 {M:Model}{tg:Expr}{it:Addr}{o:Obj}{n:String}{vs:Array T0}{Q:Unit->T3->Prop}(b:s.heap.get? it=some o)(hc:o.cls=.type n)(hd:o.data=.fields vs)
  (c : ["enumerate", "zip", "dict_itemiterator", "dict_reverseitemiterator", "odict_iterator", "itertools.zip_longest", "itertools.pairwise"].contains n=false) (a:Q () s):wpAny M A (letOwnedTupleGo tg (.ref it) u) Q E s:=by
 unfold letOwnedTupleGo;cases tg<;>first
  | exact x4 a
  | (cases u<;>first
    | exact x4 a
    | (refine z0 (wpAny_load b ?_)
       rw[hc,hd];show wpAny M A (if (["enumerate", "zip", "dict_itemiterator", "dict_reverseitemiterator", "odict_iterator", "itertools.zip_longest", "itertools.pairwise"].contains n && vs[0]? == some (rawInt _))=true then _ else _) Q E s;rw[z5 (by intro h;rw[c,Bool.false_and]at h;cases h)];exact x4 a))
def Itl (K:ZX) (a:Addr):It :=
 ⟨λi H=>∃xs x,SqL K H a xs/\xs[i]? = some x,λi H x H'=>H'=H/\∀xs,SqL K H a xs->xs[i]? = some x,λi H=>∃xs,SqL K H a xs/\xs.length<=i⟩
def Itt (K:ZX) (a:Addr):It :=
 ⟨λi H=>∃xs x,SqT K H a xs/\xs[i]? = some x,λi H x H'=>H'=H/\∀xs,SqT K H a xs->xs[i]? = some x,λi H=>∃xs,SqT K H a xs/\xs.length<=i⟩
def Itr (lo:Int) (n:Nat):It:=⟨λi _=>i < n,λi H x H'=>H'=H/\x=.int (lo + i),λi _=>n<=i⟩
theorem Eb {P:T5}{w:T6}{tg:Expr}(a it:Addr):yW P w K tg (Itl K a) [it] it (λi h=>h.IsListIter it a i) where
 mem:=by simp
 obj:=λi h st b f=>by
  have e:b=it:=by simpa using f
  subst e;obtain⟨o,e,c,d⟩:=st;exact⟨o,e,λv z=>by rw[d]at z;cases z⟩
 keep:=λi h h' st k=>st.at λo e=>k it (by simp) o e
 item:=by
  intro X q hw F hc i pins s σ H E I l st m;subst q hw F;obtain⟨xs,x,j,C⟩:=m;obtain⟨n,t,p,G⟩:=I.list j;obtain⟨u,O,J⟩:=t.get C;obtain⟨r,B,R,D,A,y⟩:=l it (by simp);refine wpAny_pyNext_list_item st p.isList (x:=u) (by simpa using O) λh' g Q => ?_;have L:Inv X pins σ H { s with heap:=h' }:=I.turned (t':=s.toks) (λb o f e=>(Q.2 b f).trans e) r B D A y;obtain⟨o,e,c,d⟩:=id g;exact⟨u,rfl,C2 (s:={ s with heap:=h' }) e c d (by decide) ⟨x,H,L,J,⟨rfl,λys N=>by rw[I.list_inj N j];exact C⟩,g,λb f=>(l b f).1⟩⟩
 done:=by
  intro X q hw F hc i pins s σ H E I l st m;subst q hw F;obtain⟨xs,j,C⟩:=m;obtain⟨n,t,p,G⟩:=I.list j;obtain⟨r,B,R,D,A,y⟩:=l it (by simp);have S:=t.length;exact wpAny_pyNext_list_end (I.ok.hd hc) st p.isList (by simp;omega) λh' M=>⟨rfl,I.turned (t':=s.toks) (λb o f e=>M b o f e) r B D A y⟩
 self:=λ_ _ _ _ _ st h=>wpAny_pyIter_listiter st h
theorem A2 {P:T5}{w:T6}{tg:Expr}(a it:Addr):yW P w K tg (Itt K a) [it] it (λi h=>h.IsTupleIter it a i) where
 mem:=by simp
 obj:=λi h st b g=>by
  have e:b=it:=by simpa using g
  subst e;obtain⟨o,e,c,d⟩:=st;exact⟨o,e,λv z=>by rw[d]at z;cases z⟩
 keep:=λi h h' st k=>st.at λo e=>k it (by simp) o e
 item:=by
  intro X q hw F hc i pins s σ H E I m st n;subst q hw F;obtain⟨xs,x,l,C⟩:=n;obtain⟨f,t,p,G⟩:=I.tuple l;obtain⟨u,O,J⟩:=t.get C;obtain⟨r,B,R,D,A,y⟩:=m it (by simp);refine wpAny_pyNext_tuple_item st (show s.heap.IsTuple a f.toArray from p) (x:=u) (by simpa using O) λh' j Q => ?_;have L:Inv X pins σ H { s with heap:=h' }:=I.turned (t':=s.toks) (λb o g e=>(Q.2 b g).trans e) r B D A y;obtain⟨o,e,c,d⟩:=id j;exact⟨u,rfl,C2 (s:={ s with heap:=h' }) e c d (by decide) ⟨x,H,L,J,⟨rfl,λys N=>by rw[I.tuple_inj N l];exact C⟩,j,λb g=>(m b g).1⟩⟩
 done:=by
  intro X q hw F hc i pins s σ H E I m st n;subst q hw F;obtain⟨xs,l,C⟩:=n;obtain⟨f,t,p,G⟩:=I.tuple l;obtain⟨r,B,R,D,A,y⟩:=m it (by simp);have S:=t.length;exact wpAny_pyNext_tuple_end (I.ok.hd hc) st (show s.heap.IsTuple a f.toArray from p) (by simp;omega) λh' M=>⟨rfl,I.turned (t':=s.toks) (λb o g e=>M b o g e) r B D A y⟩
 self:=λ_ _ _ _ _ st h=>wpAny_pyIter_tupleiter st h
theorem A3 {P:T5}{w:T6}{tg:Expr}(it:Addr)(lo:Int)(n:Nat):yW P w K tg (Itr lo n) [it] it (λi h=>IsRangeIter h it (lo + (i:Nat) * 1) ((n:Int) - (i:Nat)) 1) where
 mem:=by simp
 obj:=λi h st b a=>by
  have e:b=it:=by simpa using a
  subst e;exact⟨_,st,λv z=>by
   have A:Data.fields _=Data.cell v:=z;cases A⟩
 keep:=λi h h' st k=>k it (by simp) _ st
 item:=by
  intro X g hw r hc i pins s σ H E I d st f;subst g hw r;obtain⟨j,p,B,q,m,l⟩:=d it (by simp);have W:=Walks.range (prog:=X.prog) (w:=X.w) (I.ok.hd hc) it lo 1 n;refine W.item i s _ _ f st λv h' tk C c u => ?_;obtain⟨t,rfl⟩:=C;have x:Inv X pins σ H { s with heap:=h',toks:=tk }:=I.turned (λb o a e=>u b o (by simpa using a) e) j p q m l;refine⟨_,rfl,C2 (s:={ s with heap:=h',toks:=tk }) (n := "range_iterator") c rfl rfl (by decide) ⟨.int (lo + i),H,x,⟨t,?_⟩,⟨rfl,rfl⟩,c,λb a=>(d b a).1⟩⟩;rw[Int.mul_one]
 done:=by
  intro X g hw r hc i pins s σ H E I d st f;subst g hw r;obtain⟨j,p,B,q,m,l⟩:=d it (by simp);exact wpAny_pyNext_range_end (I.ok.hd hc) st (by have:n<=i:=f;omega) λh' y=>⟨rfl,I.turned (t':=s.toks) (λb o a e=>y b o a e) j p q m l⟩
 self:=λ_ _ _ _ _ st h=>wpAny_pyIter_rangeiter st h
section
variable {X:Cx} {tg:Expr}
theorem yX {R:It->Hp->Prop}{lo hi:Int}{t u v:Tok}{tk:Nat}(I:Inv X pins σ H s)(h1 : -(2 ^ 62)<=lo)(h:lo < 2 ^ 62)(g : -(2 ^ 62)<=hi)(f:hi < 2 ^ 62)
  (q:R (Itr lo (hi - lo).toNat) H):wpAny (model X.prog X.w) X.A (pyIter (.ref s.heap.objs.size)) (PIE X pins σ tg R) E { s with heap:=s.heap.push { cls:=.type "range",data:=.fields #[.int lo t,.int hi u,.int 1 v] },toks:=tk }:=by
 refine wpAny_pyIter_range (IsRange.new ..) (small_one h1 h g f) ?_;have a:Inv X pins σ H { s with heap:=s.heap.push { cls:=.type "range",data:=.fields #[.int lo t,.int hi u,.int 1 v] },toks:=tk }:=I.kept λb o e=>ZH _ e;refine⟨(s.heap.push { cls:=.type "range",data:=.fields #[.int lo t,.int hi u,.int 1 v] }).objs.size,[(s.heap.push { cls:=.type "range",data:=.fields #[.int lo t,.int hi u,.int 1 v] }).objs.size],_,_,H,rfl,
  a.kept (t':=tk) λb o e=>ZH _ e,A3 _ lo (hi - lo).toNat,?_,λb d => ?_,q⟩
 ·have i:lo + ((0:Nat):Int) * 1=lo:=by simp
  have c:(((hi - lo).toNat:Nat):Int) - ((0:Nat):Int)=Builtin.Range.rangeSize lo hi 1:=by rw[rangeSize_one];split<;>omega
  show IsRangeIter _ _ (lo + ((0:Nat):Int) * 1) ((((hi - lo).toNat:Nat):Int) - ((0:Nat):Int)) 1;rw[i,c];exact ZJ _ rfl
 ·have e:b=(s.heap.push { cls:=.type "range",data:=.fields #[.int lo t,.int hi u,.int 1 v] }).objs.size:=by simpa using d
  subst e;exact a.fpOk (ZL _) (a.hok.fresh (ZL _))
def NV (ta:TA):TI:=λσ H R=>ta σ H λvs H1=>∃j:Int,vs=[.int j]/\-(2 ^ 62)<=j/\j < 2 ^ 62/\R (Itr 0 j.toNat) H1
def NW (ta:TA):TI:=λσ H R=>ta σ H λvs H1=>∃i j:Int,vs=[.int i,.int j]/\(-(2 ^ 62)<=i/\i < 2 ^ 62/\-(2 ^ 62)<=j/\j < 2 ^ 62)/\R (Itr i (j - i).toNat) H1
theorem Ec {a:Expr} {ta:TA} {p:Pos} (b:Gl X "range") (hm:X.mg "range" = none) (d:PA X [a] ta) (f:starEach [a] X.env=[(false,eval a X.env)]:=by rfl):PI X tg (.Call (.Name "range" p) [a] [] pos) (NV ta):=by
 intro pins s σ H R I h;refine Call_ (mU I b hm boot_range (YX (thn (d pos pins s σ H _ I h) λi l ⟨k,H1,c,g,q1⟩ => ?_) f rfl));obtain⟨j,e,q1,q2,q⟩:=q1;subst e;cases g with
 | cons r rr =>
  cases rr;obtain⟨t,rfl⟩:=r;exact call_range_1 (yX c (by omega) (by omega) q1 q2 (by simpa using q))
theorem Ed {a b:Expr} {ta:TA} {p:Pos} (f:Gl X "range") (hm:X.mg "range" = none) (k:PA X [a,b] ta) (l:starEach [a,b] X.env=[(false,eval a X.env),(false,eval b X.env)]:=by rfl) (c:starEach [b] X.env=[(false,eval b X.env)]:=by rfl) :
  PI X tg (.Call (.Name "range" p) [a,b] [] pos) (NW ta):=by
 intro pins s σ H R I h;refine Call_ (mU I f hm boot_range (YX (thn (k pos pins s σ H _ I h) λn u ⟨o,H1,g,m,q1⟩ => ?_) (by rw[l,c]) (by rw[c];rfl)));obtain⟨i,j,e,⟨q1,q2,q3,d⟩,q⟩:=q1;subst e;cases m with
 | cons r rr =>
  cases rr with
  | cons r' rr =>
   cases rr;obtain⟨t,rfl⟩:=r;obtain⟨v,rfl⟩:=r';exact call_range_2 (yX g q1 q2 q3 d q)
def Pn (wi:TI) (g:TG) (tb:TS):TS:=λD σ H=>wi σ H λJ H1=>∃W:Nat->Nat->St->Hp->Prop,(∃m,W 0 m σ H1)/\∀i m σ H,W i m σ H->
 (J.stop i H/\D.nx σ H)\/(J.go i H/\∃N:St->Hp->Prop,(∀σ' H',N σ' H'->∃m',m' < m/\W (i + 1) m' σ' H')/\∀x H',J.yld i H x H'->g x σ H' λσ2 H2=>tb { D with nx:=N,ct:=N,bk:=D.nx } σ2 H2)
def sf (fp:List Addr) (h:Heap):List (Addr × Obj):=fp.filterMap λb=>(h.get? b).map λo=>(b,o)
theorem jW {a:List Addr}{o:Obj}(c:b∈a)(e:h.get? b=some o):(b,o)∈sf a h:=List.mem_filterMap.mpr ⟨b,c,by rw[e];rfl⟩
theorem Ee {a:List Addr}{p:Addr × Obj}(hp:p∈sf a h):p.1∈a/\h.get? p.1=some p.2:=by
 obtain⟨b,d,e⟩:=List.mem_filterMap.mp hp;cases q:h.get? b with
 | none=>rw[q]at e;cases e
 | some o =>
  rw[q]at e;have c:(b,o)=p:=ZT e;subst c;exact⟨d,q⟩
theorem Inv.pinned {a:List Addr}(I:Inv X pins σ H s)(l:∀b∈a,se X pins H b)(g:∀b∈a,∃o,s.heap.get? b=some o/\∀v,o.data ≠ .cell v):Inv X (pins++sf a s.heap) σ H s :=
 I.pins_of λp i=>(List.mem_append.mp i).elim (λz=>I.pin p (YD _ z)) λz=>by
  obtain⟨c,e⟩:=Ee z;obtain⟨h,j,k,_⟩:=l p.1 c;obtain⟨o,f,d⟩:=g p.1 c;rw[e]at f;cases f;exact⟨e,h,j,k,d⟩
theorem Inv.unpinned {pl:List (Addr × Obj)}(I:Inv X (pins++pl) σ H s):Inv X pins σ H s:=I.pins_of λp a=>I.pin p (YD _ (List.mem_append_left _ a))
theorem Ga {t:Expr}{body:List Stmt}{Y:TI}{g:TG}{tb:TS}(hp:PassesOwn (model X.prog X.w) X.A X.env X.xe)(hc:X.calm=true)(hi:PI X tg t Y)(hg:PG X tg g)(l:PSs X body tb)
  (hs:∀x,foldedSetIterable t X.env x=pure x:=by intro _;rfl):PS X (.For tg t body [] pos) (Pn Y g tb):=by
 intro pins s σ H D I h;refine wpAny_For (thn (hi pins s σ H _ I h) λv s1 h1=>thn h1 λa0 s2 h2 => ?_) hs;obtain⟨it,z,Q,J,H2,e,I2,T,G,U,W,⟨m0,w0⟩,turn⟩:=h2;subst e;have p:∀{H':Hp},(∀b∈z,H' b=none)->∀b∈z,se X pins H' b:=λhn b l=>⟨hn b l,(U b l).2⟩;refine codeAny_forLoop_any (λn S=>∃i σ' H',Inv X pins σ' H' S/\Q i S.heap/\(∀b∈z,H' b=none)/\W i n σ' H') ?_ m0 ⟨0,σ,H2,I2,G,λb l=>(U b l).1,w0⟩;rintro n R ⟨i,j,E,Z,B,C,w3⟩;rcases turn i n j E w3 with ⟨stop,qn⟩|⟨go,N,hN,step⟩
 ·refine XY hp (thn (T.done X rfl rfl rfl hc i pins R j E X.xe Z (p C) B stop) λr s4 ⟨F,I4⟩ => ?_)
  subst F;exact wpAny_execs_nil ⟨j,E,I4,qn⟩
 ·refine XY hp (thn (T.item X rfl rfl rfl hc i pins R j E X.xe Z (p C) B go) λr s4 ⟨u,F,h4⟩ => ?_)
  subst F;refine XY hp (thn h4 λ_ V ⟨x,P,I5,r5,y5,y,M⟩ => ?_);have O:=I5.pinned (p M) (T.obj _ _ y);refine XY hp (thn (hg _ V j P x u _ O r5 (step x P y5)) λ_ s6 ⟨L,H6,I6,q6⟩ => ?_);refine XY hp (thn (l _ s6 L H6 _ I6 q6) λf K w => ?_);have q:∀{a:St} {c:Hp},Inv X (pins++sf z V.heap) a c K->N a c->∃m,m < n/\∃i σ' H',Inv X pins σ' H' K/\Q i K.heap/\(∀b∈z,H' b=none)/\W i m σ' H':=λ{a c} k A=>by
   obtain⟨m',hm,w7⟩:=hN a c A;refine⟨m',hm,i + 1,a,c,k.unpinned,T.keep _ _ _ y λb l o e=>(k.pin (b,o) (YD _ (YD _ (jW l e)))).1,λb l => ?_,w7⟩;obtain⟨o,e,d⟩:=T.obj _ _ y b l;exact(k.pin (b,o) (YD _ (YD _ (jW l e)))).2.1
  cases f with
  | next=>obtain⟨a,c,k,A⟩:=w;exact q k A
  | cont=>obtain⟨a,c,k,A⟩:=w;exact q k A
  | brk=>obtain⟨a,c,k,w⟩:=w;exact⟨a,c,k.unpinned,w⟩
  | ret v=>obtain⟨x7,a,c,k,r7,w⟩:=w;exact⟨x7,a,c,k.unpinned,r7,w⟩
end
abbrev R2:=V->V->Hp->VK->Prop
def OpR (X:Cx) (f:T0->T0->Sem T0) (r:R2):Prop :=
 ∀(pins:List (Addr × Obj)) (s:T3) (σ:St) (H:Hp) (x y:V) (v u:T0) (Q:VK),Inv X pins σ H s->bT x v->bT y u->r x y H Q->
  wpAny (model X.prog X.w) X.A (f v u) (EP X pins σ Q) X.xe s
def UnR (X:Cx) (f:T0->Sem T0) (r:V->Hp->VK->Prop):Prop :=
 ∀(pins:List (Addr × Obj)) (s:T3) (σ:St) (H:Hp) (x:V) (v:T0) (Q:VK),Inv X pins σ H s->bT x v->r x H Q->
  wpAny (model X.prog X.w) X.A (f v) (EP X pins σ Q) X.xe s
def gf (X:Cx) (f:T0) (r:List V->Hp->VK->Prop):Prop :=
 ∀(pins:List (Addr × Obj)) (s:T3) (σ:St) (H:Hp) (xs:List V) (us:List T0) (Q:VK),Inv X pins σ H s->bi xs us->r xs H Q->
  wpAny (model X.prog X.w) X.A (call f us) (EP X pins σ Q) X.xe s
def tOp (r:R2) (ta tb:TE):TE:=λσ H Q=>ta σ H λx H1=>tb σ H1 λy H2=>r x y H2 Q
def tUn (r:V->Hp->VK->Prop) (ta:TE):TE:=λσ H Q=>ta σ H λx H1=>r x H1 Q
def rI (C:Int->Int->Prop) (g:Int->Int->V):R2:=λx y H Q=>∃i j,x=.int i/\y=.int j/\C i j/\Q (g i j) H
def rI0 (g:Int->Int->V):R2:=λx y H Q=>∃i j,x=.int i/\y=.int j/\Q (g i j) H
def rU (g:Int->V):V->Hp->VK->Prop:=λx H Q=>∃i,x=.int i/\Q (g i) H
section
variable {X:Cx} {a b c:Expr} {ta tb tc:TE} {pos:Pos}
theorem LH (o:PE X a ta)(k:PE X b tb){R:V->V->Hp->Prop}(I:Inv X pins σ H s)
  (h:ta σ H λx H1=>tb σ H1 λy d=>R x y d)  {f:T0->T0->Sem T0}
  (q:∀v u i x y d,Inv X pins σ d i->bT x v->bT y u->R x y d->wpAny (model X.prog X.w) X.A (f v u) Q X.xe i) :
  wpAny (model X.prog X.w) X.A (eval a X.env) (λv e => wpAny (model X.prog X.w) X.A (eval b X.env) (λu g => wpAny (model X.prog X.w) X.A (f v u) Q X.xe g) X.xe e) X.xe s:=by
 refine thn (o pins s σ H _ I h) λv n ⟨x,H1,l,p,q1⟩ => ?_;refine thn (k pins n σ H1 _ l q1) λu i ⟨y,d,j,m,q2⟩ => ?_;exact q v u i x y d j p m q2
theorem Gb {op:Operator}{r:R2}(d:OpR X (binaryOp op) r)(j:PE X a ta)(g:PE X b tb):PE X (.BinOp a op b pos) (tOp r ta tb):=by
 intro pins s σ H Q I h;exact wpAny_BinOp (LH j g I h λv u f x y i e l k q=>d pins f σ i x y v u Q e l k q)
theorem NX {op:UnaryOp}{r:V->Hp->VK->Prop}(d:UnR X (unaryOp op) r)(f:PE X a ta):PE X (.UnaryOp op a pos) (tUn r ta):=by
 intro pins s σ H Q I h;exact UnaryOp_ (thn (f pins s σ H _ I h) λv i ⟨x,H1,e,g,q1⟩=>d pins i σ H1 x v Q e g q1)
theorem opI {f:T0->T0->Sem T0}{C:Int->Int->Prop}{g:Int->Int->Int}
  (d:∀(i j:Int) (t u:Tok) (s:T3) (Q:T0->T3->Prop) (E:T0->T3->Prop),C i j->Q (.int (g i j) s.toks) { s with toks:=s.toks + 1 }->wpAny (model X.prog X.w) X.A (f (.int i t) (.int j u)) Q E s) :
  OpR X f (rI C λi j=>.int (g i j)):=by
 intro pins s σ H x y v u Q I k e h;obtain⟨i,j,rfl,rfl,hc,q⟩:=h;obtain⟨t,rfl⟩:=k;obtain⟨l,rfl⟩:=e;exact d i j t l s _ _ hc ⟨.int (g i j),H,I.tok _,⟨_,rfl⟩,q⟩
theorem NY {f:T0->T0->Sem T0}{g:Int->Int->Int}
  (d:∀(i j:Int) (t u:Tok) (s:T3) (Q:T0->T3->Prop) (E:T0->T3->Prop),Q (.int (g i j) s.toks) { s with toks:=s.toks + 1 }->wpAny (model X.prog X.w) X.A (f (.int i t) (.int j u)) Q E s) :
  OpR X f (rI0 λi j=>.int (g i j)):=by
 intro pins s σ H x y v u Q I k e h;obtain⟨i,j,rfl,rfl,q⟩:=h;obtain⟨t,rfl⟩:=k;obtain⟨l,rfl⟩:=e;exact d i j t l s _ _ ⟨.int (g i j),H,I.tok _,⟨_,rfl⟩,q⟩
theorem LJ {f:T0->T0->Sem T0}{g:Int->Int->Bool}
  (d:∀(i j:Int) (t u:Tok) (s:T3) (Q:T0->T3->Prop) (E:T0->T3->Prop),Q (.bool (g i j)) s->wpAny (model X.prog X.w) X.A (f (.int i t) (.int j u)) Q E s) :
  OpR X f (rI0 λi j=>.bl (g i j)):=by
 intro pins s σ H x y v u Q I k e h;obtain⟨i,j,rfl,rfl,q⟩:=h;obtain⟨t,rfl⟩:=k;obtain⟨l,rfl⟩:=e;exact d i j t l s _ _ ⟨.bl (g i j),H,I,rfl,q⟩
def IT (i j:Int):Prop:=(-(2 ^ 64) < i/\i < 2 ^ 64)\/(-(2 ^ 64) < j/\j < 2 ^ 64)
theorem IT.ok {i j:Int}(h:IT i j):IntMulOk i j:=by
 rcases h with ⟨h1,h2⟩|⟨h1,h2⟩
 ·exact .of_left (intBits_le_64 h1 h2)
 ·exact .of_right (intBits_le_64 h1 h2)
theorem LK:OpR X (binaryOp .Add) (rI0 λi j=>.int (i + j)):=NY λ_ _ _ _ _ _ _ q=>add_int q
theorem eK:OpR X (binaryOp .Sub) (rI0 λi j=>.int (i - j)):=NY λ_ _ _ _ _ _ _ q=>sub_int q
theorem eM:OpR X (binaryOp .Mult) (rI IT λi j=>.int (i * j)):=opI λ_ _ _ _ _ _ _ hc q=>mul_int q hc.ok
theorem fF:OpR X (binaryOp .Mod) (rI (λ_ j=>0 < j) λi j=>.int (i % j)):=opI λi j _ _ _ _ _ hc q=>by
 have d:(0:Int) < j:=hc;exact mod_int' (by omega) (by rw[Int.fmod_eq_emod_of_nonneg i (by omega)];exact q)
theorem unI {f:T0->Sem T0}{g:Int->Int}
  (d:∀(i:Int) (t:Tok) (s:T3) (Q:T0->T3->Prop) (E:T0->T3->Prop),Q (.int (g i) s.toks) { s with toks:=s.toks + 1 }->wpAny (model X.prog X.w) X.A (f (.int i t)) Q E s) :
  UnR X f (rU λi=>.int (g i)):=by
 intro pins s σ H x v Q I e h;obtain⟨i,rfl,q⟩:=h;obtain⟨t,rfl⟩:=e;exact d i t s _ _ ⟨.int (g i),H,I.tok _,⟨_,rfl⟩,q⟩
theorem LL:UnR X (unaryOp .USub) (rU λi=>.int (-i)):=unI λ_ _ _ _ _ q=>neg_int q
end
section
variable {X:Cx} {a b c:Expr} {ta tb tc:TE} {pos:Pos}
theorem A4 {Q:VK}{k d:Bool}(I:Inv X pins σ H s)(q:Q (.bl k) H)(e:k=d):EP X pins σ Q (.bool d) s:=by
 subst e;exact⟨.bl k,H,I,rfl,q⟩
theorem C3:OpR X (compareOp .Lt) (rI0 λi j=>.bl (decide (i < j))):=LJ λ_ _ _ _ _ _ _ q=>lt_int q
theorem KO:OpR X (compareOp .LtE) (rI0 λi j=>.bl (decide (i<=j))):=LJ λ_ _ _ _ _ _ _ q=>le_int q
theorem sh:OpR X (compareOp .Gt) (rI0 λi j=>.bl (decide (j < i))):=LJ λ_ _ _ _ _ _ _ q=>gt_int q
theorem Ef:OpR X (compareOp .In) (λx y H Q=>∃i j,x=.str i/\y=.str j/\Q (.bl (!(Builtin.Str.occurrences j i 0 j.length 1).isEmpty)) H):=by
 intro pins s σ H x y v u Q I e d h;obtain⟨i,j,rfl,rfl,q⟩:=h;obtain⟨t,rfl⟩:=e;obtain⟨f,rfl⟩:=d;exact in_str (A4 I q rfl)
theorem A5:OpR X (compareOp .Is) (λx y H Q=>y=.non/\Q (.bl (decide (x=.non))) H):=by
 intro pins s σ H x y v u Q I d e h;obtain⟨rfl,q⟩:=h;cases e;refine is_none_gen (A4 I q ?_);cases x<;>first
  | (cases d;rfl)
  | (obtain⟨t,rfl⟩:=d;rfl)
theorem rJ:OpR X (compareOp .IsNot) (λx y H Q=>y=.non/\Q (.bl (!decide (x=.non))) H):=by
 intro pins s σ H x y v u Q I d e h;obtain⟨rfl,q⟩:=h;cases e;refine isnot_none_gen (A4 I q ?_);cases x<;>first
  | (cases d;rfl)
  | (obtain⟨t,rfl⟩:=d;rfl)
theorem OpR.or {f:T0->T0->Sem T0}{r g:R2}(h:OpR X f r)(h':OpR X f g):OpR X f (λx y H Q=>r x y H Q\/g x y H Q):=by
 intro pins s σ H x y v u Q I e d q;rcases q with q|q
 ·exact h pins s σ H x y v u Q I e d q
 ·exact h' pins s σ H x y v u Q I e d q
theorem aK (b:Expr){op:CmpOp}(h:op ≠ .In:=by decide)(f:op ≠ .NotIn:=by decide):behindInMarks op b=false:=by
 have d:(op == CmpOp.In)=false:=by cases op<;>first|rfl|exact absurd rfl h
 have e:(op == CmpOp.NotIn)=false:=by cases op<;>first|rfl|exact absurd rfl f
 cases b<;>simp[behindInMarks,d,e]
theorem IU {op:CmpOp}{r:R2}(d:OpR X (compareOp op) r)(j:PE X a ta)(g:PE X b tb)(hm:behindInMarks op b=false):PE X (.Compare a [op] [b] pos) (tOp r ta tb):=by
 intro pins s σ H Q I h;exact wpAny_Compare1 (LH j g I h λv u f x y i e l k q=>d pins f σ i x y v u Q e l k q) hm
def NZ (t:TE):TT:=λσ H Q=>t σ H λx H'=>∃k,x=.bl k/\Q k H'
theorem rK {op:CmpOp}{r:R2}(d:OpR X (compareOp op) r)(p:PE X a ta)(j:PE X b tb)(hm:behindInMarks op b=false):PT X (.Compare a [op] [b] pos) (NZ (tOp r ta tb)):=by
 intro pins s σ H Q I h;refine wpAny_isTrue_Compare1 (thn (p pins s σ H _ I h) λv n ⟨x,H1,l,t,q1⟩=>thn (j pins n σ H1 _ l q1) λu i ⟨y,o,f,m,q2⟩ =>
  thn (d pins i σ o x y v u _ f t m q2) λc A ⟨z,q,w,g,k,e,q3⟩ => ?_) hm
 subst e;cases g;exact Y9 ⟨q,w,q3⟩
def Gc (r r':R2) (ta tb tc:TE):TE:=λσ H Q=>ta σ H λx H1=>tb σ H1 λy H2=>r x y H2 λz H3=>∃k,z=.bl k/\
 (if k=true then tc σ H3 λw' H4=>r' y w' H4 Q else Q (.bl false) H3)
theorem Ge {op f:CmpOp}{r l:R2}(o:OpR X (compareOp op) r)(g:OpR X (compareOp f) l)(K:PE X a ta)(C:PE X b tb)(hc:PE X c tc)
  (hm:lastMarks [op,f] [b,c] = false:=by with_unfolding_all rfl):PE X (.Compare a [op,f] [b,c] pos) (Gc r l ta tb tc):=by
 intro pins s σ H Q I h;refine Compare_chain (thn (K pins s σ H _ I h) λv F ⟨x,H1,D,M,q1⟩=>chain_link (thn (C pins F σ H1 _ D q1) λu A ⟨y,J,t,i,q2⟩ =>
  thn (o pins A σ J x y v u _ t M i q2) λd E ⟨z,j,m,w,k,e,q3⟩ => ?_)) hm
 subst e;cases w;refine Y9 ?_;cases k with
 | false=>exact ite_ff ⟨.bl false,j,m,rfl,q3⟩
 | true=>exact ite_tt (chain_last (thn (hc pins E σ j _ m q3) λN B ⟨G,p,L,n,q⟩=>g pins B σ p y G u N Q L i n q))
theorem o6:(sizeLine:Nat) < 2 ^ 63:=by rw[YK];decide
theorem A6:OpR X (binaryOp .Add) (λx y H Q=>∃i j,x=.str i/\y=.str j/\i.length + j.length<=sizeLine/\Q (.str (i++j)) H):=by
 intro pins s σ H x y v u Q I f e h;obtain⟨i,j,rfl,rfl,d,q⟩:=h;obtain⟨t,rfl⟩:=f;obtain⟨g,rfl⟩:=e;exact add_str (λg tk=>⟨.str (i++j),H,I.tok _,⟨_,rfl⟩,q⟩) d
theorem nZ {x:V}(r:bi [x] us):∃u,us=[u]/\bT x u:=by
 cases r with
 | cons r1 r2=>cases r2;exact⟨_,rfl,r1⟩
theorem KP {x y:V}(r:bi [x,y] us):∃u d,us=[u,d]/\bT x u/\bT y d:=by
 cases r with
 | cons r1 r2 =>
  cases r2 with
  | cons r3 r4=>cases r4;exact⟨_,_,rfl,r1,r3⟩
theorem Eg (hc:X.calm=true):gf X (.builtin "max") (λxs H Q=>∃i j,xs=[.int i,.int j]/\Q (.int (if j > i then j else i)) H):=by
 intro pins s σ H xs d Q I r h;obtain⟨i,j,rfl,q⟩:=h;obtain⟨u,e,rfl,⟨t,rfl⟩,⟨f,rfl⟩⟩:=KP r;refine max_two_ints (I.ok.hd hc) λh' tk k=>⟨_,H,I.kept k,?_,q⟩
 by_cases hj:j > i
 ·rw[z4 hj,z4 hj];exact⟨_,rfl⟩
 ·rw[z5 hj,z5 hj];exact⟨_,rfl⟩
theorem Eh (hc:X.calm=true):gf X (.builtin "min") (λxs H Q=>∃i j,xs=[.int i,.int j]/\Q (.int (if j < i then j else i)) H):=by
 intro pins s σ H xs d Q I r h;obtain⟨i,j,rfl,q⟩:=h;obtain⟨u,e,rfl,⟨t,rfl⟩,⟨f,rfl⟩⟩:=KP r;refine min_two_ints (I.ok.hd hc) λh' tk k=>⟨_,H,I.kept k,?_,q⟩
 by_cases hj:j < i
 ·rw[z4 hj,z4 hj];exact⟨_,rfl⟩
 ·rw[z5 hj,z5 hj];exact⟨_,rfl⟩
theorem Ei:gf X (.type "int") (λxs H Q=>(∃i,xs=[.int i]/\Q (.int i) H)\/∃k,xs=[.bl k]/\Q (.int (if k then 1 else 0)) H):=by
 intro pins s σ H xs e Q I r h;rcases h with ⟨i,rfl,q⟩|⟨k,rfl,q⟩
 ·obtain⟨u,rfl,t,rfl⟩:=nZ r
  exact call_int_int ⟨.int i,H,I,⟨_,rfl⟩,q⟩
 ·obtain⟨u,rfl,d⟩:=nZ r
  cases d;exact call_int_bool ⟨.int (if k then 1 else 0),H,I.tok _,⟨_,rfl⟩,q⟩
theorem wQ:gf X (.type "str") (λxs H Q=>∃i,xs=[.int i]/\i.natAbs.log2 < 1920/\Q (.str (toString i)) H):=by
 intro pins s σ H xs e Q I r h;obtain⟨i,rfl,d,q⟩:=h;obtain⟨u,rfl,t,rfl⟩:=nZ r;exact PySem.P.str_of_int d ⟨.str _,H,I.tok _,⟨_,rfl⟩,q⟩
end
structure A7 (h:Heap) (x dx C:Addr) (mA:Str->Option T0):Prop where
 obj:h.get? x=some (PySem.W.instObj C dx)
 ns:h.Ns1 dx mA
 ne:dx≠x
theorem Ej {dx:Addr}{mA:Str->Option T0}(n:h.Ns1 dx mA):∃c,h.get? dx=some c/\∀name,PySem.W.lookIn name c=some (mA name):=by
 obtain⟨o,es,k,d,hd,f,_,g⟩:=n;refine⟨o,d,λname => ?_⟩;have e:=g name;unfold nsFind findBy at e;rw[<-Array.find?_toList]at e;unfold PySem.W.lookIn;rw[hd];dsimp only;split
 ·rename_i y q
  rw[q]at e;exact congrArg some e
 ·rename_i q
  rw[q]at e;have a:es.toList.any (·.refKey)=false:=by
   rw[List.any_eq_false];intro y j;obtain⟨z,t,b⟩:=f y (Array.mem_toList_iff.mp j);simp[DictEntry.refKey,b]
  have i : ¬es.toList.any (·.refKey)=true:=by rw[a];exact ZY
  rw[z5 i];exact congrArg some e
theorem A7.look {x dx C:Addr}{mA:Str->Option T0}(I:A7 h x dx C mA):∃a,PySem.W.InstAt h x (PySem.W.instObj C dx) C (some a)/\∀name,PySem.W.lookIn name a=some (mA name) :=
 let ⟨a,ho,hl⟩:=Ej I.ns
 ⟨a,⟨I.obj,rfl,rfl,ho⟩,hl⟩
section
variable {prog:T5} {w:T6} {A:T4} {E:T0->T3->Prop} {s:T3} {K:ZX} {x dx C f:Addr} {mA:Str->Option T0} {name:Str} {v:T0}
theorem IV {a:Bool}(X:K.In s.heap)(I:A7 s.heap x dx C mA)(e:PySem.W.plainGet K C name=true)(c:PySem.W.hasDictIn K C=true)
  (d:PySem.W.findIn K (.ref C) name=some none) (i:mA name=some v) (b:PySem.W.handedIn v=true) (h:Q v { s with toks:=s.toks + 1 }) :
  wpAny (model prog w) A (getAttr (.ref x) name a) Q E s:=by
 obtain⟨j,J,g⟩:=I.look;exact PySem.W.get_value X J (PySem.W.plainGet_of e).1 (PySem.W.findObj_own c d rfl (by rw[g,i])) b h
theorem Gf {pl:Sem Bool}{Q:T0 × List T0->T3->Prop}(X:K.In s.heap)(I:A7 s.heap x dx C mA)(a:PySem.W.plainGet K C name=true)
  (d:PySem.W.findIn K (.ref C) name=some (some (.ref f))) (ht:PySem.W.isFn K (.ref f)=true) (c:mA name=none) (h:Q (.ref f,[.ref x]) s) :
  wpAny (model prog w) A (getMethod (.ref x) name pl) Q E s:=by
 obtain⟨e,J,b⟩:=I.look;exact PySem.W.method_fn X J (PySem.W.plainGet_of a).1 (PySem.W.plainGet_of a).2 d (beq_iff_eq.mp ht) (by show (PySem.W.lookIn name e).map (·.isSome)=some false;rw[b,c];rfl) h
theorem IW {ns:List Str}{Q:Unit->T3->Prop}(X:K.In s.heap)(I:A7 s.heap x dx C mA)
  (k:PySem.W.findIn K (.ref C) "__setattr__" = some (some (.builtin "object.__setattr__"))) (hp:PySem.W.plainOver K C=true) (ht:PySem.W.takerIn K C name=some none) (j:PySem.W.hasDictIn K C=true)
  (hw:PySem.Within mA ns) (hsz:ns.length<=sizeLine)
  (h:∀h',A7 h' x dx C (λy=>if y=name then some v else mA y)->Heap.SameBut dx s.heap h'->Q () { s with heap:=h',toks:=s.toks + 2 }) :
  wpAny (model prog w) A (setAttr (.ref x) name v) Q E s:=by
 obtain⟨q,J,o⟩:=I.look;refine PySem.W.set_plain X J k (PySem.W.osa_open (s:={ s with toks:=s.toks + 1 }) (r:=none) X J hp ht λb => ?_);obtain⟨t,hc,hd'⟩:=PySem.W.any_some j;have m:s.heap.get? x=some ⟨.ref C,some dx,.plain,#[]⟩:=I.obj;refine z0 (x4 (z0 (z0 (wpAny_loadPart m (z0 (PySem.W.Looks.here (s:={ s with toks:=s.toks + 1 }) (PySem.W.looks_clsIn X hc) ?_))))));rw[hd'];refine x4 (a:=some dx) (z0 (x4 (z0 ?_)));refine wpAny_nsSet1 (s:={ s with toks:=s.toks + 1 }) I.ns λh' c d => ?_;obtain⟨p,n,l,e,i,g⟩:=c.count (PySem.Within.cons name v hw);refine z0 (wpAny_lookBehind e (by rw[i];exact pastItsLine_dict (ZM g (by rw[y4];omega))) ?_);exact x4 (h _ ⟨(d.2 _ (YN I.ne)).trans I.obj,c,I.ne⟩ d)
theorem Gg {R:Result->T3->Prop}{vs:List T0}{a:List (Str × T0)}(X:K.In s.heap)(hm:PySem.W.makesIn K C=true)
  (hi:PySem.W.findIn K (.ref C) "__init__" = some (some (.ref f))) (b:PySem.W.typeIn K (.ref f)=some (.type "function"))
  (h:codeAny (model prog w) (A.under (.builtin "type.__call__" ⟨.ref C :: vs,a⟩)) (.call (.ref f) ⟨.ref (s.heap.objs.size + 1) :: vs,a⟩) (PySem.W.InitBack (s.heap.objs.size + 1) R)
   { s with heap:=(s.heap.push PySem.W.emptyDict).push (PySem.W.instObj C s.heap.objs.size) }) :
  codeAny (model prog w) A (.call (.ref C) ⟨vs,a⟩) R s:=by
 obtain⟨c,g,d,t,os⟩:=s;exact PySem.W.make_core (PySem.W.makes_of X hm) (PySem.W.looks_findIn X hi) (λself=>PySem.W.bind_fn X self b) (.inl rfl) h
end
def kR (f:Str) (v:V):List (Str × V)->List (Str × V)
 | []=>[(f,v)]
 | (g,x) :: r=>if g=f then (g,v) :: r else (g,x) :: kR f v r
theorem qB (f g:Str)(v:V):∀fs:List (Str × V),(kR f v fs).lookup g=if g=f then some v else fs.lookup g
 | []=>by
  show List.lookup g [(f,v)] = _
  by_cases h:g=f
  ·have a:(g == f)=true:=beq_iff_eq.mpr h
   simp only[List.lookup,a,z4 h]
  ·have a:(g == f)=false:=beq_eq_false_iff_ne.mpr h
   simp only[List.lookup,a,z5 h]
 | (k,x) :: r=>by
  have b:=qB f g v r;rw[show kR f v ((k,x) :: r)=(if k=f then (k,v) :: r else (k,x) :: kR f v r) from rfl]
  by_cases hk:k=f
  ·rw[z4 hk]
   by_cases h:g=k
   ·have a:(g == k)=true:=beq_iff_eq.mpr h
    simp only[List.lookup,a,z4 (h.trans hk)]
   ·have a:(g == k)=false:=beq_eq_false_iff_ne.mpr h
    simp only[List.lookup,a,z5 (λe:g=f=>h (e.trans hk.symm))]
  ·rw[z5 hk]
   by_cases h:g=k
   ·have a:(g == k)=true:=beq_iff_eq.mpr h
    simp only[List.lookup,a,z5 (λe:g=f=>hk (h.symm.trans e))]
   ·have a:(g == k)=false:=beq_eq_false_iff_ne.mpr h
    simp only[List.lookup,a];exact b
theorem o7 (f:Str)(v:V):∀fs:List (Str × V),f∈(kR f v fs).map (·.1)/\∀g,g∈fs.map (·.1)->g∈(kR f v fs).map (·.1)
 | []=>⟨by simp[kR],λg h=>by simp at h⟩
 | (k,x) :: r=>by
  obtain⟨a,b⟩:=o7 f v r;rw[show kR f v ((k,x) :: r)=(if k=f then (k,v) :: r else (k,x) :: kR f v r) from rfl]
  by_cases hk:k=f
  ·rw[z4 hk]
   subst hk;exact⟨by simp,λg h=>by simpa using h⟩
  ·rw[z5 hk]
   refine⟨?_,λg h => ?_⟩
   ·rw[x3]
    exact ZW _ a
   ·rw[x3]at h ⊢
    rcases Y6.mp h with e|e
    ·exact Y6.mpr (.inl e)
    ·exact ZW _ (b g e)
theorem qC (f:Str)(v:V):∀fs:List (Str × V),(kR f v fs).length<=fs.length + 1
 | []=>by simp[kR]
 | (k,x) :: r=>by
  have a:=qC f v r;rw[show kR f v ((k,x) :: r)=(if k=f then (k,v) :: r else (k,x) :: kR f v r) from rfl]
  by_cases hk:k=f
  ·rw[z4 hk,y4,y4];omega
  ·rw[z5 hk,y4,y4];omega
theorem nY.some_of {v:V}{o:Option T0}(r:nY (some v) o):∃u,o=some u/\bT v u:=by
 cases o with
 | none=>exact(show False from r).elim
 | some u=>exact⟨u,rfl,r⟩
theorem nY.none_of {o:Option T0}(r:nY none o):o=none:=by
 cases o with
 | none=>rfl
 | some u=>exact(show False from r).elim
theorem Ek {v:V}(r:bT v u):PySem.W.handedIn u=true:=by
 cases v with
 | non=>cases (show u=Value.none from r);rfl
 | bl b=>cases (show u=Value.bool b from r);rfl
 | int i=>obtain⟨t,e⟩:=(show ∃t,u=Value.int i t from r);cases e;rfl
 | str x=>obtain⟨t,e⟩:=(show ∃t,u=Value.str x t from r);cases e;rfl
 | byt b=>obtain⟨t,e⟩:=(show ∃t,u=Value.bytes b t from r);cases e;rfl
 | flt b=>obtain⟨t,e⟩:=(show ∃t,u=Value.float b t from r);cases e;rfl
 | ref a=>cases (show u=Value.ref a from r);rfl
 | ty n=>cases (show u=Value.type n from r);rfl
section
variable {P:T5} {w:T6} {H H':Hp} {h h':Heap} {a C dx:Addr} {fs fs':List (Str × V)}
theorem wR (hok:HOk P w H h)(e:H a=some (.ins C dx fs)):∃mA,A7 h a dx C mA/\(∀f,nY (fs.lookup f) (mA f))/\PySem.Within mA (fs.map (·.1))/\fs.length<=1000/\H dx=some (.own a):=by
 obtain⟨d,z,ne,b,mA,n,r,q⟩:=(show eJ P w H h a (.ins C dx fs) from hok a _ e);exact⟨mA,⟨b,n,ne⟩,r,q,z,d⟩
end
structure Cls (K:ZX) (C:Addr):Prop where
 pg:PySem.W.plainGet K C Str.empty=true
 hd:PySem.W.hasDictIn K C=true
 po:PySem.W.plainOver K C=true
 sa:PySem.W.findIn K (.ref C) "__setattr__" = some (some (.builtin "object.__setattr__"))
theorem Cls.get {C:Addr}(c:Cls K C)(f:Str):PySem.W.plainGet K C f=true:=c.pg
def kW (K:ZX) (C:Addr) (f:Str):Prop:=PySem.W.findIn K (.ref C) f=some none
theorem kW.taker {C:Addr}{f:Str}(n:kW K C f):PySem.W.takerIn K C f=some none:=by
 unfold PySem.W.takerIn;rw[show PySem.W.findIn K (.ref C) f=some none from n];rfl
structure Con (K:ZX) (C:Addr) (f:Str) (v:V) (u:T0):Prop where
 at_:PySem.W.findIn K (.ref C) f=some (some u)
 rel:bT v u
 get:PySem.W.specialIn K u "__get__" = some none
 cp:PySem.W.copiedNames.contains f=false
structure LM (K:ZX) (C:Addr) (m:Str) (f:Addr):Prop where
 at_:PySem.W.findIn K (.ref C) m=some (some (.ref f))
 fn:PySem.W.isFn K (.ref f)=true
 kp:PySem.W.keepIn K (.ref f)=true
section
variable {X:Cx} {pins:List (Addr × Obj)} {σ:St} {H:Hp} {s:T3} {a C dx:Addr} {fs:List (Str × V)} {f:Str} {v:V} {A:T4} {E:T0->T3->Prop}
theorem A8 {b:Bool}(I:Inv X pins σ H s)(e:H a=some (.ins C dx fs))(c:Cls X.K C)(n:kW X.K C f)(l:fs.lookup f=some v)
  (h:∀u d,Inv X pins σ H d->bT v u->Q u d):wpAny (model X.prog X.w) A (getAttr (.ref a) f b) Q E s:=by
 obtain⟨mA,O,r,_,_,_⟩:=wR I.hok e;obtain⟨u,i,g⟩:=nY.some_of (v:=v) (o:=mA f) (by rw[<-l];exact r f);exact IV I.kIn O (c.get f) c.hd n i (Ek g) (h u _ (I.tok _) g)
theorem A9 {m:Str}{g:Addr}{pl:Sem Bool}{Q:T0 × List T0->T3->Prop}(I:Inv X pins σ H s)(e:H a=some (.ins C dx fs))(c:Cls X.K C)(k:LM X.K C m g)(l:fs.lookup m=none)
  (h:Q (.ref g,[.ref a]) s):wpAny (model X.prog X.w) A (getMethod (.ref a) m pl) Q E s:=by
 obtain⟨mA,O,r,_,_,_⟩:=wR I.hok e;have b:mA m=none:=nY.none_of (by rw[<-l];exact r m);exact Gf I.kIn O (c.get m) k.at_ k.fn b h
theorem Ba {y:V}{Q:Unit->T3->Prop}(I:Inv X pins σ H s)(e:H a=some (.ins C dx fs))(c:Cls X.K C)(n:kW X.K C f)(B:fs.length < 1000)(t:bT y u)
  (h:∀k,Inv X pins σ (upd H a (.ins C dx (kR f y fs))) k->Q () k):wpAny (model X.prog X.w) A (setAttr (.ref a) f u) Q E s:=by
 obtain⟨mA,O,r,j,_,i⟩:=wR I.hok e;have m:(fs.map (·.1)).length<=sizeLine:=by rw[ZA,YK];omega
 refine IW I.kIn O c.sa c.po n.taker c.hd j m λh' d w=>h _ ?_;have hd:∃o,h'.get? dx=some o:=let ⟨o,_,_,e',_⟩:=d.ns;⟨o,e'⟩;refine I.write (x:=a) (e:=dx) (by rw[e];exact True.intro) (.inr i) (λb q p z=>(w.2 b p).trans z) hd ?_;refine⟨by rw[aM O.ne];exact i,?_,O.ne,d.obj,_,d.ns,λg => ?_,λg l => ?_⟩
 ·have:=qC f y fs;omega
 ·show nY ((kR f y fs).lookup g) (if g=f then some u else mA g)
  rw[qB]
  by_cases q:g=f
  ·rw[z4 q,z4 q];exact t
  ·rw[z5 q,z5 q];exact r g
 ·by_cases q:g=f
  ·rw[q];exact(o7 f y fs).1
  ·refine(o7 f y fs).2 g (j g λz=>l ?_)
   show (if g=f then some u else mA g)=none;rw[z5 q];exact z
theorem Inv.made (I:Inv X pins σ H s):Inv X pins σ (upd (upd H s.heap.objs.size (.own (s.heap.objs.size + 1))) (s.heap.objs.size + 1) (.ins C s.heap.objs.size []))
  { s with heap:=(s.heap.push PySem.W.emptyDict).push (PySem.W.instObj C s.heap.objs.size) }:=by
 have c:(s.heap.push PySem.W.emptyDict).get? s.heap.objs.size=some PySem.W.emptyDict:=ZJ s.heap rfl;have i:((s.heap.push PySem.W.emptyDict).push (PySem.W.instObj C s.heap.objs.size)).get? (s.heap.objs.size + 1)=some (PySem.W.instObj C s.heap.objs.size):=by
  have:=ZJ (s.heap.push PySem.W.emptyDict) (o:=PySem.W.instObj C s.heap.objs.size) rfl;rwa[YF]at this
 have g:(s.heap.push PySem.W.emptyDict).Ns s.heap.objs.size (λ_=>none):=⟨PySem.W.emptyDict,#[],_,c,rfl,(λe j=>absurd j (by simp)),λ_=>rfl⟩;have d:=I.laid (a:=s.heap.objs.size) (o:=.own (s.heap.objs.size + 1)) (h':=s.heap.push PySem.W.emptyDict) (t':=s.toks) (λb u q=>ZH _ q) (ZL _) ⟨_,c⟩;refine d.laid (a:=s.heap.objs.size + 1) (o:=.ins C s.heap.objs.size []) (t':=s.toks) (λb u q=>ZH _ q) (WU (YF _ _)) ?_;have ne:s.heap.objs.size≠s.heap.objs.size + 1:=ZN (Z8 _);refine⟨by rw[aM ne,bp],YG _,ne,i,λ_=>none,(Heap.Ns1.of_empty g).at λo q=>ZH _ q,λ_=>True.intro,λy h=>absurd rfl h⟩
theorem IX {prog:T5}{w:T6}{env:Env}{e:Expr}{f:Str}{s:T3}(c:attributeBase e f env (eval e env)=eval e env)
  (h:wpAny (model prog w) A (eval e env) (λo b => wpAny (model prog w) A (getAttr o f true) Q E b) E s):wpAny (model prog w) A (eval (.Attribute e f pos) env) Q E s :=
 Attribute_any_ h (by rw[arm_eval_Attribute,c])
end
def Po (K:ZX) (ta:TE) (f:Str):TE:=λσ H Q=>ta σ H λx H1=>∃a C dx fs v,x=.ref a/\H1 a=some (.ins C dx fs)/\Cls K C/\kW K C f/\fs.lookup f=some v/\Q v H1
def Pp (K:ZX) (ta tv:TE) (f:Str):TS:=λD σ H=>tv σ H λy H1=>ta σ H1 λx H2=>∃a C dx fs,x=.ref a/\H2 a=some (.ins C dx fs)/\Cls K C/\kW K C f/\fs.length < 1000/\
 D.nx σ (upd H2 a (.ins C dx (kR f y fs)))
section
variable {X:Cx} {o e value:Expr} {f:Str} {pos pos' tpos:Pos} {ta tv:TE}
theorem LN (he:PE X e ta)(g:attributeBase e f X.env (eval e X.env)=eval e X.env):PE X (.Attribute e f pos) (Po X.K ta f):=by
 intro pins s σ H Q I h;refine IX g (thn (he pins s σ H _ I h) λu p ⟨x,H1,i,j,a,C,dx,fs,v,ex,k,c,n,l,q⟩ => ?_);subst ex;obtain rfl:u=Value.ref a:=j;exact A8 i k c n l λr m b d=>⟨v,H1,b,d,q⟩
theorem LO (i:PE X o ta)(p:PE X value tv)(k:swapsWith value (some (.Attribute o f pos')) pos.line X.env=pure false):PS X (.Assign [.Attribute o f pos'] value pos) (Pp X.K ta tv f):=by
 intro pins s σ H D I h;refine plainObj_wpAny_Assign_Attribute (thn (p pins s σ H _ I h) λu g ⟨y,H1,d,j,q⟩=>thn (i pins g σ H1 _ d q) λov v ⟨x,z,b,m,a,C,dx,fs,ex,t,c,n,l,q2⟩ => ?_) k;subst ex;obtain rfl:ov=Value.ref a:=m;exact Ba b t c n l j λw r=>⟨σ,_,r,q2⟩
end
section
variable {X:Cx} {pins:List (Addr × Obj)} {σ:St} {H:Hp} {s:T3} {A:T4} {E:T0->T3->Prop} {Q:T0->T3->Prop} {c:T0} {b:Bool}
inductive si (K:ZX) (H:Hp):V->T0->Prop where
 | non:si K H .non (.type "NoneType")
 | bl (x:Bool):si K H (.bl x) (.type "bool")
 | int (i:Int):si K H (.int i) (.type "int")
 | str (x:Str):si K H (.str x) (.type "str")
 | flt (x:UInt64):si K H (.flt x) (.type "float")
 | lst {a:Addr} {xs:List V} (e:H a=some (.lst xs)):si K H (.ref a) (.type "list")
 | frz {a:Addr} {o:Obj} {xs:List V} (e:H a=some (.frz o (.lst xs))):si K H (.ref a) (.type "list")
 | tup {a:Addr} {xs:List V} (e:H a=some (.tup xs)):si K H (.ref a) (.type "tuple")
 | dK {a:Addr} {kvs:List (Key × V)} (e:H a=some (.dK kvs)):si K H (.ref a) (.type "dict")
 | dT {a:Addr} {kvs:List (List Key × V)} (e:H a=some (.dT kvs)):si K H (.ref a) (.type "dict")
 | ins {a C dx:Addr} {fs:List (Str × V)} (e:H a=some (.ins C dx fs)) (cl:Cls K C) (ha:PySem.W.findIn K (.ref C) "__class__" = some (some (.builtin "object.__class__")))
   (hn:PySem.W.specialIn K (.builtin "object.__class__") "__get__" = some (some (.builtin "getset_descriptor.__get__"))) (htk:PySem.W.takesIn K (.builtin "object.__class__")=some true)
   (hm:PySem.W.mroIn K C (.type "object")=some true):si K H (.ref a) (.ref C)
end
structure fG (k:Nat) (A:T4):Prop where
 hd:A.handled=none
 dp:A.depth + 3 * k + 5 < recursionLimit
 un:A.units + 16 * k + 200 < cLine
 gd:A.guards=some []
theorem fG.mono {j k:Nat}(r:fG k A)(h:j<=k):fG j A:=⟨r.hd,by have:=r.dp;omega,by have:=r.un;omega,r.gd⟩
theorem fG.deeper {k:Nat}(r:fG (k + 1) A)(env:Env):fG k (A.deeper env) :=
 ⟨r.hd,by have:=r.dp;show A.depth + 1 + 3 * k + 5 < _;omega,by have:=r.un;show A.units + 3 + 16 * k + 200 < _;omega,r.gd⟩
theorem Bb  {C:Addr}  {a:List (Str × T0)}:(A.under (.builtin "type.__call__" ⟨.ref C :: us,a⟩)).depth=A.depth + 1:=by
 first|rfl|simp[Around.under,Code.weight,Code.isCreation,Code.isGuard,Code.isCaller,Code.frames,Code.isFrame,guardIds]
theorem Bc  {C:Addr}  {a:List (Str × T0)}:(A.under (.builtin "type.__call__" ⟨.ref C :: us,a⟩)).units=A.units + 1:=by
 first|rfl|simp[Around.under,Code.cUnits,Code.frames,Code.isFrame]
theorem fG.make {k:Nat}  (r:fG (k + 1) A) (C:Addr) (us:List T0) (a:List (Str × T0)):fG k (A.under (.builtin "type.__call__" ⟨.ref C :: us,a⟩)) :=
 ⟨r.hd,by have:=r.dp;rw[Bb];omega,by have:=r.un;rw[Bc];omega,by first|exact r.gd|(simp[Around.under,Code.isGuard,guardIds];exact r.gd)⟩
theorem fG.depth {k:Nat}(r:fG k A):A.depth < recursionLimit:=by have:=r.dp;omega
theorem fG.units0 {k:Nat}(r:fG k A):A.units < cLine:=by have:=r.un;omega
def Pq:TA:=λ_ H Q=>Q [] H
def N1 (ta:TE) (tr:TA):TA:=λσ H Q=>ta σ H λx H1=>tr σ H1 λxs H2=>Q (x :: xs) H2
section
variable {X:Cx} {e:Expr} {es:List Expr} {te:TE} {t:TA} {pos:Pos}
theorem dI:PA X [] Pq:=λ_ _ _ _ H Q I h=>Calls.spliced_nil ⟨[],H,I,.nil,h⟩
theorem cw (i:PE X e te)(c:PA X es t)(j:starEach (e :: es) X.env=(false,eval e X.env) :: starEach es X.env:=by rfl):PA X (e :: es) (N1 te t):=by
 intro pos pins s σ H Q I h;rw[j];show wpAny _ _ (spliced ((false,eval e X.env) :: backTo pos (starEach es X.env))) _ _ s;refine Calls.spliced_cons (thn (i pins s σ H _ I h) λu f ⟨x,H1,b,k,q1⟩ => ?_);exact thn (c pos pins f σ H1 _ b q1) λl m ⟨xs,g,a,d,q2⟩=>⟨x :: xs,g,a,.cons k d,q2⟩
def Pr (t:TA):TE:=λσ H Q=>t σ H λxs H1=>xs.length<=sizeLine/\∀p,H1 p=none->Q (.ref p) (upd H1 p (.tup xs))
def Ps (t:TA):TE:=λσ H Q=>t σ H λxs H1=>xs.length<=sizeLine/\∀p,H1 p=none->Q (.ref p) (upd H1 p (.lst xs))
theorem Gh {x1}(h:PA X es t):PE X (.Tuple es x1 pos) (Pr t):=by
 intro pins s σ H Q I f;refine wpAny_Tuple_spliced (thn (h pos pins s σ H _ I f) λd a ⟨xs,H1,c,r,z,q⟩=>⟨by rw[<-r.length];exact z,?_⟩);have g:H1 a.heap.objs.size=none:=c.hok.fresh (ZL _);refine⟨.ref a.heap.objs.size,upd H1 a.heap.objs.size (.tup xs),c.laid (t':=a.toks) (λb u e=>ZH _ e) (ZL _) ?_,rfl,q _ g⟩;exact⟨z,d,r,⟨_,ZJ _ rfl,rfl,_,rfl⟩⟩
theorem LQ (h:PA X es t):PE X (.List es pos) (Ps t):=by
 intro pins s σ H Q I f;refine wpAny_List_spliced (thn (h pos pins s σ H _ I f) λd a ⟨xs,H1,c,r,z,q⟩=>⟨by rw[<-r.length];exact z,?_⟩);have g:H1 a.heap.objs.size=none:=c.hok.fresh (ZL _);refine⟨.ref a.heap.objs.size,upd H1 a.heap.objs.size (.lst xs),c.laid (t':=a.toks) (λb u e=>ZH _ e) (ZL _) ?_,rfl,q _ g⟩;exact⟨z,d,0,r,ZJ _ rfl⟩
end
abbrev Sp:=List V->Hp->VK->XK->Prop
abbrev CXT:=List Env->Hp->T3->XK->T0->T3->Prop
structure Bd (P:T5) (w:T6) (K:ZX) (mg:Str->Option T0) (base:Heap) (A:T4) (outer:List Env) (s:T3) (H:Hp):Prop where
 frames:A.frames=some outer
 mod:Mod K mg base
 bs:∀b o,base.get? b=some o->s.heap.get? b=some o/\H b=none
 bsz:base.objs.size<=s.heap.objs.size
 funs:s.heap.FunFrames base outer
 frf:∀b∈frs outer,H b=none
 hok:HOk P w H s.heap
 bare:AllBare s.gens
def CE (outer:List Env) (P:T5) (w:T6) (H:Hp) (s:T3) (Q:VK) (u:T0) (s':T3):Prop :=
 ∃v H',s'.os=s.os/\AllBare s'.gens/\Un (frs outer) [] H H' s.heap s'.heap/\HOk P w H' s'.heap/\bT v u/\Q v H'
def CR (CX:CXT) (outer:List Env) (P:T5) (w:T6) (H:Hp) (s:T3) (Q:VK) (E:XK) (r:Result) (s':T3):Prop :=
 match r with
 | .ok (.ret u)=>CE outer P w H s Q u s'
 | .ok _=>False
 | .error e=>CX outer H s E e s'
structure bC (P:T5) (w:T6) (K:ZX) (mg:Str->Option T0) (base:Heap) (CX:CXT) (k:Nat) (f:Addr) (fd:FuncData) (ps:List Str) (sp:Sp):Prop where
 len:∀vs H Q E,sp vs H Q E->vs.length=ps.length
 run:∀(A:T4) (outer:List Env) (s:T3) (H:Hp) (args:Args) (us:List T0) (vs:List V) (Q:VK) (E:XK),fG k A->Bd P w K mg base A outer s H->BindsTo s fd args (ps.zip us)->bi vs us->sp vs H Q E->
  codeAny (model P w) A (.call (.ref f) args) (CR CX outer P w H s Q E) s
theorem Bd.make {P:T5}{w:T6}{mg:Str->Option T0}{base:Heap}{outer:List Env}(e:Bd P w K mg base A outer s H)(C:Addr)(us:List T0)(a:List (Str × T0)) :
  Bd P w K mg base (A.under (.builtin "type.__call__" ⟨.ref C :: us,a⟩)) outer s H:=⟨by first|exact e.frames|(simpa[Around.under,Code.envs,Code.isFrame,pushEnvs] using e.frames),e.mod,e.bs,e.bsz,e.funs,e.frf,e.hok,e.bare⟩
section
variable {X:Cx} {pins:List (Addr × Obj)} {σ:St} {H:Hp} {s s':T3}
theorem Inv.env0 (I:Inv X pins σ H s):Bd X.prog X.w X.K X.mg X.base X.A X.stack s H :=
 ⟨I.ok.frames,I.ok.mod,I.bs,ZM I.ok.bsz I.sz,I.stack,I.stkFree,I.hok,I.bare⟩
theorem Inv.after {Q:VK}(I:Inv X pins σ H s)(h:CE X.stack X.prog X.w H s Q u s'):EP X pins σ Q u s':=by
 obtain⟨v,H',os,bare,e,hok,r,q⟩:=h;obtain⟨c,g,d,t,a⟩:=s';obtain rfl:a=s.os:=os;exact⟨v,H',I.call (h':=c) (g':=g) (d':=d) (t':=t) (ch:=[]) e hok bare (λb z=>absurd z (by simp)),r,q⟩
end
def N4 (sp:Sp) (dvs:List V) (E:XK) (t:TA):TE:=λσ H Q=>t σ H λvs H1=>sp (vs++dvs) H1 Q E
def N5 (C:Addr) (m:Str) (sp:Sp) (dvs:List V) (E:XK) (ta:TE) (t:TA):TE:=λσ H Q=>ta σ H λx H1=>∃a dx fs,x=.ref a/\H1 a=some (.ins C dx fs)/\fs.lookup m=none/\
 t σ H1 λvs H2=>sp (x :: (vs++dvs)) H2 Q E
def N7 (C:Addr) (sp:Sp) (dvs:List V) (E:XK) (t:TA):TE:=λσ H Q=>t σ H λvs H1=>∀x dx,H1 x=none->H1 dx=none->dx≠x->
 sp (.ref x :: (vs++dvs)) (upd (upd H1 dx (.own x)) x (.ins C dx [])) (λv H2=>v=.non/\Q (.ref x) H2) E
def iK (K:ZX) (fd:FuncData) (ps:List Str) (ds:List T0):Prop :=
 ∀(s:T3) (us:List T0),K.In s.heap->(us++ds).length=ps.length->BindsTo s fd ⟨us,[]⟩ (ps.zip (us++ds))
theorem iK.all {fd:FuncData}{ps:List Str}(h:∀us:List T0,us.length=ps.length->bindArgs fd ⟨us,[]⟩ = pure (ps.zip us)):iK K fd ps []:=λs us _ a=>by
 rw[YT]at a ⊢;exact .of_eq (h us a)
def o8 (CX:CXT) (X:Cx) (E:XK):Prop:=∀(pins:List (Addr × Obj)) (σ:St) (H:Hp) (s:T3) (e:T0) (s':T3),Inv X pins σ H s->CX X.stack H s E e s'->X.xe e s'
section
variable {X:Cx} {CX:CXT} {k:Nat} {f C:Addr} {fd:FuncData} {ps:List Str} {sp:Sp} {dvs:List V} {ds:List T0} {E:XK} {x m:Str} {p pos apos:Pos} {e o:Expr} {es:List Expr} {ta:TE} {t:TA}
theorem Gi {Q:VK}{vs:List V}(F:bC X.prog X.w X.K X.mg X.base CX k f fd ps sp)(g:fG k X.A)(d:iK X.K fd ps ds)(hd:bi dvs ds)(i:o8 CX X E)
  (I:Inv X pins σ H s) (r:bi vs us) (h:sp (vs++dvs) H Q E):wpAny (model X.prog X.w) X.A (call (.ref f) us) (EP X pins σ Q) X.xe s:=by
 have b:bi (vs++dvs) (us++ds):=r.append hd;have c:(us++ds).length=ps.length:=by rw[<-b.length];exact F.len _ _ _ _ h
 refine wpAny_call (codeAny_mono (F.run X.A X.stack s H ⟨us,[]⟩ (us++ds) (vs++dvs) Q E g I.env0 (d s us I.kIn c) b h) λr j a => ?_);cases r with
 | error e=>exact i pins σ H s e j I a
 | ok fl =>
  cases fl with
  | ret u=>exact I.after a
  | next=>exact False.elim a
  | brk=>exact False.elim a
  | cont=>exact False.elim a
theorem IY (F:bC X.prog X.w X.K X.mg X.base CX k f fd ps sp)(i:fG k X.A)(d:Gl X x)(hm:X.mg x=some (.ref f))(c:PySem.W.keepIn X.K (.ref f)=true)(g:iK X.K fd ps ds)(hd:bi dvs ds)(l:o8 CX X E)
  (j:PA X (e :: es) t) (a:(x == ("__debug__" : Str))=false:=by decide) (he:starEach (e :: es) X.env=(false,eval e X.env) :: starEach es X.env:=by rfl) (hpl:(backTo pos (starEach es X.env)).any (·.1)=false:=by rfl) :
  PE X (.Call (.Name x p) (e :: es) [] pos) (N4 sp dvs E t):=by
 intro pins s σ H Q I h;refine WR (wP I d hm ?_ a);refine PySem.W.callWith_K (h₀ := X.base) I.ok.mod.kin c (thn (j pos pins s σ H _ I h) λn v ⟨u,H1,b,r,q⟩=>⟨b.kIn,?_⟩) he hpl;exact Gi F i g hd l b r q
theorem IZ {pl:Sem Bool}(he:PE X o ta)(c:Cls X.K C)(hm:LM X.K C m f)(F:bC X.prog X.w X.K X.mg X.base CX k f fd ps sp)(j:fG k X.A)(i:iK X.K fd ps ds)(hd:bi dvs ds)(y:o8 CX X E)(v:PA X (e :: es) t)
  (b:starEach (e :: es) X.env=(false,eval e X.env) :: starEach es X.env:=by rfl) (hpl:(backTo pos (starEach es X.env)).any (·.1)=false:=by rfl)
  (ht:eval (.Call (.Attribute o m apos) (e :: es) [] pos) X.env=(do
   let ov <-eval o X.env
   standAt apos.atName
   let (f,first) <-holding [ov] (getMethod ov m pl)
   callWith pos f first (backTo pos (starEach (e :: es) X.env)) (backToKw pos (keywordEach [] X.env))):=by rfl) :
  PE X (.Call (.Attribute o m apos) (e :: es) [] pos) (N5 C m sp dvs E ta t):=by
 intro pins s σ H Q I h;refine PySem.W.methodCall_KW (pl:=pl) (thn (he pins s σ H _ I h) λu n ⟨x,H1,g,w,a,dx,fs,ex,z,l,q⟩ => ?_) ht;subst ex;obtain rfl:u=Value.ref a:=w;refine A9 g z c hm l ?_;refine PySem.W.callWith_K (first:=[.ref a]) (h₀ := X.base) I.ok.mod.kin hm.kp (thn (v pos pins n σ H1 _ g q) λus A ⟨vs,B,d,r,q2⟩=>⟨d.kIn,?_⟩) b hpl;exact Gi (us:=.ref a :: us) (vs:=.ref a :: vs) F j i hd y d (.cons rfl r) q2
structure Mk (K:ZX) (C f:Addr):Prop where
 makes:PySem.W.makesIn K C=true
 init:PySem.W.findIn K (.ref C) "__init__" = some (some (.ref f))
 fn:PySem.W.isFn K (.ref f)=true
 kp:PySem.W.keepIn K (.ref C)=true
theorem Gj {Q:VK}{vs:List V}(M:Mk X.K C f)(F:bC X.prog X.w X.K X.mg X.base CX k f fd ps sp)(l:fG (k + 1) X.A)(i:iK X.K fd ps ds)(hd:bi dvs ds)
  (w:o8 CX X E) (I:Inv X pins σ H s) (r:bi vs us)
  (h:∀x dx,H x=none->H dx=none->dx≠x->sp (.ref x :: (vs++dvs)) (upd (upd H dx (.own x)) x (.ins C dx [])) (λv q=>v=.non/\Q (.ref x) q) E) :
  wpAny (model X.prog X.w) X.A (call (.ref C) us) (EP X pins σ Q) X.xe s:=by
 have c:=h (s.heap.objs.size + 1) s.heap.objs.size (I.hok.fresh (Nat.le_succ _)) (I.hok.fresh (ZL _)) (ZN (Z8 _));have b:=Inv.made (C:=C) I;have d:bi (V.ref (s.heap.objs.size + 1) :: (vs++dvs)) (Value.ref (s.heap.objs.size + 1) :: (us++ds)):=.cons rfl (r.append hd);have g:(Value.ref (s.heap.objs.size + 1) :: us++ds).length=ps.length:=by
  have e:=d.length;rw[F.len _ _ _ _ c]at e;exact e.symm
 refine wpAny_call (Gg (f:=f) I.kIn M.makes M.init (beq_iff_eq.mp M.fn) (codeAny_mono (F.run _ X.stack _ _ ⟨Value.ref (s.heap.objs.size + 1) :: us,[]⟩ (Value.ref (s.heap.objs.size + 1) :: (us++ds)) _ _ E (l.make C us [])
  (b.env0.make C us []) (i _ (Value.ref (s.heap.objs.size + 1) :: us) b.kIn g) d c) λr y a => ?_))
 cases r with
 | error e=>exact w pins σ _ _ e y b a
 | ok fl =>
  cases fl with
  | ret u =>
   obtain⟨v,H',z,n,j,q3⟩:=b.after a;subst j;exact⟨n,⟨V.ref (s.heap.objs.size + 1),H',z,rfl,q3⟩⟩
  | next=>exact False.elim a
  | brk=>exact False.elim a
  | cont=>exact False.elim a
theorem I0 (M:Mk X.K C f)(F:bC X.prog X.w X.K X.mg X.base CX k f fd ps sp)(g:fG (k + 1) X.A)(c:Gl X x)(hm:X.mg x=some (.ref C))(d:iK X.K fd ps ds)(hd:bi dvs ds)(j:o8 CX X E)
  (i:PA X (e :: es) t) (a:(x == ("__debug__" : Str))=false:=by decide) (he:starEach (e :: es) X.env=(false,eval e X.env) :: starEach es X.env:=by rfl) (hpl:(backTo pos (starEach es X.env)).any (·.1)=false:=by rfl) :
  PE X (.Call (.Name x p) (e :: es) [] pos) (N7 C sp dvs E t):=by
 intro pins s σ H Q I h;refine WR (wP I c hm ?_ a);refine PySem.W.callWith_K (h₀ := X.base) I.ok.mod.kin M.kp (thn (i pos pins s σ H _ I h) λl u ⟨n,H1,b,r,q⟩=>⟨b.kIn,?_⟩) he hpl;exact Gj M F g d hd j b r q
end
section
variable {X:Cx} {CX:CXT} {k:Nat} {f C:Addr} {fd:FuncData} {ps ks:List Str} {sp:Sp} {E:XK} {x m:Str} {p pos apos kpos:Pos} {e o:Expr} {es:List Expr} {kws:List Keyword} {te ta:TE} {t tk:TA} {nm:Option Str}
structure Pt (K:ZX) (fd:FuncData) (ps ks:List Str) (g:List T0->List T0->List T0) (gV:List V->List V->List V):Prop where
 to:∀(s:T3) (us ws:List T0),K.In s.heap->(g us ws).length=ps.length->BindsTo s fd ⟨us,ks.zip ws⟩ (ps.zip (g us ws))
 rel:∀{vs:List V} {us:List T0} {zs:List V} {ws:List T0},bi vs us->bi zs ws->bi (gV vs zs) (g us ws)
variable {g:List T0->List T0->List T0} {gV:List V->List V->List V}
end
structure aA (N P:List Str) (sc:Scope):Prop where
 kind:sc.kind=.function
 co:sc.isCoroutine=false
 gen:sc.isGenerator=false
 nd:N.Nodup
 pre:N.take P.length=P
 par:∀x∈P,sc.names.lookup x=some .local\/sc.names.lookup x=some .cell
 nofree:∀y∈sc.names,y.2 ≠ .free
theorem vw {b:Str->Option NameKind}{x:Str}:∀{a:List (Str × T0)} {m:Str->Option T0},(∀v,(x,v)∉a)->bindL b a m x=m x
 | [],_,_=>rfl
 | (n,v) :: r,m,h=>by
  unfold bindL;rw[vw λw hw=>h w (ZW _ hw)];split
  ·have:x≠n:=by rintro rfl;exact h v ZV
   simp[this]
  ·rfl
theorem vx {b:Str->Option NameKind}{x:Str}:∀{a:List (Str × T0)} {m:Str->Option T0},(∀v,(x,v)∉a)->bindC b a m x=m x
 | [],_,_=>rfl
 | (n,v) :: r,m,h=>by
  unfold bindC;rw[vx λw hw=>h w (ZW _ hw)];split
  ·rfl
  ·have:x≠n:=by rintro rfl;exact h v ZV
   simp[this]
theorem vy {a:Str->Option NameKind}{x:Str}{v:T0}:∀{P:List Str} {b:List T0} {i:Nat} {m:Str->Option T0},P.Nodup->P[i]? = some x->b[i]? = some v->a x=some .local->
  bindL a (P.zip b) m x=some v
 | [],_,_,_,_,h,_,_=>by simp at h
 | _ :: _,[],_,_,_,_,h,_=>by simp at h
 | p :: P,w :: b,0,m,nd,h1,h2,hk=>by
  simp at h1 h2;subst h1;subst h2;show bindL a ((p,w) :: P.zip b) m p=_;unfold bindL;rw[vw λv c=>(List.nodup_cons.mp nd).1 (List.of_mem_zip c).1,z4 hk];simp
 | p :: P,w :: b,i + 1,m,nd,h1,h2,hk=>by
  show bindL a ((p,w) :: P.zip b) m x=_;unfold bindL;exact vy (i:=i) (List.nodup_cons.mp nd).2 (by simpa using h1) (by simpa using h2) hk
theorem vz {a:Str->Option NameKind}{x:Str}{v:T0}:∀{P:List Str} {b:List T0} {i:Nat} {m:Str->Option T0},P.Nodup->P[i]? = some x->b[i]? = some v->a x≠some .local->
  bindC a (P.zip b) m x=some v
 | [],_,_,_,_,h,_,_=>by simp at h
 | _ :: _,[],_,_,_,_,h,_=>by simp at h
 | p :: P,w :: b,0,m,nd,h1,h2,hk=>by
  simp at h1 h2;subst h1;subst h2;show bindC a ((p,w) :: P.zip b) m p=_;unfold bindC;rw[vx λv c=>(List.nodup_cons.mp nd).1 (List.of_mem_zip c).1,z5 hk];simp
 | p :: P,w :: b,i + 1,m,nd,h1,h2,hk=>by
  show bindC a ((p,w) :: P.zip b) m x=_;unfold bindC;exact vz (i:=i) (List.nodup_cons.mp nd).2 (by simpa using h1) (by simpa using h2) hk
def kX (N:List Str) (vs:List V):St:=vs.map some++List.replicate (N.length - vs.length) none
def yY (CX:CXT) (P:T5) (w:T6) (K:ZX) (mg:Str->Option T0) (base:Heap) (N:List Str) (qual:Str) (scope:Scope) (f:Addr) (cd:T0) (A:T4) (outer:List Env) (s:T3) (H:Hp) (E:XK):Cx where
 prog:=P
 w:=w
 K:=K
 mg:=mg
 base:=base
 A:=A.deeper (envOfC qual scope s.heap.objs.size f cd)
 N:=N
 s₀ := s
 H₀ := H
 env:=envOfC qual scope s.heap.objs.size f cd
 outer:=outer
 stack:=envOfC qual scope s.heap.objs.size f cd :: outer
 ex:=[]
 calm:=true
 fn:=λ_=>true
 pn:=[]
 xe:=λe s'=>wpAny (model P w) (A.deeper (envOfC qual scope s.heap.objs.size f cd)) (leaving (envOfC qual scope s.heap.objs.size f cd) e) (λ_ s''=>CX outer H s E e s'') (λe' s''=>CX outer H s E e' s'') s'
theorem yZ {a:Scope}{n:Nat}(h:a.names.lookup x=some .cell):∃c,(cellsFrom n a.names []).lookup x=some c:=by
 have q:=PySem.W.cellsFrom_some a.names n [] (.inl h);exact Option.isSome_iff_exists.mp q
theorem El {CX:CXT}{P:T5}{w:T6}{mg:Str->Option T0}{base:Heap}{N ps:List Str}{d:Str}{scope:Scope}{f:Addr}{C:T0}{outer:List Env}{F:T3}{E:XK}{vs:List V}
  (S:aA N ps scope) (hd:A.handled=none) (j:Bd P w K mg base A outer s H) (M:vs.length=ps.length) (r:bi vs us)
  (x:InCallC s s.heap.objs.size (bindL (envOfC d scope s.heap.objs.size f C).kindOf (ps.zip us) λ_=>none) (cellsFrom (s.heap.objs.size + 1) scope.names []) (bindC (envOfC d scope s.heap.objs.size f C).kindOf (ps.zip us) λ_=>none) F) :
  Inv (yY CX P w K mg base N d scope f C A outer s H E) [] (kX N vs) H F:=by
 have L:ps.length<=N.length:=by have:=congrArg List.length S.pre;rw[X4]at this;omega
 obtain⟨B,tk,rfl,D⟩:=x.done;have l:∀b:Addr,b∉(yY CX P w K mg base N d scope f C A outer s H E).ex:=λb z=>absurd (show b∈([] : List Addr) from z) (by simp);refine⟨⟨j.mod,S.kind,rfl,rfl,ZL _,λy z c B g => ?_,λy m => ?_,λy c _ h => ?_,λ_=>hd,Around.frames_deeper j.frames,.inr ⟨rfl,rfl⟩,λb z=>absurd z (l b),j.bs,j.bsz,λb _ _=>l b,λb z=>absurd z (l b),j.funs,j.frf⟩,
  rfl,j.bare,Un.kept D,⟨_,x.toInCall.ns,λi y v B g O => ?_⟩,λy c h=>⟨_,x.cell y c h⟩,j.hok.fresh (ZL _),λy c h => ?_,λp t=>absurd (show p∈([] : List (Addr × Obj)) from t) (by simp),j.hok.kept D,?_⟩
 ·exact name_of_addr x.apart (X2 B) (X2 g)
 ·have m:scope.names.lookup y=some .cell\/scope.names.lookup y=some .free:=m
  rcases m with m|m
  ·exact yZ m
  ·exact absurd rfl (S.nofree _ (X2 m))
 ·exact YS (x.above y c (X2 h))
 ·have hi:i < vs.length:=by
   unfold kX at g
   by_cases hi:i < vs.length
   ·exact hi
   ·rw[ZD (by simpa using hi)]at g
    rw[List.getElem?_replicate]at g;split at g<;>cases g
  have J:vs[i]? = some v:=by
   unfold kX at g;rw[ZC (by simpa using hi),ZQ]at g;cases e:vs[i]? with
   | none=>rw[e]at g;cases g
   | some a=>rw[e]at g;cases g;rfl
  obtain⟨u,G,I⟩:=r.get J;have t:ps[i]? = some y:=by
   rw[<-S.pre,List.getElem?_take_of_lt (by omega)];exact B
  have o:ps.Nodup:=by rw[<-S.pre];exact S.nd.sublist (List.take_sublist _ _)
  refine⟨u,I,?_⟩;rcases S.par y (ZK t) with k|k
  ·exact .inl ⟨k,vy o t G k⟩
  ·obtain⟨c,e⟩:=yZ (n:=s.heap.objs.size + 1) k
   refine .inr ⟨.inl k,c,e,?_⟩;have q:=x.cell y c e;rw[vz o t G (by show scope.names.lookup y≠_;rw[k];decide)]at q;exact q
 ·exact j.hok.fresh (YS (x.above y c (X2 h)))
 ·unfold kX
  show _=N.length;rw[ZB,ZA,WC];omega
theorem N8 {CX:CXT}{P:T5}{w:T6}{mg:Str->Option T0}{base:Heap}{k:Nat}{f:Addr}{name a:Str}{d:Arguments}{body:List Stmt}{scope:Scope}{G kV j pm c ct oc:T0}{L X:Option Addr}
  {C:Array (Option T0)} {N ps:List Str} {sp:Sp} (lk:K.lookup f=some ⟨oc,X,.func (PySem.W.fnOf name a d body scope G kV j pm L c ct),C⟩) (D:PySem.W.codeIn K c a=true) (S:aA N ps scope)
  (len:∀vs H Q E,sp vs H Q E->vs.length=ps.length)
  (g:∀(A:T4) (outer:List Env) (s:T3) (H:Hp) (vs:List V) (Q:VK) (E:XK),fG k (A.deeper (envOfC a scope s.heap.objs.size f c))->sp vs H Q E->
   ∃t,PSs (yY CX P w K mg base N a scope f c A outer s H E) body t/\t { nx:=λ_ H'=>Q .non H',rt:=Q } (kX N vs) H) :
  bC P w K mg base CX (k + 1) f (PySem.W.fnOf name a d body scope G kV j pm L c ct) ps sp:=by
 refine⟨len,λA outer s H O R vs Q E z m U r l => ?_⟩;have T:=len _ _ _ _ l;have KX:K.In s.heap:=m.mod.kin.keeps λb o e=>(m.bs b o e).1;have p:s.heap.NoLimit:=m.mod.nolimit.keeps λb o e=>(m.bs b o e).1;have h:∀y∈ps.zip R,scope.names.lookup y.1=some .local\/(scope.names.lookup y.1=some .cell/\((cellsFrom (s.heap.objs.size + 1) scope.names []).lookup y.1).isSome=true):=λ⟨n,v⟩ hy=>by
  rcases S.par n (List.of_mem_zip hy).1 with q|q
  ·exact .inl q
  ·exact .inr ⟨q,PySem.W.cellsFrom_some _ _ _ (.inl q)⟩
 refine codeAny_call_function z.depth (KX _ _ lk) rfl S.co S.gen rfl (PySem.W.codeRec_of KX D) (U _ _ _ _ ?_);refine wpAny_newFunctionEnv_cells S.kind h λa0 Y M x => ?_;subst Y;refine⟨p.keeps x.toInCall.keep,codeAny_func ?_⟩;obtain⟨t,Z,W⟩:=g A outer s H vs Q E (z.deeper _) l;have I:Inv (yY CX P w K mg base N a scope f c A outer s H E) [] (kX N vs) H M:=El S z.hd m T r x;refine WX (Z [] M (kX N vs) H _ I W) (λfl F i => ?_) λe F i=>i;have fin:∀{σ':St} {H':Hp} {v:V} {u:T0},Inv (yY CX P w K mg base N a scope f c A outer s H E) [] σ' H' F->bT v u->Q v H'->CE outer P w H s Q u F :=
  λ{σ' H' v u} J B q=>⟨v,H',J.os,J.bare,J.base,J.hok,B,q⟩
 cases fl with
 | ret u =>
  obtain⟨v,σ',H',J,B,q⟩:=i;exact fin J B q
 | next =>
  obtain⟨σ',H',J,q⟩:=i;exact fin (v:=V.non) (u:=Value.none) J rfl q
 | brk =>
  obtain⟨_,_,_,q⟩:=i;exact False.elim q
 | cont =>
  obtain⟨_,_,_,q⟩:=i;exact False.elim q
section
variable {X:Cx} {x:Str} {p pos:Pos} {e:Expr} {es:List Expr} {t:TA} {id T:String} {r:List V->Hp->VK->Prop}
def tCB (r:List V->Hp->VK->Prop) (t:TA):TE:=λσ H Q=>t σ H λvs H1=>r vs H1 Q
theorem kY (hc:gf X (.builtin id) r) (d:Gl X x) (hm:X.mg x=none) (l:bootBuiltins x=some (.builtin id)) (j:PA X (e :: es) t) (b:x ≠ "__name__" := by decide) (a:(x == ("__debug__" : Str))=false:=by decide)
  (he:starEach (e :: es) X.env=(false,eval e X.env) :: starEach es X.env:=by rfl) (hpl:(backTo pos (starEach es X.env)).any (·.1)=false:=by rfl):PE X (.Call (.Name x p) (e :: es) [] pos) (tCB r t):=by
 intro pins s σ H Q I h;refine WR (mU I d hm l ?_ b a);exact PyProof.Rows.callWith_builtin1 (thn (j pos pins s σ H _ I h) λc i ⟨f,H1,g,k,q1⟩=>hc pins i σ H1 f c Q g k q1) he hpl
theorem vA (hc:gf X (.type T) r) (d:Gl X x) (hm:X.mg x=none) (l:bootBuiltins x=some (.type T)) (j:PA X (e :: es) t) (b:x ≠ "__name__" := by decide) (a:(x == ("__debug__" : Str))=false:=by decide)
  (he:starEach (e :: es) X.env=(false,eval e X.env) :: starEach es X.env:=by rfl) (hpl:(backTo pos (starEach es X.env)).any (·.1)=false:=by rfl):PE X (.Call (.Name x p) (e :: es) [] pos) (tCB r t):=by
 intro pins s σ H Q I h;refine WR (mU I d hm l ?_ b a);exact YX (thn (j pos pins s σ H _ I h) λc i ⟨f,H1,g,k,q1⟩=>hc pins i σ H1 f c Q g k q1) he hpl
end
end L2
namespace HT
open PySem PyProof.Rows
def lexLt:List Int->List Int->Bool
 | [],[]=>false
 | [],_ :: _=>true
 | _ :: _,[]=>false
 | x :: xs,y :: ys=>if x=y then lexLt xs ys else decide (x < y)
theorem Be (x y:Int)(xs ys:List Int):lexLt (x :: xs) (y :: ys)=if x=y then lexLt xs ys else decide (x < y):=rfl
theorem uz:lexLt [] [] = false:=rfl
theorem sj (y:Int)(ys:List Int):lexLt [] (y :: ys)=true:=rfl
theorem so (x:Int)(xs:List Int):lexLt (x :: xs) [] = false:=rfl
theorem Gk (A:T4)(s:T3)(a:Int)(t:Tok)(c:Int)(u:Tok):∃e,SeqAt.EqAt A s (.int a t) (.int c u) e/\(e=true ↔ a=c) :=
 ⟨(a == c),WS a t c u,by simp⟩
theorem Gm (A:T4)(s:T3)(a:Int)(t:Tok)(c:Int)(u:Tok)(prog:T5)(w:T6)(E:T0->T3->Prop)(Q:T0->T3->Prop)(h:Q (.bool (decide (a < c))) s) :
  wpAny (model prog w) A (richCompare .Lt (.int a t) (.int c u)) Q E s :=
 (PyProof.Rows.lt_int h:wpAny (model prog w) A (compareOp .Lt (.int a t) (.int c u)) Q E s)
section
open PySem.SeqAt
open PySem.AutoSeq1 (wpAny_loadPart')
open PySem.MeetsSeq PySem.MeetsSeq2 PySem.MeetsSeq3
theorem uA (l b:Addr)(i f:Array T0)(n Q:Nat)(S I:Option Addr)(N G:Array (Option T0))(ns E:List Int)(hi:IntsAre i.toList ns)(L:IntsAre f.toList E) :
  Meets (Builtin.«tuple.__lt__» ⟨[.ref l,.ref b],[]⟩)
   (λ_ R s=>s.heap.get? l=some { cls:=.type "tuple",dict:=S,data:=.seq i n,slots:=N }/\s.heap.get? b=some { cls:=.type "tuple",dict:=I,data:=.seq f Q,slots:=G }/\
    R (.ok (.ret (.bool (lexLt ns E)))) s) :=
 .of_wp λprog w A R s h=>by
  obtain⟨F,g,d,tk,os⟩:=s;obtain⟨M,O,h⟩:=h;have X:=AutoSeq1.sub_tuple_tuple;have W:i.size=ns.length:=by rw[<-hi.length];simp
  have V:f.size=E.length:=by rw[<-L.length];simp
  wp_walk using Y0 M,Y0 O,wpAny_forIn_list _ (λrest b H=>b.1=none/\H=⟨F,g,d,tk,os⟩/\∃(D C:List T0) (k m:List Int),rest=D.zip C/\
   IntsAre D k/\IntsAre C m/\k.length + f.size=m.length + i.size/\R (.ok (.ret (.bool (lexLt k m)))) ⟨F,g,d,tk,os⟩) _
  case turn =>
   rintro⟨y,x⟩ rest b H ⟨B,rfl,D,C,k,m,o,z,p,j,r⟩;cases z with
   | nil=>rw[List.zip_nil_left]at o;cases o
   | cons a t hvi' =>
    cases p with
    | nil=>rw[List.zip_nil_right]at o;cases o
    | cons c u hwi' =>
     rw[List.zip_cons_cons]at o;injection o with hyx hrest
     injection hyx with hy hx
     subst hy hx;rw[Be]at r;simp only[y4]at j;obtain⟨e,P,v⟩:=Gk A.in1 ⟨F,g,d,tk,os⟩ a t c u;refine z0 (P prog w _ _ ?_);cases e with
     | true =>
      rw[z4 (v.mp rfl)]at r
      wp_walk
      exact⟨rfl,rfl,_,_,_,_,hrest,hvi',hwi',by omega,r⟩
     | false =>
      rw[z5 (λq=>absurd (v.mpr q) ZY)]at r;have J:=Gm A.in1 ⟨F,g,d,tk,os⟩ a t c u prog w
      wp_walk using J
      exact⟨_,rfl,by simpa using r⟩
  case fin =>
   rintro⟨U,T⟩ H ⟨B,rfl,D,C,k,m,o,z,p,j,r⟩;simp only at B;subst B;have K:lexLt k m=decide (i.size < f.size):=by
    cases z with
    | nil =>
     cases p with
     | nil =>
      simp only[Z0]at j;rw[uz];exact(wL (by omega)).symm
     | cons c u hw =>
      simp only[Z0,y4]at j;rw[sj];exact(x6 (by omega)).symm
    | cons a t K =>
     cases p with
     | nil =>
      simp only[Z0,y4]at j;rw[so];exact(wL (by omega)).symm
     | cons c u hw =>
      rw[List.zip_cons_cons]at o;cases o
   rw[K]at r
   wp_walk
   exact⟨_,rfl,by simpa[Builtin.Tuple.tupleCompareSizes] using r⟩
  case h =>
   exact⟨rfl,rfl,i.toList,f.toList,ns,E,rfl,hi,L,by omega,h⟩
end
section
variable {prog:T5} {w:T6} {A:T4} {E:T0->T3->Prop} {s:T3}
theorem lt_tupInts {l b:Addr}{c a:Array T0}{ns e:List Int}{Q:T0->T3->Prop}(p:IsTup s.heap l c)(r:IsTup s.heap b a)(hi:IntsAre c.toList ns)(y:IntsAre a.toList e)
  (u:A.units < cLine) (h:Q (.bool (lexLt ns e)) s):wpAny (model prog w) A (compareOp .Lt (.ref l) (.ref b)) Q E s:=by
 obtain⟨⟨cls,v,data,q⟩,m,hc,n,hd⟩:=id p;obtain⟨⟨o,j,k,i⟩,d,g,t,f⟩:=id r;simp only at hc hd g f;subst hc hd g f;exact richCompare_meets_room (op:=.Lt) ⟨_,m,rfl⟩ ⟨_,d,rfl⟩ PySem.F.slot_tuple_lt PySem.F.entry_tuple_lt (PySem.F.args_tuple_lt_2 _ _) (uA l b c a n t v j q i ns e hi y)
  ⟨m,d,show Value.bool (lexLt ns e)≠Value.notImplemented/\Q (.bool (lexLt ns e)) s from ⟨(λx=>nomatch x),h⟩⟩ u
theorem cat_tup {t b:Addr}{vs a:List T0}{Q:T0->T3->Prop}(ht:IsTup s.heap t vs.toArray)(q:IsTup s.heap b a.toArray)(p:vs≠[])
  (h1:a=[]->Q (.ref t) s) (r:a≠[]->Q (.ref s.heap.objs.size) { s with heap:=s.heap.push { cls:=.type "tuple",data:=.seq (vs++a).toArray } })
  (hsz:vs.length + a.length<=sizeLine):wpAny (model prog w) A (binaryOp .Add (.ref t) (.ref b)) Q E s:=by
 obtain⟨⟨cls,o,data,k⟩,i,hc,n,hd⟩:=id ht;obtain⟨⟨l,g,j,d⟩,c,h,m,f⟩:=id q;simp only at hc hd h f;subst hc hd h f;have e:vs.toArray++a.toArray=(vs++a).toArray:=by simp
 by_cases hw:a=[]
 ·exact concat_meets ⟨_,i,rfl⟩ ⟨_,c,rfl⟩ noFill_tuple_add seq_tuple_add PySem.F.slot_tuple_add PySem.F.entry_tuple_add (PySem.F.args_tuple_add_2 _ _)
   (tuple_addW1 t b vs.toArray a.toArray n m o g k d (by simpa using p) (by simp[hw])) ⟨i,c,h1 hw⟩
 ·refine concat_meets ⟨_,i,rfl⟩ ⟨_,c,rfl⟩ noFill_tuple_add seq_tuple_add PySem.F.slot_tuple_add PySem.F.entry_tuple_add (PySem.F.args_tuple_add_2 _ _)
   (tuple_addW2 t b vs.toArray a.toArray n m o g k d (by simpa using p) (by simpa using hw) (by rw[x8,x8];exact hsz)) ⟨i,c,?_⟩
  rw[e];exact r hw
def sIx (n d:Nat):Option Int->Nat
 | none=>d
 | some v=>if v < 0 then (v + (n:Int)).toNat else min v.toNat n
theorem LR (n d:Nat)(hd:d<=n)(o:Option Int):sIx n d o<=n:=by
 cases o with
 | none=>exact hd
 | some v =>
  show (if v < 0 then (v + (n:Int)).toNat else min v.toNat n)<=n
  by_cases hv:v < 0
  ·rw[z4 hv];omega
  ·rw[z5 hv];exact Nat.min_le_right _ _
theorem C4 (v:Int)(n d:Nat):(if v < 0 then max (v + (n:Int)) 0 else min v (n:Int))=((sIx n d (some v):Nat):Int):=by
 show (if v < 0 then max (v + (n:Int)) 0 else min v (n:Int))=(((if v < 0 then (v + (n:Int)).toNat else min v.toNat n):Nat):Int)
 by_cases hv:v < 0
 ·simp only[z4 hv];omega
 ·simp only[z5 hv];omega
theorem Bh (lo hi:Option Int)(n:Nat):Builtin.Slice.sliceAdjust lo hi 1 (n:Int)=(((sIx n 0 lo:Nat):Int),((sIx n n hi:Nat):Int)):=by
 have a : ¬((1:Int) < 0):=by omega
 unfold Builtin.Slice.sliceAdjust;simp only[a,Y7];refine Prod.ext ?_ ?_
 ·cases lo with
  | none=>rfl
  | some v=>exact C4 v n 0
 ·cases hi with
  | none=>rfl
  | some v=>exact C4 v n n
theorem Bi (i j:Nat):Builtin.Slice.slicePlaces (i:Int) (j:Int) 1=j - i:=by
 unfold Builtin.Slice.slicePlaces;have a:(1:Int) > 0:=by omega
 simp only[a,YP,Int.ediv_one];split<;>omega
theorem sr {v:T0}{o:Option Int}{Q:Option Int->T3->Prop}(p:IsPart v o)(h:Q o s):wpAny (model prog w) A (Builtin.Slice.slicePartIndex v) Q E s:=by
 cases p with
 | none=>exact slicePart_none h
 | int i t=>exact slicePart_int h
theorem jF {e:Addr}{c d:T0}{lo hi:Option Int}{n:Nat}{Q:Int × Int × Nat->T3->Prop}(g:s.heap.IsSliceOf e c d .none)(pl:IsPart c lo)(f:IsPart d hi)
  (h:Q (((sIx n 0 lo:Nat):Int),1,sIx n n hi - sIx n 0 lo) s):wpAny (model prog w) A (Builtin.Slice.sliceApplied (.ref e) (pure (n:Int))) Q E s:=by
 obtain⟨os,a,i,b⟩:=id g;unfold Builtin.Slice.sliceApplied Builtin.Slice.sliceFields;refine z0 (z0 (YQ a b (x:=c) rfl (z0 (YQ a b (x:=d) rfl (z0 (YQ a b (x:=.none) rfl (x4 ?_)))))));refine z0 (slicePart_none ?_);show wpAny _ _ (if ((1:Int) == 0)=true then _ else _) _ _ s;rw[z5 (by decide)];refine z0 (sr pl (z0 (sr f (z0 (x4 ?_)))));show wpAny _ _ (match Builtin.Slice.sliceAdjust lo hi 1 (n:Int) with|(lo,hi)=>pure (lo,(1:Int),Builtin.Slice.slicePlaces lo hi 1)) _ _ s;rw[Bh lo hi n];show wpAny _ _ (pure (((sIx n 0 lo:Nat):Int),(1:Int),Builtin.Slice.slicePlaces ((sIx n 0 lo:Nat):Int) ((sIx n n hi:Nat):Int) 1)) _ _ s;rw[Bi];exact x4 h
theorem Gn (xs:Array T0)(i k:Nat):((List.range k).filterMap λ(m:Nat)=>xs[((i:Int) + (m:Int) * 1).toNat]?).toArray=((xs.toList.drop i).take k).toArray:=by
 have e:(λ(m:Nat)=>xs[((i:Int) + (m:Int) * 1).toNat]?)=λm=>xs[i + m]? := by
  funext m;have:((i:Int) + (m:Int) * 1).toNat=i + m:=by omega
  rw[this]
 rw[e];have:=pick_run xs i k;rw[List.filterMap_map]at this;have a:((λx=>xs[x]?) ∘ λx=>i + x)=λm=>xs[i + m]? := rfl;rw[a]at this;rw[this]
theorem getItem_tuple_cut {t d:Addr}{a:Array T0}{i j:T0}{lo hi:Option Int}{Q:T0->T3->Prop}(ht:IsTup s.heap t a)(k:s.heap.IsSliceOf d i j .none)(pl:IsPart i lo)(n:IsPart j hi)
  (hw : ¬(sIx a.size 0 lo=0/\sIx a.size a.size hi=a.size))
  (h:Q (.ref s.heap.objs.size) { s with heap:=s.heap.push { cls:=.type "tuple",data:=.seq ((a.toList.drop (sIx a.size 0 lo)).take (sIx a.size a.size hi - sIx a.size 0 lo)).toArray } })
  (hsz:a.size<=sizeLine):wpAny (model prog w) A (getItem (.ref t) (.ref d)) Q E s:=by
 have b:sizeOk (.seq ((a.toList.drop (sIx a.size 0 lo)).take (sIx a.size a.size hi - sIx a.size 0 lo)).toArray):=by
  show ((a.toList.drop (sIx a.size 0 lo)).take (sIx a.size a.size hi - sIx a.size 0 lo)).toArray.size<=sizeLine;rw[x8,X4,List.length_drop,Array.length_toList];omega
 have o:sIx a.size a.size hi<=a.size:=LR _ _ (ZL _) hi;obtain⟨os,c,e,l⟩:=id k;have f:s.TypeIs (.ref d) "slice" := ⟨os,c,e⟩;unfold getItem
 try with_reducible refine Y5 ?_
 first|refine z0 (x4 ?_)|skip
 refine z0 (WV ht.typeIs (by decide) ?_);refine z0 (wpAny_callSpecial?_slot (name:=Str.ofString "__getitem__") ht.typeIs Y3
  (YW Y3 ht.typeIs entry_tuple_getitem ?_ (args_tuple_getitem _ _)))
 show wpAny _ _ (Builtin.Tuple.tupleItemsOf (.ref t) >>= _) _ _ s;refine z0 (tupleItemsOf_ ht ?_);refine z0 (wpAny_typeOf f ?_);rw[z4 (by decide)];refine z0 (jF k pl n ?_);have g : ¬((((sIx a.size 0 lo:Nat):Int) == 0 && (1:Int) == 1 && (sIx a.size a.size hi - sIx a.size 0 lo) == a.size)=true):=by
  intro q;rw[Z3,Z3]at q;have q1:((sIx a.size 0 lo:Nat):Int)=0:=eq_of_beq q.1.1;have q2:sIx a.size a.size hi - sIx a.size 0 lo=a.size:=eq_of_beq q.2;exact hw ⟨by omega,by omega⟩
 show wpAny _ _ (if (((sIx a.size 0 lo:Nat):Int) == 0 && (1:Int) == 1 && (sIx a.size a.size hi - sIx a.size 0 lo) == a.size)=true then _ else _) _ _ s;rw[z5 g,Gn]
 first
  | exact z0 (m:=Builtin.Tuple.tupleExact _) (XA (x4 ⟨_,rfl,x4 h⟩) b)
  | exact z0 (m:=Builtin.Tuple.tupleExact _) (XA (z0 (x4 (x4 ⟨_,rfl,x4 h⟩))) b)
  | exact z0 (z0 (m:=Builtin.Tuple.tupleExact _) (XA (x4 (x4 ⟨_,rfl,x4 h⟩)) b))
  | exact z0 (z0 (m:=Builtin.Tuple.tupleExact _) (XA (x4 ⟨_,rfl,x4 h⟩) b))
end
end HT
namespace L2
open PySem PySem.Spec PyProof.Rows
abbrev TO:=St->Hp->(Option Int->Hp->Prop)->Prop
def PO (X:Cx) (e:Option Expr) (t:TO):Prop :=
 ∀(pins:List (Addr × Obj)) (s:T3) (σ:St) (H:Hp) (Q:Option Int->Hp->Prop),Inv X pins σ H s->t σ H Q->
  wpAny (model X.prog X.w) X.A (evalPart e X.env) (λu s'=>∃o H',Inv X pins σ H' s'/\IsPart u o/\Q o H') X.xe s
def Ja:TO:=λ_ H Q=>Q none H
def N9 (t:TE):TO:=λσ H Q=>t σ H λx H1=>∃i,x=.int i/\Q (some i) H1
theorem mV {ns:List Int}:∀{a:List T0},bi (ns.map V.int) a->IntsAre a ns:=by
 induction ns with
 | nil=>intro a r;rw[YY]at r;cases r;exact .nil
 | cons n ns ih =>
  intro a r;rw[x3]at r;cases r with
  | cons r1 r2 =>
   obtain⟨t,e⟩:=r1;subst e;exact .cons n t (ih r2)
section
variable {X:Cx} {e:Expr} {te:TE} {lo hi:Option Expr} {tl th:TO} {pos p2:Pos}
theorem Jb:PO X none Ja:=by
 intro pins s σ H Q I h;rw[evalPart_none];exact x4 ⟨none,H,I,.none,h⟩
theorem Jc (h:PE X e te):PO X (some e) (N9 te):=by
 intro pins s σ H Q I hw;rw[evalPart_some];refine thn (h pins s σ H _ I hw) λu c ⟨x,H1,a,b,q1⟩ => ?_;obtain⟨i,rfl,q⟩:=q1;obtain⟨t,rfl⟩:=b;exact⟨some i,H1,a,.int i t,q⟩
def SlR (X:Cx) (r:V->Option Int->Option Int->Hp->VK->Prop):Prop :=
 ∀(pins:List (Addr × Obj)) (s:T3) (σ:St) (H:Hp) (x:V) (v vl vu:T0) (lo hi:Option Int) (sl:Addr) (Q:VK),Inv X pins σ H s->bT x v->s.heap.IsSliceOf sl vl vu .none->IsPart vl lo->IsPart vu hi->r x lo hi H Q->
  ∃T id,typeLookup (.type T) "__getitem__" = pure (some (.builtin id))/\s.TypeIs v T/\wpAny (model X.prog X.w) X.A (getItem v (.ref sl)) (EP X pins σ Q) X.xe s
theorem SlR.or {r j:V->Option Int->Option Int->Hp->VK->Prop}(h:SlR X r)(h':SlR X j):SlR X (λx lo hi H Q=>r x lo hi H Q\/j x lo hi H Q):=by
 intro pins s σ H x v a b lo hi c Q I i g d f q;rcases q with q|q
 ·exact h pins s σ H x v a b lo hi c Q I i g d f q
 ·exact h' pins s σ H x v a b lo hi c Q I i g d f q
def tSl (r:V->Option Int->Option Int->Hp->VK->Prop) (te:TE) (tl th:TO):TE:=λσ H Q=>te σ H λx H1=>tl σ H1 λl H2=>th σ H2 λu H3=>r x l u H3 Q
theorem sw {r:V->Option Int->Option Int->Hp->VK->Prop}(o:SlR X r)(he:PE X e te)(i:PO X lo tl)(A:PO X hi th):PE X (.Subscript e (.Slice lo hi none p2) pos) (tSl r te tl th):=by
 intro pins s σ H Q I h;refine Subscript_ (thn (he pins s σ H _ I h) λv t ⟨x,H1,n,C,q1⟩ => ?_);refine wpAny_Slice (thn (i pins t σ H1 _ n q1) λc m ⟨l,y,j,p,q2⟩=>thn (A pins m σ y _ j q2) λd a ⟨u,f,D,w,q3⟩ => ?_);rw[evalPart_none];refine x4 ?_;have B:Inv X pins σ f { a with heap:=a.heap.push { cls:=.type "slice",data:=.fields #[c,d,.none] } }:=D.kept (t':=a.toks) λb E q=>ZH _ q;obtain⟨T,id,g,z,k⟩:=o pins { a with heap:=a.heap.push { cls:=.type "slice",data:=.fields #[c,d,.none] } } σ f x v c d l u a.heap.objs.size Q B C (Heap.IsSliceOf.new ..) p w q3;show wpAny (model X.prog X.w) X.A (subscriptTail e (.Slice lo hi none p2) v (.ref a.heap.objs.size)) (EP X pins σ Q) X.xe { a with heap:=a.heap.push { cls:=.type "slice",data:=.fields #[c,d,.none] } };exact tail_any (ops:=[.ref a.heap.objs.size,v]) z g k (by with_unfolding_all rfl)
def o9 (xs:List V) (lo hi:Option Int):List V:=(xs.drop (HT.sIx xs.length 0 lo)).take (HT.sIx xs.length xs.length hi - HT.sIx xs.length 0 lo)
theorem qD (xs:List V)(lo hi:Option Int):(o9 xs lo hi).length<=xs.length:=by
 unfold o9;rw[X4,List.length_drop];omega
def Pu (K:ZX):V->Option Int->Option Int->Hp->VK->Prop:=λx lo hi H Q=>∃a xs,x=.ref a/\SqT K H a xs/\
 ¬(HT.sIx xs.length 0 lo=0/\HT.sIx xs.length xs.length hi=xs.length)/\∀p,H p=none->Q (.ref p) (upd H p (.tup (o9 xs lo hi)))
theorem Gp:SlR X (Pu X.K):=by
 intro pins s σ H x v n p lo hi t Q I l k i j h;obtain⟨a,xs,rfl,m,hw,q⟩:=h;cases l;obtain⟨d,r,g,f⟩:=I.tuple m;have c:d.toArray.size=xs.length:=by rw[x8];exact r.length.symm
 refine⟨"tuple",_,PyProof.Rows.slot_tuple_getitem.lookup,g.typeIs,?_⟩;refine HT.getItem_tuple_cut g k i j (by rw[c];exact hw) ?_ (by rw[c];exact f);rw[c];refine⟨.ref s.heap.objs.size,_,I.laid (t':=s.toks) (o:=.tup (o9 xs lo hi)) (λb u q=>ZH _ q) (ZL _) ?_,rfl,q _ (I.hok.fresh (ZL _))⟩;exact⟨ZM (qD xs lo hi) f,_,(r.drop (HT.sIx xs.length 0 lo)).take (HT.sIx xs.length xs.length hi - HT.sIx xs.length 0 lo),IsTup.new _ _⟩
def Oa (K:ZX):R2:=λx y H Q=>∃a b ns ms,x=.ref a/\y=.ref b/\SqT K H a (ns.map V.int)/\SqT K H b (ms.map V.int)/\Q (.bl (HT.lexLt ns ms)) H
theorem LS (o:X.A.units < cLine):OpR X (compareOp .Lt) (Oa X.K):=by
 intro pins s σ H x y v u Q I p m h;obtain⟨a,b,g,f,rfl,rfl,n,i,q⟩:=h;cases p;cases m;obtain⟨d,t,r,_⟩:=I.tuple n;obtain⟨c,j,p2,_⟩:=I.tuple i;have l:IntsAre d.toArray.toList g:=mV t;have k:IntsAre c.toArray.toList f:=mV j;exact HT.lt_tupInts r p2 l k o ⟨.bl (HT.lexLt g f),H,I,rfl,q⟩
def Gq (K:ZX):R2:=λx y H Q=>∃a b xs ys,x=.ref a/\y=.ref b/\SqT K H a xs/\SqT K H b ys/\xs≠[]/\xs.length + ys.length<=sizeLine/\
 (ys=[]->Q (.ref a) H)/\(ys≠[]->∀p,H p=none->Q (.ref p) (upd H p (.tup (xs++ys))))
theorem bi.nil_iff {xs:List V}{us:List T0}(r:bi xs us):us=[] ↔ xs=[]:=by
 cases r with
 | nil=>simp
 | cons _ _=>simp
theorem Jd:OpR X (binaryOp .Add) (Gq X.K):=by
 intro pins s σ H x y v u Q I m k h;obtain⟨a,b,xs,ys,rfl,rfl,l,j,p,f,q1,q2⟩:=h;cases m;cases k;obtain⟨i,d,n,_⟩:=I.tuple l;obtain⟨g,c,p2,_⟩:=I.tuple j;refine HT.cat_tup n p2 (λz=>p (d.nil_iff.mp z)) (λz=>⟨.ref a,H,I,rfl,q1 (c.nil_iff.mp z)⟩) (λz => ?_) (by rw[<-d.length,<-c.length];exact f);refine⟨.ref s.heap.objs.size,_,I.laid (t':=s.toks) (o:=.tup (xs++ys)) (λb r q=>ZH _ q) (ZL _) ?_,rfl,q2 (λw=>z (c.nil_iff.mpr w)) _ (I.hok.fresh (ZL _))⟩;exact⟨by rw[ZB];exact f,_,d.append c,IsTup.new _ _⟩
end
def ixN (n:Nat) (i:Int):Option Nat:=if 0<=i then (if i < n then some i.toNat else none) else if -(n:Int)<=i then some (i + n).toNat else none
def atI {α : Type} (xs:List α) (i:Int):Option α := (ixN xs.length i).bind λj=>xs[j]?
theorem C5 {n:Nat}{i:Int}{j:Nat}(h:ixN n i=some j):seqIndex? i n=some j/\j < n/\-(n:Int)<=i/\i < n:=by
 unfold ixN at h
 by_cases h0:0<=i
 ·rw[z4 h0]at h
  by_cases h1:i < n
  ·rw[z4 h1]at h
   have e:i.toNat=j:=ZT h;exact⟨by rw[seqIndex_of h0 h1,e],by omega,by omega,h1⟩
  ·rw[z5 h1]at h;cases h
 ·rw[z5 h0]at h
  by_cases h1 : -(n:Int)<=i
  ·rw[z4 h1]at h
   have e:(i + n).toNat=j:=ZT h;exact⟨by rw[seqIndex_neg (by omega) h1,e],by omega,h1,by omega⟩
  ·rw[z5 h1]at h;cases h
theorem wS {α : Type}{xs:List α}{i:Int}{v : α}(h:atI xs i=some v):∃j,seqIndex? i xs.length=some j/\xs[j]? = some v/\j < xs.length/\-(xs.length:Int)<=i/\i < xs.length:=by
 unfold atI at h;cases e:ixN xs.length i with
 | none=>rw[e]at h;cases h
 | some j =>
  rw[e]at h;obtain⟨c,d,a,b⟩:=C5 e;exact⟨j,c,h,d,a,b⟩
theorem de {α : Type}{xs:List α}{j:Nat}{v : α}(h:xs[j]? = some v):atI xs (j:Int)=some v:=by
 have a:j < xs.length:=(List.getElem?_eq_some_iff.mp h).1;have e:ixN xs.length (j:Int)=some j:=by
  unfold ixN;rw[z4 (by omega),z4 (by omega)];simp
 unfold atI;rw[e];exact h
theorem y3 {α : Type}(xs:List α)(v : α):atI (xs++[v]) (-1)=some v:=by
 have a:(xs++[v]).length=xs.length + 1:=by simp
 have e:ixN (xs++[v]).length (-1)=some xs.length:=by
  unfold ixN;rw[a,z5 (by decide),z4 (by omega)];congr 1;omega
 unfold atI;rw[e];show (xs++[v])[xs.length]? = some v;simp
def rL (b:Expr):Prop:=∀o i,subscripted b false o i=operate [o,i] (getItem o i)
def IxR (X:Cx) (r:R2):Prop :=
 ∀(value slice:Expr) (pins:List (Addr × Obj)) (s:T3) (σ:St) (H:Hp) (x y:V) (v u:T0) (Q:VK),Inv X pins σ H s->bT x v->bT y u->r x y H Q->
  subscripted slice false v u=operate [v,u] (getItem v u)->wpAny (model X.prog X.w) X.A (subscriptTail value slice v u) (EP X pins σ Q) X.xe s
def MtR (X:Cx) (id:String) (r:V->List V->Hp->VK->Prop):Prop :=
 ∀(pins:List (Addr × Obj)) (s:T3) (σ:St) (H:Hp) (x:V) (xs:List V) (v:T0) (us:List T0) (Q:VK),Inv X pins σ H s->bT x v->bi xs us->r x xs H Q->
  wpAny (model X.prog X.w) X.A (call (.builtin id) (v :: us)) (EP X pins σ Q) X.xe s
section
variable {X:Cx} {a b:Expr} {ta tb:TE} {pos:Pos}
theorem IxR.or {r g:R2}(h:IxR X r)(h':IxR X g):IxR X (λx y H Q=>r x y H Q\/g x y H Q):=by
 intro value c pins s σ H x y v u Q I f d q e;rcases q with q|q
 ·exact h value c pins s σ H x y v u Q I f d q e
 ·exact h' value c pins s σ H x y v u Q I f d q e
theorem Gr {r:R2}(f:IxR X r)(i:PE X a ta)(e:PE X b tb)(k:rL b):PE X (.Subscript a b pos) (tOp r ta tb):=by
 intro pins s σ H Q I h;exact Subscript_ (LH i e I h λv u d x y g c l j q=>f a b pins d σ g x y v u Q c l j q (k _ _))
def Ob (K:ZX):R2:=λx y H Q=>∃p xs i v,x=.ref p/\y=.int i/\SqL K H p xs/\atI xs i=some v/\Q v H
def Oc (K:ZX):R2:=λx y H Q=>∃p xs i v,x=.ref p/\y=.int i/\SqT K H p xs/\atI xs i=some v/\Q v H
def Od:R2:=λx y H Q=>∃z i c,x=.str z/\y=.int i/\z.length<=sizeLine/\atI z.cps.toList i=some c/\Q (.str ⟨#[c]⟩) H
theorem C6:IxR X (Ob X.K):=by
 intro value g pins s σ H x y v u Q I E D h m;obtain⟨p,xs,i,z,rfl,rfl,o,B,q⟩:=h;cases E;obtain⟨t,rfl⟩:=D;obtain⟨e,r,f,K⟩:=I.list o;obtain⟨j,c,F,L,C,A⟩:=wS B;obtain⟨w,l,d⟩:=r.get F;have n:=r.length;have J:=o6;have fin:EP X pins σ Q w s:=⟨z,H,I,d,q⟩
 by_cases h0:0<=i
 ·have k:i.toNat=j:=by
   rw[seqIndex_of h0 A]at c;exact ZT c
  exact item_listR f.isList h0 (by omega) (by rw[k];simpa using l) fin m
 ·have k:(i + (e.toArray.size:Int)).toNat=j:=by
   rw[seqIndex_neg (by omega) C]at c;rw[x8,<-n];exact ZT c
  exact subscriptTail_builtinR (x:=w) f.isList.typeIs slot_list_getitem.lookup
   (wpAny_getItem_list_neg (Q:=λr G=>r=w/\EP X pins σ Q r G) f.isList (by omega) (by rw[x8]<;>omega) (by omega) (by rw[k];simpa using l) ⟨rfl,fin⟩) m
theorem LT:IxR X (Oc X.K):=by
 intro value d pins s σ H x y v u Q I B o h A;obtain⟨p,xs,i,z,rfl,rfl,m,n,q⟩:=h;cases B;obtain⟨t,rfl⟩:=o;obtain⟨l,r,e,F⟩:=I.tuple m;obtain⟨j,g,C,K,J,G⟩:=wS n;obtain⟨w,f,c⟩:=r.get C;have k:=r.length;have E:=o6;have fin:EP X pins σ Q w s:=⟨z,H,I,c,q⟩;exact subscriptTail_builtinR (x:=w) e.typeIs slot_tuple_getitem.lookup
  (getItem_tuple (j:=j) (Q:=λr D=>r=w/\EP X pins σ Q r D) e (by omega) (by omega) (by rw[x8,<-k];exact g) (by simpa using f) ⟨rfl,fin⟩) A
theorem Gs:IxR X Od:=by
 intro value d pins s σ H x y v u Q I p n h o;obtain⟨z,i,c,rfl,rfl,B,l,q⟩:=h;obtain⟨t,rfl⟩:=p;obtain⟨D,rfl⟩:=n;obtain⟨j,e,r,C,m,k⟩:=wS l;have f:z.cps.toList.length=z.length:=by simp[Str.length]
 rw[f]at e m k;have A:=o6;exact tail_any (WT s z t) slot_str_getitem.lookup (getItem_str (c:=c) (by
  have w:decide (i < -(2 ^ 63:Int))=false:=wL (by omega);have g:decide (i ≥ 2 ^ 63)=false:=wL (by omega);rw[w,g,Bool.or_false]) (by rw[e];simpa using r) ⟨.str ⟨#[c]⟩,H,I.tok _,⟨_,rfl⟩,q⟩) o
def rIx (K:ZX):R2:=λx y H Q=>Ob K x y H Q\/Oc K x y H Q\/Od x y H Q
theorem LU:IxR X (rIx X.K):=C6.or (LT.or Gs)
theorem Bj (c:List T0) (n j:Nat) (u:T0):Obj.mapSeq (·.setIfInBounds j u) { cls:=.type "list",data:=.seq c.toArray n } = { cls:=.type "list",data:=.seq (c.set j u).toArray n }:=by
 simp[Obj.mapSeq]
theorem Inv.lst {pins:List (Addr × Obj)}{σ:St}{H:Hp}{s:T3}{p:Addr}{xs:List V}(I:Inv X pins σ H s)(h:H p=some (.lst xs)) :
  ∃(c:List T0) (n:Nat),bi xs c/\s.heap.get? p=some { cls:=.type "list",data:=.seq c.toArray n }/\xs.length<=sizeLine:=by
 obtain⟨z,c,n,r,e⟩:=I.hok p _ h;exact⟨c,n,r,e,z⟩
theorem Inv.lstUpd {pins:List (Addr × Obj)}{σ:St}{H:Hp}{s:T3}{p:Addr}{xs ys:List V}{c its':List T0}{n d:Nat}{f:Obj->Obj}(I:Inv X pins σ H s)(h:H p=some (.lst xs))
  (i:s.heap.get? p=some { cls:=.type "list",data:=.seq c.toArray n }) (g:f { cls:=.type "list",data:=.seq c.toArray n } = { cls:=.type "list",data:=.seq its'.toArray d }) (r:bi ys its') (hz:ys.length<=sizeLine) (t:Nat) :
  Inv X pins σ (upd H p (.lst ys)) { s with heap:=s.heap.update p f,toks:=t }:=by
 have e:(s.heap.update p f).get? p=some { cls:=.type "list",data:=.seq its'.toArray d }:=by
  rw[Heap.get?_update_self f i (by rw[g]<;>rfl),g]
 refine I.write (x:=p) (e:=p) (by rw[h];trivial) (.inl rfl) (λb u j q=>(Heap.get?_update_other _ _ (YN j)).trans q) ⟨_,e⟩ ?_;exact⟨hz,its',d,r,e⟩
def Oe:V->V->V->Hp->(Hp->Prop)->Prop:=λo i v H Q=>∃p xs k j,o=.ref p/\i=.int k/\H p=some (.lst xs)/\ixN xs.length k=some j/\Q (upd H p (.lst (xs.set j v)))
theorem Gu:LC X Oe:=by
 intro pins s σ H o i v ov E u Q I z A B h;obtain⟨p,xs,k,j,rfl,rfl,w,C,q⟩:=h;cases z;obtain⟨t,rfl⟩:=A;obtain⟨c,n,r,e,y⟩:=I.lst w;obtain⟨d,F,m,l⟩:=C5 C;have g:=r.length;have D:=o6;have x:Inv X pins σ (upd H p (.lst (xs.set j v))) { s with heap:=s.heap.update p (Obj.mapSeq (·.setIfInBounds j u)) } :=
  I.lstUpd w e (Bj c n j u) (r.set B j) (by rw[List.length_set];exact y) s.toks
 by_cases h0:0<=k
 ·have f:k.toNat=j:=by
   rw[seqIndex_of h0 l]at d;exact ZT d
  exact PySem.W.ki_setAt e h0 (by omega) (by rw[x8,<-g];exact l) (by rw[f];exact⟨_,x,q⟩)
 ·have f:(k + (c.toArray.size:Int)).toNat=j:=by
   rw[seqIndex_neg (by omega) m]at d;rw[x8,<-g];exact ZT d
  exact PySem.W.ki_setBack e (by omega) (by rw[x8,<-g];exact m) (by omega) (by rw[f];exact⟨_,x,q⟩)
theorem wT (lo hi:Option Int)(n:Nat):(sliceBounds lo hi none n).1=((HT.sIx n 0 lo:Nat):Int)/\(sliceBounds lo hi none n).2.1=((HT.sIx n n hi:Nat):Int)/\(sliceBounds lo hi none n).2.2=1:=by
 refine⟨?_,?_,rfl⟩
 ·cases lo with
  | none=>simp[sliceBounds,HT.sIx]
  | some i =>
   simp only[sliceBounds,HT.sIx,Option.getD_none,show (1:Int) > 0 by decide,YP]
   by_cases h:i < 0
   ·simp only[h,YP]<;>omega
   ·simp only[h,Y7]<;>omega
 ·cases hi with
  | none=>simp[sliceBounds,HT.sIx]
  | some i =>
   simp only[sliceBounds,HT.sIx,Option.getD_none,show (1:Int) > 0 by decide,YP]
   by_cases h:i < 0
   ·simp only[h,YP]<;>omega
   ·simp only[h,Y7]<;>omega
theorem uB (c:List T0)(lo hi:Option Int):slicePick c.toArray lo hi none=((c.drop (HT.sIx c.length 0 lo)).take (HT.sIx c.length c.length hi - HT.sIx c.length 0 lo)).toArray:=by
 obtain⟨e,f,d⟩:=wT lo hi c.toArray.size;unfold slicePick;rw[e,f,d];simp only[sliceRange_one,pick_run,x8]<;>rfl
def Of (K:ZX):V->Option Int->Option Int->Hp->VK->Prop:=λx lo hi H Q=>∃a xs,x=.ref a/\SqL K H a xs/\∀p,H p=none->Q (.ref p) (upd H p (.lst (o9 xs lo hi)))
theorem Je:SlR X (Of X.K):=by
 intro pins s σ H x v m n lo hi p Q I k j g i h;obtain⟨a,xs,rfl,l,q⟩:=h;cases k;obtain⟨f,r,d,e⟩:=I.list l;have c:=r.length;refine⟨"list",_,slot_list_getitem.lookup,d.isList.typeIs,?_⟩;refine wpAny_getItem_list_slice d.isList j g i .none (by simp) ?_ (by rw[x8]<;>omega);rw[uB,<-c];refine⟨.ref s.heap.objs.size,_,I.laid (t':=s.toks) (o:=.lst (o9 xs lo hi)) (λb t q=>ZH _ q) (ZL _) ?_,rfl,q _ (I.hok.fresh (ZL _))⟩;exact⟨ZM (qD xs lo hi) e,_,0,(r.drop (HT.sIx xs.length 0 lo)).take (HT.sIx xs.length xs.length hi - HT.sIx xs.length 0 lo),ZJ _ rfl⟩
def mO:V->Bool
 | .non=>true
 | .bl _=>true
 | .int _=>true
 | .str _=>true
 | _=>false
def eqV:V->V->Bool
 | .non,.non=>true
 | .bl a,.bl b=>a == b
 | .bl a,.int b=>(if a then 1 else 0) == b
 | .int a,.bl b=>a == (if b then 1 else 0)
 | .int a,.int b=>a == b
 | .str a,.str b=>a == b
 | _,_=>false
theorem LV {A:T4}{s:T3}{y x:V}{u v:T0}(e:bT y u)(c:bT x v)(g:mO y=true)(f:mO x=true):SeqAt.EqAt A s u v (eqV y x):=by
 cases y with
 | non =>
  cases e;cases x with
  | non=>cases c;exact SeqAt.EqAt.same _
  | bl b=>cases c;exact SeqAt.EqAt.none_bool b
  | int b=>obtain⟨t,rfl⟩:=c;exact SeqAt.EqAt.none_int b t
  | str b=>obtain⟨t,rfl⟩:=c;exact SeqAt.EqAt.none_str b t
  | _=>exact absurd (show false=true from f) ZY
 | bl a =>
  cases e;cases x with
  | non=>cases c;exact SeqAt.EqAt.bool_none a
  | bl b=>cases c;exact SeqAt.EqAt.bool_bool a b
  | int b=>obtain⟨t,rfl⟩:=c;exact SeqAt.EqAt.bool_int a b t
  | str b=>obtain⟨t,rfl⟩:=c;exact SeqAt.EqAt.bool_str a b t
  | _=>exact absurd (show false=true from f) ZY
 | int a =>
  obtain⟨d,rfl⟩:=e;cases x with
  | non=>cases c;exact SeqAt.EqAt.int_none a d
  | bl b=>cases c;exact SeqAt.EqAt.int_bool a d b
  | int b=>obtain⟨t,rfl⟩:=c;exact WS a d b t
  | str b=>obtain⟨t,rfl⟩:=c;exact SeqAt.EqAt.int_str a d b t
  | _=>exact absurd (show false=true from f) ZY
 | str a =>
  obtain⟨d,rfl⟩:=e;cases x with
  | non=>cases c;exact SeqAt.EqAt.str_none a d
  | bl b=>cases c;exact SeqAt.EqAt.str_bool a d b
  | int b=>obtain⟨t,rfl⟩:=c;exact SeqAt.EqAt.str_int a d b t
  | str b=>obtain⟨t,rfl⟩:=c;exact SeqAt.EqAt.str_str a d b t
  | _=>exact absurd (show false=true from f) ZY
 | _=>exact absurd (show false=true from g) ZY
def eqU (x:V) (u:T0):Bool:=match u with
 | .none=>eqV .non x
 | .bool b=>eqV (.bl b) x
 | .int i _=>eqV (.int i) x
 | .str z _=>eqV (.str z) x
 | _=>false
theorem Gv {x y:V}{u:T0}(r:bT y u)(f:mO y=true):eqU x u=eqV y x:=by
 cases y with
 | non=>cases r;rfl
 | bl b=>cases r;rfl
 | int i=>obtain⟨t,rfl⟩:=r;rfl
 | str z=>obtain⟨t,rfl⟩:=r;rfl
 | _=>exact absurd (show false=true from f) ZY
theorem wU {x:V}:∀{xs:List V} {c:List T0},bi xs c->xs.all mO=true->c.any (eqU x)=xs.any λy=>eqV y x
 | _,_,.nil,_=>rfl
 | y :: xs,u :: c,.cons r t,f=>by
  rw[X1,Z3]at f;rw[WB,WB,Gv r f.1,wU t f.2]
theorem sA {A:T4}{s:T3}{x:V}{v:T0}(g:bT x v)(e:mO x=true):∀{xs:List V} {d:List T0},bi xs d->xs.all mO=true->∀u∈d,SeqAt.EqAt A s u v (eqU x u)
 | _,_,.nil,_=>λu c=>by cases c
 | y :: xs,u :: d,.cons r t,f=>λh c=>by
  rw[X1,Z3]at f;rcases Y6.mp c with rfl|c
  ·rw[Gv r f.1];exact LV r g f.1 e
  ·exact sA g e t f.2 h c
def inV (x:V) (xs:List V):Bool:=xs.any λy=>eqV y x
def rIn (K:ZX) (neg:Bool):R2:=λx y H Q=>∃p xs,y=.ref p/\(SqL K H p xs\/SqT K H p xs)/\mO x=true/\xs.all mO=true/\Q (.bl (if neg then !inV x xs else inV x xs)) H
theorem vB:OpR X (compareOp .In) (rIn X.K false):=by
 intro pins s σ H x y v u Q I g j h;obtain⟨p,xs,rfl,d,f,fs,q⟩:=h;cases j;rcases d with d|d
 ·obtain⟨c,r,e,i⟩:=I.list d
  refine SeqAt.in_listAt (eqU x) e.isList (λw hw=>sA g f r fs w (by simpa using hw)) ⟨.bl _,H,I,rfl,?_⟩;rw[show c.toArray.any (eqU x)=c.any (eqU x) by simp,wU r fs];exact q
 ·obtain⟨c,r,e,i⟩:=I.tuple d
  refine SeqAt.in_tupleAt (eqU x) e (λw hw=>sA g f r fs w (by simpa using hw)) ⟨.bl _,H,I,rfl,?_⟩;rw[show c.toArray.any (eqU x)=c.any (eqU x) by simp,wU r fs];exact q
theorem n5:gf X (.builtin "len") (λxs H Q=>∃p ys,xs=[.ref p]/\(SqL X.K H p ys\/SqT X.K H p ys)/\Q (.int ys.length) H):=by
 intro pins s σ H xs l Q I r h;obtain⟨p,ys,rfl,d,q⟩:=h;obtain⟨u,rfl,j⟩:=nZ r;cases j;have k:=o6;rcases d with d|d
 ·obtain⟨e,g,f,i⟩:=I.list d
  have c:=g.length;exact Calls.call_len_list f.isList (by simp only[x8]<;>omega) ⟨.int ys.length,H,I.tok _,⟨s.toks + 1,by rw[x8,c]⟩,q⟩
 ·obtain⟨e,g,f,i⟩:=I.tuple d
  have c:=g.length;exact len_tuple f (by simp only[x8]<;>omega) ⟨.int ys.length,H,I.tok _,⟨s.toks + 1,by rw[x8,c]⟩,q⟩
theorem wV:gf X (.builtin "len") (λxs H Q=>∃z,xs=[.str z]/\z.length<=sizeLine/\Q (.int z.length) H):=by
 intro pins s σ H xs d Q I r h;obtain⟨z,rfl,e,q⟩:=h;obtain⟨u,rfl,t,rfl⟩:=nZ r;have c:=o6;exact len_str (by omega) ⟨.int z.length,H,I.tok _,⟨_,rfl⟩,q⟩
theorem wW:gf X (.type "list") (λxs H Q=>∃p ys,xs=[.ref p]/\(SqL X.K H p ys\/SqT X.K H p ys)/\∀l,H l=none->Q (.ref l) (upd H l (.lst ys))):=by
 intro pins s σ H xs w Q I r h;obtain⟨p,ys,rfl,j,q⟩:=h;obtain⟨u,rfl,v⟩:=nZ r;cases v;have fin:∀(c:List T0),bi ys c->ys.length<=sizeLine->∀(h':Heap) (d:Nat),(∀b o',s.heap.get? b=some o'->h'.get? b=some o')->
   h'.get? s.heap.objs.size=some { cls:=.type "list",dict:=none,data:=.seq c.toArray d,slots := #[] }->EP X pins σ Q (.ref s.heap.objs.size) { s with heap:=h' }:=λc f i h' d g e =>
  ⟨.ref s.heap.objs.size,_,I.laid (t':=s.toks) g (ZL _) (show eJ X.prog X.w _ h' _ (.lst ys) from ⟨i,c,d,f,e⟩),rfl,q _ (I.hok.fresh (ZL _))⟩
 rcases j with j|j
 ·obtain⟨c,f,t,i⟩:=I.list j
  have k:=f.length;obtain⟨o,m,hc,n,hd⟩:=t.isList;exact call_list_seq p (.inl rfl) m hc hd (λh' d g e=>fin c f i h' d g e) (by simp only[x8]<;>omega)
 ·obtain⟨c,f,t,i⟩:=I.tuple j
  have k:=f.length;obtain⟨o,m,hc,n,hd⟩:=t;exact call_list_seq p (.inr rfl) m hc hd (λh' d g e=>fin c f i h' d g e) (by simp only[x8]<;>omega)
theorem uC:gf X (.type "tuple") (λxs H Q=>∃p ys,xs=[.ref p]/\((SqL X.K H p ys/\∀l,H l=none->Q (.ref l) (upd H l (.tup ys)))\/(SqT X.K H p ys/\Q (.ref p) H))):=by
 intro pins s σ H xs t Q I r h;obtain⟨p,ys,rfl,h⟩:=h;obtain⟨u,rfl,n⟩:=nZ r;cases n;rcases h with ⟨hq,q⟩|⟨hq,q⟩
 ·obtain⟨c,f,d,g⟩:=I.list hq
  have i:=f.length;refine call_tuple_list d.isList (λh' m => ?_) (by simp only[x8]<;>omega);have j:Inv X pins σ H { s with heap:=h' }:=I.kept (t':=s.toks) m;have k:Inv X pins σ (upd H h'.objs.size (.tup ys)) { s with heap:=h'.push { cls:=.type "tuple",data:=.seq c.toArray } } :=
   j.laid (t':=s.toks) (λb o e=>ZH _ e) (ZL _) (show eJ X.prog X.w _ _ _ (.tup ys) from ⟨g,c,f,IsTup.new _ _⟩)
  exact⟨.ref h'.objs.size,_,k,rfl,q _ (j.hok.fresh (ZL _))⟩
 ·obtain⟨c,f,d,g⟩:=I.tuple hq
  exact call_tuple_same d ⟨.ref p,H,I,rfl,q⟩
def tyV (K:ZX) (T:String) (x:V) (H:Hp):Prop:=match x with
 | .str _=>T = "str"
 | .int _=>T = "int"
 | .ref p=>(T = "list"/\∃xs,SqL K H p xs)\/(T = "tuple"/\∃o,K.lookup p=some o/\o.cls=.type "tuple"/\o.dict=none)\/
   (T = "dict"/\((∃kvs,H p=some (.dK kvs))\/∃kvs,H p=some (.dT kvs)))\/(T = "set"/\∃S n,H p=some (.set S n))
 | _=>False
theorem LW {pins:List (Addr × Obj)}{σ:St}{H:Hp}{s:T3}{T:String}{x:V}{v:T0}(I:Inv X pins σ H s)(r:bT x v)(d:tyV X.K T x H) :
  s.TypeIs v T/\∀a,v=.ref a->∃h,s.heap.get? a=some h/\h.dict=none:=by
 cases x with
 | str z =>
  obtain⟨t,rfl⟩:=r;cases (show T = "str" from d);exact⟨WT s z t,λ_ e=>nomatch e⟩
 | int i =>
  obtain⟨t,rfl⟩:=r;cases (show T = "int" from d);exact⟨typeIs_int s i t,λ_ e=>nomatch e⟩
 | ref p =>
  cases r;rcases d with ⟨rfl,xs,hq⟩|⟨rfl,o,hk,hc,hd⟩|⟨rfl,hk⟩|⟨rfl,S,n,hk⟩
  ·obtain⟨j,_,g,_⟩:=I.list hq
   refine⟨g.isList.typeIs,λa e => ?_⟩;cases e;obtain⟨o,n,e,c,hd,_⟩:=g;exact⟨o,e,hd⟩
  ·refine⟨⟨o,I.kIn p o hk,hc⟩,λa e => ?_⟩
   cases e;exact⟨o,I.kIn _ o hk,hd⟩
  ·have z:∃o,s.heap.get? p=some o/\o.ExactDict:=by
    rcases hk with ⟨kvs,hk⟩|⟨kvs,hk⟩
    ·obtain⟨_,_,_,_,o,_,_,e,ex,_⟩:=I.hok p _ hk
     exact⟨o,e,ex⟩
    ·obtain⟨_,_,_,_,o,_,_,e,ex,_⟩:=I.hok p _ hk
     exact⟨o,e,ex⟩
   obtain⟨o,e,ex⟩:=z;refine⟨⟨o,e,ex.1⟩,λa f => ?_⟩;cases f;exact⟨o,e,ex.2.1⟩
  ·obtain⟨o,_,_,_,e,ex,_⟩:=I.hok p _ hk
   refine⟨⟨o,e,ex.1⟩,λa f => ?_⟩;cases f;exact⟨o,e,ex.2.1⟩
 | _=>exact False.elim d
def tBM (K:ZX) (T:String) (r:V->List V->Hp->VK->Prop) (to:TE) (t:TA):TE:=λσ H Q=>to σ H λx H1=>tyV K T x H1/\t σ H1 λxs H2=>r x xs H2 Q
variable {o e:Expr} {es:List Expr} {to:TE} {t:TA} {name:Str} {apos cpos:Pos} {T id:String} {r:V->List V->Hp->VK->Prop}
theorem sB (y:PlainAttrs T) (slot:Slot T name id) (i:typeOf (.builtin id)=pure (.type "method_descriptor")) (hm:MtR X id r) (m:PE X o to) (C:PA X (e :: es) t)
  (d:attributeBase o name X.env (eval o X.env)=eval o X.env:=by rfl)
  (g:((backTo cpos (starEach (e :: es) X.env)).all (λx => !x.1) && (backToKw cpos (keywordEach [] X.env)).all (λx=>x.1.isSome)
   && decide ((e :: es).length + ([] : List Keyword).length + (if ([] : List Keyword).isEmpty then 0 else 1) < 30))=true:=by rfl)
  (f:(apos.endLine == cpos.line)=true:=by rfl) (D:starEach (e :: es) X.env=(false,eval e X.env) :: starEach es X.env:=by rfl) (c:(backTo cpos (starEach es X.env)).any (·.1)=false:=by rfl) :
  PE X (.Call (.Attribute o name apos) (e :: es) [] cpos) (tBM X.K T r to t):=by
 intro pins s σ H Q I h;refine wpAny_Call_method_late d g f rfl (thn (m pins s σ H _ I h) λv A ⟨x,H1,j,l,F,q1⟩ => ?_);obtain⟨n,E⟩:=LW j l F;refine⟨T,id,y,slot,i,n,E,?_⟩;have k:=C cpos pins A σ H1 _ j q1;rw[D]at k ⊢;refine Calls.callWith_builtin (by show (false || (backTo cpos (starEach es X.env)).any (·.1))=false;rw[c]<;>rfl) (Calls.evalArgs_plain ?_);exact thn k λp w ⟨u,B,q,z,q2⟩=>hm pins w σ B x u v p Q q l z q2
end
def MtM (X:Cx) (id:String) (r:V->List V->Hp->VK->Prop):Prop :=
 ∀(pins:List (Addr × Obj)) (s:T3) (σ:St) (H:Hp) (x:V) (xs:List V) (v:T0) (us:List T0) (Q:VK),Inv X pins σ H s->bT x v->bi xs us->r x xs H Q->
  wpAny (model X.prog X.w) X.A (call (.builtin id) (v :: us)) (EP X pins σ Q) X.xe s
theorem bi.one {x:V}{us:List T0}(h:bi [x] us):∃u,us=[u]/\bT x u:=by
 cases h with
 | cons r t=>cases t;exact⟨_,rfl,r⟩
theorem bi.two {x y:V}{us:List T0}(h:bi [x,y] us):∃u v,us=[u,v]/\bT x u/\bT y v:=by
 cases h with
 | cons r t =>
  cases t with
  | cons q t=>cases t;exact⟨_,_,rfl,r,q⟩
theorem bi.rep {xs:List V}{us:List T0}(h:bi xs us):∀k:Nat,bi (List.replicate k xs).flatten (List.replicate k us).flatten
 | 0=>.nil
 | k + 1=>by
  rw[YL,YL,YR,YR];exact bi.append h (bi.rep h k)
theorem vC (b:List T0):∀(k:Nat) (a:List T0),
  List.foldl (λx1 d=>x1++d) a.toArray (List.replicate k b.toArray)=(a++(List.replicate k b).flatten).toArray
 | 0,a=>by simp
 | k + 1,a=>by
  have e:a.toArray++b.toArray=(a++b).toArray:=by simp
  have c:(a++b)++(List.replicate k b).flatten=a++(List.replicate (k + 1) b).flatten:=by
   rw[YL,YR,ZU]
  rw[<-c,<-vC b k (a++b),<-e,YL,List.foldl_cons]
section
variable {X:Cx} {pins:List (Addr × Obj)} {σ:St} {H:Hp} {s:T3} {l b:Addr} {xs ys zs:List V}
theorem Inv.lset {a its':List T0}{n:Nat}{f:Array T0->Array T0}{t':Nat}(I:Inv X pins σ H s)(c:H l=some (.lst xs))
  (e:s.heap.get? l=some { cls:=.type "list",data:=.seq a.toArray n }) (h:f a.toArray=its'.toArray) (g:bi ys its') (hz:ys.length<=sizeLine) :
  Inv X pins σ (upd H l (.lst ys)) { s with heap:=s.heap.update l (Obj.mapSeq f),toks:=t' }:=by
 have q:=PySem.IsL.update e f;rw[h]at q;refine I.write (x:=l) (e:=l) (by rw[c];exact trivial) (.inl rfl) (λj u i d=>(Heap.get?_update_other s.heap (Obj.mapSeq f) (YN i)).trans d) ⟨_,q⟩ ?_;exact⟨hz,its',_,g,q⟩
theorem Inv.lnew {a:List T0}{t':Nat}(I:Inv X pins σ H s)(c:bi ys a)(hz:ys.length<=sizeLine) :
  Inv X pins σ (upd H s.heap.objs.size (.lst ys)) { s with heap:=s.heap.push { cls:=.type "list",data:=.seq a.toArray },toks:=t' } :=
 I.laid (λ_ _ q=>ZH _ q) (ZL _) ⟨hz,a,0,c,ZJ _ rfl⟩
theorem Inv.fresh (I:Inv X pins σ H s):H s.heap.objs.size=none:=I.hok.fresh (ZL _)
theorem Inv.lstM (I:Inv X pins σ H s) (c:H l=some (.lst xs)):xs.length<=sizeLine/\∃(a:List T0) (n:Nat),bi xs a/\xs.length=a.length/\s.heap.get? l=some { cls:=.type "list",data:=.seq a.toArray n }:=by
 obtain⟨z,a,n,r,e⟩:=I.hok l _ c;exact⟨z,a,n,r,r.length,e⟩
theorem y6 {n:Nat}(h:n<=sizeLine):Builtin.List.listTooLong n=false:=by
 unfold Builtin.List.listTooLong;exact wL (by omega)
end
section
variable {X:Cx}
def Jf:V->List V->Hp->VK->Prop:=λx vs H Q=>∃l xs y,x=.ref l/\vs=[y]/\H l=some (.lst xs)/\xs.length < sizeLine/\Q .non (upd H l (.lst (xs++[y])))
theorem vD:MtM X "list.append" Jf:=by
 intro pins s σ H x j v g Q I f d h;obtain⟨l,xs,y,rfl,rfl,b,k,q⟩:=h;cases f;obtain⟨u,rfl,c⟩:=d.one;obtain⟨z,a,n,r,i,e⟩:=I.lstM b;refine WY F.slot_list_append ⟨_,e,rfl⟩ F.entry_list_append (F.args_list_append_2 _ _) (PySem.list_append l a.toArray n u (by rw[x8];omega)) ⟨e,?_⟩;refine⟨.non,_,I.lset (its':=a++[u]) b e (by simp) (r.append (.cons c .nil)) ?_,rfl,q⟩;rw[ZB,List.length_singleton];omega
def Jg:V->List V->Hp->VK->Prop:=λx vs H Q=>∃l b xs zs,x=.ref l/\vs=[.ref b]/\H l=some (.lst xs)/\H b=some (.lst zs)/\xs.length + zs.length<=sizeLine/\Q .non (upd H l (.lst (xs++zs)))
theorem vE:MtM X "list.extend" Jg:=by
 intro pins s σ H x B v y Q I w o h;obtain⟨l,b,xs,E,rfl,rfl,g,m,C,q⟩:=h;cases w;obtain⟨u,rfl,j⟩:=o.one;cases j;obtain⟨z,c,n,r,A,e⟩:=I.lstM g;obtain⟨D,a,t,p,i,k⟩:=I.lstM m;have f:c.toArray.size + a.toArray.size<=sizeLine:=by rw[x8,x8];omega
 have d : ¬(!c.toArray.isEmpty && Builtin.List.listTooLong (c.toArray.size + a.toArray.size))=true:=by
  rw[y6 f,Bool.and_false];exact ZY
 refine WY F.slot_list_extend ⟨_,e,rfl⟩ F.entry_list_extend (F.args_list_extend_2 _ _)
  (AutoSeq1.list_extend_list_list_0 l c.toArray n b a.toArray t d (by rw[x8];omega) (by omega)) ⟨e,k,?_⟩
 refine⟨.non,_,I.lset (its':=c++a) g e (by simp) (r.append p) ?_,rfl,q⟩;rw[ZB];omega
def Pv:R2:=λx y H Q=>∃l b xs zs,x=.ref l/\y=.ref b/\H l=some (.lst xs)/\H b=some (.lst zs)/\xs.length + zs.length<=sizeLine/\∀p,H p=none->Q (.ref p) (upd H p (.lst (xs++zs)))
theorem LX:OpR X (binaryOp .Add) Pv:=by
 intro pins s σ H x y v u Q I m k h;obtain⟨l,b,xs,A,rfl,rfl,j,g,t,q⟩:=h;cases m;cases k;obtain⟨z,c,n,r,p,e⟩:=I.lstM j;obtain⟨w,a,B,i,d,f⟩:=I.lstM g;refine PySem.P.add_list e f ?_ (by rw[x8,x8];omega);have o:c.toArray++a.toArray=(c++a).toArray:=by simp
 rw[o];exact⟨.ref _,_,I.lnew (t':=s.toks) (r.append i) (by rw[ZB];omega),rfl,q _ I.fresh⟩
def Pw:R2:=λx y H Q=>∃l k xs,x=.ref l/\y=.int k/\H l=some (.lst xs)/\-(2 ^ 63)<=k/\k < 2 ^ 63/\xs.length * k.toNat<=sizeLine/\
 ∀p,H p=none->Q (.ref p) (upd H p (.lst (List.replicate k.toNat xs).flatten))
theorem Jh {α : Type}(xs:List α)(k:Nat):(List.replicate k xs).flatten.length=k * xs.length:=by
 induction k with
 | zero=>simp
 | succ k ih=>rw[YL,YR,ZB,ih,Nat.succ_mul,Nat.add_comm]
theorem LY:OpR X (binaryOp .Mult) Pw:=by
 intro pins s σ H x y v u Q I D C h;obtain⟨l,k,xs,rfl,rfl,B,p,E,o,q⟩:=h;cases D;obtain⟨t,rfl⟩:=C;obtain⟨z,b,n,r,w,e⟩:=I.lstM B;have f:b.toArray.size * k.toNat<=sizeLine:=by rw[x8,<-w];exact o
 have d : ¬b.toArray.size * k.toNat > (2 ^ 63 - 1) / 8:=by
  have:(sizeLine:Nat)<=(2 ^ 63 - 1) / 8:=by decide
  omega
 have i : ¬(!Builtin.List.listFitsIndex k)=true:=by
  rw[fitsIndex_both p E];exact ZY
 have c : ¬Builtin.List.listTooLong (b.toArray.size * k.toNat)=true:=by
  rw[y6 f];exact ZY
 have g:List.foldl (λx1 j=>x1++j) #[] (List.replicate (if b.toArray.isEmpty=true then 0 else k.toNat) b.toArray)=(List.replicate k.toNat b).flatten.toArray:=by
  have A:∀m:Nat,List.foldl (λx1 j=>x1++j) #[] (List.replicate m b.toArray)=(List.replicate m b).flatten.toArray:=λm=>by
   have:=vC b m [];rw[YI]at this;exact this
  rw[A];cases b with
  | nil=>simp
  | cons a r'=>rw[z5 (by simp)]
 refine wpAny_binaryOp_repeat_ref (T := "list") (U := "int") (by decide) ⟨_,e,rfl⟩ (λG=>typeIs_int G k t) noFill_list_mul F.fills_int_mul F.slot_int_rmul repeat_list F.slot_int_index.lookup
  (WY F.slot_int_rmul (typeIs_int s k t) F.entry_int_rmul (F.args_int_rmul_2 _ _) (int___rmul___int_list k t l b.toArray n)
   ⟨e,rfl,⟨_,e,rfl⟩,WY F.slot_list_mul ⟨_,e,rfl⟩ F.entry_list_mul (F.args_list_mul_2 _ _) (AutoListH.list___mul___list_int_3 l b.toArray n k t i d c) ⟨e,?_⟩⟩)
 rw[g];exact⟨.ref _,_,I.lnew (t':=s.toks) (r.rep k.toNat) (by rw[Jh,Nat.mul_comm];exact o),rfl,q _ I.fresh⟩
end
section
variable {prog:T5} {w:T6} {A:T4} {E:T0->T3->Prop} {s:T3}
end
section
variable {X:Cx}
end
end L2
namespace Att
open PySem PySem.W PySem.Calls PyProof.Rows
theorem rc {P:Params}{h:Heap}:∀(c:List Int) (d:List T0),WellAll P h d (c.map WData.int)->IntsAre d c:=by
 intro c
 induction c with
 | nil =>
  intro d w;rw[YY]at w;cases w;exact .nil
 | cons n c ih =>
  intro d w;rw[x3]at w;cases w with
  | cons a b =>
   cases a;exact .cons _ _ (ih _ b)
theorem Em {l:OpenLaw}{n:Nat}(o:l.most=some n){P:Params}{h:Heap}{args:List WData}{e:List T0}
  (c:l.row.toRowW.claim.pre args=true) (j:WellAll P h e args) :
  ∃a m b,e=[Value.ref a]/\args=[WData.list (b.map WData.int)]/\h.get? a=some { cls:=.type "list",data:=.seq m.toArray }/\IntsAre m b/\b.length<=n:=by
 have k:WShape.hasAll [] args [.list .int] = true:=(pre_splitW c).1;have hc:l.pre.holds [] { args:=args } = true:=(pre_splitW c).2;obtain⟨d,r,rfl,s,u⟩:=hasAllW_cons k;obtain rfl:=hasAllW_nil u;obtain⟨xs,rfl,t⟩:=hasW_list s;obtain⟨b,rfl⟩:=items_int t;have f:b.length<=n:=by
  unfold OpenLaw.pre at hc;have i:(WTm.not (.lt (.lit (.int (n:Int))) (.len (.arg 0)))).holds [] { args:=[.list (b.map .int)] } = true:=by
   have i:=(holds_andW hc).1;rw[o]at i;exact i
  have g:=condW_of i (w_not (w_lt w_lit (w_len_list (w_arg rfl))));rw[ZA]at g;refine WI λq => ?_;have p:(n:Int) < ((b.length:Nat):Int):=by omega
  first
   | (rw[x6 p]at g;exact absurd g (by decide))
   | (simp at g;omega)
 cases j with
 | cons w1 w2 =>
  cases w2;cases w1 with
  | list ho hall=>exact⟨_,_,b,rfl,rfl,ho,rc b _ hall,f⟩
theorem Eo (l:OpenLaw)(args:List WData):l.row.toRowW.claim.post args (.bool true) args=true :=
 postW_of (r:=l.row.toRowW) (X:=(true == true))
  (show WShape.has [] (.bool true) .bool=true by first|rfl|decide|simp[WShape.has,WShape.arms,WShape.armsAll])
  (show (WTm.eq .res (.lit (.bool true))).value [] { args:=args,res:=some (.bool true),after:=args } = some (.bool (true == true)) from w_eq_bool (w_res rfl) w_lit) rfl
theorem attach_call {l:OpenLaw}{n:Nat}{q:T5}{c:List Str}{XP:(Str->Option T0)->Heap->Prop}{v:T6->Heap->Prop}{d:DefRec}
  (B:l.most=some n) (t:d.params.defaults=[])
  (call:∀(w:T6) (s₀ b : T3) (mg s:Str->Option T0) (fa:Addr) (o:Obj) (pm k e:T0) (a:Addr) (vs:List T0) (ns:List Int),
   Ground q c [] XP w s₀ mg s b.heap->v w b.heap->
   b.heap.get? fa=some o->o.data=.func (docDef d.name d.params d.body d.scope pm k e)->b.heap.CodeRec k d.name->mg d.name=some (.ref fa)->
   b.heap.get? a=some { cls:=.type "list",data:=.seq vs.toArray }->IntsAre vs ns->ns.length<=n->b.gens = #[]->
   codeAny (model l.prog w) callerA (.call (.ref fa) ⟨[.ref a],[]⟩) (λr m=>r=.ok (.ret (.bool true))/\OldK b.heap m.heap/\m.os=b.os/\AllBare m.gens) b) :
  WalkO q c XP v l.row.toRowW d [] (λf vs=>PySem.call f vs):=by
 intro w s₀ b mg s G Y fa o pm k e I kV C hd u x hmg D A y N i z F p M;obtain rfl:I=.none:=Dflts.none x t;obtain rfl:kV=.none:=Dflts.noKw x;obtain⟨a,vs,ns,rfl,rfl,j,g,h⟩:=Em B i p;refine enter_call (codeAny_mono (call w s₀ b mg s fa o pm k e a vs ns G Y C (fd_plain hd) u hmg j g h D) λr m H => ?_);obtain⟨rfl,L,K,J⟩:=H;exact⟨.inl ⟨.bool true,.bool true,[],rfl,λ_=>rfl,.bool true,Eo l _,λ_=>⟨List.Pairwise.nil,λ_ E=>(nomatch E)⟩⟩,L,K,J⟩
section
variable {prog:T5} {w:T6} {A:T4} {E:T0->T3->Prop} {s:T3} {K:Frag}
def noObjs (h:Heap):Heap:={ h with objs := #[] }
theorem noObjs_get (h:Heap)(b:Addr):(noObjs h).get? b=none:=by
 cases e:(noObjs h).get? b with
 | none=>rfl
 | some o=>exact absurd (ZI e) (XZ _)
def ledger (h:Heap) (L d:Addr):List (Addr × Obj):=(List.range h.objs.size).filterMap λa=>if a=L\/a=d then none else (h.get? a).map λo=>(a,o)
theorem mem_ledger {h:Heap}{L d a:Addr}{o:Obj}:(a,o)∈ledger h L d ↔ a≠L/\a≠d/\h.get? a=some o:=by
 unfold ledger;rw[List.mem_filterMap];constructor
 ·rintro⟨b,_,e⟩
  split at e
  ·cases e
  ·rename_i hb
   obtain⟨o',c,i⟩:=Option.map_eq_some_iff.mp e;cases i;exact⟨λq=>hb (.inl q),λq=>hb (.inr q),c⟩
 ·rintro⟨g,f,c⟩
  refine⟨a,List.mem_range.mpr (ZI c),?_⟩;rw[z5 (show ¬(a=L\/a=d) from λq=>q.elim g f),c]<;>rfl
theorem fr_all {h:Heap}{L:Addr}{m:Str->Option T0}(n:h.Ns L m):Fr (noObjs h) L h m :=
 ⟨n,λb o e=>(by rw[noObjs_get]at e;cases e),YG _⟩
end
end Att
namespace L2
open PySem PySem.Spec PyProof.Rows
theorem vF:∀{a:List T0} {b:List Int},IntsAre a b->bi (b.map V.int) a
 | _,_,.nil=>.nil
 | _,_,.cons n t h=>.cons ⟨t,rfl⟩ (vF h)
def LZ (H:Hp):Prop:=∀b,H b=none\/∃o xs,H b=some (.frz o (.lst xs))
theorem Gw {P:T5}{w:T6}{K:ZX}{mg J:Str->Option T0}{CX:CXT}{k:Nat}{fa a:Addr}{fd:FuncData}{x:Str}{sp:Sp}{c : T3}{vs:List T0}{ns:List Int}
  (KX:K.In c.heap) (t:c.heap.Ns mainGlobals mg) (g:c.heap.Ns builtinsNs J) (N:∀x:Str,x ≠ "__name__"->J x=bootBuiltins x) (D:c.heap.NoLimit) (Z:c.gens = #[])
  (G:c.heap.get? a=some { cls:=.type "list",data:=.seq vs.toArray }) (hi:IntsAre vs ns) (Q:ns.length<=sizeLine) (hr:fG k callerA)
  (F:∀base:Heap,K.In base->base.Ns mainGlobals mg->bC P w K mg base CX k fa fd [x] sp) (p:∀(s:T3) (u:T0),BindsTo s fd ⟨[u],[]⟩ [(x,u)])
  (L:∀H:Hp,LZ H->SqL K H a (ns.map V.int)->sp [.ref a] H (λv _=>v=.bl true) λ_ _ _=>False)
  (M:∀H e i,CX [] H c (λ_ _ _=>False) e i->False) :
  codeAny (model P w) callerA (.call (.ref fa) ⟨[.ref a],[]⟩) (λr i=>r=.ok (.ret (.bool true))/\OldK c.heap i.heap/\i.os=c.os/\AllBare i.gens) c := by
 have S:=vF hi;have A:=hi.length;have l:∀H:Hp,LZ H->SqL K H a (ns.map V.int)->HOk P w H c.heap->(∀b,H b≠none->b=a)->(H a≠none->K.lookup a=none)->
   codeAny (model P w) callerA (.call (.ref fa) ⟨[.ref a],[]⟩) (λr i=>r=.ok (.ret (.bool true))/\OldK c.heap i.heap/\i.os=c.os/\AllBare i.gens) c := by
  intro H T hS hok R hK;have f:∀{b:Addr} {o:Obj},c.heap.get? b=some o->H b=none->(wM c.heap H).get? b=some o:=λe n=>FU e n;have I:∀{b:Addr} {o:Obj} {es:Array DictEntry} {C:Nat},c.heap.get? b=some o->o.data=.dict es C->H b=none:=λ{b o es C} e d=>by
   cases q:H b with
   | none=>rfl
   | some u =>
    have O:b=a:=R b (by rw[q];simp);subst O;rw[G]at e;cases e;have Y:Data.seq vs.toArray _=Data.dict es C:=d;cases Y
  have j:∀{b:Addr} {m:Str->Option T0},c.heap.Ns b m->(wM c.heap H).Ns b m:=λ{b m} ⟨o,es,C,e,d,r⟩=>⟨o,es,C,f e (I e d),d,r⟩;have E:K.In (wM c.heap H):=λb o e=>f (KX b o e) (by
   cases q:H b with
   | none=>rfl
   | some u =>
    have O:b=a:=R b (by rw[q];simp);subst O;rw[hK (by rw[q];simp)]at e;cases e)
  have hM:Mod K mg (wM c.heap H):=⟨E,j t,⟨J,j g,N⟩,let ⟨mc,h1,h2⟩:=D;⟨mc,j h1,h2⟩⟩;have e0:Bd P w K mg (wM c.heap H) callerA [] c H:=⟨rfl,hM,λb o e=>IK e,WU (Ea _ _),trivial,λb g=>absurd (show b∈([] : List Addr) from g) (by simp),hok,.of_eq Z⟩;refine codeAny_mono ((F _ E (j t)).run callerA [] c H ⟨[.ref a],[]⟩ [.ref a] [.ref a] _ _ hr e0 (p c (.ref a)) (.cons rfl .nil) (L H T hS)) λr i h => ?_;cases r with
  | error e=>exact(M H e i h).elim
  | ok fl =>
   cases fl with
   | next=>exact False.elim h
   | brk=>exact False.elim h
   | cont=>exact False.elim h
   | ret u =>
    obtain⟨v,H',os,bare,W,y,r',q⟩:=h;have X:v=.bl true:=q;subst X;obtain rfl:u=Value.bool true:=r';refine⟨rfl,OldK.of_keep λb o e => ?_,os,bare⟩;cases q:H b with
    | none=>exact W.keep b o e q (by intro z;exact absurd (show b∈([] : List Addr) from z) (by simp)) (by simp)
    | some u =>
     rcases T b with z|⟨ob,xs,z⟩
     ·rw[q]at z;cases z
     ·have z2:=W.frzs b ob _ z
      obtain⟨U,_⟩:=hok b _ z;obtain⟨e2,_⟩:=y b _ z2;rw[e]at U;cases U;exact e2
 cases hk:K.lookup a with
 | some o =>
  have e:=KX a o hk;rw[G]at e;cases e;refine l (λ_=>none) (λ_=>.inl rfl) (.inr ⟨_,vs.toArray,_,hk,rfl,rfl,rfl,by rw[x8,A];exact Q,by simpa using S⟩) (λb u z=>by have B:(none:Option HO)=some u:=z;cases B) (λb z=>absurd rfl z) λz=>absurd rfl z
 | none =>
  refine l (λb=>if b=a then some (.frz { cls:=.type "list",data:=.seq vs.toArray } (.lst (ns.map V.int))) else none) (λb => ?_) (.inl (.inr ⟨{ cls:=.type "list",data:=.seq vs.toArray },z4 rfl⟩)) (λb u z => ?_) (λb z => ?_) λ_=>hk
  ·by_cases g:b=a
   ·exact .inr ⟨_,_,z4 g⟩
   ·exact .inl (z5 g)
  ·by_cases g:b=a
   ·have B:=(z4 g).symm.trans z
    cases B;subst g;exact⟨G,by rw[ZA];exact Q,vs,_,S,G⟩
   ·have B:=(z5 g).symm.trans z
    cases B
  ·by_cases g:b=a
   ·exact g
   ·exact absurd (z5 g) z
theorem Ji {l:PySem.W.OpenLaw}{n k:Nat}{q:T5}{c:List Str}{XP:(Str->Option T0)->Heap->Prop}{z:T6->Heap->Prop}{d:DefRec}{K:Params->ZX}{CX:T6->CXT}{sp:T6->Sp}{x:Str}
  (C:l.most=some n) (m:n<=sizeLine) (p:d.params.defaults=[]) (J:fG k callerA)
  (O:∀(w:T6) (h:Heap),z w h->(K w.params).In h)
  (F:∀(w:T6) (mg:Str->Option T0) (fa:Addr) (h:Heap),(K w.params).In h->h.Ns mainGlobals mg->mg d.name=some (.ref fa)->
   ∃fd:FuncData,(∀(s:T3) (u:T0),BindsTo s fd ⟨[u],[]⟩ [(x,u)])/\
    ∀base:Heap,(K w.params).In base->base.Ns mainGlobals mg->bC l.prog w (K w.params) mg base (CX w) k fa fd [x] (sp w))
  (r:∀(w:T6) (H:Hp) (a:Addr) (ns:List Int),ns.length<=n->LZ H->SqL (K w.params) H a (ns.map V.int)->sp w [.ref a] H (λv _=>v=.bl true) λ_ _ _=>False)
  (t:∀(w:T6) (H:Hp) (s:T3) (e:T0) (y:T3),CX w [] H s (λ_ _ _=>False) e y->False) :
  PySem.W.WalkO q c XP z l.row.toRowW d [] (λf A=>PySem.call f A):=by
 refine Att.attach_call C p λw B i mg R fa o S T D a A ns G Y Q hd P hmg j g b E => ?_;have KX:=O w _ Y;obtain⟨fd,I,L⟩:=F w mg fa _ KX G.T.g hmg;exact Gw KX G.T.g G.T.b G.T.builtins G.T.nolimit E j g (ZM b m) J L I (λH M N=>r w H a ns b M N) λH e y=>t w H i e y
def eF (s:Stmt):Arguments:=match s with
 | .FunctionDef _ a _ _ _ _ _ _ _ _=>a
 | _=>{ posonlyargs:=[],args:=[],vararg:=none,kwonlyargs:=[],kw_defaults:=[],kwarg:=none,defaults:=[] }
def du (s:Stmt):List Stmt:=match s with
 | .FunctionDef _ _ b _ _ _ _ _ _ _=>b
 | _=>[]
def av (s:Stmt):Scope:=match s with
 | .FunctionDef _ _ _ _ _ _ sc _ _ _=>sc
 | _=>{ kind:=.function,names:=[],isGenerator:=false,isCoroutine:=false }
abbrev CX0:CXT:=λ_ _ _ _ _ _=>False
abbrev E0:XK:=λ_ _ _=>False
theorem Gx {X:Cx}:o8 CX0 X E0:=λ_ _ _ _ _ _ _ h=>h.elim
structure Fun (K:ZX) (x qual:Str) (st:Stmt) (f:Addr) (fd:FuncData):Prop where
 ex:∃(oc:T0) (od:Option Addr) (kV doc pm:T0) (an:Option Addr) (cdv ct:T0) (osl:Array (Option T0)),
  fd=PySem.W.fnOf x qual (eF st) (du st) (av st) .none kV doc pm an cdv ct/\K.lookup f=some ⟨oc,od,.func fd,osl⟩/\PySem.W.codeIn K cdv qual=true
 kp:PySem.W.keepIn K (.ref f)=true
section
variable {P:T5} {w:T6} {K:ZX} {mg:Str->Option T0} {base:Heap}
theorem Fun.ok {x a:Str}{st:Stmt}{f:Addr}{fd:FuncData}{N ps:List Str}{k:Nat}{sp:Sp}(F:Fun K x a st f fd)(S:aA N ps (av st))(len:∀vs H Q E,sp vs H Q E->vs.length=ps.length)
  (c:∀(b:T0) (A:T4) (outer:List Env) (s:T3) (H:Hp) (vs:List V) (Q:VK) (E:XK),fG k (A.deeper (envOfC a (av st) s.heap.objs.size f b))->sp vs H Q E->
   ∃t,PSs (yY CX0 P w K mg base N a (av st) f b A outer s H E).nox (du st) t/\t { nx:=λ_ H'=>Q .non H',rt:=Q } (kX N vs) H):bC P w K mg base CX0 (k + 1) f fd ps sp:=by
 obtain⟨r,o,kV,g,m,p,b,n,l,rfl,i,e⟩:=F.ex;refine N8 i e S len λA outer s H vs Q E j d => ?_;obtain⟨t,h,q⟩:=c b A outer s H vs Q E j d;exact⟨t,h.nox,q⟩
theorem Fun.binds {x a:Str}{st:Stmt}{f:Addr}{fd:FuncData}{ps:List Str}(F:Fun K x a st f fd)
  (h:∀(kV b pm:T0) (d:Option Addr) (c ct:T0) (us:List T0),us.length=ps.length->bindArgs (PySem.W.fnOf x a (eF st) (du st) (av st) .none kV b pm d c ct) ⟨us,[]⟩ = pure (ps.zip us)):iK K fd ps []:=by
 obtain⟨k,j,kV,b,pm,d,c,ct,e,rfl,i,g⟩:=F.ex;exact .all (h kV b pm d c ct)
theorem wX {x a:Str}{st:Stmt}{f:Addr}{h:T0}{i g:Option Addr}{e:Array (Option T0)}{kV d pm b ct:T0}(l:K.lookup f=some ⟨h,i,.func (PySem.W.fnOf x a (eF st) (du st) (av st) .none kV d pm g b ct),e⟩)
  (c:PySem.W.codeIn K b a=true) (k:PySem.W.keepIn K (.ref f)=true):Fun K x a st f (PySem.W.fnOf x a (eF st) (du st) (av st) .none kV d pm g b ct):=⟨⟨h,i,kV,d,pm,g,b,ct,e,rfl,l,c⟩,k⟩
end
section
variable {X:Cx}
end
def jr (H H':Hp):Prop:=∀b o,H b=some o->H' b=some o
theorem jr.refl (H:Hp):jr H H:=λ_ _ h=>h
end L2
namespace L2
open PySem PySem.Spec
structure Px (h:Heap) (a D:Addr) (o:Obj):Prop where
 at_:h.get? a=some o
 cls:o.cls=.ref D
def KQ (a C:Addr):HO:=.ext λh=>∃o,Px h a C o
end L2
namespace Fm
inductive D where
 | non|bl (b:Bool)|int (i:Int)|str (x:List Nat)|tup (l:List D)|ref (n:Nat)|lit (l:List D)|exn (c:String) (l:List D)
deriving Inhabited
inductive ca where
 | lst (l:List D)|dct (l:List (Int × D))|dcT (l:List (List Int × D))|ob (l:List D)
abbrev Hd:=List ca
inductive Res (α : Type) where
 | ok (a : α) (h:Hd)|exc (x:D) (h:Hd)|bad
def Res.bind {α β : Type} (r:Res α) (f : α->Hd->Res β):Res β := match r with
 | .ok a h=>f a h | .exc x h=>.exc x h | .bad=>.bad
@[simp] theorem ay {α β : Type} (a : α) (h:Hd) (f : α->Hd->Res β):(Res.ok a h).bind f=f a h:=rfl
abbrev Sd:=List (Option D)
abbrev EF:=Sd->Hd->Res D
abbrev TF:=Sd->Hd->Res Bool
abbrev LF:=Sd->Hd->Res (List D)
inductive Out where
 | nx (σ:Sd) (h:Hd)|rt (d:D) (h:Hd)|bk (σ:Sd) (h:Hd)|ct (σ:Sd) (h:Hd)|exc (x:D) (σ:Sd) (h:Hd)|bad
abbrev SF:=Sd->Hd->Out
abbrev Fn:=List D->Hd->Res D
abbrev SZ:Nat:=1000000
@[simp] def slot (σ:Sd) (i:Nat):Option D:=match σ[i]? with|some (some d)=>some d|_=>none
@[simp] def aa (i:Nat):EF:=λσ h=>match slot σ i with|some d=>.ok d h|none=>.bad
@[simp] def fC (d:D):EF:=λ_ h=>.ok d h
abbrev O2:=D->D->Hd->Res D
@[simp] def af (g:O2) (a b:EF):EF:=λσ h=>(a σ h).bind λx h=>(b σ h).bind λy h=>g x y h
@[simp] def oI (g:Int->Int->Int):O2:=λx y h=>match x,y with | .int i,.int j=>.ok (.int (g i j)) h|_,_=>.bad
@[simp] def oB (g:Int->Int->Bool):O2:=λx y h=>match x,y with | .int i,.int j=>.ok (.bl (g i j)) h|_,_=>.bad
@[simp] def oIc (c:Int->Int->Bool) (g:Int->Int->Int):O2:=λx y h=>match x,y with | .int i,.int j=>if c i j then .ok (.int (g i j)) h else .bad|_,_=>.bad
def sml (i:Int):Bool:=decide (-18446744073709551616 < i) && decide (i < 18446744073709551616)
@[simp] def bP:O2:=λx y h=>match x,y with
 | .int i,.int j=>.ok (.int (i + j)) h
 | .tup (x :: xs),.tup ys=>if (x :: xs).length + ys.length<=SZ then .ok (.tup (x :: xs++ys)) h else .bad
 | _,_=>.bad
@[simp] def fU:O2:=λx y h=>(oI (· - ·)) x y h
@[simp] def cB:O2:=λx y h=>(oIc (λi j=>sml i || sml j) (· * ·)) x y h
@[simp] def dh:O2:=λx y h=>(oIc (λ_ j=>decide (0 < j)) (· % ·)) x y h
@[simp] def kS:O2:=λx y h=>(oIc (λ_ j=>decide (0 < j) && decide (j < 2 ^ 250)) (· / ·)) x y h
@[simp] def Py:O2:=λx y h=>(oIc (λi j=>decide (0<=j) && decide (j<=1000000) && sml i) (λi j=>i ^ j.toNat)) x y h
@[simp] def oLt:O2:=λx y h=>(oB λi j=>decide (i < j)) x y h
@[simp] def oLe:O2:=λx y h=>(oB λi j=>decide (i<=j)) x y h
@[simp] def oGt:O2:=λx y h=>(oB λi j=>decide (j < i)) x y h
@[simp] def P4:D->Hd->Res D:=λx h=>match x with | .int i=>.ok (.int (-i)) h|_=>.bad
@[simp] def sC:D->Bool | .non=>true|_=>false
@[simp] def Bk:O2:=λx y h=>if sC y then .ok (.bl (sC x)) h else .bad
@[simp] def ja:O2:=λx y h=>if sC y then .ok (.bl (!sC x)) h else .bad
@[simp] def b2i (b:Bool):Int:=if b then 1 else 0
mutual
def peq:D->D->Option Bool
 | .int i,k=>match k with | .int j=>some (decide (i=j)) | .bl c=>some (decide (i=b2i c)) | .non=>some false | .tup _=>some false|_=>none
 | .bl c,k=>match k with | .int j=>some (decide (b2i c=j)) | .bl d=>some (decide (c=d))|_=>none
 | .str x,k=>match k with | .str y=>some (decide (x=y))|_=>none
 | .non,k=>match k with | .non=>some true | .int _=>some false | .tup _=>some false|_=>none
 | .tup xs,k=>match k with | .tup ys=>(i8 xs ys).map λb=>b && decide (xs.length=ys.length) | .non=>some false | .int _=>some false|_=>none
 | .ref _,_=>none
 | .lit _,_=>none
 | .exn _ _,_=>none
def i8:List D->List D->Option Bool
 | x :: xs,y :: ys=>match peq x y,i8 xs ys with
  | some a,some b=>some (a && b)
  | _,_=>none
 | _,_=>some true
end
mutual
def dep:D->Nat
 | .tup l=>kZ l + 1
 | _=>0
def kZ:List D->Nat
 | []=>0
 | x :: xs=>max (dep x) (kZ xs)
end
def eqL (xs ys:List D):Option Bool:=if kZ xs<=20 then (if xs.length=ys.length then i8 xs ys else some false) else none
@[simp] def ib (h:Hd):D->Option (List D)
 | .ref n=>match h[n]? with|some (.lst l)=>some l|_=>none
 | .lit l=>some l
 | _=>none
@[simp] def eqG (h:Hd) (x y:D):Option Bool:=match ib h x,ib h y with
 | some xs,some ys=>eqL xs ys
 | none,none=>if dep x<=20 then peq x y else none
 | _,_=>none
@[simp] def oEq:O2:=λx y h=>match eqG h x y with|some b=>.ok (.bl b) h|none=>.bad
@[simp] def oNe:O2:=λx y h=>match eqG h x y with|some b=>.ok (.bl (!b)) h|none=>.bad
@[simp] def gJ:D->Bool
 | .non=>true | .bl _=>true | .int _=>true | .str _=>true|_=>false
@[simp] def eqF:D->D->Bool
 | .non,k=>match k with | .non=>true|_=>false
 | .bl a,k=>match k with | .bl b=>a == b | .int b=>b2i a == b|_=>false
 | .int a,k=>match k with | .bl b=>a == b2i b | .int b=>a == b|_=>false
 | .str a,k=>match k with | .str b=>a == b|_=>false
 | .tup _,_=>false
 | .ref _,_=>false
 | .lit _,_=>false
 | .exn _ _,_=>false
@[simp] def asB (r:Res D):Res Bool:=r.bind λx h=>match x with | .bl b=>.ok b h|_=>.bad
@[simp] def tE (a:EF):TF:=λσ h=>asB (a σ h)
@[simp] def cX (t:TF):TF:=λσ h=>(t σ h).bind λb h=>.ok (!b) h
@[simp] def jV (t u:TF):TF:=λσ h=>(t σ h).bind λb h=>if b then u σ h else .ok false h
@[simp] def tOr (t u:TF):TF:=λσ h=>(t σ h).bind λb h=>if b then .ok true h else u σ h
@[simp] def fT (t:TF):EF:=λσ h=>(t σ h).bind λb h=>.ok (.bl b) h
@[simp] def fIf (t:TF) (a b:EF):EF:=λσ h=>(t σ h).bind λc h=>if c then a σ h else b σ h
@[simp] def sD (g k:O2) (a b c:EF):EF:=λσ h=>(a σ h).bind λx h=>(b σ h).bind λy h=>(g x y h).bind λz h=>match z with
 | .bl true=>(c σ h).bind λw h=>k y w h
 | .bl false=>.ok (.bl false) h
 | _=>.bad
@[simp] def ao:LF:=λ_ h=>.ok [] h
@[simp] def ab (a:EF) (r:LF):LF:=λσ h=>(a σ h).bind λx h=>(r σ h).bind λxs h=>.ok (x :: xs) h
@[simp] def i9 (r:LF):EF:=λσ h=>(r σ h).bind λxs h=>if xs.length<=SZ then .ok (.tup xs) h else .bad
@[simp] def bG (r:LF):EF:=λσ h=>(r σ h).bind λxs h=>if xs.length<=SZ then .ok (.ref h.length) (h++[.lst xs]) else .bad
@[simp] def kN (h:Hd):D->Option (List D)
 | .tup l=>some l
 | .lit l=>some l
 | .ref n=>match h[n]? with|some (.lst l)=>some l|_=>none
 | _=>none
@[simp] def lOf (a:EF):LF:=λσ h=>(a σ h).bind λx h=>match kN h x with|some l=>.ok l h|none=>.bad
@[simp] def inL (h:Hd) (x y:D):Option Bool:=match kN h y with
 | some l=>if gJ x && l.all gJ then some (l.any λz=>eqF z x) else none
 | none=>none
@[simp] def oIn:O2:=λx y h=>match inL h x y with|some b=>.ok (.bl b) h|none=>.bad
def ixN (n:Nat) (i:Int):Option Nat:=if 0<=i then (if i < n then some i.toNat else none) else if -(n:Int)<=i then some (i + n).toNat else none
def atI (xs:List D) (i:Int):Option D:=(ixN xs.length i).bind λj=>xs[j]?
@[simp] def fIx (a:LF) (b:EF):EF:=λσ h=>(a σ h).bind λl h=>(b σ h).bind λy h=>match y with
 | .int i=>match atI l i with|some d=>.ok d h|none=>.bad
 | _=>.bad
@[simp] def oAt:O2:=λx y h=>match kN h x,y with
 | some l,.int i=>match atI l i with|some d=>.ok d h|none=>.bad
 | _,_=>.bad
@[simp] def fAt (a b:EF):EF:=λσ h=>af oAt a b σ h
@[simp] def cC (a:LF):EF:=λσ h=>(a σ h).bind λl h=>.ok (.int l.length) h
def ig:List D->Option (List Int)
 | []=>some []
 | .int i :: r=>(ig r).map (i :: ·)
 | _=>none
@[simp] def uD (a:LF):EF:=λσ h=>(a σ h).bind λl h=>match ig l with|some is=>.ok (.int is.sum) h|none=>.bad
def kO:List D->Option (List Bool)
 | []=>some []
 | .bl b :: r=>(kO r).map (b :: ·)
 | _=>none
@[simp] def sE (a:LF):EF:=λσ h=>(a σ h).bind λl h=>match kO l with|some bs=>.ok (.bl (bs.all id)) h|none=>.bad
@[simp] def gg (a:LF):EF:=λσ h=>(a σ h).bind λl h=>.ok (.tup l) h
@[simp] def wY (a:EF):EF:=λσ h=>(a σ h).bind λx h=>match x with | .int i=>.ok (.int i) h | .bl b=>.ok (.int (b2i b)) h|_=>.bad
inductive Ty where|int|bool|tuple|list|str
deriving DecidableEq
@[simp] def Ep (h:Hd) (t:Ty):D->Option Bool
 | .non=>some false
 | .bl _=>some (t == .bool || t == .int)
 | .int _=>some (t == .int)
 | .str _=>some (t == .str)
 | .tup _=>some (t == .tuple)
 | .lit _=>some (t == .list)
 | .ref n=>match h[n]? with|some (.lst _)=>some (t == .list)|some (.dct _)=>some false|some (.dcT _)=>none|some (.ob _)=>none|none=>none
 | .exn _ _=>none
@[simp] def gK (t:Ty) (a:EF):EF:=λσ h=>(a σ h).bind λx h=>match Ep h t x with|some b=>.ok (.bl b) h|none=>.bad
def sIx (n d:Nat):Option Int->Nat
 | none=>d
 | some i=>if i < 0 then (i + n).toNat else min i.toNat n
def cut (l:List D) (lo hi:Option Int):List D:=(l.drop (sIx l.length 0 lo)).take (sIx l.length l.length hi - sIx l.length 0 lo)
abbrev OF:=Sd->Hd->Res (Option Int)
@[simp] def pNo:OF:=λ_ h=>.ok none h
@[simp] def pAt (a:EF):OF:=λσ h=>(a σ h).bind λx h=>match x with | .int i=>.ok (some i) h|_=>.bad
@[simp] def gn (a:EF) (lo hi:OF):EF:=λσ h=>(a σ h).bind λx h=>(lo σ h).bind λi h=>(hi σ h).bind λj h=>match x with
 | .tup l=>if sIx l.length 0 i=0/\sIx l.length l.length j=l.length then .bad else .ok (.tup (cut l i j)) h
 | x=>match ib h x with|some l=>.ok (.ref h.length) (h++[.lst (cut l i j)])|none=>.bad
def lexLt:List Int->List Int->Bool
 | [],[]=>false
 | [],_ :: _=>true
 | _ :: _,[]=>false
 | x :: xs,y :: ys=>if x=y then lexLt xs ys else decide (x < y)
def Pz:List D->Option (List (List Int))
 | []=>some []
 | .tup l :: r=>match ig l,Pz r with|some a,some b=>some (a :: b)|_,_=>none
 | _=>none
@[simp] def am (F:Fn) (r:LF):EF:=λσ h=>(r σ h).bind λxs h=>F xs h
abbrev IF:=Sd->Hd->Res (List D × Option Nat)
@[simp] def bH (a:EF):IF:=λσ h=>(a σ h).bind λx h=>match x with
 | .int n=>if -1000000<=n/\n<=1000000 then .ok ((List.range n.toNat).map (λk:Nat=>.int k),none) h else .bad
 | _=>.bad
@[simp] def eG (a b:EF):IF:=λσ h=>(a σ h).bind λx h=>(b σ h).bind λy h=>match x,y with
 | .int m,.int n=>if (-1000000<=m/\m<=1000000)/\-1000000<=n/\n<=1000000 then .ok ((List.range (n - m).toNat).map (λk:Nat=>.int (m + k)),none) h else .bad
 | _,_=>.bad
@[simp] def eI (a:EF):IF:=λσ h=>(a σ h).bind λx h=>match x with
 | .tup l=>.ok (l,none) h
 | .lit l=>.ok (l,none) h
 | .ref n=>match h[n]? with|some (.lst l)=>.ok (l,some n) h|_=>.bad
 | _=>.bad
@[simp] def Gy (a:EF):IF:=λσ h=>(a σ h).bind λx h=>match x with
 | .tup l=>.ok ((List.range l.length).zip l |>.map λp=>.tup [.int (p.1:Nat),p.2],none) h
 | _=>.bad
section
open Classical
def dJ (g:Option Nat) (all:List D) (h:Hd):Prop:=match g with|none=>True|some n=>h[n]? = some (.lst all)
abbrev GF:=D->Sd->Option Sd
@[simp] def gN (i:Nat):GF:=λd σ=>some (σ.set i (some d))
@[simp] def gT (l:List Nat):GF:=λd σ=>match d with
 | .tup xs=>if xs.length=l.length then some ((l.zip xs).foldl (λσ p => σ.set p.1 (some p.2)) σ) else none
 | _=>none
@[simp] def ax (a b:SF):SF:=λσ h=>match a σ h with | .nx σ h=>b σ h|r=>r
@[simp] def bc:SF:=λσ h=>.nx σ h
@[simp] def outE (r:Res D) (σ:Sd) (k:D->Hd->Out):Out:=match r with | .ok d h=>k d h | .exc x h=>.exc x σ h | .bad=>.bad
@[simp] def aH (g:GF) (a:EF):SF:=λσ h=>outE (a σ h) σ λd h=>match g d σ with|some σ=>.nx σ h|none=>.bad
@[simp] def aW (a:EF):SF:=λσ h=>outE (a σ h) σ λd h=>.rt d h
@[simp] def fV (a:EF):SF:=λσ h=>outE (a σ h) σ λ_ h=>.nx σ h
@[simp] def sIf (t:TF) (a b:SF):SF:=λσ h=>match t σ h with | .ok c h=>if c then a σ h else b σ h | .exc x h=>.exc x σ h | .bad=>.bad
@[simp] def Jj:SF:=λσ h=>.bk σ h
def c7:SF:=λ_ _=>.bad
@[simp] def mJ (x i e:EF):SF:=λσ h=>outE (e σ h) σ λd h=>outE (x σ h) σ λp h=>outE (i σ h) σ λj h=>match p,j with
 | .ref n,.int j=>match h[n]? with
  | some (.lst l)=>match ixN l.length j with
   | some k=>.nx σ (h.set n (.lst (l.set k d)))
   | none=>.bad
  | _=>.bad
 | _,_=>.bad
@[simp] def L0:O2:=λp d h=>match p with
 | .ref n=>match h[n]? with
  | some (.lst l)=>if l.length < SZ then .ok .non (h.set n (.lst (l++[d]))) else .bad
  | _=>.bad
 | _=>.bad
@[simp] def jX (x e:EF):EF:=λσ h=>(x σ h).bind λp h=>match p with
 | .ref n=>match h[n]? with
  | some (.lst _)=>(e σ h).bind λd h=>L0 (.ref n) d h
  | _=>.bad
 | _=>.bad
def jG (g:Option Nat) (all:List D) (tg:GF) (b:SF):List D->SF
 | [],σ,h=>if dJ g all h then .nx σ h else .bad
 | x :: xs,σ,h=>if dJ g all h then match tg x σ with
   | some σ=>match b σ h with
    | .nx σ h=>jG g all tg b xs σ h
    | .ct σ h=>jG g all tg b xs σ h
    | .bk σ h=>.nx σ h
    | r=>r
   | none=>.bad
  else .bad
@[simp] def eO (it:IF) (tg:GF) (b:SF):SF:=λσ h=>match it σ h with
 | .ok (l,g) h=>jG g l tg b l σ h
 | .exc x h=>.exc x σ h
 | .bad=>.bad
def fq (t:TF) (b:SF):Nat->SF
 | 0,_,_=>.bad
 | n + 1,σ,h=>match t σ h with
  | .ok true h=>match b σ h with
   | .nx σ h=>fq t b n σ h
   | .ct σ h=>fq t b n σ h
   | .bk σ h=>.nx σ h
   | r=>r
  | .ok false h=>.nx σ h
  | .exc x h=>.exc x σ h
  | .bad=>.bad
def Jk (t:TF) (b:SF):Sd->Hd->Nat:=λσ h=>if ex:∃n,fq t b n σ h ≠ .bad then Classical.choose ex else 0
def sF (t:TF) (b:SF):SF:=λσ h=>fq t b (Jk t b σ h) σ h
@[simp] def kP:List TF->TF
 | [],_,h=>.ok true h
 | t :: r,σ,h=>(t σ h).bind λb h=>if b then kP r σ h else .ok false h
def cI (g:Option Nat) (all:List D) (tg:GF) (cs:List TF) (e:EF):List D->Sd->Hd->Res (List D)
 | [],_,h=>if dJ g all h then .ok [] h else .bad
 | x :: xs,σ,h=>if dJ g all h then match tg x σ with
   | some σ=>(kP cs σ h).bind λb h=>if b then (e σ h).bind λd h=>(cI g all tg cs e xs σ h).bind λds h=>.ok (d :: ds) h
    else cI g all tg cs e xs σ h
   | none=>.bad
  else .bad
@[simp] def gp (nl:Nat) (caps:List Nat) (σ:Sd):Sd:=List.replicate nl none++caps.map λi=>slot σ i
@[simp] def bM (nl:Nat) (caps:List Nat) (it:IF) (tg:GF) (cs:List TF) (e:EF):LF:=λσ h=>(it σ h).bind λp h =>
 cI p.2 p.1 tg cs e p.1 (gp nl caps σ) h
mutual
def pure? : D->Bool
 | .ref _=>false
 | .tup l=>gh l
 | .lit l=>gh l
 | .exn _ l=>gh l
 | _=>true
def gh:List D->Bool
 | []=>true
 | x :: xs=>pure? x && gh xs
end
def sG:ca->Bool
 | .lst l=>gh l
 | .dct l=>l.all λp=>pure? p.2
 | .dcT l=>l.all λp=>pure? p.2
 | .ob l=>gh l
def C7 (h h':Hd):Prop:=∀n c,n < h.length->h'[n]? = some c->h[n]? = some c\/sG c=true
def letGo (h:Hd) (r:Res D):Res D:=match r with
 | .ok d h'=>if pure? d=true/\C7 h h' then .ok d (h'.take h.length) else .ok d h'
 | r=>r
def runB (n:Nat) (b:SF):Fn:=λds h=>match b (ds.map some++List.replicate (n - ds.length) none) h with
 | .nx _ h=>.ok .non h
 | .rt d h=>.ok d h
 | .exc x _ h=>.exc x h
 | _=>.bad
def bu (np n:Nat) (b:SF):Fn:=λds h=>if ds.length=np then letGo h (runB n b ds h) else .bad
end
end Fm
namespace Fm
open PySem PySem.Spec L2
def toS (x:List Nat):Str:=⟨x.toArray⟩
def qE (K:ZX) (H:Hp) (a:Addr) (xs:List V):Prop :=
 (∃o,H a=some (.frz o (.lst xs)))\/
  ∃(o:Obj) (its:Array T0) (n:Nat),K.lookup a=some o/\o.cls=.type "list"/\o.dict=none/\o.data=.seq its n/\its.size<=sizeLine/\bi xs its.toList
def L1 (K:ZX) (p:Addr) (vs:List V):Prop:=∃(o:Obj) (its:Array T0) (n:Nat),K.lookup p=some o/\o.cls=.type "tuple"/\o.data=.seq its n/\its.size<=sizeLine/\bi vs its.toList
def wZ (vs:List V):List (Str × V):=vs.map λv=>(Str.ofString "web",v)
section
variable (K:ZX) (ρ:List Addr) (H:Hp)
mutual
def RD:D->V->Prop
 | .non,v=>v=.non
 | .bl b,v=>v=.bl b
 | .int i,v=>v=.int i
 | .str x,v=>v=.str (toS x)
 | .tup l,v=>∃p vs,v=.ref p/\H p=some (.tup vs)/\RDs l vs
 | .lit l,v=>∃p vs,v=.ref p/\qE K H p vs/\RDs l vs
 | .ref n,v=>∃a,ρ[n]? = some a/\v=.ref a
 | .exn c l,v=>(c ≠ ""/\l=[]/\∃a C,v=.ref a/\H a=some (KQ a C)/\PySem.W.nsIn K mainGlobals (Str.ofString c)=some (some (.ref C)))\/(c = ""/\∃p vs,v=.ref p/\L1 K p vs/\RDs l vs)
def RDs:List D->List V->Prop
 | [],vs=>vs=[]
 | d :: ds,vs=>∃v r,vs=v :: r/\RD d v/\RDs ds r
end
def RC:ca->Addr->Prop
 | .lst l,a=>∃vs,H a=some (.lst vs)/\RDs K ρ H l vs
 | .dct l,a=>∃kvs,H a=some (.dK kvs)/\kvs.map (·.1)=l.map (λp=>(Sum.inl p.1:Key))/\RDs K ρ H (l.map (·.2)) (kvs.map (·.2))
 | .dcT l,a=>∃kvs,H a=some (.dT kvs)/\kvs.map (·.1)=l.map (λp=>p.1.map λi=>(Sum.inl i:Key))/\RDs K ρ H (l.map (·.2)) (kvs.map (·.2))
 | .ob l,a=>∃vs C dx,H a=some (.ins C dx (wZ vs))/\RDs K ρ H l vs/\PySem.W.nsIn K mainGlobals (Str.ofString "Desk")=some (some (.ref C))
structure RH (hd:Hd):Prop where
 len : ρ.length=hd.length
 nd : ρ.Nodup
 cel:∀(n:Nat) c a,hd[n]? = some c->ρ[n]? = some a->RC K ρ H c a
structure RSt (σd:Sd) (σ:St):Prop where
 len : σd.length = σ.length
 at':∀i d,slot σd i=some d->∃v,σ[i]? = some (some v)/\RD K ρ H d v
structure RS (σd:Sd) (hd:Hd) (σ:St):Prop where
 hp:RH K ρ H hd
 st:RSt K ρ H σd σ
end
structure Ext (ρ:List Addr) (H:Hp) (ρ':List Addr) (H':Hp):Prop where
 pre:∃t,ρ' = ρ ++ t
 new:∀a ∈ ρ',a ∈ ρ\/H a=none
 frame:∀p o,H p=some o->p ∉ ρ->H' p=some o
variable {vs:List V}{l:List D}
section
variable {K:ZX} {ρ ρ' ρ'':List Addr} {H H' H'':Hp} {hd hd':Hd} {σd σd':Sd} {σ σ':St}
theorem Ext.refl:Ext ρ H ρ H:=⟨⟨[],by simp⟩,λ_ h=>.inl h,λ_ _ h _=>h⟩
theorem Ext.out (e:Ext ρ H ρ' H'){p:Addr}{o:HO}(h:H p=some o)(n:p ∉ ρ):p ∉ ρ':=λz=>by
 rcases e.new p z with q|q
 ·exact n q
 ·rw[h]at q;cases q
theorem Ext.trans (a:Ext ρ H ρ' H')(b:Ext ρ' H' ρ'' H''):Ext ρ H ρ'' H'' where
 pre:=by
  obtain⟨t,rfl⟩:=a.pre;obtain⟨u,rfl⟩:=b.pre;exact⟨t++u,by simp⟩
 new:=λx c=>by
  rcases b.new x c with q|q
  ·exact a.new x q
  ·cases e:H x with
   | none=>exact .inr rfl
   | some o =>
    by_cases hn:x ∈ ρ
    ·exact .inl hn
    ·rw[a.frame x o e hn]at q;cases q
 frame:=λp o h n=>b.frame p o (a.frame p o h n) (a.out h n)
theorem Ext.same (s:jr H H'):Ext ρ H ρ H':=⟨⟨[],by simp⟩,λ_ h=>.inl h,λp o h _=>s p o h⟩
theorem Ext.get (e:Ext ρ H ρ' H'){n:Nat}{a:Addr}(h : ρ[n]? = some a) : ρ'[n]? = some a:=by
 obtain⟨t,rfl⟩:=e.pre;rw[ZC (List.getElem?_eq_some_iff.mp h).1];exact h
theorem RH.mut (r:RH K ρ H hd){a:Addr}(h:a ∈ ρ):(∃b,H a=some (.lst b))\/(∃d,H a=some (.dK d))\/(∃d,H a=some (.dT d))\/∃C dx fs,H a=some (.ins C dx fs):=by
 obtain⟨n,f⟩:=List.getElem?_of_mem h;have g:=(List.getElem?_eq_some_iff.mp f).1;have hc:hd[n]? = some (hd[n]'(by rw[<-r.len];exact g)):=by simp
 have q:=r.cel n _ a hc f;cases e:hd[n]'(by rw[<-r.len];exact g) with
 | lst l=>rw[e]at q;obtain⟨b,c,_⟩:=q;exact .inl ⟨b,c⟩
 | dct l=>rw[e]at q;obtain⟨b,c,_⟩:=q;exact .inr (.inl ⟨b,c⟩)
 | dcT l=>rw[e]at q;obtain⟨b,c,_⟩:=q;exact .inr (.inr (.inl ⟨b,c⟩))
 | ob l=>rw[e]at q;obtain⟨b,C,dx,c,_⟩:=q;exact .inr (.inr (.inr ⟨C,dx,_,c⟩))
theorem RH.noTup (r:RH K ρ H hd){a:Addr}(h:H a=some (.tup vs)):a ∉ ρ:=λz=>by
 rcases r.mut z with ⟨_,q⟩|⟨_,q⟩|⟨_,q⟩|⟨_,_,_,q⟩<;>(rw[h]at q;cases q)
theorem RH.noFrz (r:RH K ρ H hd){a:Addr}{o:Obj}{u:HO}(h:H a=some (.frz o u)):a ∉ ρ:=λz=>by
 rcases r.mut z with ⟨_,q⟩|⟨_,q⟩|⟨_,q⟩|⟨_,_,_,q⟩<;>(rw[h]at q;cases q)
theorem RH.noExt (r:RH K ρ H hd){a:Addr}{b : Heap->Prop}(h:H a=some (.ext b)):a ∉ ρ:=λz=>by
 rcases r.mut z with ⟨_,q⟩|⟨_,q⟩|⟨_,q⟩|⟨_,_,_,q⟩<;>(rw[h]at q;cases q)
structure Kp (ρ:List Addr) (H:Hp) (ρ':List Addr) (H':Hp):Prop where
 get:∀(n:Nat) a,ρ[n]? = some a->ρ'[n]? = some a
 tup:∀a vs,H a=some (.tup vs)->H' a=some (.tup vs)
 frz:∀a o u,H a=some (.frz o u)->H' a=some (.frz o u)
 ext:∀a φ,H a=some (.ext φ)->H' a=some (.ext φ)
theorem RH.kp (r:RH K ρ H hd)(e:Ext ρ H ρ' H'):Kp ρ H ρ' H' :=
 ⟨λ_ _ h=>e.get h,λ_ _ h=>e.frame _ _ h (r.noTup h),λ_ _ _ h=>e.frame _ _ h (r.noFrz h),λ_ _ h=>e.frame _ _ h (r.noExt h)⟩
theorem Kp.same (s:jr H H'):Kp ρ H ρ H':=⟨λ_ _ h=>h,λ_ _ h=>s _ _ h,λ_ _ _ h=>s _ _ h,λ_ _ h=>s _ _ h⟩
theorem qE.mono {a:Addr}{xs:List V}(k:Kp ρ H ρ' H')(h:qE K H a xs):qE K H' a xs:=by
 rcases h with ⟨o,h⟩|h
 ·exact .inl ⟨o,k.frz _ _ _ h⟩
 ·exact .inr h
mutual
theorem RD.mono (k:Kp ρ H ρ' H'):∀{d:D} {v:V},RD K ρ H d v->RD K ρ' H' d v
 | .non,_,h=>by simp only[RD]at h ⊢;exact h
 | .bl _,_,h=>by simp only[RD]at h ⊢;exact h
 | .int _,_,h=>by simp only[RD]at h ⊢;exact h
 | .str _,_,h=>by simp only[RD]at h ⊢;exact h
 | .tup l,_,h=>by
  simp only[RD]at h ⊢;obtain⟨p,f,e,b,c⟩:=h;exact⟨p,f,e,k.tup _ _ b,RDs.mono k c⟩
 | .lit l,_,h=>by
  simp only[RD]at h ⊢;obtain⟨p,f,e,b,c⟩:=h;exact⟨p,f,e,b.mono k,RDs.mono k c⟩
 | .ref n,_,h=>by
  simp only[RD]at h ⊢;obtain⟨a,b,c⟩:=h;exact⟨a,k.get _ _ b,c⟩
 | .exn _ l,_,h=>by
  simp only[RD]at h ⊢;rcases h with ⟨en,e0,a,C,e,b,c⟩|⟨e0,p,f,e,b,c⟩
  ·exact .inl ⟨en,e0,a,C,e,k.ext _ _ b,c⟩
  ·exact .inr ⟨e0,p,f,e,b,RDs.mono k c⟩
theorem RDs.mono (k:Kp ρ H ρ' H'):∀{l:List D} {a:List V},RDs K ρ H l a->RDs K ρ' H' l a
 | [],_,h=>by simp only[RDs]at h ⊢;exact h
 | d :: ds,_,h=>by
  simp only[RDs]at h ⊢;obtain⟨v,r,e,b,c⟩:=h;exact⟨v,r,e,RD.mono k b,RDs.mono k c⟩
end
theorem RDs.nil:RDs K ρ H [] []:=by simp only[RDs]
theorem RDs.cons {d:D}{v:V}{ds:List D}(h:RD K ρ H d v)(t:RDs K ρ H ds vs):RDs K ρ H (d :: ds) (v :: vs):=by
 simp only[RDs];exact⟨v,vs,rfl,h,t⟩
theorem RDs.length:∀{l:List D} {a:List V},RDs K ρ H l a->l.length=a.length
 | [],_,h=>by simp only[RDs]at h;subst h;rfl
 | d :: ds,_,h=>by
  simp only[RDs]at h;obtain⟨v,r,e,c,b⟩:=h;subst e;simp[RDs.length b]
theorem RDs.get:∀{l:List D} {c:List V} {i:Nat} {d:D},RDs K ρ H l c->l[i]? = some d->∃v,c[i]? = some v/\RD K ρ H d v
 | [],_,i,_,_,e=>by simp at e
 | d :: ds,_,0,_,h,e=>by
  simp only[RDs]at h;obtain⟨v,r,a,b,f⟩:=h;subst a;simp at e;subst e;exact⟨v,rfl,b⟩
 | d :: ds,_,i + 1,x,h,e=>by
  simp only[RDs]at h;obtain⟨v,r,a,b,f⟩:=h;subst a;obtain⟨w,hw,q⟩:=RDs.get (i:=i) (d:=x) f (by simpa using e);exact⟨w,by simpa using hw,q⟩
theorem RDs.set {d:D}{v:V}(h:RD K ρ H d v):∀{l:List D} {a:List V} (i:Nat),RDs K ρ H l a->RDs K ρ H (l.set i d) (a.set i v)
 | [],_,_,q=>by simp only[RDs]at q;subst q;exact RDs.nil
 | x :: xs,_,i,q=>by
  simp only[RDs]at q;obtain⟨w,r,e,c,b⟩:=q;subst e;cases i with
  | zero=>exact RDs.cons h b
  | succ i=>exact RDs.cons c (RDs.set h i b)
theorem RDs.append:∀{l c:List D} {b a:List V},RDs K ρ H l b->RDs K ρ H c a->RDs K ρ H (l++c) (b++a)
 | [],_,_,_,h,q=>by simp only[RDs]at h;subst h;exact q
 | d :: ds,_,_,_,h,q=>by
  simp only[RDs]at h;obtain⟨v,r,e,f,g⟩:=h;subst e;exact RDs.cons f (RDs.append g q)
theorem RDs.take:∀{l:List D} {a:List V} (n:Nat),RDs K ρ H l a->RDs K ρ H (l.take n) (a.take n)
 | _,_,0,_=>by simp;exact RDs.nil
 | [],_,n + 1,h=>by simp only[RDs]at h;subst h;exact RDs.nil
 | d :: ds,_,n + 1,h=>by
  simp only[RDs]at h;obtain⟨v,r,e,b,c⟩:=h;subst e;exact RDs.cons b (RDs.take n c)
theorem RDs.drop:∀{l:List D} {a:List V} (n:Nat),RDs K ρ H l a->RDs K ρ H (l.drop n) (a.drop n)
 | _,_,0,h=>by simpa using h
 | [],_,n + 1,h=>by simp only[RDs]at h;subst h;exact RDs.nil
 | d :: ds,_,n + 1,h=>by
  simp only[RDs]at h;obtain⟨v,r,e,c,b⟩:=h;subst e;simpa using RDs.drop n b
theorem RC.mono {c:ca}{a:Addr}(k:Kp ρ H ρ' H')(e:H' a=H a)(h:RC K ρ H c a):RC K ρ' H' c a:=by
 cases c with
 | lst l=>obtain⟨d,b,f⟩:=h;exact⟨d,e.trans b,f.mono k⟩
 | dct l=>obtain⟨d,b,f,g⟩:=h;exact⟨d,e.trans b,f,g.mono k⟩
 | dcT l=>obtain⟨d,b,f,g⟩:=h;exact⟨d,e.trans b,f,g.mono k⟩
 | ob l=>obtain⟨d,C,dx,b,f,g⟩:=h;exact⟨d,C,dx,e.trans b,f.mono k,g⟩
theorem RH.same (r:RH K ρ H hd)(s:jr H H'):RH K ρ H' hd :=
 ⟨r.len,r.nd,λn c a d b=>(r.cel n c a d b).mono (Kp.same s) (by
  rcases r.mut (ZK b) with ⟨_,q⟩|⟨_,q⟩|⟨_,q⟩|⟨_,_,_,q⟩<;>rw[q,s _ _ q])⟩
theorem RSt.mono (k:Kp ρ H ρ' H')(r:RSt K ρ H σd σ):RSt K ρ' H' σd σ :=
 ⟨r.len,λi d h=>let ⟨v,h1,h2⟩:=r.at' i d h;⟨v,h1,h2.mono k⟩⟩
theorem RS.same (r:RS K ρ H σd hd σ)(s:jr H H'):RS K ρ H' σd hd σ:=⟨r.hp.same s,r.st.mono (Kp.same s)⟩
theorem cv {p:Addr}{o:HO}(h:H p=none):jr H (upd H p o):=λb u e=>by
 rw[aM (bO e h)];exact e
theorem RH.alloc (r:RH K ρ H hd){p:Addr}(hp:H p=some (.lst vs))(i:p ∉ ρ)(h:RDs K ρ H l vs):RH K (ρ ++ [p]) H (hd++[.lst l]):=by
 have k:Kp ρ H (ρ ++ [p]) H:=⟨λn a e=>by rw[ZC (List.getElem?_eq_some_iff.mp e).1];exact e,λ_ _ h=>h,λ_ _ _ h=>h,λ_ _ h=>h⟩;refine⟨by simp[r.len],?_,λn c a d f => ?_⟩
 ·rw[List.nodup_append]
  exact⟨r.nd,by simp,λa m b g=>by simp at g;subst g;intro e;subst e;exact i m⟩
 ·by_cases hlt:n < hd.length
  ·rw[ZC hlt]at d
   rw[ZC (by rw[r.len];exact hlt)]at f;exact(r.cel n c a d f).mono k rfl
  ·have j:n=hd.length:=by
    have:=(List.getElem?_eq_some_iff.mp d).1;simp at this;omega
   subst j;simp at d;subst d;rw[<-r.len]at f;simp at f;subst f;exact⟨vs,hp,h.mono k⟩
theorem n6 {α : Type}:∀{l:List α},l.Nodup->∀{i j:Nat} {x : α},l[i]? = some x->l[j]? = some x->i=j
 | [],_,i,_,_,e,_=>by simp at e
 | a :: l,nd,0,0,_,_,_=>rfl
 | a :: l,nd,0,j + 1,x,e,e'=>by
  simp at e e';subst e;exact absurd (ZK e') (List.nodup_cons.mp nd).1
 | a :: l,nd,i + 1,0,x,e,e'=>by
  simp at e e';subst e';exact absurd (ZK e) (List.nodup_cons.mp nd).1
 | a :: l,nd,i + 1,j + 1,x,e,e'=>by
  simp at e e';rw[n6 (List.nodup_cons.mp nd).2 e e']
theorem RH.write (r:RH K ρ H hd){n:Nat}{p:Addr}(hp : ρ[n]? = some p)(g:n < hd.length)(h:RDs K ρ H l vs):RH K ρ (upd H p (.lst vs)) (hd.set n (.lst l)):=by
 have k:Kp ρ H ρ (upd H p (.lst vs)):=by
  have f:=ZK hp;refine⟨λ_ _ h=>h,λa j e => ?_,λa o u e => ?_,λa i e => ?_⟩
  ·rw[aM (λz=>r.noTup e (by rw[z];exact f))];exact e
  ·rw[aM (λz=>r.noFrz e (by rw[z];exact f))];exact e
  ·rw[aM (λz=>r.noExt e (by rw[z];exact f))];exact e
 refine⟨by simp[r.len],r.nd,λm c a b d => ?_⟩
 by_cases e:n=m
 ·subst e
  rw[List.getElem?_set_self g]at b;cases b;rw[hp]at d;cases d;exact⟨vs,bp,h.mono k⟩
 ·rw[ZP e]at b
  have ne:a≠p:=λz=>by
   subst z;exact e (n6 r.nd hp d)
  exact(r.cel m c a b d).mono k (aM ne)
theorem Ext.write {p:Addr}{o:HO}(hp:p ∈ ρ):Ext ρ H ρ (upd H p o) :=
 ⟨⟨[],by simp⟩,λ_ h=>.inl h,λq u e n=>by rw[aM (λz=>n (by rw[z];exact hp))];exact e⟩
theorem Ext.alloc {p:Addr}(h:H p=none){o:HO}:Ext ρ H (ρ ++ [p]) (upd H p o) :=
 ⟨⟨[p],rfl⟩,λa b=>by
  rcases List.mem_append.mp b with q|q
  ·exact .inl q
  ·simp at q;subst q;exact .inr h,λq u e _=>cv h q u e⟩
theorem RS.ext (r:RS K ρ H σd hd σ)(e:Ext ρ H ρ' H')(h:RH K ρ' H' hd'):RS K ρ' H' σd hd' σ:=⟨h,r.st.mono (r.hp.kp e)⟩
end
abbrev VR (α β : Type):=List Addr->Hp->α->β->Prop
section
variable (K:ZX)
def bx {α β : Type} (R:VR α β) (ρ:List Addr) (H:Hp) (σd:Sd) (σ:St) (r:Res α) (Q : β->Hp->Prop):Prop:=match r with
 | .ok a hd'=>∀b H' ρ',Ext ρ H ρ' H'->RS K ρ' H' σd hd' σ->R ρ' H' a b->Q b H'
 | _=>False
def k8 {α β : Type} (R:VR α β) (f:Sd->Hd->Res α):St->Hp->(β->Hp->Prop)->Prop:=λσ H Q =>
 ∃ρ σd hd,RS K ρ H σd hd σ/\bx K R ρ H σd σ (f σd hd) Q
abbrev rD:VR D V:=λρ H d v=>RD K ρ H d v
abbrev rDs:VR (List D) (List V):=λρ H d v=>RDs K ρ H d v
abbrev rB:VR Bool Bool:=λ_ _ a b=>a=b
abbrev rO:VR (Option Int) (Option Int):=λ_ _ a b=>a=b
def rQ:VR (List D) V:=λρ H l v=>∃p vs,v=.ref p/\(SqL K H p vs\/H p=some (.tup vs))/\RDs K ρ H l vs
def y7 (ρ:List Addr) (H:Hp) (σd:Sd) (σ:St) (r:Res (List D)) (Q:VK):Prop:=match r with
 | .ok l hd'=>∀q vs H' ρ',Ext ρ H ρ' H'->RS K ρ' H' σd hd' σ->H q=none->H' q=some (.lst vs)->q ∉ ρ'->RDs K ρ' H' l vs->Q (.ref q) H'
 | _=>False
def Oh (f:LF):TE:=λσ H Q=>∃ρ σd hd,RS K ρ H σd hd σ/\y7 K ρ H σd σ (f σd hd) Q
def cD (ρ:List Addr) (H:Hp) (o:Out) (E:wN):Prop:=match o with
 | .nx σd hd=>∀σ H' ρ',Ext ρ H ρ' H'->RS K ρ' H' σd hd σ->E.nx σ H'
 | .bk σd hd=>∀σ H' ρ',Ext ρ H ρ' H'->RS K ρ' H' σd hd σ->E.bk σ H'
 | .ct σd hd=>∀σ H' ρ',Ext ρ H ρ' H'->RS K ρ' H' σd hd σ->E.ct σ H'
 | .rt d hd=>∀v H' ρ',Ext ρ H ρ' H'->RH K ρ' H' hd->RD K ρ' H' d v->E.rt v H'
 | _=>False
def KR (f:SF):TS:=λE σ H=>∃ρ σd hd,RS K ρ H σd hd σ/\cD K ρ H (f σd hd) E
end
def ME (X:Cx) (e:Expr) (f:EF):Prop:=PE X e (k8 X.K (rD X.K) f)
def MQ (X:Cx) (e:Expr) (f:LF):Prop:=PE X e (k8 X.K (rQ X.K) f)
def MF (X:Cx) (e:Expr) (f:LF):Prop:=PE X e (Oh X.K f)
def MT (X:Cx) (e:Expr) (f:TF):Prop:=PT X e (k8 X.K rB f)
def MW (X:Cx) (e:Expr) (f:TF):Prop:=PW X e (k8 X.K rB f)
def MA (X:Cx) (es:List Expr) (f:LF):Prop:=PA X es (k8 X.K (rDs X.K) f)
def MS (X:Cx) (s:Stmt) (f:SF):Prop:=PS X s (KR X.K f)
def MSs (X:Cx) (s:List Stmt) (f:SF):Prop:=PSs X s (KR X.K f)
variable {e:Expr}
section
variable {X:Cx}
theorem PE.imp {t u:TE}(h:PE X e t)(i:∀σ H Q,u σ H Q->t σ H Q):PE X e u:=λpins s σ H Q I q=>h pins s σ H Q I (i σ H Q q)
theorem PT.imp {t u:TT}(h:PT X e t)(i:∀σ H Q,u σ H Q->t σ H Q):PT X e u:=λpins s σ H Q I q=>h pins s σ H Q I (i σ H Q q)
theorem PW.imp {t u:TT}(h:PW X e t)(i:∀σ H Q,u σ H Q->t σ H Q):PW X e u:=λw pins s σ H Q I q=>h w pins s σ H Q I (i σ H Q q)
theorem PA.imp {e:List Expr}{t u:TA}(h:PA X e t)(i:∀σ H Q,u σ H Q->t σ H Q):PA X e u:=λp pins s σ H Q I q=>h p pins s σ H Q I (i σ H Q q)
theorem PS.imp {e:Stmt}{t u:TS}(h:PS X e t)(i:∀D σ H,u D σ H->t D σ H):PS X e u:=λpins s σ H D I q=>h pins s σ H D I (i D σ H q)
theorem PSs.imp {e:List Stmt}{t u:TS}(h:PSs X e t)(i:∀D σ H,u D σ H->t D σ H):PSs X e u:=λpins s σ H D I q=>h pins s σ H D I (i D σ H q)
end
section
variable {K:ZX} {ρ ρ':List Addr} {H H':Hp} {hd hd':Hd} {σd:Sd} {σ:St} {α β α' β':Type} {R:VR α β} {R':VR α' β'}
theorem bx.here {a : α}{b : β}{Q : β->Hp->Prop}(h:bx K R ρ H σd σ (.ok a hd) Q)(r:RS K ρ H σd hd σ)(q:R ρ H a b):Q b H:=h b H ρ Ext.refl r q
theorem bx.at {a : α}{b : β}{Q : β->Hp->Prop}(h:bx K R ρ H σd σ (.ok a hd) Q)(e:Ext ρ H ρ' H')(r:RS K ρ' H' σd hd σ)(q:R ρ' H' a b):Q b H':=h b H' ρ' e r q
theorem bx.imp {r:Res α}{Q c : β->Hp->Prop}(h:bx K R ρ H σd σ r Q)(i:∀b H',Q b H'->c b H'):bx K R ρ H σd σ r c:=by
 cases r with
 | ok a h'=>exact λb H' ρ' e s q=>i b H' (h b H' ρ' e s q)
 | exc x h'=>exact h
 | bad=>exact h
theorem bx.ext {r:Res α}{Q : β->Hp->Prop}(e:Ext ρ H ρ' H')(h:bx K R ρ H σd σ r Q):bx K R ρ' H' σd σ r Q:=by
 cases r with
 | ok a h'=>exact λb H'' ρ'' c s q=>h b H'' ρ'' (e.trans c) s q
 | exc x h'=>exact h
 | bad=>exact h
theorem bx.bind {r:Res α}{k : α->Hd->Res α'}{Q : β'->Hp->Prop}(h:bx K R' ρ H σd σ (r.bind k) Q) :
  bx K R ρ H σd σ r (λb H'=>∃ρ' a hd',Ext ρ H ρ' H'/\RS K ρ' H' σd hd' σ/\R ρ' H' a b/\bx K R' ρ' H' σd σ (k a hd') Q):=by
 cases r with
 | ok a h'=>exact λb H' ρ' e s q=>⟨ρ',a,h',e,s,q,bx.ext e h⟩
 | exc x h'=>exact h
 | bad=>exact h
theorem cD.ext {o:Out}{E:wN}(e:Ext ρ H ρ' H')(h:cD K ρ H o E):cD K ρ' H' o E:=by
 cases o with
 | nx σ h'=>exact λσ' H'' ρ'' a s=>h σ' H'' ρ'' (e.trans a) s
 | bk σ h'=>exact λσ' H'' ρ'' a s=>h σ' H'' ρ'' (e.trans a) s
 | ct σ h'=>exact λσ' H'' ρ'' a s=>h σ' H'' ρ'' (e.trans a) s
 | rt d h'=>exact λv H'' ρ'' a s q=>h v H'' ρ'' (e.trans a) s q
 | exc x σ h'=>exact h
 | bad=>exact h
end
variable {x:Str}{K:ZX}{fa f:EF}{b:Expr}{H:Hp}{ρ:List Addr}{t:TF}
section
variable {X:Cx} {pos:Pos}
theorem L3 {i:Nat}  (f:X.N[i]? = some x) (c:Vis X.env.scope x) (hd:(x == ("__debug__" : Str))=false:=by decide) (a:(x == ("__classdict__" : Str))=false:=by decide):ME X (.Name x pos) (aa i):=by
 refine PE.imp (Lm f c hd a) λσ H Q ⟨ρ,σd,hd,r,h⟩ => ?_;unfold aa at h;cases e:slot σd i with
 | none=>rw[e]at h;exact h.elim
 | some d =>
  rw[e]at h;obtain⟨v,b,g⟩:=r.st.at' i d e;exact⟨v,b,h.here r g⟩
theorem pc {d:D}{v:V}(a:∀ρ H,RD K ρ H d v):∀σ H Q,k8 K (rD K) (fC d) σ H Q->tC v σ H Q:=λ_ H _ ⟨ρ,_,_,r,h⟩=>h.here r (a ρ H)
theorem aj {i:Int}{j}:ME X (.Constant (.int i) j pos) (fC (.int i)):=PE.imp FV (pc λ_ _=>by simp only[RD])
theorem fW {b j}:ME X (.Constant (.bool b) j pos) (fC (.bl b)):=PE.imp NL (pc λ_ _=>by simp only[RD])
theorem fH {j}:ME X (.Constant .none j pos) (fC .non):=PE.imp Lp (pc λ_ _=>by simp only[RD])
theorem br {j}(l:List Nat)(h:x=toS l):ME X (.Constant (.str x) j pos) (fC (.str l)):=PE.imp wO (pc λ_ _=>by simp only[RD];rw[h])
theorem n9  {i:Int} {t:Tok} (a:Gl X x) (hm:X.mg x=some (.int i t)) (hd:(x == ("__debug__" : Str))=false:=by decide):ME X (.Name x pos) (fC (.int i)) :=
 PE.imp (mn (v:=.int i) a hm ⟨t,rfl⟩ hd) (pc λ_ _=>by simp only[RD])
theorem me2 {a b:Expr}{o:EF}{r:R2}{g:O2}(h:PE X e (tOp r (k8 X.K (rD X.K) fa) (k8 X.K (rD X.K) o)))
  (q:∀ρ H σd hd σ d k v w Q,RS X.K ρ H σd hd σ->RD X.K ρ H d v->RD X.K ρ H k w->bx X.K (rD X.K) ρ H σd σ (g d k hd) Q->r v w H Q):ME X e (af g fa o):=by
 refine PE.imp h λσ H Q ⟨ρ,σd,hd,y,p⟩ => ?_;refine⟨ρ,σd,hd,y,(bx.bind (R:=rD X.K) p).imp λv H1 ⟨i,d,m,z,c,t,x⟩ => ?_⟩;refine⟨i,σd,m,c,(bx.bind (R:=rD X.K) x).imp λw u ⟨j,k,n,s,l,f,p2⟩ => ?_⟩;exact q j u σd n σ d k v w Q l (t.mono (c.hp.kp s)) f p2
def Og (K:ZX) (g:O2) (r:R2):Prop:=∀ρ H σd hd σ d k v w Q,RS K ρ H σd hd σ->RD K ρ H d v->RD K ρ H k w->bx K (rD K) ρ H σd σ (g d k hd) Q->r v w H Q
theorem aU {a:Expr}{c:EF}{op:Operator}{r:R2}{g:O2}(d:OpR X (binaryOp op) r)(f:Og X.K g r)(e:ME X a fa)(h:ME X b c):ME X (.BinOp a op b pos) (af g fa c) :=
 me2 (a:=a) (b:=b) (Gb d e h) f
theorem dL {a:Expr}{c:EF}{op:CmpOp}{r:R2}{g:O2}(d:OpR X (compareOp op) r)(f:Og X.K g r)(e:ME X a fa)(h:ME X b c)(hm:behindInMarks op b=false):ME X (.Compare a [op] [b] pos) (af g fa c) :=
 me2 (a:=a) (b:=b) (IU d e h hm) f
theorem lh {g:Int->Int->Int}:Og K (oI g) (rI0 λi j=>.int (g i j)):=by
 intro ρ H σd hd σ d k v w Q c b a p;cases d<;>cases k<;>first|exact p.elim|skip
 simp only[RD]at b a;exact⟨_,_,b,a,p.here c (by simp only[rD,RD])⟩
theorem pd {g:Int->Int->Bool}:Og K (oB g) (rI0 λi j=>.bl (g i j)):=by
 intro ρ H σd hd σ d k v w Q c b a p;cases d<;>cases k<;>first|exact p.elim|skip
 simp only[RD]at b a;exact⟨_,_,b,a,p.here c (by simp only[rD,RD])⟩
theorem Gz {c:Int->Int->Bool}{C:Int->Int->Prop}{g:Int->Int->Int}(hc:∀i j,c i j=true->C i j):Og K (oIc c g) (rI C λi j=>.int (g i j)):=by
 intro ρ H σd hd σ d k v w Q f b a p;cases d<;>cases k<;>first|exact p.elim|skip
 rename_i i j
 simp only[RD]at b a;cases e:c i j with
 | false=>simp only[oIc,e]at p;exact p.elim
 | true =>
  simp only[oIc,e,YP]at p;exact⟨i,j,b,a,hc i j e,p.here f (by simp only[rD,RD])⟩
theorem C8 {i:Int}(h:sml i=true) : -(2 ^ 64) < i/\i < 2 ^ 64:=by
 simp only[sml,Z3,YH]at h;exact h
theorem eP:Og K cB (rI IT λi j=>.int (i * j)):=Gz λi j h=>by
 rcases (Bool.or_eq_true _ _).mp h with q|q
 ·exact .inl (C8 q)
 ·exact .inr (C8 q)
theorem fI:Og K dh (rI (λ_ j=>0 < j) λi j=>.int (i % j)):=Gz λi j h=>XB h
def Oi (_ j:Int):Prop:=0 < j/\j < 2 ^ 250
theorem iL:OpR X (binaryOp .FloorDiv) (rI Oi λi j=>.int (i / j)):=opI λi j _ _ _ _ _ hc q=>by
 have b:j≠0:=by have:=hc.1;omega
 refine PyProof.Rows.floordiv_int b (by rw[Int.fdiv_eq_ediv_of_nonneg _ (Int.le_of_lt hc.1)];exact q) (.inl (PyProof.noPylong_of_log2 ?_));have c:j.natAbs < 2 ^ 250:=by have:=hc.2;have:=hc.1;omega
 have a:j.natAbs≠0:=by omega
 have:=(Nat.log2_lt a).mpr c;omega
theorem mW:Og K kS (rI Oi λi j=>.int (i / j)):=Gz λi j h=>by
 simp only[Z3,YH]at h;exact h
theorem w4 {d:D}{v:V}(h:RD K ρ H d v):sC d=decide (v=.non):=by
 cases d<;>simp only[RD]at h
 ·subst h;rfl
 ·subst h;rfl
 ·subst h;rfl
 ·subst h;rfl
 ·obtain⟨p,a,rfl,_⟩:=h;rfl
 ·obtain⟨p,a,rfl⟩:=h;rfl
 ·obtain⟨p,a,rfl,_⟩:=h;rfl
 ·rcases h with ⟨_,_,p,a,rfl,_⟩|⟨_,p,a,rfl,_⟩<;>rfl
theorem Bl:Og K Bk (λx y H Q=>y=.non/\Q (.bl (decide (x=.non))) H):=by
 intro ρ H σd hd σ d k v w Q b c a p;unfold Bk at p;cases e:sC k with
 | false=>rw[e]at p;exact p.elim
 | true =>
  rw[e,z4 rfl]at p;refine⟨XB ((w4 a).symm.trans e),?_⟩;rw[<-w4 c];exact p.here b (by simp only[rD,RD])
theorem mr:Og K ja (λx y H Q=>y=.non/\Q (.bl (!decide (x=.non))) H):=by
 intro ρ H σd hd σ d k v w Q b c a p;unfold ja at p;cases e:sC k with
 | false=>rw[e]at p;exact p.elim
 | true =>
  rw[e,z4 rfl]at p;refine⟨XB ((w4 a).symm.trans e),?_⟩;rw[<-w4 c];exact p.here b (by simp only[rD,RD])
theorem iE {σd:Sd}{σ:St}{r:Res D}{Q:Bool->Hp->Prop}(h:bx K rB ρ H σd σ (asB r) Q):bx K (rD K) ρ H σd σ r (λx H'=>∃c,x=.bl c/\Q c H'):=by
 refine(bx.bind (R:=rD K) h).imp λv H1 ⟨f,d,g,i,a,b,e⟩ => ?_;cases d<;>first|exact e.elim|skip
 simp only[rD,RD]at b;exact⟨_,b,e.here a rfl⟩
theorem bW (h:ME X e f)(he:∀a,isTrue e X.env a=(do let v <-a;standAt e.pos;holding [v] (truthy v)):=by intro _;rfl):MT X e (tE f) :=
 PT.imp (Lq h he) λσ H Q ⟨ρ,σd,hd,b,p⟩=>⟨ρ,σd,hd,b,iE p⟩
theorem aY {a:Expr}{m:EF}{op:CmpOp}{r:R2}{g:O2}(n:OpR X (compareOp op) r)(o:Og X.K g r)(x:ME X a fa)(s:ME X b m)(hm:behindInMarks op b=false):MT X (.Compare a [op] [b] pos) (tE (af g fa m)):=by
 refine PT.imp (rK n x s hm) λσ H Q ⟨ρ,σd,hd,z,p⟩ => ?_;have p:=iE p;refine⟨ρ,σd,hd,z,(bx.bind (R:=rD X.K) p).imp λv H1 ⟨f,d,j,A,c,t,y⟩ => ?_⟩;refine⟨f,σd,j,c,(bx.bind (R:=rD X.K) y).imp λw u ⟨h,k,l,q,i,e,p2⟩ => ?_⟩;exact o h u σd l σ d k v w _ i (t.mono (c.hp.kp q)) e p2
theorem cf {a:Expr}(h:MT X a t):MT X (.UnaryOp .Not a pos) (cX t):=by
 refine PT.imp (Lu h) λσ H Q ⟨ρ,σd,hd,j,p⟩=>⟨ρ,σd,hd,j,(bx.bind (R:=rB) p).imp λc H1 ⟨e,d,g,k,b,f,i⟩ => ?_⟩;cases f;exact i.here b rfl
theorem fu {op a}(h:MT X a t)(b:op=BoolOp.And\/op=BoolOp.Or):MW X (.BoolOp op [a] pos) t:=by
 rcases b with rfl|rfl
 ·exact IN h
 ·exact Lr h
theorem Bm {a:Expr}{rest:List Expr}{u:TF}(k:MT X a t)(i:MW X (.BoolOp .And (b :: rest) pos) u):MW X (.BoolOp .And (a :: b :: rest) pos) (jV t u):=by
 refine PW.imp (Ls k i) λσ H Q ⟨ρ,σd,hd,l,p⟩=>⟨ρ,σd,hd,l,(bx.bind (R:=rB) p).imp λc H1 ⟨g,d,h,m,e,j,f⟩ => ?_⟩;cases j;cases c with
 | true=>simp only[YP]at f ⊢;exact⟨g,σd,h,e,f⟩
 | false=>simp only[YB,Y7]at f ⊢;exact f.here e rfl
theorem jb {a:Expr}{rest:List Expr}{u:TF}(k:MT X a t)(i:MW X (.BoolOp .Or (b :: rest) pos) u):MW X (.BoolOp .Or (a :: b :: rest) pos) (tOr t u):=by
 refine PW.imp (NM k i) λσ H Q ⟨ρ,σd,hd,l,p⟩=>⟨ρ,σd,hd,l,(bx.bind (R:=rB) p).imp λc H1 ⟨g,d,h,m,e,j,f⟩ => ?_⟩;cases j;cases c with
 | true=>simp only[YP]at f ⊢;exact f.here e rfl
 | false=>simp only[YB,Y7]at f ⊢;exact⟨g,σd,h,e,f⟩
theorem MW.mt (h:MW X e t):MT X e t:=h.pt
theorem Jl {σ:St}{Q:VK}(h:k8 K (rD K) (fT t) σ H Q):k8 K rB t σ H (λb H'=>Q (.bl b) H'):=by
 obtain⟨ρ,σd,hd,j,p⟩:=h;refine⟨ρ,σd,hd,j,(bx.bind (R:=rB) p).imp λc H1 ⟨e,d,g,k,a,f,i⟩ => ?_⟩;cases f;exact i.here a (by simp only[rD,RD])
def MB (X:Cx) (e:Expr) (t:TF):Prop:=PE X e (λσ H Q=>k8 X.K rB t σ H λb H'=>Q (.bl b) H')
theorem MB.me (h:MB X e t):ME X e (fT t):=PE.imp h λ_ _ _ q=>Jl q
theorem ii (h:ME X e f):MB X e (tE f):=by
 refine PE.imp h λσ H Q ⟨ρ,σd,hd,a,p⟩=>⟨ρ,σd,hd,a,(iE p).imp ?_⟩;rintro v H1 ⟨c,rfl,q⟩;exact q
theorem li {op a}(h:MB X a t):MB X (.BoolOp op [a] pos) t:=Lv h
theorem ph {a:Expr}{rest:List Expr}{u:TF}(k:MB X a t)(i:MB X (.BoolOp .And (b :: rest) pos) u):MB X (.BoolOp .And (a :: b :: rest) pos) (jV t u):=by
 refine PE.imp (Lw k i) λσ H Q ⟨ρ,σd,hd,l,p⟩=>⟨ρ,σd,hd,l,(bx.bind (R:=rB) p).imp λc H1 ⟨g,d,h,m,e,j,f⟩=>⟨c,rfl,?_⟩⟩;cases j;cases c with
 | true=>simp only[YP]at f ⊢;exact⟨g,σd,h,e,f⟩
 | false=>simp only[YB,Y7]at f ⊢;exact f.here e rfl
theorem GA {a:Expr}{rest:List Expr}{u:TF}(k:MB X a t)(i:MB X (.BoolOp .Or (b :: rest) pos) u):MB X (.BoolOp .Or (a :: b :: rest) pos) (tOr t u):=by
 refine PE.imp (NP k i) λσ H Q ⟨ρ,σd,hd,l,p⟩=>⟨ρ,σd,hd,l,(bx.bind (R:=rB) p).imp λc H1 ⟨g,d,h,m,e,j,f⟩=>⟨c,rfl,?_⟩⟩;cases j;cases c with
 | true=>simp only[YP]at f ⊢;exact f.here e rfl
 | false=>simp only[YB,Y7]at f ⊢;exact⟨g,σd,h,e,f⟩
theorem L4 {a:Expr}(h:MB X a t):MB X (.UnaryOp .Not a pos) (cX t):=by
 refine PE.imp (Lx h) λσ H Q ⟨ρ,σd,hd,j,p⟩=>⟨ρ,σd,hd,j,(bx.bind (R:=rB) p).imp λc H1 ⟨e,d,g,k,b,f,i⟩=>⟨c,rfl,?_⟩⟩;cases f;exact i.here b rfl
theorem C9 {c a:Expr}{i:EF}(hc:MT X c t)(l:ME X a fa)(j:ME X b i):ME X (.IfExp c a b pos) (fIf t fa i):=by
 refine PE.imp (FW hc l j) λσ H Q ⟨ρ,σd,hd,m,p⟩=>⟨ρ,σd,hd,m,(bx.bind (R:=rB) p).imp λc H1 ⟨e,d,g,n,f,k,h⟩ => ?_⟩;cases k;cases c with
 | true=>simp only[YP]at h ⊢;exact⟨e,σd,g,f,h⟩
 | false=>simp only[YB,Y7]at h ⊢;exact⟨e,σd,g,f,h⟩
end
variable {es:List Expr}
section
variable {X:Cx} {pos:Pos}
theorem Bn {σd:Sd}{hd:Hd}{σ:St}{r A:R2}{g k:O2}{B t:EF}{Q:VK}(E:Og K g r)(D:Og K k A)(rs:RS K ρ H σd hd σ)
  (p:bx K (rD K) ρ H σd σ (sD g k fa B t σd hd) Q):Gc r A (k8 K (rD K) fa) (k8 K (rD K) B) (k8 K (rD K) t) σ H Q:=by
 refine⟨ρ,σd,hd,rs,(bx.bind (R:=rD K) p).imp λv H1 ⟨h,d,m,U,f,L,P⟩ => ?_⟩;refine⟨h,σd,m,f,(bx.bind (R:=rD K) P).imp λw N ⟨i,y,o,G,e,c,p2⟩ => ?_⟩;refine E i N σd o σ d y v w _ e (L.mono (f.hp.kp G)) c ((bx.bind (R:=rD K) p2).imp λz T ⟨s,O,j,I,a,x,p3⟩ => ?_);cases O<;>first|exact p3.elim|skip
 rename_i b
 simp only[rD,RD]at x;refine⟨b,x,?_⟩;cases b with
 | false =>
  rw[z5 ZY];exact p3.here a (by simp only[rD,RD])
 | true =>
  rw[z4 rfl];refine⟨s,σd,j,a,(bx.bind (R:=rD K) p3).imp λu C ⟨n,M,l,S,q,F,J⟩ => ?_⟩;exact D n C σd l σ y M w u Q q ((c.mono (e.hp.kp I)).mono (a.hp.kp S)) F J
theorem GB {a c:Expr}{i:EF}{op d:CmpOp}{r h:R2}{g k:O2}(j:OpR X (compareOp op) r)(e:OpR X (compareOp d) h)(m:Og X.K g r)(l:Og X.K k h)(o:ME X a fa)(n:ME X b i)(hc:ME X c f)
  (hm:lastMarks [op,d] [b,c] = false:=by with_unfolding_all rfl):ME X (.Compare a [op,d] [b,c] pos) (sD g k fa i f) :=
 PE.imp (Ge j e o n hc hm) λ_ _ _ ⟨_,_,_,q,p⟩=>Bn m l q p
theorem au:MA X [] ao:=PA.imp dI λ_ _ _ ⟨_,_,_,a,p⟩=>p.here a RDs.nil
theorem ad {r:LF}(he:ME X e f)(k:MA X es r)(m:starEach (e :: es) X.env=(false,eval e X.env) :: starEach es X.env:=by rfl):MA X (e :: es) (ab f r):=by
 refine PA.imp (cw he k m) λσ H Q ⟨ρ,σd,hd,q,p⟩ => ?_;refine⟨ρ,σd,hd,q,(bx.bind (R:=rD X.K) p).imp λv H1 ⟨b,d,h,u,a,l,n⟩ => ?_⟩;refine⟨b,σd,h,a,(bx.bind (R:=rDs X.K) n).imp λs t ⟨i,ds,o,j,c,g,p2⟩ => ?_⟩;exact p2.here c (RDs.cons (l.mono (a.hp.kp j)) g)
theorem rM {n:Nat}(h:n<=SZ):n<=sizeLine:=ZM h (by show 1000000<=2 ^ 24;decide)
theorem pi {k}{r:LF}(h:MA X es r):ME X (.Tuple es k pos) (i9 r):=by
 refine PE.imp (Gh h) λσ H Q ⟨ρ,σd,hd,j,p⟩ => ?_;refine⟨ρ,σd,hd,j,(bx.bind (R:=rDs X.K) p).imp λe H1 ⟨f,ds,i,l,d,a,b⟩ => ?_⟩
 by_cases hz:ds.length<=SZ
 ·rw[z4 hz]at b
  refine⟨by rw[<-a.length];exact rM hz,λq g => ?_⟩;have c:=cv (o:=HO.tup e) g;exact b.at (Ext.same c) (d.same c) (by simp only[rD,RD];exact⟨q,e,rfl,bp,a.mono (Kp.same c)⟩)
 ·rw[z5 hz]at b;exact b.elim
theorem Ext.fresh {ρ':List Addr}{H':Hp}{q:Addr}(e:Ext ρ H ρ' H')(h:H' q=none)(n:q ∉ ρ'):H q=none:=by
 cases z:H q with
 | none=>rfl
 | some o =>
  by_cases hq:q ∈ ρ
  ·obtain⟨t,rfl⟩:=e.pre
   exact absurd (List.mem_append_left t hq) n
  ·rw[e.frame q o z hq]at h;cases h
theorem RH.free {hd:Hd}(r:RH K ρ H hd){q:Addr}(h:H q=none):q ∉ ρ:=λz=>by
 rcases r.mut z with ⟨_,e⟩|⟨_,e⟩|⟨_,e⟩|⟨_,_,_,e⟩<;>(rw[h]at e;cases e)
theorem y7.mk {a:List Addr}{H1:Hp}{c:Hd}{σd:Sd}{σ:St}{Q:VK}(p:y7 K ρ H σd σ (.ok l c) Q)(g:Ext ρ H a H1)(b:RS K a H1 σd c σ)(r:RDs K a H1 l vs) :
  ∀q,H1 q=none->Q (.ref q) (upd H1 q (.lst vs)):=λq d=>by
 have e:=cv (o:=HO.lst vs) d;have f:=b.hp.free d;exact p q vs _ a (g.trans (Ext.same e)) (b.same e) (g.fresh d f) bp f (r.mono (Kp.same e))
theorem dD {r:LF}(h:MA X es r)(hz:∀σd hd ds hd',r σd hd=.ok ds hd'->ds.length<=SZ):MF X (.List es pos) r:=by
 refine PE.imp (LQ h) λσ H Q ⟨ρ,σd,hd,f,p⟩ => ?_;refine⟨ρ,σd,hd,f,?_⟩;cases e:r σd hd with
 | exc x h'=>rw[e]at p;exact p
 | bad=>rw[e]at p;exact p
 | ok ds hd1 =>
  rw[e]at p;intro g H1 c d b a;exact⟨by rw[<-RDs.length a];exact rM (hz _ _ _ _ e),p.mk d b a⟩
theorem bg {r:LF}{n:Nat}(h:∀σd hd ds hd',r σd hd=.ok ds hd'->ds.length=n):∀σd hd ds hd',ab f r σd hd=.ok ds hd'->ds.length=n + 1:=by
 intro σd hd ds hd' e;simp only[ab]at e;cases e1:f σd hd with
 | exc x h'=>rw[e1]at e;cases e
 | bad=>rw[e1]at e;cases e
 | ok d h1 =>
  rw[e1]at e;simp only[ay]at e;cases e2:r σd h1 with
  | exc x h'=>rw[e2]at e;cases e
  | bad=>rw[e2]at e;cases e
  | ok ds2 h2 =>
   rw[e2]at e;simp only[ay]at e;cases e;simp[h _ _ _ _ e2]
theorem cg:∀σd hd ds hd',ao σd hd=.ok ds hd'->ds.length=0:=by
 intro σd hd ds hd' e;simp only[ao]at e;cases e;rfl
theorem cx {r:LF}(h:MF X e r):ME X e (bG r):=by
 refine PE.imp h λσ H Q ⟨ρ,σd,hd,i,p⟩=>⟨ρ,σd,hd,i,?_⟩;unfold bG at p;cases e:r σd hd with
 | exc x h'=>rw[e]at p;exact p
 | bad=>rw[e]at p;exact p
 | ok ds hd1 =>
  rw[e]at p;simp only[ay]at p;intro q n H1 c f b g k j d
  by_cases hz:ds.length<=SZ
  ·rw[z4 hz]at p
   have m:=b.hp.alloc k j d;have ex:Ext ρ H (c++[q]) H1:=⟨by obtain⟨t,rfl⟩:=f.pre;exact⟨t++[q],by simp⟩,λa l=>by
    rcases List.mem_append.mp l with z|z
    ·exact f.new a z
    ·simp at z;subst z;exact .inr g,f.frame⟩
   refine p.at ex (i.ext ex m) ?_;simp only[rD,RD];refine⟨q,?_,rfl⟩;rw[<-b.hp.len];simp
  ·rw[z5 hz]at p;exact p.elim
theorem eQ {r:LF}(h:MF X e r):MQ X e r:=by
 refine PE.imp h λσ H Q ⟨ρ,σd,hd,j,p⟩=>⟨ρ,σd,hd,j,?_⟩;cases e:r σd hd with
 | exc x h'=>rw[e]at p;exact p
 | bad=>rw[e]at p;exact p
 | ok ds hd1 =>
  rw[e]at p;intro q d H1 a g b i f k c;exact p (.ref q) H1 a g b ⟨q,d,rfl,.inl (SqL.of f),c⟩
theorem qE.sq {a:Addr}{xs:List V}(h:qE K H a xs):SqL K H a xs:=by
 rcases h with ⟨o,h⟩|h
 ·exact .inl (.inr ⟨o,h⟩)
 ·exact .inr h
theorem w5 {hd:Hd}{d:D}{v:V}(r:RH K ρ H hd)(h:RD K ρ H d v)(e:kN hd d=some l):∃p b,v=.ref p/\(SqL K H p b\/H p=some (.tup b))/\RDs K ρ H l b:=by
 cases d<;>simp only[kN]at e<;>try (cases e;done)
 ·cases e
  simp only[RD]at h;obtain⟨p,b,f,g,i⟩:=h;exact⟨p,b,f,.inr g,i⟩
 ·rename_i n
  simp only[RD]at h;obtain⟨a,f,g⟩:=h;cases c:hd[n]? with
  | none=>rw[c]at e;cases e
  | some x =>
   rw[c]at e;cases x with
   | dct l=>cases e
   | dcT l=>cases e
   | ob l=>cases e
   | lst l' =>
    cases e;obtain⟨b,q1,q2⟩:=r.cel n _ a c f;exact⟨a,b,g,.inl (SqL.of q1),q2⟩
 ·cases e
  simp only[RD]at h;obtain⟨p,b,f,g,i⟩:=h;exact⟨p,b,f,.inl g.sq,i⟩
theorem cQ (h:ME X e f):MQ X e (lOf f):=by
 refine PE.imp h λσ H Q ⟨ρ,σd,hd,j,p⟩=>⟨ρ,σd,hd,j,(bx.bind (R:=rD X.K) p).imp λv H1 ⟨g,d,c,k,a,i,b⟩ => ?_⟩;cases e:kN c d with
 | none=>rw[e]at b;exact b.elim
 | some l=>rw[e]at b;exact b.here a (w5 a.hp i e)
theorem Da {i:Int}{d:D}(r:RDs K ρ H l vs)(e:atI l i=some d):∃v,L2.atI vs i=some v/\RD K ρ H d v:=by
 unfold atI at e;unfold L2.atI;have b:=r.length;have a:ixN l.length i=L2.ixN vs.length i:=by rw[b];rfl
 rw[a]at e;cases c:L2.ixN vs.length i with
 | none=>rw[c]at e;cases e
 | some j =>
  rw[c]at e;simp only[Option.bind_some]at e ⊢;exact r.get e
theorem aC {a:Expr}{r:EF}(z:ME X a fa)(t:ME X b r)(A:rL b):ME X (.Subscript a b pos) (fAt fa r):=by
 refine me2 (a:=a) (b:=b) (g:=oAt) (Gr LU z t A) λρ H σd hd σ d k v w Q j y c p => ?_;unfold oAt at p;cases e:kN hd d with
 | none=>rw[e]at p;exact p.elim
 | some l =>
  rw[e]at p;cases k<;>first|exact p.elim|skip
  rename_i i
  simp only at p;cases e2:atI l i with
  | none=>rw[e2]at p;exact p.elim
  | some x =>
   rw[e2]at p;simp only[RD]at c;obtain⟨q,m,s,f,h⟩:=w5 j.hp y e;obtain⟨u,o,n⟩:=Da h e2;rcases f with f|f
   ·exact .inl ⟨q,m,i,u,s,c,f,o,p.here j n⟩
   ·exact .inr (.inl ⟨q,m,i,u,s,c,SqT.of f,o,p.here j n⟩)
theorem Db {a:Expr}{j:LF}{n:EF}(z:MF X a j)(v:ME X b n)(A:rL b):ME X (.Subscript a b pos) (fIx j n):=by
 refine PE.imp (Gr C6 z v A) λσ H Q ⟨ρ,σd,hd,E,p⟩=>⟨ρ,σd,hd,E,?_⟩;unfold fIx at p;cases e:j σd hd with
 | exc x h'=>rw[e]at p;exact p
 | bad=>rw[e]at p;exact p
 | ok l hd1 =>
  rw[e]at p;simp only[ay]at p;intro q r H1 f C d D y o h;refine⟨f,σd,hd1,d,(bx.bind (R:=rD X.K) (p.ext C)).imp λw G ⟨s,k,F,m,g,c,p2⟩ => ?_⟩;cases k<;>first|exact p2.elim|skip
  rename_i i
  simp only at p2;cases e3:atI l i with
  | none=>rw[e3]at p2;exact p2.elim
  | some x =>
   rw[e3]at p2;simp only[rD,RD]at c;obtain⟨u,B,t⟩:=Da (h.mono (d.hp.kp m)) e3;exact⟨q,r,i,u,rfl,c,SqL.of (m.frame q _ y o),B,p2.here g t⟩
end
variable {p:Pos}
section
variable {X:Cx} {pos:Pos}
def B1 (X:Cx) (r:List V->Hp->VK->Prop) (x:Str) (p pos:Pos) (a:Expr):Prop:=∀t,PA X [a] t->PE X (.Call (.Name x p) [a] [] pos) (tCB r t)
theorem y8   {a:Expr} {id:String} {r:List V->Hp->VK->Prop} (hc:gf X (.builtin id) r) (e:Gl X x) (hm:X.mg x=none) (f:bootBuiltins x=some (.builtin id)) (c:x ≠ "__name__" := by decide) (b:(x == ("__debug__" : Str))=false:=by decide)
  (he:starEach [a] X.env=(false,eval a X.env) :: starEach [] X.env:=by rfl):B1 X r x p pos a:=λ_ d=>kY hc e hm f d c b he
theorem y9   {a:Expr} {T:String} {r:List V->Hp->VK->Prop} (hc:gf X (.type T) r) (e:Gl X x) (hm:X.mg x=none) (f:bootBuiltins x=some (.type T)) (c:x ≠ "__name__" := by decide) (b:(x == ("__debug__" : Str))=false:=by decide)
  (he:starEach [a] X.env=(false,eval a X.env) :: starEach [] X.env:=by rfl):B1 X r x p pos a:=λ_ d=>vA hc e hm f d c b he
theorem w6 {a:Expr}{f:LF}{r:List V->Hp->VK->Prop}{g:List D->Hd->Res D}(k:B1 X r x p pos a)(m:MQ X a f)
  (j:∀ρ H σd hd σ l q vs Q,RS X.K ρ H σd hd σ->(SqL X.K H q vs\/H q=some (.tup vs))->RDs X.K ρ H l vs->bx X.K (rD X.K) ρ H σd σ (g l hd) Q->r [.ref q] H Q)
  (n:starEach [a] X.env=(false,eval a X.env) :: starEach [] X.env:=by rfl):ME X (.Call (.Name x p) [a] [] pos) (λσ h=>(f σ h).bind λl h=>g l h):=by
 refine PE.imp (k _ (cw m dI n)) λσ H Q ⟨ρ,σd,hd,t,i⟩=>⟨ρ,σd,hd,t,(bx.bind (R:=rQ X.K) i).imp λv H1 ⟨b,l,e,w,c,⟨q,vs,s,u,d⟩,o⟩ => ?_⟩;subst s;exact j b H1 σd e σ l q vs Q c u d o
theorem vG {a:Expr}{r:List V->Hp->VK->Prop}{g:D->Hd->Res D}(j:B1 X r x p pos a)(l:ME X a fa)
  (i:∀ρ H σd hd σ d v Q,RS X.K ρ H σd hd σ->RD X.K ρ H d v->bx X.K (rD X.K) ρ H σd σ (g d hd) Q->r [v] H Q)
  (m:starEach [a] X.env=(false,eval a X.env) :: starEach [] X.env:=by rfl):ME X (.Call (.Name x p) [a] [] pos) (λσ h=>(fa σ h).bind λx h=>g x h):=by
 refine PE.imp (j _ (cw l dI m)) λσ H Q ⟨ρ,σd,hd,o,f⟩=>⟨ρ,σd,hd,o,(bx.bind (R:=rD X.K) f).imp λv H1 ⟨b,d,e,q,c,k,n⟩ => ?_⟩;exact i b H1 σd e σ d v Q c k n
theorem cE  {a:Expr} {d:LF} (e:Gl X "len") (hm:X.mg "len" = none) (i:MQ X a d) (c:starEach [a] X.env=(false,eval a X.env) :: starEach [] X.env:=by rfl):ME X (.Call (.Name "len" p) [a] [] pos) (cC d) :=
 w6 (g:=λl h=>.ok (.int l.length) h) (y8 n5 e hm PySem.boot_len (he:=c)) i (λρ H σd hd σ l q f Q j k b p=>⟨q,f,rfl,k.imp id SqT.of,by rw[<-b.length];exact p.here j (by simp only[rD,RD])⟩) c
theorem gC  {a:Expr} {i:LF} (m:Gl X "tuple") (hm:X.mg "tuple" = none) (r:MQ X a i) (f:starEach [a] X.env=(false,eval a X.env) :: starEach [] X.env:=by rfl):ME X (.Call (.Name "tuple" p) [a] [] pos) (gg i):=by
 refine w6 (g:=λl h=>.ok (.tup l) h) (y9 uC m hm (by decide +kernel) (he:=f)) r (λρ H σd hd σ l q d Q j b c p=>⟨q,d,rfl,?_⟩) f;rcases b with b|b
 ·refine .inl ⟨b,λk n => ?_⟩
  have e:=cv (o:=HO.tup d) n;exact p.at (Ext.same e) (j.same e) (by simp only[rD,RD];exact⟨k,d,rfl,bp,c.mono (Kp.same e)⟩)
 ·exact .inr ⟨SqT.of b,p.here j (by simp only[rD,RD];exact⟨q,d,rfl,b,c⟩)⟩
theorem w8  {a:Expr}  (j:Gl X "int") (hm:X.mg "int" = none) (k:ME X a fa) (e:starEach [a] X.env=(false,eval a X.env) :: starEach [] X.env:=by rfl):ME X (.Call (.Name "int" p) [a] [] pos) (wY fa):=by
 refine vG (g:=λx h=>match x with | .int i=>.ok (.int i) h | .bl b=>.ok (.int (b2i b)) h|_=>.bad) (y9 Ei j hm (by decide +kernel) (he:=e)) k (λρ H σd hd σ d v Q f c p => ?_) e;cases d<;>first|exact p.elim|skip
 ·simp only[RD]at c;subst c
  exact .inr ⟨_,rfl,p.here f (by simp only[rD,RD];rfl)⟩
 ·simp only[RD]at c;subst c
  exact .inl ⟨_,rfl,p.here f (by simp only[rD,RD])⟩
theorem za (ns:List Int):PySem.preSum (λi=>ns.getD i 0) ns.length=ns.sum:=by
 have a:∀k,k<=ns.length->PySem.preSum (λi=>ns.getD i 0) k=(ns.take k).sum:=by
  intro k
  induction k with
  | zero=>intro _;simp[PySem.preSum]
  | succ k ih =>
   intro b;rw[PySem.preSum,ih (by omega),WW,ZE (by omega),List.sum_append];simp[List.getD,ZE (show k < ns.length by omega)]
 rw[a _ (ZL _),List.take_length]
theorem Dc {a:List T0}{ns:List Int}(r:bi (ns.map V.int) a)(i:Nat)(v:T0)(h:a.toArray[i]? = some v):∃t,v=.int (ns.getD i 0) t:=by
 have h':a[i]? = some v:=by simpa using h
 have d:=r.length;have hi:i < a.length:=(List.getElem?_eq_some_iff.mp h').1;have b:i < ns.length:=by rw[<-d]at hi;simpa using hi
 obtain⟨u,c,f⟩:=r.get (i:=i) (x:=.int ns[i]) (by simp[b]);rw[h']at c;cases c;obtain⟨t,e⟩:=f;exact⟨t,by rw[e];simp[List.getD,b]⟩
theorem Er (hc:X.calm=true):gf X (.builtin "sum") (λxs H Q=>∃(p:Addr) (f:List Int),xs=[.ref p]/\(SqL X.K H p (f.map V.int)\/SqT X.K H p (f.map V.int))/\Q (.int f.sum) H):=by
 intro pins s σ H xs z Q I r q;obtain⟨p,f,rfl,l,q⟩:=q;obtain⟨u,rfl,y⟩:=bi.one r;cases (show u=Value.ref p from y);have fin:∀{t:Obj} {h':Heap} {tk:Nat} {t':Tok} {n:Nat},n=f.length->(∀b o,b∉[s.heap.objs.size]->(s.heap.push t).get? b=some o->h'.get? b=some o)->EP X pins σ Q (.int (PySem.preSum (λi=>f.getD i 0) n) t') { s with heap:=h',toks:=tk }:=by
  intro t h' tk t' n w j;subst w;refine⟨.int f.sum,H,I.kept (t':=tk) λb o e=>j b o (by simp;exact ZN (ZI e)) (ZH _ e),⟨t',by rw[za]⟩,q⟩
 have v:(X.A.in1).handled=none:=I.ok.hd hc;rcases l with l|l
 ·obtain⟨c,k,m,x⟩:=I.list l
  have h:s.heap.IsList p c.toArray:=m.isList;have a:p < s.heap.objs.size:=by obtain⟨o,g,_⟩:=h;exact ZI g
  refine PySem.call_sum_walkG (PySem.wpAny_pyIter_list h ?_);refine⟨s.heap.objs.size,_,[s.heap.objs.size],_,_,_,λi=>f.getD i 0,rfl,PySem.Walks.list v s.heap.objs.size p (ZN a) c.toArray,⟨⟨_,ZJ _ rfl,rfl,rfl⟩,?_⟩,?_,Dc k,?_⟩
  ·obtain⟨o,g,r⟩:=h;exact⟨o,ZH _ g,r⟩
  ·intro b d
   rcases Y6.mp d with rfl|d
   ·rw[YF];exact Z8 _
   ·simp at d;subst d;rw[YF];exact ZZ a
  ·exact λh' tk t' j=>fin (by simpa using k.length.symm) j
 ·obtain⟨c,k,m,x⟩:=I.tuple l
  have h:s.heap.IsTuple p c.toArray:=m;have a:p < s.heap.objs.size:=by obtain⟨o,g,_⟩:=h;exact ZI g
  refine PySem.call_sum_walkG (PySem.wpAny_pyIter_tuple h ?_);refine⟨s.heap.objs.size,_,[s.heap.objs.size],_,_,_,λi=>f.getD i 0,rfl,PySem.Walks.tuple v s.heap.objs.size p (ZN a) c.toArray,⟨⟨_,ZJ _ rfl,rfl,rfl⟩,?_⟩,?_,Dc k,?_⟩
  ·obtain⟨o,g,r⟩:=h;exact⟨o,ZH _ g,r⟩
  ·intro b d
   rcases Y6.mp d with rfl|d
   ·rw[YF];exact Z8 _
   ·simp at d;subst d;rw[YF];exact ZZ a
  ·exact λh' tk t' j=>fin (by simpa using k.length.symm) j
theorem oh {K:ZX}{ρ:List Addr}{H:Hp}:∀{l:List D} {b:List V} {a:List Int},RDs K ρ H l b->ig l=some a->b=a.map V.int
 | [],_,a,r,e=>by simp only[ig]at e;cases e;simp only[RDs]at r;subst r;rfl
 | d :: l,_,a,r,e=>by
  simp only[RDs]at r;obtain⟨v,b,rfl,f,g⟩:=r;cases d<;>simp only[ig]at e<;>try (cases e;done)
  rename_i i
  cases c:ig l with
  | none=>rw[c]at e;cases e
  | some js =>
   rw[c]at e;cases e;simp only[RD]at f;rw[f,oh g c];rfl
theorem Bo  {a:Expr} {f:LF} (hc:X.calm=true) (i:Gl X "sum") (hm:X.mg "sum" = none) (j:MQ X a f) (d:starEach [a] X.env=(false,eval a X.env) :: starEach [] X.env:=by rfl):ME X (.Call (.Name "sum" p) [a] [] pos) (uD f):=by
 refine w6 (g:=λl h=>match ig l with|some is=>.ok (.int is.sum) h|none=>.bad) (y8 (Er hc) i hm (by decide +kernel) (he:=d)) j (λρ H σd hd σ l q n Q k m b p => ?_) d;cases c:ig l with
 | none=>simp only[c]at p;exact p.elim
 | some is =>
  simp only[c]at p;have e:=oh b c;subst e;exact⟨q,is,rfl,m.imp id SqT.of,p.here k (by simp only[rD,RD])⟩
end
section
variable {K:ZX} {ρ:List Addr} {H:Hp}
mutual
theorem zc:∀{d k:D} {v:V} {b:Bool},RD K ρ H d v->RD K ρ H k v->peq d k=some b->b=true
 | .int i,k,v,b,h1,h2,e=>by
  simp only[RD]at h1;subst h1;cases k<;>simp only[RD]at h2<;>try (cases h2;done)
  all_goals first
   | (rcases h2 with ⟨_,_,_,_,z,_⟩|⟨_,_,_,z,_⟩<;>(cases z;done))
   | (cases h2;simp only[peq]at e;simpa using e.symm)
   | (obtain⟨_,_,z,_⟩:=h2;cases z;done)
   | (obtain⟨_,_,z⟩:=h2;cases z;done)
   | (obtain⟨_,_,_,z,_⟩:=h2;cases z;done)
 | .bl i,k,v,b,h1,h2,e=>by
  simp only[RD]at h1;subst h1;cases k<;>simp only[RD]at h2<;>try (cases h2;done)
  all_goals first
   | (rcases h2 with ⟨_,_,_,_,z,_⟩|⟨_,_,_,z,_⟩<;>(cases z;done))
   | (cases h2;simp only[peq]at e;simpa using e.symm)
   | (obtain⟨_,_,z,_⟩:=h2;cases z;done)
   | (obtain⟨_,_,z⟩:=h2;cases z;done)
   | (obtain⟨_,_,_,z,_⟩:=h2;cases z;done)
 | .str x,k,v,b,h1,h2,e=>by
  simp only[RD]at h1;subst h1;cases k<;>simp only[RD]at h2<;>try (cases h2;done)
  all_goals first
   | (rcases h2 with ⟨_,_,_,_,z,_⟩|⟨_,_,_,z,_⟩<;>(cases z;done))
   | (simp only[peq]at e;simp only[toS,V.str.injEq,PySem.Str.mk.injEq]at h2;have f:=congrArg Array.toList h2;simp at f;subst f;simpa using e.symm)
   | (obtain⟨_,_,z,_⟩:=h2;cases z;done)
   | (obtain⟨_,_,z⟩:=h2;cases z;done)
   | (obtain⟨_,_,_,z,_⟩:=h2;cases z;done)
 | .non,k,v,b,h1,h2,e=>by
  simp only[RD]at h1;subst h1;cases k<;>simp only[RD]at h2<;>try (cases h2;done)
  all_goals first
   | (rcases h2 with ⟨_,_,_,_,z,_⟩|⟨_,_,_,z,_⟩<;>(cases z;done))
   | (simp only[peq]at e;simpa using e.symm)
   | (obtain⟨_,_,z,_⟩:=h2;cases z;done)
   | (obtain⟨_,_,z⟩:=h2;cases z;done)
   | (obtain⟨_,_,_,z,_⟩:=h2;cases z;done)
 | .tup xs,k,v,b,h1,h2,e=>by
  simp only[RD]at h1;obtain⟨p,o,rfl,j,g⟩:=h1;cases k<;>simp only[peq]at e<;>try (cases e;done)
  ·simp only[RD]at h2;cases h2
  ·simp only[RD]at h2;cases h2
  ·rename_i ys
   simp only[RD]at h2;obtain⟨q,m,z,a,h⟩:=h2;cases z;rw[j]at a;cases a;cases c:i8 xs ys with
   | none=>rw[c]at e;cases e
   | some b' =>
    rw[c]at e;simp only[YU,YM]at e;have:=vH g h c;subst this;rw[<-e,g.length,h.length];simp
 | .ref n,k,v,b,h1,h2,e=>by cases k<;>simp only[peq]at e<;>cases e
 | .lit l,k,v,b,h1,h2,e=>by cases k<;>simp only[peq]at e<;>cases e
 | .exn c l,k,v,b,h1,h2,e=>by simp only[peq]at e<;>cases e
theorem vH:∀{xs ys:List D} {a:List V} {b:Bool},RDs K ρ H xs a->RDs K ρ H ys a->i8 xs ys=some b->b=true
 | [],_,_,_,_,_,e=>by simp only[i8]at e;cases e;rfl
 | x :: xs,[],_,_,_,_,e=>by simp only[i8]at e;cases e;rfl
 | x :: xs,y :: ys,_,b,h1,h2,e=>by
  simp only[RDs]at h1 h2;obtain⟨v,r,rfl,h,f⟩:=h1;obtain⟨i,j,z,g,d⟩:=h2;cases z;simp only[i8]at e;cases c:peq x y with
  | none=>rw[c]at e;cases e
  | some p =>
   cases c2:i8 xs ys with
   | none=>rw[c,c2]at e;cases e
   | some q =>
    rw[c,c2]at e;simp only[YM]at e;rw[<-e,zc h g c,vH f d c2];rfl
end
end
section
variable {K:ZX} {ρ:List Addr} {H:Hp} {P:T5} {w:T6} {s:T3}
theorem jY (hok:HOk P w H s.heap){p:Addr}(h:H p=some (.tup vs)):∃a:List T0,bi vs a/\s.heap.IsTuple p a.toArray:=by
 obtain⟨z,a,r,t⟩:=hok p _ h;exact⟨a,r,t⟩
mutual
theorem L5 (hok:HOk P w H s.heap):∀{d k:D} {v h:V} {u m:T0} {b:Bool} {A:T4},RD K ρ H d v->RD K ρ H k h->bT v u->bT h m->peq d k=some b->A.units + dep d < cLine->SeqAt.EqAt A s u m b
 | .int i,k,v,h,u,m,b,A,g,a,r1,r2,e,hu=>by
  simp only[RD]at g;subst g;obtain⟨t,rfl⟩:=r1;cases k<;>simp only[peq]at e<;>try (cases e;done)
  all_goals cases e
  ·simp only[RD]at a;subst a;cases r2;exact SeqAt.EqAt.int_none i t
  ·simp only[RD]at a;subst a;cases r2;exact SeqAt.EqAt.int_bool i t _
  ·simp only[RD]at a;subst a;obtain⟨r,rfl⟩:=r2;exact WS i t _ r
  ·simp only[RD]at a;obtain⟨p,N,rfl,F,_⟩:=a;cases r2
   obtain⟨o,_,C⟩:=jY hok F;exact SeqAt.EqAt.int_tuple i t C (ZS (XJ _ _) hu)
 | .bl i,k,v,h,u,m,b,A,g,a,r1,r2,e,hu=>by
  simp only[RD]at g;subst g;cases r1;cases k<;>simp only[peq]at e<;>try (cases e;done)
  all_goals cases e
  ·simp only[RD]at a;subst a;cases r2;exact SeqAt.EqAt.bool_bool i _
  ·simp only[RD]at a;subst a;obtain⟨r,rfl⟩:=r2;exact SeqAt.EqAt.bool_int i _ r
 | .str x,k,v,h,u,m,b,A,g,a,r1,r2,e,hu=>by
  simp only[RD]at g;subst g;obtain⟨t,rfl⟩:=r1;cases k<;>simp only[peq]at e<;>try (cases e;done)
  all_goals cases e
  rename_i y
  simp only[RD]at a;subst a;obtain⟨r,rfl⟩:=r2;have:decide (x=y)=(toS x == toS y):=by
   by_cases z:x=y
   ·subst z;simp
   ·have : ¬toS x=toS y:=λq=>z (by have:=congrArg (λ(s:Str)=>s.cps.toList) q;simpa[toS] using this)
    simp[z,this]
  rw[this];exact SeqAt.EqAt.str_str _ t _ r
 | .non,k,v,h,u,m,b,A,g,a,r1,r2,e,hu=>by
  simp only[RD]at g;subst g;cases r1;cases k<;>simp only[peq]at e<;>try (cases e;done)
  all_goals cases e
  ·simp only[RD]at a;subst a;cases r2;exact SeqAt.EqAt.same _
  ·simp only[RD]at a;subst a;obtain⟨r,rfl⟩:=r2;exact SeqAt.EqAt.none_int _ r
  ·simp only[RD]at a;obtain⟨p,N,rfl,F,_⟩:=a;cases r2
   obtain⟨o,_,C⟩:=jY hok F;exact SeqAt.EqAt.none_tuple C (ZS (XJ _ _) hu)
 | .tup xs,k,v,h,u,m,b,A,g,a,r1,r2,e,hu=>by
  have J:=g;simp only[RD]at g;obtain⟨p,N,rfl,F,q1⟩:=g;cases r1;obtain⟨o,O,C⟩:=jY hok F;have E:A.units < cLine:=ZS (XJ _ _) hu;cases k<;>simp only[peq]at e<;>try (cases e;done)
  ·cases e;simp only[RD]at a;subst a;cases r2;exact SeqAt.EqAt.tuple_none C E
  ·cases e;simp only[RD]at a;subst a;obtain⟨r,rfl⟩:=r2;exact SeqAt.EqAt.tuple_int _ r C E
  ·rename_i ys
   have I:=a;simp only[RD]at a;obtain⟨Q,R,rfl,M,q2⟩:=a;cases r2
   by_cases hpp:p=Q
   ·subst hpp
    have:b=true:=zc J I (by simp only[peq];exact e);subst this;exact SeqAt.EqAt.same _
   ·obtain⟨B,G,L⟩:=jY hok M
    cases c:i8 xs ys with
    | none=>rw[c]at e;cases e
    | some b' =>
     rw[c]at e;simp only[YU,YM]at e;obtain⟨f,T,S⟩:=rN hok (A:=A.in1) q1 q2 O G c (by simp only[dep]at hu;show A.units + 1 + kZ xs < cLine;omega);have:=SeqAt.RcAt.tuples (s:=s) (A:=A) (e:=f) C L E (λj g a=>by simpa using T j (by simpa using g) (by simpa using a));rw[<-e,<-S,q1.length,q2.length,O.length,G.length];refine SeqAt.EqAt.of_refs hpp ?_;rw[show (decide (o.length=B.length))=(o.length == B.length) from rfl];simpa using this
 | .ref n,k,v,h,u,m,b,A,g,a,r1,r2,e,hu=>by cases k<;>simp only[peq]at e<;>cases e
 | .lit l,k,v,h,u,m,b,A,g,a,r1,r2,e,hu=>by cases k<;>simp only[peq]at e<;>cases e
 | .exn c l,k,v,h,u,m,b,A,g,a,r1,r2,e,hu=>by simp only[peq]at e<;>cases e
theorem rN (hok:HOk P w H s.heap):∀{xs ys:List D} {k g:List V} {i a:List T0} {b:Bool} {A:T4},RDs K ρ H xs k->RDs K ρ H ys g->bi k i->bi g a->i8 xs ys=some b->A.units + kZ xs < cLine->
  ∃f:Nat->Bool,(∀j (d:j < i.length) (h:j < a.length),SeqAt.EqAt A s i[j] a[j] (f j))/\(List.range (min i.length a.length)).all f=b
 | [],ys,k,g,i,a,b,A,d,h,r1,r2,e,hu=>by
  simp only[RDs]at d;subst d;cases r1;simp only[i8]at e;cases e;exact⟨λ_=>true,λj d=>by simp at d,by simp⟩
 | x :: xs,[],k,g,i,a,b,A,d,h,r1,r2,e,hu=>by
  simp only[RDs]at h;subst h;cases r2;simp only[i8]at e;cases e;exact⟨λ_=>true,λj d h=>by simp at h,by simp⟩
 | x :: xs,y :: ys,k,g,i,a,b,A,d,h,r1,r2,e,hu=>by
  simp only[RDs]at d h;obtain⟨v,r,rfl,t,l⟩:=d;obtain⟨B,C,rfl,m,n⟩:=h;cases r1 with
  | cons p1 p2 =>
   cases r2 with
   | cons s1 s2 =>
    simp only[i8]at e;cases c:peq x y with
    | none=>rw[c]at e;cases e
    | some p =>
     cases c2:i8 xs ys with
     | none=>rw[c,c2]at e;cases e
     | some q =>
      rw[c,c2]at e;simp only[YM]at e;simp only[kZ]at hu;have o:=L5 hok (A:=A) t m p1 s1 c (by omega);obtain⟨f,z,u⟩:=rN hok (A:=A) l n p2 s2 c2 (by omega);refine⟨λj=>match j with|0=>p|j + 1=>f j,λj d h => ?_,?_⟩
      ·cases j with
       | zero=>exact o
       | succ j=>exact z j (by simpa using d) (by simpa using h)
      ·rw[<-e,<-u,y4,y4,Nat.succ_min_succ,List.range_succ_eq_map,X1,List.all_map]
       rfl
end
theorem L6 (hok:HOk P w H s.heap){d k:D}{v G:V}{u E:T0}{b:Bool}{A:T4}(h1:RD K ρ H d v)(a:RD K ρ H k G)(C:bT v u)(i:bT G E)(e:peq d k=some b)(L:A.units + dep d < cLine) :
  SeqAt.RcAt A s u E b/\SeqAt.RcNeAt A s u E (!b):=by
 have g:A.units < cLine:=ZS (XJ _ _) L;cases d<;>simp only[RD]at h1
 ·subst h1;cases C
  cases k<;>simp only[peq]at e<;>try (cases e;done)
  all_goals cases e
  ·simp only[RD]at a;subst a;cases i;exact⟨SeqAt.RcAt.none_none,SeqAt.RcNeAt.none_none⟩
  ·simp only[RD]at a;subst a;obtain⟨h,rfl⟩:=i;exact⟨SeqAt.RcAt.none_int _ h,SeqAt.RcNeAt.none_int _ h⟩
  ·simp only[RD]at a;obtain⟨p,I,rfl,r,_⟩:=a;cases i
   obtain⟨m,_,l⟩:=jY hok r;exact⟨SeqAt.RcAt.none_tuple l g,SeqAt.RcNeAt.none_tuple l g⟩
 ·subst h1;cases C
  cases k<;>simp only[peq]at e<;>try (cases e;done)
  all_goals cases e
  ·simp only[RD]at a;subst a;cases i;exact⟨SeqAt.RcAt.bool_bool _ _,SeqAt.RcNeAt.bool_bool _ _⟩
  ·simp only[RD]at a;subst a;obtain⟨h,rfl⟩:=i;exact⟨SeqAt.RcAt.bool_int _ _ h,SeqAt.RcNeAt.bool_int _ _ h⟩
 ·subst h1;obtain⟨t,rfl⟩:=C
  cases k<;>simp only[peq]at e<;>try (cases e;done)
  all_goals cases e
  ·simp only[RD]at a;subst a;cases i;exact⟨SeqAt.RcAt.int_none _ t,SeqAt.RcNeAt.int_none _ t⟩
  ·simp only[RD]at a;subst a;cases i;exact⟨SeqAt.RcAt.int_bool _ t _,SeqAt.RcNeAt.int_bool _ t _⟩
  ·simp only[RD]at a;subst a;obtain⟨h,rfl⟩:=i;exact⟨SeqAt.RcAt.int_int _ t _ h,SeqAt.RcNeAt.int_int _ t _ h⟩
  ·simp only[RD]at a;obtain⟨p,I,rfl,r,_⟩:=a;cases i
   obtain⟨m,_,l⟩:=jY hok r;exact⟨SeqAt.RcAt.int_tuple _ t l g,SeqAt.RcNeAt.int_tuple _ t l g⟩
 ·subst h1;obtain⟨t,rfl⟩:=C
  cases k<;>simp only[peq]at e<;>try (cases e;done)
  all_goals cases e
  rename_i x y
  simp only[RD]at a;subst a;obtain⟨h,rfl⟩:=i;have:decide (x=y)=(toS x == toS y):=by
   by_cases z:x=y
   ·subst z;simp
   ·have : ¬toS x=toS y:=λq=>z (by have:=congrArg (λ(s:Str)=>s.cps.toList) q;simpa[toS] using this)
    simp[z,this]
  rw[this];exact⟨SeqAt.RcAt.str_str _ t _ h,SeqAt.RcNeAt.str_str _ t _ h⟩
 ·rename_i xs
  obtain⟨p,I,rfl,r,q1⟩:=h1;cases C;obtain⟨m,J,l⟩:=jY hok r;cases k<;>simp only[peq]at e<;>try (cases e;done)
  ·cases e;simp only[RD]at a;subst a;cases i;exact⟨SeqAt.RcAt.tuple_none l g,SeqAt.RcNeAt.tuple_none l g⟩
  ·cases e;simp only[RD]at a;subst a;obtain⟨h,rfl⟩:=i;exact⟨SeqAt.RcAt.tuple_int _ h l g,SeqAt.RcNeAt.tuple_int _ h l g⟩
  ·rename_i ys
   simp only[RD]at a;obtain⟨S,O,rfl,F,q2⟩:=a;cases i;obtain⟨n,B,o⟩:=jY hok F;cases c:i8 xs ys with
   | none=>rw[c]at e;cases e
   | some b' =>
    rw[c]at e;simp only[YU,YM]at e;obtain⟨f,M,Q⟩:=rN hok (A:=A.in1) q1 q2 J B c (by simp only[dep]at L;show A.units + 1 + kZ xs < cLine;omega);have N:=SeqAt.RcAt.tuples (s:=s) (A:=A) (e:=f) l o g (λj h1 a=>by simpa using M j (by simpa using h1) (by simpa using a));have R:=SeqAt.RcNeAt.tuples (s:=s) (A:=A) (e:=f) l o g (λj h1 a=>by simpa using M j (by simpa using h1) (by simpa using a));rw[<-e,<-Q,q1.length,q2.length,J.length,B.length,show (decide (m.length=n.length))=(m.length == n.length) from rfl];exact⟨by simpa using N,by simpa using R⟩
 ·cases k<;>simp only[peq]at e<;>cases e
 ·cases k<;>simp only[peq]at e<;>cases e
 ·simp only[peq]at e<;>cases e
end
section
variable {X:Cx}
theorem w9 {hd:Hd}{d:D}{v:V}(r:RH K ρ H hd)(h:RD K ρ H d v)(e:ib hd d=some l):∃p b,v=.ref p/\SqL K H p b/\RDs K ρ H l b:=by
 cases d<;>simp only[ib]at e<;>try (cases e;done)
 ·rename_i n
  simp only[RD]at h;obtain⟨a,f,g⟩:=h;cases c:hd[n]? with
  | none=>rw[c]at e;cases e
  | some x =>
   rw[c]at e;cases x with
   | dct l=>cases e
   | dcT l=>cases e
   | ob l=>cases e
   | lst l' =>
    cases e;obtain⟨b,q1,q2⟩:=r.cel n _ a c f;exact⟨a,b,g,SqL.of q1,q2⟩
 ·cases e
  simp only[RD]at h;obtain⟨p,b,f,g,i⟩:=h;exact⟨p,b,f,g.sq,i⟩
theorem GC {pins:List (Addr × Obj)}{σ:St}{s:T3}{hd:Hd}{d k:D}{v w:V}{u t:T0}{b:Bool}(P:X.A.units + 24 < cLine)(I:Inv X pins σ H s)(r:RH X.K ρ H hd)(h1:RD X.K ρ H d v)(i:RD X.K ρ H k w)
  (B:bT v u) (y:bT w t) (e:eqG hd d k=some b):SeqAt.RcAt X.A s u t b/\SeqAt.RcNeAt X.A s u t (!b):=by
 have h:X.A.units < cLine:=by omega
 simp only[eqG]at e;cases c1:ib hd d with
 | none =>
  cases c2:ib hd k with
  | some l=>rw[c1,c2]at e;cases e
  | none =>
   rw[c1,c2]at e;simp only at e;split at e
   ·rename_i hd20
    exact L6 I.hok h1 i B y e (by omega)
   ·cases e
 | some xs =>
  cases c2:ib hd k with
  | none=>rw[c1,c2]at e;cases e
  | some ys =>
   rw[c1,c2]at e;simp only[eqL]at e;obtain⟨p,O,rfl,K,q1⟩:=w9 r h1 c1;obtain⟨L,M,rfl,E,q2⟩:=w9 r i c2;cases B;cases y;obtain⟨c,x,J,_⟩:=I.list K;obtain⟨a,n,q,_⟩:=I.list E;have o:s.heap.IsList p c.toArray:=J.isList;have g:s.heap.IsList L a.toArray:=q.isList;have l1:xs.length=c.length:=q1.length.trans x.length;have l2:ys.length=a.length:=q2.length.trans n.length;split at e
   ·rename_i hd20
    split at e
    ·rename_i hl
     obtain⟨f,C,z⟩:=rN I.hok (A:=X.A.in1) q1 q2 x n e (by show X.A.units + 1 + kZ xs < cLine;omega);have m:c.toArray.size=a.toArray.size:=by simp;omega
     have G:=SeqAt.RcAt.lists (s:=s) (A:=X.A) (e:=f) o g m h (λj h1 i=>by simpa using C j (by simpa using h1) (by simpa using i));have N:=SeqAt.RcNeAt.lists (s:=s) (A:=X.A) (e:=f) o g m h (λj h1 i=>by simpa using C j (by simpa using h1) (by simpa using i));have F:min c.length a.length=c.length:=by omega
     rw[F]at z;rw[<-z];exact⟨by simpa using G,by simpa using N⟩
    ·rename_i hl
     cases e;have m:(c.toArray.size != a.toArray.size)=true:=by simp;omega
     exact⟨SeqAt.RcAt.lists_lengths o g m h,SeqAt.RcNeAt.lists_lengths o g m h⟩
   ·cases e
def Jm (K:ZX) (f:Bool->Bool):R2:=λx y H Q=>∃ρ hd d k b,RH K ρ H hd/\RD K ρ H d x/\RD K ρ H k y/\eqG hd d k=some b/\Q (.bl (f b)) H
theorem bN (f:X.A.units + 24 < cLine):OpR X (compareOp .Eq) (Jm X.K id):=by
 intro pins s σ H x y v u Q I g c h;obtain⟨ρ,hd,d,k,b,r,a,i,e,q⟩:=h;exact(GC f I r a i g c e).1 _ _ _ _ ⟨.bl b,H,I,rfl,q⟩
theorem eR (f:X.A.units + 24 < cLine):OpR X (compareOp .NotEq) (Jm X.K not):=by
 intro pins s σ H x y v u Q I g c h;obtain⟨ρ,hd,d,k,b,r,a,i,e,q⟩:=h;exact(GC f I r a i g c e).2 _ _ _ _ ⟨.bl (!b),H,I,rfl,q⟩
theorem cJ:Og K oEq (Jm K id):=by
 intro ρ H σd hd σ d k v w Q c f a p;unfold oEq at p;cases e:eqG hd d k with
 | none=>rw[e]at p;exact p.elim
 | some b=>rw[e]at p;exact⟨ρ,hd,d,k,b,c.hp,f,a,e,p.here c (by simp only[rD,RD];rfl)⟩
theorem gL:Og K oNe (Jm K not):=by
 intro ρ H σd hd σ d k v w Q c f a p;unfold oNe at p;cases e:eqG hd d k with
 | none=>rw[e]at p;exact p.elim
 | some b=>rw[e]at p;exact⟨ρ,hd,d,k,b,c.hp,f,a,e,p.here c (by simp only[rD,RD])⟩
end
section
variable {K:ZX} {ρ ρ':List Addr} {H H':Hp} {hd hd':Hd} {σd:Sd} {σ:St}
theorem cD.outE {r:Res D}{k:D->Hd->Out}{En:wN}(p:cD K ρ H (outE r σd k) En) :
  bx K (rD K) ρ H σd σ r (λv H'=>∃ρ' d hd',Ext ρ H ρ' H'/\RS K ρ' H' σd hd' σ/\RD K ρ' H' d v/\cD K ρ' H' (k d hd') En):=by
 cases r with
 | ok d h'=>exact λb H' ρ' ex a q=>⟨ρ',d,h',ex,a,q,cD.ext ex p⟩
 | exc x h'=>exact p
 | bad=>exact p
theorem RSt.set (r:RSt K ρ H σd σ){d:D}{v:V}(i:Nat)(h:RD K ρ H d v):RSt K ρ H (σd.set i (some d)) (σ.set i (some v)):=by
 refine⟨by simp[r.len],λj x e => ?_⟩
 by_cases hj:i=j
 ·subst hj
  by_cases hl:i < σd.length
  ·simp only[slot,List.getElem?_set_self hl]at e
   cases e;exact⟨v,by rw[List.getElem?_set_self (by rw[<-r.len];exact hl)],h⟩
  ·simp only[slot]at e
   rw[List.getElem?_eq_none (by simp;omega)]at e;cases e
 ·simp only[slot,ZP hj]at e
  rw[ZP hj];exact r.at' j x (by simpa only[slot] using e)
def Oj (K:ZX) (g:GF):TG:=λv σ H Q=>∃ρ σd hd d σd',RS K ρ H σd hd σ/\RD K ρ H d v/\g d σd=some σd'/\∀σ',RS K ρ H σd' hd σ'->Q σ' H
def L7 (σ:Sd) (l:List Nat) (xs:List D):Sd:=(l.zip xs).foldl (λσ p => σ.set p.1 (some p.2)) σ
def L8 (K:ZX) (l:List Nat):TGs:=λvs σ H Q=>∃ρ σd hd ds,RS K ρ H σd hd σ/\RDs K ρ H ds vs/\ds.length=l.length/\∀σ',RS K ρ H (L7 σd l ds) hd σ'->Q σ' H
end
def MG (X:Cx) (tg:Expr) (g:GF):Prop:=PG X tg (Oj X.K g)
def MGs (X:Cx) (ts:List Expr) (l:List Nat):Prop:=PGs X ts (L8 X.K l)
section
variable {X:Cx} {pos:Pos}
theorem PG.imp {tg:Expr}{t u:TG}(h:PG X tg t)(i:∀v σ H Q,u v σ H Q->t v σ H Q):PG X tg u:=λpins s σ H v w Q I r q=>h pins s σ H v w Q I r (i v σ H Q q)
theorem PGs.imp {tg:List Expr}{t u:TGs}(h:PGs X tg t)(i:∀v σ H Q,u v σ H Q->t v σ H Q):PGs X tg u:=λpins s σ H v w Q I r q=>h pins s σ H v w Q I r (i v σ H Q q)
theorem aR {i:Nat}(f:X.N.Nodup)(hi:X.N[i]? = some x)(g:Loc X.env.scope x)(h:X.fn x=true\/X.env.scope.names.lookup x=some .local:=by first|exact .inl rfl|exact .inr rfl|assumption):MG X (.Name x pos) (gN i):=by
 refine PG.imp (IR f hi g h) λv σ H Q ⟨ρ,σd,hd,d,a,b,c,e,q⟩ => ?_;simp only[gN,YM]at e;subst e;exact q _ ⟨b.hp,b.st.set i c⟩
theorem mw:MGs X [] []:=by
 refine PGs.imp IS λc σ H Q ⟨ρ,σd,hd,ds,b,a,e,q⟩ => ?_;have:ds=[]:=by simpa using e
 subst this;simp only[RDs]at a;exact⟨a,q σ b⟩
theorem ek {i:Nat}{l:List Nat}(h1:MG X e (gN i))(f:MGs X es l)
  (h:(assignEach (e :: es) X.env).map (·.2)=assign e X.env :: (assignEach es X.env).map (·.2):=by rfl):MGs X (e :: es) (i :: l):=by
 refine PGs.imp (F4 h1 f h) λk σ H Q ⟨ρ,σd,hd,ds,j,g,e,q⟩ => ?_;cases ds with
 | nil=>simp at e
 | cons d ds =>
  simp only[RDs]at g;obtain⟨v,r,rfl,h1,f⟩:=g;refine⟨v,r,rfl,ρ,σd,hd,d,_,j,h1,rfl,λσ' a => ?_⟩;exact⟨ρ,_,hd,ds,a,f,by simpa using e,λc b=>q c b⟩
theorem pj {k:Nat}{l:List Nat}(hc:X.calm=true)(h:MGs X es l)
  (f:(assignEach es X.env).length=l.length:=by rfl) (a:(assignEach es X.env).findIdx? (·.1)=none:=by rfl):MG X (.Tuple es k pos) (gT l):=by
 refine PG.imp (LD hc h f a) λv σ H Q ⟨ρ,σd,hd,d,b,j,c,e,q⟩ => ?_;cases d<;>simp only[gT]at e<;>try (cases e;done)
 rename_i xs
 split at e
 ·rename_i hl
  cases e;simp only[RD]at c;obtain⟨p,g,rfl,i,r⟩:=c;exact⟨p,g,rfl,SqT.of i,by rw[<-r.length];exact hl,ρ,σd,hd,xs,j,r,hl,q⟩
 ·cases e
theorem aD:MSs X [] bc:=PSs.imp IO λEn σ H ⟨ρ,σd,hd,a,p⟩=>p σ H ρ Ext.refl a
theorem ae {st:Stmt}{rest:List Stmt}{a b:SF}(h1:MS X st a)(f:MSs X rest b):MSs X (st :: rest) (ax a b):=by
 refine PSs.imp (FX h1 f) λEn σ H ⟨ρ,σd,hd,g,p⟩=>⟨ρ,σd,hd,g,?_⟩;unfold ax at p;cases e:a σd hd with
 | nx σ1 h1=>rw[e]at p;exact λσ' H' ρ' ex c=>⟨ρ',σ1,h1,c,cD.ext ex p⟩
 | rt d h1=>rw[e]at p;exact p
 | bk σ1 h1=>rw[e]at p;exact p
 | ct σ1 h1=>rw[e]at p;exact p
 | exc x σ1 h1=>rw[e]at p;exact p
 | bad=>rw[e]at p;exact p
theorem ag {st:Stmt}{a:SF}(h:MS X st a):MSs X [st] a:=IP h
theorem GD:MS X (.Break pos) Jj:=PS.imp FY λEn σ H ⟨ρ,σd,hd,a,p⟩=>p σ H ρ Ext.refl a
theorem cj {st:Stmt}:MS X st c7:=PS.imp FZ λEn σ H ⟨ρ,σd,hd,a,p⟩=>p.elim
theorem aB (h:ME X e f):MS X (.Return (some e) pos) (aW f):=by
 refine PS.imp (Lz h) λEn σ H ⟨ρ,σd,hd,j,p⟩=>⟨ρ,σd,hd,j,(cD.outE p).imp λv H1 ⟨a,d,g,k,b,c,i⟩ => ?_⟩;exact i v H1 a Ext.refl b.hp c
theorem d8 (h:ME X e f)(c:swapsWith e none pos.line X.env=pure false:=by rfl):MS X (.Expr e pos) (fV f):=by
 refine PS.imp (IQ h c) λEn σ H ⟨ρ,σd,hd,j,p⟩=>⟨ρ,σd,hd,j,(cD.outE p).imp λv H1 ⟨a,d,g,l,b,k,i⟩ => ?_⟩;exact i σ H1 a Ext.refl b
theorem bj {c:Expr}{a b:List Stmt}{fa f:SF}(hc:MT X c t)(h:MSs X a fa)(g:MSs X b f):MS X (.If c a b pos) (sIf t fa f):=by
 refine PS.imp (NS hc h g) λEn σ H ⟨ρ,σd,hd,i,p⟩=>⟨ρ,σd,hd,i,?_⟩;unfold sIf at p;cases e:t σd hd with
 | ok c h1 =>
  rw[e]at p;intro b H' ρ' ex d q;cases q;cases c with
  | true=>simp only[YP]at p ⊢;exact⟨ρ',σd,h1,d,cD.ext ex p⟩
  | false=>simp only[YB,Y7]at p ⊢;exact⟨ρ',σd,h1,d,cD.ext ex p⟩
 | exc x h1=>rw[e]at p;exact p
 | bad=>rw[e]at p;exact p
theorem aJ {i:Nat}{pos':Pos}(h:X.N.Nodup)(hi:X.N[i]? = some x)(l:Loc X.env.scope x)(he:ME X e f)(g:swapsWith e (some (.Name x pos')) pos.line X.env=pure false:=by rfl)(m:X.fn x=true\/X.env.scope.names.lookup x=some .local:=by first|exact .inl rfl|exact .inr rfl|assumption) :
  MS X (.Assign [.Name x pos'] e pos) (aH (gN i) f):=by
 refine PS.imp (LE h hi l he g m) λEn σ H ⟨ρ,σd,hd,n,p⟩=>⟨ρ,σd,hd,n,(cD.outE p).imp λv H1 ⟨b,d,j,o,a,c,k⟩ => ?_⟩;exact k _ H1 b Ext.refl ⟨a.hp,a.st.set i c⟩
theorem L9:Fm.ixN=L2.ixN:=rfl
theorem sH {o i:Expr}{E A F:EF}{p2:Pos}(he:ME X e F)(I:ME X o E)(hi:ME X i A)(N:swapsWithSole [.Subscript o i p2] e pos.line X.env=pure false:=by rfl)(hw:swappedStores [.Subscript o i p2] e X.env=pure none:=by rfl)
  (h1:(assignEach [.Subscript o i p2] X.env).map (·.2)=[assign (.Subscript o i p2) X.env]:=by rfl) (r:∀v,assign (.Subscript o i p2) X.env v=(do
   let ov <-holding [v] (eval o X.env)
   let iv <-holding [v,ov] (eval i X.env)
   standAt p2
   holding [v,ov,iv] (setItem ov iv v)
   release [v,ov,iv] []):=by intro _;rfl):MS X (.Assign [.Subscript o i p2] e pos) (mJ E A F):=by
 refine PS.imp (F8 he (F7 I hi Gu r) N hw h1) λEn σ H ⟨ρ,σd,hd,R,p⟩=>⟨ρ,σd,hd,R,(cD.outE p).imp λv H1 ⟨t,d,w,W,m,L,P⟩ => ?_⟩;refine⟨t,σd,w,m,(cD.outE P).imp λU V ⟨u,Q,y,K,b,J,p2⟩ => ?_⟩;refine⟨u,σd,y,b,(cD.outE p2).imp λT D ⟨g,M,h,B,f,C,p3⟩ => ?_⟩;have x:=(L.mono (m.hp.kp K)).mono (b.hp.kp B);have s:=J.mono (b.hp.kp B);cases Q with
 | ref n =>
  cases M with
  | int j =>
   simp only at p3;cases c:h[n]? with
   | none=>rw[c]at p3;exact p3.elim
   | some cell =>
    rw[c]at p3;cases cell with
    | dct l=>exact p3.elim
    | dcT l=>exact p3.elim
    | ob l=>exact p3.elim
    | lst l =>
     simp only at p3;cases c2:ixN l.length j with
     | none=>rw[c2]at p3;exact p3.elim
     | some k =>
      rw[c2]at p3;simp only[RD]at s C;obtain⟨a,r,rfl⟩:=s;obtain⟨z,S,q⟩:=f.hp.cel n _ a c r;refine⟨a,z,j,k,rfl,C,S,by rw[<-q.length,<-L9];exact c2,?_⟩;have G:n < h.length:=(List.getElem?_eq_some_iff.mp c).1;have O:=f.hp.write r G (RDs.set x k q);have ex:Ext g D g (upd D a (.lst (z.set k v))):=Ext.write (ZK r);exact p3 σ _ g ex (f.ext ex O)
  | _=>exact p3.elim
 | _=>exact p3.elim
end
section
variable (K:ZX)
structure sI (ρ0:List Addr) (H0:Hp) (J:It) (l:List D) (g:Option Nat):Prop where
 go:∀ρ H hd (i:Nat) d,Ext ρ0 H0 ρ H->RH K ρ H hd->dJ g l hd->l[i]? = some d->J.go i H/\∀x H',J.yld i H x H'->jr H H'/\RD K ρ H' d x
 stop:∀ρ H hd,Ext ρ0 H0 ρ H->RH K ρ H hd->dJ g l hd->J.stop l.length H
 sz:l.length<=sizeLine
def Om (ρ:List Addr) (H:Hp) (σd:Sd) (σ:St) (r:Res (List D × Option Nat)) (R:It->Hp->Prop):Prop:=match r with
 | .ok p hd'=>∀J H' ρ',Ext ρ H ρ' H'->RS K ρ' H' σd hd' σ->sI K ρ' H' J p.1 p.2->R J H'
 | _=>False
def On (f:IF):TI:=λσ H R=>∃ρ σd hd,RS K ρ H σd hd σ/\Om K ρ H σd σ (f σd hd) R
end
def MI (X:Cx) (tg e:Expr) (f:IF):Prop:=PI X tg e (On X.K f)
section
variable {X:Cx} {pos:Pos} {tg:Expr}
theorem PI.imp {t u:TI}(h:PI X tg e t)(i:∀σ H R,u σ H R->t σ H R):PI X tg e u:=λpins s σ H R I q=>h pins s σ H R I (i σ H R q)
theorem d9 {t:Expr}{body:List Stmt}{f:IF}{g:GF}{b:SF}(hp:PassesOwn (model X.prog X.w) X.A X.env X.xe)(hc:X.calm=true)(hi:MI X tg t f)(P:MG X tg g)(Q:MSs X body b)
  (V:∀x,foldedSetIterable t X.env x=pure x:=by intro _;rfl):MS X (.For tg t body [] pos) (eO f g b):=by
 refine PS.imp (Ga hp hc hi P Q V) λEn σ H ⟨ρ,σd,hd,Z,p⟩=>⟨ρ,σd,hd,Z,?_⟩;unfold eO at p;cases e:f σd hd with
 | exc x h'=>rw[e]at p;exact p
 | bad=>rw[e]at p;exact p
 | ok q hd1 =>
  rw[e]at p;obtain⟨l,F⟩:=q;intro J H1 z K I L;simp only at p L;refine⟨λi m σ' H'=>∃ρ' k hd',Ext z H1 ρ' H'/\RS X.K ρ' H' k hd' σ'/\i<=l.length/\m=l.length - i/\cD X.K ρ' H' (jG F l g b (l.drop i) k hd') En,
   ⟨l.length,z,σd,hd1,Ext.refl,I,YG _,by simp,by simpa using cD.ext K p⟩,?_⟩
  rintro i m σ' H' ⟨ρ',k,hd',ex,u,S,rfl,a⟩
  by_cases A:i < l.length
  ·have M:l[i]? = some l[i]:=by simp[A]
   rw[Y4 A]at a;unfold jG at a
   by_cases hh:dJ F l hd'
   ·rw[z4 hh]at a
    obtain⟨go,R⟩:=L.go ρ' H' hd' i _ ex u.hp hh M;refine .inr ⟨go,λC B=>∃s h w,Ext z H1 s B/\RS X.K s B h w C/\cD X.K s B (jG F l g b (l.drop (i + 1)) h w) En,
     λC B ⟨s,h,w,U,O,Y⟩=>⟨l.length - (i + 1),by omega,s,h,w,U,O,A,rfl,Y⟩,λx B y => ?_⟩
    obtain⟨N,W⟩:=R x B y;cases c:g l[i] k with
    | none=>rw[c]at a;exact a.elim
    | some h =>
     rw[c]at a;simp only at a;refine⟨ρ',k,hd',l[i],h,u.same N,W,c,λC G=>⟨ρ',h,hd',G,?_⟩⟩;have r:Ext ρ' H' ρ' B:=Ext.same N;cases c2:b h hd' with
     | nx σ3 h3=>rw[c2]at a;exact λD E n j o=>⟨n,σ3,h3,ex.trans (r.trans j),o,cD.ext (r.trans j) a⟩
     | ct σ3 h3=>rw[c2]at a;exact λD E n j o=>⟨n,σ3,h3,ex.trans (r.trans j),o,cD.ext (r.trans j) a⟩
     | bk σ3 h3=>rw[c2]at a;exact λD E n j o=>a D E n (r.trans j) o
     | rt d h3=>rw[c2]at a;exact λv E n j o T=>a v E n (r.trans j) o T
     | exc x σ3 h3=>rw[c2]at a;exact a
     | bad=>rw[c2]at a;exact a
   ·rw[z5 hh]at a;exact a.elim
  ·have e0:i=l.length:=by omega
   subst e0;rw[List.drop_length]at a;unfold jG at a
   by_cases hh:dJ F l hd'
   ·rw[z4 hh]at a
    exact .inl ⟨L.stop ρ' H' hd' ex u.hp hh,a σ' H' ρ' Ext.refl u⟩
   ·rw[z5 hh]at a;exact a.elim
theorem GE {c:Expr}{body:List Stmt}{b:SF}(hp:PassesOwn (model X.prog X.w) X.A X.env X.xe)(hc:MT X c t)(A:MSs X body b):MS X (.While c body [] pos) (sF t b):=by
 refine PS.imp (F9 hp hc A) λEn σ H ⟨ρ,σd,hd,D,p⟩ => ?_;unfold sF at p;refine⟨λm σ' H'=>∃ρ' a hd',RS X.K ρ' H' a hd' σ'/\cD X.K ρ' H' (fq t b m a hd') En,⟨Jk t b σd hd,ρ,σd,hd,D,p⟩,?_⟩;rintro m σ' H' ⟨ρ',a,hd',y,f⟩;cases m with
 | zero=>exact f.elim
 | succ m =>
  unfold fq at f;refine⟨ρ',a,hd',y,?_⟩;cases e:t a hd' with
  | exc x h1=>rw[e]at f;exact f
  | bad=>rw[e]at f;exact f
  | ok c h1 =>
   rw[e]at f;intro E C r k u q;cases q;cases c with
   | false=>simp only[YB,Y7]at f ⊢;exact f σ' C r k u
   | true =>
    simp only[YP]at f ⊢;refine⟨λg z=>∃w l s,RS X.K w z l s g/\cD X.K w z (fq t b m l s) En,λg z q=>⟨m,Z8 _,q⟩,r,a,h1,u,?_⟩;cases c2:b a h1 with
    | nx g h3=>rw[c2]at f;exact λn o i h j=>⟨i,g,h3,j,cD.ext (k.trans h) f⟩
    | ct g h3=>rw[c2]at f;exact λn o i h j=>⟨i,g,h3,j,cD.ext (k.trans h) f⟩
    | bk g h3=>rw[c2]at f;exact λn o i h j=>f n o i (k.trans h) j
    | rt d h3=>rw[c2]at f;exact λv o i h j B=>f v o i (k.trans h) j B
    | exc x g h3=>rw[c2]at f;exact f
    | bad=>rw[c2]at f;exact f
theorem GG {hd:Hd}{q:Addr}(r:RH K ρ H hd)(b:H q=some (.tup vs))(a:RDs K ρ H l vs)(hz:vs.length<=sizeLine):sI K ρ H (Itt K q) l none where
 go:=λρ' H' hd' i d ex f _ hi=>by
  have k:=r.kp ex;obtain⟨v,c,g⟩:=(a.mono k).get hi;have e:SqT K H' q vs:=SqT.of (k.tup q vs b);refine⟨⟨vs,v,e,c⟩,λx h y => ?_⟩;obtain⟨rfl,y⟩:=y;have:=y vs e;rw[c]at this;cases this;exact⟨jr.refl _,g⟩
 stop:=λρ' H' hd' ex f _=>⟨vs,SqT.of ((r.kp ex).tup q vs b),by rw[a.length];exact ZL _⟩
 sz:=by rw[a.length];exact hz
theorem GH {hd:Hd}{q:Addr}(r:RH K ρ H hd)(b:qE K H q vs)(a:RDs K ρ H l vs)(hz:vs.length<=sizeLine):sI K ρ H (Itl K q) l none where
 go:=λρ' H' hd' i d ex f _ hi=>by
  have k:=r.kp ex;obtain⟨v,c,g⟩:=(a.mono k).get hi;have e:SqL K H' q vs:=(b.mono k).sq;refine⟨⟨vs,v,e,c⟩,λx h y => ?_⟩;obtain⟨rfl,y⟩:=y;have:=y vs e;rw[c]at this;cases this;exact⟨jr.refl _,g⟩
 stop:=λρ' H' hd' ex f _=>⟨vs,(b.mono (r.kp ex)).sq,by rw[a.length];exact ZL _⟩
 sz:=by rw[a.length];exact hz
theorem GI {n:Nat}{q:Addr}(g : ρ[n]? = some q)(hz:l.length<=sizeLine):sI K ρ H (Itl K q) l (some n) where
 sz:=hz
 go:=λρ' H' hd' i d ex f b hi=>by
  obtain⟨a,e,c⟩:=f.cel n _ q b (ex.get g);obtain⟨v,h,k⟩:=c.get hi;have j:SqL K H' q a:=SqL.of e;refine⟨⟨a,v,j,h⟩,λx m y => ?_⟩;obtain⟨rfl,y⟩:=y;have:=y a j;rw[h]at this;cases this;exact⟨jr.refl _,k⟩
 stop:=λρ' H' hd' ex f b=>by
  obtain⟨a,e,c⟩:=f.cel n _ q b (ex.get g);exact⟨a,SqL.of e,by rw[c.length];exact ZL _⟩
theorem Ma {l:Expr}{tl:TE}(k:PE X l tl):PI X tg l (λσ H R=>tl σ H λx H1=>(∃a xs,x=.ref a/\SqL X.K H1 a xs/\(xs.length<=sizeLine->R (Itl X.K a) H1))\/∃a xs,x=.ref a/\SqT X.K H1 a xs/\(xs.length<=sizeLine->R (Itt X.K a) H1)):=by
 intro pins s σ H R I h;refine thn (k pins s σ H _ I h) λv c ⟨x,H1,d,j,q1⟩ => ?_;rcases q1 with ⟨a,xs,e,hq,q⟩|⟨a,xs,e,hq,q⟩
 ·subst e
  cases j;obtain⟨f,m,p,g⟩:=d.list hq;refine WD p.isList ?_;refine⟨c.heap.objs.size,[c.heap.objs.size],_,_,H1,rfl,d.kept (t':=c.toks) λb o e=>ZH _ e,Eb a _,⟨_,ZJ _ rfl,rfl,rfl⟩,λb i => ?_,q g⟩;have e:b=c.heap.objs.size:=by simpa using i
  subst e;exact d.fpOk (ZL _) (d.hok.fresh (ZL _))
 ·subst e
  cases j;obtain⟨f,m,p,g⟩:=d.tuple hq;refine YV (show c.heap.IsTuple a f.toArray from p) ?_;refine⟨c.heap.objs.size,[c.heap.objs.size],_,_,H1,rfl,d.kept (t':=c.toks) λb o e=>ZH _ e,A2 a _,⟨_,ZJ _ rfl,rfl,rfl⟩,λb i => ?_,q g⟩;have e:b=c.heap.objs.size:=by simpa using i
  subst e;exact d.fpOk (ZL _) (d.hok.fresh (ZL _))
theorem fv (h:ME X e f):MI X tg e (eI f):=by
 refine PI.imp (Ma h) λσ H R ⟨ρ,σd,hd,u,p⟩=>⟨ρ,σd,hd,u,?_⟩;unfold eI at p;cases e:f σd hd with
 | exc x h1=>rw[e]at p;exact p
 | bad=>rw[e]at p;exact p
 | ok d hd1 =>
  rw[e]at p;simp only[ay]at p;intro v H1 i j b k;cases d<;>try exact p.elim
  ·rename_i l
   simp only[rD,RD]at k;obtain⟨q,m,rfl,r,g⟩:=k;exact .inr ⟨q,m,rfl,SqT.of r,λo=>p _ H1 i j b (GG b.hp r g o)⟩
  ·rename_i n
   simp only[rD,RD]at k;obtain⟨a,s,rfl⟩:=k;cases c:hd1[n]? with
   | none=>simp only[c]at p;exact p.elim
   | some cell =>
    cases cell with
    | dct l=>simp only[c]at p;exact p.elim
    | dcT l=>simp only[c]at p;exact p.elim
    | ob l=>simp only[c]at p;exact p.elim
    | lst l =>
     simp only[c]at p;obtain⟨m,t,g⟩:=b.hp.cel n _ a c s;exact .inl ⟨a,m,rfl,SqL.of t,λo=>p _ H1 i j b (GI s (by rw[g.length];exact o))⟩
  ·rename_i l
   simp only[rD,RD]at k;obtain⟨q,m,rfl,r,g⟩:=k;exact .inl ⟨q,m,rfl,r.sq,λo=>p _ H1 i j b (GH b.hp r g o)⟩
theorem sJ (lo:Int)(n:Nat)(hz:n<=2000000):sI K ρ H (Itr lo n) ((List.range n).map λk:Nat=>.int (lo + k)) none where
 go:=λρ' H' hd' i d ex b _ hi=>by
  have a:i < n:=by
   have:=(List.getElem?_eq_some_iff.mp hi).1;simpa using this
  refine⟨a,λx c y => ?_⟩;obtain⟨rfl,rfl⟩:=y;have e:d=.int (lo + i):=by simpa[a] using hi.symm
  subst e;exact⟨jr.refl _,by simp only[RD]⟩
 stop:=λρ' H' hd' ex b _=>by
  show n<=_;simp
 sz:=by
  have:(2000000:Nat)<=sizeLine:=by rw[YK];decide
  simp;omega
theorem cF {a:Expr}   (k:Gl X "range") (hm:X.mg "range" = none) (l:ME X a f) (j:starEach [a] X.env=[(false,eval a X.env)]:=by rfl):MI X tg (.Call (.Name "range" p) [a] [] pos) (bH f):=by
 refine PI.imp (Ec k hm (cw l dI j) j) λσ H R ⟨ρ,σd,hd,m,b⟩=>⟨ρ,σd,hd,m,?_⟩;unfold bH at b;cases e:f σd hd with
 | exc x h1=>rw[e]at b;exact b
 | bad=>rw[e]at b;exact b
 | ok d hd1 =>
  rw[e]at b;simp only[ay]at b;intro v H1 c h g i;cases d<;>try exact b.elim
  rename_i n
  simp only at b;simp only[rD,RD]at i;subst i;split at b
  ·rename_i hb
   refine⟨n,rfl,by omega,by omega,b _ H1 c h g ?_⟩;have:=sJ (K:=X.K) (ρ := c) (H:=H1) 0 n.toNat (by omega);simpa using this
  ·exact b.elim
theorem jH {a:Expr} {g:EF}  (w:Gl X "range") (hm:X.mg "range" = none) (z:ME X a f) (s:ME X b g) (u:starEach [a,b] X.env=[(false,eval a X.env),(false,eval b X.env)]:=by rfl) (h:starEach [b] X.env=[(false,eval b X.env)]:=by rfl):MI X tg (.Call (.Name "range" p) [a,b] [] pos) (eG f g):=by
 refine PI.imp (Ed w hm (cw z (cw s dI h) (by rw[u,h])) u h) λσ H R ⟨ρ,σd,hd,A,c⟩=>⟨ρ,σd,hd,A,?_⟩;unfold eG at c;cases e:f σd hd with
 | exc x h1=>rw[e]at c;exact c
 | bad=>rw[e]at c;exact c
 | ok d hd1 =>
  rw[e]at c;simp only[ay]at c;intro v H1 l q o t;refine⟨l,σd,hd1,o,?_⟩;cases e2:g σd hd1 with
  | exc x h1=>rw[e2]at c;exact c
  | bad=>rw[e2]at c;exact c
  | ok d2 hd2 =>
   rw[e2]at c;simp only[ay]at c;intro B y m r n k;cases d<;>try exact c.elim
   cases d2<;>try exact c.elim
   rename_i i j
   simp only at c;simp only[rD,RD]at t k;subst t k;split at c
   ·rename_i s
    exact⟨i,j,rfl,⟨by omega,by omega,by omega,by omega⟩,c _ y m (q.trans r) n (sJ (K:=X.K) i (j - i).toNat (by omega))⟩
   ·exact c.elim
end
end Fm
namespace Fm
section
open Classical
def fM (G:Hd->Prop) (tg:GF) (cs:List TF) (e:EF):List D->Sd->Hd->Res (List D)
 | [],_,h=>if G h then .ok [] h else .bad
 | x :: xs,σ,h=>if G h then match tg x σ with
   | some σ=>(kP cs σ h).bind λb h=>if b then (e σ h).bind λd h=>(fM G tg cs e xs σ h).bind λds h=>.ok (d :: ds) h
    else fM G tg cs e xs σ h
   | none=>.bad
  else .bad
end
theorem xa {g:Option Nat}{all:List D}{tg:GF}{cs:List TF}{e:EF}:∀(xs:List D) (σ:Sd) (h:Hd),cI g all tg cs e xs σ h=fM (dJ g all) tg cs e xs σ h
 | [],_,h=>by unfold cI fM;rfl
 | x :: xs,σ,h=>by
  unfold cI fM
  by_cases hh:dJ g all h
  ·rw[z4 hh,z4 hh]
   cases tg x σ with
   | none=>rfl
   | some σ'=>simp only[xa xs]
  ·rw[z5 hh,z5 hh]
end Fm
namespace Fm
open PySem PySem.Spec L2
section
variable {prog:T5} {w:T6} {A:T4} {R:Result->T3->Prop} {s:T3}
theorem xb {q b k:Expr}{p:List Expr}{scope:Scope}{pos:Pos}{it acc:T0}{env:Env}{E:T0->T3->Prop}(G:∀e s,¬E e s)(I:Nat->T3->Prop)
  (turn:∀n s,I n s->wpAny (model prog w) A (pyNext it) (λr d => match r with
   | none=>R (.ok .next) d
   | some v=>wpAny (model prog w) A (letOwnedTupleGo b it v) (λ_ d => wpAny (model prog w) A (assign b env v) (λ_ j =>
     wpAny (model prog w) A (forIn p true λc r=>if r=true then do let ok <-isTrue c env (eval c env);pure (ForInStep.yield ok) else pure (ForInStep.yield r)) (λok g =>
      if ok=true then wpAny (model prog w) A (eval q env) (λx l =>
       wpAny (model prog w) A (call (.builtin "list.append") [acc,x]) (λ_ o => ∃m,m < n/\I m o) E l) E g
      else ∃m,m < n/\I m g) E j) E d) E d) E s)
  (n:Nat) (h:I n s) :
  codeAny (model prog w) A (.compLoop (.ListComp q [⟨b,k,p,0⟩] scope pos) 0 it acc env) R s:=by
 refine codeAny_loop rfl I (λn s H => ?_) n h;show wpAny _ A ((compTurn (.ListComp q [⟨b,k,p,0⟩] scope pos) 0 it acc env).onRaise (λx=>do noteFrame x env;theTreesLotGoes x)) _ _ s;refine wpAny_noted ?_;rw[compTurn_list];have no:∀{α : Type} {t:Sem α} {Q C : α->T3->Prop} {F:T0->T3->Prop} {s:T3},wpAny (model prog w) A t Q E s->(∀a s,Q a s->C a s)->wpAny (model prog w) A t C F s:=λh D=>WX h D λe s z=>(G e s z).elim;refine z0 (wpAny_standAt (z0 (no (turn n s H) λr d f => ?_)));cases r with
 | none=>exact x4 f
 | some v =>
  refine z0 (no f λ_ d f => ?_);refine z0 (no f λ_ j u => z0 (no u λok g i => ?_));cases ok with
  | false=>exact x4 ⟨rfl,i⟩
  | true =>
   exact z0 (z0 (no i λx l B => z0 (no B λ_ o y => x4 (x4 ⟨rfl,y⟩))))
end
theorem mX {env:Env}:∀(l:List (Str × NameKind)) (g:List (Str × Addr)),(∀y∈l,y.2=.free->∃c,env.cells.lookup y.1=some c)->
  ∃i,(forIn l g λ(x:Str × NameKind) (r:List (Str × Addr))=>if (x.2 == .free)=true then do let a <-cellOf env x.1;pure (ForInStep.yield ((x.1,a) :: r)) else pure (ForInStep.yield r))=(pure i:Sem _)/\
   (∀x c,i.lookup x=some c->g.lookup x=some c\/env.cells.lookup x=some c)/\(∀y∈l,y.2=.free->∃c,i.lookup y.1=some c)/\∀x c,g.lookup x=some c->∃s,i.lookup x=some s
 | [],g,_=>⟨g,by simp,λx c h=>.inl h,λy f=>by simp at f,λx c h=>⟨c,h⟩⟩
 | (n,k) :: l,g,hf=>by
  by_cases hk:k=.free
  ·subst hk
   obtain⟨c,hc⟩:=hf (n,.free) (by simp) rfl;obtain⟨i,m,p,o,j⟩:=mX l ((n,c) :: g) λy f=>hf y (by simp[f]);refine⟨i,?_,λx d h => ?_,λy f b => ?_,λx d h => ?_⟩
   ·rw[List.forIn_cons]
    simp only[beq_self_eq_true,YP,cellOf,hc];exact m
   ·rcases p x d h with q|q
    ·rw[Z2]at q
     cases e:x == n with
     | true =>
      rw[e]at q;have:x=n:=by simpa using e
      subst this;cases q;exact .inr hc
     | false=>rw[e]at q;exact .inl q
    ·exact .inr q
   ·rcases Y6.mp f with e|e
    ·subst e
     exact j n c (by simp[Z2])
    ·exact o y e b
   ·by_cases e:x=n
    ·subst e
     exact j x c (by simp[Z2])
    ·exact j x d (by rw[Z2,beq_eq_false_iff_ne.mpr e];exact h)
  ·obtain⟨i,m,p,o,j⟩:=mX l g λy f=>hf y (by simp[f])
   refine⟨i,?_,p,λy f b => ?_,j⟩
   ·rw[List.forIn_cons]
    have:(k == NameKind.free)=false:=by simpa using hk
    simp only[this,YB,Y7];exact m
   ·rcases Y6.mp f with e|e
    ·subst e;exact absurd b hk
    ·exact o y e b
theorem mY {scope:Scope}{env:Env}(g:∀y∈scope.names,y.2=.free->∃c,env.cells.lookup y.1=some c) :
  ∃b,closureFor scope env=pure b/\(∀x c,b.lookup x=some c->env.cells.lookup x=some c)/\∀y∈scope.names,y.2=.free->∃c,b.lookup y.1=some c:=by
 obtain⟨b,f,i,d,_⟩:=mX scope.names [] g;refine⟨b,?_,λx c h=>(i x c h).elim (λz=>by simp at z) id,d⟩;unfold closureFor;have e:(forIn scope.names ([] : List (Str × Addr)) λ(x:Str × NameKind) (r:List (Str × Addr))=>if (x.2 == .free)=true then do let a <-cellOf env x.1;pure (ForInStep.yield ((x.1,a) :: r)) else pure (ForInStep.yield r))=(pure b:Sem _):=f;exact(congrArg (λt:Sem (List (Str × Addr))=>t >>= λr=>pure r) e).trans rfl
def cxC (X:Cx) (N:List Str) (scope:Scope) (cl:List (Str × Addr)) (C:Addr) (s:T3) (H:Hp) (ex:List Addr):Cx where
 prog:=X.prog
 w:=X.w
 K:=X.K
 mg:=X.mg
 base:=X.base
 A:=X.A
 N:=N
 s₀ := s
 H₀ := H
 env:=compEnvC scope cl C X.env
 outer:=X.stack
 stack:=X.stack
 ex:=ex
 fn:=λ_=>false
 calm:=X.calm
 pn:=[]
 xe:=λ_ _=>False
def MTs (X:Cx) (ifs:List Expr) (cs:List TF):Prop :=
 ∀(pins:List (Addr × Obj)) (s:T3) (σ:St) (H:Hp) (Q:Bool->Hp->Prop),Inv X pins σ H s->k8 X.K rB (kP cs) σ H Q->
  wpAny (model X.prog X.w) X.A (forIn ifs true λc r=>if r=true then do let ok <-isTrue c X.env (eval c X.env);pure (ForInStep.yield ok) else pure (ForInStep.yield r)) (TP X pins σ Q) X.xe s
theorem cM {X:Cx}:MTs X [] []:=λpins s σ H Q I ⟨ρ,σd,hd,a,p⟩=>wpAny_tests_nil ⟨H,I,p.here a rfl⟩
theorem oj {X:Cx}{c:Expr}{t:TF}(h:MT X c t):MTs X [c] [t]:=λpins s σ H Q I ⟨ρ,σd,hd,a,p⟩=>wpAny_tests_one (h pins s σ H Q I ⟨ρ,σd,hd,a,by
 have e:kP [t] σd hd=t σd hd:=by
  simp only[kP];cases c:t σd hd with
  | ok b h'=>cases b<;>simp
  | exc x h'=>rfl
  | bad=>rfl
 rw[e]at p;exact p⟩)
theorem lq {env:Env}{x:Str}:∀{a:List (Str × NameKind)} {k:NameKind},(a.map λ(n,k)=>if (k == NameKind.free && env.scope.kind == .function && env.kindOf n == some .cell) then (n,NameKind.cell) else (n,k)).lookup x=some k->
  ∃k0,a.lookup x=some k0/\(k=k0\/(k0=.free/\k=.cell))
 | [],_,h=>by simp at h
 | (n,k') :: r,k,h=>by
  have b := @lq env x r k;have h':List.lookup x ((if (k' == NameKind.free && env.scope.kind == .function && env.kindOf n == some .cell)=true then (n,NameKind.cell) else (n,k')) :: _)=some k:=h;cases hx:x == n with
  | true =>
   refine⟨k',by simp[Z2,hx],?_⟩
   by_cases hc:(k' == NameKind.free && env.scope.kind == .function && env.kindOf n == some .cell)=true
   ·rw[z4 hc]at h'
    simp only[Z2,hx,YM]at h';simp only[Z3,beq_iff_eq]at hc;exact .inr ⟨hc.1.1,h'.symm⟩
   ·rw[z5 hc]at h'
    simp only[Z2,hx,YM]at h';exact .inl h'.symm
  | false =>
   have:List.lookup x ((n,k') :: r)=List.lookup x r:=by simp[Z2,hx]
   rw[this];refine b ?_
   by_cases hc:(k' == NameKind.free && env.scope.kind == .function && env.kindOf n == some .cell)=true
   ·rw[z4 hc]at h';simpa only[Z2,hx] using h'
   ·rw[z5 hc]at h';simpa only[Z2,hx] using h'
theorem iM {x:Str}{k:NameKind}:∀{l:List (Str × NameKind)},l.lookup x=some k->(x,k)∈l
 | [],h=>by simp at h
 | (n,k') :: r,h=>by
  rw[Z2]at h;cases e:x == n with
  | true =>
   rw[e]at h;have:x=n:=by simpa using e
   subst this;cases h;exact ZV
  | false=>rw[e]at h;exact ZW _ (iM h)
structure bK (X:Cx) (scope:Scope) (own capn:List Str) (caps:List Nat):Prop where
 kind:scope.kind=.function
 cell:∀y∈scope.names,y.2 ≠ .cell
 names:∀y∈scope.names,y.2=.local->scope.names.lookup y.1=some .local
 free:∀y∈scope.names,y.2=.free->X.env.kindOf y.1=some .cell\/X.env.kindOf y.1=some .free
 cap:∀(j:Nat) x,capn[j]? = some x->∃i,caps[j]? = some i/\X.N[i]? = some x/\scope.names.lookup x=some .free
 len:capn.length=caps.length
section
variable {X:Cx} {pins:List (Addr × Obj)} {σ:St} {H1:Hp} {s2:T3} {scope:Scope} {own capn:List Str} {caps:List Nat} {cl:List (Str × Addr)} {C:Addr} {ex:List Addr}
def stC (own:List Str) (caps:List Nat) (σ:St):St:=List.replicate own.length none++caps.map λi=>(σ[i]?).join
theorem Mb (I:Inv X pins σ H1 s2)(S:bK X scope own capn caps)(u:s2.heap.objs.size<=C)(a:∀x c,cl.lookup x=some c->X.env.cells.lookup x=some c)(g:∀y∈scope.names,y.2=.free->∃c,cl.lookup y.1=some c)
  (p:∀b∈ex,se X pins H1 b) (i:∀b∈ex,b < s2.heap.objs.size):(cxC X (own++capn) scope cl C s2 H1 ex).Ok where
 mod:=I.ok.mod
 kind:=S.kind
 glob:=I.ok.glob
 blt:=I.ok.blt
 above:=u
 inj:=λx y c v D=>I.ok.inj x y c (a x c v) (a y c D)
 has:=λx E=>by
  have f:∀k,(relabel scope X.env).names.lookup x=some k->k=.cell\/k=.free->∃c,cl.lookup x=some c:=λk h w=>by
   obtain⟨k0,A,q⟩:=lq h;have r:=iM A;have:k0=.free:=by
    rcases q with q|q
    ·subst q
     rcases w with e|e
     ·exact absurd e (S.cell _ r)
     ·exact e
    ·exact q.1
   exact g _ r this
  rcases E with h|h
  ·exact f _ h (.inl rfl)
  ·exact f _ h (.inr rfl)
 cab:=λx c h=>by cases h
 hd:=I.ok.hd
 frames:=I.ok.frames
 stk:=.inl rfl
 exf:=λb d=>by
  obtain⟨s,l,m,n,j,t⟩:=p b d;exact⟨λz=>absurd (v3 (i b d) u) (by rw[z];exact Z9 _),λx c e=>j x c (a x c e)⟩
 bs:=I.bs
 bsz:=ZM I.ok.bsz I.sz
 noex:=λb o e d=>by
  obtain⟨s,l,m,n,j,t⟩:=p b d;rcases n with z|z
  ·exact I.ok.noex b o e z
  ·exact absurd (v3 (ZI (I.ok.bs b o e).1) z) (Z9 _)
 exfs:=λb d B=>by
  obtain⟨s,l,m,n,j,t⟩:=p b d;rcases Y6.mp (I.stkSub b B) with z|z
  ·exact l z
  ·exact m z
 funs:=I.stack
 frf:=I.stkFree
theorem om {env:Env}{x:Str}:∀{a:List (Str × NameKind)},a.lookup x=some .free->
  (a.map λ(n,k)=>if (k == NameKind.free && env.scope.kind == .function && env.kindOf n == some .cell) then (n,NameKind.cell) else (n,k)).lookup x=some .cell\/
  (a.map λ(n,k)=>if (k == NameKind.free && env.scope.kind == .function && env.kindOf n == some .cell) then (n,NameKind.cell) else (n,k)).lookup x=some .free
 | [],h=>by simp at h
 | (n,k') :: r,h=>by
  have b := @om env x r;show List.lookup x ((if (k' == NameKind.free && env.scope.kind == .function && env.kindOf n == some .cell)=true then (n,NameKind.cell) else (n,k')) :: _)=_\/List.lookup x ((if (k' == NameKind.free && env.scope.kind == .function && env.kindOf n == some .cell)=true then (n,NameKind.cell) else (n,k')) :: _)=_;cases hx:x == n with
  | true =>
   simp only[Z2,hx,YM]at h;subst h
   by_cases hc:(NameKind.free == NameKind.free && env.scope.kind == .function && env.kindOf n == some .cell)=true
   ·rw[z4 hc];exact .inl (by simp only[Z2,hx])
   ·rw[z5 hc];exact .inr (by simp only[Z2,hx])
  | false =>
   simp only[Z2,hx]at h
   by_cases hc:(k' == NameKind.free && env.scope.kind == .function && env.kindOf n == some .cell)=true
   ·rw[z4 hc];simp only[Z2,hx];exact b h
   ·rw[z5 hc];simp only[Z2,hx];exact b h
theorem Jn {i:Nat}{v:V}(h:(stC own caps σ)[i]? = some (some v)):∃j k,i=own.length + j/\caps[j]? = some k/\σ[k]? = some (some v):=by
 unfold stC at h
 by_cases hi:i < own.length
 ·rw[ZC (by simpa using hi)]at h
  simp[hi]at h
 ·rw[ZD (by simpa using WI hi)]at h
  simp only[WC,ZQ]at h;cases c:caps[i - own.length]? with
  | none=>rw[c]at h;cases h
  | some k =>
   rw[c]at h;simp only[YU,YM]at h;refine⟨i - own.length,k,by omega,c,?_⟩;cases e : σ[k]? with
   | none=>rw[e]at h;cases h
   | some o=>rw[e]at h;simp only[Option.join_some]at h;rw[h]
theorem Es (I:Inv X pins σ H1 s2)(S:bK X scope own capn caps)(q:s2.heap.objs.size < C)(a:∀x c,cl.lookup x=some c->X.env.cells.lookup x=some c)(d:∀y∈scope.names,y.2=.free->∃c,cl.lookup y.1=some c)
  (K:∀b∈ex,se X pins H1 b) (l:∀b∈ex,b < s2.heap.objs.size) {h1:Heap} {m:Str->Option T0} {tk:Nat} (A:h1.Ns C m) (h:∀b o,s2.heap.get? b=some o->h1.get? b=some o)
  (D:h1.get? s2.heap.objs.size=some { cls:=.type "list",data:=.seq #[] }) :
  Inv (cxC X (own++capn) scope cl C s2 H1 ex) [] (stC own caps σ) (upd H1 s2.heap.objs.size (.lst [])) { s2 with heap:=h1,toks:=tk } where
 ok:=Mb I S (YS q) a d K l
 os:=rfl
 bare:=I.bare
 base:=Un.laid h (ZL _) (I.hok.fresh (ZL _))
 loc:=by
  refine⟨m,A,λi x v J E N => ?_⟩;obtain⟨j,k,rfl,L,s⟩:=Jn E;have n:capn[j]? = some x:=by
   have:(own++capn)[own.length + j]? = some x:=J;rw[ZD (by omega)]at this;simpa using this
  obtain⟨O,q1,q2,q3⟩:=S.cap j x n;rw[L]at q1;cases q1;have t:=iM q3;have w:=S.free _ t rfl;obtain⟨M,G,B⟩:=I.loc;obtain⟨u,r,F⟩:=B k x v q2 s (.inr w);refine⟨u,r,.inr ⟨om q3,?_⟩⟩;rcases F with ⟨z,_⟩|⟨_,c,hc,o,f,hd⟩
  ·rcases w with e|e<;>(rw[z]at e;cases e)
  ·obtain⟨P,g⟩:=d _ t rfl
   have:=a _ _ g;rw[hc]at this;cases this;exact⟨c,g,o,h c o f,hd⟩
 cell:=λx c e=>by
  obtain⟨v,o,f,hd⟩:=I.cell x c (a x c e);exact⟨v,o,h c o f,hd⟩
 free:=by
  show upd H1 _ _ C=none;rw[aM (Z5 q)];exact I.hok.fresh (YS q)
 freeC:=λx c e=>by
  obtain⟨v,o,f,hd⟩:=I.cell x c (a x c e);rw[aM (ZN (ZI f))];exact I.freeC x c (a x c e)
 pin:=λp H=>absurd (show p∈([] : List (Addr × Obj)) from H) (by simp)
 hok:=I.hok.laid h (ZL _) ⟨YG _,[],0,.nil,D⟩
 len:=by
  show (stC own caps σ).length=(own++capn).length;simp[stC,S.len]
end
theorem RS.other {K:ZX}{ρ:List Addr}{H:Hp}{σd:Sd}{hd:Hd}{σ:St}{d:Addr}{ys zs:List V}(r:RS K ρ H σd hd σ)(h:H d=some (.lst ys))(n:d ∉ ρ):RS K ρ (upd H d (.lst zs)) σd hd σ/\Kp ρ H ρ (upd H d (.lst zs)):=by
 have k:Kp ρ H ρ (upd H d (.lst zs)):=⟨λ_ _ h=>h,λa i e=>by
  rw[aM (λz=>by rw[z,h]at e;cases e)];exact e,λa o u e=>by
  rw[aM (λz=>by rw[z,h]at e;cases e)];exact e,λa g e=>by
  rw[aM (λz=>by rw[z,h]at e;cases e)];exact e⟩
 refine⟨⟨⟨r.hp.len,r.hp.nd,λm c a f b=>(r.hp.cel m c a f b).mono k (aM λz=>n (by rw[<-z];exact ZK b))⟩,r.st.mono k⟩,k⟩
theorem Ext.other {ρ ρ':List Addr}{H H':Hp}{d:Addr}{o:HO}(e:Ext ρ H ρ' H')(h:H d=none):Ext ρ H ρ' (upd H' d o) :=
 ⟨e.pre,e.new,λp u a n=>by rw[aM (bO a h)];exact e.frame p u a n⟩
theorem zd {nl:Nat}{caps:List Nat}{σd:Sd}{i:Nat}{d:D}(h:slot (gp nl caps σd) i=some d):∃j k,i=nl + j/\caps[j]? = some k/\slot σd k=some d:=by
 unfold gp at h;simp only[slot]at h
 by_cases hi:i < nl
 ·rw[ZC (by simpa using hi)]at h
  simp[hi]at h
 ·rw[ZD (by simpa using WI hi)]at h
  simp only[WC,ZQ]at h;cases c:caps[i - nl]? with
  | none=>rw[c]at h;cases h
  | some k =>
   rw[c]at h;simp only[YU]at h;refine⟨i - nl,k,by omega,c,?_⟩;simp only[slot]
   revert h
   cases e : σd[k]? with
   | none=>simp
   | some o=>cases o<;>simp
structure ze (K:ZX) (ρ0:List Addr) (H0:Hp) (J:It) (l:List D) (G:Hd->Prop):Prop where
 go:∀ρ H hd (i:Nat) d,Ext ρ0 H0 ρ H->RH K ρ H hd->G hd->l[i]? = some d->J.go i H/\∀x H',J.yld i H x H'->jr H H'/\RD K ρ H' d x
 stop:∀ρ H hd,Ext ρ0 H0 ρ H->RH K ρ H hd->G hd->J.stop l.length H
 sz:l.length<=sizeLine
theorem sI.g {K:ZX}{ρ:List Addr}{H:Hp}{J:It}{l:List D}{g:Option Nat}(w:sI K ρ H J l g):ze K ρ H J l (dJ g l):=⟨w.go,w.stop,w.sz⟩
structure CD where
 i:Nat
 ys:List V
 acc:List D
 rest:List D
 ρ:List Addr
 σd:Sd
 hd:Hd
 H:Hp
 σ:St
structure CI (X:Cx) (own capn:List Str) (scope:Scope) (cl:List (Str × Addr)) (s2:T3) (C:Addr) (H1:Hp) (ρ1:List Addr) (fp:List Addr) (tn:Nat->Heap->Prop) (G:Hd->Prop) (g:GF) (cs:List TF) (e:EF) (l:List D) (hdF:Hd) (ds:List D) (d:CD) (s':T3):Prop where
 le:d.i<=l.length
 inv:Inv (cxC X (own++capn) scope cl C s2 H1 fp) [] d.σ d.H s'
 st:tn d.i s'.heap
 fr:∀b∈fp,d.H b=none
 at':d.H s2.heap.objs.size=some (.lst d.ys)
 out:s2.heap.objs.size∉d.ρ
 yl:d.ys.length<=d.i
 ex:Ext ρ1 H1 d.ρ d.H
 rs:RS X.K d.ρ d.H d.σd d.hd d.σ
 ac:RDs X.K d.ρ d.H d.acc d.ys
 run:fM G g cs e (l.drop d.i) d.σd d.hd=.ok d.rest hdF
 eq:d.acc++d.rest=ds
section
variable {X:Cx} {pins:List (Addr × Obj)} {σ:St} {H1:Hp} {s2:T3} {scope:Scope} {own capn:List Str} {caps:List Nat} {cl:List (Str × Addr)}
theorem Bp {a:List Addr}{σd:Sd}{b:Hd}(S:bK X scope own capn caps)(r:RS X.K a H1 σd b σ){d:Addr}(hd:H1 d=none):RS X.K a (upd H1 d (.lst [])) (gp own.length caps σd) b (stC own caps σ):=by
 have c:=cv (o:=HO.lst []) hd;refine⟨r.hp.same c,⟨by simp[stC,gp],λi x e => ?_⟩⟩;obtain⟨j,k,rfl,l,g⟩:=zd e;obtain⟨v,f,h⟩:=r.st.at' k x g;refine⟨v,?_,h.mono (Kp.same c)⟩;unfold stC;rw[ZD (by simp)];simp[l,f]
theorem pv {b9 tg b1:Expr}{b4:List Expr}{pos:Pos}{it:Addr}{B:List Addr}{tn:Nat->Heap->Prop}{J:It}{l:List D}{G:Hd->Prop}{g:GF}{cs:List TF}{e:EF}{K:List Addr}{σd:Sd}{c0 a1:Hd}{ds:List D}{E:T0->T3->Prop}{RR:T0->Addr->Result->T3->Prop}
  (hc:X.calm=true) (S:bK X scope own capn caps) (d9:∀cl C s H ex,MG (cxC X (own++capn) scope cl C s H ex) tg g/\MTs (cxC X (own++capn) scope cl C s H ex) b4 cs/\ME (cxC X (own++capn) scope cl C s H ex) b9 e)
  (I1:Inv X pins σ H1 s2) (T:yW X.prog X.w X.K tg J B it tn) (c8:tn 0 s2.heap) (hf:∀b∈B,se X pins H1 b) (d0:RS X.K K H1 σd c0 σ) (wk:ze X.K K H1 J l G)
  (a9:∀x c,cl.lookup x=some c->X.env.cells.lookup x=some c) (d2:∀y∈scope.names,y.2=.free->∃c,cl.lookup y.1=some c)
  (run:fM G g cs e l (gp own.length caps σd) c0=.ok ds a1)
  (e3:∀C s' m H' ρ' vs,s2.heap.objs.size < C->s'.heap.Ns C m->Inv X pins σ H' s'->H' C=none->Ext K H1 ρ' H'->RH X.K ρ' H' a1->H1 s2.heap.objs.size=none->H' s2.heap.objs.size=some (.lst vs)->s2.heap.objs.size ∉ ρ'->RDs X.K ρ' H' ds vs->
   RR (.ref s2.heap.objs.size) C (.ok .next) s') :
  wpAny (model X.prog X.w) X.A (newList []) (λI w => wpAny (model X.prog X.w) X.A (newFunctionEnv scope X.env.globals cl [] X.env.qual none .none (some X.env)) (λa4 c7 =>
   codeAny (model X.prog X.w) X.A (.compStart (.ListComp b9 [⟨tg,b1,b4,0⟩] scope pos) 0 (.ref it) I { a4 with scope:=relabel scope X.env }) (RR I a4.locals) c7) E w) E s2:=by
 refine XA (wpAny_newFunctionEnv S.cell (by intro y hy;simp at hy) (λL k f => ?_) S.kind);dsimp only at k f ⊢;generalize hH2:s2.heap.push { cls:=.type "list",dict:=none,data:=.seq ([] : List T0).toArray } = H2 at k f ⊢;have hC:H2.objs.size=s2.heap.objs.size + 1:=by rw[<-hH2,YF]
 have e6:s2.heap.objs.size≠H2.objs.size:=by rw[hC];exact ZN (Z8 _)
 have d1:∀b o,s2.heap.get? b=some o->L.get? b=some o:=λb o e=>f.extBut b o (by rw[hC];exact ZN (ZZ (ZI e))) (ZH _ (hH2 ▸ ZH _ e));have d6:L.get? s2.heap.objs.size=some { cls:=.type "list",data:=.seq #[] }:=f.extBut _ _ e6 (ZH _ (hH2 ▸ ZJ _ rfl));have b7:∀b∈B,b < s2.heap.objs.size:=λb t=>by
  obtain⟨o,ho,_⟩:=T.obj 0 _ c8 b t;exact ZI ho
 have d4:s2.heap.objs.size < H2.objs.size:=by rw[hC];exact Z8 _
 have Q:H1 s2.heap.objs.size=none:=I1.hok.fresh (ZL _);have d5:tn 0 L := T.keep 0 _ _ c8 λb t o e=>d1 b o e;have e1:s2.heap.objs.size ∉ K:=d0.hp.free Q;obtain⟨hG,hT,hE⟩:=d9 cl H2.objs.size s2 H1 B;have I':=Es (tk:=s2.toks + ([] : List (Str × T0)).length) I1 S d4 a9 d2 hf b7 k d1 d6;have b6:∀{pins':List (Addr × Obj)} {H':Hp},(∀b∈B,H' b=none)->∀b∈B,se (cxC X (own++capn) scope cl H2.objs.size s2 H1 B) [] H' b:=λ{pins' H'} hn b t=>by
  obtain⟨f0,f1,f2,f3,f4,f5⟩:=hf b t;have lt:=b7 b t;refine⟨hn b t,λz=>absurd lt (by rw[show b=H2.objs.size from z,hC];exact Nat.not_lt.mpr (Nat.le_succ _)),λz => ?_,.inl t,λx c e=>f4 x c (a9 x c e),λp hp=>absurd (show p∈([] : List (Addr × Obj)) from hp) (by simp)⟩;rcases Y6.mp (I1.stkSub b z) with q|q
  ·exact f1 q
  ·exact f2 q
 have a3:∀w : T3,w = { s2 with heap:=L,toks:=s2.toks + ([] : List (Str × T0)).length }->
   codeAny (model X.prog X.w) X.A (.compLoop (.ListComp b9 [⟨tg,b1,b4,0⟩] scope pos) 0 (.ref it) (.ref s2.heap.objs.size) (compEnvC scope cl H2.objs.size X.env)) (RR (.ref s2.heap.objs.size) H2.objs.size) w := by
  rintro w rfl;refine xb (E:=λ_ _=>False) (λ_ _ z=>z) (λn s'=>∃d:CD,n=l.length - d.i/\CI X own capn scope cl s2 H2.objs.size H1 K B tn G g cs e l a1 ds d s') ?_ l.length
   ⟨⟨0,[],[],ds,K,_,c0,_,_⟩,by simp,YG _,I',d5,λb t => ?_,bp,e1,ZL _,Ext.same (cv Q),Bp S d0 Q,RDs.nil,by simpa using run,rfl⟩
  ·rintro n s' ⟨⟨i,ys,I,rest,ρ',M,hd',H',σ'⟩,rfl,P⟩
   have g1:i<=l.length:=P.le;have I':Inv (cxC X (own++capn) scope cl H2.objs.size s2 H1 B) [] σ' H' s':=P.inv;have c9:tn i s'.heap:=P.st;have c5:∀b∈B,H' b=none:=P.fr;have a0:H' s2.heap.objs.size=some (.lst ys):=P.at';have b3:s2.heap.objs.size ∉ ρ':=P.out;have d3:ys.length<=i:=P.yl;have ex:Ext K H1 ρ' H':=P.ex;have R:RS X.K ρ' H' M hd' σ':=P.rs;have a7:RDs X.K ρ' H' I ys:=P.ac;have a:fM G g cs e (l.drop i) M hd'=.ok rest a1:=P.run;have a2:I++rest=ds:=P.eq
   by_cases hlt':i < l.length
   ·have e2:l[i]? = some l[i]:=by simp[hlt']
    rw[Y4 hlt']at a;unfold fM at a
    by_cases hh:G hd'
    ·rw[z4 hh]at a
     obtain⟨go,yl⟩:=wk.go ρ' H' hd' i _ ex R.hp hh e2;cases c:g l[i] M with
     | none=>rw[c]at a;cases a
     | some σd2 =>
      rw[c]at a;simp only at a;refine thn (T.item (cxC X (own++capn) scope cl H2.objs.size s2 H1 B) rfl rfl rfl hc i [] s' σ' H' (λ_ _=>False) I' (b6 (pins':=[]) c5) c9 go) λr a6 ⟨u,hr,h4⟩ => ?_;subst hr;refine thn h4 λ_ s5 ⟨x,H5,I5,r5,y5,c1,e5⟩ => ?_;obtain⟨sm,rx⟩:=yl x H5 y5;have e7:=I5.pinned (b6 (pins':=[]) e5) (T.obj _ _ c1);have f7:=R.same sm;have g0:=sm _ _ a0;refine thn (hG _ s5 σ' H5 x u (λh H6=>H6=H5/\RS X.K ρ' H5 σd2 hd' h) e7 r5 ⟨ρ',M,hd',l[i],σd2,f7,rx,c,λh b5=>⟨rfl,b5⟩⟩) λ_ s6 ⟨h,H6,I6,e4,b5⟩ => ?_;subst e4;cases c2:kP cs σd2 hd' with
      | exc z h7=>rw[c2]at a;cases a
      | bad=>rw[c2]at a;cases a
      | ok b hd7 =>
       rw[c2]at a;simp only[ay]at a;refine thn (hT _ s6 h H6 (λb' H7=>b'=b/\∃j,Ext ρ' H6 j H7/\RS X.K j H7 σd2 hd7 h) I6 ⟨ρ',σd2,hd',b5,by
        rw[c2];exact λb' H7 j b2 Y q=>⟨q.symm,j,b2,Y⟩⟩) λb' s7 ⟨H7,I7,e9,j,b2,Y⟩ => ?_
       subst e9;have b0:∀{c6:St} {O:Hp} {s8:T3},Inv (cxC X (own++capn) scope cl H2.objs.size s2 H1 B) ([]++sf B s5.heap) c6 O s8->tn (i + 1) s8.heap/\∀b∈B,O b=none:=λ{c6 O s8} I8 =>
        ⟨T.keep _ _ _ c1 λb t o e=>(I8.pin (b,o) (YD _ (YD _ (jW t e)))).1,λb t=>by
         obtain⟨o,e,d⟩:=T.obj _ _ c1 b t;exact(I8.pin (b,o) (YD _ (YD _ (jW t e)))).2.1⟩
       have U:Ext ρ' H' j H7:=(Ext.same sm).trans b2;have Z:H7 s2.heap.objs.size=some (.lst ys):=U.frame _ _ a0 b3;have V:=U.out a0 b3;have W:=a7.mono (R.hp.kp U);cases b' with
       | false =>
        simp only[YB,Y7]at a ⊢;obtain⟨f6,f8⟩:=b0 I7;exact⟨l.length - (i + 1),by omega,⟨i + 1,ys,I,rest,j,σd2,hd7,H7,h⟩,rfl,hlt',I7.unpinned,f6,f8,Z,V,Nat.le_succ_of_le d3,ex.trans U,Y,W,a,a2⟩
       | true =>
        simp only[YP]at a ⊢;cases c3:e σd2 hd7 with
        | exc z h7=>rw[c3]at a;cases a
        | bad=>rw[c3]at a;cases a
        | ok d hd8 =>
         rw[c3]at a;simp only[ay]at a;cases c4:fM G g cs e (l.drop (i + 1)) σd2 hd8 with
         | exc z h7=>rw[c4]at a;cases a
         | bad=>rw[c4]at a;cases a
         | ok rest' hd9 =>
          rw[c4]at a;simp only[ay,Res.ok.injEq]at a;obtain⟨A,hF⟩:=a;subst A hF;refine thn (hE _ s7 h H7 (λv O=>∃F,Ext j H7 F O/\RS X.K F O σd2 hd8 h/\RD X.K F O d v) I7 ⟨j,σd2,hd7,Y,by
           rw[c3];exact λv O F N b8 q=>⟨F,N,b8,q⟩⟩) λu8 s8 ⟨v8,O,I8,r8,F,N,b8,e8⟩ => ?_
          have a8:O s2.heap.objs.size=some (.lst ys):=N.frame _ _ Z V;have a5:=N.out Z V;refine thn (vD _ s8 h O (.ref s2.heap.objs.size) [v8] (.ref s2.heap.objs.size) [u8] (λ_ H9=>H9=upd O s2.heap.objs.size (.lst (ys++[v8]))) I8 rfl (.cons r8 .nil) ⟨_,ys,v8,rfl,rfl,a8,by have:=wk.sz;omega,rfl⟩) λu9 s9 ⟨v9,H9,I9,r9,q9⟩ => ?_;subst q9;obtain⟨d8,f9⟩:=b0 I9;obtain⟨d7,k9⟩:=b8.other (zs:=ys++[v8]) a8 a5;exact⟨l.length - (i + 1),by omega,⟨i + 1,ys++[v8],I++[d],rest',F,σd2,hd8,_,h⟩,rfl,hlt',I9.unpinned,d8,f9,bp,a5,by simp;exact d3,(ex.trans (U.trans N)).other Q,d7,
           ((W.mono (Y.hp.kp N)).mono k9).append (RDs.cons (e8.mono k9) RDs.nil),c4,by rw[<-a2];simp⟩
    ·rw[z5 hh]at a;cases a
   ·have e0:i=l.length:=by omega
    subst e0;rw[List.drop_length]at a;unfold fM at a
    by_cases hh:G hd'
    ·rw[z4 hh]at a
     simp only[Res.ok.injEq]at a;obtain⟨A,hF⟩:=a;subst A hF;rw[YT]at a2;subst a2;refine thn (T.done (cxC X (own++capn) scope cl H2.objs.size s2 H1 B) rfl rfl rfl hc _ [] s' σ' H' (λ_ _=>False) I' (b6 (pins':=[]) c5) c9 (wk.stop ρ' H' hd' ex R.hp hh)) λr a6 ⟨hr,I4⟩ => ?_;subst hr;obtain⟨m,hm,_⟩:=I4.loc;refine e3 H2.objs.size a6 m H' ρ' ys d4 hm ?_ I4.free ex R.hp Q a0 b3 a7;exact I1.call' I4.os I4.base I4.hok I4.bare λb t=>by
      obtain⟨f0,f1,f2,f3,f4,f5⟩:=hf b t;exact⟨f3,f1,f4,f5⟩
    ·rw[z5 hh]at a;cases a
  ·show upd H1 _ _ b=none
   rw[aM (ZN (b7 b t))];exact(hf b t).1
 exact codeAny_compStart_list (a3 _ rfl) (T.self _ 0 _ _ _ d5 (a3 _ rfl))
end
section
variable {X:Cx} {pos:Pos} {scope:Scope} {own capn:List Str} {caps:List Nat}
theorem cN {t tg a:Expr}{r:List Expr}{f:IF}{g:GF}{cs:List TF}{e:EF}(hc:X.calm=true)(S:bK X scope own capn caps)(hi:MI X tg a f)
  (E:∀cl C s H ex,MG (cxC X (own++capn) scope cl C s H ex) tg g/\MTs (cxC X (own++capn) scope cl C s H ex) r cs/\ME (cxC X (own++capn) scope cl C s H ex) t e)
  (hs:∀x,foldedSetIterable a X.env x=pure x:=by intro _;rfl):MF X (.ListComp t [⟨tg,a,r,0⟩] scope pos) (bM own.length caps f g cs e):=by
 intro pins s σ H Q I ⟨ρ,σd,hd,rs,p⟩;rw[eval_ListComp];unfold bM at p;cases c:f σd hd with
 | exc z h7=>rw[c]at p;exact p.elim
 | bad=>rw[c]at p;exact p.elim
 | ok q hd1 =>
  obtain⟨l,O⟩:=q;rw[c]at p;simp only[ay]at p;obtain⟨cl,A,j,u⟩:=mY (scope:=scope) (env:=X.env) λy hy F=>I.ok.has y.1 (S.free y hy F);refine WO (use:=none) rfl hs A S.kind S.names (thn (hi pins s σ H (λJ H1=>∃d,Ext ρ H d H1/\RS X.K d H1 σd hd1 σ/\sI X.K d H1 J l O) I ⟨ρ,σd,hd,rs,by
   rw[c];exact λJ H' ρ' ex D K=>⟨ρ',ex,D,K⟩⟩) λv s1 A=>thn A λa0 V h2 => ?_)
  obtain⟨it,fp,tn,J,H1,rfl,k,T,B,hf,d,h,n,K⟩:=h2;cases c2:cI O l g cs e l (gp own.length caps σd) hd1 with
  | exc z h7=>rw[c2]at p;exact p.elim
  | bad=>rw[c2]at p;exact p.elim
  | ok ds hdF =>
   rw[c2]at p;refine pv (RR:=λL C=>compPost (model X.prog X.w) X.A X.xe none (EP X pins σ Q) L C) hc S E k T B hf n K.g j u ((xa _ _ _).symm.trans c2) λC s' m H' ρ' U w P I' G ex rh i W M N => ?_;refine⟨m,P,λh' sb=>⟨.ref V.heap.objs.size,H',?_,rfl,?_⟩⟩
   ·refine I'.turned (it:=C) (t':=s'.toks) (λb o Y e=>(sb.2 b Y).trans e) G ?_ (.inr (YS (ZS k.sz w))) (λx c e z => ?_) λq Z z => ?_
    ·exact Z5 (Z6 k.lt w)
    ·obtain⟨v,o,R,hd⟩:=k.cell x c e
     exact absurd (Z6 (ZI R) w) (by rw[z];exact Z9 _)
    ·exact absurd (Z6 (ZI (k.pin q Z).1) w) (by rw[z];exact Z9 _)
   ·exact p _ U H' ρ' (h.trans ex) (rs.ext (h.trans ex) rh) (h.fresh i (n.hp.free i)) W M N
theorem rP {i:Nat}{x:Str}{pos':Pos}{w tg h:Expr}{u:List Expr}{f:IF}{g:GF}{cs:List TF}{e:EF}{n:Pos}(hN:X.N.Nodup)(a8:X.N[i]? = some x)(hx:Loc X.env.scope x)(hc:X.calm=true)(S:bK X scope own capn caps)(hi:MI X tg h f)
  (W:∀cl C s H ex,MG (cxC X (own++capn) scope cl C s H ex) tg g/\MTs (cxC X (own++capn) scope cl C s H ex) u cs/\ME (cxC X (own++capn) scope cl C s H ex) w e)
  (a7:swapsWith (.ListComp w [⟨tg,h,u,0⟩] scope n) (some (.Name x pos')) pos.line X.env=pure true:=by rfl)
  (hs:∀x,foldedSetIterable h X.env x=pure x:=by intro _;rfl) (Y:X.fn x=true\/X.env.scope.names.lookup x=some .local:=by first|exact .inl rfl|exact .inr rfl|assumption) :
  MS X (.Assign [.Name x pos'] (.ListComp w [⟨tg,h,u,0⟩] scope n) pos) (aH (gN i) (bG (bM own.length caps f g cs e))):=by
 intro pins s σ H En I ⟨ρ,σd,hd,rs,p⟩;rw[exec_Assign_Name_used _ _ _ _ a7];refine z0 (wpAny_standAt ?_);show wpAny _ _ ((comprehension _ scope X.env _ (newList []) _ _ _ >>= λ_=>pure ()) >>= λ_=>pure Flow.next) _ _ _;have d:=cD.outE (σ := σ) p;unfold bG bM at d;cases c:f σd hd with
 | exc z h7=>rw[c]at d;exact d.elim
 | bad=>rw[c]at d;exact d.elim
 | ok q hd1 =>
  obtain⟨l,gd⟩:=q;rw[c]at d;simp only[ay]at d;obtain⟨cl,h1,M,K⟩:=mY (scope:=scope) (env:=X.env) λy hy Z=>I.ok.has y.1 (S.free y hy Z);refine z0 (z0 (WO (Q:=λ_ R=>wpAny (model X.prog X.w) X.A (pure ()) (λ_ R=>wpAny (model X.prog X.w) X.A (pure Flow.next) (SP X pins En) X.xe R) X.xe R) (use:=some (assign (.Name x pos') X.env)) rfl hs h1 S.kind S.names (thn (hi pins s σ H (λJ H1=>∃j,Ext ρ H j H1/\RS X.K j H1 σd hd1 σ/\sI X.K j H1 J l gd) I ⟨ρ,σd,hd,rs,by
   rw[c];exact λJ H' ρ' ex a3 wk=>⟨ρ',ex,a3,wk⟩⟩) λv s1 h1=>thn h1 λb3 k h2 => ?_)))
  obtain⟨it,fp,tn,J,H1,rfl,D,T,a2,hf,j,N,F,wk⟩:=h2;cases c2:cI gd l g cs e l (gp own.length caps σd) hd1 with
  | exc z h7=>rw[c2]at d;exact d.elim
  | bad=>rw[c2]at d;exact d.elim
  | ok ds hdF =>
   rw[c2]at d;simp only[ay]at d
   by_cases hz:ds.length<=SZ
   ·rw[z4 hz]at d
    refine pv (RR:=λa6 C=>compPost (model X.prog X.w) X.A X.xe (some (assign (.Name x pos') X.env)) _ a6 C) hc S W D T a2 hf F wk.g M K ((xa _ _ _).symm.trans c2) λC R m H' ρ' vs P hn I' a0 ex rh A hD a1 b1 => ?_;refine wpAny_assign_Name (vv I' hN a8 hx (v:=.ref k.heap.objs.size) rfl (λB b0 a4 => ?_) Y);have L:C≠X.env.locals:=Z5 (Z6 D.lt P);have O:∀y c,X.env.cells.lookup y=some c->c≠C:=λy c e z=>by
     obtain⟨v,o,ho,hd⟩:=D.cell y c e;exact absurd (Z6 (ZI ho) P) (by rw[z];exact Z9 _)
    refine⟨m,?_,λh' sb=>x4 (x4 ?_)⟩
    ·obtain⟨a,sa,ha⟩:=a4
     refine hn.sameBut sa ?_;rcases ha with z|z
     ·rw[z];exact L
     ·exact YN (O _ _ z)
    ·have I3:Inv X pins (σ.set i (some (.ref k.heap.objs.size))) H' { B with heap:=h' }:=b0.turned (it:=C) (t':=B.toks) (λb o hb e=>(sb.2 b hb).trans e) a0 L (.inr (YS (ZS D.sz P))) O λq hq z =>
      absurd (Z6 (ZI (D.pin q hq).1) P) (by rw[z];exact Z9 _)
     have r:Ext ρ H ρ' H':=N.trans ex;have U:=rh.alloc hD a1 b1;have a9:H k.heap.objs.size=none:=N.fresh A (F.hp.free A);have G:Ext ρ H (ρ'++[k.heap.objs.size]) H':=⟨by obtain⟨t,rfl⟩:=r.pre;exact⟨t++[k.heap.objs.size],by simp⟩,λa ha=>by
      rcases List.mem_append.mp ha with z|z
      ·exact r.new a z
      ·simp at z;subst z;exact .inr a9,r.frame⟩
     obtain⟨V,d2,b2,e2,E,a5,pn⟩:=d (.ref k.heap.objs.size) H' (ρ'++[k.heap.objs.size]) G (rs.ext G U) (by
      simp only[rD,RD];refine⟨k.heap.objs.size,?_,rfl⟩;rw[<-rh.len];simp)
     exact⟨_,H',I3,pn _ H' V Ext.refl ⟨E.hp,E.st.set i a5⟩⟩
   ·rw[z5 hz]at d;exact d.elim
end
end Fm
namespace Fm
open PySem PySem.Spec L2 PyProof.Rows
mutual
def rfs (k:Nat):D->Prop
 | .ref n=>n < k
 | .tup l=>iN k l
 | .lit l=>iN k l
 | .exn _ l=>iN k l
 | _=>True
def iN (k:Nat):List D->Prop
 | []=>True
 | x :: xs=>rfs k x/\iN k xs
end
section
variable {K:ZX} {ρ ρ' t:List Addr} {H H':Hp} {hd hd':Hd}
mutual
theorem RD.rfs:∀{d:D} {v:V},RD K ρ H d v->Fm.rfs ρ.length d
 | .non,_,_=>by simp only[Fm.rfs]
 | .bl _,_,_=>by simp only[Fm.rfs]
 | .int _,_,_=>by simp only[Fm.rfs]
 | .str _,_,_=>by simp only[Fm.rfs]
 | .tup l,_,h=>by
  simp only[RD]at h;obtain⟨p,c,_,_,b⟩:=h;simp only[Fm.rfs];exact RDs.rfs b
 | .lit l,_,h=>by
  simp only[RD]at h;obtain⟨p,c,_,_,b⟩:=h;simp only[Fm.rfs];exact RDs.rfs b
 | .ref n,_,h=>by
  simp only[RD]at h;obtain⟨a,e,_⟩:=h;simp only[Fm.rfs];exact(List.getElem?_eq_some_iff.mp e).1
 | .exn _ l,_,h=>by
  simp only[RD]at h;rcases h with ⟨_,rfl,_⟩|⟨_,p,c,_,_,b⟩
  ·simp only[Fm.rfs,Fm.iN]
  ·simp only[Fm.rfs];exact RDs.rfs b
theorem RDs.rfs:∀{l:List D} {b:List V},RDs K ρ H l b->Fm.iN ρ.length l
 | [],_,_=>by simp only[Fm.iN]
 | d :: ds,_,h=>by
  simp only[RDs]at h;obtain⟨v,r,_,a,c⟩:=h;simp only[Fm.iN];exact⟨RD.rfs a,RDs.rfs c⟩
end
mutual
theorem RD.cut:∀{d:D} {v:V},RD K (ρ ++ t) H d v->Fm.rfs ρ.length d->RD K ρ H d v
 | .non,_,h,_=>by simp only[RD]at h ⊢;exact h
 | .bl _,_,h,_=>by simp only[RD]at h ⊢;exact h
 | .int _,_,h,_=>by simp only[RD]at h ⊢;exact h
 | .str _,_,h,_=>by simp only[RD]at h ⊢;exact h
 | .tup l,_,h,q=>by
  simp only[RD]at h ⊢;simp only[Fm.rfs]at q;obtain⟨p,f,e,b,c⟩:=h;exact⟨p,f,e,b,RDs.cut c q⟩
 | .lit l,_,h,q=>by
  simp only[RD]at h ⊢;simp only[Fm.rfs]at q;obtain⟨p,f,e,b,c⟩:=h;exact⟨p,f,e,b,RDs.cut c q⟩
 | .ref n,_,h,q=>by
  simp only[RD]at h ⊢;simp only[Fm.rfs]at q;obtain⟨a,b,c⟩:=h;exact⟨a,by rwa[ZC q]at b,c⟩
 | .exn _ l,_,h,q=>by
  simp only[RD]at h ⊢;simp only[Fm.rfs]at q;rcases h with h|⟨e0,p,f,e,b,c⟩
  ·exact .inl h
  ·exact .inr ⟨e0,p,f,e,b,RDs.cut c q⟩
theorem RDs.cut:∀{l:List D} {a:List V},RDs K (ρ ++ t) H l a->Fm.iN ρ.length l->RDs K ρ H l a
 | [],_,h,_=>by simp only[RDs]at h ⊢;exact h
 | d :: ds,_,h,q=>by
  simp only[RDs]at h ⊢;simp only[Fm.iN]at q;obtain⟨v,r,e,b,c⟩:=h;exact⟨v,r,e,RD.cut b q.1,RDs.cut c q.2⟩
end
mutual
theorem oo {k:Nat}:∀{d:D},pure? d=true->Fm.rfs k d
 | .non,_=>by simp only[Fm.rfs]
 | .bl _,_=>by simp only[Fm.rfs]
 | .int _,_=>by simp only[Fm.rfs]
 | .str _,_=>by simp only[Fm.rfs]
 | .tup l,h=>by simp only[pure?]at h;simp only[Fm.rfs];exact iF h
 | .lit l,h=>by simp only[pure?]at h;simp only[Fm.rfs];exact iF h
 | .exn _ l,h=>by simp only[pure?]at h;simp only[Fm.rfs];exact iF h
 | .ref _,h=>by simp only[pure?]at h;cases h
theorem iF {k:Nat}:∀{l:List D},gh l=true->Fm.iN k l
 | [],_=>by simp only[Fm.iN]
 | x :: xs,h=>by
  simp only[gh,Z3]at h;simp only[Fm.iN];exact⟨oo h.1,iF h.2⟩
end
def GJ (k:Nat):ca->Prop
 | .lst l=>Fm.iN k l
 | .dct l=>Fm.iN k (l.map (·.2))
 | .dcT l=>Fm.iN k (l.map (·.2))
 | .ob l=>Fm.iN k l
theorem RC.rfs {c:ca}{a:Addr}(h:RC K ρ H c a):GJ ρ.length c:=by
 cases c with
 | lst l=>obtain⟨d,_,b⟩:=h;exact b.rfs
 | dct l=>obtain⟨d,_,_,b⟩:=h;exact b.rfs
 | dcT l=>obtain⟨d,_,_,b⟩:=h;exact b.rfs
 | ob l=>obtain⟨_,_,_,_,b,_⟩:=h;exact b.rfs
theorem RC.cut {c:ca}{a:Addr}(h:RC K (ρ ++ t) H c a)(q:GJ ρ.length c):RC K ρ H c a:=by
 cases c with
 | lst l=>obtain⟨d,b,e⟩:=h;exact⟨d,b,e.cut q⟩
 | dct l=>obtain⟨d,b,e,f⟩:=h;exact⟨d,b,e,f.cut q⟩
 | dcT l=>obtain⟨d,b,e,f⟩:=h;exact⟨d,b,e,f.cut q⟩
 | ob l=>obtain⟨d,C,dx,b,e,f⟩:=h;exact⟨d,C,dx,b,e.cut q,f⟩
theorem xc {k:Nat}{c:ca}(h:sG c=true):GJ k c:=by
 cases c with
 | lst l=>exact iF h
 | ob l=>exact iF h
 | dcT l =>
  have:∀l:List (List Int × D),(l.all λp=>pure? p.2)=true->Fm.iN k (l.map (·.2)):=by
   intro l
   induction l with
   | nil=>intro _;simp only[YY,Fm.iN]
   | cons x l ih=>intro h;simp only[X1,Z3]at h;simp only[x3,Fm.iN];exact⟨oo h.1,ih h.2⟩
  exact this l h
 | dct l =>
  have:∀l:List (Int × D),(l.all λp=>pure? p.2)=true->Fm.iN k (l.map (·.2)):=by
   intro l
   induction l with
   | nil=>intro _;simp only[YY,Fm.iN]
   | cons x l ih=>intro h;simp only[X1,Z3]at h;simp only[x3,Fm.iN];exact⟨oo h.1,ih h.2⟩
  exact this l h
theorem RH.back (r:RH K ρ H hd)(e:RH K (ρ ++ t) H' hd')(o:C7 hd hd'):RH K ρ H' (hd'.take hd.length):=by
 have g:(ρ ++ t).length=hd'.length:=e.len;refine⟨by rw[X4,<-g,ZB,<-r.len];omega,(List.nodup_append.mp e.nd).1,λn c a d f => ?_⟩;have b:n < hd.length:=by rw[<-r.len];exact(List.getElem?_eq_some_iff.mp f).1
 rw[List.getElem?_take_of_lt b]at d;have q:=e.cel n c a d (by rw[ZC (by rw[r.len];exact b)];exact f);refine q.cut ?_;rcases o n c b d with z|z
 ·exact(r.cel n c a z f).rfs
 ·exact xc z
def qF (K:ZX) (ρ:List Addr) (H:Hp) (r:Res D) (Q:VK):Prop:=match r with
 | .ok d hd'=>∀v H' ρ',Ext ρ H ρ' H'->RH K ρ' H' hd'->RD K ρ' H' d v->Q v H'
 | _=>False
def spF (K:ZX) (F:Fn) (np:Nat):Sp:=λvs H Q _=>∃ρ hd ds,RH K ρ H hd/\RDs K ρ H ds vs/\ds.length=np/\qF K ρ H (F ds hd) Q
theorem Ext.short (e:Ext ρ H (ρ ++ t) H'):Ext ρ H ρ H':=⟨⟨[],by simp⟩,λ_ h=>.inl h,e.frame⟩
theorem qF.letGo {r:Res D}{Q:VK}(c:RH K ρ H hd)(p:qF K ρ H (letGo hd r) Q):qF K ρ H r Q:=by
 cases r with
 | exc x h'=>exact p
 | bad=>exact p
 | ok d h' =>
  intro v H' ρ' ex a b;simp only[Fm.letGo]at p;split at p
  ·rename_i hc
   obtain⟨t,rfl⟩:=ex.pre;exact p v H' ρ ex.short (c.back a hc.2) (b.cut (oo hc.1))
  ·exact p v H' ρ' ex a b
theorem qF.runB {n:Nat}{b:SF}{ds:List D}{Q:VK}(p:qF K ρ H (runB n b ds hd) Q):cD K ρ H (b (ds.map some++List.replicate (n - ds.length) none) hd) { nx:=λ_ H'=>Q .non H',rt:=Q }:=by
 unfold Fm.runB at p;cases e:b (ds.map some++List.replicate (n - ds.length) none) hd with
 | nx σ h'=>rw[e]at p;exact λσ' H' ρ' ex a=>p .non H' ρ' ex a.hp (by simp only[RD])
 | rt d h'=>rw[e]at p;exact p
 | bk σ h'=>rw[e]at p;exact p.elim
 | ct σ h'=>rw[e]at p;exact p.elim
 | exc x σ h'=>rw[e]at p;exact p.elim
 | bad=>rw[e]at p;exact p.elim
theorem vI {N:List Str}{ds:List D}{vs:List V}(r:RDs K ρ H ds vs):RSt K ρ H (ds.map some++List.replicate (N.length - ds.length) none) (L2.kX N vs):=by
 have a:=r.length;refine⟨by simp[L2.kX,a],λi d e => ?_⟩;simp only[slot]at e
 by_cases hi:i < ds.length
 ·rw[ZC (by simpa using hi)]at e
  simp only[ZQ,ZE hi,YU]at e;cases e;obtain⟨v,b,q⟩:=r.get (i:=i) (d:=ds[i]) (by simp[hi]);refine⟨v,?_,q⟩;unfold L2.kX;rw[ZC (by simp;omega)];simp[b]
 ·rw[ZD (by simpa using WI hi)]at e
  simp only[List.getElem?_replicate]at e
  by_cases hq:i - (List.map some ds).length < N.length - ds.length
  ·simp only[hq,YP]at e;cases e
  ·simp only[hq,Y7]at e;cases e
end
structure Def (P:T5) (w:T6) (K:ZX) (mg:Str->Option T0) (base:Heap) (x:Str) (k np:Nat) (F:Fn):Prop where
 ex:∃f fd ps,mg x=some (.ref f)/\PySem.W.keepIn K (.ref f)=true/\iK K fd ps []/\bC P w K mg base CX0 k f fd ps (spF K F np)
section
variable {P:T5} {w:T6} {K:ZX} {mg:Str->Option T0} {base:Heap}
theorem bw {x:Str}{st:Stmt}{f:Addr}{fd:FuncData}{N ps:List Str}{k:Nat}{b:SF}(F:Fun K x x st f fd)(S:aA N ps (av st))
  (body:∀(a:T0) (A:T4) (outer:List Env) (s:T3) (H:Hp) (E:XK),fG k (A.deeper (envOfC x (av st) s.heap.objs.size f a))->MSs (yY CX0 P w K mg base N x (av st) f a A outer s H E).nox (du st) b) :
  bC P w K mg base CX0 (k + 1) f fd ps (spF K (bu ps.length N.length b) ps.length):=by
 refine F.ok S (λg H Q E ⟨ρ,hd,ds,d,e,c,p⟩=>by rw[<-e.length];exact c) λa A outer s H g Q E h ⟨ρ,hd,ds,d,e,c,p⟩=>⟨_,body a A outer s H E h,ρ,_,hd,⟨d,vI e⟩,?_⟩;simp only[bu,c,YP]at p;exact(qF.letGo d p).runB
theorem Def.mk' {x:Str}{f:Addr}{fd:FuncData}{ps:List Str}{k np:Nat}{F:Fn}(hm:mg x=some (.ref f))(a:PySem.W.keepIn K (.ref f)=true)(b:iK K fd ps [])(h:bC P w K mg base CX0 k f fd ps (spF K F np)):Def P w K mg base x k np F:=⟨f,fd,ps,hm,a,b,h⟩
end
section
variable {X:Cx} {pos p:Pos}
theorem Jo {x:Str}{k np:Nat}{F:Fn}{e:Expr}{es:List Expr}{r:LF}(hd:Def X.prog X.w X.K X.mg X.base x k np F)(q:fG k X.A)(o:Gl X x)(w:MA X (e :: es) r)(j:∀ds h d h',F ds h=.ok d h'->ds.length=np)
  (l:(x == ("__debug__" : Str))=false:=by decide) (he:starEach (e :: es) X.env=(false,eval e X.env) :: starEach es X.env:=by rfl) (hpl:(backTo pos (starEach es X.env)).any (·.1)=false:=by rfl) :
  ME X (.Call (.Name x p) (e :: es) [] pos) (am F r):=by
 obtain⟨f,fd,ps,n,A,u,t⟩:=hd.ex;refine PE.imp (IY t q o n A u .nil Gx w l he hpl) λσ H Q ⟨ρ,σd,hd,B,m⟩=>⟨ρ,σd,hd,B,(bx.bind (R:=rDs X.K) m).imp λD H1 ⟨i,ds,g,E,b,s,a⟩ => ?_⟩;rw[YT];cases c:F ds g with
 | exc z h'=>rw[c]at a;exact a.elim
 | bad=>rw[c]at a;exact a.elim
 | ok d hd2 =>
  rw[c]at a;refine⟨i,g,ds,b.hp,s,j _ _ _ _ c,?_⟩;rw[c];exact λv H' ρ' ex y C=>a v H' ρ' ex (b.ext ex y) C
theorem oq {np n:Nat}{b:SF}:∀ds h d h',bu np n b ds h=.ok d h'->ds.length=np:=by
 intro ds h d h' e;unfold bu at e;split at e
 ·assumption
 ·cases e
end
theorem Oo {l:PySem.W.OpenLaw}{q:T5}{b:List Str}{XP:(Str->Option T0)->Heap->Prop}{m:T6->Heap->Prop}{d:DefRec}{K:Params->ZX}{F:Fn}{k:Nat}{x:Str}(t:l.most=some 63)(i:d.params.defaults=[])(C:fG k callerA)
  (J:∀(w:T6) (h:Heap),m w h->(K w.params).In h)
  (G:∀(w:T6) (mg:Str->Option T0) (fa:Addr) (h:Heap),(K w.params).In h->h.Ns mainGlobals mg->mg d.name=some (.ref fa)->
   ∃fd:FuncData,(∀(s:T3) (u:T0),BindsTo s fd ⟨[u],[]⟩ [(x,u)])/\∀base:Heap,(K w.params).In base->base.Ns mainGlobals mg->bC l.prog w (K w.params) mg base CX0 k fa fd [x] (spF (K w.params) F 1))
  (g:∀ns:List Int,ns.length<=63->∃h,F [.lit (ns.map .int)] []=.ok (.bl true) h) :
  PySem.W.WalkO q b XP m l.row.toRowW d [] (λf B=>PySem.call f B):=by
 refine L2.Ji (n:=63) (k:=k) (x:=x) (CX:=λ_=>CX0) (sp:=λw=>spF (K w.params) F 1) t (by decide) i C J G (λw H a ns j I r => ?_) λ_ _ _ _ _ z=>z;obtain⟨h,e⟩:=g ns j;have p:qE (K w.params) H a (ns.map V.int):=by
  rcases r with (z|⟨o,z⟩)|z
  ·rcases I a with y|⟨o,xs,y⟩<;>(rw[z]at y;cases y)
  ·exact .inl ⟨o,z⟩
  ·exact .inr z
 have E:RDs (K w.params) [] H (ns.map D.int) (ns.map V.int):=by
  clear j r e p g
  induction ns with
  | nil=>exact RDs.nil
  | cons n ns ih=>exact RDs.cons (by simp only[RD]) ih
 refine⟨[],[],[.lit (ns.map .int)],⟨rfl,List.nodup_nil,λn c a A=>by simp at A⟩,RDs.cons (by simp only[RD];exact⟨a,_,rfl,p,E⟩) RDs.nil,rfl,?_⟩;rw[e];intro v H' ρ' ex M L;simpa only[RD] using L
end Fm
namespace Fm
open PySem PySem.Spec L2
open PyProof.Rows (Subscript_ tail_any)
def tyS:Ty->String
 | .int => "int" | .bool => "bool" | .tuple => "tuple" | .list => "list" | .str => "str"
theorem ik (t:Ty):typeOf (.type (tyS t))=pure (.type "type"):=by
 cases t
 ·exact F.isi_meta_int
 ·exact F.isi_meta_bool
 ·exact F.isi_meta_tuple
 ·exact F.isi_meta_list
 ·exact F.isi_meta_str
theorem Jp (t:Ty):isSubtype (.type "NoneType") (.type (tyS t))=pure false:=by cases t<;>(rw[Y8];kernel_rfl)
theorem Mc {t:Ty} (h:t ≠ .int):isSubtype (.type "int") (.type (tyS t))=pure false:=by cases t<;>first|exact absurd rfl h|(rw[Y8];kernel_rfl)
theorem Jq {t:Ty} (h:t ≠ .int) (a:t ≠ .bool):isSubtype (.type "bool") (.type (tyS t))=pure false:=by cases t<;>first|exact absurd rfl h|exact absurd rfl a|(rw[Y8];kernel_rfl)
theorem Me {t:Ty} (h:t ≠ .str):isSubtype (.type "str") (.type (tyS t))=pure false:=by cases t<;>first|exact absurd rfl h|(rw[Y8];kernel_rfl)
theorem GK {t:Ty} (h:t ≠ .tuple):isSubtype (.type "tuple") (.type (tyS t))=pure false:=by cases t<;>first|exact absurd rfl h|(rw[Y8];kernel_rfl)
theorem Dd {t:Ty} (h:t ≠ .list):isSubtype (.type "list") (.type (tyS t))=pure false:=by cases t<;>first|exact absurd rfl h|(rw[Y8];kernel_rfl)
theorem Jr (t:Ty):isSubtype (.type "dict") (.type (tyS t))=pure false:=by cases t<;>(rw[Y8];kernel_rfl)
theorem mx (t:Ty):isSubtype (.type (tyS t)) (.type (tyS t))=pure true:=by cases t<;>(rw[Y8];kernel_rfl)
theorem zf:isSubtype (.type "bool") (.type (tyS .int))=pure true:=by rw[Y8];kernel_rfl
theorem qG {n:String}{t:Ty}(h:n≠tyS t):(Value.type n == Value.type (tyS t))=false:=by
 rw[beq_eq_false_iff_ne];intro e;cases e;exact h rfl
theorem Bq {a b:Ty}(h:a≠b):(a == b)=false:=by cases a<;>cases b<;>first|rfl|exact absurd rfl h
section
variable {X:Cx} {pos p:Pos}
theorem Mf {pins:List (Addr × Obj)}{σ:St}{H:Hp}{s:T3}{ρ:List Addr}{hd:Hd}{d:D}{v:V}{u:T0}{t:Ty}{b:Bool}{Q:T0->T3->Prop}{E:T0->T3->Prop}(I:Inv X pins σ H s)(B:RH X.K ρ H hd)(i:RD X.K ρ H d v)(r:bT v u)(e:Ep hd t d=some b)
  (q:∀C,Inv X pins σ H C->Q (.bool b) C):wpAny (model X.prog X.w) X.A (call (.builtin "isinstance") [u,.type (tyS t)]) Q E s:=by
 have j:=q s I;have q1:=q { s with toks:=s.toks + 1 } (I.tok _);have g:∀{n:String},s.TypeIs u n->isSubtype (.type n) (.type (tyS t))=pure true->Q (.bool true) s->wpAny (model X.prog X.w) X.A (call (.builtin "isinstance") [u,.type (tyS t)]) Q E s:=λf w G=>Y1 (isinstance_true (ik t) w) ⟨f,G⟩;cases d<;>simp only[RD]at i<;>simp only[Ep]at e
 ·subst i;cases r;cases e
  exact Y1 (isinstance_false_none (by cases t<;>exact qG (by decide)) (ik t) (Jp t)) q1
 ·subst i;cases r
  by_cases f:t=.int
  ·subst f;cases e;exact g (n := "bool") rfl zf j
  ·by_cases w:t=.bool
   ·subst w;cases e;exact g (n := "bool") rfl (mx .bool) j
   ·rw[Bq f,Bq w]at e;cases e
    exact Y1 (isinstance_false_bool (by cases t<;>first|exact absurd rfl f|exact absurd rfl w|exact qG (by decide)) (ik t) (Jq f w)) q1
 ·subst i;obtain⟨tk,rfl⟩:=r
  by_cases f:t=.int
  ·subst f;cases e;exact g (n := "int") rfl (mx .int) j
  ·rw[Bq f]at e;cases e
   exact Y1 (isinstance_false_int (by cases t<;>first|exact absurd rfl f|exact qG (by decide)) (ik t) (Mc f)) q1
 ·subst i;obtain⟨tk,rfl⟩:=r
  by_cases f:t=.str
  ·subst f;cases e;exact g (n := "str") rfl (mx .str) j
  ·rw[Bq f]at e;cases e
   exact Y1 (isinstance_false_str (by cases t<;>first|exact absurd rfl f|exact qG (by decide)) (ik t) (Me f)) q1
 ·obtain⟨a,y,rfl,m,_⟩:=i
  cases r;obtain⟨x,_,o,h,hc,_⟩:=jY I.hok m
  by_cases f:t=.tuple
  ·subst f;cases e;exact g (n := "tuple") ⟨o,h,hc⟩ (mx .tuple) j
  ·rw[Bq f]at e;cases e
   exact Y1 (isinstance_false_tuple (by cases t<;>first|exact absurd rfl f|exact qG (by decide)) (ik t) (GK f)) ⟨⟨o,h,hc⟩,q1⟩
 ·rename_i n
  obtain⟨a,m,rfl⟩:=i;cases r;cases c:hd[n]? with
  | none=>rw[c]at e;cases e
  | some cell =>
   rw[c]at e;cases cell with
   | lst l =>
    obtain⟨y,A,_⟩:=B.cel n _ a c m;obtain⟨z,x,k,_,h⟩:=I.hok a _ A
    by_cases f:t=.list
    ·subst f;cases e;exact g (n := "list") ⟨_,h,rfl⟩ (mx .list) j
    ·simp only[Bq f]at e;cases e
     exact Y1 (isinstance_false_list (by cases t<;>first|exact absurd rfl f|exact qG (by decide)) (ik t) (Dd f)) ⟨⟨_,h,rfl⟩,q1⟩
   | dcT _=>cases e
   | ob _=>cases e
   | dct l =>
    obtain⟨y,A,_,_⟩:=B.cel n _ a c m;obtain⟨_,_,_,_,o,_,_,h,ex,_⟩:=I.hok a _ A;cases e;exact Y1 (isinstance_false_dict (by cases t<;>exact qG (by decide)) (ik t) (Jr t)) ⟨⟨o,h,ex.1⟩,q1⟩
 ·obtain⟨a,y,rfl,m,_⟩:=i
  cases r;obtain⟨x,_,F,_⟩:=I.list m.sq;obtain⟨o,h,hc,_⟩:=F.isList
  by_cases f:t=.list
  ·subst f;cases e;exact g (n := "list") ⟨o,h,hc⟩ (mx .list) j
  ·simp only[Bq f]at e;cases e
   exact Y1 (isinstance_false_list (by cases t<;>first|exact absurd rfl f|exact qG (by decide)) (ik t) (Dd f)) ⟨⟨o,h,hc⟩,q1⟩
 ·cases e
def PB (K:ZX) (t:Ty):List V->Hp->VK->Prop:=λxs H Q=>∃ρ hd d v b,xs=[v,.ty (tyS t)]/\RH K ρ H hd/\RD K ρ H d v/\Ep hd t d=some b/\Q (.bl b) H
theorem GL (t:Ty):gf X (.builtin "isinstance") (PB X.K t):=by
 intro pins s σ H xs k Q I r h;obtain⟨ρ,hd,d,v,b,rfl,g,j,e,q⟩:=h;obtain⟨u,f,rfl,c,a⟩:=bi.two r;cases (show f=Value.type (tyS t) from a);exact Mf I g j c e λl i=>⟨.bl b,H,i,rfl,q⟩
theorem gD {t:Ty} {a:Expr} {fa:EF} {p2:Pos} {n:Str} (q:Gl X "isinstance") (hm:X.mg "isinstance" = none) (k:Gl X n) (i:X.mg n=none) (u:bootBuiltins n=some (.type (tyS t))) (s:ME X a fa)
  (l:starEach [a,.Name n p2] X.env=(false,eval a X.env) :: starEach [.Name n p2] X.env:=by rfl) (j:starEach [.Name n p2] X.env=(false,eval (.Name n p2) X.env) :: starEach [] X.env:=by rfl) (m:n ≠ "__name__" := by decide) (hd:(n == ("__debug__" : Str))=false:=by decide) :
  ME X (.Call (.Name "isinstance" p) [a,.Name n p2] [] pos) (gK t fa):=by
 refine PE.imp (kY (GL t) q hm (by decide +kernel) (cw s (cw (IM (v:=.ty (tyS t)) k i u rfl m hd) dI j) l) (he:=l)) λσ H Q ⟨ρ,σd,hd,w,o⟩=>⟨ρ,σd,hd,w,(bx.bind (R:=rD X.K) o).imp λv H1 ⟨h,d,f,x,e,r,g⟩ => ?_⟩;cases c:Ep f t d with
 | none=>simp only[c]at g;exact g.elim
 | some b=>simp only[c]at g;exact⟨h,f,d,v,b,rfl,e.hp,r,c,g.here e (by simp only[rD,RD])⟩
theorem bR:OpR X (binaryOp .Add) (λx y H Q=>rI0 (λi j=>.int (i + j)) x y H Q\/Gq X.K x y H Q):=LK.or Jd
theorem cK {K:ZX}:Og K bP (λx y H Q=>rI0 (λi j=>.int (i + j)) x y H Q\/Gq K x y H Q):=by
 intro ρ H σd hd σ d k v w Q r h e c;cases d<;>try exact c.elim
 ·cases k<;>try exact c.elim
  simp only[RD]at h e;exact .inl ⟨_,_,h,e,c.here r (by simp only[rD,RD])⟩
 ·rename_i l
  cases l with
  | nil=>exact c.elim
  | cons x xs =>
   cases k<;>try exact c.elim
   rename_i ys
   simp only[bP]at c;split at c
   ·rename_i hz
    simp only[RD]at h e;obtain⟨a,m,rfl,t,f⟩:=h;obtain⟨b,s,rfl,u,g⟩:=e;refine .inr ⟨a,b,m,s,rfl,rfl,SqT.of t,SqT.of u,?_,?_,λz => ?_,λ_ q A => ?_⟩
    ·intro z;subst z;have:=f.length;simp at this
    ·rw[<-f.length,<-g.length];exact rM hz
    ·subst z
     have B:ys=[]:=by have:=g.length;simpa using this
     subst B;exact c.here r (by simp only[rD,RD];exact⟨a,m,rfl,t,by simpa using f⟩)
    ·have n:=cv (o:=HO.tup (m++s)) A
     exact c.at (Ext.same n) (r.same n) (by simp only[rD,RD];exact⟨q,_,rfl,bp,(RDs.append f g).mono (Kp.same n)⟩)
   ·exact c.elim
theorem De {a:Expr} {d:LF} (g:Gl X "list") (hm:X.mg "list" = none) (i:MQ X a d) (f:starEach [a] X.env=(false,eval a X.env) :: starEach [] X.env:=by rfl):MF X (.Call (.Name "list" p) [a] [] pos) d:=by
 refine PE.imp (vA wW g hm (by decide +kernel) (cw i dI f) (he:=f)) λσ H Q ⟨ρ,σd,hd,k,b⟩=>⟨ρ,σd,hd,k,?_⟩;cases e:d σd hd with
 | exc x h'=>rw[e]at b;exact b
 | bad=>rw[e]at b;exact b
 | ok l hd1 =>
  rw[e]at b;intro v H1 h j c ⟨q,vs,hv,sq,rvs⟩;subst hv;exact⟨q,vs,rfl,sq.imp id SqT.of,b.mk j c rvs⟩
def MO (X:Cx) (e:Option Expr) (f:OF):Prop:=PO X e (k8 X.K rO f)
theorem vJ:MO X none pNo:=λpins s σ H Q I ⟨ρ,σd,hd,b,a⟩=>Jb pins s σ H Q I (a.here b rfl)
theorem qH {e:Expr}{f:EF}(h:ME X e f):MO X (some e) (pAt f):=λpins s σ H Q I ⟨ρ,σd,hd,k,g⟩=>Jc h pins s σ H Q I ⟨ρ,σd,hd,k,(bx.bind (R:=rD X.K) g).imp λv H1 ⟨i,d,j,l,a,b,c⟩=>by
 cases d<;>try exact c.elim
 simp only[rD,RD]at b;exact⟨_,b,c.here a rfl⟩⟩
theorem xf {K:ZX}{ρ:List Addr}{H:Hp}{l:List D}{vs:List V}{lo hi:Option Int}(r:RDs K ρ H l vs):RDs K ρ H (cut l lo hi) (o9 vs lo hi):=by
 have e:∀(n d:Nat) (o:Option Int),Fm.sIx n d o=HT.sIx n d o:=λn d o=>by cases o<;>rfl
 unfold cut o9;rw[r.length,e,e];exact(r.drop _).take _
theorem ot {a:Expr}{fa:EF}{lo hi:Option Expr}{G F:OF}{p2:Pos}(P:ME X a fa)(J:MO X lo G)(I:MO X hi F):ME X (.Subscript a (.Slice lo hi none p2) pos) (gn fa G F):=by
 refine PE.imp (sw (SlR.or Je Gp) P J I) λσ H Q ⟨ρ,σd,hd,V,E⟩ => ?_;unfold gn at E;refine⟨ρ,σd,hd,V,(bx.bind (R:=rD X.K) E).imp λv H1 ⟨A,d,C,e1,w,N,U⟩ => ?_⟩;refine⟨A,σd,C,w,(bx.bind (R:=rO) U).imp λx Z ⟨B,O,D,K,u,q2,p2⟩ => ?_⟩;cases q2;refine⟨B,σd,D,u,(bx.bind (R:=rO) p2).imp λr y ⟨j,S,f,L,b,q3,p3⟩ => ?_⟩;cases q3;have i:=(N.mono (w.hp.kp K)).mono (u.hp.kp L);have h:∀l,ib f d=some l->bx X.K (rD X.K) j y σd σ (.ok (.ref f.length) (f++[.lst (cut l x r)])) Q->Of X.K v x r y Q:=λl c p=>by
  obtain⟨q,k,W,Y,g⟩:=w9 b.hp i c;refine⟨q,k,W,Y,λs t => ?_⟩;have m:=cv (o:=HO.lst (o9 k x r)) t;have M:=b.hp.free t;have T:=(b.hp.same m).alloc bp M ((xf g).mono (Kp.same m));have ex:Ext j y (j++[s]) (upd y s (.lst (o9 k x r))):=Ext.alloc t;refine p.at ex (b.ext ex T) ?_;simp only[rD,RD];exact⟨s,by rw[<-b.hp.len];simp,rfl⟩
 cases d with
 | tup l =>
  simp only at p3;split at p3
  ·exact p3.elim
  ·rename_i hw
   simp only[RD]at i;obtain⟨q,k,rfl,t,g⟩:=i;have e:∀(n d:Nat) (o:Option Int),Fm.sIx n d o=HT.sIx n d o:=λn d o=>by cases o<;>rfl
   refine .inr ⟨q,k,rfl,SqT.of t,by rw[<-g.length,<-e,<-e];exact hw,λs z => ?_⟩;have m:=cv (o:=HO.tup (o9 k x r)) z;exact p3.at (Ext.same m) (b.same m) (by simp only[rD,RD];exact⟨s,_,rfl,bp,(xf g).mono (Kp.same m)⟩)
 | ref n =>
  simp only at p3;cases c:ib f (.ref n) with
  | none=>rw[c]at p3;exact p3.elim
  | some l=>rw[c]at p3;exact .inl (h l c p3)
 | lit l' =>
  simp only at p3;cases c:ib f (.lit l') with
  | none=>rw[c]at p3;exact p3.elim
  | some l=>rw[c]at p3;exact .inl (h l c p3)
 | _=>exact p3.elim
theorem jZ {o e:Expr} {I J:EF} {apos b:Pos} (L:ME X o I) (he:ME X e J) (j:attributeBase o "append" X.env (eval o X.env)=eval o X.env:=by rfl)
  (u:((backTo b (starEach [e] X.env)).all (λx => !x.1) && (backToKw b (keywordEach [] X.env)).all (λx=>x.1.isSome)
   && decide (([e] : List Expr).length + ([] : List Keyword).length + (if ([] : List Keyword).isEmpty then 0 else 1) < 30))=true:=by rfl)
  (m:(apos.endLine == b.line)=true:=by rfl) (G:starEach [e] X.env=(false,eval e X.env) :: starEach [] X.env:=by rfl) :
  ME X (.Call (.Attribute o "append" apos) [e] [] b) (jX I J):=by
 refine PE.imp (sB PySem.F.plainAttrs_list PySem.F.slot_list_append PySem.F.type_list_append vD L (cw he dI G) j u m G) λσ H Q ⟨ρ,σd,hd,P,C⟩=>⟨ρ,σd,hd,P,?_⟩;unfold jX at C;refine(bx.bind (R:=rD X.K) C).imp λv H1 ⟨A,d,s,T,r,D,f⟩ => ?_;cases d<;>try exact f.elim
 rename_i n
 simp only[rD,RD]at D;obtain⟨a,F,rfl⟩:=D;simp only at f;cases c1:s[n]? with
 | none=>rw[c1]at f;exact f.elim
 | some cell1 =>
  rw[c1]at f;cases cell1 with
  | dct l=>exact f.elim
  | dcT l=>exact f.elim
  | ob l=>exact f.elim
  | lst l1 =>
   obtain⟨M,S,_⟩:=r.hp.cel n _ a c1 F;simp only at f;refine⟨.inl ⟨rfl,M,SqL.of S⟩,A,σd,s,r,(bx.bind (R:=rD X.K) f).imp λw E ⟨q,k,y,N,i,z,p2⟩ => ?_⟩;simp only[L0]at p2;cases c:y[n]? with
   | none=>rw[c]at p2;exact p2.elim
   | some cell =>
    rw[c]at p2;cases cell with
    | dct l=>exact p2.elim
    | dcT l=>exact p2.elim
    | ob l=>exact p2.elim
    | lst l =>
     simp only at p2;split at p2
     ·rename_i hz
      have h:=N.get F;obtain⟨t,B,g⟩:=i.hp.cel n _ a c h;refine⟨a,t,w,rfl,rfl,B,?_,?_⟩
      ·rw[<-g.length];exact v3 hz (by rw[YK];decide)
      ·have K:n < y.length:=(List.getElem?_eq_some_iff.mp c).1
       have O:=i.hp.write h K (RDs.append g (RDs.cons z RDs.nil));have ex:Ext q E q (upd E a (.lst (t++[w]))):=Ext.write (ZK h);exact p2.at ex (i.ext ex O) (by simp only[rD,RD])
     ·exact p2.elim
end
end Fm
namespace Fm
open PySem PySem.Spec L2
open AutoSeq1 (wpAny_loadPart')
open PyProof.Rows (Call_)
theorem Js {a b:String}(h:Value.type a=Value.type b)(n:a≠b):False:=by injection h with h;exact n h
theorem lu (l:Addr)(a:Array T0)(n:Nat)(e:Option Addr)(j:Array (Option T0)) :
  Meets (Builtin.«enumerate.__new__» ⟨[.type "enumerate",.ref l],[]⟩) (λ_ R s=>s.heap.get? l=some { cls:=.type "tuple",dict:=e,data:=.seq a n,slots:=j }/\
   R (.ok (.ret (.ref (s.heap.push { cls:=.type "tuple_iterator",data:=.fields #[.ref l,.int 0 0] }).objs.size)))
    { s with heap:=(s.heap.push { cls:=.type "tuple_iterator",data:=.fields #[.ref l,.int 0 0] }).push { cls:=.type "enumerate",data:=.fields #[.none,.bool false,.ref s.heap.objs.size,rawInt 0,.none,.none] } }) :=
 .of_wp λprog w A R s h=>by
  obtain⟨k,g,d,tk,os⟩:=s;obtain⟨b,h⟩:=h;have i:=sub_enumerate;have f:Heap.IsTuple (Shared.heap ⟨k,g,d,tk,os⟩) l a:=⟨_,b,rfl,n,rfl⟩
  wp_walk using Y0 b
  refine wpAny_stack_any λst=>x4 ?_;split
  ·rename_i c _ _ _ _ _
   cases (c == Value.type "enumerate")
   ·wp_walk using Y0 b,YV f
    exact⟨_,rfl,h⟩
   ·wp_walk using Y0 b,YV f
    exact⟨_,rfl,h⟩
  ·wp_walk using Y0 b,YV f
   exact⟨_,rfl,h⟩
section
variable {prog:T5} {w:T6} {A:T4} {E:T0->T3->Prop} {s:T3}
theorem lx {l:Addr}{a:Array T0}{Q:T0->T3->Prop}(j:s.heap.IsTuple l a)
  (h:∀h',IsEnum h' (s.heap.objs.size + 1) s.heap.objs.size 0 .none->h'.IsTupleIter s.heap.objs.size l 0->h'.objs.size=s.heap.objs.size + 2->
   (∀b o,s.heap.get? b=some o->h'.get? b=some o)->Q (.ref (s.heap.objs.size + 1)) { s with heap:=h' }) :
  wpAny (model prog w) A (call (.type "enumerate") [.ref l]) Q E s:=by
 obtain⟨⟨c,e,k,i⟩,g,hc,n,hd⟩:=j;replace hc:c=.type "tuple" := hc;replace hd:k=.seq a n:=hd;subst hc hd;refine callType_new F.called_enumerate (by decide) (F.typeCall_enumerate_1 _) (F.newCall_enumerate_1 _) (λobj=>F.args_object_init_2 obj _) F.entry_enumerate_new
  (lu l a n e i) ⟨g,?_⟩
 have d:(s.heap.push { cls:=.type "tuple_iterator",data:=.fields #[.ref l,.int 0 0] }).objs.size=s.heap.objs.size + 1:=YF ..;show _/\_;rw[d];have f:IsEnum ((s.heap.push { cls:=.type "tuple_iterator",data:=.fields #[.ref l,.int 0 0] }).push
   { cls:=.type "enumerate",data:=.fields #[.none,.bool false,.ref s.heap.objs.size,rawInt 0,.none,.none] }) (s.heap.objs.size + 1) s.heap.objs.size 0 .none:=by
  have:=ZJ (s.heap.push { cls:=.type "tuple_iterator",data:=.fields #[.ref l,.int 0 0] })
   (o:={ cls:=.type "enumerate",data:=.fields #[.none,.bool false,.ref s.heap.objs.size,rawInt 0,.none,.none] }) rfl
  rw[d]at this;exact this
 refine⟨⟨_,f,rfl⟩,h _ f ⟨_,ZH _ (ZJ _ rfl),rfl,rfl⟩ (by rw[YF,d]) λb o x=>ZH _ (ZH _ x)⟩
theorem jc {it l:Addr}{i:Nat}{a:Array T0}{x:T0}{Q:T0->T3->Prop}(b:s.heap.IsTupleIter it l i)
  (f:s.heap.IsTuple l a) (g:a[i]? = some x)
  (h:∀h',h'.IsTupleIter it l (i + 1)->Heap.SameBut it s.heap h'->Q x { s with heap:=h' }) :
  wpAny (model prog w) A (Builtin.SmallTypes.nextOf (.ref it)) Q E s:=by
 obtain⟨o,c,hc,hd⟩:=id b;obtain⟨j,e,_,k,d⟩:=f;unfold Builtin.SmallTypes.nextOf;refine z0 (wpAny_callSpecial?_slot (name:=Str.ofString "__next__") b.typeIs XO
  (YW XO b.typeIs F.entry_tuple_iterator_next ?_ (F.args_tuple_iterator_next_1 _)))
 show wpAny _ _ (field (.ref it) 0 >>= _) _ _ s;refine z0 (YQ c hd (x:=.ref l) rfl ?_);show wpAny _ _ (if (Value.ref l == Value.none)=true then _ else _) _ _ s;rw[z5 (show ¬((Value.ref l == Value.none)=true) from ZY)];show wpAny _ _ (field (.ref it) 1 >>= _) _ _ s;refine z0 (YQ c hd (x:=.int i 0) rfl ?_);show wpAny _ _ (seqItems? (.ref l) >>= _) _ _ s;refine z0 (XR e d ?_);simp only[WE,g];refine z0 (wpAny_setField c hd (by simp) (x4 ⟨x,rfl,x4 (h _ ?_ (Heap.SameBut.update ..))⟩));exact⟨_,Heap.get?_update_self _ c (Obj.isFreed_of_fields (Obj.data_mapFields hd _)),(Obj.cls_mapFields ..).trans hc,by
  rw[Obj.data_mapFields hd];simp[rawInt]⟩
theorem jI {it l:Addr}{i:Nat}{b:Array T0}{Q:T0->T3->Prop}(h:A.handled=none)
  (c:s.heap.IsTupleIter it l i) (j:s.heap.IsTuple l b) (n:b[i]? = none)
  (k:∀h' e,Heap.ExtBut it s.heap h'->(∃o,h'.get? e=some o/\o.cls=.type "StopIteration")->E (.ref e) { s with heap:=h' }) :
  wpAny (model prog w) A (Builtin.SmallTypes.nextOf (.ref it)) Q E s:=by
 obtain⟨o,d,hc,hd⟩:=id c;obtain⟨p,g,_,q,f⟩:=j;unfold Builtin.SmallTypes.nextOf;refine z0 (wpAny_callSpecial?_slot (name:=Str.ofString "__next__") c.typeIs XO
  (YW XO c.typeIs F.entry_tuple_iterator_next ?_ (F.args_tuple_iterator_next_1 _)))
 show wpAny _ _ (field (.ref it) 0 >>= _) _ _ s;refine z0 (YQ d hd (x:=.ref l) rfl ?_);show wpAny _ _ (if (Value.ref l == Value.none)=true then _ else _) _ _ s;rw[z5 (show ¬((Value.ref l == Value.none)=true) from ZY)];show wpAny _ _ (field (.ref it) 1 >>= _) _ _ s;refine z0 (YQ d hd (x:=.int i 0) rfl ?_);show wpAny _ _ (seqItems? (.ref l) >>= _) _ _ s;refine z0 (XR g f ?_);simp only[WE,n];refine z0 (wpAny_rule (z0 (wpAny_setField d hd (by simp) ?_)));show wpAny _ _ (newExc (.type "StopIteration") [] >>= _) _ _ _;refine z0 ?_;simp only[newExc,newTuple];refine z0 (XA ?_ (by size_fits));refine z0 (m:=firstArgMember _ _) (wpAny_of_eq (a:=Value.none) (by first|rfl|(simp only[firstArgMember];rfl)) ?_);refine XA ?_ (by size_fits);simp only[raiseNew];refine z0 (wpAny_handled ?_)
 first|rw[show A.in1.handled=none from h] | rw[h]
 refine z0 (x4 (wpAny_throw ?_));exact k _ _ (((Heap.SameBut.update ..).extBut.push _).push _) ⟨_,ZJ _ rfl,rfl⟩
end
theorem qI {prog:T5}{w:T6}{A:T4}(k:A.handled=none)(it l:Addr)(f:l≠it)(a:Array T0) :
  Draws prog w A it [it,l] a.size (λi v=>a[i]? = some v) (λi h=>h.IsTupleIter it l i/\h.IsTuple l a) where
 live:=λ_ _ st=>let ⟨o,b,_⟩:=st.1;⟨o,b⟩
 frame:=λ_ _ _ st g=>⟨st.1.at λo e=>g it (by simp) o e,let ⟨o,b,r⟩:=st.2;⟨o,g l (by simp) o b,r⟩⟩
 item:=λi s Q E hi st n=>by
  have j:a[i]? = some a[i]:=by simp[hi]
  refine jc st.1 st.2 j λh' d c => ?_;refine n _ h' s.toks j ⟨d,?_⟩ c;obtain⟨o,b,r⟩:=st.2;exact⟨o,(c.2 l f).trans b,r⟩
 done:=λs Q E st m=>jI k st.1 st.2 (by simp) m
def Ite (K:ZX) (a:Addr):It :=
 ⟨λi H=>∃xs x,SqT K H a xs/\xs[i]? = some x,λi H x H'=>∃q v,x=.ref q/\H q=none/\H'=upd H q (.tup [.int (i:Nat),v])/\∀xs,SqT K H a xs->xs[i]? = some v,λi H=>∃xs,SqT K H a xs/\xs.length=i⟩
theorem Et {P:T5}{w:T6}{K:ZX}{elts:List Expr}{k:Nat}{pos:Pos}(e it a:Addr):yW P w K (.Tuple elts k pos) (Ite K a) [e,it] e (λi h=>(∃g,IsEnum h e it (i:Nat) g)/\h.IsTupleIter it a i) where
 mem:=by simp
 obj:=λi h st b d=>by
  obtain⟨⟨g,B⟩,o,ho,hc,hd⟩:=st;rcases Y6.mp d with rfl|d
  ·exact⟨_,B,λv z=>by
    have z':Data.fields _=Data.cell v:=z;cases z'⟩
  ·have:b=it:=by simpa using d
   subst this;exact⟨o,ho,λv z=>by rw[hd]at z;cases z⟩
 keep:=λi h h' st kk=>by
  obtain⟨⟨g,B⟩,st⟩:=st;exact⟨⟨g,kk e (by simp) _ B⟩,st.at λo x=>kk it (by simp) o x⟩
 item:=by
  intro X hP hw hK hc i pins s σ H E I T st hg;subst hP hw hK;obtain⟨⟨g,B⟩,F⟩:=st;obtain⟨xs,x,Z,hx⟩:=hg;obtain⟨f,rv,p,hz⟩:=I.tuple Z;have V:s.heap.IsTuple a f.toArray:=p;obtain⟨oi,D,J,a1⟩:=id F;obtain⟨oa,t,j,na,a8⟩:=id V;have N:e≠it:=λz=>by
   subst z;have G:s.heap.get? e=_:=B;rw[D]at G;cases G;exact Js J (by decide)
  have a7:e≠a:=λz=>by
   subst z;have G:s.heap.get? e=_:=B;rw[t]at G;cases G;exact Js j (by decide)
  have L:a≠it:=λz=>by
   subst z;rw[D]at t;cases t;rw[J]at j;exact Js j (by decide)
  obtain⟨e0,e1,e2,e3,e4,e5⟩:=T e (by simp);obtain⟨f0,f1,f2,f3,f4,f5⟩:=T it (by simp);have a6:i < f.toArray.size:=by
   have:=(List.getElem?_eq_some_iff.mp hx).1;have hl:=rv.length;simp;omega
  refine wpAny_pyNext_enum_itemD (qI (prog:=X.prog) (w:=X.w) (A:=X.A.in1) (I.ok.hd hc) it a L f.toArray) B ⟨F,V⟩ a6 N (by simp;exact⟨N,a7⟩) λy h' tk hy b0 R U Q hk => ?_;refine⟨_,rfl,wpAny_letOwnedTupleGo_enum b0 λh2 a5 C => ?_⟩;replace C:Heap.SameBut e h' h2:=C;obtain⟨u,hu,ru⟩:=rv.get hx;have a4:y=u:=by
   have:f.toArray[i]? = some u:=by simpa using hu
   rw[hy]at this;exact ZT this
  subst a4;have W:e < s.heap.objs.size:=ZI B;have a0:it < s.heap.objs.size:=ZI D;have O:H s.heap.objs.size=none:=I.hok.fresh (ZL _);have keep:∀b o,b≠e->b≠it->s.heap.get? b=some o->h2.get? b=some o:=λb o b1 b2 q=>(C.2 b b1).trans (hk b o b1 b2 q);have M:h2.get? s.heap.objs.size=some { cls:=.type "tuple",data:=.seq #[.int i tk,y] }:=(C.2 _ (Z5 W)).trans U;have l:∀b,b∉([e,it] : List Addr)->b≠e/\b≠it:=λb d=>by simpa using d
  refine⟨.ref s.heap.objs.size,upd H s.heap.objs.size (.tup [.int (i:Nat),x]),?_,rfl,⟨_,x,rfl,O,rfl,λys a3=>by rw[I.tuple_inj a3 Z];exact hx⟩,⟨⟨_,by simpa using a5⟩,R.1.extBut C.extBut (YN N)⟩,λb d => ?_⟩
  ·suffices I2:L2.Inv X pins σ (upd H s.heap.objs.size (.tup [.int (i:Nat),x])) { s with heap:=h2,gens:=s.gens,drawn:=s.drawn,toks:=tk + 1 } from I2
   refine I.step (g':=s.gens) (d':=s.drawn) (t':=tk + 1) (ch:=[e,it]) (λb d => ?_) (λb o _ _ d q _=>keep b o (l b d).1 (l b d).2 q) (λb o _ _ d q _=>⟨o.slots,keep b o (l b d).1 (l b d).2 q⟩) (λb o _ q n => ?_) (λb o d q=>⟨o,keep b o (l b d).1 (l b d).2 q⟩)
    (λb ys q => ?_) (λb o u q => ?_) (λb ps q=>⟨#[],?_⟩) (λm hm => ?_) (λb u q => ?_) I.bare
   ·rcases Y6.mp d with rfl|d
    ·exact⟨e3,e1,e4,e5⟩
    ·have:b=it:=by simpa using d
     subst this;exact⟨f3,f1,f4,f5⟩
   ·rw[aM (ZN (ZI q))];exact n
   ·rw[aM (bO q O)];exact q
   ·rw[aM (bO q O)];exact q
   ·rw[aM (bO q O),q];simp
   ·obtain⟨o,es,ep,ho,r⟩:=hm
    exact⟨o,es,ep,keep _ o (YN e1) (YN f1) ho,r⟩
   ·by_cases d:b=s.heap.objs.size
    ·subst d
     rw[bp]at q;cases q;exact⟨by show 2<=sizeLine;rw[YK];decide,[.int i tk,y],.cons ⟨tk,rfl⟩ (.cons ru .nil),_,M,rfl,_,rfl⟩
    ·rw[aM d]at q
     have Y:∀c v,H c=some v->c≠e:=λc v z w=>by rw[w,e0]at z;cases z
     have S:∀c v,H c=some v->c≠it:=λc v z w=>by rw[w,f0]at z;cases z
     refine(I.hok b u q).stay (λc v a2 z => ?_) (λc z=>by rw[aM (bO z O)];exact z) λc ys z=>by rw[aM (bO z O)];exact z
     rcases a2 with w|w
     ·subst w;exact keep c v (Y c _ q) (S c _ q) z
     ·exact keep c v (Y c _ w) (S c _ w) z
  ·have:b≠s.heap.objs.size:=by
    rcases Y6.mp d with rfl|d
    ·exact ZN W
    ·have:b=it:=by simpa using d
     subst this;exact ZN a0
   rw[aM this];exact(T b d).1
 done:=by
  intro X hP hw hK hc i pins s σ H E I T st hg;subst hP hw hK;obtain⟨⟨g,B⟩,F⟩:=st;obtain⟨xs,Z,hx⟩:=hg;obtain⟨f,rv,p,hz⟩:=I.tuple Z;have V:s.heap.IsTuple a f.toArray:=p;obtain⟨oi,D,J,a1⟩:=id F;obtain⟨oa,t,j,na,a8⟩:=id V;have L:a≠it:=λz=>by
   subst z;rw[D]at t;cases t;rw[J]at j;exact Js j (by decide)
  obtain⟨f0,f1,f2,f3,f4,f5⟩:=T it (by simp);have Q:f.toArray.size=i:=by have:=rv.length;simp;omega
  refine wpAny_pyNext_enum_endD (qI (prog:=X.prog) (w:=X.w) (A:=X.A.in1) (I.ok.hd hc) it a L f.toArray) B ⟨by rw[Q];exact F,V⟩ λh' a9=>⟨rfl,I.turned (t':=s.toks) (λb o d e=>a9 b o d e) f0 f1 f3 f4 f5⟩
 self:=λ_ _ _ _ _ st h=>by
  obtain⟨⟨g,B⟩,_⟩:=st;exact wpAny_pyIter_enum B h
section
variable {X:Cx} {pos p tp:Pos} {elts:List Expr} {tk:Nat}
def iEn (K:ZX) (ta:TE):TI:=λσ H R=>ta σ H λx H1=>∃a xs,x=.ref a/\SqT K H1 a xs/\(xs.length<=sizeLine->R (Ite K a) H1)
theorem Jt {a:Expr} {ta:TE} (v:Gl X "enumerate") (hm:X.mg "enumerate" = none) (B:PE X a ta) (o:starEach [a] X.env=[(false,eval a X.env)]:=by rfl):PI X (.Tuple elts tk tp) (.Call (.Name "enumerate" p) [a] [] pos) (iEn X.K ta):=by
 intro pins s σ H R I h;have l:=cw B dI o;refine Call_ (mU I v hm PyProof.Rows.boot_enumerate (YX (thn (l pos pins s σ H (λm H1=>∃a xs,m=[.ref a]/\SqT X.K H1 a xs/\(xs.length<=sizeLine->R (Ite X.K a) H1)) I ?_) λE c ⟨m,H1,f,C,q1⟩ => ?_) o rfl))
 ·show ta σ H λx H1=>_
  have k:∀(x:V) (H1:Hp),(∃a xs,x=.ref a/\SqT X.K H1 a xs/\(xs.length<=sizeLine->R (Ite X.K a) H1))=(∃a xs,[x] = [.ref a]/\SqT X.K H1 a xs/\(xs.length<=sizeLine->R (Ite X.K a) H1)):=λx H1=>by simp
  have h':ta σ H λx H1=>∃a xs,x=.ref a/\SqT X.K H1 a xs/\(xs.length<=sizeLine->R (Ite X.K a) H1):=h;simp only[k]at h';exact h'
 ·obtain⟨a,xs,e,z,q⟩:=q1
  subst e;obtain⟨u,rfl,y⟩:=bi.one C;cases (show u=Value.ref a from y);obtain⟨g,F,D,w⟩:=f.tuple z;refine lx (show c.heap.IsTuple a g.toArray from D) λh' n j A r => ?_;refine wpAny_pyIter_enum (s:={ c with heap:=h' }) n ?_;have t:Inv X pins σ H1 { c with heap:=h' }:=f.kept (t':=c.toks) r;refine⟨c.heap.objs.size + 1,[c.heap.objs.size + 1,c.heap.objs.size],_,_,H1,rfl,t,Et (c.heap.objs.size + 1) c.heap.objs.size a,⟨⟨_,by simpa using n⟩,j⟩,λb i => ?_,q w⟩;have d:c.heap.objs.size<=b:=by
   rcases Y6.mp i with e|i
   ·rw[e];exact Nat.le_succ _
   ·have:b=c.heap.objs.size:=by simpa using i
    rw[this];exact ZL _
  exact f.fpOk d (f.hok.fresh d)
theorem Eu {K:ZX}{ρ:List Addr}{H:Hp}{hd:Hd}{q:Addr}{l:List D}{vs:List V}(r:RH K ρ H hd)(e:H q=some (.tup vs))(b:RDs K ρ H l vs)(hz:vs.length<=sizeLine) :
  sI K ρ H (Ite K q) ((List.range l.length).zip l |>.map λp=>.tup [.int (p.1:Nat),p.2]) none where
 go:=λρ' H' hd' i d ex n _ hi=>by
  have k:=r.kp ex;obtain⟨a,c⟩:=List.getElem?_eq_some_iff.mp hi;have m:i < l.length:=by simpa using a
  have hd:d=.tup [.int (i:Nat),l[i]]:=by rw[<-c];simp
  subst hd;obtain⟨v,g,s⟩:=(b.mono k).get (i:=i) (d:=l[i]) (by simp[m]);have h:SqT K H' q vs:=SqT.of (k.tup q vs e);refine⟨⟨vs,v,h,g⟩,λx t y => ?_⟩;obtain⟨q2,u,rfl,j,rfl,y⟩:=y;have:=y vs h;rw[g]at this;cases this;have f:=cv (o:=HO.tup [.int (i:Nat),v]) j;refine⟨f,?_⟩;simp only[RD];exact⟨q2,_,rfl,bp,RDs.cons (by simp only[RD]) (RDs.cons (s.mono (Kp.same f)) RDs.nil)⟩
 stop:=λρ' H' hd' ex n _=>⟨vs,SqT.of ((r.kp ex).tup q vs e),by rw[<-b.length];simp⟩
 sz:=by
  have:=b.length;simp;omega
theorem Ju {a:Expr} {f:EF} (m:Gl X "enumerate") (hm:X.mg "enumerate" = none) (r:ME X a f) (s:starEach [a] X.env=[(false,eval a X.env)]:=by rfl):MI X (.Tuple elts tk tp) (.Call (.Name "enumerate" p) [a] [] pos) (Gy f):=by
 refine PI.imp (Jt m hm r s) λσ H R ⟨ρ,σd,hd,t,b⟩=>⟨ρ,σd,hd,t,?_⟩;unfold Gy at b;cases e:f σd hd with
 | exc x h1=>rw[e]at b;exact b
 | bad=>rw[e]at b;exact b
 | ok d hd1 =>
  rw[e]at b;simp only[ay]at b;intro v H1 g i c k;cases d<;>try exact b.elim
  rename_i l
  simp only[rD,RD]at k;obtain⟨q,n,rfl,j,h⟩:=k;exact⟨q,n,rfl,SqT.of j,λo=>b _ H1 g i c (Eu c.hp j h o)⟩
end
end Fm
namespace Fm
open PySem PySem.Spec L2 PySem.W PyProof.Rows
section
variable {prog:T5} {w:T6} {A:T4} {E:T0->T3->Prop} {s:T3}
theorem Br {a:Addr} {vs:List T0} {n:Nat} {P:PySem.Fin->T3->Prop} (f:s.heap.get? a=some (seqObj "list" vs.toArray n)) (l:vs.length < 2)
  (h:P (.done (.ret .none)) { s with heap:=sortedHeap s.heap a vs vs.toArray }):wpAny (model prog w) A (Builtin.«list.sort» ⟨[.ref a],[]⟩) P E s:=by
 rw[list_sort_plain];have k:a < s.heap.objs.size:=ZI f;refine z0 (listItems_at f rfl ?_);refine z0 (listUpdate_at f rfl ?_);obtain⟨g,c⟩ : ∃g,(s.heap.update a (Obj.mapSeq λ_ => #[])).get? a=some (seqObj "list" #[] g):=⟨_,get?_update_seq f (λ_ => #[])⟩;refine z0 (seqEpoch_at c rfl ?_);refine z0 (wpAny_newTuple ?_);refine z0 (wpAny_newList ?_);refine Y5 ?_;have d:(((s.heap.update a (Obj.mapSeq λ_ => #[])).push (seqObj "tuple" vs.toArray 0)).push (seqObj "list" #[] 0)).get? a=some (seqObj "list" #[] g):=by
  rw[Heap.get?_push_ne _ _ _ (by rw[size_push',X5];exact ZN (ZZ k)),Heap.get?_push_ne _ _ _ (by rw[X5];exact ZN k)];exact c
 show wpAny (model prog w) A _ P E { s with heap:=((s.heap.update a (Obj.mapSeq λ_ => #[])).push (seqObj "tuple" vs.toArray 0)).push (seqObj "list" #[] 0) };dsimp only;have j:vs.toArray.size=vs.length:=by simp
 have b:vs.toArray.size < 2:=by rw[j];exact l
 rw[z4 b,z4 b];refine z0 (x4 ?_);rw[StateT.run_pure];refine z0 (x4 ?_);dsimp only;refine z0 (seqEpoch_at d rfl ?_);refine z0 (listUpdate_at d rfl ?_ (hsz2:=by rw[Array.size_map];show (pairsOf vs).size<=_;rw[pairsOf_size,YK];omega));simp only[bne_self_eq_false,YB,Y7];have e:(arrOf (SortSt.mk' general' (vs.toArray.zip vs.toArray) #[] 7 none)).map (·.2)=vs.toArray:=by
  show (vs.toArray.zip vs.toArray).map (·.2)=vs.toArray;apply Array.ext
  ·simp
  ·intro i m l
   simp
 refine x4 ?_;have h':=h;unfold sortedHeap at h';rw[e];exact h'
theorem Mg {Q:Bool->T3->Prop}:∀(b a:List Int) {xs ys:List T0} (i:Nat),IntsAre xs b->IntsAre ys a->Q (Fm.lexLt b a) s->KatLex prog w A true (decide (xs.length < ys.length)) Q (xs.zip ys) i s:=by
 intro b
 induction b with
 | nil =>
  intro a xs ys i d c h;cases d;cases a with
  | nil=>cases c;exact h
  | cons m a =>
   cases c;have h':Q true s:=h;exact h'
 | cons n b ih =>
  intro a xs ys i d c h;cases d with
  | cons _ t r =>
   cases a with
   | nil =>
    cases c;have h':Q false s:=h;exact h'
   | cons m a =>
    cases c with
    | cons _ t' r' =>
     rename_i xs ys
     refine kat_cons (WS n t m t' prog w _ _ ?_)
     by_cases e:n=m
     ·subst e
      rw[show (n == n)=true by simp];refine kat_yes ?_;have h':Q (Fm.lexLt b a) s:=by simpa[Fm.lexLt] using h
      have:=ih a (i + 1) r r' h';have f:decide ((Value.int n t :: xs).length < (Value.int n t' :: ys).length)=decide (xs.length < ys.length):=by simp
      rw[f];exact this
     ·rw[show (n == m)=false by simpa using e]
      refine kat_no ?_;have h':Q (decide (n < m)) s:=by simpa[Fm.lexLt,e] using h
      cases i with
      | zero=>exact oneLt_int h'
      | succ i =>
       have:(true && (i + 1 == 0))=false:=by simp
       rw[this];exact kat_one _ _ (lt_int (by first|exact⟨_,rfl,h'⟩|exact h'))
end
theorem Mh {h:Heap}{a:Addr}{m m':Str->Option T0}(x:h.Ns a m)(y:h.Ns a m'):m=m':=by
 obtain⟨o,es,g,c,hd,_,r⟩:=x;obtain⟨o',d,e,b,hd',_,f⟩:=y;rw[c]at b;cases b;rw[hd]at hd';cases hd';funext z;rw[<-r z,<-f z]
inductive dG (H:Hp):List V->List (List Int)->Prop
 | nil:dG H [] []
 | cons {a:Addr} {r:List Int} {vs:List V} {rs:List (List Int)}:H a=some (.tup (r.map V.int))->dG H vs rs->dG H (.ref a :: vs) (r :: rs)
theorem dG.get {H:Hp}:∀{c:List V} {b:List (List Int)} {i:Nat} {v:V},dG H c b->c[i]? = some v->∃a,v=.ref a/\H a=some (.tup ((b.getD i []).map V.int))
 | _,_,_,_,.nil,e=>by simp at e
 | _,_,0,_,.cons h t,e=>by simp at e;subst e;exact⟨_,rfl,h⟩
 | _,_,i + 1,v,.cons h t,e=>by
  obtain⟨a,d,f⟩:=dG.get (i:=i) (v:=v) t (by simpa using e);exact⟨a,d,by simpa using f⟩
theorem dG.length {H:Hp}:∀{a:List V} {b:List (List Int)},dG H a b->a.length=b.length
 | _,_,.nil=>rfl
 | _,_,.cons _ t=>by simp[dG.length t]
section
variable {X:Cx} {pos p:Pos}
theorem Df {i:Int}{u:T0}(r:bT (.int i) u):∃t,u=.int i t:=r
end
end Fm
namespace Fm
open PySem PySem.Spec L2
section
variable {X:Cx}
theorem mv (i:Nat) {x:Str} {pos:Pos} (c:X.N[i]? = some x:=by rfl) (b:Vis X.env.scope x:=by first|exact Or.inl rfl|exact Or.inr (Or.inl rfl)|exact Or.inr (Or.inr rfl)) (hd:(x == ("__debug__" : Str))=false:=by decide)
  (a:(x == ("__classdict__" : Str))=false:=by decide):ME X (.Name x pos) (aa i):=L3 c b hd a
end
theorem cy {k:Nat}{A:T4}(r:fG k A):A.units + 24 < cLine:=by have:=r.un;omega
def gq (X:Cx):List (Str × NameKind)->Prop
 | []=>True
 | y :: r=>(y.2=.free->X.env.kindOf y.1=some .cell\/X.env.kindOf y.1=some .free)/\gq X r
def bI (X:Cx) (scope:Scope):List Str->List Nat->Prop
 | [],[]=>True
 | x :: xs,i :: is=>(X.N[i]? = some x/\scope.names.lookup x=some .free)/\bI X scope xs is
 | _,_=>False
theorem gq.get {X:Cx}:∀{l:List (Str × NameKind)},gq X l->∀y∈l,y.2=.free->X.env.kindOf y.1=some .cell\/X.env.kindOf y.1=some .free
 | [],_,y,hy=>by simp at hy
 | z :: r,h,y,hy=>by
  rcases Y6.mp hy with rfl|hy
  ·exact h.1
  ·exact gq.get h.2 y hy
theorem bI.get {X:Cx}{scope:Scope}:∀{capn:List Str} {caps:List Nat},bI X scope capn caps->(∀(j:Nat) x,capn[j]? = some x->∃i,caps[j]? = some i/\X.N[i]? = some x/\scope.names.lookup x=some .free)/\capn.length=caps.length
 | [],[],_=>⟨λj x e=>by simp at e,rfl⟩
 | x :: xs,i :: is,h=>by
  obtain⟨a,b⟩:=bI.get h.2;refine⟨λj y e => ?_,by simp[b]⟩;cases j with
  | zero=>simp at e;subst e;exact⟨i,rfl,h.1⟩
  | succ j=>exact a j y (by simpa using e)
 | [],_ :: _,h=>h.elim
 | _ :: _,[],h=>h.elim
theorem gq.nil {X:Cx}:gq X []:=trivial
theorem gq.cons {X:Cx}{y:Str × NameKind}{r:List (Str × NameKind)}(h:y.2=.free->X.env.kindOf y.1=some .cell\/X.env.kindOf y.1=some .free)(t:gq X r):gq X (y :: r):=⟨h,t⟩
theorem bI.nil {X:Cx}{scope:Scope}:bI X scope [] []:=trivial
theorem bI.cons {X:Cx}{scope:Scope}{x:Str}{xs:List Str}{i:Nat}{is:List Nat}(h1:X.N[i]? = some x)(a:scope.names.lookup x=some .free)(t:bI X scope xs is):bI X scope (x :: xs) (i :: is):=⟨⟨h1,a⟩,t⟩
theorem bK.mk' {X:Cx}{scope:Scope}{own capn:List Str}{caps:List Nat}(k:scope.kind=.function)(c:∀y∈scope.names,y.2 ≠ .cell)(n:∀y∈scope.names,y.2=.local->scope.names.lookup y.1=some .local)(f:gq X scope.names)(cp:bI X scope capn caps):bK X scope own capn caps :=
 ⟨k,c,n,f.get,cp.get.1,cp.get.2⟩
section
variable {K:ZX} {ρ:List Addr} {H:Hp}
theorem zg {d:D}{v:V}(h:RD K ρ H d v)(f:gJ d=true):mO v=true:=by
 cases d<;>simp only[RD]at h<;>first|(subst h;rfl)|(simp[gJ]at f)
theorem eqS {x y:List Nat}:(x == y)=(toS x == toS y):=by
 by_cases z:x=y
 ·subst z;rw[beq_self_eq_true,beq_self_eq_true]
 ·have : ¬toS x=toS y:=λq=>z (by have:=congrArg (λ(s:Str)=>s.cps.toList) q;simpa[toS] using this)
  rw[beq_eq_false_iff_ne.mpr z,beq_eq_false_iff_ne.mpr this]
theorem Jv {d k:D}{v w:V}(h:RD K ρ H d v)(g:RD K ρ H k w)(f:gJ d=true)(b:gJ k=true):eqF d k=eqV v w:=by
 cases d with
 | non=>simp only[RD]at h;subst h;cases k<;>simp only[RD]at g<;>first|(subst g;rfl)|(simp[gJ]at b)
 | bl a=>simp only[RD]at h;subst h;cases k<;>simp only[RD]at g<;>first|(subst g;rfl)|(simp[gJ]at b)
 | int a=>simp only[RD]at h;subst h;cases k<;>simp only[RD]at g<;>first|(subst g;rfl)|(simp[gJ]at b)
 | str a=>simp only[RD]at h;subst h;cases k<;>simp only[RD]at g<;>first|(subst g;rfl)|(subst g;exact eqS)|(simp[gJ]at b)
 | tup l=>simp[gJ]at f
 | ref n=>simp[gJ]at f
 | lit l=>simp[gJ]at f
 | exn c l=>simp[gJ]at f
theorem vK:∀{l:List D} {a:List V},RDs K ρ H l a->l.all gJ=true->a.all mO=true
 | [],_,h,_=>by simp only[RDs]at h;subst h;rfl
 | d :: l,_,h,f=>by
  simp only[RDs]at h;obtain⟨v,r,rfl,b,c⟩:=h;simp only[X1,Z3]at f ⊢;exact⟨zg b f.1,vK c f.2⟩
theorem Dg {k:D}{w:V}(g:RD K ρ H k w)(b:gJ k=true):∀{l:List D} {a:List V},RDs K ρ H l a->l.all gJ=true->(l.any λz=>eqF z k)=a.any λz=>eqV z w
 | [],_,h,_=>by simp only[RDs]at h;subst h;rfl
 | d :: l,_,h,f=>by
  simp only[RDs]at h;obtain⟨v,r,rfl,c,e⟩:=h;simp only[X1,Z3]at f;rw[WB,WB,Jv c g f.1 b,Dg g b e f.2]
end
section
variable {X:Cx} {pos:Pos}
theorem Jw {K:ZX}{a:Bool}{ρ:List Addr}{H:Hp}{σd:Sd}{hd:Hd}{σ:St}{d k:D}{v w:V}{Q:VK}{b:Bool}(rs:RS K ρ H σd hd σ)(h:RD K ρ H d v)(g:RD K ρ H k w)(e:inL hd d k=some b)
  (q:Q (.bl (if a then !b else b)) H):rIn K a v w H Q:=by
 simp only[inL]at e;cases c:kN hd k with
 | none=>rw[c]at e;cases e
 | some l =>
  rw[c]at e;simp only at e;split at e
  ·rename_i hf
   cases e;rw[Z3]at hf;obtain⟨p,i,rfl,j,f⟩:=w5 rs.hp g c;refine⟨p,i,rfl,j.imp id SqT.of,zg h hf.1,vK f hf.2,?_⟩;unfold inV;rw[<-Dg h hf.1 f hf.2];exact q
  ·cases e
theorem KS {K:ZX}:Og K oIn (rIn K false):=by
 intro ρ H σd hd σ d k v w Q c f a p;unfold oIn at p;cases e:inL hd d k with
 | none=>rw[e]at p;exact p.elim
 | some b=>rw[e]at p;exact Jw c f a e (p.here c (by simp only[rD,RD];rfl))
theorem j0 {i:Int}{j:Nat}{p2:Pos}:ME X (.UnaryOp .USub (.Constant (.int i) j p2) pos) (fC (.int (-i))) :=
 PE.imp (NX LL FV) λσ H Q ⟨ρ,σd,hd,a,p⟩=>⟨i,rfl,p.here a (by simp only[rD,RD])⟩
end
end Fm
namespace Fm
open PySem PySem.Spec L2 PySem.W PyProof.Rows
theorem Mi {l r:Nat}(h:l < r):l<=(l + r) / 2/\(l + r) / 2 < r:=by omega
variable {p:Array Nat}
section
variable {cmp:Nat->Nat->(Bool->T3->Prop)->T3->Prop} {n:Nat} {s:T3} {lt:Nat->Nat->Bool}
structure Ord (lt:Nat->Nat->Bool) (n:Nat):Prop where
 asy:∀i j,i < n->j < n->lt i j=true->lt j i=false
 tr:∀i j k,i < n->j < n->k < n->lt i j=true->lt j k=true->lt i k=true
 tot:∀i j,i < n->j < n->i≠j->lt i j=false->lt j i=true
structure Gd (n:Nat) (p:Array Nat):Prop where
 sz:p.size=n
 pm:p.Perm (List.toArray (List.range n))
theorem Gd.below (g:Gd n p){i:Nat}(hi:i < n):p.getD i 0 < n:=by
 have a:i < p.size:=by rw[g.sz];exact hi
 have e:p.getD i 0=p[i]:=by simp[Array.getD,a]
 rw[e];have m:p[i]∈p.toList:=by simp
 have:=(Array.perm_iff_toList_perm.mp g.pm).mem_iff.mp m;simpa using this
theorem Gd.ne (g:Gd n p){i j:Nat}(hi:i < n)(c:j < n)(h:i≠j):p.getD i 0≠p.getD j 0:=by
 have a:i < p.size:=by rw[g.sz];exact hi
 have b:j < p.size:=by rw[g.sz];exact c
 have e:p.getD i 0=p[i]:=by simp[Array.getD,a]
 have d:p.getD j 0=p[j]:=by simp[Array.getD,b]
 rw[e,d];have f:p.toList.Nodup:=(Array.perm_iff_toList_perm.mp g.pm).nodup_iff.mpr (by simpa using List.nodup_range);intro z;have:=(List.getElem_inj (xs:=p.toList) f (i:=i) (j:=j) (h₀ := by simpa using a) (h₁ := by simpa using b)).mp (by simpa using z);exact h this
def Srt (lt:Nat->Nat->Bool) (p:Array Nat) (m:Nat):Prop:=∀i j,i < j->j < m->lt (p.getD i 0) (p.getD j 0)=true
def Dsc (lt:Nat->Nat->Bool) (p:Array Nat) (m:Nat):Prop:=∀i j,i < j->j < m->lt (p.getD j 0) (p.getD i 0)=true
theorem iO:Gd n (List.toArray (List.range n)):=⟨by simp,Array.Perm.refl _⟩
theorem Srt.next {m:Nat}(O:Ord lt n)(g:Gd n p)(h:Srt lt p m)(h1:1<=m)(hm:m < n)(c:lt (p.getD (m - 1) 0) (p.getD m 0)=true):Srt lt p (m + 1):=by
 intro i j a b
 by_cases e:j < m
 ·exact h i j a e
 ·have:j=m:=by omega
  subst this
  by_cases e2:i=j - 1
  ·subst e2;exact c
  ·exact O.tr _ _ _ (g.below (by omega)) (g.below (by omega)) (g.below hm) (h i (j - 1) (by omega) (by omega)) c
theorem Dsc.next {m:Nat}(O:Ord lt n)(g:Gd n p)(h:Dsc lt p m)(h1:1<=m)(hm:m < n)(c:lt (p.getD m 0) (p.getD (m - 1) 0)=true):Dsc lt p (m + 1):=by
 intro i j a b
 by_cases e:j < m
 ·exact h i j a e
 ·have:j=m:=by omega
  subst this
  by_cases e2:i=j - 1
  ·subst e2;exact c
  ·exact O.tr _ _ _ (g.below hm) (g.below (by omega)) (g.below (by omega)) c (h i (j - 1) (by omega) (by omega))
variable (O:Ord lt n) (hc:∀i j,i < n->j < n->∀C:Bool->T3->Prop,C (lt i j) s->cmp i j C s)
include O hc
theorem mZ {p:Array Nat}(g:Gd n p){Q:Nat->T3->Prop}(q:∀m,1<=m->m<=n->Srt lt p m->(m < n->lt (p.getD m 0) (p.getD (m - 1) 0)=true)->Q m s) :
  ∀(f m:Nat),1<=m->m + f=n->Srt lt p m->(kas_asc p f m).kasWp cmp Q s
 | 0,m,h1,e,h=>q m h1 (by omega) h λz=>by omega
 | f + 1,m,h1,e,h=>by
  refine hc _ _ (g.below (by omega)) (g.below (by omega)) _ ?_;cases c:lt (p.getD m 0) (p.getD (m - 1) 0) with
  | true=>((try dsimp only);(try rw[z4 rfl]));exact q m h1 (by omega) h λ_=>c
  | false =>
   ((try dsimp only);(try rw[z5 ZY]))
   have a:=O.tot _ _ (g.below (by omega)) (g.below (by omega)) (g.ne (i:=m) (j:=m - 1) (by omega) (by omega) (by omega)) c;exact mZ g q f (m + 1) (by omega) (by omega) (h.next O g h1 (by omega) a)
theorem qJ {p:Array Nat}(g:Gd n p){Q:Array Nat × Nat × Nat->T3->Prop}(q:∀m,1<=m->m<=n->Dsc lt p m->Q (p,m,0) s) :
  ∀(f m:Nat),1<=m->m + f=n->Dsc lt p m->(kas_desc f p m 0).kasWp cmp Q s
 | 0,m,h1,e,h=>q m h1 (by omega) h
 | f + 1,m,h1,e,h=>by
  refine hc _ _ (g.below (by omega)) (g.below (by omega)) _ ?_;cases c:lt (p.getD m 0) (p.getD (m - 1) 0) with
  | true =>
   ((try dsimp only);(try rw[z4 rfl]));(try rw[z5 (by omega)])
   exact qJ g q f (m + 1) (by omega) (by omega) (h.next O g h1 (by omega) c)
  | false =>
   ((try dsimp only);(try rw[z5 ZY]))
   have a:=O.tot _ _ (g.below (by omega)) (g.below (by omega)) (g.ne (i:=m) (j:=m - 1) (by omega) (by omega) (by omega)) c;refine hc _ _ (g.below (by omega)) (g.below (by omega)) _ ?_;rw[a];((try dsimp only);(try rw[z4 rfl]));exact q m h1 (by omega) h
omit hc in
theorem Mj (g:Gd n p){m:Nat}(hm:m<=n)(h:Dsc lt p m):Gd n (kas_rev p 0 m)/\Srt lt (kas_rev p 0 m) m:=by
 have a:∀k,k < m->(kas_rev p 0 m).getD k 0=p.getD (m - 1 - k) 0:=λk b=>by
  have e:=getElem?_mirror_all (xs:=p) (i:=0) (j:=m) (by rw[g.sz];exact hm) k;rw[z4 ⟨YG _,b⟩]at e;unfold kas_rev;rw[WG,WG,e,Z1]
 refine⟨⟨by unfold kas_rev;rw[mirror_size,g.sz],(mirror_perm _ _ _ _).trans g.pm⟩,λi j d c => ?_⟩;rw[a i (by omega),a j c];exact h _ _ (by omega) (by omega)
theorem xg (u:2<=n){Q:Nat × Array Nat->T3->Prop}(q:∀m p,Gd n p->1<=m->m<=n->Srt lt p m->Q (m,p) s):(kas_count n (List.toArray (List.range n))).kasWp cmp Q s:=by
 unfold kas_count;rw[WQ];refine mZ O hc iO (λm b f a hd => ?_) (n - 1) 1 (ZL _) (by omega) (λi j g l=>by omega)
 by_cases e:m=n
 ·subst e
  rw[z4 (by simp)];exact q m _ iO b (ZL _) a
 ·rw[z5 (by simpa using e)]
  by_cases e1:m > 1
  ·rw[z4 e1]
   refine hc _ _ (iO.below (by omega)) (iO.below (by omega)) _ ?_;have:=a 0 (m - 1) (by omega) (by omega);rw[this];((try dsimp only);(try rw[z4 rfl]));exact q m _ iO b f a
  ·rw[z5 e1]
   have:m=1:=by omega
   subst this;have c:=hd (by omega);unfold kas_descPart;rw[WQ];refine qJ O hc iO (λm b f a => ?_) (n - 2) 2 (by omega) (by omega) (λi j g l => ?_)
   ·rw[z5 (by simp)]
    unfold kas_tail3;rw[WQ];obtain⟨o,t⟩:=Mj O iO f a;exact mZ O hc o (λr d h k _=>q r _ o d h k) (n - m) m b (by omega) t
   ·have hi:i=0:=by omega
    have l:j=1:=by omega
    subst hi l;exact c
theorem j2 {p:Array Nat}(g:Gd n p){k:Nat}(h:k < n)(v:Srt lt p k){Q:Nat->T3->Prop}(q:∀l,l<=k->(∀i,i < l->lt (p.getD i 0) (p.getD k 0)=true)->(∀i,l<=i->i < k->lt (p.getD k 0) (p.getD i 0)=true)->Q l s) :
  ∀(f l r:Nat),r - l<=f->l<=r->r<=k->(∀i,i < l->lt (p.getD i 0) (p.getD k 0)=true)->(∀i,r<=i->i < k->lt (p.getD k 0) (p.getD i 0)=true)->(kas_place p k f l r).kasWp cmp Q s
 | 0,l,r,hf,hl,hr,a,b=>q l (ZM hl hr) a λi o t=>b i (ZM (Nat.le_of_sub_eq_zero (Nat.le_zero.mp hf)) o) t
 | f + 1,l,r,hf,hl,hr,a,b=>by
  unfold kas_place
  by_cases e:l ≥ r
  ·rw[z4 e]
   exact q l (ZM hl hr) a λi o t=>b i (ZM e o) t
  ·rw[z5 e]
   have w:l < r:=Nat.not_le.mp e;have m:=Mi w;generalize (l + r) / 2=M at m;have u:M < k:=v3 m.2 hr;have d:M < n:=Z6 u h;refine hc _ _ (g.below h) (g.below d) _ ?_;cases c:lt (p.getD k 0) (p.getD M 0) with
   | true =>
    ((try dsimp only);(try rw[z4 rfl]))
    refine j2 g h v q f l M (YZ (v3 (Nat.sub_lt_sub_right m.1 m.2) hf)) m.1 (YS u) a λi o t => ?_
    by_cases z:i=M
    ·subst z;exact c
    ·exact O.tr _ _ _ (g.below h) (g.below d) (g.below (Z6 t h)) c (v _ i (XS o (YN z)) t)
   | false =>
    ((try dsimp only);(try rw[z5 ZY]))
    have x:=O.tot _ _ (g.below h) (g.below d) (g.ne (i:=k) (j:=M) h d (Z5 u)) c;refine j2 g h v q f (M + 1) r (YZ (v3 (Nat.sub_lt_sub_left w (Nat.lt_succ_of_le m.1)) hf)) m.2 hr (λi o => ?_) b
    by_cases z:i=M
    ·subst z;exact x
    ·have hi:i < M:=XS (YZ o) z
     exact O.tr _ _ _ (g.below (Z6 hi d)) (g.below d) (g.below h) (v i _ hi u) x
theorem sK {Q:Array Nat->T3->Prop}(q:∀p,Gd n p->Srt lt p n->Q p s):∀(f:Nat) (p:Array Nat) (k:Nat),Gd n p->k + f=n->Srt lt p k->(kas_bin f p k).kasWp cmp Q s
 | 0,p,k,g,e,h=>by
  have:k=n:=e;subst this;exact q p g h
 | f + 1,p,k,g,e,h=>by
  unfold kas_bin;rw[WQ];have u:k < n:=e ▸ Nat.lt_add_of_pos_right (Nat.succ_pos f);refine j2 O hc g u h (λl v a b => ?_) k 0 k (ZL _) (YG _) (ZL _) (λi z=>absurd z (XZ _)) (λi z y=>absurd y (Nat.not_lt.mpr z));have r:k < p.size:=by rw[g.sz];exact u
  have m:∀i,(bubble p k (k - l)).getD i 0=if i=l then p.getD k 0 else if l < i/\i<=k then p.getD (i - 1) 0 else p.getD i 0:=λi=>by
   have:=getElem?_bubble r (k - l) (Nat.sub_le _ _) i;rw[Nat.sub_sub_self v]at this;simp only[WG];rw[this]
   by_cases c1:i=l
   ·rw[z4 c1,z4 c1]
   ·rw[z5 c1,z5 c1]
    by_cases c2:l < i/\i<=k
    ·rw[z4 c2,z4 c2]
    ·rw[z5 c2,z5 c2]
  refine sK q f _ (k + 1) ⟨by rw[bubble_size,g.sz],(bubble_perm _ _ _).trans g.pm⟩ (by rw[Nat.add_right_comm];exact e) λi j c A => ?_;have o:j<=k:=YZ A;have t:j - 1 < k:=Nat.sub_one_lt_of_le (Nat.zero_lt_of_lt c) o;rw[m i,m j]
  by_cases c1:i=l
  ·have d:l < j:=c1 ▸ c
   rw[z4 c1,z5 (Z5 d),z4 ⟨d,o⟩];exact b _ (Nat.le_sub_one_of_lt d) t
  ·rw[z5 c1]
   by_cases c2:l < i/\i<=k
   ·have d:l < j:=Z6 c2.1 c
    rw[z4 c2,z5 (Z5 d),z4 ⟨d,o⟩];exact h _ _ (Nat.sub_lt_sub_right (Nat.zero_lt_of_lt c2.1) c) t
   ·rw[z5 c2]
    have w:i < l:=XS (Nat.not_lt.mp λz=>c2 ⟨z,ZM (YS c) o⟩) c1
    by_cases c3:j=l
    ·rw[z4 c3];exact a _ w
    ·rw[z5 c3]
     by_cases c4:l < j/\j<=k
     ·rw[z4 c4]
      exact h _ _ (v3 w (Nat.le_sub_one_of_lt c4.1)) t
     ·rw[z5 c4]
      have x:j < l:=XS (Nat.not_lt.mp λz=>c4 ⟨z,o⟩) c3;exact h _ _ c (v3 x v)
theorem zh (b:2<=n){Q:Array Nat->T3->Prop}(q:∀p,Gd n p->Srt lt p n->Q p s):(kas_sort n).kasWp cmp Q s:=by
 unfold kas_sort;rw[WQ];refine xg O hc b λm p g c d a => ?_
 by_cases e:m < n
 ·rw[z4 e]
  have:max m 1=m:=by omega
  show KasT.kasWp cmp (kas_bin (n - max m 1) p (max m 1)) Q s;rw[this];exact sK O hc q (n - m) p m g (by omega) a
 ·rw[z5 e]
  have:m=n:=by omega
  subst this;exact q p g a
end
end Fm
namespace Fm
def xh (x:List Int):List (List Int)->List (List Int)
 | []=>[x]
 | y :: r=>if lexLt x y=true then x :: y :: r else y :: xh x r
def dM:List (List Int)->List (List Int)
 | []=>[]
 | x :: r=>xh x (dM r)
def xi (r:List Int):D:=.tup (r.map .int)
theorem ou:∀a,lexLt a a=false
 | []=>rfl
 | x :: a=>by simp[lexLt,ou a]
theorem jd:∀{a b c},lexLt a b=true->lexLt b c=true->lexLt a c=true
 | [],[],_,h,_=>by simp[lexLt]at h
 | [],_ :: _,[],_,h=>by simp[lexLt]at h
 | [],_ :: _,_ :: _,_,_=>rfl
 | _ :: _,[],_,h,_=>by simp[lexLt]at h
 | _ :: _,_ :: _,[],_,h=>by simp[lexLt]at h
 | x :: a,y :: b,z :: c,h,h'=>by
  simp only[lexLt]at h h' ⊢
  by_cases e:x=y
  ·subst e
   rw[z4 rfl]at h
   by_cases e2:x=z
   ·subst e2
    rw[z4 rfl]at h' ⊢;exact jd h h'
   ·rw[z5 e2]at h' ⊢;exact h'
  ·rw[z5 e]at h
   by_cases e2:y=z
   ·subst e2
    rw[z5 e];exact h
   ·rw[z5 e2]at h'
    simp at h h';rw[z5 (by omega)];simp;omega
theorem pw:∀{a b},a≠b->lexLt a b=false->lexLt b a=true
 | [],[],h,_=>absurd rfl h
 | [],_ :: _,_,h=>by simp[lexLt]at h
 | _ :: _,[],_,_=>rfl
 | x :: a,y :: b,h,h'=>by
  simp only[lexLt]at h' ⊢
  by_cases e:x=y
  ·subst e
   rw[z4 rfl]at h' ⊢;exact pw (λz=>h (by rw[z])) h'
  ·rw[z5 e]at h'
   rw[z5 (YN e)];simp at h' ⊢;omega
theorem qK {a b:List Int}(h:lexLt a b=true):lexLt b a=false:=by
 cases c:lexLt b a with
 | false=>rfl
 | true=>have:=jd h c;rw[ou]at this;cases this
theorem px (x:List Int):∀r,(xh x r).Perm (x :: r)
 | []=>.refl _
 | y :: r=>by
  simp only[xh];split
  ·exact .refl _
  ·exact((px x r).cons y).trans (.swap x y r)
theorem jt:∀r,(dM r).Perm r
 | []=>.refl _
 | x :: r=>(px x _).trans ((jt r).cons x)
theorem sL {x:List Int}:∀{r:List (List Int)},x∉r->r.Pairwise (λa b=>lexLt a b=true)->(xh x r).Pairwise (λa b=>lexLt a b=true)
 | [],_,_=>by simp[xh]
 | y :: r,hx,h=>by
  simp only[xh];have f : ¬x=y:=λz=>hx (by simp[z]);have g:x∉r:=λz=>hx (by simp[z]);obtain⟨e,i⟩:=List.pairwise_cons.mp h;split
  ·rename_i c
   refine List.pairwise_cons.mpr ⟨λb d => ?_,h⟩;rcases Y6.mp d with rfl|d
   ·exact c
   ·exact jd c (e b d)
  ·rename_i c
   have j:=pw f (by simpa using c);refine List.pairwise_cons.mpr ⟨λb d => ?_,sL g i⟩;rcases Y6.mp ((px x r).mem_iff.mp d) with rfl|d
   ·exact j
   ·exact e b d
theorem ly:∀{r:List (List Int)},r.Nodup->(dM r).Pairwise (λa b=>lexLt a b=true)
 | [],_=>.nil
 | x :: r,h=>by
  obtain⟨c,d⟩:=List.nodup_cons.mp h;exact sL (λz=>c ((jt r).mem_iff.mp z)) (ly d)
theorem Ev {a b:List (List Int)}(p:a.Perm b)(c:a.Pairwise (λa b=>lexLt a b=true))(d:b.Pairwise (λa b=>lexLt a b=true)):a=b :=
 List.Perm.eq_of_pairwise (λx y _ _ h h'=>by have:=qK h;rw[h']at this;cases this) c d p
end Fm
namespace Fm
open PySem PySem.Spec L2 PySem.W PyProof.Rows
section
variable {X:Cx} {pos p:Pos}
theorem dG.rds {K:ZX}{ρ:List Addr}{H:Hp}:∀{b:List V} {c:List (List Int)},dG H b c->RDs K ρ H (c.map xi) b
 | _,_,.nil=>RDs.nil
 | _,_,.cons (a:=a) (r:=r) h t=>by
  refine RDs.cons ?_ (dG.rds t);unfold xi;simp only[RD];refine⟨a,_,rfl,h,?_⟩;clear h
  induction r with
  | nil=>exact RDs.nil
  | cons x r ih=>exact RDs.cons (by simp only[RD]) ih
theorem dG.pick {H:Hp}{vs:List V}{rs:List (List Int)}(h:dG H vs rs):∀(l:List Nat),(∀i∈l,i < vs.length)->dG H (l.map λi=>vs.getD i .non) (l.map λi=>rs.getD i [])
 | [],_=>.nil
 | i :: l,hl=>by
  have hi:i < vs.length:=hl i (by simp);obtain⟨a,e,b⟩:=h.get (i:=i) (v:=vs[i]) (by simp[hi]);have t:=dG.pick h l λj c=>hl j (by simp[c]);have:vs.getD i .non=.ref a:=by simp[List.getD,hi,e]
  simp only[x3,this];exact .cons b t
theorem bi.pick {vs:List V}{us:List T0}(h:bi vs us):∀(l:List Nat),(∀i∈l,i < vs.length)->bi (l.map λi=>vs.getD i .non) (l.map λi=>us.getD i Value.none)
 | [],_=>.nil
 | i :: l,hl=>by
  have hi:i < vs.length:=hl i (by simp);obtain⟨u,e,a⟩:=h.get (i:=i) (x:=vs[i]) (by simp[hi]);have t:=bi.pick h l λj b=>hl j (by simp[b]);simp only[x3];refine .cons ?_ t;simp[List.getD,hi,e];exact a
end
section
variable {X:Cx} {pos p:Pos}
theorem RDs.rep {K:ZX}{ρ:List Addr}{H:Hp}{l:List D}{vs:List V}(r:RDs K ρ H l vs):∀k,RDs K ρ H (List.replicate k l).flatten (List.replicate k vs).flatten
 | 0=>RDs.nil
 | k + 1=>by
  rw[YL,YL,YR,YR];exact RDs.append r (RDs.rep r k)
end
end Fm
namespace Fm
@[simp] def Dh:EF:=λ_ h=>.ok (.ref h.length) (h++[.dct []])
def sM (l:List (Int × D)) (k:Int):Option D:=(l.find? λp=>decide (p.1=k)).map (·.2)
def Bs (l:List (Int × D)) (k:Int) (v:D):List (Int × D):=if (l.any λp=>decide (p.1=k))=true then l.map (λp=>if p.1=k then (p.1,v) else p) else l++[(k,v)]
@[simp] def GM:O2:=λx y h=>match x,y with
 | .int k,.ref n=>match h[n]? with|some (.dct l)=>.ok (.bl (sM l k).isSome) h|_=>.bad
 | _,_=>.bad
@[simp] def zi (x i e:EF):SF:=λσ h=>outE (e σ h) σ λd h=>outE (x σ h) σ λp h=>outE (i σ h) σ λj h=>match p,j with
 | .ref n,.int k=>match h[n]? with
  | some (.dct l)=>if l.length < SZ then .nx σ (h.set n (.dct (Bs l k d))) else .bad
  | _=>.bad
 | _,_=>.bad
def fX:List (Int × D)->Option (List (List Int))
 | []=>some []
 | (k,.int v) :: r=>(fX r).map λl=>[k,v] :: l
 | _=>none
@[simp] def pz (a:EF):LF:=λσ h=>(a σ h).bind λx h=>match x with
 | .ref n=>match h[n]? with
  | some (.dct l)=>match fX l with
   | some r=>if r.length < 64/\r.Nodup then .ok ((dM r).map xi) h else .bad
   | none=>.bad
  | _=>.bad
 | _=>.bad
end Fm
namespace L2
open PySem PySem.Spec PyProof.Rows
section
variable {κ : Type} [DecidableEq κ]
def kT (kvs:List (κ × V)) (k : κ):Option V:=(kvs.find? λkv=>decide (kv.1=k)).map (·.2)
def ng (kvs:List (κ × V)) (k : κ) (v:V):List (κ × V) :=
 if (kvs.any λkv=>decide (kv.1=k))=true then kvs.map (λkv=>if kv.1=k then (kv.1,v) else kv) else kvs++[(k,v)]
theorem sN {p : κ × V}{r:List (κ × V)}{k : κ}(e:p.1=k):kT (p :: r) k=some p.2:=by simp[kT,List.find?_cons,e]
theorem ow {p : κ × V}{r:List (κ × V)}{k : κ}(e : ¬p.1=k):kT (p :: r) k=kT r k:=by simp[kT,List.find?_cons,e]
theorem zj (k : κ):∀a:List (κ × V),(a.any λb=>decide (b.1=k))=(kT a k).isSome
 | []=>rfl
 | p :: r=>by
  rw[WB]
  by_cases e:p.1=k
  ·simp only[sN e,x6 e,Bool.true_or,Option.isSome_some]
  ·rw[ow e,wL e,Bool.false_or];exact zj k r
theorem qL (kvs:List (κ × V))(k : κ)(v:V):(ng kvs k v).length<=kvs.length + 1:=by
 unfold ng;split
 ·rw[ZA];omega
 ·rw[ZB,y4,Z0];omega
theorem nY.isSome_eq {o:Option V}{u:Option T0}(r:nY o u):o.isSome=u.isSome:=by
 cases o with
 | none=>cases u with
  | none=>rfl
  | some _=>exact(show False from r).elim
 | some _=>cases u with
  | none=>exact(show False from r).elim
  | some _=>rfl
theorem KV.val {kvs:List (κ × V)}{vs:List (κ × T0)}(r:KV kvs vs)(k : κ):nY (kT kvs k) (valueAt vs k):=by
 unfold KV at r
 induction r with
 | nil=>exact True.intro
 | @cons p q ps qs h t ih =>
  obtain⟨c,d⟩:=h
  by_cases e:p.1=k
  ·have a:q.1=k:=c.symm.trans e
   have b:valueAt (q :: qs) k=some q.2:=by simp[valueAt,List.find?_cons,a]
   rw[sN e,b];exact d
  ·have a : ¬q.1=k:=λz=>e (c.trans z)
   have b:valueAt (q :: qs) k=valueAt qs k:=by simp[valueAt,List.find?_cons,a]
   rw[ow e,b];exact ih
theorem KV.any {kvs:List (κ × V)}{vs:List (κ × T0)}(r:KV kvs vs)(k : κ):(kvs.any λa=>decide (a.1=k))=vs.any λa=>decide (a.1=k):=by
 unfold KV at r
 induction r with
 | nil=>rfl
 | cons h t ih=>rw[WB,WB,ih,h.1]
theorem KV.repl {kvs:List (κ × V)}{vs:List (κ × T0)}(r:KV kvs vs)(k : κ){y:V}{u:T0}(c:bT y u) :
  KV (kvs.map λa=>if a.1=k then (a.1,y) else a) (vs.map λa=>if a.1=k then (a.1,u) else a):=by
 unfold KV at r ⊢
 induction r with
 | nil=>exact .nil
 | @cons p q ps qs h t ih =>
  rw[x3,x3];refine .cons ?_ ih;obtain⟨b,d⟩:=h
  by_cases e:p.1=k
  ·rw[z4 e,z4 (b.symm.trans e)];exact⟨b,c⟩
  ·rw[z5 e,z5 (λz=>e (b.trans z))];exact⟨b,d⟩
theorem KV.put {kvs:List (κ × V)}{vs:List (κ × T0)}(r:KV kvs vs)(k : κ){y:V}{u:T0}(a:bT y u):KV (ng kvs k y) (stored vs k u):=by
 unfold ng stored;rw[r.any k]
 by_cases e:(vs.any λb=>decide (b.1=k))=true
 ·rw[z4 e,z4 e];exact r.repl k a
 ·rw[z5 e,z5 e];exact Paired.snoc r ⟨rfl,a⟩
theorem KV.length {kvs:List (κ × V)}{vs:List (κ × T0)}(r:KV kvs vs):kvs.length=vs.length:=Paired.length r
end
theorem GN {P:T5}{w:T6}{k:Key}{u:T0}(r:bT (kV k) u):(dH P w).is k u=true:=by
 cases k with
 | inl i=>obtain⟨t,e⟩:=(show ∃t,u=Value.int i t from r);subst e;exact yS P w i t
 | inr x=>obtain⟨t,e⟩:=(show ∃t,u=Value.str x t from r);subst e;exact yT P w x t
theorem vL {P:T5}{w:T6}:∀{a:List Key} {b:List T0},bi (a.map kV) b->ItemsAre (dH P w) a b
 | [],_,r=>by rw[YY]at r;cases r;exact .nil
 | k :: a,_,r=>by
  rw[x3]at r;cases r with
  | cons h t=>exact .cons (GN h) (vL t)
abbrev KT (H:Hp):List (List Key × V)->List (List Key × Addr × T0)->Prop:=Paired λp q=>p.1=q.1/\H q.2.1=some (.tup (p.1.map kV))/\bT p.2 q.2.2
theorem KT.val {H:Hp}{kvs:List (List Key × V)}{xs:List (List Key × Addr × T0)}(r:KT H kvs xs)(k:List Key):nY (kT kvs k) ((atKey xs k).map (·.2)):=by
 induction r with
 | nil=>exact True.intro
 | @cons p q ps qs h t ih =>
  obtain⟨c,_,d⟩:=h
  by_cases e:p.1=k
  ·have a:q.1=k:=c.symm.trans e
   have b:atKey (q :: qs) k=some q.2:=by simp[atKey,List.find?_cons,a]
   rw[sN e,b];exact d
  ·have a : ¬q.1=k:=λz=>e (c.trans z)
   have b:atKey (q :: qs) k=atKey qs k:=by simp[atKey,List.find?_cons,a]
   rw[ow e,b];exact ih
theorem KT.repl {H:Hp}{kvs:List (List Key × V)}{xs:List (List Key × Addr × T0)}(r:KT H kvs xs)(k:List Key){y:V}{u:T0}(f:bT y u) :
  KT H (kvs.map λb=>if b.1=k then (b.1,y) else b) (xs.map (putAt k u)):=by
 induction r with
 | nil=>exact .nil
 | @cons p q ps qs h t ih =>
  rw[x3,x3];refine .cons ?_ ih;obtain⟨a,c,d⟩:=h;unfold putAt
  by_cases e:p.1=k
  ·rw[z4 e,z4 (a.symm.trans e)];exact⟨a,c,f⟩
  ·rw[z5 e,z5 (λz=>e (a.trans z))];exact⟨a,c,d⟩
theorem KT.put {H:Hp}{kvs:List (List Key × V)}{xs:List (List Key × Addr × T0)}(r:KT H kvs xs)(k:List Key){b:Addr}{y:V}{u:T0}(d:H b=some (.tup (k.map kV)))(a:bT y u) :
  KT H (ng kvs k y) (storedH xs k b u):=by
 have e:(kvs.any λc=>decide (c.1=k))=(atKey xs k).isSome:=by
  rw[zj,(r.val k).isSome_eq,Option.isSome_map]
 unfold ng storedH;rw[e]
 by_cases q:(atKey xs k).isSome=true
 ·rw[z4 q,z4 q];exact r.repl k a
 ·rw[z5 q,z5 q];exact Paired.snoc r ⟨rfl,d,a⟩
theorem KT.keeps {H H':Hp}{kvs:List (List Key × V)}{xs:List (List Key × Addr × T0)}(r:KT H kvs xs)(ht:∀b ys,H b=some (.tup ys)->H' b=some (.tup ys)):KT H' kvs xs :=
 Paired.mapP r λ_ _ z=>⟨z.1,ht _ _ z.2.1,z.2.2⟩
variable {kvs:List (Key × V)}
section
variable {P:T5} {w:T6} {H:Hp} {h:Heap} {a:Addr}
theorem KU {u:HO}(ok:HOk P w H h)(e:Rd H a u):eJ P w H h a u:=e.ok ok
theorem GO (ok:HOk P w H h)(e:Rd H a (.dK kvs)):kvs.length<=sizeLine/\(a == sysModules)=false/\∃b,KV kvs b/\h.DictOf (dH P w) a b :=
 show eJ P w H h a (.dK kvs) from KU ok e
theorem GP (ok:HOk P w H h)(e:H a=some (.dK kvs)):kvs.length<=sizeLine/\(a == sysModules)=false/\∃b,KV kvs b/\h.DictOf (dH P w) a b:=GO ok (.inl e)
theorem Bt {b:List Key}(ok:HOk P w H h)(e:H a=some (.tup (b.map kV))):(tupleKind (dH P w)).is h b a:=by
 obtain⟨_,c,r,o,f,g,n,d⟩:=(show eJ P w H h a (.tup (b.map kV)) from ok a _ e);exact⟨o,c.toArray,n,f,g,d,by simpa using vL r⟩
theorem GQ {kvs:List (List Key × V)}(ok:HOk P w H h)(e:Rd H a (.dT kvs)):kvs.length<=sizeLine/\(a == sysModules)=false/\
  ∃xs,KT H kvs xs/\h.DictOfH (tupleKind (dH P w)) a xs:=by
 obtain⟨z,y,xs,r,o,es,j,d,k,i,g,f⟩:=(show eJ P w H h a (.dT kvs) from KU ok e);refine⟨z,y,xs,r,o,es,j,d,k,i,g,λx b => ?_,f⟩;have c:∀{l:List (List Key × V)} {m:List (List Key × Addr × T0)},KT H l m->∀x∈m,(tupleKind (dH P w)).is h x.1 x.2.1:=by
  intro l m q
  induction q with
  | nil=>intro x b;exact nomatch b
  | @cons p q ps qs hq t ih =>
   intro x b;rcases Y6.mp b with e|b
   ·subst e
    exact Bt ok (by rw[<-hq.1];exact hq.2.1)
   ·exact ih x b
 exact c r x b
theorem Op {kvs:List (List Key × V)}(ok:HOk P w H h)(e:H a=some (.dT kvs)):kvs.length<=sizeLine/\(a == sysModules)=false/\
  ∃xs,KT H kvs xs/\h.DictOfH (tupleKind (dH P w)) a xs:=GQ ok (.inl e)
end
def GR (H:Hp) (a:Addr) (y:V) (r:Option V):Prop :=
 (∃kvs k,Rd H a (.dK kvs)/\y=kV k/\r=kT kvs k)\/∃kvs k b,Rd H a (.dT kvs)/\y=.ref b/\H b=some (.tup (k.map kV))/\r=kT kvs k
def GS (H:Hp) (a:Addr) (y v:V) (H':Hp):Prop :=
 (∃kvs k,H a=some (.dK kvs)/\y=kV k/\kvs.length < sizeLine/\H'=upd H a (.dK (ng kvs k v)))\/
 ∃kvs k b,H a=some (.dT kvs)/\y=.ref b/\H b=some (.tup (k.map kV))/\kvs.length < sizeLine/\H'=upd H a (.dT (ng kvs k v))
theorem GR.k {H:Hp}{a:Addr}{k:Key}(e:H a=some (.dK kvs)):GR H a (kV k) (kT kvs k):=.inl ⟨kvs,k,.inl e,rfl,rfl⟩
theorem GS.k {H:Hp}{a:Addr}{k:Key}{v:V}(e:H a=some (.dK kvs))(b:kvs.length < sizeLine):GS H a (kV k) v (upd H a (.dK (ng kvs k v))):=.inl ⟨kvs,k,e,rfl,b,rfl⟩
section
variable {X:Cx} {pins:List (Addr × Obj)} {σ:St} {H:Hp} {s:T3} {a:Addr} {y v:V} {u r:T0} {o:Option V} {A:T4} {E:T0->T3->Prop}
theorem Inv.big (I:Inv X pins σ H s):sysModules < s.heap.objs.size:=by
 have h:mainGlobals < s.heap.objs.size:=(I.mod.glob.keeps I.bk).lt;exact Z6 (by decide) h
theorem PC {Q:T0->T3->Prop}(j:A.units + 1 < cLine)(I:Inv X pins σ H s)(g:GR H a y o)(f:bT y u)(h:∀i,Inv X pins σ H i->Q (.bool o.isSome) i) :
  wpAny (model X.prog X.w) A (compareOp .In u (.ref a)) Q E s:=by
 rcases g with ⟨kvs,k,e,ey,l⟩|⟨kvs,k,b,e,ey,eb,l⟩
 ·subst ey
  obtain⟨z,hd,m,c,d⟩:=GO I.hok e;refine wpAny_in_of (GN f) hd d.mapOf ?_;rw[<-(c.val k).isSome_eq,<-l];exact h _ (I.tok _)
 ·subst ey
  cases (show u=Value.ref b from f);obtain⟨z,hd,xs,c,d⟩:=GQ I.hok e;refine wpAny_in_heap (tupleKind_room_in1 j) (Bt I.hok eb) hd d ?_;have q:=(c.val k).isSome_eq;rw[Option.isSome_map]at q;rw[<-q,<-l];exact h _ (I.tok _)
theorem Di {h':Heap}{t':Nat}{ob:HO}(I:Inv X pins σ H s)(c:Mut (H a))(d:Heap.SameBut a s.heap h')(he:∃q,h'.get? a=some q)(new:eJ X.prog X.w (upd H a ob) h' a ob) :
  Inv X pins σ (upd H a ob) { s with heap:=h',toks:=t' } :=
 I.write (x:=a) (e:=a) c (.inl rfl) (λb q f z=>(d.2 b f).trans z) he new
theorem Ml {P:T5}{w:T6}{H':Hp}{h':Heap}{vs:List (Key × T0)}(z:kvs.length<=sizeLine)(hd:(a == sysModules)=false)(rel:KV kvs vs)(b:h'.DictOf (dH P w) a vs) :
  eJ P w H' h' a (.dK kvs):=⟨z,hd,vs,rel,b⟩
theorem Ew {H':Hp}{Q:Unit->T3->Prop}(K:A.units + 1 < cLine)(I:Inv X pins σ H s)(g:GS H a y v H')(x:bT y u)(t:bT v r)(h:∀B,Inv X pins σ H' B->Q () B) :
  wpAny (model X.prog X.w) A (setItem (.ref a) u r) Q E s:=by
 rcases g with ⟨kvs,k,e,ey,l,eH⟩|⟨kvs,k,b,e,ey,eb,l,eH⟩
 ·subst ey eH
  obtain⟨z,hd,C,d,p⟩:=GP I.hok e;have m:C.length<=sizeLine:=by rw[<-d.length];exact z
  have j:(ng kvs k v).length<=sizeLine:=by have:=qL kvs k v;omega
  refine wpAny_setItem_pairs (hsz:=m) (GN x) p λh' f n=>h _ ?_;have F:∃q,h'.get? a=some q:=let ⟨q,_,_,i,_⟩:=f;⟨q,i⟩;exact Di I (by rw[e];exact True.intro) n F (Ml j hd (d.put k t) f)
 ·subst ey eH
  cases (show u=Value.ref b from x);obtain⟨z,hd,xs,d,p⟩:=Op I.hok e;have m:xs.length<=sizeLine:=by rw[<-Paired.length d];exact z
  have j:(ng kvs k v).length<=sizeLine:=by have:=qL kvs k v;omega
  refine wpAny_setItem_heap (hsz:=m) (tupleKind_room_in1 K) (Bt I.hok eb) p λh' f n=>h _ ?_;obtain⟨q,es,L,i,M,J,G,_,D⟩:=f;refine Di I (by rw[e];exact True.intro) n ⟨q,i⟩ ⟨j,hd,_,(d.put k eb t).keeps λc ys w => ?_,q,es,L,i,M,J,G,D⟩;rw[aM (KM w e (λz=>nomatch z))];exact w
end
section
variable {X:Cx} {pins:List (Addr × Obj)} {σ:St} {H:Hp} {s:T3} {a:Addr} {kvs:List (Key × V)} {k:Key} {u:T0} {A:T4} {E:T0->T3->Prop}
end
def Mm (i:Expr):Prop:=∀ov iv,subscripted i false ov iv=operate [ov,iv] (getItem ov iv)
theorem Dj {prog:T5}{w:T6}{A:T4}{E:T0->T3->Prop}{s:T3}{env:Env}{value a:Expr}{pos:Pos}{T id:String}{Q:T0->T3->Prop}
  (k:typeLookup (.type T) "__getitem__" = pure (some (.builtin id))) (l:Mm a)
  (h:wpAny (model prog w) A (eval value env) (λo e => wpAny (model prog w) A (eval a env) (λi b => b.TypeIs o T/\wpAny (model prog w) A (getItem o i) Q E b) E e) E s) :
  wpAny (model prog w) A (eval (.Subscript value a pos) env) Q E s:=by
 refine Subscript_ (WX h (λo e f => WX f (λi b c => ?_) λ_ _ x=>x) λ_ _ x=>x);obtain⟨j,c⟩:=c;unfold subscriptTail;refine z0 ?_;rw[getitemInPython_of_ne j.not_modules];refine z0 (wpAny_specialOf j k ?_);have fin:wpAny (model prog w) A (subscripted a false o i) (λr d => wpAny (model prog w) A (letTemporaryGo value o r >>= λ_=>pure r) Q E d) E b := by
  rw[l o i];exact wpAny_operating (WX c (λr d g => z0 (wpAny_letTemporaryGo (x4 g))) λ_ _ x=>x)
 first
  | exact x4 (z0 fin)
  | exact z0 (x4 (z0 fin))
  | exact z0 fin
section
variable {X:Cx} {o i e value:Expr} {pos pos' tpos:Pos} {td ty tv:TE}
end
theorem GT {P:T5} {w:T6} {H:Hp} (h:Heap) (a:sysModules < h.objs.size):eJ P w H (h.push { cls:=.type "dict",data:=.dict #[] }) h.objs.size (.dK []) :=
 ⟨YG _,beq_eq_false_iff_ne.mpr (YN (ZN a)),[],.nil,Heap.DictOf.new h⟩
def Mn:TE:=λ_ H Q=>∀p,H p=none->Q (.ref p) (upd H p (.dK []))
section
variable {X:Cx} {pos:Pos}
theorem GU:PE X (.Dict [] [] pos) Mn:=λpins s σ H Q I h =>
 wpAny_Dict_empty ⟨.ref s.heap.objs.size,_,I.laid (a:=s.heap.objs.size) (o:=.dK []) (t':=s.toks) (λ_ _ q=>ZH _ q) (ZL _) (GT s.heap I.big),rfl,h _ (I.hok.fresh (ZL _))⟩
end
structure M1 (X:Cx) (o:Expr) (m:Str) (apos:Pos) (e:Expr) (cpos:Pos):Prop where
 base:attributeBase o m X.env (eval o X.env)=eval o X.env
 few:((backTo cpos (starEach [e] X.env)).all (λx => !x.1) && (backToKw cpos (keywordEach [] X.env)).all (λx=>x.1.isSome)
  && decide (([e] : List Expr).length + ([] : List Keyword).length + (if ([] : List Keyword).isEmpty then 0 else 1) < 30))=true
 line:(apos.endLine == cpos.line)=true
 trees:backTo cpos (starEach [e] X.env)=[(false,eval e X.env)]
structure M2 (X:Cx) (o:Expr) (m:Str) (apos:Pos) (e f:Expr) (cpos:Pos):Prop where
 base:attributeBase o m X.env (eval o X.env)=eval o X.env
 few:((backTo cpos (starEach [e,f] X.env)).all (λx => !x.1) && (backToKw cpos (keywordEach [] X.env)).all (λx=>x.1.isSome)
  && decide (([e,f] : List Expr).length + ([] : List Keyword).length + (if ([] : List Keyword).isEmpty then 0 else 1) < 30))=true
 line:(apos.endLine == cpos.line)=true
 trees:backTo cpos (starEach [e,f] X.env)=[(false,eval e X.env),(false,eval f X.env)]
def IsD (H:Hp) (a:Addr):Prop:=(∃kvs,Rd H a (.dK kvs))\/∃kvs,Rd H a (.dT kvs)
theorem Mp {X:Cx}{pins:List (Addr × Obj)}{σ:St}{H:Hp}{s:T3}{a:Addr}(I:Inv X pins σ H s)(d:IsD H a) :
  s.TypeIs (.ref a) "dict"/\(∀b,Value.ref a=.ref b->∃c,s.heap.get? b=some c/\c.dict=none)/\(a == sysModules)=false:=by
 rcases d with ⟨kvs,e⟩|⟨kvs,e⟩
 ·obtain⟨_,hd,i,_,f⟩:=GO I.hok e
  refine⟨f.typeIs,λb q => ?_,hd⟩;cases q;obtain⟨c,_,_,g,h,_⟩:=f;exact⟨c,g,h.2.1⟩
 ·obtain⟨_,hd,xs,_,f⟩:=GQ I.hok e
  refine⟨f.typeIs,λb q => ?_,hd⟩;cases q;obtain⟨c,_,_,g,h,_⟩:=f;exact⟨c,g,h.2.1⟩
section
variable {X:Cx} {pins:List (Addr × Obj)} {σ:St} {H:Hp} {s:T3} {a:Addr} {y d:V} {u r:T0} {o:Option V} {A:T4} {E:T0->T3->Prop}
end
section
variable {X:Cx} {o e f:Expr} {apos cpos:Pos} {td ty tx:TE}
end
section
variable {X:Cx} {pins:List (Addr × Obj)} {σ:St} {H:Hp} {s:T3} {a:Addr} {kvs:List (Key × V)} {A:T4} {E:T0->T3->Prop}
end
section
variable {X:Cx} {pins:List (Addr × Obj)} {σ:St} {H:Hp} {s:T3} {a:Addr} {y:V} {u:T0} {A:T4} {E:T0->T3->Prop}
end
end L2
namespace Fm
open PySem PySem.Spec L2 PySem.W PyProof.Rows
section
variable {K:ZX} {ρ:List Addr} {H:Hp} {hd:Hd}
theorem RH.allocD (r:RH K ρ H hd){p:Addr}{l:List (Int × D)}(hp:RC K ρ H (.dct l) p)(j:p ∉ ρ):RH K (ρ ++ [p]) H (hd++[.dct l]):=by
 have k:Kp ρ H (ρ ++ [p]) H:=⟨λn a e=>by rw[ZC (List.getElem?_eq_some_iff.mp e).1];exact e,λ_ _ h=>h,λ_ _ _ h=>h,λ_ _ h=>h⟩;refine⟨by simp[r.len],?_,λn c a d f => ?_⟩
 ·rw[List.nodup_append]
  exact⟨r.nd,by simp,λa m b i=>by simp at i;subst i;intro e;subst e;exact j m⟩
 ·by_cases hlt:n < hd.length
  ·rw[ZC hlt]at d
   rw[ZC (by rw[r.len];exact hlt)]at f;exact(r.cel n c a d f).mono k rfl
  ·have o:n=hd.length:=by
    have:=(List.getElem?_eq_some_iff.mp d).1;simp at this;omega
   subst o;simp at d;subst d;rw[<-r.len]at f;simp at f;subst f;obtain⟨g,q1,q2,q3⟩:=hp;exact⟨g,q1,q2,q3.mono k⟩
theorem RH.writeD (r:RH K ρ H hd){n:Nat}{p:Addr}{l:List (Int × D)}{kvs:List (Key × V)}(hp : ρ[n]? = some p)(d:n < hd.length)(h1:kvs.map (·.1)=l.map (λp=>(Sum.inl p.1:Key)))(f:RDs K ρ H (l.map (·.2)) (kvs.map (·.2))):RH K ρ (upd H p (.dK kvs)) (hd.set n (.dct l)):=by
 have k:Kp ρ H ρ (upd H p (.dK kvs)):=by
  have b:=ZK hp;refine⟨λ_ _ h=>h,λa i e => ?_,λa o u e => ?_,λa g e => ?_⟩
  ·rw[aM (λz=>r.noTup e (by rw[z];exact b))];exact e
  ·rw[aM (λz=>r.noFrz e (by rw[z];exact b))];exact e
  ·rw[aM (λz=>r.noExt e (by rw[z];exact b))];exact e
 refine⟨by simp[r.len],r.nd,λm c a q1 q2 => ?_⟩
 by_cases e:n=m
 ·subst e
  rw[List.getElem?_set_self d]at q1;cases q1;rw[hp]at q2;cases q2;exact⟨kvs,bp,h1,f.mono k⟩
 ·rw[ZP e]at q1
  have ne:a≠p:=λz=>by
   subst z;exact e (n6 r.nd hp q2)
  exact(r.cel m c a q1 q2).mono k (aM ne)
theorem zk (k:Int):∀{l:List (Int × D)} {a:List (Key × V)},a.map (·.1)=l.map (λp=>(Sum.inl p.1:Key))->RDs K ρ H (l.map (·.2)) (a.map (·.2))->
  (sM l k=none/\kT a (Sum.inl k)=none)\/∃d v,sM l k=some d/\kT a (Sum.inl k)=some v/\RD K ρ H d v
 | [],[],_,_=>.inl ⟨rfl,rfl⟩
 | [],_ :: _,h,_=>by simp at h
 | _ :: _,[],h,_=>by simp at h
 | (j,d) :: l,(kk,v) :: a,h1,h2=>by
  simp only[x3,List.cons.injEq]at h1;simp only[x3,RDs]at h2;obtain⟨m,n,e,q1,q2⟩:=h2;cases e;obtain⟨i,c⟩:=h1;subst i
  by_cases e:j=k
  ·subst e
   exact .inr ⟨d,v,by simp[sM],by simp[kT],q1⟩
  ·have g:=zk k c q2
   have f:sM ((j,d) :: l) k=sM l k:=by simp[sM,e]
   have b:kT ((Sum.inl j,v) :: a) (Sum.inl k)=kT a (Sum.inl k):=ow (λz=>e (by cases z;rfl));rw[f,b];exact g
theorem zm (k:Int):∀{l:List (Int × D)} {a:List (Key × V)},a.map (·.1)=l.map (λp=>(Sum.inl p.1:Key))->(a.any λe=>decide (e.1=(Sum.inl k:Key)))=l.any λp=>decide (p.1=k)
 | [],[],_=>rfl
 | [],_ :: _,h=>by simp at h
 | _ :: _,[],h=>by simp at h
 | (j,d) :: l,(kk,v) :: a,h1=>by
  simp only[x3,List.cons.injEq]at h1;obtain⟨b,c⟩:=h1;subst b;simp[zm k c]
theorem zn (k:Int){c:D}{f:V}(m:RD K ρ H c f):∀{l:List (Int × D)} {a:List (Key × V)},a.map (·.1)=l.map (λp=>(Sum.inl p.1:Key))->RDs K ρ H (l.map (·.2)) (a.map (·.2))->
  (a.map λb=>if b.1=(Sum.inl k:Key) then (b.1,f) else b).map (·.1)=(l.map λp=>if p.1=k then (p.1,c) else p).map (λp=>(Sum.inl p.1:Key))/\RDs K ρ H ((l.map λp=>if p.1=k then (p.1,c) else p).map (·.2)) ((a.map λb=>if b.1=(Sum.inl k:Key) then (b.1,f) else b).map (·.2))
 | [],[],_,_=>⟨rfl,RDs.nil⟩
 | [],_ :: _,h,_=>by simp at h
 | _ :: _,[],h,_=>by simp at h
 | (j,d) :: l,(kk,v) :: a,h1,h2=>by
  simp only[x3,List.cons.injEq]at h1;simp only[x3,RDs]at h2;obtain⟨r,s,e,q1,q2⟩:=h2;cases e;obtain⟨o,n⟩:=h1;subst o;obtain⟨i,g⟩:=zn k m n q2
  by_cases e:j=k
  ·subst e
   simp only[x3,YP];exact⟨by rw[i],RDs.cons m g⟩
  ·have q : ¬(Sum.inl j:Key)=Sum.inl k:=λz=>e (by cases z;rfl)
   simp only[x3,z5 e,z5 q];exact⟨by rw[i],RDs.cons q1 g⟩
theorem GV (k:Int){a:D}{b:V}(c:RD K ρ H a b){l:List (Int × D)}{kvs:List (Key × V)}(h1:kvs.map (·.1)=l.map (λp=>(Sum.inl p.1:Key)))(d:RDs K ρ H (l.map (·.2)) (kvs.map (·.2))) :
  (ng kvs (Sum.inl k) b).map (·.1)=(Bs l k a).map (λp=>(Sum.inl p.1:Key))/\RDs K ρ H ((Bs l k a).map (·.2)) ((ng kvs (Sum.inl k) b).map (·.2)):=by
 unfold ng Bs;rw[zm k h1];split
 ·exact zn k c h1 d
 ·refine⟨by simp[h1],?_⟩
  rw[ZR,ZR];exact RDs.append d (RDs.cons c RDs.nil)
end
section
variable {X:Cx} {pos p:Pos}
theorem Jx:ME X (.Dict [] [] pos) Dh:=by
 refine PE.imp GU λσ H Q ⟨ρ,σd,hd,b,f⟩=>λq c => ?_;have e:=cv (o:=HO.dK []) c;have d:=b.hp.free c;have g:=(b.hp.same e).allocD (p:=q) (l:=[]) ⟨[],bp,rfl,RDs.nil⟩ d;have ex:Ext ρ H (ρ ++ [q]) (upd H q (.dK [])):=Ext.alloc c;refine bx.at (R:=rD X.K) (a:=.ref hd.length) f ex (b.ext ex g) ?_;simp only[rD,RD];refine⟨q,?_,rfl⟩;rw[<-b.hp.len];simp
def Oq (K:ZX):R2:=λx y H Q=>∃a o,y=.ref a/\GR H a x o/\Q (.bl o.isSome) H
theorem Mq (c:X.A.units + 1 < cLine):OpR X (compareOp .In) (Oq X.K):=by
 intro pins s σ H x y v u Q I d b h;obtain⟨a,o,rfl,g,q⟩:=h;obtain rfl:u=Value.ref a:=b;exact PC c I g d λf e=>⟨.bl o.isSome,H,e,rfl,q⟩
theorem Mr {K:ZX}:Og K GM (Oq K):=by
 intro ρ H σd hd σ d k v w Q j h f b;cases d<;>try exact b.elim
 cases k<;>try exact b.elim
 rename_i i n
 simp only[GM]at b;simp only[RD]at h f;subst h;obtain⟨a,m,rfl⟩:=f;cases c:hd[n]? with
 | none=>rw[c]at b;exact b.elim
 | some cell =>
  rw[c]at b;cases cell with
  | lst l=>exact b.elim
  | dcT _=>exact b.elim
  | ob _=>exact b.elim
  | dct l =>
   simp only at b;obtain⟨g,q1,q2,q3⟩:=j.hp.cel n _ a c m;refine⟨a,kT g (Sum.inl i),rfl,GR.k (k:=Sum.inl i) q1,?_⟩;have e:(kT g (Sum.inl i)).isSome=(sM l i).isSome:=by
    rcases zk i q2 q3 with ⟨e1,e2⟩|⟨d,v,e1,e2,_⟩<;>rw[e1,e2]<;>rfl
   rw[e];exact b.here j (by simp only[rD,RD])
def Os:V->V->V->Hp->(Hp->Prop)->Prop:=λo i v H Q=>∃a H',o=.ref a/\GS H a i v H'/\Q H'
theorem GW (e:X.A.units + 1 < cLine):LC X Os:=by
 intro pins s σ H o i v ov j u Q I b c d h;obtain⟨a,H',rfl,g,q⟩:=h;obtain rfl:ov=Value.ref a:=b;exact Ew e I g c d λk f=>⟨H',f,q⟩
theorem Dk {o i e:Expr}{D z E:EF}{p2:Pos}(Q:X.A.units + 1 < cLine)(he:ME X e E)(G:ME X o D)(hi:ME X i z)(P:swapsWithSole [.Subscript o i p2] e pos.line X.env=pure false:=by rfl)(hw:swappedStores [.Subscript o i p2] e X.env=pure none:=by rfl)
  (h1:(assignEach [.Subscript o i p2] X.env).map (·.2)=[assign (.Subscript o i p2) X.env]:=by rfl) (q:∀v,assign (.Subscript o i p2) X.env v=(do
   let ov <-holding [v] (eval o X.env)
   let iv <-holding [v,ov] (eval i X.env)
   standAt p2
   holding [v,ov,iv] (setItem ov iv v)
   release [v,ov,iv] []):=by intro _;rfl):MS X (.Assign [.Subscript o i p2] e pos) (zi D z E):=by
 refine PS.imp (F8 he (F7 G hi (GW Q) q) P hw h1) λEn σ H ⟨ρ,σd,hd,U,p⟩=>⟨ρ,σd,hd,U,(cD.outE p).imp λv H1 ⟨t,d,w,Z,m,N,S⟩ => ?_⟩;refine⟨t,σd,w,m,(cD.outE S).imp λW Y ⟨u,T,y,L,b,K,p2⟩ => ?_⟩;refine⟨u,σd,y,b,(cD.outE p2).imp λV C ⟨g,O,h,A,f,B,p3⟩ => ?_⟩;have x:=(N.mono (m.hp.kp L)).mono (b.hp.kp A);have s:=K.mono (b.hp.kp A);cases T with
 | ref n =>
  cases O with
  | int j =>
   simp only at p3;cases c:h[n]? with
   | none=>rw[c]at p3;exact p3.elim
   | some cell =>
    rw[c]at p3;cases cell with
    | lst l=>exact p3.elim
    | dcT _=>exact p3.elim
    | ob _=>exact p3.elim
    | dct l =>
     simp only at p3;split at p3
     ·rename_i hz
      simp only[RD]at s B;subst B;obtain⟨a,q,rfl⟩:=s;obtain⟨r,q1,q2,q3⟩:=f.hp.cel n _ a c q;have I:r.length=l.length:=by have:=congrArg List.length q2;simpa using this
      refine⟨a,_,rfl,GS.k (k:=Sum.inl j) q1 (by rw[I];exact v3 hz (by rw[YK];decide)),?_⟩;have F:n < h.length:=(List.getElem?_eq_some_iff.mp c).1;obtain⟨J,M⟩:=GV j x q2 q3;have R:=f.hp.writeD q F J M;have ex:Ext g C g (upd C a (.dK (ng r (Sum.inl j) v))):=Ext.write (ZK q);exact p3 σ _ g ex (f.ext ex R)
     ·exact p3.elim
  | _=>exact p3.elim
 | _=>exact p3.elim
end
section
variable {X:Cx} {pos p:Pos}
theorem vM {P:T5}{w:T6}{H:Hp}{h h':Heap}(hok:HOk P w H h)(e:∀b o xs,H b=some (.tup xs)->h.get? b=some o->h'.get? b=some o):∀{f:List V} {j:List (List Int)} {c:List T0},dG H f j->bi f c->(j.all λx => !x.isEmpty)=true->
  ∃fs,KatTups h' c fs/\fs.length=c.length/\∀v∈fs,∃i t,v=Value.int i t
 | _,_,_,.nil,.nil,_=>⟨[],.nil,rfl,λv d=>by simp at d⟩
 | _,_,_,.cons (a:=a) (r:=r) ha t,.cons rv rt,hne=>by
  simp only[X1,Z3,Bool.not_eq_true']at hne;obtain⟨fs,l,s,q⟩:=vM hok e t rt hne.2;obtain⟨z,g,m,o,k,hc,n,hd⟩:=hok a _ ha;cases r with
  | nil=>simp at hne
  | cons i r =>
   cases m with
   | cons q0 qr =>
    rename_i u us
    obtain⟨tk,rfl⟩:=Df q0;cases rv;refine⟨.int i tk :: fs,KatTups.cons (e a o _ ha k) hc hd (by simp) l,by simp[s],λv d => ?_⟩;rcases Y6.mp d with rfl|d
    ·exact⟨i,tk,rfl⟩
    ·exact q v d
theorem Ms {pins:List (Addr × Obj)}{σ:L2.St}{H:Hp}{s:T3}{B:Addr}{vs:List V}{rs:List (List Int)}{A:T4}{E:T0->T3->Prop}{Q:T0->T3->Prop}(I:Inv X pins σ H s)(G:H B=some (.lst vs))(b9:vs.length < 64)(rv:dG H vs rs)(nd:rs.Nodup)(b4:(rs.all λx => !x.isEmpty)=true)
  (q:∀d s',dG H d (dM rs)->Inv X pins σ (upd H B (.lst d)) s'->Q .none s'):wpAny (model X.prog X.w) A (call (.builtin "list.sort") [.ref B]) Q E s:=by
 obtain⟨hz,a,n0,R,ho⟩:=I.hok B _ G;have P:a.length=vs.length:=R.length.symm;obtain⟨m,hm,_⟩:=id I.loc;have nL:∀b u,H b=some u->b≠X.env.locals:=λb u e z=>by rw[z,I.free]at e;cases e
 have BL:=nL B _ G;have a3:∀d,d=vs->upd H B (.lst d)=H:=λd e=>by
  subst e;funext b
  by_cases z:b=B
  ·subst z;rw[bp,G]
  ·rw[aM z]
 have after:∀(K:Heap) (f:List T0) (d:List V) (c t':Nat),dG H d (dM rs)->bi d f->d.length<=sizeLine->K.get? B=some (PySem.W.listOf f.toArray c)->(∀b o,b≠X.env.locals->b≠B->s.heap.get? b=some o->K.get? b=some o)->K.Ns X.env.locals m->Inv X pins σ (upd H B (.lst d)) { s with heap:=K,toks:=t' }:=λK f d c t' a1 U a0 a4 l Y=>by
  have I2:L2.Inv X pins σ (upd H B (.lst d)) { s with heap:=K,gens:=s.gens,drawn:=s.drawn,toks:=t' }:=by
   refine I.step (g':=s.gens) (d':=s.drawn) (t':=t') (ch:=[]) (λ_ z=>nomatch z) (λb o D _ _ e n=>l b o D (λz=>by subst z;rw[G]at n;cases n) e) (λb o D _ _ e n=>⟨o.slots,l b o D (λz=>by subst z;rw[G]at n;cases n) e⟩) (λb o _ e n=>by rw[aM (λz=>by subst z;rw[G]at n;cases n)];exact n) (λb o _ e => ?_)
    (λb ys e=>by rw[aM (λz=>by subst z;rw[G]at e;cases e)];exact e) (λb o u e=>by rw[aM (λz=>by subst z;rw[G]at e;cases e)];exact e) (λb ps e=>⟨#[],by rw[aM (λz=>by subst z;rw[G]at e;cases e),e];simp⟩) (λm' b6=>by rw[Mh b6 hm];exact Y) (λb u e => ?_) I.bare
   ·by_cases D:b=X.env.locals
    ·obtain⟨o',_,_,Z,_⟩:=Y
     rw[D];exact⟨o',Z⟩
    ·by_cases F:b=B
     ·subst F;exact⟨_,a4⟩
     ·exact⟨o,l b o D F e⟩
   ·by_cases D:b=B
    ·subst D
     rw[bp]at e;cases e;exact⟨a0,f,c,U,a4⟩
    ·rw[aM D]at e
     refine(I.hok b u e).stay (λc v hc z => ?_) (λc z=>by rw[aM (λy=>by subst y;rw[G]at z;cases z)];exact z) λc ys z=>by rw[aM (λy=>by subst y;rw[G]at z;cases z)];exact z
     rcases hc with w|w
     ·subst w;exact l c v (nL c _ e) D z
     ·exact l c v (nL c _ w) (λy=>by subst y;rw[G]at w;cases w) z
  exact I2
 by_cases K:a.length < 2
 ·have hs:dM rs=rs:=by
   have:rs.length < 2:=by rw[<-rv.length];omega
   match rs,this with
   | [],_=>rfl
   | [_],_=>rfl
  have ha:B < s.heap.objs.size:=ZI ho;have Z:s.heap.get? B=some (seqObj "list" a.toArray n0):=ho;refine YW slot_list_sort ⟨_,ho,rfl⟩ entry_list_sort (Br Z K ⟨_,rfl,?_⟩) (args_list_sort _);obtain⟨e1,b3⟩ : ∃e1,(s.heap.update B (Obj.mapSeq λ_ => #[])).get? B=some (seqObj "list" #[] e1):=⟨_,get?_update_seq Z (λ_ => #[])⟩;have b5:(((s.heap.update B (Obj.mapSeq λ_ => #[])).push (seqObj "tuple" a.toArray 0)).push (seqObj "list" #[] 0)).get? B=some (seqObj "list" #[] e1):=by
   rw[Heap.get?_push_ne _ _ _ (by rw[size_push',X5];exact ZN (ZZ ha)),Heap.get?_push_ne _ _ _ (by rw[X5];exact ZN ha)];exact b3
  have S:∀b o,b≠B->s.heap.get? b=some o->(sortedHeap s.heap B a a.toArray).get? b=some o:=λb o D e=>by
   have a6:b < s.heap.objs.size:=ZI e;unfold sortedHeap;rw[Heap.get?_update_ne _ _ _ _ D,Heap.get?_push_ne _ _ _ (by rw[size_push',X5];exact ZN (ZZ a6)),Heap.get?_push_ne _ _ _ (by rw[X5];exact ZN a6),Heap.get?_update_ne _ _ _ _ D];exact e
  have Y:(sortedHeap s.heap B a a.toArray).Ns X.env.locals m:=by
   obtain⟨o',es,ep,h1,r⟩:=hm;exact⟨o',es,ep,S _ _ (YN BL) h1,r⟩
  refine q vs _ (by rw[hs];exact rv) (after _ a vs _ s.toks (by rw[hs];exact rv) R hz (get?_update_seq b5 _) (λb o _ D e=>S b o D e) Y)
 ·have N0:News (Att.noObjs s.heap) X.env.locals s.heap ((B,PySem.W.listOf a.toArray n0) :: Att.ledger s.heap X.env.locals B):=λ⟨b,o⟩ D=>by
   rcases Y6.mp D with e|D
   ·cases e
    exact⟨ho,BL,Att.noObjs_get _ _⟩
   ·obtain⟨n1,n2,e⟩:=Att.mem_ledger.mp D
    exact⟨e,n1,Att.noObjs_get _ _⟩
  have a9:∀q∈Att.ledger s.heap X.env.locals B,q.1≠B:=λ⟨b,o⟩ hq=>(Att.mem_ledger.mp hq).2.1;refine kat_lsort (vs:=a) (Att.fr_all hm) N0 (UpdF.head a9) (by simp) (by omega) (by omega) λe1 h' F' N' => ?_;have a5:∀b o,b≠X.env.locals->b≠B->s.heap.get? b=some o->(b,o)∈Att.ledger s.heap X.env.locals B:=λb o D F e=>Att.mem_ledger.mpr ⟨D,F,e⟩;have L:∀b o,b≠X.env.locals->b≠B->s.heap.get? b=some o->h'.get? b=some o:=λb o D F e=>(N' (b,o) (ZW _ (a5 b o D F e))).1;obtain⟨fs,t1,t2,t3⟩:=vM I.hok (h':=h') (λb o xs D e=>L b o (nL b _ D) (λz=>by subst z;rw[G]at D;cases D) e) rv R b4;refine kat_kind (s:={ s with heap:=h' }) (T:=.type "int") t1 (by omega) (λv hv => ?_) rfl ?_
  ·obtain⟨i,t,rfl⟩:=t3 v hv
   exact Looks.of_pure rfl
  ·have hT:(Value.type "int" != Value.type "tuple")=true:=by decide
   rw[hT];have c0:rs.length=a.length:=by rw[<-rv.length,P]
   have b0:∀i j,i < a.length->j < a.length->i≠j->rs.getD i []≠rs.getD j []:=λi j hi hj N z=>by
    have e1:rs.getD i [] = rs[i]'(by omega):=by simp[List.getD,show i < rs.length by omega]
    have e2:rs.getD j [] = rs[j]'(by omega):=by simp[List.getD,show j < rs.length by omega]
    rw[e1,e2]at z;exact N ((List.getElem_inj nd).mp z)
   have O:Ord (λi j=>Fm.lexLt (rs.getD i []) (rs.getD j [])) a.length:=⟨λi j _ _ h=>qK h,λi j k _ _ _ h h'=>jd h h',λi j hi hj N h=>pw (b0 i j hi hj N) h⟩;refine zh O (λi j hi hj C hC => ?_) (by omega) λJ g b8 => ?_
   ·unfold kas_ask
    have a8:∀i,i < a.length->∃b,a.getD i Value.none=.ref b/\∃(o:Obj) (zs:List T0) (n:Nat),h'.get? b=some o/\o.data=.seq zs.toArray n/\IntsAre zs (rs.getD i []):=λi hi=>by
     have hv:vs[i]? = some (vs[i]'(by omega)):=by simp[show i < vs.length by omega]
     obtain⟨b,e1,e2⟩:=rv.get hv;obtain⟨u,hu,ru⟩:=R.get hv;rw[e1]at ru;cases (show u=Value.ref b from ru);obtain⟨z,zs,r0,o,ho,hc,n,hd⟩:=I.hok b _ e2;exact⟨b,by simp[List.getD,hu],o,zs,n,L b o (nL b _ e2) (λz=>by subst z;rw[G]at e2;cases e2) ho,hd,mV r0⟩
    obtain⟨b1,x1,o1,z1,n1,y1,d1,i1⟩:=a8 i hi;obtain⟨b2,x2,o2,z2,n2,y2,d2,i2⟩:=a8 j hj;rw[x1,x2];refine kat_lt (s:={ s with heap:=h' }) y1 d1 y2 d2 ?_;have:=Mg (prog:=X.prog) (w:=X.w) (A:=A.in1) (s:={ s with heap:=h' }) (Q:=C) (rs.getD i []) (rs.getD j []) 0 i1 i2 hC;simpa using this
   ·have a2:J.toList.Perm (List.range a.length):=by simpa using Array.perm_iff_toList_perm.mp g.pm
    have a7:∀i∈J.toList,i < vs.length:=λi hi=>by
     have:=a2.mem_iff.mp hi;rw[<-P];simpa using this
    obtain⟨d,W⟩ : ∃d,d=J.toList.map λi=>vs.getD i .non:=⟨_,rfl⟩;obtain⟨f,M⟩ : ∃f,f=J.toList.map λi=>a.getD i Value.none:=⟨_,rfl⟩;have a1:dG H d (dM rs):=by
     have e:(J.toList.map λi=>rs.getD i [])=dM rs:=by
      refine Ev (?_:List.Perm _ _) ?_ (ly nd)
      ·refine((a2.map λi=>rs.getD i []).trans ?_).trans (jt rs).symm
       have:((List.range a.length).map λi=>rs.getD i [])=rs:=by
        apply XD;intro i
        by_cases hi:i < rs.length
        ·have:i < a.length:=by omega
         simp[List.getD,hi,this]
        ·have : ¬i < a.length:=by omega
         simp[hi,this]
       rw[this]
      ·rw[XE]
       rw[List.pairwise_iff_getElem];intro i j hi hj N;have s1:=b8 i j N (by rw[<-g.sz];simpa using hj);have g1:J.getD i 0=J.toList[i]:=by simp[Array.getD,show i < J.size by simpa using hi]
       have g2:J.getD j 0=J.toList[j]:=by simp[Array.getD,show j < J.size by simpa using hj]
       rw[g1,g2]at s1;exact s1
     have:=rv.pick J.toList a7;rw[e,<-W]at this;exact this
    have U:bi d f:=by rw[W,M];exact bi.pick R J.toList a7
    have a0:d.length<=sizeLine:=by
     have l1:d.length=a.length:=by rw[W,ZA,a2.length_eq,ZO]
     rw[l1,P];exact hz
    rw[<-M];refine KasFin.intro F' N' (UpdF.head a9) λK c F2 N2 => ?_;have b7:K.get? B=some (PySem.W.listOf f.toArray c):=(N2 (B,_) (ZV ..)).1;have l:∀b o,b≠X.env.locals->b≠B->s.heap.get? b=some o->K.get? b=some o:=λb o D F e=>(N2 (b,o) (ZW _ (a5 b o D F e))).1;exact q d _ a1 (after K f d c s.toks a1 U a0 b7 l F2.ns)
end
section
variable {X:Cx} {pos p:Pos}
def xj (p d:Addr):Heap->Prop:=λh=>h.get? p=some { cls:=.type "dict_items",data:=.fields #[.ref d] }
def Mt (td:TE):TE:=λσ H Q=>td σ H λx H1=>∃a kvs,x=.ref a/\H1 a=some (.dK kvs)/\∀p,H1 p=none->Q (.ref p) (upd H1 p (.ext (xj p a)))
theorem GX {o:Expr} {n:TE} {apos c:Pos} (r:PE X o n) (d:attributeBase o "items" X.env (eval o X.env)=eval o X.env:=by rfl) (g:(apos.endLine == c.line)=true:=by rfl) :
  PE X (.Call (.Attribute o "items" apos) [] [] c) (Mt n):=by
 intro pins s σ H Q I h;refine wpAny_Call_method0_late d g (thn (r pins s σ H _ I h) λv j ⟨x,H1,i,u,a,l,ex,e,q1⟩ => ?_);subst ex;obtain rfl:v=Value.ref a:=u;obtain⟨m,y,A⟩:=Mp i (.inl ⟨l,.inl e⟩);obtain⟨_,hd,t,_,w⟩:=GP i.hok e;refine⟨"dict", "dict.items",PySem.F.plainAttrs_dict,PySem.F.slot_dict_items,PySem.F.type_dict_items,m,y,Calls.callWith_builtin rfl (PySem.evalArgs_none ?_)⟩;refine call_meetsIn PySem.F.slot_dict_items m PySem.F.entry_dict_items (PySem.F.args_dict_items_1 _) (meets_dict_items (dH X.prog X.w) a hd) ⟨⟨t,w⟩,?_⟩;refine⟨.ref j.heap.objs.size,_,i.laid (t':=j.toks) (o:=.ext (xj j.heap.objs.size a)) (λb C q=>ZH _ q) (ZL _) ⟨ZJ _ rfl,⟨_,ZJ _ rfl⟩,λz B f k=>k _ f⟩,rfl,q1 _ (i.hok.fresh (ZL _))⟩
theorem GY {pins:List (Addr × Obj)}{σ:L2.St}{H H':Hp}{s:T3}{h':Heap}{t':Nat}(I:Inv X pins σ H s)(keep:∀b o,s.heap.get? b=some o->h'.get? b=some o)(d:jr H H')(a:∀b,b < s.heap.objs.size->H' b=H b)(new:∀b u,s.heap.objs.size<=b->H' b=some u->eJ X.prog X.w H' h' b u/\∀c,u ≠ .own c):Inv X pins σ H' { s with heap:=h',toks:=t' }:=by
 have g:L2.Inv X pins σ H' { s with heap:=h',gens:=s.gens,drawn:=s.drawn,toks:=t' }:=by
  refine I.step (g':=s.gens) (d':=s.drawn) (t':=t') (ch:=[]) (λ_ z=>nomatch z) (λb o _ _ _ e _=>keep b o e) (λb o _ _ _ e _=>⟨o.slots,keep b o e⟩) (λb o _ e n=>by rw[a b (ZI e)];exact n) (λb o _ e=>⟨o,keep b o e⟩)
   (λb ys e=>d _ _ e) (λb o u e=>d _ _ e) (λb ps e=>⟨#[],by rw[d _ _ e];simp⟩) (λm h => ?_) (λb u e => ?_) I.bare
  ·obtain⟨o',es,i,f,r⟩:=h
   exact⟨o',es,i,keep _ _ f,r⟩
  ·by_cases hb:b < s.heap.objs.size
   ·rw[a b hb]at e
    refine(I.hok b u e).stay (λc v hc z=>keep c v z) (λc z=>d _ _ z) λc ys z=>d _ _ z
   ·exact(new b u (WI hb) e).1
 exact g
def ov:List Addr->List (List Int)->Hp->Hp
 | a :: as,r :: rs,H=>upd (ov as rs H) a (.tup (r.map V.int))
 | _,_,H=>H
theorem Dl {b:Addr}{H:Hp}:∀{c:List Addr} {d:List (List Int)},b∉c->ov c d H b=H b
 | [],_,_=>rfl
 | a :: c,[],_=>rfl
 | a :: c,r :: d,h=>by
  have e:b≠a:=λz=>h (by simp[z]);have f:b∉c:=λz=>h (by simp[z]);show upd _ _ _ b=_;rw[aM e,Dl f]
theorem GZ {H:Hp}:∀{c:List Addr} {d:List (List Int)} {j:Nat} {a:Addr} {r:List Int},c.Nodup->c[j]? = some a->d[j]? = some r->ov c d H a=some (.tup (r.map V.int))
 | [],_,_,_,_,_,e,_=>by simp at e
 | a :: c,[],_,_,_,_,_,e=>by simp at e
 | a :: c,r :: d,0,_,_,_,e,e'=>by simp at e e';subst e e';exact bp
 | a :: c,r :: d,j + 1,b,q,nd,e,e'=>by
  obtain⟨g,f⟩:=List.nodup_cons.mp nd;have e:c[j]? = some b:=by simpa using e
  have h:b≠a:=λz=>g (by rw[<-z];exact ZK e);show upd _ _ _ b=_;rw[aM h];exact GZ f e (by simpa using e')
theorem dG.mono {H H':Hp}(k:∀a xs,H a=some (.tup xs)->H' a=some (.tup xs)):∀{c:List V} {b:List (List Int)},dG H c b->dG H' c b
 | _,_,.nil=>.nil
 | _,_,.cons h t=>.cons (k _ _ h) (dG.mono k t)
theorem Dm {H':Hp}:∀{c:List Addr} {d:List (List Int)},c.length=d.length->(∀(j:Nat) a r,c[j]? = some a->d[j]? = some r->H' a=some (.tup (r.map V.int)))->dG H' (c.map V.ref) d
 | [],[],_,_=>.nil
 | [],_ :: _,h,_=>by simp at h
 | _ :: _,[],h,_=>by simp at h
 | a :: c,r :: d,h,f=>.cons (f 0 a r rfl rfl) (Dm (by simpa using h) λj b q e g=>f (j + 1) b q (by simpa using e) (by simpa using g))
def Mu:List V->Hp->VK->Prop:=λxs H Q=>∃(p a:Addr) (ps:List (Int × Int)),xs=[.ref p]/\H p=some (.ext (xj p a))/\H a=some (.dK (ps.map λq=>((Sum.inl q.1:Key),V.int q.2)))/\ps.length < 64/\(ps.map λq=>[q.1,q.2]).Nodup/\
 ∀H' q vs',jr H H'->H q=none->H' q=some (.lst vs')->dG H' vs' (dM (ps.map λq=>[q.1,q.2]))->Q (.ref q) H'
theorem Ot {κ : Type}{kvs:List (κ × V)}{vs:List (κ × T0)}(r:KV kvs vs):∀{j:Nat} {k : κ} {x:T0} {a : κ} {v:V},vs[j]? = some (k,x)->kvs[j]? = some (a,v)->a=k/\bT v x:=by
 induction r with
 | nil=>intro j k x a v e;simp at e
 | cons h t ih =>
  intro j k x a v e b;cases j with
  | zero=>simp at e b;subst e b;exact h
  | succ j=>exact ih (by simpa using e) (by simpa using b)
theorem Bu (hc:X.calm=true):gf X (.builtin "sorted") Mu:=by
 intro pins s σ H xs us Q I r h;obtain⟨p,a,ps,rfl,hp,ha,U,nd,q⟩:=h;obtain⟨u,rfl,ru⟩:=bi.one r;cases (show u=Value.ref p from ru);obtain⟨f,i⟩ : ∃f,f=ps.map λq=>[q.1,q.2]:=⟨_,rfl⟩;rw[<-i]at nd q;have C:xj p a s.heap:=(I.hok p _ hp).1;obtain⟨hz,_,L,E,dd⟩:=GP I.hok ha;have D:L.length=ps.length:=by rw[<-E.length];simp
 obtain⟨o,es,ep,d1,d2⟩:=id dd;have Y:s.heap.DictAt (dH X.prog X.w) a L ep:=⟨o,es,d1,d2⟩;refine Calls.call_function_entry kind_sorted plain_sorted entry_sorted (args_sorted1 _) ?_;unfold Builtin.«sorted»;refine z0 (m:=checkCount "sorted" 1 1 _) (x4 ?_);refine z0 (kdx_collect (A:=X.A.in1) (knd:=dH X.prog X.w) (kvs:=L) (ep:=ep) (I.ok.hd hc) ⟨_,C,rfl,rfl⟩ Y (by rw[D,YK];omega) λh' tk d hk B K => ?_);have y:d.Nodup:=K.rise.imp λh=>ZN h;have Z:d.length=f.length:=by rw[B,D,i];simp
 have g:∀b∈d,s.heap.objs.size<=b:=λb v=>YS (K.above b v);have J:jr H (ov d f H):=λb u e=>by
  rw[Dl]
  ·exact e
  ·intro z
   exact absurd (I.hok.lt e) (Nat.not_lt.mpr (g b z))
 have O:Inv X pins σ (ov d f H) { s with heap:=h',toks:=tk }:=by
  refine GY I hk J (λb v=>Dl λz=>absurd v (Nat.not_lt.mpr (g b z))) λb u v e => ?_
  by_cases hm:b∈d
  ·obtain⟨j,S⟩:=List.getElem?_of_mem hm
   have a0:j < d.length:=(List.getElem?_eq_some_iff.mp S).1;obtain⟨R,k,x,e1,e2,e3⟩:=K.pairs j b S;obtain⟨w,F⟩ : ∃w,ps[j]? = some w:=⟨ps[j]'(by omega),by simp[show j < ps.length by omega]⟩;have hr:f[j]? = some [w.1,w.2]:=by rw[i,ZQ,F];rfl
   rw[GZ y S hr]at e;cases e;refine⟨?_,λc z=>by cases z⟩;obtain⟨M,rx⟩:=Ot E e1 (show (ps.map λq=>((Sum.inl q.1:Key),V.int q.2))[j]? = some (Sum.inl w.1,V.int w.2) by rw[ZQ,F];rfl);obtain⟨t,rfl⟩:=Df rx;subst M;have:∃t',R=Value.int w.1 t':=Value.isInt_shape e2;obtain⟨t',rfl⟩:=this;exact⟨by simp[YK],[_,_],.cons ⟨t',rfl⟩ (.cons ⟨t,rfl⟩ .nil),_,e3,rfl,_,rfl⟩
  ·rw[Dl hm]at e
   exact absurd (I.hok.lt e) (Nat.not_lt.mpr v)
 refine z0 (wpAny_newList ?_ (by rw[ZA,B,D,YK];omega));have T:bi (d.map V.ref) (d.map Value.ref):=by
  clear B K y Z g J O q
  induction d with
  | nil=>exact .nil
  | cons a d ih=>exact .cons rfl ih
 have I2:Inv X pins σ (upd (ov d f H) h'.objs.size (.lst (d.map V.ref))) { s with heap:=h'.push { cls:=.type "list",data:=.seq (d.map Value.ref).toArray },toks:=tk }:=O.lnew (t':=tk) T (by rw[ZA,B,D,YK];omega);have G:ov d f H h'.objs.size=none:=O.hok.fresh (ZL _);have N:jr (ov d f H) (upd (ov d f H) h'.objs.size (.lst (d.map V.ref))):=cv G;have n:dG (upd (ov d f H) h'.objs.size (.lst (d.map V.ref))) (d.map V.ref) f:=Dm Z λj b r e e'=>N _ _ (GZ y e e');have P:(f.all λx => !x.isEmpty)=true:=by rw[i,List.all_map,List.all_eq_true];intro q _;rfl
 refine z0 (Y5 (Ms (A:=X.A.in1) I2 bp (by rw[ZA,B,D];exact U) n nd P λl s' W I3=>x4 ⟨_,rfl,?_⟩));have uu:upd (upd (ov d f H) h'.objs.size (.lst (d.map V.ref))) h'.objs.size (.lst l)=upd (ov d f H) h'.objs.size (.lst l):=by
  funext b
  by_cases z:b=h'.objs.size
  ·subst z;rw[bp,bp]
  ·rw[aM z,aM z,aM z]
 rw[uu]at I3;refine⟨.ref h'.objs.size,_,I3,rfl,q _ _ l (λb u e=>cv G _ _ (J _ _ e)) ?_ bp ?_⟩
 ·cases e:H h'.objs.size with
  | none=>rfl
  | some u=>rw[J _ _ e]at G;cases G
 ·refine W.mono λb ys e => ?_
  have v:b≠h'.objs.size:=λz=>by subst z;rw[bp]at e;cases e
  rw[aM v]at e ⊢;exact e
theorem qM:∀{l:List (Int × D)} {r:List (List Int)},fX l=some r->∃ps:List (Int × Int),l=ps.map (λq=>(q.1,D.int q.2))/\r=ps.map λq=>[q.1,q.2]
 | [],r,e=>by simp only[fX]at e;cases e;exact⟨[],rfl,rfl⟩
 | (k,d) :: l,r,e=>by
  cases d<;>simp only[fX]at e<;>try (cases e;done)
  rename_i v
  cases c:fX l with
  | none=>rw[c]at e;cases e
  | some r' =>
   rw[c]at e;cases e;obtain⟨ps,rfl,rfl⟩:=qM c;exact⟨(k,v) :: ps,rfl,rfl⟩
theorem G0 {K:ZX}{ρ:List Addr}{H:Hp}:∀{ps:List (Int × Int)} {a:List (Key × V)},a.map (·.1)=(ps.map λq=>(q.1,D.int q.2)).map (λp=>(Sum.inl p.1:Key))->RDs K ρ H ((ps.map λq=>(q.1,D.int q.2)).map (·.2)) (a.map (·.2))->a=ps.map λq=>((Sum.inl q.1:Key),V.int q.2)
 | [],[],_,_=>rfl
 | [],_ :: _,h,_=>by simp at h
 | _ :: _,[],h,_=>by simp at h
 | (j,d) :: ps,(kk,v) :: a,h1,h2=>by
  simp only[x3,List.cons.injEq]at h1;simp only[x3,RDs]at h2;obtain⟨f,g,e,q1,q2⟩:=h2;cases e;obtain⟨b,c⟩:=h1;subst b;simp only[RD]at q1;subst q1;rw[G0 c q2];rfl
theorem G1 {o:Expr} {w:EF} {apos g:Pos} (hc:X.calm=true) (K:Gl X "sorted") (hm:X.mg "sorted" = none) (I:ME X o w)
  (F:starEach [.Call (.Attribute o "items" apos) [] [] g] X.env=(false,eval (.Call (.Attribute o "items" apos) [] [] g) X.env) :: starEach [] X.env:=by rfl)
  (j:attributeBase o "items" X.env (eval o X.env)=eval o X.env:=by rfl) (k:(apos.endLine == g.line)=true:=by rfl) :
  MF X (.Call (.Name "sorted" p) [.Call (.Attribute o "items" apos) [] [] g] [] pos) (pz w):=by
 refine PE.imp (kY (Bu hc) K hm (by decide +kernel) (cw (GX I j k) dI F) (he:=F)) λσ H Q ⟨ρ,σd,hd,R,f⟩=>⟨ρ,σd,hd,R,?_⟩;unfold pz at f;cases e:w σd hd with
 | exc x h'=>rw[e]at f;exact f
 | bad=>rw[e]at f;exact f
 | ok d hd1 =>
  rw[e]at f;simp only[ay]at f;intro v H1 s G i E;cases d<;>try exact f.elim
  rename_i n
  simp only at f;simp only[rD,RD]at E;obtain⟨a,O,rfl⟩:=E;cases c:hd1[n]? with
  | none=>rw[c]at f;exact f.elim
  | some cell =>
   rw[c]at f;cases cell with
   | lst l=>exact f.elim
   | dcT _=>exact f.elim
   | ob _=>exact f.elim
   | dct l =>
    simp only at f;cases c2:fX l with
    | none=>rw[c2]at f;exact f.elim
    | some r =>
     rw[c2]at f;simp only at f;split at f
     ·rename_i hz
      obtain⟨ps,rfl,rfl⟩:=qM c2;obtain⟨P,q1,q2,q3⟩:=i.hp.cel n _ a c O;have J:=G0 q2 q3;subst J;refine⟨a,_,rfl,q1,λq D=>⟨q,a,ps,rfl,bp,by rw[aM (bO q1 D)];exact q1,by simpa using hz.1,hz.2,λH' C t N h A y => ?_⟩⟩;have m:jr H1 H':=λb u L=>N _ _ (cv D _ _ L);have M:C≠q:=λz=>by subst z;rw[bp]at h;cases h
      rw[aM M]at h;have B:=i.hp.free h;exact f C t H' s (G.trans (Ext.same m)) (i.same m) (G.fresh h B) A B y.rds
     ·exact f.elim
end
end Fm
namespace Fm
@[simp] def sO (la:LF) (b:EF):LF:=λσ h=>(la σ h).bind λl h=>(b σ h).bind λy h=>match y with
 | .int n=>if 0<=n/\n<=1000/\l.length * n.toNat<=1000 then .ok (List.replicate n.toNat l).flatten h else .bad
 | _=>.bad
@[simp] def PD (x i e:EF):EF:=λσ h=>(x σ h).bind λp h=>match p with
 | .ref n=>match h[n]? with
  | some (.lst _)=>(i σ h).bind λj h=>(e σ h).bind λd h=>match j with
   | .int k=>match h[n]? with
    | some (.lst l)=>if 0<=k/\k<=l.length/\l.length < SZ then .ok .non (h.set n (.lst (l.take k.toNat++[d]++l.drop k.toNat))) else .bad
    | _=>.bad
   | _=>.bad
  | _=>.bad
 | _=>.bad
@[simp] def Bv (a b:EF):EF:=λσ h=>(a σ h).bind λx h=>(b σ h).bind λy h=>match x,y with
 | .int i,.int j=>.ok (.int (if j > i then j else i)) h
 | _,_=>.bad
@[simp] def vN (a b:EF):LF:=λσ h=>(a σ h).bind λx h=>(b σ h).bind λy h=>match x,y with
 | .ref n,.ref m=>match h[n]?,h[m]? with
  | some (.lst l),some (.lst k)=>if l.length + k.length<=SZ then .ok (l++k) h else .bad
  | _,_=>.bad
 | _,_=>.bad
end Fm
namespace Fm
open PySem PySem.Spec L2 PySem.W PyProof.Rows
section
variable {X:Cx} {pos p:Pos}
theorem vO {K:ZX}{ρ:List Addr}{H:Hp}:∀{l:List D} {a:List V} {bs:List Bool},RDs K ρ H l a->kO l=some bs->a=bs.map V.bl
 | [],_,is,r,e=>by simp only[kO]at e;cases e;simp only[RDs]at r;subst r;rfl
 | d :: l,_,is,r,e=>by
  simp only[RDs]at r;obtain⟨v,a,rfl,b,f⟩:=r;cases d<;>simp only[kO]at e<;>try (cases e;done)
  rename_i i
  cases c:kO l with
  | none=>rw[c]at e;cases e
  | some js =>
   rw[c]at e;cases e;simp only[RD]at b;rw[b,vO f c];rfl
theorem G2 {bs:List Bool}{a:List T0}(r:bi (bs.map V.bl) a):∀(i:Nat) (v:T0),a.toArray[i]? = some v->v=.bool (bs.getD i false):=by
 intro i v e;have b:a[i]? = some v:=by simpa using e
 have hi:i < bs.length:=by
  have:=(List.getElem?_eq_some_iff.mp b).1;have:=r.length;simp at this;omega
 obtain⟨u,c,d⟩:=r.get (i:=i) (x:=V.bl bs[i]) (by simp[hi]);rw[c]at b;cases b;rw[show v=Value.bool bs[i] from d];simp[List.getD,hi]
theorem G3 (bs:List Bool):(List.range bs.length).all (λi=>bs.getD i false)=bs.all id:=by
 have:bs=(List.range bs.length).map λi=>bs.getD i false:=by
  apply XD;intro i
  by_cases hi:i < bs.length<;>simp[List.getD,hi]
 conv=>rhs;rw[this]
 rw[List.all_map];rfl
theorem Ex (hc:X.calm=true):gf X (.builtin "all") (λxs H Q=>∃(p:Addr) (bs:List Bool),xs=[.ref p]/\(SqL X.K H p (bs.map V.bl)\/SqT X.K H p (bs.map V.bl))/\Q (.bl (bs.all id)) H):=by
 intro pins s σ H xs B Q I r q;obtain⟨p,bs,rfl,j,q⟩:=q;obtain⟨u,rfl,y⟩:=bi.one r;cases (show u=Value.ref p from y);have t:(X.A.in1).handled=none:=I.ok.hd hc;have l:∀(a:List T0),bi (bs.map V.bl) a->TruthOf X.prog X.w X.A.in1 (λi v=>a.toArray[i]? = some v) (λi=>bs.getD i false):=λa g i v s Q E z A=>by
  rw[G2 g i v z];exact Y9 A
 have fin:∀{m:Obj} {h':Heap} {tk:Nat} {n:Nat},n=bs.length->(∀b o,b∉[s.heap.objs.size]->(s.heap.push m).get? b=some o->h'.get? b=some o)->EP X pins σ Q (.bool ((List.range n).all λi=>bs.getD i false)) { s with heap:=h',toks:=tk }:=by
  intro m h' tk n w h;subst w;refine⟨.bl (bs.all id),H,I.kept (t':=tk) λb o e=>h b o (by simp;exact ZN (ZI e)) (ZH _ e),by rw[G3];rfl,q⟩
 rcases j with j|j
 ·obtain⟨a,g,k,x⟩:=I.list j
  have f:s.heap.IsList p a.toArray:=k.isList;have d:p < s.heap.objs.size:=by obtain⟨o,c,_⟩:=f;exact ZI c
  refine PySem.call_all_walk (PySem.wpAny_pyIter_list f ?_);refine⟨s.heap.objs.size,_,[s.heap.objs.size],_,_,_,λi=>bs.getD i false,rfl,PySem.Walks.list t s.heap.objs.size p (ZN d) a.toArray,⟨⟨_,ZJ _ rfl,rfl,rfl⟩,?_⟩,l a g,?_⟩
  ·obtain⟨o,c,r⟩:=f;exact⟨o,ZH _ c,r⟩
  ·exact λh' tk h=>fin (by simpa using g.length.symm) h
 ·obtain⟨a,g,k,x⟩:=I.tuple j
  have f:s.heap.IsTuple p a.toArray:=k;have d:p < s.heap.objs.size:=by obtain⟨o,c,_⟩:=f;exact ZI c
  refine PySem.call_all_walk (PySem.wpAny_pyIter_tuple f ?_);refine⟨s.heap.objs.size,_,[s.heap.objs.size],_,_,_,λi=>bs.getD i false,rfl,PySem.Walks.tuple t s.heap.objs.size p (ZN d) a.toArray,⟨⟨_,ZJ _ rfl,rfl,rfl⟩,?_⟩,l a g,?_⟩
  ·obtain⟨o,c,r⟩:=f;exact⟨o,ZH _ c,r⟩
  ·exact λh' tk h=>fin (by simpa using g.length.symm) h
theorem sP {a:Expr} {f:LF} (hc:X.calm=true) (i:Gl X "all") (hm:X.mg "all" = none) (j:MQ X a f) (d:starEach [a] X.env=(false,eval a X.env) :: starEach [] X.env:=by rfl):ME X (.Call (.Name "all" p) [a] [] pos) (sE f):=by
 refine w6 (g:=λl h=>match kO l with|some bs=>.ok (.bl (bs.all id)) h|none=>.bad) (y8 (Ex hc) i hm (by decide +kernel) (he:=d)) j (λρ H σd hd σ l q n Q k m b p => ?_) d;cases c:kO l with
 | none=>simp only[c]at p;exact p.elim
 | some is =>
  simp only[c]at p;have e:=vO b c;subst e;exact⟨q,is,rfl,m.imp id SqT.of,p.here k (by simp only[rD,RD])⟩
theorem G4 {a b:Expr}{o:LF}{r:EF}(D:MF X a o)(z:ME X b r):MF X (.BinOp a .Mult b pos) (sO o r):=by
 refine PE.imp (Gb LY D z) λσ H Q ⟨ρ,σd,hd,G,c⟩=>⟨ρ,σd,hd,G,?_⟩;unfold sO at c;cases e:o σd hd with
 | exc x h'=>rw[e]at c;exact c
 | bad=>rw[e]at c;exact c
 | ok l hd1 =>
  rw[e]at c;simp only[ay]at c;intro q s H1 i E g F A u h;refine⟨i,σd,hd1,g,?_⟩;cases e2:r σd hd1 with
  | exc x h'=>rw[e2]at c;exact c
  | bad=>rw[e2]at c;exact c
  | ok y hd2 =>
   rw[e2]at c;simp only[ay]at c;intro v C w d j t;cases y<;>try exact c.elim
   rename_i n
   simp only at c;split at c
   ·rename_i hz
    simp only[rD,RD]at t;subst t;have k:C q=some (.lst s):=d.frame q _ A u;have f:=h.mono (g.hp.kp d);refine⟨q,n,s,rfl,rfl,k,by omega,by omega,by rw[<-h.length,YK];omega,λB m => ?_⟩;exact y7.mk c (E.trans d) j (RDs.rep f n.toNat) B m
   ·exact c.elim
theorem Mv {a b:Expr} {fa n:EF} (hc:X.calm=true) (o:Gl X "max") (hm:X.mg "max" = none) (s:ME X a fa) (r:ME X b n) (m:starEach [a,b] X.env=(false,eval a X.env) :: starEach [b] X.env:=by rfl) (h:starEach [b] X.env=(false,eval b X.env) :: starEach [] X.env:=by rfl) (hpl:(backTo pos (starEach [b] X.env)).any (λx=>x.1)=false:=by rfl):ME X (.Call (.Name "max" p) [a,b] [] pos) (Bv fa n):=by
 refine PE.imp (kY (Eg hc) o hm (by decide +kernel) (cw s (cw r dI h) m) (he:=m) (hpl:=hpl)) λσ H Q ⟨ρ,σd,hd,u,j⟩=>⟨ρ,σd,hd,u,?_⟩;unfold Bv at j;refine(bx.bind (R:=rD X.K) j).imp λv H1 ⟨e,d,i,B,g,l,t⟩ => ?_;refine⟨e,σd,i,g,(bx.bind (R:=rD X.K) t).imp λw A ⟨q,k,y,z,f,c,p2⟩ => ?_⟩;cases d<;>try exact p2.elim
 cases k<;>try exact p2.elim
 simp only[rD,RD]at l c;subst l c;exact⟨_,_,rfl,p2.here f (by simp only[rD,RD])⟩
theorem Jy {a b:Expr}{fa C:EF}(K:ME X a fa)(I:ME X b C):MF X (.BinOp a .Add b pos) (vN fa C):=by
 refine PE.imp (Gb LX K I) λσ H Q ⟨ρ,σd,hd,M,c⟩=>⟨ρ,σd,hd,M,?_⟩;unfold vN at c;cases e:fa σd hd with
 | exc x h'=>rw[e]at c;exact c
 | bad=>rw[e]at c;exact c
 | ok d hd1 =>
  rw[e]at c;simp only[ay]at c;intro v H1 o L y E;refine⟨o,σd,hd1,y,?_⟩;cases e2:C σd hd1 with
  | exc x h'=>rw[e2]at c;exact c
  | bad=>rw[e2]at c;exact c
  | ok k hd2 =>
   rw[e2]at c;simp only[ay]at c;intro w N G j h i;cases d with
   | ref n =>
    cases k with
    | ref m =>
     simp only at c;simp only[rD,RD]at E i;obtain⟨F,s,rfl⟩:=E;obtain⟨D,q,rfl⟩:=i;have r:=j.get s;cases c1:hd2[n]? with
     | none=>rw[c1]at c;exact c.elim
     | some x1 =>
      cases c2:hd2[m]? with
      | none=>rw[c1,c2]at c;cases x1<;>exact c.elim
      | some x2 =>
       rw[c1,c2]at c;cases x1 with
       | dct _=>exact c.elim
       | dcT _=>exact c.elim
       | ob _=>exact c.elim
       | lst l =>
        cases x2 with
        | dct _=>exact c.elim
        | dcT _=>exact c.elim
        | ob _=>exact c.elim
        | lst k =>
         simp only at c;split at c
         ·rename_i hz
          obtain⟨u,z,g⟩:=h.hp.cel n _ F c1 r;obtain⟨A,t,f⟩:=h.hp.cel m _ D c2 q;refine⟨F,D,u,A,rfl,rfl,z,t,by rw[<-g.length,<-f.length];exact rM hz,λJ B => ?_⟩;exact y7.mk c (L.trans j) h (RDs.append g f) J B
         ·exact c.elim
    | _=>exact c.elim
   | _=>exact c.elim
end
end Fm
namespace Fm
@[simp] def P5 (a:EF):EF:=λσ h=>(a σ h).bind λx h=>match x with | .int i=>.ok (.int i.natAbs) h|_=>.bad
@[simp] def Ey (a b:EF):EF:=λσ h=>(a σ h).bind λx h=>(b σ h).bind λy h=>match x,y with
 | .int i,.int j=>.ok (.int (if j < i then j else i)) h
 | _,_=>.bad
section
open Classical
def pA (G:Hd->Prop) (tg:GF) (b:SF):List D->SF
 | [],σ,h=>if G h then .nx σ h else .bad
 | x :: xs,σ,h=>if G h then match tg x σ with
   | some σ=>match b σ h with
    | .nx σ h=>pA G tg b xs σ h
    | .ct σ h=>pA G tg b xs σ h
    | .bk σ h=>.nx σ h
    | r=>r
   | none=>.bad
  else .bad
def Ou (l:List D):List D:=(List.range l.length).zip l |>.map λp=>.tup [.int (p.1:Nat),p.2]
end
end Fm
namespace Fm
open PySem PySem.Spec L2
open PyProof.Rows (Call_)
section
variable {prog:T5} {w:T6} {A:T4} {E:T0->T3->Prop} {s:T3} {z TI TO i1 i2 l1 l2:Addr} {k:Nat} {xs ys:Array T0} {a b:T0}
end
section
variable {prog:T5} {w:T6} {A:T4} {E:T0->T3->Prop} {s:T3}
end
theorem Jz {X:Cx}{pins:List (Addr × Obj)}{σ:St}{H:Hp}{s:T3}{h':Heap}{t':Nat}{ch:List Addr}(I:L2.Inv X pins σ H s)(k:∀b o,b∉ch->s.heap.get? b=some o->h'.get? b=some o)(a:∀b∈ch,se X pins H b) :
  L2.Inv X pins σ H { s with heap:=h',toks:=t' }:=by
 have d:∀b u,H b=some u->b∉ch:=λb u e z=>by rw[(a b z).1]at e;cases e
 refine I.step (g':=s.gens) (d':=s.drawn) (ch:=ch) (λb f=>⟨(a b f).2.2.2.1,(a b f).2.1,(a b f).2.2.2.2.1,(a b f).2.2.2.2.2⟩) (λb o _ _ hc e _=>k b o hc e) (λb o _ _ hc e _=>⟨o.slots,k b o hc e⟩) (λ_ _ _ _ n=>n)
  (λb o hc e=>⟨o,k b o hc e⟩) (λ_ _ e=>e) (λ_ _ _ e=>e) (λb ps e=>⟨#[],by rw[e];simp⟩) (λm h => ?_) (λb u e => ?_) I.bare
 ·obtain⟨o,es,i,g,r⟩:=h
  exact⟨o,es,i,k _ o (λz=>(a _ z).2.1 rfl) g,r⟩
 ·refine(I.hok b u e).stay (λc v hc q=>k c v ?_ q) (λ_ q=>q) λ_ _ q=>q
  rcases hc with z|z
  ·rw[z];exact d b u e
  ·exact d c _ z
section
variable {X:Cx} {pos p tp:Pos} {elts:List Expr} {tk:Nat}
end
end Fm
namespace Fm
open PySem PySem.Spec L2 PySem.W PyProof.Rows
section
variable {X:Cx} {pos p:Pos}
theorem Mw {a b:Expr} {fa n:EF} (hc:X.calm=true) (o:Gl X "min") (hm:X.mg "min" = none) (s:ME X a fa) (r:ME X b n) (m:starEach [a,b] X.env=(false,eval a X.env) :: starEach [b] X.env:=by rfl) (h:starEach [b] X.env=(false,eval b X.env) :: starEach [] X.env:=by rfl) (hpl:(backTo pos (starEach [b] X.env)).any (λx=>x.1)=false:=by rfl):ME X (.Call (.Name "min" p) [a,b] [] pos) (Ey fa n):=by
 refine PE.imp (kY (Eh hc) o hm (by decide +kernel) (cw s (cw r dI h) m) (he:=m) (hpl:=hpl)) λσ H Q ⟨ρ,σd,hd,u,j⟩=>⟨ρ,σd,hd,u,?_⟩;unfold Ey at j;refine(bx.bind (R:=rD X.K) j).imp λv H1 ⟨e,d,i,B,g,l,t⟩ => ?_;refine⟨e,σd,i,g,(bx.bind (R:=rD X.K) t).imp λw A ⟨q,k,y,z,f,c,p2⟩ => ?_⟩;cases d<;>try exact p2.elim
 cases k<;>try exact p2.elim
 simp only[rD,RD]at l c;subst l c;exact⟨_,_,rfl,p2.here f (by simp only[rD,RD])⟩
end
section
variable {prog:T5} {w:T6} {A:T4} {E:T0->T3->Prop} {s:T3}
end
section
variable {X:Cx} {pos p:Pos}
end
end Fm
namespace Fm
open PySem PySem.Spec L2
open AutoSeq1 (wpAny_loadPart')
open PyProof.Rows (Call_)
section
variable {X:Cx} {pos p tp:Pos} {elts:List Expr} {tk:Nat}
end
section
variable {X:Cx} {pos:Pos} {tg:Expr}
end
end Fm
namespace Fm
end Fm
namespace Fm
open PySem PySem.Spec L2
open PyProof.Rows (Call_)
section
variable {X:Cx} {pos p p2 pos2:Pos}
end
end Fm
namespace Fm
section
open Classical
@[simp] def PF (nl:Nat) (caps:List Nat) (a:EF) (tg:GF) (cs:List TF) (e:EF):LF:=λσ h=>match a σ h with
 | .ok (.ref n) h=>match h[n]? with
  | some (.lst l)=>fM (λh=>h[n]? = some (.lst l)) tg cs e (Ou l) (gp nl caps σ) h
  | _=>.bad
 | .ok _ _=>.bad
 | .exc x h=>.exc x h
 | .bad=>.bad
end
@[simp] def Dn (x:EF) (L:LF):EF:=λσ h=>(x σ h).bind λp h=>match p with
 | .ref n=>match h[n]? with
  | some (.lst _)=>(L σ h).bind λds h=>match h[n]? with
   | some (.lst l)=>if l.length + ds.length<=SZ then .ok .non (h.set n (.lst (l++ds))) else .bad
   | _=>.bad
  | _=>.bad
 | _=>.bad
end Fm
namespace Fm
open PySem PySem.Spec L2
section
variable {X:Cx} {pos:Pos} {scope:Scope} {own capn:List Str} {caps:List Nat}
end
section
variable {X:Cx}
theorem JA {o e:Expr} {J:EF} {L:LF} {apos f:Pos} (K:ME X o J) (he:MF X e L) (j:attributeBase o "extend" X.env (eval o X.env)=eval o X.env:=by rfl)
  (u:((backTo f (starEach [e] X.env)).all (λx => !x.1) && (backToKw f (keywordEach [] X.env)).all (λx=>x.1.isSome)
   && decide (([e] : List Expr).length + ([] : List Keyword).length + (if ([] : List Keyword).isEmpty then 0 else 1) < 30))=true:=by rfl)
  (k:(apos.endLine == f.line)=true:=by rfl) (I:starEach [e] X.env=(false,eval e X.env) :: starEach [] X.env:=by rfl) :
  ME X (.Call (.Attribute o "extend" apos) [e] [] f) (Dn J L):=by
 refine PE.imp (sB PySem.F.plainAttrs_list PySem.F.slot_list_extend PySem.F.type_list_extend vE K (cw he dI I) j u k I) λσ H Q ⟨ρ,σd,hd,S,B⟩=>⟨ρ,σd,hd,S,?_⟩;unfold Dn at B;refine(bx.bind (R:=rD X.K) B).imp λv H1 ⟨w,d,m,U,s,E,b⟩ => ?_;cases d<;>try exact b.elim
 rename_i n
 simp only[rD,RD]at E;obtain⟨a,G,rfl⟩:=E;simp only at b;cases c1:m[n]? with
 | none=>rw[c1]at b;exact b.elim
 | some cell1 =>
  rw[c1]at b;cases cell1 with
  | dct l=>exact b.elim
  | dcT l=>exact b.elim
  | ob l=>exact b.elim
  | lst l1 =>
   obtain⟨M,T,_⟩:=s.hp.cel n _ a c1 G;simp only at b;refine⟨.inl ⟨rfl,M,SqL.of T⟩,w,σd,m,s,?_⟩;cases c2:L σd m with
   | exc z h7=>rw[c2]at b;exact b.elim
   | bad=>rw[c2]at b;exact b.elim
   | ok ds hd2 =>
    rw[c2]at b;simp only[ay]at b;intro q C F r D i P N A p;cases c:hd2[n]? with
    | none=>rw[c]at b;exact b.elim
    | some cell =>
     rw[c]at b;cases cell with
     | dct l=>exact b.elim
     | dcT l=>exact b.elim
     | ob l=>exact b.elim
     | lst l =>
      simp only at b;split at b
      ·rename_i hz
       have h:=D.get G;obtain⟨t,y,g⟩:=i.hp.cel n _ a c h;refine⟨a,q,t,C,rfl,rfl,y,N,?_,?_⟩
       ·rw[<-g.length,<-p.length];exact ZM hz (by rw[YK];decide)
       ·have A:n < hd2.length:=(List.getElem?_eq_some_iff.mp c).1
        have O:=i.hp.write h A (RDs.append g p);have ex:Ext r F r (upd F a (.lst (t++C))):=Ext.write (ZK h);exact(b.ext D).at ex (i.ext ex O) (by simp only[rD,RD])
      ·exact b.elim
end
theorem lc {p q:Prop}(h:p\/q:=by first|exact .inl rfl|exact .inr rfl):p\/q:=h
theorem bK.a {X:Cx}{scope:Scope}{own capn:List Str}{caps:List Nat}(cp:bI X scope capn caps)(k:scope.kind=.function:=by rfl)(c:∀y∈scope.names,y.2 ≠ .cell:=by decide +kernel)(n:∀y∈scope.names,y.2=.local->scope.names.lookup y.1=some .local:=by decide +kernel)
  (f:gq X scope.names:=by repeat' (first|exact gq.nil|refine gq.cons (by first|exact(λ_=>.inl rfl)|exact(λ_=>.inr rfl)|(intro z;cases z;done)) ?_)):bK X scope own capn caps:=bK.mk' k c n f cp
section
variable {X:Cx} {pos p:Pos}
theorem ak {x:Str}{k j np:Nat}{F:Fn}{e:Expr}{es:List Expr}{r:LF}(hd:Def X.prog X.w X.K X.mg X.base x k np F)(f:fG j X.A)(g:MA X (e :: es) r)(i:k<=j:=by decide)(c:Gl X x:=by rfl)(a:∀ds h d h',F ds h=.ok d h'->ds.length=np:=by exact oq)
  (b:(x == ("__debug__" : Str))=false:=by decide) (he:starEach (e :: es) X.env=(false,eval e X.env) :: starEach es X.env:=by rfl) (hpl:(backTo pos (starEach es X.env)).any (·.1)=false:=by rfl) :
  ME X (.Call (.Name x p) (e :: es) [] pos) (am F r):=Jo hd (f.mono i) c g a b he hpl
end
def At (K:ZX) (n:Str) (st:Stmt):Prop:=∃(f:Addr) (od an:Option Addr) (sl:Array (Option T0)) (oc kV dc pm cd ct:T0),PySem.W.nsIn K mainGlobals n=some (some (.ref f))/\K.lookup f=some ⟨oc,od,.func (PySem.W.fnOf n n (eF st) (du st) (av st) .none kV dc pm an cd ct),sl⟩/\PySem.W.codeIn K cd n=true/\PySem.W.keepIn K (.ref f)=true
def Nb (K:ZX) (n:Str):Prop:=PySem.W.nsIn K mainGlobals n=some none
structure En (P:T5) (w:T6) (K:ZX) (mg:Str->Option T0) (base:Heap):Prop where
 ex:∃h:Heap,K.In h/\h.Ns mainGlobals mg
section
variable {P:T5} {w:T6} {K:ZX} {mg:Str->Option T0} {base h:Heap} {n:Str} {st:Stmt} {ps:List Str} {k np:Nat} {F:Fn}
theorem At.i {f:Addr}{c e:Option Addr}{d:Array (Option T0)}{b kV dc pm a ct:T0}(h1:PySem.W.nsIn K mainGlobals n=some (some (.ref f)))(j:K.lookup f=some ⟨b,c,.func (PySem.W.fnOf n n (eF st) (du st) (av st) .none kV dc pm e a ct),d⟩)(i:PySem.W.codeIn K a n=true)(g:PySem.W.keepIn K (.ref f)=true):At K n st:=⟨f,c,e,d,b,kV,dc,pm,a,ct,h1,j,i,g⟩
theorem At.out (a:At K n st)(X:K.In h)(G:h.Ns mainGlobals mg):∃f fd,mg n=some (.ref f)/\PySem.W.keepIn K (.ref f)=true/\Fun K n n st f fd:=by
 obtain⟨f,o,q,p,l,kV,i,g,j,m,d,e,c,b⟩:=a;exact⟨f,_,XI X G d,b,wX (st:=st) e c b⟩
theorem At.df (a:At K n st)(q:En P w K mg base)(ok:∀{f fd},Fun K n n st f fd->bC P w K mg base CX0 k f fd ps (spF K F np))
  (e:∀(kV b pm:T0) (g:Option Addr) (c ct:T0) (us:List T0),us.length=ps.length->bindArgs (PySem.W.fnOf n n (eF st) (du st) (av st) .none kV b pm g c ct) ⟨us,[]⟩ = pure (ps.zip us)):Def P w K mg base n k np F:=by
 obtain⟨h,X,G⟩:=q.ex;obtain⟨f,fd,d,i,U⟩:=a.out X G;exact Def.mk' d i (U.binds e) (ok U)
theorem mP {α : Type}{l:List α}{n:Nat}(h:l.length=n + 1):∃a t,l=a :: t/\t.length=n:=by
 cases l with
 | nil=>cases h
 | cons a t=>exact⟨a,t,rfl,Nat.succ.inj h⟩
theorem Do {α : Type}{l:List α}(h:l.length=0):l=[]:=List.length_eq_zero_iff.mp h
theorem At.df1 (a:At K n st)(q:En P w K mg base)(ok:∀{f fd},Fun K n n st f fd->bC P w K mg base CX0 k f fd ps (spF K F np))(e:ps.length=1:=by rfl)
  (g:∀(kV b pm:T0) (d:Option Addr) (c ct a:T0),bindArgs (PySem.W.fnOf n n (eF st) (du st) (av st) .none kV b pm d c ct) ⟨[a],[]⟩ = pure (ps.zip [a]):=by intros;rfl):Def P w K mg base n k np F :=
 a.df q ok λkV b pm d c ct j h=>by obtain⟨a,l,rfl,i⟩:=mP (h.trans e);cases Do i;exact g kV b pm d c ct a
theorem At.df2 (a:At K n st)(q:En P w K mg base)(ok:∀{f fd},Fun K n n st f fd->bC P w K mg base CX0 k f fd ps (spF K F np))(g:ps.length=2:=by rfl)
  (i:∀(kV c pm:T0) (e:Option Addr) (d ct a b:T0),bindArgs (PySem.W.fnOf n n (eF st) (du st) (av st) .none kV c pm e d ct) ⟨[a,b],[]⟩ = pure (ps.zip [a,b]):=by intros;rfl):Def P w K mg base n k np F :=
 a.df q ok λkV c pm e d ct m h=>by obtain⟨a,p,rfl,l⟩:=mP (h.trans g);obtain⟨b,o,rfl,j⟩:=mP (l);cases Do j;exact i kV c pm e d ct a b
theorem At.df3 (a:At K n st)(q:En P w K mg base)(ok:∀{f fd},Fun K n n st f fd->bC P w K mg base CX0 k f fd ps (spF K F np))(i:ps.length=3:=by rfl)
  (l:∀(kV d pm:T0) (g:Option Addr) (e ct a b c:T0),bindArgs (PySem.W.fnOf n n (eF st) (du st) (av st) .none kV d pm g e ct) ⟨[a,b,c],[]⟩ = pure (ps.zip [a,b,c]):=by intros;rfl):Def P w K mg base n k np F :=
 a.df q ok λkV d pm g e ct p h=>by obtain⟨a,t,rfl,o⟩:=mP (h.trans i);obtain⟨b,r,rfl,m⟩:=mP (o);obtain⟨c,s,rfl,j⟩:=mP (m);cases Do j;exact l kV d pm g e ct a b c
theorem At.df4 (a:At K n st)(q:En P w K mg base)(ok:∀{f fd},Fun K n n st f fd->bC P w K mg base CX0 k f fd ps (spF K F np))(j:ps.length=4:=by rfl)
  (m:∀(kV e pm:T0) (i:Option Addr) (g ct a b c d:T0),bindArgs (PySem.W.fnOf n n (eF st) (du st) (av st) .none kV e pm i g ct) ⟨[a,b,c,d],[]⟩ = pure (ps.zip [a,b,c,d]):=by intros;rfl):Def P w K mg base n k np F :=
 a.df q ok λkV e pm i g ct s h=>by obtain⟨a,v,rfl,r⟩:=mP (h.trans j);obtain⟨b,t,rfl,p⟩:=mP (r);obtain⟨c,u,rfl,l⟩:=mP (p);obtain⟨d,x,rfl,o⟩:=mP (l);cases Do o;exact m kV e pm i g ct a b c d
theorem fsc {N P:List Str}{a:Scope}(h1:a.kind=.function:=by rfl)(g:a.isCoroutine=false:=by rfl)(d:a.isGenerator=false:=by rfl)(b:N.Nodup:=by decide +kernel)(f:N.take P.length=P:=by rfl)(c:∀x∈P,a.names.lookup x=some .local\/a.names.lookup x=some .cell:=by decide +kernel)(e:∀y∈a.names,y.2 ≠ .free:=by decide +kernel):aA N P a:=⟨h1,g,d,b,f,c,e⟩
end
end Fm
namespace Fm
end Fm
namespace Fm
open PySem PySem.Spec L2 PySem.W PyProof.Rows
section
variable {prog:T5} {w:T6} {A:T4} {E:T0->T3->Prop} {s:T3}
end
section
variable {X:Cx} {pos p:Pos}
end
section
variable {X:Cx} {pos p:Pos}
end
section
variable {prog:T5} {w:T6} {A:T4} {E:T0->T3->Prop} {s:T3} {κ : Type} [DecidableEq κ] {knd:KeyKind prog w κ}
end
section
variable {prog:T5} {w:T6} {A:T4} {E:T0->T3->Prop} {s:T3}
end
section
variable {X:Cx} {pos p:Pos}
end
end Fm
namespace Fm
def noX {α : Type}:Res α->Res α
 | .exc _ _=>.bad
 | r=>r
def fPl {α : Type} (f:Sd->Hd->Res α):Sd->Hd->Res α := λσ h=>noX (f σ h)
def ltT:D->D->Option Bool
 | .tup xs,.tup ys=>match ig xs,ig ys with
  | some ns,some ms=>some (lexLt ns ms)
  | _,_=>none
 | _,_=>none
@[simp] def JB:O2:=λx y h=>match ltT x y with|some b=>.ok (.bl b) h|none=>.bad
end Fm
namespace Fm
open PySem PySem.Spec L2 PyProof.Rows
section
theorem zp:∀(a b:List Int),HT.lexLt a b=lexLt a b
 | [],[]=>rfl
 | [],_ :: _=>rfl
 | _ :: _,[]=>rfl
 | x :: xs,y :: ys=>by
  show (if x=y then HT.lexLt xs ys else decide (x < y))=_;rw[zp xs ys];rfl
theorem Mx {K:ZX}:Og K JB (Oa K):=by
 intro ρ H σd hd σ d k v w Q j g c p;unfold JB at p;cases d<;>try exact p.elim
 cases k<;>try exact p.elim
 rename_i xs ys
 simp only[ltT]at p;cases e1:ig xs with
 | none=>rw[e1]at p;exact p.elim
 | some ns =>
  cases e2:ig ys with
  | none=>rw[e1,e2]at p;exact p.elim
  | some ms =>
   rw[e1,e2]at p;simp only[RD]at g c;obtain⟨a,m,rfl,i,f⟩:=g;obtain⟨b,l,rfl,h,e⟩:=c;refine⟨a,b,ns,ms,rfl,rfl,SqT.of (by rw[i,oh f e1]),SqT.of (by rw[h,oh e e2]),?_⟩;rw[zp];exact p.here j (by simp only[rD,RD])
end
end Fm
namespace Fm
def vP (x:EF):EF:=λσ h=>(x σ h).bind λp h=>match p with
 | .ref n=>match h[n]? with|some (.ob [d])=>.ok d h|_=>.bad
 | _=>.bad
def zq (x e:EF):SF:=λσ h=>outE (e σ h) σ λd h=>outE (x σ h) σ λp h=>match p with
 | .ref n=>match h[n]? with|some (.ob [])=>.nx σ (h.set n (.ob [d]))|some (.ob [_])=>.nx σ (h.set n (.ob [d]))|_=>.bad
 | _=>.bad
def JC (F:Fn) (r:LF):EF:=λσ h=>(r σ h).bind λxs h=>match F (.ref h.length :: xs) (h++[.ob []]) with
 | .ok .non h'=>.ok (.ref h.length) h'
 | _=>.bad
def j3 (F:Fn) (x:EF) (r:LF):EF:=λσ h=>(x σ h).bind λp h=>match p with
 | .ref n=>match h[n]? with|some (.ob _)=>(r σ h).bind λxs h=>F (.ref n :: xs) h|_=>.bad
 | _=>.bad
end Fm
namespace Fm
open PySem PySem.Spec L2 PySem.W PyProof.Rows
section
variable {K:ZX} {ρ:List Addr} {H:Hp} {hd:Hd}
theorem RH.writeO (r:RH K ρ H hd) {n:Nat} {p C dx:Addr} {l:List D} {vs:List V} (hp : ρ[n]? = some p) (d:n < hd.length) (h1:PySem.W.nsIn K mainGlobals (Str.ofString "Desk")=some (some (.ref C))) (f:RDs K ρ H l vs):RH K ρ (upd H p (.ins C dx (wZ vs))) (hd.set n (.ob l)):=by
 have k:Kp ρ H ρ (upd H p (.ins C dx (wZ vs))):=by
  have b:=ZK hp;refine⟨λ_ _ h=>h,λa i e => ?_,λa o u e => ?_,λa g e => ?_⟩
  ·rw[aM (λz=>r.noTup e (by rw[z];exact b))];exact e
  ·rw[aM (λz=>r.noFrz e (by rw[z];exact b))];exact e
  ·rw[aM (λz=>r.noExt e (by rw[z];exact b))];exact e
 refine⟨by simp[r.len],r.nd,λm c a q1 q2 => ?_⟩
 by_cases e:n=m
 ·subst e
  rw[List.getElem?_set_self d]at q1;cases q1;rw[hp]at q2;cases q2;exact⟨vs,C,dx,bp,f.mono k,h1⟩
 ·rw[ZP e]at q1
  have ne:a≠p:=λz=>by
   subst z;exact e (n6 r.nd hp q2)
  exact(r.cel m c a q1 q2).mono k (aM ne)
theorem RH.allocO (r:RH K ρ H hd) {p C dx:Addr} (hp:H p=some (.ins C dx [])) (f:p ∉ ρ) (h1:PySem.W.nsIn K mainGlobals (Str.ofString "Desk")=some (some (.ref C))):RH K (ρ ++ [p]) H (hd++[.ob []]):=by
 have k:Kp ρ H (ρ ++ [p]) H:=⟨λn a e=>by rw[ZC (List.getElem?_eq_some_iff.mp e).1];exact e,λ_ _ h=>h,λ_ _ _ h=>h,λ_ _ h=>h⟩;refine⟨by simp[r.len],?_,λn c a q1 q2 => ?_⟩
 ·rw[List.nodup_append]
  exact⟨r.nd,by simp,λa g b d=>by simp at d;subst d;intro e;subst e;exact f g⟩
 ·by_cases hlt:n < hd.length
  ·rw[ZC hlt]at q1
   rw[ZC (by rw[r.len];exact hlt)]at q2;exact(r.cel n c a q1 q2).mono k rfl
  ·have i:n=hd.length:=by
    have:=(List.getElem?_eq_some_iff.mp q1).1;simp at this;omega
   subst i;simp at q1;subst q1;rw[<-r.len]at q2;simp at q2;subst q2;exact⟨[],C,dx,hp,by simp only[RDs],h1⟩
end
structure lC (K:ZX) (C:Addr):Prop where
 at_:PySem.W.nsIn K mainGlobals (Str.ofString "Desk")=some (some (.ref C))
 cls:Cls K C
 no:kW K C "web"
section
variable {X:Cx} {pos p:Pos} {C:Addr}
theorem lC.one (T:lC X.K C) {a:Addr} (h:PySem.W.nsIn X.K mainGlobals (Str.ofString "Desk")=some (some (.ref a))):a=C:=by
 have:=T.at_.symm.trans h;cases this;rfl
theorem xk {e:Expr} {i:EF} (T:lC X.K C) (he:ME X e i) (o:attributeBase e "web" X.env (eval e X.env)=eval e X.env:=by rfl):ME X (.Attribute e "web" pos) (vP i):=by
 refine PE.imp (LN he o) λσ H Q ⟨ρ,σd,hd,t,j⟩=>⟨ρ,σd,hd,t,(bx.bind (R:=rD X.K) j).imp λv H1 ⟨m,d,g,w,f,h,b⟩ => ?_⟩;cases d with
 | ref n =>
  simp only at b;cases c:g[n]? with
  | none=>rw[c]at b;exact b.elim
  | some cell =>
   rw[c]at b;cases cell with
   | lst l=>exact b.elim
   | dct l=>exact b.elim
   | dcT l=>exact b.elim
   | ob l =>
    match l,b,c with
    | [d],b,c =>
     simp only[RD]at h;obtain⟨a,s,rfl⟩:=h;obtain⟨u,q,dx,q1,q2,q3⟩:=f.hp.cel n _ a c s;simp only[RDs]at q2;obtain⟨v,r,rfl,k,rfl⟩:=q2;obtain rfl:=T.one q3;exact⟨a,q,dx,_,v,rfl,q1,T.cls,T.no,rfl,b.here f k⟩
    | [],b,_=>exact b.elim
    | _ :: _ :: _,b,_=>exact b.elim
 | _=>exact b.elim
theorem Dp {o e:Expr} {t u:EF} {p2:Pos} (T:lC X.K C) (y:ME X o t) (he:ME X e u) (G:swapsWith e (some (.Attribute o "web" p2)) pos.line X.env=pure false:=by rfl):MS X (.Assign [.Attribute o "web" p2] e pos) (zq t u):=by
 refine PS.imp (LO y he G) λEn σ H ⟨ρ,σd,hd,L,p⟩=>⟨ρ,σd,hd,L,(cD.outE p).imp λv H1 ⟨j,d,q,N,h,E,J⟩ => ?_⟩;refine⟨j,σd,q,h,(cD.outE J).imp λB i ⟨b,K,f,A,g,r,p2⟩ => ?_⟩;have k:=E.mono (h.hp.kp A);cases K with
 | ref n =>
  simp only at p2;cases c:f[n]? with
  | none=>rw[c]at p2;exact p2.elim
  | some cell =>
   rw[c]at p2;have w:n < f.length:=(List.getElem?_eq_some_iff.mp c).1;have fin:∀{l:List D},f[n]? = some (.ob l)->l.length<=1->cD X.K b i (.nx σd (f.set n (.ob [d]))) En->_:=λ{l} c z p2=>(show ∃a C dx fs,B=.ref a/\i a=some (.ins C dx fs)/\Cls X.K C/\kW X.K C "web"/\fs.length < 1000/\En.nx σ (upd i a (.ins C dx (kR "web" v fs))) by
    simp only[RD]at r;obtain⟨a,m,rfl⟩:=r;obtain⟨vs,s,dx,q1,q2,q3⟩:=g.hp.cel n _ a c m;obtain rfl:=T.one q3;have M:vs.length<=1:=by rw[<-q2.length];exact z
    have F:kR "web" v (wZ vs)=wZ [v]:=by
     match vs,M with
     | [],_=>rfl
     | [x],_=>rfl
    refine⟨a,s,dx,_,rfl,q1,T.cls,T.no,by unfold wZ;rw[ZA];omega,?_⟩;rw[F];have I:=g.hp.writeO (dx:=dx) (l:=[d]) (vs:=[v]) m w q3 (by simp only[RDs];exact⟨v,[],rfl,k,rfl⟩);have ex:Ext b i b (upd i a (.ins s dx (wZ [v]))):=Ext.write (ZK m);exact p2 σ _ b ex (g.ext ex I))
   cases cell with
   | lst l=>exact p2.elim
   | dct l=>exact p2.elim
   | dcT l=>exact p2.elim
   | ob l =>
    match l,p2,c with
    | [],p2,c=>exact fin c (YG _) p2
    | [_],p2,c=>exact fin c (ZL _) p2
    | _ :: _ :: _,p2,_=>exact p2.elim
 | _=>exact p2.elim
structure Dq (P:T5) (w:T6) (K:ZX) (mg:Str->Option T0) (base:Heap) (C:Addr) (m:Str) (k np:Nat) (F:Fn):Prop where
 ex:∃f fd ps,LM K C m f/\iK K fd ps []/\bC P w K mg base CX0 k f fd ps (spF K F np)
theorem sQ {o e:Expr} {es:List Expr} {D:EF} {r:LF} {m:Str} {k np:Nat} {F:Fn} {apos:Pos} {pl:Sem Bool} (T:lC X.K C) (hd:Dq X.prog X.w X.K X.mg X.base C m k np F) (L:fG k X.A) (G:ME X o D) (y:MA X (e :: es) r) (A:∀ds h d h',F ds h=.ok d h'->ds.length=np) (hm:m ≠ "web")
  (B:starEach (e :: es) X.env=(false,eval e X.env) :: starEach es X.env:=by rfl) (hpl:(backTo pos (starEach es X.env)).any (·.1)=false:=by rfl)
  (ht:eval (.Call (.Attribute o m apos) (e :: es) [] pos) X.env=(do
   let ov <-eval o X.env
   standAt apos.atName
   let (f,first) <-holding [ov] (getMethod ov m pl)
   callWith pos f first (backTo pos (starEach (e :: es) X.env)) (backToKw pos (keywordEach [] X.env))):=by rfl) :
  ME X (.Call (.Attribute o m apos) (e :: es) [] pos) (j3 F D r):=by
 obtain⟨f,fd,ps,I,P,M⟩:=hd.ex;refine PE.imp (IZ G T.cls I M L P .nil Gx y B hpl ht) λσ H Q ⟨ρ,σd,hd,S,E⟩=>⟨ρ,σd,hd,S,(bx.bind (R:=rD X.K) E).imp λv H1 ⟨s,d,j,Z,g,x,b⟩ => ?_⟩;cases d with
 | ref n =>
  simp only at b;cases c:j[n]? with
  | none=>rw[c]at b;exact b.elim
  | some cell =>
   rw[c]at b;cases cell with
   | lst l=>exact b.elim
   | dct l=>exact b.elim
   | dcT l=>exact b.elim
   | ob l =>
    have w:=x;simp only[RD]at x;obtain⟨a,y,rfl⟩:=x;obtain⟨t,W,dx,q1,q2,q3⟩:=g.hp.cel n _ a c y;obtain rfl:=T.one q3;have N:(wZ t).lookup m=none:=by
     unfold wZ;clear q1 q2
     induction t with
     | nil=>rfl
     | cons v t ih =>
      rw[x3,Z2];rw[show (m == Str.ofString "web")=false from by simpa using hm];exact ih
    refine⟨a,dx,_,rfl,q1,N,s,σd,j,g,(bx.bind (R:=rDs X.K) b).imp λV Y ⟨u,ds,q,K,i,J,p2⟩ => ?_⟩;rw[YT];cases c2:F (.ref n :: ds) q with
    | exc z h'=>rw[c2]at p2;exact p2.elim
    | bad=>rw[c2]at p2;exact p2.elim
    | ok d hd3 =>
     rw[c2]at p2;refine⟨u,q,.ref n :: ds,i.hp,?_,A _ _ _ _ c2,?_⟩
     ·simp only[RDs]
      exact⟨_,_,rfl,w.mono (g.hp.kp K),J⟩
     ·rw[c2]
      exact λv H' ρ' ex O U=>p2 v H' ρ' ex (i.ext ex O) U
 | _=>exact b.elim
structure My (P:T5) (w:T6) (K:ZX) (mg:Str->Option T0) (base:Heap) (x:Str) (C:Addr) (k np:Nat) (F:Fn):Prop where
 mgC:mg x=some (.ref C)
 ex:∃f fd ps,Mk K C f/\iK K fd ps []/\bC P w K mg base CX0 k f fd ps (spF K F np)
theorem Mz {x:Str}{e:Expr}{es:List Expr}{r:LF}{k np:Nat}{F:Fn}(T:lC X.K C)(hd:My X.prog X.w X.K X.mg X.base x C k np F)(E:fG (k + 1) X.A)(B:Gl X x)(K:MA X (e :: es) r)(n:∀ds h d h',F ds h=.ok d h'->ds.length=np)
  (o:(x == ("__debug__" : Str))=false:=by decide) (he:starEach (e :: es) X.env=(false,eval e X.env) :: starEach es X.env:=by rfl) (hpl:(backTo pos (starEach es X.env)).any (·.1)=false:=by rfl) :
  ME X (.Call (.Name x p) (e :: es) [] pos) (JC F r):=by
 obtain⟨f,fd,ps,A,M,J⟩:=hd.ex;refine PE.imp (I0 A J E B hd.mgC M .nil Gx K o he hpl) λσ H Q ⟨ρ,σd,hd,O,y⟩=>⟨ρ,σd,hd,O,(bx.bind (R:=rDs X.K) y).imp λS H1 ⟨a,ds,g,U,b,G,i⟩ => ?_⟩;intro x dx t j m;rw[YT];cases c:F (.ref g.length :: ds) (g++[.ob []]) with
 | exc z h'=>rw[c]at i;exact i.elim
 | bad=>rw[c]at i;exact i.elim
 | ok d hd3 =>
  rw[c]at i;cases d with
  | non =>
   have D:x ∉ a:=λz=>by
    rcases b.hp.mut z with ⟨_,q⟩|⟨_,q⟩|⟨_,q⟩|⟨_,_,_,q⟩<;>(rw[t]at q;cases q)
   have x1:Ext a H1 a (upd H1 dx (.own x)):=⟨⟨[],by simp⟩,λ_ h=>.inl h,λq u e _=>cv j q u e⟩;have l:upd H1 dx (.own x) x=none:=by rw[aM (YN m)];exact t
   have P:Ext a (upd H1 dx (.own x)) (a++[x]) (upd (upd H1 dx (.own x)) x (.ins C dx [])):=Ext.alloc l;have s:Ext a H1 (a++[x]) (upd (upd H1 dx (.own x)) x (.ins C dx [])):=x1.trans P;have N:RH X.K a (upd (upd H1 dx (.own x)) x (.ins C dx [])) g:=(b.hp.same (cv j)).same (cv l);have I:=N.allocO (p:=x) bp D T.at_;refine⟨a++[x],g++[.ob []],.ref g.length :: ds,I,?_,n _ _ _ _ c,?_⟩
   ·simp only[RDs]
    refine⟨_,_,rfl,?_,G.mono (b.hp.kp s)⟩;simp only[RD];exact⟨x,by rw[<-b.hp.len];simp,rfl⟩
   ·rw[c]
    intro v H' ρ' ex L w;simp only[RD]at w;refine⟨w,i (.ref x) H' ρ' (s.trans ex) (b.ext (s.trans ex) L) ?_⟩;simp only[rD,RD];exact⟨x,ex.get (by rw[<-b.hp.len];simp),rfl⟩
  | _=>exact i.elim
end
def inS (s:Stmt) (j:Nat):Stmt:=match s with
 | .ClassDef _ _ _ b _ _ _ _ _ _ _=>b.getD j (.Pass ⟨0,0,0,0⟩)
 | _=>.Pass ⟨0,0,0,0⟩
theorem G5 {P:T5}{w:T6}{K:ZX}{mg:Str->Option T0}{base:Heap}{x y:Str}{st:Stmt}{f:Addr}{fd:FuncData}{N ps:List Str}{k:Nat}{b:SF}(F:Fun K y x st f fd)(S:aA N ps (av st))
  (body:∀(a:T0) (A:T4) (outer:List Env) (s:T3) (H:Hp) (E:XK),fG k (A.deeper (envOfC x (av st) s.heap.objs.size f a))->MSs (yY CX0 P w K mg base N x (av st) f a A outer s H E).nox (du st) b) :
  bC P w K mg base CX0 (k + 1) f fd ps (spF K (bu ps.length N.length b) ps.length):=by
 refine F.ok S (λg H Q E ⟨ρ,hd,ds,d,e,c,p⟩=>by rw[<-e.length];exact c) λa A outer s H g Q E h ⟨ρ,hd,ds,d,e,c,p⟩=>⟨_,body a A outer s H E h,ρ,_,hd,⟨d,vI e⟩,?_⟩;simp only[bu,c,YP]at p;exact(qF.letGo d p).runB
end Fm
namespace Fm
def mQ (s:String):List Nat:=s.toList.map Char.toNat
abbrev JF:=List Nat->EF
def Bw:JF:=λout _ h=>if out.length<=1000000 then .ok (.str out) h else .bad
def fj (a:EF) (r:JF):JF:=λout σ h=>(a σ h).bind λx h=>match x with
 | .str y=>if out.length + y.length<=1000000 then r (out++y) σ h else .bad
 | _=>.bad
def fFs (r:JF):EF:=r []
def fw (a:EF):EF:=λσ h=>(a σ h).bind λx h=>match x with
 | .int i=>if i.natAbs.log2 < 1920 then .ok (.str (mQ (toString i))) h else .bad
 | _=>.bad
def Ez (l:List Nat):Bool := !l.isEmpty && l.all λc=>decide (48<=c/\c<=57)
def EA (l:List Nat):Nat:=l.foldl (λacc c=>acc * 10 + (c - 48)) 0
def nh:List Nat->Option Int
 | []=>none
 | c :: r=>if c=45 then (if Ez r=true then some (-(EA r:Int)) else none) else if Ez (c :: r)=true then some (EA (c :: r):Int) else none
def gM (a:EF):EF:=λσ h=>(a σ h).bind λx h=>match x with
 | .str l=>if l.length<=600 then (match nh l with|some n=>.ok (.int n) h|none=>.bad) else .bad
 | _=>.bad
abbrev Tab:=List (List Nat × Option Int)
def JD:Option Int->D
 | some i=>.int i
 | none=>.non
def je (T:Tab) (l:List Nat):Option (Option Int):=T.lookup l
def rR (T:Tab) (a:EF):EF:=λσ h=>(a σ h).bind λx h=>match x with
 | .str l=>.ok (.bl (je T l).isNone) h
 | _=>.bad
def xl (T:Tab) (a:EF):EF:=λσ h=>(a σ h).bind λx h=>match x with
 | .str l=>(match je T l with|some d=>.ok (JD d) h|none=>.bad)
 | _=>.bad
section
open Classical
@[simp] def im (h:Hd):D->Option (List D × Option Nat)
 | .tup l=>some (l,none)
 | .exn c l=>if c = "" then some (l,none) else none
 | .ref n=>match h[n]? with|some (.lst l)=>some (l,some n)|_=>none
 | _=>none
@[simp] def vQ (a b:EF) (tg:GF) (body:SF):SF:=λσ h=>match a σ h with
 | .ok x h1=>match b σ h1 with
  | .ok y h2=>match im h2 x,im h2 y with
   | some (l,o),some (k,o')=>pA (λh=>dJ o l h/\dJ o' k h) tg body ((l.zip k).map λp=>.tup [p.1,p.2]) σ h2
   | _,_=>.bad
  | .exc x h=>.exc x σ h
  | .bad=>.bad
 | .exc x h=>.exc x σ h
 | .bad=>.bad
end
abbrev ni:=List (List Nat × List (List Nat))
def mK (l:List (List Nat)):D:=.exn "" (l.map .str)
def Bx (T:ni) (a:EF):EF:=λσ h=>(a σ h).bind λx h=>match x with
 | .str l=>.ok (.bl (T.lookup l).isNone) h
 | _=>.bad
def vR (T:ni) (a:EF):EF:=λσ h=>(a σ h).bind λx h=>match x with
 | .str l=>(match T.lookup l with|some d=>.ok (mK d) h|none=>.bad)
 | _=>.bad
def G6 (a:EF):EF:=λσ h=>(a σ h).bind λx h=>match x with
 | .exn c l=>if c = "" then .ok (.int l.length) h else .bad
 | _=>.bad
def Dr (a:EF):EF:=λσ h=>(a σ h).bind λx h=>match x with
 | .exn c l=>if c = "" then .ok (.bl l.isEmpty) h else .bad
 | _=>.bad
def zr (a:EF):EF:=λσ h=>(a σ h).bind λx h=>match x with
 | .int i=>if i.natAbs.log2 < 1920 then .ok (.str (mQ (toString i))) h else .bad
 | .non=>.ok (.str (mQ "None")) h
 | _=>.bad
def qN (a:EF):EF:=λσ h=>(a σ h).bind λx h=>match x with
 | .str l=>if l.length<=1000000 then .ok (.str l) h else .bad
 | _=>.bad
section
open Classical
@[simp] def sR (nl:Nat) (caps:List Nat) (a b:EF) (tg:GF) (cs:List TF) (e:EF):LF:=λσ h=>match a σ h with
 | .ok x h1=>match b σ h1 with
  | .ok y h2=>match im h2 x,im h2 y with
   | some (l,o),some (k,o')=>fM (λh=>dJ o l h/\dJ o' k h) tg cs e ((l.zip k).map λp=>.tup [p.1,p.2]) (gp nl caps σ) h2
   | _,_=>.bad
  | .exc x h=>.exc x h
  | .bad=>.bad
 | .exc x h=>.exc x h
 | .bad=>.bad
end
end Fm
namespace Fm
open PySem PySem.Spec L2
open PyProof.Rows (Call_)
def itN:Bool->String
 | true => "list_iterator"
 | false => "tuple_iterator"
def It2:Bool->Heap->Addr->Addr->Nat->Prop
 | true,h,i,l,k=>h.IsListIter i l k
 | false,h,i,l,k=>h.IsTupleIter i l k
def Sq2:Bool->Heap->Addr->Array T0->Prop
 | true,h,l,xs=>h.IsList l xs
 | false,h,l,xs=>h.IsTuple l xs
def SqM:Bool->ZX->Hp->Addr->List V->Prop
 | true,K,H,a,xs=>SqL K H a xs
 | false,K,H,a,xs=>SqT K H a xs
variable {l:Addr}{L:Bool}
theorem It2.mk {h:Heap}{i:Addr}(e:h.get? i=some { cls:=.type (itN L),data:=.fields #[.ref l,.int 0 0] }):It2 L h i l 0:=by
 cases L
 ·exact⟨_,e,rfl,rfl⟩
 ·exact⟨_,e,rfl,rfl⟩
theorem It2.obj {h:Heap}{i:Addr}{k:Nat}(t:It2 L h i l k):∃o,h.get? i=some o/\∀v,o.data ≠ .cell v:=by
 cases L
 ·obtain⟨o,q,c,d⟩:=t
  exact⟨o,q,λv e=>by rw[d]at e;cases e⟩
 ·obtain⟨o,q,c,d⟩:=t
  exact⟨o,q,λv e=>by rw[d]at e;cases e⟩
theorem It2.at {h h':Heap}{i:Addr}{k:Nat}(t:It2 L h i l k)(a:∀o,h.get? i=some o->h'.get? i=some o):It2 L h' i l k:=by
 cases L
 ·obtain⟨o,q,r⟩:=t
  exact⟨o,a o q,r⟩
 ·obtain⟨o,q,r⟩:=t
  exact⟨o,a o q,r⟩
theorem It2.extBut {h h':Heap}{a b:Addr}{k:Nat}(t:It2 L h a l k)(e:Heap.ExtBut b h h')(n:a≠b):It2 L h' a l k:=t.at λo q=>e _ _ n q
theorem Sq2.lt {h:Heap}{xs:Array T0}(t:Sq2 L h l xs):l < h.objs.size:=by
 cases L
 ·obtain⟨o,q,_⟩:=t
  exact ZI q
 ·obtain⟨o,q,_⟩:=t
  exact ZI q
theorem j4 {h h':Heap}{i:Addr}{xs:Array T0}(t:Sq2 L h l xs)(e:Heap.ExtBut i h h')(n:l≠i):Sq2 L h' l xs:=by
 cases L
 ·obtain⟨o,a,r⟩:=t
  exact⟨o,e _ _ n a,r⟩
 ·obtain⟨o,a,r⟩:=t
  exact⟨o,e _ _ n a,r⟩
theorem pB {X:Cx}{pins:List (Addr × Obj)}{σ:St}{H:Hp}{s:T3}{a:Addr}{xs:List V}(I:L2.Inv X pins σ H s)(h:SqM L X.K H a xs):∃b,bi xs b/\Sq2 L s.heap a b.toArray/\xs.length<=sizeLine:=by
 cases L
 ·exact I.tuple h
 ·obtain⟨b,r,p,z⟩:=I.list h
  exact⟨b,r,p.isList,z⟩
theorem Ds {X:Cx}{pins:List (Addr × Obj)}{σ:St}{H:Hp}{s:T3}{a:Addr}{xs ys:List V}(I:L2.Inv X pins σ H s)(h:SqM L X.K H a xs)(h':SqM L X.K H a ys):xs=ys:=by
 cases L
 ·exact I.tuple_inj h h'
 ·exact I.list_inj h h'
section
variable {prog:T5} {w:T6} {A:T4} {E:T0->T3->Prop} {s:T3}
theorem nj {it:Addr}{i:Nat}{a:Array T0}{x:T0}{Q:T0->T3->Prop}(t:It2 L s.heap it l i)(u:Sq2 L s.heap l a)(b:a[i]? = some x)
  (q:∀h',It2 L h' it l (i + 1)->Heap.SameBut it s.heap h'->Q x { s with heap:=h' }):wpAny (model prog w) A (Builtin.SmallTypes.nextOf (.ref it)) Q E s:=by
 cases L
 ·exact jc t u b q
 ·exact wpAny_nextOf_list_item t u b q
theorem vS {it:Addr}{i:Nat}{a:Array T0}{Q:T0->T3->Prop}(b:A.handled=none)(t:It2 L s.heap it l i)(u:Sq2 L s.heap l a)(c:a[i]? = none)
  (d:∀h' e,Heap.ExtBut it s.heap h'->(∃o,h'.get? e=some o/\o.cls=.type "StopIteration")->E (.ref e) { s with heap:=h' }):wpAny (model prog w) A (Builtin.SmallTypes.nextOf (.ref it)) Q E s:=by
 cases L
 ·exact jI b t u c d
 ·exact wpAny_nextOf_list_end b t u c d
end
section
variable {La Lb:Bool} {prog:T5} {w:T6} {A:T4} {E:T0->T3->Prop} {s:T3} {z TI TO i1 i2 l1 l2:Addr} {k:Nat} {xs ys:Array T0} {a b:T0}
theorem EB {x y:T0}{Q:T0->T3->Prop}(Z:ZipApart z TI TO i1 i2 l1 l2)(B:IsZip s.heap z TI TO .none)(U:IsPair s.heap TI (.ref i1) (.ref i2))(gO:IsPair s.heap TO a b)
  (t1:It2 La s.heap i1 l1 k) (t2:It2 Lb s.heap i2 l2 k) (W:Sq2 La s.heap l1 xs) (Y:Sq2 Lb s.heap l2 ys) (ex:xs[k]? = some x) (V:ys[k]? = some y)
  (q:∀h',IsZip h' z TI TO (rawInt s.heap.objs.size)->IsPair h' TO x y->It2 La h' i1 l1 (k + 1)->It2 Lb h' i2 l2 (k + 1)->IsPair h' s.heap.objs.size x y->h'.objs.size=s.heap.objs.size + 1->
   (∀c o,c≠z->c≠TO->c≠i1->c≠i2->s.heap.get? c=some o->h'.get? c=some o)->Q (.ref s.heap.objs.size) { s with heap:=h' }) :
  wpAny (model prog w) A (Builtin.«zip.__next__» ⟨[.ref z],[]⟩) (λfin s'=>∃v,fin=.done (.ret v)/\Q v s') E s:=by
 show wpAny _ _ (field (.ref z) 2 >>= λ_=>_) _ _ _;refine z0 (YQ B rfl (x:=.bool false) rfl ?_);show wpAny _ _ (field (.ref z) 3 >>= λ_=>_) _ _ _;refine z0 (YQ B rfl (x:=.ref TI) rfl (z0 (XR U rfl ?_)));show wpAny _ _ (Builtin.SmallTypes.ownedTupleIsFree (.ref z) >>= λ_=>_) _ _ _;unfold Builtin.SmallTypes.ownedTupleIsFree;refine z0 (z0 (YQ B rfl (x:=.none) rfl (x4 ?_)));simp only[YP];refine z0 (wpAny_rule (z0 (YQ B rfl (x:=.ref TO) rfl (z0 (XT B (by simp) λg1 j h=>z0 ?_)))));replace j:IsZip g1 z TI TO .ellipsis:=j;simp only[List.zipIdx_cons,List.zipIdx_nil,List.forIn_cons,List.forIn_nil];refine z0 (z0 (wpAny_onRaise ?_));show wpAny _ _ (Builtin.SmallTypes.nextOf (.ref i1) >>= λ_=>_) _ _ _;refine z0 (nj (t1.extBut h.extBut Z.i1z) (j4 W h.extBut Z.l1z) ex λg2 L n=>x4 ?_);have C:IsPair g2 TO a b:=n.extBut _ _ Z.TOi1 (h.extBut _ _ Z.TOz gO);refine z0 (XR C rfl (z0 (wpAny_updateSeq_pair C λg3 i p=>z0 (wpAny_letGo (x4 ?_)))));replace i:IsPair g3 TO x b:=i;refine z0 (z0 (wpAny_onRaise ?_));show wpAny _ _ (Builtin.SmallTypes.nextOf (.ref i2) >>= λ_=>_) _ _ _;refine z0 (nj (((t2.extBut h.extBut Z.i2z).extBut n.extBut Z.i12.symm).extBut p.extBut Z.TOi2.symm) (j4 (j4 (j4 Y h.extBut Z.l2z) n.extBut Z.l2i1) p.extBut Z.l2TO) V λg4 P r=>x4 ?_);have t:IsPair g4 TO x b:=r.extBut _ _ Z.TOi2 i;refine z0 (XR t rfl (z0 (wpAny_updateSeq_pair t λd f u=>z0 (wpAny_letGo (x4 (x4 ?_))))));replace f:IsPair d TO x y:=f;refine z0 (XR f rfl (z0 (wpAny_newTuple ?_)));have sz:d.objs.size=s.heap.objs.size:=by rw[u.1,r.1,p.1,n.1,h.1]
 have F:IsZip d z TI TO .ellipsis:=u.extBut _ _ Z.TOz.symm (r.extBut _ _ Z.i2z.symm (p.extBut _ _ Z.TOz.symm (n.extBut _ _ Z.i1z.symm j)));have X:∀c o,c≠z->c≠TO->c≠i1->c≠i2->s.heap.get? c=some o->d.get? c=some o:=λc o l H I O e=>u.extBut _ _ H (r.extBut _ _ O (p.extBut _ _ H (n.extBut _ _ I (h.extBut _ _ l e))));have J:It2 La d i1 l1 (k + 1):=((L.extBut p.extBut Z.TOi1.symm).extBut r.extBut Z.i12).extBut u.extBut Z.TOi1.symm;have N:It2 Lb d i2 l2 (k + 1):=P.extBut u.extBut Z.TOi2.symm;have S:z < d.objs.size:=ZI F;show wpAny _ _ (Builtin.SmallTypes.ownedTupleHandOut (.ref z) (.ref d.objs.size) >>= λ_=>_) _ _ _;unfold Builtin.SmallTypes.ownedTupleHandOut;have M:IsZip (d.push { cls:=.type "tuple",data:=.seq #[x,y] }) z TI TO .ellipsis:=ZH _ F;refine z0 (z0 (XT M (by simp) λg7 m R => ?_));replace m:IsZip g7 z TI TO (rawInt d.objs.size):=m;refine XT m (by simp) λD g K => ?_;replace g:IsZip D z TI TO (rawInt d.objs.size):=g;have G:∀c o,c≠z->d.get? c=some o->D.get? c=some o:=λc o l e=>K.extBut _ _ l (R.extBut _ _ l (ZH _ e));have gT:IsPair D d.objs.size x y:=K.extBut _ _ (Z5 S) (R.extBut _ _ (Z5 S) (ZJ _ rfl));have T:D.objs.size=d.objs.size + 1:=by rw[K.1,R.1,YF]
 rw[sz]at g gT T;refine x4 ⟨_,rfl,?_⟩;show Q (.ref d.objs.size) _;rw[sz];exact q D g (G _ _ Z.TOz f) (J.at λo e=>G _ o Z.i1z e) (N.at λo e=>G _ o Z.i2z e) gT T λc o l H I O e=>G c o l (X c o l H I O e)
theorem G7 {Q:Fin->T3->Prop}(B:A.handled=none)(Z:ZipApart z TI TO i1 i2 l1 l2)(l:IsZip s.heap z TI TO .none)(I:IsPair s.heap TI (.ref i1) (.ref i2))(R:IsPair s.heap TO a b)
  (H:It2 La s.heap i1 l1 k) (U:It2 Lb s.heap i2 l2 k) (C:Sq2 La s.heap l1 xs) (M:Sq2 Lb s.heap l2 ys) (nd:xs[k]? = none\/ys[k]? = none)
  (q:∀h' e,(∀c o,c≠z->c≠TO->c≠i1->c≠i2->s.heap.get? c=some o->h'.get? c=some o)->(∃o,h'.get? e=some o/\o.cls=.type "StopIteration")->E (.ref e) { s with heap:=h' }) :
  wpAny (model prog w) A (Builtin.«zip.__next__» ⟨[.ref z],[]⟩) Q E s:=by
 show wpAny _ _ (field (.ref z) 2 >>= λ_=>_) _ _ _;refine z0 (YQ l rfl (x:=.bool false) rfl ?_);show wpAny _ _ (field (.ref z) 3 >>= λ_=>_) _ _ _;refine z0 (YQ l rfl (x:=.ref TI) rfl (z0 (XR I rfl ?_)));show wpAny _ _ (Builtin.SmallTypes.ownedTupleIsFree (.ref z) >>= λ_=>_) _ _ _;unfold Builtin.SmallTypes.ownedTupleIsFree;refine z0 (z0 (YQ l rfl (x:=.none) rfl (x4 ?_)));simp only[YP];refine z0 (wpAny_rule (z0 (YQ l rfl (x:=.ref TO) rfl (z0 (XT l (by simp) λN f d=>z0 ?_)))));replace f:IsZip N z TI TO .ellipsis:=f;simp only[List.zipIdx_cons,List.zipIdx_nil,List.forIn_cons,List.forIn_nil];refine z0 (z0 (wpAny_onRaise ?_));show wpAny _ _ (Builtin.SmallTypes.nextOf (.ref i1) >>= λ_=>_) _ _ _;cases ex:xs[k]? with
 | none =>
  refine z0 (vS B (H.extBut d.extBut Z.i1z) (j4 C d.extBut Z.l1z) ex λu e g t => ?_);obtain⟨y,h,hc⟩:=t;have p:IsZip u z TI TO .ellipsis:=g _ _ Z.i1z.symm f;have ne:e≠z:=λv=>by subst v;rw[p]at h;cases h;simp at hc
  exact XT p (by simp) λF _ i=>q F e (λc o m _ r _ v=>i.extBut _ _ m (g _ _ r (d.extBut _ _ m v))) ⟨y,i.extBut _ _ ne h,hc⟩
 | some x =>
  have L:ys[k]? = none:=nd.resolve_left (by rw[ex];exact Option.some_ne_none _);refine z0 (nj (H.extBut d.extBut Z.i1z) (j4 C d.extBut Z.l1z) ex λu K g=>x4 ?_);have n:IsPair u TO a b:=g.extBut _ _ Z.TOi1 (d.extBut _ _ Z.TOz R);refine z0 (XR n rfl (z0 (wpAny_updateSeq_pair n λF J i=>z0 (wpAny_letGo (x4 ?_)))));refine z0 (z0 (wpAny_onRaise ?_));show wpAny _ _ (Builtin.SmallTypes.nextOf (.ref i2) >>= λ_=>_) _ _ _;refine z0 (vS B (((U.extBut d.extBut Z.i2z).extBut g.extBut Z.i12.symm).extBut i.extBut Z.TOi2.symm) (j4 (j4 (j4 M d.extBut Z.l2z) g.extBut Z.l2i1) i.extBut Z.l2TO) L λT e D t => ?_);obtain⟨y,h,hc⟩:=t;have j:IsZip T z TI TO .ellipsis:=D _ _ Z.i2z.symm (i.extBut _ _ Z.TOz.symm (g.extBut _ _ Z.i1z.symm f));have ne:e≠z:=λv=>by subst v;rw[j]at h;cases h;simp at hc
  exact XT j (by simp) λO _ G=>q O e (λc o m P r S v=>G.extBut _ _ m (D _ _ S (i.extBut _ _ P (g.extBut _ _ r (d.extBut _ _ m v))))) ⟨y,G.extBut _ _ ne h,hc⟩
theorem xm {x y:T0}{Q:Option T0->T3->Prop}(Z:ZipApart z TI TO i1 i2 l1 l2)(d:IsZip s.heap z TI TO .none)(g:IsPair s.heap TI (.ref i1) (.ref i2))(t:IsPair s.heap TO a b)
  (r:It2 La s.heap i1 l1 k) (v:It2 Lb s.heap i2 l2 k) (j:Sq2 La s.heap l1 xs) (l:Sq2 Lb s.heap l2 ys) (ex:xs[k]? = some x) (i:ys[k]? = some y)
  (q:∀h',IsZip h' z TI TO (rawInt s.heap.objs.size)->IsPair h' TO x y->It2 La h' i1 l1 (k + 1)->It2 Lb h' i2 l2 (k + 1)->IsPair h' s.heap.objs.size x y->h'.objs.size=s.heap.objs.size + 1->
   (∀c o,c≠z->c≠TO->c≠i1->c≠i2->s.heap.get? c=some o->h'.get? c=some o)->Q (some (.ref s.heap.objs.size)) { s with heap:=h' }) :
  wpAny (model prog w) A (pyNext (.ref z)) Q E s:=by
 have e:s.TypeIs (.ref z) "zip" := ⟨_,d,rfl⟩;unfold pyNext;refine z0 (wpAny_attempt (wpAny_callSpecial?_slot (name:=Str.ofString "__next__") e F.slot_zip_next (YW F.slot_zip_next e F.entry_zip_next ?_ (F.args_zip_next_1 _))));exact EB Z d g t r v j l ex i λh' p f u h B n m=>x4 (q h' p f u h B n m)
theorem zt {Q:Option T0->T3->Prop}(g:A.handled=none)(Z:ZipApart z TI TO i1 i2 l1 l2)(d:IsZip s.heap z TI TO .none)(i:IsPair s.heap TI (.ref i1) (.ref i2))(r:IsPair s.heap TO a b)
  (p:It2 La s.heap i1 l1 k) (t:It2 Lb s.heap i2 l2 k) (j:Sq2 La s.heap l1 xs) (l:Sq2 Lb s.heap l2 ys) (nd:xs[k]? = none\/ys[k]? = none)
  (q:∀h',(∀c o,c≠z->c≠TO->c≠i1->c≠i2->s.heap.get? c=some o->h'.get? c=some o)->Q none { s with heap:=h' }):wpAny (model prog w) A (pyNext (.ref z)) Q E s:=by
 have f:s.TypeIs (.ref z) "zip" := ⟨_,d,rfl⟩;unfold pyNext;refine z0 (wpAny_attempt (wpAny_callSpecial?_slot (name:=Str.ofString "__next__") f F.slot_zip_next (YW F.slot_zip_next f F.entry_zip_next ?_ (F.args_zip_next_1 _))));refine G7 g Z d i r p t j l nd λh' e m n => ?_;obtain⟨o,h,hc⟩:=n;exact z0 (wpAny_isInstance (T := "StopIteration") (b:=true) ⟨o,h,hc⟩ isSubtype_stop (x4 (q _ m)))
end
def zm1 (La:Bool) (h:Heap) (l1:Addr):Heap:=h.push { cls:=.type (itN La),data:=.fields #[.ref l1,.int 0 0] }
def zm2 (La Lb:Bool) (h:Heap) (l1 l2:Addr):Heap:=(zm1 La h l1).push { cls:=.type (itN Lb),data:=.fields #[.ref l2,.int 0 0] }
def zm3 (La Lb:Bool) (h:Heap) (l1 l2:Addr):Heap:=(zm2 La Lb h l1 l2).push { cls:=.type "tuple",data:=.seq #[.ref h.objs.size,.ref (zm1 La h l1).objs.size] }
def zm4 (La Lb:Bool) (h:Heap) (l1 l2:Addr):Heap:=(zm3 La Lb h l1 l2).push { cls:=.type "tuple",data:=.seq #[.none,.none] }
def zm5 (La Lb:Bool) (h:Heap) (l1 l2:Addr):Heap:=(zm4 La Lb h l1 l2).push { cls:=.type "zip",data:=.fields #[.none,.bool false,.bool false,.ref (zm2 La Lb h l1 l2).objs.size,.ref (zm3 La Lb h l1 l2).objs.size] }
set_option maxHeartbeats 4000000 in
theorem By (La Lb:Bool)(l1 l2:Addr)(xs ys:Array T0) :
  Meets (Builtin.«zip.__new__» ⟨[.type "zip",.ref l1,.ref l2],[]⟩) (λ_ R s=>Sq2 La s.heap l1 xs/\Sq2 Lb s.heap l2 ys/\R (.ok (.ret (.ref (zm4 La Lb s.heap l1 l2).objs.size))) { s with heap:=zm5 La Lb s.heap l1 l2 }) :=
 .of_wp λprog w A R s h=>by
  obtain⟨a,g,d,tk,os⟩:=s;obtain⟨f,i,h⟩:=h;have j:=sub_zip;cases La<;>cases Lb
  ·have e:Heap.IsTuple (Shared.heap ⟨a,g,d,tk,os⟩) l1 xs:=f
   have c:Heap.IsTuple (Shared.heap ⟨a.push { cls:=.type "tuple_iterator",data:=.fields #[.ref l1,.int 0 0] },g,d,tk,os⟩) l2 ys:=by
    obtain⟨o,b,r⟩:=i;exact⟨o,ZH _ b,r⟩
   wp_walk using YV e,YV c
   exact⟨_,rfl,h⟩
  ·have e:Heap.IsTuple (Shared.heap ⟨a,g,d,tk,os⟩) l1 xs:=f
   have c:Heap.IsList (Shared.heap ⟨a.push { cls:=.type "tuple_iterator",data:=.fields #[.ref l1,.int 0 0] },g,d,tk,os⟩) l2 ys:=by
    obtain⟨o,b,r⟩:=i;exact⟨o,ZH _ b,r⟩
   wp_walk using YV e,WD c
   exact⟨_,rfl,h⟩
  ·have e:Heap.IsList (Shared.heap ⟨a,g,d,tk,os⟩) l1 xs:=f
   have c:Heap.IsTuple (Shared.heap ⟨a.push { cls:=.type "list_iterator",data:=.fields #[.ref l1,.int 0 0] },g,d,tk,os⟩) l2 ys:=by
    obtain⟨o,b,r⟩:=i;exact⟨o,ZH _ b,r⟩
   wp_walk using WD e,YV c
   exact⟨_,rfl,h⟩
  ·have e:Heap.IsList (Shared.heap ⟨a,g,d,tk,os⟩) l1 xs:=f
   have c:Heap.IsList (Shared.heap ⟨a.push { cls:=.type "list_iterator",data:=.fields #[.ref l1,.int 0 0] },g,d,tk,os⟩) l2 ys:=by
    obtain⟨o,b,r⟩:=i;exact⟨o,ZH _ b,r⟩
   wp_walk using WD e,WD c
   exact⟨_,rfl,h⟩
section
variable {La Lb:Bool} {prog:T5} {w:T6} {A:T4} {E:T0->T3->Prop} {s:T3}
theorem EC {l1 l2:Addr}{xs ys:Array T0}{Q:T0->T3->Prop}(i:Sq2 La s.heap l1 xs)(j:Sq2 Lb s.heap l2 ys)
  (q:∀h',IsZip h' (s.heap.objs.size + 4) (s.heap.objs.size + 2) (s.heap.objs.size + 3) .none->IsPair h' (s.heap.objs.size + 2) (.ref s.heap.objs.size) (.ref (s.heap.objs.size + 1))->
   IsPair h' (s.heap.objs.size + 3) .none .none->It2 La h' s.heap.objs.size l1 0->It2 Lb h' (s.heap.objs.size + 1) l2 0->h'.objs.size=s.heap.objs.size + 5->
   (∀c o,s.heap.get? c=some o->h'.get? c=some o)->Q (.ref (s.heap.objs.size + 4)) { s with heap:=h' }) :
  wpAny (model prog w) A (call (.type "zip") [.ref l1,.ref l2]) Q E s:=by
 refine callType_new F.called_zip (by decide) (F.typeCall_zip_2 _ _) (F.newCall_zip_2 _ _) (λobj=>F.args_object_init_3 obj _ _) F.entry_zip_new (By La Lb l1 l2 xs ys) ⟨i,j,?_⟩;have d:(zm1 La s.heap l1).objs.size=s.heap.objs.size + 1:=YF ..;have b:(zm2 La Lb s.heap l1 l2).objs.size=s.heap.objs.size + 2:=(YF ..).trans (by rw[d]);have f:(zm3 La Lb s.heap l1 l2).objs.size=s.heap.objs.size + 3:=(YF ..).trans (by rw[b]);have a:(zm4 La Lb s.heap l1 l2).objs.size=s.heap.objs.size + 4:=(YF ..).trans (by rw[f]);have n:(zm5 La Lb s.heap l1 l2).objs.size=s.heap.objs.size + 5:=(YF ..).trans (by rw[a]);have h:∀{c o},(zm1 La s.heap l1).get? c=some o->(zm5 La Lb s.heap l1 l2).get? c=some o:=λe=>ZH _ (ZH _ (ZH _ (ZH _ e)));have p2:∀{c o},(zm2 La Lb s.heap l1 l2).get? c=some o->(zm5 La Lb s.heap l1 l2).get? c=some o:=λe=>ZH _ (ZH _ (ZH _ e));have p3:∀{c o},(zm3 La Lb s.heap l1 l2).get? c=some o->(zm5 La Lb s.heap l1 l2).get? c=some o:=λe=>ZH _ (ZH _ e);have k:(zm5 La Lb s.heap l1 l2).get? s.heap.objs.size=some { cls:=.type (itN La),data:=.fields #[.ref l1,.int 0 0] }:=h (ZJ _ rfl);have m:(zm5 La Lb s.heap l1 l2).get? (s.heap.objs.size + 1)=some { cls:=.type (itN Lb),data:=.fields #[.ref l2,.int 0 0] }:=by rw[<-d];exact p2 (ZJ _ rfl)
 have l:(zm5 La Lb s.heap l1 l2).get? (s.heap.objs.size + 2)=some { cls:=.type "tuple",data:=.seq #[.ref s.heap.objs.size,.ref (s.heap.objs.size + 1)] }:=by rw[<-b,<-d];exact p3 (ZJ _ rfl)
 have p:(zm5 La Lb s.heap l1 l2).get? (s.heap.objs.size + 3)=some { cls:=.type "tuple",data:=.seq #[.none,.none] }:=by rw[<-f];exact ZH _ (ZJ _ rfl)
 have g:(zm5 La Lb s.heap l1 l2).get? (s.heap.objs.size + 4)=some { cls:=.type "zip",data:=.fields #[.none,.bool false,.bool false,.ref (s.heap.objs.size + 2),.ref (s.heap.objs.size + 3)] }:=by rw[<-a,<-b,<-f];exact ZJ _ rfl
 show _/\_;rw[a];exact⟨⟨_,g,rfl⟩,q _ g l p (It2.mk k) (It2.mk m) n λc o e=>h (ZH _ e)⟩
end
def Itm (La Lb:Bool) (K:ZX) (a b:Addr):It :=
 ⟨λi H=>∃xs ys x y,SqM La K H a xs/\SqM Lb K H b ys/\xs[i]? = some x/\ys[i]? = some y,λi H x H'=>∃q v u,x=.ref q/\H q=none/\H'=upd H q (.tup [v,u])/\(∀xs,SqM La K H a xs->xs[i]? = some v)/\∀ys,SqM Lb K H b ys->ys[i]? = some u,λi H=>∃xs ys,SqM La K H a xs/\SqM Lb K H b ys/\min xs.length ys.length=i⟩
theorem ED {La Lb:Bool}{P:T5}{w:T6}{K:ZX}{elts:List Expr}{k:Nat}{pos:Pos}(z TI TO g j a b:Addr)(Z:ZipApart z TI TO g j a b) :
  yW P w K (.Tuple elts k pos) (Itm La Lb K a b) [z,TI,TO,g,j] z (λi h=>IsZip h z TI TO .none/\IsPair h TI (.ref g) (.ref j)/\(∃x y,IsPair h TO x y)/\It2 La h g a i/\It2 Lb h j b i) where
 mem:=by simp
 obj:=λi h st c hc=>by
  obtain⟨G,t,⟨x,y,J⟩,M,L⟩:=st;have f:c=z\/c=TI\/c=TO\/c=g\/c=j:=by simpa using hc
  rcases f with rfl|rfl|rfl|rfl|rfl
  ·exact⟨_,G,λv e=>by
    have B:Data.fields _=Data.cell v:=e;cases B⟩
  ·exact⟨_,t,λv e=>by
    have B:Data.seq _ _=Data.cell v:=e;cases B⟩
  ·exact⟨_,J,λv e=>by
    have B:Data.seq _ _=Data.cell v:=e;cases B⟩
  ·exact M.obj
  ·exact L.obj
 keep:=λi h h' st C=>by
  obtain⟨G,t,⟨x,y,J⟩,M,L⟩:=st;exact⟨C z (by simp) _ G,C TI (by simp) _ t,⟨x,y,C TO (by simp) _ J⟩,M.at (λo e=>C g (by simp) o e),L.at (λo e=>C j (by simp) o e)⟩
 item:=by
  intro X hP hw hK hc i pins s σ H E I Q st hg;subst hP hw hK;obtain⟨G,t,⟨x0,y0,J⟩,M,L⟩:=st;obtain⟨xs,ys,x,y,A,F,hx,hy⟩:=hg;obtain⟨D,O,p1,a3⟩:=pB I A;obtain⟨p,N,p2,a4⟩:=pB I F;obtain⟨u,hu,ru⟩:=O.get hx;obtain⟨v,hv,rv⟩:=N.get hy;have T1:Sq2 La s.heap a D.toArray:=p1;have T2:Sq2 Lb s.heap b p.toArray:=p2;have ld:=λc (h:c∈[z,TI,TO,g,j])=>Q c h;refine xm Z G t J M L T1 T2 (by simpa using hu) (by simpa using hv) λh' az aO a1 a2 aN a5 C=>⟨_,rfl,wpAny_letOwnedTupleGo_zip az λY a0 V => ?_⟩;have zl:z < s.heap.objs.size:=ZI G;have Il:TI < s.heap.objs.size:=ZI t;have Ol:TO < s.heap.objs.size:=ZI J;have l1:g < s.heap.objs.size:=by obtain⟨_,e,_⟩:=M.obj;exact ZI e
  have l2:j < s.heap.objs.size:=by obtain⟨_,e,_⟩:=L.obj;exact ZI e
  have S:H s.heap.objs.size=none:=I.hok.fresh (ZL _);have keep:∀c o,c∉[z,TO,g,j]->s.heap.get? c=some o->Y.get? c=some o:=λc o hc e=>by
   have f:c≠z/\c≠TO/\c≠g/\c≠j:=by simpa using hc
   exact(V.2 c f.1).trans (C c o f.1 f.2.1 f.2.2.1 f.2.2.2 e)
  have nw:IsPair Y s.heap.objs.size u v:=(V.2 _ (Z5 zl)).trans aN;have l:∀c∈[z,TO,g,j],c∈[z,TI,TO,g,j]:=λc hc=>by simp at hc ⊢;rcases hc with e|e|e|e<;>simp[e]
  have W:IsPair Y TI (.ref g) (.ref j):=keep TI _ (by simp;exact⟨Z.TIz,Z.TITO,Z.TIi1,Z.TIi2⟩) t;refine⟨.ref s.heap.objs.size,upd H s.heap.objs.size (.tup [x,y]),?_,rfl,⟨_,x,y,rfl,S,rfl,λzs R=>by rw[Ds I R A];exact hx,λzs R=>by rw[Ds I R F];exact hy⟩,
   ⟨a0,W,⟨_,_,(V.2 _ Z.TOz).trans aO⟩,(a1.at λo e=>(V.2 _ Z.i1z).trans e),(a2.at λo e=>(V.2 _ Z.i2z).trans e)⟩,λc hc => ?_⟩
  ·suffices I2:L2.Inv X pins σ (upd H s.heap.objs.size (.tup [x,y])) { s with heap:=Y,gens:=s.gens,drawn:=s.drawn,toks:=s.toks } from I2
   have U:∀c T,H c=some T->c∉[z,TO,g,j]:=λc T e q=>by rw[(Q c (l c q)).1]at e;cases e
   refine I.step (g':=s.gens) (d':=s.drawn) (t':=s.toks) (ch:=[z,TO,g,j]) (λc hc => ?_) (λc o _ _ hc q _=>keep c o hc q) (λc o _ _ hc q _=>⟨o.slots,keep c o hc q⟩) (λc o _ q n => ?_) (λc o hc q=>⟨o,keep c o hc q⟩)
    (λc zs q => ?_) (λc o T q => ?_) (λc ps q=>⟨#[],?_⟩) (λm hm => ?_) (λc T q => ?_) I.bare
   ·have:=Q c (l c hc)
    exact⟨this.2.2.2.1,this.2.1,this.2.2.2.2.1,this.2.2.2.2.2⟩
   ·rw[aM (ZN (ZI q))];exact n
   ·rw[aM (bO q S)];exact q
   ·rw[aM (bO q S)];exact q
   ·rw[aM (bO q S),q];simp
   ·obtain⟨o,es,ep,ho,r⟩:=hm
    exact⟨o,es,ep,keep _ o (λq=>(Q _ (l _ q)).2.1 rfl) ho,r⟩
   ·by_cases hb:c=s.heap.objs.size
    ·subst hb
     rw[bp]at q;cases q;exact⟨by show 2<=sizeLine;rw[YK];decide,[u,v],.cons ru (.cons rv .nil),_,nw,rfl,_,rfl⟩
    ·rw[aM hb]at q
     refine(I.hok c T q).stay (λd v' hd' e => ?_) (λd e=>by rw[aM (bO e S)];exact e) λd zs e=>by rw[aM (bO e S)];exact e
     rcases hd' with B|B
     ·subst B;exact keep d v' (U d _ q) e
     ·exact keep d v' (U d _ B) e
  ·have f:c=z\/c=TI\/c=TO\/c=g\/c=j:=by simpa using hc
   have:c≠s.heap.objs.size:=by rcases f with e|e|e|e|e<;>rw[e]<;>exact ZN (by assumption)
   rw[aM this];exact(Q c hc).1
 done:=by
  intro X hP hw hK hc i pins s σ H E I Q st hg;subst hP hw hK;obtain⟨G,t,⟨x0,y0,J⟩,M,L⟩:=st;obtain⟨xs,ys,A,F,hi⟩:=hg;obtain⟨D,O,p1,a3⟩:=pB I A;obtain⟨p,N,p2,a4⟩:=pB I F;have T1:Sq2 La s.heap a D.toArray:=p1;have T2:Sq2 Lb s.heap b p.toArray:=p2;have e1:=O.length;have e2:=N.length;have nd:D.toArray[i]? = none\/p.toArray[i]? = none:=by
   rcases Nat.le_total xs.length ys.length with h|h
   ·exact .inl (Array.getElem?_eq_none (by simp;omega))
   ·exact .inr (Array.getElem?_eq_none (by simp;omega))
  have l:∀c∈[z,TO,g,j],c∈[z,TI,TO,g,j]:=λc hc=>by simp at hc ⊢;rcases hc with e|e|e|e<;>simp[e]
  refine zt (I.ok.hd hc) Z G t J M L T1 T2 nd λh' C=>⟨rfl,Jz (t':=s.toks) (ch:=[z,TO,g,j]) I (λc o hc e => ?_) λc hc=>Q c (l c hc)⟩;have f:c≠z/\c≠TO/\c≠g/\c≠j:=by simpa using hc
  exact C c o f.1 f.2.1 f.2.2.1 f.2.2.2 e
 self:=λ_ _ _ _ _ st h=>wpAny_pyIter_zip st.1 h
section
variable {X:Cx} {pos p tp:Pos} {elts:List Expr} {tk:Nat}
def iZm (K:ZX) (ta:TA):TI:=λσ H R=>ta σ H λvs H1=>∃La Lb a b xs ys,vs=[.ref a,.ref b]/\SqM La K H1 a xs/\SqM Lb K H1 b ys/\(xs.length<=sizeLine->ys.length<=sizeLine->R (Itm La Lb K a b) H1)
theorem JE {a b:Expr} {ta:TA} (B:Gl X "zip") (hm:X.mg "zip" = none) (F:PA X [a,b] ta) (G:starEach [a,b] X.env=[(false,eval a X.env),(false,eval b X.env)]:=by rfl) (i:starEach [b] X.env=[(false,eval b X.env)]:=by rfl):PI X (.Tuple elts tk tp) (.Call (.Name "zip" p) [a,b] [] pos) (iZm X.K ta):=by
 intro pins s σ H R I h;refine Call_ (mU I B hm PyProof.Rows.boot_zip (YX (thn (F pos pins s σ H _ I h) λO d ⟨P,H1,g,M,q1⟩ => ?_) (by rw[G,i]) (by rw[i];rfl)));obtain⟨La,Lb,k,j,xs,ys,e,o,n,q⟩:=q1;subst e;cases M with
 | cons r rr =>
  cases rr with
  | cons r' rr =>
   cases rr;cases r;cases r';obtain⟨m,y,L,t⟩:=pB g o;obtain⟨l,D,p2,u⟩:=pB g n;have x:Sq2 La d.heap k m.toArray:=L;have v:Sq2 Lb d.heap j l.toArray:=p2;have S:k < d.heap.objs.size:=x.lt;have Q:j < d.heap.objs.size:=v.lt;refine EC x v λh' w z K J N E A => ?_;refine wpAny_pyIter_zip (s:={ d with heap:=h' }) w ?_;have C:Inv X pins σ H1 { d with heap:=h' }:=g.kept (t':=d.toks) A;have Z:ZipApart (d.heap.objs.size + 4) (d.heap.objs.size + 2) (d.heap.objs.size + 3) d.heap.objs.size (d.heap.objs.size + 1) k j:=by
    constructor<;>simp only[Addr] at *<;>omega
   refine⟨d.heap.objs.size + 4,[d.heap.objs.size + 4,d.heap.objs.size + 2,d.heap.objs.size + 3,d.heap.objs.size,d.heap.objs.size + 1],_,_,H1,rfl,C,ED _ _ _ _ _ k j Z,⟨w,z,⟨_,_,K⟩,J,N⟩,λc hc => ?_,q t u⟩;have f:d.heap.objs.size<=c:=by
    have:c=d.heap.objs.size + 4\/c=d.heap.objs.size + 2\/c=d.heap.objs.size + 3\/c=d.heap.objs.size\/c=d.heap.objs.size + 1:=by simpa using hc
    rcases this with e|e|e|e|e<;>rw[e]<;>first|exact XJ _ _|exact ZL _
   exact g.fpOk f (g.hok.fresh f)
theorem EE {La Lb:Bool}{K:ZX}{ρ:List Addr}{H:Hp}{q z:Addr}{l c:List D}{g g':Option Nat}(E:∀ρ' H' hd',Ext ρ H ρ' H'->RH K ρ' H' hd'->dJ g l hd'->∃vs,SqM La K H' q vs/\RDs K ρ' H' l vs)(B:∀ρ' H' hd',Ext ρ H ρ' H'->RH K ρ' H' hd'->dJ g' c hd'->∃vs,SqM Lb K H' z vs/\RDs K ρ' H' c vs)(hz:l.length<=sizeLine) :
  ze K ρ H (Itm La Lb K q z) ((l.zip c).map λp=>.tup [p.1,p.2]) (λh=>dJ g l h/\dJ g' c h) where
 go:=λρ' H' hd' i d ex m f hi=>by
  obtain⟨k,w⟩:=List.getElem?_eq_some_iff.mp hi;have J:i < l.length:=by simp at k;omega
  have s:i < c.length:=by simp at k;omega
  have hd:d=.tup [l[i],c[i]]:=by rw[<-w];simp
  subst hd;obtain⟨vs,n,t⟩:=E ρ' H' hd' ex m f.1;obtain⟨a,b,e⟩:=B ρ' H' hd' ex m f.2;obtain⟨v,G,M⟩:=t.get (i:=i) (d:=l[i]) (by simp[J]);obtain⟨A,j,u⟩:=e.get (i:=i) (d:=c[i]) (by simp[s]);refine⟨⟨vs,a,v,A,n,b,G,j⟩,λx N y => ?_⟩;obtain⟨q2,P,O,rfl,I,rfl,y,L⟩:=y;have F:=y vs n;have C:=L a b;rw[G]at F;rw[j]at C;cases F;cases C;have r:=cv (o:=HO.tup [v,A]) I;refine⟨r,?_⟩;simp only[RD];exact⟨q2,_,rfl,bp,RDs.cons (M.mono (Kp.same r)) (RDs.cons (u.mono (Kp.same r)) RDs.nil)⟩
 stop:=λρ' H' hd' ex m f=>by
  obtain⟨vs,n,t⟩:=E ρ' H' hd' ex m f.1;obtain⟨a,b,e⟩:=B ρ' H' hd' ex m f.2;exact⟨vs,a,n,b,by rw[<-t.length,<-e.length];simp⟩
 sz:=by simp;omega
theorem zu {K:ZX}{ρ:List Addr}{H:Hp}{hd:Hd}{d:D}{v:V}{l:List D}{g:Option Nat}(r:RH K ρ H hd)(h:RD K ρ H d v)(e:im hd d=some (l,g)) :
  ∃(L:Bool) (q:Addr),v=.ref q/\(∃b,SqM L K H q b/\RDs K ρ H l b)/\∀ρ' H' hd',Ext ρ H ρ' H'->RH K ρ' H' hd'->dJ g l hd'->∃b,SqM L K H' q b/\RDs K ρ' H' l b:=by
 cases d<;>simp only[im]at e<;>try (cases e;done)
 ·cases e
  simp only[RD]at h;obtain⟨q,b,rfl,f,a⟩:=h;exact⟨false,q,rfl,⟨b,SqT.of f,a⟩,λρ' H' hd' ex m _=>⟨b,SqT.of ((r.kp ex).tup q b f),a.mono (r.kp ex)⟩⟩
 ·rename_i n
  cases c:hd[n]? with
  | none=>rw[c]at e;cases e
  | some cell =>
   rw[c]at e;cases cell with
   | dct _=>cases e
   | dcT _=>cases e
   | ob _=>cases e
   | lst l0 =>
    cases e;simp only[RD]at h;obtain⟨q,f,rfl⟩:=h;obtain⟨b,s,a⟩:=r.cel n _ q c f;refine⟨true,q,rfl,⟨b,SqL.of s,a⟩,λρ' H' hd' ex m o => ?_⟩;obtain⟨k,j,i⟩:=m.cel n _ q o (ex.get f);exact⟨k,SqL.of j,i⟩
 ·rename_i c l0
  split at e
  ·rename_i hc
   cases e;simp only[RD]at h;rcases h with ⟨en,_⟩|⟨_,q,b,rfl,f,a⟩
   ·exact absurd hc en
   ·exact⟨false,q,rfl,⟨b,.inr f,a⟩,λρ' H' hd' ex m _=>⟨b,.inr f,a.mono (r.kp ex)⟩⟩
  ·cases e
def Dt (K:ZX) (ρ:List Addr) (H:Hp) (σd:Sd) (σ:St) (f g:EF) (hd:Hd) (R:It->Hp->Prop):Prop:=match f σd hd with
 | .ok x h1=>match g σd h1 with
  | .ok y h2=>match im h2 x,im h2 y with
   | some (l,o),some (k,o')=>∀J H' ρ',Ext ρ H ρ' H'->RS K ρ' H' σd h2 σ->ze K ρ' H' J ((l.zip k).map λp=>.tup [p.1,p.2]) (λh=>dJ o l h/\dJ o' k h)->R J H'
   | _,_=>False
  | _=>False
 | _=>False
def Ov (K:ZX) (f g:EF):TI:=λσ H R=>∃ρ σd hd,RS K ρ H σd hd σ/\Dt K ρ H σd σ f g hd R
def MIZ (X:Cx) (tg e:Expr) (f g:EF):Prop:=PI X tg e (Ov X.K f g)
theorem xo {a b:Expr} {f g:EF} (D:Gl X "zip") (hm:X.mg "zip" = none) (L:ME X a f) (I:ME X b g) (A:starEach [a,b] X.env=[(false,eval a X.env),(false,eval b X.env)]:=by rfl) (i:starEach [b] X.env=[(false,eval b X.env)]:=by rfl):MIZ X (.Tuple elts tk tp) (.Call (.Name "zip" p) [a,b] [] pos) f g:=by
 refine PI.imp (JE D hm (cw L (cw I dI i) (by rw[A,i])) A i) λσ H R ⟨ρ,σd,hd,N,c⟩=>⟨ρ,σd,hd,N,?_⟩;unfold Dt at c;cases e:f σd hd with
 | exc x h1=>rw[e]at c;exact c
 | bad=>rw[e]at c;exact c
 | ok d hd1 =>
  rw[e]at c;simp only at c;intro v H1 n w j u;refine⟨n,σd,hd1,j,?_⟩;cases e2:g σd hd1 with
  | exc x h1=>rw[e2]at c;exact c
  | bad=>rw[e2]at c;exact c
  | ok d2 hd2 =>
   rw[e2]at c;simp only at c;intro P K r m h s;have u:=RD.mono (j.hp.kp m) u;cases c1:im hd2 d with
   | none=>rw[c1]at c;exact c.elim
   | some p1 =>
    obtain⟨l,o⟩:=p1;cases c2:im hd2 d2 with
    | none=>rw[c1,c2]at c;exact c.elim
    | some p2 =>
     obtain⟨k,o'⟩:=p2;rw[c1,c2]at c;simp only at c;obtain⟨La,q,rfl,⟨E,O,t⟩,M⟩:=zu h.hp u c1;obtain⟨Lb,C,rfl,⟨y,z,B⟩,F⟩:=zu h.hp s c2;exact⟨La,Lb,q,C,E,y,rfl,O,z,λG J=>c _ K r (w.trans m) h (EE M F (by rw[t.length];exact G))⟩
end
section
variable {X:Cx} {pos:Pos} {tg:Expr}
theorem Du {u:Expr}{body:List Stmt}{f O:EF}{g:GF}{b:SF}(hp:PassesOwn (model X.prog X.w) X.A X.env X.xe)(hc:X.calm=true)(hi:MIZ X tg u f O)(T:MG X tg g)(U:MSs X body b)
  (hs:∀x,foldedSetIterable u X.env x=pure x:=by intro _;rfl):MS X (.For tg u body [] pos) (vQ f O g b):=by
 refine PS.imp (Ga hp hc hi T U hs) λEn σ H ⟨ρ,σd,hd,rs,p⟩=>⟨ρ,σd,hd,rs,?_⟩;unfold vQ at p;unfold Dt;cases e:f σd hd with
 | exc x h'=>rw[e]at p;exact p
 | bad=>rw[e]at p;exact p
 | ok d hd0 =>
  rw[e]at p;simp only at p ⊢;cases e2:O σd hd0 with
  | exc x h'=>rw[e2]at p;exact p
  | bad=>rw[e2]at p;exact p
  | ok d2 hd1 =>
   rw[e2]at p;simp only at p ⊢;cases c1:im hd1 d with
   | none=>rw[c1]at p;exact p.elim
   | some p1 =>
    obtain⟨R,o⟩:=p1;cases c2:im hd1 d2 with
    | none=>rw[c1,c2]at p;exact p.elim
    | some p2 =>
     obtain⟨k0,o'⟩:=p2;rw[c1,c2]at p;simp only at p ⊢;intro J H1 A N M K;generalize hG:(λh:Hd=>dJ o R h/\dJ o' k0 h)=G at p K;generalize ((R.zip k0).map λp=>D.tup [p.1,p.2])=l at p K;refine⟨λi m σ' H'=>∃ρ' n hd',Ext A H1 ρ' H'/\RS X.K ρ' H' n hd' σ'/\i<=l.length/\m=l.length - i/\cD X.K ρ' H' (pA G g b (l.drop i) n hd') En,
      ⟨l.length,A,σd,hd1,Ext.refl,M,YG _,by simp,by simpa using cD.ext N p⟩,?_⟩
     rintro i m σ' H' ⟨ρ',n,hd',ex,w,W,rfl,a⟩
     by_cases B:i < l.length
     ·have P:l[i]? = some l[i]:=by simp[B]
      rw[Y4 B]at a;unfold pA at a
      by_cases hh:G hd'
      ·rw[z4 hh]at a
       obtain⟨go,V⟩:=K.go ρ' H' hd' i _ ex w.hp hh P;refine .inr ⟨go,λE C=>∃t j z,Ext A H1 t C/\RS X.K t C j z E/\cD X.K t C (pA G g b (l.drop (i + 1)) j z) En,
        λE C ⟨t,j,z,Z,S,a3⟩=>⟨l.length - (i + 1),by omega,t,j,z,Z,S,B,rfl,a3⟩,λx C y => ?_⟩
       obtain⟨Q,rx⟩:=V x C y;cases c:g l[i] n with
       | none=>rw[c]at a;exact a.elim
       | some j =>
        rw[c]at a;simp only at a;refine⟨ρ',n,hd',l[i],j,w.same Q,rx,c,λE L=>⟨ρ',j,hd',L,?_⟩⟩;have s:Ext ρ' H' ρ' C:=Ext.same Q;cases c2:b j hd' with
        | nx σ3 h3=>rw[c2]at a;exact λF I q k r=>⟨q,σ3,h3,ex.trans (s.trans k),r,cD.ext (s.trans k) a⟩
        | ct σ3 h3=>rw[c2]at a;exact λF I q k r=>⟨q,σ3,h3,ex.trans (s.trans k),r,cD.ext (s.trans k) a⟩
        | bk σ3 h3=>rw[c2]at a;exact λF I q k r=>a F I q (s.trans k) r
        | rt d h3=>rw[c2]at a;exact λv I q k r Y=>a v I q (s.trans k) r Y
        | exc x σ3 h3=>rw[c2]at a;exact a
        | bad=>rw[c2]at a;exact a
      ·rw[z5 hh]at a;exact a.elim
     ·have e0:i=l.length:=by omega
      subst e0;rw[List.drop_length]at a;unfold pA at a
      by_cases hh:G hd'
      ·rw[z4 hh]at a
       exact .inl ⟨K.stop ρ' H' hd' ex w.hp hh,a σ' H' ρ' Ext.refl w⟩
      ·rw[z5 hh]at a;exact a.elim
end
end Fm
namespace Fm
open PySem PySem.Spec L2 PyProof.Rows
section
variable {X:Cx} {pos:Pos} {scope:Scope} {own capn:List Str} {caps:List Nat}
theorem G8 {B tg a:Expr}{u:List Expr}{f U:EF}{g:GF}{cs:List TF}{e:EF}(hc:X.calm=true)(S:bK X scope own capn caps)(hi:MIZ X tg a f U)
  (K:∀cl C s H ex,MG (cxC X (own++capn) scope cl C s H ex) tg g/\MTs (cxC X (own++capn) scope cl C s H ex) u cs/\ME (cxC X (own++capn) scope cl C s H ex) B e)
  (hs:∀x,foldedSetIterable a X.env x=pure x:=by intro _;rfl):MF X (.ListComp B [⟨tg,a,u,0⟩] scope pos) (sR own.length caps f U g cs e):=by
 intro pins s σ H Q I ⟨ρ,σd,hd,rs,p⟩;rw[eval_ListComp];unfold sR at p;cases c:f σd hd with
 | exc z h7=>rw[c]at p;exact p.elim
 | bad=>rw[c]at p;exact p.elim
 | ok d hd0 =>
  rw[c]at p;simp only at p;cases cb:U σd hd0 with
  | exc z h7=>rw[cb]at p;exact p.elim
  | bad=>rw[cb]at p;exact p.elim
  | ok d2 hd1 =>
   rw[cb]at p;simp only at p;cases c1:im hd1 d with
   | none=>rw[c1]at p;exact p.elim
   | some p1 =>
    obtain⟨F,o⟩:=p1;cases c3:im hd1 d2 with
    | none=>rw[c1,c3]at p;exact p.elim
    | some p2 =>
     obtain⟨k0,o'⟩:=p2;rw[c1,c3]at p;simp only at p;obtain⟨cl,V,A,w⟩:=mY (scope:=scope) (env:=X.env) λy hy L=>I.ok.has y.1 (S.free y hy L);refine WO (use:=none) rfl hs V S.kind S.names (thn (hi pins s σ H (λJ H1=>∃i,Ext ρ H i H1/\RS X.K i H1 σd hd1 σ/\ze X.K i H1 J ((F.zip k0).map λp=>.tup [p.1,p.2]) (λh=>dJ o F h/\dJ o' k0 h)) I ⟨ρ,σd,hd,rs,by
      unfold Dt;rw[c];simp only[cb,c1,c3];exact λJ H' ρ' ex P n=>⟨ρ',ex,P,n⟩⟩) λv s1 V=>thn V λa0 Z h2 => ?_)
     obtain⟨it,fp,tn,J,H1,rfl,r,T,O,hf,i,j,t,n⟩:=h2;generalize hG:(λh:Hd=>dJ o F h/\dJ o' k0 h)=G at p n;generalize ((F.zip k0).map λp=>D.tup [p.1,p.2])=l at p n;cases c2:fM G g cs e l (gp own.length caps σd) hd1 with
     | exc z h7=>rw[c2]at p;exact p.elim
     | bad=>rw[c2]at p;exact p.elim
     | ok ds hdF =>
      rw[c2]at p;refine pv (RR:=λR C=>compPost (model X.prog X.w) X.A X.xe none (EP X pins σ Q) R C) hc S K r T O hf t n A w c2 λC s' m H' ρ' Y E hn I' M ex rh k hD N W => ?_;refine⟨m,hn,λh' sb=>⟨.ref Z.heap.objs.size,H',?_,rfl,?_⟩⟩
      ·refine I'.turned (it:=C) (t':=s'.toks) (λb o hb e=>(sb.2 b hb).trans e) M ?_ (.inr (YS (ZS r.sz E))) (λx c e z => ?_) λq hq z => ?_
       ·exact Z5 (Z6 r.lt E)
       ·obtain⟨v,o,ho,hd⟩:=r.cell x c e
        exact absurd (Z6 (ZI ho) E) (by rw[z];exact Z9 _)
       ·exact absurd (Z6 (ZI (r.pin q hq).1) E) (by rw[z];exact Z9 _)
      ·exact p _ Y H' ρ' (j.trans ex) (rs.ext (j.trans ex) rh) (j.fresh k (t.hp.free k)) hD N W
end
end Fm
namespace Fm
def dj:O2:=λx y h=>match x,y with
 | .str a,.str b=>if a.length + b.length<=1000000 then .ok (.str (a++b)) h else .bad
 | _,_=>.bad
def MC:O2:=λx y h=>match x,y with
 | .str a,.int i=>if a.length<=1000000 then (match ixN a.length i with|some j=>(match a[j]? with|some c=>.ok (.str [c]) h|none=>.bad)|none=>.bad) else .bad
 | _,_=>.bad
def JG (a b:EF):EF:=af MC a b
def Dv (a:EF):EF:=λσ h=>(a σ h).bind λx h=>match x with
 | .str l=>if l.length<=1000000 then .ok (.int l.length) h else .bad
 | _=>.bad
def EG:O2:=λx y h=>match x,y with
 | .str [c],.str l=>.ok (.bl (decide (c∈l))) h
 | _,_=>.bad
def Bz (l:List Nat):Option Int->Option Int->Option (List Nat)
 | none,some j=>if 0<=j/\j<=l.length then some (l.take j.toNat) else none
 | some i,none=>if 0<=i/\i<=l.length then some (l.drop i.toNat) else none
 | _,_=>none
def rS (a:EF) (lo hi:OF):EF:=λσ h=>(a σ h).bind λx h=>(lo σ h).bind λi h=>(hi σ h).bind λj h=>match x with
 | .str l=>if l.length<=1000000 then (match Bz l i j with|some y=>.ok (.str y) h|none=>.bad) else .bad
 | _=>.bad
def sS (a:EF):IF:=λσ h=>(a σ h).bind λx h=>match x with
 | .str l=>if l.length<=1000000/\l.all (· < 128)=true then .ok (l.map λc=>D.str [c],none) h else .bad
 | _=>.bad
def jJ:List D->Option (List (List Nat))
 | []=>some []
 | .str x :: r=>(jJ r).map (x :: ·)
 | _=>none
def zv (a:LF):EF:=λσ h=>(a σ h).bind λl h=>match jJ l with
 | some ss=>if (ss.map (·.length)).sum<=1000000 then .ok (.str ss.flatten) h else .bad
 | none=>.bad
end Fm
namespace Fm
open PySem PySem.Spec L2 PyProof.Rows
section
variable {X:Cx} {pos p:Pos}
theorem sT {K:ZX}{ρ:List Addr}{H:Hp}:∀{l:List D} {a:List V} {ss:List (List Nat)},RDs K ρ H l a->jJ l=some ss->a=ss.map λx=>V.str (toS x)
 | [],_,is,r,e=>by simp only[jJ]at e;cases e;simp only[RDs]at r;subst r;rfl
 | d :: l,_,is,r,e=>by
  simp only[RDs]at r;obtain⟨v,a,rfl,b,f⟩:=r;cases d<;>simp only[jJ]at e<;>try (cases e;done)
  rename_i i
  cases c:jJ l with
  | none=>rw[c]at e;cases e
  | some js =>
   rw[c]at e;cases e;simp only[RD]at b;rw[b,sT f c];rfl
theorem lD:∀{ss:List (List Nat)} {a:List T0},bi (ss.map λx=>V.str (toS x)) a->StrsAre a (ss.map toS)
 | [],_,.nil=>.nil
 | x :: ss,_,.cons r t=>by obtain⟨k,rfl⟩:=r;exact .cons _ _ (lD t)
theorem j5 (a b:List Nat):(toS a++toS b:Str)=toS (a++b):=by
 show (⟨a.toArray++b.toArray⟩ : Str)=⟨(a++b).toArray⟩;rw[List.append_toArray]
theorem zw:∀ss:List (List Nat),Str.join (toS []) (ss.map toS)=toS ss.flatten
 | []=>rfl
 | [x]=>by rw[YR,List.flatten_nil,YT];rfl
 | x :: y :: r=>by
  have a:=zw (y :: r);show toS x++toS []++Str.join (toS []) ((y :: r).map toS)=_;rw[a,j5,j5,YT,<-List.flatten_cons]
theorem zx (ss:List (List Nat)):Txt.join (toS []) (ss.map toS)=toS ss.flatten:=(StrLaws.glued_eq_join _ _).trans (zw ss)
def Ow (K:ZX):V->List V->Hp->VK->Prop:=λx vs H Q=>∃(q:Addr) (ss:List (List Nat)),x=.str (toS [])/\vs=[.ref q]/\(SqL K H q (ss.map λx=>V.str (toS x))\/H q=some (.tup (ss.map λx=>V.str (toS x))))/\(ss.map (·.length)).sum<=1000000/\Q (.str (toS ss.flatten)) H
theorem JH:MtR X "str.join" (Ow X.K):=by
 intro pins s σ H x o v n Q I m j h;obtain⟨q,ss,rfl,rfl,b,w,f⟩:=h;obtain⟨t,rfl⟩:=m;obtain⟨u,rfl,g⟩:=j.one;cases (show u=Value.ref q from g);have e:((ss.map toS).map (·.length)).sum + (ss.map toS).length * (toS []).length<=16777216:=by
  have:((ss.map toS).map (·.length))=ss.map (·.length):=by rw[Z7];apply YE;intro a _;simp[toS,Str.length]
  rw[this];show _ + _ * 0<=_;omega
 rcases b with b|b
 ·obtain⟨c,r,i,_⟩:=I.list b
  exact join_list i.isList (by rw[WM];exact lD r) e λd k=>⟨.str (toS ss.flatten),H,I.tok k,⟨d,by rw[zx]⟩,f⟩
 ·obtain⟨_,c,r,l⟩:=I.hok q _ b
  exact join_tuple l (by rw[WM];exact lD r) e λd k=>⟨.str (toS ss.flatten),H,I.tok k,⟨d,by rw[zx]⟩,f⟩
theorem Dw {e:Expr} {L:LF} {apos a p1:Pos} {j} {x:Str} (o:x=toS []) (he:MQ X e L) (b:attributeBase (.Constant (.str x) j p1) "join" X.env (eval (.Constant (.str x) j p1) X.env)=eval (.Constant (.str x) j p1) X.env:=by rfl)
  (f:((backTo a (starEach [e] X.env)).all (λx => !x.1) && (backToKw a (keywordEach [] X.env)).all (λx=>x.1.isSome)
   && decide (([e] : List Expr).length + ([] : List Keyword).length + (if ([] : List Keyword).isEmpty then 0 else 1) < 30))=true:=by rfl)
  (d:(apos.endLine == a.line)=true:=by rfl) (i:starEach [e] X.env=(false,eval e X.env) :: starEach [] X.env:=by rfl) :
  ME X (.Call (.Attribute (.Constant (.str x) j p1) "join" apos) [e] [] a) (zv L):=by
 refine PE.imp (sB X8 PySem.F.slot_str_join PySem.F.type_str_join JH wO (cw he dI i) b f d i) λσ H Q ⟨ρ,σd,hd,s,k⟩=>⟨rfl,ρ,σd,hd,s,(bx.bind (R:=rQ X.K) k).imp λv H1 ⟨m,l,n,w,g,⟨q,u,r,t,h⟩,p1⟩ => ?_⟩;subst r;cases c:jJ l with
 | none=>simp only[c]at p1;exact p1.elim
 | some ss =>
  simp only[c]at p1;split at p1
  ·rename_i hz
   have e:=sT h c;subst e;exact⟨q,ss,by rw[o],rfl,t,hz,p1.here g (by simp only[rD,RD])⟩
  ·exact p1.elim
end
end Fm
namespace L2
open PySem PySem.Spec PyProof.Rows
def Its (x:Str):It:=⟨λi _=>i < x.cps.size,λi H v H'=>H'=H/\∃c,x.cps[i]? = some c/\v=.str ⟨#[c]⟩,λi _=>x.cps.size<=i⟩
theorem G9 {P:T5} {w:T6} {K:ZX} {tg:Expr} (it:Addr) (x:Str) (t:Tok):yW P w K tg (Its x) [it] it (λi h=>h.IsStrIter it "str_ascii_iterator" x t i) where
 mem:=by simp
 obj:=λi h st b f=>by
  have e:b=it:=by simpa using f
  subst e;obtain⟨o,e,c,d⟩:=st;exact⟨o,e,λv z=>by rw[d]at z;cases z⟩
 keep:=λi h h' st k=>let ⟨o,ho,r⟩:=st;⟨o,k it (by simp) o ho,r⟩
 item:=by
  intro X l hw y hc i pins s σ H E I j st a;subst l hw y;obtain⟨m,q,F,u,p,n⟩:=j it (by simp);have a:i < x.cps.size:=a;have A:x.cps[i]? = some x.cps[i]:=Array.getElem?_eq_getElem a;refine wpAny_pyNext_ascii_item st A λh' g D => ?_;have B:Inv X pins σ H { s with heap:=h',toks:=s.toks + 1 }:=I.turned (λb o f e=>(D.2 b f).trans e) m q u p n;obtain⟨o,e,c,d⟩:=id g;exact⟨_,rfl,C2 (s:={ s with heap:=h',toks:=s.toks + 1 }) e c d (by decide) ⟨.str ⟨#[x.cps[i]]⟩,H,B,⟨_,rfl⟩,⟨rfl,_,A,rfl⟩,g,λb f=>(j b f).1⟩⟩
 done:=by
  intro X l hw y hc i pins s σ H E I j st a;subst l hw y;obtain⟨m,q,F,u,p,n⟩:=j it (by simp);have a:x.cps.size<=i:=a;exact wpAny_pyNext_ascii_end (I.ok.hd hc) st (Array.getElem?_eq_none a) λh' C=>⟨rfl,I.turned (t':=s.toks) (λb o f e=>C b o f e) m q u p n⟩
 self:=λ_ _ _ _ _ st h=>wpAny_pyIter_striter_ascii st h
section
variable {X:Cx} {tg:Expr}
theorem MD {l:Expr}{tl:TE}(d:PE X l tl):PI X tg l (λσ H R=>tl σ H λv H1=>∃x:Str,v=.str x/\x.cps.all (· < 128)=true/\R (Its x) H1):=by
 intro pins s σ H R I h;refine thn (d pins s σ H _ I h) λv a ⟨y,H1,c,i,q1⟩ => ?_;obtain⟨x,e,g,q⟩:=q1;subst e;obtain⟨t,rfl⟩:=i;refine wpAny_pyIter_ascii g ?_;refine⟨a.heap.objs.size,[a.heap.objs.size],_,_,H1,rfl,c.kept (t':=a.toks) λb o e=>ZH _ e,G9 _ x t,⟨_,ZJ _ rfl,rfl,rfl⟩,λb f => ?_,q⟩;have e:b=a.heap.objs.size:=by simpa using f
 subst e;exact c.fpOk (ZL _) (c.hok.fresh (ZL _))
end
end L2
namespace Fm
open PySem PySem.Spec L2 PySem.W PyProof.Rows
section
variable {X:Cx} {pos p:Pos} {tg:Expr}
theorem xp:(1000000:Nat)<=sizeLine:=by rw[YK];decide
theorem Ha {K:ZX}{ρ:List Addr}{H:Hp}(l:List Nat)(hz:l.length<=1000000):sI K ρ H (Its (toS l)) (l.map λc=>D.str [c]) none where
 go:=λρ' H' hd' i d ex b _ hi=>by
  have a:i < l.length:=by
   have:=(List.getElem?_eq_some_iff.mp hi).1;simpa using this
  refine⟨by show i < (l.toArray).size;rw[x8];exact a,λx f y => ?_⟩;obtain⟨rfl,c,hc,rfl⟩:=y;have hc:l[i]? = some c:=by
   have:l.toArray[i]? = some c:=hc;simpa using this
  have e:d=.str [c]:=by
   rw[ZQ,hc]at hi;exact(ZT hi).symm
  subst e;exact⟨jr.refl _,by simp only[RD];rfl⟩
 stop:=λρ' H' hd' ex b _=>by
  show (l.toArray).size<=_;simp
 sz:=by
  have:=xp;simp;omega
theorem xq {e:Expr}{f:EF}(h:ME X e f):MI X tg e (sS f):=by
 refine PI.imp (MD h) λσ H R ⟨ρ,σd,hd,i,p⟩=>⟨ρ,σd,hd,i,?_⟩;unfold sS at p;cases e:f σd hd with
 | exc x h1=>rw[e]at p;exact p
 | bad=>rw[e]at p;exact p
 | ok d hd1 =>
  rw[e]at p;simp only[ay]at p;intro v H1 b c a g;cases d<;>try exact p.elim
  rename_i l
  simp only at p;simp only[rD,RD]at g;split at p
  ·rename_i hb
   exact⟨toS l,g,by show (l.toArray).all (· < 128)=true;rw[List.all_toArray];exact hb.2,p _ H1 b c a (Ha l hb.1)⟩
  ·exact p.elim
def Ox:R2:=λx y H Q=>∃i j:Str,x=.str i/\y=.str j/\i.length + j.length<=sizeLine/\Q (.str (i++j)) H
theorem ed (a:List Nat):(toS a).length=a.length:=by
 show a.toArray.size=_;rw[x8]
theorem JI {K:ZX}:Og K dj Ox:=by
 intro ρ H σd hd σ d k v w Q g f e c;cases d<;>try exact c.elim
 cases k<;>try exact c.elim
 rename_i a b
 simp only[RD]at f e;simp only[dj]at c;split at c
 ·rename_i hb
  refine⟨toS a,toS b,f,e,by rw[ed,ed];exact ZM hb xp,?_⟩;rw[j5];exact c.here g (by simp only[rD,RD])
 ·exact c.elim
theorem jf {a b:Expr}{fa c:EF}(d:ME X a fa)(e:ME X b c):ME X (.BinOp a .Add b pos) (af dj fa c):=aU A6 JI d e
theorem MH {a b:Expr}{fa o:EF}(q:ME X a fa)(m:ME X b o)(r:rL b):ME X (.Subscript a b pos) (JG fa o):=by
 refine me2 (a:=a) (b:=b) (g:=MC) (Gr Gs q m r) λρ H σd hd σ d k v w Q t n h f => ?_;cases d<;>try exact f.elim
 cases k<;>try exact f.elim
 rename_i l i
 simp only[RD]at n h;simp only[MC]at f;split at f
 ·rename_i m
  cases e:ixN l.length i with
  | none=>rw[e]at f;exact f.elim
  | some j =>
   rw[e]at f;simp only at f;cases e2:l[j]? with
   | none=>rw[e2]at f;exact f.elim
   | some c =>
    rw[e2]at f;refine⟨toS l,i,c,n,h,by rw[ed];exact ZM m xp,?_,f.here t (by simp only[rD,RD];rfl)⟩;have s:L2.ixN (toS l).cps.toList.length i=some j:=by
     have:(toS l).cps.toList=l:=rfl;rw[this];exact e
    show (L2.ixN (toS l).cps.toList.length i).bind _=_;rw[s];exact e2
 ·exact f.elim
theorem JJ {a:Expr} {fa:EF} (f:Gl X "len") (hm:X.mg "len" = none) (i:ME X a fa) (e:starEach [a] X.env=(false,eval a X.env) :: starEach [] X.env:=by rfl):ME X (.Call (.Name "len" p) [a] [] pos) (Dv fa):=by
 refine vG (g:=λx h=>match x with | .str l=>if l.length<=1000000 then .ok (.int l.length) h else .bad|_=>.bad) (y8 wV f hm PySem.boot_len (he:=e)) i (λρ H σd hd σ d v Q j c b => ?_) e;cases d<;>try exact b.elim
 rename_i l
 simp only[RD]at c;simp only at b;split at b
 ·rename_i hb
  refine⟨toS l,by rw[c],by rw[ed];exact ZM hb xp,?_⟩;rw[ed];exact b.here j (by simp only[rD,RD])
 ·exact b.elim
theorem MK (l:List Nat)(c:Nat):(!(Builtin.Str.occurrences (toS l) (toS [c]) 0 (toS l).length 1).isEmpty)=decide (c∈l):=StrLaws.found_one (toS l) c
theorem ML {K:ZX}:Og K EG (λx y H Q=>∃i j:Str,x=.str i/\y=.str j/\Q (.bl (!(Builtin.Str.occurrences j i 0 j.length 1).isEmpty)) H):=by
 intro ρ H σd hd σ d k v w Q g f e b;cases d<;>try exact b.elim
 rename_i a
 rcases a with _|⟨c,_|⟨c2,r⟩⟩
 ·exact b.elim
 ·cases k<;>try exact b.elim
  rename_i l
  simp only[RD]at f e;refine⟨toS [c],toS l,f,e,?_⟩;rw[MK];exact b.here g (by simp only[rD,RD])
 ·exact b.elim
theorem MN {a b:Expr}{fa c:EF}(d:ME X a fa)(e:ME X b c)(hm:behindInMarks .In b=false):ME X (.Compare a [.In] [b] pos) (af EG fa c):=dL Ef ML d e hm
end
end Fm
namespace L2
open PySem PySem.Spec PyProof.Rows PySem.W PySem.Builtin PySem.Builtin.ObjectAttr PySem.Builtin.Getset_descriptor
structure P6 (K:ZX) (D:Addr):Prop where
 ga:PySem.W.findIn K (.ref D) "__getattribute__" = some (some (.builtin "BaseException.__getattribute__"))
 gt:PySem.W.findIn K (.ref D) "__getattr__" = some none
 cl:PySem.W.findIn K (.ref D) "__class__" = some (some (.builtin "object.__class__"))
 be:PySem.W.subIn K (.ref D) (.type "BaseException")=some true
 ob:PySem.W.mroIn K D (.type "object")=some true
 is:(PySem.W.clsIn K D).isSome=true
section
variable {prog:T5} {w:T6} {A:T4} {E:T0->T3->Prop} {K:ZX} {D:Addr} {h:Heap} {g:Array GenState} {d:Drawn} {t:Nat} {os:OsState} {a:Addr} {o:Obj} {vs:Array T0}
end
end L2
namespace L2
open PySem PySem.Spec PyProof.Rows
section
variable {P:T5} {w:T6} {H:Hp} {h:Heap} {a:Addr} {o:HO}
end
structure Cov (X:Cx) (pins:List (Addr × Obj)) (H:Hp) (B:Heap):Prop where
 trk:∀b u,H b=some u->∃o,B.get? b=some o
 old:∀b o,X.s₀.heap.get? b=some o->b∉frs X.stack->b∉X.ex->∃o,B.get? b=some o
 pin:∀p∈X.pn++pins,∃o,B.get? p.1=some o
section
variable {X:Cx} {pins:List (Addr × Obj)} {σ:St} {H:Hp} {s:T3} {B h':Heap}
def XAt (X:Cx) (pins:List (Addr × Obj)) (σ:St) (H:Hp) (a C:Addr) (s':T3):Prop :=
 (∃s1 h' vs,Inv X pins σ H s1/\Heap.MadeExcOf s1.heap h' a (.ref C) vs/\s' = { s1 with heap:=h' })\/
 (∃B t,Inv X pins σ H s'/\Heap.FlyingW B X.stack a (.ref C) (.ref t) s'.heap/\Cov X pins H B)
def XP (X:Cx) (E:Addr->Hp->Prop) (e:T0) (s':T3):Prop:=∃pins σ H a C,e=.ref a/\XAt X pins σ H a C s'/\E C H
def CX1 (P:T5) (w:T6):CXT:=λouter H s E e s'=>∃a C B t H',e=.ref a/\s'.os=s.os/\AllBare s'.gens/\Un (frs outer) [] H H' s.heap s'.heap/\HOk P w H' s'.heap/\
 Heap.FlyingW B outer a (.ref C) (.ref t) s'.heap/\(∀b u,H' b=some u->∃o,B.get? b=some o)/\(∀b o,s.heap.get? b=some o->b∉frs outer->∃o,B.get? b=some o)/\E (.ref C) none H'
end
section
variable {X:Cx} {E:Addr->Hp->Prop} {x:Str} {C:Addr} {bm:List T0} {B newId initId:String} {np cpos pos:Pos} {e₀ : Expr} {rest:List Expr} {ta:TA}
end
section
variable {P:T5} {w:T6} {K:ZX} {mg:Str->Option T0} {base:Heap}
end
section
variable {X:Cx} {pins:List (Addr × Obj)} {σ:St} {H:Hp} {s:T3}
end
section
variable {X:Cx} {body:List Stmt} {x n c:Str} {M:Addr} {i j:Nat} {np cp vp ap hp pos:Pos} {tb:(Addr->Hp->Prop)->TS}
end
end L2
namespace Fm
open PySem PySem.Spec L2 PyProof.Rows
section
variable (K:ZX) (mg:Str->Option T0)
def spX (F:Fn) (np:Nat):Sp:=λvs H _ E=>∃ρ hd ds,RH K ρ H hd/\RDs K ρ H ds vs/\ds.length=np/\
 ∃c l hd' C,F ds hd=.exc (.exn c l) hd'/\mg (Str.ofString c)=some (.ref C)/\∀H' ρ',Ext ρ H ρ' H'->RH K ρ' H' hd'->E (.ref C) none H'
end
section
variable {K:ZX} {mg:Str->Option T0} {ρ ρ':List Addr} {H H':Hp} {E:Addr->Hp->Prop} {En:wN}
end
abbrev Wi:=(Addr->Hp->Prop)->T0->T3->Prop
structure P7 (P:T5) (w:T6) (K:ZX) (mg:Str->Option T0) (base:Heap) (x:Str) (k np:Nat) (F:Fn):Prop where
 ex:∃f fd ps,mg x=some (.ref f)/\PySem.W.keepIn K (.ref f)=true/\iK K fd ps []/\bC P w K mg base (CX1 P w) k f fd ps (spX K mg F np)
section
variable {X:Cx} {R:Wi} {pos p:Pos}
end
section
variable {P:T5} {w:T6} {K:ZX} {mg:Str->Option T0} {base:Heap}
end
section
variable {X:Cx} {pos p:Pos}
end
end Fm
namespace L2
open PySem PySem.Spec PyProof.Rows
end L2
namespace Fm
open PySem PySem.Spec L2 PyProof.Rows
section
variable (K:ZX) (mg:Str->Option T0)
def XC (ρ:List Addr) (H:Hp) (E:Addr->Hp->Prop) (x:D) (hd:Hd):Prop:=∃c l C,x=.exn c l/\mg (Str.ofString c)=some (.ref C)/\∀H' ρ',Ext ρ H ρ' H'->RH K ρ' H' hd->E C H'
def Oy {α β : Type} (R:VR α β) (ρ:List Addr) (H:Hp) (σd:Sd) (σ:L2.St) (r:Res α) (E:Addr->Hp->Prop) (Q : β->Hp->Prop):Prop:=match r with
 | .ok a hd'=>∀b H' ρ',Ext ρ H ρ' H'->RS K ρ' H' σd hd' σ->R ρ' H' a b->Q b H'
 | .exc x hd'=>XC K mg ρ H E x hd'
 | .bad=>False
def Oz {α β : Type} (R:VR α β) (E:Addr->Hp->Prop) (f:Sd->Hd->Res α):L2.St->Hp->(β->Hp->Prop)->Prop:=λσ H Q=>∃ρ σd hd,RS K ρ H σd hd σ/\Oy K mg R ρ H σd σ (f σd hd) E Q
def spY (F:Fn) (np:Nat):Sp:=λvs H Q E=>∃ρ hd ds,RH K ρ H hd/\RDs K ρ H ds vs/\ds.length=np/\match F ds hd with
 | .ok d hd'=>∀v H' ρ',Ext ρ H ρ' H'->RH K ρ' H' hd'->RD K ρ' H' d v->Q v H'
 | .exc x hd'=>XC K mg ρ H (λC H'=>E (.ref C) none H') x hd'
 | .bad=>False
end
section
variable {K:ZX} {mg:Str->Option T0} {ρ ρ':List Addr} {H H':Hp} {E:Addr->Hp->Prop} {σd:Sd} {σ:L2.St} {hd:Hd} {α β α' β':Type} {R:VR α β} {R':VR α' β'}
end
def NE (X:Cx) (E:Addr->Hp->Prop) (e:Expr) (f:EF):Prop:=PE X e (Oz X.K X.mg (rD X.K) E f)
structure P8 (P:T5) (w:T6) (K:ZX) (mg:Str->Option T0) (base:Heap) (x:Str) (k np:Nat) (F:Fn):Prop where
 ex:∃f fd ps,mg x=some (.ref f)/\PySem.W.keepIn K (.ref f)=true/\iK K fd ps []/\bC P w K mg base (CX1 P w) k f fd ps (spY K mg F np)
section
variable {X:Cx} {E:Addr->Hp->Prop} {pos p:Pos}
end
end Fm
namespace L2
open PySem PySem.Spec PyProof.Rows
section
variable {X:Cx} {E:Addr->Hp->Prop} {e:T0} {s':T3} {R:T0->T3->Prop}
end
end L2
namespace Fm
open PySem PySem.Spec L2 PyProof.Rows
section
variable {X:Cx} {E:Addr->Hp->Prop} {pos p:Pos}
end
section
variable {P:T5} {w:T6} {K:ZX} {mg:Str->Option T0} {base:Heap}
end
section
variable {X:Cx} {pos p:Pos}
end
section
variable {X:Cx} {pos p:Pos}
def spM (C:Addr):Sp:=λvs H Q _=>∃a,vs=[.ref a]/\H a=some (KQ a C)/\∀H',jr H H'->Q (.bl true) H'
structure P9 (P:T5) (w:T6) (K:ZX) (mg:Str->Option T0) (base:Heap) (x:Str) (k:Nat) (C:Addr):Prop where
 ex:∃f fd ps,mg x=some (.ref f)/\PySem.W.keepIn K (.ref f)=true/\iK K fd ps []/\bC P w K mg base CX0 k f fd ps (spM C)
end
end Fm
namespace L2
open PySem PySem.Spec PyProof.Rows
section
variable {X:Cx} {pos p:Pos} {e:Expr} {es:List Expr}
abbrev TJ:=Str->St->Hp->VK->Prop
def PJ (X:Cx) (es:List Expr) (t:TJ):Prop:=∀(out:Str) (pins:List (Addr × Obj)) (s:T3) (σ:St) (H:Hp) (Q:VK),Inv X pins σ H s->t out σ H Q->wpAny (model X.prog X.w) X.A (joinParts out (evalEach es X.env)) (EP X pins σ Q) X.xe s
theorem MP:PJ X [] (λa σ H Q=>a.length<=sizeLine/\Q (.str a) H):=λa pins s σ H Q I ⟨b,q⟩=>joinParts_nil ⟨.str a,H,I.tok _,⟨_,rfl⟩,q⟩ b
theorem JK {te:TE}{t:TJ}(he:PE X e te)(f:PJ X es t)(i:evalEach (e :: es) X.env=eval e X.env :: evalEach es X.env:=by rfl):PJ X (e :: es) (λa σ H Q=>te σ H λv H1=>∃y:Str,v=.str y/\(a++y).length<=sizeLine/\t (a++y) σ H1 Q):=by
 intro a pins s σ H Q I h;rw[i];refine joinParts_cons (thn (he pins s σ H _ I h) λv g ⟨x,H1,d,j,y,b,c,q⟩ => ?_);subst b;obtain⟨k,rfl⟩:=j;exact⟨c,f (a++y) pins g σ H1 Q d q⟩
theorem JL {t:TJ}{a:Expr}(h:PJ X (e :: a :: es) t):PE X (.JoinedStr (e :: a :: es) pos) (λσ H Q=>t Str.empty σ H Q):=by
 intro pins s σ H Q I q;exact JoinedStr_many (h Str.empty pins s σ H Q I q)
theorem MR {te:TE}(he:PE X e te):PE X (.FormattedValue e (-1) none pos) (λσ H Q=>te σ H λv H1=>∃i:Int,v=.int i/\i.natAbs.log2 < 1920/\Q (.str (toString i)) H1):=by
 intro pins s σ H Q I h;refine FormattedValue_plain (thn (he pins s σ H _ I h) λv d ⟨x,H1,a,b,i,c,hd,q⟩ => ?_);subst c;obtain⟨f,rfl⟩:=b;exact formatField_int_small hd ⟨.str (toString i),H1,a.tok _,⟨_,rfl⟩,q⟩
end
end L2
namespace Fm
open PySem PySem.Spec L2 PySem.W PyProof.Rows
section
variable {X:Cx} {pos p:Pos} {e:Expr} {es:List Expr}
def MJ (X:Cx) (es:List Expr) (r:JF):Prop:=PJ X es (λout σ H Q=>∃l,out=toS l/\k8 X.K (rD X.K) (r l) σ H Q)
theorem Hb:MJ X [] Bw:=λb pins s σ H Q I ⟨l,e,ρ,σd,hd,c,a⟩=>by
 unfold Bw at a;split at a
 ·rename_i hb
  subst e;exact MP _ pins s σ H Q I ⟨by rw[ed];exact ZM hb xp,a.here c (by simp only[rD,RD])⟩
 ·exact a.elim
theorem gE {a:EF}{r:JF}(he:ME X e a)(m:MJ X es r)(n:evalEach (e :: es) X.env=eval e X.env :: evalEach es X.env:=by rfl):MJ X (e :: es) (fj a r):=λk pins s σ H Q I ⟨l,j,ρ,σd,hd,o,i⟩=>by
 subst j;refine JK he m n _ pins s σ H Q I ⟨ρ,σd,hd,o,(bx.bind (R:=rD X.K) i).imp λv H1 ⟨c,d,g,q,f,h,b⟩ => ?_⟩;cases d<;>try exact b.elim
 rename_i y
 simp only[rD,RD]at h;simp only at b;split at b
 ·rename_i hb
  refine⟨toS y,h,?_,l++y,j5 l y,c,σd,g,f,b⟩;rw[j5,ed,ZB];exact ZM hb xp
 ·exact b.elim
theorem KW {a:Expr}{r:JF}(h:MJ X (e :: a :: es) r):ME X (.JoinedStr (e :: a :: es) pos) (fFs r):=PE.imp (JL h) λσ H Q q=>⟨[],rfl,q⟩
theorem Hc {a:EF}(he:ME X e a):ME X (.FormattedValue e (-1) none pos) (fw a):=by
 refine PE.imp (MR he) λσ H Q ⟨ρ,σd,hd,k,g⟩=>⟨ρ,σd,hd,k,(bx.bind (R:=rD X.K) g).imp λv H1 ⟨h,d,j,l,c,f,b⟩ => ?_⟩;cases d<;>try exact b.elim
 rename_i i
 simp only[rD,RD]at f;simp only at b;split at b
 ·rename_i hz
  exact⟨i,f,hz,b.here c (by simp only[rD,RD];rw[XF];rfl)⟩
 ·exact b.elim
end
end Fm
namespace HT
open PySem PySem.Spec
end HT
namespace L2
open PySem PySem.Spec PyProof.Rows
section
variable {X:Cx}
def PK:V->Option Int->Option Int->Hp->VK->Prop:=λx lo hi H Q=>∃(z:Str) (y:List Nat),x=.str z/\z.length<=sizeLine/\Fm.Bz z.cps.toList lo hi=some y/\Q (.str ⟨y.toArray⟩) H
theorem He {x:Str}{j:Int}(h:0<=j/\j<=x.cps.toList.length):Txt.slice x none (some j)=⟨(x.cps.toList.take j.toNat).toArray⟩:=by
 have:=eq_of_beq (slice_closes_to h);rw[this];simp
theorem BA {x:Str}{i:Int}(h:0<=i/\i<=x.cps.toList.length):Txt.slice x (some i) none=⟨(x.cps.toList.drop i.toNat).toArray⟩:=by
 have:=eq_of_beq (slice_closes_from h);rw[this];congr 2;exact X9 (by rw[List.length_drop];omega)
theorem MU:SlR X PK:=by
 intro pins s σ H x v n o lo hi p Q I m f g d h;obtain⟨z,y,rfl,c,a,q⟩:=h;obtain⟨t,rfl⟩:=m;refine⟨"str",_,slot_str_getitem.lookup,WT _ _ _,?_⟩;cases g with
 | none =>
  cases d with
  | none=>cases a
  | int j tj =>
   simp only[Fm.Bz]at a;split at a
   ·rename_i hb
    cases a;have e:=He (x:=z) hb;exact wpAny_getItem_str_slice (l:=none) (u:=some (j,tj)) (st:=none) f rfl (post_val_or_str ⟨ZM (Txt.slice_le z _ _) c,λb k=>⟨.str ⟨(z.cps.toList.take j.toNat).toArray⟩,H,I.tok k,⟨b,by rw[<-e];rfl⟩,q⟩⟩)
   ·cases a
 | int i ti =>
  cases d with
  | int j tj=>cases a
  | none =>
   simp only[Fm.Bz]at a;split at a
   ·rename_i hb
    cases a;have e:=BA (x:=z) hb;exact wpAny_getItem_str_slice (l:=some (i,ti)) (u:=none) (st:=none) f rfl (post_val_or_str ⟨ZM (Txt.slice_le z _ _) c,λb k=>⟨.str ⟨(z.cps.toList.drop i.toNat).toArray⟩,H,I.tok k,⟨b,by rw[<-e];rfl⟩,q⟩⟩)
   ·cases a
end
end L2
namespace Fm
open PySem PySem.Spec L2 PySem.W PyProof.Rows
section
variable {X:Cx} {pos p:Pos}
theorem EH {a:Expr}{fa:EF}{lo hi:Option Expr}{o n:OF}{p2:Pos}(A:ME X a fa)(s:MO X lo o)(q:MO X hi n):ME X (.Subscript a (.Slice lo hi none p2) pos) (rS fa o n):=by
 refine PE.imp (sw MU A s q) λσ H Q ⟨ρ,σd,hd,E,m⟩ => ?_;unfold rS at m;refine⟨ρ,σd,hd,E,(bx.bind (R:=rD X.K) m).imp λv H1 ⟨g,d,i,J,c,x,C⟩ => ?_⟩;refine⟨g,σd,i,c,(bx.bind (R:=rO) C).imp λD G ⟨h,z,k,u,b,q2,p2⟩ => ?_⟩;cases q2;refine⟨h,σd,k,b,(bx.bind (R:=rO) p2).imp λr I ⟨F,B,t,w,j,q3,p3⟩ => ?_⟩;cases q3;have f:=(x.mono (c.hp.kp u)).mono (b.hp.kp w);cases d with
 | str l =>
  simp only[RD]at f;simp only at p3;split at p3
  ·rename_i hb
   cases e:Bz l D r with
   | none=>rw[e]at p3;exact p3.elim
   | some y =>
    rw[e]at p3;exact⟨toS l,y,f,by rw[ed];exact ZM hb xp,e,p3.here j (by simp only[rD,RD];rfl)⟩
  ·exact p3.elim
 | _=>exact p3.elim
end
variable {l:List Nat}
section
variable {X:Cx} {pos p p2:Pos}
theorem Hf {x:Str} {y:Str} {t:Tok} (l:List Nat) (h:y=toS l) (a:Gl X x) (hm:X.mg x=some (.str y t)) (hd:(x == ("__debug__" : Str))=false:=by decide):ME X (.Name x pos) (fC (.str l)) :=
 PE.imp (mn (v:=.str y) a hm ⟨t,rfl⟩ hd) (pc λ_ _=>by simp only[RD];rw[h])
theorem io {a:Expr} {fa:EF} (e:Gl X "str") (hm:X.mg "str" = none) (f:ME X a fa) (c:starEach [a] X.env=(false,eval a X.env) :: starEach [] X.env:=by rfl):ME X (.Call (.Name "str" p) [a] [] pos) (fw fa):=by
 refine vG (g:=λx h=>match x with | .int i=>if i.natAbs.log2 < 1920 then .ok (.str (mQ (toString i))) h else .bad|_=>.bad) (y9 wQ e hm (by decide +kernel) (he:=c)) f (λρ H σd hd σ d v Q j b p => ?_) c;cases d<;>first|exact p.elim|skip
 rename_i i
 simp only[RD]at b;subst b;simp only at p;split at p
 ·rename_i hz
  exact⟨i,rfl,hz,p.here j (by simp only[rD,RD];rw[XF];rfl)⟩
 ·exact p.elim
theorem my (l:List Nat):(toS l).cps.toList=l:=by simp[toS]
theorem Dx (h:Ez l=true):NumText.AllDigits l/\l≠[]:=by
 simp only[Ez,Z3,Bool.not_eq_true',List.all_eq_true,YH]at h;exact⟨h.2,λe=>by rw[e]at h;simp at h⟩
theorem JM {n:Int}(hz:l.length<=600)(h:nh l=some n):PySem.intText? (toS l)=some n:=by
 cases l with
 | nil=>cases h
 | cons c r =>
  have d:(toS (c :: r)).length<=4300:=by rw[ed];omega
  rw[nh]at h;split at h
  ·rename_i e
   subst e;split at h
   ·rename_i f
    obtain⟨b,a⟩:=Dx f;cases h;exact PySem.intText_neg (my _) b a d
   ·cases h
  ·split at h
   ·rename_i f
    obtain⟨b,a⟩:=Dx f;cases h;have:=PySem.intText_digits (x:=toS (c :: r)) (by rw[my];exact b) (by rw[my];exact a) d;rw[my]at this;exact this
   ·cases h
theorem EI:gf X (.type "int") (λxs H Q=>∃(l:List Nat) (n:Int),xs=[.str (toS l)]/\l.length<=600/\nh l=some n/\Q (.int n) H):=by
 intro pins s σ H xs f Q I r h;obtain⟨l,n,rfl,c,a,q⟩:=h;obtain⟨u,rfl,d⟩:=bi.one r;obtain⟨t,rfl⟩:=d;refine KIN.call_text (JM c a) (by rw[ed];omega) ⟨.int n,H,?_,⟨_,rfl⟩,q⟩;exact I.kept (t':=s.toks + 1) λb o e=>e
theorem j6 {a:Expr} {fa:EF} (f:Gl X "int") (hm:X.mg "int" = none) (i:ME X a fa) (e:starEach [a] X.env=(false,eval a X.env) :: starEach [] X.env:=by rfl):ME X (.Call (.Name "int" p) [a] [] pos) (gM fa):=by
 refine vG (g:=λx h=>match x with | .str l=>if l.length<=600 then (match nh l with|some n=>.ok (.int n) h|none=>.bad) else .bad|_=>.bad) (y9 EI f hm (by decide +kernel) (he:=e)) i (λρ H σd hd σ d v Q j b p => ?_) e;cases d<;>first|exact p.elim|skip
 rename_i l
 simp only[RD]at b;subst b;simp only at p;split at p
 ·rename_i hz
  cases c:nh l with
  | none=>rw[c]at p;exact p.elim
  | some n=>rw[c]at p;exact⟨l,n,rfl,hz,c,p.here j (by simp only[rD,RD])⟩
 ·exact p.elim
def KY:Option Int->KTD.Dat
 | some i=>.flat (.int i)
 | none=>.flat .none
def vT (T:Tab):List (Str × KTD.Dat):=T.map λp=>(toS p.1,KY p.2)
def sU (K:ZX) (a:Addr) (T:Tab):Prop:=KTD.tabLook (KTD.datLooks λb=>K.lookup b) (λb=>K.lookup b) a (vT T)=true
theorem ox {k:List Nat}:toS l=toS k ↔ l=k:=⟨λe=>by rw[<-my l,e,my],λe=>by rw[e]⟩
theorem xr:∀(T:Tab) (l:List Nat),KTD.inKeys (toS l) (vT T)=(je T l).isSome
 | [],_=>rfl
 | (k,d) :: T,l=>by
  have b:=xr T l;show (decide (toS l=toS k) || KTD.inKeys (toS l) (vT T))=_;rw[b];unfold je;rw[Z2]
  by_cases e:l=k
  ·subst e;simp
  ·have a:(l == k)=false:=by simpa using e
   rw[a,wL (λz=>e (ox.mp z))];rfl
theorem Dy {h:Heap}{P:T0->Prop}{l:List Nat}:∀{T:Tab} {d:Option Int},je T l=some d->(∀v,bT (match d with|some i=>V.int i|none=>V.non) v->P v)->KTD.EachL h (toS l) P (vT T)
 | [],_,e,_=>by cases e
 | (k,d') :: T,d,e,q=>by
  unfold je at e;rw[Z2]at e;have op:l=k->KTD.Opened h P (KY d'):=λz=>by
   subst z;rw[show (l == l)=true by simp]at e;cases e;cases d' with
   | none=>exact q _ rfl
   | some i=>exact λt=>q _ ⟨t,rfl⟩
  cases T with
  | nil=>exact λz=>op (ox.mp z)
  | cons x T =>
   show if decide (toS l=toS k)=true then _ else _
   by_cases z:l=k
   ·rw[z4 (by rw[z];simp)];exact op z
   ·rw[z5 (by simpa using λy=>z (ox.mp y))]
    have a:(l == k)=false:=by simpa using z
    rw[a]at e;exact Dy (T:=x :: T) (d:=d) e q
theorem Dz {pins:List (Addr × Obj)}{σ:L2.St}{H:Hp}{s:T3}{a:Addr}{T:Tab}(I:Inv X pins σ H s)(t:sU X.K a T):KTD.Here s.heap s.heap a (vT T):=⟨PySem.W.kt_text_in I.kIn t,λ_ _ e=>e⟩
theorem EJ {a:Addr}{T:Tab}(t:sU X.K a T):OpR X (compareOp .NotIn) (λx y H Q=>∃l,x=.str (toS l)/\y=.ref a/\Q (.bl (je T l).isNone) H):=by
 intro pins s σ H x y v u Q I d c h;obtain⟨l,rfl,rfl,q⟩:=h;obtain⟨tk,rfl⟩:=d;cases (show u=Value.ref a from c);refine KTD.notin_text (Dz I t) ⟨.bl (je T l).isNone,H,I.kept (t':=s.toks + 1) λb o e=>e,?_,q⟩;rw[xr];cases je T l<;>rfl
theorem EK {a:Expr} {fa:EF} {x:Str} {A:Addr} {T:Tab} (g:Gl X x) (hm:X.mg x=some (.ref A)) (t:sU X.K A T) (j:ME X a fa) (i:behindInMarks .NotIn (.Name x p)=false) (hd:(x == ("__debug__" : Str))=false:=by decide):MT X (.Compare a [.NotIn] [.Name x p] pos) (tE (rR T fa)):=by
 refine PT.imp (rK (EJ t) j (mn (v:=.ref A) g hm rfl hd) i) λσ H Q ⟨ρ,σd,hd,m,b⟩ => ?_;have b:=iE b;refine⟨ρ,σd,hd,m,(bx.bind (R:=rD X.K) b).imp λv H1 ⟨h,d,k,n,c,f,e⟩ => ?_⟩;cases d<;>try exact e.elim
 rename_i l
 simp only[rD,RD]at f;simp only at e;exact⟨l,f,rfl,e.here c (by simp only[rD,RD])⟩
theorem Hg {b:Expr} {E:EF} {x:Str} {A:Addr} {T:Tab} (J:Gl X x) (hm:X.mg x=some (.ref A)) (t:sU X.K A T) (M:ME X b E) (Z:Mm b:=by intro _ _;rfl) (hd:(x == ("__debug__" : Str))=false:=by decide):ME X (.Subscript (.Name x p) b pos) (xl T E):=by
 intro pins s σ H Q I ⟨ρ,σd,hd',rs,pp⟩;refine Dj PySem.F.slot_dict_getitem.lookup Z (thn (mn (v:=.ref A) J hm rfl hd pins s σ H (λy H1=>y=.ref A/\H1=H) I ⟨rfl,rfl⟩) λu S ⟨y,H1,N,W,C,L⟩ => ?_);subst C L;obtain rfl:u=Value.ref A:=W;refine thn (M pins S σ H1 (λz g=>∃l d,z=.str (toS l)/\je T l=some d/\Q (match d with|some i=>V.int i|none=>V.non) g) N ⟨ρ,σd,hd',rs,(bx.bind (R:=rD X.K) pp).imp λv g ⟨K,d,a0,C,n,m,f⟩ => ?_⟩) λiv a ⟨z,g,r,O,l,d,U,w,q⟩ => ?_
 ·cases d<;>try exact f.elim
  rename_i l
  simp only[rD,RD]at m;simp only at f;cases c:je T l with
  | none=>rw[c]at f;exact f.elim
  | some d =>
   rw[c]at f;refine⟨l,d,m,c,f.here n ?_⟩;cases d<;>simp only[rD,RD,JD]
 ·subst U
  obtain⟨tk,rfl⟩:=O;have B:=Dz r t;have j:a.TypeIs (.ref A) "dict" := B.typeIs;refine⟨j,?_⟩;unfold getItem
  try with_reducible refine Y5 ?_
  refine z0 (WV j (by decide) ?_);refine z0 (wpAny_callSpecial?_slot (name:=Str.ofString "__getitem__") j XX (YW XX j PySem.F.entry_dict_getitem ?_ (PySem.F.args_dict_getitem_2 _ _)));show wpAny _ _ (dictGet A (.str (toS l) tk) >>= _) _ _ a;have I3:Inv X pins σ g { a with toks:=a.toks + 1 }:=r.kept (t':=a.toks + 1) λb o e=>e;refine z0 (KTD.dictGet_text B (λG v Y hv=>x4 ⟨v,rfl,x4 ?_⟩) λF => ?_)
  ·exact(Dy (h:=a.heap) (P:=λv=>EP X pins σ Q v { a with toks:=a.toks + 1 }) w λv m=>⟨_,g,I3,m,q⟩).some_of G v Y hv
  ·have:=KTD.isSome_datumAt (k:=toS l) (D:=vT T)
   rw[F,xr,w]at this;cases this
end
def vU:List T0->List (List Nat)->Bool
 | [],[]=>true
 | .str y _ :: vs,l :: ss=>y == toS l && vU vs ss
 | _,_=>false
def vTs (ss:List (List Nat)):List V:=ss.map λl=>.str (toS l)
theorem sV:∀{a:List T0} {ss:List (List Nat)},vU a ss=true->bi (vTs ss) a
 | [],[],_=>.nil
 | v :: a,l :: ss,h=>by
  cases v<;>simp only[vU,Z3,YB]at h;obtain⟨c,b⟩:=h;rw[beq_iff_eq.mp c];exact .cons ⟨_,rfl⟩ (sV b)
 | [],_ :: _,h=>by simp[vU]at h
 | v :: _,[],h=>by cases v<;>simp[vU]at h
def sW (K:ZX):List (List Nat)->T0->Bool
 | ss,.ref p=>(match K.lookup p with
  | some o=>o.cls == .type "tuple" && (match o.data with | .seq its _=>decide (its.size<=sizeLine) && vU its.toList ss|_=>false)
  | none=>false)
 | _,_=>false
def RTk (K:ZX) (ss:List (List Nat)) (v:T0):Prop:=∃p,v=.ref p/\L1 K p (vTs ss)
theorem xt {K:ZX}{ss:List (List Nat)}{v:T0}(h:sW K ss v=true):RTk K ss v:=by
 cases v<;>simp only[sW,YB]at h
 rename_i p
 cases c:K.lookup p with
 | none=>rw[c]at h;cases h
 | some o =>
  rw[c]at h;simp only[Z3]at h;obtain⟨b,a⟩:=h;cases d:o.data with
  | seq its n =>
   rw[d]at a;simp only[Z3,YH]at a;exact⟨p,rfl,o,its,n,c,beq_iff_eq.mp b,d,a.1,sV a.2⟩
  | _=>rw[d]at a;cases a
def Hi (T:ni):List (Str × List (List Nat)):=T.map λp=>(toS p.1,p.2)
def xu (K:ZX) (a:Addr) (T:ni):Prop:=KTD.tabLook (sW K) (λb=>K.lookup b) a (Hi T)=true
theorem KZ {l:List Nat}:∀{T:ni},KTD.datumAt (toS l) (Hi T)=T.lookup l
 | []=>rfl
 | (k,d) :: T=>by
  show (if decide (toS l=toS k)=true then some d else KTD.datumAt (toS l) (Hi T))=_;rw[Z2]
  by_cases e:l=k
  ·subst e;simp
  ·have a:(l == k)=false:=by simpa using e
   rw[a,z5 (by simpa using λz=>e (ox.mp z))];exact KZ
section
variable {X:Cx} {pos p p2:Pos}
theorem DA {pins:List (Addr × Obj)}{σ:L2.St}{H:Hp}{s:T3}{a:Addr}{T:ni}(I:Inv X pins σ H s)(t:xu X.K a T):KTD.TabOf (RTk X.K) s.heap a (Hi T) :=
 KTD.tab_of_look (λ_ _ q=>xt q) (λb o q=>I.kIn b o q) t
theorem JN {prog:T5}{w:T6}{A:T4}{E:T0->T3->Prop}{s:T3}{c : Type}{R : c->T0->Prop}{a:Addr}{D:List (Str × c)}{k:Str}{tk:Tok}{d : c}{Q:Option T0->T3->Prop}(T:KTD.TabOf R s.heap a D)(f:KTD.datumAt k D=some d)
  (h1:∀v,R d v->Q (some v) { s with toks:=s.toks + 1 }):wpAny (model prog w) A (dictGet a (.str k tk)) Q E s:=by
 obtain⟨_,o,es,n,g,hc,hd,h⟩:=T;obtain⟨v,m,j⟩:=h.find_some f;unfold dictGet
 try with_reducible refine Y5 ?_
 refine z0 (wpAny_pyHash_str (z0 (KTD.kt_dictFind_strs (s:={ s with toks:=s.toks + 1 }) g hd (by obtain⟨l⟩:=es;simpa using h.exact) ?_)));have b:Q (findBy (λk v=>v.isStr k) es k) { s with toks:=s.toks + 1 }:=by
  rw[show findBy (λk v=>v.isStr k) es k=some v from (by obtain⟨l⟩:=es;simpa[findBy] using m)];exact h1 v j
 rw[findBy_of_findIdx?]at b;cases hi:es.findIdx? λe=>e.key.isStr k with
 | none=>rw[hi]at b;exact x4 b
 | some i=>rw[hi]at b;exact z0 (wpAny_dictEntries (s:={ s with toks:=s.toks + 1 }) g hd (x4 b))
theorem Hj {ss:List (List Nat)}:∀{a:List T0},bi (vTs ss) a->KTD.Flats a (ss.map λl=>PyData.str (toS l)):=by
 induction ss with
 | nil=>intro a h;cases h;exact .nil
 | cons l ss ih =>
  intro a h;cases h with
  | cons r t=>obtain⟨tk,rfl⟩:=r;exact .cons (.str _ _) (ih t)
def tkD (ss:List (List Nat)):KTD.Dat:=.tup (ss.map λl=>PyData.str (toS l))
def Hk (T:ni):List (Str × KTD.Dat):=(Hi T).map λp=>(p.1,tkD p.2)
theorem DB {pins:List (Addr × Obj)}{σ:L2.St}{H:Hp}{s:T3}{a:Addr}{T:ni}(I:Inv X pins σ H s)(t:xu X.K a T):KTD.Here s.heap s.heap a (Hk T):=by
 obtain⟨lo,o,es,k,c,hc,hd,i⟩:=DA I t;refine⟨⟨lo,o,es,k,c,hc,hd,i.mono (R':=KTD.Dat.At s.heap) (f:=tkD) λss v h => ?_⟩,λ_ _ e=>e⟩;obtain⟨p,e,m,b,n,d,l,j,q,g⟩:=h;exact⟨p,b.toList,e,⟨m,I.kIn _ _ d,l,n,by simpa using j⟩,Hj g⟩
theorem DC {l:List Nat}:∀{T:ni},KTD.inKeys (toS l) (Hk T)=(T.lookup l).isSome
 | []=>rfl
 | (k,d) :: T=>by
  show (decide (toS l=toS k) || KTD.inKeys (toS l) (Hk T))=_;rw[DC,Z2]
  by_cases e:l=k
  ·subst e;simp
  ·have a:(l == k)=false:=by simpa using e
   rw[a,wL (λz=>e (ox.mp z))];rfl
theorem Hl {a:Addr}{T:ni}(t:xu X.K a T):OpR X (compareOp .NotIn) (λx y H Q=>∃l,x=.str (toS l)/\y=.ref a/\Q (.bl (T.lookup l).isNone) H):=by
 intro pins s σ H x y v u Q I d c h;obtain⟨l,rfl,rfl,q⟩:=h;obtain⟨tk,rfl⟩:=d;cases (show u=Value.ref a from c);refine KTD.notin_text (DB I t) ⟨.bl (T.lookup l).isNone,H,I.kept (t':=s.toks + 1) λb o e=>e,?_,q⟩;rw[DC];cases T.lookup l<;>rfl
theorem Hm {a:Expr} {fa:EF} {x:Str} {A:Addr} {T:ni} (g:Gl X x) (hm:X.mg x=some (.ref A)) (t:xu X.K A T) (j:ME X a fa) (i:behindInMarks .NotIn (.Name x p)=false) (hd:(x == ("__debug__" : Str))=false:=by decide):MT X (.Compare a [.NotIn] [.Name x p] pos) (tE (Bx T fa)):=by
 refine PT.imp (rK (Hl t) j (mn (v:=.ref A) g hm rfl hd) i) λσ H Q ⟨ρ,σd,hd,m,b⟩ => ?_;have b:=iE b;refine⟨ρ,σd,hd,m,(bx.bind (R:=rD X.K) b).imp λv H1 ⟨h,d,k,n,c,f,e⟩ => ?_⟩;cases d<;>try exact e.elim
 rename_i l
 simp only[rD,RD]at f;simp only at e;exact⟨l,f,rfl,e.here c (by simp only[rD,RD])⟩
theorem DD {K:ZX}{ρ:List Addr}{H:Hp}:∀(ss:List (List Nat)),RDs K ρ H (ss.map .str) (vTs ss)
 | []=>RDs.nil
 | l :: ss=>RDs.cons (by simp only[RD]) (DD ss)
theorem xv {b:Expr} {w:EF} {x:Str} {A:Addr} {T:ni} (B:Gl X x) (hm:X.mg x=some (.ref A)) (t:xu X.K A T) (F:ME X b w) (N:Mm b:=by intro _ _;rfl) (hd:(x == ("__debug__" : Str))=false:=by decide):ME X (.Subscript (.Name x p) b pos) (vR T w):=by
 intro pins s σ H Q I ⟨ρ,σd,hd',rs,pp⟩;refine Dj PySem.F.slot_dict_getitem.lookup N (thn (mn (v:=.ref A) B hm rfl hd pins s σ H (λy H1=>y=.ref A/\H1=H) I ⟨rfl,rfl⟩) λu K ⟨y,H1,G,M,r,D⟩ => ?_);subst r D;obtain rfl:u=Value.ref A:=M;refine thn (F pins K σ H1 (λz g=>∃l d,z=.str (toS l)/\T.lookup l=some d/\∀q,L1 X.K q (vTs d)->Q (.ref q) g) G ⟨ρ,σd,hd',rs,(bx.bind (R:=rD X.K) pp).imp λv g ⟨C,d,P,r,k,n,a⟩ => ?_⟩) λV f ⟨z,g,i,J,l,d,L,E,q⟩ => ?_
 ·cases d<;>try exact a.elim
  rename_i l
  simp only[rD,RD]at n;simp only at a;cases c:T.lookup l with
  | none=>rw[c]at a;exact a.elim
  | some d =>
   rw[c]at a;refine⟨l,d,n,c,λq j=>a.here k ?_⟩;simp only[rD,mK,RD];exact .inr ⟨trivial,q,_,rfl,j,DD d⟩
 ·subst L
  obtain⟨tk,rfl⟩:=J;have O:=DB i t;have h:f.TypeIs (.ref A) "dict" := O.typeIs;refine⟨h,?_⟩;unfold getItem
  try with_reducible refine Y5 ?_
  refine z0 (WV h (by decide) ?_);refine z0 (wpAny_callSpecial?_slot (name:=Str.ofString "__getitem__") h XX (YW XX h PySem.F.entry_dict_getitem ?_ (PySem.F.args_dict_getitem_2 _ _)));show wpAny _ _ (dictGet A (.str (toS l) tk) >>= _) _ _ f;have U:Inv X pins σ g { f with toks:=f.toks + 1 }:=i.kept (t':=f.toks + 1) λb o e=>e;refine z0 (JN (DA i t) (KZ.trans E) λv S=>x4 ⟨v,rfl,x4 ?_⟩);obtain⟨m,rfl,j⟩:=S;exact⟨.ref m,g,U,rfl,q m j⟩
theorem JO {a:Expr} {fa:EF} (f:Gl X "len") (hm:X.mg "len" = none) (i:ME X a fa) (e:starEach [a] X.env=(false,eval a X.env) :: starEach [] X.env:=by rfl):ME X (.Call (.Name "len" p) [a] [] pos) (G6 fa):=by
 refine vG (g:=λx h=>match x with | .exn c l=>if c = "" then .ok (.int l.length) h else .bad|_=>.bad) (y8 n5 f hm PySem.boot_len (he:=e)) i (λρ H σd hd σ d v Q j b p => ?_) e;cases d<;>first|exact p.elim|skip
 rename_i c l
 simp only at p;split at p
 ·rename_i hc
  simp only[RD]at b;rcases b with ⟨n,_⟩|⟨_,q,vs,rfl,hq,rvs⟩
  ·exact absurd hc n
  ·exact⟨q,vs,rfl,.inr (.inr hq),by rw[<-rvs.length];exact p.here j (by simp only[rD,RD])⟩
 ·exact p.elim
theorem JP (t:X.A.units + 24 < cLine):OpR X (compareOp .Eq) (λx y H Q=>∃p q a,x=.ref p/\y=.ref q/\SqT X.K H p a/\SqT X.K H q []/\Q (.bl a.isEmpty) H):=by
 intro pins s σ H x y v u Q I n l h;obtain⟨p,q,a,rfl,rfl,c,b,k⟩:=h;cases (show v=Value.ref p from n);cases (show u=Value.ref q from l);obtain⟨f,o,m,_⟩:=I.tuple c;obtain⟨d,i,r,_⟩:=I.tuple b;cases i;have g:=SeqAt.RcAt.tuples (s:=s) (A:=X.A) (e:=λ_=>true) m r (by omega) (λj c b=>absurd b (by simp));refine g _ _ _ _ ⟨.bl a.isEmpty,H,I,?_,k⟩;cases o with
 | nil=>rfl
 | cons _ _=>simp;rfl
theorem JQ {a:Expr}{fa:EF}{k0 p3}(o:X.A.units + 24 < cLine)(m:ME X a fa)(j:behindInMarks .Eq (.Tuple [] k0 p3)=false:=by rfl):MT X (.Compare a [.Eq] [.Tuple [] k0 p3] pos) (tE (Dr fa)):=by
 refine PT.imp (rK (JP o) m (Gh dI) j) λσ H Q ⟨ρ,σd,hd,s,e⟩ => ?_;have e:=iE e;refine⟨ρ,σd,hd,s,(bx.bind (R:=rD X.K) e).imp λv H1 ⟨i,d,r,t,f,h,b⟩ => ?_⟩;refine⟨by simp,λq k => ?_⟩;cases d<;>try exact b.elim
 rename_i c l
 simp only at b;split at b
 ·rename_i hc
  simp only[rD,RD]at h;rcases h with ⟨n,_⟩|⟨_,p',vs,rfl,hp,rvs⟩
  ·exact absurd hc n
  ·have g:jr H1 (upd H1 q (.tup [])):=cv k
   refine⟨p',q,vs,rfl,rfl,.inr hp,.inl (Rd.of bp),?_⟩;rw[show vs.isEmpty=l.isEmpty from by cases l<;>cases vs<;>first|rfl|(have:=rvs.length;simp at this)];exact b.at (Ext.same g) (f.same g) (by simp only[rD,RD])
 ·exact b.elim
end
end Fm
namespace PySem.P
open PySem PySem.Spec PySem.Builtin
section
variable {prog:T5} {w:T6} {A:T4} {E:T0->T3->Prop} {s:T3}
theorem str_of_non {Q:T0->T3->Prop} (h:Q (.str "None" s.toks) { s with toks:=s.toks + 1 }):wpAny (model prog w) A (call (.type "str") [.none]) Q E s :=
 callType_new F.called_str (by decide) (F.typeCall_str_1 _) (F.newCall_str_1 _) (λobj=>F.args_object_init_2 obj _) F.entry_str_new
  (meets_str_new (S:=λ_ R s=>R (.ok (.ret (.str "None" s.toks))) { s with toks:=s.toks + 1 }) λ_ _ _ _ s a =>
   wpAny_strOf_gives rfl (typeIs_none s) F.slot_NoneType_str F.slot_NoneType_repr F.entry_NoneType_repr (F.args_NoneType_repr_1 _) gives_none_repr a) ⟨WT _ _ _,h⟩
end
end PySem.P
namespace Fm
open PySem PySem.Spec L2 PySem.W PyProof.Rows
section
variable {X:Cx} {pos p:Pos} {e:Expr}
theorem EL:gf X (.type "str") (λxs H Q=>(∃i,xs=[.int i]/\i.natAbs.log2 < 1920/\Q (.str (toString i)) H)\/(xs=[.non]/\Q (.str "None") H)):=by
 intro pins s σ H xs b Q I r h;rcases h with ⟨i,rfl,hz,q⟩|⟨rfl,q⟩
 ·obtain⟨u,rfl,t,rfl⟩:=nZ r
  exact PySem.P.str_of_int hz ⟨.str _,H,I.tok _,⟨_,rfl⟩,q⟩
 ·obtain⟨u,rfl,a⟩:=nZ r
  cases a;exact PySem.P.str_of_non ⟨.str _,H,I.tok _,⟨_,rfl⟩,q⟩
theorem JR {a:Expr} {fa:EF} (j:Gl X "str") (hm:X.mg "str" = none) (k:ME X a fa) (c:starEach [a] X.env=(false,eval a X.env) :: starEach [] X.env:=by rfl):ME X (.Call (.Name "str" p) [a] [] pos) (zr fa):=by
 refine vG (g:=λx h=>match x with | .int i=>if i.natAbs.log2 < 1920 then .ok (.str (mQ (toString i))) h else .bad | .non=>.ok (.str (mQ "None")) h|_=>.bad) (y9 EL j hm (by decide +kernel) (he:=c)) k (λρ H σd hd σ d v Q f b p => ?_) c;cases d<;>first|exact p.elim|skip
 ·simp only[RD]at b;subst b
  exact .inr ⟨rfl,p.here f (by simp only[rD,RD];rw[XF];rfl)⟩
 ·rename_i i
  simp only[RD]at b;subst b;simp only at p;split at p
  ·rename_i hz
   exact .inl ⟨i,rfl,hz,p.here f (by simp only[rD,RD];rw[XF];rfl)⟩
  ·exact p.elim
theorem xw {a:EF}(he:ME X e a):ME X (.FormattedValue e (-1) none pos) (qN a):=by
 intro pins s σ H Q I ⟨ρ,σd,hd,rs,pp⟩;refine FormattedValue_plain (thn (he pins s σ H (λv H1=>∃y:Str,v=.str y/\y.length<=sizeLine/\Q (.str y) H1) I ⟨ρ,σd,hd,rs,(bx.bind (R:=rD X.K) pp).imp λv H1 ⟨g,d,k,r,c,f,b⟩ => ?_⟩) λv o ⟨x,H1,j,m,y,h,i,q⟩ => ?_)
 ·cases d<;>try exact b.elim
  rename_i l
  simp only[rD,RD]at f;simp only at b;split at b
  ·rename_i hb
   exact⟨toS l,f,by rw[ed];exact ZM hb xp,b.here c (by simp only[rD,RD])⟩
  ·exact b.elim
 ·subst h
  obtain⟨n,rfl⟩:=m;exact formatField_str (λn tk=>⟨.str y,H1,j.tok _,⟨_,rfl⟩,q⟩) i
end
end Fm
namespace Fm
def zy (x y:EF):EF:=λσ h=>(x σ h).bind λp h=>match p with
 | .ref n=>match h[n]? with
  | some (.lst _)=>(y σ h).bind λq h=>match q with
   | .ref m=>match h[n]?,h[m]? with
    | some (.lst l),some (.lst k)=>if l.length + k.length<=SZ then .ok .non (h.set n (.lst (l++k))) else .bad
    | _,_=>.bad
   | _=>.bad
  | _=>.bad
 | _=>.bad
end Fm
namespace Fm
open PySem PySem.Spec L2 PySem.W PyProof.Rows
section
variable {X:Cx}
theorem JS {o e:Expr} {K L:EF} {apos f:Pos} (N:ME X o K) (he:ME X e L) (p:attributeBase o "extend" X.env (eval o X.env)=eval o X.env:=by rfl)
  (A:((backTo f (starEach [e] X.env)).all (λx => !x.1) && (backToKw f (keywordEach [] X.env)).all (λx=>x.1.isSome)
   && decide (([e] : List Expr).length + ([] : List Keyword).length + (if ([] : List Keyword).isEmpty then 0 else 1) < 30))=true:=by rfl)
  (q:(apos.endLine == f.line)=true:=by rfl) (J:starEach [e] X.env=(false,eval e X.env) :: starEach [] X.env:=by rfl) :
  ME X (.Call (.Attribute o "extend" apos) [e] [] f) (zy K L):=by
 refine PE.imp (sB PySem.F.plainAttrs_list PySem.F.slot_list_extend PySem.F.type_list_extend vE N (cw he dI J) p A q J) λσ H Q ⟨ρ,σd,hd,V,D⟩=>⟨ρ,σd,hd,V,?_⟩;unfold zy at D;refine(bx.bind (R:=rD X.K) D).imp λv H1 ⟨B,d,y,Y,w,F,g⟩ => ?_;cases d<;>try exact g.elim
 rename_i n
 simp only[rD,RD]at F;obtain⟨a,I,rfl⟩:=F;simp only at g;cases c1:y[n]? with
 | none=>rw[c1]at g;exact g.elim
 | some cell1 =>
  rw[c1]at g;cases cell1 with
  | dct l=>exact g.elim
  | dcT l=>exact g.elim
  | ob l=>exact g.elim
  | lst l1 =>
   obtain⟨O,W,_⟩:=w.hp.cel n _ a c1 I;simp only at g;refine⟨.inl ⟨rfl,O,SqL.of W⟩,B,σd,y,w,?_⟩;refine(bx.bind (R:=rD X.K) g).imp λZ G ⟨t,T,r,P,h,u,p2⟩ => ?_;cases T<;>try exact p2.elim
   rename_i m
   simp only[rD,RD]at u;obtain⟨b,S,rfl⟩:=u;simp only at p2;cases c:r[n]? with
   | none=>rw[c]at p2;exact p2.elim
   | some cell =>
    cases d:r[m]? with
    | none=>rw[c,d]at p2;cases cell<;>exact p2.elim
    | some cell' =>
     rw[c,d]at p2;cases cell<;>cases cell'<;>try exact p2.elim
     rename_i l k
     simp only at p2;split at p2
     ·rename_i hz
      have j:=P.get I;obtain⟨z,C,i⟩:=h.hp.cel n _ a c j;obtain⟨E,hw,s⟩:=h.hp.cel m _ b d S;refine⟨a,b,z,E,rfl,rfl,C,hw,?_,?_⟩
      ·rw[<-i.length,<-s.length];exact ZM hz (by rw[YK];decide)
      ·have M:n < r.length:=(List.getElem?_eq_some_iff.mp c).1
       have U:=h.hp.write j M (RDs.append i s);have ex:Ext t G t (upd G a (.lst (z++E))):=Ext.write (ZK j);exact p2.at ex (h.ext ex U) (by simp only[rD,RD])
     ·exact p2.elim
end
end Fm
namespace Fm
def j7 (a:EF) (lo hi:OF):EF:=λσ h=>(a σ h).bind λx h=>(lo σ h).bind λi h=>(hi σ h).bind λj h=>match x with
 | .tup l=>.ok (.tup (cut l i j)) h
 | _=>.bad
end Fm
namespace HT
open PySem PySem.Spec PyProof.Rows L2
section
variable {prog:T5} {w:T6} {A:T4} {E:T0->T3->Prop} {s:T3}
theorem getItem_tuple_whole {t d:Addr}{a:Array T0}{g i:T0}{lo hi:Option Int}{Q:T0->T3->Prop}(ht:IsTup s.heap t a)(j:s.heap.IsSliceOf d g i .none)(pl:IsPart g lo)(l:IsPart i hi)
  (hw:sIx a.size 0 lo=0/\sIx a.size a.size hi=a.size) (h:Q (.ref t) s):wpAny (model prog w) A (getItem (.ref t) (.ref d)) Q E s:=by
 obtain⟨os,c,e,k⟩:=id j;have f:s.TypeIs (.ref d) "slice" := ⟨os,c,e⟩;unfold getItem
 try with_reducible refine Y5 ?_
 first|refine z0 (x4 ?_)|skip
 refine z0 (WV ht.typeIs (by decide) ?_);refine z0 (wpAny_callSpecial?_slot (name:=Str.ofString "__getitem__") ht.typeIs Y3
  (YW Y3 ht.typeIs entry_tuple_getitem ?_ (args_tuple_getitem _ _)))
 show wpAny _ _ (Builtin.Tuple.tupleItemsOf (.ref t) >>= _) _ _ s;refine z0 (tupleItemsOf_ ht ?_);refine z0 (wpAny_typeOf f ?_);rw[z4 (by decide)];refine z0 (jF j pl l ?_);have b:((((sIx a.size 0 lo:Nat):Int) == 0 && (1:Int) == 1 && (sIx a.size a.size hi - sIx a.size 0 lo) == a.size)=true):=by
  rw[hw.1,hw.2];simp
 show wpAny _ _ (if (((sIx a.size 0 lo:Nat):Int) == 0 && (1:Int) == 1 && (sIx a.size a.size hi - sIx a.size 0 lo) == a.size)=true then _ else _) _ _ s;rw[z4 b];refine z0 ?_;unfold Builtin.Tuple.tupleIsExact;refine z0 (wpAny_typeOf ht.typeIs (x4 ?_));rw[z4 (by decide)];refine z0 (wpAny_rule ?_)
 first
  | exact x4 ⟨_,rfl,x4 h⟩
  | exact z0 (x4 ⟨_,rfl,x4 h⟩)
  | exact z0 (x4 (x4 ⟨_,rfl,x4 h⟩))
end
end HT
namespace Fm
open PySem PySem.Spec L2 PySem.W PyProof.Rows
section
variable {X:Cx} {pos p:Pos}
def OA (K:ZX):V->Option Int->Option Int->Hp->VK->Prop:=λx lo hi H Q=>∃a xs,x=.ref a/\SqT K H a xs/\
 ((HT.sIx xs.length 0 lo=0/\HT.sIx xs.length xs.length hi=xs.length)->Q (.ref a) H)/\
 (¬(HT.sIx xs.length 0 lo=0/\HT.sIx xs.length xs.length hi=xs.length)->∀p,H p=none->Q (.ref p) (upd H p (.tup (o9 xs lo hi))))
theorem JT:SlR X (OA X.K):=by
 intro pins s σ H x v k l lo hi m Q I i g d f h;obtain⟨a,xs,rfl,j,q1,q2⟩:=h
 by_cases hw:HT.sIx xs.length 0 lo=0/\HT.sIx xs.length xs.length hi=xs.length
 ·cases i
  obtain⟨c,r,e,n⟩:=I.tuple j;have b:c.toArray.size=xs.length:=by rw[x8];exact r.length.symm
  refine⟨"tuple",_,PyProof.Rows.slot_tuple_getitem.lookup,e.typeIs,?_⟩;exact HT.getItem_tuple_whole e g d f (by rw[b];exact hw) ⟨.ref a,H,I,rfl,q1 hw⟩
 ·exact Gp pins s σ H _ v k l lo hi m Q I i g d f ⟨a,xs,rfl,j,hw,q2 hw⟩
theorem EM {l:List D}{i j:Option Int}(h:sIx l.length 0 i=0/\sIx l.length l.length j=l.length):cut l i j=l:=by
 unfold cut;rw[h.1,h.2];simp
theorem vV {a:Expr}{fa:EF}{lo hi:Option Expr}{y x:OF}{p2:Pos}(J:ME X a fa)(C:MO X lo y)(z:MO X hi x):ME X (.Subscript a (.Slice lo hi none p2) pos) (j7 fa y x):=by
 refine PE.imp (sw JT J C z) λσ H Q ⟨ρ,σd,hd,N,u⟩ => ?_;unfold j7 at u;refine⟨ρ,σd,hd,N,(bx.bind (R:=rD X.K) u).imp λv H1 ⟨j,d,s,T,f,G,L⟩ => ?_⟩;refine⟨j,σd,s,f,(bx.bind (R:=rO) L).imp λM P ⟨m,I,t,E,c,q2,p2⟩ => ?_⟩;cases q2;refine⟨m,σd,t,c,(bx.bind (R:=rO) p2).imp λA S ⟨O,K,D,F,h,q3,p3⟩ => ?_⟩;cases q3;have g:=(G.mono (f.hp.kp E)).mono (c.hp.kp F);cases d with
 | tup l =>
  simp only at p3;simp only[RD]at g;obtain⟨q,k,rfl,w,b⟩:=g;have e:∀(n d:Nat) (o:Option Int),Fm.sIx n d o=HT.sIx n d o:=λn d o=>by cases o<;>rfl
  refine⟨q,k,rfl,SqT.of w,λhw => ?_,λ_ B i => ?_⟩
  ·rw[<-b.length,<-e,<-e]at hw
   rw[EM hw]at p3;exact p3.here h (by simp only[rD,RD];exact⟨q,k,rfl,w,b⟩)
  ·have r:=cv (o:=HO.tup (o9 k M A)) i
   exact p3.at (Ext.same r) (h.same r) (by simp only[rD,RD];exact⟨B,_,rfl,bp,(xf b).mono (Kp.same r)⟩)
 | _=>exact p3.elim
end
end Fm
namespace Fm
def j8 (a b:EF):EF:=λσ h=>(a σ h).bind λx h=>match x with
 | .str l=>(b σ h).bind λy h=>match y with
  | .str k=>.ok (.bl (decide (k.length<=l.length) && (l.take k.length == k))) h
  | _=>.bad
 | _=>.bad
def bD (sp:List Nat):List (List Nat)->List Nat
 | []=>[]
 | [x]=>x
 | x :: y :: r=>x++sp++bD sp (y :: r)
def pC (sp:List Nat) (a:LF):EF:=λσ h=>(a σ h).bind λl h=>match jJ l with
 | some ss=>if (ss.map (·.length)).sum + ss.length * sp.length<=1000000 then .ok (.str (bD sp ss)) h else .bad
 | none=>.bad
end Fm
namespace Fm
open PySem PySem.Spec L2 PySem.W PyProof.Rows
theorem pD (sp:List Nat):∀ss:List (List Nat),Str.join (toS sp) (ss.map toS)=toS (bD sp ss)
 | []=>rfl
 | [x]=>rfl
 | x :: y :: r=>by
  have a:=pD sp (y :: r);show toS x++toS sp++Str.join (toS sp) ((y :: r).map toS)=_;rw[a,j5,j5];rfl
theorem vW (sp:List Nat)(ss:List (List Nat)):Txt.join (toS sp) (ss.map toS)=toS (bD sp ss):=(StrLaws.glued_eq_join _ _).trans (pD sp ss)
def MV (K:ZX) (sp:List Nat):V->List V->Hp->VK->Prop:=λx vs H Q=>∃(q:Addr) (ss:List (List Nat)),x=.str (toS sp)/\vs=[.ref q]/\(SqL K H q (ss.map λx=>V.str (toS x))\/H q=some (.tup (ss.map λx=>V.str (toS x))))/\(ss.map (·.length)).sum + ss.length * sp.length<=1000000/\Q (.str (toS (bD sp ss))) H
section
variable {X:Cx} {pos p:Pos}
theorem Hn (sp:List Nat):MtR X "str.join" (MV X.K sp):=by
 intro pins s σ H x o v n Q I m j h;obtain⟨q,ss,rfl,rfl,b,w,f⟩:=h;obtain⟨t,rfl⟩:=m;obtain⟨u,rfl,g⟩:=j.one;cases (show u=Value.ref q from g);have e:((ss.map toS).map (·.length)).sum + (ss.map toS).length * (toS sp).length<=16777216:=by
  have:((ss.map toS).map (·.length))=ss.map (·.length):=by rw[Z7];apply YE;intro a _;simp[toS,Str.length]
  rw[this,ZA,ed];omega
 rcases b with b|b
 ·obtain⟨c,r,i,_⟩:=I.list b
  exact join_list i.isList (by rw[WM];exact lD r) e λd k=>⟨.str (toS (bD sp ss)),H,I.tok k,⟨d,by rw[vW]⟩,f⟩
 ·obtain⟨_,c,r,l⟩:=I.hok q _ b
  exact join_tuple l (by rw[WM];exact lD r) e λd k=>⟨.str (toS (bD sp ss)),H,I.tok k,⟨d,by rw[vW]⟩,f⟩
theorem zz {sp:List Nat} {e:Expr} {L:LF} {apos a p1:Pos} {j} {x:Str} (o:x=toS sp) (he:MQ X e L) (b:attributeBase (.Constant (.str x) j p1) "join" X.env (eval (.Constant (.str x) j p1) X.env)=eval (.Constant (.str x) j p1) X.env:=by rfl)
  (f:((backTo a (starEach [e] X.env)).all (λx => !x.1) && (backToKw a (keywordEach [] X.env)).all (λx=>x.1.isSome)
   && decide (([e] : List Expr).length + ([] : List Keyword).length + (if ([] : List Keyword).isEmpty then 0 else 1) < 30))=true:=by rfl)
  (d:(apos.endLine == a.line)=true:=by rfl) (i:starEach [e] X.env=(false,eval e X.env) :: starEach [] X.env:=by rfl) :
  ME X (.Call (.Attribute (.Constant (.str x) j p1) "join" apos) [e] [] a) (pC sp L):=by
 refine PE.imp (sB X8 PySem.F.slot_str_join PySem.F.type_str_join (Hn sp) wO (cw he dI i) b f d i) λσ H Q ⟨ρ,σd,hd,s,k⟩=>⟨rfl,ρ,σd,hd,s,(bx.bind (R:=rQ X.K) k).imp λv H1 ⟨m,l,n,w,g,⟨q,u,r,t,h⟩,p1⟩ => ?_⟩;subst r;cases c:jJ l with
 | none=>simp only[c]at p1;exact p1.elim
 | some ss =>
  simp only[c]at p1;split at p1
  ·rename_i hz
   have e:=sT h c;subst e;exact⟨q,ss,by rw[o],rfl,t,hz,p1.here g (by simp only[rD,RD])⟩
  ·exact p1.elim
end
end Fm
namespace L2
open PySem PySem.Spec PyProof.Rows Builtin.Str
section
variable {X:Cx}
theorem EN:MtR X "str.startswith" (λx c H Q=>∃a b:Str,x=.str a/\c=[.str b]/\Q (.bl (decide (0 + b.length<=a.length) && subAt a b 0)) H):=by
 intro pins s σ H x c v i Q I f e h;obtain⟨a,b,rfl,rfl,q⟩:=h;obtain⟨t,rfl⟩:=f;obtain⟨u,rfl,d⟩:=e.one;obtain⟨g,rfl⟩:=d;exact call_gives F.slot_str_startswith (WT _ _ _) F.entry_str_startswith (F.args_str_startswith_2 _ _) (gives_str_startswith a b t g) ⟨.bl (decide (0 + b.length<=a.length) && subAt a b 0),H,I,rfl,q⟩
end
end L2
namespace Fm
open PySem PySem.Spec L2 PySem.W PyProof.Rows Builtin.Str
section
variable {X:Cx} {pos p:Pos}
theorem PL (l k:List Nat):(decide (0 + (toS k).length<=(toS l).length) && subAt (toS l) (toS k) 0)=(decide (k.length<=l.length) && (l.take k.length == k)):=by
 rw[StrLaws.subAt_eq,ed,ed,Z1];rfl
theorem vX {o e:Expr} {s t:EF} {apos a:Pos} (w:ME X o s) (he:ME X e t) (b:attributeBase o "startswith" X.env (eval o X.env)=eval o X.env:=by rfl)
  (g:((backTo a (starEach [e] X.env)).all (λx => !x.1) && (backToKw a (keywordEach [] X.env)).all (λx=>x.1.isSome)
   && decide (([e] : List Expr).length + ([] : List Keyword).length + (if ([] : List Keyword).isEmpty then 0 else 1) < 30))=true:=by rfl)
  (c:(apos.endLine == a.line)=true:=by rfl) (q:starEach [e] X.env=(false,eval e X.env) :: starEach [] X.env:=by rfl) :
  ME X (.Call (.Attribute o "startswith" apos) [e] [] a) (j8 s t):=by
 refine PE.imp (sB X8 PySem.F.slot_str_startswith PySem.F.type_str_startswith EN w (cw he dI q) b g c q) λσ H Q ⟨ρ,σd,hd,A,u⟩=>⟨ρ,σd,hd,A,(bx.bind (R:=rD X.K) u).imp λv H1 ⟨h,d,m,E,j,n,r⟩ => ?_⟩;cases d<;>try exact r.elim
 rename_i l
 simp only[rD,RD]at n;subst n;refine⟨rfl,h,σd,m,j,(bx.bind (R:=rD X.K) r).imp λF D ⟨y,z,B,C,i,f,p2⟩ => ?_⟩;cases z<;>try exact p2.elim
 rename_i k
 simp only[rD,RD]at f;subst f;refine⟨toS l,toS k,rfl,rfl,?_⟩;rw[PL];exact p2.here i (by simp only[rD,RD])
end
end Fm
namespace L2
open PySem PySem.Spec PyProof.Rows Builtin.Str
theorem vY:∀(tk:Nat) (xs:List Str),bi (xs.map V.str) (strsFrom tk xs)
 | _,[]=>.nil
 | tk,x :: r=>.cons ⟨tk,rfl⟩ (vY (tk + 1) r)
section
variable {X:Cx}
theorem Ho:MtR X "str.split" (λx f H Q=>∃(a:Str) (c:Nat),x=.str a/\f=[.str ⟨#[c]⟩]/\a.length<=sizeLine/\(Txt.split a ⟨#[c]⟩).length<=sizeLine/\∀p,H p=none->Q (.ref p) (upd H p (.lst ((Txt.split a ⟨#[c]⟩).map V.str)))):=by
 intro pins s σ H x f v m Q I k i h;obtain⟨a,c,rfl,rfl,j,d,q⟩:=h;obtain⟨t,rfl⟩:=k;obtain⟨u,rfl,g⟩:=i.one;obtain⟨t',rfl⟩:=g;have self:Txt.split a ⟨#[c]⟩ = [a]->listOfItself a t X.A (wants (EP X pins σ Q) X.xe) s:=λe=>by
  rw[e]at q;exact⟨.ref s.heap.objs.size,_,I.laid (t':=s.toks) (o:=.lst [V.str a]) (λb l q=>ZH _ q) (ZL _) ⟨by show 1<=sizeLine;decide,_,0,.cons ⟨t,rfl⟩ .nil,ZJ _ rfl⟩,rfl,q _ (I.hok.fresh (ZL _))⟩
 cases h1:(decide (a.length < (⟨#[c]⟩ : Str).length) || decide (strKind a < strKind ⟨#[c]⟩))
 ·cases hf:(occurrences a ⟨#[c]⟩ 0 a.length (a.length + 1)).isEmpty
  ·have e:Txt.split a ⟨#[c]⟩ = partsBetween a (occurrences a ⟨#[c]⟩ 0 a.length (a.length + 1)) (⟨#[c]⟩ : Str).length:=by
    unfold Txt.split;rw[z5 (by rw[h1];exact ZY),z5 (by rw[hf];exact ZY)]
   rw[e]at d q;refine WY F.slot_str_split (WT _ _ _) F.entry_str_split (F.args_str_split_2 _ _) (meets_str_split_sep a ⟨#[c]⟩ t t' h1 rfl hf j d) ?_;exact⟨.ref s.heap.objs.size,_,I.laid (t':=s.toks + (partsBetween a (occurrences a ⟨#[c]⟩ 0 a.length (a.length + 1)) (⟨#[c]⟩ : Str).length).length) (o:=.lst ((partsBetween a (occurrences a ⟨#[c]⟩ 0 a.length (a.length + 1)) (⟨#[c]⟩ : Str).length).map V.str)) (λb l q=>ZH _ q) (ZL _) ⟨by rw[ZA];exact d,_,0,vY _ _,ZJ _ rfl⟩,rfl,q _ (I.hok.fresh (ZL _))⟩
  ·exact WY F.slot_str_split (WT _ _ _) F.entry_str_split (F.args_str_split_2 _ _) (meets_str_split_not_found a ⟨#[c]⟩ t t' h1 rfl hf) (self (by unfold Txt.split;rw[z5 (by rw[h1];exact ZY),z4 hf]))
 ·exact WY F.slot_str_split (WT _ _ _) F.entry_str_split (F.args_str_split_2 _ _) (meets_str_split_cannot_occur a ⟨#[c]⟩ t t' h1) (self (by unfold Txt.split;rw[z4 h1]))
end
end L2
namespace Fm
def dm (c:Nat):List Nat->List (List Nat)
 | []=>[[]]
 | x :: r=>if x=c then [] :: dm c r else match dm c r with
  | p :: ps=>(x :: p) :: ps
  | []=>[[x]]
theorem qO {c:Nat}:∀{p:List Nat},c∉p->dm c p=[p]
 | [],_=>rfl
 | x :: r,h=>by
  have a:x≠c:=λe=>h (by rw[e];exact ZV);have b:=qO (p:=r) λz=>h (ZW _ z);rw[dm,z5 a,b]
theorem sX {c:Nat}{t:List Nat}:∀{p:List Nat},c∉p->dm c (p++c :: t)=p :: dm c t
 | [],_=>by rw[YI,dm,z4 rfl]
 | x :: r,h=>by
  have a:x≠c:=λe=>h (by rw[e];exact ZV);have b:=sX (t:=t) (p:=r) λz=>h (ZW _ z);rw[WJ,dm,z5 a,b]
theorem gP {c:Nat}:∀{P:List (List Nat)},P≠[]->(∀p∈P,c∉p)->dm c (bD [c] P)=P
 | [],h,_=>absurd rfl h
 | [p],_,f=>qO (f p ZV)
 | p :: q :: r,_,f=>by
  have b:=gP (P:=q :: r) (by simp) λx a=>f x (ZW _ a);have e:bD [c] (p :: q :: r)=p++c :: bD [c] (q :: r):=by rw[bD,ZU];rfl
  rw[e,sX (f p ZV),b]
def j9 (c:Nat) (a:EF):LF:=λσ h=>(a σ h).bind λx h=>match x with
 | .str l=>if l.length<=1000000 then .ok ((dm c l).map D.str) h else .bad
 | _=>.bad
end Fm
namespace Fm
open PySem PySem.Spec L2 PySem.W PyProof.Rows
theorem Hq (x:Str):toS x.cps.toList=x:=by unfold toS;cases x;simp
theorem vZ (l:List Nat)(c:Nat):Txt.split (toS l) ⟨#[c]⟩ = (dm c l).map toS:=by
 obtain⟨P,b⟩ : ∃P:List (List Nat),P=(Txt.split (toS l) ⟨#[c]⟩).map λx=>x.cps.toList:=⟨_,rfl⟩;have e:Txt.split (toS l) ⟨#[c]⟩ = P.map toS:=by
  rw[b,Z7];exact((YE λx _=>Hq x).trans (List.map_id _)).symm
 have j:=StrLaws.join_split (toS l) ⟨#[c]⟩;rw[e,show (⟨#[c]⟩ : Str)=toS [c] from rfl,pD]at j;have f:bD [c] P=l:=by
  have:=congrArg (λs:Str=>s.cps.toList) j;simpa[toS] using this
 have ne:P≠[]:=λz=>by
  have:=split_len (toS l) c;rw[e,z]at this;have h:(0:Int)<=cnt c (toS l).cps.toList:=countIn_nonneg _ _;have this:(0:Int)=1 + cnt c (toS l).cps.toList:=this;omega
 have g:∀p∈P,c∉p:=λp a=>by
  rw[b]at a;obtain⟨x,d,rfl⟩:=List.mem_map.mp a;exact StrLaws.split_free (toS l) c x d
 rw[e,<-f,gP ne g]
theorem sY (c:Nat):∀l:List Nat,(dm c l).length<=l.length + 1
 | []=>ZL _
 | x :: r=>by
  have a:=sY c r;rw[dm];split
  ·rw[y4,y4];omega
  ·cases e:dm c r with
   | nil=>simp
   | cons p ps=>rw[e]at a;simp only[y4]at a ⊢;omega
theorem zA {K:ZX}{ρ:List Addr}{H:Hp}:∀P:List (List Nat),RDs K ρ H (P.map D.str) ((P.map toS).map V.str)
 | []=>RDs.nil
 | p :: P=>RDs.cons (by simp only[RD]) (zA P)
section
variable {X:Cx} {pos p:Pos}
theorem oy {c:Nat} {o:Expr} {k:EF} {apos a p1:Pos} {j} {x:Str} (t:x=toS [c]) (q:ME X o k) (f:attributeBase o "split" X.env (eval o X.env)=eval o X.env:=by rfl)
  (h:((backTo a (starEach [.Constant (.str x) j p1] X.env)).all (λx => !x.1) && (backToKw a (keywordEach [] X.env)).all (λx=>x.1.isSome)
   && decide (([.Constant (.str x) j p1] : List Expr).length + ([] : List Keyword).length + (if ([] : List Keyword).isEmpty then 0 else 1) < 30))=true:=by rfl)
  (g:(apos.endLine == a.line)=true:=by rfl) (n:starEach [.Constant (.str x) j p1] X.env=(false,eval (.Constant (.str x) j p1) X.env) :: starEach [] X.env:=by rfl) :
  MF X (.Call (.Attribute o "split" apos) [.Constant (.str x) j p1] [] a) (j9 c k):=by
 refine PE.imp (sB X8 PySem.F.slot_str_split PySem.F.type_str_split Ho q (cw wO dI n) f h g n) λσ H Q ⟨ρ,σd,hd,u,b⟩=>⟨ρ,σd,hd,u,?_⟩;unfold j9 at b;cases e:k σd hd with
 | exc x h'=>rw[e]at b;exact b
 | bad=>rw[e]at b;exact b
 | ok d hd1 =>
  rw[e]at b;simp only[ay]at b;intro v H1 r s i m;cases d<;>try exact b.elim
  rename_i l
  simp only[rD,RD]at m;subst m;simp only at b;split at b
  ·rename_i hb
   refine⟨rfl,toS l,c,rfl,by rw[t];rfl,by rw[ed];exact ZM hb xp,?_,?_⟩
   ·rw[vZ,ZA]
    exact ZM (sY c l) (ZM (Nat.succ_le_succ hb) (by rw[YK];decide))
   ·rw[vZ]
    exact b.mk s i (zA _)
  ·exact b.elim
end
end Fm
namespace Fm
variable {d:D}{h h':Hd}
theorem v5 (e:h'.length<=h.length):letGo h (.ok d h')=.ok d h':=by
 simp only[letGo];split
 ·rw[X9 e]
 ·rfl
@[simp] theorem aQ {h:Hd} {d:D}:letGo h (.ok d h)=.ok d h:=v5 (ZL _)
@[simp] theorem EO {h:Hd} {d:D} {n:Nat} {c:ca}:letGo h (.ok d (h.set n c))=.ok d (h.set n c):=v5 (by simp)
theorem v6 (e:pure? d=false):letGo h (.ok d h')=.ok d h':=by
 simp[letGo,e]
@[simp] theorem ee {h h':Hd} {n:Nat}:letGo h (.ok (.ref n) h')=.ok (.ref n) h':=v6 rfl
theorem cY {g:Hd}(e:pure? d=true):letGo h (.ok d (h++g))=.ok d h:=by
 have:C7 h (h++g):=λn c a hc=>.inl (by rwa[ZC a]at hc);simp[letGo,e,this]
theorem EQ {g:Hd}(e:pure? d=true)(b:h'.length=h.length)(a:C7 h (h'++g)):letGo h (.ok d (h'++g))=.ok d h':=by
 simp[letGo,e,a,<-b]
structure Web where
 ties:List (List (Nat × Int))
 bars:List Int
 stays:List (Option Int)
def cR:Option Int->D
 | none=>.non
 | some i=>.int i
def nn (p:Nat × Int):D:=.tup [.int p.1,.int p.2]
def sZ (r:List (Nat × Int)):D:=.tup (r.map nn)
def aq (l:List Int):D:=.tup (l.map .int)
def Web.enc (w:Web):D:=.tup [.tup (w.ties.map sZ),.tup (w.bars.map .int),.tup (w.stays.map cR)]
structure Web.Ok (w:Web) (n:Nat):Prop where
 t:w.ties.length=n
 b:w.bars.length=n
 s:w.stays.length=n
 lt:∀r∈w.ties,∀p∈r,p.1 < n
 sz:n<=1000
structure c5 (w:Web) (n:Nat) (s:List Int):Prop where
 len:s.length=n
 op:∀x∈s,x=0\/x=1
 st:∀(i:Nat) (x:Int),w.stays[i]? = some (some x)->s[i]? = some x
variable {l:List D}
theorem de {i:Nat}(e:l[i]? = some d):atI l (i:Int)=some d:=by
 have:=(List.getElem?_eq_some_iff.mp e).1;simp[atI,ixN,this];simpa[ZE this] using e
@[simp] theorem qP (x:D) (l:List D):atI (x :: l) 0=some x:=de (i:=0) rfl
@[simp] theorem OB (x y:D) (l:List D):atI (x :: y :: l) 1=some y:=de (i:=1) rfl
@[simp] theorem P3 (x y z:D) (l:List D):atI (x :: y :: z :: l) 2=some z:=de (i:=2) rfl
theorem bA {g:Option Nat}{all:List D}{tg:GF}{cs:List TF}{e:EF}{h:Hd}(I:Sd->Prop)(p:D->Bool)(f:D->D)(a:dJ g all h) :
  ∀{xs:List D} {σ:Sd},(∀x∈xs,∀σ,I σ->∃σ',tg x σ = some σ'/\I σ'/\kP cs σ' h=.ok (p x) h/\(p x=true->e σ' h=.ok (f x) h))->I σ->
   cI g all tg cs e xs σ h=.ok ((xs.filter p).map f) h
 | [],_,_,_=>by simp[cI,a]
 | x :: xs,σ,st,i=>by
  obtain⟨σ',b,l,d,j⟩:=st x (by simp) σ i;have c:=bA I p f a (xs:=xs) (σ := σ') (λy k=>st y (by simp[k])) l;cases hp:p x with
  | true=>simp[cI,a,b,d,hp,j hp,c]
  | false=>simp[cI,a,b,d,hp,c]
theorem pE {g:Option Nat}{all:List D}{tg:GF}{b:SF}{rest:List D}(P:Nat->Sd->Hd->Prop)(j:∀i σ h,P i σ h->dJ g all h) :
  ∀{xs:List D} {k:Nat} {σ:Sd} {h:Hd},(∀(i:Nat) x σ h,xs[i]? = some x->P (k + i) σ h->∃σ',tg x σ = some σ'/\∃σ'' a,b σ' h=.nx σ'' a/\P (k + i + 1) σ'' a)->P k σ h->
   ∃σ' h',jG g all tg b (xs++rest) σ h=jG g all tg b rest σ' h'/\P (k + xs.length) σ' h'
 | [],k,σ,h,_,p=>⟨σ,h,rfl,by simpa using p⟩
 | x :: xs,k,σ,h,st,p=>by
  obtain⟨σ',m,t,u,s,o⟩:=st 0 x σ h (by simp) (by simpa using p);have c:∀(i:Nat) y σ h,xs[i]? = some y->P (k + 1 + i) σ h->∃σ',tg y σ = some σ'/\∃σ'' a,b σ' h=.nx σ'' a/\P (k + 1 + i + 1) σ'' a:=λi y σ h e q=>by
   have d:k + 1 + i=k + (i + 1):=by omega
   rw[d]at q ⊢;exact st (i + 1) y σ h (by simpa using e) q
  obtain⟨f,n,r,l⟩:=pE P j c (by simpa using o);refine⟨f,n,?_,?_⟩
  ·rw[<-r,WJ,jG,z4 (j _ _ _ p),m]
   simp only[s]
  ·have d:k + (x :: xs).length=k + 1 + xs.length:=by simp;omega
   rw[d];exact l
variable {σ:Sd}{b:SF}
theorem bZ {g:Option Nat}{all:List D}{tg:GF}(P:Nat->Sd->Hd->Prop)(c:∀i σ h,P i σ h->dJ g all h)
  {xs:List D} {k:Nat}   (st:∀(i:Nat) x σ h,xs[i]? = some x->P (k + i) σ h->∃σ',tg x σ = some σ'/\∃σ'' a,b σ' h=.nx σ'' a/\P (k + i + 1) σ'' a) (p:P k σ h) :
   ∃σ' h',jG g all tg b xs σ h=.nx σ' h'/\P (k + xs.length) σ' h':=by
 obtain⟨σ',h',q,z⟩:=pE (rest:=[]) P c st p;rw[YT]at q;exact⟨σ',h',q.trans (by unfold jG;exact z4 (c _ _ _ z)),z⟩
theorem nr {g:Option Nat}{all:List D}{tg:GF}{e:EF}(P:Nat->Sd->Hd->Prop)(V:Nat->D->Prop)(b:∀i σ h,P i σ h->dJ g all h) :
  ∀{xs:List D} {k:Nat} {σ:Sd} {h:Hd},(∀(i:Nat) x σ h,xs[i]? = some x->P (k + i) σ h->∃σ',tg x σ = some σ'/\∃d a,e σ' h=.ok d a/\V (k + i) d/\P (k + i + 1) σ' a)->P k σ h->
   ∃ds h',cI g all tg [] e xs σ h=.ok ds h'/\ds.length=xs.length/\(∀(i:Nat) d,ds[i]? = some d->V (k + i) d)/\∃σ',P (k + xs.length) σ' h'
 | [],k,σ,h,_,p=>⟨[],h,by simp[cI,b _ _ _ p],rfl,by simp,σ,by simpa using p⟩
 | x :: xs,k,σ,h,st,p=>by
  obtain⟨σ',n,d,z,v,w,t⟩:=st 0 x σ h (by simp) (by simpa using p);have f:∀(i:Nat) y σ h,xs[i]? = some y->P (k + 1 + i) σ h->∃σ',tg y σ = some σ'/\∃d a,e σ' h=.ok d a/\V (k + 1 + i) d/\P (k + 1 + i + 1) σ' a:=λi y σ h e q=>by
   have j:k + 1 + i=k + (i + 1):=by omega
   rw[j]at q ⊢;exact st (i + 1) y σ h (by simpa using e) q
  obtain⟨ds,s,u,r,c,l,m⟩:=nr P V b f (by simpa using t);refine⟨d :: ds,s,?_,by simp[r],λi o hd => ?_,l,?_⟩
  ·simp[cI,b _ _ _ p,n,kP,v,u]
  ·cases i with
   | zero=>simp at hd;subst hd;simpa using w
   | succ i =>
    have:=c i o (by simpa using hd);rwa[show k + 1 + i=k + (i + 1) by omega]at this
  ·have j:k + (x :: xs).length=k + 1 + xs.length:=by simp;omega
   rw[j];exact m
variable {n:Nat}
theorem tf {α : Type}{ds:List α}{f:Nat->α}(a:ds.length=n)(h:∀(i:Nat) d,ds[i]? = some d->d=f i):ds=(List.range n).map f:=by
 apply XD;intro i
 by_cases hi:i < n
 ·have:ds[i]? = some (ds[i]'(by omega)):=by simp[a,hi]
  rw[this,h i _ this];simp[hi]
 ·simp[hi,a]
theorem jg {t:TF}{b:SF}:∀{n:Nat} {σ:Sd} {h:Hd} {r:Out},fq t b n σ h=r->r ≠ .bad->∀{m:Nat},n<=m->fq t b m σ h=r
 | 0,σ,h,r,e,hr,m,_=>by simp only[fq]at e;exact absurd e.symm hr
 | n + 1,σ,h,r,e,hr,m,hm=>by
  cases m with
  | zero=>omega
  | succ m =>
   simp only[fq]at e ⊢;cases c:t σ h with
   | bad=>rw[c]at e;exact e
   | exc x h1=>rw[c]at e;exact e
   | ok cb h1 =>
    rw[c]at e;cases cb with
    | false=>exact e
    | true =>
     simp only at e ⊢;cases c2:b σ h1 with
     | nx σ2 h2=>rw[c2]at e;exact jg e hr (by omega)
     | ct σ2 h2=>rw[c2]at e;exact jg e hr (by omega)
     | bk σ2 h2=>rw[c2]at e;exact e
     | rt d h2=>rw[c2]at e;exact e
     | exc x σ2 h2=>rw[c2]at e;exact e
     | bad=>rw[c2]at e;exact e
variable {t:TF}
theorem ER {r:Out}(e:fq t b n σ h=r)(a:r ≠ .bad):sF t b σ h=r:=by
 have ex:∃n,fq t b n σ h ≠ .bad:=⟨n,by rw[e];exact a⟩;have c:Jk t b σ h=Classical.choose ex:=by simp[Jk,ex]
 have d:=Classical.choose_spec ex;unfold sF;rw[c]
 by_cases hle:n<=Classical.choose ex
 ·exact jg e a hle
 ·have:=jg (n:=Classical.choose ex) rfl d (m:=n) (by omega)
  rw[<-this,e]
variable {h1:Hd}
theorem aw {F:Fn}{r:LF}{ds:List D}(a:r σ h=.ok ds h1)(b:F ds h1=.ok d h'):am F r σ h=.ok d h':=by
 show Res.bind _ _=_;rw[a];exact b
theorem ar {a:EF}{r:LF}{b:Hd}{ds:List D}(p:a σ h=.ok d h1)(q:r σ h1=.ok ds b):ab a r σ h=.ok (d :: ds) b:=by
 show Res.bind _ _=_;rw[p,ay,q];rfl
theorem ah {g:O2}{a b:EF}{d c:Hd}{x y z:D}(p:a σ h=.ok x h1)(q:b σ h1=.ok y d)(r:g x y d=.ok z c):af g a b σ h=.ok z c:=by
 show Res.bind _ _=_;rw[p,ay,q];exact r
theorem tm {r:LF}{xs:List D}(p:r σ h=.ok xs h')(q:xs.length<=SZ:=by exact XB rfl):i9 r σ h=.ok (.tup xs) h':=by
 show Res.bind _ _=_;rw[p];exact z4 q
theorem cL {r:LF}{xs:List D}(p:r σ h=.ok xs h')(q:xs.length<=SZ:=by exact XB rfl):bG r σ h=.ok (.ref h'.length) (h'++[.lst xs]):=by
 show Res.bind _ _=_;rw[p];exact z4 q
theorem v7 {a:LF}{b:EF}{c:Hd}{i:Int}(p:a σ h=.ok l h1)(q:b σ h1=.ok (.int i) c)(r:atI l i=some d):fIx a b σ h=.ok d c:=by
 show Res.bind _ _=_;rw[p,ay,q];simp only[ay,r]
theorem aL {a b:EF}{c:Hd}{x:D}{i:Int}(p:a σ h=.ok x h1)(q:b σ h1=.ok (.int i) c)(s:kN c x=some l)(r:atI l i=some d):fAt a b σ h=.ok d c:=by
 show af _ _ _ _ _=_;exact ah p q (by simp only[oAt,s,r])
theorem aE (p:h[n]? = some (.lst l)):kN h (.ref n)=some l:=by simp only[kN,p]
variable {e:EF}
theorem aF {i:Nat}(p:e σ h=.ok d h'):aH (gN i) e σ h=.nx (σ.set i (some d)) h':=by
 show outE _ _ _=_;rw[p];rfl
theorem aV (p:e σ h=.ok d h'):aW e σ h=.rt d h':=by
 show outE _ _ _=_;rw[p];rfl
theorem hJ (p:e σ h=.ok d h'):fV e σ h=.nx σ h':=by
 show outE _ _ _=_;rw[p];rfl
theorem lE {a:SF}(p:t σ h=.ok true h1):sIf t a b σ h=a σ h1:=by
 unfold sIf;rw[p];rfl
theorem cn {a:SF}(p:t σ h=.ok false h1):sIf t a b σ h=b σ h1:=by
 unfold sIf;rw[p];rfl
theorem aT {a:EF}{b:Bool}(p:a σ h=.ok (.bl b) h'):tE a σ h=.ok b h':=by
 show asB _=_;rw[p];rfl
theorem bX {b:Bool}(p:t σ h=.ok b h'):cX t σ h=.ok (!b) h':=by
 show Res.bind _ _=_;rw[p];rfl
theorem nt {u:TF}{b:Bool}(p:t σ h=.ok true h1)(q:u σ h1=.ok b h'):jV t u σ h=.ok b h':=by
 show Res.bind _ _=_;rw[p];exact q
theorem rT {u:TF}(p:t σ h=.ok false h1):jV t u σ h=.ok false h1:=by
 show Res.bind _ _=_;rw[p];rfl
theorem gj {u:TF}{b:Bool}(p:t σ h=.ok false h1)(q:u σ h1=.ok b h'):tOr t u σ h=.ok b h':=by
 show Res.bind _ _=_;rw[p];exact q
theorem xx {u:TF}(p:t σ h=.ok true h1):tOr t u σ h=.ok true h1:=by
 show Res.bind _ _=_;rw[p];rfl
variable {j:Int}
theorem zB {i:Int}:oEq (.int i) (.int j) h=.ok (.bl (decide (i=j))) h:=rfl
theorem cZ {a:LF}(p:a σ h=.ok l h1):cC a σ h=.ok (.int l.length) h1:=by
 show Res.bind _ _=_;rw[p];rfl
theorem cz {a:EF}{x:D}(p:a σ h=.ok x h1)(s:kN h1 x=some l):lOf a σ h=.ok l h1:=by
 show Res.bind _ _=_;rw[p];simp only[ay,s]
theorem tq {x i:EF}{b a:Hd}{k:Nat}(p:e σ h=.ok d h1)(q:x σ h1=.ok (.ref n) b)(r:i σ b=.ok (.int j) a)(s:a[n]? = some (.lst l))(t:ixN l.length j=some k):mJ x i e σ h=.nx σ (a.set n (.lst (l.set k d))):=by
 simp only[mJ,p,q,r,outE,s,t]
theorem ka {x:EF}{a:Hd}{b:List D}(p:x σ h=.ok (.ref n) h1)(q:h1[n]? = some (.lst b))(r:e σ h1=.ok d a)(s:a[n]? = some (.lst l))(t:l.length < SZ):jX x e σ h=.ok .non (a.set n (.lst (l++[d]))):=by
 simp only[jX,p,ay,q,r,L0,s,z4 t]
theorem ef {i:Int}(p:0 < j):dh (.int i) (.int j) h=.ok (.int (i % j)) h:=by
 simp only[dh,oIc,x6 p,YP]
theorem lF {i:Int}(p:0 < j)(q:j < 2 ^ 250):kS (.int i) (.int j) h=.ok (.int (i / j)) h:=by
 simp only[kS,oIc,x6 p,x6 q,Bool.and_self,YP]
theorem nu {i:Int}(e:i=j):oEq (.int i) (.int j) h=.ok (.bl true) h:=by rw[zB,x6 e]
theorem lG {i:Int}(e : ¬i=j):oEq (.int i) (.int j) h=.ok (.bl false) h:=by rw[zB,wL e]
theorem MX {i:Int}(e : ¬i < j):oLt (.int i) (.int j) h=.ok (.bl false) h:=by show Res.ok (D.bl (decide (i < j))) h=_;rw[wL e]
theorem MY {i:Int}(e:i < j):oLt (.int i) (.int j) h=.ok (.bl true) h:=by show Res.ok (D.bl (decide (i < j))) h=_;rw[x6 e]
theorem Hr {i:Int}(p:(sml i || sml j)=true):cB (.int i) (.int j) h=.ok (.int (i * j)) h:=by
 show (if (sml i || sml j)=true then _ else _)=_;exact z4 p
theorem iq {i:Int}(p:sml i=true):cB (.int i) (.int j) h=.ok (.int (i * j)) h:=Hr (by rw[p];rfl)
theorem JU {i:Int}(p:sml j=true):cB (.int i) (.int j) h=.ok (.int (i * j)) h:=Hr (by rw[p,WK])
theorem oz {b:Bool}(p:t σ h=.ok b h'):fT t σ h=.ok (.bl b) h':=by
 show Res.bind _ _=_;rw[p];rfl
variable {A:Nat}
theorem xy {a g:Hd}(b:A=a.length)(k:Nat)(c:ca):(a++g).set (A + k) c=a++g.set k c:=by
 subst b;rw[List.set_append_right _ _ (by omega)];congr 2;omega
theorem bn {a:Hd}{j:Nat}{c:ca}(g:Hd)(e:a[j]? = some c):(a++g)[j]? = some c:=(ZC (List.getElem?_eq_some_iff.mp e).1).trans e
theorem cV {a:EF}(p:a σ h=.ok (.int n) h1)(b:n<=1000):bH a σ h=.ok ((List.range n).map (λk:Nat=>D.int k),none) h1:=by
 show Res.bind _ _=_;rw[p];exact z4 ⟨Int.le_trans (by decide) (XU n),Int.le_trans (Int.ofNat_le.mpr b) (by decide)⟩
theorem eE {it:IF}{tg:GF}{g:Option Nat}{o:Out}(p:it σ h=.ok (l,g) h1)(q:jG g l tg b l σ h1=o):eO it tg b σ h=o:=by
 unfold eO;rw[p];exact q
theorem cG {nl:Nat}{caps:List Nat}{it:IF}{tg:GF}{cs:List TF}{a:Hd}{ds:List D}{g:Option Nat}(p:it σ h=.ok (l,g) h1)(q:cI g l tg cs e l (gp nl caps σ) h1=.ok ds a):bM nl caps it tg cs e σ h=.ok ds a:=by
 show Res.bind _ _=_;rw[p];exact q
theorem MZ {a:LF}{b:EF}{c:Hd}{n:Int}(p:a σ h=.ok l h1)(q:b σ h1=.ok (.int n) c)(r:0<=n/\n<=1000/\l.length * n.toNat<=1000):sO a b σ h=.ok (List.replicate n.toNat l).flatten c:=by
 simp only[sO,p,ay,q,z4 r]
theorem M0 {k:Int}{l:List (Int × D)}(p:h[n]? = some (.dct l)):GM (.int k) (.ref n) h=.ok (.bl (sM l k).isSome) h:=by simp only[GM,p]
theorem DE {x i:EF}{b a:Hd}{l:List (Int × D)}(p:e σ h=.ok d h1)(q:x σ h1=.ok (.ref n) b)(r:i σ b=.ok (.int j) a)(s:a[n]? = some (.dct l))(t:l.length < SZ):zi x i e σ h=.nx σ (a.set n (.dct (Bs l j d))):=by
 simp only[zi,p,q,r,outE,s,z4 t]
theorem BB {a:EF}(p:a σ h=.ok (.ref n) h1)(q:h1[n]? = some (.lst l)):gK .list a σ h=.ok (.bl true) h1:=by
 simp only[gK,p,ay,Ep,q];rfl
theorem fY {a:EF}(p:a σ h=.ok (.ref n) h1)(q:h1[n]? = some (.lst l)):eI a σ h=.ok (l,some n) h1:=by
 simp only[eI,p,ay,q]
theorem M3 {a b:EF}{c:Hd}{i:Int}(p:a σ h=.ok (.int i) h1)(q:b σ h1=.ok (.int j) c):Bv a b σ h=.ok (.int (if j > i then j else i)) c:=by
 simp only[Bv,p,ay,q]
theorem nv {a:EF}{b:Bool}(p:a σ h=.ok (.bl b) h1):wY a σ h=.ok (.int (b2i b)) h1:=by
 simp only[wY,p,ay]
theorem BC {a:LF}{is:List Int}(p:a σ h=.ok l h1)(q:ig l=some is):uD a σ h=.ok (.int is.sum) h1:=by
 simp only[uD,p,ay,q]
theorem jh {a:LF}(p:a σ h=.ok l h1):gg a σ h=.ok (.tup l) h1:=by
 show Res.bind _ _=_;rw[p];rfl
theorem BD {i:Int}(e:j < i):oGt (.int i) (.int j) h=.ok (.bl true) h:=by show Res.ok (D.bl (decide (j < i))) h=_;rw[x6 e]
theorem ny {i:Int}(e : ¬j < i):oGt (.int i) (.int j) h=.ok (.bl false) h:=by show Res.ok (D.bl (decide (j < i))) h=_;rw[wL e]
theorem iu (a:A=h.length)(c:ca):(h++[c])[A]? = some c:=by rw[a];exact ZG
theorem kc (a:A=h.length)(c d:ca):(h++[c]).set A d=h++[d]:=by
 have:=xy (g:=[c]) a 0 d;rwa[Nat.add_zero]at this
theorem DF {r:LF}{xs:List D}(a:A=h'.length)(p:r σ h=.ok xs h')(q:xs.length<=SZ):bG r σ h=.ok (.ref A) (h'++[.lst xs]):=by rw[a];exact cL p q
theorem fZ {l:List Int}{i:Nat}(h:i < l.length):atI (l.map D.int) (i:Int)=some (.int (l.getD i 0)):=de (by rw[ZQ,ZE h,ZF,ZE h];rfl)
theorem BE {a b:EF}(p:t σ h=.ok true h1):fIf t a b σ h=a σ h1:=by
 show Res.bind _ _=_;rw[p];rfl
theorem xz {a b:EF}(p:t σ h=.ok false h1):fIf t a b σ h=b σ h1:=by
 show Res.bind _ _=_;rw[p];rfl
theorem cH {a:SF}{σ':Sd}(e:a σ h=.nx σ' h'):ax a b σ h=b σ' h':=by simp only[ax,e]
theorem oA {a:SF}(e:a σ h=.rt d h'):ax a b σ h=.rt d h':=by simp only[ax,e]
theorem bJ {np:Nat}{ds:List D}(a:ds.length=np)(st:(ds.map some++List.replicate (n - ds.length) none:Sd) = σ)(e:b σ h=.rt d h'):bu np n b ds h=letGo h (.ok d h'):=by
 unfold bu runB;rw[z4 a,st,e]
theorem K0 {np:Nat}{ds:List D}{σ':Sd}(a:ds.length=np)(st:(ds.map some++List.replicate (n - ds.length) none:Sd) = σ)(e:b σ h=.nx σ' h'):bu np n b ds h=letGo h (.ok .non h'):=by
 unfold bu runB;rw[z4 a,st,e]
theorem pF {b:Bool}(p:t σ h=.ok b h):kP [t] σ h=.ok b h:=by
 simp only[kP,p,ay];cases b<;>rfl
theorem tu {a:EF}(p:a σ h=.ok (.tup l) h1):eI a σ h=.ok (l,none) h1:=by
 show Res.bind _ _=_;rw[p];rfl
theorem tw {a:LF}{bs:List Bool}(p:a σ h=.ok l h1)(q:kO l=some bs):sE a σ h=.ok (.bl (bs.all id)) h1:=by
 simp only[sE,p,ay,q]
theorem pG (a b:Int)(h:Hd):oNe (.int a) (.int b) h=.ok (.bl (!decide (a=b))) h:=rfl
theorem M4 {a b:EF}{c:Hd}{i:Int}(p:a σ h=.ok (.int i) h1)(q:b σ h1=.ok (.int j) c):Ey a b σ h=.ok (.int (if j < i then j else i)) c:=by
 simp only[Ey,p,ay,q]
theorem bU {a b:EF}{c:Hd}{e:D}(p:a σ h=.ok d h1)(q:b σ h1=.ok e c):ab a (ab b ao) σ h=.ok [d,e] c:=ar p (ar q rfl)
theorem re {m:Nat}(h:n<=30)(q:30<=m:=by decide):n<=m:=ZM h q
theorem sx {a:SF}{σ':Sd}{o:Out}(p:a σ h=.nx σ' h')(q:b σ' h'=o):ax a b σ h=o:=(cH p).trans q
def eg:Fn:=bu 1 1 (aW (fT (jV (tE (gK .int (aa 0))) (cX (tE (gK .bool (aa 0)))))))
def bo:Fn:=bu 3 3 (aW (fT (jV (tE (am eg (ab (aa 0) ao))) (tE (sD oLe oLe (aa 1) (aa 0) (aa 2))))))
def cS:Fn:=bu 1 1 (aW (am bo (ab (aa 0) (ab (fC (.int 0)) (ab (fC (.int 1)) ao)))))
def bQ:Fn:=bu 1 1 (aW (cC (lOf (fAt (aa 0) (fC (.int 0))))))
def eu:Fn:=bu 2 2 (aW (fAt (fAt (aa 0) (fC (.int 0))) (aa 1)))
def oC:Fn:=bu 2 2 (aW (fAt (fAt (aa 0) (fC (.int 1))) (aa 1)))
def iG:Fn:=bu 2 2 (aW (fAt (fAt (aa 0) (fC (.int 2))) (aa 1)))
abbrev DG:SF:=(ax (sIf (cX (tE (am cS (ab (aa 3) ao)))) (aW (fC (.bl false))) bc)
  (ax (aH (gN 4) (am iG (ab (aa 0) (ab (aa 2) ao))))
  (sIf (jV (tE (af ja (aa 4) (fC .non))) (tE (af oNe (aa 3) (aa 4)))) (aW (fC (.bl false))) bc)))
def xA:Fn:=bu 2 5 (ax (sIf (tOr (cX (tE (gK .tuple (aa 1)))) (tE (af oNe (cC (lOf (aa 1))) (am bQ (ab (aa 0) ao))))) (aW (fC (.bl false))) bc)
  (ax (eO (Gy (aa 1)) (gT [2,3]) DG)
  (aW (fC (.bl true)))))
def cT:Fn:=bu 2 2 (sIf (cX (tE (am xA (ab (aa 0) (ab (aa 1) ao))))) c7 bc)
def mz:Fn:=bu 3 3 (aW (af cB (fC (.int 2)) (uD (bM 2 [1] (eI (am eu (ab (aa 0) (ab (aa 2) ao)))) (gT [0,1]) [(tE (af oEq (fAt (aa 2) (aa 0)) (fC (.int 1))))] (aa 1)))))
theorem oE (i:Int)(h:Hd):eg [.int i] h=.ok (.bl true) h:=(bJ (d:=.bl true) (h':=h) rfl rfl rfl).trans aQ
theorem c8 (i a b:Int)(h:Hd):bo [.int i,.int a,.int b] h=.ok (.bl (decide (a<=i) && decide (i<=b))) h:=by
 have c:sD oLe oLe (aa 1) (aa 0) (aa 2) [some (.int i),some (.int a),some (.int b)] h=.ok (.bl (decide (a<=i) && decide (i<=b))) h:=by
  show (match D.bl (decide (a<=i)) with | .bl true=>Res.ok (D.bl (decide (i<=b))) h | .bl false=>.ok (.bl false) h|_=>.bad)=_;cases decide (a<=i)<;>rfl
 have t:jV (tE (am eg (ab (aa 0) ao))) (tE (sD oLe oLe (aa 1) (aa 0) (aa 2))) [some (.int i),some (.int a),some (.int b)] h=.ok (decide (a<=i) && decide (i<=b)) h:=nt (aT (aw (ar rfl rfl) (oE i h))) (aT c);exact(bJ rfl rfl (aV (oz t))).trans aQ
theorem iP (i:Int)(h:Hd):cS [.int i] h=.ok (.bl (decide (0<=i) && decide (i<=1))) h:=by
 exact(bJ rfl rfl (aV (aw (ar rfl (bU rfl rfl)) (c8 i 0 1 h)))).trans aQ
theorem qQ (w:Web)(h:Hd):bQ [w.enc] h=.ok (.int w.ties.length) h:=by
 have:=(bJ (np:=1) (n:=1) (b:=aW (cC (lOf (fAt (aa 0) (fC (.int 0)))))) (ds:=[w.enc]) (h:=h) rfl rfl (aV (cZ (cz (aL rfl rfl rfl rfl) rfl)))).trans aQ;rwa[ZA]at this
variable {r:List (Nat × Int)}{p:Nat}
theorem qR (w:Web)(h:Hd)(e:w.ties[p]? = some r):eu [w.enc,.int p] h=.ok (sZ r) h:=by
 have q:atI (w.ties.map sZ) (p:Int)=some (sZ r):=de (by simp[e]);exact(bJ rfl rfl (aV (aL (aL rfl rfl rfl rfl) rfl rfl q))).trans aQ
theorem BF (w:Web)(h:Hd){r:Int}(e:w.bars[p]? = some r):oC [w.enc,.int p] h=.ok (.int r) h:=by
 have q:atI (w.bars.map .int) (p:Int)=some (.int r):=de (by simp[e]);exact(bJ rfl rfl (aV (aL (aL rfl rfl rfl rfl) rfl rfl q))).trans aQ
theorem lH (w:Web)(h:Hd){r:Option Int}(e:w.stays[p]? = some r):iG [w.enc,.int p] h=.ok (cR r) h:=by
 have q:atI (w.stays.map cR) (p:Int)=some (cR r):=de (by simp[e]);exact(bJ rfl rfl (aV (aL (aL rfl rfl rfl rfl) rfl rfl q))).trans aQ
variable {s:List Int}{w:Web}
theorem JV (W:w.Ok n)(F:c5 w n s)(h:Hd):xA [w.enc,aq s] h=.ok (.bl true) h:=by
 obtain⟨σ',h',m,u,a,b,c,r⟩:=bZ (P:=λ_ σ h'=>h'=h/\∃a b c,σ = [some w.enc,some (aq s),a,b,c]) (g:=none) (k:=0)
   (all:=((List.range (s.map D.int).length).zip (s.map D.int)).map λp=>D.tup [.int (p.1:Nat),p.2]) (λ_ _ _ _=>trivial)
   (xs:=((List.range (s.map D.int).length).zip (s.map D.int)).map λp=>D.tup [.int (p.1:Nat),p.2]) (tg:=gT [2,3]) (σ:=[some w.enc,some (aq s),none,none,none]) (h:=h)
   (b:=DG) (by
   rintro i x σ d o ⟨rfl,a,b,c,rfl⟩;have hi:i < s.length:=by
    have:=(List.getElem?_eq_some_iff.mp o).1;simpa using this
   have l:x=.tup [.int (i:Nat),.int s[i]]:=by simpa[hi,ZE] using o.symm
   subst l;have j:w.stays[i]? = some (w.stays[i]'(by rw[W.s,<-F.len];exact hi)):=ZE _;generalize w.stays[i]'(by rw[W.s,<-F.len];exact hi)=st at j;have op:cS [.int s[i]] d=.ok (.bl true) d:=by
    rw[iP];rcases F.op _ (YC hi) with e|e<;>rw[e]<;>rfl
   have f:sIf (cX (tE (am cS (ab (aa 3) ao)))) (aW (fC (.bl false))) bc [some w.enc,some (aq s),some (.int i),some (.int s[i]),c] d=.nx [some w.enc,some (aq s),some (.int i),some (.int s[i]),c] d:=cn (bX (aT (aw (ar rfl rfl) op)));have q:=lH w d j;cases st with
   | none=>exact⟨_,rfl,_,d,(cH f).trans ((cH (aF (aw (bU rfl rfl) q))).trans (cn (rT (aT (ah rfl rfl rfl))))),rfl,_,_,_,rfl⟩
   | some y =>
    have t:s[i] = y:=by have:=F.st i y j;rw[ZE hi]at this;exact ZT this
    exact⟨_,rfl,_,d,(cH f).trans ((cH (aF (aw (bU rfl rfl) q))).trans (cn (nt (aT (ah rfl rfl rfl)) (aT (ah rfl rfl (by rw[show cR (some y)=D.int y from rfl,pG,x6 t];rfl)))))),rfl,_,_,_,rfl⟩) ⟨rfl,_,_,_,rfl⟩
 rw[u,r]at m;have f:sIf (tOr (cX (tE (gK .tuple (aa 1)))) (tE (af oNe (cC (lOf (aa 1))) (am bQ (ab (aa 0) ao))))) (aW (fC (.bl false))) bc [some w.enc,some (aq s),none,none,none] h=.nx [some w.enc,some (aq s),none,none,none] h :=
  cn (gj (bX (b:=true) (aT rfl)) (aT (ah (cZ (cz rfl rfl)) (aw (ar rfl rfl) (qQ w h)) (by rw[pG,ZA,F.len,W.t,x6 rfl];rfl))))
 exact(bJ rfl rfl ((cH f).trans ((cH (eE rfl m)).trans (aV rfl)))).trans aQ
theorem tz (W:w.Ok n)(F:c5 w n s)(h:Hd):cT [w.enc,aq s] h=.ok .non h:=by
 exact(K0 rfl rfl (cn (bX (aT (aw (bU rfl rfl) (JV W F h)))))).trans aQ
theorem pH (l:List Int):ig (l.map .int)=some l:=by
 induction l with
 | nil=>rfl
 | cons x xs ih=>simp[ig,ih]
theorem BG {i:Nat}(h:i < s.length):atI (s.map .int) (i:Int)=some (.int s[i]):=de (by simp[h])
def fD (r:List (Nat × Int)) (s:List Int):List Int:=(r.filter λp=>decide (s.getD p.1 0=1)).map (·.2)
def bL (r:List (Nat × Int)) (s:List Int):Int:=(fD r s).sum
theorem Hs (f:∀q∈r,q.1 < s.length)(h:Hd):cI none (r.map nn) (gT [0,1]) [(tE (af oEq (fAt (aa 2) (aa 0)) (fC (.int 1))))] (aa 1) (r.map nn) [none,none,some (aq s)] h=.ok ((fD r s).map D.int) h:=by
 have c:cI none (r.map nn) (gT [0,1]) [(tE (af oEq (fAt (aa 2) (aa 0)) (fC (.int 1))))] (aa 1) (r.map nn) [none,none,some (aq s)] h
   = .ok (((r.map nn).filter λd=>match d with | .tup [.int i,_]=>decide (s.getD i.toNat 0=1)|_=>false).map λd=>match d with | .tup [_,x]=>x|_=>.non) h:=by
  refine bA (g:=none) (I:=λσ=>∃a b,σ = [a,b,some (aq s)]) _ _ trivial ?_ ⟨_,_,rfl⟩;rintro x e σ ⟨a,b,rfl⟩;obtain⟨⟨q,wt⟩,j,rfl⟩:=List.mem_map.mp e;exact⟨_,rfl,⟨_,_,rfl⟩,pF (aT (ah (aL rfl rfl rfl (fZ (f _ j))) rfl zB)),λ_=>rfl⟩
 rw[c,fD,List.filter_map,Z7,Z7];rfl
theorem BH (W:w.Ok n)(a:s.length=n)(e:w.ties[p]? = some r)(h:Hd) :
  mz [w.enc,aq s,.int p] h=.ok (.int (2 * bL r s)) h:=by
 have b:∀q∈r,q.1 < s.length:=λq c=>by rw[a];exact W.lt r (ZK e) q c
 exact(bJ rfl rfl (aV (ah rfl (BC (cG (tu (aw (bU rfl rfl) (qR w h e))) (Hs b h)) (pH _)) (iq (by decide))))).trans aQ
def ji (w:Web) (f s:List Int) (p:Nat):Int:=(2 * w.bars.getD p 0 + 1) * (f.getD p 0 + s.getD p 0) - (if s.getD p 0=1 then 2 * (2 * bL (w.ties.getD p []) f) + 2 * f.getD p 0 else 0)
def c6 (w:Web) (f s:List Int):Nat->Int
 | 0=>0
 | k + 1=>c6 w f s k + ji w f s k
theorem JW {x:Int}(h:x=0\/x=1):sml x=true:=by rcases h with e|e<;>subst e<;>decide
def iH:Fn:=bu 3 6 (ax (aH (gN 3) (am iG (ab (aa 0) (ab (aa 2) ao))))
  (ax (sIf (tE (af ja (aa 3) (fC .non))) (aW (aa 3)) bc)
  (ax (aH (gN 4) (am mz (ab (aa 0) (ab (aa 1) (ab (aa 2) ao)))))
  (ax (aH (gN 5) (am oC (ab (aa 0) (ab (aa 2) ao))))
  (ax (sIf (tE (af oEq (aa 4) (aa 5))) (aW (fAt (aa 1) (aa 2))) bc)
  (aW (fIf (tE (af oGt (aa 4) (aa 5))) (fC (.int 1)) (fC (.int 0)))))))))
def eA:Fn:=bu 2 2 (aW (gg (bM 1 [0,1] (bH (am bQ (ab (aa 0) ao))) (gN 0) [] (am iH (ab (aa 1) (ab (aa 2) (ab (aa 0) ao)))))))
abbrev tD:SF:=(ax (fV (jX (aa 2) (aa 3)))
  (aH (gN 3) (am eA (ab (aa 0) (ab (aa 3) ao)))))
def oF:Fn:=bu 2 5 (ax (fV (am cT (ab (aa 0) (ab (aa 1) ao))))
  (ax (aH (gN 2) (bG (ab (aa 1) (ab (am eA (ab (aa 0) (ab (aa 1) ao))) ao))))
  (ax (aH (gN 3) (am eA (ab (aa 0) (ab (fAt (aa 2) (fC (.int 1))) ao))))
  (ax (sF (tE (af oNe (aa 3) (fAt (aa 2) (fC (.int (-2)))))) tD)
  (ax (aH (gN 4) (fIf (tE (af oEq (fAt (aa 2) (fC (.int (-1)))) (fAt (aa 2) (fC (.int (-2)))))) (fC (.str [114,101,115,116])) (fC (.str [112,97,105,114]))))
  (aW (i9 (ab (af fU (cC (lOf (aa 2))) (fC (.int 2))) (ab (aa 4) (ab (aa 2) ao))))))))))
def dX (w:Web) (s:List Int) (p:Nat):Int:=match w.stays.getD p none with
 | some x=>x
 | none=>if 2 * bL (w.ties.getD p []) s=w.bars.getD p 0 then s.getD p 0 else if w.bars.getD p 0 < 2 * bL (w.ties.getD p []) s then 1 else 0
def dv (w:Web) (n:Nat) (s:List Int):List Int:=(List.range n).map (dX w s)
theorem BJ (W:w.Ok n)(F:c5 w n s)(hp:p < n)(h:Hd):iH [w.enc,aq s,.int p] h=.ok (.int (dX w s p)) h:=by
 have f:p < w.ties.length:=by rw[W.t];exact hp
 have d:p < w.bars.length:=by rw[W.b];exact hp
 have b:p < w.stays.length:=by rw[W.s];exact hp
 have i:p < s.length:=by rw[F.len];exact hp
 have l:w.ties[p]? = some w.ties[p]:=by simp[f]
 have m:w.bars[p]? = some w.bars[p]:=by simp[d]
 have es:w.stays[p]? = some w.stays[p]:=by simp[b]
 have a:=BH W F.len l h;have j:w.ties.getD p [] = w.ties[p]:=by simp[List.getD,f]
 have t:w.bars.getD p 0=w.bars[p]:=by simp[List.getD,d]
 have g:w.stays.getD p none=w.stays[p]:=by simp[List.getD,b]
 have o:s.getD p 0=s[p]:=by simp[List.getD,i]
 have r:=BG i;cases c:w.stays[p] with
 | some x =>
  rw[c]at es;have k:dX w s p=x:=by unfold dX;rw[g,c]
  rw[k];exact(bJ rfl rfl ((cH (aF (aw (bU rfl rfl) (lH w h es)))).trans (oA ((lE (aT (ah rfl rfl rfl))).trans (aV rfl))))).trans aQ
 | none =>
  rw[c]at es;have u:=lH w h es;have q:=BF w h m;simp only[dX,g,c,j,t,o];generalize 2 * bL w.ties[p] s=P at a;have go:∀{v:Int},ax (sIf (tE (af oEq (aa 4) (aa 5))) (aW (fAt (aa 1) (aa 2))) bc) (aW (fIf (tE (af oGt (aa 4) (aa 5))) (fC (.int 1)) (fC (.int 0)))) [some w.enc,some (aq s),some (.int p),some .non,some (.int P),some (.int w.bars[p])] h=.rt (.int v) h->iH [w.enc,aq s,.int p] h=.ok (.int v) h:=λe=>Eq.trans (bJ (σ:=[some w.enc,some (aq s),some (.int p),none,none,none]) rfl rfl (sx (aF (aw (bU rfl rfl) u)) (sx (cn (aT (ah rfl rfl rfl))) (sx (aF (aw (ar rfl (bU rfl rfl)) a)) (sx (aF (aw (bU rfl rfl) q)) e))))) aQ
  by_cases e1:P=w.bars[p]
  ·rw[z4 e1];exact go (oA ((lE (aT (ah rfl rfl (nu e1)))).trans (aV (aL rfl rfl rfl r))))
  ·rw[z5 e1]
   by_cases e2:w.bars[p] < P
   ·rw[z4 e2];exact go ((cH (cn (aT (ah rfl rfl (lG e1))))).trans (aV ((BE (aT (ah rfl rfl (BD e2)))).trans rfl)))
   ·rw[z5 e2];exact go ((cH (cn (aT (ah rfl rfl (lG e1))))).trans (aV ((xz (aT (ah rfl rfl (ny e2)))).trans rfl)))
theorem ke (W:w.Ok n)(F:c5 w n s)(h:Hd):eA [w.enc,aq s] h=.ok (aq (dv w n s)) h:=by
 have b:cI none ((List.range n).map λk:Nat=>D.int k) (gN 0) [] (am iH (ab (aa 1) (ab (aa 2) (ab (aa 0) ao)))) ((List.range n).map λk:Nat=>D.int k) [none,some w.enc,some (aq s)] h
   = .ok (((((List.range n).map λk:Nat=>D.int k).filter λ_=>true)).map λd=>match d with | .int i=>.int (dX w s i.toNat)|_=>.non) h:=by
  refine bA (g:=none) (I:=λσ=>∃a,σ = [a,some w.enc,some (aq s)]) _ _ trivial ?_ ⟨_,rfl⟩;rintro x c σ ⟨a,rfl⟩;obtain⟨i,hi,rfl⟩:=List.mem_map.mp c;have hi:=List.mem_range.mp hi;exact⟨_,rfl,⟨_,rfl⟩,by simp,λ_=>aw (ar rfl (bU rfl rfl)) (BJ W F hi h)⟩
 have f:((((List.range n).map λk:Nat=>D.int k).filter λ_=>true)).map (λd=>match d with | .int i=>D.int (dX w s i.toNat)|_=>.non)=(dv w n s).map D.int:=by
  rw[List.filter_eq_self.mpr (by simp),Z7,dv,Z7];rfl
 rw[f]at b;have e:bQ [w.enc] h=.ok (.int n) h:=W.t ▸ qQ w h;exact(bJ rfl rfl (aV (jh (cG (cV (aw (ar rfl rfl) e) W.sz) b)))).trans aQ
def cW (w:Web):Prop:=∀x∈w.stays,x=none\/x=some 0\/x=some 1
theorem gQ (F:c5 w n s)(i:Nat):s.getD i 0=0\/s.getD i 0=1:=by
 by_cases hi:i < s.length
 ·rw[List.getD,ZE hi];exact F.op _ (YC hi)
 ·rw[List.getD,List.getElem?_eq_none (by omega)];exact .inl rfl
theorem tF (F:c5 w n s)(S:cW w)(p:Nat):dX w s p=0\/dX w s p=1:=by
 unfold dX;cases c:w.stays.getD p none with
 | some x =>
  have:some x∈w.stays:=by
   rw[List.getD]at c;cases e:w.stays[p]? with
   | none=>rw[e]at c;cases c
   | some y=>rw[e]at c;simp at c;subst c;exact ZK e
  have:=S _ this;simp at this;exact this
 | none =>
  simp only;split
  ·exact gQ F p
  ·split<;>simp
theorem wa (W:w.Ok n)(S:cW w)(F:c5 w n s):c5 w n (dv w n s) where
 len:=by simp[dv]
 op:=λx b=>by
  obtain⟨p,c,rfl⟩:=List.mem_map.mp b;exact tF F S p
 st:=λi x e=>by
  have hi:i < n:=by rw[<-W.s];exact(List.getElem?_eq_some_iff.mp e).1
  have:w.stays.getD i none=some x:=by simp[List.getD,e]
  have a:dX w s i=x:=by unfold dX;rw[this]
  simp[dv,hi,a]
def aG (w:Web) (n:Nat) (s:List Int):Nat->List Int
 | 0=>s
 | k + 1=>dv w n (aG w n s k)
theorem bh {w:Web}{n:Nat}{s:List Int}(W:w.Ok n)(S:cW w)(F:c5 w n s):∀k,c5 w n (aG w n s k)
 | 0=>F
 | k + 1=>wa W S (bh W S F k)
def aX (w:Web) (n:Nat) (s:List Int) (m:Nat):List (List Int):=(List.range m).map (aG w n s)
theorem tG (m:Nat):aX w n s (m + 1)=aX w n s m++[aG w n s m]:=by simp[aX,XG]
theorem fN (m:Nat):(aX w n s m).length=m:=by simp[aX]
theorem tH {m i:Nat}(h:i < m):atI ((aX w n s m).map aq) (i:Int)=some (aq (aG w n s i)):=de (by simp[aX,h])
def iQ:Fn:=bu 2 4 (ax (sIf (tOr (cX (tE (gK .tuple (aa 1)))) (tE (af oNe (cC (lOf (aa 1))) (fC (.int 3))))) (aW (fC (.bl false))) bc)
  (ax (aH (gN 2) (fAt (aa 1) (fC (.int 0))))
  (ax (aH (gN 3) (fAt (aa 1) (fC (.int 1))))
  (ax (sIf (tOr (cX (tE (am bo (ab (aa 2) (ab (fC (.int 0)) (ab (af fU (aa 0) (fC (.int 1))) ao)))))) (cX (tE (am bo (ab (aa 3) (ab (fC (.int 0)) (ab (af fU (aa 0) (fC (.int 1))) ao))))))) (aW (fC (.bl false))) bc)
  (aW (fT (jV (tE (af oNe (aa 2) (aa 3))) (tE (am bo (ab (fAt (aa 1) (fC (.int 2))) (ab (fC (.int 1)) (ab (fC (.int 400)) ao))))))))))))
abbrev ju:SF:=(ax (sIf (cX (tE (am iQ (ab (aa 0) (ab (aa 3) ao))))) c7 bc)
  (ax (aH (gN 4) (fAt (aa 3) (fC (.int 0))))
  (ax (aH (gN 5) (fAt (aa 3) (fC (.int 1))))
  (ax (sIf (tE (af GM (aa 5) (fAt (aa 2) (aa 4)))) c7 bc)
  (ax (zi (fAt (aa 2) (aa 4)) (aa 5) (fAt (aa 3) (fC (.int 2))))
  (zi (fAt (aa 2) (aa 5)) (aa 4) (fAt (aa 3) (fC (.int 2)))))))))
def iw:Fn:=bu 2 6 (ax (sIf (cX (tE (gK .list (aa 1)))) c7 bc)
  (ax (aH (gN 2) (bG (bM 1 [] (bH (aa 0)) (gN 0) [] Dh)))
  (ax (eO (eI (aa 1)) (gN 3) ju)
  (aW (aa 2)))))
def jj:Fn:=bu 2 2 (ax (sIf (tE (af Bk (aa 1) (fC .non))) c7 bc)
  (ax (sIf (tOr (cX (tE (gK .list (aa 1)))) (tE (af oNe (cC (lOf (aa 1))) (cC (lOf (aa 0)))))) c7 bc)
  (ax (sIf (cX (tE (sE (bM 1 [] (eI (aa 1)) (gN 0) [] (am eg (ab (aa 0) ao)))))) c7 bc)
  (aW (gg (lOf (aa 1)))))))
def iy:Fn:=bu 2 2 (ax (sIf (tE (af Bk (aa 1) (fC .non))) (aW (gg (bM 1 [] (bH (aa 0)) (gN 0) [] (fC .non)))) bc)
  (ax (sIf (tOr (cX (tE (gK .list (aa 1)))) (tE (af oNe (cC (lOf (aa 1))) (aa 0)))) c7 bc)
  (ax (sIf (cX (tE (sE (bM 1 [] (eI (aa 1)) (gN 0) [] (fT (tOr (tE (af Bk (aa 0) (fC .non))) (tE (am cS (ab (aa 0) ao))))))))) c7 bc)
  (aW (gg (lOf (aa 1)))))))
def gR:Fn:=bu 4 6 (ax (sIf (cX (tE (am bo (ab (aa 0) (ab (fC (.int 1)) (ab (fC (.int 30)) ao)))))) c7 bc)
  (ax (aH (gN 4) (am iw (ab (aa 0) (ab (aa 1) ao))))
  (ax (aH (gN 5) (gg (bM 1 [] (eI (aa 4)) (gN 0) [] (gg (pz (aa 0))))))
  (aW (i9 (ab (aa 5) (ab (am jj (ab (aa 4) (ab (aa 2) ao))) (ab (am iy (ab (aa 0) (ab (aa 3) ao))) ao))))))))
def pI:Fn:=bu 2 2 (ax (fV (am cT (ab (aa 0) (ab (aa 1) ao))))
  (aW (am eA (ab (aa 0) (ab (aa 1) ao)))))
def wc:Fn:=bu 2 4 (ax (aH (gN 2) (fC (.int 0)))
  (ax (sIf (tE (af oLt (aa 1) (cC (lOf (aa 0))))) (aH (gN 2) (fAt (aa 0) (aa 1))) bc)
  (ax (aH (gN 3) (fT (tOr (tE (af oEq (cC (lOf (aa 0))) (fC (.int 0)))) (tE (af oEq (af dh (fAt (aa 0) (fC (.int 0))) (fC (.int 2))) (fC (.int 1)))))))
  (ax (sIf (tE (aa 3)) (aH (gN 2) (af bP (af dh (aa 2) (fC (.int 2147483647))) (af cB (fC (.int 1000003)) (aa 1)))) bc)
  (aW (bG (ab (aa 2) (ab (fC (.int 0)) (ab (aa 3) ao)))))))))
def dN:Fn:=bu 2 4 (ax (mJ (aa 0) (fC (.int 1)) (af bP (fAt (aa 0) (fC (.int 1))) (fC (.int 1))))
  (ax (sIf (tE (fAt (aa 0) (fC (.int 2)))) (ax (aH (gN 2) (af dh (af cB (af bP (af bP (fAt (aa 0) (fC (.int 0))) (af cB (fC (.int 7919)) (fAt (aa 0) (fC (.int 1))))) (fC (.int 1))) (fC (.int 48271))) (fC (.int 2147483647))))
  (ax (aH (gN 2) (af dh (af cB (aa 2) (af bP (af dh (aa 2) (fC (.int 65521))) (fAt (aa 0) (fC (.int 1))))) (fC (.int 2147483629))))
  (aW (af dh (af dh (af bP (af cB (aa 2) (aa 2)) (af cB (fC (.int 69621)) (aa 2))) (fC (.int 2147483563))) (aa 1))))) bc)
  (ax (aH (gN 3) (af dh (fAt (aa 0) (fC (.int 0))) (aa 1)))
  (ax (mJ (aa 0) (fC (.int 0)) (af kS (fAt (aa 0) (fC (.int 0))) (aa 1)))
  (aW (aa 3))))))
def JX:Fn:=bu 3 3 (ax (sIf (tE (af oEq (aa 0) (fC (.int 0)))) (aW (aa 2)) bc)
  (ax (sIf (tE (af oEq (aa 0) (fC (.int 1)))) (aW (af fU (aa 1) (fC (.int 60)))) bc)
  (ax (sIf (tE (af oEq (aa 0) (fC (.int 2)))) (aW (af fU (af bP (aa 2) (af dh (aa 1) (fC (.int 5)))) (fC (.int 2)))) bc)
  (ax (sIf (tE (af oEq (aa 0) (fC (.int 3)))) (aW (af cB (fC (.int 2)) (af dh (aa 1) (af bP (aa 2) (fC (.int 1)))))) bc)
  (aW (af cB (af bP (af Py (fC (.int 10)) (fC (.int 59))) (aa 1)) (fIx (ab (fC (.int 1)) (ab (fC (.int (-1))) ao)) (af dh (aa 1) (fC (.int 2))))))))))
abbrev zC:SF:=(sIf (tE (af oEq (am dN (ab (aa 9) (ab (aa 3) ao))) (fC (.int 0)))) (ax (aH (gN 11) (af bP (fC (.int 1)) (am dN (ab (aa 9) (ab (fIx (ab (fC (.int 3)) (ab (fC (.int 400)) ao)) (am dN (ab (aa 9) (ab (fC (.int 2)) ao)))) ao)))))
  (ax (fV (PD (aa 4) (am dN (ab (aa 9) (ab (af bP (cC (lOf (aa 4))) (fC (.int 1))) ao))) (fIx (ab (i9 (ab (aa 8) (ab (aa 10) (ab (aa 11) ao)))) (ab (i9 (ab (aa 10) (ab (aa 8) (ab (aa 11) ao)))) ao)) (af dh (aa 11) (fC (.int 2))))))
  (ax (mJ (aa 7) (aa 8) (af bP (fAt (aa 7) (aa 8)) (aa 11)))
  (mJ (aa 7) (aa 10) (af bP (fAt (aa 7) (aa 10)) (aa 11)))))) bc)
abbrev zD:SF:=(ax (aH (gN 9) (am wc (ab (aa 0) (ab (af bP (fC (.int 1)) (aa 8)) ao))))
  (ax (fV (jX (aa 6) (fIx (ab (fC .non) (ab (fC .non) (ab (fC .non) (ab (fC (.int 0)) (ab (fC (.int 1)) ao))))) (am dN (ab (aa 9) (ab (fC (.int 5)) ao))))))
  (ax (fV (jX (aa 5) (i9 (ab (am dN (ab (aa 9) (ab (fC (.int 5)) ao))) (ab (am dN (ab (aa 9) (ab (fC (.int 200)) ao))) ao)))))
  (eO (bH (aa 8)) (gN 10) zC))))
def BK:Fn:=bu 1 12 (ax (aH (gN 1) (am wc (ab (aa 0) (ab (fC (.int 0)) ao))))
  (ax (fV (am dN (ab (aa 1) (ab (fC (.int 2)) ao))))
  (ax (aH (gN 2) (af bP (fC (.int 1)) (am dN (ab (aa 1) (ab (fIx (ab (fC (.int 6)) (ab (fC (.int 12)) (ab (fC (.int 30)) ao))) (am dN (ab (aa 1) (ab (fC (.int 3)) ao)))) ao)))))
  (ax (aH (gN 3) (fIx (ab (fC (.int 1)) (ab (fC (.int 2)) (ab (fC (.int 5)) ao))) (am dN (ab (aa 1) (ab (fC (.int 3)) ao)))))
  (ax (aH (gN 4) (bG ao))
  (ax (aH (gN 5) (bG ao))
  (ax (aH (gN 6) (bG ao))
  (ax (aH (gN 7) (bG (sO (ab (fC (.int 0)) ao) (aa 2))))
  (ax (eO (bH (aa 2)) (gN 8) zD)
  (ax (aH (gN 5) (bG (bM 1 [7,5] (bH (aa 2)) (gN 0) [] (am JX (ab (fAt (fAt (aa 2) (aa 0)) (fC (.int 0))) (ab (fAt (fAt (aa 2) (aa 0)) (fC (.int 1))) (ab (fAt (aa 1) (aa 0)) ao)))))))
  (aW (i9 (ab (aa 2) (ab (aa 4) (ab (aa 5) (ab (aa 6) (ab (aa 7) ao)))))))))))))))))
theorem bS {a:SF}{σ':Sd}(e:a σ h=.nx σ' h'):ax a b σ h=b σ' h':=by simp[ax,e]
theorem rV {x:Int}(a:0<=x)(h1:x < 4611686018427387904):sml x=true:=by
 simp only[sml,Z3,YH];omega
theorem kf {α : Type}{f : α->D}{l:List α}{i:Nat}(h:i < l.length):atI (l.map f) (i:Int)=some (f l[i]):=de (by simp[h])
theorem fO {i:Nat}{x:D}(a:((List.range n).map λk:Nat=>D.int k)[i]? = some x):i < n/\x=.int (i:Nat):=by
 have hi:i < n:=by
  have:=(List.getElem?_eq_some_iff.mp a).1;simpa using this
 exact⟨hi,by simpa[hi,ZE] using a.symm⟩
theorem OC {α : Type}(f : α->D)(l:List α){x:Int}(b:0<=x)(h:x < l.length):∃v∈l,atI (l.map f) x=some (f v):=by
 have a:x.toNat < l.length:=by omega
 refine⟨l[x.toNat],YC a,?_⟩;have:=kf (f:=f) a;rwa[show ((x.toNat:Nat):Int)=x by omega]at this
structure Tie where
 a:Nat
 b:Nat
 w:Int
def bY (t:Tie):D:=.tup [.int t.a,.int t.b,.int t.w]
def far (i:Nat) (t:Tie):Option Nat:=if t.a=i then some t.b else if t.b=i then some t.a else none
def wOf (i:Nat) (t:Tie):Int:=if t.a=i\/t.b=i then t.w else 0
def K1 (T:List Tie) (i:Nat):Int:=(T.map (wOf i)).sum
def OD (one other:Nat) (t:Tie):Prop:=(t.a < one/\t.b < one)\/(t.a=one/\t.b < other)\/(t.b=one/\t.a < other)
def iR (s t:Tie):Prop:=¬(s.a=t.a/\s.b=t.b)/\¬(s.a=t.b/\s.b=t.a)
structure TOk (n one other:Nat) (T:List Tie):Prop where
 ne:∀t∈T,t.a≠t.b
 lt:∀t∈T,t.a < n/\t.b < n
 wt:∀t∈T,1<=t.w/\t.w<=400
 be:∀t∈T,OD one other t
 un:T.Pairwise iR
 len:T.length<=30 * one + other
theorem iR.symm {s t:Tie}(h:iR s t):iR t s:=⟨λz=>h.1 ⟨z.1.symm,z.2.symm⟩,λz=>h.2 ⟨z.2.symm,z.1.symm⟩⟩
variable {T:List Tie}
theorem TOk.skip {one other:Nat}(o:TOk n one other T):TOk n one (other + 1) T :=
 ⟨o.ne,o.lt,o.wt,λt a=>by
  rcases o.be t a with h|h|h
  ·exact .inl h
  ·exact .inr (.inl ⟨h.1,ZZ h.2⟩)
  ·exact .inr (.inr ⟨h.1,ZZ h.2⟩),o.un,Nat.le_succ_of_le o.len⟩
theorem TOk.step {one:Nat}(o:TOk n one one T)(h:one < n)(a:n<=30):TOk n (one + 1) 0 T :=
 ⟨o.ne,o.lt,o.wt,λt b=>by
  rcases o.be t b with h|h|h
  ·exact .inl ⟨ZZ h.1,ZZ h.2⟩
  ·exact .inl ⟨Nat.lt_succ_of_le (WU h.1),ZZ h.2⟩
  ·exact .inl ⟨ZZ h.2,Nat.lt_succ_of_le (WU h.1)⟩,o.un,ZM o.len (WN (ZM (YS h) a) _)⟩
theorem rW {α : Type}{x y : α}{l:List α}{k:Nat}(h:y∈l.take k++[x]++l.drop k):y=x\/y∈l:=by
 simp only[ZU,List.mem_append,List.mem_singleton]at h;rcases h with h|h|h
 ·exact .inr (List.mem_of_mem_take h)
 ·exact .inl h
 ·exact .inr (List.mem_of_mem_drop h)
theorem Ht {α : Type}{R : α->α->Prop}(sym:∀a b,R a b->R b a){x : α}{l:List α}(k:Nat)(h:l.Pairwise R)(d:∀y∈l,R x y):(l.take k++[x]++l.drop k).Pairwise R:=by
 have f:(l.take k++l.drop k).Pairwise R:=by rw[List.take_append_drop];exact h
 rw[X0]at f;obtain⟨i,m,g⟩:=f;rw[ZU,X0];refine⟨i,?_,λa e b c => ?_⟩
 ·rw[List.singleton_append,List.pairwise_cons]
  exact⟨λy j=>d y (List.mem_of_mem_drop j),m⟩
 ·rcases List.mem_append.mp c with c|c
  ·simp at c;subst c;exact sym _ _ (d a (List.mem_of_mem_take e))
  ·exact g a e b c
theorem TOk.put {one other:Nat}(o:TOk n one other T)(h1:one < n)(c:other < one){w:Int}(d:1<=w)(f:w<=400){t:Tie}(ht:t=⟨one,other,w⟩\/t=⟨other,one,w⟩)(k:Nat):TOk n one (other + 1) (T.take k++[t]++T.drop k) where
 ne:=λs a=>by
  rcases rW a with rfl|a
  ·rcases ht with e|e<;>subst e
   ·exact Z5 c
   ·exact ZN c
  ·exact o.ne s a
 lt:=λs a=>by
  rcases rW a with rfl|a
  ·rcases ht with e|e<;>subst e
   ·exact⟨h1,Z6 c h1⟩
   ·exact⟨Z6 c h1,h1⟩
  ·exact o.lt s a
 wt:=λs a=>by
  rcases rW a with rfl|a
  ·rcases ht with e|e<;>subst e<;>exact⟨d,f⟩
  ·exact o.wt s a
 be:=λs a=>by
  rcases rW a with rfl|a
  ·rcases ht with e|e<;>subst e
   ·exact .inr (.inl ⟨rfl,Z8 _⟩)
   ·exact .inr (.inr ⟨rfl,Z8 _⟩)
  ·exact o.skip.be s a
 un:=Ht (λ_ _=>iR.symm) k o.un λs a=>by
  have b:=o.be s a;rcases ht with e|e<;>subst e<;>rcases b with b|b|b
  ·exact⟨λz=>Z5 b.1 z.1,λz=>Z5 b.2 z.1⟩
  ·exact⟨λz=>Z5 b.2 z.2,λz=>Z5 (Z6 b.2 c) z.1⟩
  ·exact⟨λz=>Z5 (Z6 b.2 c) z.1,λz=>Z5 b.2 z.2⟩
  ·exact⟨λz=>Z5 b.2 z.2,λz=>Z5 b.1 z.2⟩
  ·exact⟨λz=>Z5 (Z6 b.2 c) z.2,λz=>Z5 b.2 z.1⟩
  ·exact⟨λz=>Z5 b.2 z.1,λz=>Z5 (Z6 b.2 c) z.2⟩
 len:=by
  have e:(T.take k).length + (T.drop k).length=T.length:=by rw[<-ZB,List.take_append_drop]
  rw[ZB,ZB,List.length_singleton,Nat.add_right_comm,e];exact Nat.succ_le_succ o.len
def PM (p:Int × Int):D:=.tup [.int p.1,.int p.2]
structure PH (n i:Nat) (T:List Tie) (bs:List (Int × Int)) (ss:List (Option Int)) (h:Hd):Prop where
 ti:h[1]? = some (.lst (T.map bY))
 ba:h[2]? = some (.lst (bs.map PM))
 st:h[3]? = some (.lst (ss.map cR))
 to:h[4]? = some (.lst (((List.range n).map (K1 T)).map .int))
 len:h.length=5 + i
 lb:bs.length=i
 ls:ss.length=i
 os:∀x∈ss,x=none\/x=some 0\/x=some 1
theorem M5 {g:Hd}{k:Nat}{c:ca}(a:ca)(h:g[k]? = some c):(g.set k a)[k]? = some a:=List.getElem?_set_self (List.getElem?_eq_some_iff.mp h).1
theorem rX {j:Nat}(h:j < n):ixN n (j:Int)=some j:=by simp[ixN,h]
abbrev XP (lit:D) (hd:Option D) (n thin one:Nat) (a b:Option D):Sd:=[some lit,hd,some (.int n),some (.int thin),some (.ref 1),some (.ref 2),some (.ref 3),some (.ref 4),some (.int one),some (.ref (5 + one)),a,b]
abbrev SC (c t:Int) (b:Bool):ca:=.lst [.int c,.int t,.bl b]
inductive PI (lit:D) (hd:Option D) (n thin one:Nat) (bs:List (Int × Int)) (ss:List (Option Int)) (m:Bool):Nat->Sd->Hd->Prop
 | mk {i:Nat} {h:Hd} {T:List Tie} {a b:Option D} {c t:Int} (P:PH n (one + 1) T bs ss h) (O:TOk n one i T) (hs:h[5 + one]? = some (SC c t m)):PI lit hd n thin one bs ss m i (XP lit hd n thin one a b) h
theorem few {l one i:Nat}(h:l<=30 * one + i)(h1:one < n)(a:n<=30)(hi:i < one):l < 1000:=by omega
abbrev XQ (lit:D) (hd:Option D) (n thin:Nat) (a b c d:Option D):Sd:=[some lit,hd,some (.int n),some (.int thin),some (.ref 1),some (.ref 2),some (.ref 3),some (.ref 4),a,b,c,d]
theorem Pb {u:Option Int}(h:u∈[none,none,none,some 0,some 1]):u=none\/u=some 0\/u=some 1:=by
 simp at h;exact h
inductive PO (ns:List Int) (hd:Option D) (n thin:Nat):Nat->Sd->Hd->Prop
 | mk {i:Nat} {h:Hd} {a b c d:Option D} {T:List Tie} {bs:List (Int × Int)} {ss:List (Option Int)} (P:PH n i T bs ss h) (O:TOk n i 0 T):PO ns hd n thin i (XQ (.lit (ns.map .int)) hd n thin a b c d) h
structure PN (ns:List Int) (n:Nat) (T:List Tie) (bs:List Int) (ss:List (Option Int)) (h:Hd):Prop where
 run:BK [.lit (ns.map .int)] []=.ok (.tup [.int n,.ref 1,.ref (5 + n),.ref 3,.ref 4]) h
 n1:1<=n
 n30:n<=30
 ok:TOk n n 0 T
 ti:h[1]? = some (.lst (T.map bY))
 ba:h[5 + n]? = some (.lst (bs.map .int))
 st:h[3]? = some (.lst (ss.map cR))
 to:h[4]? = some (.lst (((List.range n).map (K1 T)).map .int))
 len:h.length=6 + n
 lb:bs.length=n
 ls:ss.length=n
 os:∀x∈ss,x=none\/x=some 0\/x=some 1
theorem jK {α : Type}{f : α->D}:∀{l:List α},(∀x∈l,pure? (f x)=true)->gh (l.map f)=true
 | [],_=>rfl
 | x :: l,h=>by
  simp only[x3,gh,Z3];exact⟨h x (by simp),jK λy a=>h y (by simp[a])⟩
theorem oG (w:Web):pure? w.enc=true:=by
 have c:∀r:List (Nat × Int),pure? (sZ r)=true:=λr=>by
  unfold sZ;simp only[pure?];exact jK λp _=>rfl
 have d:gh (w.ties.map sZ)=true:=jK λr _=>c r;have b:gh (w.bars.map D.int)=true:=jK λr _=>rfl;have a:gh (w.stays.map cR)=true:=jK λr _=>by cases r<;>rfl
 unfold Web.enc;simp only[pure?,gh,d,b,a];rfl
def oH (p:Nat × Int):List Int:=[(p.1:Int),p.2]
def nz (x:Nat × Int):List (Nat × Int)->List (Nat × Int)
 | []=>[x]
 | y :: r=>if lexLt (oH x) (oH y)=true then x :: y :: r else y :: nz x r
def cO:List (Nat × Int)->List (Nat × Int)
 | []=>[]
 | x :: r=>nz x (cO r)
theorem zE (x:Nat × Int):∀r,(nz x r).map oH=xh (oH x) (r.map oH)
 | []=>rfl
 | y :: r=>by
  simp only[nz,xh,x3];split
  ·rfl
  ·simp[zE x r]
theorem we:∀r,(cO r).map oH=dM (r.map oH)
 | []=>rfl
 | x :: r=>by simp only[cO,dM,x3,zE,we r]
theorem tI {x p:Nat × Int}:∀{r},p∈nz x r ↔ p=x\/p∈r
 | []=>by simp[nz]
 | y :: r=>by
  simp only[nz];split
  ·simp
  ·simp only[Y6,tI (r:=r)]
   constructor
   ·rintro (h|h|h)
    ·exact .inr (.inl h)
    ·exact .inl h
    ·exact .inr (.inr h)
   ·rintro (h|h|h)
    ·exact .inr (.inl h)
    ·exact .inl h
    ·exact .inr (.inr h)
theorem eB {p:Nat × Int}:∀{r},p∈cO r ↔ p∈r
 | []=>by simp[cO]
 | x :: r=>by simp only[cO,tI,eB (r:=r),Y6]
theorem zF (f:Nat × Int->Int)(x:Nat × Int):∀r,((nz x r).map f).sum=f x + (r.map f).sum
 | []=>by simp[nz]
 | y :: r=>by
  simp only[nz];split
  ·simp
  ·simp[zF f x r];omega
theorem pJ (f:Nat × Int->Int):∀r,((cO r).map f).sum=(r.map f).sum
 | []=>rfl
 | x :: r=>by simp[cO,zF,pJ f r]
def nbs (T:List Tie) (i:Nat):List (Nat × Int):=T.filterMap λt=>(far i t).map λj=>(j,t.w)
def rj (p:Nat × Int):Int × D:=((p.1:Int),.int p.2)
theorem zG (T:List Tie)(t:Tie)(i:Nat):nbs (T++[t]) i=nbs T i++(match far i t with|some j=>[(j,t.w)] | none=>[]):=by
 unfold nbs;rw[List.filterMap_append];congr 1;cases e:far i t<;>simp[e]
theorem ES {l:List (Nat × Int)}{k:Nat}(h:∀p∈l,p.1≠k):sM (l.map rj) k=none:=by
 unfold sM;rw[List.find?_eq_none.mpr]
 ·rfl
 ·intro x b
  obtain⟨p,c,rfl⟩:=List.mem_map.mp b;have a:=h p c;have : ¬((p.1:Int)=(k:Int)):=λz=>a (by omega);show ¬(decide ((p.1:Int)=(k:Int))=true);rw[YH];exact this
theorem zH {l:List (Nat × Int)}{k:Nat}{v:Int}(h:∀p∈l,p.1≠k):Bs (l.map rj) k (.int v)=(l++[(k,v)]).map rj:=by
 unfold Bs;rw[z5]
 ·simp[rj]
 ·simp only[List.any_eq_true,List.mem_map,YH]
  rintro⟨x,⟨p,b,rfl⟩,e⟩;have a:=h p b;have e:(p.1:Int)=(k:Int):=e;exact a (by omega)
theorem zI {i j:Nat}{t:Tie}(h:far i t=some j):(t.a=i/\t.b=j)\/(t.b=i/\t.a=j):=by
 unfold far at h
 by_cases a:t.a=i
 ·rw[z4 a]at h;exact .inl ⟨a,ZT h⟩
 ·rw[z5 a]at h
  by_cases b:t.b=i
  ·rw[z4 b]at h;exact .inr ⟨b,ZT h⟩
  ·rw[z5 b]at h;cases h
theorem BM {t:Tie}{i j:Nat}(d:far i t=some j)(un:∀s∈T,iR s t):∀p∈nbs T i,p.1≠j:=λp b e=>by
 obtain⟨s,c,q⟩:=List.mem_filterMap.mp b;obtain⟨k,a,rfl⟩:=Option.map_eq_some_iff.mp q;have u:=un s c;rw[show k=j from e]at a;rcases zI d with ⟨a1,a2⟩|⟨a1,a2⟩<;>rcases zI a with ⟨b1,b2⟩|⟨b1,b2⟩
 ·exact u.1 ⟨b1.trans a1.symm,b2.trans a2.symm⟩
 ·exact u.2 ⟨b2.trans a2.symm,b1.trans a1.symm⟩
 ·exact u.2 ⟨b1.trans a1.symm,b2.trans a2.symm⟩
 ·exact u.1 ⟨b2.trans a2.symm,b1.trans a1.symm⟩
theorem wf {t:Tie}(h1:t.a≠t.b)(k:t.a < n)(e:t.b < n)(d:1<=t.w/\t.w<=400)(h:Hd):iQ [.int n,bY t] h=.ok (.bl true) h:=by
 have f:(t.a:Int)<=n - 1:=Int.le_sub_one_of_lt (Int.ofNat_lt.mpr k);have j:(t.b:Int)<=n - 1:=Int.le_sub_one_of_lt (Int.ofNat_lt.mpr e);have g : ¬(t.a:Int)=t.b:=λz=>h1 (Int.ofNat.inj z);have c:∀{i a b:Int},a<=i->i<=b->bo [.int i,.int a,.int b] h=.ok (.bl true) h:=λx y=>by rw[c8,x6 x,x6 y];rfl
 exact Eq.trans (bJ (σ:=[some (.int n),some (bY t),none,none]) rfl rfl (sx (cn (gj (bX (b:=true) (aT rfl)) (aT (ah (cZ (cz rfl rfl)) rfl rfl)))) (sx (aF (aL rfl rfl rfl rfl)) (sx (aF (aL rfl rfl rfl rfl)) (sx (cn (gj (bX (b:=true) (aT (aw (ar rfl (ar rfl (ar (ah rfl rfl rfl) rfl))) (c (XU _) f)))) (bX (b:=true) (aT (aw (ar rfl (ar rfl (ar (ah rfl rfl rfl) rfl))) (c (XU _) j)))))) (aV (oz (nt (aT (ah rfl rfl (by rw[pG,wL g];rfl))) (aT (aw (ar (aL rfl rfl rfl rfl) (ar rfl (ar rfl rfl))) (c d.1 d.2))))))))))) aQ
structure NH (n A:Nat) (h0:Hd) (T:List Tie) (h:Hd):Prop where
 pre:∃g,h=h0++g/\g.length=n + 1
 dc:∀j,j < n->h[A + j]? = some (.dct ((nbs T j).map rj))
 rf:h[A + n]? = some (.lst ((List.range n).map λi=>.ref (A + i)))
theorem NH.put {a:Hd}(d:A=a.length)(N:NH n A a T h){j:Nat}(f:j < n)(c:ca):(∃g,h.set (A + j) c=a++g/\g.length=n + 1)/\(h.set (A + j) c)[A + j]? = some c/\(∀k,k≠j->(h.set (A + j) c)[A + k]? = h[A + k]?):=by
 obtain⟨g,e,l⟩:=N.pre;have lt:=(List.getElem?_eq_some_iff.mp (N.dc j f)).1;exact⟨⟨g.set j c,by rw[e,xy d],by rw[List.length_set];exact l⟩,List.getElem?_set_self lt,λk b=>ZP λz=>b (X3 z).symm⟩
theorem Hu {i j:Nat}(a:n<=30)(O:TOk n n 0 T):((nbs (T.take i) j).map rj).length < SZ:=by
 rw[ZA];exact ZS (ZM (List.length_filterMap_le _ _) (ZM (List.length_take_le' _ _) (ZM O.len (Nat.add_le_add_right (Nat.mul_le_mul_left 30 a) 0)))) (by decide)
abbrev XN (n tk A:Nat) (a b c:Option D):Sd:=[some (.int n),some (.ref tk),some (.ref (A + n)),a,b,c]
theorem JY {tk i:Nat}(w:n<=30)(O:TOk n n 0 T){r:Hd}(B:A=h.length)(N:NH n A h (T.take i) r){t:Tie}(mt:t∈T)(un:∀s∈T.take i,iR s t)(u:T.take (i + 1)=T.take i++[t])(b c:Option D) :
  ∃m,ju (XN n tk A (some (bY t)) b c) r=.nx (XN n tk A (some (bY t)) (some (.int t.a)) (some (.int t.b))) m/\NH n A h (T.take (i + 1)) m:=by
 have f:=O.ne t mt;have a:=O.lt t mt;have fa:far t.a t=some t.b:=z4 rfl;have F:far t.b t=some t.a:=(z5 f).trans (z4 rfl);have y:=BM fa un;have I:=BM F un;have o:∀j:Nat,j < n->atI ((List.range n).map λi=>D.ref (A + i)) (j:Int)=some (.ref (A + j)):=λj v=>de (by rw[ZQ,List.getElem?_range v];rfl);have C:=o t.a a.1;have H:=o t.b a.2;have x:=N.dc t.a a.1;obtain⟨E,p2,p3⟩:=N.put B a.1 (.dct ((nbs (T.take i) t.a++[(t.b,t.w)]).map rj));obtain⟨k,q⟩ : ∃k,k=r.set (A + t.a) (.dct ((nbs (T.take i) t.a++[(t.b,t.w)]).map rj)):=⟨_,rfl⟩;rw[<-q]at E p2 p3;have p:k[A + n]? = some (.lst ((List.range n).map λi=>.ref (A + i))):=(p3 n (Z5 a.1)).trans N.rf;have G:k[A + t.b]? = some (.dct ((nbs (T.take i) t.b).map rj)):=(p3 t.b (YN f)).trans (N.dc t.b a.2);obtain⟨m,d⟩ : ∃m,m=k.set (A + t.b) (.dct ((nbs (T.take i) t.b++[(t.a,t.w)]).map rj)):=⟨_,rfl⟩;refine⟨m,sx (cn (bX (aT (aw (ar rfl (ar rfl rfl)) (wf f a.1 a.2 (O.wt t mt) r))))) (sx (aF (aL rfl rfl rfl rfl)) (sx (aF (aL rfl rfl rfl rfl)) (sx (cn (aT (ah rfl (aL rfl rfl (aE N.rf) C) (by rw[M0 x,ES y];rfl)))) (sx (h':=k) (by
  rw[q,<-zH y];exact DE (aL rfl rfl rfl rfl) (aL rfl rfl (aE N.rf) C) rfl x (Hu w O)) (by
  rw[d,<-zH I];exact DE (aL rfl rfl rfl rfl) (aL rfl rfl (aE p) H) rfl G (Hu w O)))))),?_,λj v => ?_,?_⟩
 ·obtain⟨g,e,l⟩:=E
  exact⟨_,by rw[d,e,xy B],by rw[List.length_set];exact l⟩
 ·rw[u,zG]
  by_cases e1:t.b=j
  ·subst e1
   rw[d,M5 _ G,F]
  ·rw[d,ZP (λz=>e1 (X3 z))]
   by_cases e2:t.a=j
   ·subst e2
    rw[p2,fa]
   ·have:far j t=none:=(z5 e2).trans (z5 e1)
    rw[p3 j (YN e2),this,N.dc j v];simp only[YT]
 ·rw[d];exact(ZP (λz=>ZN a.2 (X3 z))).trans p
theorem ET (s:A=h.length):∃c g,cI none ((List.range n).map λk:Nat=>D.int k) (gN 0) [] Dh ((List.range n).map λk:Nat=>D.int k) [none] h=.ok ((List.range n).map λi=>.ref (A + i)) c/\c=h++g/\g.length=n/\∀j,j < n->c[A + j]? = some (.dct []):=by
 obtain⟨ds,c,u,l1,w,t,-,g,r,b,p⟩:=nr (g:=none) (all:=(List.range n).map λk:Nat=>D.int k) (tg:=gN 0) (xs:=(List.range n).map λk:Nat=>D.int k) (k:=0)
  (e:=Dh) (σ:=[none]) (h:=h)
  (P:=λi σ h'=>(∃a,σ = [a])/\∃g,h'=h++g/\g.length=i/\∀j,j < i->h'[A + j]? = some (.dct [])) (V:=λi d=>d=.ref (A + i)) (λ_ _ _ _=>trivial) (by
   rintro i x σ l v ⟨⟨a,rfl⟩,g,q,b,f⟩;obtain⟨hi,rfl⟩:=fO v;rw[Z1]at b f ⊢;have o:l.length=A + i:=by rw[q,ZB,b,s]
   refine⟨_,rfl,.ref l.length,l++[.dct []],rfl,by rw[o],⟨_,rfl⟩,g++[.dct []],by rw[q,ZU],by rw[ZB,b];rfl,λj m => ?_⟩
   by_cases hji:j < i
   ·exact bn _ (f j hji)
   ·rw[Nat.le_antisymm (YZ m) (Nat.not_lt.mp hji),<-o];exact ZG) ⟨⟨_,rfl⟩,[],(YT _).symm,rfl,λj m=>absurd m (XZ _)⟩
 rw[ZA,ZO]at l1;rw[Z1,ZA,ZO]at b p;have f:ds=(List.range n).map λi=>.ref (A + i):=tf l1 λi d hd=>by have:=w i d hd;rwa[Z1]at this
 exact⟨c,g,by rw[u,f],r,b,p⟩
inductive NI (n A tk:Nat) (h:Hd) (T:List Tie):Nat->Sd->Hd->Prop
 | mk {i:Nat} {h':Hd} {a b c:Option D} (N:NH n A h (T.take i) h'):NI n A tk h T i (XN n tk A a b c) h'
theorem uE (H:1<=n)(p:n<=30)(O:TOk n n 0 T){tk:Nat}(ht:h[tk]? = some (.lst (T.map bY))) :
  ∃h',iw [.int n,.ref tk] h=.ok (.ref (h.length + n)) h'/\NH n h.length h T h':=by
 obtain⟨A,o⟩ : ∃A,A=h.length:=⟨_,rfl⟩;rw[<-o];obtain⟨u,g,I,r,w,D⟩:=ET (n:=n) o;obtain⟨m,d⟩ : ∃m,m=u++[.lst ((List.range n).map λi=>.ref (A + i))]:=⟨_,rfl⟩;have l:u.length=A + n:=by rw[r,ZB,w,o]
 have C:NH n A h [] m:=⟨⟨g++[.lst ((List.range n).map λi=>.ref (A + i))],by rw[d,r,ZU],by rw[ZB,w];rfl⟩,λj L=>by rw[d];exact bn _ (D j L),by rw[d,<-l];exact ZG⟩;obtain⟨_,E,B,@⟨_,V,R,S,y⟩⟩:=bZ (P:=NI n A tk h T) (g:=some tk) (k:=0)
   (all:=T.map bY) (λ_ _ h' q=>by
    obtain⟨N⟩:=q;obtain⟨g,e,_⟩:=N.pre;show h'[tk]? = _;rw[e];exact bn _ ht)
   (xs:=T.map bY) (tg:=gN 3) (σ:=XN n tk A none none none) (h:=m) (b:=ju) (by
   intro i x σ U t z;rw[Z1]at z ⊢;obtain @⟨_,a,b,c,N⟩:=z;have f:i < T.length:=by have:=(List.getElem?_eq_some_iff.mp t).1;rwa[ZA]at this
   rw[ZQ,ZE f]at t;cases t;have K:T[i]∈T:=YC f;have M:∀s∈T.take i,iR s T[i]:=λs G=>by
    obtain⟨k,v,rfl⟩:=List.getElem_of_mem G;rw[X4]at v;rw[List.getElem_take];exact List.pairwise_iff_getElem.mp O.un k i _ f (v3 v (Nat.min_le_left _ _))
   obtain⟨F,Q,J⟩:=JY (tk:=tk) p O o N K M (List.take_succ_eq_append_getElem f) b c;exact⟨_,rfl,_,F,Q,.mk J⟩) (.mk C)
 rw[Z1,ZA,List.take_length]at y;refine⟨E,Eq.trans (bJ (σ:=[some (.int n),some (.ref tk),none,none,none,none]) rfl rfl (sx (cn (bX (aT (BB rfl ht)))) (sx (σ':=[some (.int n),some (.ref tk),some (.ref (A + n)),none,none,none]) (h':=m) (by
  rw[d,<-l];exact aF (cL (cG (cV rfl (ZM p (by decide))) I) (by rw[ZA,ZO];exact ZM p (by decide)))) (sx (eE (fY rfl (by rw[d,r];exact bn _ (bn _ ht))) B) (aV rfl))))) (by simp[letGo,pure?]),y⟩
theorem OE (a b:Int)(h:Hd):oNe (.int a) (.int b) h=.ok (.bl (!decide (a=b))) h:=rfl
theorem Hv {l:List Nat}(nd:l.Nodup)(h:∀x∈l,x < n):l.length<=n:=by
 induction n generalizing l with
 | zero=>match l,h with
  | [],_=>exact ZL _
  | x :: _,h=>exact absurd (h x ZV) (XZ _)
 | succ n ih =>
  by_cases m:n∈l
  ·have:=ih (nd.erase n) λx a=>by
    have z:=(List.Nodup.mem_erase_iff nd).mp a;exact XS (YZ (h x z.2)) z.1
   rw[List.length_erase_of_mem m]at this;exact Nat.le_add_of_sub_le this
  ·exact Nat.le_succ_of_le (ih nd λx a=>XS (YZ (h x a)) λz=>m (z ▸ a))
def aS (n:Nat) (T:List Tie) (bs:List Int) (ss:List (Option Int)):Web:=⟨(List.range n).map λi=>cO (nbs T i),bs,ss⟩
theorem oJ:∀l:List (Nat × Int),fX (l.map rj)=some (l.map oH)
 | []=>rfl
 | p :: l=>by
  have a:=oJ l;simp only[x3];show (fX (l.map rj)).map _=_;rw[a];rfl
theorem lI (un:T.Pairwise iR)(i:Nat):((nbs T i).map (·.1)).Nodup:=by
 unfold nbs
 induction T with
 | nil=>simp
 | cons t T a =>
  obtain⟨c,g⟩:=List.pairwise_cons.mp un;have a:=a g;cases e:far i t with
  | none=>simp only[XH,e,Option.map_none];exact a
  | some j =>
   simp only[XH,e,YU,x3,List.nodup_cons];refine⟨λz => ?_,a⟩;obtain⟨p,d,b⟩:=List.mem_map.mp z;exact BM (T:=T) e (λs f=>(c s f).symm) p d b
theorem JZ {l:List (Nat × Int)}(nd:(l.map (·.1)).Nodup):(l.map oH).Nodup:=by
 rw[WH,XE]at nd ⊢;exact nd.imp λ{a b} h e=>h (by have:=(List.cons.inj e).1;omega)
theorem mB {α : Type}{l:List α}:kO (l.map λ_=>D.bl true)=some (l.map λ_=>true):=by
 induction l with
 | nil=>rfl
 | cons x l ih=>simp[kO,ih]
theorem xB {f bk:Nat}{bs:List Int}(j:h[f]? = some (.lst l))(m:l.length=n)(d:h[bk]? = some (.lst (bs.map .int)))(lb:bs.length=n):jj [.ref f,.ref bk] h=.ok (.tup (bs.map .int)) h:=by
 have c:cI (some bk) (bs.map D.int) (gN 0) [] (am eg (ab (aa 0) ao)) (bs.map D.int) [none] h=.ok ((bs.map D.int).map λ_=>D.bl true) h:=by
  have:=bA (g:=some bk) (all:=bs.map D.int) (tg:=gN 0) (cs:=[]) (e:=am eg (ab (aa 0) ao)) (h:=h) (I:=λσ=>∃a,σ = [a]) (λ_=>true) (λ_=>.bl true) d (xs:=bs.map D.int) (σ:=[none]) (by
   rintro x k σ ⟨a,rfl⟩;obtain⟨i,_,rfl⟩:=List.mem_map.mp k;exact⟨_,rfl,⟨_,rfl⟩,rfl,λ_=>aw (ar rfl rfl) (oE _ _)⟩) ⟨_,rfl⟩
  rw[this,List.filter_eq_self.mpr (by simp)]
 have o:((bs.map D.int).map λ_=>true).all id=true:=by simp
 exact Eq.trans (bJ (σ:=[some (.ref f),some (.ref bk)]) rfl rfl (sx (cn (aT (ah rfl rfl rfl))) (sx (cn (gj (bX (b:=true) (aT (BB rfl d))) (aT (ah (cZ (cz rfl (aE d))) (cZ (cz rfl (aE j))) (by rw[OE,ZA,lb,m,x6 rfl];rfl))))) (sx (cn (bX (b:=true) (aT (Eq.trans (tw (cG (fY rfl d) c) mB) (by rw[o]))))) (aV (jh (cz rfl (aE d)))))))) aQ
theorem uF {sk:Nat}{ss:List (Option Int)}(d:h[sk]? = some (.lst (ss.map cR)))(ls:ss.length=n)(os:∀x∈ss,x=none\/x=some 0\/x=some 1):iy [.int n,.ref sk] h=.ok (.tup (ss.map cR)) h:=by
 have c:cI (some sk) (ss.map cR) (gN 0) [] (fT (tOr (tE (af Bk (aa 0) (fC .non))) (tE (am cS (ab (aa 0) ao))))) (ss.map cR) [none] h=.ok ((ss.map cR).map λ_=>D.bl true) h:=by
  have:=bA (g:=some sk) (all:=ss.map cR) (tg:=gN 0) (cs:=[]) (e:=fT (tOr (tE (af Bk (aa 0) (fC .non))) (tE (am cS (ab (aa 0) ao))))) (h:=h) (I:=λσ=>∃a,σ = [a]) (λ_=>true) (λ_=>.bl true) d (xs:=ss.map cR) (σ:=[none]) (by
   rintro x f σ ⟨a,rfl⟩;obtain⟨i,hi,rfl⟩:=List.mem_map.mp f;refine⟨_,rfl,⟨_,rfl⟩,rfl,λ_ => ?_⟩;rcases os i hi with e|e|e<;>subst e
   ·exact oz (xx (aT (ah rfl rfl rfl)))
   ·exact oz (gj (aT (ah rfl rfl rfl)) (aT (aw (ar rfl rfl) (iP 0 h))))
   ·exact oz (gj (aT (ah rfl rfl rfl)) (aT (aw (ar rfl rfl) (iP 1 h))))) ⟨_,rfl⟩
  rw[this,List.filter_eq_self.mpr (by simp)]
 exact Eq.trans (bJ (σ:=[some (.int n),some (.ref sk)]) rfl rfl (sx (cn (aT (ah rfl rfl rfl))) (sx (cn (gj (bX (b:=true) (aT (BB rfl d))) (aT (ah (cZ (cz rfl (aE d))) rfl (by rw[OE,ZA,ls,x6 rfl];rfl))))) (sx (cn (bX (b:=true) (aT (Eq.trans (tw (cG (fY rfl d) c) mB) (by rw[List.all_map];simp))))) (aV (jh (cz rfl (aE d)))))))) aQ
theorem J0 (m:n<=30)(O:TOk n n 0 T)(N:NH n A h T h1) :
  cI (some (A + n)) ((List.range n).map λi=>.ref (A + i)) (gN 0) [] (gg (pz (aa 0))) ((List.range n).map λi=>.ref (A + i)) [none] h1=.ok (((List.range n).map λi=>cO (nbs T i)).map sZ) h1:=by
 have:=bA (g:=some (A + n)) (all:=(List.range n).map λi=>.ref (A + i)) (tg:=gN 0) (cs:=[]) (e:=gg (pz (aa 0))) (h:=h1) (I:=λσ=>∃a,σ = [a]) (λ_=>true)
  (λd=>match d with | .ref k=>sZ (cO (nbs T (k - A)))|_=>.non) N.rf (xs:=(List.range n).map λi=>.ref (A + i)) (σ:=[none]) (by
   rintro x j σ ⟨a,rfl⟩;obtain⟨i,hi,rfl⟩:=List.mem_map.mp j;have hi:=List.mem_range.mp hi;refine⟨_,rfl,⟨_,rfl⟩,rfl,λ_ => ?_⟩;have l:=lI O.un i;have c:((nbs T i).map oH).length < 64:=by
    have lt:∀p∈nbs T i,p.1 < n:=λp b=>by
     unfold nbs at b;obtain⟨t,f,q⟩:=List.mem_filterMap.mp b;have:=O.lt t f;unfold far at q
     by_cases a1:t.a=i
     ·rw[z4 a1]at q;simp at q;subst q;exact this.2
     ·rw[z5 a1]at q
      by_cases a2:t.b=i
      ·rw[z4 a2]at q;simp at q;subst q;exact this.1
      ·rw[z5 a2]at q;cases q
    have:=Hv l (n:=n) (λx j=>by
     obtain⟨p,b,rfl⟩:=List.mem_map.mp j;exact lt p b)
    simp at this ⊢;omega
   have e:((dM ((nbs T i).map oH)).map xi)=(cO (nbs T i)).map nn:=by rw[<-we,Z7];rfl
   simp only[List.set_cons_zero,gg,pz,aa,slot,List.getElem?_cons_zero,ay,N.dc i hi,oJ,z4 (And.intro c (JZ l)),e,sZ,X6]) ⟨_,rfl⟩
 rw[this,List.filter_eq_self.mpr (by simp),Z7,Z7];congr 1;apply YE;intro i _;simp
theorem wg (d:1<=n)(j:n<=30)(O:TOk n n 0 T){bs:List Int}{ss:List (Option Int)}(lb:bs.length=n)(ls:ss.length=n)(os:∀x∈ss,x=none\/x=some 0\/x=some 1){tk bk sk:Nat}
  (ht:h[tk]? = some (.lst (T.map bY))) (r:h[bk]? = some (.lst (bs.map .int))) (y:h[sk]? = some (.lst (ss.map cR))):gR [.int n,.ref tk,.ref bk,.ref sk] h=.ok (aS n T bs ss).enc h:=by
 obtain⟨o,q,N⟩:=uE d j O ht;obtain⟨A,t⟩ : ∃A,A=h.length:=⟨_,rfl⟩;rw[<-t]at q N;obtain⟨g,p,z⟩:=N.pre;have a:∀{k:Nat} {c:ca},h[k]? = some c->o[k]? = some c:=λ{k c} e=>by rw[p,ZC (List.getElem?_eq_some_iff.mp e).1];exact e
 have f:=J0 j O N;have s:=xB (n:=n) (l:=(List.range n).map λi=>.ref (A + i)) N.rf (by simp) (a r) lb;have m:=uF (n:=n) (a y) ls os;have w:(1:Int)<=n:=Int.ofNat_le.mpr d;have u:(n:Int)<=30:=Int.ofNat_le.mpr j;have v:=N.rf;refine Eq.trans (bJ (σ:=[some (.int n),some (.ref tk),some (.ref bk),some (.ref sk),none,none]) rfl rfl (sx (cn (bX (b:=true) (aT (aw (ar rfl (ar rfl (ar rfl rfl))) (by rw[c8,x6 w,x6 u];rfl))))) (sx (aF (aw (ar rfl (ar rfl rfl)) q)) (sx (aF (jh (cG (fY rfl v) f))) (aV (tm (ar rfl (ar (aw (ar rfl (ar rfl rfl)) s) (ar (aw (ar rfl (ar rfl rfl)) m) rfl))) (by exact XB rfl))))))) ?_;show letGo h (.ok (aS n T bs ss).enc o)=_;rw[p];exact cY (oG _)
theorem kg (s:List Int):∀r:List (Nat × Int),bL r s=(r.map λp=>if s.getD p.1 0=1 then p.2 else 0).sum
 | []=>rfl
 | p :: r=>by
  have a:=kg s r;simp only[bL,fD,X7,x3,YJ]at a ⊢
  by_cases e:s.getD p.1 0=1
  ·simp only[e,decide_true,YP,x3,YJ];rw[a]
  ·simp only[e,decide_false,Y7,YB];rw[a];omega
theorem zJ (s:List Int)(r:List (Nat × Int)):bL (cO r) s=bL r s:=by rw[kg,kg,pJ]
theorem nC (lt:∀t∈T,t.a < n/\t.b < n){i:Nat}:∀p∈nbs T i,p.1 < n:=λp b=>by
 unfold nbs at b;obtain⟨t,a,q⟩:=List.mem_filterMap.mp b;have:=lt t a;unfold far at q
 by_cases a1:t.a=i
 ·rw[z4 a1]at q;simp at q;subst q;exact this.2
 ·rw[z5 a1]at q
  by_cases a2:t.b=i
  ·rw[z4 a2]at q;simp at q;subst q;exact this.1
  ·rw[z5 a2]at q;cases q
theorem jL (c:n<=30)(O:TOk n n 0 T){bs:List Int}{ss:List (Option Int)}(lb:bs.length=n)(ls:ss.length=n):(aS n T bs ss).Ok n:=by
 refine⟨by simp[aS],lb,ls,λr b p a => ?_,by omega⟩;obtain⟨i,_,rfl⟩:=List.mem_map.mp b;exact nC O.lt p (eB.mp a)
structure Qa (n:Nat) (T:List Tie) (bs:List Int) (ss:List (Option Int)) (tk bk sk:Nat) (h:Hd):Prop where
 ti:h[tk]? = some (.lst (T.map bY))
 ba:h[bk]? = some (.lst (bs.map .int))
 st:h[sk]? = some (.lst (ss.map cR))
theorem wj {α : Type}{f : α->D}{k:Nat}(h:∀x,dep (f x)<=k):∀l:List α,kZ (l.map f)<=k
 | []=>YG _
 | x :: l=>by simp only[x3,kZ];exact Nat.max_le.mpr ⟨h x,wj h l⟩
structure Hw (n:Nat) (ss:List (Option Int)) (s:List Int):Prop where
 len:s.length=n
 op:∀x∈s,x=0\/x=1
 st:∀(i:Nat) x,ss[i]? = some (some x)->s[i]? = some x
theorem Hw.fits {ss:List (Option Int)}(f:Hw n ss s)(T:List Tie)(bs:List Int):c5 (aS n T bs ss) n s:=⟨f.len,f.op,f.st⟩
def LeS (a b:List Int):Prop:=∀i:Nat,a.getD i 0<=b.getD i 0
def tJ (a:List Int):Prop:=∀i:Nat,a.getD i 0=0\/a.getD i 0=1
theorem fP (p:Nat × Int)(r:List (Nat × Int))(s:List Int):bL (p :: r) s=(if s.getD p.1 0=1 then p.2 else 0) + bL r s:=by
 unfold bL fD
 by_cases e:s.getD p.1 0=1
 ·rw[X7,z4 (by simp only[YH];exact e),z4 e];rfl
 ·rw[X7,z5 (by simp only[YH];exact e),z5 e];omega
theorem qS {a b:List Int}(B:tJ b)(l:LeS a b):∀{r:List (Nat × Int)},(∀p∈r,0<=p.2)->bL r a<=bL r b
 | [],_=>Y2 _
 | p :: r,h=>by
  have j:=qS B l (r:=r) λq d=>h q (by simp[d]);have f:=h p (by simp);have g:=l p.1;have i:=B p.1;rw[fP,fP]
  by_cases e:a.getD p.1 0=1
  ·have c:b.getD p.1 0=1:=by omega
   rw[z4 e,z4 c];omega
  ·rw[z5 e]
   by_cases c:b.getD p.1 0=1
   ·rw[z4 c];omega
   ·rw[z5 c];omega
theorem J1 {c b d a x y:Int}(hp:c<=b)(f:a<=d)(l:x<=y)(h:x=0\/x=1)(g:y=0\/y=1):(if 2 * c=d then x else if d < 2 * c then 1 else 0)<=(if 2 * b=a then y else if a < 2 * b then (1:Int) else 0):=by
 have i:0<=y:=by rcases g with rfl|rfl<;>decide
 have x1:x<=1:=by rcases h with rfl|rfl<;>decide
 have q:2 * c<=2 * b:=Int.mul_le_mul_of_nonneg_left hp (by decide);generalize 2 * c=A at q;generalize 2 * b=B at q
 by_cases e1:A=d
 ·rw[z4 e1]
  by_cases e2:B=a
  ·rw[z4 e2];exact l
  ·rw[z5 e2,z4 (Int.lt_iff_le_and_ne.mpr ⟨Int.le_trans f (e1 ▸ q),YN e2⟩)];exact x1
 ·rw[z5 e1]
  by_cases e3:d < A
  ·have e:a < B:=Int.lt_of_le_of_lt f (Int.lt_of_lt_of_le e3 q)
   rw[z4 e3,z5 (Int.ne_of_gt e),z4 e];exact Y2 _
  ·rw[z5 e3]
   by_cases e2:B=a
   ·rw[z4 e2];exact i
   ·rw[z5 e2]
    split
    ·decide
    ·exact Y2 _
theorem BN {c d:Web}{a b:List Int}(hp:bL (c.ties.getD p []) a<=bL (d.ties.getD p []) b)(h:d.bars.getD p 0<=c.bars.getD p 0)(B1:tJ a)(g:tJ b)(le:LeS a b)
  (st:(c.stays.getD p none=none/\d.stays.getD p none=none)\/c.stays.getD p none=some 0\/d.stays.getD p none=some 1) (n1:dX c a p=0\/dX c a p=1) (i:dX d b p=0\/dX d b p=1):dX c a p<=dX d b p:=by
 rcases st with ⟨s1,s2⟩|s|s
 ·have f:=B1 p
  have e:=g p;have l:=le p;unfold dX;rw[s1,s2];generalize bL (c.ties.getD p []) a=P1 at *;generalize bL (d.ties.getD p []) b=P2 at *;generalize c.bars.getD p 0=c1 at *;generalize d.bars.getD p 0=c2 at *;generalize a.getD p 0=x at *;generalize b.getD p 0=y at *;exact J1 hp h l f e
 ·have:dX c a p=0:=by unfold dX;rw[s]
  omega
 ·have:dX d b p=1:=by unfold dX;rw[s]
  omega
theorem wm (w:Web)(n:Nat)(s:List Int)(i:Nat):(dv w n s).getD i 0=if i < n then dX w s i else 0:=by
 unfold dv
 by_cases h:i < n<;>simp[List.getD,h]
theorem c5.bits (F:c5 w n s):tJ s:=λi=>gQ F i
structure BO (w1 w2:Web) (n:Nat):Prop where
 go:∀a b,c5 w1 n a->c5 w2 n b->LeS a b->LeS (dv w1 n a) (dv w2 n b)
theorem J2 {c d:Web}(j:cW c)(S2:cW d)(hp:∀p,p < n->∀a b,tJ a->tJ b->LeS a b->bL (c.ties.getD p []) a<=bL (d.ties.getD p []) b)(k:∀p,p < n->d.bars.getD p 0<=c.bars.getD p 0)
  (st:∀p,p < n->(c.stays.getD p none=none/\d.stays.getD p none=none)\/c.stays.getD p none=some 0\/d.stays.getD p none=some 1):BO c d n :=
 ⟨λa b e f g i=>by
  rw[wm,wm]
  by_cases h:i < n
  ·rw[z4 h,z4 h]
   exact BN (hp i h a b e.bits f.bits g) (k i h) e.bits f.bits g (st i h) (tF e j i) (tF f S2 i)
  ·rw[z5 h,z5 h];exact Y2 _⟩
theorem wn {c d:Web}{n:Nat}(g:c.Ok n)(i:d.Ok n)(e:cW c)(S2:cW d)(M:BO c d n){a b:List Int}(f:c5 c n a)(h:c5 d n b)(le:LeS a b):∀k,LeS (aG c n a k) (aG d n b k)
 | 0=>le
 | k + 1=>M.go _ _ (bh g e f k) (bh i S2 h k) (wn g i e S2 M f h le k)
def S2 (R:Nat->List (Nat × Int)) (f s:Nat->Int):Nat->Int
 | 0=>0
 | k + 1=>S2 R f s k + ((R k).map λp=>p.2 * f p.1 * s k).sum
def dP (g:Nat->Int):Nat->Int
 | 0=>0
 | n + 1=>dP g n + g n
theorem wq (g:Nat->Int)(n:Nat):((List.range n).map g).sum=dP g n:=by
 induction n with
 | zero=>rfl
 | succ n ih=>rw[XG,ZR,List.sum_append,ih];simp[dP]
theorem zK (l:List Int):l.sum=dP (λk=>l.getD k 0) l.length:=by
 rw[<-wq];congr 1;apply XD;intro i
 by_cases hi:i < l.length<;>simp[List.getD,hi]
def pK (w:Web) (n:Nat) (f s:List Int):Int :=
 2 * dP (λk=>(f.getD k 0 + s.getD k 0) * w.bars.getD k 0) n + f.sum + s.sum - 4 * S2 (λi=>w.ties.getD i []) (λk=>f.getD k 0) (λk=>s.getD k 0) n - 2 * dP (λk=>f.getD k 0 * s.getD k 0) n
theorem EU {f:List Int}(b:∀p∈r,f.getD p.1 0=0\/f.getD p.1 0=1):bL r f=(r.map λp=>p.2 * f.getD p.1 0).sum:=by
 induction r with
 | nil=>rfl
 | cons p r ih =>
  have c:=b p (by simp);have a:=ih λq d=>b q (by simp[d]);simp only[bL,fD]at a ⊢;rcases c with e|e
  ·simp[-List.getD_eq_getElem?_getD,e,a]
  ·simp[-List.getD_eq_getElem?_getD,e,a]
theorem wr {f:List Int}(W:w.Ok n)(c:c5 w n f)(h:c5 w n s):c6 w f s n=pK w n f s:=by
 have a:∀{l:List Int} (F:c5 w n l) (i:Nat),l.getD i 0=0\/l.getD i 0=1:=λ{l} F i=>by
  by_cases hi:i < l.length
  ·rw[List.getD,ZE hi];exact F.op _ (YC hi)
  ·rw[List.getD,List.getElem?_eq_none (by omega)];exact .inl rfl
 have d:∀m,m<=n->c6 w f s m=2 * dP (λk=>(f.getD k 0 + s.getD k 0) * w.bars.getD k 0) m + dP (λk=>f.getD k 0) m + dP (λk=>s.getD k 0) m
   - 4 * S2 (λi=>w.ties.getD i []) (λk=>f.getD k 0) (λk=>s.getD k 0) m - 2 * dP (λk=>f.getD k 0 * s.getD k 0) m:=by
  intro m
  induction m with
  | zero=>intro _;rfl
  | succ m b =>
   intro q;have b:=b (by omega);simp only[c6,dP,S2,ji,b];have o:=EU (r:=w.ties.getD m []) (f:=f) λp _=>a c p.1;have j:=a c m;have bs:=a h m;have g:((w.ties.getD m []).map λp=>p.2 * f.getD p.1 0 * s.getD m 0).sum=bL (w.ties.getD m []) f * s.getD m 0:=by
    rw[o];generalize w.ties.getD m [] = r
    induction r with
    | nil=>simp
    | cons p r b=>simp only[x3,YJ,b,Int.add_mul]
   rw[g];rcases j with e|e<;>rcases bs with e'|e'<;>simp only[e,e']<;>simp<;>omega
 rw[d n (ZL _),pK,zK f,zK s,c.len,h.len]
theorem BP {f:List Int}(sym:∀f s,S2 (λi=>w.ties.getD i []) f s n=S2 (λi=>w.ties.getD i []) s f n):pK w n f s=pK w n s f:=by
 have a:(λk=>(f.getD k 0 + s.getD k 0) * w.bars.getD k 0)=λk=>(s.getD k 0 + f.getD k 0) * w.bars.getD k 0:=by funext k;rw[Int.add_comm]
 have b:(λk=>f.getD k 0 * s.getD k 0)=λk=>s.getD k 0 * f.getD k 0:=by funext k;rw[Int.mul_comm]
 rw[pK,pK,a,b,sym];omega
theorem EV {f:List Int}(W:w.Ok n)(b:c5 w n f)(a:c5 w n s)(sym:∀f s,S2 (λi=>w.ties.getD i []) f s n=S2 (λi=>w.ties.getD i []) s f n):c6 w f s n=c6 w s f n:=by
 rw[wr W b a,wr W a b,BP sym]
def unl (a b:List Int) (n:Nat):Int:=dP (λp=>if a.getD p 0=b.getD p 0 then 0 else 1) n
theorem nD (a b:List Int):∀n,0<=unl a b n
 | 0=>by simp[unl,dP]
 | n + 1=>by
  have:=nD a b n;simp only[unl,dP]at this ⊢;split<;>omega
theorem DH {a b:List Int}:∀{n:Nat},(∃p,p < n/\a.getD p 0≠b.getD p 0)->1<=unl a b n
 | 0,⟨p,hp,_⟩=>by omega
 | n + 1,⟨p,hp,hne⟩=>by
  have c:=nD a b n
  by_cases e:p=n
  ·subst e
   simp only[unl,dP]at c ⊢;rw[z5 hne];omega
  ·have:=DH (a:=a) (b:=b) (n:=n) ⟨p,by omega,hne⟩
   simp only[unl,dP]at this ⊢;split<;>omega
theorem J3 {a b:List Int}(e:a.length=n)(f:b.length=n)(h:a≠b):∃p,p < n/\a.getD p 0≠b.getD p 0:=by
 refine WL λq=>h ?_;apply List.ext_getElem (by omega);intro i c d;refine WL λz=>q ⟨i,by omega,?_⟩;simpa[List.getD,c,d] using z
theorem EW (hp:p < n):(dv w n s).getD p 0=dX w s p:=by simp[dv,List.getD,hp]
theorem EX (F:c5 w n s){x:Int}(e:w.stays.getD p none=some x):s.getD p 0=x:=by
 have:w.stays[p]? = some (some x):=by
  rw[List.getD]at e;cases c:w.stays[p]? with
  | none=>rw[c]at e;cases e
  | some y=>rw[c]at e;simp at e;rw[e]
 have:=F.st p x this;simp[List.getD,this]
theorem PP {d a:List Int}(W:w.Ok n)(j:c5 w n d)(l:c5 w n a)(sym:∀f s,S2 (λi=>w.ties.getD i []) f s n=S2 (λi=>w.ties.getD i []) s f n) :
  c6 w a (dv w n a) n + unl d (dv w n a) n<=c6 w d a n:=by
 rw[EV W j l sym];have k:∀m,m<=n->c6 w a (dv w n a) m + unl d (dv w n a) m<=c6 w a d m:=by
  intro m
  induction m with
  | zero=>intro _;simp[c6,unl,dP]
  | succ m h =>
   intro r;have h:=h (by omega);have g:=gQ j m;have e:=gQ l m;have q:=EW (w:=w) (s:=a) (p:=m) (n:=n) (by omega);have o:ji w a (dv w n a) m + (if d.getD m 0=(dv w n a).getD m 0 then 0 else 1)<=ji w a d m:=by
    unfold ji;rw[q];unfold dX;cases c:w.stays.getD m none with
    | some x =>
     have:=EX j c;simp only[this];simp
    | none =>
     simp only;generalize w.bars.getD m 0=b;generalize bL (w.ties.getD m []) a=P;generalize d.getD m 0=x0 at g ⊢;generalize a.getD m 0=x1 at e ⊢
     by_cases h1:2 * P=b
     ·rw[z4 h1]
      rcases g with z|z<;>rcases e with y|y<;>subst z y<;>simp<;>omega
     ·rw[z5 h1]
      by_cases h2:b < 2 * P
      ·rw[z4 h2]
       rcases g with z|z<;>rcases e with y|y<;>subst z y<;>simp<;>omega
      ·rw[z5 h2]
       rcases g with z|z<;>rcases e with y|y<;>subst z y<;>simp<;>omega
   simp only[c6,unl,dP]at h ⊢;omega
 exact k n (ZL _)
def EY (r:List (Nat × Int)):Int:=(r.map λp=>(p.2.natAbs:Int)).sum
theorem EZ (r:List (Nat × Int))(f:List Int):bL r f<=EY r:=by
 induction r with
 | nil=>simp[bL,fD,EY]
 | cons p r ih =>
  simp only[bL,fD,EY,X7,x3,YJ]at ih ⊢;split
  ·simp only[x3,YJ];omega
  ·omega
theorem Hx {w:Web}{n:Nat}:∀m,∃C:Int,∀f s,c5 w n f->c5 w n s->-C<=c6 w f s m
 | 0=>⟨0,λf s _ _=>by simp[c6]⟩
 | m + 1=>by
  obtain⟨C,d⟩:=Hx (w:=w) (n:=n) m;refine⟨C + (2 * ((2 * w.bars.getD m 0 + 1).natAbs:Int) + 4 * EY (w.ties.getD m []) + 2 + 4 * ((EY (w.ties.getD m [])).natAbs:Int)),λf s a c => ?_⟩;have i:=d f s a c;have g:=gQ a m;have e:=gQ c m;have h:=EZ (w.ties.getD m []) f;simp only[c6,ji];generalize w.bars.getD m 0=b at *;generalize bL (w.ties.getD m []) f=P at *;generalize EY (w.ties.getD m [])=A at *;generalize c6 w f s m=T at *;rcases g with z|z<;>rcases e with y|y<;>simp only[z,y]<;>simp<;>omega
theorem BQ {P:Nat->Prop}(h:∃t,P t):∃t,P t/\∀k,k < t->¬P k:=by
 obtain⟨t,c⟩:=h
 induction t using Nat.strongRecOn with
 | ind t ih =>
  by_cases q:∃k,k < t/\P k
  ·obtain⟨k,a,b⟩:=q
   exact ih k a b
  ·exact⟨t,c,λk a b=>q ⟨k,a,b⟩⟩
def eN (w:Web) (n:Nat) (s:List Int) (k:Nat):Int:=c6 w (aG w n s k) (aG w n s (k + 1)) n
theorem xC (W:w.Ok n)(S:cW w)(F:c5 w n s)(sym:∀f s,S2 (λi=>w.ties.getD i []) f s n=S2 (λi=>w.ties.getD i []) s f n)(k:Nat) :
  eN w n s (k + 1) + unl (aG w n s k) (aG w n s (k + 2)) n<=eN w n s k:=PP W (bh W S F k) (bh W S F (k + 1)) sym
theorem K2 (W:w.Ok n)(S:cW w)(F:c5 w n s)(sym:∀f s,S2 (λi=>w.ties.getD i []) f s n=S2 (λi=>w.ties.getD i []) s f n){k:Nat}(h:aG w n s (k + 2)≠aG w n s k):eN w n s (k + 1) + 1<=eN w n s k:=by
 have:=xC W S F sym k;have:=DH (n:=n) (J3 (bh W S F k).len (bh W S F (k + 2)).len (YN h));omega
theorem K3 {w:Web}{n:Nat}{s:List Int}(W:w.Ok n)(S:cW w)(F:c5 w n s)(sym:∀f s,S2 (λi=>w.ties.getD i []) f s n=S2 (λi=>w.ties.getD i []) s f n){k:Nat}:∀{m:Nat},k<=m->eN w n s m<=eN w n s k
 | 0,h=>by
  have:k=0:=by omega
  subst this;exact Y2 _
 | m + 1,h=>by
  by_cases e:k=m + 1
  ·subst e;exact Y2 _
  ·have b:=K3 W S F sym (k:=k) (m:=m) (by omega)
   have c:=xC W S F sym m;have a:=nD (aG w n s m) (aG w n s (m + 2)) n;omega
theorem PQ (W:w.Ok n)(S:cW w)(F:c5 w n s)(sym:∀f s,S2 (λi=>w.ties.getD i []) f s n=S2 (λi=>w.ties.getD i []) s f n):∃t,aG w n s (t + 2)=aG w n s t/\∀k,k < t->aG w n s (k + 2)≠aG w n s k:=by
 refine BQ (P:=λt=>aG w n s (t + 2)=aG w n s t) ?_;refine WL λq => ?_;obtain⟨C,b⟩:=Hx (w:=w) (n:=n) n;have a:∀k:Nat,eN w n s k + k<=eN w n s 0:=by
  intro k
  induction k with
  | zero=>simp
  | succ k ih =>
   have:=K2 W S F sym (k:=k) λz=>q ⟨k,z⟩;omega
 have c:=a (eN w n s 0 + C + 1).toNat;have e : -C<=eN w n s (eN w n s 0 + C + 1).toNat:=b _ _ (bh W S F _) (bh W S F _);have d : -C<=eN w n s 0:=b _ _ (bh W S F _) (bh W S F _);omega
theorem wu:∀(a b:List Int),a.length=b.length->i8 (a.map .int) (b.map .int)=some (decide (a=b))
 | [],[],_=>by simp[i8]
 | x :: a,y :: b,h=>by
  have c:=wu a b (by simpa using h);simp only[x3,i8,peq,c]
  by_cases e:x=y<;>by_cases e2:a=b<;>simp[e,e2]
 | [],_ :: _,h=>by simp at h
 | _ :: _,[],h=>by simp at h
theorem E1 (l:List Int):kZ (l.map .int)=0:=by
 induction l with
 | nil=>rfl
 | cons x l ih=>simp[kZ,dep,ih]
theorem DI (l:List Int):dep (aq l)=1:=by simp[aq,dep,E1]
theorem DJ {a b:List Int}(h:a.length=b.length):peq (aq a) (aq b)=some (decide (a=b)):=by
 simp only[aq,peq,wu a b h,YU,ZA,h];simp
theorem DK {a b:List Int}(h:a.length=b.length)(hd:Hd):eqG hd (aq a) (aq b)=some (decide (a=b)):=by
 have c:∀l,ib hd (aq l)=none:=λl=>rfl;simp only[eqG,c,DI,DJ h];rfl
theorem DL {a b:List Int}(h:a.length=b.length)(hd:Hd):oNe (aq a) (aq b) hd=.ok (.bl (!decide (a=b))) hd:=by
 unfold oNe;rw[DK h]
theorem oK {a b:List Int}(h:a.length=b.length)(hd:Hd):oEq (aq a) (aq b) hd=.ok (.bl (decide (a=b))) hd:=by
 unfold oEq;rw[DK h]
theorem OG {k:Nat}(h1:1<=k)(a:k<=n) : ¬ 0<=-(k:Int)/\-(n:Int)<=-(k:Int)/\(-(k:Int) + (n:Int)).toNat=n - k:=by omega
theorem xD {k:Nat}(h1:1<=k)(a:k<=l.length):atI l (-(k:Int))=l[l.length - k]? := by
 have q:=OG h1 a;unfold atI ixN;rw[z5 q.1,z4 q.2.1,q.2.2];rfl
theorem lJ (k j:Nat)(h1:1<=j):atI ((aX w n s (k + j)).map aq) (-(j:Int))=some (aq (aG w n s k)):=by
 rw[xD h1 (by rw[ZA,fN];exact Nat.le_add_left j k),ZA,fN,Nat.add_sub_cancel,ZQ,aX,ZQ,List.getElem?_range (Nat.lt_add_of_pos_right h1)];rfl
theorem pL {a:SF}{σ':Sd}(e:a σ h=.nx σ' h'):ax a b σ h=b σ' h':=by simp[ax,e]
theorem Hy (W:w.Ok n)(S:cW w)(F:c5 w n s){t:Nat}(ht:aG w n s (t + 2)=aG w n s t)(hm:∀k,k < t->aG w n s (k + 2)≠aG w n s k)(hz:t<=900000)(h:Hd) :
  oF [w.enc,aq s] h=.ok (.tup [.int t,.str (if aG w n s (t + 1)=aG w n s t then [114,101,115,116] else [112,97,105,114]),.ref h.length]) (h++[.lst ((aX w n s (t + 2)).map aq)]):=by
 have L:∀k,(aG w n s k).length=n:=λk=>(bh W S F k).len;have e:∀j k,k + j=t->fq (tE (af oNe (aa 3) (fAt (aa 2) (fC (.int (-2)))))) tD (j + 1) [some w.enc,some (aq s),some (.ref h.length),some (aq (aG w n s (k + 2))),none] (h++[.lst ((aX w n s (k + 2)).map aq)])
   = .nx [some w.enc,some (aq s),some (.ref h.length),some (aq (aG w n s (t + 2))),none] (h++[.lst ((aX w n s (t + 2)).map aq)]):=by
  intro j
  induction j with
  | zero =>
   intro k f;have:k=t:=f;subst this;have p:atI ((aX w n s (k + 2)).map aq) (-2)=some (aq (aG w n s k)):=lJ k 2 (by decide);have c:tE (af oNe (aa 3) (fAt (aa 2) (fC (.int (-2))))) [some w.enc,some (aq s),some (.ref h.length),some (aq (aG w n s (k + 2))),none] (h++[.lst ((aX w n s (k + 2)).map aq)])=.ok false (h++[.lst ((aX w n s (k + 2)).map aq)]):=by
    rw[ht];exact aT (ah rfl (aL rfl rfl (aE ZG) p) (by rw[DL rfl,x6 rfl];rfl))
   simp only[fq,c]
  | succ j ih =>
   intro k f;have p:atI ((aX w n s (k + 2)).map aq) (-2)=some (aq (aG w n s k)):=lJ k 2 (by decide);have c:tE (af oNe (aa 3) (fAt (aa 2) (fC (.int (-2))))) [some w.enc,some (aq s),some (.ref h.length),some (aq (aG w n s (k + 2))),none] (h++[.lst ((aX w n s (k + 2)).map aq)])=.ok true (h++[.lst ((aX w n s (k + 2)).map aq)]):=by
    exact aT (ah rfl (aL rfl rfl (aE ZG) p) (by rw[DL ((L (k + 2)).trans (L k).symm),wL (hm k (f ▸ Nat.lt_add_of_pos_right (Nat.succ_pos j)))];rfl))
   have H:((aX w n s (k + 2)).map aq).length < SZ:=by rw[ZA,fN];exact ZS (Nat.add_le_add_right (ZM (f ▸ XJ k (j + 1)) hz) 2) (by decide)
   have tk:=ke W (bh W S F (k + 2)) (h++[.lst ((aX w n s (k + 3)).map aq)]);have o:tD [some w.enc,some (aq s),some (.ref h.length),some (aq (aG w n s (k + 2))),none] (h++[.lst ((aX w n s (k + 2)).map aq)])=.nx [some w.enc,some (aq s),some (.ref h.length),some (aq (aG w n s (k + 3))),none] (h++[.lst ((aX w n s (k + 3)).map aq)]):=by
    have u:fV (jX (aa 2) (aa 3)) [some w.enc,some (aq s),some (.ref h.length),some (aq (aG w n s (k + 2))),none] (h++[.lst ((aX w n s (k + 2)).map aq)])=.nx [some w.enc,some (aq s),some (.ref h.length),some (aq (aG w n s (k + 2))),none] (h++[.lst ((aX w n s (k + 3)).map aq)]):=by
     rw[show aX w n s (k + 3)=aX w n s (k + 2)++[aG w n s (k + 2)] from tG (k + 2),ZR];exact(hJ (ka rfl ZG rfl ZG H)).trans (by rw[kc rfl];rfl)
    exact(pL u).trans (aF (aw (bU rfl rfl) tk))
   rw[fq,c];simp only[o];exact ih (k + 1) (by rw[Nat.add_right_comm];exact f)
 have x:=ER (e t 0 (Z1 t)) (by simp);have B:=ke W F h;have y:=ke W (bh W S F 1) (h++[.lst ((aX w n s 2).map aq)]);have G : [aq s,aq (dv w n s)] = (aX w n s 2).map aq:=by simp[aX,XG,aG]
 have v:atI ((aX w n s 2).map aq) 1=some (aq (aG w n s 1)):=tH (w:=w) (n:=n) (s:=s) (m:=2) (i:=1) (by decide);have g:atI ((aX w n s (t + 2)).map aq) (-1)=some (aq (aG w n s (t + 1))):=lJ (t + 1) 1 (by decide);have l:atI ((aX w n s (t + 2)).map aq) (-2)=some (aq (aG w n s t)):=lJ t 2 (by decide);have E:(aX w n s (t + 2)).length=t + 2:=fN _;have d:=oK (a:=aG w n s (t + 1)) (b:=aG w n s t) ((L (t + 1)).trans (L t).symm) (h++[.lst ((aX w n s (t + 2)).map aq)]);simp only[aG]at y;simp only[aG]at v;have r:aG w n s (0 + 2)=dv w n (dv w n s):=rfl;rw[r,show 0 + 2=2 from rfl]at x;have D:aH (gN 2) (bG (ab (aa 1) (ab (am eA (ab (aa 0) (ab (aa 1) ao))) ao))) [some w.enc,some (aq s),none,none,none] h
   = .nx [some w.enc,some (aq s),some (.ref h.length),none,none] (h++[.lst ((aX w n s 2).map aq)]):=by
  rw[<-G];exact aF (cL (ar rfl (ar (aw (bU rfl rfl) B) rfl)))
 have A:aH (gN 3) (am eA (ab (aa 0) (ab (fAt (aa 2) (fC (.int 1))) ao))) [some w.enc,some (aq s),some (.ref h.length),none,none] (h++[.lst ((aX w n s 2).map aq)])
   = .nx [some w.enc,some (aq s),some (.ref h.length),some (aq (dv w n (dv w n s))),none] (h++[.lst ((aX w n s 2).map aq)]):=by
  exact aF (aw (ar rfl (ar (aL rfl rfl (aE ZG) v) rfl)) y)
 have C:aH (gN 4) (fIf (tE (af oEq (fAt (aa 2) (fC (.int (-1)))) (fAt (aa 2) (fC (.int (-2)))))) (fC (.str [114,101,115,116])) (fC (.str [112,97,105,114]))) [some w.enc,some (aq s),some (.ref h.length),some (aq (aG w n s (t + 2))),none] (h++[.lst ((aX w n s (t + 2)).map aq)])
   = .nx [some w.enc,some (aq s),some (.ref h.length),some (aq (aG w n s (t + 2))),some (.str (if aG w n s (t + 1)=aG w n s t then [114,101,115,116] else [112,97,105,114]))] (h++[.lst ((aX w n s (t + 2)).map aq)]):=by
  by_cases q:aG w n s (t + 1)=aG w n s t
  ·rw[z4 q];rw[x6 q]at d
   exact aF ((BE (aT (ah (aL rfl rfl (aE ZG) g) (aL rfl rfl (aE ZG) l) d))).trans rfl)
  ·rw[z5 q];rw[wL q]at d
   exact aF ((xz (aT (ah (aL rfl rfl (aE ZG) g) (aL rfl rfl (aE ZG) l) d))).trans rfl)
 have I:fV (am cT (ab (aa 0) (ab (aa 1) ao))) [some w.enc,some (aq s),none,none,none] h=.nx [some w.enc,some (aq s),none,none,none] h:=hJ (aw (bU rfl rfl) (tz W F h));have st:([w.enc,aq s].map some++List.replicate (5 - [w.enc,aq s].length) none:Sd)=[some w.enc,some (aq s),none,none,none]:=rfl;unfold oF bu runB;rw[z4 (show [w.enc,aq s].length=2 from rfl),st,pL I,pL D,pL A,pL x,pL C];have z:((t:Int) + 2) - 2=t:=by omega
 simp[E,SZ,z,letGo,pure?,gh]
def gr:Fn:=bu 1 1 (aW (bG (lOf (fAt (aa 0) (fC (.int 2))))))
theorem E2 (l:List Int):pure? (aq l)=true:=by
 unfold aq;simp only[pure?]
 induction l with
 | nil=>rfl
 | cons x l ih=>simp[gh,pure?,ih]
section
variable {w:Web} {n:Nat} {s:List Int}
end
section
variable {w:Web} {n:Nat} {s:List Int}
end
section
variable {w:Web} {n:Nat} {a b:List Int}
end
def bq:Fn:=bu 2 2 (ax (sIf (tE (af oLt (aa 1) (cC (lOf (aa 0))))) (aW (fAt (aa 0) (aa 1))) bc)
  (aW (af bP (af cB (af cB (fC (.int 71)) (aa 1)) (aa 1)) (af cB (fC (.int 7)) (aa 1)))))
abbrev tK:SF:=(sIf (tE (af oEq (af dh (aa 1) (fC (.int 2))) (fC (.int 1)))) (ax (aH (gN 5) (af dh (af bP (af bP (af bP (af cB (aa 5) (aa 5)) (af cB (fC (.int 69621)) (aa 5))) (af cB (fC (.int 11)) (aa 6))) (fC (.int 5))) (fC (.int 2147483549))))
  (fV (jX (aa 4) (af dh (af kS (aa 5) (fC (.int 7))) (aa 3))))) (ax (fV (jX (aa 4) (af dh (aa 5) (aa 3))))
  (aH (gN 5) (af kS (aa 5) (aa 3)))))
def dw:Fn:=bu 4 7 (ax (aH (gN 4) (bG ao))
  (ax (aH (gN 5) (aa 0))
  (ax (sIf (tE (af oEq (af dh (aa 1) (fC (.int 2))) (fC (.int 1)))) (aH (gN 5) (af dh (af cB (af dh (aa 0) (fC (.int 2147483629))) (fC (.int 48271))) (fC (.int 2147483647)))) bc)
  (ax (eO (bH (aa 2)) (gN 6) tK)
  (aW (aa 4))))))
abbrev iS:SF:=(mJ (aa 9) (aa 6) (fIx (ab (af fU (fAt (aa 10) (aa 6)) (fC (.int 1000))) (ab (af fU (af bP (fAt (aa 9) (aa 6)) (af dh (fAt (aa 10) (aa 6)) (fC (.int 7)))) (fC (.int 3))) ao)) (af dh (af kS (aa 2) (fC (.int 256))) (fC (.int 2)))))
abbrev nE:SF:=(ax (aH (gN 8) (Bv (fC (.int 0)) (af fU (fAt (aa 5) (af bP (af cB (aa 6) (aa 3)) (aa 7))) (fC (.int 402)))))
  (ax (sIf (tE (af oEq (af dh (af kS (aa 2) (fC (.int 64))) (fC (.int 2))) (fC (.int 1)))) (aH (gN 8) (fIx (ab (fC (.int 0)) (ab (fC (.int 0)) (ab (fC (.int 1)) (ab (fC (.int 1)) (ab (fC (.int 2)) (ab (fC (.int 3)) (ab (fC (.int 1)) ao))))))) (af dh (fAt (aa 5) (af bP (af cB (aa 6) (aa 3)) (aa 7))) (fC (.int 7))))) bc)
  (ax (mJ (fAt (aa 4) (aa 6)) (aa 7) (aa 8))
  (mJ (fAt (aa 4) (aa 7)) (aa 6) (aa 8)))))
abbrev kh:SF:=(eO (bH (aa 6)) (gN 7) nE)
def jM:Fn:=bu 2 12 (ax (aH (gN 2) (am bq (ab (aa 0) (ab (fC (.int 0)) ao))))
  (ax (aH (gN 3) (af bP (fC (.int 1)) (af dh (af kS (aa 2) (fC (.int 2))) (aa 1))))
  (ax (aH (gN 4) (bG (bM 1 [3] (bH (aa 3)) (gN 0) [] (bG (sO (ab (fC (.int 0)) ao) (aa 1))))))
  (ax (aH (gN 5) (am dw (ab (am bq (ab (aa 0) (ab (fC (.int 1)) ao))) (ab (aa 2) (ab (af cB (aa 3) (aa 3)) (ab (fC (.int 803)) ao))))))
  (ax (eO (bH (aa 3)) (gN 6) kh)
  (ax (aH (gN 9) (bG (bM 1 [] (eI (aa 4)) (gN 0) [] (uD (lOf (aa 0))))))
  (ax (sIf (tE (af oEq (af dh (af kS (aa 2) (fC (.int 128))) (fC (.int 2))) (fC (.int 1)))) (ax (aH (gN 10) (am dw (ab (am bq (ab (aa 0) (ab (fC (.int 2)) ao))) (ab (aa 2) (ab (aa 3) (ab (fC (.int 2001)) ao))))))
  (eO (bH (aa 3)) (gN 6) iS)) bc)
  (ax (aH (gN 11) (bG (sO (ab (fC .non) ao) (aa 3))))
  (ax (sIf (tE (af oEq (af dh (af kS (aa 2) (fC (.int 512))) (fC (.int 2))) (fC (.int 1)))) (ax (aH (gN 5) (am dw (ab (am bq (ab (aa 0) (ab (fC (.int 3)) ao))) (ab (aa 2) (ab (aa 3) (ab (fC (.int 7)) ao))))))
  (aH (gN 11) (bG (bM 1 [] (eI (aa 5)) (gN 0) [] (fIx (ab (fC (.int 0)) (ab (fC (.int 1)) (ab (fC .non) (ab (fC .non) (ab (fC .non) (ab (fC .non) (ab (fC .non) ao))))))) (aa 0)))))) bc)
  (aW (i9 (ab (aa 4) (ab (aa 9) (ab (aa 11) ao))))))))))))))
abbrev ki:SF:=(ax (fV (jX (aa 2) (fAt (aa 1) (aa 3))))
  (sIf (tE (af ja (fAt (fAt (aa 0) (fC (.int 2))) (aa 3)) (fC .non))) (mJ (aa 2) (aa 3) (fAt (fAt (aa 0) (fC (.int 2))) (aa 3))) bc))
def eT:Fn:=bu 2 4 (ax (aH (gN 2) (bG ao))
  (ax (eO (bH (cC (lOf (aa 1)))) (gN 3) ki)
  (aW (gg (lOf (aa 2))))))
def gu:Fn:=bu 2 2 (aW (af oEq (bG (bM 1 [0,1] (bH (cC (lOf (aa 0)))) (gN 0) [(tE (af oGt (fAt (aa 1) (aa 0)) (fAt (aa 2) (aa 0))))] (aa 0))) (bG ao)))
theorem wv {x:Nat × Int}:∀{r:List (Nat × Int)},(∀p∈r,p.1≠x.1)->r.Pairwise (λa b=>a.1 < b.1)->(nz x r).Pairwise (λa b=>a.1 < b.1)
 | [],_,_=>by simp[nz]
 | y :: r,hne,f=>by
  obtain⟨g,i⟩:=List.pairwise_cons.mp f;have j:=hne y (by simp);have h:=wv (x:=x) (r:=r) (λp f=>hne p (by simp[f])) i;have e:lexLt (oH x) (oH y)=decide (x.1 < y.1):=by
   simp only[oH,lexLt];rw[z5 (by omega)];simp
  simp only[nz];split
  ·rename_i c
   rw[e,YH]at c;refine List.pairwise_cons.mpr ⟨λb d => ?_,f⟩;rcases Y6.mp d with z|d
   ·rw[z];exact c
   ·exact Z6 c (g b d)
  ·rename_i c
   rw[e,YH]at c;refine List.pairwise_cons.mpr ⟨λb d => ?_,h⟩;rcases tI.mp d with z|d
   ·rw[z];omega
   ·exact g b d
theorem iT:∀{r:List (Nat × Int)},(r.map (·.1)).Nodup->(cO r).Pairwise (λa b=>a.1 < b.1)
 | [],_=>by simp[cO]
 | x :: r,nd=>by
  rw[x3,List.nodup_cons]at nd;refine wv (λp c e=>nd.1 ?_) (iT nd.2);rw[<-e];exact List.mem_map.mpr ⟨p,eB.mp c,rfl⟩
theorem DM:∀{a b:List (Nat × Int)},a.Pairwise (λa b=>a.1 < b.1)->b.Pairwise (λa b=>a.1 < b.1)->(∀p,p∈a ↔ p∈b)->a=b
 | [],[],_,_,_=>rfl
 | [],y :: b,_,_,h=>absurd ((h y).mpr (by simp)) (by simp)
 | x :: a,[],_,_,h=>absurd ((h x).mp (by simp)) (by simp)
 | x :: a,y :: b,ha,hb,h=>by
  obtain⟨f,i⟩:=List.pairwise_cons.mp ha;obtain⟨d,g⟩:=List.pairwise_cons.mp hb;have e:x=y:=by
   rcases Y6.mp ((h x).mp (by simp)) with e|e
   ·exact e
   ·rcases Y6.mp ((h y).mpr (by simp)) with e2|e2
    ·exact e2.symm
    ·have q1:=d x e
     have q2:=f y e2;omega
  subst e;have t:=DM i g λp=>⟨λc=>by
   rcases Y6.mp ((h p).mp (by simp[c])) with e|e
   ·subst e;exact absurd (f p c) (Z9 _)
   ·exact e,λc=>by
   rcases Y6.mp ((h p).mpr (by simp[c])) with e|e
   ·subst e;exact absurd (d p c) (Z9 _)
   ·exact e⟩
  rw[t]
theorem BR {a b:List (Nat × Int)}(c:(a.map (·.1)).Nodup)(d:(b.map (·.1)).Nodup)(h:∀p,p∈a ↔ p∈b):cO a=cO b :=
 DM (iT c) (iT d) λp=>by rw[eB,eB];exact h p
theorem jm {i:Nat}{p:Nat × Int}:p∈nbs T i ↔ ∃t∈T,far i t=some p.1/\t.w=p.2:=by
 unfold nbs;rw[List.mem_filterMap];constructor
 ·rintro⟨t,a,q⟩
  cases e:far i t with
  | none=>rw[e]at q;cases q
  | some j=>rw[e]at q;simp at q;subst q;exact⟨t,a,e,rfl⟩
 ·rintro⟨t,a,q1,q2⟩
  exact⟨t,a,by rw[q1,q2];rfl⟩
theorem Hz {t:Tie}(ne:t.a≠t.b){i j:Nat}(h:far i t=some j):far j t=some i:=by
 unfold far at h ⊢
 by_cases a1:t.a=i
 ·rw[z4 a1]at h
  cases h;rw[z5 ne,z4 rfl,a1]
 ·rw[z5 a1]at h
  by_cases a2:t.b=i
  ·rw[z4 a2]at h
   cases h;rw[z4 rfl,a2]
  ·rw[z5 a2]at h;cases h
theorem zL (ne:∀t∈T,t.a≠t.b){i j:Nat}{x:Int}(h:(j,x)∈nbs T i):(i,x)∈nbs T j:=by
 obtain⟨t,a,q1,q2⟩:=jm.mp h;exact jm.mpr ⟨t,a,Hz (ne t a) q1,q2⟩
theorem M6 {t:Tie}(ne:t.a≠t.b){i j:Nat}(h:far i t=some j):i≠j:=by
 unfold far at h
 by_cases a1:t.a=i
 ·rw[z4 a1]at h;cases h;omega
 ·rw[z5 a1]at h
  by_cases a2:t.b=i
  ·rw[z4 a2]at h;cases h;omega
  ·rw[z5 a2]at h;cases h
def gl (i:Nat) (r:List (Nat × Int)):List Tie:=(r.filter λp=>decide (i < p.1)).map λp=>⟨i,p.1,p.2⟩
def fQ (R:List (List (Nat × Int))):Nat->List Tie
 | 0=>[]
 | k + 1=>fQ R k++gl k (R.getD k [])
theorem pM {i:Nat}{t:Tie}:t∈gl i r ↔ t.a=i/\i < t.b/\(t.b,t.w)∈r:=by
 unfold gl;rw[List.mem_map];constructor
 ·rintro⟨p,d,rfl⟩
  obtain⟨a,b⟩:=List.mem_filter.mp d;exact⟨rfl,by simpa using b,a⟩
 ·rintro⟨a,b,c⟩
  exact⟨_,List.mem_filter.mpr ⟨c,by simpa using b⟩,by cases t;cases a;rfl⟩
theorem jN {R:List (List (Nat × Int))}{t:Tie}:∀{k:Nat},t∈fQ R k ↔ t.a < k/\t.a < t.b/\(t.b,t.w)∈R.getD t.a []
 | 0=>by simp[fQ]
 | k + 1=>by
  rw[fQ,List.mem_append,jN (k:=k),pM];constructor
  ·rintro (⟨d,b,a⟩|⟨d,b,a⟩)
   ·exact⟨by omega,b,a⟩
   ·exact⟨by omega,by omega,by rw[d];exact a⟩
  ·rintro⟨d,b,a⟩
   by_cases c:t.a < k
   ·exact .inl ⟨c,b,a⟩
   ·have:t.a=k:=by omega
    exact .inr ⟨this,by omega,by rw[<-this];exact a⟩
theorem zM {R:List (List (Nat × Int))}(nd:∀i,((R.getD i []).map (·.1)).Nodup):∀k,(fQ R k).Pairwise iR
 | 0=>by simp[fQ]
 | k + 1=>by
  rw[fQ,X0];refine⟨zM nd k,?_,λs f t d => ?_⟩
  ·unfold gl
   rw[XE];have c:=nd k;rw[WH,XE]at c;refine(c.filter _).imp_of_mem λ{a b} e j h => ?_;have l:k < a.1:=by simpa using (List.mem_filter.mp e).2
   exact⟨λz=>h z.2,λz=>by have:=z.2;simp at this;omega⟩
  ·obtain⟨g,o,_⟩:=jN.mp f
   obtain⟨n,m,_⟩:=pM.mp d;exact⟨λz=>by omega,λz=>by omega⟩
theorem pN {R:List (List (Nat × Int))}(l:∀i,(R.getD i []).length<=30):∀k,(fQ R k).length<=30 * k
 | 0=>by simp[fQ]
 | k + 1=>by
  have c:=pN l k;have a:(gl k (R.getD k [])).length<=(R.getD k []).length:=by unfold gl;rw[ZA];exact List.length_filter_le _ _
  have b:=l k;rw[fQ,ZB];omega
theorem pO {bs:List Int}{ss:List (Option Int)}(h:p < n):(aS n T bs ss).ties.getD p [] = cO (nbs T p):=by simp[aS,List.getD,h]
theorem ww:∀r:List (Nat × Int),(cO r).length=r.length:=λr=>by
 have:=pJ (λ_=>1) r;have q:∀l:List (Nat × Int),(l.map λ_=>(1:Int)).sum=l.length:=λl=>by
  induction l with
  | nil=>rfl
  | cons x l ih=>simp only[x3,YJ,ih,y4];omega
 rw[q,q]at this;omega
theorem DN (lt:∀t∈T,t.a < n/\t.b < n)(un:T.Pairwise iR)(i:Nat):(nbs T i).length<=n:=by
 have:=Hv (lI un i) (n:=n) λx a=>by
  obtain⟨p,b,rfl⟩:=List.mem_map.mp a;exact nC lt p b
 simpa using this
def oM (n:Nat) (T:List Tie):List Tie:=fQ ((List.range n).map λi=>cO (nbs T i)) n
theorem xE (w:n<=30)(O:TOk n n 0 T):TOk n n 0 (oM n T)/\∀i,i < n->cO (nbs (oM n T) i)=cO (nbs T i):=by
 have k:∀{i:Nat},i < n->(((List.range n).map λi=>cO (nbs T i)).getD i [])=cO (nbs T i):=λ{i} hi=>by simp[List.getD,hi]
 have l:∀{i:Nat},¬i < n->(((List.range n).map λi=>cO (nbs T i)).getD i [])=[]:=λ{i} hi=>by simp[List.getD,hi]
 have mem:∀{t:Tie},t∈oM n T ↔ t.a < n/\t.a < t.b/\(t.b,t.w)∈nbs T t.a:=λ{t}=>by
  unfold oM;rw[jN];constructor
  ·rintro⟨f,m,d⟩
   rw[k f,eB]at d;exact⟨f,m,d⟩
  ·rintro⟨f,m,d⟩
   exact⟨f,m,by rw[k f,eB];exact d⟩
 have v:∀i,((((List.range n).map λi=>cO (nbs T i)).getD i []).map (·.1)).Nodup:=λi=>by
  by_cases hi:i < n
  ·rw[k hi,WH,XE]
   exact(iT (lI O.un i)).imp λ{a b} h e=>by omega
  ·rw[l hi];simp
 have ok:TOk n n 0 (oM n T):=by
  refine⟨λt g => ?_,λt g => ?_,λt g => ?_,λt g => ?_,zM v n,?_⟩
  ·have:=(mem.mp g).2.1;omega
  ·obtain⟨f,m,d⟩:=mem.mp g
   exact⟨f,nC O.lt _ d⟩
  ·obtain⟨f,m,d⟩:=mem.mp g
   obtain⟨s,o,_,q⟩:=jm.mp d;have q:s.w=t.w:=q;rw[<-q];exact O.wt s o
  ·obtain⟨f,m,d⟩:=mem.mp g
   exact .inl ⟨f,nC O.lt _ d⟩
  ·have:=pN (R:=(List.range n).map λi=>cO (nbs T i)) (λi=>by
    by_cases hi:i < n
    ·rw[k hi,ww]
     have:=DN O.lt O.un i;omega
    ·rw[l hi];simp) n
   exact this
 refine⟨ok,λi hi=>BR (lI ok.un i) (lI O.un i) λp => ?_⟩;obtain⟨j,x⟩:=p;constructor
 ·intro h
  obtain⟨t,g,q1,q2⟩:=jm.mp h;obtain⟨f,m,d⟩:=mem.mp g;have q2:t.w=x:=q2;subst q2;unfold far at q1
  by_cases a1:t.a=i
  ·rw[z4 a1]at q1
   have q1:t.b=j:=by simpa using q1
   rw[<-q1,<-a1];exact d
  ·rw[z5 a1]at q1
   by_cases a2:t.b=i
   ·rw[z4 a2]at q1
    have q1:t.a=j:=by simpa using q1
    rw[<-q1,<-a2];exact zL O.ne d
   ·rw[z5 a2]at q1;cases q1
 ·intro h
  obtain⟨s,o,q1,q2⟩:=jm.mp h;have r:i≠j:=M6 (O.ne s o) q1;have u:=nC O.lt _ h
  by_cases c:i < j
  ·exact jm.mpr ⟨⟨i,j,x⟩,mem.mpr ⟨hi,c,h⟩,by simp[far],rfl⟩
  ·exact jm.mpr ⟨⟨j,i,x⟩,mem.mpr ⟨u,by show j < i;omega,zL O.ne h⟩,by simp[far,YN r],rfl⟩
theorem BS {S:List Tie}(bs:List Int)(ss:List (Option Int))(h:∀i,i < n->cO (nbs S i)=cO (nbs T i)):aS n S bs ss=aS n T bs ss:=by
 unfold aS;congr 1;apply YE;intro i hi;exact h i (List.mem_range.mp hi)
theorem tL (a:n<=30)(O:TOk n n 0 T)(bs:List Int)(ss:List (Option Int)):aS n (oM n T) bs ss=aS n T bs ss:=BS bs ss (xE a O).2
def iI:Fn:=bu 1 1 (aW (bG (lOf (fAt (aa 0) (fC (.int 1))))))
abbrev kj:SF:=(fV (Dn (aa 1) (bM 2 [2] (eI (am eu (ab (aa 0) (ab (aa 2) ao)))) (gT [0,1]) [(tE (af oLt (aa 2) (aa 0)))] (i9 (ab (aa 2) (ab (aa 0) (ab (aa 1) ao)))))))
def eU:Fn:=bu 1 3 (ax (aH (gN 1) (bG ao))
  (ax (eO (bH (am bQ (ab (aa 0) ao))) (gN 2) kj)
  (aW (aa 1))))
theorem xF (W:w.Ok n)(h:Hd):bQ [w.enc] h=.ok (.int n) h:=by
 simp[bQ,bu,runB,Web.enc,W.t]
theorem BT (W:w.Ok n)(h:Hd):iI [w.enc] h=.ok (.ref h.length) (h++[.lst (w.bars.map .int)]):=by
 have z:w.bars.length<=1000000:=by have:=W.b;have:=W.sz;omega
 simp[iI,bu,runB,Web.enc,SZ,z]
theorem zN (W:w.Ok n)(h:Hd):gr [w.enc] h=.ok (.ref h.length) (h++[.lst (w.stays.map cR)]):=by
 have z:w.stays.length<=1000000:=by have:=W.s;have:=W.sz;omega
 simp[gr,bu,runB,Web.enc,SZ,z]
theorem BU (i:Nat)(r:List (Nat × Int))(h:Hd):cI none (r.map nn) (gT [0,1]) [(tE (af oLt (aa 2) (aa 0)))] (i9 (ab (aa 2) (ab (aa 0) (ab (aa 1) ao)))) (r.map nn) [none,none,some (.int i)] h=.ok ((gl i r).map bY) h:=by
 have:=bA (g:=none) (all:=r.map nn) (tg:=gT [0,1]) (cs:=[(tE (af oLt (aa 2) (aa 0)))]) (e:=i9 (ab (aa 2) (ab (aa 0) (ab (aa 1) ao)))) (h:=h) (I:=λσ=>∃a b,σ = [a,b,some (.int i)])
  (λd=>match d with | .tup [.int j,_]=>decide ((i:Int) < j)|_=>false) (λd=>match d with | .tup [j,x]=>.tup [.int i,j,x] | _=>.non) trivial (xs:=r.map nn) (σ:=[none,none,some (.int i)]) (by
  rintro x k σ ⟨a,b,rfl⟩;obtain⟨p,_,rfl⟩:=List.mem_map.mp k;exact⟨_,rfl,⟨_,_,rfl⟩,by by_cases c:i < p.1<;>simp[nn,c],λ_=>rfl⟩) ⟨_,_,rfl⟩
 rw[this];congr 1;clear this
 induction r with
 | nil=>rfl
 | cons p r ih =>
  unfold gl at ih ⊢
  by_cases c:i < p.1
  ·have f:(i:Int) < (p.1:Int):=by omega
   simp only[x3,X7,nn,x6 c,x6 f,YP,x3]at ih ⊢;rw[ih];rfl
  ·have f : ¬(i:Int) < (p.1:Int):=by omega
   simp only[x3,X7,nn,wL c,wL f,YB,Y7]at ih ⊢;rw[ih]
theorem xG (W:w.Ok n)(n30:n<=30)(l:∀i,(w.ties.getD i []).length<=30)(h:Hd):eU [w.enc] h=.ok (.ref h.length) (h++[.lst ((fQ w.ties n).map bY)]):=by
 have A:aH (gN 1) (bG ao) [some w.enc,none,none] h=.nx [some w.enc,some (.ref h.length),none] (h++[.lst []]):=by simp[SZ]
 obtain⟨σ',h',q,y,C,o⟩:=bZ (P:=λi σ h'=>∃y,σ = [some w.enc,some (.ref h.length),y]/\h'=h++[.lst ((fQ w.ties i).map bY)]) (g:=none) (k:=0)
  (all:=(List.range n).map λk:Nat=>D.int k) (λ_ _ _ _=>trivial) (xs:=(List.range n).map λk:Nat=>D.int k) (tg:=gN 2) (σ:=[some w.enc,some (.ref h.length),none]) (h:=h++[.lst []]) (b:=kj) (by
  rintro i d σ K F ⟨y,rfl,rfl⟩;rw[Z1] at *;obtain⟨hi,rfl⟩:=fO F;have c:i < w.ties.length:=by rw[W.t];exact hi
  obtain⟨r,j⟩ : ∃r,r=w.ties.getD i []:=⟨_,rfl⟩;have a:w.ties[i]? = some r:=by rw[j];simp[List.getD,c]
  have J:r.length<=30:=by rw[j];exact l i
  obtain⟨L,e⟩ : ∃L,L=(fQ w.ties i).map bY:=⟨_,rfl⟩;have N:L.length<=30 * 30:=by
   have:=pN l i;rw[e,ZA];omega
  have x:((gl i r).map bY).length<=30:=by
   have G:(gl i r).length<=r.length:=by unfold gl;rw[ZA];exact List.length_filter_le _ _
   rw[ZA];omega
  have p:(fQ w.ties (i + 1)).map bY=L++(gl i r).map bY:=by rw[fQ,ZR,<-e,<-j]
  rw[<-e,p];obtain⟨H,f⟩ : ∃H:Hd,H=h++[.lst L]:=⟨_,rfl⟩;have s:H[h.length]? = some (.lst L):=by rw[f];simp
  have B:H.set h.length (.lst (L++(gl i r).map bY))=h++[.lst (L++(gl i r).map bY)]:=by rw[f];simp
  have t:=qR w H a;have k:bM 2 [2] (eI (am eu (ab (aa 0) (ab (aa 2) ao)))) (gT [0,1]) [(tE (af oLt (aa 2) (aa 0)))] (i9 (ab (aa 2) (ab (aa 0) (ab (aa 1) ao)))) [some w.enc,some (.ref h.length),some (.int i)] H=.ok ((gl i r).map bY) H:=by
   have q:eI (am eu (ab (aa 0) (ab (aa 2) ao))) [some w.enc,some (.ref h.length),some (.int i)] H=.ok (r.map nn,none) H:=by simp[t,sZ]
   generalize eI (am eu (ab (aa 0) (ab (aa 2) ao)))=I at q ⊢;simp only[bM,q,ay];exact BU i r H
  refine⟨_,rfl,[some w.enc,some (.ref h.length),some (.int i)],h++[.lst (L++(gl i r).map bY)],?_,_,rfl,rfl⟩;show fV (Dn (aa 1) _) [some w.enc,some (.ref h.length),some (.int i)] (h++[.lst L])=_;rw[<-f,<-B];generalize bM 2 [2] (eI (am eu (ab (aa 0) (ab (aa 2) ao)))) (gT [0,1]) [(tE (af oLt (aa 2) (aa 0)))] (i9 (ab (aa 2) (ab (aa 0) (ab (aa 1) ao))))=E at k ⊢;generalize (gl i r).map bY=M at k x ⊢;have z:L.length + M.length<=1000000:=by omega
  simp[s,k,SZ,z]) ⟨none,rfl,by simp[fQ]⟩
 have v : -1000000<=(n:Int):=by omega
 have u:(n:Int)<=1000000:=by omega
 have m:eO (bH (am bQ (ab (aa 0) ao))) (gN 2) kj [some w.enc,some (.ref h.length),none] (h++[.lst []])=.nx σ' h':=by
  have q1:bH (am bQ (ab (aa 0) ao)) [some w.enc,some (.ref h.length),none] (h++[.lst []])=.ok ((List.range n).map λk:Nat=>D.int k,none) (h++[.lst []]):=by simp[xF W,v,u]
  generalize bH (am bQ (ab (aa 0) ao))=I at q1 ⊢;simp only[eO,q1,ay];exact q
 have st:([w.enc].map some++List.replicate (3 - [w.enc].length) none:Sd)=[some w.enc,none,none]:=rfl;unfold eU bu runB;rw[z4 (show [w.enc].length=1 from rfl),st,bS A,bS m,C,o];simp
theorem uG (a:n<=30)(O:TOk n n 0 T){bs:List Int}{ss:List (Option Int)}(lb:bs.length=n)(ls:ss.length=n)(h:Hd):eU [(aS n T bs ss).enc] h=.ok (.ref h.length) (h++[.lst ((oM n T).map bY)]):=by
 refine xG (jL a O lb ls) a (λi => ?_) h
 by_cases hi:i < n
 ·rw[pO hi,ww]
  have:=DN O.lt O.un i;omega
 ·simp[aS,List.getD,hi]
abbrev fJ:ni:=[([115,104,111,119],[]),([116,117,114,110],[[115,116,97,110,100]]),([101,110,100,101,100],[[115,116,97,110,100]]),([119,101,105,103,104,116],[[115,116,97,110,100]]),([108,101,97,115,116],[]),([103,114,101,97,116,101,115,116],[]),([114,101,115,116,115],[]),([112,97,105,114,115],[]),([106,111,105,110,101,100],[[115,116,97,110,100],[115,116,97,110,100]]),([109,101,116],[[115,116,97,110,100],[115,116,97,110,100]]),([102,101,119,101,115,116],[]),([116,105,101],[[112,101,114,115,111,110],[112,101,114,115,111,110],[110,117,109,98,101,114]]),([98,97,114],[[112,101,114,115,111,110],[110,117,109,98,101,114]]),([115,116,97,121],[[112,101,114,115,111,110],[115,116,97,121]])]
def dy:Fn:=bu 2 2 (aW (am bo (ab (aa 1) (ab (fC (.int 0)) (ab (af fU (am bQ (ab (aa 0) ao)) (fC (.int 1))) ao)))))
def dQ:Fn:=bu 2 2 (sIf (cX (tE (am dy (ab (aa 0) (ab (aa 1) ao))))) c7 bc)
def iU:Fn:=bu 3 4 (ax (fV (am dQ (ab (aa 0) (ab (aa 1) ao))))
  (ax (aH (gN 3) (am iI (ab (aa 0) ao)))
  (ax (mJ (aa 3) (aa 1) (aa 2))
  (aW (am gR (ab (am bQ (ab (aa 0) ao)) (ab (am eU (ab (aa 0) ao)) (ab (aa 3) (ab (am gr (ab (aa 0) ao)) ao)))))))))
def dz:Fn:=bu 1 2 (ax (aH (gN 1) (fIf (tE (j8 (aa 0) (fC (.str [45])))) (rS (aa 0) (pAt (fC (.int 1))) pNo) (aa 0)))
  (ax (sIf (cX (tE (am bo (ab (Dv (aa 1)) (ab (fC (.int 1)) (ab (fC (.int 60)) ao)))))) (aW (fC (.bl false))) bc)
  (ax (sIf (cX (tE (sE (bM 1 [] (sS (aa 1)) (gN 0) [] (af EG (aa 0) (fC (.str [48,49,50,51,52,53,54,55,56,57]))))))) (aW (fC (.bl false))) bc)
  (aW (fT (tOr (tE (af oNe (JG (aa 1) (fC (.int 0))) (fC (.str [48])))) (tE (af oEq (aa 0) (fC (.str [48]))))))))))
def bE:Fn:=bu 2 3 (ax (aH (gN 2) (bG (j9 32 (aa 1))))
  (ax (sIf (tOr (tE (af oNe (fAt (aa 2) (fC (.int 0))) (aa 0))) (cX (tE (sE (bM 1 [] (eI (gn (aa 2) (pAt (fC (.int 1))) pNo)) (gN 0) [] (am dz (ab (aa 0) ao))))))) (aW (bG ao)) bc)
  (aW (bG (bM 1 [] (eI (gn (aa 2) (pAt (fC (.int 1))) pNo)) (gN 0) [] (gM (aa 0)))))))
def gS:Fn:=bu 1 2 (ax (aH (gN 1) (am bE (ab (fC (.str [112,101,111,112,108,101])) (ab (fAt (aa 0) (fC (.int 0))) ao))))
  (ax (sIf (tOr (tE (af oNe (cC (lOf (aa 1))) (fC (.int 1)))) (cX (tE (am bo (ab (fAt (aa 1) (fC (.int 0))) (ab (fC (.int 1)) (ab (fC (.int 30)) ao))))))) c7 bc)
  (aW (fAt (aa 1) (fC (.int 0))))))
def eC:Fn:=bu 2 2 (aW (fT (jV (tE (af oLt (fAt (aa 1) (fC (.int 0))) (fAt (aa 1) (fC (.int 1))))) (tOr (tE (af oEq (aa 0) (bG ao))) (tE (af JB (j7 (fAt (aa 0) (fC (.int (-1)))) pNo (pAt (fC (.int 2)))) (j7 (aa 1) pNo (pAt (fC (.int 2))))))))))
abbrev eX:SF:=(ax (sIf (cX (tE (j8 (fAt (aa 0) (aa 3)) (fC (.str [116,105,101,32]))))) Jj bc)
  (ax (aH (gN 4) (gg (lOf (am bE (ab (fC (.str [116,105,101])) (ab (fAt (aa 0) (aa 3)) ao))))))
  (ax (sIf (tOr (cX (tE (am iQ (ab (aa 1) (ab (aa 4) ao))))) (cX (tE (am eC (ab (aa 2) (ab (aa 4) ao)))))) c7 bc)
  (fV (jX (aa 2) (aa 4))))))
def gU:Fn:=bu 2 5 (ax (aH (gN 2) (bG ao))
  (ax (eO (eG (fC (.int 1)) (cC (lOf (aa 0)))) (gN 3) eX)
  (aW (aa 2))))
def fR:Fn:=bu 2 2 (ax (sIf (tE (af oEq (aa 1) (cC (lOf (aa 0))))) c7 bc)
  (aW (fAt (aa 0) (aa 1))))
abbrev oN:SF:=(ax (aH (gN 5) (am bE (ab (fC (.str [98,97,114])) (ab (am fR (ab (aa 0) (ab (aa 4) ao))) ao))))
  (ax (sIf (tE (af oNe (cC (lOf (aa 5))) (fC (.int 1)))) c7 bc)
  (fV (zy (aa 3) (aa 5)))))
def gW:Fn:=bu 3 6 (ax (aH (gN 3) (bG ao))
  (ax (eO (eG (aa 1) (af bP (aa 1) (aa 2))) (gN 4) oN)
  (aW (aa 3))))
abbrev mR:SF:=(ax (aH (gN 5) (am fR (ab (aa 0) (ab (aa 4) ao))))
  (ax (sIf (tE (rR [([102,114,101,101],none),([115,116,97,121,115,32,48],some 0),([115,116,97,121,115,32,49],some 1)] (aa 5))) c7 bc)
  (fV (jX (aa 3) (xl [([102,114,101,101],none),([115,116,97,121,115,32,48],some 0),([115,116,97,121,115,32,49],some 1)] (aa 5))))))
def f6:Fn:=bu 3 6 (ax (aH (gN 3) (bG ao))
  (ax (eO (eG (aa 1) (af bP (aa 1) (aa 2))) (gN 4) mR)
  (aW (aa 3))))
def km:Fn:=bu 1 7 (ax (sIf (cX (tE (gK .str (aa 0)))) c7 bc)
  (ax (aH (gN 1) (bG (j9 10 (aa 0))))
  (ax (aH (gN 2) (am gS (ab (aa 1) ao)))
  (ax (aH (gN 3) (am gU (ab (aa 1) (ab (aa 2) ao))))
  (ax (aH (gN 4) (am gW (ab (aa 1) (ab (af bP (fC (.int 1)) (cC (lOf (aa 3)))) (ab (aa 2) ao)))))
  (ax (aH (gN 5) (am f6 (ab (aa 1) (ab (af bP (af bP (fC (.int 1)) (cC (lOf (aa 3)))) (aa 2)) (ab (aa 2) ao)))))
  (ax (aH (gN 6) (af bP (af bP (fC (.int 1)) (cC (lOf (aa 3)))) (af cB (fC (.int 2)) (aa 2))))
  (ax (sIf (tE (af oGt (cC (lOf (aa 1))) (aa 6))) c7 bc)
  (aW (am gR (ab (aa 2) (ab (aa 3) (ab (aa 4) (ab (aa 5) ao))))))))))))))
def cU:Fn:=bu 1 1 (aW (zv (bM 1 [] (eI (aa 0)) (gN 0) [] (fw (aa 0)))))
def iz:Fn:=bu 2 3 (ax (sIf (tOr (cX (tE (gK .str (aa 1)))) (cX (tE (sE (bM 1 [] (sS (aa 1)) (gN 0) [] (af oIn (aa 0) (i9 (ab (fC (.str [48])) (ab (fC (.str [49])) ao))))))))) c7 bc)
  (ax (aH (gN 2) (gg (bM 1 [] (sS (aa 1)) (gN 0) [] (gM (aa 0)))))
  (ax (fV (am cT (ab (aa 0) (ab (aa 2) ao))))
  (aW (aa 2)))))
def dn:Fn:=bu 2 2 (zq (aa 0) (am km (ab (aa 1) ao)))
def iV:Fn:=bu 1 1 (ax (sIf (cX (tE (gK .str (aa 0)))) c7 bc)
  (aW (bG (j9 32 (aa 0)))))
def eh:Fn:=bu 3 3 (ax (sIf (tE (af oEq (aa 1) (fC (.str [115,116,97,110,100])))) (aW (am iz (ab (aa 0) (ab (aa 2) ao)))) bc)
  (aW (fIf (tE (af oEq (aa 2) (fC (.str [102,114,101,101])))) (fC .non) (gM (aa 2)))))
def dA:Fn:=bu 2 2 (ax (sIf (tOr (tE (af oEq (aa 0) (fC (.str [115,116,97,110,100])))) (jV (tE (af oEq (aa 0) (fC (.str [115,116,97,121])))) (tE (af oEq (aa 1) (fC (.str [102,114,101,101])))))) (aW (fC (.bl true))) bc)
  (aW (am dz (ab (aa 1) ao))))
abbrev eZ:SF:=(sIf (jV (tE (af oEq (aa 3) (fC (.str [112,101,114,115,111,110])))) (cX (tE (am dy (ab (aa 0) (ab (gM (aa 4)) ao)))))) c7 bc)
abbrev f7:SF:=(sIf (cX (tE (am dA (ab (aa 3) (ab (aa 4) ao))))) c7 bc)
def dY:Fn:=bu 3 5 (ax (vQ (aa 1) (aa 2) (gT [3,4]) f7)
  (ax (vQ (aa 1) (aa 2) (gT [3,4]) eZ)
  (aW (bG (sR 2 [0] (aa 1) (aa 2) (gT [0,1]) [] (am eh (ab (aa 2) (ab (aa 0) (ab (aa 1) ao)))))))))
def fE:Fn:=bu 1 5 (ax (aH (gN 1) (fAt (aa 0) (fC (.int 0))))
  (ax (aH (gN 2) (fAt (aa 0) (fC (.int 1))))
  (ax (aH (gN 3) (am cU (ab (fAt (fAt (aa 0) (fC (.int 2))) (fC (.int (-2)))) ao)))
  (ax (aH (gN 4) (am cU (ab (fAt (fAt (aa 0) (fC (.int 2))) (fC (.int (-1)))) ao)))
  (ax (sIf (tE (af oEq (aa 2) (fC (.str [114,101,115,116])))) (aW (fFs (fj (fC (.str [114,101,115,116,32])) (fj (fw (aa 1)) (fj (fC (.str [32])) (fj (qN (aa 3)) Bw)))))) bc)
  (aW (fFs (fj (fC (.str [112,97,105,114,32])) (fj (fw (aa 1)) (fj (fC (.str [32])) (fj (qN (aa 3)) (fj (fC (.str [32])) (fj (qN (aa 4)) Bw)))))))))))))
def cP:Fn:=bu 3 3 (ax (sIf (tE (af oEq (aa 1) (fC (.str [116,117,114,110])))) (aW (am cU (ab (am pI (ab (aa 0) (ab (fAt (aa 2) (fC (.int 0))) ao))) ao))) bc)
  (ax (sIf (tE (af oEq (aa 1) (fC (.str [119,101,105,103,104,116])))) c7 bc)
  (ax (sIf (tE (af oEq (aa 1) (fC (.str [106,111,105,110,101,100])))) c7 bc)
  (ax (sIf (tE (af oEq (aa 1) (fC (.str [109,101,116])))) c7 bc)
  (aW (am fE (ab (am oF (ab (aa 0) (ab (fAt (aa 2) (fC (.int 0))) ao))) ao)))))))
def oO:Fn:=bu 3 3 (ax (sIf (tE (af oEq (aa 1) (fC (.str [115,119,97,121,115])))) c7 bc)
  (ax (sIf (tE (Dr (vR fJ (aa 1)))) c7 bc)
  (aW (am cP (ab (aa 0) (ab (aa 1) (ab (aa 2) ao)))))))
def jO:Fn:=bu 1 1 (ax (sIf (tE (af oEq (fAt (aa 0) (fC (.int 0))) (fC (.str [115,119,97,121,115])))) c7 bc)
  (ax (sIf (tE (Bx fJ (fAt (aa 0) (fC (.int 0))))) c7 bc)
  (ax (sIf (tE (af oNe (af fU (cC (lOf (aa 0))) (fC (.int 1))) (G6 (vR fJ (fAt (aa 0) (fC (.int 0))))))) c7 bc)
  (aW (vR fJ (fAt (aa 0) (fC (.int 0))))))))
def gF:Fn:=bu 3 3 (ax (sIf (tE (af oEq (aa 1) (fC (.str [116,105,101])))) c7 bc)
  (ax (sIf (tE (af oEq (aa 1) (fC (.str [98,97,114])))) (aW (am iU (ab (aa 0) (ab (fAt (aa 2) (fC (.int 0))) (ab (fAt (aa 2) (fC (.int 1))) ao))))) bc)
  c7))
def cu:Fn:=bu 2 4 (ax (aH (gN 2) (am iV (ab (aa 1) ao)))
  (ax (aH (gN 3) (am dY (ab (vP (aa 0)) (ab (am jO (ab (aa 2) ao)) (ab (gn (aa 2) (pAt (fC (.int 1))) pNo) ao)))))
  (ax (sIf (tE (af oIn (fAt (aa 2) (fC (.int 0))) (i9 (ab (fC (.str [116,105,101])) (ab (fC (.str [98,97,114])) (ab (fC (.str [115,116,97,121])) ao)))))) (ax (zq (aa 0) (am gF (ab (vP (aa 0)) (ab (fAt (aa 2) (fC (.int 0))) (ab (aa 3) ao)))))
  (aW (fC (.str [111,107])))) bc)
  (aW (am oO (ab (vP (aa 0)) (ab (fAt (aa 2) (fC (.int 0))) (ab (aa 3) ao))))))))
abbrev pP:SF:=(fV (jX (aa 2) (fIx (ab (fC (.str [102,114,101,101])) (ab (af dj (fC (.str [115,116,97,121,115,32])) (zr (aa 6))) ao)) (wY (af ja (aa 6) (fC .non))))))
abbrev wx:SF:=(ax (aH (gN 5) (fAt (fAt (fAt (aa 0) (fC (.int 0))) (aa 3)) (aa 4)))
  (sIf (tE (af oGt (aa 5) (fC (.int 0)))) (fV (jX (aa 2) (pC [32] (ab (fC (.str [116,105,101])) (ab (fw (aa 3)) (ab (fw (aa 4)) (ab (fw (aa 5)) ao))))))) bc))
abbrev mC:SF:=(eO (eG (af bP (aa 3) (fC (.int 1))) (aa 1)) (gN 4) wx)
def lK:Fn:=bu 1 7 (ax (aH (gN 1) (cC (lOf (fAt (aa 0) (fC (.int 1))))))
  (ax (aH (gN 2) (bG (ab (af dj (fC (.str [112,101,111,112,108,101,32])) (fw (aa 1))) ao)))
  (ax (eO (bH (aa 1)) (gN 3) mC)
  (ax (aH (gN 2) (bG (vN (aa 2) (bG (bM 1 [] (eI (fAt (aa 0) (fC (.int 1)))) (gN 0) [] (af dj (fC (.str [98,97,114,32])) (fw (aa 0))))))))
  (ax (eO (eI (fAt (aa 0) (fC (.int 2)))) (gN 6) pP)
  (aW (pC [10] (lOf (aa 2)))))))))
def dR:Fn:=bu 1 1 (aW (zv (bM 1 [] (eI (aa 0)) (gN 0) [] (fw (aa 0)))))
def c9:Fn:=bu 1 1 (aW (gg (bM 1 [] (sS (aa 0)) (gN 0) [] (gM (aa 0)))))
abbrev zO:SF:=(fV (jX (aa 3) (am c9 (ab (j3 cu (aa 0) (ab (af dj (fC (.str [116,117,114,110,32])) (am dR (ab (fAt (aa 3) (fC (.int (-1)))) ao))) ao)) ao))))
def kn:Fn:=bu 3 5 (ax (aH (gN 3) (bG (ab (aa 1) ao)))
  (ax (eO (bH (aa 2)) (gN 4) zO)
  (aW (aa 3))))
abbrev zP:SF:=(ax (aH (gN 3) (af bP (aa 3) (af cB (af bP (fAt (aa 1) (aa 4)) (fAt (aa 2) (aa 4))) (af bP (af cB (fC (.int 2)) (fAt (fAt (aa 0) (fC (.int 1))) (aa 4))) (fC (.int 1))))))
  (sIf (tE (af oEq (fAt (aa 2) (aa 4)) (fC (.int 1)))) (ax (aH (gN 5) (uD (bM 1 [1,4,0] (bH (cC (lOf (aa 1)))) (gN 0) [] (af cB (fAt (fAt (fAt (aa 3) (fC (.int 0))) (aa 2)) (aa 0)) (fAt (aa 1) (aa 0))))))
  (aH (gN 3) (af fU (af fU (aa 3) (af cB (fC (.int 4)) (aa 5))) (af cB (fC (.int 2)) (fAt (aa 1) (aa 4)))))) bc))
def ko:Fn:=bu 3 6 (ax (aH (gN 3) (fC (.int 0)))
  (ax (eO (bH (cC (lOf (aa 1)))) (gN 4) zP)
  (aW (aa 3))))
abbrev tM:SF:=(ax (aH (gN 3) (cC (bM 1 [1,2] (bH (cC (lOf (fAt (aa 1) (aa 2))))) (gN 0) [(tE (af oNe (fAt (fAt (aa 1) (aa 2)) (aa 0)) (fAt (fAt (aa 1) (af fU (aa 2) (fC (.int 2)))) (aa 0))))] (aa 0))))
  (sIf (tE (af oGt (am ko (ab (aa 0) (ab (fAt (aa 1) (af fU (aa 2) (fC (.int 1)))) (ab (fAt (aa 1) (aa 2)) ao)))) (af fU (am ko (ab (aa 0) (ab (fAt (aa 1) (af fU (aa 2) (fC (.int 2)))) (ab (fAt (aa 1) (af fU (aa 2) (fC (.int 1)))) ao)))) (aa 3)))) (aW (fC (.bl false))) bc))
def mD:Fn:=bu 2 4 (ax (eO (eG (fC (.int 2)) (cC (lOf (aa 1)))) (gN 2) tM)
  (aW (fC (.bl true))))
abbrev qT:SF:=(sIf (tE (af oNe (af oEq (fAt (aa 0) (aa 3)) (fAt (aa 0) (af bP (aa 3) (fC (.int 2))))) (af oEq (aa 3) (aa 2)))) (aW (fC (.bl false))) bc)
def kq:Fn:=bu 2 4 (ax (aH (gN 2) (gM (fAt (aa 1) (fC (.int 1)))))
  (ax (eO (bH (af bP (aa 2) (fC (.int 1)))) (gN 3) qT)
  (ax (sIf (tE (af oEq (fAt (aa 1) (fC (.int 0))) (fC (.str [114,101,115,116])))) (aW (fT (jV (tE (af oEq (cC (lOf (aa 1))) (fC (.int 3)))) (jV (tE (af oEq (fAt (aa 0) (aa 2)) (fAt (aa 0) (af bP (aa 2) (fC (.int 1)))))) (tE (af oEq (am c9 (ab (fAt (aa 1) (fC (.int 2))) ao)) (fAt (aa 0) (aa 2)))))))) bc)
  (ax (sIf (tOr (tE (af oNe (fAt (aa 1) (fC (.int 0))) (fC (.str [112,97,105,114])))) (tOr (tE (af oNe (cC (lOf (aa 1))) (fC (.int 4)))) (tE (af oEq (fAt (aa 0) (aa 2)) (fAt (aa 0) (af bP (aa 2) (fC (.int 1)))))))) (aW (fC (.bl false))) bc)
  (aW (af oEq (bG (ab (am c9 (ab (fAt (aa 1) (fC (.int 2))) ao)) (ab (am c9 (ab (fAt (aa 1) (fC (.int 3))) ao)) ao))) (gn (aa 0) (pAt (aa 2)) (pAt (af bP (aa 2) (fC (.int 2)))))))))))
def dE:Fn:=bu 2 2 (aW (af oEq (bG (bM 1 [0,1] (bH (cC (lOf (aa 0)))) (gN 0) [(cX (tE (am gu (ab (fAt (aa 1) (aa 0)) (ab (fAt (aa 2) (aa 0)) ao)))))] (aa 0))) (bG ao)))
abbrev HA:SF:=(aH (gN 1) (am jM (ab (aa 0) (ab (fC (.int 8)) ao))))
abbrev HB:SF:=(aH (gN 2) (cC (lOf (fAt (aa 1) (fC (.int 1))))))
abbrev HC:SF:=(aH (gN 3) (JC dn (ab (am lK (ab (aa 1) ao)) ao)))
abbrev HD:SF:=(aH (gN 4) (am dw (ab (am bq (ab (aa 0) (ab (fC (.int 4)) ao))) (ab (am bq (ab (aa 0) (ab (fC (.int 0)) ao))) (ab (aa 2) (ab (fC (.int 3)) ao))))))
abbrev HE:SF:=(aH (gN 5) (am eT (ab (aa 1) (ab (bG (bM 1 [] (eI (aa 4)) (gN 0) [] (wY (af oEq (aa 0) (fC (.int 2)))))) ao))))
abbrev HF:SF:=(aH (gN 6) (am eT (ab (aa 1) (ab (bG (bM 1 [] (eI (aa 4)) (gN 0) [] (wY (af oGt (aa 0) (fC (.int 0)))))) ao))))
abbrev HG:SF:=(aH (gN 7) (bG (j9 32 (j3 cu (aa 3) (ab (af dj (fC (.str [101,110,100,101,100,32])) (am dR (ab (aa 5) ao))) ao)))))
abbrev HH:SF:=(aH (gN 8) (gM (fAt (aa 7) (fC (.int 1)))))
abbrev HI:SF:=(sIf (tOr (tE (af oLt (aa 8) (fC (.int 0)))) (tE (af oGt (aa 8) (fC (.int 300))))) (aW (fC (.bl false))) bc)
abbrev HJ:SF:=(aH (gN 9) (am kn (ab (aa 3) (ab (aa 5) (ab (af bP (aa 8) (fC (.int 3))) ao)))))
abbrev DO:SF:=(sIf (tOr (cX (tE (am kq (ab (aa 9) (ab (aa 7) ao))))) (cX (tE (am mD (ab (aa 1) (ab (aa 9) ao)))))) (aW (fC (.bl false))) bc)
abbrev DP:SF:=(sIf (cX (tE (am dE (ab (aa 9) (ab (am kn (ab (aa 3) (ab (aa 6) (ab (af bP (aa 8) (fC (.int 3))) ao)))) ao))))) (aW (fC (.bl false))) bc)
abbrev BV:SF:=(ax (aH (gN 11) (af fU (af fU (fAt (fAt (aa 1) (fC (.int 1))) (aa 10)) (fC (.int 1))) (af dh (am bq (ab (aa 0) (ab (af bP (fC (.int 5)) (aa 10)) ao))) (fC (.int 500)))))
  (ax (sIf (tE (af oNe (j3 cu (aa 3) (ab (af dj (af dj (af dj (fC (.str [98,97,114,32])) (fw (aa 10))) (fC (.str [32]))) (fw (aa 11))) ao)) (fC (.str [111,107])))) (aW (fC (.bl false))) bc)
  (ax (aH (gN 12) (am kn (ab (aa 3) (ab (aa 5) (ab (af bP (aa 8) (fC (.int 3))) ao)))))
  (ax (sIf (cX (tE (am dE (ab (aa 9) (ab (aa 12) ao))))) (aW (fC (.bl false))) bc)
  (aH (gN 9) (aa 12))))))
abbrev J4:SF:=(eO (bH (Ey (fC (.int 4)) (aa 2))) (gN 10) BV)
abbrev J5:SF:=(aW (fC (.bl true)))
def zQ:Fn:=bu 1 13 (ax HA (ax HB (ax HC (ax HD (ax HE (ax HF (ax HG (ax HH (ax HI (ax HJ (ax DO (ax DP (ax J4 J5)))))))))))))
end Fm
set_option maxHeartbeats 4000000
namespace Fm
open PySem PySem.Spec L2
section
abbrev cA (i : Nat) : Stmt := PySem.Challenge.pw_followmost_k55_whole_histories_at_a_desk.main.body.getD i (.Pass ⟨0, 0, 0, 0⟩)
abbrev nF:Stmt:=cA 10
abbrev kr:Stmt:=cA 11
abbrev ku:Stmt:=cA 12
abbrev tN:Stmt:=cA 27
abbrev kx:Stmt:=cA 26
abbrev lM:Stmt:=cA 28
abbrev ky:Stmt:=cA 29
abbrev tO:Stmt:=cA 16
abbrev pQ:Stmt:=cA 17
abbrev pR:Stmt:=cA 18
abbrev tP:Stmt:=cA 19
abbrev pS:Stmt:=cA 20
abbrev pT:Stmt:=cA 21
abbrev nG:Stmt:=cA 22
abbrev BW:Stmt:=cA 31
abbrev jv:Stmt:=cA 33
abbrev lN:Stmt:=cA 24
abbrev lO:Stmt:=cA 25
abbrev pU:Stmt:=cA 34
abbrev pV:Stmt:=cA 35
abbrev pW:Stmt:=cA 36
abbrev BX:Stmt:=cA 32
abbrev iW:Stmt:=cA 41
abbrev nH:Stmt:=cA 39
abbrev xH:Stmt:=cA 43
abbrev lP:Stmt:=cA 80
abbrev gv:Stmt:=cA 87
abbrev lQ:Stmt:=cA 81
abbrev jw:Stmt:=cA 83
abbrev lS:Stmt:=cA 82
abbrev pX:Stmt:=cA 86
abbrev lU:Stmt:=cA 84
abbrev kz:Stmt:=cA 85
abbrev nI:Stmt:=cA 77
abbrev kA:Stmt:=cA 78
abbrev kB:Stmt:=cA 79
abbrev dq:Stmt:=inS (cA 90) 0
abbrev nJ:Stmt:=cA 91
abbrev nK:Stmt:=cA 95
abbrev kC:Stmt:=cA 94
abbrev lV:Stmt:=cA 93
abbrev hV:Stmt:=cA 101
abbrev fK:Stmt:=cA 100
abbrev tQ:Stmt:=cA 97
abbrev pY:Stmt:=cA 92
abbrev jx:Stmt:=cA 96
abbrev gw:Stmt:=inS (cA 90) 1
abbrev lZ:Stmt:=cA 103
abbrev nM:Stmt:=cA 104
abbrev kD:Stmt:=cA 105
abbrev iX:Stmt:=cA 108
abbrev kE:Stmt:=cA 109
abbrev l8:Stmt:=cA 110
abbrev kF:Stmt:=cA 111
abbrev l9:Stmt:=cA 112
abbrev nN:Stmt:=cA 113
abbrev nO:Stmt:=cA 114
abbrev kG:Stmt:=cA 115
abbrev jy:Stmt:=cA 116
abbrev gx:Stmt:=cA 117
abbrev tR:Stmt:=cA 118
variable {P:T5} {w:T6} {K:ZX} {mg:Str->Option T0} {base:Heap} {f:Addr} {fd:FuncData}
theorem zR:aA ["thing"] ["thing"] (av nF):=fsc
theorem zS (F:Fun K "is_whole" "is_whole" nF f fd) (a:mg "isinstance" = none) (c:mg "bool" = none) (b:mg "int" = none):bC P w K mg base CX0 1 f fd ["thing"] (spF K eg 1):=bw F zR λ_ _ _ _ _ _ d=>have e:=cy d;(ag (aB (MB.me (ph (ii (gD (t:=.int) rfl a rfl b (by decide +kernel) (mv 0))) (li (L4 (ii (gD (t:=.bool) rfl a rfl c (by decide +kernel) (mv 0)))))))))
theorem uH:aA ["thing", "least", "most"] ["thing", "least", "most"] (av kr):=fsc
theorem uI (F:Fun K "is_between" "is_between" kr f fd) (b:Def P w K mg base "is_whole" 1 1 eg):bC P w K mg base CX0 2 f fd ["thing", "least", "most"] (spF K bo 3):=bw F uH λ_ _ _ _ _ _ a=>have c:=cy a;(ag (aB (MB.me (ph (ii (ak b a (ad (mv 0) au))) (li (ii (GB KO KO pd pd (mv 1) (mv 0) (mv 2))))))))
theorem uJ:aA ["thing"] ["thing"] (av ku):=fsc
theorem uK (F:Fun K "is_opinion" "is_opinion" ku f fd) (b:Def P w K mg base "is_between" 2 3 bo):bC P w K mg base CX0 3 f fd ["thing"] (spF K cS 1):=bw F uJ λ_ _ _ _ _ _ a=>have c:=cy a;(ag (aB (ak b a (ad (mv 0) (ad aj (ad aj au))))))
theorem pZ:aA ["many", "thing", "one", "other"] ["many", "thing"] (av tN):=fsc
theorem E3 (F:Fun K "is_tie" "is_tie" tN f fd) (j:mg "len" = none) (e:mg "isinstance" = none) (d:mg "tuple" = none) {g:Tok} (h:mg "MOST_WEIGHT" = some (.int 400 g)) (b:Def P w K mg base "is_between" 2 3 bo):bC P w K mg base CX0 3 f fd ["many", "thing"] (spF K iQ 2):=bw F pZ λ_ _ _ _ _ _ a=>have c:=cy a;(ae (bj (MW.mt (jb (cf (bW (gD (t:=.tuple) rfl e rfl d (by decide +kernel) (mv 1)))) (fu (aY (eR c) gL (cE rfl j (cQ (mv 1))) aj (aK _)) (.inr rfl)))) (ag (aB fW)) aD)
  (ae (aJ (i:=2) pZ.nd rfl lc (aC (mv 1) aj (λ_ _=>rfl)))
  (ae (aJ (i:=3) pZ.nd rfl lc (aC (mv 1) aj (λ_ _=>rfl)))
  (ae (bj (MW.mt (jb (cf (bW (ak b a (ad (mv 2) (ad aj (ad (aU eK lh (mv 0) aj) au)))))) (fu (cf (bW (ak b a (ad (mv 3) (ad aj (ad (aU eK lh (mv 0) aj) au)))))) (.inr rfl)))) (ag (aB fW)) aD)
  (ag (aB (MB.me (ph (ii (dL (eR c) gL (mv 2) (mv 3) (aK _))) (li (ii (ak b a (ad (aC (mv 1) aj (λ_ _=>rfl)) (ad aj (ad (n9 rfl h) au))))))))))))))
theorem fz:aA ["many", "ties", "near", "tie", "one", "other"] ["many", "ties"] (av kx):=fsc
theorem uL (F:Fun K "neighbours" "neighbours" kx f fd) (d:mg "range" = none) (c:mg "isinstance" = none) (g:mg "list" = none) (e:Def P w K mg base "is_tie" 3 2 iQ):bC P w K mg base CX0 4 f fd ["many", "ties"] (spF K iw 2):=bw F fz λ_ _ _ _ _ _ b=>have a:=cy b;(ae (bj (cf (bW (gD (t:=.list) rfl c rfl g (by decide +kernel) (mv 1)))) (ag cj) aD)
  (ae (rP (i:=2) fz.nd rfl lc (own:=["person"]) (capn:=[]) (caps:=[]) rfl (bK.a bI.nil) (cF rfl d (mv 0))
   (λh C s H ex=>⟨(aR (i:=0) (show ((["person"] : List Str)++([] : List Str)).Nodup by decide +kernel) rfl lc),cM,Jx⟩))
  (ae (d9 Z4 rfl (fv (mv 1)) (aR (i:=3) fz.nd rfl lc) (ae (bj (cf (bW (ak e b (ad (mv 0) (ad (mv 3) au))))) (ag cj) aD)
  (ae (aJ (i:=4) fz.nd rfl lc (aC (mv 3) aj (λ_ _=>rfl)))
  (ae (aJ (i:=5) fz.nd rfl lc (aC (mv 3) aj (λ_ _=>rfl)))
  (ae (bj (aY (Mq (ZS (WN (by decide) _) a)) Mr (mv 5) (aC (mv 2) (mv 4) (λ_ _=>rfl)) rfl) (ag cj) aD)
  (ae (Dk (ZS (WN (by decide) _) a) (aC (mv 3) aj (λ_ _=>rfl)) (aC (mv 2) (mv 4) (λ_ _=>rfl)) (mv 5))
  (ag (Dk (ZS (WN (by decide) _) a) (aC (mv 3) aj (λ_ _=>rfl)) (aC (mv 2) (mv 5) (λ_ _=>rfl)) (mv 4)))))))))
  (ag (aB (mv 2))))))
theorem xI:aA ["near", "bars"] ["near", "bars"] (av lM):=fsc
theorem xJ (F:Fun K "bars_told" "bars_told" lM f fd) (c:mg "tuple" = none) (d:mg "all" = none) (b:mg "len" = none) (e:mg "isinstance" = none) (j:mg "list" = none) (h:Def P w K mg base "is_whole" 1 1 eg):bC P w K mg base CX0 2 f fd ["near", "bars"] (spF K jj 2):=bw F xI λ_ _ _ _ _ _ a=>have g:=cy a;(ae (bj (aY A5 Bl (mv 1) fH (aK _)) (ag cj) aD)
  (ae (bj (MW.mt (jb (cf (bW (gD (t:=.list) rfl e rfl j (by decide +kernel) (mv 1)))) (fu (aY (eR g) gL (cE rfl b (cQ (mv 1))) (cE rfl b (cQ (mv 0))) (aK _)) (.inr rfl)))) (ag cj) aD)
  (ae (bj (cf (bW (sP rfl rfl d (eQ (cN (own:=["bar"]) (capn:=[]) (caps:=[]) rfl (bK.a bI.nil) (fv (mv 1))
   (λk C s H ex=>⟨(aR (i:=0) (show ((["bar"] : List Str)++([] : List Str)).Nodup by decide +kernel) rfl lc),cM,(ak h a (ad (mv 0) au))⟩)))))) (ag cj) aD)
  (ag (aB (gC rfl c (cQ (mv 1))))))))
theorem uM:aA ["many", "stays"] ["many", "stays"] (av ky):=fsc
theorem uN (F:Fun K "stays_told" "stays_told" ky f fd) (a:mg "tuple" = none) (d:mg "all" = none) (l:mg "len" = none) (e:mg "isinstance" = none) (k:mg "list" = none) (g:mg "range" = none) (j:Def P w K mg base "is_opinion" 3 1 cS):bC P w K mg base CX0 4 f fd ["many", "stays"] (spF K iy 2):=bw F uM λ_ _ _ _ _ _ b=>have h:=cy b;(ae (bj (aY A5 Bl (mv 1) fH (aK _)) (ag (aB (gC rfl a (eQ (cN (own:=["person"]) (capn:=[]) (caps:=[]) rfl (bK.a bI.nil) (cF rfl g (mv 0))
   (λc C s H ex=>⟨(aR (i:=0) (show ((["person"] : List Str)++([] : List Str)).Nodup by decide +kernel) rfl lc),cM,fH⟩)))))) aD)
  (ae (bj (MW.mt (jb (cf (bW (gD (t:=.list) rfl e rfl k (by decide +kernel) (mv 1)))) (fu (aY (eR h) gL (cE rfl l (cQ (mv 1))) (mv 0) (aK _)) (.inr rfl)))) (ag cj) aD)
  (ae (bj (cf (bW (sP rfl rfl d (eQ (cN (own:=["stay"]) (capn:=[]) (caps:=[]) rfl (bK.a bI.nil) (fv (mv 1))
   (λc C s H ex=>⟨(aR (i:=0) (show ((["stay"] : List Str)++([] : List Str)).Nodup by decide +kernel) rfl lc),cM,(MB.me (GA (ii (dL A5 Bl (mv 0) fH (aK _))) (li (ii (ak j b (ad (mv 0) au))))))⟩)))))) (ag cj) aD)
  (ag (aB (gC rfl a (cQ (mv 1))))))))
theorem p0:aA ["many", "ties", "bars", "stays", "near", "rows"] ["many", "ties", "bars", "stays"] (av tO):=fsc
theorem E4 (F:Fun K "web_of" "web_of" tO f fd) (b:mg "tuple" = none) (g:mg "sorted" = none) {c:Tok} (h:mg "MOST_PEOPLE" = some (.int 30 c)) (j:Def P w K mg base "stays_told" 4 2 iy) (e:Def P w K mg base "bars_told" 2 2 jj) (d:Def P w K mg base "neighbours" 4 2 iw) (k:Def P w K mg base "is_between" 2 3 bo):bC P w K mg base CX0 5 f fd ["many", "ties", "bars", "stays"] (spF K gR 4):=bw F p0 λ_ _ _ _ _ _ a=>have m:=cy a;(ae (bj (cf (bW (ak k a (ad (mv 0) (ad aj (ad (n9 rfl h) au)))))) (ag cj) aD)
  (ae (aJ (i:=4) p0.nd rfl lc (ak d a (ad (mv 0) (ad (mv 1) au))))
  (ae (aJ (i:=5) p0.nd rfl lc (gC rfl b (eQ (cN (own:=["row"]) (capn:=[]) (caps:=[]) rfl (bK.a bI.nil) (fv (mv 4))
   (λl C s H ex=>⟨(aR (i:=0) (show ((["row"] : List Str)++([] : List Str)).Nodup by decide +kernel) rfl lc),cM,(gC rfl b (eQ (G1 rfl rfl g (mv 0))))⟩)))))
  (ag (aB (pi (ad (mv 5) (ad (ak e a (ad (mv 4) (ad (mv 2) au))) (ad (ak j a (ad (mv 0) (ad (mv 3) au))) au)))))))))
theorem BY:aA ["web"] ["web"] (av pQ):=fsc
theorem BZ (F:Fun K "many_of" "many_of" pQ f fd) (a:mg "len" = none):bC P w K mg base CX0 1 f fd ["web"] (spF K bQ 1):=bw F BY λ_ _ _ _ _ _ b=>have c:=cy b;(ag (aB (cE rfl a (cQ (aC (mv 0) aj (λ_ _=>rfl))))))
theorem B0:aA ["web", "person"] ["web", "person"] (av pR):=fsc
theorem B3 (F:Fun K "ties_of" "ties_of" pR f fd):bC P w K mg base CX0 1 f fd ["web", "person"] (spF K eu 2):=bw F B0 λ_ _ _ _ _ _ a=>have b:=cy a;(ag (aB (aC (aC (mv 0) aj (λ_ _=>rfl)) (mv 1) (λ_ _=>rfl))))
theorem E5:aA ["web", "person"] ["web", "person"] (av tP):=fsc
theorem E6 (F:Fun K "bar_of" "bar_of" tP f fd):bC P w K mg base CX0 1 f fd ["web", "person"] (spF K oC 2):=bw F E5 λ_ _ _ _ _ _ a=>have b:=cy a;(ag (aB (aC (aC (mv 0) aj (λ_ _=>rfl)) (mv 1) (λ_ _=>rfl))))
theorem B4:aA ["web", "person"] ["web", "person"] (av pS):=fsc
theorem B5 (F:Fun K "stay_of" "stay_of" pS f fd):bC P w K mg base CX0 1 f fd ["web", "person"] (spF K iG 2):=bw F B4 λ_ _ _ _ _ _ a=>have b:=cy a;(ag (aB (aC (aC (mv 0) aj (λ_ _=>rfl)) (mv 1) (λ_ _=>rfl))))
theorem B6:aA ["web"] ["web"] (av pT):=fsc
theorem B7 (F:Fun K "bars_of" "bars_of" pT f fd) (a:mg "list" = none):bC P w K mg base CX0 1 f fd ["web"] (spF K iI 1):=bw F B6 λ_ _ _ _ _ _ b=>have c:=cy b;(ag (aB (cx (De rfl a (cQ (aC (mv 0) aj (λ_ _=>rfl)))))))
theorem zT:aA ["web"] ["web"] (av nG):=fsc
theorem zU (F:Fun K "stays_of" "stays_of" nG f fd) (a:mg "list" = none):bC P w K mg base CX0 1 f fd ["web"] (spF K gr 1):=bw F zT λ_ _ _ _ _ _ b=>have c:=cy b;(ag (aB (cx (De rfl a (cQ (aC (mv 0) aj (λ_ _=>rfl)))))))
theorem rY:aA ["web", "thing", "person", "opinion", "stay"] ["web", "thing"] (av BW):=fsc
theorem J6 (F:Fun K "fits" "fits" BW f fd) (g:mg "enumerate" = none) (j:mg "len" = none) (e:mg "isinstance" = none) (c:mg "tuple" = none) (d:Def P w K mg base "stay_of" 1 2 iG) (h:Def P w K mg base "is_opinion" 3 1 cS) (k:Def P w K mg base "many_of" 1 1 bQ):bC P w K mg base CX0 4 f fd ["web", "thing"] (spF K xA 2):=bw F rY λ_ _ _ _ _ _ a=>have b:=cy a;(ae (bj (MW.mt (jb (cf (bW (gD (t:=.tuple) rfl e rfl c (by decide +kernel) (mv 1)))) (fu (aY (eR b) gL (cE rfl j (cQ (mv 1))) (ak k a (ad (mv 0) au)) (aK _)) (.inr rfl)))) (ag (aB fW)) aD)
  (ae (d9 Z4 rfl (Ju rfl g (mv 1)) (pj rfl (ek (aR (i:=2) rY.nd rfl lc) (ek (aR (i:=3) rY.nd rfl lc) mw))) (ae (bj (cf (bW (ak h a (ad (mv 3) au)))) (ag (aB fW)) aD)
  (ae (aJ (i:=4) rY.nd rfl lc (ak d a (ad (mv 0) (ad (mv 2) au))))
  (ag (bj (MW.mt (Bm (aY rJ mr (mv 4) fH (aK _)) (fu (aY (eR b) gL (mv 3) (mv 4) (aK _)) (.inl rfl)))) (ag (aB fW)) aD)))))
  (ag (aB fW))))
theorem tS:aA ["web", "thing"] ["web", "thing"] (av jv):=fsc
theorem tT (F:Fun K "check_stand" "check_stand" jv f fd) (b:Def P w K mg base "fits" 4 2 xA):bC P w K mg base CX0 5 f fd ["web", "thing"] (spF K cT 2):=bw F tS λ_ _ _ _ _ _ a=>have c:=cy a;(ag (bj (cf (bW (ak b a (ad (mv 0) (ad (mv 1) au))))) (ag cj) aD))
theorem kH:aA ["web", "ties", "one"] ["web"] (av lN):=fsc
theorem xK (F:Fun K "ties_once" "ties_once" lN f fd) (c:mg "range" = none) (d:Def P w K mg base "many_of" 1 1 bQ) (b:Def P w K mg base "ties_of" 1 2 eu):bC P w K mg base CX0 2 f fd ["web"] (spF K eU 1):=bw F kH λ_ _ _ _ _ _ a=>have g:=cy a;(ae (aJ (i:=1) kH.nd rfl lc (cx (dD au (λ_ _ _ _ z=>by rw[cg _ _ _ _ z];decide))))
  (ae (d9 Z4 rfl (cF rfl c (ak d a (ad (mv 0) au))) (aR (i:=2) kH.nd rfl lc) (ag (d8 (JA (mv 1) (cN (own:=["other", "weight"]) (capn:=["one"]) (caps:=[2]) rfl (bK.a (bI.cons rfl rfl bI.nil)) (fv (ak b a (ad (mv 0) (ad (mv 2) au))))
   (λe C s H ex=>⟨(pj rfl (ek (aR (i:=0) (show ((["other", "weight"] : List Str)++(["one"] : List Str)).Nodup by decide +kernel) rfl lc) (ek (aR (i:=1) (show ((["other", "weight"] : List Str)++(["one"] : List Str)).Nodup by decide +kernel) rfl lc) mw))),(oj (aY C3 pd (mv 2) (mv 0) (aK _))),(pi (ad (mv 2) (ad (mv 0) (ad (mv 1) au))))⟩))))))
  (ag (aB (mv 1)))))
theorem xL:aA ["web", "thing"] ["web", "thing"] (av lO):=fsc
theorem xM (F:Fun K "is_person" "is_person" lO f fd) (b:Def P w K mg base "is_between" 2 3 bo) (c:Def P w K mg base "many_of" 1 1 bQ):bC P w K mg base CX0 3 f fd ["web", "thing"] (spF K dy 2):=bw F xL λ_ _ _ _ _ _ a=>have d:=cy a;(ag (aB (ak b a (ad (mv 1) (ad aj (ad (aU eK lh (ak c a (ad (mv 0) au)) aj) au))))))
theorem B8:aA ["web", "stand", "person"] ["web", "stand", "person"] (av pU):=fsc
theorem B9 (F:Fun K "pull_at" "pull_at" pU f fd) (d:mg "sum" = none) (b:Def P w K mg base "ties_of" 1 2 eu):bC P w K mg base CX0 2 f fd ["web", "stand", "person"] (spF K mz 3):=bw F B8 λ_ _ _ _ _ _ a=>have c:=cy a;(ag (aB (aU eM eP aj (Bo rfl rfl d (eQ (cN (own:=["other", "weight"]) (capn:=["stand"]) (caps:=[1]) rfl (bK.a (bI.cons rfl rfl bI.nil)) (fv (ak b a (ad (mv 0) (ad (mv 2) au))))
   (λe C s H ex=>⟨(pj rfl (ek (aR (i:=0) (show ((["other", "weight"] : List Str)++(["stand"] : List Str)).Nodup by decide +kernel) rfl lc) (ek (aR (i:=1) (show ((["other", "weight"] : List Str)++(["stand"] : List Str)).Nodup by decide +kernel) rfl lc) mw))),(oj (aY (bN c) cJ (aC (mv 2) (mv 0) (λ_ _=>rfl)) aj (aK _))),(mv 1)⟩)))))))
theorem kI:aA ["web", "stand", "person", "stay", "strength", "bar"] ["web", "stand", "person"] (av pV):=fsc
theorem Ca (F:Fun K "next_at" "next_at" pV f fd) (e:Def P w K mg base "bar_of" 1 2 oC) (c:Def P w K mg base "pull_at" 2 3 mz) (b:Def P w K mg base "stay_of" 1 2 iG):bC P w K mg base CX0 3 f fd ["web", "stand", "person"] (spF K iH 3):=bw F kI λ_ _ _ _ _ _ a=>have d:=cy a;(ae (aJ (i:=3) kI.nd rfl lc (ak b a (ad (mv 0) (ad (mv 2) au))))
  (ae (bj (aY rJ mr (mv 3) fH (aK _)) (ag (aB (mv 3))) aD)
  (ae (aJ (i:=4) kI.nd rfl lc (ak c a (ad (mv 0) (ad (mv 1) (ad (mv 2) au)))))
  (ae (aJ (i:=5) kI.nd rfl lc (ak e a (ad (mv 0) (ad (mv 2) au))))
  (ae (bj (aY (bN d) cJ (mv 4) (mv 5) (aK _)) (ag (aB (aC (mv 1) (mv 2) (λ_ _=>rfl)))) aD)
  (ag (aB (C9 (aY sh pd (mv 4) (mv 5) (aK _)) aj aj))))))))
theorem Cb:aA ["web", "stand"] ["web", "stand"] (av pW):=fsc
theorem Cc (F:Fun K "turn_at" "turn_at" pW f fd) (b:mg "tuple" = none) (c:mg "range" = none) (e:Def P w K mg base "many_of" 1 1 bQ) (d:Def P w K mg base "next_at" 3 3 iH):bC P w K mg base CX0 4 f fd ["web", "stand"] (spF K eA 2):=bw F Cb λ_ _ _ _ _ _ a=>have h:=cy a;(ag (aB (gC rfl b (eQ (cN (own:=["person"]) (capn:=["web", "stand"]) (caps:=[0,1]) rfl (bK.a (bI.cons rfl rfl (bI.cons rfl rfl bI.nil))) (cF rfl c (ak e a (ad (mv 0) au)))
   (λg C s H ex=>⟨(aR (i:=0) (show ((["person"] : List Str)++(["web", "stand"] : List Str)).Nodup by decide +kernel) rfl lc),cM,(ak d a (ad (mv 1) (ad (mv 2) (ad (mv 0) au))))⟩))))))
theorem J7:aA ["web", "stand"] ["web", "stand"] (av BX):=fsc
theorem J8 (F:Fun K "turn" "turn" BX f fd) (b:Def P w K mg base "turn_at" 4 2 eA) (c:Def P w K mg base "check_stand" 5 2 cT):bC P w K mg base CX0 6 f fd ["web", "stand"] (spF K pI 2):=bw F J7 λ_ _ _ _ _ _ a=>have d:=cy a;(ae (d8 (ak c a (ad (mv 0) (ad (mv 1) au))))
  (ag (aB (ak b a (ad (mv 0) (ad (mv 1) au))))))
theorem rk:aA ["web", "thing"] ["web", "thing"] (av iW):=fsc
theorem rl (F:Fun K "check_person" "check_person" iW f fd) (b:Def P w K mg base "is_person" 3 2 dy):bC P w K mg base CX0 4 f fd ["web", "thing"] (spF K dQ 2):=bw F rk λ_ _ _ _ _ _ a=>have c:=cy a;(ag (bj (cf (bW (ak b a (ad (mv 0) (ad (mv 1) au))))) (ag cj) aD))
theorem qU:aA ["web", "person", "bar", "bars"] ["web", "person", "bar"] (av nH):=fsc
theorem zV (F:Fun K "with_bar" "with_bar" nH f fd) (d:Def P w K mg base "web_of" 5 4 gR) (g:Def P w K mg base "stays_of" 1 1 gr) (b:Def P w K mg base "ties_once" 2 1 eU) (h:Def P w K mg base "many_of" 1 1 bQ) (c:Def P w K mg base "bars_of" 1 1 iI) (e:Def P w K mg base "check_person" 4 2 dQ):bC P w K mg base CX0 6 f fd ["web", "person", "bar"] (spF K iU 3):=bw F qU λ_ _ _ _ _ _ a=>have j:=cy a;(ae (d8 (ak e a (ad (mv 0) (ad (mv 1) au))))
  (ae (aJ (i:=3) qU.nd rfl lc (ak c a (ad (mv 0) au)))
  (ae (sH (mv 2) (mv 3) (mv 1))
  (ag (aB (ak d a (ad (ak h a (ad (mv 0) au)) (ad (ak b a (ad (mv 0) au)) (ad (mv 3) (ad (ak g a (ad (mv 0) au)) au))))))))))
theorem ma:aA ["web", "stand", "stands", "later", "word"] ["web", "stand"] (av xH):=fsc
theorem HK (F:Fun K "ended" "ended" xH f fd) (e:mg "len" = none) (b:Def P w K mg base "turn_at" 4 2 eA) (d:Def P w K mg base "check_stand" 5 2 cT):bC P w K mg base CX0 6 f fd ["web", "stand"] (spF K oF 2):=bw F ma λ_ _ _ _ _ _ a=>have c:=cy a;(ae (d8 (ak d a (ad (mv 0) (ad (mv 1) au))))
  (ae (aJ (i:=2) ma.nd rfl lc (cx (dD (ad (mv 1) (ad (ak b a (ad (mv 0) (ad (mv 1) au))) au)) (λ_ _ _ _ z=>by rw[(bg (bg cg)) _ _ _ _ z];decide))))
  (ae (aJ (i:=3) ma.nd rfl lc (ak b a (ad (mv 0) (ad (aC (mv 2) aj (λ_ _=>rfl)) au))))
  (ae (GE Z4 (aY (eR c) gL (mv 3) (aC (mv 2) j0 (λ_ _=>rfl)) (aK _)) (ae (d8 (jZ (mv 2) (mv 3)))
  (ag (aJ (i:=3) ma.nd rfl lc (ak b a (ad (mv 0) (ad (mv 3) au)))))))
  (ae (aJ (i:=4) ma.nd rfl lc (C9 (aY (bN c) cJ (aC (mv 2) j0 (λ_ _=>rfl)) (aC (mv 2) j0 (λ_ _=>rfl)) (aK _)) (br [114,101,115,116] rfl) (br [112,97,105,114] rfl)))
  (ag (aB (pi (ad (aU eK lh (cE rfl e (cQ (mv 2))) aj) (ad (mv 4) (ad (mv 2) au)))))))))))
theorem oP:aA ["text", "figures"] ["text"] (av lP):=fsc
theorem xN (F:Fun K "is_number" "is_number" lP f fd) (e:mg "all" = none) (k:mg "len" = none) {d:Tok} (c:mg "FIGURES" = some (.str (PySem.Str.ofString "0123456789") d)) {j:Tok} (g:mg "MOST_FIGURES" = some (.int 60 j)) (h:Def P w K mg base "is_between" 2 3 bo):bC P w K mg base CX0 3 f fd ["text"] (spF K dz 1):=bw F oP λ_ _ _ _ _ _ b=>have a:=cy b;(ae (aJ (i:=1) oP.nd rfl lc (C9 (bW (vX (mv 0) (br [45] rfl))) (EH (mv 0) (qH aj) vJ) (mv 0)))
  (ae (bj (cf (bW (ak h b (ad (JJ rfl k (mv 1)) (ad aj (ad (n9 rfl g) au)))))) (ag (aB fW)) aD)
  (ae (bj (cf (bW (sP rfl rfl e (eQ (cN (own:=["sign"]) (capn:=[]) (caps:=[]) rfl (bK.a bI.nil) (xq (mv 1))
   (λl C s H ex=>⟨(aR (i:=0) (show ((["sign"] : List Str)++([] : List Str)).Nodup by decide +kernel) rfl lc),cM,(MN (mv 0) (Hf [48,49,50,51,52,53,54,55,56,57] rfl rfl c) rfl)⟩)))))) (ag (aB fW)) aD)
  (ag (aB (MB.me (GA (ii (dL (eR a) gL (MH (mv 1) aj (λ_ _=>rfl)) (br [48] rfl) (aK _))) (li (ii (dL (bN a) cJ (mv 0) (br [48] rfl) (aK _)))))))))))
theorem jo:aA ["word", "line", "words"] ["word", "line"] (av gv):=fsc
theorem oQ (F:Fun K "numbers_behind" "numbers_behind" gv f fd) (g:mg "int" = none) (e:mg "all" = none) (b:Def P w K mg base "is_number" 3 1 dz):bC P w K mg base CX0 4 f fd ["word", "line"] (spF K bE 2):=bw F jo λ_ _ _ _ _ _ a=>have h:=cy a;(ae (aJ (i:=2) jo.nd rfl lc (cx (oy (c:=32) rfl (mv 1))))
  (ae (bj (MW.mt (jb (aY (eR h) gL (aC (mv 2) aj (λ_ _=>rfl)) (mv 0) (aK _)) (fu (cf (bW (sP rfl rfl e (eQ (cN (own:=["figures"]) (capn:=[]) (caps:=[]) rfl (bK.a bI.nil) (fv (ot (mv 2) (qH aj) vJ))
   (λd C s H ex=>⟨(aR (i:=0) (show ((["figures"] : List Str)++([] : List Str)).Nodup by decide +kernel) rfl lc),cM,(ak b a (ad (mv 0) au))⟩)))))) (.inr rfl)))) (ag (aB (cx (dD au (λ_ _ _ _ z=>by rw[cg _ _ _ _ z];decide))))) aD)
  (ag (aB (cx (cN (own:=["figures"]) (capn:=[]) (caps:=[]) rfl (bK.a bI.nil) (fv (ot (mv 2) (qH aj) vJ))
   (λd C s H ex=>⟨(aR (i:=0) (show ((["figures"] : List Str)++([] : List Str)).Nodup by decide +kernel) rfl lc),cM,(j6 rfl g (mv 0))⟩)))))))
theorem oR:aA ["lines", "numbers"] ["lines"] (av lQ):=fsc
theorem xO (F:Fun K "read_many" "read_many" lQ f fd) (h:mg "len" = none) {b:Tok} (c:mg "MOST_PEOPLE" = some (.int 30 b)) (g:Def P w K mg base "is_between" 2 3 bo) (e:Def P w K mg base "numbers_behind" 4 2 bE):bC P w K mg base CX0 5 f fd ["lines"] (spF K gS 1):=bw F oR λ_ _ _ _ _ _ a=>have d:=cy a;(ae (aJ (i:=1) oR.nd rfl lc (ak e a (ad (br [112,101,111,112,108,101] rfl) (ad (aC (mv 0) aj (λ_ _=>rfl)) au))))
  (ae (bj (MW.mt (jb (aY (eR d) gL (cE rfl h (cQ (mv 1))) aj (aK _)) (fu (cf (bW (ak g a (ad (aC (mv 1) aj (λ_ _=>rfl)) (ad aj (ad (n9 rfl c) au)))))) (.inr rfl)))) (ag cj) aD)
  (ag (aB (aC (mv 1) aj (λ_ _=>rfl))))))
theorem tU:aA ["ties", "tie"] ["ties", "tie"] (av jw):=fsc
theorem tV (F:Fun K "is_next_tie" "is_next_tie" jw f fd):bC P w K mg base CX0 1 f fd ["ties", "tie"] (spF K eC 2):=bw F tU λ_ _ _ _ _ _ a=>have b:=cy a;(ag (aB (MB.me (ph (ii (dL C3 pd (aC (mv 1) aj (λ_ _=>rfl)) (aC (mv 1) aj (λ_ _=>rfl)) (aK _))) (li (GA (ii (dL (bN b) cJ (mv 0) (cx (dD au (λ_ _ _ _ z=>by rw[cg _ _ _ _ z];decide))) (aK _))) (li (ii (dL (LS a.units0) Mx (vV (aC (mv 0) j0 (λ_ _=>rfl)) vJ (qH aj)) (vV (mv 1) vJ (qH aj)) (aK _))))))))))
theorem iA:aA ["lines", "many", "ties", "place", "tie"] ["lines", "many"] (av lS):=fsc
theorem xP (F:Fun K "read_ties" "read_ties" lS f fd) (c:mg "range" = none) (h:mg "len" = none) (b:mg "tuple" = none) (d:Def P w K mg base "is_next_tie" 1 2 eC) (e:Def P w K mg base "is_tie" 3 2 iQ) (g:Def P w K mg base "numbers_behind" 4 2 bE):bC P w K mg base CX0 5 f fd ["lines", "many"] (spF K gU 2):=bw F iA λ_ _ _ _ _ _ a=>have j:=cy a;(ae (aJ (i:=2) iA.nd rfl lc (cx (dD au (λ_ _ _ _ z=>by rw[cg _ _ _ _ z];decide))))
  (ae (d9 Z4 rfl (jH rfl c aj (cE rfl h (cQ (mv 0)))) (aR (i:=3) iA.nd rfl lc) (ae (bj (cf (bW (vX (aC (mv 0) (mv 3) (λ_ _=>rfl)) (br [116,105,101,32] rfl)))) (ag GD) aD)
  (ae (aJ (i:=4) iA.nd rfl lc (gC rfl b (cQ (ak g a (ad (br [116,105,101] rfl) (ad (aC (mv 0) (mv 3) (λ_ _=>rfl)) au))))))
  (ae (bj (MW.mt (jb (cf (bW (ak e a (ad (mv 1) (ad (mv 4) au))))) (fu (cf (bW (ak d a (ad (mv 2) (ad (mv 4) au))))) (.inr rfl)))) (ag cj) aD)
  (ag (d8 (jZ (mv 2) (mv 4))))))))
  (ag (aB (mv 2)))))
theorem Cd:aA ["lines", "place"] ["lines", "place"] (av pX):=fsc
theorem Ce (F:Fun K "line_at" "line_at" pX f fd) (b:mg "len" = none):bC P w K mg base CX0 1 f fd ["lines", "place"] (spF K fR 2):=bw F Cd λ_ _ _ _ _ _ c=>have a:=cy c;(ae (bj (aY (bN a) cJ (mv 1) (cE rfl b (cQ (mv 0))) (aK _)) (ag cj) aD)
  (ag (aB (aC (mv 0) (mv 1) (λ_ _=>rfl)))))
theorem iB:aA ["lines", "start", "many", "bars", "place", "numbers"] ["lines", "start", "many"] (av lU):=fsc
theorem xQ (F:Fun K "read_bars" "read_bars" lU f fd) (c:mg "range" = none) (g:mg "len" = none) (e:Def P w K mg base "numbers_behind" 4 2 bE) (b:Def P w K mg base "line_at" 1 2 fR):bC P w K mg base CX0 5 f fd ["lines", "start", "many"] (spF K gW 3):=bw F iB λ_ _ _ _ _ _ a=>have d:=cy a;(ae (aJ (i:=3) iB.nd rfl lc (cx (dD au (λ_ _ _ _ z=>by rw[cg _ _ _ _ z];decide))))
  (ae (d9 Z4 rfl (jH rfl c (mv 1) (aU bR cK (mv 1) (mv 2))) (aR (i:=4) iB.nd rfl lc) (ae (aJ (i:=5) iB.nd rfl lc (ak e a (ad (br [98,97,114] rfl) (ad (ak b a (ad (mv 0) (ad (mv 4) au))) au))))
  (ae (bj (aY (eR d) gL (cE rfl g (cQ (mv 5))) aj (aK _)) (ag cj) aD)
  (ag (d8 (JS (mv 3) (mv 5)))))))
  (ag (aB (mv 3)))))
theorem gG:aA ["lines", "start", "many", "stays", "place", "line"] ["lines", "start", "many"] (av kz):=fsc
theorem uO (F:Fun K "read_stays" "read_stays" kz f fd) (g:mg "range" = none) {b:Addr} (d:mg "STAYS" = some (.ref b)) (a:sU K b [([102,114,101,101],none),([115,116,97,121,115,32,48],some 0),([115,116,97,121,115,32,49],some 1)]) (e:Def P w K mg base "line_at" 1 2 fR):bC P w K mg base CX0 2 f fd ["lines", "start", "many"] (spF K f6 3):=bw F gG λ_ _ _ _ _ _ c=>have h:=cy c;(ae (aJ (i:=3) gG.nd rfl lc (cx (dD au (λ_ _ _ _ z=>by rw[cg _ _ _ _ z];decide))))
  (ae (d9 Z4 rfl (jH rfl g (mv 1) (aU bR cK (mv 1) (mv 2))) (aR (i:=4) gG.nd rfl lc) (ae (aJ (i:=5) gG.nd rfl lc (ak e c (ad (mv 0) (ad (mv 4) au))))
  (ae (bj (EK (T:=[([102,114,101,101],none),([115,116,97,121,115,32,48],some 0),([115,116,97,121,115,32,49],some 1)]) rfl d a (mv 5) rfl) (ag cj) aD)
  (ag (d8 (jZ (mv 3) (Hg (T:=[([102,114,101,101],none),([115,116,97,121,115,32,48],some 0),([115,116,97,121,115,32,49],some 1)]) rfl d a (mv 5))))))))
  (ag (aB (mv 3)))))
theorem eV:aA ["text", "lines", "many", "ties", "bars", "stays", "end"] ["text"] (av nI):=fsc
theorem zW (F:Fun K "read_web" "read_web" nI f fd) (b:mg "len" = none) (d:mg "isinstance" = none) (h:mg "str" = none) (e:Def P w K mg base "web_of" 5 4 gR) (k:Def P w K mg base "read_stays" 2 3 f6) (g:Def P w K mg base "read_bars" 5 3 gW) (j:Def P w K mg base "read_ties" 5 2 gU) (l:Def P w K mg base "read_many" 5 1 gS):bC P w K mg base CX0 6 f fd ["text"] (spF K km 1):=bw F eV λ_ _ _ _ _ _ a=>have m:=cy a;(ae (bj (cf (bW (gD (t:=.str) rfl d rfl h (by decide +kernel) (mv 0)))) (ag cj) aD)
  (ae (aJ (i:=1) eV.nd rfl lc (cx (oy (c:=10) rfl (mv 0))))
  (ae (aJ (i:=2) eV.nd rfl lc (ak l a (ad (mv 1) au)))
  (ae (aJ (i:=3) eV.nd rfl lc (ak j a (ad (mv 1) (ad (mv 2) au))))
  (ae (aJ (i:=4) eV.nd rfl lc (ak g a (ad (mv 1) (ad (aU bR cK aj (cE rfl b (cQ (mv 3)))) (ad (mv 2) au)))))
  (ae (aJ (i:=5) eV.nd rfl lc (ak k a (ad (mv 1) (ad (aU bR cK (aU bR cK aj (cE rfl b (cQ (mv 3)))) (mv 2)) (ad (mv 2) au)))))
  (ae (aJ (i:=6) eV.nd rfl lc (aU bR cK (aU bR cK aj (cE rfl b (cQ (mv 3)))) (aU eM eP aj (mv 2))))
  (ae (bj (aY sh pd (cE rfl b (cQ (mv 1))) (mv 6) (aK _)) (ag cj) aD)
  (ag (aB (ak e a (ad (mv 2) (ad (mv 3) (ad (mv 4) (ad (mv 5) au)))))))))))))))
theorem uP:aA ["stand"] ["stand"] (av kA):=fsc
theorem uQ (F:Fun K "show_stand" "show_stand" kA f fd) (a:mg "str" = none):bC P w K mg base CX0 1 f fd ["stand"] (spF K cU 1):=bw F uP λ_ _ _ _ _ _ b=>have d:=cy b;(ag (aB (Dw rfl (eQ (cN (own:=["opinion"]) (capn:=[]) (caps:=[]) rfl (bK.a bI.nil) (fv (mv 0))
   (λc C s H ex=>⟨(aR (i:=0) (show ((["opinion"] : List Str)++([] : List Str)).Nodup by decide +kernel) rfl lc),cM,(io rfl a (mv 0))⟩))))))
theorem mS:aA ["web", "text", "stand"] ["web", "text"] (av kB):=fsc
theorem uR (F:Fun K "read_stand" "read_stand" kB f fd) (b:mg "tuple" = none) (g:mg "int" = none) (d:mg "all" = none) (e:mg "isinstance" = none) (h:mg "str" = none) (j:Def P w K mg base "check_stand" 5 2 cT):bC P w K mg base CX0 6 f fd ["web", "text"] (spF K iz 2):=bw F mS λ_ _ _ _ _ _ a=>have k:=cy a;(ae (bj (MW.mt (jb (cf (bW (gD (t:=.str) rfl e rfl h (by decide +kernel) (mv 1)))) (fu (cf (bW (sP rfl rfl d (eQ (cN (own:=["sign"]) (capn:=[]) (caps:=[]) rfl (bK.a bI.nil) (xq (mv 1))
   (λc C s H ex=>⟨(aR (i:=0) (show ((["sign"] : List Str)++([] : List Str)).Nodup by decide +kernel) rfl lc),cM,(dL vB KS (mv 0) (pi (ad (br [48] rfl) (ad (br [49] rfl) au))) rfl)⟩)))))) (.inr rfl)))) (ag cj) aD)
  (ae (aJ (i:=2) mS.nd rfl lc (gC rfl b (eQ (cN (own:=["sign"]) (capn:=[]) (caps:=[]) rfl (bK.a bI.nil) (xq (mv 1))
   (λc C s H ex=>⟨(aR (i:=0) (show ((["sign"] : List Str)++([] : List Str)).Nodup by decide +kernel) rfl lc),cM,(j6 rfl g (mv 0))⟩)))))
  (ae (d8 (ak j a (ad (mv 0) (ad (mv 2) au))))
  (ag (aB (mv 2))))))
theorem p5:aA ["self", "text"] ["self", "text"] (av dq):=fsc
theorem p6 (F:Fun K "__init__" "Desk.__init__" dq f fd) {C:Addr} (T:lC K C) (c:Def P w K mg base "read_web" 6 1 km):bC P w K mg base CX0 7 f fd ["self", "text"] (spF K dn 2):=by
 refine G5 F p5 λd A a s H E b => ?_;have e:=cy b;exact(ag (Dp T (mv 0) (ak c b (ad (mv 1) au))))
theorem zX:aA ["row"] ["row"] (av nJ):=fsc
theorem zY (F:Fun K "words_of" "words_of" nJ f fd) (a:mg "isinstance" = none) (b:mg "str" = none):bC P w K mg base CX0 1 f fd ["row"] (spF K iV 1):=bw F zX λ_ _ _ _ _ _ d=>have e:=cy d;(ae (bj (cf (bW (gD (t:=.str) rfl a rfl b (by decide +kernel) (mv 0)))) (ag cj) aD)
  (ag (aB (cx (oy (c:=32) rfl (mv 0))))))
theorem zZ:aA ["web", "kind", "word"] ["web", "kind", "word"] (av nK):=fsc
theorem z6 (F:Fun K "thing_of" "thing_of" nK f fd) (c:mg "int" = none) (d:Def P w K mg base "read_stand" 6 2 iz):bC P w K mg base CX0 7 f fd ["web", "kind", "word"] (spF K eh 3):=bw F zZ λ_ _ _ _ _ _ b=>have a:=cy b;(ae (bj (aY (bN a) cJ (mv 1) (br [115,116,97,110,100] rfl) (aK _)) (ag (aB (ak d b (ad (mv 0) (ad (mv 2) au))))) aD)
  (ag (aB (C9 (aY (bN a) cJ (mv 2) (br [102,114,101,101] rfl) (aK _)) fH (j6 rfl c (mv 2))))))
theorem uS:aA ["kind", "word"] ["kind", "word"] (av kC):=fsc
theorem uT (F:Fun K "is_written" "is_written" kC f fd) (c:Def P w K mg base "is_number" 3 1 dz):bC P w K mg base CX0 4 f fd ["kind", "word"] (spF K dA 2):=bw F uS λ_ _ _ _ _ _ b=>have a:=cy b;(ae (bj (MW.mt (jb (aY (bN a) cJ (mv 0) (br [115,116,97,110,100] rfl) (aK _)) (fu (MW.mt (Bm (aY (bN a) cJ (mv 0) (br [115,116,97,121] rfl) (aK _)) (fu (aY (bN a) cJ (mv 1) (br [102,114,101,101] rfl) (aK _)) (.inl rfl)))) (.inr rfl)))) (ag (aB fW)) aD)
  (ag (aB (ak c b (ad (mv 1) au)))))
theorem gc:aA ["web", "form", "words", "kind", "word"] ["web", "form", "words"] (av lV):=fsc
theorem xR (F:Fun K "things_of" "things_of" lV f fd) (b:mg "zip" = none) (c:mg "int" = none) (h:Def P w K mg base "thing_of" 7 3 eh) (e:Def P w K mg base "is_person" 3 2 dy) (g:Def P w K mg base "is_written" 4 2 dA):bC P w K mg base CX0 8 f fd ["web", "form", "words"] (spF K dY 3):=bw F gc λ_ _ _ _ _ _ a=>have d:=cy a;(ae (Du Z4 rfl (xo rfl b (mv 1) (mv 2)) (pj rfl (ek (aR (i:=3) gc.nd rfl lc) (ek (aR (i:=4) gc.nd rfl lc) mw))) (ag (bj (cf (bW (ak g a (ad (mv 3) (ad (mv 4) au))))) (ag cj) aD)))
  (ae (Du Z4 rfl (xo rfl b (mv 1) (mv 2)) (pj rfl (ek (aR (i:=3) gc.nd rfl lc) (ek (aR (i:=4) gc.nd rfl lc) mw))) (ag (bj (MW.mt (Bm (aY (bN d) cJ (mv 3) (br [112,101,114,115,111,110] rfl) (aK _)) (fu (cf (bW (ak e a (ad (mv 0) (ad (j6 rfl c (mv 4)) au))))) (.inl rfl)))) (ag cj) aD)))
  (ag (aB (cx (G8 (own:=["kind", "word"]) (capn:=["web"]) (caps:=[0]) rfl (bK.a (bI.cons rfl rfl bI.nil)) (xo rfl b (mv 1) (mv 2))
   (λj C s H ex=>⟨(pj rfl (ek (aR (i:=0) (show ((["kind", "word"] : List Str)++(["web"] : List Str)).Nodup by decide +kernel) rfl lc) (ek (aR (i:=1) (show ((["kind", "word"] : List Str)++(["web"] : List Str)).Nodup by decide +kernel) rfl lc) mw))),cM,(ak h a (ad (mv 2) (ad (mv 0) (ad (mv 1) au))))⟩)))))))
theorem dS:aA ["told", "turns", "word", "one", "other"] ["told"] (av hV):=fsc
theorem p7 (F:Fun K "answer_of_end" "answer_of_end" hV f fd) (b:Def P w K mg base "show_stand" 1 1 cU):bC P w K mg base CX0 2 f fd ["told"] (spF K fE 1):=bw F dS λ_ _ _ _ _ _ a=>have c:=cy a;(ae (aJ (i:=1) dS.nd rfl lc (aC (mv 0) aj (λ_ _=>rfl)))
  (ae (aJ (i:=2) dS.nd rfl lc (aC (mv 0) aj (λ_ _=>rfl)))
  (ae (aJ (i:=3) dS.nd rfl lc (ak b a (ad (aC (aC (mv 0) aj (λ_ _=>rfl)) j0 (λ_ _=>rfl)) au)))
  (ae (aJ (i:=4) dS.nd rfl lc (ak b a (ad (aC (aC (mv 0) aj (λ_ _=>rfl)) j0 (λ_ _=>rfl)) au)))
  (ae (bj (aY (bN c) cJ (mv 2) (br [114,101,115,116] rfl) (aK _)) (ag (aB (KW (gE (br [114,101,115,116,32] rfl) (gE (Hc (mv 1)) (gE (br [32] rfl) (gE (xw (mv 3)) Hb))))))) aD)
  (ag (aB (KW (gE (br [112,97,105,114,32] rfl) (gE (Hc (mv 1)) (gE (br [32] rfl) (gE (xw (mv 3)) (gE (br [32] rfl) (gE (xw (mv 4)) Hb))))))))))))))
theorem mL:aA ["web", "word", "stands"] ["web", "word", "stands"] (av fK):=fsc
theorem mM (F:Fun K "answer_of_stands" "answer_of_stands" fK f fd) (c:Def P w K mg base "answer_of_end" 2 1 fE) (d:Def P w K mg base "ended" 6 2 oF) (g:Def P w K mg base "show_stand" 1 1 cU) (e:Def P w K mg base "turn" 6 2 pI):bC P w K mg base CX0 7 f fd ["web", "word", "stands"] (spF K cP 3):=bw F mL λ_ _ _ _ _ _ a=>have b:=cy a;(ae (bj (aY (bN b) cJ (mv 1) (br [116,117,114,110] rfl) (aK _)) (ag (aB (ak g a (ad (ak e a (ad (mv 0) (ad (aC (mv 2) aj (λ_ _=>rfl)) au))) au)))) aD)
  (ae (bj (aY (bN b) cJ (mv 1) (br [119,101,105,103,104,116] rfl) (aK _)) (ag cj) aD)
  (ae (bj (aY (bN b) cJ (mv 1) (br [106,111,105,110,101,100] rfl) (aK _)) (ag cj) aD)
  (ae (bj (aY (bN b) cJ (mv 1) (br [109,101,116] rfl) (aK _)) (ag cj) aD)
  (ag (aB (ak c a (ad (ak d a (ad (mv 0) (ad (aC (mv 2) aj (λ_ _=>rfl)) au))) au))))))))
theorem E7:aA ["web", "word", "things"] ["web", "word", "things"] (av tQ):=fsc
theorem E8 (F:Fun K "answer" "answer" tQ f fd) {a:Addr} (g:mg "FORMS" = some (.ref a)) (b:xu K a fJ) (e:Def P w K mg base "answer_of_stands" 7 3 cP):bC P w K mg base CX0 8 f fd ["web", "word", "things"] (spF K oO 3):=bw F E7 λ_ _ _ _ _ _ d=>have c:=cy d;(ae (bj (aY (bN c) cJ (mv 1) (br [115,119,97,121,115] rfl) (aK _)) (ag cj) aD)
  (ae (bj (JQ c (xv (T:=fJ) rfl g b (mv 1))) (ag cj) aD)
  (ag (aB (ak e d (ad (mv 0) (ad (mv 1) (ad (mv 2) au))))))))
theorem Cf:aA ["words"] ["words"] (av pY):=fsc
theorem Cg (F:Fun K "form_of" "form_of" pY f fd) (e:mg "len" = none) {b:Addr} (c:mg "FORMS" = some (.ref b)) (a:xu K b fJ):bC P w K mg base CX0 1 f fd ["words"] (spF K jO 1):=bw F Cf λ_ _ _ _ _ _ g=>have d:=cy g;(ae (bj (aY (bN d) cJ (aC (mv 0) aj (λ_ _=>rfl)) (br [115,119,97,121,115] rfl) (aK _)) (ag cj) aD)
  (ae (bj (Hm (T:=fJ) rfl c a (aC (mv 0) aj (λ_ _=>rfl)) rfl) (ag cj) aD)
  (ae (bj (aY (eR d) gL (aU eK lh (cE rfl e (cQ (mv 0))) aj) (JO rfl e (xv (T:=fJ) rfl c a (aC (mv 0) aj (λ_ _=>rfl)))) (aK _)) (ag cj) aD)
  (ag (aB (xv (T:=fJ) rfl c a (aC (mv 0) aj (λ_ _=>rfl))))))))
theorem tW:aA ["web", "word", "things"] ["web", "word", "things"] (av jx):=fsc
theorem tX (F:Fun K "changed_web" "changed_web" jx f fd) (c:Def P w K mg base "with_bar" 6 3 iU):bC P w K mg base CX0 7 f fd ["web", "word", "things"] (spF K gF 3):=bw F tW λ_ _ _ _ _ _ b=>have a:=cy b;(ae (bj (aY (bN a) cJ (mv 1) (br [116,105,101] rfl) (aK _)) (ag cj) aD)
  (ae (bj (aY (bN a) cJ (mv 1) (br [98,97,114] rfl) (aK _)) (ag (aB (ak c b (ad (mv 0) (ad (aC (mv 2) aj (λ_ _=>rfl)) (ad (aC (mv 2) aj (λ_ _=>rfl)) au)))))) aD)
  (ag cj)))
theorem mf:aA ["self", "row", "words", "things"] ["self", "row"] (av gw):=fsc
theorem z7 (F:Fun K "say" "Desk.say" gw f fd) {C:Addr} (T:lC K C) (h:Def P w K mg base "answer" 8 3 oO) (e:Def P w K mg base "changed_web" 7 3 gF) (g:Def P w K mg base "things_of" 8 3 dY) (c:Def P w K mg base "form_of" 1 1 jO) (d:Def P w K mg base "words_of" 1 1 iV):bC P w K mg base CX0 9 f fd ["self", "row"] (spF K cu 2):=by
 refine G5 F mf λj A b s H E a => ?_;have k:=cy a;exact(ae (aJ (i:=2) mf.nd rfl lc (ak d a (ad (mv 1) au)))
  (ae (aJ (i:=3) mf.nd rfl lc (ak g a (ad (xk T (mv 0)) (ad (ak c a (ad (mv 2) au)) (ad (ot (mv 2) (qH aj) vJ) au)))))
  (ae (bj (aY vB KS (aC (mv 2) aj (λ_ _=>rfl)) (pi (ad (br [116,105,101] rfl) (ad (br [98,97,114] rfl) (ad (br [115,116,97,121] rfl) au)))) rfl) (ae (Dp T (mv 0) (ak e a (ad (xk T (mv 0)) (ad (aC (mv 2) aj (λ_ _=>rfl)) (ad (mv 3) au)))))
  (ag (aB (br [111,107] rfl)))) aD)
  (ag (aB (ak h a (ad (xk T (mv 0)) (ad (aC (mv 2) aj (λ_ _=>rfl)) (ad (mv 3) au)))))))))
theorem xS:aA ["_law_script", "_law_k"] ["_law_script", "_law_k"] (av lZ):=fsc
theorem xT (F:Fun K "_law_cell" "_law_cell" lZ f fd) (a:mg "len" = none):bC P w K mg base CX0 1 f fd ["_law_script", "_law_k"] (spF K bq 2):=bw F xS λ_ _ _ _ _ _ b=>have c:=cy b;(ae (bj (aY C3 pd (mv 1) (cE rfl a (cQ (mv 0))) (aK _)) (ag (aB (aC (mv 0) (mv 1) (λ_ _=>rfl)))) aD)
  (ag (aB (aU bR cK (aU eM eP (aU eM eP aj (mv 1)) (mv 1)) (aU eM eP aj (mv 1))))))
theorem eW:aA ["_law_cell_here", "_law_way", "_law_many", "_law_base", "_law_found", "_law_number", "_law_k"] ["_law_cell_here", "_law_way", "_law_many", "_law_base"] (av nM):=fsc
theorem z8 (F:Fun K "_law_row" "_law_row" nM f fd) (b:mg "range" = none):bC P w K mg base CX0 1 f fd ["_law_cell_here", "_law_way", "_law_many", "_law_base"] (spF K dw 4):=bw F eW λ_ _ _ _ _ _ c=>have a:=cy c;(ae (aJ (i:=4) eW.nd rfl lc (cx (dD au (λ_ _ _ _ z=>by rw[cg _ _ _ _ z];decide))))
  (ae (aJ (i:=5) eW.nd rfl lc (mv 0))
  (ae (bj (aY (bN a) cJ (aU fF fI (mv 1) aj) aj (aK _)) (ag (aJ (i:=5) eW.nd rfl lc (aU fF fI (aU eM eP (aU fF fI (mv 0) aj) aj) aj))) aD)
  (ae (d9 Z4 rfl (cF rfl b (mv 2)) (aR (i:=6) eW.nd rfl lc) (ag (bj (aY (bN a) cJ (aU fF fI (mv 1) aj) aj (aK _)) (ae (aJ (i:=5) eW.nd rfl lc (aU fF fI (aU bR cK (aU bR cK (aU bR cK (aU eM eP (mv 5) (mv 5)) (aU eM eP aj (mv 5))) (aU eM eP aj (mv 6))) aj) aj))
  (ag (d8 (jZ (mv 4) (aU fF fI (aU iL mW (mv 5) aj) (mv 3)))))) (ae (d8 (jZ (mv 4) (aU fF fI (mv 5) (mv 3))))
  (ag (aJ (i:=5) eW.nd rfl lc (aU iL mW (mv 5) (mv 3))))))))
  (ag (aB (mv 4)))))))
theorem bB:aA ["_law_script", "_law_most", "_law_way", "_law_many", "_law_tied", "_law_told", "_law_one", "_law_other", "_law_heavy", "_law_levels", "_law_steps", "_law_holders"] ["_law_script", "_law_most"] (av kD):=fsc
theorem uU (F:Fun K "_law_model" "_law_model" kD f fd) (c:mg "range" = none) (j:mg "sum" = none) (h:mg "max" = none) (e:Def P w K mg base "_law_row" 1 4 dw) (b:Def P w K mg base "_law_cell" 1 2 bq):bC P w K mg base CX0 2 f fd ["_law_script", "_law_most"] (spF K jM 2):=bw F bB λ_ _ _ _ _ _ a=>have d:=cy a;(ae (aJ (i:=2) bB.nd rfl lc (ak b a (ad (mv 0) (ad aj au))))
  (ae (aJ (i:=3) bB.nd rfl lc (aU bR cK aj (aU fF fI (aU iL mW (mv 2) aj) (mv 1))))
  (ae (rP (i:=4) bB.nd rfl lc (own:=["_law_one"]) (capn:=["_law_many"]) (caps:=[3]) rfl (bK.a (bI.cons rfl rfl bI.nil)) (cF rfl c (mv 3))
   (λg C s H ex=>⟨(aR (i:=0) (show ((["_law_one"] : List Str)++(["_law_many"] : List Str)).Nodup by decide +kernel) rfl lc),cM,(cx (G4 (dD (ad aj au) (λ_ _ _ _ z=>by rw[(bg cg) _ _ _ _ z];decide)) (mv 1)))⟩))
  (ae (aJ (i:=5) bB.nd rfl lc (ak e a (ad (ak b a (ad (mv 0) (ad aj au))) (ad (mv 2) (ad (aU eM eP (mv 3) (mv 3)) (ad aj au))))))
  (ae (d9 Z4 rfl (cF rfl c (mv 3)) (aR (i:=6) bB.nd rfl lc) (ag (d9 Z4 rfl (cF rfl c (mv 6)) (aR (i:=7) bB.nd rfl lc) (ae (aJ (i:=8) bB.nd rfl lc (Mv rfl rfl h aj (aU eK lh (aC (mv 5) (aU bR cK (aU eM eP (mv 6) (mv 3)) (mv 7)) (λ_ _=>rfl)) aj)))
  (ae (bj (aY (bN d) cJ (aU fF fI (aU iL mW (mv 2) aj) aj) aj (aK _)) (ag (aJ (i:=8) bB.nd rfl lc (Db (dD (ad aj (ad aj (ad aj (ad aj (ad aj (ad aj (ad aj au))))))) (λ_ _ _ _ z=>by rw[(bg (bg (bg (bg (bg (bg (bg cg))))))) _ _ _ _ z];decide)) (aU fF fI (aC (mv 5) (aU bR cK (aU eM eP (mv 6) (mv 3)) (mv 7)) (λ_ _=>rfl)) aj) (λ_ _=>rfl)))) aD)
  (ae (sH (mv 8) (aC (mv 4) (mv 6) (λ_ _=>rfl)) (mv 7))
  (ag (sH (mv 8) (aC (mv 4) (mv 7) (λ_ _=>rfl)) (mv 6)))))))))
  (ae (rP (i:=9) bB.nd rfl lc (own:=["_law_row_here"]) (capn:=[]) (caps:=[]) rfl (bK.a bI.nil) (fv (mv 4))
   (λg C s H ex=>⟨(aR (i:=0) (show ((["_law_row_here"] : List Str)++([] : List Str)).Nodup by decide +kernel) rfl lc),cM,(Bo rfl rfl j (cQ (mv 0)))⟩))
  (ae (bj (aY (bN d) cJ (aU fF fI (aU iL mW (mv 2) aj) aj) aj (aK _)) (ae (aJ (i:=10) bB.nd rfl lc (ak e a (ad (ak b a (ad (mv 0) (ad aj au))) (ad (mv 2) (ad (mv 3) (ad aj au))))))
  (ag (d9 Z4 rfl (cF rfl c (mv 3)) (aR (i:=6) bB.nd rfl lc) (ag (sH (Db (dD (ad (aU eK lh (aC (mv 10) (mv 6) (λ_ _=>rfl)) aj) (ad (aU eK lh (aU bR cK (aC (mv 9) (mv 6) (λ_ _=>rfl)) (aU fF fI (aC (mv 10) (mv 6) (λ_ _=>rfl)) aj)) aj) au)) (λ_ _ _ _ z=>by rw[(bg (bg cg)) _ _ _ _ z];decide)) (aU fF fI (aU iL mW (mv 2) aj) aj) (λ_ _=>rfl)) (mv 9) (mv 6)))))) aD)
  (ae (aJ (i:=11) bB.nd rfl lc (cx (G4 (dD (ad fH au) (λ_ _ _ _ z=>by rw[(bg cg) _ _ _ _ z];decide)) (mv 3))))
  (ae (bj (aY (bN d) cJ (aU fF fI (aU iL mW (mv 2) aj) aj) aj (aK _)) (ae (aJ (i:=5) bB.nd rfl lc (ak e a (ad (ak b a (ad (mv 0) (ad aj au))) (ad (mv 2) (ad (mv 3) (ad aj au))))))
  (ag (rP (i:=11) bB.nd rfl lc (own:=["_law_number"]) (capn:=[]) (caps:=[]) rfl (bK.a bI.nil) (fv (mv 5))
   (λg C s H ex=>⟨(aR (i:=0) (show ((["_law_number"] : List Str)++([] : List Str)).Nodup by decide +kernel) rfl lc),cM,(Db (dD (ad aj (ad aj (ad fH (ad fH (ad fH (ad fH (ad fH au))))))) (λ_ _ _ _ z=>by rw[(bg (bg (bg (bg (bg (bg (bg cg))))))) _ _ _ _ z];decide)) (mv 0) (λ_ _=>rfl))⟩)))) aD)
  (ag (aB (pi (ad (mv 4) (ad (mv 9) (ad (mv 11) au)))))))))))))))
theorem hZ:aA ["_law_model_here", "_law_some", "_law_found", "_law_one"] ["_law_model_here", "_law_some"] (av iX):=fsc
theorem rm (F:Fun K "_law_fitting" "_law_fitting" iX f fd) (a:mg "tuple" = none) (b:mg "range" = none) (d:mg "len" = none):bC P w K mg base CX0 1 f fd ["_law_model_here", "_law_some"] (spF K eT 2):=bw F hZ λ_ _ _ _ _ _ c=>have e:=cy c;(ae (aJ (i:=2) hZ.nd rfl lc (cx (dD au (λ_ _ _ _ z=>by rw[cg _ _ _ _ z];decide))))
  (ae (d9 Z4 rfl (cF rfl b (cE rfl d (cQ (mv 1)))) (aR (i:=3) hZ.nd rfl lc) (ae (d8 (jZ (mv 2) (aC (mv 1) (mv 3) (λ_ _=>rfl))))
  (ag (bj (aY rJ mr (aC (aC (mv 0) aj (λ_ _=>rfl)) (mv 3) (λ_ _=>rfl)) fH (aK _)) (ag (sH (aC (aC (mv 0) aj (λ_ _=>rfl)) (mv 3) (λ_ _=>rfl)) (mv 2) (mv 3))) aD))))
  (ag (aB (gC rfl a (cQ (mv 2)))))))
theorem uV:aA ["_law_one", "_law_other"] ["_law_one", "_law_other"] (av kE):=fsc
theorem uW (F:Fun K "_law_below" "_law_below" kE f fd) (a:mg "range" = none) (d:mg "len" = none):bC P w K mg base CX0 1 f fd ["_law_one", "_law_other"] (spF K gu 2):=bw F uV λ_ _ _ _ _ _ c=>have b:=cy c;(ag (aB (dL (bN b) cJ (cx (cN (own:=["_law_k"]) (capn:=["_law_one", "_law_other"]) (caps:=[0,1]) rfl (bK.a (bI.cons rfl rfl (bI.cons rfl rfl bI.nil))) (cF rfl a (cE rfl d (cQ (mv 0))))
   (λe C s H ex=>⟨(aR (i:=0) (show ((["_law_k"] : List Str)++(["_law_one", "_law_other"] : List Str)).Nodup by decide +kernel) rfl lc),(oj (aY sh pd (aC (mv 1) (mv 0) (λ_ _=>rfl)) (aC (mv 2) (mv 0) (λ_ _=>rfl)) (aK _))),(mv 0)⟩))) (cx (dD au (λ_ _ _ _ z=>by rw[cg _ _ _ _ z];decide))) (aK _))))
theorem dB:aA ["_law_model_here", "_law_many", "_law_lines_here", "_law_one", "_law_other", "_law_heavy", "_law_holder"] ["_law_model_here"] (av l8):=fsc
theorem xU (F:Fun K "_law_text" "_law_text" l8 f fd) (a:mg "str" = none) (c:mg "int" = none) (b:mg "range" = none) (e:mg "len" = none):bC P w K mg base CX0 1 f fd ["_law_model_here"] (spF K lK 1):=bw F dB λ_ _ _ _ _ _ d=>have h:=cy d;(ae (aJ (i:=1) dB.nd rfl lc (cE rfl e (cQ (aC (mv 0) aj (λ_ _=>rfl)))))
  (ae (aJ (i:=2) dB.nd rfl lc (cx (dD (ad (jf (br [112,101,111,112,108,101,32] rfl) (io rfl a (mv 1))) au) (λ_ _ _ _ z=>by rw[(bg cg) _ _ _ _ z];decide))))
  (ae (d9 Z4 rfl (cF rfl b (mv 1)) (aR (i:=3) dB.nd rfl lc) (ag (d9 Z4 rfl (jH rfl b (aU bR cK (mv 3) aj) (mv 1)) (aR (i:=4) dB.nd rfl lc) (ae (aJ (i:=5) dB.nd rfl lc (aC (aC (aC (mv 0) aj (λ_ _=>rfl)) (mv 3) (λ_ _=>rfl)) (mv 4) (λ_ _=>rfl)))
  (ag (bj (aY sh pd (mv 5) aj (aK _)) (ag (d8 (jZ (mv 2) (zz (sp:=[32]) rfl (eQ (dD (ad (br [116,105,101] rfl) (ad (io rfl a (mv 3)) (ad (io rfl a (mv 4)) (ad (io rfl a (mv 5)) au)))) (λ_ _ _ _ z=>by rw[(bg (bg (bg (bg cg)))) _ _ _ _ z];decide))))))) aD))))))
  (ae (aJ (i:=2) dB.nd rfl lc (cx (Jy (mv 2) (cx (cN (own:=["_law_level"]) (capn:=[]) (caps:=[]) rfl (bK.a bI.nil) (fv (aC (mv 0) aj (λ_ _=>rfl)))
   (λg C s H ex=>⟨(aR (i:=0) (show ((["_law_level"] : List Str)++([] : List Str)).Nodup by decide +kernel) rfl lc),cM,(jf (br [98,97,114,32] rfl) (io rfl a (mv 0)))⟩))))))
  (ae (d9 Z4 rfl (fv (aC (mv 0) aj (λ_ _=>rfl))) (aR (i:=6) dB.nd rfl lc) (ag (d8 (jZ (mv 2) (Db (dD (ad (br [102,114,101,101] rfl) (ad (jf (br [115,116,97,121,115,32] rfl) (JR rfl a (mv 6))) au)) (λ_ _ _ _ z=>by rw[(bg (bg cg)) _ _ _ _ z];decide)) (w8 rfl c (dL rJ mr (mv 6) fH (aK _))) (λ_ _=>rfl))))))
  (ag (aB (zz (sp:=[10]) rfl (cQ (mv 2))))))))))
theorem uX:aA ["_law_stand"] ["_law_stand"] (av kF):=fsc
theorem uY (F:Fun K "_law_signs" "_law_signs" kF f fd) (a:mg "str" = none):bC P w K mg base CX0 1 f fd ["_law_stand"] (spF K dR 1):=bw F uX λ_ _ _ _ _ _ b=>have d:=cy b;(ag (aB (Dw rfl (eQ (cN (own:=["_law_held"]) (capn:=[]) (caps:=[]) rfl (bK.a bI.nil) (fv (mv 0))
   (λc C s H ex=>⟨(aR (i:=0) (show ((["_law_held"] : List Str)++([] : List Str)).Nodup by decide +kernel) rfl lc),cM,(io rfl a (mv 0))⟩))))))
theorem xV:aA ["_law_text_here"] ["_law_text_here"] (av l9):=fsc
theorem xW (F:Fun K "_law_read" "_law_read" l9 f fd) (a:mg "tuple" = none) (b:mg "int" = none):bC P w K mg base CX0 1 f fd ["_law_text_here"] (spF K c9 1):=bw F xV λ_ _ _ _ _ _ c=>have e:=cy c;(ag (aB (gC rfl a (eQ (cN (own:=["_law_sign"]) (capn:=[]) (caps:=[]) rfl (bK.a bI.nil) (xq (mv 0))
   (λd C s H ex=>⟨(aR (i:=0) (show ((["_law_sign"] : List Str)++([] : List Str)).Nodup by decide +kernel) rfl lc),cM,(j6 rfl b (mv 0))⟩))))))
theorem mh:aA ["_law_desk", "_law_stand", "_law_turns", "_law_found", "_law_k"] ["_law_desk", "_law_stand", "_law_turns"] (av nN):=fsc
theorem z9 (F:Fun K "_law_run" "_law_run" nN f fd) (c:mg "range" = none) {C:Addr} (T:lC K C) (e:Def P w K mg base "_law_read" 1 1 c9) (b:Dq P w K mg base C "say" 9 2 cu) (d:Def P w K mg base "_law_signs" 1 1 dR):bC P w K mg base CX0 10 f fd ["_law_desk", "_law_stand", "_law_turns"] (spF K kn 3):=bw F mh λ_ _ _ _ _ _ a=>have g:=cy a;(ae (aJ (i:=3) mh.nd rfl lc (cx (dD (ad (mv 1) au) (λ_ _ _ _ z=>by rw[(bg cg) _ _ _ _ z];decide))))
  (ae (d9 Z4 rfl (cF rfl c (mv 2)) (aR (i:=4) mh.nd rfl lc) (ag (d8 (jZ (mv 3) (ak e a (ad (sQ T b (a.mono (by decide)) (mv 0) (ad (jf (br [116,117,114,110,32] rfl) (ak d a (ad (aC (mv 3) j0 (λ_ _=>rfl)) au))) au) oq (by decide)) au))))))
  (ag (aB (mv 3)))))
theorem fS:aA ["_law_model_here", "_law_first", "_law_second", "_law_found", "_law_one", "_law_force"] ["_law_model_here", "_law_first", "_law_second"] (av nO):=fsc
theorem Aa (F:Fun K "_law_sum" "_law_sum" nO f fd) (a:mg "range" = none) (b:mg "len" = none) (e:mg "sum" = none):bC P w K mg base CX0 1 f fd ["_law_model_here", "_law_first", "_law_second"] (spF K ko 3):=bw F fS λ_ _ _ _ _ _ d=>have c:=cy d;(ae (aJ (i:=3) fS.nd rfl lc aj)
  (ae (d9 Z4 rfl (cF rfl a (cE rfl b (cQ (mv 1)))) (aR (i:=4) fS.nd rfl lc) (ae (aJ (i:=3) fS.nd rfl lc (aU bR cK (mv 3) (aU eM eP (aU bR cK (aC (mv 1) (mv 4) (λ_ _=>rfl)) (aC (mv 2) (mv 4) (λ_ _=>rfl))) (aU bR cK (aU eM eP aj (aC (aC (mv 0) aj (λ_ _=>rfl)) (mv 4) (λ_ _=>rfl))) aj))))
  (ag (bj (aY (bN c) cJ (aC (mv 2) (mv 4) (λ_ _=>rfl)) aj (aK _)) (ae (aJ (i:=5) fS.nd rfl lc (Bo rfl rfl e (eQ (cN (own:=["_law_other"]) (capn:=["_law_first", "_law_one", "_law_model_here"]) (caps:=[1,4,0]) rfl (bK.a (bI.cons rfl rfl (bI.cons rfl rfl (bI.cons rfl rfl bI.nil)))) (cF rfl a (cE rfl b (cQ (mv 1))))
   (λg C s H ex=>⟨(aR (i:=0) (show ((["_law_other"] : List Str)++(["_law_first", "_law_one", "_law_model_here"] : List Str)).Nodup by decide +kernel) rfl lc),cM,(aU eM eP (aC (aC (aC (mv 3) aj (λ_ _=>rfl)) (mv 2) (λ_ _=>rfl)) (mv 0) (λ_ _=>rfl)) (aC (mv 1) (mv 0) (λ_ _=>rfl)))⟩)))))
  (ag (aJ (i:=3) fS.nd rfl lc (aU eK lh (aU eK lh (mv 3) (aU eM eP aj (mv 5))) (aU eM eP aj (aC (mv 1) (mv 4) (λ_ _=>rfl))))))) aD))))
  (ag (aB (mv 3)))))
theorem jz:aA ["_law_model_here", "_law_stands", "_law_k", "_law_moved"] ["_law_model_here", "_law_stands"] (av kG):=fsc
theorem uZ (F:Fun K "_law_falls" "_law_falls" kG f fd) (d:mg "range" = none) (b:mg "len" = none) (c:Def P w K mg base "_law_sum" 1 3 ko):bC P w K mg base CX0 2 f fd ["_law_model_here", "_law_stands"] (spF K mD 2):=bw F jz λ_ _ _ _ _ _ a=>have e:=cy a;(ae (d9 Z4 rfl (jH rfl d aj (cE rfl b (cQ (mv 1)))) (aR (i:=2) jz.nd rfl lc) (ae (aJ (i:=3) jz.nd rfl lc (cE rfl b (eQ (cN (own:=["_law_one"]) (capn:=["_law_stands", "_law_k"]) (caps:=[1,2]) rfl (bK.a (bI.cons rfl rfl (bI.cons rfl rfl bI.nil))) (cF rfl d (cE rfl b (cQ (aC (mv 1) (mv 2) (λ_ _=>rfl)))))
   (λg C s H ex=>⟨(aR (i:=0) (show ((["_law_one"] : List Str)++(["_law_stands", "_law_k"] : List Str)).Nodup by decide +kernel) rfl lc),(oj (aY (eR e) gL (aC (aC (mv 1) (mv 2) (λ_ _=>rfl)) (mv 0) (λ_ _=>rfl)) (aC (aC (mv 1) (aU eK lh (mv 2) aj) (λ_ _=>rfl)) (mv 0) (λ_ _=>rfl)) (aK _))),(mv 0)⟩)))))
  (ag (bj (aY sh pd (ak c a (ad (mv 0) (ad (aC (mv 1) (aU eK lh (mv 2) aj) (λ_ _=>rfl)) (ad (aC (mv 1) (mv 2) (λ_ _=>rfl)) au)))) (aU eK lh (ak c a (ad (mv 0) (ad (aC (mv 1) (aU eK lh (mv 2) aj) (λ_ _=>rfl)) (ad (aC (mv 1) (aU eK lh (mv 2) aj) (λ_ _=>rfl)) au)))) (mv 3)) (aK _)) (ag (aB fW)) aD))))
  (ag (aB fW)))
theorem iY:aA ["_law_stands", "_law_words", "_law_turns", "_law_k"] ["_law_stands", "_law_words"] (av jy):=fsc
theorem tY (F:Fun K "_law_is_end" "_law_is_end" jy f fd) (d:mg "len" = none) (e:mg "range" = none) (g:mg "int" = none) (c:Def P w K mg base "_law_read" 1 1 c9):bC P w K mg base CX0 2 f fd ["_law_stands", "_law_words"] (spF K kq 2):=bw F iY λ_ _ _ _ _ _ b=>have a:=cy b;(ae (aJ (i:=2) iY.nd rfl lc (j6 rfl g (aC (mv 1) aj (λ_ _=>rfl))))
  (ae (d9 Z4 rfl (cF rfl e (aU bR cK (mv 2) aj)) (aR (i:=3) iY.nd rfl lc) (ag (bj (aY (eR a) gL (dL (bN a) cJ (aC (mv 0) (mv 3) (λ_ _=>rfl)) (aC (mv 0) (aU bR cK (mv 3) aj) (λ_ _=>rfl)) (aK _)) (dL (bN a) cJ (mv 3) (mv 2) (aK _)) (aK _)) (ag (aB fW)) aD)))
  (ae (bj (aY (bN a) cJ (aC (mv 1) aj (λ_ _=>rfl)) (br [114,101,115,116] rfl) (aK _)) (ag (aB (MB.me (ph (ii (dL (bN a) cJ (cE rfl d (cQ (mv 1))) aj (aK _))) (ph (ii (dL (bN a) cJ (aC (mv 0) (mv 2) (λ_ _=>rfl)) (aC (mv 0) (aU bR cK (mv 2) aj) (λ_ _=>rfl)) (aK _))) (li (ii (dL (bN a) cJ (ak c b (ad (aC (mv 1) aj (λ_ _=>rfl)) au)) (aC (mv 0) (mv 2) (λ_ _=>rfl)) (aK _))))))))) aD)
  (ae (bj (MW.mt (jb (aY (eR a) gL (aC (mv 1) aj (λ_ _=>rfl)) (br [112,97,105,114] rfl) (aK _)) (jb (aY (eR a) gL (cE rfl d (cQ (mv 1))) aj (aK _)) (fu (aY (bN a) cJ (aC (mv 0) (mv 2) (λ_ _=>rfl)) (aC (mv 0) (aU bR cK (mv 2) aj) (λ_ _=>rfl)) (aK _)) (.inr rfl))))) (ag (aB fW)) aD)
  (ag (aB (dL (bN a) cJ (cx (dD (ad (ak c b (ad (aC (mv 1) aj (λ_ _=>rfl)) au)) (ad (ak c b (ad (aC (mv 1) aj (λ_ _=>rfl)) au)) au)) (λ_ _ _ _ z=>by rw[(bg (bg cg)) _ _ _ _ z];decide))) (ot (mv 0) (qH (mv 2)) (qH (aU bR cK (mv 2) aj))) (aK _))))))))
theorem oS:aA ["_law_some", "_law_others"] ["_law_some", "_law_others"] (av gx):=fsc
theorem oT (F:Fun K "_law_all_below" "_law_all_below" gx f fd) (c:mg "range" = none) (e:mg "len" = none) (b:Def P w K mg base "_law_below" 1 2 gu):bC P w K mg base CX0 2 f fd ["_law_some", "_law_others"] (spF K dE 2):=bw F oS λ_ _ _ _ _ _ a=>have d:=cy a;(ag (aB (dL (bN d) cJ (cx (cN (own:=["_law_k"]) (capn:=["_law_some", "_law_others"]) (caps:=[0,1]) rfl (bK.a (bI.cons rfl rfl (bI.cons rfl rfl bI.nil))) (cF rfl c (cE rfl e (cQ (mv 0))))
   (λg C s H ex=>⟨(aR (i:=0) (show ((["_law_k"] : List Str)++(["_law_some", "_law_others"] : List Str)).Nodup by decide +kernel) rfl lc),(oj (cf (bW (ak b a (ad (aC (mv 1) (mv 0) (λ_ _=>rfl)) (ad (aC (mv 2) (mv 0) (λ_ _=>rfl)) au)))))),(mv 0)⟩))) (cx (dD au (λ_ _ _ _ z=>by rw[cg _ _ _ _ z];decide))) (aK _))))
theorem ge:aA ["_law_script", "_law_model_here", "_law_many", "_law_desk", "_law_digits", "_law_start", "_law_above", "_law_words", "_law_turns", "_law_stands", "_law_one", "_law_lower", "_law_later"] ["_law_script"] (av tR):=fsc
theorem M7 (F:Fun K "law" "law" tR f fd) (m:mg "range" = none) (q:mg "min" = none) (k:mg "str" = none) (d:mg "int" = none) (o:mg "len" = none) {C:Addr} (T:lC K C) (h:Def P w K mg base "_law_all_below" 2 2 dE) (e:Def P w K mg base "_law_run" 10 3 kn) (g:Dq P w K mg base C "say" 9 2 cu) (b:Def P w K mg base "_law_cell" 1 2 bq) (y:Def P w K mg base "_law_falls" 2 2 mD) (u:Def P w K mg base "_law_is_end" 2 2 kq) (v:Def P w K mg base "_law_signs" 1 1 dR) (l:Def P w K mg base "_law_fitting" 1 2 eT) (n:Def P w K mg base "_law_row" 1 4 dw) (t:My P w K mg base "Desk" C 7 2 dn) (r:Def P w K mg base "_law_text" 1 1 lK) (x:Def P w K mg base "_law_model" 2 2 jM):bC P w K mg base CX0 11 f fd ["_law_script"] (spF K zQ 1):=bw F ge λ_ _ _ _ _ _ a=>have j:=cy a;(ae (aJ (i:=1) ge.nd rfl lc (ak x a (ad (mv 0) (ad aj au))))
  (ae (aJ (i:=2) ge.nd rfl lc (cE rfl o (cQ (aC (mv 1) aj (λ_ _=>rfl)))))
  (ae (aJ (i:=3) ge.nd rfl lc (Mz T t (a.mono (by decide)) rfl (ad (ak r a (ad (mv 1) au)) au) (id oq )))
  (ae (aJ (i:=4) ge.nd rfl lc (ak n a (ad (ak b a (ad (mv 0) (ad aj au))) (ad (ak b a (ad (mv 0) (ad aj au))) (ad (mv 2) (ad aj au))))))
  (ae (aJ (i:=5) ge.nd rfl lc (ak l a (ad (mv 1) (ad (cx (cN (own:=["_law_number"]) (capn:=[]) (caps:=[]) rfl (bK.a bI.nil) (fv (mv 4))
   (λp C s H ex=>⟨(aR (i:=0) (show ((["_law_number"] : List Str)++([] : List Str)).Nodup by decide +kernel) rfl lc),cM,(w8 rfl d (dL (bN j) cJ (mv 0) aj (aK _)))⟩))) au))))
  (ae (aJ (i:=6) ge.nd rfl lc (ak l a (ad (mv 1) (ad (cx (cN (own:=["_law_number"]) (capn:=[]) (caps:=[]) rfl (bK.a bI.nil) (fv (mv 4))
   (λp C s H ex=>⟨(aR (i:=0) (show ((["_law_number"] : List Str)++([] : List Str)).Nodup by decide +kernel) rfl lc),cM,(w8 rfl d (dL sh pd (mv 0) aj (aK _)))⟩))) au))))
  (ae (aJ (i:=7) ge.nd rfl lc (cx (oy (c:=32) rfl (sQ T g (a.mono (by decide)) (mv 3) (ad (jf (br [101,110,100,101,100,32] rfl) (ak v a (ad (mv 5) au))) au) oq (by decide)))))
  (ae (aJ (i:=8) ge.nd rfl lc (j6 rfl d (aC (mv 7) aj (λ_ _=>rfl))))
  (ae (bj (MW.mt (jb (aY C3 pd (mv 8) aj (aK _)) (fu (aY sh pd (mv 8) aj (aK _)) (.inr rfl)))) (ag (aB fW)) aD)
  (ae (aJ (i:=9) ge.nd rfl lc (ak e a (ad (mv 3) (ad (mv 5) (ad (aU bR cK (mv 8) aj) au)))))
  (ae (bj (MW.mt (jb (cf (bW (ak u a (ad (mv 9) (ad (mv 7) au))))) (fu (cf (bW (ak y a (ad (mv 1) (ad (mv 9) au))))) (.inr rfl)))) (ag (aB fW)) aD)
  (ae (bj (cf (bW (ak h a (ad (mv 9) (ad (ak e a (ad (mv 3) (ad (mv 6) (ad (aU bR cK (mv 8) aj) au)))) au))))) (ag (aB fW)) aD)
  (ae (d9 Z4 rfl (cF rfl m (Mw rfl rfl q aj (mv 2))) (aR (i:=10) ge.nd rfl lc) (ae (aJ (i:=11) ge.nd rfl lc (aU eK lh (aU eK lh (aC (aC (mv 1) aj (λ_ _=>rfl)) (mv 10) (λ_ _=>rfl)) aj) (aU fF fI (ak b a (ad (mv 0) (ad (aU bR cK aj (mv 10)) au))) aj)))
  (ae (bj (aY (eR j) gL (sQ T g (a.mono (by decide)) (mv 3) (ad (jf (jf (jf (br [98,97,114,32] rfl) (io rfl k (mv 10))) (br [32] rfl)) (io rfl k (mv 11))) au) oq (by decide)) (br [111,107] rfl) (aK _)) (ag (aB fW)) aD)
  (ae (aJ (i:=12) ge.nd rfl lc (ak e a (ad (mv 3) (ad (mv 5) (ad (aU bR cK (mv 8) aj) au)))))
  (ae (bj (cf (bW (ak h a (ad (mv 9) (ad (mv 12) au))))) (ag (aB fW)) aD)
  (ag (aJ (i:=9) ge.nd rfl lc (mv 12))))))))
  (ag (aB fW)))))))))))))))
end
theorem Ab {α : Type}(us:List α)(b:us.length=2):∃a x1,us=[a,x1]:=match us,b with | [a,x1],_=>⟨a,x1,rfl⟩
theorem M8 {l:PySem.W.OpenLaw} {w:T6} {K:ZX} {h:Heap} {mg:Str->Option T0} {fa H F:Addr} (X:K.In h) (G:h.Ns mainGlobals mg) (L:mg "law" = some (.ref fa)) (CG:At K "is_whole" nF) (yx:At K "is_between" kr) (yy:At K "is_opinion" ku) (IC:At K "is_tie" tN) (yz:At K "neighbours" kx) (Ay:At K "bars_told" lM) (yA:At K "stays_told" ky) (ID:At K "web_of" tO) (FE:At K "many_of" pQ) (FF:At K "ties_of" pR) (IE:At K "bar_of" tP) (FH:At K "stay_of" pS) (FI:At K "bars_of" pT) (CH:At K "stays_of" nG) (Nw:At K "fits" BW) (ve:At K "check_stand" jv) (Az:At K "ties_once" lN) (AA:At K "is_person" lO) (FJ:At K "pull_at" pU) (FK:At K "next_at" pV) (FL:At K "turn_at" pW) (Nx:At K "turn" BX) (ul:At K "check_person" iW) (CJ:At K "with_bar" nH) (KG:At K "ended" xH) (AB:At K "is_number" lP) (qo:At K "numbers_behind" gv) (AC:At K "read_many" lQ) (vf:At K "is_next_tie" jw) (AD:At K "read_ties" lS) (FM:At K "line_at" pX) (AE:At K "read_bars" lU) (yB:At K "read_stays" kz) (CK:At K "read_web" nI) (yC:At K "show_stand" kA) (yD:At K "read_stand" kB) (CL:At K "words_of" nJ) (CM:At K "thing_of" nK) (yE:At K "is_written" kC) (AF:At K "things_of" lV) (rq:At K "answer_of_end" hV) (nW:At K "answer_of_stands" fK) (IG:At K "answer" tQ) (FN:At K "form_of" pY) (vg:At K "changed_web" jx) (AG:At K "_law_cell" lZ) (CN:At K "_law_row" nM) (yF:At K "_law_model" kD) (um:At K "_law_fitting" iX) (yG:At K "_law_below" kE) (AH:At K "_law_text" l8) (yH:At K "_law_signs" kF) (AI:At K "_law_read" l9) (CO:At K "_law_run" nN) (CP:At K "_law_sum" nO) (yI:At K "_law_falls" kG) (vh:At K "_law_is_end" jy) (qp:At K "_law_all_below" gx) (OU:At K "law" tR) (yJ:Nb K "isinstance") (Ny:Nb K "bool") (OV:Nb K "int") (OW:Nb K "len") (KH:Nb K "tuple") (KI:Nb K "range") (Nz:Nb K "list") (OX:Nb K "all") (IH:Nb K "sorted") (AJ:Nb K "enumerate") (OY:Nb K "sum") (OZ:Nb K "str") (O0:Nb K "zip") (O4:Nb K "max") (O6:Nb K "min") {jC:Tok} (vj:PySem.W.nsIn K mainGlobals "MOST_WEIGHT" = some (some (.int 400 jC))) {fA:Tok} (vk:PySem.W.nsIn K mainGlobals "MOST_PEOPLE" = some (some (.int 30 fA))) {i4:Tok} (uo:PySem.W.nsIn K mainGlobals "MOST_FIGURES" = some (some (.int 60 i4)))
  {C:Addr} (t:PySem.W.nsIn K mainGlobals "Desk" = some (some (.ref C))) (z:PySem.W.plainGet K C Str.empty=true) (E:PySem.W.hasDictIn K C=true) (B:PySem.W.plainOver K C=true) (J:PySem.W.findIn K (.ref C) "__setattr__" = some (some (.builtin "object.__setattr__"))) (D:PySem.W.findIn K (.ref C) "web" = some none) (y:PySem.W.makesIn K C=true) (I:PySem.W.keepIn K (.ref C)=true)
  {qq qt:Option Addr} {qu:Array (Option T0)} {qv qw qx qy Y qz:T0}
  (rA:PySem.W.findIn K (.ref C) "__init__" = some (some (.ref H))) (a:PySem.W.isFn K (.ref H)=true) (rC:K.lookup H=some ⟨qv,qq,.func (PySem.W.fnOf "__init__" "Desk.__init__" (eF dq) (du dq) (av dq) .none qw qx qy qt Y qz),qu⟩) (ia:PySem.W.codeIn K Y "Desk.__init__" = true) (rE:PySem.W.keepIn K (.ref H)=true)
  {AK AL:Option Addr} {AM:Array (Option T0)} {AN AO AQ AR qV AS:T0}
  (CQ:PySem.W.findIn K (.ref C) "say" = some (some (.ref F))) (i:PySem.W.isFn K (.ref F)=true) (CS:K.lookup F=some ⟨AN,AK,.func (PySem.W.fnOf "say" "Desk.say" (eF gw) (du gw) (av gw) .none AO AQ AR AL qV AS),AM⟩) (gy:PySem.W.codeIn K qV "Desk.say" = true) (uq:PySem.W.keepIn K (.ref F)=true)
  {qj:Tok} (FO:PySem.W.nsIn K mainGlobals "FIGURES" = some (some (.str (PySem.Str.ofString "0123456789") qj)))
  {d:Addr} (KJ:PySem.W.nsIn K mainGlobals "STAYS" = some (some (.ref d))) (k:sU K d [([102,114,101,101],none),([115,116,97,121,115,32,48],some 0),([115,116,97,121,115,32,49],some 1)])
  {g:Addr} (KK:PySem.W.nsIn K mainGlobals "FORMS" = some (some (.ref g))) (j:xu K g fJ):∃fd:FuncData,(∀(s:T3) (v:T0),BindsTo s fd ⟨[v],[]⟩ [("_law_script",v)])/\∀base:Heap,K.In base->base.Ns mainGlobals mg->bC l.prog w K mg base CX0 11 fa fd ["_law_script"] (spF K zQ 1):=by
 obtain⟨f,od,NA,sl,oc,NB,NC,ND,NF,NG,e,O7,O8,O9⟩:=OU;have e:=L.symm.trans (XI X G e);cases e;have Pa:=wX (st:=tR) O7 O8 O9;have n:=YA X G yJ;have Cy:=YA X G Ny;have o:=YA X G OV;have b:=YA X G OW;have m:=YA X G KH;have c:=YA X G KI;have A:=YA X G Nz;have u:=YA X G OX;have uh:=YA X G IH;have mi:=YA X G AJ;have Q:=YA X G OY;have p:=YA X G OZ;have Av:=YA X G O0;have IA:=YA X G O4;have IB:=YA X G O6;have jD:=XI X G vj;have eD:=XI X G vk;have i5:=XI X G uo;have ql:=XI X G FO;have sd:=XI X G KJ;have W:=XI X G KK;have T:lC K C:=⟨t,⟨z,E,B,J⟩,D⟩;have kQ:=wX (st:=dq) rC ia rE;have rF:=kQ.binds (ps:=["self", "text"]) λ_ _ _ _ _ _ R M=>by obtain⟨_,_,rfl⟩:=Ab R M;rfl
 have ur:=wX (st:=gw) CS gy uq;have CT:=ur.binds (ps:=["self", "row"]) λ_ _ _ _ _ _ R M=>by obtain⟨_,_,rfl⟩:=Ab R M;rfl
 refine⟨PySem.W.fnOf "law" "law" (eF tR) (du tR) (av tR) .none NB NC ND NA NF NG,λs v=>.of_eq rfl,λbase KB _ => ?_⟩;have q:En l.prog w K mg base:=⟨h,X,G⟩;have ut:=CG.df1 q λU=>zS U n Cy o;have r:=yx.df3 q λU=>uI U ut;have o3:=yy.df1 q λU=>uK U r;have AT:=IC.df2 q λU=>E3 U b n m jD r;have yK:=yz.df2 q λU=>uL U c n A AT;have AU:=Ay.df2 q λU=>xJ U m u b n A ut;have yL:=yA.df2 q λU=>uN U m u b n A c o3;have AV:=ID.df4 q λU=>E4 U m uh eD yL AU yK r;have x:=FE.df1 q λU=>BZ U b;have wI:=FF.df2 q λU=>B3 U;have II:=IE.df2 q λU=>E6 U;have wJ:=FH.df2 q λU=>B5 U;have FP:=FI.df1 q λU=>B7 U A;have CU:=CH.df1 q λU=>zU U A;have NJ:=Nw.df2 q λU=>J6 U mi b n m wJ o3 x;have O:=ve.df2 q λU=>tT U NJ;have AW:=Az.df1 q λU=>xK U c x wI;have qW:=AA.df2 q λU=>xM U r x;have FQ:=FJ.df3 q λU=>B9 U Q wI;have FR:=FK.df3 q λU=>Ca U II FQ wJ;have wK:=FL.df2 q λU=>Cc U m c x FR;have NK:=Nx.df2 q λU=>J8 U wK O;have uv:=ul.df2 q λU=>rl U qW;have CV:=CJ.df3 q λU=>zV U AV CU AW x FP uv;have KL:=KG.df2 q λU=>HK U b wK O;have Z:=AB.df1 q λU=>xN U u b ql i5 r;have N:=qo.df2 q λU=>oQ U o u Z;have AX:=AC.df1 q λU=>xO U b eD r N;have vm:=vf.df2 q λU=>tV U;have AY:=AD.df2 q λU=>xP U c b m vm AT N;have V:=FM.df2 q λU=>Ce U b;have AZ:=AE.df3 q λU=>xQ U c b N V;have yM:=yB.df3 q λU=>uO U c sd k V;have CW:=CK.df1 q λU=>zW U b n p AV yM AZ AY AX;have o4:=yC.df1 q λU=>uQ U p;have yN:=yD.df2 q λU=>uR U m o u n p O;have rG:My l.prog w K mg base "Desk" C 7 2 dn:=⟨XI X G t,H,_,_,⟨y,rA,a,I⟩,rF,p6 (P:=l.prog) (w:=w) (base:=base) kQ T CW⟩;have CY:=CL.df1 q λU=>zY U n p;have CZ:=CM.df3 q λU=>z6 U o yN;have yO:=yE.df2 q λU=>uT U Z;have A0:=AF.df3 q λU=>xR U Av o CZ qW yO;have rH:=rq.df1 q λU=>p7 U o4;have nX:=nW.df3 q λU=>mM U rH KL o4 NK;have IJ:=IG.df3 q λU=>E8 U W j nX;have FT:=FN.df1 q λU=>Cg U b W j;have vn:=vg.df3 q λU=>tX U CV;have uw:Dq l.prog w K mg base C "say" 9 2 cu:=⟨F,_,_,⟨CQ,i,uq⟩,CT,z7 (P:=l.prog) (w:=w) (base:=base) ur T IJ vn A0 FT CY⟩;have qY:=AG.df2 q λU=>xT U b;have ux:=CN.df4 q λU=>z8 U c;have yP:=yF.df2 q λU=>uU U c Q IA ux qY;have uy:=um.df2 q λU=>rm U m c b;have yQ:=yG.df2 q λU=>uW U c b;have A1:=AH.df1 q λU=>xU U p o c b;have o5:=yH.df1 q λU=>uY U p;have S:=AI.df1 q λU=>xW U m o;have C0:=CO.df3 q λU=>z9 U c T S uw o5;have C1:=CP.df3 q λU=>Aa U c b Q;have yR:=yI.df2 q λU=>uZ U c b C1;have vq:=vh.df2 q λU=>tY U b c o S;have qA:=qp.df2 q λU=>oT U c b yQ;exact M7 (P:=l.prog) (w:=w) (base:=base) Pa c IB p o b T qA C0 uw qY yR vq o5 uy ux rG A1 yP
end Fm
namespace Fm
def dg (n:Nat):List Nat:=(Nat.toDigits 10 n).map Char.toNat
variable {n:Nat}
theorem gX (h:n < 10):dg n=[48 + n]:=by
 have:n=0\/n=1\/n=2\/n=3\/n=4\/n=5\/n=6\/n=7\/n=8\/n=9:=by omega
 rcases this with e|e|e|e|e|e|e|e|e|e<;>subst e<;>rfl
theorem dgc (h:n < 10):(n.digitChar).toNat=48 + n:=by
 have:=gX h;rw[dg,Nat.toDigits_of_lt_base h]at this;simpa using this
theorem xX (h:10<=n):dg n=dg (n / 10)++[48 + n % 10]:=by
 rw[dg,Nat.toDigits_of_base_le (by omega) h,ZR,x3,YY,dgc (Nat.mod_lt _ (by omega)),dg]
theorem HL (n:Nat)(h:n < 10 ^ 60):1<=(dg n).length/\(dg n).length<=60:=by
 rw[dg,ZA];exact⟨Nat.length_toDigits_pos,(Nat.length_toDigits_le_iff (by omega) (by omega)).mpr h⟩
theorem tZ (n:Nat):∀c∈dg n,48<=c/\c<=57:=by
 induction n using Nat.strongRecOn with
 | ind n ih =>
  intro c hc
  by_cases h:n < 10
  ·rw[gX h]at hc;simp at hc;omega
  ·rw[xX (by omega)]at hc
   rcases List.mem_append.mp hc with hc|hc
   ·exact ih (n / 10) (by omega) c hc
   ·simp at hc;omega
theorem HM (n:Nat):EA (dg n)=n:=by
 induction n using Nat.strongRecOn with
 | ind n ih =>
  by_cases h:n < 10
  ·rw[gX h];simp[EA]
  ·rw[xX (by omega),EA,List.foldl_append]
   have:=ih (n / 10) (by omega);rw[EA]at this;rw[this];simp;omega
theorem xY (n:Nat):∃c r,dg n=c :: r/\(n≠0->c≠48)/\(n=0->c=48/\r=[]):=by
 induction n using Nat.strongRecOn with
 | ind n ih =>
  by_cases h:n < 10
  ·exact⟨48 + n,[],gX h,λz=>by omega,λz=>⟨by omega,rfl⟩⟩
  ·obtain⟨c,r,e,a,_⟩:=ih (n / 10) (by omega)
   exact⟨c,r++[48 + n % 10],by rw[xX (by omega),e];rfl,λ_=>a (by omega),λz=>by omega⟩
theorem DQ (n:Nat):Ez (dg n)=true:=by
 obtain⟨c,r,e,_⟩:=xY n;have:=tZ n;simp only[Ez,Z3,List.all_eq_true,YH];exact⟨by rw[e];rfl,this⟩
def tx (i:Int):List Nat:=mQ (toString i)
theorem t5 (n:Nat):tx (n:Int)=dg n:=by
 have e:toString (n:Int)=n.repr:=by rw[Int.toString_eq_repr,Int.repr_eq_if,z4 (by omega),WE]
 rw[tx,mQ,e,Nat.repr_eq_ofList_toDigits,String.toList_ofList,dg]
theorem M9 (h:0 < n):tx (-(n:Int))=45 :: dg n:=by
 have e:toString (-(n:Int)) = "-" ++ n.repr:=by rw[Int.toString_eq_repr,Int.repr_eq_if,z5 (by omega)];congr 2;omega
 rw[tx,mQ,e,String.toList_append,Nat.repr_eq_ofList_toDigits,dg,ZR];simp only[String.toList_ofList];rfl
theorem t6 (i:Int):tx i=dg i.natAbs/\0<=i\/tx i=45 :: dg i.natAbs/\i < 0:=by
 by_cases h:0<=i
 ·refine .inl ⟨?_,h⟩
  have:=t5 i.natAbs;rwa[show ((i.natAbs:Nat):Int)=i by omega]at this
 ·refine .inr ⟨?_,by omega⟩
  have:=M9 (n:=i.natAbs) (by omega);rwa[show -((i.natAbs:Nat):Int)=i by omega]at this
theorem HN (i:Int):∀c∈tx i,c=45\/(48<=c/\c<=57):=by
 intro c hc;rcases t6 i with ⟨e,_⟩|⟨e,_⟩<;>rw[e]at hc
 ·exact .inr (tZ _ c hc)
 ·rcases Y6.mp hc with z|hc
  ·exact .inl z
  ·exact .inr (tZ _ c hc)
theorem dF (i:Int)(h:i.natAbs < 10 ^ 60):1<=(tx i).length/\(tx i).length<=61:=by
 have:=HL _ h;rcases t6 i with ⟨e,_⟩|⟨e,_⟩<;>rw[e]
 ·omega
 ·simp;omega
theorem kJ (i:Int):nh (tx i)=some i:=by
 rcases t6 i with ⟨e,h⟩|⟨e,h⟩<;>rw[e]
 ·obtain⟨c,r,q,_⟩:=xY i.natAbs
  have f:=tZ i.natAbs c (by rw[q];simp);have g:=DQ i.natAbs;have v:=HM i.natAbs;rw[q]at g v ⊢;rw[nh,z5 (by omega),z4 g,v];congr 1;omega
 ·rw[nh,z4 rfl,z4 (DQ _),HM]
  congr 1;omega
theorem HP {i:Int}(h:i.natAbs < 10 ^ 60):i.natAbs.log2 < 1920:=by
 by_cases z:i.natAbs=0
 ·rw[z];decide
 ·exact(Nat.log2_lt z).mpr (v3 h (ZM (show 10 ^ 60<=2 ^ 200 by decide) (Nat.pow_le_pow_right (by decide) (by decide))))
variable {h h1:Hd}{σ:Sd}
theorem jA {a:EF}{i:Int}(p:a σ h=.ok (.int i) h1)(b:i.natAbs < 10 ^ 60):fw a σ h=.ok (.str (tx i)) h1:=by
 show Res.bind _ _=_;rw[p];exact z4 (HP b)
theorem mT {a:EF}{r:JF}{out y:List Nat}{o:Res D}(p:a σ h=.ok (.str y) h1)(b:out.length + y.length<=1000000)(q:r (out++y) σ h1=o):fj a r out σ h=o:=by
 show Res.bind _ _=_;rw[p];exact(z4 b).trans q
theorem K4 {out:List Nat}(b:out.length<=1000000):Bw out σ h=.ok (.str out) h:=z4 b
theorem K5 {r:JF}{o:Res D}(p:r [] σ h=o):fFs r σ h=o:=p
theorem gH {a b:EF}{c:Hd}{x y:List Nat}(p:a σ h=.ok (.str x) h1)(q:b σ h1=.ok (.str y) c)(l:x.length + y.length<=1000000):af dj a b σ h=.ok (.str (x++y)) c :=
 ah p q (z4 l)
theorem p8:∀l:List (List Nat),jJ (l.map D.str)=some l
 | []=>rfl
 | x :: l=>by simp only[x3,jJ,p8 l,YU]
theorem oU {k:Nat}:∀{l:List (List Nat)},(∀x∈l,x.length<=k)->(l.map (·.length)).sum<=k * l.length
 | [],_=>by simp
 | x :: l,h=>by
  have b:=h x (by simp);have c:=oU (l:=l) λy a=>h y (by simp[a]);have e:k * (x :: l).length=k * l.length + k:=by rw[y4,Nat.mul_succ]
  rw[x3,YJ,e];omega
theorem Ac {sp:Nat}{a:LF}{L:List (List Nat)}(p:a σ h=.ok (L.map D.str) h1)(b:∀x∈L,x.length<=200)(l:L.length<=1100):pC [sp] a σ h=.ok (.str (bD [sp] L)) h1:=by
 have:=oU b;show Res.bind _ _=_;rw[p];show (match jJ (L.map D.str) with|some ss=>_|none=>_)=_;rw[p8];exact z4 (by simp only[y4,Z0];omega)
abbrev jp:List Nat:=[112,101,111,112,108,101]
abbrev Na:List Nat:=[116,105,101]
abbrev u4:List Nat:=[98,97,114]
def line (w:List Nat) (l:List Int):List Nat:=bD [32] (w :: l.map tx)
def kU (t:Tie):List Nat:=line Na [(t.a:Int),t.b,t.w]
def nP (b:Int):List Nat:=line u4 [b]
def el:Option Int->List Nat
 | none=>[102,114,101,101]
 | some x=>[115,116,97,121,115,32]++tx x
def cr (n:Nat) (T:List Tie) (bs:List Int) (ss:List (Option Int)):List (List Nat):=line jp [(n:Int)] :: (T.map kU++(bs.map nP++ss.map el))
theorem big {i:Int}(a:0<=i)(h1:i<=400):i.natAbs < 10 ^ 60:=ZS (show i.natAbs<=400 by omega) (by decide)
structure TS (n:Nat) (t:Tie):Prop where
 a:(t.a:Int).natAbs < 10 ^ 60
 b:(t.b:Int).natAbs < 10 ^ 60
 w:t.w.natAbs < 10 ^ 60
variable {T:List Tie}
theorem K6 (a:n<=30)(O:TOk n n 0 T){t:Tie}(ht:t∈T):TS n t:=by
 have b:=O.lt t ht;have c:=O.wt t ht;exact⟨big (by omega) (by omega),big (by omega) (by omega),big (by omega) (by omega)⟩
theorem HQ {t:Tie}(h:TS n t):(kU t).length<=200:=by
 have b:=dF _ h.a;have c:=dF _ h.b;have a:=dF _ h.w;simp only[kU,line,bD,x3,YY,ZB,y4,Z0];omega
theorem HR {b:Int}(h:b.natAbs < 10 ^ 60):(nP b).length<=200:=by
 have a:=dF _ h;simp only[nP,line,bD,x3,YY,ZB,y4,Z0];omega
theorem E9 {b:Int}(h:b.natAbs < 10 ^ 60):(line jp [b]).length<=200:=by
 have a:=dF _ h;simp only[line,bD,x3,YY,ZB,y4,Z0];omega
theorem Fc {o:Option Int}(h:o=none\/o=some 0\/o=some 1):(el o).length<=200:=by
 rcases h with e|e|e<;>subst e<;>decide +kernel
theorem wy {bs:List Int}{ss:List (Option Int)}(d:n<=30)(O:TOk n n 0 T)(lb:bs.length=n)(ls:ss.length=n)(os:∀x∈ss,x=none\/x=some 0\/x=some 1)(bb:∀b∈bs,b.natAbs < 10 ^ 60) :
  (∀x∈cr n T bs ss,x.length<=200)/\(cr n T bs ss).length<=1100:=by
 have f:=O.len;constructor
 ·intro x a
  unfold cr at a;rcases Y6.mp a with e|a
  ·rw[e];exact E9 (big (by omega) (by omega))
  ·rcases List.mem_append.mp a with a|a
   ·obtain⟨t,c,rfl⟩:=List.mem_map.mp a
    exact HQ (K6 d O c)
   ·rcases List.mem_append.mp a with a|a
    ·obtain⟨t,c,rfl⟩:=List.mem_map.mp a
     exact HR (bb t c)
    ·obtain⟨t,c,rfl⟩:=List.mem_map.mp a
     exact Fc (os t c)
 ·simp only[cr,y4,ZB,ZA]
  omega
theorem DR {c d:ca}{g:Hd}:(h++c :: g).set h.length d=h++d :: g:=by
 rw[List.set_append_right _ _ (ZL _),Nat.sub_self];rfl
theorem Ad {c d:ca}{g k:Hd}:((h++c :: g)++k).set h.length d=h++d :: (g++k):=by
 rw[ZU,WJ,DR]
theorem iC {c:ca}{g:Hd}:(h++c :: g)[h.length]? = some c:=by
 rw[ZD (ZL _),Nat.sub_self];rfl
theorem HS {t:Tie}:t∈oM n T ↔ t.a < n/\t.a < t.b/\(t.b,t.w)∈nbs T t.a:=by
 have b:∀{i:Nat},i < n->(((List.range n).map λi=>cO (nbs T i)).getD i [])=cO (nbs T i):=λ{i} hi=>by simp[List.getD,hi]
 unfold oM;rw[jN];constructor
 ·rintro⟨a,d,c⟩
  rw[b a,eB]at c;exact⟨a,d,c⟩
 ·rintro⟨a,d,c⟩
  exact⟨a,d,by rw[b a,eB];exact c⟩
def oV (s t:Tie):Prop:=s.a < t.a\/(s.a=t.a/\s.b < t.b)
theorem t7 {R:List (List (Nat × Int))}(c:∀i,(R.getD i []).Pairwise (λa b=>a.1 < b.1)):∀k,(fQ R k).Pairwise oV
 | 0=>by simp[fQ]
 | k + 1=>by
  rw[fQ,X0];refine⟨t7 c k,?_,λs d t e => ?_⟩
  ·unfold gl
   rw[XE];exact((c k).filter _).imp λh=>.inr ⟨rfl,h⟩
  ·obtain⟨g,_,_⟩:=jN.mp d
   obtain⟨f,_,_⟩:=pM.mp e;exact .inl (by omega)
theorem Fd (O:TOk n n 0 T):(oM n T).Pairwise oV:=by
 unfold oM;refine t7 (λi => ?_) n
 by_cases hi:i < n
 ·have:(((List.range n).map λi=>cO (nbs T i)).getD i [])=cO (nbs T i):=by simp[List.getD,hi]
  rw[this];exact iT (lI O.un i)
 ·have:(((List.range n).map λi=>cO (nbs T i)).getD i [])=[]:=by simp[List.getD,hi]
  rw[this];exact .nil
theorem Fe {bs:List Int}(bb:∀b∈bs,b.natAbs < 10 ^ 60){k:Nat}(i:h[k]? = some (.lst (bs.map .int))) :
  cI (some k) (bs.map .int) (gN 0) [] (af dj (fC (.str [98,97,114,32])) (fw (aa 0))) (bs.map .int) [none] h=.ok ((bs.map nP).map D.str) h:=by
 have:=bA (g:=some k) (all:=bs.map .int) (tg:=gN 0) (cs:=[]) (e:=af dj (fC (.str [98,97,114,32])) (fw (aa 0))) (h:=h) (I:=λσ=>∃a,σ = [a]) (λ_=>true)
  (λd=>match d with | .int a=>.str (line u4 [a])|_=>.non) i (xs:=bs.map .int) (σ:=[none]) (by
  rintro x f σ ⟨a,rfl⟩;obtain⟨t,c,rfl⟩:=List.mem_map.mp f;have j:=dF _ (bb t c);exact⟨_,rfl,⟨_,rfl⟩,rfl,λ_=>(gH (x:=[98,97,114,32]) (y:=tx t) rfl (jA rfl (bb t c)) (by simp;omega)).trans rfl⟩) ⟨_,rfl⟩
 rw[this,List.filter_eq_self.mpr (by simp),Z7,Z7];rfl
variable {l:List D}
theorem J9 {a b:EF}{c:Hd}{m:Nat}{k:List D}(p:a σ h=.ok (.ref n) h1)(q:b σ h1=.ok (.ref m) c)(d:c[n]? = some (.lst l))(e:c[m]? = some (.lst k))(z:l.length + k.length<=SZ):vN a b σ h=.ok (l++k) c:=by
 show Res.bind _ _=_;rw[p,ay,q,ay];simp only[d,e];exact z4 z
inductive LI (told:D) (n tk bk sk qk A B:Nat) (h0 g:Hd) (P:List (List Nat)) (ss:List (Option Int)):Nat->Sd->Hd->Prop
 | mk {i:Nat} {y:Option D}:LI told n tk bk sk qk A B h0 g P ss i [some told,some (.int n),some (.ref tk),some (.ref bk),some (.ref sk),some (.ref qk),some (.ref B),some (.ref (A + 2)),y] (h0++g++[.lst ((P++(ss.take i).map el).map D.str)])
theorem Ka (a b:List Nat)(h:Hd):oNe (.str a) (.str b) h=.ok (.bl (!decide (a=b))) h:=rfl
theorem xZ (a b:List Nat)(h:Hd):oEq (.str a) (.str b) h=.ok (.bl (decide (a=b))) h:=rfl
theorem mE {a b:EF}{c:Hd}{l k:List Nat}(p:a σ h=.ok (.str l) h1)(q:b σ h1=.ok (.str k) c):j8 a b σ h=.ok (.bl (decide (k.length<=l.length) && (l.take k.length == k))) c:=by
 show Res.bind _ _=_;rw[p,ay];show Res.bind _ _=_;rw[q];rfl
theorem Ae {a:EF}{l:List Nat}(p:a σ h=.ok (.str l) h1)(q:l.length<=1000000/\l.all (· < 128)=true):sS a σ h=.ok (l.map λc=>D.str [c],none) h1:=by
 show Res.bind _ _=_;rw[p,ay];exact z4 q
theorem Kb {a:EF}{l:List Nat}(p:a σ h=.ok (.str l) h1)(q:l.length<=1000000):Dv a σ h=.ok (.int l.length) h1:=by
 show Res.bind _ _=_;rw[p,ay];exact z4 q
abbrev FG:List Nat:=[48,49,50,51,52,53,54,55,56,57]
theorem Nc {c:Nat}(h:48<=c/\c<=57):c∈FG:=by
 have:c=48\/c=49\/c=50\/c=51\/c=52\/c=53\/c=54\/c=55\/c=56\/c=57:=by omega
 rcases this with e|e|e|e|e|e|e|e|e|e<;>subst e<;>decide
theorem Kc {l:List Nat}(f:∀c∈l,48<=c/\c<=57)(h:Hd):cI none (l.map λc=>D.str [c]) (gN 0) [] (af EG (aa 0) (fC (.str FG))) (l.map λc=>D.str [c]) [none] h=.ok ((l.map λc=>D.str [c]).map λ_=>D.bl true) h:=by
 have:=bA (g:=none) (all:=l.map λc=>D.str [c]) (tg:=gN 0) (cs:=[]) (e:=af EG (aa 0) (fC (.str FG))) (h:=h) (I:=λσ=>∃a,σ = [a]) (λ_=>true) (λ_=>.bl true) trivial (xs:=l.map λc=>D.str [c]) (σ:=[none]) (by
  rintro x b σ ⟨a,rfl⟩;obtain⟨c,hc,rfl⟩:=List.mem_map.mp b;refine⟨_,rfl,⟨_,rfl⟩,rfl,λ_=>ah rfl rfl ?_⟩;show Res.ok (D.bl (decide (c∈FG))) h=_;rw[x6 (Nc (f c hc))]) ⟨_,rfl⟩
 rw[this,List.filter_eq_self.mpr (by simp)]
theorem oW {i:Int}(b:i.natAbs < 10 ^ 60)(h:Hd):dz [.str (tx i)] h=.ok (.bl true) h:=by
 obtain⟨l,g⟩ : ∃l,l=dg i.natAbs:=⟨_,rfl⟩;have k:=HL _ b;have d:=tZ i.natAbs;obtain⟨c,r,f,v,s⟩:=xY i.natAbs;rw[<-g]at k d f;have x:=d c (by rw[f];simp);have u:aH (gN 1) (fIf (tE (j8 (aa 0) (fC (.str [45])))) (rS (aa 0) (pAt (fC (.int 1))) pNo) (aa 0)) [some (.str (tx i)),none] h=.nx [some (.str (tx i)),some (.str l)] h:=by
  rcases t6 i with ⟨e,z⟩|⟨e,z⟩
  ·rw[<-g]at e
   rw[e];refine aF ((xz (aT ((mE rfl rfl).trans ?_))).trans rfl);rw[f];have:((c :: r).take [45].length == [45])=false:=by
    have:c≠45:=by omega
    simp[this]
   rw[this,Bool.and_false]
  ·rw[<-g]at e
   rw[e];refine aF ((BE (h1:=h) (aT ((mE rfl rfl).trans ?_))).trans ?_)
   ·simp
   ·show (if (45 :: l).length<=1000000 then (match Bz (45 :: l) (some 1) none with|some y=>Res.ok (D.str y) h|none=>.bad) else .bad)=_
    rw[z4 (by simp;omega)];have:Bz (45 :: l) (some 1) none=some l:=by
     show (if (0:Int)<=1/\(1:Int)<=(45 :: l).length then some (List.drop 1 (45 :: l)) else none)=_;rw[z4 (by simp only[y4];omega)];rfl
    rw[this]
 have m:sIf (cX (tE (am bo (ab (Dv (aa 1)) (ab (fC (.int 1)) (ab (fC (.int 60)) ao)))))) (aW (fC (.bl false))) bc [some (.str (tx i)),some (.str l)] h=.nx [some (.str (tx i)),some (.str l)] h :=
  cn (bX (b:=true) (aT (aw (ar (Kb rfl (by omega)) (ar rfl (ar rfl rfl))) (by rw[c8,x6 (by omega),x6 (by omega)];rfl))))
 have t:sIf (cX (tE (sE (bM 1 [] (sS (aa 1)) (gN 0) [] (af EG (aa 0) (fC (.str FG))))))) (aW (fC (.bl false))) bc [some (.str (tx i)),some (.str l)] h=.nx [some (.str (tx i)),some (.str l)] h:=by
  have o:((l.map λc=>D.str [c]).map λ_=>true).all id=true:=by simp
  exact cn (bX (b:=true) (aT ((tw (cG (Ae rfl ⟨by omega,List.all_eq_true.mpr λc hc=>by have:=d c hc;simp;omega⟩) (Kc d h)) mB).trans (by rw[o]))))
 have n:aW (fT (tOr (tE (af oNe (JG (aa 1) (fC (.int 0))) (fC (.str [48])))) (tE (af oEq (aa 0) (fC (.str [48])))))) [some (.str (tx i)),some (.str l)] h=.rt (.bl true) h:=by
  have a:JG (aa 1) (fC (.int 0)) [some (.str (tx i)),some (.str l)] h=.ok (.str [c]) h:=by
   refine ah rfl rfl ?_;rw[f]at k ⊢;show (if (c :: r).length<=1000000 then (match ixN (c :: r).length 0 with|some j=>(match (c :: r)[j]? with|some c=>Res.ok (D.str [c]) h|none=>.bad)|none=>.bad) else .bad)=_;have w:ixN (c :: r).length 0=some 0:=by simp[ixN]
   rw[z4 (by omega),w];rfl
  by_cases z:i.natAbs=0
  ·obtain⟨p,A⟩:=s z
   have e:tx i=[48]:=by
    have:i=0:=by omega
    subst this;rcases t6 0 with ⟨e,_⟩|⟨_,q⟩
    ·exact e
    ·omega
   refine aV (oz (gj (b:=true) (h1:=h) (aT (ah a rfl ?_)) (aT (ah rfl rfl ?_))))
   ·rw[Ka,p];rfl
   ·rw[xZ,e];rfl
  ·refine aV (oz (xx (aT (ah a rfl ?_))))
   rw[Ka,wL (λq=>v z (by simpa using q))];rfl
 exact(bJ rfl rfl ((cH u).trans ((cH m).trans ((cH t).trans n)))).trans aQ
theorem t8 {α : Type}(l:List α):kO (l.map λ_=>D.bl true)=some (l.map λ_=>true):=mB
variable {ns:List Int}
theorem HU (b:∀i∈ns,i.natAbs < 10 ^ 60){k:Nat}(f:h[k]? = some (.lst ((ns.map tx).map D.str))):cI (some k) ((ns.map tx).map D.str) (gN 0) [] (am dz (ab (aa 0) ao)) ((ns.map tx).map D.str) [none] h=.ok (((ns.map tx).map D.str).map λ_=>D.bl true) h:=by
 have:=bA (g:=some k) (all:=(ns.map tx).map D.str) (tg:=gN 0) (cs:=[]) (e:=am dz (ab (aa 0) ao)) (h:=h) (I:=λσ=>∃a,σ = [a]) (λ_=>true) (λ_=>.bl true) f (xs:=(ns.map tx).map D.str) (σ:=[none]) (by
  rintro x d σ ⟨a,rfl⟩;obtain⟨c,hc,rfl⟩:=List.mem_map.mp d;obtain⟨i,hi,rfl⟩:=List.mem_map.mp hc;exact⟨_,rfl,⟨_,rfl⟩,rfl,λ_=>aw (ar rfl rfl) (oW (b i hi) h)⟩) ⟨_,rfl⟩
 rw[this,List.filter_eq_self.mpr (by simp)]
theorem mF {a:EF}{l:List Nat}{n:Int}(p:a σ h=.ok (.str l) h1)(q:l.length<=600)(r:nh l=some n):gM a σ h=.ok (.int n) h1:=by
 show Res.bind _ _=_;rw[p,ay];show (if l.length<=600 then (match nh l with|some n=>Res.ok (D.int n) h1|none=>.bad) else .bad)=_;rw[z4 q,r]
theorem Fh (b:∀i∈ns,i.natAbs < 10 ^ 60){k:Nat}(j:h[k]? = some (.lst ((ns.map tx).map D.str))):cI (some k) ((ns.map tx).map D.str) (gN 0) [] (gM (aa 0)) ((ns.map tx).map D.str) [none] h=.ok (ns.map .int) h:=by
 have:=bA (g:=some k) (all:=(ns.map tx).map D.str) (tg:=gN 0) (cs:=[]) (e:=gM (aa 0)) (h:=h) (I:=λσ=>∃a,σ = [a]) (λ_=>true) (λd=>match d with | .str l=>(match nh l with|some n=>.int n|none=>.non)|_=>.non) j (xs:=(ns.map tx).map D.str) (σ:=[none]) (by
  rintro x f σ ⟨a,rfl⟩;obtain⟨c,hc,rfl⟩:=List.mem_map.mp f;obtain⟨i,hi,rfl⟩:=List.mem_map.mp hc;have l:=dF _ (b i hi);refine⟨_,rfl,⟨_,rfl⟩,rfl,λ_=>(mF rfl (by omega) (kJ i)).trans ?_⟩;show _=Res.ok (match nh (tx i) with|some n=>D.int n|none=>.non) h;rw[kJ]) ⟨_,rfl⟩
 rw[this,List.filter_eq_self.mpr (by simp),Z7,Z7];congr 1;apply YE;intro i _;show (match nh (tx i) with|some n=>D.int n|none=>.non)=.int i;rw[kJ]
theorem mG {i:Int}{c:Nat}(h:c≠45)(a : ¬(48<=c/\c<=57)):c∉tx i:=λz=>by
 rcases HN i c z with e|e
 ·exact h e
 ·exact a e
theorem mH {sp:Nat}:∀{L:List (List Nat)},(bD [sp] L).length<=(L.map (·.length)).sum + L.length
 | []=>ZL _
 | [x]=>by simp[bD]
 | x :: y :: r=>by
  have a:=mH (sp:=sp) (L:=y :: r);rw[bD,ZB,ZB,x3,YJ,y4];simp only[y4,Z0]at a ⊢;omega
theorem Ch {w:List Nat}(hw:32∉w):dm 32 (line w ns)=w :: ns.map tx:=by
 refine gP (by simp) λp a => ?_;rcases Y6.mp a with e|e
 ·rw[e];exact hw
 ·obtain⟨i,_,rfl⟩:=List.mem_map.mp e
  exact mG (by decide) (by decide)
theorem oX {c:Nat}{a:EF}{l:List Nat}(p:a σ h=.ok (.str l) h1)(q:l.length<=1000000):j9 c a σ h=.ok ((dm c l).map D.str) h1:=by
 show Res.bind _ _=_;rw[p,ay];exact z4 q
theorem p9 {a:EF}{x:D}(p:a σ h=.ok (.ref n) h1)(q:h1[n]? = some (.lst (x :: l))):gn a (pAt (fC (.int 1))) pNo σ h=.ok (.ref h1.length) (h1++[.lst l]):=by
 have e:cut (x :: l) (some 1) none=l:=by
  simp[cut,sIx]
 show Res.bind _ _=_;rw[p,ay];simp only[pAt,fC,ay,pNo,ib,q,e]
theorem nQ {w:List Nat}(hw:32∉w)(A:w.length<=10)(v:ns.length<=10)(b:∀i∈ns,i.natAbs < 10 ^ 60)(h:Hd) :
  ∃k g,bE [.str w,.str (line w ns)] h=.ok (.ref k) (h++g)/\h.length<=k/\(h++g)[k]? = some (.lst (ns.map .int)):=by
 have len:(line w ns).length<=1000000:=by
  have p:=mH (sp:=32) (L:=w :: ns.map tx);have y:=oU (k:=61) (l:=ns.map tx) λx z=>by
   obtain⟨i,hi,rfl⟩:=List.mem_map.mp z;exact(dF _ (b i hi)).2
  unfold line;simp only[x3,YJ,y4,ZA]at p y;omega
 obtain⟨W,d⟩ : ∃W,W=(ns.map tx).map D.str:=⟨_,rfl⟩;obtain⟨L,j⟩ : ∃L,L=line w ns:=⟨_,rfl⟩;have B:W.length<=10:=by rw[d];simp;exact v
 have sp:(dm 32 L).map D.str=.str w :: W:=by rw[j,Ch hw,x3,d]
 rw[<-j]at len ⊢;have u:aH (gN 2) (bG (j9 32 (aa 1))) [some (.str w),some (.str L),none] h=.nx [some (.str w),some (.str L),some (.ref h.length)] (h++[.lst (.str w :: W)]):=by
  have q:=oX (c:=32) (a:=aa 1) (σ:=[some (.str w),some (.str L),none]) (h:=h) rfl len;rw[sp]at q;exact aF (cL q (by simp[SZ];omega))
 have n:(h++[ca.lst (.str w :: W)]++[.lst W])[h.length + 1]? = some (.lst W):=by
  have e:h.length + 1=(h++[ca.lst (.str w :: W)]).length:=by simp
  rw[e];exact ZG
 have m:=HU b (k:=h.length + 1) (h:=h++[ca.lst (.str w :: W)]++[.lst W]) (by rw[<-d];exact n);rw[<-d]at m;have s:(W.map λ_=>true).all id=true:=by simp
 have r:sIf (tOr (tE (af oNe (fAt (aa 2) (fC (.int 0))) (aa 0))) (cX (tE (sE (bM 1 [] (eI (gn (aa 2) (pAt (fC (.int 1))) pNo)) (gN 0) [] (am dz (ab (aa 0) ao))))))) (aW (bG ao)) bc [some (.str w),some (.str L),some (.ref h.length)] (h++[.lst (.str w :: W)])
   = .nx [some (.str w),some (.str L),some (.ref h.length)] (h++[.lst (.str w :: W)]++[.lst W]):=by
  refine cn (gj (aT (ah (aL rfl rfl (aE iC) (qP _ _)) rfl (by rw[Ka,x6 rfl];rfl))) (bX (b:=true) (aT ((tw (cG (fY ((p9 rfl iC).trans (by rw[ZB];rfl)) n) m) (t8 W)).trans (by rw[s])))))
 have f:(h++[ca.lst (.str w :: W)]++[.lst W]++[.lst W])[h.length + 2]? = some (.lst W):=by
  have e:h.length + 2=(h++[ca.lst (.str w :: W)]++[ca.lst W]).length:=by simp
  rw[e];exact ZG
 have o:=Fh b (k:=h.length + 2) (h:=h++[ca.lst (.str w :: W)]++[ca.lst W]++[ca.lst W]) (by rw[<-d];exact f);rw[<-d]at o;have t:aW (bG (bM 1 [] (eI (gn (aa 2) (pAt (fC (.int 1))) pNo)) (gN 0) [] (gM (aa 0)))) [some (.str w),some (.str L),some (.ref h.length)] (h++[.lst (.str w :: W)]++[.lst W])
   = .rt (.ref (h.length + 3)) (h++[.lst (.str w :: W)]++[.lst W]++[.lst W]++[.lst (ns.map .int)]):=by
  refine(aV (cL (cG (fY ((p9 rfl (bn _ iC)).trans (by rw[ZB,ZB];rfl)) f) o) (by simp[SZ];omega))).trans ?_;congr 2;simp
 refine⟨h.length + 3,[ca.lst (.str w :: W),.lst W,.lst W,.lst (ns.map .int)],?_,by omega,by rw[ZD (by omega)];simp⟩;refine(bJ rfl rfl ((cH u).trans ((cH r).trans t))).trans ?_;rw[ee];simp only[ZU,WJ,YI]
theorem wz {c sp:Nat}:∀{L:List (List Nat)},c∈bD [sp] L->c=sp\/∃x∈L,c∈x
 | [],h=>by simp[bD]at h
 | [x],h=>.inr ⟨x,by simp,h⟩
 | x :: y :: r,h=>by
  rw[bD]at h;rcases List.mem_append.mp h with h|h
  ·rcases List.mem_append.mp h with h|h
   ·exact .inr ⟨x,by simp,h⟩
   ·exact .inl (by simpa using h)
  ·rcases wz h with e|⟨z,hz,q⟩
   ·exact .inl e
   ·exact .inr ⟨z,ZW _ hz,q⟩
theorem qa {w:List Nat}(hw:10∉w):10∉line w ns:=λh=>by
 rcases wz h with e|⟨z,hz,q⟩
 ·cases e
 ·rcases Y6.mp hz with e|e
  ·rw[e]at q;exact hw q
  ·obtain⟨i,_,rfl⟩:=List.mem_map.mp e
   exact mG (by decide) (by decide) q
theorem Fl (o:Option Int):10∉el o:=λh=>by
 cases o with
 | none=>simp[el]at h
 | some x =>
  rcases List.mem_append.mp h with h|h
  ·revert h;decide
  ·exact mG (by decide) (by decide) h
theorem Af (n:Nat)(T:List Tie)(bs:List Int)(ss:List (Option Int)):dm 10 (bD [10] (cr n T bs ss))=cr n T bs ss:=by
 refine gP (by simp[cr]) λp a => ?_;unfold cr at a;rcases Y6.mp a with e|a
 ·rw[e];exact qa (by decide)
 ·rcases List.mem_append.mp a with a|a
  ·obtain⟨t,_,rfl⟩:=List.mem_map.mp a
   exact qa (by decide)
  ·rcases List.mem_append.mp a with a|a
   ·obtain⟨t,_,rfl⟩:=List.mem_map.mp a
    exact qa (by decide)
   ·obtain⟨t,_,rfl⟩:=List.mem_map.mp a
    exact Fl t
theorem Kd {g:Option Nat}{all:List D}{tg:GF}{b:SF}{x:D}{xs:List D}{σ' σ'':Sd}{h':Hd}(a:dJ g all h)(t:tg x σ = some σ')(e:b σ' h=.bk σ'' h'):jG g all tg b (x :: xs) σ h=.nx σ'' h':=by
 rw[jG,z4 a,t];simp only[e]
variable {A:Nat}
section
variable {n:Nat} {T:List Tie} {bs:List Int} {ss:List (Option Int)} {h:Hd} {lk:Nat}
abbrev LLs (n:Nat) (T:List Tie) (bs:List Int) (ss:List (Option Int)):List D:=(cr n T bs ss).map D.str
theorem x9:(LLs n T bs ss).length=1 + T.length + bs.length + ss.length:=by simp[cr];omega
theorem PR:atI (LLs n T bs ss) 0=some (.str (line jp [(n:Int)])):=qP _ _
theorem Nd {i:Nat}(hi:i < T.length):atI (LLs n T bs ss) ((1 + i:Nat):Int)=some (.str (kU T[i])):=de (by
 rw[ZQ,cr,Nat.add_comm 1 i,List.getElem?_cons_succ,ZC (by simpa using hi)];simp[hi])
theorem HV {i:Nat}(hi:i < bs.length):atI (LLs n T bs ss) ((1 + T.length + i:Nat):Int)=some (.str (nP bs[i])):=de (by
 rw[ZQ,cr,show 1 + T.length + i=T.length + i + 1 by omega,List.getElem?_cons_succ,ZD (by simp),ZA,X6,ZC (by simpa using hi)];simp[hi])
theorem Ke {i:Nat}(hi:i < ss.length):atI (LLs n T bs ss) ((1 + T.length + bs.length + i:Nat):Int)=some (.str (el ss[i])):=de (by
 rw[ZQ,cr,show 1 + T.length + bs.length + i=T.length + (bs.length + i) + 1 by omega,List.getElem?_cons_succ,ZD (by simp),ZA,X6,ZD (by simp),ZA,X6];simp[hi])
theorem ya (f:1<=n)(m:n<=30)(d:h[lk]? = some (.lst (LLs n T bs ss))):gS [.ref lk] h=.ok (.int n) h:=by
 have e:(n:Int).natAbs < 10 ^ 60:=big (by omega) (by omega);obtain⟨k,g,q,o,c⟩:=nQ (w:=jp) (ns:=[(n:Int)]) (by decide) (by decide) (by simp) (by intro i hi;rw[List.mem_singleton.mp hi];exact e) h;have l:aH (gN 1) (am bE (ab (fC (.str jp)) (ab (fAt (aa 0) (fC (.int 0))) ao))) [some (.ref lk),none] h=.nx [some (.ref lk),some (.ref k)] (h++g):=aF (aw (bU rfl (aL rfl rfl (aE d) PR)) q);have a:fAt (aa 1) (fC (.int 0)) [some (.ref lk),some (.ref k)] (h++g)=.ok (.int n) (h++g):=aL rfl rfl (aE c) rfl;have j:sIf (tOr (tE (af oNe (cC (lOf (aa 1))) (fC (.int 1)))) (cX (tE (am bo (ab (fAt (aa 1) (fC (.int 0))) (ab (fC (.int 1)) (ab (fC (.int 30)) ao))))))) c7 bc [some (.ref lk),some (.ref k)] (h++g)=.nx [some (.ref lk),some (.ref k)] (h++g) :=
  cn (gj (aT (ah (cZ (cz rfl (aE c))) rfl rfl)) (bX (b:=true) (aT (aw (ar a (ar rfl (ar rfl rfl))) (by rw[c8,x6 (by omega),x6 (by omega)];rfl)))))
 exact(bJ rfl rfl ((cH l).trans ((cH j).trans (aV a)))).trans (cY rfl)
theorem t9 {a:EF}{b:Hd}{x y z:D}(p:a σ h1=.ok (.tup [x,y,z]) b):j7 a pNo (pAt (fC (.int 2))) σ h1=.ok (.tup [x,y]) b:=by
 show Res.bind _ _=_;rw[p];rfl
theorem y3 {x:D}:atI (l++[x]) (-1)=some x:=by
 have e:ixN (l++[x]).length (-1)=some l.length:=by
  unfold ixN;rw[z5 (by omega),z4 (by simp only[ZB,y4,Z0];omega)];simp only[ZB,y4,Z0];congr 1;omega
 unfold atI;rw[e];exact ZG
theorem Fp (X:List Tie):kZ (X.map bY)<=20:=ZM (wj (k:=1) (λt=>by simp[bY,dep,kZ]) X) (by decide)
theorem Kf {X:List Tie}{t:Tie}(m:h[A]? = some (.lst (X.map bY)))(lt:t.a < t.b)(k:∀s∈X,oV s t):eC [.ref A,bY t] h=.ok (.bl true) h:=by
 have i:tE (af oLt (fAt (aa 1) (fC (.int 0))) (fAt (aa 1) (fC (.int 1)))) [some (.ref A),some (bY t)] h=.ok true h:=aT (ah (aL rfl rfl rfl rfl) (aL rfl rfl rfl rfl) (MY (by omega)));have a:(h++[ca.lst []])[A]? = some (.lst (X.map bY)):=bn _ m;have j:∀b,eqL (X.map bY) [] = some b->tE (af oEq (aa 0) (bG ao)) [some (.ref A),some (bY t)] h=.ok b (h++[.lst []]):=λb e=>by
  refine aT (ah rfl (cL rfl) ?_);show (match eqG (h++[ca.lst []]) (.ref A) (.ref h.length) with|some b=>Res.ok (D.bl b) (h++[ca.lst []])|none=>.bad)=_;have:eqG (h++[ca.lst []]) (.ref A) (.ref h.length)=some b:=by
   simp only[eqG,ib,a,ZG];exact e
  rw[this]
 have fin:∀f,(∃g,f=h++g)->tOr (tE (af oEq (aa 0) (bG ao))) (tE (af JB (j7 (fAt (aa 0) (fC (.int (-1)))) pNo (pAt (fC (.int 2)))) (j7 (aa 1) pNo (pAt (fC (.int 2)))))) [some (.ref A),some (bY t)] h=.ok true f->eC [.ref A,bY t] h=.ok (.bl true) h:=λf ⟨g,e⟩ q=>by
  have:=(bJ (np:=2) (n:=2) (ds:=[.ref A,bY t]) rfl rfl (aV (oz (nt i q))));refine this.trans ?_;rw[e];exact cY rfl
 rcases List.eq_nil_or_concat X with e|⟨Y,s,e⟩
 ·refine fin (h++[.lst []]) ⟨_,rfl⟩ (xx (j true ?_))
  rw[e];rfl
 ·have o:oV s t:=k s (by rw[e];simp)
  have q:=j false (by
   unfold eqL;rw[z4 (Fp X),z5 (by rw[e];simp)])
  refine fin (h++[.lst []]) ⟨_,rfl⟩ (gj q (aT (ah (t9 (aL (l:=X.map bY) (d:=bY s) rfl rfl (aE a) (by rw[e,List.concat_eq_append,ZR];exact y3))) (t9 rfl) ?_)));have l2:lexLt [(s.a:Int),s.b] [(t.a:Int),t.b] = true:=by
   rcases o with c|⟨i,c2⟩
   ·rw[lexLt,z5 (by omega)];exact x6 (by omega)
   ·rw[lexLt,z4 (by omega),lexLt,z5 (by omega)];exact x6 (by omega)
  show Res.ok (D.bl (lexLt [(s.a:Int),s.b] [(t.a:Int),t.b])) _=_;rw[l2]
inductive TI (n lk A:Nat) (h:Hd) (T:List Tie):Nat->Sd->Hd->Prop
 | mk {i:Nat} {y z:Option D} {g:Hd}:TI n lk A h T i [some (.ref lk),some (.int n),some (.ref A),y,z] (h ++ .lst ((T.take i).map bY) :: g)
theorem Ci (t:Tie):(decide ([116,105,101,32].length<=(kU t).length) && ((kU t).take [116,105,101,32].length == [116,105,101,32]))=true:=by
 have e:kU t=116 :: 105 :: 101 :: 32 :: bD [32] [tx t.a,tx t.b,tx t.w]:=rfl;rw[e];generalize bD [32] [tx t.a,tx t.b,tx t.w] = r;simp
theorem Cj (b:Int):(decide ([116,105,101,32].length<=(nP b).length) && ((nP b).take [116,105,101,32].length == [116,105,101,32]))=false:=by
 have e:nP b=98 :: 97 :: 114 :: 32 :: bD [32] [tx b]:=rfl;rw[e];generalize bD [32] [tx b] = r;simp
theorem jP {a b:EF}{d c:Hd}{m k:Nat}(p:a σ h1=.ok (.int m) d)(q:b σ d=.ok (.int (m + k:Nat)) c)(l:m + k<=1000000):eG a b σ h1=.ok ((List.range k).map (λj:Nat=>D.int ((m + j:Nat):Int)),none) c:=by
 show Res.bind _ _=_;rw[p,ay];show Res.bind _ _=_;rw[q];show (if (-1000000<=(m:Int)/\(m:Int)<=1000000)/\-1000000<=((m + k:Nat):Int)/\((m + k:Nat):Int)<=1000000 then _ else _)=_;rw[z4 (by omega)];have e:(((m + k:Nat):Int) - m).toNat=k:=by omega
 rw[e];congr 2
theorem yb (X:1<=n)(K:n<=30)(O:TOk n n 0 T)(o:T.Pairwise oV)(E:∀t∈T,t.a < t.b)(lb:bs.length=n)(ls:ss.length=n)(u:h[lk]? = some (.lst (LLs n T bs ss))) :
  ∃g,gU [.ref lk,.int n] h=.ok (.ref h.length) (h ++ .lst (T.map bY) :: g):=by
 have ol:=O.len;have len:=x9 (n:=n) (T:=T) (bs:=bs) (ss:=ss);have R:aH (gN 2) (bG ao) [some (.ref lk),some (.int n),none,none,none] h=.nx [some (.ref lk),some (.int n),some (.ref h.length),none,none] (h++[.lst []]):=aF (cL rfl);obtain⟨r,hr⟩ : ∃r,bs.length + ss.length=r + 1:=⟨bs.length + ss.length - 1,by omega⟩;have Y:(List.range (T.length + (r + 1))).map (λj:Nat=>D.int ((1 + j:Nat):Int))=(List.range T.length).map (λj:Nat=>D.int ((1 + j:Nat):Int))++(D.int ((1 + T.length:Nat):Int) :: (List.range r).map λj:Nat=>D.int ((1 + (T.length + (j + 1)):Nat):Int)):=by
  rw[List.range_add,ZR,List.range_succ_eq_map];simp[Function.comp_def]
 have q2:eG (fC (.int 1)) (cC (lOf (aa 0))) [some (.ref lk),some (.int n),some (.ref h.length),none,none] (h++[.lst []])=.ok ((List.range (T.length + (r + 1))).map (λj:Nat=>D.int ((1 + j:Nat):Int)),none) (h++[.lst []]) :=
  jP (m:=1) rfl ((cZ (cz rfl (aE (bn _ u)))).trans (by rw[len];congr 3;omega)) (by omega)
 obtain⟨a0,h3,q3,J⟩:=pE (P:=TI n lk h.length h T) (g:=none) (k:=0) (all:=(List.range (T.length + (r + 1))).map (λj:Nat=>D.int ((1 + j:Nat):Int))) (λ_ _ _ _=>trivial)
  (xs:=(List.range T.length).map (λj:Nat=>D.int ((1 + j:Nat):Int))) (rest:=D.int ((1 + T.length:Nat):Int) :: (List.range r).map λj:Nat=>D.int ((1 + (T.length + (j + 1)):Nat):Int)) (tg:=gN 3) (b:=eX)
  (σ:=[some (.ref lk),some (.int n),some (.ref h.length),none,none]) (h:=h++[.lst []]) (by
  intro i x σ h0 I z;rw[Z1]at z ⊢;have hi:i < T.length:=by have:=(List.getElem?_eq_some_iff.mp I).1;simpa using this
  have C:x=.int ((1 + i:Nat):Int):=by simpa[hi] using I.symm
  subst C;cases z
  rename_i yo zo g
  obtain⟨t,v⟩ : ∃t,t=T[i]:=⟨_,rfl⟩;have p:t∈T:=by rw[v];exact YC hi
  have d:T.take (i + 1)=T.take i++[t]:=by rw[v,WW];simp[hi]
  have a:∀(h':Hd) (z:Option D),h'[lk]? = some (.lst (LLs n T bs ss))->fAt (aa 0) (aa 3) [some (.ref lk),some (.int n),some (.ref h.length),some (.int ((1 + i:Nat):Int)),z] h'=.ok (.str (kU t)) h':=λh' z e=>aL rfl rfl (aE e) (by rw[v];exact Nd hi);have c:(h++ca.lst ((T.take i).map bY) :: g)[lk]? = some (.lst (LLs n T bs ss)):=bn _ u;have z:=K6 K O p;obtain⟨k,f,q,N,F⟩:=nQ (w:=Na) (ns:=[(t.a:Int),t.b,t.w]) (by decide) (by decide) (by simp) (by
   intro i hi;simp only[Y6,YO,or_false]at hi;rcases hi with e|e|e<;>rw[e]
   ·exact z.a
   ·exact z.b
   ·exact z.w) (h++ca.lst ((T.take i).map bY) :: g)
  obtain⟨H,y⟩ : ∃H,H=h++ca.lst ((T.take i).map bY) :: g:=⟨_,rfl⟩;have B:H[h.length]? = some (.lst ((T.take i).map bY)):=by rw[y];exact iC
  rw[<-y]at q F c N ⊢;have A:sIf (cX (tE (j8 (fAt (aa 0) (aa 3)) (fC (.str [116,105,101,32]))))) Jj bc [some (.ref lk),some (.int n),some (.ref h.length),some (.int ((1 + i:Nat):Int)),zo] H=.nx [some (.ref lk),some (.int n),some (.ref h.length),some (.int ((1 + i:Nat):Int)),zo] H :=
   cn (bX (b:=true) (aT ((mE (a H _ c) rfl).trans (by rw[Ci]))))
  have Z:aH (gN 4) (gg (lOf (am bE (ab (fC (.str [116,105,101])) (ab (fAt (aa 0) (aa 3)) ao))))) [some (.ref lk),some (.int n),some (.ref h.length),some (.int ((1 + i:Nat):Int)),zo] H=.nx [some (.ref lk),some (.int n),some (.ref h.length),some (.int ((1 + i:Nat):Int)),some (bY t)] (H++f) :=
   aF ((jh (cz (aw (bU rfl (a H _ c)) q) (aE F))).trans rfl)
  have lt:=O.lt t p;have Q:∀s∈T.take i,oV s t:=λs V=>by
   have G:=o;rw[<-List.take_append_drop (i + 1) T,d,ZU,X0]at G;exact G.2.2 s V t (by simp)
  have L:sIf (tOr (cX (tE (am iQ (ab (aa 1) (ab (aa 4) ao))))) (cX (tE (am eC (ab (aa 2) (ab (aa 4) ao)))))) c7 bc [some (.ref lk),some (.int n),some (.ref h.length),some (.int ((1 + i:Nat):Int)),some (bY t)] (H++f)=.nx [some (.ref lk),some (.int n),some (.ref h.length),some (.int ((1 + i:Nat):Int)),some (bY t)] (H++f) :=
   cn (gj (bX (b:=true) (aT (aw (bU rfl rfl) (wf (O.ne t p) lt.1 lt.2 (O.wt t p) _)))) (bX (b:=true) (aT (aw (bU rfl rfl) (Kf (bn _ B) (E t p) Q)))))
  have lz:((T.take i).map bY).length < SZ:=by simp[SZ];omega
  have W:fV (jX (aa 2) (aa 4)) [some (.ref lk),some (.int n),some (.ref h.length),some (.int ((1 + i:Nat):Int)),some (bY t)] (H++f)=.nx [some (.ref lk),some (.int n),some (.ref h.length),some (.int ((1 + i:Nat):Int)),some (bY t)] (h ++ .lst ((T.take (i + 1)).map bY) :: (g++f)):=by
   refine(hJ (ka rfl (bn _ B) rfl (bn _ B) lz)).trans ?_;rw[y,Ad,d,ZR];rfl
  exact⟨_,rfl,_,_,(cH A).trans ((cH Z).trans ((cH L).trans W)),.mk⟩) (TI.mk (i:=0) (g:=[]))
 rw[Z1,ZA,ZO]at J;cases J
 rename_i yo zo g
 rw[List.take_length]at q3;have S:0 < bs.length:=by omega
 have a:fAt (aa 0) (aa 3) [some (.ref lk),some (.int n),some (.ref h.length),some (.int ((1 + T.length:Nat):Int)),zo] (h ++ .lst (T.map bY) :: g)=.ok (.str (nP bs[0])) (h ++ .lst (T.map bY) :: g):=aL rfl rfl (aE (bn _ u)) (HV (i:=0) S);have A:eX [some (.ref lk),some (.int n),some (.ref h.length),some (.int ((1 + T.length:Nat):Int)),zo] (h ++ .lst (T.map bY) :: g)=.bk [some (.ref lk),some (.int n),some (.ref h.length),some (.int ((1 + T.length:Nat):Int)),zo] (h ++ .lst (T.map bY) :: g):=by
  have e:sIf (cX (tE (j8 (fAt (aa 0) (aa 3)) (fC (.str [116,105,101,32]))))) Jj bc [some (.ref lk),some (.int n),some (.ref h.length),some (.int ((1 + T.length:Nat):Int)),zo] (h ++ .lst (T.map bY) :: g)=.bk [some (.ref lk),some (.int n),some (.ref h.length),some (.int ((1 + T.length:Nat):Int)),zo] (h ++ .lst (T.map bY) :: g) :=
   (lE (bX (b:=false) (aT ((mE a rfl).trans (by rw[Cj]))))).trans rfl
  show ax _ _ _ _=_;unfold ax;rw[e]
 have M:jG none ((List.range (T.length + (r + 1))).map (λj:Nat=>D.int ((1 + j:Nat):Int))) (gN 3) eX (D.int ((1 + T.length:Nat):Int) :: (List.range r).map λj:Nat=>D.int ((1 + (T.length + (j + 1)):Nat):Int)) [some (.ref lk),some (.int n),some (.ref h.length),yo,zo] (h ++ .lst (T.map bY) :: g)=.nx [some (.ref lk),some (.int n),some (.ref h.length),some (.int ((1 + T.length:Nat):Int)),zo] (h ++ .lst (T.map bY) :: g):=by
  exact Kd trivial rfl A
 have U:eO (eG (fC (.int 1)) (cC (lOf (aa 0)))) (gN 3) eX [some (.ref lk),some (.int n),some (.ref h.length),none,none] (h++[.lst []])=.nx [some (.ref lk),some (.int n),some (.ref h.length),some (.int ((1 + T.length:Nat):Int)),zo] (h ++ .lst (T.map bY) :: g) :=
  eE q2 ((congrArg (λl=>jG none ((List.range (T.length + (r + 1))).map (λj:Nat=>D.int ((1 + j:Nat):Int))) (gN 3) eX l [some (.ref lk),some (.int n),some (.ref h.length),none,none] (h++[.lst []])) Y).trans (q3.trans M))
 exact⟨g,(bJ rfl rfl ((cH R).trans ((cH U).trans (aV rfl)))).trans ee⟩
end
section
variable {n:Nat} {T:List Tie} {bs:List Int} {ss:List (Option Int)} {h:Hd} {lk:Nat}
theorem ua {k:Nat}{L:List D}{d:D}(a:h[lk]? = some (.lst L))(lt:k < L.length)(e:atI L (k:Int)=some d):fR [.ref lk,.int k] h=.ok d h:=by
 have b:sIf (tE (af oEq (aa 1) (cC (lOf (aa 0))))) c7 bc [some (.ref lk),some (.int k)] h=.nx [some (.ref lk),some (.int k)] h:=cn (aT (ah rfl (cZ (cz rfl (aE a))) (lG (by omega))));exact(bJ rfl rfl ((cH b).trans (aV (aL rfl rfl (aE a) e)))).trans aQ
theorem Kg {x y:EF}{h a:Hd}{n m:Nat}{b k:List D}(p:x σ h=.ok (.ref n) h1)(q:h1[n]? = some (.lst b))(r:y σ h1=.ok (.ref m) a)(s:a[n]? = some (.lst l))(t:a[m]? = some (.lst k))(z:l.length + k.length<=SZ):zy x y σ h=.ok .non (a.set n (.lst (l++k))):=by
 show Res.bind _ _=_;rw[p,ay];simp only[q];show Res.bind _ _=_;rw[r,ay];simp only[s,t];exact z4 z
inductive BI (lk st n A:Nat) (h:Hd) (bs:List D):Nat->Sd->Hd->Prop
 | mk {i:Nat} {y z:Option D} {g:Hd}:BI lk st n A h bs i [some (.ref lk),some (.int st),some (.int n),some (.ref A),y,z] (h ++ .lst (bs.take i) :: g)
theorem yc (J:n<=30)(N:T.length<=900)(lb:bs.length=n)(ls:ss.length=n)(bb:∀b∈bs,b.natAbs < 10 ^ 60)(A:h[lk]? = some (.lst (LLs n T bs ss))) :
  ∃g,gW [.ref lk,.int ((1 + T.length:Nat):Int),.int n] h=.ok (.ref h.length) (h ++ .lst (bs.map .int) :: g):=by
 have len:=x9 (n:=n) (T:=T) (bs:=bs) (ss:=ss);obtain⟨st,d⟩ : ∃st,st=1 + T.length:=⟨_,rfl⟩;rw[<-d];have E:aH (gN 3) (bG ao) [some (.ref lk),some (.int st),some (.int n),none,none,none] h=.nx [some (.ref lk),some (.int st),some (.int n),some (.ref h.length),none,none] (h++[.lst []]):=aF (cL rfl);have q2:eG (aa 1) (af bP (aa 1) (aa 2)) [some (.ref lk),some (.int st),some (.int n),some (.ref h.length),none,none] (h++[.lst []])=.ok ((List.range n).map (λj:Nat=>D.int ((st + j:Nat):Int)),none) (h++[.lst []]) :=
  jP (m:=st) rfl (ah rfl rfl rfl) (by omega)
 obtain⟨I,M,q3,v⟩:=bZ (P:=BI lk st n h.length h (bs.map .int)) (g:=none) (k:=0) (all:=(List.range n).map (λj:Nat=>D.int ((st + j:Nat):Int))) (λ_ _ _ _=>trivial)
  (xs:=(List.range n).map (λj:Nat=>D.int ((st + j:Nat):Int))) (tg:=gN 4) (b:=oN)
  (σ:=[some (.ref lk),some (.int st),some (.int n),some (.ref h.length),none,none]) (h:=h++[.lst []]) (by
  intro i x σ L t z;rw[Z1]at z ⊢;have hi:i < n:=by have:=(List.getElem?_eq_some_iff.mp t).1;simpa using this
  have p:x=.int ((st + i:Nat):Int):=by simpa[hi] using t.symm
  subst p;cases z
  rename_i yo zo g
  have a:i < bs.length:=by omega
  obtain⟨b,l⟩ : ∃b,b=bs[i]:=⟨_,rfl⟩;have B:b∈bs:=by rw[l];exact YC a
  have o:(bs.map D.int).take (i + 1)=(bs.map D.int).take i++[.int b]:=by rw[l,WW];simp[a]
  obtain⟨H,e⟩ : ∃H,H=h++ca.lst ((bs.map D.int).take i) :: g:=⟨_,rfl⟩;have f:H[lk]? = some (.lst (LLs n T bs ss)):=by rw[e];exact bn _ A
  have u:=ua (k:=st + i) f (by omega) (by rw[d];exact HV a);rw[<-l]at u;obtain⟨k,c,q,K,r⟩:=nQ (w:=u4) (ns:=[b]) (by decide) (by decide) (by simp) (by intro i hi;rw[List.mem_singleton.mp hi];exact bb b B) H;have s:H[h.length]? = some (.lst ((bs.map D.int).take i)):=by rw[e];exact iC
  rw[<-e];have F:aH (gN 5) (am bE (ab (fC (.str [98,97,114])) (ab (am fR (ab (aa 0) (ab (aa 4) ao))) ao))) [some (.ref lk),some (.int st),some (.int n),some (.ref h.length),some (.int ((st + i:Nat):Int)),zo] H=.nx [some (.ref lk),some (.int st),some (.int n),some (.ref h.length),some (.int ((st + i:Nat):Int)),some (.ref k)] (H++c) :=
   aF (aw (bU rfl (aw (bU rfl rfl) u)) q)
  have G:sIf (tE (af oNe (cC (lOf (aa 5))) (fC (.int 1)))) c7 bc [some (.ref lk),some (.int st),some (.int n),some (.ref h.length),some (.int ((st + i:Nat):Int)),some (.ref k)] (H++c)=.nx [some (.ref lk),some (.int st),some (.int n),some (.ref h.length),some (.int ((st + i:Nat):Int)),some (.ref k)] (H++c):=cn (aT (ah (cZ (cz rfl (aE r))) rfl rfl));have y:fV (zy (aa 3) (aa 5)) [some (.ref lk),some (.int st),some (.int n),some (.ref h.length),some (.int ((st + i:Nat):Int)),some (.ref k)] (H++c)=.nx [some (.ref lk),some (.int st),some (.int n),some (.ref h.length),some (.int ((st + i:Nat):Int)),some (.ref k)] (h ++ .lst ((bs.map D.int).take (i + 1)) :: (g++c)):=by
   refine(hJ (Kg rfl (bn _ s) rfl (bn _ s) r (by simp[SZ];omega))).trans ?_;rw[e,Ad,o];rfl
  exact⟨_,rfl,_,_,(cH F).trans ((cH G).trans y),.mk⟩) (BI.mk (i:=0) (g:=[]))
 rw[Z1,ZA,ZO]at v;cases v
 rename_i yo zo g
 have C:(bs.map D.int).take n=bs.map D.int:=X9 (by simp;omega);rw[C]at q3;exact⟨g,(bJ rfl rfl ((cH E).trans ((cH (eE q2 q3)).trans (aV rfl)))).trans ee⟩
abbrev Ck:Tab:=[([102,114,101,101],none),([115,116,97,121,115,32,48],some 0),([115,116,97,121,115,32,49],some 1)]
theorem HW {o:Option Int}(h:o=none\/o=some 0\/o=some 1):je Ck (el o)=some o:=by
 rcases h with e|e|e<;>subst e
 ·rfl
 ·have:el (some 0)=[115,116,97,121,115,32,48]:=by
   have:=t5 0;rw[gX (by decide)]at this;show [115,116,97,121,115,32]++tx 0=_;rw[show (0:Int)=((0:Nat):Int) from rfl,this];rfl
  rw[this];rfl
 ·have:el (some 1)=[115,116,97,121,115,32,49]:=by
   have:=t5 1;rw[gX (by decide)]at this;show [115,116,97,121,115,32]++tx 1=_;rw[show (1:Int)=((1:Nat):Int) from rfl,this];rfl
  rw[this];rfl
theorem HX (o:Option Int):JD o=cR o:=by cases o<;>rfl
theorem u5 (K:n<=30)(N:T.length<=900)(lb:bs.length=n)(ls:ss.length=n)(os:∀x∈ss,x=none\/x=some 0\/x=some 1)(w:h[lk]? = some (.lst (LLs n T bs ss))) :
  ∃g,f6 [.ref lk,.int ((1 + T.length + n:Nat):Int),.int n] h=.ok (.ref h.length) (h ++ .lst (ss.map cR) :: g):=by
 have len:=x9 (n:=n) (T:=T) (bs:=bs) (ss:=ss);obtain⟨st,c⟩ : ∃st,st=1 + T.length + n:=⟨_,rfl⟩;rw[<-c];have B:aH (gN 3) (bG ao) [some (.ref lk),some (.int st),some (.int n),none,none,none] h=.nx [some (.ref lk),some (.int st),some (.int n),some (.ref h.length),none,none] (h++[.lst []]):=aF (cL rfl);have q2:eG (aa 1) (af bP (aa 1) (aa 2)) [some (.ref lk),some (.int st),some (.int n),some (.ref h.length),none,none] (h++[.lst []])=.ok ((List.range n).map (λj:Nat=>D.int ((st + j:Nat):Int)),none) (h++[.lst []]) :=
  jP (m:=st) rfl (ah rfl rfl rfl) (by omega)
 obtain⟨J,M,q3,u⟩:=bZ (P:=BI lk st n h.length h (ss.map cR)) (g:=none) (k:=0) (all:=(List.range n).map (λj:Nat=>D.int ((st + j:Nat):Int))) (λ_ _ _ _=>trivial)
  (xs:=(List.range n).map (λj:Nat=>D.int ((st + j:Nat):Int))) (tg:=gN 4) (b:=mR)
  (σ:=[some (.ref lk),some (.int st),some (.int n),some (.ref h.length),none,none]) (h:=h++[.lst []]) (by
  intro i x σ L s z;rw[Z1]at z ⊢;have hi:i < n:=by have:=(List.getElem?_eq_some_iff.mp s).1;simpa using this
  have q:x=.int ((st + i:Nat):Int):=by simpa[hi] using s.symm
  subst q;cases z
  rename_i yo zo g
  have a:i < ss.length:=by omega
  obtain⟨b,o⟩ : ∃b,b=ss[i]:=⟨_,rfl⟩;have y:b∈ss:=by rw[o];exact YC a
  have p:(ss.map cR).take (i + 1)=(ss.map cR).take i++[cR b]:=by rw[o,WW];simp[a]
  obtain⟨H,f⟩ : ∃H,H=h++ca.lst ((ss.map cR).take i) :: g:=⟨_,rfl⟩;have l:H[lk]? = some (.lst (LLs n T bs ss)):=by rw[f];exact bn _ w
  have t:=ua (k:=st + i) l (by omega) (by rw[c,<-lb];exact Ke a);rw[<-o]at t;have r:H[h.length]? = some (.lst ((ss.map cR).take i)):=by rw[f];exact iC
  rw[<-f];have tb:=HW (os b y);have E:aH (gN 5) (am fR (ab (aa 0) (ab (aa 4) ao))) [some (.ref lk),some (.int st),some (.int n),some (.ref h.length),some (.int ((st + i:Nat):Int)),zo] H=.nx [some (.ref lk),some (.int st),some (.int n),some (.ref h.length),some (.int ((st + i:Nat):Int)),some (.str (el b))] H :=
   aF (aw (bU rfl rfl) t)
  have C:∀σ:Sd,aa 5 σ H=.ok (.str (el b)) H->rR Ck (aa 5) σ H=.ok (.bl false) H:=λσ e=>by
   show Res.bind _ _=_;rw[e,ay];show Res.ok (D.bl (je Ck (el b)).isNone) H=_;rw[tb];rfl
  have F:∀σ:Sd,aa 5 σ H=.ok (.str (el b)) H->xl Ck (aa 5) σ H=.ok (cR b) H:=λσ e=>by
   show Res.bind _ _=_;rw[e,ay];show (match je Ck (el b) with|some d=>Res.ok (JD d) H|none=>.bad)=_;rw[tb,<-HX]
  have G:sIf (tE (rR Ck (aa 5))) c7 bc [some (.ref lk),some (.int st),some (.int n),some (.ref h.length),some (.int ((st + i:Nat):Int)),some (.str (el b))] H=.nx [some (.ref lk),some (.int st),some (.int n),some (.ref h.length),some (.int ((st + i:Nat):Int)),some (.str (el b))] H:=cn (aT (C _ rfl));have I:((ss.map cR).take i).length < SZ:=by simp[SZ];omega
  have v:fV (jX (aa 3) (xl Ck (aa 5))) [some (.ref lk),some (.int st),some (.int n),some (.ref h.length),some (.int ((st + i:Nat):Int)),some (.str (el b))] H=.nx [some (.ref lk),some (.int st),some (.int n),some (.ref h.length),some (.int ((st + i:Nat):Int)),some (.str (el b))] (h ++ .lst ((ss.map cR).take (i + 1)) :: g):=by
   refine(hJ (ka rfl r (F _ rfl) r I)).trans ?_;rw[f,DR,p]
  exact⟨_,rfl,_,_,(cH E).trans ((cH G).trans v),.mk⟩) (BI.mk (i:=0) (g:=[]))
 rw[Z1,ZA,ZO]at u;cases u
 rename_i yo zo g
 have A:(ss.map cR).take n=ss.map cR:=X9 (by simp;omega);rw[A]at q3;exact⟨g,(bJ rfl rfl ((cH B).trans ((cH (eE q2 q3)).trans (aV rfl)))).trans ee⟩
theorem Kh (o:1<=n)(p:n<=30)(O:TOk n n 0 T)(r:T.Pairwise oV)(u:∀t∈T,t.a < t.b)(lb:bs.length=n)(ls:ss.length=n)(os:∀x∈ss,x=none\/x=some 0\/x=some 1)(bb:∀b∈bs,b.natAbs < 10 ^ 60)(h:Hd) :
  km [.str (bD [10] (cr n T bs ss))] h=.ok (aS n T bs ss).enc h:=by
 have len:=x9 (n:=n) (T:=T) (bs:=bs) (ss:=ss);have ol:=O.len;obtain⟨U,lc⟩:=wy p O lb ls os bb;have C:(bD [10] (cr n T bs ss)).length<=1000000:=by
  have d:=mH (sp:=10) (L:=cr n T bs ss);have f:=oU U;omega
 obtain⟨X,F⟩ : ∃X,X=bD [10] (cr n T bs ss):=⟨_,rfl⟩;have sp:(dm 10 X).map D.str=LLs n T bs ss:=by rw[F,Af]
 rw[<-F]at C ⊢;have R:sIf (cX (tE (gK .str (aa 0)))) c7 bc [some (.str X),none,none,none,none,none,none] h=.nx [some (.str X),none,none,none,none,none,none] h:=cn (bX (b:=true) (aT rfl));obtain⟨d,m⟩ : ∃d,d=h++[ca.lst (LLs n T bs ss)]:=⟨_,rfl⟩;have V:aH (gN 1) (bG (j9 10 (aa 0))) [some (.str X),none,none,none,none,none,none] h=.nx [some (.str X),some (.ref h.length),none,none,none,none,none] d:=by
  have q:=oX (c:=10) (a:=aa 0) (σ:=[some (.str X),none,none,none,none,none,none]) (h:=h) rfl C;rw[sp]at q;rw[m];exact aF (cL q (by rw[len];simp only[SZ];omega))
 have l1:d[h.length]? = some (.lst (LLs n T bs ss)):=by rw[m];exact ZG
 have M:aH (gN 2) (am gS (ab (aa 1) ao)) [some (.str X),some (.ref h.length),none,none,none,none,none] d=.nx [some (.str X),some (.ref h.length),some (.int n),none,none,none,none] d:=aF (aw (ar rfl rfl) (ya o p l1));obtain⟨Z,E⟩:=yb o p O r u lb ls l1;obtain⟨f,l⟩ : ∃f,f=d ++ .lst (T.map bY) :: Z:=⟨_,rfl⟩;rw[<-l]at E;have W:aH (gN 3) (am gU (ab (aa 1) (ab (aa 2) ao))) [some (.str X),some (.ref h.length),some (.int n),none,none,none,none] d=.nx [some (.str X),some (.ref h.length),some (.int n),some (.ref d.length),none,none,none] f:=aF (aw (bU rfl rfl) E);have l2:f[h.length]? = some (.lst (LLs n T bs ss)):=by rw[l];exact bn _ l1
 have H:f[d.length]? = some (.lst (T.map bY)):=by rw[l];exact iC
 obtain⟨Y,B⟩:=yc p (by omega) lb ls bb l2;obtain⟨g,k⟩ : ∃g,g=f ++ .lst (bs.map .int) :: Y:=⟨_,rfl⟩;rw[<-k]at B;have s:∀{h':Hd} {x y z:Option D},h'[d.length]? = some (.lst (T.map bY))->af bP (fC (.int 1)) (cC (lOf (aa 3))) [some (.str X),some (.ref h.length),some (.int n),some (.ref d.length),x,y,z] h'=.ok (.int ((1 + T.length:Nat):Int)) h':=λ{h' x y z} e=>by
  refine ah rfl (cZ (cz rfl (aE e))) ?_;show Res.ok (D.int (1 + (T.map bY).length)) h'=_;rw[ZA];congr 2
 have N:aH (gN 4) (am gW (ab (aa 1) (ab (af bP (fC (.int 1)) (cC (lOf (aa 3)))) (ab (aa 2) ao)))) [some (.str X),some (.ref h.length),some (.int n),some (.ref d.length),none,none,none] f=.nx [some (.str X),some (.ref h.length),some (.int n),some (.ref d.length),some (.ref f.length),none,none] g:=aF (aw (ar rfl (bU (s H) rfl)) B);have A:g[h.length]? = some (.lst (LLs n T bs ss)):=by rw[k];exact bn _ l2
 have w:g[d.length]? = some (.lst (T.map bY)):=by rw[k];exact bn _ H
 have J:g[f.length]? = some (.lst (bs.map .int)):=by rw[k];exact iC
 obtain⟨g4,v⟩:=u5 p (by omega) lb ls os A;obtain⟨i,j⟩ : ∃i,i=g ++ .lst (ss.map cR) :: g4:=⟨_,rfl⟩;rw[<-j]at v;have P:aH (gN 5) (am f6 (ab (aa 1) (ab (af bP (af bP (fC (.int 1)) (cC (lOf (aa 3)))) (aa 2)) (ab (aa 2) ao)))) [some (.str X),some (.ref h.length),some (.int n),some (.ref d.length),some (.ref f.length),none,none] g=.nx [some (.str X),some (.ref h.length),some (.int n),some (.ref d.length),some (.ref f.length),some (.ref g.length),none] i:=aF (aw (ar rfl (bU (ah (s w) rfl rfl) rfl)) v);have Q:i[h.length]? = some (.lst (LLs n T bs ss)):=by rw[j];exact bn _ A
 have G:i[d.length]? = some (.lst (T.map bY)):=by rw[j];exact bn _ w
 have K:i[f.length]? = some (.lst (bs.map .int)):=by rw[j];exact bn _ J
 have I:i[g.length]? = some (.lst (ss.map cR)):=by rw[j];exact iC
 have s6:aH (gN 6) (af bP (af bP (fC (.int 1)) (cC (lOf (aa 3)))) (af cB (fC (.int 2)) (aa 2))) [some (.str X),some (.ref h.length),some (.int n),some (.ref d.length),some (.ref f.length),some (.ref g.length),none] i=.nx [some (.str X),some (.ref h.length),some (.int n),some (.ref d.length),some (.ref f.length),some (.ref g.length),some (.int (((1 + T.length:Nat):Int) + 2 * n))] i :=
  aF (ah (s G) (ah rfl rfl (iq (by decide))) rfl)
 have S:sIf (tE (af oGt (cC (lOf (aa 1))) (aa 6))) c7 bc [some (.str X),some (.ref h.length),some (.int n),some (.ref d.length),some (.ref f.length),some (.ref g.length),some (.int (((1 + T.length:Nat):Int) + 2 * n))] i=.nx [some (.str X),some (.ref h.length),some (.int n),some (.ref d.length),some (.ref f.length),some (.ref g.length),some (.int (((1 + T.length:Nat):Int) + 2 * n))] i :=
  cn (aT (ah (cZ (cz rfl (aE Q))) rfl (ny (by omega))))
 have s8:aW (am gR (ab (aa 2) (ab (aa 3) (ab (aa 4) (ab (aa 5) ao))))) [some (.str X),some (.ref h.length),some (.int n),some (.ref d.length),some (.ref f.length),some (.ref g.length),some (.int (((1 + T.length:Nat):Int) + 2 * n))] i=.rt (aS n T bs ss).enc i:=aV (aw (ar rfl (ar rfl (bU rfl rfl))) (wg o p O lb ls os G K I));refine(bJ rfl rfl ((cH R).trans ((cH V).trans ((cH M).trans ((cH W).trans ((cH N).trans ((cH P).trans ((cH s6).trans ((cH S).trans s8))))))))).trans ?_;rw[j,k,l,m];simp only[ZU];exact cY (oG _)
end
def sg (s:List Int):List Nat:=s.map λi=>if i=1 then 49 else 48
abbrev SLt (l:List Nat):List D:=l.map λc=>D.str [c]
theorem Nf {i:Int}(h:i=0\/i=1):tx i=[if i=1 then 49 else 48]:=by
 rcases h with rfl|rfl
 ·exact(t5 0).trans (gX (by decide))
 ·exact(t5 1).trans (gX (by decide))
theorem kK (s:List Int):(sg s).length=s.length:=by simp[sg]
variable {s:List Int}
theorem yd {c:Nat}(h:c∈sg s):c=48\/c=49:=by
 obtain⟨i,_,rfl⟩:=List.mem_map.mp h;split
 ·exact .inr rfl
 ·exact .inl rfl
theorem DS (B:∀x∈s,x=0\/x=1)(h:Hd):cI none (s.map D.int) (gN 0) [] (fw (aa 0)) (s.map D.int) [none] h=.ok (SLt (sg s)) h:=by
 have:=bA (g:=none) (all:=s.map D.int) (tg:=gN 0) (cs:=[]) (e:=fw (aa 0)) (h:=h) (I:=λσ=>∃a,σ = [a]) (λ_=>true) (λd=>match d with | .int i=>.str (tx i)|_=>.non) trivial (xs:=s.map D.int) (σ:=[none]) (by
  rintro x b σ ⟨a,rfl⟩;obtain⟨i,hi,rfl⟩:=List.mem_map.mp b;exact⟨_,rfl,⟨_,rfl⟩,rfl,λ_=>jA rfl (by rcases B i hi with rfl|rfl<;>decide)⟩) ⟨_,rfl⟩
 rw[this,List.filter_eq_self.mpr (λ_ _=>rfl),Z7];congr 1;unfold SLt sg;rw[Z7];apply YE;intro i hi;show D.str (tx i)=_;rw[Nf (B i hi)];rfl
theorem K7:∀l:List Nat,(l.map λc=>[c]).flatten=l
 | []=>rfl
 | c :: l=>by simp[K7 l]
theorem OH:∀l:List Nat,((l.map λc=>[c]).map (·.length)).sum=l.length
 | []=>rfl
 | c :: l=>by
  have:=OH l;simp only[x3,YJ,this,y4,Z0];omega
theorem Ag {a:LF}{l:List Nat}(p:a σ h=.ok (SLt l) h1)(b:l.length<=1000):zv a σ h=.ok (.str l) h1:=by
 unfold zv;rw[p,ay];have e:jJ (SLt l)=some (l.map λc=>[c]):=by
  have:=p8 (l.map λc=>[c]);rwa[Z7]at this
 rw[e];have:((l.map λc=>[c]).map (·.length)).sum=l.length:=OH l;simp only[this,K7];rw[z4 (by omega)]
theorem ye (B:∀x∈s,x=0\/x=1)(l:s.length<=30)(h:Hd):cU [aq s] h=.ok (.str (sg s)) h :=
 (bJ rfl rfl (aV (Ag (cG (tu rfl) (DS B h)) (by rw[kK];omega)))).trans aQ
theorem Ah (B:∀x∈s,x=0\/x=1)(l:s.length<=30)(h:Hd):dR [aq s] h=.ok (.str (sg s)) h :=
 (bJ rfl rfl (aV (Ag (cG (tu rfl) (DS B h)) (by rw[kK];omega)))).trans aQ
theorem OI {c:Nat}(h:c=48\/c=49):nh [c] = some ((c:Int) - 48):=by
 rcases h with rfl|rfl<;>decide
theorem DT (B:∀x∈s,x=0\/x=1)(h:Hd):cI none (SLt (sg s)) (gN 0) [] (gM (aa 0)) (SLt (sg s)) [none] h=.ok (s.map D.int) h:=by
 have:=bA (g:=none) (all:=SLt (sg s)) (tg:=gN 0) (cs:=[]) (e:=gM (aa 0)) (h:=h) (I:=λσ=>∃a,σ = [a]) (λ_=>true) (λd=>match d with | .str [c]=>.int ((c:Int) - 48)|_=>.non) trivial (xs:=SLt (sg s)) (σ:=[none]) (by
  rintro x b σ ⟨a,rfl⟩;obtain⟨c,hc,rfl⟩:=List.mem_map.mp b;exact⟨_,rfl,⟨_,rfl⟩,rfl,λ_=>mF rfl (show 1<=600 by decide) (OI (yd hc))⟩) ⟨_,rfl⟩
 rw[this,List.filter_eq_self.mpr (λ_ _=>rfl),Z7];congr 1;unfold sg;rw[Z7];apply YE;intro i hi;rcases B i hi with rfl|rfl<;>rfl
theorem yf {a:EF}(p:a σ h=.ok (.str (sg s)) h1)(l:s.length<=30):sS a σ h=.ok (SLt (sg s),none) h1 :=
 Ae p ⟨by rw[kK];omega,by
  rw[List.all_eq_true];intro c hc;rcases yd hc with rfl|rfl<;>rfl⟩
theorem Ng (c:Nat)(k:c=48\/c=49)(h:Hd):oIn (.str [c]) (.tup [.str [48],.str [49]]) h=.ok (.bl true) h:=by
 rcases k with rfl|rfl<;>rfl
theorem Ki (s:List Int)(h:Hd):cI none (SLt (sg s)) (gN 0) [] (af oIn (aa 0) (i9 (ab (fC (.str [48])) (ab (fC (.str [49])) ao)))) (SLt (sg s)) [none] h=.ok ((SLt (sg s)).map λ_=>D.bl true) h:=by
 have:=bA (g:=none) (all:=SLt (sg s)) (tg:=gN 0) (cs:=[]) (e:=af oIn (aa 0) (i9 (ab (fC (.str [48])) (ab (fC (.str [49])) ao)))) (h:=h) (I:=λσ=>∃a,σ = [a]) (λ_=>true) (λ_=>.bl true) trivial (xs:=SLt (sg s)) (σ:=[none]) (by
  rintro x b σ ⟨a,rfl⟩;obtain⟨c,hc,rfl⟩:=List.mem_map.mp b;exact⟨_,rfl,⟨_,rfl⟩,rfl,λ_=>ah rfl (tm (bU rfl rfl)) (Ng c (yd hc) h)⟩) ⟨_,rfl⟩
 rw[this,List.filter_eq_self.mpr (λ_ _=>rfl)]
section
variable {w:Web} {n:Nat} {s:List Int}
theorem Nh (F:c5 w n s):∀x∈s,x=0\/x=1:=F.op
theorem u6 (W:w.Ok n)(F:c5 w n s)(l:s.length<=30)(h:Hd):iz [w.enc,.str (sg s)] h=.ok (aq s) h:=by
 have B:=Nh F;have q:sE (bM 1 [] (sS (aa 1)) (gN 0) [] (af oIn (aa 0) (i9 (ab (fC (.str [48])) (ab (fC (.str [49])) ao))))) [some w.enc,some (.str (sg s)),none] h=.ok (.bl true) h :=
  (tw (cG (yf rfl l) (Ki s h)) (t8 _)).trans (by simp)
 have t:=cn (a:=c7) (b:=bc) (gj (bX (t:=tE (gK .str (aa 1))) (b:=true) (aT rfl)) (bX (aT q)));have e:gg (bM 1 [] (sS (aa 1)) (gN 0) [] (gM (aa 0))) [some w.enc,some (.str (sg s)),none] h=.ok (aq s) h:=jh (cG (yf rfl l) (DT B h));exact(bJ rfl rfl (sx t (sx (aF e) (sx (hJ (aw (bU rfl rfl) (tz W F h))) (aV rfl))))).trans aQ
theorem wA (B:∀x∈s,x=0\/x=1)(l:s.length<=30)(h:Hd):c9 [.str (sg s)] h=.ok (aq s) h :=
 (bJ rfl rfl (aV (jh (cG (yf rfl l) (DT B h))))).trans aQ
end
abbrev wSt:List Nat:=[115,116,97,110,100]
abbrev wPe:List Nat:=[112,101,114,115,111,110]
abbrev wNu:List Nat:=[110,117,109,98,101,114]
section
variable {G:Hd->Prop} {tg:GF} {b:SF} {e:EF} {x:D} {xs ds:List D} {σ σ' σ'':Sd} {h h':Hd} {d:D}
theorem oY (g:G h):pA G tg b [] σ h=.nx σ h:=by unfold pA;rw[z4 g]
theorem iJ {o:Out}(g:G h)(t:tg x σ = some σ')(q:b σ' h=.nx σ'' h')(r:pA G tg b xs σ'' h'=o):pA G tg b (x :: xs) σ h=o:=by
 rw[<-r];unfold pA;rw[z4 g];simp only[t,q];cases xs<;>rfl
theorem wB (g:G h):fM G tg [] e [] σ h=.ok [] h:=by unfold fM;rw[z4 g]
theorem nR (g:G h)(t:tg x σ = some σ')(q:e σ' h=.ok d h)(r:fM G tg [] e xs σ' h=.ok ds h'):fM G tg [] e (x :: xs) σ h=.ok (d :: ds) h':=by
 unfold fM;rw[z4 g];simp only[t,kP,ay,q,r,YP]
end
theorem rZ {a b:EF}{tg:GF}{body:SF}{c:Hd}{x y:D}{k:List D}{o o':Option Nat}{out:Out}(p:a σ h=.ok x h1)(q:b σ h1=.ok y c)(e:im c x=some (l,o))(d:im c y=some (k,o'))
  (r:pA (λh=>dJ o l h/\dJ o' k h) tg body ((l.zip k).map λp=>.tup [p.1,p.2]) σ c=out):vQ a b tg body σ h=out:=by
 unfold vQ;simp only[p,q,e,d];exact r
theorem Ai {nl:Nat}{caps:List Nat}{a b e:EF}{tg:GF}{c d:Hd}{x y:D}{k ds:List D}{o o':Option Nat}(p:a σ h=.ok x h1)(q:b σ h1=.ok y c)(g:im c x=some (l,o))(f:im c y=some (k,o'))
  (r:fM (λh=>dJ o l h/\dJ o' k h) tg [] e ((l.zip k).map λp=>.tup [p.1,p.2]) (gp nl caps σ) c=.ok ds d):sR nl caps a b tg [] e σ h=.ok ds d:=by
 unfold sR;simp only[p,q,g,f];exact r
theorem HY (h:Hd)(l:List (List Nat)):im h (mK l)=some (l.map .str,none):=by simp[im,mK]
theorem HZ {k:Nat}(e:h[k]? = some (.lst l)):im h (.ref k)=some (l,some k):=by simp[im,e]
theorem Ia {r:List Nat}{L:List (List Nat)}(sp:dm 32 r=L)(d:r.length<=1000000)(f:L.length<=100)(h:Hd):iV [.str r] h=.ok (.ref h.length) (h++[.lst (L.map .str)]):=by
 have t:=cn (a:=c7) (b:=bc) (bX (t:=tE (gK .str (aa 0))) (b:=true) (σ:=[some (.str r)]) (h:=h) (aT rfl));have e:=cL (oX (c:=32) (a:=aa 0) (σ:=[some (.str r)]) (h:=h) rfl d) (by rw[sp,ZA];exact ZM f (by decide));rw[sp]at e;exact(bJ rfl rfl (sx t (aV e))).trans ee
theorem yg {a:EF}{l:List Nat}{T:ni}{d:List (List Nat)}(p:a σ h=.ok (.str l) h1)(q:T.lookup l=some d):vR T a σ h=.ok (mK d) h1:=by
 show Res.bind _ _=_;rw[p,ay];simp only[q]
theorem Ib {a:EF}{l:List Nat}{T:ni}{d:List (List Nat)}(p:a σ h=.ok (.str l) h1)(q:T.lookup l=some d):Bx T a σ h=.ok (.bl false) h1:=by
 show Res.bind _ _=_;rw[p,ay];simp only[q,Option.isNone_some]
theorem Kj {a:EF}{d:List (List Nat)}(p:a σ h=.ok (mK d) h1):G6 a σ h=.ok (.int d.length) h1:=by
 show Res.bind _ _=_;rw[p,ay];simp[mK]
theorem Kk {a:EF}{d:List (List Nat)}(p:a σ h=.ok (mK d) h1):Dr a σ h=.ok (.bl d.isEmpty) h1:=by
 show Res.bind _ _=_;rw[p,ay];cases d<;>simp[mK]
variable {wd:List Nat}
theorem Kl {L:List (List Nat)}{fm:List (List Nat)}{k:Nat}(d:h[k]? = some (.lst ((wd :: L).map .str)))(n1:wd≠[115,119,97,121,115])(q:fJ.lookup wd=some fm)(l:fm.length=L.length):jO [.ref k] h=.ok (mK fm) h:=by
 have c:fAt (aa 0) (fC (.int 0)) [some (.ref k)] h=.ok (.str wd) h:=aL rfl rfl (aE d) (qP _ _);have i:=cn (a:=c7) (b:=bc) (aT (ah c (rfl:fC (.str [115,119,97,121,115]) [some (.ref k)] h=_) ((xZ _ _ _).trans (by rw[wL n1]))));have f:=cn (a:=c7) (b:=bc) (aT (Ib c q));have e:=cn (a:=c7) (b:=bc) (aT (ah (g:=oNe) (ah (g:=fU) (cZ (cz (a:=aa 0) rfl (aE d))) (rfl:fC (.int 1) [some (.ref k)] h=_) rfl) (Kj (yg c q)) ((pG _ _ _).trans (by
  rw[l];have:(((wd :: L).map D.str).length:Int) - 1=(L.length:Int):=by simp
  show Res.ok (D.bl (!decide ((((wd :: L).map D.str).length:Int) - 1=(L.length:Int)))) h=Res.ok (D.bl false) h;rw[this,x6 rfl];rfl))))
 exact(bJ rfl rfl (sx i (sx f (sx e (aV (yg c q)))))).trans aQ
theorem OJ (x:List Nat)(h:Hd):dA [.str wSt,.str x] h=.ok (.bl true) h :=
 (bJ rfl rfl (oA (d:=.bl true) (h':=h) ((lE (h1:=h) (xx (aT rfl))).trans (aV rfl)))).trans aQ
theorem K8 {a:List Nat}(n1:a≠wSt)(c:a≠[115,116,97,121]){i:Int}(b:i.natAbs < 10 ^ 60)(h:Hd):dA [.str a,.str (tx i)] h=.ok (.bl true) h:=by
 have t:(tOr (tE (af oEq (aa 0) (fC (.str [115,116,97,110,100])))) (jV (tE (af oEq (aa 0) (fC (.str [115,116,97,121])))) (tE (af oEq (aa 1) (fC (.str [102,114,101,101])))))) [some (.str a),some (.str (tx i))] h=.ok false h :=
  gj (aT (ah rfl rfl ((xZ _ _ _).trans (by rw[wL n1])))) (rT (aT (ah rfl rfl ((xZ _ _ _).trans (by rw[wL c])))))
 exact(bJ rfl rfl (sx ((cn t).trans rfl) (aV (aw (ar rfl rfl) (oW b h))))).trans aQ
section
variable {w:Web} {n:Nat} {s:List Int}
theorem OK (W:w.Ok n)(F:c5 w n s)(l:s.length<=30)(h:Hd):eh [w.enc,.str wSt,.str (sg s)] h=.ok (aq s) h :=
 (bJ rfl rfl (oA ((lE (h1:=h) (aT rfl)).trans (aV (aw (bU rfl rfl) (u6 W F l h)))))).trans aQ
theorem Ic (i:Int):tx i≠[102,114,101,101]:=λe=>by
 have:=HN i 102 (by rw[e];simp);omega
theorem K9 {a:List Nat}(n1:a≠wSt){i:Int}(b:i.natAbs < 10 ^ 60)(h:Hd):eh [w.enc,.str a,.str (tx i)] h=.ok (.int i) h:=by
 have t:(tE (af oEq (aa 1) (fC (.str [115,116,97,110,100])))) [some w.enc,some (.str a),some (.str (tx i))] h=.ok false h:=aT (ah rfl rfl ((xZ _ _ _).trans (by rw[wL n1])));have u:(tE (af oEq (aa 2) (fC (.str [102,114,101,101])))) [some w.enc,some (.str a),some (.str (tx i))] h=.ok false h:=aT (ah rfl rfl ((xZ _ _ _).trans (by rw[wL (Ic i)])));exact(bJ rfl rfl (sx ((cn t).trans rfl) (aV ((xz u).trans (mF rfl (by have:=dF i b;omega) (kJ i)))))).trans aQ
theorem wC (W:w.Ok n)(F:c5 w n s)(l:s.length<=30){k:Nat}(i:h[k]? = some (.lst [.str (sg s)])):dY [w.enc,mK [wSt],.ref k] h=.ok (.ref h.length) (h++[.lst [aq s]]):=by
 obtain⟨c,j⟩ : ∃c,c=mK [wSt]:=⟨_,rfl⟩;have f:im h c=some ([.str wSt],none):=by rw[j];exact HY h [wSt]
 have d:=HZ i;have g:dJ none [D.str wSt] h/\dJ (some k) [.str (sg s)] h:=⟨trivial,i⟩;have m:f7 [some w.enc,some c,some (.ref k),some (.str wSt),some (.str (sg s))] h=.nx [some w.enc,some c,some (.ref k),some (.str wSt),some (.str (sg s))] h :=
  (cn (bX (b:=true) (aT (aw (bU rfl rfl) (OJ _ h))))).trans rfl
 have q:eZ [some w.enc,some c,some (.ref k),some (.str wSt),some (.str (sg s))] h=.nx [some w.enc,some c,some (.ref k),some (.str wSt),some (.str (sg s))] h :=
  (cn (rT (aT rfl))).trans rfl
 have r:=rZ (a:=aa 1) (b:=aa 2) (tg:=gT [3,4]) (body:=f7) (σ:=[some w.enc,some c,some (.ref k),none,none]) (h:=h) rfl rfl f d (iJ g rfl m (oY g));have o:=rZ (a:=aa 1) (b:=aa 2) (tg:=gT [3,4]) (body:=eZ) (σ:=[some w.enc,some c,some (.ref k),some (.str wSt),some (.str (sg s))]) (h:=h) rfl rfl f d (iJ g rfl q (oY g));have p:=Ai (nl:=2) (caps:=[0]) (a:=aa 1) (b:=aa 2) (tg:=gT [0,1]) (e:=am eh (ab (aa 2) (ab (aa 0) (ab (aa 1) ao)))) (σ:=[some w.enc,some c,some (.ref k),some (.str wSt),some (.str (sg s))]) (h:=h) rfl rfl f d (nR g rfl (aw (ar rfl (bU rfl rfl)) (OK W F l h)) (wB g));rw[<-j];exact(bJ rfl rfl (sx r (sx o (aV (cL p))))).trans ee
end
section
variable {w:Web} {n:Nat} {s:List Int}
abbrev Id:List Nat:=[116,117,114,110]
abbrev Aj:List Nat:=[101,110,100,101,100]
abbrev DU:List Nat:=[114,101,115,116]
abbrev DV:List Nat:=[112,97,105,114]
theorem Ie (W:w.Ok n)(F:c5 w n s)(h:Hd):pI [w.enc,aq s] h=.ok (aq (dv w n s)) h:=by
 simp[pI,bu,runB,tz W F,ke W F]
theorem Ig {a b:List Nat}(e:a≠b)(h:Hd):oEq (.str a) (.str b) h=.ok (.bl false) h:=(xZ _ _ _).trans (by rw[wL e])
theorem Ih (W:w.Ok n)(S:cW w)(F:c5 w n s)(l:n<=30){k:Nat}(b:h[k]? = some (.lst [aq s])):cP [w.enc,.str Id,.ref k] h=.ok (.str (sg (dv w n s))) h:=by
 have a:=wa W S F;exact(bJ rfl rfl (oA ((lE (h1:=h) (aT rfl)).trans (aV (aw (ar (aw (bU rfl (aL rfl rfl (aE b) (qP _ _))) (Ie W F h)) rfl) (ye a.op (by rw[a.len];exact l) h)))))).trans aQ
def jQ (w:Web) (n:Nat) (s:List Int) (t:Nat):List (List Nat):=if aG w n s (t + 1)=aG w n s t then [DU,tx (t:Int),sg (aG w n s t)] else [DV,tx (t:Int),sg (aG w n s t),sg (aG w n s (t + 1))]
theorem t60 {t:Nat}(h:t<=300):((t:Int)).natAbs < 10 ^ 60:=ZS (show (t:Int).natAbs<=300 by omega) (by decide)
theorem yh {a:EF}{l:List Nat}(p:a σ h=.ok (.str l) h1)(b:l.length<=1000000):qN a σ h=.ok (.str l) h1:=by
 show Res.bind _ _=_;rw[p,ay];exact z4 b
theorem Ni (W:w.Ok n)(S:cW w)(F:c5 w n s)(l:n<=30){t:Nat}(ht:t<=300){k:Nat}(i:h[k]? = some (.lst ((aX w n s (t + 2)).map aq))) :
  fE [.tup [.int t,.str (if aG w n s (t + 1)=aG w n s t then DU else DV),.ref k]] h=.ok (.str (bD [32] (jQ w n s t))) h:=by
 have L:∀k,(aG w n s k).length=n:=λk=>(bh W S F k).len;have B:∀k,∀x∈aG w n s k,x=0\/x=1:=λk=>(bh W S F k).op;have m:∀k,(sg (aG w n s k)).length<=30:=λk=>by rw[kK,L];exact l
 have tl:=dF (t:Int) (t60 ht);obtain⟨a,hw⟩ : ∃a,a=if aG w n s (t + 1)=aG w n s t then DU else DV:=⟨_,rfl⟩
 obtain⟨T,d⟩ : ∃T:D,T=.tup [.int t,.str a,.ref k]:=⟨_,rfl⟩;have len:((aX w n s (t + 2)).map aq).length=t + 2:=by simp[aX]
 have g:∀j,j < t + 2->((aX w n s (t + 2)).map aq)[j]? = some (aq (aG w n s j)):=λj I=>by simp[aX,I]
 have f:∀x y z,fAt (aa 0) (fC (.int 2)) [some T,x,y,z,none] h=.ok (.ref k) h:=λx y z=>by rw[d];exact aL rfl rfl rfl rfl
 have H:fAt (fAt (aa 0) (fC (.int 2))) (fC (.int (-2))) [some T,some (.int t),some (.str a),none,none] h=.ok (aq (aG w n s t)) h:=aL (f _ _ _) rfl (aE i) ((xD (k:=2) (by decide) (by rw[len];omega)).trans ((congrArg (λj=>((aX w n s (t + 2)).map aq)[j]?) (show _=t by rw[len];omega)).trans (g t (by omega))));have C:fAt (fAt (aa 0) (fC (.int 2))) (fC (.int (-1))) [some T,some (.int t),some (.str a),some (.str (sg (aG w n s t))),none] h=.ok (aq (aG w n s (t + 1))) h:=aL (f _ _ _) rfl (aE i) ((xD (k:=1) (by decide) (by rw[len];omega)).trans ((congrArg (λj=>((aX w n s (t + 2)).map aq)[j]?) (show _=t + 1 by rw[len];omega)).trans (g (t + 1) (by omega))));have G:aH (gN 1) (fAt (aa 0) (fC (.int 0))) [some T,none,none,none,none] h=.nx [some T,some (.int t),none,none,none] h:=aF (by rw[d];exact aL rfl rfl rfl rfl);have v:aH (gN 2) (fAt (aa 0) (fC (.int 1))) [some T,some (.int t),none,none,none] h=.nx [some T,some (.int t),some (.str a),none,none] h:=aF (by rw[d];exact aL rfl rfl rfl rfl);have E:aH (gN 3) (am cU (ab (fAt (fAt (aa 0) (fC (.int 2))) (fC (.int (-2)))) ao)) [some T,some (.int t),some (.str a),none,none] h=.nx [some T,some (.int t),some (.str a),some (.str (sg (aG w n s t))),none] h:=aF (aw (ar H rfl) (ye (B t) (by rw[L];exact l) h));have A:aH (gN 4) (am cU (ab (fAt (fAt (aa 0) (fC (.int 2))) (fC (.int (-1)))) ao)) [some T,some (.int t),some (.str a),some (.str (sg (aG w n s t))),none] h=.nx [some T,some (.int t),some (.str a),some (.str (sg (aG w n s t))),some (.str (sg (aG w n s (t + 1))))] h:=aF (aw (ar C rfl) (ye (B (t + 1)) (by rw[L];exact l) h));have x1:=m t;have J:=m (t + 1);rw[<-hw,<-d];obtain⟨σ,b⟩ : ∃σ:Sd,σ = [some T,some (.int t),some (.str a),some (.str (sg (aG w n s t))),some (.str (sg (aG w n s (t + 1))))]:=⟨_,rfl⟩;have q:∀g:Hd,aa 1 σ g=.ok (.int t) g:=λg=>by rw[b];rfl
 have p:∀g:Hd,aa 3 σ g=.ok (.str (sg (aG w n s t))) g:=λg=>by rw[b];rfl
 have u:∀g:Hd,aa 4 σ g=.ok (.str (sg (aG w n s (t + 1)))) g:=λg=>by rw[b];rfl
 have o:(ax (sIf (tE (af oEq (aa 2) (fC (.str [114,101,115,116])))) (aW (fFs (fj (fC (.str [114,101,115,116,32])) (fj (fw (aa 1)) (fj (fC (.str [32])) (fj (qN (aa 3)) Bw)))))) bc)
  (aW (fFs (fj (fC (.str [112,97,105,114,32])) (fj (fw (aa 1)) (fj (fC (.str [32])) (fj (qN (aa 3)) (fj (fC (.str [32])) (fj (qN (aa 4)) Bw)))))))) ) σ h=.rt (.str (bD [32] (jQ w n s t))) h:=by
  have r:aa 2 σ h=.ok (.str a) h:=by rw[b];rfl
  unfold jQ
  by_cases c:aG w n s (t + 1)=aG w n s t
  ·rw[z4 c]at hw ⊢
   have e:(tE (af oEq (aa 2) (fC (.str [114,101,115,116])))) σ h=.ok true h:=aT ((ah r rfl (xZ _ _ _)).trans (by rw[hw];rfl));refine oA ((lE e).trans (aV (K5 ?_)));refine mT (rfl:fC (.str [114,101,115,116,32]) σ h=_) (by decide) (mT (jA (q h) (t60 ht)) (by simp only[YI,y4,Z0];omega) (mT (rfl:fC (.str [32]) σ h=_) (by simp only[YI,ZB,y4,Z0];omega) (mT (yh (p h) (by omega)) (by simp only[YI,ZB,y4,Z0];omega) ((K4 (by simp only[YI,ZB,y4,Z0];omega)).trans ?_))));simp[bD]
  ·rw[z5 c]at hw ⊢
   have e:(tE (af oEq (aa 2) (fC (.str [114,101,115,116])))) σ h=.ok false h:=aT ((ah r rfl (xZ _ _ _)).trans (by rw[hw];rfl));refine sx ((cn e).trans rfl) (aV (K5 ?_));refine mT (rfl:fC (.str [112,97,105,114,32]) σ h=_) (by decide) (mT (jA (q h) (t60 ht)) (by simp only[YI,y4,Z0];omega) (mT (rfl:fC (.str [32]) σ h=_) (by simp only[YI,ZB,y4,Z0];omega) (mT (yh (p h) (by omega)) (by simp only[YI,ZB,y4,Z0];omega) (mT (rfl:fC (.str [32]) σ h=_) (by simp only[YI,ZB,y4,Z0];omega) (mT (yh (u h) (by omega)) (by simp only[YI,ZB,y4,Z0];omega) ((K4 (by simp only[YI,ZB,y4,Z0];omega)).trans ?_))))));simp[bD]
 rw[b]at o;exact(bJ rfl rfl (sx G (sx v (sx E (sx A o))))).trans aQ
theorem Km (W:w.Ok n)(S:cW w)(F:c5 w n s)(l:n<=30){t:Nat}(b:aG w n s (t + 2)=aG w n s t)(e:∀k,k < t->aG w n s (k + 2)≠aG w n s k)(ht:t<=300){k:Nat}(d:h[k]? = some (.lst [aq s])):cP [w.enc,.str Aj,.ref k] h=.ok (.str (bD [32] (jQ w n s t))) h:=by
 have q:=Hy W S F b e (by omega) h;have f:∀a,a≠Aj->sIf (tE (af oEq (aa 1) (fC (.str a)))) c7 bc [some w.enc,some (.str Aj),some (.ref k)] h=.nx [some w.enc,some (.str Aj),some (.ref k)] h:=λa c=>(cn (aT (ah rfl rfl (Ig (YN c) h)))).trans rfl;have g:sIf (tE (af oEq (aa 1) (fC (.str [116,117,114,110])))) (aW (am cU (ab (am pI (ab (aa 0) (ab (fAt (aa 2) (fC (.int 0))) ao))) ao))) bc [some w.enc,some (.str Aj),some (.ref k)] h=.nx [some w.enc,some (.str Aj),some (.ref k)] h:=(cn (aT (ah rfl rfl (Ig (by decide) h)))).trans rfl;have r:=Ni W S F l ht (h:=h++[.lst ((aX w n s (t + 2)).map aq)]) (k:=h.length) (by simp);exact(bJ rfl rfl (sx g (sx (f _ (by decide)) (sx (f _ (by decide)) (sx (f _ (by decide)) (aV (aw (ar (aw (bU rfl (aL rfl rfl (aE d) (qP _ _))) q) rfl) r))))))).trans (cY rfl)
end
variable {j:Nat}
theorem ub {c:ca}(g:Hd)(e:h[j]? = some c):(h++g)[j]? = some c:=by rw[ZC (List.getElem?_eq_some_iff.mp e).1];exact e
theorem rn {w:Web}(W:w.Ok n){p:Nat}(hp:p < n)(h:Hd):dQ [w.enc,.int p] h=.ok .non h:=by
 have e:(p:Int)<=(n:Int) - 1:=by omega
 have q:dy [w.enc,.int p] h=.ok (.bl true) h:=by simp[dy,bu,runB,xF W,c8,e]
 simp[dQ,bu,runB,q]
theorem Ak (l:1<=n)(g:n<=30)(O:TOk n n 0 T){bs:List Int}{ss:List (Option Int)}(lb:bs.length=n)(ls:ss.length=n)(os:∀x∈ss,x=none\/x=some 0\/x=some 1){p:Nat}(hp:p < n)(x:Int)(h:Hd) :
  iU [(aS n T bs ss).enc,.int p,.int x] h=.ok (aS n T (bs.set p x) ss).enc h:=by
 have W:=jL g O lb ls;obtain⟨w,hw⟩ : ∃w,w=aS n T bs ss:=⟨_,rfl⟩;rw[<-hw]at W ⊢;have s:w.bars=bs:=by rw[hw];rfl
 have t:w.stays=ss:=by rw[hw];rfl
 have B:=rn W hp h;obtain⟨f,e⟩ : ∃f:Hd,f=h++[.lst (bs.map .int)]:=⟨_,rfl⟩;have m:=BT W h;rw[s,<-e]at m;have o:f[h.length]? = some (.lst (bs.map .int)):=by rw[e];simp
 obtain⟨c,d⟩ : ∃c:Hd,c=h++[.lst ((bs.set p x).map .int)]:=⟨_,rfl⟩;have y:f.set h.length (.lst ((bs.map D.int).set p (.int x)))=c:=by rw[e,d];simp
 have r:ixN (bs.map D.int).length (p:Int)=some p:=by simp[ixN,lb,hp]
 have A:fV (am dQ (ab (aa 0) (ab (aa 1) ao))) [some w.enc,some (.int p),some (.int x),none] h=.nx [some w.enc,some (.int p),some (.int x),none] h:=by simp[B]
 have u:aH (gN 3) (am iI (ab (aa 0) ao)) [some w.enc,some (.int p),some (.int x),none] h=.nx [some w.enc,some (.int p),some (.int x),some (.ref h.length)] f:=by simp[m]
 have z:mJ (aa 3) (aa 1) (aa 2) [some w.enc,some (.int p),some (.int x),some (.ref h.length)] f=.nx [some w.enc,some (.int p),some (.int x),some (.ref h.length)] c:=by
  rw[<-y];generalize bs.map D.int=L at o r ⊢;simp[o,r]
 have to:=uG g O lb ls c;rw[<-hw]at to;obtain⟨j,b⟩ : ∃j:Hd,j=c++[.lst ((oM n T).map bY)]:=⟨_,rfl⟩;rw[<-b]at to;have k:=zN W j;rw[t]at k;obtain⟨i,a⟩ : ∃i:Hd,i=j++[.lst (ss.map cR)]:=⟨_,rfl⟩;rw[<-a]at k;have q:=wg l g (xE g O).1 (bs:=bs.set p x) (by simp[lb]) ls os (h:=i) (tk:=c.length) (bk:=h.length) (sk:=j.length) (by rw[a];exact ub _ (by rw[b];simp)) (by rw[a,b];exact ub _ (ub _ (by rw[d];simp))) (by rw[a];simp);rw[tL g O]at q;have v:aW (am gR (ab (am bQ (ab (aa 0) ao)) (ab (am eU (ab (aa 0) ao)) (ab (aa 3) (ab (am gr (ab (aa 0) ao)) ao))))) [some w.enc,some (.int p),some (.int x),some (.ref h.length)] c=.rt (aS n T (bs.set p x) ss).enc i:=by
  simp[xF W,to,k,q]
 have st:([w.enc,D.int p,D.int x].map some++List.replicate (4 - [w.enc,D.int p,D.int x].length) none:Sd)=[some w.enc,some (.int p),some (.int x),none]:=rfl;unfold iU bu runB;rw[z4 (show [w.enc,D.int p,D.int x].length=3 from rfl),st,bS A,bS u,bS z,v];have C:i=h++[.lst ((bs.set p x).map .int),.lst ((oM n T).map bY),.lst (ss.map cR)]:=by rw[a,b,d];simp
 rw[C];exact cY (oG _)
theorem Cl {a:EF}{k:Nat}{d:D}(p:a σ h=.ok (.ref k) h1)(q:h1[k]? = some (.ob [d])):vP a σ h=.ok d h1:=by
 show Res.bind _ _=_;rw[p,ay];simp only[q]
theorem qb {L:List (List Nat)}(hw:32∉wd)(b:∀x∈L,32∉x):dm 32 (bD [32] (wd :: L))=wd :: L:=gP (by simp) λp a=>by
 rcases Y6.mp a with e|e
 ·rw[e];exact hw
 ·exact b p e
theorem oZ:32∉sg s:=λh=>by rcases yd h with e|e<;>cases e
theorem yi {L:List (List Nat)}(hw:wd.length<=200)(c:∀x∈L,x.length<=200)(l:L.length<=10):(bD [32] (wd :: L)).length<=1000000:=by
 have b:=mH (sp:=32) (L:=wd :: L);have d:=oU (k:=200) (l:=wd :: L) λx a=>by
  rcases Y6.mp a with e|e
  ·rw[e];exact hw
  ·exact c x e
 simp only[y4]at b d;omega
section
variable {w:Web} {n:Nat} {s:List Int} {h:Hd} {dk:Nat}
theorem Al {L fm:List (List Nat)}{ths:List D}(hd:h[dk]? = some (.ob [w.enc]))(hw:32∉wd)(i:∀x∈L,32∉x)(m:wd.length<=200)(l:∀x∈L,x.length<=200)(p:L.length<=10)(n1:wd≠[115,119,97,121,115])(q:fJ.lookup wd=some fm)(v:fm.length=L.length)
  (th:∀(g:Hd) (k:Nat),g[k]? = some (.lst (L.map .str))->dY [w.enc,mK fm,.ref k] g=.ok (.ref g.length) (g++[.lst ths])) {o:Out} {rest:SF}
  (r:∀g:Hd,g=h++[.lst ((wd :: L).map .str),.lst (L.map .str),.lst ths]->rest [some (.ref dk),some (.str (bD [32] (wd :: L))),some (.ref h.length),some (.ref (h.length + 2))] g=o) :
  (ax (aH (gN 2) (am iV (ab (aa 1) ao)))
  (ax (aH (gN 3) (am dY (ab (vP (aa 0)) (ab (am jO (ab (aa 2) ao)) (ab (gn (aa 2) (pAt (fC (.int 1))) pNo) ao))))) rest)) [some (.ref dk),some (.str (bD [32] (wd :: L))),none,none] h=o:=by
 have e:=Ia (qb hw i) (yi m l p) (by simp only[y4];omega) h;obtain⟨R,c⟩ : ∃R,R=bD [32] (wd :: L):=⟨_,rfl⟩;obtain⟨b,a⟩ : ∃b:Hd,b=h++[.lst ((wd :: L).map .str)]:=⟨_,rfl⟩;rw[<-c,<-a]at e;rw[<-c]at r ⊢;have d:b[h.length]? = some (.lst ((wd :: L).map .str)):=by rw[a];simp
 have j:b[dk]? = some (.ob [w.enc]):=by rw[a];exact bn _ hd
 have u:=Kl d n1 q v;have f:gn (aa 2) (pAt (fC (.int 1))) pNo [some (.ref dk),some (.str R),some (.ref h.length),none] b=.ok (.ref b.length) (b++[.lst (L.map .str)]):=p9 rfl (by rw[d,x3]);have t:=th (b++[.lst (L.map .str)]) b.length (by simp);have l1:(b++[ca.lst (L.map D.str)]).length=h.length + 2:=by rw[a];simp
 rw[l1]at t;refine sx (aF (aw (ar rfl rfl) e)) (sx (aF (aw (ar (Cl rfl j) (bU (aw (ar rfl rfl) u) f)) t)) ?_);exact r _ (by rw[a];simp)
theorem in3 {a:EF}{g:Hd}(p:a σ g=.ok (.str wd) g)(n1:wd≠[116,105,101])(c:wd≠[98,97,114])(b:wd≠[115,116,97,121]):(tE (af oIn a (i9 (ab (fC (.str [116,105,101])) (ab (fC (.str [98,97,114])) (ab (fC (.str [115,116,97,121])) ao)))))) σ g=.ok false g:=by
 refine aT (ah p (tm (ar rfl (bU rfl rfl))) ?_);have f:∀k:List Nat,wd≠k->(k == wd)=false:=λk z=>beq_eq_false_iff_ne.mpr (YN z);show Res.ok (D.bl (([116,105,101] : List Nat) == wd || ([98,97,114] == wd || ([115,116,97,121] == wd || false)))) g=_;rw[f _ n1,f _ c,f _ b];rfl
theorem DW {L fm:List (List Nat)}{ths:List D}{x:List Nat}(hd:h[dk]? = some (.ob [w.enc]))(hw:32∉wd)(i:∀x∈L,32∉x)(m:wd.length<=200)(l:∀x∈L,x.length<=200)(o:L.length<=10)(n1:wd≠[115,119,97,121,115])(q:fJ.lookup wd=some fm)(y:fm.length=L.length)(ne:fm.isEmpty=false)
  (v:wd≠[116,105,101]) (p:wd≠[98,97,114]) (f:wd≠[115,116,97,121])
  (th:∀(g:Hd) (k:Nat),g[k]? = some (.lst (L.map .str))->dY [w.enc,mK fm,.ref k] g=.ok (.ref g.length) (g++[.lst ths]))
  (j:∀(g:Hd) (k:Nat),g[k]? = some (.lst ths)->cP [w.enc,.str wd,.ref k] g=.ok (.str x) g) :
  cu [.ref dk,.str (bD [32] (wd :: L))] h=.ok (.str x) h:=by
 refine(bJ (d:=.str x) (h':=h++[.lst ((wd :: L).map .str),.lst (L.map .str),.lst ths]) rfl rfl (Al hd hw i m l o n1 q y th λg a => ?_)).trans (cY rfl);obtain⟨R,e⟩ : ∃R,R=bD [32] (wd :: L):=⟨_,rfl⟩;rw[<-e];have u:g[h.length]? = some (.lst ((wd :: L).map .str)):=by rw[a];simp
 have r:g[h.length + 2]? = some (.lst ths):=by rw[a];simp
 have b:g[dk]? = some (.ob [w.enc]):=by rw[a];exact bn _ hd
 have c:fAt (aa 2) (fC (.int 0)) [some (.ref dk),some (.str R),some (.ref h.length),some (.ref (h.length + 2))] g=.ok (.str wd) g:=aL rfl rfl (aE u) (qP _ _);have A:oO [w.enc,.str wd,.ref (h.length + 2)] g=.ok (.str x) g:=by
  have t:sIf (tE (af oEq (aa 1) (fC (.str [115,119,97,121,115])))) c7 bc [some w.enc,some (.str wd),some (.ref (h.length + 2))] g=.nx [some w.enc,some (.str wd),some (.ref (h.length + 2))] g:=(cn (aT (ah rfl rfl (Ig n1 g)))).trans rfl;have z:sIf (tE (Dr (vR fJ (aa 1)))) c7 bc [some w.enc,some (.str wd),some (.ref (h.length + 2))] g=.nx [some w.enc,some (.str wd),some (.ref (h.length + 2))] g:=(cn (aT ((Kk (yg rfl q)).trans (by rw[ne])))).trans rfl;exact(bJ rfl rfl (sx t (sx z (aV (aw (ar rfl (bU rfl rfl)) (j g _ r)))))).trans aQ
 rw[<-a];exact sx ((cn (in3 c v p f)).trans rfl) (aV (aw (ar (Cl rfl b) (bU c rfl)) A))
abbrev OL (s:List Int):List Nat:=bD [32] [Id,sg s]
abbrev OM (s:List Int):List Nat:=bD [32] [Aj,sg s]
theorem Ii (W:w.Ok n)(S:cW w)(F:c5 w n s)(l:n<=30)(hd:h[dk]? = some (.ob [w.enc])):cu [.ref dk,.str (OL s)] h=.ok (.str (sg (dv w n s))) h:=by
 have c:s.length<=30:=by rw[F.len];exact l
 exact DW (wd:=Id) (L:=[sg s]) (fm:=[wSt]) (ths:=[aq s]) hd (by decide) (λx a=>by rw[List.mem_singleton.mp a];exact oZ) (by decide) (λx a=>by rw[List.mem_singleton.mp a,kK];omega) (show 1<=10 by decide) (by decide) (by decide) rfl rfl (by decide) (by decide) (by decide)
  (λg k b=>wC W F c b) λg k b=>Ih W S F l b
theorem Kn (W:w.Ok n)(S:cW w)(F:c5 w n s)(l:n<=30){t:Nat}(c:aG w n s (t + 2)=aG w n s t)(d:∀k,k < t->aG w n s (k + 2)≠aG w n s k)(ht:t<=300)(hd:h[dk]? = some (.ob [w.enc])):cu [.ref dk,.str (OM s)] h=.ok (.str (bD [32] (jQ w n s t))) h:=by
 have e:s.length<=30:=by rw[F.len];exact l
 exact DW (wd:=Aj) (L:=[sg s]) (fm:=[wSt]) (ths:=[aq s]) hd (by decide) (λx a=>by rw[List.mem_singleton.mp a];exact oZ) (by decide) (λx a=>by rw[List.mem_singleton.mp a,kK];omega) (show 1<=10 by decide) (by decide) (by decide) rfl rfl (by decide) (by decide) (by decide)
  (λg k b=>wC W F e b) λg k b=>Km W S F l c d ht b
end
section
variable {w:Web} {n:Nat} {s:List Int} {h:Hd} {dk:Nat}
theorem Ko (w:Web):sG (.ob [w.enc])=true:=by
 show gh [w.enc] = true;simp only[gh,oG,Bool.and_true]
theorem Ij {g:Hd}{d:D}{a:Web}(e:pure? d=true)(b:dk < h.length):letGo h (.ok d ((h++g).set dk (.ob [a.enc])))=.ok d (h.set dk (.ob [a.enc])):=by
 rw[List.set_append_left _ _ b];refine EQ e (by simp) λk c f hc => ?_;rw[ZC (by simpa using f)]at hc
 by_cases z:dk=k
 ·subst z
  rw[List.getElem?_set_self b]at hc;cases hc;exact .inr (Ko a)
 ·rw[ZP z]at hc
  exact .inl hc
theorem DX {x e:EF}{g b a:Hd}{d:D}(p:e σ g=.ok d b)(q:x σ b=.ok (.ref dk) a)(r:a[dk]? = some (.ob l))(c:l.length<=1):zq x e σ g=.nx σ (a.set dk (.ob [d])):=by
 unfold zq;simp only[p,q,outE,r]
 match l,c with
 | [],_=>rfl
 | [_],_=>rfl
theorem Kq {bs:List Int}{ss:List (Option Int)}(c:1<=n)(e:n<=30)(O:TOk n n 0 T)(a:T.Pairwise oV)(d:∀t∈T,t.a < t.b)(lb:bs.length=n)(ls:ss.length=n)(os:∀x∈ss,x=none\/x=some 0\/x=some 1)(bb:∀b∈bs,b.natAbs < 10 ^ 60)(hd:h[dk]? = some (.ob [])) :
  dn [.ref dk,.str (bD [10] (cr n T bs ss))] h=.ok .non (h.set dk (.ob [(aS n T bs ss).enc])):=by
 have r:=Kh c e O a d lb ls os bb h;obtain⟨R,f⟩ : ∃R,R=bD [10] (cr n T bs ss):=⟨_,rfl⟩;rw[<-f]at r ⊢;exact(K0 rfl rfl (DX (aw (ar rfl rfl) r) rfl hd (by simp))).trans EO
theorem ON:wPe≠wSt/\wPe≠[115,116,97,121]/\wNu≠wSt/\wNu≠[115,116,97,121]/\wNu≠wPe:=by decide
theorem Cm (W:w.Ok n){p:Nat}(hp:p < n){b:Int}(o:((p:Int)).natAbs < 10 ^ 60)(bb:b.natAbs < 10 ^ 60){g:Hd}{k:Nat}(i:g[k]? = some (.lst [.str (tx (p:Int)),.str (tx b)])):dY [w.enc,mK [wPe,wNu],.ref k] g=.ok (.ref g.length) (g++[.lst [.int p,.int b]]):=by
 obtain⟨q1,q2,q3,u,L⟩:=ON;obtain⟨c,t⟩ : ∃c,c=mK [wPe,wNu]:=⟨_,rfl⟩;obtain⟨P,d⟩ : ∃P:D,P=.str (tx (p:Int)):=⟨_,rfl⟩;obtain⟨B,j⟩ : ∃B:D,B=.str (tx b):=⟨_,rfl⟩;have C:dy [w.enc,.int p] g=.ok (.bl true) g:=by
  have e:(p:Int)<=(n:Int) - 1:=by omega
  simp[dy,bu,runB,xF W,c8,e]
 have I:dA [.str wPe,P] g=.ok (.bl true) g:=by rw[d];exact K8 q1 q2 o g
 have v:dA [.str wNu,B] g=.ok (.bl true) g:=by rw[j];exact K8 q3 u bb g
 have J:eh [w.enc,.str wPe,P] g=.ok (.int p) g:=by rw[d];exact K9 q1 o g
 have K:eh [w.enc,.str wNu,B] g=.ok (.int b) g:=by rw[j];exact K9 q3 bb g
 have E:∀σ:Sd,aa 4 σ g=.ok P g->gM (aa 4) σ g=.ok (.int p) g:=λσ e=>mF (by rw[e,d]) (by have:=dF (p:Int) o;omega) (kJ p);rw[<-d,<-j]at i;have m:im g c=some ([.str wPe,.str wNu],none):=by rw[t];exact HY g [wPe,wNu]
 have l:=HZ i;have hd:dJ none [D.str wPe,.str wNu] g/\dJ (some k) [P,B] g:=⟨trivial,i⟩;have r:∀x y:D,∀f:List Nat,∀z,dA [.str f,z] g=.ok (.bl true) g->f7 [some w.enc,some c,some (.ref k),some (.str f),some z] g=.nx [some w.enc,some c,some (.ref k),some (.str f),some z] g:=λx y f z e =>
  (cn (bX (b:=true) (aT (aw (bU rfl rfl) e)))).trans rfl
 have G:eZ [some w.enc,some c,some (.ref k),some (.str wPe),some P] g=.nx [some w.enc,some c,some (.ref k),some (.str wPe),some P] g :=
  (cn (nt (aT rfl) (bX (b:=true) (aT (aw (bU rfl (E _ rfl)) C))))).trans rfl
 have q:eZ [some w.enc,some c,some (.ref k),some (.str wNu),some B] g=.nx [some w.enc,some c,some (.ref k),some (.str wNu),some B] g :=
  (cn (rT (aT (ah rfl rfl (Ig L g))))).trans rfl
 have H:=rZ (a:=aa 1) (b:=aa 2) (tg:=gT [3,4]) (body:=f7) (σ:=[some w.enc,some c,some (.ref k),none,none]) (h:=g) rfl rfl m l (iJ hd rfl (r P P wPe P I) (iJ hd rfl (r P P wNu B v) (oY hd)));have A:=rZ (a:=aa 1) (b:=aa 2) (tg:=gT [3,4]) (body:=eZ) (σ:=[some w.enc,some c,some (.ref k),some (.str wNu),some B]) (h:=g) rfl rfl m l (iJ hd rfl G (iJ hd rfl q (oY hd)));have F:=Ai (nl:=2) (caps:=[0]) (a:=aa 1) (b:=aa 2) (tg:=gT [0,1]) (e:=am eh (ab (aa 2) (ab (aa 0) (ab (aa 1) ao)))) (σ:=[some w.enc,some c,some (.ref k),some (.str wNu),some B]) (h:=g) rfl rfl m l (nR hd rfl (aw (ar rfl (bU rfl rfl)) J) (nR hd rfl (aw (ar rfl (bU rfl rfl)) K) (wB hd)));rw[<-t];exact(bJ rfl rfl (sx H (sx A (aV (cL F))))).trans ee
abbrev Nj (p:Nat) (b:Int):List Nat:=bD [32] [u4,tx (p:Int),tx b]
theorem Kr {bs:List Int}{ss:List (Option Int)}(m:1<=n)(o:n<=30)(O:TOk n n 0 T)(lb:bs.length=n)(ls:ss.length=n)(os:∀x∈ss,x=none\/x=some 0\/x=some 1){p:Nat}(hp:p < n){b:Int}(bb:b.natAbs < 10 ^ 60)(hd:h[dk]? = some (.ob [(aS n T bs ss).enc])) :
  cu [.ref dk,.str (Nj p b)] h=.ok (.str [111,107]) (h.set dk (.ob [(aS n T (bs.set p b) ss).enc])):=by
 have W:=jL o O lb ls;have t:=λg=>Ak m o O lb ls os hp b g;obtain⟨w,hw⟩ : ∃w,w=aS n T bs ss:=⟨_,rfl⟩;obtain⟨l,i⟩ : ∃l,l=aS n T (bs.set p b) ss:=⟨_,rfl⟩;rw[<-hw,<-i]at t;rw[<-hw]at W hd;rw[<-i];have u:((p:Int)).natAbs < 10 ^ 60:=ZS (show ((p:Int)).natAbs<=30 by omega) (by decide);have G:=dF _ u;have E:=dF _ bb;have A:dk < h.length:=(List.getElem?_eq_some_iff.mp hd).1;refine(bJ (d:=.str [111,107]) (h':=(h++[ca.lst ([u4,tx (p:Int),tx b].map .str),ca.lst ([tx (p:Int),tx b].map .str),ca.lst [.int p,.int b]]).set dk (.ob [l.enc])) rfl rfl (Al (w:=w) (wd:=u4) (L:=[tx (p:Int),tx b]) (fm:=[wPe,wNu]) (ths:=[.int p,.int b]) hd (by decide) (λx c => ?_) (by decide) (λx c => ?_) (show 2<=10 by decide) (by decide) (by decide) rfl (λg k z=>Cm W hp u bb z) λg j => ?_)).trans (Ij rfl A)
 ·simp only[Y6,YO,or_false]at c
  rcases c with e|e<;>(rw[e];exact mG (by decide) (by decide))
 ·simp only[Y6,YO,or_false]at c
  rcases c with e|e<;>(rw[e];omega)
 ·obtain⟨R,y⟩ : ∃R,R=bD [32] [u4,tx (p:Int),tx b]:=⟨_,rfl⟩
  rw[<-y,<-j];have C:g[h.length]? = some (.lst ([u4,tx (p:Int),tx b].map .str)):=by rw[j];simp
  have v:g[h.length + 2]? = some (.lst [.int p,.int b]):=by rw[j];simp
  have f:g[dk]? = some (.ob [w.enc]):=by rw[j];exact bn _ hd
  obtain⟨σ,a⟩ : ∃σ:Sd,σ = [some (.ref dk),some (.str R),some (.ref h.length),some (.ref (h.length + 2))]:=⟨_,rfl⟩;rw[<-a];have r:aa 0 σ g=.ok (.ref dk) g:=by rw[a];rfl
  have D:aa 3 σ g=.ok (.ref (h.length + 2)) g:=by rw[a];rfl
  have q:fAt (aa 2) (fC (.int 0)) σ g=.ok (.str u4) g:=aL (by rw[a];rfl) rfl (aE C) (qP _ _);have F:(tE (af oIn (fAt (aa 2) (fC (.int 0))) (i9 (ab (fC (.str [116,105,101])) (ab (fC (.str [98,97,114])) (ab (fC (.str [115,116,97,121])) ao)))))) σ g=.ok true g:=aT (ah q (tm (ar rfl (bU rfl rfl))) rfl);have B:gF [w.enc,.str u4,.ref (h.length + 2)] g=.ok l.enc g :=
   (bJ rfl rfl (sx ((cn (h1:=g) (aT rfl)).trans rfl) (oA ((lE (h1:=g) (aT rfl)).trans (aV (aw (ar rfl (bU (aL rfl rfl (aE v) (qP _ _)) (aL rfl rfl (aE v) (OB _ _ _)))) (t g))))))).trans aQ
  exact oA ((lE F).trans (sx (DX (aw (ar (Cl r f) (bU q D)) B) r f (by simp)) (aV rfl)))
end
theorem PU {t:TF}{a b:SF}{h':Hd}(e:t σ h=.ok true h'):sIf t a b σ h=a σ h':=by simp[sIf,e]
theorem Nk {t:TF}{a b:SF}{h':Hd}(e:t σ h=.ok false h'):sIf t a b σ h=b σ h':=by simp[sIf,e]
theorem yc1 (ns:List Int)(k:Nat)(e:k < ns.length)(h:Hd):bq [.lit (ns.map .int),.int k] h=.ok (.int ns[k]) h:=by
 have a:=kf (f:=D.int) e;simp[bq,bu,runB,e,a]
theorem Fq {x y:Int}(e:(sml x || sml y)=true)(h:Hd):cB (.int x) (.int y) h=.ok (.int (x * y)) h:=by
 simp only[cB,oIc,e,YP]
theorem yc2 (ns:List Int)(K:Int)(e : ¬K < (ns.length:Int))(d:sml K=true)(h:Hd):bq [.lit (ns.map .int),.int K] h=.ok (.int (71 * K * K + 7 * K)) h:=by
 have i:∀h,cB (.int 71) (.int K) h=.ok (.int (71 * K)) h:=λh=>Fq (by rw[d,WK]) h;have f:∀h,cB (.int (71 * K)) (.int K) h=.ok (.int (71 * K * K)) h:=λh=>Fq (by rw[d,WK]) h;have g:∀h,cB (.int 7) (.int K) h=.ok (.int (7 * K)) h:=λh=>Fq (by rw[d,WK]) h;generalize 71 * K=a at i f ⊢;generalize a * K=b at f ⊢;generalize 7 * K=c at g ⊢;simp[-cB,bq,bu,runB,e,i,f,g]
theorem uc (ns:List Int)(k:Nat)(a:k<=63):∃v,∀h,bq [.lit (ns.map .int),.int k] h=.ok (.int v) h:=by
 by_cases e:k < ns.length
 ·exact⟨_,yc1 ns k e⟩
 ·exact⟨_,yc2 ns k (by omega) (rV (by omega) (by omega))⟩
theorem Ks (c way base:Int)(m:Nat)(hm:m<=1000)(p:0 < base)(M:base < 2 ^ 250)(h:Hd):∃l:List Int,dw [.int c,.int way,.int m,.int base] h=.ok (.ref h.length) (h++[.lst (l.map .int)])/\l.length=m/\∀x∈l,0<=x/\x < base:=by
 obtain⟨A,t⟩ : ∃A,A=h.length:=⟨_,rfl⟩;obtain⟨j,s⟩ : ∃j:Int,j=if way % 2=1 then c % 2147483629 * 48271 % 2147483647 else c:=⟨_,rfl⟩
 have L:way % 2=1->0<=j/\j < 4611686018427387904:=λe=>by
  rw[s,z4 e];exact⟨WA _ (by decide),Int.lt_trans (XW _ (by decide)) (by decide)⟩
 obtain⟨σ',h',G,l,z,y,V,N,H,X,k6⟩:=bZ (P:=λi σ h'=>∃(l:List Int) (z:Int) (y:Option D),σ = [some (.int c),some (.int way),some (.int m),some (.int base),some (.ref A),some (.int z),y]/\h'=h++[.lst (l.map .int)]/\l.length=i/\(∀x∈l,0<=x/\x < base)/\(way % 2=1->0<=z/\z < 4611686018427387904)) (g:=none) (k:=0)
   (all:=(List.range m).map λk:Nat=>D.int k) (λ_ _ _ _=>trivial)
   (xs:=(List.range m).map λk:Nat=>D.int k) (tg:=gN 6) (σ:=[some (.int c),some (.int way),some (.int m),some (.int base),some (.ref A),some (.int j),none]) (h:=h++[.lst []]) (b:=tK) (by
   rintro i x σ d a ⟨l,z,y,rfl,r,u,I,K⟩;obtain⟨hi,rfl⟩:=fO a;rw[Z1]at u ⊢;have w:d[A]? = some (.lst (l.map .int)):=by rw[r];exact iu t _
   have J:(l.map D.int).length < SZ:=by rw[ZA,u];exact Z6 hi (ZS hm (by decide))
   have st:∀v:Int,d.set A (.lst (l.map .int++[.int v]))=h++[.lst ((l++[v]).map .int)]:=λv=>by rw[r,kc t,ZR];rfl
   have F:∀q:Int,(0<=q % base/\q % base < base):=λq=>⟨WA q (Int.ne_of_gt p),XW q p⟩
   by_cases e:way % 2=1
   ·have o:=K e
    have sz:sml z=true:=rV o.1 o.2;have S:sml 69621=true:=by decide
    have B:sml 11=true:=by decide
    obtain⟨f,n⟩ : ∃f,f=(z * z + 69621 * z + 11 * i + 5) % 2147483549:=⟨_,rfl⟩;have T:0<=f:=by rw[n];exact WA _ (by decide)
    have Z:f < 2147483549:=by rw[n];exact XW _ (by decide)
    refine⟨_,rfl,[some (.int c),some (.int way),some (.int m),some (.int base),some (.ref A),some (.int f),some (.int i)],_,?_,l++[f / 7 % base],f,_,rfl,rfl,by simp[u],λx a => ?_,λ_=>⟨T,Int.lt_trans Z (by decide)⟩⟩
    ·rw[<-st]
     have Y:aH (gN 5) (af dh (af bP (af bP (af bP (af cB (aa 5) (aa 5)) (af cB (fC (.int 69621)) (aa 5))) (af cB (fC (.int 11)) (aa 6))) (fC (.int 5))) (fC (.int 2147483549))) [some (.int c),some (.int way),some (.int m),some (.int base),some (.ref A),some (.int z),some (.int i)] d=.nx [some (.int c),some (.int way),some (.int m),some (.int base),some (.ref A),some (.int f),some (.int i)] d:=by
      rw[n];exact aF (ah (ah (ah (ah (ah rfl rfl (iq sz)) (ah rfl rfl (iq S)) rfl) (ah rfl rfl (iq B)) rfl) rfl rfl) rfl (ef (by decide)))
     have E:tE (af oEq (af dh (aa 1) (fC (.int 2))) (fC (.int 1))) [some (.int c),some (.int way),some (.int m),some (.int base),some (.ref A),some (.int z),some (.int i)] d=.ok true d:=aT (ah (ah rfl rfl (ef (by decide))) rfl (nu e));show sIf _ _ _ [some (.int c),some (.int way),some (.int m),some (.int base),some (.ref A),some (.int z),some (.int i)] d=_;rw[PU E,bS Y];exact hJ (ka rfl w (ah (ah rfl rfl (lF (by decide) (by decide))) rfl (ef p)) w J)
    ·rcases List.mem_append.mp a with a|a
     ·exact I x a
     ·simp at a;subst a;exact F _
   ·refine⟨_,rfl,[some (.int c),some (.int way),some (.int m),some (.int base),some (.ref A),some (.int (z / base)),some (.int i)],_,?_,l++[z % base],z / base,_,rfl,rfl,by simp[u],λx a => ?_,λq=>absurd q e⟩
    ·rw[<-st]
     have E:tE (af oEq (af dh (aa 1) (fC (.int 2))) (fC (.int 1))) [some (.int c),some (.int way),some (.int m),some (.int base),some (.ref A),some (.int z),some (.int i)] d=.ok false d:=aT (ah (ah rfl rfl (ef (by decide))) rfl (lG e));show sIf _ _ _ [some (.int c),some (.int way),some (.int m),some (.int base),some (.ref A),some (.int z),some (.int i)] d=_;rw[Nk E];exact(bS (hJ (ka rfl w (ah rfl rfl (ef p)) w J))).trans (aF (ah rfl rfl (lF p M)))
    ·rcases List.mem_append.mp a with a|a
     ·exact I x a
     ·simp at a;subst a;exact F _) ⟨[],j,none,rfl,rfl,rfl,by simp,L⟩
 have e0:0 + ((List.range m).map λk:Nat=>D.int k).length=m:=by simp
 rw[e0]at H;refine⟨l,?_,H,X⟩;have W:aH (gN 4) (bG ao) [some (.int c),some (.int way),some (.int m),some (.int base),none,none,none] h=.nx [some (.int c),some (.int way),some (.int m),some (.int base),some (.ref A),none,none] (h++[.lst []]):=aF (DF t rfl (YG _));have O:aH (gN 5) (aa 0) [some (.int c),some (.int way),some (.int m),some (.int base),some (.ref A),none,none] (h++[.lst []])=.nx [some (.int c),some (.int way),some (.int m),some (.int base),some (.ref A),some (.int c),none] (h++[.lst []]):=rfl;have U:sIf (tE (af oEq (af dh (aa 1) (fC (.int 2))) (fC (.int 1)))) (aH (gN 5) (af dh (af cB (af dh (aa 0) (fC (.int 2147483629))) (fC (.int 48271))) (fC (.int 2147483647)))) bc [some (.int c),some (.int way),some (.int m),some (.int base),some (.ref A),some (.int c),none] (h++[.lst []])=.nx [some (.int c),some (.int way),some (.int m),some (.int base),some (.ref A),some (.int j),none] (h++[.lst []]):=by
  have C:sml 48271=true:=by decide
  rw[s]
  by_cases e:way % 2=1
  ·rw[z4 e];exact(lE (aT (ah (ah rfl rfl (ef (by decide))) rfl (nu e)))).trans (aF (ah (ah (ah rfl rfl (ef (by decide))) rfl (JU C)) rfl (ef (by decide))))
  ·rw[z5 e];exact cn (aT (ah (ah rfl rfl (ef (by decide))) rfl (lG e)))
 have Q:eO (bH (aa 2)) (gN 6) tK [some (.int c),some (.int way),some (.int m),some (.int base),some (.ref A),some (.int j),none] (h++[.lst []])=.nx [some (.int c),some (.int way),some (.int m),some (.int base),some (.ref A),some (.int z),y] (h++[.lst (l.map .int)]):=by
  rw[V,N]at G;exact eE (cV rfl hm) G
 have R:aW (aa 4) [some (.int c),some (.int way),some (.int m),some (.int base),some (.ref A),some (.int z),y] (h++[.lst (l.map .int)])=.rt (.ref A) (h++[.lst (l.map .int)]):=aV rfl;have st:([D.int c,D.int way,D.int m,D.int base].map some++List.replicate (7 - [D.int c,D.int way,D.int m,D.int base].length) none:Sd)=[some (.int c),some (.int way),some (.int m),some (.int base),none,none,none]:=rfl;unfold dw bu runB;rw[z4 (by rfl),st,bS W,bS O,bS U,bS Q,R,<-t];exact ee
def gY (M:Nat->Nat->Int) (n i:Nat):List Int:=(List.range n).map (M i)
def qc (M:Nat->Nat->Int) (a b:Nat) (v:Int):Nat->Nat->Int:=λi j=>if i=a/\j=b then v else M i j
structure iZ (A n:Nat) (M:Nat->Nat->Int) (h:Hd):Prop where
 ro:∀i,i < n->h[A + i]? = some (.lst ((gY M n i).map .int))
 ti:h[A + n]? = some (.lst ((List.range n).map λi=>.ref (A + i)))
structure MOk (M:Nat->Nat->Int):Prop where
 sym:∀i j,M i j=M j i
 bd:∀i j,0<=M i j/\M i j<=400
 no:∀i,M i i=0
theorem Ik (M:Nat->Nat->Int)(n a b:Nat)(v:Int)(i:Nat):gY (qc M a b v) n i=if i=a then (gY M n a).set b v else gY M n i:=by
 by_cases e:i=a
 ·subst e
  rw[z4 rfl];apply XD;intro j
  by_cases hj:j < n
  ·by_cases ej:j=b
   ·subst ej
    rw[List.getElem?_set_self (by simp[gY,hj])];simp[gY,qc,hj]
   ·rw[ZP (by omega)]
    simp[gY,qc,hj,ej]
  ·rw[List.getElem?_eq_none (by simp[gY];omega),List.getElem?_eq_none (by simp[gY];omega)]
 ·rw[z5 e]
  apply YE;intro j _;simp[qc,e]
theorem iZ.put {M:Nat->Nat->Int}(m:iZ A n M h){a b:Nat}(c:a < n)(v:Int):iZ A n (qc M a b v) (h.set (A + a) (.lst (((gY M n a).map .int).set b (.int v)))) where
 ro:=λi hi=>by
  rw[Ik]
  by_cases e:i=a
  ·subst e
   rw[z4 rfl,List.getElem?_set_self (List.getElem?_eq_some_iff.mp (m.ro i hi)).1,List.map_set]
  ·rw[z5 e,ZP (λz=>e (X3 z).symm)];exact m.ro i hi
 ti:=by rw[ZP (λz=>ZN c (X3 z))];exact m.ti
theorem iZ.more {M:Nat->Nat->Int}(m:iZ A n M h)(g:Hd):iZ A n M (h++g):=by
 have k:∀{i:Nat} {x:ca},h[i]? = some x->(h++g)[i]? = some x:=λ{i x} e=>by
  rw[ZC (List.getElem?_eq_some_iff.mp e).1];exact e
 exact⟨λi hi=>k (m.ro i hi),k m.ti⟩
theorem iZ.set {M:Nat->Nat->Int}(m:iZ A n M h){k:Nat}(a:A + n < k)(c:ca):iZ A n M (h.set k c) :=
 ⟨λi hi=>by rw[ZP (by omega)];exact m.ro i hi,by rw[ZP (by omega)];exact m.ti⟩
theorem MOk.put {M:Nat->Nat->Int}(o:MOk M){a b:Nat}(ne:a≠b){v:Int}(c:0<=v)(h1:v<=400):MOk (qc (qc M a b v) b a v) where
 sym:=λi j=>by
  simp only[qc]
  by_cases q:i=b/\j=a
  ·rw[z4 q]
   by_cases r:j=b/\i=a
   ·rw[z4 r]
   ·rw[z5 r,z4 ⟨q.2,q.1⟩]
  ·rw[z5 q]
   by_cases p:i=a/\j=b
   ·rw[z4 p,z4 ⟨p.2,p.1⟩]
   ·rw[z5 p,z5 λz=>p ⟨z.2,z.1⟩,z5 λz=>q ⟨z.2,z.1⟩];exact o.sym i j
 bd:=λi j=>by
  simp only[qc];split
  ·exact⟨c,h1⟩
  ·split
   ·exact⟨c,h1⟩
   ·exact o.bd i j
 no:=λi=>by
  simp only[qc];rw[z5 λz=>ne (z.2.symm.trans z.1),z5 λz=>ne (z.1.symm.trans z.2)];exact o.no i
theorem PV {t:Int}(h:0<=t/\t < 803):0<=(if t - 402 > 0 then t - 402 else 0)/\(if t - 402 > 0 then t - 402 else 0)<=400:=by split<;>omega
theorem Im {M:Nat->Nat->Int}{i:Nat}(a:j < n):atI ((gY M n i).map D.int) (j:Int)=some (.int (M i j)):=by
 rw[kf (by simp[gY,a])];simp[gY]
theorem DY {i:Nat}(hi:i < n):atI ((List.range n).map λi=>D.ref (A + i)) (i:Int)=some (.ref (A + i)):=by
 refine de ?_;simp[hi]
variable {b c:Option D}
theorem Lc {x1 a d:Option D}{r:Sd}{N O:Int}(e:(sml O || sml N)=true)(h:Hd):af cB (aa 6) (aa 3) (b :: x1 :: a :: some (.int N) :: d :: c :: some (.int O) :: r) h=.ok (.int (O * N)) h:=by
 rw[show af cB (aa 6) (aa 3) (b :: x1 :: a :: some (.int N) :: d :: c :: some (.int O) :: r) h=cB (.int O) (.int N) h from rfl];exact Fq e h
variable {way:Int}
theorem q1 {tk one i:Nat}{S0 p1:D}{t q:Int}{e:List D}{a:Hd}{E:EF}(f:E [some S0,some p1,some (.int way),some (.int n),c,some (.ref tk),some (.int one),some (.int i),b,none,none,none] a=.ok (.int q) a)(g:a[tk]? = some (.lst e))(d:atI e (q + i)=some (.int t)):aH (gN 8) (Bv (fC (.int 0)) (af fU (fAt (aa 5) (af bP E (aa 7))) (fC (.int 402)))) [some S0,some p1,some (.int way),some (.int n),c,some (.ref tk),some (.int one),some (.int i),b,none,none,none] a=.nx [some S0,some p1,some (.int way),some (.int n),c,some (.ref tk),some (.int one),some (.int i),some (.int (if t - 402 > 0 then t - 402 else 0)),none,none,none] a:=by
 exact aF (M3 rfl (ah (aL rfl (ah f rfl rfl) (aE g) d) rfl rfl))
theorem q2 {tk one i:Nat}{S0 p1:D}{t y q d:Int}{f:List D}{a:Hd}{E:EF}(j:E [some S0,some p1,some (.int way),some (.int n),c,some (.ref tk),some (.int one),some (.int i),some (.int d),none,none,none] a=.ok (.int q) a)(h:a[tk]? = some (.lst f))(b:atI f (q + i)=some (.int t))(e:way / 64 % 2=1)(g:atI [D.int 0,.int 0,.int 1,.int 1,.int 2,.int 3,.int 1] (t % 7)=some (.int y)):sIf (tE (af oEq (af dh (af kS (aa 2) (fC (.int 64))) (fC (.int 2))) (fC (.int 1)))) (aH (gN 8) (fIx (ab (fC (.int 0)) (ab (fC (.int 0)) (ab (fC (.int 1)) (ab (fC (.int 1)) (ab (fC (.int 2)) (ab (fC (.int 3)) (ab (fC (.int 1)) ao))))))) (af dh (fAt (aa 5) (af bP E (aa 7))) (fC (.int 7))))) bc [some S0,some p1,some (.int way),some (.int n),c,some (.ref tk),some (.int one),some (.int i),some (.int d),none,none,none] a=.nx [some S0,some p1,some (.int way),some (.int n),c,some (.ref tk),some (.int one),some (.int i),some (.int y),none,none,none] a:=by
 exact(lE (aT (ah (ah (ah rfl rfl (lF (by decide) (by decide))) rfl (ef (by decide))) rfl (nu e)))).trans (aF (v7 (ar rfl (ar rfl (ar rfl (ar rfl (ar rfl (bU rfl rfl)))))) (ah (aL rfl (ah j rfl rfl) (aE h) b) rfl (ef (by decide))) g))
theorem q3 {tk one i:Nat}{S0 p1:D}{b:Int}{a:Hd}{B:SF}(e : ¬way / 64 % 2=1):sIf (tE (af oEq (af dh (af kS (aa 2) (fC (.int 64))) (fC (.int 2))) (fC (.int 1)))) B bc [some S0,some p1,some (.int way),some (.int n),c,some (.ref tk),some (.int one),some (.int i),some (.int b),none,none,none] a=.nx [some S0,some p1,some (.int way),some (.int n),c,some (.ref tk),some (.int one),some (.int i),some (.int b),none,none,none] a:=by
 exact cn (aT (ah (ah (ah rfl rfl (lF (by decide) (by decide))) rfl (ef (by decide))) rfl (lG e)))
theorem Kt {one tk:Nat}{j:List Int}(h1:one < n)(R:n<=30)(tl:j.length=n * n)(tb:∀x∈j,0<=x/\x < 803)(K:A + n < tk){M:Nat->Nat->Int}(O:MOk M)(m:iZ A n M h)(ht:h[tk]? = some (.lst (j.map .int))){S0 p1:D}{a:Option D}{L:Nat}(W:h.length=L) :
  ∃l h' z w,jG none ((List.range one).map λk:Nat=>D.int k) (gN 7) nE ((List.range one).map λk:Nat=>D.int k) [some S0,some p1,some (.int way),some (.int n),some (.ref (A + n)),some (.ref tk),some (.int one),a,b,none,none,none] h
   = .nx [some S0,some p1,some (.int way),some (.int n),some (.ref (A + n)),some (.ref tk),some (.int one),z,w,none,none,none] h'/\MOk l/\iZ A n l h'/\h'[tk]? = some (.lst (j.map .int))/\h'.length=L:=by
 obtain⟨σ',h',k1,l,z,w,k2,T,k4,k5,X⟩:=bZ (P:=λi σ h'=>∃(l:Nat->Nat->Int) (a b:Option D),σ = [some S0,some p1,some (.int way),some (.int n),some (.ref (A + n)),some (.ref tk),some (.int one),a,b,none,none,none]/\MOk l/\iZ A n l h'/\h'[tk]? = some (.lst (j.map .int))/\h'.length=L) (g:=none) (k:=0)
   (all:=(List.range one).map λk:Nat=>D.int k) (λ_ _ _ _=>trivial)
   (xs:=(List.range one).map λk:Nat=>D.int k) (tg:=gN 7) (σ:=[some S0,some p1,some (.int way),some (.int n),some (.ref (A + n)),some (.ref tk),some (.int one),a,b,none,none,none]) (h:=h) (b:=nE) (by
   rintro i x σ d hx ⟨M1,a,b,rfl,Z,C,B,l1⟩;obtain⟨hi,rfl⟩:=fO hx;have c:i < n:=Z6 hi h1;have lt:one * n + i < j.length:=by
    rw[tl];exact v3 (Nat.add_lt_add_left c _) (by rw[<-Nat.succ_mul];exact Nat.mul_le_mul_right n h1)
   have p:atI (j.map D.int) ((one:Int) * n + i)=some (.int j[one * n + i]):=by
    have:=kf (f:=D.int) lt;rw[show (one:Int) * n + i=((one * n + i:Nat):Int) by rw[Int.natCast_add,Int.natCast_mul]];exact this
   have r:=tb _ (YC lt);generalize j[one * n + i] = t at p r;have J:sml (n:Int)=true:=rV (XU n) (Int.lt_of_le_of_lt (Int.ofNat_le.mpr R) (by decide));obtain⟨o,q⟩ : ∃o:Int,o=if t - 402 > 0 then t - 402 else 0:=⟨_,rfl⟩
   have s:0<=o/\o<=400:=by rw[q];exact PV r
   have s1:aH (gN 8) (Bv (fC (.int 0)) (af fU (fAt (aa 5) (af bP (af cB (aa 6) (aa 3)) (aa 7))) (fC (.int 402)))) [some S0,some p1,some (.int way),some (.int n),some (.ref (A + n)),some (.ref tk),some (.int one),some (.int i),b,none,none,none] d=.nx [some S0,some p1,some (.int way),some (.int n),some (.ref (A + n)),some (.ref tk),some (.int one),some (.int i),some (.int o),none,none,none] d:=by
    rw[q];exact q1 (E:=af cB (aa 6) (aa 3)) (Lc (by rw[J,WK]) d) B p
   obtain⟨v,N,U⟩ : ∃v:Int,(0<=v/\v<=400)/\sIf (tE (af oEq (af dh (af kS (aa 2) (fC (.int 64))) (fC (.int 2))) (fC (.int 1)))) (aH (gN 8) (fIx (ab (fC (.int 0)) (ab (fC (.int 0)) (ab (fC (.int 1)) (ab (fC (.int 1)) (ab (fC (.int 2)) (ab (fC (.int 3)) (ab (fC (.int 1)) ao))))))) (af dh (fAt (aa 5) (af bP (af cB (aa 6) (aa 3)) (aa 7))) (fC (.int 7))))) bc [some S0,some p1,some (.int way),some (.int n),some (.ref (A + n)),some (.ref tk),some (.int one),some (.int i),some (.int o),none,none,none] d=.nx [some S0,some p1,some (.int way),some (.int n),some (.ref (A + n)),some (.ref tk),some (.int one),some (.int i),some (.int v),none,none,none] d:=by
    by_cases e:way / 64 % 2=1
    ·obtain⟨y,Q,H⟩:=OC D.int [0,0,1,1,2,3,1] (x:=t % 7) (WA t (by decide)) (XW t (by decide))
     simp only[x3,YY]at H;refine⟨y,by simp at Q;rcases Q with rfl|rfl|rfl|rfl|rfl<;>decide,?_⟩;exact q2 (E:=af cB (aa 6) (aa 3)) (Lc (by rw[J,WK]) d) B p e H
    ·refine⟨o,s,?_⟩
     exact q3 e
   have I:∀(M:Nat->Nat->Int) (i:Nat),(gY M n i).length=n:=λM i=>by simp[gY]
   have ne:one≠i:=Z5 hi;have G:=C.put (b:=i) h1 v;have Y:=G.put (b:=one) c v;have u:=C.ro one h1;have F:=G.ro i c;have a1:=DY (A:=A) h1;have S:=DY (A:=A) c;have s3:mJ (fAt (aa 4) (aa 6)) (aa 7) (aa 8) [some S0,some p1,some (.int way),some (.int n),some (.ref (A + n)),some (.ref tk),some (.int one),some (.int i),some (.int v),none,none,none] d=.nx [some S0,some p1,some (.int way),some (.int n),some (.ref (A + n)),some (.ref tk),some (.int one),some (.int i),some (.int v),none,none,none] (d.set (A + one) (.lst (((gY M1 n one).map .int).set i (.int v)))):=by
    exact tq rfl (aL rfl rfl (aE C.ti) a1) rfl u (rX (by rw[ZA,I];exact c))
   have V:mJ (fAt (aa 4) (aa 7)) (aa 6) (aa 8) [some S0,some p1,some (.int way),some (.int n),some (.ref (A + n)),some (.ref tk),some (.int one),some (.int i),some (.int v),none,none,none] (d.set (A + one) (.lst (((gY M1 n one).map .int).set i (.int v))))=.nx [some S0,some p1,some (.int way),some (.int n),some (.ref (A + n)),some (.ref tk),some (.int one),some (.int i),some (.int v),none,none,none] ((d.set (A + one) (.lst (((gY M1 n one).map .int).set i (.int v)))).set (A + i) (.lst (((gY (qc M1 one i v) n i).map .int).set one (.int v)))):=by
    exact tq rfl (aL rfl rfl (aE G.ti) S) rfl F (rX (by rw[ZA,I];exact h1))
   refine⟨_,rfl,[some S0,some p1,some (.int way),some (.int n),some (.ref (A + n)),some (.ref tk),some (.int one),some (.int i),some (.int v),none,none,none],_,?_,qc (qc M1 one i v) i one v,_,_,rfl,Z.put ne N.1 N.2,Y,?_,by simp[l1]⟩
   ·show ax _ _ [some S0,some p1,some (.int way),some (.int n),some (.ref (A + n)),some (.ref tk),some (.int one),some (.int i),b,none,none,none] d=_
    rw[bS s1,bS U,bS s3,V]
   ·exact(ZP (ZN (Z6 (Nat.add_lt_add_left c A) K))).trans ((ZP (ZN (Z6 (Nat.add_lt_add_left h1 A) K))).trans B)) ⟨M,a,b,rfl,O,m,ht,W⟩
 exact⟨l,h',z,w,by rw[k1,k2],T,k4,k5,X⟩
theorem Ku {tk:Nat}{e:List Int}(f:n<=30)(tl:e.length=n * n)(tb:∀x∈e,0<=x/\x < 803)(s:A + n < tk){M:Nat->Nat->Int}(O:MOk M)(m:iZ A n M h)(ht:h[tk]? = some (.lst (e.map .int))){S0 p1:D}{L:Nat}(p:h.length=L) :
  ∃d h' c a b,jG none ((List.range n).map λk:Nat=>D.int k) (gN 6) kh ((List.range n).map λk:Nat=>D.int k) [some S0,some p1,some (.int way),some (.int n),some (.ref (A + n)),some (.ref tk),none,none,none,none,none,none] h
   = .nx [some S0,some p1,some (.int way),some (.int n),some (.ref (A + n)),some (.ref tk),c,a,b,none,none,none] h'/\MOk d/\iZ A n d h'/\h'.length=L:=by
 obtain⟨σ',h',B,d,E,y,t,w,o,C,K,r⟩:=bZ (P:=λi σ h'=>∃(d:Nat->Nat->Int) (c a b:Option D),σ = [some S0,some p1,some (.int way),some (.int n),some (.ref (A + n)),some (.ref tk),c,a,b,none,none,none]/\MOk d/\iZ A n d h'/\h'[tk]? = some (.lst (e.map .int))/\h'.length=L) (g:=none) (k:=0)
   (all:=(List.range n).map λk:Nat=>D.int k) (λ_ _ _ _=>trivial)
   (xs:=(List.range n).map λk:Nat=>D.int k) (tg:=gN 6) (σ:=[some S0,some p1,some (.int way),some (.int n),some (.ref (A + n)),some (.ref tk),none,none,none,none,none,none]) (h:=h) (b:=kh) (by
   rintro i x σ v H ⟨M1,c,a,b,rfl,u,G,z,l1⟩;obtain⟨hi,rfl⟩:=fO H;obtain⟨M2,F,l,j,q,O2,J,I,l2⟩:=Kt hi f tl tb s u G z (S0:=S0) (p1:=p1) (way:=way) (a:=a) (b:=b) l1;refine⟨_,rfl,_,F,?_,M2,some (.int i),l,j,rfl,O2,J,I,l2⟩;show eO _ _ _ [some S0,some p1,some (.int way),some (.int n),some (.ref (A + n)),some (.ref tk),some (.int i),a,b,none,none,none] v=_;exact eE (cV rfl (ZM (YS hi) (re f))) q) ⟨M,none,none,none,rfl,O,m,ht,p⟩
 exact⟨d,h',E,y,t,by rw[B,w],o,C,r⟩
structure Mdl (ns:List Int) (mo:Int) (n:Nat) (M:Nat->Nat->Int) (bs:List Int) (ss:List (Option Int)) (bk sk:Nat) (h:Hd):Prop where
 run:jM [.lit (ns.map .int),.int mo] []=.ok (.tup [.ref (0 + n),.ref bk,.ref sk]) h
 n1:1<=n
 n30:n<=30
 nmo:(n:Int)<=mo
 bkn:n < bk
 skn:n < sk
 mt:iZ 0 n M h
 mo:MOk M
 ba:h[bk]? = some (.lst (bs.map .int))
 st:h[sk]? = some (.lst (ss.map cR))
 lb:bs.length=n
 ls:ss.length=n
 os:∀x∈ss,x=none\/x=some 0\/x=some 1
 bb:∀x∈bs,-20000<=x/\x<=20000
theorem Am {d:Int}{i:Nat}(hi : σ[i]? = some (some (.int way)))(a:0 < d)(b:d < 2 ^ 250):tE (af oEq (af dh (af kS (aa i) (fC (.int d))) (fC (.int 2))) (fC (.int 1))) σ h=.ok (decide (way / d % 2=1)) h:=by
 have v:aa i σ h=.ok (.int way) h:=by simp only[aa,slot,hi]
 exact aT (ah (ah (ah v rfl (lF a b)) rfl (ef (by decide))) rfl zB)
theorem Nl (x:Int):x % 2=0\/x % 2=1:=Int.emod_two_eq x
theorem lv1 {x:Int}(h:0<=x/\x < 2001) : -20000<=x - 1000/\x - 1000<=20000:=by omega
theorem lv2 {x y:Int}(h:0<=x/\x<=12000) : -20000<=x + y % 7 - 3/\x + y % 7 - 3<=20000:=by omega
theorem lv3 {x:Int}(h:0<=x/\x<=12000) : -20000<=x/\x<=20000:=by omega
theorem Io {A lk tk:Nat}{f:List Int}(W:n<=30)(K:f.length=n)(ne:lk≠tk){bs:List Int}(lb:bs.length=n)(R:∀x∈f,0<=x/\x < 2001)(bb:∀x∈bs,0<=x/\x<=12000)(G:h[lk]? = some (.lst (bs.map .int)))(ht:h[tk]? = some (.lst (f.map .int))){S0 p1 q4 q5:D}{a:Option D} :
  ∃(d:List Int) (v:Option D),jG none ((List.range n).map λk:Nat=>D.int k) (gN 6) iS ((List.range n).map λk:Nat=>D.int k) [some S0,some p1,some (.int way),some (.int n),some q4,some q5,c,a,b,some (.ref lk),some (.ref tk),none] h
   = .nx [some S0,some p1,some (.int way),some (.int n),some q4,some q5,v,a,b,some (.ref lk),some (.ref tk),none] (h.set lk (.lst (d.map .int)))/\d.length=n/\∀x∈d,-20000<=x/\x<=20000:=by
 have t:lk < h.length:=(List.getElem?_eq_some_iff.mp G).1;obtain⟨σ',h',S,d,v,M,I,T,O⟩:=bZ (P:=λi σ h'=>∃(d:List Int) (v:Option D),σ = [some S0,some p1,some (.int way),some (.int n),some q4,some q5,v,a,b,some (.ref lk),some (.ref tk),none]/\h'=h.set lk (.lst (d.map .int))/\d.length=n/\∀(j:Nat) x,d[j]? = some x->(-20000<=x/\x<=20000)/\(i<=j->0<=x/\x<=12000)) (g:=none) (k:=0)
   (all:=(List.range n).map λk:Nat=>D.int k) (λ_ _ _ _=>trivial)
   (xs:=(List.range n).map λk:Nat=>D.int k) (tg:=gN 6) (σ:=[some S0,some p1,some (.int way),some (.int n),some q4,some q5,c,a,b,some (.ref lk),some (.ref tk),none]) (h:=h) (b:=iS) (by
   rintro i x σ C U ⟨l,X,rfl,p,l1,r⟩;rw[Z1]at r ⊢;obtain⟨hi,rfl⟩:=fO U;have B:C[lk]? = some (.lst (l.map .int)):=by rw[p,List.getElem?_set_self t]
   have E:C[tk]? = some (.lst (f.map .int)):=by rw[p,ZP ne];exact ht
   have m:i < l.length:=l1 ▸ hi;have F:atI (l.map D.int) (i:Int)=some (.int l[i]):=kf m;have s:atI (f.map D.int) (i:Int)=some (.int f[i]):=kf (K ▸ hi);have u:=(r i l[i] (by simp[m])).2 (ZL _);have w:=R f[i] (YC _);generalize l[i] = x1 at F u;generalize f[i] = x2 at s w;have J:=Nl (way / 256);have H:ixN (l.map D.int).length (i:Int)=some i:=rX (by rw[ZA];exact m);obtain⟨y,Q,N⟩ : ∃y:Int,(-20000<=y/\y<=20000)/\iS [some S0,some p1,some (.int way),some (.int n),some q4,some q5,some (.int i),a,b,some (.ref lk),some (.ref tk),none] C=.nx [some S0,some p1,some (.int way),some (.int n),some q4,some q5,some (.int i),a,b,some (.ref lk),some (.ref tk),none] (C.set lk (.lst ((l.map .int).set i (.int y)))):=by
    rcases J with e|e
    ·exact⟨x2 - 1000,lv1 w,(tq (v7 (ar (ah (aL rfl rfl (aE E) s) rfl rfl) (ar (ah (ah (aL rfl rfl (aE B) F) (ah (aL rfl rfl (aE E) s) rfl (ef (by decide))) rfl) rfl rfl) rfl)) (ah (ah rfl rfl (lF (by decide) (by decide))) rfl (ef (by decide))) (by rw[e];rfl)) rfl rfl B H)⟩
    ·exact⟨x1 + x2 % 7 - 3,lv2 u,(tq (v7 (ar (ah (aL rfl rfl (aE E) s) rfl rfl) (ar (ah (ah (aL rfl rfl (aE B) F) (ah (aL rfl rfl (aE E) s) rfl (ef (by decide))) rfl) rfl rfl) rfl)) (ah (ah rfl rfl (lF (by decide) (by decide))) rfl (ef (by decide))) (by rw[e];rfl)) rfl rfl B H)⟩
   refine⟨_,rfl,_,_,N,l.set i y,some (.int i),rfl,?_,by simp[l1],λj z o => ?_⟩
   ·rw[p,List.set_set,List.map_set]
   ·by_cases e:i=j
    ·subst e
     rw[List.getElem?_set_self m]at o;cases o;exact⟨Q,λq=>absurd q (Nat.not_succ_le_self _)⟩
    ·rw[ZP e]at o
     have q:=r j z o;exact⟨q.1,λL=>q.2 (Nat.le_of_succ_le L)⟩) ⟨bs,c,rfl,by
    apply XD;intro j
    by_cases e:lk=j
    ·subst e;rw[List.getElem?_set_self t];exact G
    ·rw[ZP e],lb,λj z o=>by
     have q:=bb z (ZK o);exact⟨lv3 q,λ_=>q⟩⟩
 exact⟨d,v,by rw[S,M,I],T,λz o=>by
  obtain⟨j,V⟩:=List.getElem?_of_mem o;exact(O j z V).1⟩
theorem DZ (v:D):∀n,(List.replicate n [v]).flatten=List.replicate n v
 | 0=>rfl
 | n + 1=>by rw[YL,YL,YR,DZ v n];rfl
theorem Fu {l:List Int}(m:∀x∈l,0<=x/\x < 7){k:Nat}(i:h[k]? = some (.lst (l.map .int)))(a:Option D):∃ss:List (Option Int),cI (some k) (l.map .int) (gN 0) [] (fIx (ab (fC (.int 0)) (ab (fC (.int 1)) (ab (fC .non) (ab (fC .non) (ab (fC .non) (ab (fC .non) (ab (fC .non) ao))))))) (aa 0)) (l.map .int) [a] h=.ok (ss.map cR) h/\ss.length=l.length/\∀x∈ss,x=none\/x=some 0\/x=some 1:=by
 have:=bA (g:=some k) (all:=l.map .int) (tg:=gN 0) (cs:=[]) (e:=fIx (ab (fC (.int 0)) (ab (fC (.int 1)) (ab (fC .non) (ab (fC .non) (ab (fC .non) (ab (fC .non) (ab (fC .non) ao))))))) (aa 0)) (h:=h) (I:=λσ=>∃a,σ = [a]) (λ_=>true) (λd=>match d with | .int x=>cR (if x=0 then some 0 else if x=1 then some 1 else none)|_=>.non) i
  (xs:=l.map .int) (σ:=[a]) (by
   rintro x f σ ⟨c,rfl⟩;obtain⟨u,j,rfl⟩:=List.mem_map.mp f;have b:=m u j;refine⟨_,rfl,⟨_,rfl⟩,rfl,λ_ => ?_⟩;obtain⟨u,rfl⟩:=Int.eq_ofNat_of_zero_le b.1
   match u,Int.ofNat_lt.mp b.2 with
   | 0,_|1,_|2,_|3,_|4,_|5,_|6,_=>rfl
   | k + 7,z=>exact absurd z (Nat.not_lt.mpr (Nat.le_add_left 7 k))) ⟨_,rfl⟩
 refine⟨l.map λx=>if x=0 then some 0 else if x=1 then some 1 else none,?_,by simp,λx f => ?_⟩
 ·rw[this,List.filter_eq_self.mpr (by simp),Z7,Z7];rfl
 ·obtain⟨u,_,rfl⟩:=List.mem_map.mp f
  split
  ·exact .inr (.inl rfl)
  ·split
   ·exact .inr (.inr rfl)
   ·exact .inl rfl
theorem OO {x1 a:Option D}{r:Sd}{N:Int}(e:(sml N || sml N)=true)(h:Hd):af cB (aa 3) (aa 3) (b :: x1 :: a :: some (.int N) :: r) h=.ok (.int (N * N)) h:=by
 rw[show af cB (aa 3) (aa 3) (b :: x1 :: a :: some (.int N) :: r) h=cB (.int N) (.int N) h from rfl];exact Fq e h
theorem Nm {S0:D}{x1 d b:D}{f q:Int}{k:Nat}{E:EF}{a e:Hd}(c:bq [S0,.int 1] a=.ok (.int f) a)(g:E [some S0,some x1,some (.int way),some d,some b,none,none,none,none,none,none,none] a=.ok (.int q) a)(q4:dw [.int f,.int way,.int q,.int 803] a=.ok (.ref k) e) :
  aH (gN 5) (am dw (ab (am bq (ab (aa 0) (ab (fC (.int 1)) ao))) (ab (aa 2) (ab E (ab (fC (.int 803)) ao))))) [some S0,some x1,some (.int way),some d,some b,none,none,none,none,none,none,none] a=.nx [some S0,some x1,some (.int way),some d,some b,some (.ref k),none,none,none,none,none,none] e:=by
 exact aF (aw (ar (aw (bU rfl rfl) c) (ar rfl (ar g (ar rfl rfl)))) q4)
theorem Ld (a:n<=30){v:D}{b:EF}(c:b σ h=.ok (.int n) h):bG (sO (ab (fC v) ao) b) σ h=.ok (.ref h.length) (h++[.lst (List.replicate n v)]) :=
 cL (by rw[MZ (l:=[v]) rfl c ⟨XU n,Int.le_trans (Int.ofNat_le.mpr a) (by decide),by rw[WE];exact ZM (WU (Nat.one_mul n)) (re a)⟩,WE,DZ]) (by rw[WC];exact re a)
theorem Nn (way:Int){mo:Int}(c:0 < mo)(h1:mo<=17):∃n:Nat,(n:Int)=1 + way / 2 % mo/\1<=n/\n<=30/\(n:Int)<=mo:=by
 have a:=WA (way / 2) (Int.ne_of_gt c);have b:=XW (way / 2) c;generalize way / 2 % mo=x at a b;obtain⟨k,rfl⟩:=Int.eq_ofNat_of_zero_le a;exact⟨1 + k,rfl,XJ 1 k,by omega,by have b:(k:Int) < mo:=b;omega⟩
theorem Le:∀l:List Int,(∀y∈l,0<=y/\y<=400)->0<=l.sum/\l.sum<=400 * l.length
 | [],_=>⟨Y2 _,Y2 _⟩
 | y :: l,h=>by
  have a:=h y ZV;have b:=Le l λz c=>h z (ZW _ c);rw[YJ,y4];omega
theorem PX {x:Int}(a:n<=30)(h:0<=x/\x<=400 * n):0<=x/\x<=12000:=⟨h.1,Int.le_trans h.2 (Int.mul_le_mul_of_nonneg_left (Int.ofNat_le.mpr a) (by decide))⟩
abbrev XM (S0:D) (mo way:Int) (n:Nat) (a5 a6 a7 a8 a9 a10 a11:Option D):Sd:=[some S0,some (.int mo),some (.int way),some (.int n),some (.ref (0 + n)),a5,a6,a7,a8,a9,a10,a11]
theorem Ip (ns:List Int){mo:Int}(h0:0 < mo)(a6:mo<=17):∃n M bs ss bk sk h,Mdl ns mo n M bs ss bk sk h:=by
 obtain⟨way,C⟩:=uc ns 0 (by decide);obtain⟨c1,a0⟩:=uc ns 1 (by decide);obtain⟨c2,X⟩:=uc ns 2 (by decide);obtain⟨c3,Y⟩:=uc ns 3 (by decide);obtain⟨S0,G⟩ : ∃S0:D,S0=.lit (ns.map .int):=⟨_,rfl⟩;have C:∀h,bq [S0,.int 0] h=.ok (.int way) h:=by rw[G];exact C
 have a0:∀h,bq [S0,.int 1] h=.ok (.int c1) h:=by rw[G];exact a0
 have X:∀h,bq [S0,.int 2] h=.ok (.int c2) h:=by rw[G];exact X
 have Y:∀h,bq [S0,.int 3] h=.ok (.int c3) h:=by rw[G];exact Y
 obtain⟨n,hn,n1,f,b3⟩:=Nn way h0 a6;have e0:aH (gN 2) (am bq (ab (aa 0) (ab (fC (.int 0)) ao))) [some S0,some (.int mo),none,none,none,none,none,none,none,none,none,none] []=.nx [some S0,some (.int mo),some (.int way),none,none,none,none,none,none,none,none,none] []:=aF (aw (bU rfl rfl) (C _));have e1:aH (gN 3) (af bP (fC (.int 1)) (af dh (af kS (aa 2) (fC (.int 2))) (aa 1))) [some S0,some (.int mo),some (.int way),none,none,none,none,none,none,none,none,none] []=.nx [some S0,some (.int mo),some (.int way),some (.int n),none,none,none,none,none,none,none,none] []:=by rw[hn];exact aF (ah rfl (ah (ah rfl rfl (lF (by decide) (by decide))) rfl (ef h0)) rfl)
 obtain⟨ds,h2,k2,l2,v2,c0,q2,Q,g2⟩:=nr (g:=none) (all:=(List.range n).map λk:Nat=>D.int k) (tg:=gN 0) (xs:=(List.range n).map λk:Nat=>D.int k) (k:=0)
  (e:=bG (sO (ab (fC (.int 0)) ao) (aa 1))) (σ:=[none,some (.int n)]) (h:=[])
  (P:=λi σ h=>(∃a,σ = [a,some (.int n)])/\h.length=i/\∀j,j < i->h[j]? = some (.lst ((List.replicate n 0).map .int))) (V:=λi d=>d=.ref i) (λ_ _ _ _=>trivial) (by
   rintro i x σ h0 H ⟨⟨a,rfl⟩,hl,e1⟩;obtain⟨hi,rfl⟩:=fO H;rw[Z1]at hl e1 ⊢;refine⟨_,rfl,.ref h0.length,h0++[.lst ((List.replicate n 0).map .int)],?_,by rw[hl],⟨_,rfl⟩,by simp[hl],λj hj => ?_⟩
   ·rw[List.map_replicate];exact Ld f rfl
   ·by_cases hji:j < i
    ·exact bn _ (e1 j hji)
    ·have:j=i:=Nat.le_antisymm (YZ hj) (Nat.not_lt.mp hji)
     subst this;rw[<-hl];exact ZG) ⟨⟨_,rfl⟩,rfl,λj hj=>absurd hj (XZ _)⟩
 simp at l2 Q g2;have a9:ds=(List.range n).map λi=>.ref (0 + i):=tf l2 λi d hd=>by simpa using v2 i d hd
 subst a9;obtain⟨F,O⟩ : ∃F,F=h2++[ca.lst ((List.range n).map λi=>.ref (0 + i))]:=⟨_,rfl⟩;have l3:F.length=n + 1:=by rw[O];simp[Q]
 have e2:aH (gN 4) (bG (bM 1 [3] (bH (aa 3)) (gN 0) [] (bG (sO (ab (fC (.int 0)) ao) (aa 1))))) [some S0,some (.int mo),some (.int way),some (.int n),none,none,none,none,none,none,none,none] []=.nx (XM S0 mo way n none none none none none none none) F:=by
  rw[O];show _=Out.nx [some S0,some (.int mo),some (.int way),some (.int n),some (.ref (0 + n)),none,none,none,none,none,none,none] _;rw[show D.ref (0 + n)=.ref h2.length by rw[Q,Z1]];exact aF (cL (cG (cV rfl (re f)) k2) (by rw[ZA,ZO];exact(re f)))
 have m3:iZ 0 n (λ_ _=>0) F:=by
  refine⟨λi hi => ?_,?_⟩
  ·rw[O,Z1,bn _ (g2 i hi)]
   congr 2;simp only[gY,Z7];apply XD;intro j
   by_cases hj:j < n<;>simp[hj]
  ·rw[O,Z1,<-Q];exact ZG
 have O3:MOk (λ_ _=>0):=⟨λ_ _=>rfl,λ_ _=>⟨Y2 _,by decide⟩,λ_=>rfl⟩;obtain⟨td,q4,tl,tb⟩:=Ks c1 way 803 (n * n) (ZM (Nat.mul_le_mul f f) (by decide)) (by decide) (by decide) F;obtain⟨Z,R⟩ : ∃Z,Z=F++[ca.lst (td.map .int)]:=⟨_,rfl⟩;rw[<-R,l3]at q4;have sn:sml (n:Int)=true:=rV (XU n) (Int.lt_of_le_of_lt (Int.ofNat_le.mpr f) (by decide));have e3:aH (gN 5) (am dw (ab (am bq (ab (aa 0) (ab (fC (.int 1)) ao))) (ab (aa 2) (ab (af cB (aa 3) (aa 3)) (ab (fC (.int 803)) ao))))) (XM S0 mo way n none none none none none none none) F=.nx (XM S0 mo way n (some (.ref (n + 1))) none none none none none none) Z:=by
  have b4:dw [.int c1,.int way,.int ((n:Int) * n),.int 803] F=.ok (.ref (n + 1)) Z:=by rw[<-Int.natCast_mul];exact q4
  exact Nm (E:=af cB (aa 3) (aa 3)) (a0 F) (OO (by rw[sn,Bool.or_self]) F) b4
 have m4:iZ 0 n (λ_ _=>0) Z:=by rw[R];exact m3.more _
 have t4:Z[n + 1]? = some (.lst (td.map .int)):=by rw[R,<-l3];exact ZG
 obtain⟨M,h5,J,p,q,q5,O5,m5,l5⟩:=Ku (A:=0) (tk:=n + 1) (way:=way) f tl tb (by omega) O3 m4 t4 (S0:=S0) (p1:=.int mo) (L:=n + 2) (by rw[R];simp[l3]);have e4:eO (bH (aa 3)) (gN 6) kh (XM S0 mo way n (some (.ref (n + 1))) none none none none none none) Z=.nx (XM S0 mo way n (some (.ref (n + 1))) J p q none none none) h5:=eE (cV rfl (re f)) q5;have cs:cI (some (0 + n)) ((List.range n).map λi=>.ref (0 + i)) (gN 0) [] (uD (lOf (aa 0))) ((List.range n).map λi=>.ref (0 + i)) [none] h5=.ok (((List.range n).map λi=>(gY M n i).sum).map D.int) h5:=by
  have:=bA (g:=some (0 + n)) (all:=(List.range n).map λi=>.ref (0 + i)) (tg:=gN 0) (cs:=[]) (e:=uD (lOf (aa 0))) (h:=h5) (I:=λσ=>∃a,σ = [a]) (λ_=>true) (λd=>match d with | .ref k=>.int (gY M n k).sum|_=>.non) m5.ti (xs:=(List.range n).map λi=>.ref (0 + i)) (σ:=[none]) (by
   rintro x H σ ⟨a,rfl⟩;obtain⟨i,hi,rfl⟩:=List.mem_map.mp H;have hi:=List.mem_range.mp hi;have r:=m5.ro i hi;simp only[Z1]at r ⊢;refine⟨_,rfl,⟨_,rfl⟩,rfl,λ_ => ?_⟩;exact BC (cz rfl (aE r)) (pH _)) ⟨_,rfl⟩
  rw[this,List.filter_eq_self.mpr (by simp),Z7,Z7];refine congrArg (λl=>Res.ok l h5) ?_;apply YE;intro i _;simp
 obtain⟨t,z⟩ : ∃t,t=(List.range n).map λi=>(gY M n i).sum:=⟨_,rfl⟩;rw[<-z]at cs;have W:t.length=n:=by rw[z];simp
 have a1:∀x∈t,0<=x/\x<=12000:=λx H=>by
  rw[z]at H;obtain⟨i,_,rfl⟩:=List.mem_map.mp H;have:=Le (gY M n i) λy hy=>by
   obtain⟨j,_,rfl⟩:=List.mem_map.mp hy;exact O5.bd i j
  have ll:(gY M n i).length=n:=by simp[gY]
  rw[ll]at this;exact PX f this
 obtain⟨v,K⟩ : ∃v,v=h5++[ca.lst (t.map .int)]:=⟨_,rfl⟩;have l6:v.length=n + 3:=by rw[K];simp[l5]
 have e5:aH (gN 9) (bG (bM 1 [] (eI (aa 4)) (gN 0) [] (uD (lOf (aa 0))))) (XM S0 mo way n (some (.ref (n + 1))) J p q none none none) h5=.nx (XM S0 mo way n (some (.ref (n + 1))) J p q (some (.ref (n + 2))) none none) v:=by
  rw[K,<-l5];exact aF (cL (cG (fY rfl m5.ti) cs) (by rw[ZA,W];exact(re f)))
 have m6:iZ 0 n M v:=by rw[K];exact m5.more _
 have b6:v[n + 2]? = some (.lst (t.map .int)):=by rw[K,<-l5];exact ZG
 have e6:∃(bs:List Int) (m o:Option D) (u:Hd),sIf (tE (af oEq (af dh (af kS (aa 2) (fC (.int 128))) (fC (.int 2))) (fC (.int 1)))) (ax (aH (gN 10) (am dw (ab (am bq (ab (aa 0) (ab (fC (.int 2)) ao))) (ab (aa 2) (ab (aa 3) (ab (fC (.int 2001)) ao))))))
  (eO (bH (aa 3)) (gN 6) iS)) bc (XM S0 mo way n (some (.ref (n + 1))) J p q (some (.ref (n + 2))) none none) v=.nx (XM S0 mo way n (some (.ref (n + 1))) m p q (some (.ref (n + 2))) o none) u/\iZ 0 n M u/\u[n + 2]? = some (.lst (bs.map .int))/\bs.length=n/\n + 3<=u.length/\∀x∈bs,-20000<=x/\x<=20000:=by
  have S:=Am (way:=way) (d:=128) (σ:=(XM S0 mo way n (some (.ref (n + 1))) J p q (some (.ref (n + 2))) none none)) (h:=v) (i:=2) rfl (by decide) (by decide)
  by_cases e:way / 128 % 2=1
  ·rw[x6 e]at S
   obtain⟨U,q7,sl,sb⟩:=Ks c2 way 2001 n (re f) (by decide) (by decide) v;rw[l6]at q7;have t1:aH (gN 10) (am dw (ab (am bq (ab (aa 0) (ab (fC (.int 2)) ao))) (ab (aa 2) (ab (aa 3) (ab (fC (.int 2001)) ao))))) (XM S0 mo way n (some (.ref (n + 1))) J p q (some (.ref (n + 2))) none none) v=.nx (XM S0 mo way n (some (.ref (n + 1))) J p q (some (.ref (n + 2))) (some (.ref (n + 3))) none) (v++[.lst (U.map .int)]):=by
    exact aF (aw (ar (aw (bU rfl rfl) (X _)) (ar rfl (bU rfl rfl))) q7)
   obtain⟨a4,c',q8,a5,a7⟩:=Io (A:=0) (lk:=n + 2) (tk:=n + 3) (way:=way) f sl (ZN (Z8 _)) (h:=v++[.lst (U.map .int)]) W sb a1 (bn _ b6) (by rw[<-l6];exact ZG) (S0:=S0) (p1:=.int mo) (q4:=.ref (0 + n)) (q5:=.ref (n + 1)) (a:=p) (b:=q) (c:=J);refine⟨a4,c',some (.ref (n + 3)),_,?_,(m6.more [.lst (U.map .int)]).set (k:=n + 2) (by omega) (.lst (a4.map .int)),?_,a5,by simp[l6],a7⟩
   ·exact(lE S).trans ((bS t1).trans (eE (cV rfl (re f)) q8))
   ·rw[List.getElem?_set_self (by simp[l6])]
  ·rw[wL e]at S
   exact⟨t,J,none,v,by rw[Nk S];rfl,m6,b6,W,WU l6.symm,λx H=>lv3 (a1 x H)⟩
 obtain⟨bs,m,o,u,e6,m7,b7,b5,l7,b1⟩:=e6;obtain⟨s,B⟩ : ∃s,s=u++[ca.lst ((List.replicate n (none:Option Int)).map cR)]:=⟨_,rfl⟩;have e7:aH (gN 11) (bG (sO (ab (fC .non) ao) (aa 3))) (XM S0 mo way n (some (.ref (n + 1))) m p q (some (.ref (n + 2))) o none) u=.nx (XM S0 mo way n (some (.ref (n + 1))) m p q (some (.ref (n + 2))) o (some (.ref u.length))) s:=by
  rw[B,List.map_replicate];exact aF (Ld f rfl)
 have m8:iZ 0 n M s:=by rw[B];exact m7.more _
 have b8:s[n + 2]? = some (.lst (bs.map .int)):=by rw[B];exact bn _ b7
 have s8:s[u.length]? = some (.lst ((List.replicate n (none:Option Int)).map cR)):=by rw[B];simp
 have e8:∃(ss:List (Option Int)) (x5:D) (sk:Nat) (T:Hd),sIf (tE (af oEq (af dh (af kS (aa 2) (fC (.int 512))) (fC (.int 2))) (fC (.int 1)))) (ax (aH (gN 5) (am dw (ab (am bq (ab (aa 0) (ab (fC (.int 3)) ao))) (ab (aa 2) (ab (aa 3) (ab (fC (.int 7)) ao))))))
  (aH (gN 11) (bG (bM 1 [] (eI (aa 5)) (gN 0) [] (fIx (ab (fC (.int 0)) (ab (fC (.int 1)) (ab (fC .non) (ab (fC .non) (ab (fC .non) (ab (fC .non) (ab (fC .non) ao))))))) (aa 0)))))) bc (XM S0 mo way n (some (.ref (n + 1))) m p q (some (.ref (n + 2))) o (some (.ref u.length))) s=.nx (XM S0 mo way n (some x5) m p q (some (.ref (n + 2))) o (some (.ref sk))) T/\iZ 0 n M T/\T[n + 2]? = some (.lst (bs.map .int))/\T[sk]? = some (.lst (ss.map cR))/\ss.length=n/\(∀x∈ss,x=none\/x=some 0\/x=some 1)/\n < sk:=by
  have S:=Am (way:=way) (d:=512) (σ:=(XM S0 mo way n (some (.ref (n + 1))) m p q (some (.ref (n + 2))) o (some (.ref u.length)))) (h:=s) (i:=2) rfl (by decide) (by decide)
  by_cases e:way / 512 % 2=1
  ·rw[x6 e]at S
   obtain⟨a3,q9,sl,sb⟩:=Ks c3 way 7 n (re f) (by decide) (by decide) s;obtain⟨N,w⟩ : ∃N,N=s++[ca.lst (a3.map .int)]:=⟨_,rfl⟩;rw[<-w]at q9;have g9:N[s.length]? = some (.lst (a3.map .int)):=by rw[w];simp
   obtain⟨ss,cq,a2,a8⟩:=Fu sb g9 none;have t1:aH (gN 5) (am dw (ab (am bq (ab (aa 0) (ab (fC (.int 3)) ao))) (ab (aa 2) (ab (aa 3) (ab (fC (.int 7)) ao))))) (XM S0 mo way n (some (.ref (n + 1))) m p q (some (.ref (n + 2))) o (some (.ref u.length))) s=.nx (XM S0 mo way n (some (.ref s.length)) m p q (some (.ref (n + 2))) o (some (.ref u.length))) N:=by
    exact aF (aw (ar (aw (bU rfl rfl) (Y _)) (ar rfl (bU rfl rfl))) q9)
   have t2:aH (gN 11) (bG (bM 1 [] (eI (aa 5)) (gN 0) [] (fIx (ab (fC (.int 0)) (ab (fC (.int 1)) (ab (fC .non) (ab (fC .non) (ab (fC .non) (ab (fC .non) (ab (fC .non) ao))))))) (aa 0)))) (XM S0 mo way n (some (.ref s.length)) m p q (some (.ref (n + 2))) o (some (.ref u.length))) N=.nx (XM S0 mo way n (some (.ref s.length)) m p q (some (.ref (n + 2))) o (some (.ref N.length))) (N++[.lst (ss.map cR)]):=by
    exact aF (cL (cG (fY rfl g9) cq) (by rw[ZA,a2,sl];exact(re f)))
   refine⟨ss,.ref s.length,N.length,N++[.lst (ss.map cR)],?_,by rw[w];exact(m8.more _).more _,?_,by simp,a2.trans sl,a8,by rw[w,B];simp;omega⟩
   ·exact(lE S).trans ((bS t1).trans t2)
   ·exact bn _ (by rw[w];exact bn _ b8)
  ·rw[wL e]at S
   exact⟨List.replicate n none,.ref (n + 1),u.length,s,by rw[Nk S];rfl,m8,b8,s8,by simp,λx H=>.inl (List.eq_of_mem_replicate H),by omega⟩
 obtain⟨ss,x5,sk,T,e8,m9,b9,s9,b0,b2,k9⟩:=e8;have e9:aW (i9 (ab (aa 4) (ab (aa 9) (ab (aa 11) ao)))) (XM S0 mo way n (some x5) m p q (some (.ref (n + 2))) o (some (.ref sk))) T=.rt (.tup [.ref (0 + n),.ref (n + 2),.ref sk]) T:=aV (tm (ar rfl (bU rfl rfl)));refine⟨n,M,bs,ss,n + 2,sk,T,?_,n1,f,b3,by omega,k9,m9,O5,b9,s9,b5,b0,b2,b1⟩;have st:([S0,D.int mo].map some++List.replicate (12 - [S0,D.int mo].length) none:Sd)=[some S0,some (.int mo),none,none,none,none,none,none,none,none,none,none]:=rfl;rw[<-G];unfold jM bu runB;rw[z4 (by rfl),st,bS e0,bS e1,bS e2,bS e3,bS e4,bS e5,bS e6,bS e7,bS e8,e9];exact v6 rfl
def nS (one other i j:Nat):Prop:=(i < one/\j < one)\/(i=one/\j < other)\/(j=one/\i < other)
instance (one other i j:Nat):Decidable (nS one other i j):=by unfold nS;infer_instance
def gm (M:Nat->Nat->Int) (s:List Int) (one other i j:Nat):Int:=if nS one other i j/\s.getD j 0=1 then M i j else 0
structure LP (n:Nat) (M:Nat->Nat->Int) (one other:Nat) (T:List Tie):Prop where
 ok:TOk n one other T
 pl:∀i,i < n->∀s,bL (nbs T i) s=dP (gm M s one other i) n
theorem pa1 (a b c:Int):a + (b + c)=a + b + c:=(Int.add_assoc a b c).symm
theorem Cn (r a:List (Nat × Int))(s:List Int):bL (r++a) s=bL r s + bL a s:=by
 induction r with
 | nil=>simp[bL,fD]
 | cons p r ih=>rw[WJ,fP,fP,ih];exact pa1 _ _ _
theorem sr1 (S x y:Int):S + 0 + x=S + y + (x - y):=by omega
theorem r6 {f g:Nat->Int}{p:Nat}(h:∀j,j≠p->f j=g j):∀n,dP f n=dP g n + if p < n then f p - g p else 0
 | 0=>by simp[dP]
 | n + 1=>by
  rw[dP,dP,r6 h n]
  by_cases e:n=p
  ·subst e
   rw[z5 (Z9 _),z4 (Z8 _)];exact sr1 _ _ _
  ·rw[h n e]
   by_cases l:p < n
   ·rw[z4 l,z4 (ZZ l)];exact Int.add_right_comm _ _ _
   ·rw[z5 l,z5 λz=>(Nat.lt_succ_iff_lt_or_eq.mp z).elim l λz=>e z.symm,Int.add_zero,Int.add_zero]
theorem i0 {f g:Nat->Int}:∀n,(∀j,j < n->f j=g j)->dP f n=dP g n
 | 0,_=>rfl
 | n + 1,h=>by rw[dP,dP,i0 n λj a=>h j (by omega),h n (by omega)]
theorem Fv {one other i:Nat}:nS one (other + 1) i j ↔ nS one other i j\/(i=one/\j=other)\/(j=one/\i=other):=by
 constructor
 ·rintro (h|⟨a,b⟩|⟨a,b⟩)
  ·exact .inl (.inl h)
  ·exact(Nat.lt_succ_iff_lt_or_eq.mp b).elim (λb=>.inl (.inr (.inl ⟨a,b⟩))) λb=>.inr (.inl ⟨a,b⟩)
  ·exact(Nat.lt_succ_iff_lt_or_eq.mp b).elim (λb=>.inl (.inr (.inr ⟨a,b⟩))) λb=>.inr (.inr ⟨a,b⟩)
 ·rintro ((h|⟨a,b⟩|⟨a,b⟩)|⟨a,b⟩|⟨a,b⟩)
  ·exact .inl h
  ·exact .inr (.inl ⟨a,ZZ b⟩)
  ·exact .inr (.inr ⟨a,ZZ b⟩)
  ·exact .inr (.inl ⟨a,b ▸ Z8 _⟩)
  ·exact .inr (.inr ⟨a,b ▸ Z8 _⟩)
theorem qe {one other i:Nat}(h1 : ¬(i=one/\j=other))(a : ¬(j=one/\i=other)):nS one (other + 1) i j ↔ nS one other i j :=
 Fv.trans ⟨λz=>z.elim id λz=>z.elim (λz=>absurd z h1) λz=>absurd z a,.inl⟩
theorem D0 {one other:Nat}(a:other < one) : ¬nS one other one other/\¬nS one other other one:=by
 refine⟨?_,?_⟩
 ·rintro (h|h|h)
  ·exact Z9 _ h.1
  ·exact Z9 _ h.2
  ·exact Z9 _ (h.1 ▸ a)
 ·rintro (h|h|h)
  ·exact Z9 _ h.2
  ·exact Z9 _ (h.1 ▸ a)
  ·exact Z9 _ h.2
theorem Fw {one i:Nat}(e : ¬(i=one/\j=one)):nS one one i j ↔ nS (one + 1) 0 i j:=by
 constructor
 ·rintro (h|h|h)
  ·exact .inl ⟨ZZ h.1,ZZ h.2⟩
  ·exact .inl ⟨h.1 ▸ Z8 _,ZZ h.2⟩
  ·exact .inl ⟨ZZ h.2,h.1 ▸ Z8 _⟩
 ·rintro (⟨a,b⟩|h|h)
  ·rcases Nat.lt_succ_iff_lt_or_eq.mp a with a|a<;>rcases Nat.lt_succ_iff_lt_or_eq.mp b with b|b
   ·exact .inl ⟨a,b⟩
   ·exact .inr (.inr ⟨b,a⟩)
   ·exact .inr (.inl ⟨a,b⟩)
   ·exact absurd ⟨a,b⟩ e
  ·exact absurd h.2 (XZ _)
  ·exact absurd h.2 (XZ _)
theorem wD {M:Nat->Nat->Int}(O:MOk M){one other:Nat}(a:other < one)(d:one < n)(i:Nat)(s:List Int) :
  dP (gm M s one (other + 1) i) n=dP (gm M s one other i) n + (if i=one then (if s.getD other 0=1 then M one other else 0) else if i=other then (if s.getD one 0=1 then M one other else 0) else 0):=by
 by_cases e1:i=one
 ·subst e1
  rw[z4 rfl,r6 (p:=other) (g:=gm M s i other i) (λj b => ?_),z4 (Z6 a d)]
  ·have c:nS i (other + 1) i other:=.inr (.inl ⟨rfl,Z8 _⟩)
   have p2:=(D0 a).1;simp only[gm,c,p2,true_and,false_and,Y7,Int.sub_zero]
  ·have:=qe (one:=i) (i:=i) (λz=>b z.2) λz=>Z5 a z.2
   simp only[gm,this]
 ·rw[z5 e1]
  by_cases e2:i=other
  ·subst e2
   rw[z4 rfl,r6 (p:=one) (g:=gm M s one i i) (λj b => ?_),z4 d]
   ·have c:nS one (i + 1) i one:=.inr (.inr ⟨rfl,Z8 _⟩)
    have p2:=(D0 a).2;simp only[gm,c,p2,true_and,false_and,Y7,O.sym i one,Int.sub_zero]
   ·have:=qe (i:=i) (other:=i) (λz=>e1 z.1) λz=>b z.1
    simp only[gm,this]
  ·rw[z5 e2,i0 n (g:=gm M s one other i) λj _ => ?_]
   ·exact(Int.add_zero _).symm
   ·have:=qe (i:=i) (j:=j) (λz=>e1 z.1) λz=>e2 z.2
    simp only[gm,this]
theorem LP.skip {M:Nat->Nat->Int}(O:MOk M){one other:Nat}(L:LP n M one other T)(b:other < one)(a:one < n)(z:M one other=0):LP n M one (other + 1) T :=
 ⟨L.ok.skip,λi hi s=>by
  rw[L.pl i hi s,wD O b a i s,z];split<;>(try split)<;>(try split)<;>omega⟩
theorem LP.put {M:Nat->Nat->Int}(O:MOk M){one other:Nat}(L:LP n M one other T)(a:other < one)(c:one < n)(z:0 < M one other):LP n M one (other + 1) (T++[⟨other,one,M one other⟩]):=by
 have b:=O.bd one other;refine⟨?_,λi hi s => ?_⟩
 ·have:=L.ok.put c a (w:=M one other) z b.2 (t:=⟨other,one,M one other⟩) (.inr rfl) T.length
  simpa using this
 ·rw[zG,Cn,L.pl i hi s,wD O a c i s]
  congr 1
  by_cases e1:i=one
  ·have f:far i ⟨other,one,M one other⟩ = some other:=by
    unfold far;rw[z5 (λz:other=i=>ZN a (z.trans e1)),z4 e1.symm]
   rw[f,z4 e1];simp only;rw[fP];simp[bL,fD]
  ·rw[z5 e1]
   by_cases e2:i=other
   ·have f:far i ⟨other,one,M one other⟩ = some one:=by unfold far;rw[z4 e2.symm]
    rw[f,z4 e2];simp only;rw[fP];simp[bL,fD]
   ·have f:far i ⟨other,one,M one other⟩ = none:=by
     unfold far;rw[z5 (λz:other=i=>e2 z.symm),z5 (λz:one=i=>e1 z.symm)]
    rw[f,z5 e2];simp[bL,fD]
theorem LP.step {M:Nat->Nat->Int}(O:MOk M){one:Nat}(L:LP n M one one T)(h:one < n)(a:n<=30):LP n M (one + 1) 0 T :=
 ⟨L.ok.step h a,λi hi s=>by
  rw[L.pl i hi s];refine i0 n λj _ => ?_;unfold gm
  by_cases e:i=one/\j=one
  ·rw[e.1,e.2,O.no one];split<;>split<;>rfl
  ·have:=Fw e
   simp only[this]⟩
structure Md (Z n:Nat) (M:Nat->Nat->Int) (bs:List Int) (ss:List (Option Int)) (bk sk:Nat) (h:Hd):Prop where
 n1:1<=n
 n30:n<=30
 mt:iZ Z n M h
 mo:MOk M
 ba:h[bk]? = some (.lst (bs.map .int))
 st:h[sk]? = some (.lst (ss.map cR))
 lb:bs.length=n
 ls:ss.length=n
 os:∀x∈ss,x=none\/x=some 0\/x=some 1
theorem Md.more {Z:Nat}{M:Nat->Nat->Int}{bs:List Int}{ss:List (Option Int)}{bk sk:Nat}(m:Md Z n M bs ss bk sk h)(g:Hd):Md Z n M bs ss bk sk (h++g):=by
 have k:∀{i:Nat} {x:ca},h[i]? = some x->(h++g)[i]? = some x:=λ{i x} e=>by
  rw[ZC (List.getElem?_eq_some_iff.mp e).1];exact e
 exact⟨m.n1,m.n30,m.mt.more g,m.mo,k m.ba,k m.st,m.lb,m.ls,m.os⟩
section
variable {Z n:Nat} {M:Nat->Nat->Int} {bs:List Int} {ss:List (Option Int)} {bk sk:Nat} {h:Hd}
theorem Iq (L:LP n M n 0 T)(B:tJ s){i:Nat}(hi:i < n):dP (λj=>M i j * s.getD j 0) n=bL (nbs T i) s:=by
 rw[L.pl i hi s];refine i0 n λj a => ?_;have p:nS n 0 i j:=.inl ⟨hi,a⟩;rcases B j with e|e
 ·simp only[gm,e];simp
 ·simp only[gm,p,e];simp
theorem PY {x y:Int}(e:y=0\/y=1)(h:Hd):cB (.int x) (.int y) h=.ok (.int (x * y)) h:=Fq (by rw[JW e,WK]) h
def jB (ss:List (Option Int)) (l:List Int):List Int:=(List.range l.length).map λi=>(ss.getD i none).getD (l.getD i 0)
theorem Co (m:Md Z n M bs ss bk sk h){l:List Int}(B:l.length=n){k:Nat}(w:h[k]? = some (.lst (l.map .int))) :
  eT [.tup [.ref (Z + n),.ref bk,.ref sk],.ref k] h=.ok (aq (jB ss l)) h:=by
 have t:=m.n30;obtain⟨c,s⟩ : ∃c:D,c=.tup [.ref (Z + n),.ref bk,.ref sk]:=⟨_,rfl⟩;obtain⟨A,p⟩ : ∃A,A=h.length:=⟨_,rfl⟩;obtain⟨f,O⟩ : ∃f:Nat->Int,f=λi=>(ss.getD i none).getD (l.getD i 0):=⟨_,rfl⟩;have r:k < h.length:=(List.getElem?_eq_some_iff.mp w).1;obtain⟨σ',h',L,R,V,J⟩:=bZ (P:=λi σ h'=>∃(a:Option D),σ = [some c,some (.ref k),some (.ref A),a]/\h'=h++[.lst (((List.range i).map f).map .int)]) (g:=none) (k:=0)
   (all:=(List.range n).map λk:Nat=>D.int k) (λ_ _ _ _=>trivial)
   (xs:=(List.range n).map λk:Nat=>D.int k) (tg:=gN 3) (σ:=[some c,some (.ref k),some (.ref A),none]) (h:=h++[.lst []]) (b:=ki) (by
   rintro i x σ q hx ⟨a,rfl,d⟩;obtain⟨hi,rfl⟩:=fO hx;rw[Z1]at d ⊢;have m0:Md Z n M bs ss bk sk q:=by rw[d];exact m.more _
   have X:q[k]? = some (.lst (l.map .int)):=by rw[d,ZC r];exact w
   have K:i < ss.length:=by rw[m.ls];exact hi
   have Q:=fZ (l:=l) (i:=i) (B ▸ hi);have I:atI (ss.map cR) (i:Int)=some (cR (ss.getD i none)):=by rw[kf K];simp[List.getD,K]
   have v:f i=(ss.getD i none).getD (l.getD i 0):=by rw[O]
   generalize l.getD i 0=x at Q v;generalize ss.getD i none=u at I v;have N:q[A]? = some (.lst (((List.range i).map f).map .int)):=by rw[d];exact iu p _
   have lz:(((List.range i).map f).map D.int).length < SZ:=by rw[ZA,ZA,ZO];exact Z6 hi (ZS t (by decide))
   have H:q.set A (.lst (((List.range i).map f).map .int++[.int x]))=h++[.lst (((List.range i).map f++[x]).map .int)]:=by rw[d,kc p,ZR];rfl
   have C:fV (jX (aa 2) (fAt (aa 1) (aa 3))) [some c,some (.ref k),some (.ref A),some (.int i)] q=.nx [some c,some (.ref k),some (.ref A),some (.int i)] (h++[.lst (((List.range i).map f++[x]).map .int)]):=by
    rw[<-H];exact hJ (ka rfl N (aL rfl rfl (aE X) Q) N lz)
   obtain⟨o,j⟩ : ∃o,o=h++[ca.lst (((List.range i).map f++[x]).map .int)]:=⟨_,rfl⟩;have Y:Md Z n M bs ss bk sk o:=by rw[j];exact m.more _
   have G:fAt (fAt (aa 0) (fC (.int 2))) (aa 3) [some c,some (.ref k),some (.ref A),some (.int i)] o=.ok (cR u) o:=by
    have st:=Y.st;rw[s];exact aL (aL rfl rfl rfl rfl) rfl (aE st) I
   have S:o[A]? = some (.lst (((List.range i).map f++[x]).map .int)):=by rw[j];exact iu p _
   have y:sIf (tE (af ja (fAt (fAt (aa 0) (fC (.int 2))) (aa 3)) (fC .non))) (mJ (aa 2) (aa 3) (fAt (fAt (aa 0) (fC (.int 2))) (aa 3))) bc [some c,some (.ref k),some (.ref A),some (.int i)] o=.nx [some c,some (.ref k),some (.ref A),some (.int i)] (h++[.lst (((List.range (i + 1)).map f).map .int)]):=by
    have F:((List.range i).map f).length=i:=by simp
    cases u with
    | none =>
     have e:o=h++[.lst (((List.range (i + 1)).map f).map .int)]:=by rw[j,XG];simp[v]
     rw[<-e];exact cn (aT (ah G rfl rfl))
    | some z =>
     have ix:ixN (((List.range i).map f++[x]).map D.int).length (i:Int)=some i:=rX (by rw[ZA,ZB,F];exact Z8 _);have e:o.set A (.lst ((((List.range i).map f++[x]).map .int).set i (.int z)))=h++[.lst (((List.range (i + 1)).map f).map .int)]:=by
      have U:f i=z:=v;rw[j,p,XG];simp[U,List.set_append_right]
     rw[<-e];exact(lE (aT (ah G rfl rfl))).trans (tq G rfl rfl S ix)
   refine⟨_,rfl,[some c,some (.ref k),some (.ref A),some (.int i)],_,?_,_,rfl,rfl⟩;show ax _ _ [some c,some (.ref k),some (.ref A),some (.int i)] q=_;rw[bS C,<-j,y]) ⟨none,rfl,by simp⟩
 have e0:0 + ((List.range n).map λk:Nat=>D.int k).length=n:=by simp
 rw[e0]at J;have E:(h++[ca.lst []])[k]? = some (.lst (l.map .int)):=by rw[ZC r];exact w
 have C:aH (gN 2) (bG ao) [some c,some (.ref k),none,none] h=.nx [some c,some (.ref k),some (.ref A),none] (h++[.lst []]):=aF (DF p rfl (YG _));have y:eO (bH (cC (lOf (aa 1)))) (gN 3) ki [some c,some (.ref k),some (.ref A),none] (h++[.lst []])=.nx [some c,some (.ref k),some (.ref A),R] (h++[.lst ((jB ss l).map .int)]):=by
  rw[V,J]at L;have W:cC (lOf (aa 1)) [some c,some (.ref k),some (.ref A),none] (h++[.lst []])=.ok (.int n) (h++[.lst []]):=by
   exact(cZ (cz rfl (aE E))).trans (by rw[ZA,B])
  exact(eE (cV W (re t)) L).trans (by rw[jB,B,O])
 have T:aW (gg (lOf (aa 2))) [some c,some (.ref k),some (.ref A),R] (h++[.lst ((jB ss l).map .int)])=.rt (aq (jB ss l)) (h++[.lst ((jB ss l).map .int)]):=by
  exact aV (jh (cz rfl (aE (iu p _))))
 have st:([c,D.ref k].map some++List.replicate (4 - [c,D.ref k].length) none:Sd)=[some c,some (.ref k),none,none]:=rfl;rw[<-s];unfold eT bu runB;rw[z4 (by rfl),st,bS C,bS y,T];exact cY (E2 _)
theorem D1 (ss:List (Option Int))(l:List Int)(i:Nat)(hi:i < l.length):(jB ss l).getD i 0=(ss.getD i none).getD (l.getD i 0):=by
 simp[jB,List.getD,hi]
theorem Ir (ls:ss.length=n)(os:∀x∈ss,x=none\/x=some 0\/x=some 1){l:List Int}(a:l.length=n)(B:tJ l):Hw n ss (jB ss l):=by
 refine⟨by simp[jB,a],λx d => ?_,λi x e => ?_⟩
 ·obtain⟨i,hi,rfl⟩:=List.mem_map.mp d
  have b:=B i;cases c:ss.getD i none with
  | none=>simpa using b
  | some z =>
   have:some z∈ss:=by
    rw[List.getD]at c;cases e:ss[i]? with
    | none=>rw[e]at c;cases c
    | some y=>rw[e]at c;simp at c;subst c;exact ZK e
   have:=os _ this;simp at this;simpa using this
 ·have hi:i < l.length:=by rw[a,<-ls];exact(List.getElem?_eq_some_iff.mp e).1
  simp[jB,hi,List.getD,e]
theorem Kv {l a:List Int}(c:l.length=n)(b:a.length=n)(le:LeS l a):LeS (jB ss l) (jB ss a):=λi=>by
 by_cases hi:i < n
 ·rw[D1 _ _ _ (by omega),D1 _ _ _ (by omega)]
  cases ss.getD i none with
  | none=>exact le i
  | some z=>exact Y2 _
 ·simp[List.getD,List.getElem?_eq_none (show (jB ss l).length<=i by simp[jB];omega),List.getElem?_eq_none (show (jB ss a).length<=i by simp[jB];omega)]
end
theorem No {a b:List Int}(o:n<=1000)(A:a.length=n)(lb:b.length=n)(le:LeS a b)(h:Hd):gu [aq a,aq b] h=.ok (.bl true) h:=by
 have f:cI none ((List.range n).map λk:Nat=>D.int k) (gN 0) [(tE (af oGt (fAt (aa 1) (aa 0)) (fAt (aa 2) (aa 0))))] (aa 0) ((List.range n).map λk:Nat=>D.int k) [none,some (aq a),some (aq b)] h=.ok [] h:=by
  have:=bA (g:=none) (all:=(List.range n).map λk:Nat=>D.int k) (tg:=gN 0) (cs:=[(tE (af oGt (fAt (aa 1) (aa 0)) (fAt (aa 2) (aa 0))))]) (e:=aa 0) (h:=h) (I:=λσ=>∃c,σ = [c,some (aq a),some (aq b)]) (λ_=>false) (λd=>d) trivial
   (xs:=(List.range n).map λk:Nat=>D.int k) (σ:=[none,some (aq a),some (aq b)]) (by
    rintro x v σ ⟨s,rfl⟩;obtain⟨i,hi,rfl⟩:=List.mem_map.mp v;have hi:=List.mem_range.mp hi;have j:i < a.length:=by omega
    have m:i < b.length:=by omega
    have l:=le i;simp only[List.getD,ZE j,ZE m,Option.getD_some]at l;have c : ¬b[i] < a[i]:=by omega
    refine⟨_,rfl,⟨_,rfl⟩,?_,λz=>by cases z⟩;have te:tE (af oGt (fAt (aa 1) (aa 0)) (fAt (aa 2) (aa 0))) [some (.int (i:Nat)),some (aq a),some (aq b)] h=.ok false h:=aT (ah (aL rfl rfl rfl (BG j)) (aL rfl rfl rfl (BG m)) (ny c));show Res.bind _ _=_;rw[show tE (af oGt (fAt (aa 1) (aa 0)) (fAt (aa 2) (aa 0))) (List.set [s,some (aq a),some (aq b)] 0 (some (.int (i:Nat)))) h=.ok false h from te];rfl) ⟨_,rfl⟩
  have B:∀l:List D,l.filter (λ_=>false)=[]:=λl=>List.filter_eq_nil_iff.mpr (by simp);rw[B]at this;exact this
 have w:bG (bM 1 [0,1] (bH (cC (lOf (aa 0)))) (gN 0) [(tE (af oGt (fAt (aa 1) (aa 0)) (fAt (aa 2) (aa 0))))] (aa 0)) [some (aq a),some (aq b)] h=.ok (.ref h.length) (h++[.lst []]):=by
  have t:cC (lOf (aa 0)) [some (aq a),some (aq b)] h=.ok (.int n) h:=(cZ (cz rfl rfl)).trans (by rw[ZA,A]);exact cL (cG (cV t o) f) (YG _)
 have p:oEq (.ref h.length) (.ref (h.length + 1)) (h++[.lst [],.lst []])=.ok (.bl true) (h++[.lst [],.lst []]):=by
  have C:(h++[ca.lst [],.lst []])[h.length]? = some (.lst []):=by simp
  have u:(h++[ca.lst [],.lst []])[h.length + 1]? = some (.lst []):=by rw[ZD (by omega)];simp
  simp[eqL,i8,kZ,u]
 have q:af oEq (bG (bM 1 [0,1] (bH (cC (lOf (aa 0)))) (gN 0) [(tE (af oGt (fAt (aa 1) (aa 0)) (fAt (aa 2) (aa 0))))] (aa 0))) (bG ao) [some (aq a),some (aq b)] h=.ok (.bl true) (h++[.lst [],.lst []]):=by
  have y:bG ao [some (aq a),some (aq b)] (h++[.lst []])=.ok (.ref (h.length + 1)) (h++[.lst [],.lst []]):=by
   have:=cL (r:=ao) (σ:=[some (aq a),some (aq b)]) (h:=h++[.lst []]) rfl (YG _);rwa[ZB,ZU]at this
  exact ah w y p
 unfold gu bu runB;rw[z4 (by rfl)];show letGo h (match outE (af oEq _ _ [some (aq a),some (aq b)] h) _ _ with | .nx _ h=>_ | .rt d h=>_ | .exc x _ h=>_|_=>_)=_;rw[q];exact cY rfl
def ij (M:Nat->Nat->Int) (i k:Nat):List Tie:=((List.range k).filter λj=>decide (0 < M i (i + 1 + j))).map λj=>⟨i,i + 1 + j,M i (i + 1 + j)⟩
theorem Cp (M:Nat->Nat->Int)(i k:Nat):ij M i (k + 1)=ij M i k++(if 0 < M i (i + 1 + k) then [⟨i,i + 1 + k,M i (i + 1 + k)⟩] else []):=by
 unfold ij;rw[XG,List.filter_append,ZR];congr 1
 by_cases c:0 < M i (i + 1 + k)
 ·rw[z4 c];simp[c]
 ·rw[z5 c];simp[c]
theorem wE (M:Nat->Nat->Int)(i k:Nat):(ij M i k).length<=k:=by
 unfold ij;rw[ZA];exact ZM (List.length_filter_le _ _) (by simp)
def mN (M:Nat->Nat->Int) (n k:Nat):List Tie:=(List.range k).flatMap λi=>ij M i (n - (i + 1))
theorem qf (M:Nat->Nat->Int)(n k:Nat):mN M n (k + 1)=mN M n k++ij M k (n - (k + 1)):=by
 unfold mN;rw[XG,List.flatMap_append];simp
theorem ud (M:Nat->Nat->Int)(n:Nat):∀k,(mN M n k).length<=n * k
 | 0=>YG _
 | k + 1=>by
  have a:=ud M n k;have b:=wE M k (n - (k + 1));rw[qf,ZB,Nat.mul_succ];omega
section
variable {Z n:Nat} {M:Nat->Nat->Int} {bs:List Int} {ss:List (Option Int)} {bk sk:Nat} {h:Hd}
theorem Kw (m:Md Z n M bs ss bk sk h){i:Nat}(hi:i < n)(c:j < n)(d:aa 0 σ h=.ok (.tup [.ref (Z + n),.ref bk,.ref sk]) h)(b:aa 3 σ h=.ok (.int i) h)(a:aa 4 σ h=.ok (.int j) h):fAt (fAt (fAt (aa 0) (fC (.int 0))) (aa 3)) (aa 4) σ h=.ok (.int (M i j)) h :=
 aL (aL (aL d rfl rfl rfl) b (aE m.mt.ti) (DY hi)) a (aE (m.mt.ro i hi)) (Im c)
theorem n60 {i:Nat}(h:i<=30):((i:Int)).natAbs < 10 ^ 60:=ZS (show ((i:Int)).natAbs<=30 by omega) (by decide)
theorem Kx (m:Md Z n M bs ss bk sk h){i:Nat}(hi:i < n){X:List (List Nat)}(I:X.length<=1000)(a b:Option D) :
  ∃r q,mC [some (.tup [.ref (Z + n),.ref bk,.ref sk]),some (.int n),some (.ref h.length),some (.int i),a,b,none] (h++[.lst (X.map .str)]) =
   .nx [some (.tup [.ref (Z + n),.ref bk,.ref sk]),some (.int n),some (.ref h.length),some (.int i),r,q,none] (h++[.lst ((X++(ij M i (n - (i + 1))).map kU).map .str)]):=by
 have C:=m.n30;obtain⟨d,o⟩ : ∃d:D,d=.tup [.ref (Z + n),.ref bk,.ref sk]:=⟨_,rfl⟩;rw[<-o];have E:eG (af bP (aa 3) (fC (.int 1))) (aa 1) [some d,some (.int n),some (.ref h.length),some (.int i),a,b,none] (h++[.lst (X.map .str)])=.ok ((List.range (n - (i + 1))).map (λj:Nat=>D.int ((i + 1 + j:Nat):Int)),none) (h++[.lst (X.map .str)]) :=
  jP (m:=i + 1) (ah rfl rfl rfl) (by show Res.ok (D.int (n:Int)) _=_;rw[show i + 1 + (n - (i + 1))=n by omega]) (by omega)
 obtain⟨σ',h',F,u,r,q,w⟩:=bZ (g:=none) (all:=(List.range (n - (i + 1))).map (λj:Nat=>D.int ((i + 1 + j:Nat):Int))) (tg:=gN 4) (b:=wx) (P:=λk σ h'=>h'=h++[.lst ((X++(ij M i k).map kU).map .str)]/\∃a b,σ = [some d,some (.int n),some (.ref h.length),some (.int i),a,b,none]) (λ_ _ _ _=>trivial)
  (xs:=(List.range (n - (i + 1))).map (λj:Nat=>D.int ((i + 1 + j:Nat):Int))) (k:=0) (σ:=[some d,some (.int n),some (.ref h.length),some (.int i),a,b,none]) (h:=h++[.lst (X.map .str)]) (λk x σ g f p=>by
   obtain⟨rfl,a,b,rfl⟩:=p;rw[Z1];have t:k < n - (i + 1):=by
    have:=(List.getElem?_eq_some_iff.mp f).1;simpa using this
   have ex:x=.int ((i + 1 + k:Nat):Int):=by
    rw[ZQ,List.getElem?_range t]at f;exact(ZT f).symm
   subst ex;obtain⟨Y,s⟩ : ∃Y,Y=X++(ij M i k).map kU:=⟨_,rfl⟩;rw[<-s];have B:Y.length<=1030:=by
    have:=wE M i k;rw[s,ZB,ZA];omega
   have H:=m.more [.lst (Y.map .str)];have l:=m.mo.bd i (i + 1 + k);have c:=Kw H hi (j:=i + 1 + k) (by omega) (σ:=[some d,some (.int n),some (.ref h.length),some (.int i),some (.int ((i + 1 + k:Nat):Int)),b,none]) (by rw[o];rfl) rfl rfl;have A:X++(ij M i (k + 1)).map kU=Y++(if 0 < M i (i + 1 + k) then [kU ⟨i,i + 1 + k,M i (i + 1 + k)⟩] else []):=by
    rw[Cp,ZR,s,ZU]
    by_cases z:0 < M i (i + 1 + k)
    ·rw[z4 z,z4 z,x3,YY]
    ·rw[z5 z,z5 z,YY]
   refine⟨_,rfl,?_⟩;rw[A];obtain⟨v,G⟩ : ∃v,v=M i (i + 1 + k):=⟨_,rfl⟩;rw[<-G]at c l ⊢
   by_cases z:0 < v
   ·rw[z4 z]
    have y:pC [32] (ab (fC (.str [116,105,101])) (ab (fw (aa 3)) (ab (fw (aa 4)) (ab (fw (aa 5)) ao)))) [some d,some (.int n),some (.ref h.length),some (.int i),some (.int ((i + 1 + k:Nat):Int)),some (.int v),none] (h++[.lst (Y.map .str)])=.ok (.str (kU ⟨i,i + 1 + k,v⟩)) (h++[.lst (Y.map .str)]):=by
     have q1:=dF _ (n60 (show i<=30 by omega));have q2:=dF _ (n60 (show i + 1 + k<=30 by omega));have q3:=dF _ (big l.1 l.2);exact Ac (sp:=32) (L:=[Na,tx (i:Int),tx ((i + 1 + k:Nat):Int),tx v]) (ar rfl (ar (jA rfl (n60 (by omega))) (bU (jA rfl (n60 (by omega))) (jA rfl (big l.1 l.2))))) (λx f=>by
      simp only[Y6,YO,or_false]at f;rcases f with e|e|e|e
      ·rw[e];decide
      ·rw[e];omega
      ·rw[e];omega
      ·rw[e];omega) (by show 4<=1100;decide)
    refine⟨_,_,sx (aF c) ((lE (aT (ah rfl rfl (BD z)))).trans (hJ (ka rfl (iu rfl _) y (iu rfl _) (by rw[ZA];exact ZS B (by decide))))),?_,_,_,rfl⟩;rw[kc rfl];simp
   ·rw[z5 z]
    refine⟨_,_,sx (aF c) ((cn (aT (ah rfl rfl (ny z)))).trans rfl),?_,_,_,rfl⟩;simp) ⟨by simp[ij],a,b,rfl⟩
 refine⟨r,q,eE E (F.trans ?_)⟩;rw[u,w];simp
end
section
variable {Z n:Nat} {M:Nat->Nat->Int} {bs:List Int} {ss:List (Option Int)} {bk sk:Nat} {h:Hd}
theorem Ky (m:Md Z n M bs ss bk sk h)(f:List Nat):∃a b c,eO (bH (aa 1)) (gN 3) mC [some (.tup [.ref (Z + n),.ref bk,.ref sk]),some (.int n),some (.ref h.length),none,none,none,none] (h++[.lst ([f].map .str)]) =
   .nx [some (.tup [.ref (Z + n),.ref bk,.ref sk]),some (.int n),some (.ref h.length),a,b,c,none] (h++[.lst ((f :: (mN M n n).map kU).map .str)]):=by
 have o:=m.n30;obtain⟨j,l⟩ : ∃j:D,j=.tup [.ref (Z + n),.ref bk,.ref sk]:=⟨_,rfl⟩;have d:=λ(i:Nat) (hi:i < n) (X:List (List Nat)) (y:X.length<=1000) a b=>Kx m hi y a b;rw[<-l]at d ⊢;obtain⟨σ',h',z,u,t,s,w,v⟩:=bZ (g:=none) (all:=(List.range n).map λk:Nat=>D.int k) (tg:=gN 3) (b:=mC) (P:=λk σ h'=>h'=h++[.lst ((f :: (mN M n k).map kU).map .str)]/\∃a b c,σ = [some j,some (.int n),some (.ref h.length),a,b,c,none]) (λ_ _ _ _=>trivial)
  (xs:=(List.range n).map λk:Nat=>D.int k) (k:=0) (σ:=[some j,some (.int n),some (.ref h.length),none,none,none,none]) (h:=h++[.lst ([f].map .str)]) (λk x σ g q p=>by
   obtain⟨rfl,a,b,c,rfl⟩:=p;rw[Z1];have r:k < n:=by
    have:=(List.getElem?_eq_some_iff.mp q).1;simpa using this
   have ex:x=.int ((k:Nat):Int):=by
    rw[ZQ,List.getElem?_range r]at q;exact(ZT q).symm
   subst ex;have l1:=ud M n k;have l2:n * k<=30 * 30:=Nat.mul_le_mul o (by omega);obtain⟨t,s,e⟩:=d k r (f :: (mN M n k).map kU) (by rw[y4,ZA];omega) b c;refine⟨_,rfl,_,_,e,?_,_,_,_,rfl⟩;rw[qf];simp) ⟨by rfl,_,_,_,rfl⟩
 refine⟨t,s,w,eE (cV rfl (by omega)) (z.trans ?_)⟩;rw[u,v];simp
theorem D2 {a:EF}{h:Hd}{i:Int}(p:a σ h=.ok (.int i) h1)(b:i.natAbs < 10 ^ 60):zr a σ h=.ok (.str (tx i)) h1:=by
 show Res.bind _ _=_;rw[p,ay];show (if i.natAbs.log2 < 1920 then _ else _)=_;rw[z4 (HP b)];rfl
theorem Kz {f:D}(s:∀(σ:Sd) (g:Hd),aa 0 σ g=.ok f g->fAt (aa 0) (fC (.int 2)) σ g=.ok (.ref sk) g)(r:h[sk]? = some (.lst (ss.map cR)))(os:∀x∈ss,x=none\/x=some 0\/x=some 1)(ls:ss.length<=30){X:List (List Nat)}(E:X.length<=1000){n:Nat}(a b c:Option D) :
  ∃d,eO (eI (fAt (aa 0) (fC (.int 2)))) (gN 6) pP [some f,some (.int n),some (.ref h.length),a,b,c,none] (h++[.lst (X.map .str)])=.nx [some f,some (.int n),some (.ref h.length),a,b,c,d] (h++[.lst ((X++ss.map el).map .str)]):=by
 have C:sk < h.length:=(List.getElem?_eq_some_iff.mp r).1;have e:∀c:ca,(h++[c])[sk]? = some (.lst (ss.map cR)):=λc=>bn _ r;obtain⟨σ',h',B,u,t,v⟩:=bZ (g:=some sk) (all:=ss.map cR) (tg:=gN 6) (b:=pP) (P:=λk σ h'=>h'=h++[.lst ((X++(ss.take k).map el).map .str)]/\∃d,σ = [some f,some (.int n),some (.ref h.length),a,b,c,d]) (λ_ _ h' p=>by rw[p.1];exact e _)
  (xs:=ss.map cR) (k:=0) (σ:=[some f,some (.int n),some (.ref h.length),a,b,c,none]) (h:=h++[.lst (X.map .str)]) (λk x σ g q p=>by
   obtain⟨rfl,d,rfl⟩:=p;rw[Z1];have j:k < ss.length:=by
    have:=(List.getElem?_eq_some_iff.mp q).1;simpa using this
   have ex:x=cR ss[k]:=by
    rw[ZQ,ZE j]at q;exact(ZT q).symm
   subst ex;obtain⟨Y,m⟩ : ∃Y,Y=X++(ss.take k).map el:=⟨_,rfl⟩;have A:Y.length<=1030:=by
    rw[m,ZB,ZA,X4];omega
   have z:X++(ss.take (k + 1)).map el=Y++[el ss[k]]:=by rw[List.take_succ_eq_append_getElem j,ZR,m,ZU];rfl
   rw[z,<-m];have o:=os ss[k] (YC j);obtain⟨y,w⟩ : ∃y,y=ss[k]:=⟨_,rfl⟩;rw[<-w]at o ⊢;refine⟨_,rfl,?_⟩;have l:fIx (ab (fC (.str [102,114,101,101])) (ab (af dj (fC (.str [115,116,97,121,115,32])) (zr (aa 6))) ao)) (wY (af ja (aa 6) (fC .non))) [some f,some (.int n),some (.ref h.length),a,b,c,some (cR y)] (h++[.lst (Y.map .str)])=.ok (.str (el y)) (h++[.lst (Y.map .str)]):=by
    rcases o with rfl|rfl|rfl
    ·exact v7 (bU rfl (gH rfl (rfl:zr (aa 6) _ _=.ok (.str (mQ "None")) _) (by decide))) (nv (b:=false) (ah rfl rfl rfl)) rfl
    ·exact v7 (bU rfl (gH rfl (D2 (i:=0) rfl (by decide)) (by rw[Nf (.inl rfl)];decide))) (nv (b:=true) (ah rfl rfl rfl)) rfl
    ·exact v7 (bU rfl (gH rfl (D2 (i:=1) rfl (by decide)) (by rw[Nf (.inr rfl)];decide))) (nv (b:=true) (ah rfl rfl rfl)) rfl
   refine⟨_,_,hJ (ka rfl (iu rfl _) l (iu rfl _) (by rw[ZA];exact ZS A (by decide))),?_,_,rfl⟩;rw[kc rfl];simp) ⟨by simp,none,rfl⟩
 refine⟨t,eE (fY (s _ _ rfl) (e _)) (B.trans ?_)⟩;rw[u,v];simp
theorem KA (m:Md Z n M bs ss bk sk h)(bb:∀b∈bs,b.natAbs < 10 ^ 60)(O:TOk n n 0 (mN M n n)) :
  lK [.tup [.ref (Z + n),.ref bk,.ref sk]] h=.ok (.str (bD [10] (cr n (mN M n n) bs ss))) h:=by
 have j:=m.n30;have s:=m.lb;have G:=m.ls;obtain⟨f,p⟩ : ∃f:D,f=.tup [.ref (Z + n),.ref bk,.ref sk]:=⟨_,rfl⟩;obtain⟨T,u⟩ : ∃T,T=mN M n n:=⟨_,rfl⟩;have Q:T.length<=900:=by
  have l1:=ud M n n;have l2:n * n<=30 * 30:=Nat.mul_le_mul j j;rw[u];omega
 obtain⟨C,lc⟩:=wy j O s G m.os bb;rw[<-u]at C lc O ⊢;have E:∀(σ:Sd) (g:Hd),aa 0 σ g=.ok f g->fAt (aa 0) (fC (.int 1)) σ g=.ok (.ref bk) g:=λσ g e=>aL (by rw[e,p]) rfl rfl rfl;have F:∀(σ:Sd) (g:Hd),aa 0 σ g=.ok f g->fAt (aa 0) (fC (.int 2)) σ g=.ok (.ref sk) g:=λσ g e=>aL (by rw[e,p]) rfl rfl rfl;have K:aH (gN 1) (cC (lOf (fAt (aa 0) (fC (.int 1))))) [some f,none,none,none,none,none,none] h=.nx [some f,some (.int n),none,none,none,none,none] h:=by
  have:=aF (i:=1) (cZ (cz (E [some f,none,none,none,none,none,none] h rfl) (aE m.ba)));rw[ZA,s]at this;exact this
 have tl:=dF _ (n60 j);have H:aH (gN 2) (bG (ab (af dj (fC (.str [112,101,111,112,108,101,32])) (fw (aa 1))) ao)) [some f,some (.int n),none,none,none,none,none] h=.nx [some f,some (.int n),some (.ref h.length),none,none,none,none] (h++[.lst ([line jp [(n:Int)]].map .str)]) :=
  aF (cL (ar (gH (x:=[112,101,111,112,108,101,32]) (y:=tx (n:Int)) rfl (jA rfl (n60 j)) (by show 7 + (tx (n:Int)).length<=1000000;omega)) rfl))
 obtain⟨a,b,c,t⟩:=Ky m (line jp [(n:Int)]);rw[<-p,<-u]at t;obtain⟨X,z⟩ : ∃X,X=line jp [(n:Int)] :: T.map kU:=⟨_,rfl⟩;rw[<-z]at t;have P:X.length<=901:=by rw[z,y4,ZA];omega
 obtain⟨o,l⟩ : ∃o:Hd,o=h++[.lst (X.map .str)]:=⟨_,rfl⟩;rw[<-l]at t;have J:o[h.length]? = some (.lst (X.map .str)):=by rw[l];simp
 have A:o[bk]? = some (.lst (bs.map .int)):=by rw[l];exact bn _ m.ba
 have r:bG (bM 1 [] (eI (fAt (aa 0) (fC (.int 1)))) (gN 0) [] (af dj (fC (.str [98,97,114,32])) (fw (aa 0)))) [some f,some (.int n),some (.ref h.length),a,b,c,none] o=.ok (.ref o.length) (o++[.lst ((bs.map nP).map .str)]) :=
  cL (cG (fY (E _ _ rfl) A) (Fe bb A)) (by simp only[ZA,s];exact ZM j (by decide))
 obtain⟨q,k⟩ : ∃q:Hd,q=o++[.lst ((bs.map nP).map .str)]:=⟨_,rfl⟩;rw[<-k]at r;have w:vN (aa 2) (bG (bM 1 [] (eI (fAt (aa 0) (fC (.int 1)))) (gN 0) [] (af dj (fC (.str [98,97,114,32])) (fw (aa 0))))) [some f,some (.int n),some (.ref h.length),a,b,c,none] o=.ok ((X++bs.map nP).map .str) q:=by
  rw[ZR];exact J9 rfl r (by rw[k];exact bn _ J) (by rw[k];simp) (by simp only[ZA,s];exact ZM (show X.length + n<=931 by omega) (by decide))
 have I:aH (gN 2) (bG (vN (aa 2) (bG (bM 1 [] (eI (fAt (aa 0) (fC (.int 1)))) (gN 0) [] (af dj (fC (.str [98,97,114,32])) (fw (aa 0))))))) [some f,some (.int n),some (.ref h.length),a,b,c,none] o=.nx [some f,some (.int n),some (.ref q.length),a,b,c,none] (q++[.lst ((X++bs.map nP).map .str)]) :=
  aF (cL w (by simp only[ZA,ZB,s];exact ZM (show X.length + n<=931 by omega) (by decide)))
 have v:q[sk]? = some (.lst (ss.map cR)):=by rw[k,l];exact bn _ (bn _ m.st)
 obtain⟨d,B⟩:=Kz F v m.os (by omega) (X:=X++bs.map nP) (by rw[ZB,ZA];omega) (n:=n) a b c;have L:X++bs.map nP++ss.map el=cr n T bs ss:=by rw[z];simp[cr]
 rw[L]at B;have N:aW (pC [10] (lOf (aa 2))) [some f,some (.int n),some (.ref q.length),a,b,c,d] (q++[.lst ((cr n T bs ss).map .str)])=.rt (.str (bD [10] (cr n T bs ss))) (q++[.lst ((cr n T bs ss).map .str)]) :=
  aV (Ac (cz rfl (aE (by simp))) C (by omega))
 rw[<-p];refine(bJ rfl rfl (sx K (sx H (sx t (sx I (sx B N)))))).trans ?_;rw[k,l,ZU,ZU];exact cY rfl
end
theorem Cq {j:Nat}:∀{r:List (Nat × Int)},(∀p∈r,p.1≠j)->(r.map λp=>if p.1=j then p.2 else 0).sum=0
 | [],_=>rfl
 | p :: r,h=>by
  rw[x3,YJ,Cq λq a=>h q (ZW _ a),z5 (h p ZV)];rfl
theorem Cr {j:Nat}{v:Int}:∀{r:List (Nat × Int)},(r.map (·.1)).Nodup->(j,v)∈r->(r.map λp=>if p.1=j then p.2 else 0).sum=v
 | [],_,h=>by cases h
 | p :: r,nd,h=>by
  rw[x3]at nd;obtain⟨a,b⟩:=List.nodup_cons.mp nd;rw[x3,YJ];rcases Y6.mp h with e|h
  ·subst e
   rw[z4 rfl,Cq λq c z=>a (List.mem_map.mpr ⟨q,c,z⟩)];exact Int.add_zero _
  ·rw[z5 λz=>a (List.mem_map.mpr ⟨_,h,z.symm⟩),Cr b h];exact Int.zero_add _
def D3 (n j:Nat):List Int:=(List.range n).map λk=>if k=j then 1 else 0
theorem mI (n j k:Nat):(D3 n j).getD k 0=if k < n/\k=j then 1 else 0:=by
 unfold D3;rw[ZF,ZQ]
 by_cases h:k < n
 ·rw[List.getElem?_range h]
  by_cases e:k=j
  ·rw[z4 ⟨h,e⟩];simp[e]
  ·rw[z5 (λz=>e z.2)];simp[e]
 ·rw[List.getElem?_eq_none (by rw[ZO];omega),z5 (λz=>h z.1)];rfl
theorem Cs:∀n,dP (λ_=>0) n=0
 | 0=>rfl
 | n + 1=>by rw[dP,Cs n];rfl
theorem D4 {M:Nat->Nat->Int}(L:LP n M n 0 T){i:Nat}{v:Int}(hi:i < n):(j,v)∈nbs T i ↔ j < n/\M i j=v/\0 < v:=by
 have b:j < n->((nbs T i).map λp=>if p.1=j then p.2 else 0).sum=M i j:=λa=>by
  have e:=L.pl i hi (D3 n j);rw[kg]at e;have m:((nbs T i).map λp=>if (D3 n j).getD p.1 0=1 then p.2 else 0)=(nbs T i).map λp=>if p.1=j then p.2 else 0:=YE λp d=>by
   have d:=nC L.ok.lt p d
   by_cases c:p.1=j
   ·rw[z4 c,z4 (by rw[mI,z4 ⟨d,c⟩])]
   ·rw[z5 c,z5 (by rw[mI,z5 (λz=>c z.2)];decide)]
  rw[m]at e;rw[e,r6 (p:=j) (g:=λ_=>0) (λk f => ?_) n,z4 a,Cs]
  ·unfold gm
   rw[z4 ⟨.inl ⟨hi,a⟩,by rw[mI,z4 ⟨a,rfl⟩]⟩];omega
  ·unfold gm
   rw[z5];rintro⟨_,z⟩;rw[mI,z5 λz=>f z.2]at z;exact absurd z (by decide)
 constructor
 ·intro h
  have a:=nC L.ok.lt _ h;obtain⟨t,l,_,q⟩:=jm.mp h;have w:=L.ok.wt t l;exact⟨a,(b a).symm.trans (Cr (lI L.ok.un i) h),by rw[q]at w;exact Int.lt_of_lt_of_le (by decide) w.1⟩
 ·rintro⟨a,e,p⟩
  by_cases c:∃w,(j,w)∈nbs T i
  ·obtain⟨w,hw⟩:=c
   have:=(b a).symm.trans (Cr (lI L.ok.un i) hw);rw[<-e,this];exact hw
  ·have:=(b a).symm.trans (Cq λp d z=>c ⟨p.2,by rw[<-z];exact d⟩)
   omega
theorem wF {α : Type}{r : α->α->Prop}(d:∀a b,r a b->¬r b a):∀{l k:List α},l.Pairwise r->k.Pairwise r->(∀x,x∈l ↔ x∈k)->l=k
 | [],[],_,_,_=>rfl
 | [],y :: k,_,_,m=>absurd ((m y).mpr ZV) YO
 | x :: l,[],_,_,m=>absurd ((m x).mp ZV) YO
 | x :: l,y :: k,h1,h2,m=>by
  obtain⟨h,i⟩:=List.pairwise_cons.mp h1;obtain⟨f,j⟩:=List.pairwise_cons.mp h2;have e:x=y:=by
   rcases Y6.mp ((m x).mp ZV) with e|hx
   ·exact e
   ·rcases Y6.mp ((m y).mpr ZV) with e|hy
    ·exact e.symm
    ·exact absurd (f x hx) (d _ _ (h y hy))
  subst e;have g : ¬r x x:=λz=>d x x z z;rw[wF d i j λz=>⟨λc => ?_,λc => ?_⟩]
  ·rcases Y6.mp ((m z).mp (ZW _ c)) with e|q
   ·subst e;exact absurd (h _ c) g
   ·exact q
  ·rcases Y6.mp ((m z).mpr (ZW _ c)) with e|q
   ·subst e;exact absurd (f _ c) g
   ·exact q
theorem KC (s t:Tie)(h:oV s t) : ¬oV t s:=λz=>by
 unfold oV at h z;omega
theorem ue {M:Nat->Nat->Int}{k:Nat}{t:Tie}:t∈mN M n k ↔ t.a < k/\t.a < t.b/\t.b < n/\M t.a t.b=t.w/\0 < t.w:=by
 unfold mN ij;rw[List.mem_flatMap];constructor
 ·rintro⟨i,hi,l⟩
  obtain⟨j,m,rfl⟩:=List.mem_map.mp l;obtain⟨c,d⟩:=List.mem_filter.mp m;have c:=List.mem_range.mp c;have hi:=List.mem_range.mp hi;exact⟨hi,show i < i + 1 + j by omega,show i + 1 + j < n by omega,rfl,XB d⟩
 ·rintro⟨c,d,h,f,g⟩
  obtain⟨a,b,w⟩:=t;simp only at c d h f g;subst f;have e:a + 1 + (b - (a + 1))=b:=by omega
  refine⟨a,List.mem_range.mpr c,List.mem_map.mpr ⟨b - (a + 1),List.mem_filter.mpr ⟨List.mem_range.mpr (by omega),?_⟩,?_⟩⟩
  ·rw[e];exact x6 g
  ·rw[e]
theorem Fx (M:Nat->Nat->Int)(i k:Nat):(ij M i k).Pairwise oV:=by
 unfold ij;rw[XE];exact(List.pairwise_lt_range.imp (S:=λa b=>oV ⟨i,i + 1 + a,M i (i + 1 + a)⟩ ⟨i,i + 1 + b,M i (i + 1 + b)⟩) λ{a b} h=>.inr ⟨rfl,show i + 1 + a < i + 1 + b by omega⟩).filter _
theorem qg (M:Nat->Nat->Int)(n:Nat):∀k,(mN M n k).Pairwise oV
 | 0=>List.Pairwise.nil
 | k + 1=>by
  rw[qf];refine X0.mpr ⟨qg M n k,Fx M k _,λs c t a=>.inl ?_⟩;have b:=(ue.mp c).1;unfold ij at a;obtain⟨j,_,rfl⟩:=List.mem_map.mp a;exact b
theorem Lf {n:Nat}{M:Nat->Nat->Int}(O:MOk M){one:Nat}(a:one < n){T:List Tie}(L:LP n M one 0 T):∀k,k<=one->∃T,LP n M one k T
 | 0,_=>⟨T,L⟩
 | k + 1,h=>by
  obtain⟨c,b⟩:=Lf O a L k (by omega)
  by_cases z:0 < M one k
  ·exact⟨_,b.put O (by omega) a z⟩
  ·exact⟨_,b.skip O (by omega) a (by have:=O.bd one k;omega)⟩
theorem Lg {n:Nat}{M:Nat->Nat->Int}(O:MOk M)(a:n<=30):∀k,k<=n->∃T,LP n M k 0 T
 | 0,_=>⟨[],⟨⟨nofun,nofun,nofun,nofun,List.Pairwise.nil,YG _⟩,λi hi s=>by
   have:∀j,gm M s 0 0 i j=0:=λj=>by
    unfold gm;rw[z5];rintro⟨z,_⟩;unfold nS at z;omega
   rw[i0 (g:=λ_=>0) n λj _=>this j,Cs];rfl⟩⟩
 | k + 1,h=>by
  obtain⟨T,L⟩:=Lg O a k (by omega);obtain⟨c,b⟩:=Lf O (show k < n by omega) L k (ZL _);exact⟨c,b.step O (by omega) a⟩
theorem Fy {M:Nat->Nat->Int}(f:n<=30)(L:LP n M n 0 T):mN M n n=oM n T :=
 wF KC (qg M n n) (Fd L.ok) λt=>by
  rw[ue,HS];constructor
  ·rintro⟨a,c,b,d,e⟩
   exact⟨a,c,(D4 L a).mpr ⟨b,d,e⟩⟩
  ·rintro⟨a,c,b⟩
   obtain⟨q1,q2,q3⟩:=(D4 L a).mp b;exact⟨a,c,q1,q2,q3⟩
theorem KD {Z:Nat}{M:Nat->Nat->Int}{bs:List Int}{ss:List (Option Int)}{bk sk:Nat}(m:Md Z n M bs ss bk sk h)(bb:∀b∈bs,b.natAbs < 10 ^ 60)(L:LP n M n 0 T){a:EF}(p:a σ h=.ok (.tup [.ref (Z + n),.ref bk,.ref sk]) h) :
  JC dn (ab (am lK (ab a ao)) ao) σ h=.ok (.ref h.length) (h++[.ob [(aS n T bs ss).enc]]):=by
 have e:=Fy m.n30 L;have O:TOk n n 0 (mN M n n):=by rw[e];exact(xE m.n30 L.ok).1
 have t:=KA m bb O;have w:aS n (mN M n n) bs ss=aS n T bs ss:=by rw[e];exact tL m.n30 L.ok _ _
 have i:=Kq (h:=h++[.ob []]) (dk:=h.length) m.n1 m.n30 O (qg M n n) (λt c=>(ue.mp c).2.1) m.lb m.ls m.os bb (by simp);rw[w]at i;have s:(h++[ca.ob []]).set h.length (.ob [(aS n T bs ss).enc])=h++[.ob [(aS n T bs ss).enc]]:=kc rfl _ _;rw[s]at i;unfold JC;rw[ar (aw (ar p rfl) t) rfl,ay];simp only[i]
theorem yj {F:Fn}{x:EF}{r:LF}{c b:Hd}{k:Nat}{ds:List D}{d:D}(p:x σ h=.ok (.ref k) h1)(q:h1[k]? = some (.ob l))(a:r σ h1=.ok ds c)(f:F (.ref k :: ds) c=.ok d b):j3 F x r σ h=.ok d b:=by
 unfold j3;rw[p,ay];simp only[q,a,ay,f]
section
variable {w:Web} {n:Nat} {s:List Int} {h:Hd} {dk:Nat}
theorem Ct (W:w.Ok n)(S:cW w)(F:c5 w n s)(l:n<=30)(hd:h[dk]? = some (.ob [w.enc])){m:Nat}(hm:m<=400):kn [.ref dk,aq s,.int m] h=.ok (.ref h.length) (h++[.lst ((aX w n s (m + 1)).map aq)]):=by
 have H:aH (gN 3) (bG (ab (aa 1) ao)) [some (.ref dk),some (aq s),some (.int m),none,none] h=.nx [some (.ref dk),some (aq s),some (.int m),some (.ref h.length),none] (h++[.lst ((aX w n s 1).map aq)]):=aF (cL (ar rfl rfl));obtain⟨σ',h',I,u,N,E⟩:=bZ (g:=none) (all:=(List.range m).map λk:Nat=>D.int k) (tg:=gN 4) (b:=zO) (P:=λk σ h'=>h'=h++[.lst ((aX w n s (k + 1)).map aq)]/\∃x,σ = [some (.ref dk),some (aq s),some (.int m),some (.ref h.length),x]) (λ_ _ _ _=>trivial)
  (xs:=(List.range m).map λk:Nat=>D.int k) (k:=0) (σ:=[some (.ref dk),some (aq s),some (.int m),some (.ref h.length),none]) (h:=h++[.lst ((aX w n s 1).map aq)]) (λk x σ g J p=>by
   obtain⟨i,O,rfl⟩:=p;rw[Z1]at i ⊢;have M:k < m:=by
    have:=(List.getElem?_eq_some_iff.mp J).1;simpa using this
   refine⟨_,rfl,?_⟩;have o:=bh W S F k;have f:=bh W S F (k + 1);have q:g[h.length]? = some (.lst ((aX w n s (k + 1)).map aq)):=by rw[i];exact iu rfl _
   have y:g[dk]? = some (.ob [w.enc]):=by rw[i];exact bn _ hd
   obtain⟨c,d⟩ : ∃c:Sd,c=[some (.ref dk),some (aq s),some (.int m),some (.ref h.length),some x]:=⟨_,rfl⟩;have z:aa 3 c g=.ok (.ref h.length) g:=by rw[d];rfl
   have G:aa 0 c g=.ok (.ref dk) g:=by rw[d];rfl
   have K:fAt (aa 3) (fC (.int (-1))) c g=.ok (aq (aG w n s k)) g:=aL z rfl (aE q) (lJ k 1 (by decide));have C:(aG w n s k).length<=30:=by rw[o.len];exact l
   have t:af dj (fC (.str [116,117,114,110,32])) (am dR (ab (fAt (aa 3) (fC (.int (-1)))) ao)) c g=.ok (.str (OL (aG w n s k))) g:=gH rfl (aw (ar K rfl) (Ah o.op C g)) (by show 5 + (sg (aG w n s k)).length<=1000000;rw[kK];omega);have j:=Ii W S o l y;have L:=wA (s:=aG w n s (k + 1)) f.op (by rw[f.len];exact l) g;have r:am c9 (ab (j3 cu (aa 0) (ab (af dj (fC (.str [116,117,114,110,32])) (am dR (ab (fAt (aa 3) (fC (.int (-1)))) ao))) ao)) ao) c g=.ok (aq (aG w n s (k + 1))) g:=aw (ar (yj G y (ar t rfl) j) rfl) L;have v:=hJ (ka (x:=aa 3) (e:=am c9 (ab (j3 cu (aa 0) (ab (af dj (fC (.str [116,117,114,110,32])) (am dR (ab (fAt (aa 3) (fC (.int (-1)))) ao))) ao)) ao)) z q r q (by rw[ZA,fN];exact ZS (show k + 1<=401 by omega) (by decide)));rw[d]at v;refine⟨_,_,v,?_,_,rfl⟩;rw[i,kc rfl,tG (k + 1),ZR];rfl) ⟨rfl,_,rfl⟩
 have A:=eE (it:=bH (aa 2)) (cV (a:=aa 2) (n:=m) (σ:=[some (.ref dk),some (aq s),some (.int m),some (.ref h.length),none]) (h:=h++[.lst ((aX w n s 1).map aq)]) rfl (by omega)) I;have B:((List.range m).map λk:Nat=>D.int k).length=m:=by simp
 rw[B,Z1]at u;rw[u,E]at A;exact(bJ rfl rfl (sx H (sx A (aV rfl)))).trans ee
end
theorem yk {m:Nat}{A B:List (List Int)}(hm:m<=1000)(J:n<=30)(H:A.length=m)(L:B.length=m)(w:∀s∈A,s.length=n)(t:∀s∈B,s.length=n)(le:∀i (O:i < A.length) (K:i < B.length),LeS A[i] B[i]){x y:Nat}
  (o:h[x]? = some (.lst (A.map aq))) (v:h[y]? = some (.lst (B.map aq))):dE [.ref x,.ref y] h=.ok (.bl true) h:=by
 have j:cI none ((List.range m).map λk:Nat=>D.int k) (gN 0) [(cX (tE (am gu (ab (fAt (aa 1) (aa 0)) (ab (fAt (aa 2) (aa 0)) ao)))))] (aa 0) ((List.range m).map λk:Nat=>D.int k) [none,some (.ref x),some (.ref y)] h=.ok [] h:=by
  have:=bA (g:=none) (all:=(List.range m).map λk:Nat=>D.int k) (tg:=gN 0) (cs:=[(cX (tE (am gu (ab (fAt (aa 1) (aa 0)) (ab (fAt (aa 2) (aa 0)) ao)))))]) (e:=aa 0) (h:=h) (I:=λσ=>∃c,σ = [c,some (.ref x),some (.ref y)]) (λ_=>false) (λd=>d) trivial
   (xs:=(List.range m).map λk:Nat=>D.int k) (σ:=[none,some (.ref x),some (.ref y)]) (by
    rintro z p σ ⟨M,rfl⟩;obtain⟨i,hi,rfl⟩:=List.mem_map.mp p;have hi:=List.mem_range.mp hi;have a:i < A.length:=by omega
    have f:i < B.length:=by omega
    have b:=No (show n<=1000 by omega) (w _ (YC a)) (t _ (YC f)) (le i a f) h;refine⟨_,rfl,⟨_,rfl⟩,?_,λz=>by cases z⟩;exact pF (bX (b:=true) (aT (aw (bU (aL rfl rfl (aE o) (de (by rw[ZQ,ZE a];rfl))) (aL rfl rfl (aE v) (de (by rw[ZQ,ZE f];rfl)))) b)))) ⟨_,rfl⟩
  have G:∀l:List D,l.filter (λ_=>false)=[]:=λl=>List.filter_eq_nil_iff.mpr (by simp);rw[G]at this;exact this
 have u:cC (lOf (aa 0)) [some (.ref x),some (.ref y)] h=.ok (.int m) h:=(cZ (cz rfl (aE o))).trans (by rw[ZA,H]);have E:=cL (cG (nl:=1) (caps:=[0,1]) (σ:=[some (.ref x),some (.ref y)]) (cV u hm) j) (YG _);have q:oEq (.ref h.length) (.ref (h.length + 1)) (h++[.lst [],.lst []])=.ok (.bl true) (h++[.lst [],.lst []]):=by
  have N:(h++[ca.lst [],.lst []])[h.length]? = some (.lst []):=by simp
  have C:(h++[ca.lst [],.lst []])[h.length + 1]? = some (.lst []):=by rw[ZD (by omega)];simp
  simp[eqL,i8,kZ,C]
 have F:bG ao [some (.ref x),some (.ref y)] (h++[.lst []])=.ok (.ref (h.length + 1)) (h++[.lst [],.lst []]):=by
  have:=cL (r:=ao) (σ:=[some (.ref x),some (.ref y)]) (h:=h++[.lst []]) rfl (YG _);rwa[ZB,ZU]at this
 exact(bJ rfl rfl (aV (ah E F q))).trans (cY rfl)
section
variable {w:Web} {n:Nat} {s:List Int} {h:Hd}
theorem neB (a b:Bool)(g:Hd):oNe (.bl a) (.bl b) g=.ok (.bl (!(a == b))) g:=by cases a<;>cases b<;>rfl
theorem OP {t:Nat}{x y:D}(e:l[t]? = some x)(a:l[t + 1]? = some y):cut l (some (t:Int)) (some ((t:Int) + 2))=[x,y]:=by
 have b:t + 1 < l.length:=(List.getElem?_eq_some_iff.mp a).1;have q1:sIx l.length 0 (some (t:Int))=t:=by
  simp only[sIx];rw[z5 (by omega)];omega
 have q2:sIx l.length l.length (some ((t:Int) + 2))=t + 2:=by
  simp only[sIx];rw[z5 (by omega)];omega
 unfold cut;rw[q1,q2,show t + 2 - t=2 by omega];have c:l.drop t=x :: y :: l.drop (t + 2):=by
  rw[Y4 (show t < l.length by omega),Y4 b];rw[ZE (show t < l.length by omega)]at e;rw[ZE b]at a;rw[ZT e,ZT a]
 rw[c];rfl
theorem eq2 {x y:List Int}{g:Hd}{i:Nat}(hi:g[i]? = some (.lst [aq x,aq y]))(a:g[j]? = some (.lst [aq x,aq y])):oEq (.ref i) (.ref j) g=.ok (.bl true) g:=by
 have e:eqL [aq x,aq y] [aq x,aq y] = some true:=by
  unfold eqL;rw[z4 (by simp[kZ,DI]),z4 rfl];simp only[i8,DJ rfl];simp
 unfold oEq eqG;simp only[ib,hi,a,e]
theorem Fz (W:w.Ok n)(S:cW w)(F:c5 w n s)(l:n<=30){t:Nat}(e1:aG w n s (t + 2)=aG w n s t)(O:∀k,k < t->aG w n s (k + 2)≠aG w n s k)(ht:t<=300){a b:Nat}(m:h[a]? = some (.lst ((aX w n s (t + 4)).map aq)))(d:h[b]? = some (.lst ((jQ w n s t).map .str))) :
  kq [.ref a,.ref b] h=.ok (.bl true) h:=by
 have L:∀k,(aG w n s k).length=n:=λk=>(bh W S F k).len;have B:∀k,∀x∈aG w n s k,x=0\/x=1:=λk=>(bh W S F k).op;have e:∀k:Nat,k < t + 4->atI ((aX w n s (t + 4)).map aq) (k:Int)=some (aq (aG w n s k)):=λk A=>tH A;have V:atI ((jQ w n s t).map D.str) 1=some (.str (tx (t:Int))):=by
  unfold jQ;split<;>rfl
 have J:aH (gN 2) (gM (fAt (aa 1) (fC (.int 1)))) [some (.ref a),some (.ref b),none,none] h=.nx [some (.ref a),some (.ref b),some (.int t),none] h :=
  aF (mF (aL rfl rfl (aE d) V) (by have:=dF _ (t60 ht);omega) (kJ t))
 obtain⟨σ',h',Y,Q,C,N⟩:=bZ (g:=none) (all:=(List.range (t + 1)).map λk:Nat=>D.int k) (tg:=gN 3) (b:=qT) (P:=λk σ h'=>h'=h/\∃x,σ = [some (.ref a),some (.ref b),some (.int t),x]) (λ_ _ _ _=>trivial)
  (xs:=(List.range (t + 1)).map λk:Nat=>D.int k) (k:=0) (σ:=[some (.ref a),some (.ref b),some (.int t),none]) (h:=h) (λk x σ g H p=>by
   obtain⟨rfl,x0,rfl⟩:=p;have A:k < t + 1:=by
    have:=(List.getElem?_eq_some_iff.mp H).1;simpa using this
   have ex:x=.int ((k:Nat):Int):=by
    rw[ZQ,List.getElem?_range A]at H;exact(ZT H).symm
   subst ex;have q1:fAt (aa 0) (aa 3) [some (.ref a),some (.ref b),some (.int t),some (.int (k:Int))] g=.ok (aq (aG w n s k)) g:=aL rfl rfl (aE m) (e k (by omega));have q2:fAt (aa 0) (af bP (aa 3) (fC (.int 2))) [some (.ref a),some (.ref b),some (.int t),some (.int (k:Int))] g=.ok (aq (aG w n s (k + 2))) g:=aL (i:=((k + 2:Nat):Int)) rfl (ah rfl rfl rfl) (aE m) (e (k + 2) (by omega));have te:(tE (af oNe (af oEq (fAt (aa 0) (aa 3)) (fAt (aa 0) (af bP (aa 3) (fC (.int 2))))) (af oEq (aa 3) (aa 2)))) [some (.ref a),some (.ref b),some (.int t),some (.int (k:Int))] g=.ok false g:=by
    refine aT (ah (ah q1 q2 (oK (by rw[L,L]) g)) (ah rfl rfl zB) ((neB _ _ g).trans ?_));have:(decide (aG w n s k=aG w n s (k + 2)) == decide ((k:Int)=(t:Int)))=true:=by
     by_cases c:k=t
     ·subst c
      rw[x6 e1.symm,x6 rfl];rfl
     ·rw[wL (λz=>O k (by omega) z.symm),wL (by omega)];rfl
    rw[this];rfl
   exact⟨_,rfl,_,_,(cn te).trans rfl,rfl,_,rfl⟩) ⟨rfl,_,rfl⟩
 have rg:bH (af bP (aa 2) (fC (.int 1))) [some (.ref a),some (.ref b),some (.int t),none] h=.ok ((List.range (t + 1)).map (λk:Nat=>D.int k),none) h:=cV (n:=t + 1) (ah rfl rfl rfl) (by omega);have u:=eE rg Y;rw[Q,N]at u;have o:fAt (aa 0) (aa 2) [some (.ref a),some (.ref b),some (.int t),C] h=.ok (aq (aG w n s t)) h:=aL rfl rfl (aE m) (e t (by omega));have G:fAt (aa 0) (af bP (aa 2) (fC (.int 1))) [some (.ref a),some (.ref b),some (.int t),C] h=.ok (aq (aG w n s (t + 1))) h:=aL (i:=((t + 1:Nat):Int)) rfl (ah rfl rfl rfl) (aE m) (e (t + 1) (by omega));have I:∀k g,c9 [.str (sg (aG w n s k))] g=.ok (aq (aG w n s k)) g:=λk g=>wA (B k) (by rw[L];exact l) g;obtain⟨σ,f⟩ : ∃σ:Sd,σ = [some (.ref a),some (.ref b),some (.int t),C]:=⟨_,rfl⟩;rw[<-f]at o G u;have j:∀g:Hd,aa 1 σ g=.ok (.ref b) g:=λg=>by rw[f];rfl
 have R:∀g:Hd,aa 0 σ g=.ok (.ref a) g:=λg=>by rw[f];rfl
 have M:∀g:Hd,aa 2 σ g=.ok (.int t) g:=λg=>by rw[f];rfl
 unfold jQ at d
 by_cases c:aG w n s (t + 1)=aG w n s t
 ·rw[z4 c]at d
  have v:fAt (aa 1) (fC (.int 0)) σ h=.ok (.str DU) h:=aL (j h) rfl (aE d) rfl;have E:fAt (aa 1) (fC (.int 2)) σ h=.ok (.str (sg (aG w n s t))) h:=aL (j h) rfl (aE d) rfl;have rt:am c9 (ab (fAt (aa 1) (fC (.int 2))) ao) σ h=.ok (aq (aG w n s t)) h:=aw (ar E rfl) (I t h);have r:=oz (nt (aT (ah (cZ (cz (j h) (aE d))) (rfl:fC (.int 3) σ h=_) (nu rfl))) (nt (aT ((ah o G (oK (by rw[L,L]) h)).trans (by rw[x6 c.symm]))) (aT ((ah rt o (oK rfl h)).trans (by rw[x6 rfl])))));exact(bJ rfl rfl (sx J (sx u (oA ((lE (aT (ah v rfl rfl))).trans (aV r)))))).trans aQ
 ·rw[z5 c]at d
  have v:fAt (aa 1) (fC (.int 0)) σ h=.ok (.str DV) h:=aL (j h) rfl (aE d) rfl;have E:fAt (aa 1) (fC (.int 2)) σ h=.ok (.str (sg (aG w n s t))) h:=aL (j h) rfl (aE d) rfl;have z3:fAt (aa 1) (fC (.int 3)) σ h=.ok (.str (sg (aG w n s (t + 1)))) h:=aL (j h) rfl (aE d) rfl;have X:=(cn (a:=aW (fT (jV (tE (af oEq (cC (lOf (aa 1))) (fC (.int 3)))) (jV (tE (af oEq (fAt (aa 0) (aa 2)) (fAt (aa 0) (af bP (aa 2) (fC (.int 1)))))) (tE (af oEq (am c9 (ab (fAt (aa 1) (fC (.int 2))) ao)) (fAt (aa 0) (aa 2)))))))) (b:=bc) (aT (ah v (rfl:fC (.str [114,101,115,116]) σ h=_) (Ig (by decide) h)))).trans rfl;have f2:=(cn (a:=aW (fC (.bl false))) (b:=bc) (gj (aT (ah v (rfl:fC (.str [112,97,105,114]) σ h=_) (Ka _ _ _))) (gj (aT (ah (cZ (cz (j h) (aE d))) (rfl:fC (.int 4) σ h=_) (pG _ _ _))) (aT ((ah o G (oK (by rw[L,L]) h)).trans (by rw[wL (YN c)])))))).trans rfl;have K:bG (ab (am c9 (ab (fAt (aa 1) (fC (.int 2))) ao)) (ab (am c9 (ab (fAt (aa 1) (fC (.int 3))) ao)) ao)) σ h=.ok (.ref h.length) (h++[.lst [aq (aG w n s t),aq (aG w n s (t + 1))]]):=cL (bU (aw (ar E rfl) (I t h)) (aw (ar z3 rfl) (I (t + 1) h)));obtain⟨g,q⟩ : ∃g:Hd,g=h++[.lst [aq (aG w n s t),aq (aG w n s (t + 1))]]:=⟨_,rfl⟩;rw[<-q]at K;have Z:g[a]? = some (.lst ((aX w n s (t + 4)).map aq)):=by rw[q];exact bn _ m
  have U:gn (aa 0) (pAt (aa 2)) (pAt (af bP (aa 2) (fC (.int 2)))) σ g=.ok (.ref g.length) (g++[.lst [aq (aG w n s t),aq (aG w n s (t + 1))]]):=by
   have T:=OP (l:=(aX w n s (t + 4)).map aq) (t:=t) (x:=aq (aG w n s t)) (y:=aq (aG w n s (t + 1))) (by simp[aX]) (by simp[aX]);unfold gn;rw[R g,ay];have p1:pAt (aa 2) σ g=.ok (some (t:Int)) g:=by unfold pAt;rw[M g,ay]
   have p2:pAt (af bP (aa 2) (fC (.int 2))) σ g=.ok (some ((t:Int) + 2)) g:=by
    unfold pAt;rw[ah (M g) (rfl:fC (.int 2) σ g=_) rfl,ay]
   rw[p1,ay,p2,ay];simp only[ib,Z,T]
  have r:=ah K U (eq2 (x:=aG w n s t) (y:=aG w n s (t + 1)) (by rw[q];simp) (by simp));refine(bJ rfl rfl (sx J (sx u (sx X (sx f2 (aV r)))))).trans ?_;rw[q,ZU];exact cY rfl
end
section
variable {Z n:Nat} {M:Nat->Nat->Int} {bs:List Int} {ss:List (Option Int)} {bk sk:Nat} {h:Hd}
abbrev tdO (Z n bk sk:Nat):D:=.tup [.ref (Z + n),.ref bk,.ref sk]
theorem Np (m:Md Z n M bs ss bk sk h)(ls:s.length=n)(B:tJ s){i:Nat}(hi:i < n)(a:Option D) :
  cI none ((List.range n).map λk:Nat=>D.int k) (gN 0) [] (af cB (fAt (fAt (fAt (aa 3) (fC (.int 0))) (aa 2)) (aa 0)) (fAt (aa 1) (aa 0))) ((List.range n).map λk:Nat=>D.int k) [a,some (aq s),some (.int i),some (tdO Z n bk sk)] h=.ok (((List.range n).map λj=>M i j * s.getD j 0).map .int) h:=by
 have:=bA (g:=none) (all:=(List.range n).map λk:Nat=>D.int k) (tg:=gN 0) (cs:=[]) (e:=af cB (fAt (fAt (fAt (aa 3) (fC (.int 0))) (aa 2)) (aa 0)) (fAt (aa 1) (aa 0))) (h:=h) (I:=λσ=>∃a,σ = [a,some (aq s),some (.int i),some (tdO Z n bk sk)]) (λ_=>true) (λd=>match d with | .int j=>.int (M i j.toNat * s.getD j.toNat 0)|_=>.non) trivial
  (xs:=(List.range n).map λk:Nat=>D.int k) (σ:=[a,some (aq s),some (.int i),some (tdO Z n bk sk)]) (by
   rintro x f σ ⟨c,rfl⟩;obtain⟨j,b,rfl⟩:=List.mem_map.mp f;have b:=List.mem_range.mp b;refine⟨_,rfl,⟨_,rfl⟩,rfl,λ_ => ?_⟩;exact ah (aL (aL (aL rfl rfl rfl rfl) rfl (aE m.mt.ti) (DY hi)) rfl (aE (m.mt.ro i hi)) (Im b)) (aL rfl rfl rfl (fZ (by rw[ls];exact b))) (PY (B j) h)) ⟨_,rfl⟩
 rw[this,List.filter_eq_self.mpr (λ_ _=>rfl),Z7,Z7];rfl
theorem Nq (m:Md Z n M bs ss bk sk h)(L:LP n M n 0 T){f g:List Int}(q:c5 (aS n T bs ss) n f)(u:c5 (aS n T bs ss) n g):ko [tdO Z n bk sk,aq f,aq g] h=.ok (.int (c6 (aS n T bs ss) f g n)) h:=by
 have W:=m.n30;have z:tJ f:=λi=>gQ q i;have X:tJ g:=λi=>gQ u i;obtain⟨w,hw⟩ : ∃w,w=aS n T bs ss:=⟨_,rfl⟩;have I:w.bars=bs:=by rw[hw];rfl
 have G:∀i,i < n->bL (w.ties.getD i []) f=dP (λj=>M i j * f.getD j 0) n:=λi hi=>by
  rw[Iq L z hi,hw,show (aS n T bs ss).ties.getD i [] = cO (nbs T i) by simp[aS,List.getD,hi]];exact zJ _ _
 rw[<-hw];obtain⟨a,l⟩ : ∃a:D,a=tdO Z n bk sk:=⟨_,rfl⟩;have O:∀(σ:Sd) (g:Hd),aa 0 σ g=.ok a g->fAt (aa 0) (fC (.int 1)) σ g=.ok (.ref bk) g:=λσ g e=>aL (by rw[e,l]) rfl rfl rfl;obtain⟨σ',h',R,Q,Y,y',B⟩:=bZ (g:=none) (all:=(List.range n).map λk:Nat=>D.int k) (tg:=gN 4) (b:=zP) (P:=λk σ h'=>h'=h/\∃x y,σ = [some a,some (aq f),some (aq g),some (.int (c6 w f g k)),x,y]) (λ_ _ _ _=>trivial)
  (xs:=(List.range n).map λk:Nat=>D.int k) (k:=0) (σ:=[some a,some (aq f),some (aq g),some (.int 0),none,none]) (h:=h) (λi x σ d A p=>by
   obtain⟨rfl,x0,o,rfl⟩:=p;rw[Z1];have hi:i < n:=by
    have:=(List.getElem?_eq_some_iff.mp A).1;simpa using this
   have ex:x=.int ((i:Nat):Int):=by
    rw[ZQ,List.getElem?_range hi]at A;exact(ZT A).symm
   subst ex;have H:=z i;have N:=X i;have t:aH (gN 3) (af bP (aa 3) (af cB (af bP (fAt (aa 1) (aa 4)) (fAt (aa 2) (aa 4))) (af bP (af cB (fC (.int 2)) (fAt (fAt (aa 0) (fC (.int 1))) (aa 4))) (fC (.int 1))))) [some a,some (aq f),some (aq g),some (.int (c6 w f g i)),some (.int (i:Int)),o] d=.nx [some a,some (aq f),some (aq g),some (.int (c6 w f g i + (f.getD i 0 + g.getD i 0) * (2 * bs.getD i 0 + 1))),some (.int (i:Int)),o] d :=
    aF (ah rfl (ah (ah (aL rfl rfl rfl (fZ (by rw[q.len];exact hi))) (aL rfl rfl rfl (fZ (by rw[u.len];exact hi))) rfl) (ah (ah rfl (aL (O _ _ rfl) rfl (aE m.ba) (fZ (by rw[m.lb];exact hi))) (iq (by decide))) rfl rfl) (iq (by rcases H with e|e<;>rcases N with e'|e'<;>rw[e,e']<;>decide))) rfl)
   have s:fAt (aa 2) (aa 4) [some a,some (aq f),some (aq g),some (.int (c6 w f g i + (f.getD i 0 + g.getD i 0) * (2 * bs.getD i 0 + 1))),some (.int (i:Int)),o] d=.ok (.int (g.getD i 0)) d:=aL rfl rfl rfl (fZ (by rw[u.len];exact hi));obtain⟨U,F⟩ : ∃U,U=c6 w f g i + (f.getD i 0 + g.getD i 0) * (2 * bs.getD i 0 + 1):=⟨_,rfl⟩;rw[<-F]at t s;have r:c6 w f g (i + 1)=U - (if g.getD i 0=1 then 2 * (2 * bL (w.ties.getD i []) f) + 2 * f.getD i 0 else 0):=by
    show c6 w f g i + ji w f g i=_;unfold ji;rw[I,F,Int.mul_comm (f.getD i 0 + g.getD i 0)];omega
   refine⟨_,rfl,?_⟩
   by_cases c:g.getD i 0=1
   ·rw[z4 c,G i hi]at r
    have v:cC (lOf (aa 1)) [some a,some (aq f),some (aq g),some (.int U),some (.int (i:Int)),o] d=.ok (.int n) d:=(cZ (cz rfl rfl)).trans (by rw[ZA,q.len]);have S:uD (bM 1 [1,4,0] (bH (cC (lOf (aa 1)))) (gN 0) [] (af cB (fAt (fAt (fAt (aa 3) (fC (.int 0))) (aa 2)) (aa 0)) (fAt (aa 1) (aa 0)))) [some a,some (aq f),some (aq g),some (.int U),some (.int (i:Int)),o] d=.ok (.int (dP (λj=>M i j * f.getD j 0) n)) d:=by
     have k:=Np m q.len z hi none;rw[<-l]at k;have:=BC (cG (nl:=1) (caps:=[1,4,0]) (σ:=[some a,some (aq f),some (aq g),some (.int U),some (.int (i:Int)),o]) (cV v (by omega)) k) (pH _);rw[wq]at this;exact this
    have K:=aF (i:=5) S;have E:aH (gN 3) (af fU (af fU (aa 3) (af cB (fC (.int 4)) (aa 5))) (af cB (fC (.int 2)) (fAt (aa 1) (aa 4)))) [some a,some (aq f),some (aq g),some (.int U),some (.int (i:Int)),some (.int (dP (λj=>M i j * f.getD j 0) n))] d=.nx [some a,some (aq f),some (aq g),some (.int (U - 4 * dP (λj=>M i j * f.getD j 0) n - 2 * f.getD i 0)),some (.int (i:Int)),some (.int (dP (λj=>M i j * f.getD j 0) n))] d :=
     aF (ah (ah rfl (ah rfl rfl (iq (by decide))) rfl) (ah rfl (aL rfl rfl rfl (fZ (by rw[q.len];exact hi))) (iq (by decide))) rfl)
    have V:U - 4 * dP (λj=>M i j * f.getD j 0) n - 2 * f.getD i 0=c6 w f g (i + 1):=by rw[r];omega
    rw[V]at E;exact⟨_,_,sx t ((lE (aT (ah s rfl (nu c)))).trans (sx K E)),rfl,_,_,rfl⟩
   ·rw[z5 c]at r
    rw[Int.sub_zero]at r;rw[<-r]at t s;exact⟨_,_,sx t ((cn (aT (ah s rfl (lG c)))).trans rfl),rfl,_,_,rfl⟩) ⟨rfl,_,_,rfl⟩
 have v:cC (lOf (aa 1)) [some a,some (aq f),some (aq g),some (.int 0),none,none] h=.ok (.int n) h:=(cZ (cz rfl rfl)).trans (by rw[ZA,q.len]);have J:((List.range n).map λk:Nat=>D.int k).length=n:=by simp
 have C:=eE (cV v (by omega)) R;rw[J,Z1]at B;rw[Q,B]at C;rw[<-l];exact(bJ rfl rfl (sx (aF rfl) (sx C (aV rfl)))).trans aQ
end
theorem Cu (A B:Nat->List (Nat × Int))(f s:Nat->Int):∀n,S2 (λk=>A k++B k) f s n=S2 A f s n + S2 B f s n
 | 0=>rfl
 | k + 1=>by
  simp only[S2,Cu A B f s k,ZR,List.sum_append];omega
theorem Cv (f s:Nat->Int):∀n,S2 (λ_=>[]) f s n=0
 | 0=>rfl
 | k + 1=>by simp[S2,Cv f s k]
theorem PZ {l m:List Int}(p:l.Perm m):l.sum=m.sum:=by
 induction p with
 | nil=>rfl
 | cons x _ ih=>simp[ih]
 | swap x y l=>simp only[YJ];omega
 | trans _ _ a b=>exact a.trans b
theorem D5 {A B:Nat->List (Nat × Int)}(f s:Nat->Int):∀n,(∀i,i < n->(A i).Perm (B i))->S2 A f s n=S2 B f s n
 | 0,_=>rfl
 | k + 1,h=>by
  have p:=PZ ((h k (Z8 k)).map λp:Nat × Int=>p.2 * f p.1 * s k);simp only[S2,D5 f s k λi hi=>h i (ZZ hi),p]
def ym (t:Tie) (i:Nat):List (Nat × Int):=match far i t with|some j=>[(j,t.w)] | none=>[]
theorem OQ (t:Tie):ym t t.a=[(t.b,t.w)]:=by simp[ym,far]
theorem OR {t:Tie}(h:t.a≠t.b):ym t t.b=[(t.a,t.w)]:=by simp[ym,far,h]
theorem OS {t:Tie}{i:Nat}(h1:t.a≠i)(a:t.b≠i):ym t i=[]:=by simp[ym,far,h1,a]
theorem Cw (t:Tie)(d:t.a≠t.b)(f s:Nat->Int):∀n,S2 (ym t) f s n=(if t.a < n then t.w * f t.b * s t.a else 0) + (if t.b < n then t.w * f t.a * s t.b else 0)
 | 0=>rfl
 | k + 1=>by
  simp only[S2,Cw t d f s k]
  by_cases a:t.a=k
  ·subst a
   rw[OQ];have e : ¬t.a < t.a:=Z9 _
   by_cases b:t.b < t.a
   ·simp[b,ZZ b];omega
   ·have : ¬t.b < t.a + 1:=by omega
    simp[b,this]
  ·by_cases b:t.b=k
   ·subst b
    rw[OR d]
    by_cases c:t.a < t.b
    ·simp[c,ZZ c]
    ·have : ¬t.a < t.b + 1:=by omega
     simp[c,this]
   ·rw[OS a b]
    have e:t.a < k + 1 ↔ t.a < k:=by omega
    have g:t.b < k + 1 ↔ t.b < k:=by omega
    simp[e,g]
theorem Iu {n:Nat}(f s:Nat->Int):∀T:List Tie,(∀t∈T,t.a≠t.b)->(∀t∈T,t.a < n/\t.b < n)->S2 (nbs T) f s n=S2 (nbs T) s f n
 | [],_,_=>by
  have:nbs [] = λ_=>[]:=by funext i;rfl
  rw[this,Cv,Cv]
 | t :: T,h,l=>by
  have e:nbs (t :: T)=λk=>ym t k++nbs T k:=by
   funext i;unfold nbs ym;rw[XH];cases far i t<;>rfl
  obtain⟨l1,l2⟩:=l t (.head _);rw[e,Cu,Cu,Iu f s T (λa h'=>h a (.tail _ h')) (λa h'=>l a (.tail _ h')),Cw t (h t (.head _)),Cw t (h t (.head _)),z4 l1,z4 l2,z4 l1,z4 l2];rw[Int.mul_right_comm t.w (f t.b),Int.mul_right_comm t.w (f t.a)];omega
theorem OT (x:Nat × Int):∀r,(nz x r).Perm (x :: r)
 | []=>.refl _
 | y :: r=>by
  unfold nz;split
  ·exact .refl _
  ·exact((OT x r).cons y).trans (.swap x y r)
theorem Lh:∀r,(cO r).Perm r
 | []=>.refl _
 | x :: r=>(OT x _).trans ((Lh r).cons x)
theorem D6 (O:TOk n n 0 T)(bs:List Int)(ss:List (Option Int))(f s:Nat->Int):S2 (λi=>(aS n T bs ss).ties.getD i []) f s n=S2 (λi=>(aS n T bs ss).ties.getD i []) s f n:=by
 have c:∀f s,S2 (λi=>(aS n T bs ss).ties.getD i []) f s n=S2 (nbs T) f s n:=λf s=>D5 f s n λi hi=>by
  have e:(aS n T bs ss).ties.getD i [] = cO (nbs T i):=by simp[aS,List.getD,hi]
  rw[e];exact Lh _
 rw[c,c,Iu f s T O.ne O.lt]
theorem php:∀(N t:Nat) (f:Nat->Nat),(∀i,i<=t->f i < N)->(∀i j,i < j->j<=t->f i≠f j)->t + 1<=N
 | 0,t,f,h,_=>by have:=h 0 (YG _);omega
 | N + 1,0,f,_,_=>by omega
 | N + 1,t + 1,f,h,d=>by
  have g:=h (t + 1) (ZL _);have:=php N t (λi=>if f i < f (t + 1) then f i else f i - 1) (λi hi=>by
   have b:=h i (by omega);have c:=d i (t + 1) (by omega) (ZL _);split<;>omega) (λi j a k=>by
   have b:=d i j a (by omega);have c:=d i (t + 1) (by omega) (ZL _);have e:=d j (t + 1) (by omega) (ZL _);split<;>split<;>omega)
  omega
def u7:List Int->Nat
 | []=>0
 | x :: xs=>2 * u7 xs + x.toNat
theorem D7:∀xs:List Int,(∀x∈xs,x=0\/x=1)->u7 xs < 2 ^ xs.length
 | [],_=>by decide
 | x :: xs,h=>by
  have b:=D7 xs λy a=>h y (.tail _ a);rw[y4,Nat.pow_succ];show 2 * u7 xs + x.toNat < _;rcases h x (.head _) with e|e<;>subst e<;>simp<;>omega
theorem An:∀xs ys:List Int,xs.length=ys.length->(∀x∈xs,x=0\/x=1)->(∀x∈ys,x=0\/x=1)->u7 xs=u7 ys->xs=ys
 | [],[],_,_,_,_=>rfl
 | [],_ :: _,h,_,_,_=>by simp at h
 | _ :: _,[],h,_,_,_=>by simp at h
 | x :: xs,y :: ys,h,b1,b2,c=>by
  have c:2 * u7 xs + x.toNat=2 * u7 ys + y.toNat:=c;have e:x=y/\u7 xs=u7 ys:=by
   rcases b1 x (.head _) with e|e<;>rcases b2 y (.head _) with e'|e'<;>subst e e'<;>simp at c ⊢<;>omega
  rw[e.1,An xs ys (by simpa using h) (λz a=>b1 z (.tail _ a)) (λz a=>b2 z (.tail _ a)) e.2]
structure Go (w:Web) (n:Nat):Prop where
 W:w.Ok n
 n8:n<=8
 S:cW w
 more:BO w w n
 sym:∀f s,S2 (λi=>w.ties.getD i []) f s n=S2 (λi=>w.ties.getD i []) s f n
structure P0 (w:Web) (n:Nat) (s:List Int) (t:Nat):Prop where
 ht:aG w n s (t + 2)=aG w n s t
 hm:∀k,k < t->aG w n s (k + 2)≠aG w n s k
 hz:t<=300
theorem Go.fin {w:Web}(G:Go w n)(F:c5 w n s):∃t,P0 w n s t:=by
 obtain⟨t,g,c⟩:=PQ G.W G.S F G.sym;have:=php 256 t (λi=>u7 (aG w n s i)) (λi _=>by
  have a:=D7 (aG w n s i) (bh G.W G.S F i).op;rw[(bh G.W G.S F i).len]at a;exact v3 a (Nat.pow_le_pow_right (by decide) G.n8)) (λi j f l e=>by
  have d:=bh G.W G.S F i;have b:=bh G.W G.S F j;have q:=An _ _ (by rw[d.len,b.len]) d.op b.op e;have l1:=K2 G.W G.S F G.sym (k:=i) (c i (by omega));have l2:=K3 G.W G.S F G.sym (k:=i + 1) (m:=j) (by omega);have h:eN w n s i=eN w n s j:=by
   unfold eN;show c6 w (aG w n s i) (dv w n (aG w n s i)) n=c6 w (aG w n s j) (dv w n (aG w n s j)) n;rw[q]
  omega)
 exact⟨t,g,c,by omega⟩
theorem wG (a b:List Int):∀n,(((List.range n).filter λp => !decide (b.getD p 0=a.getD p 0)).length:Int)=unl a b n
 | 0=>rfl
 | n + 1=>by
  have d:=wG a b n;rw[XG,List.filter_append,ZB];show _=dP _ n + _;rw[show dP (λp=>if a.getD p 0=b.getD p 0 then 0 else 1) n=unl a b n from rfl,<-d];show _=_ + (if a.getD n 0=b.getD n 0 then (0:Int) else 1)
  by_cases c:a.getD n 0=b.getD n 0
  ·rw[z4 c,List.filter_cons_of_neg (by rw[x6 c.symm];decide)];simp
  ·rw[z5 c,List.filter_cons_of_pos (by rw[wL (YN c)];rfl)];simp
section
variable {Z n:Nat} {M:Nat->Nat->Int} {bs:List Int} {ss:List (Option Int)} {bk sk:Nat} {h:Hd}
theorem Iv (m:Md Z n M bs ss bk sk h)(L:LP n M n 0 T)(W:(aS n T bs ss).Ok n)(S:cW (aS n T bs ss))(F:c5 (aS n T bs ss) n s){m':Nat}(hm:m'<=400)(h2:2<=m'){a:Nat}(B:h[a]? = some (.lst ((aX (aS n T bs ss) n s m').map aq))) :
  mD [tdO Z n bk sk,.ref a] h=.ok (.bl true) h:=by
 have Y:=m.n30;have G:=D6 L.ok bs ss;have q:=λk=>Nq m L (bh W S F k) (bh W S F (k + 1));obtain⟨w,hw⟩ : ∃w,w=aS n T bs ss:=⟨_,rfl⟩;obtain⟨l,u⟩ : ∃l:D,l=tdO Z n bk sk:=⟨_,rfl⟩;rw[<-hw]at W S F B q G;rw[<-u]at q ⊢;have z:∀k,(aG w n s k).length=n:=λk=>(bh W S F k).len;have v:∀k:Nat,k < m'->atI ((aX w n s m').map aq) (k:Int)=some (aq (aG w n s k)):=λk t=>tH t;have R:((aX w n s m').map aq).length=m':=by rw[ZA,fN]
 have rg:eG (fC (.int 2)) (cC (lOf (aa 1))) [some l,some (.ref a),none,none] h=.ok ((List.range (m' - 2)).map (λj:Nat=>D.int ((2 + j:Nat):Int)),none) h :=
  jP (m:=2) rfl ((cZ (cz rfl (aE B))).trans (by rw[R,show 2 + (m' - 2)=m' by omega])) (by omega)
 obtain⟨σ',h',X,U,x',y',N⟩:=bZ (g:=none) (all:=(List.range (m' - 2)).map (λj:Nat=>D.int ((2 + j:Nat):Int))) (tg:=gN 2) (b:=tM) (P:=λk σ h'=>h'=h/\∃x y,σ = [some l,some (.ref a),x,y]) (λ_ _ _ _=>trivial)
  (xs:=(List.range (m' - 2)).map (λj:Nat=>D.int ((2 + j:Nat):Int))) (k:=0) (σ:=[some l,some (.ref a),none,none]) (h:=h) (λk x σ g o p=>by
   obtain⟨rfl,x0,Q,rfl⟩:=p;have t:k < m' - 2:=by
    have:=(List.getElem?_eq_some_iff.mp o).1;simpa using this
   have ex:x=.int ((2 + k:Nat):Int):=by
    rw[ZQ,List.getElem?_range t]at o;exact(ZT o).symm
   subst ex;have K:((2 + k:Nat):Int) - 1=((k + 1:Nat):Int):=by omega
   have H:((2 + k:Nat):Int) - 2=((k:Nat):Int):=by omega
   have A:∀(f : Sd) (y:EF),aa 1 f g=.ok (.ref a) g->∀j:Nat,y f g=.ok (.int (j:Int)) g->j < m'->fAt (aa 1) y f g=.ok (aq (aG w n s j)) g:=λf y e j C hj=>aL e C (aE B) (v j hj);have mv:cI none ((List.range n).map λk:Nat=>D.int k) (gN 0) [(tE (af oNe (fAt (fAt (aa 1) (aa 2)) (aa 0)) (fAt (fAt (aa 1) (af fU (aa 2) (fC (.int 2)))) (aa 0))))] (aa 0) ((List.range n).map λk:Nat=>D.int k) [none,some (.ref a),some (.int ((2 + k:Nat):Int))] g=.ok ((((List.range n).map λk:Nat=>D.int k).filter λd=>match d with | .int i => !decide ((aG w n s (2 + k)).getD i.toNat 0=(aG w n s k).getD i.toNat 0)|_=>false).map λd=>d) g:=by
    refine bA (g:=none) (I:=λσ=>∃c,σ = [c,some (.ref a),some (.int ((2 + k:Nat):Int))]) _ _ trivial ?_ ⟨_,rfl⟩;rintro x o σ ⟨c,rfl⟩;obtain⟨i,hi,rfl⟩:=List.mem_map.mp o;have hi:=List.mem_range.mp hi;refine⟨_,rfl,⟨_,rfl⟩,?_,λ_=>rfl⟩;exact pF (aT (ah (aL (A _ _ rfl (2 + k) rfl (by omega)) rfl rfl (fZ (by rw[z];exact hi))) (aL (A _ _ rfl k ((ah rfl rfl rfl).trans (by rw[<-H])) (by omega)) rfl rfl (fZ (by rw[z];exact hi))) (pG _ _ _)))
   have fl:((((List.range n).map λk:Nat=>D.int k).filter λd=>match d with | .int i => !decide ((aG w n s (2 + k)).getD i.toNat 0=(aG w n s k).getD i.toNat 0)|_=>false).map λd=>d).length=((List.range n).filter λp => !decide ((aG w n s (2 + k)).getD p 0=(aG w n s k).getD p 0)).length:=by
    rw[ZA,List.filter_map,ZA];rfl
   have V:∀f : Sd,aa 1 f g=.ok (.ref a) g->aa 2 f g=.ok (.int ((2 + k:Nat):Int)) g->cC (lOf (fAt (aa 1) (aa 2))) f g=.ok (.int n) g:=λf e C=>(cZ (cz (A f _ e (2 + k) C (by omega)) rfl)).trans (by rw[ZA,z]);have J:=aF (i:=3) (cZ (cG (nl:=1) (caps:=[1,2]) (σ:=[some l,some (.ref a),some (.int ((2 + k:Nat):Int)),Q]) (cV (V _ rfl rfl) (by omega)) mv));rw[fl,wG]at J;have fa:=xC W S F G k;have q1:=aw (F:=ko) (r:=ab (aa 0) (ab (fAt (aa 1) (af fU (aa 2) (fC (.int 1)))) (ab (fAt (aa 1) (aa 2)) ao))) (σ:=[some l,some (.ref a),some (.int ((2 + k:Nat):Int)),some (.int (unl (aG w n s k) (aG w n s (2 + k)) n))]) (h:=g) (ar rfl (bU (A _ _ rfl (k + 1) ((ah rfl rfl rfl).trans (by rw[<-K])) (by omega)) (A _ _ rfl (2 + k) rfl (by omega)))) (by have:=q (k + 1);rw[show k + 1 + 1=2 + k by omega]at this;exact this);have q2:=aw (F:=ko) (r:=ab (aa 0) (ab (fAt (aa 1) (af fU (aa 2) (fC (.int 2)))) (ab (fAt (aa 1) (af fU (aa 2) (fC (.int 1)))) ao))) (σ:=[some l,some (.ref a),some (.int ((2 + k:Nat):Int)),some (.int (unl (aG w n s k) (aG w n s (2 + k)) n))]) (h:=g) (ar rfl (bU (A _ _ rfl k ((ah rfl rfl rfl).trans (by rw[<-H])) (by omega)) (A _ _ rfl (k + 1) ((ah rfl rfl rfl).trans (by rw[<-K])) (by omega)))) (q k);have e0:c6 w (aG w n s (k + 1)) (aG w n s (2 + k)) n=eN w n s (k + 1):=by unfold eN;rw[show k + 1 + 1=2 + k by omega]
   have O : ¬(c6 w (aG w n s k) (aG w n s (k + 1)) n - unl (aG w n s k) (aG w n s (2 + k)) n < c6 w (aG w n s (k + 1)) (aG w n s (2 + k)) n):=by
    rw[e0];have:eN w n s k=c6 w (aG w n s k) (aG w n s (k + 1)) n:=rfl;rw[show k + 2=2 + k by omega]at fa;omega
   exact⟨_,rfl,_,_,sx J ((cn (aT (ah q1 (ah q2 rfl rfl) (ny O)))).trans rfl),rfl,_,_,rfl⟩) ⟨rfl,_,_,rfl⟩
 have E:=eE rg X;rw[U,N]at E;exact(bJ rfl rfl (sx E (aV rfl))).trans aQ
end
theorem Nr (wt:∀t∈T,1<=t.w/\t.w<=400){i:Nat}:∀p∈nbs T i,1<=p.2/\p.2<=400:=λp b=>by
 unfold nbs at b;obtain⟨t,a,q⟩:=List.mem_filterMap.mp b;have:=wt t a;cases e:far i t with
 | none=>rw[e]at q;cases q
 | some j=>rw[e]at q;simp at q;subst q;exact this
theorem wH (O:TOk n n 0 T){bs c:List Int}{ss:List (Option Int)}(os:∀x∈ss,x=none\/x=some 0\/x=some 1)(le:∀p,p < n->c.getD p 0<=bs.getD p 0):BO (aS n T bs ss) (aS n T c ss) n :=
 J2 os os (λp h a b _ B l=>by
  rw[pO h,pO h];exact qS B l λq d=>by have:=Nr O.wt q (eB.mp d);omega) le λp _=>by
   have:ss.getD p none=none\/ss.getD p none=some 0\/ss.getD p none=some 1:=by
    by_cases h:p < ss.length
    ·rw[show ss.getD p none=ss[p] by simp[List.getD,h]];exact os _ (YC h)
    ·left;simp[List.getD,List.getElem?_eq_none (show ss.length<=p by omega)]
   rcases this with e|e|e
   ·exact .inl ⟨e,e⟩
   ·exact .inr (.inl e)
   ·exact .inr (.inr e)
section
variable {n:Nat} {M:Nat->Nat->Int} {T:List Tie} {bs:List Int} {ss:List (Option Int)} {bk sk dk:Nat} {h:Hd}
theorem Md.ob (m:Md 0 n M bs ss bk sk h)(nd:n < dk)(b:bk≠dk)(a:sk≠dk)(c:ca):Md 0 n M bs ss bk sk (h.set dk c) :=
 ⟨m.n1,m.n30,m.mt.set (by omega) c,m.mo,by rw[ZP (YN b)];exact m.ba,by rw[ZP (YN a)];exact m.st,m.lb,m.ls,m.os⟩
theorem uf {d c:Web}(j:d.Ok n)(o:c.Ok n)(f:cW d)(S2:cW c)(u:BO d c n){a b:List Int}(g:c5 d n a)(l:c5 c n b)(le:LeS a b)(n30:n<=30){m:Nat}(hm:m<=1000){x y:Nat}
  (r:h[x]? = some (.lst ((aX d n a m).map aq))) (q:h[y]? = some (.lst ((aX c n b m).map aq))):dE [.ref x,.ref y] h=.ok (.bl true) h:=by
 refine yk hm n30 (fN m) (fN m) (λs e => ?_) (λs e => ?_) (λi v w => ?_) r q
 ·obtain⟨k,_,rfl⟩:=List.mem_map.mp e
  exact(bh j f g k).len
 ·obtain⟨k,_,rfl⟩:=List.mem_map.mp e
  exact(bh o S2 l k).len
 ·have t:(aX d n a m)[i] = aG d n a i:=by simp[aX]
  have p:(aX c n b m)[i] = aG c n b i:=by simp[aX]
  rw[t,p];exact wn j o f S2 u g l le i
structure Low (n:Nat) (M:Nat->Nat->Int) (T:List Tie) (bs:List Int) (ss:List (Option Int)) (bk sk dk:Nat) (s:List Int) (m k:Nat) (q:Nat) (h:Hd):Prop where
 md:Md 0 n M bs ss bk sk h
 ex:∃bs2:List Int,bs2.length=n/\(∀j,k<=j->bs2.getD j 0=bs.getD j 0)/\h[dk]? = some (.ob [(aS n T bs2 ss).enc])/\h[q]? = some (.lst ((aX (aS n T bs2 ss) n s m).map aq))
theorem Iw (L:LP n M n 0 T)(bb:∀b∈bs,-20000<=b/\b<=20000)(nd:n < dk)(nb:bk≠dk)(nk:sk≠dk)(Y:Hw n ss s){t k q:Nat}(Q:k < n)(ht:t<=300){S0:D}(hc:∀g,bq [S0,.int ((5 + k:Nat):Int)] g=.ok (.int v) g)(N:Low n M T bs ss bk sk dk s (t + 4) k q h)(x1 u w r x5 a b:Option D) :
  ∃q' h' a' b',BV [some S0,some (tdO 0 n bk sk),x1,some (.ref dk),u,some (aq s),w,r,some (.int t),some (.ref q),some (.int (k:Int)),a,b] h=.nx [some S0,some (tdO 0 n bk sk),x1,some (.ref dk),u,some (aq s),w,r,some (.int t),some (.ref q'),some (.int (k:Int)),a',b'] h'/\Low n M T bs ss bk sk dk s (t + 4) (k + 1) q' h':=by
 obtain⟨m,l,E,G,hd,R⟩:=N;have A:=m.n30;obtain⟨d,hl⟩ : ∃d,d=bs.getD k 0 - 1 - v % 500:=⟨_,rfl⟩;have kb:bs.getD k 0∈bs:=by
  have:k < bs.length:=by rw[m.lb];exact Q
  rw[ZF,ZE this];exact YC this
 have b1:=bb _ kb;have v0:0<=v % 500/\v % 500 < 500:=⟨WA _ (by decide),XW _ (by decide)⟩;have J:d.natAbs < 10 ^ 60:=ZS (show d.natAbs<=30000 by omega) (by decide);obtain⟨z,K⟩ : ∃z:D,z=tdO 0 n bk sk:=⟨_,rfl⟩;have W2:=jL (bs:=l) A L.ok E m.ls;obtain⟨f,I⟩ : ∃f,f=l.set k d:=⟨_,rfl⟩;have P:f.length=n:=by rw[I,List.length_set];exact E
 have W:=jL (bs:=f) A L.ok P m.ls;have S2:cW (aS n T l ss):=m.os;have S3:cW (aS n T f ss):=m.os;have F2:=Y.fits T l;have Z:=Y.fits T f;have V:∀j,f.getD j 0=if j=k then d else l.getD j 0:=λj=>by
  rw[I,ZF]
  by_cases c:j=k
  ·subst c;rw[List.getElem?_set_self (by rw[E];exact Q),z4 rfl];rfl
  ·rw[ZP (YN c),z5 c];rfl
 have Mo:BO (aS n T l ss) (aS n T f ss) n:=wH L.ok m.os λp _=>by
  rw[V]
  by_cases c:p=k
  ·rw[z4 c,c,G k (ZL _)];omega
  ·rw[z5 c];exact Y2 _
 have H:=Kr (h:=h) (dk:=dk) m.n1 A L.ok E m.ls m.os Q J hd;rw[<-I]at H;obtain⟨o,C⟩ : ∃o:Hd,o=h.set dk (.ob [(aS n T f ss).enc]):=⟨_,rfl⟩;rw[<-C]at H;have dl:dk < h.length:=(List.getElem?_eq_some_iff.mp hd).1;have m1:Md 0 n M bs ss bk sk o:=by rw[C];exact m.ob nd nb nk _
 have X:o[dk]? = some (.ob [(aS n T f ss).enc]):=by rw[C];exact List.getElem?_set_self dl
 have qd:q≠dk:=λe=>by rw[e,hd]at R;cases R
 have q1:o[q]? = some (.lst ((aX (aS n T l ss) n s (t + 4)).map aq)):=by rw[C,ZP (YN qd)];exact R
 have O:=Ct (h:=o) (dk:=dk) W S3 Z A X (m:=t + 3) (by omega);obtain⟨F,B⟩ : ∃F:Hd,F=o++[.lst ((aX (aS n T f ss) n s (t + 3 + 1)).map aq)]:=⟨_,rfl⟩;rw[<-B]at O;have q2:F[q]? = some (.lst ((aX (aS n T l ss) n s (t + 4)).map aq)):=by rw[B];exact bn _ q1
 have r2:F[o.length]? = some (.lst ((aX (aS n T f ss) n s (t + 4)).map aq)):=by rw[B];simp
 have S:=uf W2 W S2 S3 Mo F2 Z (λi=>Y2 _) A (m:=t + 4) (by omega) q2 r2;have m2:Md 0 n M bs ss bk sk F:=by rw[B];exact m1.more _
 rw[<-K];have s1:aH (gN 11) (af fU (af fU (fAt (fAt (aa 1) (fC (.int 1))) (aa 10)) (fC (.int 1))) (af dh (am bq (ab (aa 0) (ab (af bP (fC (.int 5)) (aa 10)) ao))) (fC (.int 500)))) [some S0,some z,x1,some (.ref dk),u,some (aq s),w,r,some (.int t),some (.ref q),some (.int (k:Int)),a,b] h=.nx [some S0,some z,x1,some (.ref dk),u,some (aq s),w,r,some (.int t),some (.ref q),some (.int (k:Int)),some (.int d),b] h:=by
  rw[hl];exact aF (ah (ah (aL (aL rfl rfl (by rw[K];rfl) rfl) rfl (aE m.ba) (fZ (by rw[m.lb];exact Q))) rfl rfl) (ah (aw (bU rfl (ah rfl rfl rfl)) (hc h)) rfl (ef (by decide))) rfl)
 have kt:=dF _ (n60 (show k<=30 by omega));have lt:=dF _ J;have U:af dj (af dj (af dj (fC (.str [98,97,114,32])) (fw (aa 10))) (fC (.str [32]))) (fw (aa 11)) [some S0,some z,x1,some (.ref dk),u,some (aq s),w,r,some (.int t),some (.ref q),some (.int (k:Int)),some (.int d),b] h=.ok (.str (Nj k d)) h:=by
  have:=gH (x:=[98,97,114,32]++tx (k:Int)++[32]) (y:=tx d) (gH (x:=[98,97,114,32]++tx (k:Int)) (y:=[32]) (gH (x:=[98,97,114,32]) (y:=tx (k:Int)) (a:=fC (.str [98,97,114,32])) (b:=fw (aa 10)) (σ:=[some S0,some z,x1,some (.ref dk),u,some (aq s),w,r,some (.int t),some (.ref q),some (.int (k:Int)),some (.int d),b]) (h:=h) rfl (jA rfl (n60 (by omega))) (by simp only[y4,Z0];omega)) (b:=fC (.str [32])) rfl (by simp only[ZB,y4,Z0];omega)) (b:=fw (aa 11)) (jA rfl J) (by simp only[ZB,y4,Z0];omega);rw[this];simp[Nj,bD]
 have s2:sIf (tE (af oNe (j3 cu (aa 3) (ab (af dj (af dj (af dj (fC (.str [98,97,114,32])) (fw (aa 10))) (fC (.str [32]))) (fw (aa 11))) ao)) (fC (.str [111,107])))) (aW (fC (.bl false))) bc [some S0,some z,x1,some (.ref dk),u,some (aq s),w,r,some (.int t),some (.ref q),some (.int (k:Int)),some (.int d),b] h=.nx [some S0,some z,x1,some (.ref dk),u,some (aq s),w,r,some (.int t),some (.ref q),some (.int (k:Int)),some (.int d),b] o :=
  (cn (aT (ah (yj rfl hd (ar U rfl) H) rfl rfl))).trans rfl
 have s3:aH (gN 12) (am kn (ab (aa 3) (ab (aa 5) (ab (af bP (aa 8) (fC (.int 3))) ao)))) [some S0,some z,x1,some (.ref dk),u,some (aq s),w,r,some (.int t),some (.ref q),some (.int (k:Int)),some (.int d),b] o=.nx [some S0,some z,x1,some (.ref dk),u,some (aq s),w,r,some (.int t),some (.ref q),some (.int (k:Int)),some (.int d),some (.ref o.length)] F :=
  aF (aw (ar rfl (bU rfl (ah rfl rfl rfl))) O)
 have s4:sIf (cX (tE (am dE (ab (aa 9) (ab (aa 12) ao))))) (aW (fC (.bl false))) bc [some S0,some z,x1,some (.ref dk),u,some (aq s),w,r,some (.int t),some (.ref q),some (.int (k:Int)),some (.int d),some (.ref o.length)] F=.nx [some S0,some z,x1,some (.ref dk),u,some (aq s),w,r,some (.int t),some (.ref q),some (.int (k:Int)),some (.int d),some (.ref o.length)] F :=
  (cn (bX (b:=true) (aT (aw (bU rfl rfl) S)))).trans rfl
 refine⟨o.length,F,some (.int d),some (.ref o.length),sx s1 (sx s2 (sx s3 (sx s4 (aF rfl)))),m2,f,P,λj hj => ?_,by rw[B];exact bn _ X,r2⟩;rw[V,z5 (by omega)];exact G j (by omega)
end
section
variable {Z n:Nat} {M:Nat->Nat->Int} {bs:List Int} {ss:List (Option Int)} {bk sk:Nat} {h:Hd}
theorem Ix {f:Int->Int}{E:EF}{l:List Int}{k:Nat}(b:h[k]? = some (.lst (l.map .int)))(j:∀x:Int,E [some (.int x)] h=.ok (.int (f x)) h)(c:Option D):cI (some k) (l.map .int) (gN 0) [] E (l.map .int) [c] h=.ok ((l.map f).map .int) h:=by
 have:=bA (g:=some k) (all:=l.map .int) (tg:=gN 0) (cs:=[]) (e:=E) (h:=h) (I:=λσ=>∃c,σ = [c]) (λ_=>true) (λd=>match d with | .int i=>.int (f i)|_=>.non) b
  (xs:=l.map .int) (σ:=[c]) (by
   rintro x a σ ⟨d,rfl⟩;obtain⟨u,m,rfl⟩:=List.mem_map.mp a;exact⟨_,rfl,⟨_,rfl⟩,rfl,λ_=>j u⟩) ⟨_,rfl⟩
 rw[this,List.filter_eq_self.mpr (by simp),Z7,Z7];rfl
theorem Ao (m:Md Z n M bs ss bk sk h){f:Int->Int}{E:EF}{l:List Int}(j:l.length=n)(t:∀x,f x=0\/f x=1){k:Nat}(e:h[k]? = some (.lst (l.map .int)))(q:∀(x:Int) (h:Hd),E [some (.int x)] h=.ok (.int (f x)) h){d:D}(a:d=.tup [.ref (Z + n),.ref bk,.ref sk])(r : σ[1]? = some (some d))(u : σ[4]? = some (some (.ref k))) :
  am eT (ab (aa 1) (ab (bG (bM 1 [] (eI (aa 4)) (gN 0) [] E)) ao)) σ h=.ok (aq (jB ss (l.map f))) (h++[.lst ((l.map f).map .int)])/\Hw n ss (jB ss (l.map f)):=by
 have s:=m.n30;have c:=Ix e (λx=>q x h) none;have w:l.length<=1000000:=by omega
 have g:=Co (m.more [.lst ((l.map f).map .int)]) (l:=l.map f) (by simp[j]) (k:=h.length) (by simp);rw[<-a]at g;refine⟨?_,Ir m.ls m.os (by simp[j]) λi => ?_⟩
 ·have p:bG (bM 1 [] (eI (aa 4)) (gN 0) [] E) σ h=.ok (.ref h.length) (h++[.lst ((l.map f).map .int)]):=by
   have b:((l.map f).map D.int).length<=1000000:=by simp;omega
   have o:aa 4 σ h=.ok (.ref k) h:=by simp only[aa,slot,u]
   exact cL (cG (fY o e) c) b
  have v:aa 1 σ h=.ok d h:=by simp only[aa,slot,r]
  exact aw (ar v (ar p rfl)) g
 ·by_cases hi:i < l.length
  ·simp[List.getD,hi,t]
  ·left;simp[List.getD,List.getElem?_eq_none (show l.length<=i by omega)]
end
theorem Nt (ns:List Int)(b9:ns.length<=63):∃h,zQ [.lit (ns.map .int)] []=.ok (.bl true) h:=by
 obtain⟨n,M,bs,ss,bk,sk,h,P⟩:=Ip ns (mo:=8) (by decide) (by decide);have y:=P.n30;have n8:n<=8:=by have:=P.nmo;omega
 have m:Md 0 n M bs ss bk sk h:=⟨P.n1,P.n30,P.mt,P.mo,P.ba,P.st,P.lb,P.ls,P.os⟩;have bl:bk < h.length:=(List.getElem?_eq_some_iff.mp P.ba).1;have kl:sk < h.length:=(List.getElem?_eq_some_iff.mp P.st).1;have nl:n < h.length:=Z6 P.bkn bl;obtain⟨T,L⟩:=Lg P.mo y n (ZL _);have bb:∀b∈bs,b.natAbs < 10 ^ 60:=λb hb=>ZS (show b.natAbs<=20000 by have:=P.bb b hb;omega) (by decide);obtain⟨s,z⟩ : ∃s:D,s=tdO 0 n bk sk:=⟨_,rfl⟩;obtain⟨j,K⟩ : ∃j:D,j=.lit (ns.map .int):=⟨_,rfl⟩;have W:=jL (bs:=bs) (ss:=ss) y L.ok P.lb P.ls;have S:cW (aS n T bs ss):=P.os;have MM:BO (aS n T bs ss) (aS n T bs ss) n:=wH L.ok P.os λ_ _=>Y2 _;have G:Go (aS n T bs ss) n:=⟨W,n8,S,MM,D6 L.ok bs ss⟩;have e0:HA [some (j),none,none,none,none,none,none,none,none,none,none,none,none] []=.nx [some (j),some (s),none,none,none,none,none,none,none,none,none,none,none] h:=by
  have r:=P.run;rw[<-K]at r;rw[z];exact aF (aw (bU rfl rfl) r)
 have e1:HB [some (j),some (s),none,none,none,none,none,none,none,none,none,none,none] h=.nx [some (j),some (s),some (.int n),none,none,none,none,none,none,none,none,none,none] h:=by
  rw[z];exact(aF (cZ (cz (aL rfl rfl rfl rfl) (aE m.ba)))).trans (by rw[ZA,m.lb];rfl)
 obtain⟨o,a1⟩ : ∃o:Hd,o=h++[.ob [(aS n T bs ss).enc]]:=⟨_,rfl⟩;have e2:HC [some (j),some (s),some (.int n),none,none,none,none,none,none,none,none,none,none] h=.nx [some (j),some (s),some (.int n),some (.ref h.length),none,none,none,none,none,none,none,none,none] o:=by
  rw[a1];exact aF (KD m bb L (by rw[z];rfl))
 have d1:o[h.length]? = some (.ob [(aS n T bs ss).enc]):=by rw[a1];simp
 have m1:Md 0 n M bs ss bk sk o:=by rw[a1];exact m.more _
 obtain⟨b0,I⟩:=uc ns 0 (by decide);obtain⟨c4,a0⟩:=uc ns 4 (by decide);have I:∀h,bq [j,.int 0] h=.ok (.int b0) h:=by rw[K];exact I
 have a0:∀h,bq [j,.int 4] h=.ok (.int c4) h:=by rw[K];exact a0
 obtain⟨l,q4,ll,lb⟩:=Ks c4 b0 3 n (ZM y (by decide)) (by decide) (by decide) o;obtain⟨Y,U⟩ : ∃Y:Hd,Y=o++[.lst (l.map .int)]:=⟨_,rfl⟩;rw[<-U]at q4;have e3:HD [some (j),some (s),some (.int n),some (.ref h.length),none,none,none,none,none,none,none,none,none] o=.nx [some (j),some (s),some (.int n),some (.ref h.length),some (.ref o.length),none,none,none,none,none,none,none,none] Y:=aF (aw (ar (aw (bU rfl rfl) (a0 o)) (ar (aw (bU rfl rfl) (I o)) (bU rfl rfl))) q4);have m2:Md 0 n M bs ss bk sk Y:=by rw[U];exact m1.more _
 have g2:Y[o.length]? = some (.lst (l.map .int)):=by rw[U];simp
 have d2:Y[h.length]? = some (.ob [(aS n T bs ss).enc]):=by rw[U];exact bn _ d1
 have b7:∀(v x:Int) (h:Hd),wY (af oEq (aa 0) (fC (.int v))) [some (.int x)] h=.ok (.int (if x=v then 1 else 0)) h:=λv x h=>by
  by_cases e:x=v
  ·rw[z4 e];exact nv (b:=true) (ah rfl rfl (nu e))
  ·rw[z5 e];exact nv (b:=false) (ah rfl rfl (lG e))
 have b5:∀(x:Int) (h:Hd),wY (af oGt (aa 0) (fC (.int 0))) [some (.int x)] h=.ok (.int (if 0 < x then 1 else 0)) h:=λx h=>by
  by_cases e:0 < x
  ·rw[z4 e];exact nv (b:=true) (ah rfl rfl (BD e))
  ·rw[z5 e];exact nv (b:=false) (ah rfl rfl (ny e))
 obtain⟨d5,F5⟩:=Ao m2 ll (f:=λx=>if x=2 then 1 else 0) (λx=>by split<;>simp) g2 (b7 2) z (σ:=[some (j),some (s),some (.int n),some (.ref h.length),some (.ref o.length),none,none,none,none,none,none,none,none]) rfl rfl;obtain⟨one,N⟩ : ∃one,one=jB ss (l.map λx=>if x=2 then 1 else 0):=⟨_,rfl⟩;obtain⟨X,Q⟩ : ∃X:Hd,X=Y++[ca.lst ((l.map λx=>if x=2 then (1:Int) else 0).map .int)]:=⟨_,rfl⟩;rw[<-N,<-Q]at d5;rw[<-N]at F5;have e4:HE [some (j),some (s),some (.int n),some (.ref h.length),some (.ref o.length),none,none,none,none,none,none,none,none] Y=.nx [some (j),some (s),some (.int n),some (.ref h.length),some (.ref o.length),some (aq one),none,none,none,none,none,none,none] X:=aF d5;have m3:Md 0 n M bs ss bk sk X:=by rw[Q];exact m2.more _
 have g3:X[o.length]? = some (.lst (l.map .int)):=by rw[Q];exact bn _ g2
 have d3:X[h.length]? = some (.ob [(aS n T bs ss).enc]):=by rw[Q];exact bn _ d2
 obtain⟨d6,F6⟩:=Ao m3 ll (f:=λx=>if 0 < x then 1 else 0) (λx=>by split<;>simp) g3 b5 z (σ:=[some (j),some (s),some (.int n),some (.ref h.length),some (.ref o.length),some (aq one),none,none,none,none,none,none,none]) rfl rfl;obtain⟨d,H⟩ : ∃d,d=jB ss (l.map λx=>if 0 < x then 1 else 0):=⟨_,rfl⟩;obtain⟨u,a3⟩ : ∃u:Hd,u=X++[ca.lst ((l.map λx=>if 0 < x then (1:Int) else 0).map .int)]:=⟨_,rfl⟩;rw[<-H,<-a3]at d6;rw[<-H]at F6;have e5:HF [some (j),some (s),some (.int n),some (.ref h.length),some (.ref o.length),some (aq one),none,none,none,none,none,none,none] X=.nx [some (j),some (s),some (.int n),some (.ref h.length),some (.ref o.length),some (aq one),some (aq d),none,none,none,none,none,none] u:=aF d6;have m4:Md 0 n M bs ss bk sk u:=by rw[a3];exact m3.more _
 have d4:u[h.length]? = some (.ob [(aS n T bs ss).enc]):=by rw[a3];exact bn _ d3
 have Z:=F5.fits T bs;have Ft:=F6.fits T bs;have a7:LeS one d:=by
  rw[N,H];refine Kv (n:=n) (by simp[ll]) (by simp[ll]) λi => ?_
  by_cases hi:i < l.length
  ·have b:=lb _ (YC hi)
   simp only[List.getD,ZQ,ZE hi,YU,Option.getD_some];split<;>split<;>omega
  ·simp[List.getD,List.getElem?_eq_none (show l.length<=i by omega)]
 obtain⟨t,E⟩:=G.fin Z;have ht:=E.hz;have ol:one.length<=30:=by rw[F5.len];exact y
 have b3:=Kn W S Z y E.ht E.hm ht d4;obtain⟨w,V⟩ : ∃w:Hd,w=u++[.lst ((jQ (aS n T bs ss) n one t).map .str)]:=⟨_,rfl⟩;have sl:∀k,(sg (aG (aS n T bs ss) n one k)).length<=30:=λk=>by rw[kK,(bh W S Z k).len];exact y
 have a5:dm 32 (bD [32] (jQ (aS n T bs ss) n one t))=jQ (aS n T bs ss) n one t:=by
  unfold jQ;split
  ·exact qb (by decide) λx A=>by
    simp only[Y6,YO,or_false]at A;rcases A with e|e
    ·rw[e];exact mG (by decide) (by decide)
    ·rw[e];exact oZ
  ·exact qb (by decide) λx A=>by
    simp only[Y6,YO,or_false]at A;rcases A with e|e|e
    ·rw[e];exact mG (by decide) (by decide)
    ·rw[e];exact oZ
    ·rw[e];exact oZ
 have tl:=dF _ (t60 ht);have x1:=sl t;have x2:=sl (t + 1);have jl:(bD [32] (jQ (aS n T bs ss) n one t)).length<=1000000/\(jQ (aS n T bs ss) n one t).length<=4:=by
  unfold jQ;split
  ·exact⟨yi (by decide) (λx A=>by
    simp only[Y6,YO,or_false]at A;rcases A with e|e<;>rw[e]<;>omega) (by show 2<=10;decide),by show 3<=4;decide⟩
  ·exact⟨yi (by decide) (λx A=>by
    simp only[Y6,YO,or_false]at A;rcases A with e|e|e<;>rw[e]<;>omega) (by show 3<=10;decide),by show 4<=4;decide⟩
 have e6:HG [some (j),some (s),some (.int n),some (.ref h.length),some (.ref o.length),some (aq one),some (aq d),none,none,none,none,none,none] u=.nx [some (j),some (s),some (.int n),some (.ref h.length),some (.ref o.length),some (aq one),some (aq d),some (.ref u.length),none,none,none,none,none] w:=by
  have r:af dj (fC (.str [101,110,100,101,100,32])) (am dR (ab (aa 5) ao)) [some (j),some (s),some (.int n),some (.ref h.length),some (.ref o.length),some (aq one),some (aq d),none,none,none,none,none,none] u=.ok (.str (OM one)) u:=gH rfl (aw (ar rfl rfl) (Ah Z.op ol u)) (by show 6 + (sg one).length<=1000000;rw[kK];omega);have:=cL (oX (c:=32) (yj (F:=cu) (x:=aa 3) (r:=ab (af dj (fC (.str [101,110,100,101,100,32])) (am dR (ab (aa 5) ao))) ao) (σ:=[some (j),some (s),some (.int n),some (.ref h.length),some (.ref o.length),some (aq one),some (aq d),none,none,none,none,none,none]) (h:=u) rfl d4 (ar r rfl) b3) jl.1) (by rw[a5,ZA];exact ZM jl.2 (by decide));rw[a5,<-V]at this;exact aF this
 have g5:w[u.length]? = some (.lst ((jQ (aS n T bs ss) n one t).map .str)):=by rw[V];simp
 have m5:Md 0 n M bs ss bk sk w:=by rw[V];exact m4.more _
 have a6:w[h.length]? = some (.ob [(aS n T bs ss).enc]):=by rw[V];exact bn _ d4
 have w1:atI ((jQ (aS n T bs ss) n one t).map D.str) 1=some (.str (tx (t:Int))):=by
  unfold jQ;split<;>rfl
 have e7:HH [some (j),some (s),some (.int n),some (.ref h.length),some (.ref o.length),some (aq one),some (aq d),some (.ref u.length),none,none,none,none,none] w=.nx [some (j),some (s),some (.int n),some (.ref h.length),some (.ref o.length),some (aq one),some (aq d),some (.ref u.length),some (.int t),none,none,none,none] w:=aF (mF (aL rfl rfl (aE g5) w1) (by omega) (kJ t));have e8:HI [some (j),some (s),some (.int n),some (.ref h.length),some (.ref o.length),some (aq one),some (aq d),some (.ref u.length),some (.int t),none,none,none,none] w=.nx [some (j),some (s),some (.int n),some (.ref h.length),some (.ref o.length),some (aq one),some (aq d),some (.ref u.length),some (.int t),none,none,none,none] w:=(cn (gj (aT (ah rfl rfl (MX (by omega)))) (aT (ah rfl rfl (ny (by omega)))))).trans rfl;have r9:=Ct (h:=w) W S Z y a6 (m:=t + 3) (by omega);obtain⟨B,C⟩ : ∃B:Hd,B=w++[.lst ((aX (aS n T bs ss) n one (t + 3 + 1)).map aq)]:=⟨_,rfl⟩;rw[<-C]at r9;have e9:HJ [some (j),some (s),some (.int n),some (.ref h.length),some (.ref o.length),some (aq one),some (aq d),some (.ref u.length),some (.int t),none,none,none,none] w=.nx [some (j),some (s),some (.int n),some (.ref h.length),some (.ref o.length),some (aq one),some (aq d),some (.ref u.length),some (.int t),some (.ref w.length),none,none,none] B:=aF (aw (ar rfl (bU rfl (ah rfl rfl rfl))) r9);have m6:Md 0 n M bs ss bk sk B:=by rw[C];exact m5.more _
 have g6:B[w.length]? = some (.lst ((aX (aS n T bs ss) n one (t + 4)).map aq)):=by rw[C];simp
 have k6:B[u.length]? = some (.lst ((jQ (aS n T bs ss) n one t).map .str)):=by rw[C];exact bn _ g5
 have a8:B[h.length]? = some (.ob [(aS n T bs ss).enc]):=by rw[C];exact bn _ a6
 have ie:=Fz W S Z y E.ht E.hm ht g6 k6;have fa:=Iv m6 L W S Z (m':=t + 4) (by omega) (by omega) g6;rw[<-z]at fa;have b4:DO [some (j),some (s),some (.int n),some (.ref h.length),some (.ref o.length),some (aq one),some (aq d),some (.ref u.length),some (.int t),some (.ref w.length),none,none,none] B=.nx [some (j),some (s),some (.int n),some (.ref h.length),some (.ref o.length),some (aq one),some (aq d),some (.ref u.length),some (.int t),some (.ref w.length),none,none,none] B:=(cn (gj (bX (b:=true) (aT (aw (bU rfl rfl) ie))) (bX (b:=true) (aT (aw (bU rfl rfl) fa))))).trans rfl;have a4:=Ct (h:=B) W S Ft y a8 (m:=t + 3) (by omega);obtain⟨O,J⟩ : ∃O:Hd,O=B++[.lst ((aX (aS n T bs ss) n d (t + 3 + 1)).map aq)]:=⟨_,rfl⟩;rw[<-J]at a4;have g7:O[w.length]? = some (.lst ((aX (aS n T bs ss) n one (t + 4)).map aq)):=by rw[J];exact bn _ g6
 have k7:O[B.length]? = some (.lst ((aX (aS n T bs ss) n d (t + 4)).map aq)):=by rw[J];simp
 have d7:O[h.length]? = some (.ob [(aS n T bs ss).enc]):=by rw[J];exact bn _ a8
 have m7:Md 0 n M bs ss bk sk O:=by rw[J];exact m6.more _
 have be:=uf W W S S MM Z Ft a7 y (m:=t + 4) (by omega) g7 k7;have b6:DP [some (j),some (s),some (.int n),some (.ref h.length),some (.ref o.length),some (aq one),some (aq d),some (.ref u.length),some (.int t),some (.ref w.length),none,none,none] B=.nx [some (j),some (s),some (.int n),some (.ref h.length),some (.ref o.length),some (aq one),some (aq d),some (.ref u.length),some (.int t),some (.ref w.length),none,none,none] O:=(cn (bX (b:=true) (aT (aw (bU rfl (aw (ar rfl (bU rfl (ah rfl rfl rfl))) a4)) be)))).trans rfl;obtain⟨R,hR,c0⟩ : ∃R:Nat,(if (n:Int) < 4 then (n:Int) else 4)=R/\R<=n:=by
  by_cases c:(n:Int) < 4
  ·exact⟨n,z4 c,ZL _⟩
  ·exact⟨4,z5 c,by omega⟩
 have rg:bH (Ey (fC (.int 4)) (aa 2)) [some (j),some (s),some (.int n),some (.ref h.length),some (.ref o.length),some (aq one),some (aq d),some (.ref u.length),some (.int t),some (.ref w.length),none,none,none] O=.ok ((List.range R).map (λk:Nat=>D.int k),none) O:=cV ((M4 rfl rfl).trans (by rw[hR])) (by omega);obtain⟨σ',h',k1,q',a',b',c',k2,k3⟩:=bZ (g:=none) (all:=(List.range R).map λk:Nat=>D.int k) (tg:=gN 10) (b:=BV) (P:=λk σ h'=>∃q a b c,σ = [some j,some s,some (.int n),some (.ref h.length),some (.ref o.length),some (aq one),some (aq d),some (.ref u.length),some (.int t),some (.ref q),a,b,c]/\Low n M T bs ss bk sk h.length one (t + 4) k q h') (λ_ _ _ _=>trivial)
  (xs:=(List.range R).map λk:Nat=>D.int k) (k:=0) (σ:=[some (j),some (s),some (.int n),some (.ref h.length),some (.ref o.length),some (aq one),some (aq d),some (.ref u.length),some (.int t),some (.ref w.length),none,none,none]) (h:=O) (λk x σ g A p=>by
   obtain⟨q,a,b,c,rfl,Lo⟩:=p;rw[Z1]at Lo ⊢;have hk:k < R:=by
    have:=(List.getElem?_eq_some_iff.mp A).1;simpa using this
   have ex:x=.int ((k:Nat):Int):=by
    rw[ZQ,List.getElem?_range hk]at A;exact(ZT A).symm
   subst ex;obtain⟨v,hv⟩:=uc ns (5 + k) (by omega);have hv:∀g,bq [j,.int ((5 + k:Nat):Int)] g=.ok (.int v) g:=by rw[K];exact hv
   obtain⟨q2,b8,a2,b2,st,b1⟩:=Iw L P.bb nl (ZN bl) (ZN kl) F5 (show k < n by omega) ht hv Lo (some (.int n)) (some (.ref o.length)) (some (aq d)) (some (.ref u.length)) none b c;rw[<-z]at st;exact⟨_,rfl,_,_,st,q2,_,_,_,rfl,b1⟩) ⟨_,_,_,_,rfl,m7,bs,P.lb,λ_ _=>rfl,d7,g7⟩
 have a9:=eE rg k1;rw[k2]at a9;have fin:=bJ (np:=1) (n:=13) (ds:=[j]) rfl rfl (sx e0 (sx e1 (sx e2 (sx e3 (sx e4 (sx e5 (sx e6 (sx e7 (sx e8 (sx e9 (sx b4 (sx b6 (sx a9 (aV (rfl:fC (.bl true) _ h'=.ok (.bl true) h')))))))))))))));rw[K]at fin;rw[show zQ [.lit (ns.map .int)] [] = _ from fin];unfold letGo;simp only;split
 ·exact⟨_,rfl⟩
 ·exact⟨_,rfl⟩
end Fm
def PySem.W.Fast.tw90343872475197607 : Type := PySem.Params
theorem PySem.W.Fast.te90343872475197607 : PySem.Params = PySem.W.Fast.tw90343872475197607 := rfl
def PySem.W.Fast.tw427314897349506557 : Nat := 0
def PySem.W.Fast.tw16340775708451201711 : PySem.Program := PySem.Challenge.pw_followmost_k55_whole_histories_at_a_desk
theorem PySem.W.Fast.te16340775708451201711 : PySem.Challenge.pw_followmost_k55_whole_histories_at_a_desk = PySem.W.Fast.tw16340775708451201711 := rfl
open PySem PySem.W PyProof.Rows
set_option maxRecDepth 100000 in
set_option maxHeartbeats 0 in
theorem PySem.Challenge.cw_followmost_k55_whole_histories_at_a_desk_holds : PySem.Challenge.rw_followmost_k55_whole_histories_at_a_desk.Holds := by
 w_on;o_law;k_head;(case hw=>w_witness2)
 k_fill
 refine Fm.Oo (l := PySem.Challenge.rw_followmost_k55_whole_histories_at_a_desk) (F := Fm.zQ) (k := 11) (x := "_law_script") rfl rfl ⟨rfl, by decide, by decide, rfl⟩ (fun w h Y => PySem.W.kIn_of Y) ?F Fm.Nt
 case F =>
  intro w mg fa h KX G hmg
  refine' Fm.M8 KX G hmg ?_ ?_ ?_ ?_ ?_ ?_ ?_ ?_ ?_ ?_ ?_ ?_ ?_ ?_ ?_ ?_ ?_ ?_ ?_ ?_ ?_ ?_ ?_ ?_ ?_ ?_ ?_ ?_ ?_ ?_ ?_ ?_ ?_ ?_ ?_ ?_ ?_ ?_ ?_ ?_ ?_ ?_ ?_ ?_ ?_ ?_ ?_ ?_ ?_ ?_ ?_ ?_ ?_ ?_ ?_ ?_ ?_ ?_ ?_ ?_ ?_ ?_ ?_ ?_ ?_ ?_ ?_ ?_ ?_ ?_ ?_ ?_ ?_ ?_ ?_ ?_ ?_ ?_ ?_ ?_ ?_ ?_ ?_ ?_ ?_ ?_ ?_ ?_ ?_ ?_ ?_ ?_ ?_ ?_ ?_ ?_ ?_ ?_ ?_ ?_
  all_goals first|refine' Fm.At.i ?_ ?_ ?_ ?_|unfold Fm.Nb|skip
  all_goals try first|k_is|k_exc|kit_is
  all_goals first|(unfold Fm.sU;kernel_rfl)|(unfold Fm.xu;kernel_rfl)
